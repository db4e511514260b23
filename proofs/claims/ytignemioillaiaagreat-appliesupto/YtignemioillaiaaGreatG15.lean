/- shard.handOver, whole. -/
import Derived.Test.YtignemioillaiaaGreatG14
namespace Go.Proofs.YtignemioillaiaaGreat
set_option maxHeartbeats 8000000
set_option maxRecDepth 100000
section
open Go.RowKit Go.Lib
structure Hand (w w':World) (base b gO j:Nat) (g n bz ag au:Int) (vM vO vI Xj dN eY:Value) (rs ds qs:Sl) (T:List Row) (D:List ak) (L:List ax) (lq:List aF):Prop where
 cell:w'.heap[b]? = some (.cells (rW g n dN vM eY vO vI).toArray 31)
 oT:w'.ownsRow w.heap.size 128 2 dN (sB (fun x:Row=>x.key) ag T++sA (fun x:Row=>x.key) ag au T).length ((sB (fun x:Row=>x.key) ag T++sA (fun x:Row=>x.key) ag au T).map Row.cells).flatten
 oD:w'.ownsRow w.heap.size 57 7 eY (sB (fun x:ak=>x.key) ag D++sA (fun x:ak=>x.key) ag au D).length ((sB (fun x:ak=>x.key) ag D++sA (fun x:ak=>x.key) ag au D).map ak.cells).flatten
 oR:w'.ownsRow w.heap.size 128 2 rs.val (sW (fun x:Row=>x.key) ag au T).length ((sW (fun x:Row=>x.key) ag au T).map Row.cells).flatten
 oS:w'.ownsRow w.heap.size 57 7 ds.val (sW (fun x:ak=>x.key) ag au D).length ((sW (fun x:ak=>x.key) ag au D).map ak.cells).flatten
 aT:gV dN rs.val
 aD:gV eY ds.val
 oQ:w'.ownsRow base 52 7 qs.val (lq.length+1) ((lq++[aF.mk g j bz ag au rs ds (sW (fun x:Row=>x.key) ag au T) (sW (fun x:ak=>x.key) ag au D)]).map aF.cells).flatten
 fQ:qs.val.ownBlock=Xj.ownBlock∨∀ k,qs.val.ownBlock=some k→w.heap.size≤k
 oO:w'.ownsRow base 103 2 vO L.length ((L.set j ⟨IntKind.u32.wrap (bz+1),qs,lq++[aF.mk g j bz ag au rs ds (sW (fun x:Row=>x.key) ag au T) (sW (fun x:ak=>x.key) ag au D)]⟩).map ax.cells).flatten
 dX:av (fun k=>k=b∨k=gO∨Xj.ownBlock=some k) w w'
theorem SN (w:World) (base b gO cap j:Nat) (g n:Int) (vT vM vD vI:Value) (T:List Row) (D:List ak) (L:List ax) (bz:Int) (eG:Option Addr) (eP eQ:Nat) (lq:List aF) (qc qs qk ag qv au aA:Int)
 (hc:w.heap[b]? = some (.cells #[.int .u8 g,.int .u8 n,vT,vM,vD,.slice (some ⟨gO,0,none⟩) L.length cap,vI] 31))
 (hT:w.ownsRow base 128 2 vT T.length (T.map Row.cells).flatten) (hD:w.ownsRow base 57 7 vD D.length (D.map ak.cells).flatten)
 (hO:w.ownsRow base 103 2 (.slice (some ⟨gO,0,none⟩) L.length cap) L.length (L.map ax.cells).flatten)
 (hl:L[j]? = some ⟨bz,⟨eG,eP,eQ⟩,lq⟩) (hq:w.ownsRow base 52 7 (.slice eG eP eQ) lq.length (lq.map aF.cells).flatten) (hto:aA=(j:Int))
 (hb:base≤w.heap.size) (GG:T.length<1000000) (hnD:D.length<1000000) (hnq:lq.length<1000000) :
 Calls Tryz.prog 180 #[.pointer (some ⟨b,0,none⟩),.agg (rQ qc qs qk ag qv au aA).toArray] w fun e w'=>e=.returned (.tuple #[])∧∃ (dN eY:Value) (rs ds qs:Sl),Hand w w' base b gO j g n bz ag au vM (.slice (some ⟨gO,0,none⟩) L.length cap) vI (.slice eG eP eQ) dN eY rs ds qs T D L lq:=by
 subst hto;obtain ⟨W,hW⟩:∃ W,W=w.alloc (.cells (rQ qc qs qk ag qv au j).toArray 50):=⟨_,rfl⟩;have fP:W.heap[w.heap.size]? = some (.cells (rQ qc qs qk ag qv au j).toArray 50):=by rw [hW];exact heap_alloc_new w _
 have bE:Below w.heap.size w W:=by rw [hW];exact aj w _
 have hjl:j<L.length:=(mV hl);have HC:Hid (W.heap[b]? = some (.cells #[.int .u8 g,.int .u8 n,vT,vM,vD,.slice (some ⟨gO,0,none⟩) L.length cap,vI] 31)):=af bE hc;have hc0:W.cell? ⟨b,0,none⟩=some (.int .u8 g):=ah HC.out 0;have r9:W.cell? ⟨b,5,none⟩=some (.slice (some ⟨gO,0,none⟩) L.length cap):=ah HC.out 5;have Nk:W.cell? ⟨w.heap.size,6,none⟩=some (.int .u8 j):=ah fP 6;have hq3:W.cell? ⟨w.heap.size,3,none⟩=some (.int .u64 ag):=ah fP 3;have hq5:W.cell? ⟨w.heap.size,5,none⟩=some (.int .u64 au):=ah fP 5;obtain ⟨g',cap',cur,hv,hbg,hg,hnl,hcl,hnc,hcm,htk,_,hput⟩:=kS (ay hO bE) (by omega);simp only [Value.slice.injEq,Option.some.injEq,Addr.mk.injEq] at hv;obtain ⟨⟨rfl,_⟩,_,rfl⟩:=hv;have HG:Hid (W.heap[gO]? = some (.cells cur.toArray 103)):=hg;have ho0:W.cell? ⟨gO,j*2,none⟩=some (.int .u32 bz):=by rw [ah hg];simpa using qM zu (j:=0) hl rfl htk rfl
 have ho1:W.cell? ⟨gO,j*2+1,none⟩=some (.slice eG eP eQ):=by rw [ah hg];simpa [Sl.val] using qM zu (j:=1) hl rfl htk rfl
 have alN:cap≤9223372036854775807:=by unfold maxLen at hcm;omega
 have hi1:(0:Int)≤(j:Int):=by omega
 have hi2:(j:Int)<(L.length:Int):=by omega
 have HT:=ae (ay hT bE);have HD:=ae (ay hD bE);have HQ:=ae (ay hq bE);have Bo:=ae htk;have Sv:=ae hput;have HLA:=ae hl;have dQ:=ae bE;have nX:=ae fP;clear hc hT hD hO hq hl hg htk hput bE fP;go_enter Tryz.func180,Tryz.ntmps180
 go_wp2_with fail
 rw [← hW];clear hW;go_quiet (fail)
 have HB1:Hid (Below W.heap.size W (W.drewN nq)):=below_drewN (Below.refl _ _) _;generalize W.drewN nq=W1 at HB1;have ahw:w.heap.size<W1.heap.size:=Nat.lt_of_lt_of_le (df nX.out) HB1.out.size;have hlt1:b<W1.heap.size:=Nat.lt_of_lt_of_le (df HC.out) HB1.out.size;have hlt2:gO<W1.heap.size:=Nat.lt_of_lt_of_le (df HG.out) HB1.out.size;replace hc0:W1.cell? ⟨b,0,none⟩=some (.int .u8 g):=ah (af HB1.out HC.out) 0;replace Nk:W1.cell? ⟨w.heap.size,6,none⟩=some (.int .u8 j):=ah (af HB1.out nX.out) 6;replace hq3:W1.cell? ⟨w.heap.size,3,none⟩=some (.int .u64 ag):=ah (af HB1.out nX.out) 3;replace hq5:W1.cell? ⟨w.heap.size,5,none⟩=some (.int .u64 au):=ah (af HB1.out nX.out) 5;replace ho0:W1.cell? ⟨gO,j*2,none⟩=some (.int .u32 bz):=(HB1.out.cell (p:=⟨gO,j*2,none⟩) (df HG.out)).trans ho0;clear r9;go_wp2_with fail
 go_region
 have HB2:Hid (Below W1.heap.size W1 (W1.alloc (.cells (rR g j bz ag au none 0 0 none 0 0).toArray 52)).drew):=(aj W1 _).drew;have HR2:Hid ((W1.alloc (.cells (rR g j bz ag au none 0 0 none 0 0).toArray 52)).drew.heap[W1.heap.size]? = some (.cells (rR g j bz ag au none 0 0 none 0 0).toArray 52)):=heap_alloc_new W1 _;generalize (W1.alloc (.cells (rR g j bz ag au none 0 0 none 0 0).toArray 52)).drew=W2 at HB2 HR2;obtain ⟨ta,tn,tc,rfl⟩:=aB HT.out;obtain ⟨da,dn,dc,rfl⟩:=aB HD.out;have DT:Hid (Below W.heap.size W W2):=ai HB1.out HB2.out;have lH:Hid (W2.heap[b]? = some (.cells #[.int .u8 g,.int .u8 n,.slice ta tn tc,vM,.slice da dn dc,.slice (some ⟨gO,0,none⟩) L.length cap,vI] 31)):=af DT.out HC.out;have HG2:Hid (W2.heap[gO]? = some (.cells cur.toArray 103)):=af DT.out HG.out;have HTI:Hid (bQ W2.heap.size W2 ⟨ta,tn,tc⟩ 2 (T.map Row.cells)):=by
  obtain ⟨a,m,c,e,hm,hin⟩:=pI (ay HT.out DT.out) (fun y=>rfl);cases e;exact hin
 have U3:Hid (∀ w',Below W2.heap.size W2 w'→(Below W2.heap.size W2 w'∧w'.cell? ⟨b,2,none⟩=some (.slice ta tn tc)∧w'.cell? ⟨W1.heap.size,3,none⟩=some (.int .u64 ag)∧w'.cell? ⟨W1.heap.size,4,none⟩=some (.int .u64 au))):=fun w' hb=>⟨hb,blk hb lH.out 2,blk hb HR2.out 3,blk hb HR2.out 4⟩
 clear hc0 Nk hq3 hq5 ho0;go_wp2_with fail
 go_region_held3 (fun w'=>Below W2.heap.size W2 w'∧w'.cell? ⟨b,2,none⟩=some (.slice ta tn tc)∧w'.cell? ⟨W1.heap.size,3,none⟩=some (.int .u64 ag)∧w'.cell? ⟨W1.heap.size,4,none⟩=some (.int .u64 au)) (first | exact U3.out _ (Below.refl _ _).drew | exact U3.out _ (fB (by assumption) (by assumption)) | exact U3.out _ (fI (by assumption))) (first | (go_at_call 89;refine (Pj ta tn tc T ag au _ (HTI.out.later (And.left (by assumption))) GG).mono ?_;rintro e w3 ⟨vb,vw,va,rfl,ho3,kT⟩;have pE:=ae ho3))
 have HB3:Hid (Below W2.heap.size W2 w3):=And.left (by assumption);have F7:Hid (Own3 w3 W2.heap.size 128 2 Row.cells vb vw va (sB (fun x:Row=>x.key) ag T) (sW (fun x:Row=>x.key) ag au T) (sA (fun x:Row=>x.key) ag au T)):=pE.out;clear pE;obtain ⟨ba,bn,bc,rfl⟩:=aB F7.out.o1;obtain ⟨wa,wn,wc,rfl⟩:=aB F7.out.o2;obtain ⟨aa,an,ac,rfl⟩:=aB F7.out.o3;have Ou:Hid (Below W.heap.size W w3):=ai DT.out HB3.out;have hcl0:cur[j*2]? = some (.int .u32 bz):=by simpa using qM zu (j:=0) HLA.out rfl Bo.out rfl
 have LQ:cur[j*2+1]? = some (.slice eG eP eQ):=by simpa [Sl.val] using qM zu (j:=1) HLA.out rfl Bo.out rfl
 have SA:Value.ownBlock (.slice eG eP eQ)≠some W1.heap.size:=fun e=>by have h1:=(HQ.out.lt _ e).2;have h2:=HB1.out.size;omega
 have hlen:=FL (f:=(fun x:Row=>x.key)) ag au T;apply_assumption
 refine ahz rfl w3 base b gO W1.heap.size j g n bz ag au (.slice ta tn tc) vM (.slice (some ⟨gO,0,none⟩) L.length cap) vI da dn dc ba bn bc wa wn wc aa an ac _ _ _ D lq cur eG eP eQ W2.heap.size (af HB3.out lH.out) (af HB3.out HG2.out) hcl0 LQ (af HB3.out HR2.out) F7.out (ay HD.out Ou.out) (ay HQ.out Ou.out) SA hnq hnD (by omega) (Nat.le_trans hb (Nat.le_trans dQ.out.size Ou.out.size)) _ ?_;intro w' dN eY rs ds qs ho;have hsz:w.heap.size≤w3.heap.size:=Nat.le_trans dQ.out.size Ou.out.size;have hG3:=af HB3.out HG2.out;have hQ3:=ay HQ.out Ou.out;have qA:=af HB3.out HR2.out;have uW:=af HB3.out lH.out;have oR:w'.ownsRow W2.heap.size 128 2 (.slice wa wn wc) (sW (fun x:Row=>x.key) ag au T).length ((sW (fun x:Row=>x.key) ag au T).map Row.cells).flatten:=dB F7.out.o2 ho.dX (fun k hk e=>by
  rcases e with e | e | e | e
  ·exact eF F7.out.o2 uW (by decide) k hk e
  ·exact eF F7.out.o2 hG3 (by decide) k hk e
  ·exact eF F7.out.o2 qA (by decide) k hk e
  ·exact (rJ hQ3 F7.out.o2 (by decide)).elim (fun x=>by rw [x] at e;cases e) (fun x=>x (by rw [hk,e])))
 have hjc:j*2+1<L.length*2:=by omega
 refine ⟨dN,eY,rs,ds,qs,ho.cell,dE ho.oT hsz,dE ho.oD hsz,?_,dE ho.oS hsz,?_,ho.aD,ho.oQ,ho.fQ.imp id fun h k hk=>Nat.le_trans hsz (h k hk),?_,?_⟩
 ·rw [ho.ers]
  exact dE oR (Nat.le_trans dQ.out.size DT.out.size)
 ·rw [ho.ers]
  exact (gV.lt (B:=w3.heap.size) (fun k hk=>(F7.out.o2.lt k hk).2) (fun k hk=>(ho.oT.lt k hk).1)).symm
 ·have h1:=Sv.out w' _ (by simp) ho.lane
  have e1:=yT zu L j 1 _ ⟨bz,qs,lq++[aF.mk g j bz ag au rs ds (sW (fun x:Row=>x.key) ag au T) (sW (fun x:ak=>x.key) ag au D)]⟩ qs.val HLA.out (by decide) rfl;have e2:=yT zu (L.set j ⟨bz,qs,lq++[aF.mk g j bz ag au rs ds (sW (fun x:Row=>x.key) ag au T) (sW (fun x:ak=>x.key) ag au D)]⟩) j 0 ⟨bz,qs,lq++[aF.mk g j bz ag au rs ds (sW (fun x:Row=>x.key) ag au T) (sW (fun x:ak=>x.key) ag au D)]⟩ ⟨IntKind.u32.wrap (bz+1),qs,lq++[aF.mk g j bz ag au rs ds (sW (fun x:Row=>x.key) ag au T) (sW (fun x:ak=>x.key) ag au D)]⟩ (.int .u32 (IntKind.u32.wrap (bz+1))) (by rw [List.getElem?_set_self hjl]) (by decide) rfl;rw [Nat.add_zero] at e2;rw [List.take_set,List.take_set,Bo.out,e1,e2,List.set_set] at h1;exact h1
 ·have c1:av (fun k=>k=b∨k=gO∨Value.ownBlock (.slice eG eP eQ)=some k) w w3:=av.later (ai dQ.out Ou.out)
  refine c1.trans' ho.dX (fun k hk e=>?_);rcases e with e | e | e | e
  ·exact .inl e
  ·exact .inr (.inl e)
  ·have:=HB1.out.size;have:=dQ.out.size;omega
  ·exact .inr (.inr e)
structure qI (w:World) (base b:Nat) (g n:Int) (vT vM vD vO vI:Value) (T:List Row) (M:List Pc) (D:List ak) (L:List ax) (I:List Int):Prop where
 cell:w.heap[b]? = some (.cells (rW g n vT vM vD vO vI).toArray 31)
 b1:base≤b
 m:ShM w base vT vM vD vO vI T M D L I
def nJ (b:Nat) (vT vM vD vO vI:Value) (L:List ax) (k:Nat):Prop:=k=b∨vT.ownBlock=some k∨vM.ownBlock=some k∨vD.ownBlock=some k∨vO.ownBlock=some k∨vI.ownBlock=some k∨(∃ v∈QV L,v.ownBlock=some k)∨(∃ v∈RV (mH L),v.ownBlock=some k)∨(∃ v∈DV (mH L),v.ownBlock=some k)
def oK (b:Nat) (vT vD:Value) (k:Nat):Prop:=k=b∨vT.ownBlock=some k∨vD.ownBlock=some k
theorem oK.foot {b:Nat} {vT vM vD vO vI:Value} {L:List ax} {k:Nat} (h:oK b vT vD k):nJ b vT vM vD vO vI L k:=by
 rcases h with h | h | h
 ·exact .inl h
 ·exact .inr (.inl h)
 ·exact .inr (.inr (.inr (.inl h)))
section
variable {w w':World} {base b:Nat} {g n:Int} {vT vM vD vO vI:Value} {T:List Row} {M:List Pc} {D:List ak} {L:List ax} {I:List Int}
theorem qI.Lb (h:qI w base b g n vT vM vD vO vI T M D L I):mq w base b g n vT vM vD vO vI T D:=⟨h.cell,h.m.oT,h.m.oD,h.b1⟩
theorem qI.later (h:qI w base b g n vT vM vD vO vI T M D L I) (hb:Below w.heap.size w w'):qI w' base b g n vT vM vD vO vI T M D L I:=⟨af hb h.cell,h.b1,h.m.later hb⟩
theorem Xw {e:TypeId} {s m B:Nat} {v:Value} {xs:List Value} (hc:∃ cs,w.heap[b]? = some (.cells cs 31)) (_hT:w.ownsRow base 128 2 vT T.length (T.map Row.cells).flatten) (_hD:w.ownsRow base 57 7 vD D.length (D.map ak.cells).flatten)
 (h:w.ownsRow B e s v m xs) (h1:e≠31) (h2:gV vT v) (h3:gV vD v):∀ k,v.ownBlock=some k→¬ oK b vT vD k:=by
 obtain ⟨cs,hc⟩:=hc;intro k hk e;rcases e with e | e | e
 ·exact eF h hc h1 k hk e
 ·rcases h2 with h2 | h2
  ·rw [h2] at e;cases e
  ·exact h2 (by rw [e,hk])
 ·rcases h3 with h3 | h3
  ·rw [h3] at e;cases e
  ·exact h3 (by rw [e,hk])
theorem apT {e:TypeId} {s m B B' m' s':Nat} {v v':Value} {xs xs':List Value} {e':TypeId} (h:w.ownsRow B e s v m xs) (h':w.ownsRow B' e' s' v' m' xs') (hne:e≠e'):gV v v':=rJ h h' hne
theorem qI.turn {dN eY:Value} {T':List Row} {D':List ak} (h:qI w base b g n vT vM vD vO vI T M D L I) (hS:mq w' base b g n dN vM eY vO vI T' D') (hc:av (oK b vT vD) w w') (hfT:yl w vT dN) (hfD:yl w vD eY):qI w' base b g n dN vM eY vO vI T' M D' L I:=by
 have hcl:∃ cs,w.heap[b]? = some (.cells cs 31):=⟨_,h.cell⟩;have keep:∀ {e:TypeId} {s m B:Nat} {v:Value} {xs:List Value},w.ownsRow B e s v m xs→e≠31→gV vT v→gV vD v→w'.ownsRow B e s v m xs:=fun ho h1 h2 h3=>dB ho hc (Xw hcl h.m.oT h.m.oD ho h1 h2 h3)
 have other:∀ {e:TypeId} {s m B:Nat} {v:Value} {xs:List Value},w.ownsRow B e s v m xs→e≠31→e≠128→e≠57→w'.ownsRow B e s v m xs:=fun ho h1 h2 h3=>keep ho h1 (apT h.m.oT ho (Ne.symm h2)) (apT h.m.oD ho (Ne.symm h3))
 have fr:∀ {v v' u:Value},yl w v v'→gV v u→(∀ k,u.ownBlock=some k→k<w.heap.size)→gV v' u:=by
  intro v v' u hf ha hu;rcases hf with hf | hf
  ·unfold gV;rw [hf];exact ha
  ·exact (gV.lt hu hf).symm
 refine ⟨hS.cell,h.b1,hS.oT,other h.m.oM (by decide) (by decide) (by decide),hS.oD,other h.m.oO (by decide) (by decide) (by decide),other h.m.oI (by decide) (by decide) (by decide),⟨fun l hl=>other (h.m.ln.own l hl) (by decide) (by decide) (by decide),h.m.ln.aq,⟨fun r hr=>?_,fun r hr=>?_,h.m.ln.rm.ar,h.m.ln.rm.ad⟩⟩,fun v hv=>fr hfT (h.m.aT v hv) (fun k hk=>(h.m.ln.rm.GH hv k hk).2),fun v hv=>fr hfD (h.m.aD v hv) (fun k hk=>(h.m.ln.rm.GI hv k hk).2)⟩
 ·have ho:=h.m.ln.rm.rows r hr
  exact keep ho (by decide) (h.m.aT _ (List.mem_map.2 ⟨r,hr,rfl⟩)) (apT h.m.oD ho (by decide))
 ·have ho:=h.m.ln.rm.bP r hr
  exact keep ho (by decide) (apT h.m.oT ho (by decide)) (h.m.aD _ (List.mem_map.2 ⟨r,hr,rfl⟩))
theorem Mod.dX {lim:Nat} (h:Mod base lim (oK b vT vD) w w'):av (oK b vT vD) w w':=⟨h.os,h.tape,h.output,h.size,fun k hk hA=>h.block k hk (.inr (.inr hA))⟩
def nK (base b:Nat) (g n:Int) (vT vM vD vO vI:Value) (L:List ax) (T':List Row) (M':List Pc) (D':List ak) (O':List (Int×List Rg)) (I':List Int) (w w':World):Prop :=
 ∃ (dN Dc eY DN FN:Value) (L':List ax),qI w' base b g n dN Dc eY DN FN T' M' D' L' I'∧L'.map ax.core=O'∧av (nJ b vT vM vD vO vI L) w w'∧∀ k,nJ b dN Dc eY DN FN L' k→nJ b vT vM vD vO vI L k∨w.heap.size≤k
theorem qI.Ov {lim:Nat} {T':List Row} {D':List ak} (h:qI w base b g n vT vM vD vO vI T M D L I) (ho:LP base lim (oK b vT vD) b g n vT vM vD vO vI T' D' w w'):nK base b g n vT vM vD vO vI L T' M D' (L.map ax.core) I w w':=by
 obtain ⟨dN,eY,hS,hM,hfT,hfD⟩:=ho;refine ⟨dN,vM,eY,vO,vI,L,h.turn hS hM.dX hfT hfD,rfl,hM.dX.mono (fun _ _ e=>e.foot),fun k hk=>?_⟩;rcases hk with hk | hk | hk | hk | hk
 ·exact .inl (.inl hk)
 ·rcases hfT with e | e
  ·exact .inl (.inr (.inl (e ▸ hk)))
  ·exact .inr (e k hk)
 ·exact .inl (.inr (.inr (.inl hk)))
 ·rcases hfD with e | e
  ·exact .inl (.inr (.inr (.inr (.inl (e ▸ hk)))))
  ·exact .inr (e k hk)
 ·exact .inl (.inr (.inr (.inr (.inr hk))))
theorem qI.lt (h:qI w base b g n vT vM vD vO vI T M D L I):∀ k,nJ b vT vM vD vO vI L k→k<w.heap.size:=by
 intro k hk;rcases hk with hk | hk | hk | hk | hk | hk | ⟨v,hv,hk⟩ | ⟨v,hv,hk⟩ | ⟨v,hv,hk⟩
 ·rw [hk];exact (df h.cell)
 ·exact (h.m.oT.lt k hk).2
 ·exact (h.m.oM.lt k hk).2
 ·exact (h.m.oD.lt k hk).2
 ·exact (h.m.oO.lt k hk).2
 ·exact (h.m.oI.lt k hk).2
 ·exact (h.m.ln.Xg hv k hk).2
 ·exact (h.m.ln.rm.GH hv k hk).2
 ·exact (h.m.ln.rm.GI hv k hk).2
theorem qI.dX {A:Nat→Prop} (h:qI w base b g n vT vM vD vO vI T M D L I) (hc:av A w w') (hA:∀ k,nJ b vT vM vD vO vI L k→¬ A k):qI w' base b g n vT vM vD vO vI T M D L I:=by
 refine ⟨nQ h.cell hc (hA b (.inl rfl)),h.b1,dB h.m.oT hc (fun k hk=>hA k (.inr (.inl hk))),dB h.m.oM hc (fun k hk=>hA k (.inr (.inr (.inl hk)))),dB h.m.oD hc (fun k hk=>hA k (.inr (.inr (.inr (.inl hk))))),dB h.m.oO hc (fun k hk=>hA k (.inr (.inr (.inr (.inr (.inl hk)))))),dB h.m.oI hc (fun k hk=>hA k (.inr (.inr (.inr (.inr (.inr (.inl hk))))))),⟨fun l hl=>dB (h.m.ln.own l hl) hc (fun k hk=>hA k (.inr (.inr (.inr (.inr (.inr (.inr (.inl ⟨_,List.mem_map.2 ⟨l,hl,rfl⟩,hk⟩)))))))),h.m.ln.aq,h.m.ln.rm.dX hc (fun v hv k hk=>hA k (.inr (.inr (.inr (.inr (.inr (.inr (.inr (.inl ⟨v,hv,hk⟩))))))))) (fun v hv k hk=>hA k (.inr (.inr (.inr (.inr (.inr (.inr (.inr (.inr ⟨v,hv,hk⟩)))))))))⟩,h.m.aT,h.m.aD⟩
theorem nK.wrap {W w3 w4:World} {B:Nat} {T':List Row} {M':List Pc} {D':List ak} {O':List (Int×List Rg)} {I':List Int} (h0:Below w.heap.size w W) (h:nK base b g n vT vM vD vO vI L T' M' D' O' I' W w3) (ho:Only B w3 w4) (hB:w.heap.size≤B) (hB2:B<W.heap.size) (hfl:∀ k,nJ b vT vM vD vO vI L k→k<w.heap.size):nK base b g n vT vM vD vO vI L T' M' D' O' I' w w4:=by
 obtain ⟨dN,Dc,eY,DN,FN,L',hP,hO,hC,hF⟩:=h;refine ⟨dN,Dc,eY,DN,FN,L',hP.dX (av.only (A:=fun k=>k=B) ho rfl) (fun k hk e=>?_),hO,((av.later h0).trans hC).trans' (av.only (A:=fun k=>k=B) ho rfl) (fun k hk e=>by omega),fun k hk=>?_⟩
 ·subst e
  rcases hF k hk with h1 | h1
  ·have:=hfl k h1;omega
  ·omega
 ·rcases hF k hk with h1 | h1
  ·exact .inl h1
  ·exact .inr (Nat.le_trans h0.size h1)
theorem nK.keep {W w3:World} {B:Nat} {o:Obj} {T':List Row} {M':List Pc} {D':List ak} {O':List (Int×List Rg)} {I':List Int} (h:nK base b g n vT vM vD vO vI L T' M' D' O' I' W w3) (hB:W.heap[B]? = some o) (hf:¬ nJ b vT vM vD vO vI L B):w3.heap[B]? = some o:=by
 obtain ⟨_,_,_,_,_,_,_,_,hC,_⟩:=h;exact nQ hB hC hf
end
theorem UE (w:World) (b gO j:Nat) (g n:Int) (vT vM vD vI:Value) (ol cap:Nat) (la:Option Addr) (ln lc:Nat) (qc qs qk ag qv au aA:Int) (hc:w.heap[b]? = some (.cells #[.int .u8 g,.int .u8 n,vT,vM,vD,.slice (some ⟨gO,0,none⟩) ol cap,vI] 31)) (hto:(aA == g)=false) (hn:decide (n≤aA)=false)
 (hj:aA=(j:Int)) (hjl:j<ol) (hl:w.cell? ⟨gO,j*2+1,none⟩=some (.slice la ln lc)) (U4:gO<w.heap.size) (h4:4≤ln) :
 Calls Tryz.prog 179 #[.pointer (some ⟨b,0,none⟩),.agg (rQ qc qs qk ag qv au aA).toArray] w fun e w'=>e=.returned (.tuple #[.slice none 0 0,.bool false])∧Below w.heap.size w w':=by
 subst hj;obtain ⟨W,hW⟩:∃ W,W=w.alloc (.cells (rQ qc qs qk ag qv au j).toArray 50):=⟨_,rfl⟩;have fP:W.heap[w.heap.size]? = some (.cells (rQ qc qs qk ag qv au j).toArray 50):=by rw [hW];exact heap_alloc_new w _
 have bE:Below w.heap.size w W:=by rw [hW];exact aj w _
 have Nk:W.cell? ⟨w.heap.size,6,none⟩=some (.int .u8 j):=ah fP 6;have hs0:W.cell? ⟨b,0,none⟩=some (.int .u8 g):=ah (af bE hc) 0;have hs1:W.cell? ⟨b,1,none⟩=some (.int .u8 n):=ah (af bE hc) 1;have hs5:W.cell? ⟨b,5,none⟩=some (.slice (some ⟨gO,0,none⟩) ol cap):=ah (af bE hc) 5;have hl1:W.cell? ⟨gO,j*2+1,none⟩=some (.slice la ln lc):=(bE.cell (p:=⟨gO,j*2+1,none⟩) U4).trans hl;have hd4:decide ((4:Int)≤(ln:Int))=true:=by simp;omega
 have hi1:(0:Int)≤(j:Int):=by omega
 have hi2:(j:Int)<(ol:Int):=by omega
 clear hc fP hl;go_enter Tryz.func179,Tryz.ntmps179
 go_wp2_with fail
 rw [← hW];clear hW;go_quiet (fail)
 go_wp2
 go_ret2
 exact ⟨rfl,below_drewN bE _⟩
theorem UF (w:World) (b gO j:Nat) (g n:Int) (vT vD vI:Value) (ma:Option Addr) (mn mc:Nat) (M:List Pc) (ol cap:Nat) (la:Option Addr) (ln lc:Nat) (qc qs qk ag qv au aA:Int) (hc:w.heap[b]? = some (.cells #[.int .u8 g,.int .u8 n,vT,.slice ma mn mc,vD,.slice (some ⟨gO,0,none⟩) ol cap,vI] 31)) (hto:(aA == g)=false) (hn:decide (n≤aA)=false)
 (hj:aA=(j:Int)) (hjl:j<ol) (hl:w.cell? ⟨gO,j*2+1,none⟩=some (.slice la ln lc)) (U4:gO<w.heap.size) (h4:ln<4)
 (hM:nT w ma mn mc M) (Jn:nM M=true) (oV:Can M) (hm:M.length≤1000) (h0:0≤au) (h1:au<18446744073709551616) (hgood:¬ (au<ag)∧¬ (4≤aA)) :
 Calls Tryz.prog 179 #[.pointer (some ⟨b,0,none⟩),.agg (rQ qc qs qk ag qv au aA).toArray] w fun e w'=>∃ v',e=.returned (.tuple #[v',.bool (decide ((dG M ag au aA).length≤8))])∧nP w.heap.size w' v' (qG (dG M ag au aA))∧Below w.heap.size w w':=by
 subst hj;obtain ⟨W,hW⟩:∃ W,W=w.alloc (.cells (rQ qc qs qk ag qv au j).toArray 50):=⟨_,rfl⟩;have fP:W.heap[w.heap.size]? = some (.cells (rQ qc qs qk ag qv au j).toArray 50):=by rw [hW];exact heap_alloc_new w _
 have bE:Below w.heap.size w W:=by rw [hW];exact aj w _
 have Nk:W.cell? ⟨w.heap.size,6,none⟩=some (.int .u8 j):=ah fP 6;have hs0:W.cell? ⟨b,0,none⟩=some (.int .u8 g):=ah (af bE hc) 0;have hs1:W.cell? ⟨b,1,none⟩=some (.int .u8 n):=ah (af bE hc) 1;have hs5:W.cell? ⟨b,5,none⟩=some (.slice (some ⟨gO,0,none⟩) ol cap):=ah (af bE hc) 5;have hl1:W.cell? ⟨gO,j*2+1,none⟩=some (.slice la ln lc):=(bE.cell (p:=⟨gO,j*2+1,none⟩) U4).trans hl;have hd4:decide ((4:Int)≤(ln:Int))=false:=by simp;omega
 have hi1:(0:Int)≤(j:Int):=by omega
 have hi2:(j:Int)<(ol:Int):=by omega
 have HC:=ae hc;have nX:=ae fP;have dQ:=ae bE;have HM:Hid (nT W ma mn mc M):=hM.later bE;have HK:=ae (And.intro Jn (And.intro oV (And.intro hm hgood)));clear hc fP hl hM Jn oV hm bE hgood;go_enter Tryz.func179,Tryz.ntmps179
 go_wp2_with fail
 rw [← hW];clear hW;go_quiet (fail)
 have HB1:Hid (Below W.heap.size W (W.drewN nq)):=below_drewN (Below.refl _ _) _;generalize W.drewN nq=W1 at HB1;have MK:Hid (∀ w',Below W1.heap.size W1 w'→(Below W1.heap.size W1 w'∧w'.cell? ⟨b,3,none⟩=some (.slice ma mn mc)∧w'.cell? ⟨w.heap.size,3,none⟩=some (.int .u64 ag)∧w'.cell? ⟨w.heap.size,5,none⟩=some (.int .u64 au)∧w'.cell? ⟨w.heap.size,6,none⟩=some (.int .u8 j))):=fun w' hb=>⟨hb,blk (ai HB1.out hb) (af dQ.out HC.out) 3,blk (ai HB1.out hb) nX.out 3,blk (ai HB1.out hb) nX.out 5,blk (ai HB1.out hb) nX.out 6⟩
 clear Nk hs0 hs1 hs5 hl1;go_wp2_with fail
 go_region_held3 (fun w'=>Below W1.heap.size W1 w'∧w'.cell? ⟨b,3,none⟩=some (.slice ma mn mc)∧w'.cell? ⟨w.heap.size,3,none⟩=some (.int .u64 ag)∧w'.cell? ⟨w.heap.size,5,none⟩=some (.int .u64 au)∧w'.cell? ⟨w.heap.size,6,none⟩=some (.int .u8 j)) (first | exact MK.out _ (Below.refl _ _).drew | exact MK.out _ (fB (by assumption) (by assumption)) | exact MK.out _ (fI (by assumption))) (first | (go_at_call 88;refine (Sb ma mn mc M ag au j _ (HM.out.later (ai HB1.out (And.left (by assumption)))) HK.out.1 HK.out.2.1 HK.out.2.2.1 h0 h1 (by have:=HK.out.2.2.2;omega)).mono ?_;rintro e w3 ⟨v3,rfl,ho3,kT⟩;have pE:=ae ho3))
 have HB3:Hid (Below W1.heap.size W1 w3):=And.left (by assumption);have nD:Hid (Below w.heap.size w w3):=ai dQ.out (ai HB1.out HB3.out);have HOW:Hid (nP w.heap.size w3 v3 (qG (dG M ag au j))):=O8 pE.out (Nat.le_trans dQ.out.size HB1.out.size);obtain ⟨xa,xn,xc,rfl,hin,_⟩:=pE.out.Ia;have hxn:xn=(qG (dG M ag au j)).length:=by simpa using hin.len
 clear hin;by_cases hk:1000<(dG M ag au j).length
 ·have e1:qW (dG M ag au j)=3:=by simp [qW,hk]
  have e2:Hid (decide ((dG M ag au j).length≤8)=false):=by show _=_;simp;omega
  rw [e1];go_wp2_with fail
  go_ret2
  exact ⟨.slice xa xn xc,by rw [e2.out];rfl,HOW.out,nD.out⟩
 ·have e1:qW (dG M ag au j)=0:=by simp [qW,hk]
  have e2:qG (dG M ag au j)=dG M ag au j:=by simp [qG,hk]
  rw [e2] at hxn;rw [e1];by_cases h8:(dG M ag au j).length≤8
  ·have e3:Hid (decide ((dG M ag au j).length≤8)=true):=by show _=_;simp [h8]
   have hd8:decide ((xn:Int)≤8)=true:=by simp;omega
   clear hxn;go_wp2_with fail
   go_ret2
   exact ⟨.slice xa xn xc,by rw [e3.out];rfl,HOW.out,nD.out⟩
  ·have e3:Hid (decide ((dG M ag au j).length≤8)=false):=by show _=_;simp [h8]
   have hd8:decide ((xn:Int)≤8)=false:=by simp;omega
   clear hxn;go_wp2_with fail
   go_ret2
   exact ⟨.slice xa xn xc,by rw [e3.out];rfl,HOW.out,nD.out⟩
theorem Xx {α:Type} {R:α→α→Prop} (hs:∀ x y,R x y→R y x) {x:α} {A B:List α} (h:(A++B).Pairwise R) (hx:∀ y∈A++B,R x y):(A++x::B).Pairwise R:=by
 rw [List.pairwise_append] at h ⊢;refine ⟨h.1,List.pairwise_cons.2 ⟨fun y hy=>hx y (List.mem_append_right _ hy),h.2.1⟩,fun a ha b hb=>?_⟩;rcases List.mem_cons.1 hb with rfl | hb
 ·exact hs _ _ (hx a (List.mem_append_left _ ha))
 ·exact h.2.2 a ha b hb
theorem Xy {α:Type} {R:α→α→Prop} (hs:∀ x y,R x y→R y x) {l:List α} {j:Nat} {x y:α} (h:l.Pairwise R) (_hj:l[j]? = some y) (hx:∀ (i:Nat) (z:α),i≠j→l[i]? = some z→R x z):(l.set j x).Pairwise R:=by
 rw [List.pairwise_iff_getElem] at h ⊢;intro a b ha hb hab;simp only [List.length_set] at ha hb;rw [List.getElem_set,List.getElem_set];by_cases h1:j=a
 ·rw [if_pos h1,if_neg (by omega)]
  exact hx b _ (by omega) (List.getElem?_eq_getElem hb)
 ·rw [if_neg h1]
  by_cases h2:j=b
  ·rw [if_pos h2]
   exact hs _ _ (hx a _ (by omega) (List.getElem?_eq_getElem ha))
  ·rw [if_neg h2]
   exact h a b ha hb hab
theorem A7 {L:List ax} {j:Nat} {l:ax} (h:L[j]? = some l):mH L=(mH (L.take j)++l.q)++mH (L.drop (j+1)):=by
 have hj:=(mV h);have e:L=L.take j++l::L.drop (j+1):=by
  conv=>lhs;rw [← List.take_append_drop j L,List.drop_eq_getElem_cons hj]
  rw [(List.getElem?_eq_some_iff.1 h).2]
 conv=>lhs;rw [e]
 unfold mH;rw [List.flatMap_append,List.flatMap_cons,List.append_assoc]
theorem Ip {L:List ax} {j:Nat} {l l':ax} (h:L[j]? = some l):mH (L.set j l')=(mH (L.take j)++l'.q)++mH (L.drop (j+1)):=by
 have hj:=(mV h);have:=A7 (L:=L.set j l') (j:=j) (l:=l') (by rw [List.getElem?_set_self hj]);rw [this,List.take_set_of_le (Nat.le_refl _),List.drop_set_of_lt (Nat.lt_succ_self _)]
theorem LM.join' {w:World} {base j:Nat} {L:List ax} {l:ax} {next':Int} {qs:Sl} {r:aF} (haq:(QV L).Pairwise gV) (hrm:RM w base (mH L)) (hl:L[j]? = some l) (hq:w.ownsRow base 52 7 qs.val (l.q.length+1) ((l.q++[r]).map aF.cells).flatten) (hqa:∀ (i:Nat) (z:ax),i≠j→L[i]? = some z→gV qs.val z.qs.val)
 (hr:w.ownsRow base 128 2 r.rs.val r.rows.length (r.rows.map Row.cells).flatten) (hd:w.ownsRow base 57 7 r.ds.val r.bP.length (r.bP.map ak.cells).flatten) (hra:∀ v∈RV (mH L),gV r.rs.val v) (GM:∀ v∈DV (mH L),gV r.ds.val v)
 (hown:∀ (i:Nat) (z:ax),i≠j→L[i]? = some z→w.ownsRow base 52 7 z.qs.val z.q.length (z.q.map aF.cells).flatten):LM w base (L.set j ⟨next',qs,l.q++[r]⟩):=by
 have hj:=(mV hl);have e1:=A7 hl;have e2:=Ip (l':=⟨next',qs,l.q++[r]⟩) hl;have e3:mH (L.set j ⟨next',qs,l.q++[r]⟩)=(mH (L.take j)++l.q)++r::mH (L.drop (j+1)):=by rw [e2];simp
 refine ⟨fun x hx=>?_,?_,?_⟩
 ·obtain ⟨i,hi⟩:=List.getElem?_of_mem hx
  by_cases hij:i=j
  ·subst hij
   rw [List.getElem?_set_self hj] at hi;simp at hi;subst hi;simpa using hq
  ·rw [List.getElem?_set_ne (Ne.symm hij)] at hi
   exact hown i x hij hi
 ·have:QV (L.set j ⟨next',qs,l.q++[r]⟩)=(QV L).set j qs.val:=by unfold QV;rw [List.map_set]
  rw [this];refine Xy (R:=gV) (fun _ _=>gV.symm) haq (y:=l.qs.val) (by unfold QV;simp [hl]) (fun i z hij hz=>?_);unfold QV at hz;rw [List.getElem?_map] at hz;cases hi:L[i]? with
  | none=>rw [hi] at hz;simp at hz
  | some x=>rw [hi] at hz;simp at hz;subst hz;exact hqa i x hij hi
 ·rw [e3]
  have mem:∀ x∈(mH (L.take j)++l.q)++r::mH (L.drop (j+1)),x=r∨x∈mH L:=by
   intro x hx;rw [e1];rcases List.mem_append.1 hx with hx | hx
   ·exact .inr (List.mem_append_left _ hx)
   ·rcases List.mem_cons.1 hx with rfl | hx
    ·exact .inl rfl
    ·exact .inr (List.mem_append_right _ hx)
  refine ⟨fun x hx=>?_,fun x hx=>?_,?_,?_⟩
  ·rcases mem x hx with rfl | hx
   ·exact hr
   ·exact hrm.rows x hx
  ·rcases mem x hx with rfl | hx
   ·exact hd
   ·exact hrm.bP x hx
  ·have a:=hrm.ar
   rw [e1] at a hra;unfold RV at a hra ⊢;rw [List.map_append] at a hra ⊢;rw [List.map_cons];exact Xx (fun _ _=>gV.symm) a hra
  ·have a:=hrm.ad
   rw [e1] at a GM;unfold DV at a GM ⊢;rw [List.map_append] at a GM ⊢;rw [List.map_cons];exact Xx (fun _ _=>gV.symm) a GM
theorem Xz {L:List ax} {j:Nat} {l:ax} {next':Int} {qs:Sl} {r:aF} (hl:L[j]? = some l):∀ v∈RV (mH (L.set j ⟨next',qs,l.q++[r]⟩)),v=r.rs.val∨v∈RV (mH L):=by
 rw [Ip hl,A7 hl];intro v hv;unfold RV at hv ⊢;simp only [List.map_append,List.mem_append,List.map_cons,List.map_nil,List.mem_singleton] at hv ⊢;rcases hv with (hv | hv | hv) | hv
 ·exact .inr (.inl (.inl hv))
 ·exact .inr (.inl (.inr hv))
 ·exact .inl hv
 ·exact .inr (.inr hv)
theorem XA {L:List ax} {j:Nat} {l:ax} {next':Int} {qs:Sl} {r:aF} (hl:L[j]? = some l):∀ v∈DV (mH (L.set j ⟨next',qs,l.q++[r]⟩)),v=r.ds.val∨v∈DV (mH L):=by
 rw [Ip hl,A7 hl];intro v hv;unfold DV at hv ⊢;simp only [List.map_append,List.mem_append,List.map_cons,List.map_nil,List.mem_singleton] at hv ⊢;rcases hv with (hv | hv | hv) | hv
 ·exact .inr (.inl (.inl hv))
 ·exact .inr (.inl (.inr hv))
 ·exact .inl hv
 ·exact .inr (.inr hv)
theorem qI.hand {w w' w2:World} {base b gO cap j:Nat} {g n bz ag au:Int} {vT vM vD vI Dc:Value} {T:List Row} {M M':List Pc} {D:List ak} {L:List ax} {I:List Int} {eG:Option Addr} {eP eQ:Nat} {lq:List aF} {dN eY:Value} {rs ds qs:Sl}
 (h:qI w base b g n vT vM vD (.slice (some ⟨gO,0,none⟩) L.length cap) vI T M D L I) (hl:L[j]? = some ⟨bz,⟨eG,eP,eQ⟩,lq⟩)
 (hh:Hand w w' base b gO j g n bz ag au vM (.slice (some ⟨gO,0,none⟩) L.length cap) vI (.slice eG eP eQ) dN eY rs ds qs T D L lq)
 (hM:w.ownsRow base 107 2 Dc M'.length (M'.map Pc.cells).flatten) (ho:Only b w' w2) (hw:w2.heap[b]? = some (.cells #[.int .u8 g,.int .u8 n,dN,Dc,eY,.slice (some ⟨gO,0,none⟩) L.length cap,vI] 31)) (hb:base≤w.heap.size) :
 qI w2 base b g n dN Dc eY (.slice (some ⟨gO,0,none⟩) L.length cap) vI (sB (fun x:Row=>x.key) ag T++sA (fun x:Row=>x.key) ag au T) M' (sB (fun x:ak=>x.key) ag D++sA (fun x:ak=>x.key) ag au D) (L.set j ⟨IntKind.u32.wrap (bz+1),qs,lq++[aF.mk g j bz ag au rs ds (sW (fun x:Row=>x.key) ag au T) (sW (fun x:ak=>x.key) ag au D)]⟩) I∧av (nJ b vT vM vD (.slice (some ⟨gO,0,none⟩) L.length cap) vI L) w w2∧∀ k,nJ b dN Dc eY (.slice (some ⟨gO,0,none⟩) L.length cap) vI (L.set j ⟨IntKind.u32.wrap (bz+1),qs,lq++[aF.mk g j bz ag au rs ds (sW (fun x:Row=>x.key) ag au T) (sW (fun x:ak=>x.key) ag au D)]⟩) k→nJ b vT vM vD (.slice (some ⟨gO,0,none⟩) L.length cap) vI L k∨Dc.ownBlock=some k∨w.heap.size≤k:=by
 have hQ:=h.m.ln.own _ (List.mem_of_getElem? hl);obtain ⟨alO,hgc⟩:∃ cur,w.heap[gO]? = some (.cells cur 103):=by
  rcases h.m.oO.2 with ⟨e,_⟩ | ⟨g',cap',cur',e,_,hg',_⟩
  ·cases e
  ·simp only [Value.slice.injEq,Option.some.injEq,Addr.mk.injEq] at e
   obtain ⟨⟨rfl,_⟩,_⟩:=e;exact ⟨cur',hg'⟩
 have keep:∀ {e:TypeId} {s m B:Nat} {v:Value} {xs:List Value},w.ownsRow B e s v m xs→e≠31→e≠103→gV (.slice eG eP eQ) v→w2.ownsRow B e s v m xs:=by
  intro e s m B v xs hv h1 h2 h3;have a:=dB hv hh.dX (fun k hk e=>by
   rcases e with e | e | e
   ·exact eF hv h.cell h1 k hk e
   ·exact eF hv hgc h2 k hk e
   ·rcases h3 with h3 | h3
    ·rw [h3] at e;cases e
    ·exact h3 (by rw [e,hk]))
  exact dB a (av.only (A:=fun k=>k=b) ho rfl) (eF hv h.cell h1)
 have new:∀ {e:TypeId} {s m B:Nat} {v:Value} {xs:List Value},w'.ownsRow B e s v m xs→e≠31→w2.ownsRow B e s v m xs:=fun hv h1=>dB hv (av.only (A:=fun k=>k=b) ho rfl) (eF hv hh.cell h1)
 have FO:∀ {e:TypeId} {s m B:Nat} {v:Value} {xs:List Value},w.ownsRow B e s v m xs→e≠52→gV (.slice eG eP eQ) v:=fun hv h1=>rJ hQ hv (Ne.symm h1)
 have lt0:∀ {e:TypeId} {s m:Nat} {v u:Value} {xs:List Value},w'.ownsRow w.heap.size e s v m xs→(∀ k,u.ownBlock=some k→k<w.heap.size)→gV v u:=fun hv hu=>(gV.lt hu (fun k hk=>(hv.lt k hk).1)).symm
 have hj:=(mV hl);have pq:∀ (i:Nat) (z:ax),i≠j→L[i]? = some z→gV (.slice eG eP eQ) z.qs.val:=by
  intro i z hij hz;have a:=List.pairwise_iff_getElem.1 h.m.ln.aq;have hil:=(mV hz);have e1:(QV L)[i]'(by unfold QV;simpa using hil)=z.qs.val:=by unfold QV;simp [(List.getElem?_eq_some_iff.1 hz).2]
  have e2:(QV L)[j]'(by unfold QV;simpa using hj)=.slice eG eP eQ:=by unfold QV;simp [(List.getElem?_eq_some_iff.1 hl).2,Sl.val]
  rcases Nat.lt_or_ge i j with h1 | h1
  ·have:=a i j (by unfold QV;simpa using hil) (by unfold QV;simpa using hj) h1
   rw [e1,e2] at this;exact this.symm
  ·have:=a j i (by unfold QV;simpa using hj) (by unfold QV;simpa using hil) (by omega)
   rw [e1,e2] at this;exact this
 have hln:LM w2 base (L.set j ⟨IntKind.u32.wrap (bz+1),qs,lq++[aF.mk g j bz ag au rs ds (sW (fun x:Row=>x.key) ag au T) (sW (fun x:ak=>x.key) ag au D)]⟩):=by
  have hrm:RM w2 base (mH L):=⟨fun r hr=>keep (h.m.ln.rm.rows r hr) (by decide) (by decide) (FO (h.m.ln.rm.rows r hr) (by decide)),fun r hr=>keep (h.m.ln.rm.bP r hr) (by decide) (by decide) (FO (h.m.ln.rm.bP r hr) (by decide)),h.m.ln.rm.ar,h.m.ln.rm.ad⟩;have hoth:∀ (i:Nat) (z:ax),i≠j→L[i]? = some z→w2.ownsRow base 52 7 z.qs.val z.q.length (z.q.map aF.cells).flatten:=fun i z hij hz=>keep (h.m.ln.own z (List.mem_of_getElem? hz)) (by decide) (by decide) (pq i z hij hz)
  exact LM.join' h.m.ln.aq hrm hl (new hh.oQ (by decide)) (fun i z hij hz=>by
   rcases hh.fQ with e | e
   ·unfold gV;rw [e];exact pq i z hij hz
   ·exact (gV.lt (fun k hk=>((h.m.ln.own z (List.mem_of_getElem? hz)).lt k hk).2) e).symm) (dE (new hh.oR (by decide)) hb) (dE (new hh.oS (by decide)) hb) (fun v hv=>lt0 hh.oR (fun k hk=>(h.m.ln.rm.GH hv k hk).2)) (fun v hv=>lt0 hh.oS (fun k hk=>(h.m.ln.rm.GI hv k hk).2)) hoth
 refine ⟨⟨hw,h.b1,dE (new hh.oT (by decide)) hb,keep hM (by decide) (by decide) (FO hM (by decide)),dE (new hh.oD (by decide)) hb,?_,keep h.m.oI (by decide) (by decide) (FO h.m.oI (by decide)),hln,fun v hv=>?_,fun v hv=>?_⟩,?_,fun k hk=>?_⟩
 ·rw [List.length_set];exact new hh.oO (by decide)
 ·rcases Xz hl v hv with rfl | hv
  ·exact hh.aT
  ·exact lt0 hh.oT (fun k hk=>(h.m.ln.rm.GH hv k hk).2)
 ·rcases XA hl v hv with rfl | hv
  ·exact hh.aD
  ·exact lt0 hh.oD (fun k hk=>(h.m.ln.rm.GI hv k hk).2)
 ·refine (hh.dX.mono (fun k _ e=>?_)).trans (av.only ho (.inl rfl))
  rcases e with e | e | e
  ·exact .inl e
  ·exact .inr (.inr (.inr (.inr (.inl (by rw [e];rfl)))))
  ·exact .inr (.inr (.inr (.inr (.inr (.inr (.inl ⟨_,List.mem_map.2 ⟨_,List.mem_of_getElem? hl,rfl⟩,e⟩))))))
 ·rcases hk with hk | hk | hk | hk | hk | hk | ⟨v,hv,hk⟩ | ⟨v,hv,hk⟩ | ⟨v,hv,hk⟩
  ·exact .inl (.inl hk)
  ·exact .inr (.inr (hh.oT.lt k hk).1)
  ·exact .inr (.inl hk)
  ·exact .inr (.inr (hh.oD.lt k hk).1)
  ·exact .inl (.inr (.inr (.inr (.inr (.inl hk)))))
  ·exact .inl (.inr (.inr (.inr (.inr (.inr (.inl hk))))))
  ·unfold QV at hv
   obtain ⟨z,hz,rfl⟩:=List.mem_map.1 hv;obtain ⟨i,hi⟩:=List.getElem?_of_mem hz;by_cases hij:i=j
   ·subst hij
    rw [List.getElem?_set_self hj] at hi;simp at hi;subst hi;rcases hh.fQ with e | e
    ·exact .inl (.inr (.inr (.inr (.inr (.inr (.inr (.inl ⟨_,List.mem_map.2 ⟨_,List.mem_of_getElem? hl,rfl⟩,by rw [← hk];exact e.symm⟩)))))))
    ·exact .inr (.inr (e k hk))
   ·rw [List.getElem?_set_ne (Ne.symm hij)] at hi
    exact .inl (.inr (.inr (.inr (.inr (.inr (.inr (.inl ⟨_,List.mem_map.2 ⟨z,List.mem_of_getElem? hi,rfl⟩,hk⟩)))))))
  ·rcases Xz hl v hv with rfl | hv
   ·exact .inr (.inr (hh.oR.lt k hk).1)
   ·exact .inl (.inr (.inr (.inr (.inr (.inr (.inr (.inr (.inl ⟨v,hv,hk⟩))))))))
  ·rcases XA hl v hv with rfl | hv
   ·exact .inr (.inr (hh.oS.lt k hk).1)
   ·exact .inl (.inr (.inr (.inr (.inr (.inr (.inr (.inr (.inr ⟨v,hv,hk⟩))))))))
end
end Go.Proofs.YtignemioillaiaaGreat
