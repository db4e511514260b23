/- The book: the lists of a shard. -/
import Derived.Test.YtignemioillaiaaGreatG39
import Derived.Test.YtignemioillaiaaGreatG40
import Derived.Test.YtignemioillaiaaGreatG41
namespace Go.Proofs.YtignemioillaiaaGreat
set_option maxHeartbeats 8000000
set_option maxRecDepth 100000
section
open Go.RowKit Go.Lib
theorem Fr.dX {A:Nat→Prop} {w w':World} (h:Fr A w w'):av A w w':=⟨h.os,h.tape,h.output,h.size,h.block⟩
structure Gr (vT vM vD vO vI:Value) (L:List ax) (E:Fin 7→List (Sl×Int)):Prop where
 t:dH vT.ownBlock (E 0)
 m:dH vM.ownBlock (E 2)
 d:dH vD.ownBlock (E 1)
 o:dH vO.ownBlock (E 4)
 i:dH vI.ownBlock (E 6)
 q:∀ l∈L,dH l.qs.val.ownBlock (E 5)
 r:∀ l∈L,∀ r∈l.q,dH r.rs.val.ownBlock (E 0)
 s:∀ l∈L,∀ r∈l.q,dH r.ds.val.ownBlock (E 1)
section
variable {w w1:World} {K n d:Nat} {S M S1 M1:Fin 7→Value} {E E1:Fin 7→List (Sl×Int)} {A:Nat→Prop}
theorem jA.carry (j:Fin 7) {i:Fin 7} {b size m:Nat} {v:Value} {xs:List Value} (hB:Bk w K n S M E) (h:jA K A d w w1 S M E S1 M1 E1) (hv:w.ownsRow b (F3 j) size v m xs) (hA:∀ k,v.ownBlock=some k→¬ A k) (ho:dH v.ownBlock (E i)):w1.ownsRow b (F3 j) size v m xs∧dH v.ownBlock (E1 i):=by
 have hna:=hB.apart hv hA;refine ⟨Ae hv h.fr hna,?_⟩;cases hb:v.ownBlock with
 | none=>exact fun _ _ _ _ _ _ e=>by cases e
 | some c =>
  rw [hb] at ho;exact h.off i c (hv.lt c hb).2 (hna c hb) ho
theorem Bk.box {b:Nat} {cur:Array Value} {fz:Nat×Nat} (hB:Bk w K n S M E) (hb:w.heap[b]? = some (.cells cur 31 fz)) (hA:¬ A b):¬ uY K S M A b:=by
 have Rj:∀ i:Fin 7,He i≠31:=by decide
 rintro (e | e | ⟨i,e | e⟩)
 ·subst e
  rw [hB.blk] at hb;injection hb with hb;injection hb with _ hb _;exact absurd hb (by decide)
 ·exact hA e
 ·exact bf (hB.oC i).own hb (Rj i) e.symm
 ·exact bf (hB.oC i).marks hb (by decide) e.symm
end
theorem jy {w:World} {b b':Nat} {e e':TypeId} {z z' m m':Nat} {v v':Value} {xs xs':List Value} (h:w.ownsRow b e z v m xs) (h':w.ownsRow b' e' z' v' m' xs') (hne:e≠e') {k:Nat} (hk:v.ownBlock=some k):¬ some k=v'.ownBlock:=by
 intro e2;rcases dI h h' hne with h5 | h5
 ·rw [hk] at h5;cases h5
 ·exact h5 (hk.trans e2)
theorem J9 {v v':Value} (h:gV v v') {k:Nat} (hk:v.ownBlock=some k):¬ some k=v'.ownBlock:=by
 intro e2;rcases h with h5 | h5
 ·rw [hk] at h5;cases h5
 ·exact h5 (hk.trans e2)
theorem Rk {L:List ax} {f:aF→Value} (h:((mH L).map f).Pairwise gV):(∀ l∈L,(l.q.map f).Pairwise gV)∧∀ (i k:Nat) (l l':ax),i<k→L[i]? = some l→L[k]? = some l'→∀ r∈l.q,∀ r'∈l'.q,gV (f r) (f r'):=by
 unfold mH at h;rw [List.map_flatMap,List.pairwise_flatMap] at h;refine ⟨fun l hl=>h.1 l hl,fun i k l l' hik hl hl' r hr r' hr'=>?_⟩;exact Ao h.2 hik hl hl' (f r) (List.mem_map.2 ⟨r,hr,rfl⟩) (f r') (List.mem_map.2 ⟨r',hr',rfl⟩)
def AB (vT vM vD vI:Value) (L:List ax) (b:Nat):Prop:=(((some b=vT.ownBlock∨some b=vM.ownBlock)∨some b=vD.ownBlock)∨some b=vI.ownBlock)∨∃ l∈L,AQ l.qs.val l.q b
theorem Uf (K n:Nat) (S M:Fin 7→Value) (E:Fin 7→List (Sl×Int)) (g gn:Int) (ta:Option Addr) (tn tc:Nat) (ma:Option Addr) (mn mc:Nat) (da:Option Addr) (dn dc:Nat) (oa:Option Addr) (on oc:Nat) (ia:Option Addr) (il ic:Nat) (T:List Row) (Mp:List Pc) (D:List ak) (L:List ax) (I:List Int) (w:World) (hB:Bk w K n S M E) (h:ShM w 0 (.slice ta tn tc) (.slice ma mn mc) (.slice da dn dc) (.slice oa on oc) (.slice ia il ic) T Mp D L I) (ho:Gr (.slice ta tn tc) (.slice ma mn mc) (.slice da dn dc) (.slice oa on oc) (.slice ia il ic) L E) (hn:n≤8000000) (hE:∀ i,(E i).length≤70000000)
 (hL4:L.length≤4) (hq4:∀ l∈L,l.q.length≤4) (gY:T.length≤1000000) (hlM:Mp.length≤1000000) (gU:D.length≤1000000) (hlI:I.length≤1000000) (hlr:∀ l∈L,∀ r∈l.q,r.rows.length≤10000000∧r.bP.length≤10000000) :
 Calls Tryz.prog 16 #[.pointer (some ⟨K,0,none⟩),.agg (rS g gn ta tn tc ma mn mc da dn dc oa on oc ia il ic).toArray] w fun e w'=>e=.returned (.tuple #[])∧∃ (S' M':Fin 7→Value) (E':Fin 7→List (Sl×Int)) (n':Nat),Bk w' K n' S' M' E'∧n'≤n+41∧jA K (nJ K (.slice ta tn tc) (.slice ma mn mc) (.slice da dn dc) (.slice oa on oc) (.slice ia il ic) L) 164 w w' S M E S' M' E':=by
 obtain rfl:tn=T.length:=pO h.oT;obtain rfl:mn=Mp.length:=pO h.oM;obtain rfl:dn=D.length:=pO h.oD;obtain rfl:on=L.length:=pO h.oO;obtain rfl:il=I.length:=pO h.oI;obtain ⟨tn,htn⟩:∃ tn,tn=T.length:=⟨_,rfl⟩;obtain ⟨mn,Am⟩:∃ mn,mn=Mp.length:=⟨_,rfl⟩;obtain ⟨dn,hdn⟩:∃ dn,dn=D.length:=⟨_,rfl⟩;obtain ⟨on,hon⟩:∃ on,on=L.length:=⟨_,rfl⟩;obtain ⟨il,hil⟩:∃ il,il=I.length:=⟨_,rfl⟩;rw [← htn,← Am,← hdn,← hon,← hil] at h ho ⊢;obtain ⟨W,hW⟩:∃ W,W=w.alloc (.cells (rS g gn ta tn tc ma mn mc da dn dc oa on oc ia il ic).toArray 31):=⟨_,rfl⟩;have hb0:Below w.heap.size w W:=by rw [hW];exact aj w _
 have h3:W.heap[w.heap.size]? = some (.cells (rS g gn ta tn tc ma mn mc da dn dc oa on oc ia il ic).toArray 31):=by rw [hW];exact heap_alloc_new w _
 have Mk:K<w.heap.size:=(df hB.blk);obtain ⟨b3,hb3⟩:∃ b3,w.heap.size=b3:=⟨_,rfl⟩;have h3':W.heap[b3]? = some (.cells (rS g gn ta tn tc ma mn mc da dn dc oa on oc ia il ic).toArray 31):=by rw [← hb3];exact h3
 have OW:b3≠K:=by omega
 have HB:=ae (hB.later hb0);have HM:=ae (h.later hb0);have HO:=ae ho;have H3:=ae h3';have HB0:=ae hb0;have HE:=ae hE;have Pz:=ae hq4;have HLR:=ae hlr;have HTN:=ae htn;have Vl:=ae Am;have uK:=ae hdn;have NN:=ae hon;have TN:=ae hil;have Br:=ae hb3;have bx:∀ {A:Nat→Prop},(∀ k,A k→k<w.heap.size)→¬ A b3:=fun hA e=>by have:=hA b3 e;omega
 have oT':W.ownsRow 0 128 2 (.slice ta tn tc) tn (T.map Row.cells).flatten:=by have:=HM.out.oT;rw [← htn] at this;exact this
 have oM':W.ownsRow 0 107 2 (.slice ma mn mc) mn (Mp.map Pc.cells).flatten:=by have:=HM.out.oM;rw [← Am] at this;exact this
 have oD':W.ownsRow 0 57 7 (.slice da dn dc) dn (D.map ak.cells).flatten:=by have:=HM.out.oD;rw [← hdn] at this;exact this
 have oI':W.ownsRow 0 47 1 (.slice ia il ic) il (I.map yA).flatten:=by have:=HM.out.oI;rw [← hil] at this;exact this
 have oO':W.ownsRow 0 103 2 (.slice oa on oc) on (L.map ax.cells).flatten:=by have:=HM.out.oO;rw [← hon] at this;exact this
 have Rl:∀ {e:TypeId} {z m:Nat} {v:Value} {xs:List Value},w.ownsRow 0 e z v m xs→∀ k,some k=v.ownBlock→k<w.heap.size:=fun hv k hk=>(hv.lt k hk.symm).2
 have tT:=Rl h.oT;have tM:=Rl h.oM;have tD:=Rl h.oD;have tI:=Rl h.oI;have HT:=ae oT';have HP:=ae oM';have HD:=ae oD';have HI:=ae oI';have AZ:=ae oO';have hbt:tn≤10000000:=by omega
 have Ug:mn≤10000000:=by omega
 have hbd:dn≤10000000:=by omega
 have hbi:il≤10000000:=by omega
 have zw:Hid (on≤4):=ae (by omega);have hcW:=ah h3';have HX:=ae (And.intro tT (And.intro tM (And.intro tD (And.intro tI (fun l (hl:l∈L) k (hk:AQ l.qs.val l.q k)=>(show k<w.heap.size from by
  rcases hk with ⟨r,hr,hk⟩ | hk
  ·rcases hk with hk | hk
   ·exact Rl (h.ln.rm.rows r (kY hl hr)) k hk
   ·exact Rl (h.ln.rm.bP r (kY hl hr)) k hk
  ·exact Rl (h.ln.own l hl) k hk))))))
 clear hB h ho hE hq4 hlr htn Am hdn hon hil h3 h3' hb0 oT' oM' oD' oI' oO' tT tM tD tI Rl hb3;go_enter Tryz.func16,Tryz.ntmps16
 go_upto_region 1 with fail
 rw [← hW];clear hW;have aeB:=Br.out;rw [aeB];clear aeB;go_upto_region 2 with (first
  | (go_at_call 52;go_must (refine (Yz K n S M E ta tn tc _ _ HB.out HT.out HO.out.t (by omega) hbt (Nat.le_trans (HE.out 0) (by omega))).mono ?_;rintro e w1 ⟨rfl,S1,M1,E1,hB1,hT1⟩;have HB1:=ae hB1;have HT1:=ae hT1;clear hB1 hT1)))
 have n1:¬ (fun b=>some b=Value.ownBlock (.slice ta tn tc)) b3:=bx (A:=fun b=>some b=Value.ownBlock (.slice ta tn tc)) HX.out.1;have h31:=J7 H3.out HT1.out.fr (HB.out.box H3.out n1);have c1M:=jA.carry 2 (i:=2) HB.out HT1.out HP.out (fun k hk=>jy HP.out HT.out (by decide) hk) HO.out.m;have wB:=ae c1M;have rX:=ae HT1.out.len;clear hcW c1M;have hcW:=ah h31;go_upto_region 3 with (first
  | (go_at_call 54;go_must (refine (aaa K (n+1) S1 M1 E1 ma mn mc _ _ HB1.out wB.out.1 wB.out.2 (by omega) Ug (Nat.le_trans (rX.out 2) (by have:=HE.out 2;omega))).mono ?_;rintro e w2 ⟨rfl,S2,M2,E2,hB2,qY⟩;have HB2:=ae hB2;have HT2:=ae (HT1.out.trans qY);clear hB2 qY)))
 have n2:¬ (fun b=>some b=Value.ownBlock (.slice ta tn tc)∨some b=Value.ownBlock (.slice ma mn mc)) b3:=bx (A:=fun b=>some b=Value.ownBlock (.slice ta tn tc)∨some b=Value.ownBlock (.slice ma mn mc)) (by rintro k (hk | hk);exact HX.out.1 k hk;exact HX.out.2.1 k hk);have h32:=J7 H3.out HT2.out.fr (HB.out.box H3.out n2);have c2D:=jA.carry 1 (i:=1) HB.out HT2.out HD.out (fun k hk e=>by rcases e with e | e;exact jy HD.out HT.out (by decide) hk e;exact jy HD.out HP.out (by decide) hk e) HO.out.d;have lH:=ae c2D;have HL2:=ae HT2.out.len;clear hcW c2D h31;have hcW:=ah h32;go_upto_region 4 with (first
  | (go_at_call 53;go_must (refine (Uc K (n+1+1) S2 M2 E2 da dn dc _ _ HB2.out lH.out.1 lH.out.2 (by omega) hbd (Nat.le_trans (HL2.out 1) (by have:=HE.out 1;omega))).mono ?_;rintro e w3 ⟨rfl,S3,M3,E3,hB3,nV⟩;have HB3:=ae hB3;have HT3:=ae (HT2.out.trans nV);clear hB3 nV)))
 have n3:¬ (fun b=>(some b=Value.ownBlock (.slice ta tn tc)∨some b=Value.ownBlock (.slice ma mn mc))∨some b=Value.ownBlock (.slice da dn dc)) b3:=bx (A:=fun b=>(some b=Value.ownBlock (.slice ta tn tc)∨some b=Value.ownBlock (.slice ma mn mc))∨some b=Value.ownBlock (.slice da dn dc)) (by rintro k ((hk | hk) | hk);exact HX.out.1 k hk;exact HX.out.2.1 k hk;exact HX.out.2.2.1 k hk);have Q8:=J7 H3.out HT3.out.fr (HB.out.box H3.out n3);have c3I:=jA.carry 6 (i:=6) HB.out HT3.out HI.out (fun k hk e=>by rcases e with (e | e) | e;exact jy HI.out HT.out (by decide) hk e;exact jy HI.out HP.out (by decide) hk e;exact jy HI.out HD.out (by decide) hk e) HO.out.i;have aiI:=HT3.out.len 6;have he6:=HE.out 6;clear hcW h32;refine ace rfl K (n+1+1+1) (S3 0) (S3 1) (S3 2) (S3 3) (S3 4) (S3 5) (S3 6) (M3 0) (M3 1) (M3 2) (M3 3) (M3 4) (M3 5) (M3 6) (E3 6) ia il ic _ w3 HB3.out.blk (HB3.out.oC 6) c3I.1 c3I.2 (by omega) hbi (by omega) b3 _ Q8 rfl OW _ ?_ (by first | assumption | exact fun _ _ h=>h);intro S' M' R' w4 v1 v2 v4 v5 v6 v7 v8 v9 PK PL PM PN PO PQ XX PR PS PT PU PV PW PX GQ GR JF DY XY XZ X0 X3 X4 PY PZ P6 P7 P8 Qa Qb Qc Qd Qe Qf Qg Qh Qi Qj Qk Ql Qm Qn Qo Qp Qq Qr Qs Qt Qu Qv Qw Qx Qy Qz QA QB QC X5 X6 QD QE QF QG QH QI QJ QK QL QM QN QO QP QQ QR QS QT QU QW QX QY QZ Q3 Q4 Q5 JG JH JI JJ JK JL DZ D5 D6 D7 D8 D9 Ea Eb Ec Ed Ee Ef Eg Eh Ei Ej El Em En Eo Ep Er Es Et Eu Ev Ew Ex Ey Ez EA EB EC ED EE EF EG EH EI EJ EK EL EN EO EP ER ET EU EW EX EY EZ BH BI BJ BK BL BM BN hK hC hl hF hO hS hM;have fD:=ae (HB3.out.add 6 (by decide) c3I.1 hK hC hF hM);have SC:=ae (HT3.out.trans (jA.one (A:=fun b=>some b=Value.ownBlock (.slice ia il ic)) 6 (fun _ e=>e) hF hO hS hM hl));obtain ⟨S4,hS4⟩:∃ S4,S4=upd S3 6 S':=⟨_,rfl⟩;obtain ⟨M4,hM4⟩:∃ M4,M4=upd M3 6 M':=⟨_,rfl⟩;obtain ⟨E4,hE4⟩:∃ E4,E4=upd E3 6 R':=⟨_,rfl⟩;rw [← hS4,← hM4,← hE4] at fD SC;clear hK hC hl hF hO hS hM hS4 hM4 hE4 c3I Q8 aiI he6 HB1 HB2 HB3 HT1 HT2 HT3 wB lH rX HL2;have HST:Hid (jA K (AB (.slice ta tn tc) (.slice ma mn mc) (.slice da dn dc) (.slice ia il ic) (L.take 0)) 16 W w4 S M E S4 M4 E4):=ae (SC.out.mono (fun b _ hb=>.inl hb) (by omega));clear SC;go_wp2_with fail
 go_loopw [8] (fun i wr=>∃ (k nk:Nat) (S5 M5:Fin 7→Value) (E5:Fin 7→List (Sl×Int)),k≤on∧i=.int .i64 k∧nk≤n+4+9*k∧Hid (Bk wr K nk S5 M5 E5)∧Hid (jA K (AB (.slice ta tn tc) (.slice ma mn mc) (.slice da dn dc) (.slice ia il ic) (L.take k)) (16+36*k) W wr S M E S5 M5 E5)) (fun i _=>on - (intOf i).toNat)
 case atStart=>exact ⟨0,_,S4,M4,E4,Nat.zero_le _,rfl,by omega,fD,HST⟩
 case round =>
  clear HST fD;obtain ⟨k,nk,S5,M5,E5,hk,rfl,hnk,fu,Jh⟩:=hrel;have al4:on≤4:=zw.out;have aeC:∀ b,(AB (.slice ta tn tc) (.slice ma mn mc) (.slice da dn dc) (.slice ia il ic) (L.take k)) b→b<w.heap.size:=by
   rintro b ((((hb | hb) | hb) | hb) | ⟨l,hl,hb⟩)
   ·exact HX.out.1 b hb
   ·exact HX.out.2.1 b hb
   ·exact HX.out.2.2.1 b hb
   ·exact HX.out.2.2.2.1 b hb
   ·exact HX.out.2.2.2.2 l (List.mem_of_mem_take hl) b hb
  have NP:=J7 H3.out Jh.out.fr (HB.out.box H3.out (bx (A:=(AB (.slice ta tn tc) (.slice ma mn mc) (.slice da dn dc) (.slice ia il ic) (L.take k))) aeC));have hcW:wr.cell? ⟨b3,5,none⟩=some (.slice oa on oc):=ah NP 5;have naO:∀ c,Value.ownBlock (.slice oa on oc)=some c→¬ (AB (.slice ta tn tc) (.slice ma mn mc) (.slice da dn dc) (.slice ia il ic) (L.take k)) c:=by
   rintro c hc ((((hb | hb) | hb) | hb) | ⟨l,hl,⟨r,hr,hb | hb⟩ | hb⟩)
   ·exact jy AZ.out HT.out (by decide) hc hb
   ·exact jy AZ.out HP.out (by decide) hc hb
   ·exact jy AZ.out HD.out (by decide) hc hb
   ·exact jy AZ.out HI.out (by decide) hc hb
   ·exact jy AZ.out (HM.out.ln.rm.rows r (kY (List.mem_of_mem_take hl) hr)) (by decide) hc hb
   ·exact jy AZ.out (HM.out.ln.rm.bP r (kY (List.mem_of_mem_take hl) hr)) (by decide) hc hb
   ·exact jy AZ.out (HM.out.ln.own l (List.mem_of_mem_take hl)) (by decide) hc hb
  have o9:=ae (jA.carry 4 (i:=4) HB.out Jh.out AZ.out naO HO.out.o);clear naO aeC;have H35:=ae NP;clear NP;by_cases hlt:k<on
  ·have hdk:decide ((k:Int)<(on:Int))=true:=by simp;omega
   obtain ⟨l,hl⟩:∃ l,L[k]? = some l:=⟨L[k]'(by rw [← NN.out];exact hlt),by simp⟩;have hmem:=List.mem_of_getElem? hl;obtain ⟨go,hga,hmm,hgl,hgc⟩:=Bj (f:=ax.cells) (l:=L) (size:=2) (by rw [← NN.out];exact o9.out.1) (fun _=>rfl) hl;obtain rfl:oa=some ⟨go,0,none⟩:=hga;have KO:∀ l'∈L.take k,∃ i,i<k∧L[i]? = some l':=fun l' hl'=>by
    obtain ⟨i,hi,rfl⟩:=List.getElem_of_mem hl';rw [List.length_take] at hi;exact ⟨i,by omega,by rw [List.getElem_take];exact List.getElem?_eq_getElem (by omega)⟩
   have FO:∀ l'∈L.take k,gV l.qs.val l'.qs.val:=fun l' hl'=>by
    obtain ⟨i,hi,YC⟩:=KO l' hl';exact (Ao HM.out.ln.aq hi (by unfold QV;simp [YC]) (by unfold QV;simp [hl])).symm
   have rp:=Rk (f:=fun r=>r.rs.val) HM.out.ln.rm.ar;have dp:=Rk (f:=fun r=>r.ds.val) HM.out.ln.rm.ad;have naQ:∀ c,l.qs.val.ownBlock=some c→¬ (AB (.slice ta tn tc) (.slice ma mn mc) (.slice da dn dc) (.slice ia il ic) (L.take k)) c:=by
    have hq:=HM.out.ln.own l hmem;rintro c hc ((((hb | hb) | hb) | hb) | ⟨l',hl',⟨r,hr,hb | hb⟩ | hb⟩)
    ·exact jy hq HT.out (by decide) hc hb
    ·exact jy hq HP.out (by decide) hc hb
    ·exact jy hq HD.out (by decide) hc hb
    ·exact jy hq HI.out (by decide) hc hb
    ·exact jy hq (HM.out.ln.rm.rows r (kY (List.mem_of_mem_take hl') hr)) (by decide) hc hb
    ·exact jy hq (HM.out.ln.rm.bP r (kY (List.mem_of_mem_take hl') hr)) (by decide) hc hb
    ·exact J9 (FO l' hl') hc hb
   have naR:∀ r∈l.q,∀ c,r.rs.val.ownBlock=some c→¬ (AB (.slice ta tn tc) (.slice ma mn mc) (.slice da dn dc) (.slice ia il ic) (L.take k)) c:=by
    intro r hr;have hq:=HM.out.ln.rm.rows r (kY hmem hr);rintro c hc ((((hb | hb) | hb) | hb) | ⟨l',hl',⟨r',hr',hb | hb⟩ | hb⟩)
    ·exact J9 (HM.out.aT _ (List.mem_map.2 ⟨r,kY hmem hr,rfl⟩)).symm hc hb
    ·exact jy hq HP.out (by decide) hc hb
    ·exact jy hq HD.out (by decide) hc hb
    ·exact jy hq HI.out (by decide) hc hb
    ·obtain ⟨i,hi,YC⟩:=KO l' hl'
     exact J9 (rp.2 i k l' l hi YC hl r' hr' r hr).symm hc hb
    ·exact jy hq (HM.out.ln.rm.bP r' (kY (List.mem_of_mem_take hl') hr')) (by decide) hc hb
    ·exact jy hq (HM.out.ln.own l' (List.mem_of_mem_take hl')) (by decide) hc hb
   have naD:∀ r∈l.q,∀ c,r.ds.val.ownBlock=some c→¬ (AB (.slice ta tn tc) (.slice ma mn mc) (.slice da dn dc) (.slice ia il ic) (L.take k)) c:=by
    intro r hr;have hq:=HM.out.ln.rm.bP r (kY hmem hr);rintro c hc ((((hb | hb) | hb) | hb) | ⟨l',hl',⟨r',hr',hb | hb⟩ | hb⟩)
    ·exact jy hq HT.out (by decide) hc hb
    ·exact jy hq HP.out (by decide) hc hb
    ·exact J9 (HM.out.aD _ (List.mem_map.2 ⟨r,kY hmem hr,rfl⟩)).symm hc hb
    ·exact jy hq HI.out (by decide) hc hb
    ·exact jy hq (HM.out.ln.rm.rows r' (kY (List.mem_of_mem_take hl') hr')) (by decide) hc hb
    ·obtain ⟨i,hi,YC⟩:=KO l' hl'
     exact J9 (dp.2 i k l' l hi YC hl r' hr' r hr).symm hc hb
    ·exact jy hq (HM.out.ln.own l' (List.mem_of_mem_take hl')) (by decide) hc hb
   have Vg:=ae (jA.carry 5 (i:=5) HB.out Jh.out (HM.out.ln.own l hmem) naQ (HO.out.q l hmem));have Su:Hid (RM wr 0 l.q):=ae ⟨fun r hr=>(jA.carry 0 (i:=0) HB.out Jh.out (HM.out.ln.rm.rows r (kY hmem hr)) (naR r hr) (HO.out.r l hmem r hr)).1,fun r hr=>(jA.carry 1 (i:=1) HB.out Jh.out (HM.out.ln.rm.bP r (kY hmem hr)) (naD r hr) (HO.out.s l hmem r hr)).1,rp.1 l hmem,dp.1 l hmem⟩;have HOR:Hid (∀ r∈l.q,dH r.rs.val.ownBlock (E5 0)):=ae fun r hr=>(jA.carry 0 (i:=0) HB.out Jh.out (HM.out.ln.rm.rows r (kY hmem hr)) (naR r hr) (HO.out.r l hmem r hr)).2
   have MW:Hid (∀ r∈l.q,dH r.ds.val.ownBlock (E5 1)):=ae fun r hr=>(jA.carry 1 (i:=1) HB.out Jh.out (HM.out.ln.rm.bP r (kY hmem hr)) (naD r hr) (HO.out.s l hmem r hr)).2
   have hq4:=Pz.out l hmem;have Vf:=ae (HLR.out l hmem);have HLK:=ae hl;obtain ⟨lnx,⟨la,ln,lc⟩,lq⟩:=l;have hx1:wr.cell? ⟨go,k*2+1,none⟩=some (.slice la ln lc):=hgc 1 _ rfl;have hi1:(0:Int)≤(k:Int):=by omega
   have hi2:(k:Int)<(on:Int):=by omega
   have HEN:Hid (∀ i,(E5 i).length+8*lq.length≤80000000):=ae fun i=>by have h1:=Jh.out.len i;have h2:=HE.out i;have:=zw.out;dsimp only at hq4;omega
   have HNK:Hid (nk+2*lq.length+1≤9000000):=ae (by have:=zw.out;dsimp only at hq4;omega);have HQX:Hid (lq.length≤4):=ae hq4;clear hgc hmm hl hmem KO FO rp dp naQ naR naD hq4;go_wp2_with (first
    | (go_at_call 55;go_must (refine (aad K nk S5 M5 E5 la ln lc lq _ fu.out Vg.out.1 Su.out Vg.out.2 HOR.out MW.out HNK.out (by have:=HQX.out;omega) Vf.out HEN.out).mono ?_;rintro e w6 ⟨rfl,S6,M6,E6,hB6,hT6⟩;have xR:=ae hB6;have Pm:=ae hT6;clear hB6 hT6)))
   go_roundw
   case rel =>
    refine ⟨k+1,nk+2*lq.length+1,S6,M6,E6,by omega,by go_num,by have:=HQX.out;omega,xR,?_⟩;refine (Jh.out.trans Pm.out).mono (fun b _ hb=>?_) (by have:=HQX.out;omega);have htk:L.take (k+1)=L.take k++[ax.mk lnx ⟨la,ln,lc⟩ lq]:=by rw [List.take_add_one,HLK.out];rfl
    rcases hb with hb | hb
    ·rcases hb with hb | ⟨l',hl',hb⟩
     ·exact .inl hb
     ·exact .inr ⟨l',by rw [htk];exact List.mem_append_left _ hl',hb⟩
    ·exact .inr ⟨ax.mk lnx ⟨la,ln,lc⟩ lq,by rw [htk];exact List.mem_append_right _ (by simp),hb⟩
   case measure=>simp [intOf];omega
  ·have hdk:decide ((k:Int)<(on:Int))=false:=by simp;omega
   obtain rfl:k=on:=by omega
   have L8:L.take k=L:=List.take_of_length_le (by have:=NN.out;omega);rw [L8] at Jh;have hl4:=Jh.out.len 4;have he4:=HE.out 4;have hln:=zw.out;have aeG:=o9.out.1;go_upto_region 21 with fail
   refine acb rfl K nk (S5 0) (S5 1) (S5 2) (S5 3) (S5 4) (S5 5) (S5 6) (M5 0) (M5 1) (M5 2) (M5 3) (M5 4) (M5 5) (M5 6) (E5 4) oa k oc _ wr fu.out.blk (fu.out.oC 4) aeG o9.out.2 (by omega) (by omega) (by omega) b3 _ H35.out rfl OW _ ?_ (by first | assumption | exact fun _ _ h=>h);intro S' M' R' w' hK hC hl hF hO hS hM;refine ⟨_,_,_,nk+1,fu.out.add 4 (by decide) aeG hK hC hF hM,by omega,jA.before HB0.out ((Jh.out.trans (jA.one (A:=fun b=>some b=Value.ownBlock (.slice oa k oc)) 4 (fun _ e=>e) hF hO hS hM hl)).mono (fun b _ hb=>?_) (by omega))⟩;rcases hb with ((((hb | hb) | hb) | hb) | ⟨l,hl,⟨r,hr,hb | hb⟩ | hb⟩) | hb
   ·exact .inr (.inl hb.symm)
   ·exact .inr (.inr (.inl hb.symm))
   ·exact .inr (.inr (.inr (.inl hb.symm)))
   ·exact .inr (.inr (.inr (.inr (.inr (.inl hb.symm)))))
   ·exact .inr (.inr (.inr (.inr (.inr (.inr (.inr (.inl ⟨_,List.mem_map.2 ⟨r,kY hl hr,rfl⟩,hb.symm⟩)))))))
   ·exact .inr (.inr (.inr (.inr (.inr (.inr (.inr (.inr ⟨_,List.mem_map.2 ⟨r,kY hl hr,rfl⟩,hb.symm⟩)))))))
   ·exact .inr (.inr (.inr (.inr (.inr (.inr (.inl ⟨_,List.mem_map.2 ⟨l,hl,rfl⟩,hb.symm⟩))))))
   ·exact .inr (.inr (.inr (.inr (.inl hb.symm))))
end
end Go.Proofs.YtignemioillaiaaGreat
