/- shard.settle, whole. -/
import Derived.Test.YtignemioillaiaaGreatG20
namespace Go.Proofs.YtignemioillaiaaGreat
set_option maxHeartbeats 8000000
set_option maxRecDepth 100000
section
open Go.RowKit Go.Lib
def keepR (sq:Int) (q:List Rg):List Rg:=q.filter fun r=>!decide (r.seq≤sq)
theorem XL (sq:Int) (q:List aF):(su sq q).map aF.core=keepR sq (q.map aF.core):=by
 unfold su keepR yV;rw [List.filter_map];rfl
def qU (s:St) (peer sq:Int):St:=if peer<s.n then { s with O:=s.O.set peer.toNat ((qJ s.O peer).1,keepR sq (qJ s.O peer).2) } else s
theorem Tf {L:List ax} {j:Nat} {l l':ax} (h:L[j]? = some l) (hs:l'.q.Sublist l.q):(mH (L.set j l')).Sublist (mH L):=by
 rw [Ip h,A7 h];exact ((List.Sublist.refl _).append hs).append (List.Sublist.refl _)
theorem LM.cut {w:World} {base j:Nat} {L:List ax} {l l':ax} (haq:(QV L).Pairwise gV) (hrm:RM w base (mH L)) (hl:L[j]? = some l) (hs:l'.q.Sublist l.q) (hq:w.ownsRow base 52 7 l'.qs.val l'.q.length (l'.q.map aF.cells).flatten) (hb:l'.qs.val.ownBlock=l.qs.val.ownBlock)
 (hown:∀ (i:Nat) (z:ax),i≠j→L[i]? = some z→w.ownsRow base 52 7 z.qs.val z.q.length (z.q.map aF.cells).flatten):LM w base (L.set j l'):=by
 have hj:=(mV hl);have sub:=Tf hl hs;refine ⟨fun x hx=>?_,?_,⟨fun r hr=>hrm.rows r (sub.subset hr),fun r hr=>hrm.bP r (sub.subset hr),hrm.ar.sublist (sub.map _),hrm.ad.sublist (sub.map _)⟩⟩
 ·obtain ⟨i,hi⟩:=List.getElem?_of_mem hx
  by_cases hij:i=j
  ·subst hij
   rw [List.getElem?_set_self hj] at hi;simp at hi;subst hi;exact hq
  ·rw [List.getElem?_set_ne (Ne.symm hij)] at hi
   exact hown i x hij hi
 ·have:QV (L.set j l')=(QV L).set j l'.qs.val:=by unfold QV;rw [List.map_set]
  rw [this];have hlj:(QV L)[j]? = some l.qs.val:=by unfold QV;simp [hl]
  refine Xy (R:=gV) (fun _ _=>gV.symm) haq hlj (fun i z hij hz=>?_);unfold gV;rw [hb];have a:=List.pairwise_iff_getElem.1 haq;obtain ⟨hil,hie⟩:=List.getElem?_eq_some_iff.1 hz;obtain ⟨hjl,hje⟩:=List.getElem?_eq_some_iff.1 hlj;rcases Nat.lt_or_ge i j with h1 | h1
  ·have:=a i j hil hjl h1
   rw [hie,hje] at this;exact this.symm
  ·have:=a j i hjl hil (by omega)
   rw [hie,hje] at this;exact this
theorem V9 (w:World) (base b:Nat) (g n peer sq:Int) (vT vM vD vO vI:Value) (T:List Row) (M:List Pc) (D:List ak) (L:List ax) (I:List Int) (h:qI w base b g n vT vM vD vO vI T M D L I) (hp:n≤peer) :
 Calls Tryz.prog 46 #[.pointer (some ⟨b,0,none⟩),.int .u8 peer,.int .u32 sq] w fun e w'=>e=.returned (.tuple #[])∧Below w.heap.size w w':=by
 have hd:decide (n≤peer)=true:=by simp [hp]
 have hc1:(w.alloc (.cells #[.int .u32 sq] 47)).cell? ⟨b,1,none⟩=some (.int .u8 n):=ah (af (aj w _) h.cell) 1;clear h;go_enter Tryz.func46,Tryz.ntmps46
 go_wp2_with fail
 (try simp only [Exit.inBlock,Exit.then])
 refine bodyPost_ret (results_none rfl _ _ _) rfl ?_;exact ⟨rfl,aj w _⟩
theorem UI (w:World) (base b gO cap j:Nat) (g n sq:Int) (vT vM vD vI:Value) (T:List Row) (M:List Pc) (D:List ak) (L:List ax) (I:List Int) (bz:Int) (eG:Option Addr) (eP eQ:Nat) (lq:List aF) (h:qI w base b g n vT vM vD (.slice (some ⟨gO,0,none⟩) L.length cap) vI T M D L I) (hl:L[j]? = some ⟨bz,⟨eG,eP,eQ⟩,lq⟩) (hp:(j:Int)<n) (hnq:lq.length<1000000) (_hbw:base≤w.heap.size) :
 Calls Tryz.prog 46 #[.pointer (some ⟨b,0,none⟩),.int .u8 j,.int .u32 sq] w fun e w'=>e=.returned (.tuple #[])∧nK base b g n vT vM vD (.slice (some ⟨gO,0,none⟩) L.length cap) vI L T M D ((L.map ax.core).set j (bz,keepR sq (lq.map aF.core))) I w w':=by
 have hd:decide (n≤(j:Int))=false:=by simp;omega
 have hjl:=(mV hl);obtain ⟨W,hW⟩:∃ W,W=w.alloc (.cells #[.int .u32 sq] 47):=⟨_,rfl⟩;have fP:W.heap[w.heap.size]? = some (.cells #[.int .u32 sq] 47):=by rw [hW];exact heap_alloc_new w _
 have bE:Below w.heap.size w W:=by rw [hW];exact aj w _
 have h1:=h.later bE;have hc1:W.cell? ⟨b,1,none⟩=some (.int .u8 n):=ah h1.cell 1;have r9:W.cell? ⟨b,5,none⟩=some (.slice (some ⟨gO,0,none⟩) L.length cap):=ah h1.cell 5;obtain ⟨g',cap',cur,hv,hBg,hg,hnl,hcl,hnc,hcm,htk,_,hput⟩:=kS h1.m.oO (by omega);simp only [Value.slice.injEq,Option.some.injEq,Addr.mk.injEq] at hv;obtain ⟨⟨rfl,_⟩,_,rfl⟩:=hv;have ho1:W.cell? ⟨gO,j*2+1,none⟩=some (.slice eG eP eQ):=by rw [ah hg];simpa [Sl.val] using qM zu (j:=1) hl rfl htk rfl
 have hi1:(0:Int)≤(j:Int):=by omega
 have hi2:(j:Int)<(L.length:Int):=by omega
 have SV:=h1.m.ln.own _ (List.mem_of_getElem? hl);have HQ:Hid (W.ownsRow base 52 7 (.slice eG eP eQ) lq.length (lq.map aF.cells).flatten):=SV;have HH:=ae h;have H1:=ae h1;have HG:=ae hg;have dQ:=ae bE;have nX:=ae fP;have Bo:=ae htk;have Sv:=ae hput;have A8:=ae hl;have CW:Hid (Nat.ble (j*2+1+1) cur.length=true):=by show _=_;rw [Nat.ble_eq];omega
 have HNQ:Hid (¬ (Value.ownBlock (.slice eG eP eQ)=some gO)):=fun e=>eF SV hg (by decide) gO e rfl
 clear h h1 hg bE fP htk hput hl SV;go_enter Tryz.func46,Tryz.ntmps46
 go_upto_region 1 with fail
 rw [← hW];clear hW;go_wp2_with (first
  | (go_at_call 95;go_must (refine (UH _ base w.heap.size sq eG eP eQ lq HQ.out nX.out hnq).mono ?_;rintro e w1 ⟨n',rfl,adH,hc1'⟩;have lG:=ae adH;have wB:=ae hc1';have Ce:Hid (w1.heap[gO]? = some (.cells cur.toArray 103)):=ae (nQ HG.out wB.out HNQ.out);clear adH hc1'))
  | (with_reducible show wpList _ _ _ ({ dst:=none,op:=Op.store 101 _ _,type:=_,pos:=_,after:=_,guard:=none }::_) _ _;go_must (refine cZ rfl _ _ _ rfl rfl gO (j*2+1) rfl (.slice eG n' eQ) rfl (by kernel_rfl) rfl cur 103 Ce.out CW.out _ rfl ?_;intro w2 hw ho;have HW2:=ae hw;have dZ:Hid (Only gO w1 w2):=ae ho;clear hw ho)))
 go_end0
 refine ⟨rfl,?_⟩;have hm:=H1.out.m;have c12:av (fun k=>k=gO∨Value.ownBlock (.slice eG eP eQ)=some k) W w2:=(wB.out.mono (fun k _ e=>.inr e)).trans (av.only dZ.out (.inl rfl));have keep:∀ {e:TypeId} {s m B:Nat} {v:Value} {xs:List Value},W.ownsRow B e s v m xs→e≠103→gV (.slice eG eP eQ) v→w2.ownsRow B e s v m xs:=fun hv h1 h2=>dB hv c12 (fun k hk e=>by
  rcases e with e | e
  ·exact eF hv HG.out h1 k hk e
  ·rcases h2 with h2 | h2
   ·rw [h2] at e;cases e
   ·exact h2 (by rw [e,hk]))
 have FO:∀ {e:TypeId} {s m B:Nat} {v:Value} {xs:List Value},W.ownsRow B e s v m xs→e≠52→gV (.slice eG eP eQ) v:=fun hv h1=>rJ HQ.out hv (Ne.symm h1)
 have hcell:w2.heap[b]? = some (.cells #[.int .u8 g,.int .u8 n,vT,vM,vD,.slice (some ⟨gO,0,none⟩) L.length cap,vI] 31):=nQ H1.out.cell c12 (fun e=>by
  rcases e with e | e
  ·have h1:=HG.out;rw [← e,H1.out.cell] at h1;injection h1 with h1;injection h1 with _ h1 _;exact absurd h1 (by decide)
  ·exact eF HQ.out H1.out.cell (by decide) b e rfl)
 have pq:∀ (i:Nat) (z:ax),i≠j→L[i]? = some z→gV (.slice eG eP eQ) z.qs.val:=by
  intro i z hij hz;have a:=List.pairwise_iff_getElem.1 hm.ln.aq;have hil:=(mV hz);have e1:(QV L)[i]'(by unfold QV;simpa using hil)=z.qs.val:=by unfold QV;simp [(List.getElem?_eq_some_iff.1 hz).2]
  have e2:(QV L)[j]'(by unfold QV;simpa using hjl)=.slice eG eP eQ:=by unfold QV;simp [(List.getElem?_eq_some_iff.1 A8.out).2,Sl.val]
  rcases Nat.lt_or_ge i j with h1 | h1
  ·have:=a i j (by unfold QV;simpa using hil) (by unfold QV;simpa using hjl) h1
   rw [e1,e2] at this;exact this.symm
  ·have:=a j i (by unfold QV;simpa using hjl) (by unfold QV;simpa using hil) (by omega)
   rw [e1,e2] at this;exact this
 have hrm:RM w2 base (mH L):=⟨fun r hr=>keep (hm.ln.rm.rows r hr) (by decide) (FO (hm.ln.rm.rows r hr) (by decide)),fun r hr=>keep (hm.ln.rm.bP r hr) (by decide) (FO (hm.ln.rm.bP r hr) (by decide)),hm.ln.rm.ar,hm.ln.rm.ad⟩;have hqn:w2.ownsRow base 52 7 (.slice eG n' eQ) (su sq lq).length ((su sq lq).map aF.cells).flatten:=dB lG.out (av.only (A:=fun k=>k=gO) dZ.out rfl) (eF lG.out Ce.out (by decide));have hbb:Value.ownBlock (.slice eG n' eQ)=Value.ownBlock (.slice eG eP eQ):=by cases eG <;> rfl
 have hln:LM w2 base (L.set j ⟨bz,⟨eG,n',eQ⟩,su sq lq⟩):=LM.cut hm.ln.aq hrm A8.out List.filter_sublist hqn hbb (fun i z hij hz=>keep (hm.ln.own z (List.mem_of_getElem? hz)) (by decide) (pq i z hij hz));have sub:(mH (L.set j ⟨bz,⟨eG,n',eQ⟩,su sq lq⟩)).Sublist (mH L):=Tf A8.out List.filter_sublist;have XM:w2.ownsRow base 103 2 (.slice (some ⟨gO,0,none⟩) L.length cap) L.length ((L.set j ⟨bz,⟨eG,n',eQ⟩,su sq lq⟩).map ax.cells).flatten:=by
  have e:cur.take (j*2+1)++[Value.slice eG n' eQ]++cur.drop (j*2+1+1)=cur.set (j*2+1) (.slice eG n' eQ):=by rw [List.set_eq_take_append_cons_drop,if_pos (by omega)];simp
  have h1:=HW2.out;rw [e] at h1;have h2:=Sv.out w2 _ (by simp) h1;have e1:=yT zu L j 1 _ ⟨bz,⟨eG,n',eQ⟩,su sq lq⟩ (.slice eG n' eQ) A8.out (by decide) rfl;rw [List.take_set,Bo.out,e1] at h2;exact h2
 refine ⟨vT,vM,vD,.slice (some ⟨gO,0,none⟩) L.length cap,vI,L.set j ⟨bz,⟨eG,n',eQ⟩,su sq lq⟩,⟨hcell,H1.out.b1,keep hm.oT (by decide) (FO hm.oT (by decide)),keep hm.oM (by decide) (FO hm.oM (by decide)),keep hm.oD (by decide) (FO hm.oD (by decide)),by rw [List.length_set];exact XM,keep hm.oI (by decide) (FO hm.oI (by decide)),hln,fun v hv=>hm.aT v ((sub.map _).subset hv),fun v hv=>hm.aD v ((sub.map _).subset hv)⟩,?_,?_,fun k hk=>.inl ?_⟩
 ·rw [List.map_set];simp only [ax.core,XL]
 ·refine (av.later dQ.out).trans (c12.mono (fun k _ e=>?_))
  rcases e with e | e
  ·exact .inr (.inr (.inr (.inr (.inl (by rw [e];rfl)))))
  ·exact .inr (.inr (.inr (.inr (.inr (.inr (.inl ⟨_,List.mem_map.2 ⟨_,List.mem_of_getElem? A8.out,rfl⟩,e⟩))))))
 ·rcases hk with hk | hk | hk | hk | hk | hk | ⟨v,hv,hk⟩ | ⟨v,hv,hk⟩ | ⟨v,hv,hk⟩
  ·exact .inl hk
  ·exact .inr (.inl hk)
  ·exact .inr (.inr (.inl hk))
  ·exact .inr (.inr (.inr (.inl hk)))
  ·exact .inr (.inr (.inr (.inr (.inl hk))))
  ·exact .inr (.inr (.inr (.inr (.inr (.inl hk)))))
  ·obtain ⟨z,hz,rfl⟩:=List.mem_map.1 hv
   obtain ⟨i,hi⟩:=List.getElem?_of_mem hz;by_cases hij:i=j
   ·subst hij
    rw [List.getElem?_set_self hjl] at hi;simp at hi;subst hi;exact .inr (.inr (.inr (.inr (.inr (.inr (.inl ⟨_,List.mem_map.2 ⟨_,List.mem_of_getElem? A8.out,rfl⟩,by rw [← hk];exact hbb.symm⟩))))))
   ·rw [List.getElem?_set_ne (Ne.symm hij)] at hi
    exact .inr (.inr (.inr (.inr (.inr (.inr (.inl ⟨_,List.mem_map.2 ⟨z,List.mem_of_getElem? hi,rfl⟩,hk⟩))))))
  ·exact .inr (.inr (.inr (.inr (.inr (.inr (.inr (.inl ⟨v,(sub.map _).subset hv,hk⟩)))))))
  ·exact .inr (.inr (.inr (.inr (.inr (.inr (.inr (.inr ⟨v,(sub.map _).subset hv,hk⟩)))))))
def iy (s:St) (c:dY):St×ak :=
 if c.kind=1 then qz s c.zq else if c.kind=2 then (pW s c.qE.ok c.qE.core,qX) else if c.kind=3 then (qU s c.peer c.seq,qX) else (s,qX)
section
variable {w w':World} {base b:Nat} {g n:Int} {vT vM vD vO vI:Value} {T:List Row} {M:List Pc} {D:List ak} {L:List ax} {I:List Int}
theorem qI.ge (h:qI w base b g n vT vM vD vO vI T M D L I):∀ k,nJ b vT vM vD vO vI L k→base≤k:=by
 intro k hk;rcases hk with hk | hk | hk | hk | hk | hk | ⟨v,hv,hk⟩ | ⟨v,hv,hk⟩ | ⟨v,hv,hk⟩
 ·rw [hk];exact h.b1
 ·exact (h.m.oT.lt k hk).1
 ·exact (h.m.oM.lt k hk).1
 ·exact (h.m.oD.lt k hk).1
 ·exact (h.m.oO.lt k hk).1
 ·exact (h.m.oI.lt k hk).1
 ·exact (h.m.ln.Xg hv k hk).1
 ·exact (h.m.ln.rm.GH hv k hk).1
 ·exact (h.m.ln.rm.GI hv k hk).1
theorem ShM.foot (h:ShM w base vT vM vD vO vI T M D L I):∀ k,nJ b vT vM vD vO vI L k→k=b∨k<w.heap.size:=by
 intro k hk;rcases hk with hk | hk | hk | hk | hk | hk | ⟨v,hv,hk⟩ | ⟨v,hv,hk⟩ | ⟨v,hv,hk⟩
 ·exact .inl hk
 ·exact .inr (h.oT.lt k hk).2
 ·exact .inr (h.oM.lt k hk).2
 ·exact .inr (h.oD.lt k hk).2
 ·exact .inr (h.oO.lt k hk).2
 ·exact .inr (h.oI.lt k hk).2
 ·exact .inr (h.ln.Xg hv k hk).2
 ·exact .inr (h.ln.rm.GH hv k hk).2
 ·exact .inr (h.ln.rm.GI hv k hk).2
end
def NF (w:World) (g n:Int) (s':St) (p:ak) (e:Ending) (w':World):Prop :=
 ∃ (dN Dc eY DN FN:Value) (L':List ax),e=.returned (.tuple #[.agg (rW g n dN Dc eY DN FN).toArray,.agg p.cells.toArray])∧L'.map ax.core=s'.O∧ShM w' w.heap.size dN Dc eY DN FN s'.T s'.M s'.D L' s'.I∧Below w.heap.size w w'
theorem NG {T:List Row} {M:List Pc} {D:List ak} {L:List ax} {I:List Int} {g n:Int} (hok:ku ⟨g,n,T,M,D,L.map ax.core,I⟩) (hsm:nL 999999 ⟨g,n,T,M,D,L.map ax.core,I⟩):Sml T M D L I:=by
 have h1:=hok.n4;have h2:=hok.ol;have h3:=hok.il;have h4:=hok.ml;have h5:=hsm.t;have h6:=hsm.d;dsimp only at h1 h2 h3 h4 h5 h6;simp only [List.length_map] at h2;refine ⟨by omega,by omega,by omega,by omega,by omega,fun x hx=>?_⟩;obtain ⟨q1,q2⟩:=hsm.q x.core (List.mem_map.2 ⟨x,hx,rfl⟩);simp only [ax.core,List.length_map] at q1 q2;refine ⟨by omega,fun r hr=>?_⟩;obtain ⟨r1,r2⟩:=q2 r.core (List.mem_map.2 ⟨r,hr,rfl⟩);simp only [aF.core] at r1 r2;omega
theorem adI (s:St) (q:bH):(qh s q).I=s.I:=by
 unfold qh LU;split <;> (try rfl);split <;> (try rfl);split <;> rfl
theorem afm {s:St} {q:bH}:(qz s q).1.I=s.I:=by
 unfold qz;split
 ·rfl
 ·split
  ·rfl
  ·split
   ·split
    ·split
     ·exact adI s q
     ·split <;> rfl
    ·rfl
   ·exact adI s q
theorem afn (s:St) (ok:Bool) (r:Rg):(pW s ok r).O=s.O:=by unfold pW;split <;> rfl
theorem ZA {w:World} {base base':Nat} {vT vM vD vO vI:Value} {L:List ax} {s:St} {peer sq:Int} (h:ShM w base vT vM vD vO vI s.T s.M s.D L s.I) (hb:base'≤base):ShM w base' vT vM vD vO vI (qU s peer sq).T (qU s peer sq).M (qU s peer sq).D L (qU s peer sq).I:=by
 unfold qU;split <;> exact h.mono hb
theorem XN (w:World) (g n:Int) (vT vM vD vO vI:Value) (T:List Row) (M:List Pc) (D:List ak) (L:List ax) (I:List Int) (aG:Int) (di dh dw aO dx bK bL:Int) (aH aK aL bu aW:Int) (aQ:Option Addr) (aX aR:Nat) (aS:Option Addr) (aY aU:Nat) (aN bW:Int) (h:ShM w 0 vT vM vD vO vI T M D L I) (hok:ku ⟨g,n,T,M,D,L.map ax.core,I⟩) (hsm:nL 999999 ⟨g,n,T,M,D,L.map ax.core,I⟩) (hk1:(aG == 1)=false) (hk2:(aG == 2)=false) (hk3:(aG == 3)=false) :
 Calls Tryz.prog 12 #[.agg (rW g n vT vM vD vO vI).toArray,.agg (rC aG di dh dw aO dx bK bL aH aK aL bu aW aQ aX aR aS aY aU aN bW).toArray] w (NF w g n ⟨g,n,T,M,D,L.map ax.core,I⟩ qX):=by
 obtain ⟨W,hW⟩:∃ W,W=(((w.alloc (.cells (rW g n vT vM vD vO vI).toArray 31)).alloc (.cells (rC aG di dh dw aO dx bK bL aH aK aL bu aW aQ aX aR aS aY aU aN bW).toArray 54)).alloc (.cells dS.toArray 31)).alloc (.cells bA.toArray 57):=⟨_,rfl⟩;obtain ⟨hS,hC,hZ,hY,bE,hWs⟩:=four w (.cells (rW g n vT vM vD vO vI).toArray 31) (.cells (rC aG di dh dw aO dx bK bL aH aK aL bu aW aQ aX aR aS aY aU aN bW).toArray 54) (.cells dS.toArray 31) (.cells bA.toArray 57);rw [← hW] at hS hC hZ hY bE hWs;have qi:=ae hok;have NH:=ae hsm;have dQ:=ae bE;have pR:=ae hWs;have HS:=ae hS;have HC:=ae hC;have HZ:=ae hZ;have HY:=ae hY;have HOW:=ae (h.later bE);have LX:=ae (NG hok hsm);clear h hok hsm bE hWs hS hC hZ hY;go_enter Tryz.func12,Tryz.ntmps12
 go_upto_region 1 with fail
 rw [← hW];clear hW;go_upto_region 5 with (first
  | (with_reducible show cB 8 31 ..;go_must (refine dF w.heap.size 0 7 fE (rW g n vT vM vD vO vI) 31 HS.out (rW g n vT vM vD vO vI) ?_))
  | (go_at_call 42;go_must (refine (FM _ g n vT vM vD vO vI T M D L I HOW.out LX.out).mono ?_;rintro e w1 ⟨wT,wM,wD,wO,wI,rfl,hfr⟩;obtain ⟨p,hcore,qm⟩:=hfr.sh;have HB1:=ae hfr.zA;have o9:=ae hcore;have lG:=ae qm;have h7:(rW g n wT wM wD wO wI).all (·.oneCell')=true:=(by rw [List.all_eq_true];intro u hu;simp only [List.mem_cons,List.not_mem_nil,or_false] at hu;rcases hu with rfl | rfl | rfl | rfl | rfl | rfl | rfl <;> first | rfl | exact dR qm.oT | exact dR qm.oM | exact dR qm.oD | exact dR qm.oO | exact dR qm.oI);clear hfr hcore qm))
  | (with_reducible show dJ 31 6 ..;go_must (refine eu rfl _ _ _ rfl rfl w1.heap.size 0 rfl (rW g n wT wM wD wO wI) rfl _ (by kernel_rfl) rfl h7 dS 31 (heap_alloc_new w1 _) rfl (rW g n wT wM wD wO wI) rfl ?_;intro w2 hw ho;have dL:Hid (w2.heap[w1.heap.size]? = some (.cells (rW g n wT wM wD wO wI).toArray 31)):=ae hw;have HB2:Hid (Below w1.heap.size w1 w2):=ae ((aj w1 _).trans (ho.below (Nat.le_refl _)));have hs2:w2.heap.size=w1.heap.size+1:=(by rw [ho.size];simp);clear hw ho))
  | (with_reducible show cB 10 31 ..;go_must (refine dF w1.heap.size 0 7 fE (rW g n wT wM wD wO wI) 31 (af (aj w2 _) dL.out) (rW g n wT wM wD wO wI) ?_))
  | (go_at_call 43;go_must (refine (FQ _ W.heap.size g n wT wM wD wO wI T M D p I ((lG.out.later HB2.out).later (aj w2 _)) (by rw [o9.out];exact qi.out)).mono ?_;rintro e w3 ⟨rfl,hb3⟩;have HB3:Hid (Below w2.heap.size w2 w3):=ae (ai (aj w2 _) hb3);have HR3:Hid (w3.heap[w1.heap.size+1]? = some (.cells bA.toArray 57)):=ae (af hb3 (by rw [← hs2];exact heap_alloc_new w2 _));clear hb3)))
 have nD:Hid (Below W.heap.size W w3):=ai (ai HB1.out HB2.out) HB3.out;have yC:Hid (qI w3 W.heap.size w1.heap.size g n wT wM wD wO wI T M D p I):=⟨af HB3.out dL.out,HB1.out.size,(lG.out.later HB2.out).later HB3.out⟩;have hcm:w3.cell? ⟨w.heap.size+1,0,none⟩=some (.int .u8 aG):=blk nD.out HC.out 0;have hws:=pR.out;have ZB:=HB1.out.size;have ZC:=HB2.out.size;have ZE:=HB3.out.size;have ZF:w1.heap.size+1<w3.heap.size:=(df HR3.out);have LY:¬ nJ w1.heap.size wT wM wD wO wI p (w1.heap.size+1):=fun e=>by
  rcases lG.out.foot _ e with h1 | h1 <;> omega
 have LZ:¬ nJ w1.heap.size wT wM wD wO wI p (w.heap.size+1+1):=fun e=>by have:=yC.out.ge _ e;omega
 have L6:¬ nJ w1.heap.size wT wM wD wO wI p (w.heap.size+1+1+1):=fun e=>by have:=yC.out.ge _ e;omega
 have Oy:Hid (ku ⟨g,n,T,M,D,p.map ax.core,I⟩):=by rw [o9.out];exact qi.out
 have Tg:Hid (nL 999999 ⟨g,n,T,M,D,p.map ax.core,I⟩):=by rw [o9.out];exact NH.out
 have pQ:Hid (nK W.heap.size w1.heap.size g n wT wM wD wO wI p T M D (p.map ax.core) I w3 w3):=yC.out.same (Below.refl _ _);go_upto_region 12 with fail
 have Ti:=nK.keep pQ.out (af nD.out HZ.out) LZ;have Tj:=nK.keep pQ.out (af nD.out HY.out) L6;obtain ⟨xT,xM,xD,xO,xI,xL,xU,hO4,Tk,hF4⟩:=pQ.out;have c5:av (fun k=>W.heap.size≤k) w3 w3:=Tk.mono (fun k _ e=>yC.out.ge k e);obtain ⟨ta,tn,tc,rfl⟩:=aB xU.m.oT;obtain ⟨ma,mn,mc,rfl⟩:=aB xU.m.oM;obtain ⟨da,dn,dc,rfl⟩:=aB xU.m.oD;obtain ⟨oa,on,oc,rfl⟩:=aB xU.m.oO;obtain ⟨ia,il,ic,rfl⟩:=aB xU.m.oI;refine NA rfl w3 (w.heap.size+1+1) (w.heap.size+1+1+1) w1.heap.size (w1.heap.size+1) g n ta tn tc ma mn mc da dn dc oa on oc ia il ic 0 0 0 0 false 0 0 xU.cell HR3.out Ti Tj (by omega) (by omega) (by omega) (by omega) (by omega) (by omega) (by omega) (by omega) (by omega) (by omega) _ ?_ (by assumption);intro w' hcw;have hfin:=xU.dX hcw (fun k hk e=>by have:=xU.ge k hk;omega);have hbel:Below w.heap.size w w':=((ai dQ.out nD.out).trans (c5.below (fun k hk=>⟨by omega,by omega⟩))).trans (hcw.below (fun k hk=>⟨by have:=c5.size;omega,by omega⟩));exact ⟨_,_,_,_,_,xL,rfl,hO4.trans o9.out,hfin.m.mono dQ.out.size,hbel⟩
theorem XO (w:World) (g n:Int) (vT vM vD vO vI:Value) (T:List Row) (M:List Pc) (D:List ak) (L:List ax) (I:List Int) (aG:Int) (di dh dw aO dx bK bL:Int) (aH aK aL bu aW:Int) (aQ:Option Addr) (aX aR:Nat) (aS:Option Addr) (aY aU:Nat) (aN bW:Int) (h:ShM w 0 vT vM vD vO vI T M D L I) (hok:ku ⟨g,n,T,M,D,L.map ax.core,I⟩) (hsm:nL 999999 ⟨g,n,T,M,D,L.map ax.core,I⟩) (hk1:(aG == 1)=false) (hk2:(aG == 2)=false) (hk3:(aG == 3)=true) (alx:0≤aN) :
 Calls Tryz.prog 12 #[.agg (rW g n vT vM vD vO vI).toArray,.agg (rC aG di dh dw aO dx bK bL aH aK aL bu aW aQ aX aR aS aY aU aN bW).toArray] w (NF w g n (qU ⟨g,n,T,M,D,L.map ax.core,I⟩ aN bW) qX):=by
 obtain ⟨W,hW⟩:∃ W,W=(((w.alloc (.cells (rW g n vT vM vD vO vI).toArray 31)).alloc (.cells (rC aG di dh dw aO dx bK bL aH aK aL bu aW aQ aX aR aS aY aU aN bW).toArray 54)).alloc (.cells dS.toArray 31)).alloc (.cells bA.toArray 57):=⟨_,rfl⟩;obtain ⟨hS,hC,hZ,hY,bE,hWs⟩:=four w (.cells (rW g n vT vM vD vO vI).toArray 31) (.cells (rC aG di dh dw aO dx bK bL aH aK aL bu aW aQ aX aR aS aY aU aN bW).toArray 54) (.cells dS.toArray 31) (.cells bA.toArray 57);rw [← hW] at hS hC hZ hY bE hWs;have qi:=ae hok;have NH:=ae hsm;have dQ:=ae bE;have pR:=ae hWs;have HS:=ae hS;have HC:=ae hC;have HZ:=ae hZ;have HY:=ae hY;have HOW:=ae (h.later bE);have LX:=ae (NG hok hsm);clear h hok hsm bE hWs hS hC hZ hY;go_enter Tryz.func12,Tryz.ntmps12
 go_upto_region 1 with fail
 rw [← hW];clear hW;go_upto_region 5 with (first
  | (with_reducible show cB 8 31 ..;go_must (refine dF w.heap.size 0 7 fE (rW g n vT vM vD vO vI) 31 HS.out (rW g n vT vM vD vO vI) ?_))
  | (go_at_call 42;go_must (refine (FM _ g n vT vM vD vO vI T M D L I HOW.out LX.out).mono ?_;rintro e w1 ⟨wT,wM,wD,wO,wI,rfl,hfr⟩;obtain ⟨p,hcore,qm⟩:=hfr.sh;have HB1:=ae hfr.zA;have o9:=ae hcore;have lG:=ae qm;have h7:(rW g n wT wM wD wO wI).all (·.oneCell')=true:=(by rw [List.all_eq_true];intro u hu;simp only [List.mem_cons,List.not_mem_nil,or_false] at hu;rcases hu with rfl | rfl | rfl | rfl | rfl | rfl | rfl <;> first | rfl | exact dR qm.oT | exact dR qm.oM | exact dR qm.oD | exact dR qm.oO | exact dR qm.oI);clear hfr hcore qm))
  | (with_reducible show dJ 31 6 ..;go_must (refine eu rfl _ _ _ rfl rfl w1.heap.size 0 rfl (rW g n wT wM wD wO wI) rfl _ (by kernel_rfl) rfl h7 dS 31 (heap_alloc_new w1 _) rfl (rW g n wT wM wD wO wI) rfl ?_;intro w2 hw ho;have dL:Hid (w2.heap[w1.heap.size]? = some (.cells (rW g n wT wM wD wO wI).toArray 31)):=ae hw;have HB2:Hid (Below w1.heap.size w1 w2):=ae ((aj w1 _).trans (ho.below (Nat.le_refl _)));have hs2:w2.heap.size=w1.heap.size+1:=(by rw [ho.size];simp);clear hw ho))
  | (with_reducible show cB 10 31 ..;go_must (refine dF w1.heap.size 0 7 fE (rW g n wT wM wD wO wI) 31 (af (aj w2 _) dL.out) (rW g n wT wM wD wO wI) ?_))
  | (go_at_call 43;go_must (refine (FQ _ W.heap.size g n wT wM wD wO wI T M D p I ((lG.out.later HB2.out).later (aj w2 _)) (by rw [o9.out];exact qi.out)).mono ?_;rintro e w3 ⟨rfl,hb3⟩;have HB3:Hid (Below w2.heap.size w2 w3):=ae (ai (aj w2 _) hb3);have HR3:Hid (w3.heap[w1.heap.size+1]? = some (.cells bA.toArray 57)):=ae (af hb3 (by rw [← hs2];exact heap_alloc_new w2 _));clear hb3)))
 have nD:Hid (Below W.heap.size W w3):=ai (ai HB1.out HB2.out) HB3.out;have yC:Hid (qI w3 W.heap.size w1.heap.size g n wT wM wD wO wI T M D p I):=⟨af HB3.out dL.out,HB1.out.size,(lG.out.later HB2.out).later HB3.out⟩;have hcm:w3.cell? ⟨w.heap.size+1,0,none⟩=some (.int .u8 aG):=blk nD.out HC.out 0;have hws:=pR.out;have ZB:=HB1.out.size;have ZC:=HB2.out.size;have ZE:=HB3.out.size;have ZF:w1.heap.size+1<w3.heap.size:=(df HR3.out);have LY:¬ nJ w1.heap.size wT wM wD wO wI p (w1.heap.size+1):=fun e=>by
  rcases lG.out.foot _ e with h1 | h1 <;> omega
 have LZ:¬ nJ w1.heap.size wT wM wD wO wI p (w.heap.size+1+1):=fun e=>by have:=yC.out.ge _ e;omega
 have L6:¬ nJ w1.heap.size wT wM wD wO wI p (w.heap.size+1+1+1):=fun e=>by have:=yC.out.ge _ e;omega
 have Oy:Hid (ku ⟨g,n,T,M,D,p.map ax.core,I⟩):=by rw [o9.out];exact qi.out
 have Tg:Hid (nL 999999 ⟨g,n,T,M,D,p.map ax.core,I⟩):=by rw [o9.out];exact NH.out
 have hcp:w3.cell? ⟨w.heap.size+1,15,none⟩=some (.int .u8 aN):=blk nD.out HC.out 15;have hcs:w3.cell? ⟨w.heap.size+1,16,none⟩=some (.int .u32 bW):=blk nD.out HC.out 16;have ahY:Hid (Calls Tryz.prog 46 #[.pointer (some ⟨w1.heap.size,0,none⟩),.int .u8 aN,.int .u32 bW] w3 fun e w'=>e=.returned (.tuple #[])∧nK W.heap.size w1.heap.size g n wT wM wD wO wI p T M D (qU ⟨g,n,T,M,D,p.map ax.core,I⟩ aN bW).O I w3 w'):=by
  have hol:=Oy.out.ol;dsimp only at hol;by_cases hp:n≤aN
  ·have e:qU ⟨g,n,T,M,D,p.map ax.core,I⟩ aN bW=⟨g,n,T,M,D,p.map ax.core,I⟩:=by unfold qU;rw [if_neg (by dsimp only;omega)]
   rw [e];refine (V9 w3 W.heap.size w1.heap.size g n aN bW wT wM wD wO wI T M D p I yC.out hp).mono ?_;rintro e w' ⟨rfl,hb'⟩;exact ⟨rfl,yC.out.same hb'⟩
  ·obtain ⟨j,hj⟩:∃ j:Nat,aN=(j:Int):=⟨aN.toNat,by omega⟩
   have hjl:j<p.length:=by simp only [List.length_map] at hol;omega
   obtain ⟨l,hl⟩:∃ l,p[j]? = some l:=⟨p[j]'hjl,by simp⟩;obtain ⟨gO,oap,_,hv,_⟩:=kS lG.out.oO (by omega);subst hv;have CX:qJ (p.map ax.core) aN=l.core:=by rw [hj];exact Jz hl
   obtain ⟨bz,⟨eG,eP,eQ⟩,lq⟩:=l;have hnq:=(Tg.out.q _ (List.mem_map.2 ⟨_,List.mem_of_getElem? hl,rfl⟩)).1;simp only [ax.core,List.length_map] at hnq;have hx:=UI w3 W.heap.size w1.heap.size gO oap j g n bW wT wM wD wI T M D p I bz eG eP eQ lq yC.out hl (by omega) (by omega) nD.out.size;have e:(qU ⟨g,n,T,M,D,p.map ax.core,I⟩ aN bW).O=(p.map ax.core).set j (bz,keepR bW (lq.map aF.core)):=by
    unfold qU;rw [if_pos (by dsimp only;omega)];dsimp only;rw [CX,hj];rfl
   rw [e,hj];exact hx
 go_upto_region 12 with (first
  | (go_at_call 46;go_must (refine ahY.out.mono ?_;rintro e w4 ⟨rfl,hout⟩;have pQ:=ae hout;have HR4:Hid (w4.heap[w1.heap.size+1]? = some (.cells bA.toArray 57)):=ae (nK.keep hout HR3.out LY);clear hout)))
 have Ti:=nK.keep pQ.out (af nD.out HZ.out) LZ;have Tj:=nK.keep pQ.out (af nD.out HY.out) L6;obtain ⟨xT,xM,xD,xO,xI,xL,xU,hO4,Tk,hF4⟩:=pQ.out;have c5:av (fun k=>W.heap.size≤k) w3 w4:=Tk.mono (fun k _ e=>yC.out.ge k e);have e1:qU ⟨g,n,T,M,D,L.map ax.core,I⟩ aN bW=qU ⟨g,n,T,M,D,p.map ax.core,I⟩ aN bW:=by rw [o9.out]
 obtain ⟨ta,tn,tc,rfl⟩:=aB xU.m.oT;obtain ⟨ma,mn,mc,rfl⟩:=aB xU.m.oM;obtain ⟨da,dn,dc,rfl⟩:=aB xU.m.oD;obtain ⟨oa,on,oc,rfl⟩:=aB xU.m.oO;obtain ⟨ia,il,ic,rfl⟩:=aB xU.m.oI;refine NA rfl w4 (w.heap.size+1+1) (w.heap.size+1+1+1) w1.heap.size (w1.heap.size+1) g n ta tn tc ma mn mc da dn dc oa on oc ia il ic 0 0 0 0 false 0 0 xU.cell HR4.out Ti Tj (by omega) (by omega) (by omega) (by omega) (by omega) (by omega) (by omega) (by omega) (by omega) (by omega) _ ?_ (by assumption);intro w' hcw;have hfin:=xU.dX hcw (fun k hk e=>by have:=xU.ge k hk;omega);have hbel:Below w.heap.size w w':=((ai dQ.out nD.out).trans (c5.below (fun k hk=>⟨by omega,by omega⟩))).trans (hcw.below (fun k hk=>⟨by have:=c5.size;omega,by omega⟩));rw [e1];exact ⟨_,_,_,_,_,xL,rfl,hO4,ZA (s:=⟨g,n,T,M,D,p.map ax.core,I⟩) (peer:=aN) (sq:=bW) hfin.m dQ.out.size,hbel⟩
end
end Go.Proofs.YtignemioillaiaaGreat
