/- A replica at work (18): ask. -/
import Derived.Test.YtignemioillaiabGreatG25
namespace Go.Proofs.YtignemioillaiabGreat
set_option maxHeartbeats 8000000
set_option maxRecDepth 100000
section
open Go Go.Conc
def bZ (q:bH):MC:={ kQ with kind:=1,q:=q }
def jH (A:bE) (R:MR) (q:bH):MR:=if R.sc.role≠2 then R else if R.st.D.any (dU (A.ap R.st (bZ q)).2)=true then qd A.enc R (A.ap R.st (bZ q)).2 else eT A R (bZ q)
section
variable {A:bE} (HA:bW A) {Λ:bN} {w:World} {br:Nat} {R:MR}
include HA
theorem PO (h:Wk Λ br R w) (ho:Ok A R) {q:bH} (hgc:A.gc (bZ q)) (hb:R.out.length≤870000):af Tryz.prog 78 #[.pointer (some ⟨br,0,none⟩),.agg q.cells.toArray] w (fun v w'=>v=.tuple #[]∧Wk Λ br (jH A R q) w'∧Kz w w'):=by
 refine Ae au Tryz.func78 rfl rfl ?_;refine CS.piece (Q:=fun s w1=>∃ b1,s=[(0,.pointer (some ⟨br,0,none⟩)),(3,.pointer (some ⟨b1,0,none⟩))]∧w1.heap[b1]? = some (.cells q.cells.toArray 65)∧GB none w w1) (CS.of au mixed fun w1 b1 m1 g1 l1=>⟨_,by exact ⟨rfl,rfl,trivial⟩,b1,rfl,m1,g1⟩) ?_;rintro _ w1 ⟨b1,rfl,m1,g1⟩;have h10:=h.ax g1;obtain ⟨a,h1⟩:=h10;refine CS.cut (Qn:=fun s w'=>¬ R.sc.role≠2∧s=[(0,.pointer (some ⟨br,0,none⟩)),(3,.pointer (some ⟨b1,0,none⟩))]∧w'=w1) (Qx:=fun _ _ _=>False) (Qr:=fun s w'=>R.sc.role≠2∧s=[]∧w'=w1) (CS.of au mixed ⟨_,_,h1.ri.mem,_,rfl,aj (fun c=>⟨_,by exact trivial,by simp at c;omega,rfl,rfl⟩) (fun c=>⟨_,by exact ⟨rfl,rfl,trivial⟩,by simp at c;omega,rfl,rfl⟩)⟩) ?_ (fun _ _ _ _ h _=>h.elim) ?_;rotate_left
 ·rintro _ s w1 ⟨c1,rfl,rfl⟩ hs
  rw [show jH A R q=R from if_pos c1];exact CJ hs ⟨rfl,⟨_,h1⟩,g1.kz⟩
 rintro _ w1 ⟨c1,rfl,rfl⟩;refine CS.piece (Q:=fun s w3=>∃ b2,s=[(0,.pointer (some ⟨br,0,none⟩)),(4,.pointer (some ⟨b2,0,none⟩))]∧w3.heap[b2]? = some (.cells (cK (bZ q) (.slice none 0 0) (.slice none 0 0)).toArray 80)∧GB none w1 w3∧w1.heap.size≤b2) (CS.of au mixed ⟨_,_,m1,q.cells,rfl,rfl,fun w2 b2 m2 g2 l2=>⟨_,_,_,m2,rfl,rfl,fun w3 m3 g3=>⟨_,by exact ⟨rfl,rfl,trivial⟩,b2,rfl,m3,g2.new g3 l2,l2⟩⟩⟩) ?_;rintro _ w3 ⟨b2,rfl,m3,g13,l2⟩;have h3:=h1.box g13 m3 l2;have u3:=h1.p9 l2;have gg:=g1.trans g13;obtain ⟨vm,wm,kn,mt,pp,ac,lg,ob,sT,sM,sD,sO,sI⟩:=a;have hc3:jE w3 (.agg (cK (bZ q) (.slice none 0 0) (.slice none 0 0)).toArray) (bZ q):=⟨_,_,rfl,aP.zero _⟩;have hcall:=fun w' (g:GB none w3 w')=>HA.call w' R.st (bZ q) _ _ _ _ _ _ (h3.ax g).ri.st ho.st (hc3.kz g.kz) hgc
 refine CS.piece (Q:=fun s w8=>∃ b6,s=[(0,.pointer (some ⟨br,0,none⟩)),(4,.pointer (some ⟨b2,0,none⟩)),(6,.pointer (some ⟨b6,0,none⟩))]∧w8.heap[b6]? = some (.cells (A.ap R.st (bZ q)).2.cells.toArray 70)∧GB none w3 w8) (CS.of au mixed ?_) ?_
 ·refine ⟨by kernel_rfl,_,_,h3.ri.mem,_,rfl,rfl,_,_,m3,cK (bZ q) (.slice none 0 0) (.slice none 0 0),rfl,rfl,?_⟩
  refine ⟨⟨_,hcall w3 (GB.refl _ _),?_⟩,?_,?_⟩
  ·rintro _ v1 ⟨T,M,D,O,I,rfl,hs,K1⟩
   have G1:GB none w3 v1:=K1;obtain ⟨ta,tn,tc,ma,mn,mc,da,dn,dc,oa,on,oc,ia,il,ic,rfl,rfl,rfl,rfl,rfl⟩:=(hs _ fun _ _ _=>rfl).sl;refine ⟨?_,?_⟩
   ·intro v2 b5 m5 K2 L5
    have G2:GB none w3 v2:=G1.trans K2;have l5:w3.heap.size≤b5:=Nat.le_trans G1.size L5;have Ja:=ae m5;refine ⟨⟨G2.get m3 nofun,(h3.ax G2).ri.mem,trivial⟩,?_⟩;intro v3 b6 m6 K3 L6;have G3:GB none w3 v3:=G2.trans K3;have l6:w3.heap.size≤b6:=Nat.le_trans G2.size L6;have Jb:=ae m6;have Ja:=ae m5;have m5:=K3.get m5 nofun;refine ⟨⟨G3.get m3 nofun,(h3.ax G3).ri.mem,trivial⟩,?_⟩;exact ⟨_,_,_,m5,rfl,rfl,fun w7 m7 g7=>⟨_,_,_,g7.get m6 (fun e=>by cases e;omega),rfl,rfl,fun w8 m8 g8=>⟨_,by exact ⟨rfl,rfl,rfl,trivial⟩,b6,rfl,m8,(G3.new g7 l5).new g8 l6⟩⟩⟩
   ·intro v2 b6 m6 K2 L6
    have G2:GB none w3 v2:=G1.trans K2;have l6:w3.heap.size≤b6:=Nat.le_trans G1.size L6;have Jb:=ae m6;refine ⟨⟨G2.get m3 nofun,(h3.ax G2).ri.mem,trivial⟩,?_⟩;intro v3 b5 m5 K3 L5;have G3:GB none w3 v3:=G2.trans K3;have l5:w3.heap.size≤b5:=Nat.le_trans G2.size L5;have Ja:=ae m5;have Jb:=ae m6;have m6:=K3.get m6 nofun;refine ⟨⟨G3.get m3 nofun,(h3.ax G3).ri.mem,trivial⟩,?_⟩;exact ⟨_,_,_,m5,rfl,rfl,fun w7 m7 g7=>⟨_,_,_,g7.get m6 (fun e=>by cases e;omega),rfl,rfl,fun w8 m8 g8=>⟨_,by exact ⟨rfl,rfl,rfl,trivial⟩,b6,rfl,m8,(G3.new g7 l5).new g8 l6⟩⟩⟩
  ·intro v1 b5 m5 K1 L5
   have G1:GB none w3 v1:=K1;have l5:w3.heap.size≤b5:=L5;have Ja:=ae m5;refine ⟨⟨G1.get m3 nofun,(h3.ax G1).ri.mem,trivial⟩,?_⟩;refine ⟨⟨_,hcall v1 G1,?_⟩,?_⟩
   ·rintro _ v2 ⟨T,M,D,O,I,rfl,hs,K2⟩
    have G2:GB none w3 v2:=G1.trans K2;obtain ⟨ta,tn,tc,ma,mn,mc,da,dn,dc,oa,on,oc,ia,il,ic,rfl,rfl,rfl,rfl,rfl⟩:=(hs _ fun _ _ _=>rfl).sl;have m5:=K2.get m5 nofun;intro v3 b6 m6 K3 L6;have G3:GB none w3 v3:=G2.trans K3;have l6:w3.heap.size≤b6:=Nat.le_trans G2.size L6;have Jb:=ae m6;have Ja:=ae m5;have m5:=K3.get m5 nofun;refine ⟨⟨G3.get m3 nofun,(h3.ax G3).ri.mem,trivial⟩,?_⟩;exact ⟨_,_,_,m5,rfl,rfl,fun w7 m7 g7=>⟨_,_,_,g7.get m6 (fun e=>by cases e;omega),rfl,rfl,fun w8 m8 g8=>⟨_,by exact ⟨rfl,rfl,rfl,trivial⟩,b6,rfl,m8,(G3.new g7 l5).new g8 l6⟩⟩⟩
   ·intro v2 b6 m6 K2 L6
    have G2:GB none w3 v2:=G1.trans K2;have l6:w3.heap.size≤b6:=Nat.le_trans G1.size L6;have Jb:=ae m6;have Ja:=ae m5;have m5:=K2.get m5 nofun;refine ⟨⟨G2.get m3 nofun,(h3.ax G2).ri.mem,trivial⟩,?_⟩;refine ⟨_,hcall v2 G2,?_⟩;rintro _ v3 ⟨T,M,D,O,I,rfl,hs,K3⟩;have G3:GB none w3 v3:=G2.trans K3;obtain ⟨ta,tn,tc,ma,mn,mc,da,dn,dc,oa,on,oc,ia,il,ic,rfl,rfl,rfl,rfl,rfl⟩:=(hs _ fun _ _ _=>rfl).sl;have m5:=K3.get m5 nofun;have m6:=K3.get m6 nofun;exact ⟨_,_,_,m5,rfl,rfl,fun w7 m7 g7=>⟨_,_,_,g7.get m6 (fun e=>by cases e;omega),rfl,rfl,fun w8 m8 g8=>⟨_,by exact ⟨rfl,rfl,rfl,trivial⟩,b6,rfl,m8,(G3.new g7 l5).new g8 l6⟩⟩⟩
  ·intro v1 b6 m6 K1 L6
   have G1:GB none w3 v1:=K1;have l6:w3.heap.size≤b6:=L6;have Jb:=ae m6;refine ⟨⟨G1.get m3 nofun,(h3.ax G1).ri.mem,trivial⟩,?_⟩;refine ⟨⟨_,hcall v1 G1,?_⟩,?_⟩
   ·rintro _ v2 ⟨T,M,D,O,I,rfl,hs,K2⟩
    have G2:GB none w3 v2:=G1.trans K2;obtain ⟨ta,tn,tc,ma,mn,mc,da,dn,dc,oa,on,oc,ia,il,ic,rfl,rfl,rfl,rfl,rfl⟩:=(hs _ fun _ _ _=>rfl).sl;have m6:=K2.get m6 nofun;intro v3 b5 m5 K3 L5;have G3:GB none w3 v3:=G2.trans K3;have l5:w3.heap.size≤b5:=Nat.le_trans G2.size L5;have Ja:=ae m5;have Jb:=ae m6;have m6:=K3.get m6 nofun;refine ⟨⟨G3.get m3 nofun,(h3.ax G3).ri.mem,trivial⟩,?_⟩;exact ⟨_,_,_,m5,rfl,rfl,fun w7 m7 g7=>⟨_,_,_,g7.get m6 (fun e=>by cases e;omega),rfl,rfl,fun w8 m8 g8=>⟨_,by exact ⟨rfl,rfl,rfl,trivial⟩,b6,rfl,m8,(G3.new g7 l5).new g8 l6⟩⟩⟩
   ·intro v2 b5 m5 K2 L5
    have G2:GB none w3 v2:=G1.trans K2;have l5:w3.heap.size≤b5:=Nat.le_trans G1.size L5;have Ja:=ae m5;have Jb:=ae m6;have m6:=K2.get m6 nofun;refine ⟨⟨G2.get m3 nofun,(h3.ax G2).ri.mem,trivial⟩,?_⟩;refine ⟨_,hcall v2 G2,?_⟩;rintro _ v3 ⟨T,M,D,O,I,rfl,hs,K3⟩;have G3:GB none w3 v3:=G2.trans K3;obtain ⟨ta,tn,tc,ma,mn,mc,da,dn,dc,oa,on,oc,ia,il,ic,rfl,rfl,rfl,rfl,rfl⟩:=(hs _ fun _ _ _=>rfl).sl;have m5:=K3.get m5 nofun;have m6:=K3.get m6 nofun;exact ⟨_,_,_,m5,rfl,rfl,fun w7 m7 g7=>⟨_,_,_,g7.get m6 (fun e=>by cases e;omega),rfl,rfl,fun w8 m8 g8=>⟨_,by exact ⟨rfl,rfl,rfl,trivial⟩,b6,rfl,m8,(G3.new g7 l5).new g8 l6⟩⟩⟩
 rintro _ w8 ⟨b6,rfl,m8,gB⟩;have h8:=h3.ax gB;refine CS.of au mixed ?_;refine ⟨by kernel_rfl,_,_,h8.ri.mem,_,rfl,_,_,m8,(A.ap R.st (bZ q)).2.cells,rfl,rfl,_,ui w8 h8.ri.st.D (HA.dl _ ho.st) _,?_⟩;rintro _ w9 ⟨rfl,g9⟩;have h9:=h8.ax g9;have k9:=((gg.trans gB).trans g9).kz;refine aj (fun d=>?_) (fun d=>?_)
 ·rw [show jH A R q=qd A.enc R (A.ap R.st (bZ q)).2 from (if_neg c1).trans (if_pos d)]
  refine ⟨_,_,g9.get m8 nofun,(A.ap R.st (bZ q)).2.cells,rfl,rfl,_,qW HA.jd (Wk.drop ⟨_,h9⟩ u3) (HA.rep _ _ ho.st hgc) (by omega),?_⟩;rintro _ ku ⟨rfl,h10,k10⟩;exact ⟨rfl,h10,k9.trans k10⟩
 ·rw [show jH A R q=eT A R (bZ q) from (if_neg c1).trans (if_neg (by rw [d];decide))]
  have m9:=(h9.pr b2 _ (bN.mV _ _ _)).1;refine ⟨_,_,m9,cK (bZ q) (.slice none 0 0) (.slice none 0 0),rfl,rfl,_,mW HA (Wk.drop ⟨_,h9⟩ u3) ho hgc (c:=bZ q) ⟨_,_,rfl,aP.zero _⟩ hb,?_⟩;rintro _ ku ⟨rfl,h10,k10⟩;exact ⟨rfl,h10,k9.trans k10⟩
end
def sS (p s:Int):MC:={ kQ with kind:=3,peer:=p,seq:=s }
def rM (A:bE) (R:MR) (p:Nat) (s:Int):MR:=if R.sc.role≠2 then R else match (R.st.O.getD p (0,[])).2 with
 | []=>R
 | r::_=>if r.seq≤s then eT A R (sS p s) else R
theorem cutAt {cs:List Value} {off n d:Nat} {xs:List Value} (h:aO cs off n=xs) {v:Value} (hv:xs[d]? = some v) (hd:d<n):cs[off+d]? = some v:=by
 rw [← h] at hv;unfold aO at hv;rw [List.getElem?_take,if_pos hd,List.getElem?_drop] at hv;exact hv
theorem V6 {Uy:List (List Value)} {size:Nat} (hs:∀ x∈Uy,x.length=size) {k d:Nat} {x:List Value} {v:Value} (hx:Uy[k]? = some x) (hv:x[d]? = some v):Uy.flatten[k*size+d]? = some v:=by
 induction Uy generalizing k with
 | nil=>simp at hx
 | cons y r ih =>
  have hy:=hs y (List.mem_cons_self ..);cases k with
  | zero =>
   simp only [List.getElem?_cons_zero,Option.some.injEq] at hx;subst hx;have hd:d<y.length:=(List.getElem?_eq_some_iff.1 hv).1;rw [Nat.zero_mul,Nat.zero_add,List.flatten_cons,List.getElem?_append_left hd];exact hv
  | succ k =>
   rw [List.flatten_cons,List.getElem?_append_right (by rw [hy,Nat.succ_mul];omega),hy,show (k+1)*size+d - size=k*size+d by rw [Nat.succ_mul];omega];exact ih (fun x hx=>hs x (List.mem_cons_of_mem _ hx)) hx
theorem V7 {w:World} {vO:Value} {O:List (Int×List Rg)} (h:∃ qs:List Value,qs.length=O.length∧Fz w 62 2 vO O.length (List.zipWith (fun (o:Int×List Rg) q=>[Value.int .u32 o.1,q]) O qs).flatten∧∀ (i:Nat) (o:Int×List Rg) (q:Value),O[i]? = some o→qs[i]? = some q→tC w q o.2) {p:Nat} (hp:p<O.length):∃ b off cap cs q,vO=.slice (some ⟨b,off,none⟩) O.length cap∧O.length≤cap∧w.heap[b]? = some (.cells cs 62)∧cs.toList[off+(p*2+1)]? = some q∧tC w q (O.getD p (0,[])).2:=by
 obtain ⟨qs,h1,⟨a,c,rfl,h3,h4,h5⟩,h6⟩:=h;rcases h5 with ⟨_,h0⟩ | ⟨b,off,cs,rfl,hb,hcut⟩
 ·omega
 obtain ⟨o,ho⟩:∃ o,O[p]? = some o:=⟨O[p],by simp [hp]⟩;obtain ⟨q,hq⟩:∃ q,qs[p]? = some q:=⟨qs[p],by simp [h1,hp]⟩;refine ⟨b,off,c,cs,q,rfl,h3,hb,cutAt hcut (d:=p*2+1) (V6 (size:=2) (x:=[.int .u32 o.1,q]) ?_ ?_ rfl) (by omega),?_⟩
 ·intro x hx
  obtain ⟨i,hi⟩:=List.mem_iff_getElem?.1 hx;rw [List.getElem?_zipWith] at hi;cases e1:O[i]? <;> cases e2:qs[i]? <;> rw [e1,e2] at hi <;> cases hi
  rfl
 ·rw [List.getElem?_zipWith,ho,hq]
 ·rw [List.getD_eq_getElem?_getD,ho]
  exact h6 p o q ho hq
theorem tC.hd {w:World} {q:Value} {r:Rg} {rs:List Rg} (h:tC w q (r::rs)):∃ b off cap cs rv dv,q=.slice (some ⟨b,off,none⟩) (rs.length+1) cap∧rs.length+1≤cap∧w.heap[b]? = some (.cells cs 78)∧aO cs.toList off 7=dN r rv dv∧aP w r rv dv:=by
 obtain ⟨vs,h1,⟨a,c,h2,h3,h4,h5⟩,h6⟩:=h;obtain ⟨p,ps,rfl⟩:∃ p ps,vs=p::ps:=by cases vs with | nil=>simp at h1 | cons p ps=>exact ⟨p,ps,rfl⟩
 rcases h5 with ⟨_,h0⟩ | ⟨b,off,cs,rfl,hb,hcut⟩
 ·simp at h0
 refine ⟨b,off,c,cs,p.1,p.2,h2,h3,hb,?_,h6 0 r p rfl rfl⟩;have:=uh cs.toList off ((r::rs).length*7) 0 7 (by simp;omega);rw [hcut] at this;rw [Nat.add_zero] at this;rw [← this];rfl
section
variable {A:bE} (HA:bW A) {Λ:bN} {w:World} {br:Nat} {R:MR}
include HA
theorem V8 (h:Wk Λ br R w) (ho:Ok A R) {p:Nat} (hp:p<R.st.O.length) {s:Int} (hgc:A.gc (sS p s)) (hb:R.out.length≤870000):af Tryz.prog 86 #[.pointer (some ⟨br,0,none⟩),.int .u8 p,.int .u32 s] w (fun v w'=>v=.tuple #[]∧Wk Λ br (rM A R p s) w'∧Kz w w'):=by
 have h0:=h;obtain ⟨a,h⟩:=h;obtain ⟨vm,wm,kn,mt,pp,ac,lg,ob,sT,sM,sD,sO,sI⟩:=a;obtain ⟨B,off,cap,cs,q,rfl,hcap,hB,hq,hQ⟩:=V7 h.ri.st.O hp;refine ah au mixed Tryz.func86 rfl rfl ?_;refine ⟨_,_,h.ri.mem,_,rfl,aj (fun c=>?_) (fun c=>?_)⟩
 ·have c1:R.sc.role≠2:=by simp at c;omega
  have em:rM A R p s=R:=if_pos c1;rw [em];exact ⟨rfl,h0,Kz.refl _⟩
 have c1:¬ R.sc.role≠2:=by simp at c;omega
 have em:rM A R p s=match (R.st.O.getD p (0,[])).2 with
  | []=>R
  | r::_=>if r.seq≤s then eT A R (sS p s) else R:=if_neg c1
 refine ⟨_,_,h.ri.mem,_,rfl,⟨by omega,by omega⟩,_,_,hB,q,hq,?_⟩;cases hl:(R.st.O.getD p (0,[])).2 with
 | nil =>
  rw [hl] at em hQ;obtain ⟨_,_,⟨qa,qc,rfl,_⟩,_⟩:=hQ;rw [em];exact ⟨rfl,h0,Kz.refl _⟩
 | cons r rs =>
  rw [hl] at em hQ;obtain ⟨b,o,qc,cq,rv,dv,rfl,hqc,hbq,hcut,hr⟩:=hQ.hd;have hsq:cq.toList[o+2]? = some (.int .u32 r.seq):=cutAt hcut (d:=2) rfl (by decide);refine aj (fun d=>?_) (fun d=>?_)
  ·refine ⟨⟨by omega,by omega⟩,_,_,hbq,_,hsq,aj (fun e=>?_) (fun e=>?_)⟩
   ·have e1:r.seq≤s:=by simpa using e
    rw [em.trans (if_pos e1)];refine ⟨_,mW HA h0 ho hgc (c:=sS p s) ⟨_,_,rfl,aP.zero _⟩ hb,?_⟩;rintro _ w4 ⟨rfl,h4,k4⟩;exact ⟨rfl,h4,k4⟩
   ·have e1:¬ r.seq≤s:=by simpa using e
    rw [em.trans (if_neg e1)];exact ⟨rfl,h0,Kz.refl _⟩
  ·exfalso;simp at d
end
def nG (f:Nat→Option MV) (n0:Nat):Nat:=(List.range 60).foldl (fun a k=>if (f k).isSome=true then max a (k+1) else a) n0
theorem Ac (f:Nat→Option MV):∀ (l:List Nat) (n0:Nat),n0≤l.foldl (fun a k=>if (f k).isSome=true then max a (k+1) else a) n0∧(∀ k∈l,(f k).isSome=true→k+1≤l.foldl (fun a k=>if (f k).isSome=true then max a (k+1) else a) n0)∧(l.foldl (fun a k=>if (f k).isSome=true then max a (k+1) else a) n0=n0∨∃ k∈l,(f k).isSome=true∧l.foldl (fun a k=>if (f k).isSome=true then max a (k+1) else a) n0=k+1)
 | [],n0=>⟨Nat.le_refl _,fun k h=>(by cases h),.inl rfl⟩
 | x::l,n0=>by
  obtain ⟨h1,h2,h3⟩:=Ac f l (if (f x).isSome=true then max n0 (x+1) else n0);rw [List.foldl_cons];refine ⟨?_,?_,?_⟩
  ·refine Nat.le_trans ?_ h1
   split <;> omega
  ·intro k hk hs
   rcases List.mem_cons.1 hk with rfl | hk
   ·refine Nat.le_trans ?_ h1
    rw [if_pos hs];omega
   ·exact h2 k hk hs
  ·rcases h3 with h3 | ⟨k,hk,hs,h3⟩
   ·by_cases hx:(f x).isSome=true
    ·rw [h3,if_pos hx]
     by_cases hm:n0≤x+1
     ·exact .inr ⟨x,List.mem_cons_self ..,hx,by omega⟩
     ·exact .inl (by omega)
    ·rw [h3,if_neg hx];exact .inl rfl
   ·exact .inr ⟨k,List.mem_cons_of_mem _ hk,hs,h3⟩
theorem Sv {f:Nat→Option MV} {n0 n:Nat} (hk:∀ k v,f k=some v→k<60) (h1:n0≤n) (h2:∀ k v,f k=some v→k+1≤n) (h3:n=n0∨∃ k v,f k=some v∧n=k+1):nG f n0=n:=by
 obtain ⟨g1,g2,g3⟩:=Ac f (List.range 60) n0;refine Nat.le_antisymm ?_ ?_
 ·rcases g3 with g3 | ⟨k,_,hs,g3⟩
  ·unfold nG;omega
  ·obtain ⟨v,hv⟩:=Option.isSome_iff_exists.1 hs
   have:=h2 k v hv;unfold nG;omega
 ·rcases h3 with h3 | ⟨k,v,hv,h3⟩
  ·unfold nG;omega
  ·have:=g2 k (List.mem_range.2 (hk k v hv)) (by rw [hv];rfl)
   unfold nG;omega
def gp (A:bE):Nat→Nat→MR→MR
 | 0,_,R=>R
 | n+1,s,R=>if s<R.sc.next then gp A n (s+1) (if (R.known s).isSome=true then R else kC A R s (((R.met s).map MV.c).getD kQ)) else R
def qh (A:bE) (R:MR):MR:={ gp A 61 R.log.length { R with sc:={ R.sc with role:=2,next:=nG R.met R.log.length } } with met:=fun _=>none }
theorem Wa.Ga {Λ:bN} {w w':World} {br:Nat} {R:MR} {a:fu} (h:Wa Λ br R a w) {x:Nat} (g:GB (some x) w w') (hx:¬ Own br a x) (hp:Λ.pr x=none) (hf:∀ c t,w.heap[x]?≠some (.cells c t)):Wa Λ br R a w':=by
 refine ⟨h.ri.keep (g.BK fun c t _=>hf c t) fun y hy=>g.block y (h.ri.lt hy) fun e=>hx (by cases e;exact hy),fun b o hb=>⟨g.get (h.pr b o hb).1 fun e=>(by cases e;rw [hp] at hb;cases hb),(h.pr b o hb).2⟩,g.os.trans h.os,g.out.trans h.out⟩
section
variable {A:bE} (HA:bW A)
include HA
theorem Ok.yh:∀ (n s:Nat) {R:MR},Ok A R→Ok A (gp A n s R)∧(gp A n s R).out.length≤R.out.length+315*n∧(gp A n s R).sc.i=R.sc.i∧(gp A n s R).sc.sz=R.sc.sz
 | 0,s,R,h=>⟨h,by show R.out.length≤_;omega,rfl,rfl⟩
 | n+1,s,R,h=>by
  unfold gp;have hnx:=h.nx;split
  ·rename_i hs
   by_cases hk:(R.known s).isSome=true
   ·rw [if_pos hk]
    obtain ⟨h1,h2,h3,h4⟩:=Ok.yh n (s+1) h;exact ⟨h1,by omega,h3,h4⟩
   ·rw [if_neg hk]
    have hgc:A.gc (((R.met s).map MV.c).getD kQ):=by
     cases hm:R.met s with
     | none=>exact HA.IY
     | some v=>exact (h.mt _ _ hm).1
    obtain ⟨p1,p2,p3,p4⟩:=h.prop HA (s:=s) (by omega) hgc;obtain ⟨h1,h2,h3,h4⟩:=Ok.yh n (s+1) p1;exact ⟨h1,by omega,h3.trans p3,h4.trans p4⟩
  ·exact ⟨h,by omega,rfl,rfl⟩
omit HA in
theorem Sy {R:MR} (ho:Ok A R):R.log.length≤nG R.met R.log.length∧nG R.met R.log.length≤60:=by
 obtain ⟨g1,g2,g3⟩:=Ac R.met (List.range 60) R.log.length;have:=ho.lg;refine ⟨g1,?_⟩;rcases g3 with g3 | ⟨k,hk,_,g3⟩
 ·unfold nG;omega
 ·have:=List.mem_range.1 hk;unfold nG;omega
omit HA in
theorem Ok.NK {R:MR} (ho:Ok A R):Ok A { R with sc:={ R.sc with role:=2,next:=nG R.met R.log.length } }:=⟨ho.sz,ho.i,ho.st,ho.kn,ho.pp,ho.vt,ho.wv,ho.mt,ho.ac,ho.pr,ho.lg,ho.lc,(Sy ho).2,ho.sn⟩
omit HA in
theorem Ok.ac7 {R:MR} (ho:Ok A R):Ok A { R with met:=fun _=>none }:=⟨ho.sz,ho.i,ho.st,ho.kn,ho.pp,ho.vt,ho.wv,fun _ _ h=>(by cases h),ho.ac,ho.pr,ho.lg,ho.lc,ho.nx,ho.sn⟩
theorem Ok.lead {R:MR} (ho:Ok A R):Ok A (qh A R)∧(qh A R).out.length≤R.out.length+20000∧(qh A R).sc.i=R.sc.i∧(qh A R).sc.sz=R.sc.sz:=by
 obtain ⟨h1,h2,h3,h4⟩:=Ok.yh HA 61 R.log.length ho.NK;exact ⟨h1.ac7,by unfold qh;exact Nat.le_trans h2 (by show R.out.length+_≤_;omega),h3,h4⟩
end
theorem mh.nodup {w:World} {it m:Nat} {l todo:List (Int×Value)} {cur:Option (Int×Value)} (h:mh w it m l todo cur):(l.map Prod.fst).Nodup:=by
 obtain ⟨_,_,_,_,_,_,_,_,_,_,_,_,_,h,_⟩:=h;exact h
theorem mh.it {w:World} {it m:Nat} {l todo:List (Int×Value)} {cur:Option (Int×Value)} (h:mh w it m l todo cur):∃ m' a b c,w.heap[it]? = some (.mapIter m' a b c):=by
 obtain ⟨_,_,_,_,_,_,_,_,_,_,_,h,_⟩:=h;exact ⟨_,_,_,_,h⟩
theorem bS.walk {α:Type} {rel:World→Value→α→Prop} {w:World} {m:Nat} {g:Nat→Option α} (hg:bS rel w m g):∃ l,kV w m l∧((l.map Prod.fst).Nodup→(∀ p∈l,∃ (k:Nat) (d:α),p.1=k∧g k=some d∧rel w p.2 d)∧∀ k d,g k=some d→∃ v,((k:Int),v)∈l∧rel w v d):=by
 obtain ⟨f,⟨l,hl,hlf⟩,e2,e3⟩:=hg;refine ⟨l,hl,fun hn=>⟨?_,?_⟩⟩
 ·intro p hp
  have h1:f p.1=some p.2:=by rw [← hlf];exact (vH hn).2 hp
  obtain ⟨k,hk⟩:∃ k:Nat,p.1=k:=by
   rcases (by omega:p.1<0∨0≤p.1) with h0 | h0
   ·rw [e2 _ h0] at h1;cases h1
   ·exact ⟨p.1.toNat,by omega⟩
  rw [hk] at h1;rcases jL e3 k with ⟨n1,n2⟩ | ⟨x,v,n1,n2,n3⟩
  ·rw [n2] at h1;cases h1
  ·rw [n2] at h1;cases h1;exact ⟨k,x,hk,n1,n3⟩
 ·intro k d nO
  rcases jL e3 k with ⟨n1,n2⟩ | ⟨x,v,n1,n2,n3⟩
  ·rw [n1] at nO;cases nO
  ·rw [n1] at nO;cases nO;exact ⟨v,(vH hn).1 (by rw [hlf];exact n2),n3⟩
theorem KF {A:bE} {n s:Nat} {R:MR} (h:¬ s<R.sc.next):gp A (n+1) s R=R:=by unfold gp;rw [if_neg h]
theorem PQ {A:bE} {n s:Nat} {R:MR} (h:s<R.sc.next):gp A (n+1) s R=gp A n (s+1) (if (R.known s).isSome=true then R else kC A R s (((R.met s).map MV.c).getD kQ)):=by rw [gp,if_pos h]
section
variable {A:bE} (HA:bW A) {Λ:bN} {w:World} {br:Nat} {R:MR}
include HA
theorem V9 (h:Wk Λ br R w) (ho:Ok A R) (hb:R.out.length≤840000):af Tryz.prog 184 #[.pointer (some ⟨br,0,none⟩)] w (fun v w'=>v=.tuple #[]∧Wk Λ br (qh A R) w'∧Kz w w'):=by
 obtain ⟨a,h⟩:=h;obtain ⟨vm,wm,kn,mt,pp,ac,lg,ob,sT,sM,sD,sO,sI⟩:=a;obtain ⟨la,lc,rfl⟩:∃ la lc,lg=.slice la R.log.length lc:=by obtain ⟨_,_,h,_⟩:=h.ri.lg;exact ag h
 have Ux:=ho.lg;refine ah au mixed Tryz.func184 rfl rfl ?_;refine ⟨_,_,_,h.ri.mem,rfl,rfl,fun w1 m1 g1=>?_⟩;have h1:=h.cell (s':={ R.sc with role:=2 }) m1 g1;refine ⟨_,_,h1.ri.mem,_,rfl,.inl ⟨by omega,_,_,_,h1.ri.mem,rfl,rfl,fun w2 m2 g2=>?_⟩⟩;have h2:=h1.cell (s':={ R.sc with role:=2,next:=R.log.length }) m2 g2;have k2:=(h.ri.kz h.ri.eQ g1).trans (h1.ri.kz h1.ri.eQ g2);obtain ⟨l,hl,hw⟩:=h2.ri.mt.walk;refine ⟨_,_,h2.ri.mem,_,rfl,l,hl,fun w3 it i3 g3 l3=>?_⟩;obtain ⟨hm1,hm2⟩:=hw i3.nodup;have h3:=h2.ax g3;have u3:=h2.p9 l3;have n3:¬ Own br ⟨vm,wm,kn,mt,pp,ac,.slice la R.log.length lc,ob,sT,sM,sD,sO,sI⟩ it:=fun e=>by have:=h2.ri.lt e;omega
 refine ⟨fun n s w'=>∃ (todo:List (Int×Value)) (cur:Option (Int×Value)) (x:Nat),n=todo.length∧s=[(0,.pointer (some ⟨br,0,none⟩)),(22,.pointer (some ⟨it,0,none⟩))]∧mh w' it mt l todo cur∧Wa Λ br { R with sc:={ R.sc with role:=2,next:=x } } ⟨vm,wm,kn,mt,pp,ac,.slice la R.log.length lc,ob,sT,sM,sD,sO,sI⟩ w'∧Kz w w'∧R.log.length≤x∧x≤60∧(∀ k v,R.met k=some v→k+1≤x∨∃ v',((k:Int),v')∈todo)∧(x=R.log.length∨∃ k v,R.met k=some v∧x=k+1)∧∀ p∈todo,p∈l,⟨_,_,⟨l,none,R.log.length,rfl,rfl,i3,h3,k2.trans g3.kz,Nat.le_refl _,Ux,fun k v hk=>.inr (by obtain ⟨v',h,_⟩:=hm2 k v hk;exact ⟨v',h⟩),.inl rfl,fun _ h=>h⟩,rfl,rfl,trivial⟩,?_⟩;rintro n s w4 ⟨todo,cur,x,rfl,rfl,i4,h4,k4,hx1,hx2,hx3,hx4,hsub⟩;refine ⟨mt,l,todo,cur,i4,fun e0=>?_,?_⟩
 ·subst e0
  have hx:nG R.met R.log.length=x:=Sv (fun k v hk=>(ho.mt k v hk).2.1) hx1 (fun k v hk=>(hx3 k v hk).elim id (fun h=>by obtain ⟨_,h⟩:=h;cases h)) hx4;have eL:qh A R={ gp A 61 R.log.length { R with sc:={ R.sc with role:=2,next:=x } } with met:=fun _=>none }:=by unfold qh;rw [hx]
  have oL:=ho.NK;rw [hx] at oL;refine ⟨_,_,h4.ri.mem,_,rfl,.inl ⟨by omega,?_⟩⟩;refine ⟨fun n s w'=>∃ (k:Nat) (R':MR),gp A 61 R.log.length { R with sc:={ R.sc with role:=2,next:=x } }=gp A n k R'∧n+k=61+R.log.length∧k≤60∧s=[(0,.pointer (some ⟨br,0,none⟩)),(3,.int .u32 k)]∧Wk Λ br R' w'∧Ok A R'∧Kz w w'∧R'.out.length≤R.out.length+315*k,⟨_,_,⟨R.log.length,_,rfl,rfl,Ux,rfl,⟨_,h4⟩,oL,k4,Nat.le_add_right _ _⟩,rfl,rfl,trivial⟩,?_⟩;rintro n s w5 ⟨k,R',em,en,hk,rfl,⟨a,h5⟩,o5,k5,hb5⟩;obtain ⟨n,rfl⟩:∃ m,n=m+1:=⟨n - 1,by omega⟩;have hnx:=o5.nx;refine ⟨_,_,h5.ri.mem,_,rfl,aj (fun c=>?_) (fun c=>?_)⟩
  ·have c1:k<R'.sc.next:=by simp at c;omega
   have vQ:=em.trans (PQ c1);obtain ⟨f,e1,e2,e3⟩:=h5.ri.kn;refine ⟨_,_,h5.ri.mem,_,rfl,f,e1,fun w6 b6 m6 g6 l6=>?_⟩;rcases jL e3 k with ⟨n1,n2⟩ | ⟨y,v,n1,n2,rv,dv,rfl,hr⟩
   ·rw [n2]
    refine ⟨_,_,_,m6,rfl,rfl,fun w7 m7 g7=>?_⟩;have vR:GB none w5 w7:=g6.new g7 l6;have h7:=h5.ax vR;obtain ⟨f',tH,e2',e3'⟩:=h7.ri.mt;have hout:R'.out.length≤870000:=by omega
    have q5:∀ y:Nat,y≤R'.out.length+315→y≤R.out.length+315*(k+1):=fun y hy=>Nat.le_trans hy (Nat.le_trans (Nat.add_le_add_right hb5 315) (by rw [Nat.mul_add];omega))
    rcases jL e3' k with ⟨n1',Yz⟩ | ⟨y,v,n1',Yz,rv,dv,rfl,hr⟩
    ·refine ⟨_,_,h7.ri.mem,_,rfl,f',tH,?_⟩
     rw [Yz];have vQ:_=gp A n (k+1) (kC A R' k kQ):=vQ.trans (by rw [n1,n1',if_neg (by decide)];rfl);refine ⟨_,Fe HA ⟨_,h7⟩ o5 (s:=k) (by omega) HA.IY (c:=kQ) ⟨_,_,rfl,aP.zero _⟩ hout,?_⟩;rintro _ w8 ⟨rfl,h8,k8⟩;obtain ⟨p1,p2,p3,p4⟩:=o5.prop HA (s:=k) (by omega) HA.IY;exact ⟨by omega,n,_,⟨k+1,kC A R' k kQ,vQ,by omega,by omega,rfl,h8,p1,(k5.trans vR.kz).trans k8,q5 _ p2⟩,⟨rfl,rfl,trivial⟩,by omega⟩
    ·obtain ⟨ra,rn,rc,da,dn,dc,rfl,rfl⟩:=hr.sl
     refine ⟨_,_,h7.ri.mem,_,rfl,f',tH,?_⟩;rw [Yz];have vQ:_=gp A n (k+1) (kC A R' k y.c):=vQ.trans (by rw [n1,n1',if_neg (by decide)];rfl);have hgc:=(o5.mt _ _ n1').1;refine ⟨_,Fe HA ⟨_,h7⟩ o5 (s:=k) (by omega) hgc (c:=y.c) ⟨.slice ra rn rc,.slice da dn dc,rfl,hr⟩ hout,?_⟩;rintro _ w8 ⟨rfl,h8,k8⟩;obtain ⟨p1,p2,p3,p4⟩:=o5.prop HA (s:=k) (by omega) hgc;exact ⟨by omega,n,_,⟨k+1,kC A R' k y.c,vQ,by omega,by omega,rfl,h8,p1,(k5.trans vR.kz).trans k8,q5 _ p2⟩,⟨rfl,rfl,trivial⟩,by omega⟩
   ·rw [n2]
    rw [n1] at vQ;obtain ⟨ra,rn,rc,da,dn,dc,rfl,rfl⟩:=hr.sl;refine ⟨_,_,_,m6,rfl,rfl,fun w7 m7 g7=>?_⟩;have vR:GB none w5 w7:=g6.new g7 l6;exact ⟨by omega,n,_,⟨k+1,R',vQ,by omega,by omega,rfl,⟨_,h5.ax vR⟩,o5,k5.trans vR.kz,by omega⟩,⟨rfl,rfl,trivial⟩,by omega⟩
  ·have c1:¬ k<R'.sc.next:=by simp at c;omega
   have vQ:=em.trans (KF c1);rw [eL,vQ];obtain ⟨f,e1,_⟩:=h5.ri.mt;refine ⟨_,_,h5.ri.mem,_,rfl,f,e1,fun w6 m6 g6=>?_⟩;exact ⟨rfl,⟨_,h5.step h5.ri.lZ g6 (h5.ri.Py g6 (bS.none m6))⟩,k5.trans (h5.ri.kz h5.ri.lZ g6)⟩
 ·rintro i ⟨pk,pv⟩ w5 hi i5 g5
  obtain ⟨k,d,rfl,nO,_⟩:=hm1 _ (hsub _ (List.mem_of_getElem? hi));have hil:i<todo.length:=(List.getElem?_eq_some_iff.1 hi).1;have I1:=(ho.mt k d nO).2.1;have f4:∀ c t,w4.heap[it]?≠some (.cells c t):=by
   intro c t hh;obtain ⟨_,_,_,_,h⟩:=i4.it;rw [h] at hh;cases hh
  have h5:=h4.Ga g5 n3 u3 f4;have iV:(if ((k:Int)+1) > (x:Int) then ((k:Int)+1) else (x:Int))=((max x (k+1):Nat):Int):=by split <;> omega
  refine ⟨mt,l,_,_,i5,_,_,h5.ri.mem,_,rfl,by omega,_,_,fG { R with sc:={ R.sc with role:=2,next:=max x (k+1) } } ⟨vm,wm,kn,mt,pp,ac,.slice la R.log.length lc,ob,sT,sM,sD,sO,sI⟩,h5.ri.mem,rfl,by unfold fG;dsimp only;rw [← iV];rfl,fun w6 m6 g6=>?_⟩;have h6:=h5.cell (s':={ R.sc with role:=2,next:=max x (k+1) }) m6 g6;have Uz:it≠br:=fun e=>n3 (.inl e)
  have nmt:mt≠br:=gK h5.ri.mt.obj h5.ri.rX;have NL:it<w5.heap.size:=by obtain ⟨_,_,_,_,h⟩:=i5.it;exact ae h
  refine ⟨_,_,⟨todo.eraseIdx i,_,max x (k+1),rfl,rfl,i5.keep (g6.block _ NL fun e=>Uz (Option.some.inj e)) (g6.block _ (h5.ri.lt h5.ri.lZ) fun e=>nmt (Option.some.inj e)),h6,(k4.trans (g5.BK fun c t _=>f4 c t)).trans (h5.ri.kz h5.ri.eQ g6),by omega,by omega,?_,?_,fun p hp=>hsub p (List.mem_of_mem_eraseIdx hp)⟩,⟨rfl,rfl,trivial⟩,?_⟩
  ·intro k' v' hk'
   by_cases e:k'=k
   ·exact .inl (by omega)
   ·rcases hx3 k' v' hk' with h | ⟨u,h⟩
    ·exact .inl (by omega)
    ·exact .inr ⟨u,mem_erase h hi fun e'=>e (by have:=congrArg Prod.fst e';dsimp only at this;omega)⟩
  ·by_cases hm:x≤k+1
   ·exact .inr ⟨k,d,nO,by omega⟩
   ·rw [show max x (k+1)=x by omega];exact hx4
  ·rw [List.length_eraseIdx,if_pos hil];omega
end
end
end Go.Proofs.YtignemioillaiabGreat
