/- A replica at work (16): takeAccept, takeAccepted, takeMove. -/
import Derived.Test.YtignemioillaiabGreatG24
namespace Go.Proofs.YtignemioillaiabGreat
set_option maxHeartbeats 8000000
set_option maxRecDepth 100000
section
open Go Go.Conc
section
variable (A:aT)
def j4 (R:MR) (f:Nat×Nat) (m:MM):MR:=if m.b.lt R.sc.b=true then bJ A.enc R f m.b else lH A.enc (rD (bJ A.enc R f m.b) m.s m.c) { aP 7 with b:=m.b,s:=m.s } [f]
def tZ (R:MR) (f:Nat×Nat) (m:MM):MR:=if R.sc.role=2/\m.b=R.sc.b then jl A R m.s f.2 else R
def oI (r:Rg):MC:={ nW with kind:=2,r:=r }
def rF (R:MR) (f:Nat×Nat) (r:Rg):MR:=if R.sc.role≠2 then R else if r.seq<=R.st.I.getD r.src.toNat 0 then Af A.enc R r.src.toNat [f] else if r.seq=R.st.I.getD r.src.toNat 0+1 then fT A R (oI r) else R
end
section
variable {A:aT} (HA:bK A) {Λ:bU} {w:World} {br:Nat} {R:MR}
include HA
theorem N8 (h:Wk Λ br R w) (f:Nat×Nat) {m:MM} {mv:Value} (hm:Ae w mv m) (hb:R.out.length<=870000):af Tryz.prog 82 #[Ptt br,.agg #[.int .u8 f.1,.int .u8 f.2],mv] w (λ v w'=>v=.tuple #[]/\Wk Λ br (j4 A R f m) w'/\Kz w w'):=by
 obtain ⟨rv,dv,vv,rv',dS,rfl,hr,hvs,hr'⟩:=hm;refine aj ah mixed Tryz.func82 rfl rfl ?_;intro w1 b1 m1 g1 l1 w2 b2 m2 g2 l2;obtain ⟨h2,u2⟩:=(h.ax g1).box g2 m2 l2;have m1:=g2.get m1 nofun;have g:=g1.trans g2;refine ⟨_,_,m1,_,rfl,rfl,_,_,m2,_,rfl,rfl,_,Gp HA.mD h2 f m.b (by omega),?_⟩;rintro _ w3 ⟨rfl,h3,k3⟩;have m1:=k3 _ (by decide) _ _ m1;unfold j4;refine au (λ c=>?_) (λ c=>?_)
 ·rw [if_pos c]
  exact ⟨rfl,h3.drop u2,g.kz.trans k3⟩
 rw [if_neg (by rw [c];decide)];have hl:(bJ A.enc R f m.b).out.length<=900000:=by
  unfold bJ;rw [if_neg (by rw [c];decide)];split
  ·omega
  ·show R.out.length<=_;omega
 have hc3:jI w3 (.agg (dz m.c rv dv).toArray) m.c:=⟨_,_,rfl,(hr.kz g.kz).kz k3⟩;refine ⟨_,_,h3.at,_,rfl,_,_,h3.at,dz m.c rv dv,rfl,rfl,_,LF h3 hc3,?_⟩;rintro _ w4 ⟨rfl,h4,k4⟩;have m1:=k4 _ (by decide) _ _ m1;refine ⟨_,_,h4.at,_,rfl,rfl,_,_,h4.at,_,rfl,_,_,m1,_,rfl,rfl,λ w5 b5 m5 g5 l5=>?_⟩;refine ⟨_,mU HA.mD ((h4.drop u2).ax g5) (m:={ aP 7 with b:=m.b,s:=m.s }) ⟨_,_,_,_,_,rfl,aM.zero _,bV.zero _,aM.zero _⟩ (tl:=[f]) ⟨_,_,rfl,Nat.le_refl _,rfl,.inr ⟨_,_,_,rfl,m5,rfl⟩⟩ (by simp;show (bJ A.enc R f m.b).out.length<=_;omega),?_⟩;rintro _ w6 ⟨rfl,h6,k6⟩;exact ⟨rfl,h6,(((g.kz.trans k3).trans k4).trans g5.kz).trans k6⟩
theorem Wo (h:Wk Λ br R w) (ho:Ok A R) (f:Nat×Nat) (hf:f.2<5) {m:MM} (hs:m.s<60) {mv:Value} (hm:Ae w mv m) (hb:R.out.length<=870000):af Tryz.prog 83 #[Ptt br,.agg #[.int .u8 f.1,.int .u8 f.2],mv] w (λ v w'=>v=.tuple #[]/\Wk Λ br (tZ A R f m) w'/\Kz w w'):=by
 obtain ⟨rv,dv,vv,rv',dS,rfl,hr,hvs,hr'⟩:=hm;refine aj ah mixed Tryz.func83 rfl rfl ?_;intro w1 b1 m1 g1 l1 w2 b2 m2 g2 l2;have m1:=g2.get m1 nofun;have g:=g1.trans g2;have h2:=h.ax g;have h20:=h2;obtain ⟨a,h2⟩:=h2;unfold tZ;refine ⟨by kernel_rfl,_,_,h2.ri.mem,_,rfl,au (λ c=>?_) (λ c=>?_)⟩
 ·have c1:R.sc.role=2:=by simp at c;omega
  refine ⟨_,_,m2,_,rfl,rfl,_,_,h2.ri.mem,_,rfl,rfl,au (λ d=>?_) (λ d=>?_)⟩
  ·have d1:m.b=R.sc.b:=by
    have e:m.b.n=R.sc.b.n/\m.b.id=R.sc.b.id:=by simp at d;omega
    exact bE.eq e.1 e.2
   rw [if_pos ⟨c1,d1⟩];refine ⟨_,_,m2,_,rfl,_,_,m1,_,rfl,_,LQ HA h20 ho m.s f.2 hs hf (by omega),?_⟩;rintro _ w3 ⟨rfl,h3,k3⟩;exact ⟨rfl,h3,g.kz.trans k3⟩
  ·have d1:¬ m.b=R.sc.b:=by rintro e;rw [e] at d;simp at d
   rw [if_neg (λ e=>d1 e.2)];exact ⟨rfl,h20,g.kz⟩
 ·have c1:¬ R.sc.role=2:=by simp at c;omega
  rw [if_neg (λ e=>c1 e.1)];exact ⟨rfl,h20,g.kz⟩
theorem Wp (h:Wk Λ br R w) (ho:Ok A R) (f:Nat×Nat) {r:Rg} (hs0:0<=r.src) (hs:r.src.toNat<R.st.I.length) (hq:r.seq<=4294967295) (hgc:A.gc (oI r)) {rv dv:Value} (hr:aM w r rv dv) (hb:R.out.length<=870000):af Tryz.prog 85 #[Ptt br,.agg #[.int .u8 f.1,.int .u8 f.2],.agg (eO r rv dv).toArray] w (λ v w'=>v=.tuple #[]/\Wk Λ br (rF A R f r) w'/\Kz w w'):=by
 have es:(r.src.toNat:Int)=r.src:=Int.toNat_of_nonneg hs0;refine aj ah mixed Tryz.func85 rfl rfl ?_;intro w1 b1 m1 g1 l1 w2 b2 m2 g2 l2;have m1:=g2.get m1 nofun;have g:=g1.trans g2;have h2:=h.ax g;have h20:=h2;obtain ⟨a,h2⟩:=h2;obtain ⟨vm,wm,kn,mt,pp,ac,lg,ob,sT,sM,sD,sO,sI⟩:=a;obtain ⟨ia,ic,rfl,i1,i2,i3⟩:=h2.ri.st.I;rcases i3 with ⟨_,i3⟩ | ⟨B,off,cs,rfl,hB,hcut⟩
 ·omega
 obtain ⟨x,hx⟩:∃ x,R.st.I[r.src.toNat]? = some x:=⟨R.st.I[r.src.toNat],by simp [hs]⟩;have hx0:=HA.LK _ ho.st _ _ hx;have hx1:R.st.I.getD r.src.toNat 0=x:=by rw [List.getD_eq_getElem?_getD,hx];rfl
 have hx2:cs.toList[off+r.src.toNat]? = some (.int .u32 x):=by
  have h1:(aQ cs.toList off (R.st.I.length*1))[r.src.toNat]? = some (.int .u32 x):=by rw [hcut,List.getElem?_map,hx];rfl
  unfold aQ at h1;rw [List.getElem?_take,if_pos (by omega),List.getElem?_drop] at h1;exact h1
 have em:rF A R f r=if R.sc.role≠2 then R else if r.seq<=x then Af A.enc R r.src.toNat [f] else if r.seq=x+1 then fT A R (oI r) else R:=by unfold rF;rw [hx1]
 rw [em];refine ⟨_,_,h2.ri.mem,_,rfl,au (λ c=>?_) (λ c=>?_)⟩
 ·have c1:R.sc.role≠2:=by simp at c;omega
  rw [if_pos c1];exact ⟨rfl,h20,g.kz⟩
 have c1:¬ R.sc.role≠2:=by simp at c;omega
 rw [if_neg c1];refine ⟨by kernel_rfl,_,_,h2.ri.mem,_,rfl,_,_,m2,_,rfl,⟨by omega,by omega⟩,_,_,hB,.int .u32 x,by show cs.toList[off+r.src.toNat*1]? = _;rw [Nat.mul_one];exact hx2,?_⟩;refine ⟨_,_,m2,_,rfl,au (λ d=>?_) (λ d=>?_)⟩
 ·have d1:r.seq<=x:=by simpa using d
  rw [if_pos d1];refine ⟨_,_,m2,_,rfl,_,_,m1,_,rfl,rfl,λ w3 b3 m3 g3 l3=>?_⟩;have ha:=PV HA.mD (h20.ax g3) hs (tv:=.slice (some ⟨b3,0,none⟩) 1 1) (tl:=[f]) ⟨_,_,rfl,Nat.le_refl _,rfl,.inr ⟨_,0,_,rfl,m3,rfl⟩⟩ (by simp;omega);rw [es] at ha;refine ⟨_,ha,?_⟩;rintro _ w4 ⟨rfl,h4,k4⟩;exact ⟨rfl,h4,(g.trans g3).kz.trans k4⟩
 have d1:¬ r.seq<=x:=by simpa using d
 rw [if_neg d1];refine ⟨_,_,m2,_,rfl,by omega,au (λ e=>?_) (λ e=>?_)⟩
 ·have e1:r.seq=x+1:=by simpa using e
  rw [if_pos e1];refine ⟨_,_,m2,eO r rv dv,rfl,rfl,_,CY HA h20 ho hgc (c:=oI r) ⟨rv,dv,rfl,hr.kz g.kz⟩ hb,?_⟩;rintro _ w4 ⟨rfl,h4,k4⟩;exact ⟨rfl,h4,g.kz.trans k4⟩
 ·have e1:¬ r.seq=x+1:=by simpa using e
  rw [if_neg e1];exact ⟨rfl,h20,g.kz⟩
end
def eB (p q:az):Bool:=p.c == q.c && (p.s == q.s && (p.key == q.key && (p.k == q.k && (p.found == q.found && (p.v == q.v && (p.g == q.g && true))))))
theorem Jo {l:List az} {k:Nat} {p:az} (h:l[k]? = some p):aQ (l.map az.cells).flatten (k*7) 7=p.cells:=by
 rw [<- List.flatMap_def];exact jW (f:=az.cells) (λ _=>rfl) l k p h
theorem any_take_succ {α:Type} (f:α->Bool) (l:List α) (k:Nat) (x:α) (h:l[k]? = some x):(l.take (k+1)).any f=((l.take k).any f || f x):=by
 rw [List.take_add_one,h,List.any_append];simp
theorem YK (w:World) {l:List az} {v:Value} (hl:Fz w 70 7 v l.length (l.map az.cells).flatten) (hn:l.length<=1000000) (p:az):af Tryz.prog 179 #[v,.agg p.cells.toArray] w (λ v w'=>(∃ i:Int,v=.int .i64 i/\(0<=i↔l.any (eB p)=true))/\GB none w w'):=by
 obtain ⟨ta,tc,rfl,htc,htl,htd⟩:=hl;refine aj ah mixed Tryz.func179 rfl rfl ?_;intro w1 b1 m1 g1 l1;refine ⟨λ q s w3=>∃ (k:Nat),q=l.length - k/\k<=l.length/\s=[(0,.slice ta l.length tc),(3,Ptt b1),(7,.int .i64 l.length),(8,.int .i64 k)]/\w3=w1/\(l.take k).any (eB p)=false,⟨_,_,⟨0,rfl,Nat.zero_le _,rfl,rfl,rfl⟩,rfl,rfl,rfl,rfl,trivial⟩,?_⟩;rintro q s w3 ⟨k,rfl,hk,rfl,rfl,hno⟩;refine au (λ c=>?_) (λ c=>?_)
 ·have c1:k<l.length:=by simp at c;omega
  rcases htd with ⟨_,h0⟩ | ⟨B,off,cs,rfl,hB,hcut⟩
  ·omega
  obtain ⟨x,hx⟩:∃ x,l[k]? = some x:=⟨l[k],by simp [c1]⟩;refine ⟨by kernel_rfl,_,_,m1,_,rfl,rfl,⟨by omega,by omega⟩,_,_,g1.get hB nofun,x.cells,(Fz.elem hcut c1).trans (Jo hx),rfl,au (λ d=>?_) (λ d=>?_)⟩
  ·have d1:eB p x=true:=d
   exact ⟨⟨k,rfl,λ _=>List.any_eq_true.2 ⟨x,List.mem_of_getElem? hx,d1⟩,λ _=>by omega⟩,g1⟩
  ·have d1:eB p x=false:=d
   exact ⟨by omega,_,_,⟨k+1,rfl,by omega,rfl,rfl,by rw [any_take_succ _ _ _ _ hx,hno,d1];rfl⟩,⟨rfl,rfl,rfl,rfl,trivial⟩,by omega⟩
 ·have c1:k=l.length:=by simp at c;omega
  subst c1;rw [List.take_length] at hno;exact ⟨⟨-1,rfl,λ h=>absurd h (by decide),λ h=>by rw [hno] at h;cases h⟩,g1⟩
theorem Wq (w:World) {l:List az} {v:Value} (hl:Fz w 70 7 v l.length (l.map az.cells).flatten) (hn:l.length<=1000000) (p:az):af Tryz.prog 135 #[v,.agg p.cells.toArray] w (λ v w'=>v=.bool (l.any (eB p))/\GB none w w'):=by
 have hl0:=hl;obtain ⟨ta,tc,rfl,htc,htl,htd⟩:=hl;refine aj ah mixed Tryz.func135 rfl rfl ?_;intro w1 b1 m1 g1 l1;refine ⟨_,_,m1,p.cells,rfl,rfl,_,YK w1 (hl0.kz g1.kz (by decide)) hn p,?_⟩;rintro _ w2 ⟨⟨i,rfl,hi⟩,g2⟩;refine ⟨congrArg Value.bool ?_,g1.trans g2⟩;cases hh:l.any (eB p) with
 | true=>exact decide_eq_true (hi.2 hh)
 | false=>exact decide_eq_false λ h=>by rw [hi.1 h] at hh;cases hh
def gI (q:bN):MC:={ nW with kind:=1,q:=q }
def uT (A:aT) (R:MR) (q:bN):MR:=if R.sc.role≠2 then R else if R.st.D.any (eB (A.ap R.st (gI q)).2)=true then Bo A.enc R (A.ap R.st (gI q)).2 else fT A R (gI q)
section
variable {A:aT} (HA:bK A) {Λ:bU} {w:World} {br:Nat} {R:MR}
include HA
theorem YL (h:Wk Λ br R w) (ho:Ok A R) {q:bN} (hgc:A.gc (gI q)) (hb:R.out.length<=870000):af Tryz.prog 78 #[Ptt br,.agg q.cells.toArray] w (λ v w'=>v=.tuple #[]/\Wk Λ br (uT A R q) w'/\Kz w w'):=by
 refine Ak ah Tryz.func78 rfl rfl ?_;refine CS.piece (Q:=λ s w1=>∃ b1,s=[(0,Ptt br),(3,Ptt b1)]/\w1.heap[b1]? = some (.cells q.cells.toArray 65)/\GB none w w1) (CS.of ah mixed λ w1 b1 m1 g1 l1=>⟨_,by exact ⟨rfl,rfl,trivial⟩,b1,rfl,m1,g1⟩) ?_;rintro _ w1 ⟨b1,rfl,m1,g1⟩;have h10:=h.ax g1;obtain ⟨a,h1⟩:=h10;refine CS.cut (Qn:=λ s w'=>¬ R.sc.role≠2/\s=[(0,Ptt br),(3,Ptt b1)]/\w'=w1) (Qx:=λ _ _ _=>False) (Qr:=λ s w'=>R.sc.role≠2/\s=[]/\w'=w1) (CS.of ah mixed ⟨_,_,h1.ri.mem,_,rfl,au (λ c=>⟨_,by exact trivial,by simp at c;omega,rfl,rfl⟩) (λ c=>⟨_,by exact ⟨rfl,rfl,trivial⟩,by simp at c;omega,rfl,rfl⟩)⟩) ?_ (λ _ _ _ _ h _=>h.elim) ?_;rotate_left
 ·rintro _ s w1 ⟨c1,rfl,rfl⟩ hs
  rw [show uT A R q=R from if_pos c1];exact qY hs ⟨rfl,⟨_,h1⟩,g1.kz⟩
 rintro _ w1 ⟨c1,rfl,rfl⟩;refine CS.piece (Q:=λ s w3=>∃ b2,s=[(0,Ptt br),(4,Ptt b2)]/\w3.heap[b2]? = some (.cells (dz (gI q) (.slice none 0 0) (.slice none 0 0)).toArray 80)/\GB none w1 w3/\w1.heap.size<=b2) (CS.of ah mixed ⟨_,_,m1,q.cells,rfl,rfl,λ w2 b2 m2 g2 l2=>⟨_,_,_,m2,rfl,rfl,λ w3 m3 g3=>⟨_,by exact ⟨rfl,rfl,trivial⟩,b2,rfl,m3,g2.new g3 l2,l2⟩⟩⟩) ?_;rintro _ w3 ⟨b2,rfl,m3,g13,l2⟩;have h3:=h1.box g13 m3 l2;have u3:=h1.qf l2;have gg:=g1.trans g13;obtain ⟨vm,wm,kn,mt,pp,ac,lg,ob,sT,sM,sD,sO,sI⟩:=a;have hc3:jI w3 (.agg (dz (gI q) (.slice none 0 0) (.slice none 0 0)).toArray) (gI q):=⟨_,_,rfl,aM.zero _⟩;have hcall:=λ w' (g:GB none w3 w')=>HA.call w' R.st (gI q) _ _ _ _ _ _ (h3.ax g).ri.st ho.st (hc3.kz g.kz) hgc
 refine CS.piece (Q:=λ s w8=>∃ b6,s=[(0,Ptt br),(4,Ptt b2),(6,Ptt b6)]/\w8.heap[b6]? = some (.cells (A.ap R.st (gI q)).2.cells.toArray 70)/\GB none w3 w8) (CS.of ah mixed ?_) ?_
 ·refine ⟨by kernel_rfl,_,_,h3.ri.mem,_,rfl,rfl,_,_,m3,dz (gI q) (.slice none 0 0) (.slice none 0 0),rfl,rfl,?_⟩
  refine ⟨⟨_,hcall w3 (GB.refl _ _),?_⟩,?_,?_⟩
  ·rintro _ v1 ⟨T,M,D,O,I,rfl,hs,K1⟩
   have G1:GB none w3 v1:=K1;obtain ⟨ta,tn,tc,ma,mn,mc,da,dn,dc,oa,on,oc,ia,il,ic,rfl,rfl,rfl,rfl,rfl⟩:=(hs _ λ _ _ _=>rfl).sl;refine ⟨?_,?_⟩
   ·intro v2 b5 m5 K2 L5
    have G2:GB none w3 v2:=G1.trans K2;have l5:w3.heap.size<=b5:=Nat.le_trans G1.size L5;have Jp:=ag m5;refine ⟨⟨G2.get m3 nofun,(h3.ax G2).ri.mem,trivial⟩,?_⟩;intro v3 b6 m6 K3 L6;have G3:GB none w3 v3:=G2.trans K3;have l6:w3.heap.size<=b6:=Nat.le_trans G2.size L6;have Jq:=ag m6;have Jp:=ag m5;have m5:=K3.get m5 nofun;refine ⟨⟨G3.get m3 nofun,(h3.ax G3).ri.mem,trivial⟩,?_⟩;exact ⟨_,_,_,m5,rfl,rfl,λ w7 m7 g7=>⟨_,_,_,g7.get m6 (λ e=>by cases e;omega),rfl,rfl,λ w8 m8 g8=>⟨_,by exact ⟨rfl,rfl,rfl,trivial⟩,b6,rfl,m8,(G3.new g7 l5).new g8 l6⟩⟩⟩
   ·intro v2 b6 m6 K2 L6
    have G2:GB none w3 v2:=G1.trans K2;have l6:w3.heap.size<=b6:=Nat.le_trans G1.size L6;have Jq:=ag m6;refine ⟨⟨G2.get m3 nofun,(h3.ax G2).ri.mem,trivial⟩,?_⟩;intro v3 b5 m5 K3 L5;have G3:GB none w3 v3:=G2.trans K3;have l5:w3.heap.size<=b5:=Nat.le_trans G2.size L5;have Jp:=ag m5;have Jq:=ag m6;have m6:=K3.get m6 nofun;refine ⟨⟨G3.get m3 nofun,(h3.ax G3).ri.mem,trivial⟩,?_⟩;exact ⟨_,_,_,m5,rfl,rfl,λ w7 m7 g7=>⟨_,_,_,g7.get m6 (λ e=>by cases e;omega),rfl,rfl,λ w8 m8 g8=>⟨_,by exact ⟨rfl,rfl,rfl,trivial⟩,b6,rfl,m8,(G3.new g7 l5).new g8 l6⟩⟩⟩
  ·intro v1 b5 m5 K1 L5
   have G1:GB none w3 v1:=K1;have l5:w3.heap.size<=b5:=L5;have Jp:=ag m5;refine ⟨⟨G1.get m3 nofun,(h3.ax G1).ri.mem,trivial⟩,?_⟩;refine ⟨⟨_,hcall v1 G1,?_⟩,?_⟩
   ·rintro _ v2 ⟨T,M,D,O,I,rfl,hs,K2⟩
    have G2:GB none w3 v2:=G1.trans K2;obtain ⟨ta,tn,tc,ma,mn,mc,da,dn,dc,oa,on,oc,ia,il,ic,rfl,rfl,rfl,rfl,rfl⟩:=(hs _ λ _ _ _=>rfl).sl;have m5:=K2.get m5 nofun;intro v3 b6 m6 K3 L6;have G3:GB none w3 v3:=G2.trans K3;have l6:w3.heap.size<=b6:=Nat.le_trans G2.size L6;have Jq:=ag m6;have Jp:=ag m5;have m5:=K3.get m5 nofun;refine ⟨⟨G3.get m3 nofun,(h3.ax G3).ri.mem,trivial⟩,?_⟩;exact ⟨_,_,_,m5,rfl,rfl,λ w7 m7 g7=>⟨_,_,_,g7.get m6 (λ e=>by cases e;omega),rfl,rfl,λ w8 m8 g8=>⟨_,by exact ⟨rfl,rfl,rfl,trivial⟩,b6,rfl,m8,(G3.new g7 l5).new g8 l6⟩⟩⟩
   ·intro v2 b6 m6 K2 L6
    have G2:GB none w3 v2:=G1.trans K2;have l6:w3.heap.size<=b6:=Nat.le_trans G1.size L6;have Jq:=ag m6;have Jp:=ag m5;have m5:=K2.get m5 nofun;refine ⟨⟨G2.get m3 nofun,(h3.ax G2).ri.mem,trivial⟩,?_⟩;refine ⟨_,hcall v2 G2,?_⟩;rintro _ v3 ⟨T,M,D,O,I,rfl,hs,K3⟩;have G3:GB none w3 v3:=G2.trans K3;obtain ⟨ta,tn,tc,ma,mn,mc,da,dn,dc,oa,on,oc,ia,il,ic,rfl,rfl,rfl,rfl,rfl⟩:=(hs _ λ _ _ _=>rfl).sl;have m5:=K3.get m5 nofun;have m6:=K3.get m6 nofun;exact ⟨_,_,_,m5,rfl,rfl,λ w7 m7 g7=>⟨_,_,_,g7.get m6 (λ e=>by cases e;omega),rfl,rfl,λ w8 m8 g8=>⟨_,by exact ⟨rfl,rfl,rfl,trivial⟩,b6,rfl,m8,(G3.new g7 l5).new g8 l6⟩⟩⟩
  ·intro v1 b6 m6 K1 L6
   have G1:GB none w3 v1:=K1;have l6:w3.heap.size<=b6:=L6;have Jq:=ag m6;refine ⟨⟨G1.get m3 nofun,(h3.ax G1).ri.mem,trivial⟩,?_⟩;refine ⟨⟨_,hcall v1 G1,?_⟩,?_⟩
   ·rintro _ v2 ⟨T,M,D,O,I,rfl,hs,K2⟩
    have G2:GB none w3 v2:=G1.trans K2;obtain ⟨ta,tn,tc,ma,mn,mc,da,dn,dc,oa,on,oc,ia,il,ic,rfl,rfl,rfl,rfl,rfl⟩:=(hs _ λ _ _ _=>rfl).sl;have m6:=K2.get m6 nofun;intro v3 b5 m5 K3 L5;have G3:GB none w3 v3:=G2.trans K3;have l5:w3.heap.size<=b5:=Nat.le_trans G2.size L5;have Jp:=ag m5;have Jq:=ag m6;have m6:=K3.get m6 nofun;refine ⟨⟨G3.get m3 nofun,(h3.ax G3).ri.mem,trivial⟩,?_⟩;exact ⟨_,_,_,m5,rfl,rfl,λ w7 m7 g7=>⟨_,_,_,g7.get m6 (λ e=>by cases e;omega),rfl,rfl,λ w8 m8 g8=>⟨_,by exact ⟨rfl,rfl,rfl,trivial⟩,b6,rfl,m8,(G3.new g7 l5).new g8 l6⟩⟩⟩
   ·intro v2 b5 m5 K2 L5
    have G2:GB none w3 v2:=G1.trans K2;have l5:w3.heap.size<=b5:=Nat.le_trans G1.size L5;have Jp:=ag m5;have Jq:=ag m6;have m6:=K2.get m6 nofun;refine ⟨⟨G2.get m3 nofun,(h3.ax G2).ri.mem,trivial⟩,?_⟩;refine ⟨_,hcall v2 G2,?_⟩;rintro _ v3 ⟨T,M,D,O,I,rfl,hs,K3⟩;have G3:GB none w3 v3:=G2.trans K3;obtain ⟨ta,tn,tc,ma,mn,mc,da,dn,dc,oa,on,oc,ia,il,ic,rfl,rfl,rfl,rfl,rfl⟩:=(hs _ λ _ _ _=>rfl).sl;have m5:=K3.get m5 nofun;have m6:=K3.get m6 nofun;exact ⟨_,_,_,m5,rfl,rfl,λ w7 m7 g7=>⟨_,_,_,g7.get m6 (λ e=>by cases e;omega),rfl,rfl,λ w8 m8 g8=>⟨_,by exact ⟨rfl,rfl,rfl,trivial⟩,b6,rfl,m8,(G3.new g7 l5).new g8 l6⟩⟩⟩
 rintro _ w8 ⟨b6,rfl,m8,gB⟩;have h8:=h3.ax gB;refine CS.of ah mixed ?_;refine ⟨by kernel_rfl,_,_,h8.ri.mem,_,rfl,_,_,m8,(A.ap R.st (gI q)).2.cells,rfl,rfl,_,Wq w8 h8.ri.st.D (HA.dl _ ho.st) _,?_⟩;rintro _ w9 ⟨rfl,g9⟩;have h9:=h8.ax g9;have k9:=((gg.trans gB).trans g9).kz;refine au (λ d=>?_) (λ d=>?_)
 ·rw [show uT A R q=Bo A.enc R (A.ap R.st (gI q)).2 from (if_neg c1).trans (if_pos d)]
  refine ⟨_,_,g9.get m8 nofun,(A.ap R.st (gI q)).2.cells,rfl,rfl,_,LG HA.mD (Wk.drop ⟨_,h9⟩ u3) (HA.rep _ _ ho.st hgc) (by omega),?_⟩;rintro _ qm ⟨rfl,h10,k10⟩;exact ⟨rfl,h10,k9.trans k10⟩
 ·rw [show uT A R q=fT A R (gI q) from (if_neg c1).trans (if_neg (by rw [d];decide))]
  have m9:=(h9.pr b2 _ (bU.xz _ _ _)).1;refine ⟨_,_,m9,dz (gI q) (.slice none 0 0) (.slice none 0 0),rfl,rfl,_,CY HA (Wk.drop ⟨_,h9⟩ u3) ho hgc (c:=gI q) ⟨_,_,rfl,aM.zero _⟩ hb,?_⟩;rintro _ qm ⟨rfl,h10,k10⟩;exact ⟨rfl,h10,k9.trans k10⟩
end
def sS (p s:Int):MC:={ nW with kind:=3,peer:=p,seq:=s }
def rG (A:aT) (R:MR) (p:Nat) (s:Int):MR:=if R.sc.role≠2 then R else match (R.st.O.getD p (0,[])).2 with
 | []=>R
 | r::_=>if r.seq<=s then fT A R (sS p s) else R
theorem cutAt {cs:List Value} {off n d:Nat} {xs:List Value} (h:aQ cs off n=xs) {v:Value} (hv:xs[d]? = some v) (hd:d<n):cs[off+d]? = some v:=by
 rw [<- h] at hv;unfold aQ at hv;rw [List.getElem?_take,if_pos hd,List.getElem?_drop] at hv;exact hv
theorem Ws {UR:List (List Value)} {size:Nat} (hs:∀ x∈UR,x.length=size) {k d:Nat} {x:List Value} {v:Value} (hx:UR[k]? = some x) (hv:x[d]? = some v):UR.flatten[k*size+d]? = some v:=by
 induction UR generalizing k with
 | nil=>simp at hx
 | cons y r ih =>
  have hy:=hs y (List.mem_cons_self ..);cases k with
  | zero =>
   simp only [List.getElem?_cons_zero,Option.some.injEq] at hx;subst hx;have hd:d<y.length:=(List.getElem?_eq_some_iff.1 hv).1;rw [Nat.zero_mul,Nat.zero_add,List.flatten_cons,List.getElem?_append_left hd];exact hv
  | succ k =>
   rw [List.flatten_cons,List.getElem?_append_right (by rw [hy,Nat.succ_mul];omega),hy,show (k+1)*size+d - size=k*size+d by rw [Nat.succ_mul];omega];exact ih (λ x hx=>hs x (List.mem_cons_of_mem _ hx)) hx
theorem Wt {w:World} {vO:Value} {O:List (Int×List Rg)} (h:∃ qs:List Value,qs.length=O.length/\Fz w 62 2 vO O.length (List.zipWith (λ (o:Int×List Rg) q=>[Value.int .u32 o.1,q]) O qs).flatten/\∀ (i:Nat) (o:Int×List Rg) (q:Value),O[i]? = some o->qs[i]? = some q->tF w q o.2) {p:Nat} (hp:p<O.length):∃ b off cap cs q,vO=.slice (some ⟨b,off,none⟩) O.length cap/\O.length<=cap/\w.heap[b]? = some (.cells cs 62)/\cs.toList[off+(p*2+1)]? = some q/\tF w q (O.getD p (0,[])).2:=by
 obtain ⟨qs,h1,⟨a,c,rfl,h3,h4,h5⟩,h6⟩:=h;rcases h5 with ⟨_,h0⟩ | ⟨b,off,cs,rfl,hb,hcut⟩
 ·omega
 obtain ⟨o,ho⟩:∃ o,O[p]? = some o:=⟨O[p],by simp [hp]⟩;obtain ⟨q,hq⟩:∃ q,qs[p]? = some q:=⟨qs[p],by simp [h1,hp]⟩;refine ⟨b,off,c,cs,q,rfl,h3,hb,cutAt hcut (d:=p*2+1) (Ws (size:=2) (x:=[.int .u32 o.1,q]) ?_ ?_ rfl) (by omega),?_⟩
 ·intro x hx
  obtain ⟨i,hi⟩:=List.mem_iff_getElem?.1 hx;rw [List.getElem?_zipWith] at hi;cases e1:O[i]? <;> cases e2:qs[i]? <;> rw [e1,e2] at hi <;> cases hi
  rfl
 ·rw [List.getElem?_zipWith,ho,hq]
 ·rw [List.getD_eq_getElem?_getD,ho]
  exact h6 p o q ho hq
theorem tF.hd {w:World} {q:Value} {r:Rg} {rs:List Rg} (h:tF w q (r::rs)):∃ b off cap cs rv dv,q=.slice (some ⟨b,off,none⟩) (rs.length+1) cap/\rs.length+1<=cap/\w.heap[b]? = some (.cells cs 78)/\aQ cs.toList off 7=eO r rv dv/\aM w r rv dv:=by
 obtain ⟨vs,h1,⟨a,c,h2,h3,h4,h5⟩,h6⟩:=h;obtain ⟨p,ps,rfl⟩:∃ p ps,vs=p::ps:=by cases vs with | nil=>simp at h1 | cons p ps=>exact ⟨p,ps,rfl⟩
 rcases h5 with ⟨_,h0⟩ | ⟨b,off,cs,rfl,hb,hcut⟩
 ·simp at h0
 refine ⟨b,off,c,cs,p.1,p.2,h2,h3,hb,?_,h6 0 r p rfl rfl⟩;have:=uk cs.toList off ((r::rs).length*7) 0 7 (by simp;omega);rw [hcut] at this;rw [Nat.add_zero] at this;rw [<- this];rfl
section
variable {A:aT} (HA:bK A) {Λ:bU} {w:World} {br:Nat} {R:MR}
include HA
theorem Wu (h:Wk Λ br R w) (ho:Ok A R) {p:Nat} (hp:p<R.st.O.length) {s:Int} (hgc:A.gc (sS p s)) (hb:R.out.length<=870000):af Tryz.prog 86 #[Ptt br,.int .u8 p,.int .u32 s] w (λ v w'=>v=.tuple #[]/\Wk Λ br (rG A R p s) w'/\Kz w w'):=by
 have h0:=h;obtain ⟨a,h⟩:=h;obtain ⟨vm,wm,kn,mt,pp,ac,lg,ob,sT,sM,sD,sO,sI⟩:=a;obtain ⟨B,off,cap,cs,q,rfl,hcap,hB,hq,hQ⟩:=Wt h.ri.st.O hp;refine aj ah mixed Tryz.func86 rfl rfl ?_;refine ⟨_,_,h.ri.mem,_,rfl,au (λ c=>?_) (λ c=>?_)⟩
 ·have c1:R.sc.role≠2:=by simp at c;omega
  have em:rG A R p s=R:=if_pos c1;rw [em];exact ⟨rfl,h0,Kz.refl _⟩
 have c1:¬ R.sc.role≠2:=by simp at c;omega
 have em:rG A R p s=match (R.st.O.getD p (0,[])).2 with
  | []=>R
  | r::_=>if r.seq<=s then fT A R (sS p s) else R:=if_neg c1
 refine ⟨_,_,h.ri.mem,_,rfl,⟨by omega,by omega⟩,_,_,hB,q,hq,?_⟩;cases hl:(R.st.O.getD p (0,[])).2 with
 | nil =>
  rw [hl] at em hQ;obtain ⟨_,_,⟨qa,qc,rfl,_⟩,_⟩:=hQ;rw [em];exact ⟨rfl,h0,Kz.refl _⟩
 | cons r rs =>
  rw [hl] at em hQ;obtain ⟨b,o,qc,cq,rv,dv,rfl,hqc,hbq,hcut,hr⟩:=hQ.hd;have hsq:cq.toList[o+2]? = some (.int .u32 r.seq):=cutAt hcut (d:=2) rfl (by decide);refine au (λ d=>?_) (λ d=>?_)
  ·refine ⟨⟨by omega,by omega⟩,_,_,hbq,_,hsq,au (λ e=>?_) (λ e=>?_)⟩
   ·have e1:r.seq<=s:=by simpa using e
    rw [em.trans (if_pos e1)];refine ⟨_,CY HA h0 ho hgc (c:=sS p s) ⟨_,_,rfl,aM.zero _⟩ hb,?_⟩;rintro _ w4 ⟨rfl,h4,k4⟩;exact ⟨rfl,h4,k4⟩
   ·have e1:¬ r.seq<=s:=by simpa using e
    rw [em.trans (if_neg e1)];exact ⟨rfl,h0,Kz.refl _⟩
  ·exfalso;simp at d
end
def iG (f:Nat->Option MV) (n0:Nat):Nat:=(List.range 60).foldl (λ a k=>if (f k).isSome=true then max a (k+1) else a) n0
theorem Am (f:Nat->Option MV):∀ (l:List Nat) (n0:Nat),n0<=l.foldl (λ a k=>if (f k).isSome=true then max a (k+1) else a) n0/\(∀ k∈l,(f k).isSome=true->k+1<=l.foldl (λ a k=>if (f k).isSome=true then max a (k+1) else a) n0)/\(l.foldl (λ a k=>if (f k).isSome=true then max a (k+1) else a) n0=n0\/∃ k∈l,(f k).isSome=true/\l.foldl (λ a k=>if (f k).isSome=true then max a (k+1) else a) n0=k+1)
 | [],n0=>⟨Nat.le_refl _,λ k h=>(by cases h),.inl rfl⟩
 | x::l,n0=>by
  obtain ⟨h1,h2,h3⟩:=Am f l (if (f x).isSome=true then max n0 (x+1) else n0);rw [List.foldl_cons];refine ⟨?_,?_,?_⟩
  ·refine Nat.le_trans ?_ h1
   split <;> omega
  ·intro k hk hs
   rcases List.mem_cons.1 hk with rfl | hk
   ·refine Nat.le_trans ?_ h1
    rw [if_pos hs];omega
   ·exact h2 k hk hs
  ·rcases h3 with h3 | ⟨k,hk,hs,h3⟩
   ·by_cases hx:(f x).isSome=true
    ·rw [h3,if_pos hx]
     by_cases hm:n0<=x+1
     ·exact .inr ⟨x,List.mem_cons_self ..,hx,by omega⟩
     ·exact .inl (by omega)
    ·rw [h3,if_neg hx];exact .inl rfl
   ·exact .inr ⟨k,List.mem_cons_of_mem _ hk,hs,h3⟩
theorem Td {f:Nat->Option MV} {n0 n:Nat} (hk:∀ k v,f k=some v->k<60) (h1:n0<=n) (h2:∀ k v,f k=some v->k+1<=n) (h3:n=n0\/∃ k v,f k=some v/\n=k+1):iG f n0=n:=by
 obtain ⟨g1,g2,g3⟩:=Am f (List.range 60) n0;refine Nat.le_antisymm ?_ ?_
 ·rcases g3 with g3 | ⟨k,_,hs,g3⟩
  ·unfold iG;omega
  ·obtain ⟨v,hv⟩:=Option.isSome_iff_exists.1 hs
   have:=h2 k v hv;unfold iG;omega
 ·rcases h3 with h3 | ⟨k,v,hv,h3⟩
  ·unfold iG;omega
  ·have:=g2 k (List.mem_range.2 (hk k v hv)) (by rw [hv];rfl)
   unfold iG;omega
def eD (A:aT):Nat->Nat->MR->MR
 | 0,_,R=>R
 | n+1,s,R=>if s<R.sc.next then eD A n (s+1) (if (R.known s).isSome=true then R else gY A R s (((R.met s).map MV.c).getD nW)) else R
def nA (A:aT) (R:MR):MR:={ eD A 61 R.log.length { R with sc:={ R.sc with role:=2,next:=iG R.met R.log.length } } with met:=λ _=>none }
theorem Wa.Gv {Λ:bU} {w w':World} {br:Nat} {R:MR} {a:fH} (h:Wa Λ br R a w) {x:Nat} (g:GB (some x) w w') (hx:¬ Own br a x) (hp:Λ.pr x=none) (hf:∀ c t,w.heap[x]?≠some (.cells c t)):Wa Λ br R a w':=by
 refine ⟨h.ri.keep (g.BX λ c t _=>hf c t) λ y hy=>g.block y (h.ri.lt hy) λ e=>hx (by cases e;exact hy),λ b o hb=>⟨g.get (h.pr b o hb).1 λ e=>(by cases e;rw [hp] at hb;cases hb),(h.pr b o hb).2⟩,g.os.trans h.os,g.out.trans h.out⟩
section
variable {A:aT} (HA:bK A)
include HA
theorem Ok.qo:∀ (n s:Nat) {R:MR},Ok A R->Ok A (eD A n s R)/\(eD A n s R).out.length<=R.out.length+315*n/\(eD A n s R).sc.i=R.sc.i/\(eD A n s R).sc.sz=R.sc.sz
 | 0,s,R,h=>⟨h,by show R.out.length<=_;omega,rfl,rfl⟩
 | n+1,s,R,h=>by
  unfold eD;have hnx:=h.nx;split
  ·rename_i hs
   by_cases hk:(R.known s).isSome=true
   ·rw [if_pos hk]
    obtain ⟨h1,h2,h3,h4⟩:=Ok.qo n (s+1) h;exact ⟨h1,by omega,h3,h4⟩
   ·rw [if_neg hk]
    have hgc:A.gc (((R.met s).map MV.c).getD nW):=by
     cases hm:R.met s with
     | none=>exact HA.LJ
     | some v=>exact (h.mt _ _ hm).1
    obtain ⟨p1,p2,p3,p4⟩:=h.prop HA (s:=s) (by omega) hgc;obtain ⟨h1,h2,h3,h4⟩:=Ok.qo n (s+1) p1;exact ⟨h1,by omega,h3.trans p3,h4.trans p4⟩
  ·exact ⟨h,by omega,rfl,rfl⟩
omit HA in
theorem Te {R:MR} (ho:Ok A R):R.log.length<=iG R.met R.log.length/\iG R.met R.log.length<=60:=by
 obtain ⟨g1,g2,g3⟩:=Am R.met (List.range 60) R.log.length;have:=ho.lg;refine ⟨g1,?_⟩;rcases g3 with g3 | ⟨k,hk,_,g3⟩
 ·unfold iG;omega
 ·have:=List.mem_range.1 hk;unfold iG;omega
omit HA in
theorem Ok.HZ {R:MR} (ho:Ok A R):Ok A { R with sc:={ R.sc with role:=2,next:=iG R.met R.log.length } }:=⟨ho.sz,ho.i,ho.st,ho.kn,ho.pp,ho.vt,ho.wv,ho.mt,ho.ac,ho.pr,ho.lg,ho.lc,(Te ho).2,ho.sn⟩
omit HA in
theorem Ok.acU {R:MR} (ho:Ok A R):Ok A { R with met:=λ _=>none }:=⟨ho.sz,ho.i,ho.st,ho.kn,ho.pp,ho.vt,ho.wv,λ _ _ h=>(by cases h),ho.ac,ho.pr,ho.lg,ho.lc,ho.nx,ho.sn⟩
theorem Ok.lead {R:MR} (ho:Ok A R):Ok A (nA A R)/\(nA A R).out.length<=R.out.length+20000/\(nA A R).sc.i=R.sc.i/\(nA A R).sc.sz=R.sc.sz:=by
 obtain ⟨h1,h2,h3,h4⟩:=Ok.qo HA 61 R.log.length ho.HZ;exact ⟨h1.acU,by unfold nA;exact Nat.le_trans h2 (by show R.out.length+_<=_;omega),h3,h4⟩
end
end
end Go.Proofs.YtignemioillaiabGreat
