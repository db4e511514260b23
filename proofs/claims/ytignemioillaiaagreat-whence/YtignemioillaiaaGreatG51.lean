/- One log a group, for whoever looks. -/
import Derived.Test.YtignemioillaiaaGreatG50
namespace Go.Proofs.YtignemioillaiaaGreat
set_option maxHeartbeats 8000000
set_option maxRecDepth 100000
section
open Go Go.Conc
structure bW(A:aR)(S:Sit):Prop where
 fine:S.aK A
 bad:S.bad=false
 gh:∃Γ H,lX A S.C S.asks Γ H/\(∀g,g<S.C.n->DL S.C.sz (Γ g) (S.bf.getD g []))/\∀g,g<S.C.n->H g<=(S.bf.getD g []).length\/∃i,i<S.C.sz/\H g<=(S.C.F g i).log.length
 le:∀i,i<S.C.n*S.C.sz->S.fell.getD i true=false->S.len.getD i 0<=(S.C.F (aZ S.C i) (bN S.C i)).log.length
def Sit.FE(S:Sit):Prop:=∀g i,g<S.C.n->i<S.C.sz->(S.C.F g i).log.length<=(S.bf.getD g []).length
theorem KY{C C':aM}(hn:C'.n=C.n)(hz:C'.sz=C.sz)(k:Int):aZ C' k=aZ C k/\bN C' k=bN C k:=by unfold aZ bN;rw[hn,hz];exact⟨rfl,rfl⟩
theorem adN{C:aM}{i:Nat}(h:i<C.n*C.sz):aZ C i=i / C.sz/\bN C i=i%C.sz:=by
 have:bA (i:Int) (C.n*C.sz)=i:=by
  unfold bA;rw[if_neg (by omega),Int.toNat_natCast];exact Nat.mod_eq_of_lt h
 unfold aZ bN;rw[this];exact⟨rfl,rfl⟩
theorem Im{α:Type}{f:α->α->Bool}(hf:∀x,f x x=true):∀{l m:List α},(∀(k:Nat) (x y:α),l[k]? = some x->m[k]? = some y->x=y)->nO f l m=true
 | [],_,_=>by cases ‹List α› <;> rfl
 |_::_,[],_=>rfl
 |x::l,y::m,h=>by
  have e:=h 0 x y rfl rfl;subst e;show(f x x && nO f l m)=true;rw[hf x,Im hf λk a b p q=>h (k+1) a b p q];rfl
theorem SE(c:MC):uh c c=true:=by simp[uh,Ij,qO]
section
variable{A:aR}{S:Sit}
theorem bW.eY(h:bW A S){C:aM}(hC:C.aK A)(hn:C.n=S.C.n)(hz:C.sz=S.C.sz)(hq:S.C.q.length<=C.q.length)(hg:∀Γ H,lX A S.C S.asks Γ H->Gv A S.C C S.asks Γ H):bW A { S with C:=C }:=by
 obtain⟨Γ,H,h1,h2,h3⟩:=h.gh;obtain⟨⟨Γ',H',g1,g2,g3⟩,hl⟩:=hg Γ H h1;refine⟨h.fine.eY hC hn hz hq,h.bad,⟨Γ',H',g2,λg hg=>?_,λg hg=>?_⟩,λi hi hf=>?_⟩
 ·have hg:g<C.n:=hg
  show DL C.sz (Γ' g) _;rw[hn]at hg;rw[hz];exact(h2 g hg).ext (g1 g)
 ·have hg:g<C.n:=hg
  rw[hn]at hg;show _\/∃i,i<C.sz/\H' g<=(C.F g i).log.length;rw[hz];rcases g3 g hg with q|q
  ·rcases h3 g hg with p|⟨i,p1,p2⟩
   ·exact .inl (Nat.le_trans q p)
   ·exact .inr ⟨i,p1,Nat.le_trans q (Nat.le_trans p2 (hl g i hg p1))⟩
  ·exact .inr q
 ·have hi:i<C.n*C.sz:=hi
  rw[hn,hz]at hi;obtain⟨e1,e2⟩:=KY (C:=S.C) (C':=C) hn hz (i:Int);show _<=(C.F (aZ C i) (bN C i)).log.length;rw[e1,e2];obtain⟨l1,l2⟩:=nV (C:=S.C) (k:=(i:Int)) h.fine.n h.fine.sz;exact Nat.le_trans (h.le i hi hf) (hl _ _ l1 l2)
theorem bW.nxt(h:bW A S)(k:Nat):bW A { S with next:=k }:=⟨⟨h.fine.cl,h.fine.n,h.fine.sz,h.fine.be,h.fine.le,h.fine.fe,h.fine.ak⟩,h.bad,h.gh,h.le⟩
theorem bW.dz(h:bW A S){i:Nat}(hi:i<S.C.n*S.C.sz):(S.dz i).2=true/\bW A (S.dz i).1/\(S.dz i).1.C=S.C/\(∀g,(S.bf.getD g []).length<=((S.dz i).1.bf.getD g []).length)/\(S.C.F (aZ S.C i) (bN S.C i)).log.length<=((S.dz i).1.bf.getD (aZ S.C i) []).length:=by
 obtain⟨q1,q2⟩:=h.fine.dz i;obtain⟨Γ,H,h1,h2,h3⟩:=h.gh;obtain⟨l1,l2⟩:=nV (C:=S.C) (k:=(i:Int)) h.fine.n h.fine.sz;have rv:=(h1.rv _ _ l1 l2).1;have sz:=(h.fine.cl.at_ _ _ l1 l2).2.2.2;have lg:∀{k c},(S.C.F (aZ S.C i) (bN S.C i)).log[k]? = some c->(Γ (aZ S.C i)).D S.C.sz k c:=λe=>by have:=rv.lg e;rw[sz]at this;exact this
 obtain⟨e1,e2,e3,e4,e5⟩:=S.Ce i;have z:¬nO uh (S.C.F (aZ S.C i) (bN S.C i)).log (S.bf.getD (aZ S.C i) [])=false:=by
  rw[Im SE λk x y p q=>(h1.ok _ l1).one (lg p) (h2 _ l1 k y q)];decide
 have z2:¬((S.C.F (aZ S.C i) (bN S.C i)).log.length<S.len.getD i 0/\S.fell.getD i true=false):=λq=>by have:=h.le i hi q.2;omega
 have eq:S.dz i=({ S.dx i with len:=S.len.set i (S.C.F (aZ S.C i) (bN S.C i)).log.length,fell:=S.fell.set i false },true):=by unfold Sit.dz;rw[if_neg z,if_neg z2]
 have eb:∀g,(S.dz i).1.bf.getD g []=if aZ S.C i=g/\(S.C.F (aZ S.C i) (bN S.C i)).log.length > (S.bf.getD (aZ S.C i) []).length then(S.C.F (aZ S.C i) (bN S.C i)).log else S.bf.getD g []:=λg=>by
  rw[eq];show(S.dx i).bf.getD g []=_;unfold Sit.dx;split
  ·rename_i c
   show(S.bf.set (aZ S.C i) (S.C.F (aZ S.C i) (bN S.C i)).log).getD g []=_;by_cases e:aZ S.C i=g
   ·subst e
    rw[List.getD_eq_getElem?_getD,List.getElem?_set_self (by rw[h.fine.be];exact l1),if_pos ⟨rfl,c⟩];rfl
   ·rw[List.getD_eq_getElem?_getD,List.getElem?_set_ne e,<-List.getD_eq_getElem?_getD,if_neg λq=>e q.1]
  ·rename_i c
   rw[if_neg λq=>c q.2]
 have ub:∀g,(S.bf.getD g []).length<=((S.dz i).1.bf.getD g []).length:=λg=>by
  rw[eb g];split
  ·rename_i q;rw[<-q.1];exact Nat.le_of_lt q.2
  ·exact Nat.le_refl _
 have ea:(S.dz i).1.asks=S.asks:=by rw[eq];exact e4
 refine⟨by rw[eq],⟨q1,?_,⟨Γ,H,by rw[q2,ea];exact h1,λg hg k c hk=>?_,λg hg=>?_⟩,λj hj hf=>?_⟩,q2,ub,?_⟩
 ·rw[eq];exact(S.Va i).2.trans h.bad
 ·rw[q2]at hg |-
  rw[eb g]at hk;split at hk
  ·rename_i q;rw[<-q.1];exact lg hk
  ·exact h2 g hg k c hk
 ·rw[q2]at hg |-
  exact(h3 g hg).imp (λq=>Nat.le_trans q (ub g)) id
 ·rw[q2]at hj |-
  have hf:(S.fell.set i false).getD j true=false:=by rw[eq]at hf;exact hf
  show(S.dz i).1.len.getD j 0<=_;rw[eq];show(S.len.set i _).getD j 0<=_;by_cases e:i=j
  ·subst e
   rw[List.getD_eq_getElem?_getD,List.getElem?_set_self (by rw[h.fine.le];exact hi)];exact Nat.le_refl _
  ·rw[List.getD_eq_getElem?_getD,List.getElem?_set_ne e,<-List.getD_eq_getElem?_getD]at hf |-
   exact h.le j hj hf
 ·rw[eb]
  split
  ·exact Nat.le_refl _
  ·rename_i q;exact Nat.not_lt.1 λc=>q ⟨rfl,c⟩
theorem bW.dX(h:bW A S):∀i,i<=S.C.n*S.C.sz->(S.dX i).2=true/\bW A (S.dX i).1/\(S.dX i).1.C=S.C/\∀j:Nat,j<i->(S.C.F (aZ S.C j) (bN S.C j)).log.length<=((S.dX i).1.bf.getD (aZ S.C j) []).length
 |0,_=>⟨rfl,h,rfl,λj hj=>by omega⟩
 |i+1,hi=>by
  have ih:=bW.dX h i (by omega);unfold Sit.dX;generalize S.dX i=p at ih;obtain⟨T,b⟩:=p;obtain⟨rfl,h1,h2,h4⟩:=ih;have h2:T.C=S.C:=h2;obtain⟨a1,a2,a3,a4,a5⟩:=bW.dz h1 (i:=i) (by show i<T.C.n*T.C.sz;rw[h2];omega);refine⟨a1,a2,a3.trans h2,λj hj=>?_⟩;by_cases e:j=i
  ·subst e
   have a5:=a5;rw[show T.C=S.C from h2]at a5;exact a5
  ·exact Nat.le_trans (h4 j (by omega)) (a4 _)
theorem bW.look(h:bW A S):S.look.2=true/\bW A S.look.1/\S.look.1.C=S.C/\S.look.1.FE:=by
 obtain⟨a,b,c,d⟩:=h.dX _ (Nat.le_refl _);refine⟨a,b,c,λg i hg hi=>?_⟩;have c:S.look.1.C=S.C:=c;rw[c]at hg hi |-;have hl:g*S.C.sz+i<S.C.n*S.C.sz:=Nat.lt_of_lt_of_le (Nat.add_lt_add_left hi _) (by rw[<-Nat.succ_mul];exact Nat.mul_le_mul_right _ hg);have:=d (g*S.C.sz+i) hl;obtain⟨e1,e2⟩:=adN hl;rw[e1,e2,Nat.mul_comm,Nat.mul_add_div (Nat.lt_of_le_of_lt (Nat.zero_le _) hi),Nat.div_eq_of_lt hi,Nat.add_zero,Nat.mul_add_mod,Nat.mod_eq_of_lt hi]at this;exact this
end
section
variable{A:aR}(HA:bG A)(HN:dL A)(HL:sS A)(HP:sV A){S:Sit}
include HA HN HP
theorem bW.eG(h:bW A S)(k:Int):bW A { S with C:=S.C.eG A k }:=by
 refine h.eY (h.fine.cl.eG HA HN k) (aM.jd _ _ _).1 (aM.jd _ _ _).2 (aM.Gu h.fine.cl.len _) λΓ H hc=>?_
 unfold aM.eG;split
 ·exact hc.jH HA HN HP h.fine.cl _
 ·exact .refl hc
theorem bW.tick(h:bW A S)(g i:Nat):bW A { S with C:=S.C.tick A g i }:=h.eY (h.fine.cl.tick HA HN g i) (aM.nN _ _ _ _).1 (aM.nN _ _ _ _).2 (aM.KQ h.fine.cl.len _ _) λ_ _ hc=>hc.tick HA HN HP h.fine.cl g i
theorem bW.all:∀(n:Nat) {S:Sit},bW A S->bW A (S.all A n)
 |0,_,h=>h
 |n+1,S,h=>by
  unfold Sit.all;split
  ·exact bW.all n (S:=S.one A) ((bW.eG HA HN HP h (S.next:Int)).nxt (S.next+1))
  ·exact h
omit HA HN HP in
theorem bW.send(h:bW A S){g i:Nat}(hg:g<S.C.n)(hi:i<S.C.sz)(d:ByteArray){l:List Ask}(hl:l.length<=(S.C.send g i d).q.length)(hk:∀a∈S.asks,a∈l)(hd:S.C.q.length<20000->¬d.size > 1000->∀m,A.dec d=some m->m.kind=1->∃a∈l,a.q=m.q/\a.g=g):bW A { S with C:=S.C.send g i d,asks:=l }:=by
 have h4:=h.fine.cl.n;have h5:=h.fine.cl.sz;obtain⟨Γ,H,h1,h2,h3⟩:=h.gh;obtain⟨n1,n2⟩:=S.C.pz g i d;have f:=h.fine.eY (h.fine.cl.send (g:=g) (i:=i) (by omega) (by omega) d) n1 n2 (S.C.Fv g i _);have eF:(S.C.send g i d).F=S.C.F:=by unfold aM.send;split<;>rfl
 have c:=h1.send g i d hk λq _ _=>hd q
 refine⟨⟨f.cl,f.n,f.sz,f.be,f.le,f.fe,hl⟩,h.bad,⟨Γ,H,c,?_,?_⟩,?_⟩
 ·show ∀g',g'<(S.C.send g i d).n->DL (S.C.send g i d).sz _ _
  rw[n1,n2];exact h2
 ·show ∀g',g'<(S.C.send g i d).n->_\/∃i',i'<(S.C.send g i d).sz/\H g'<=((S.C.send g i d).F g' i').log.length
  rw[n1,n2,eF];exact h3
 ·intro j hj hf
  have hj:j<(S.C.send g i d).n*(S.C.send g i d).sz:=hj;rw[n1,n2]at hj;obtain⟨e1,e2⟩:=KY (C:=S.C) (C':=S.C.send g i d) n1 n2 (j:Int);show _<=((S.C.send g i d).F (aZ (S.C.send g i d) j) (bN (S.C.send g i d) j)).log.length;rw[e1,e2,eF];exact h.le j hj hf
omit HA HN HP in
theorem bW.dB(HA:bG A)(HN:dL A)(h:bW A S)(hk:S.FE)(a:Int):bW A { S with C:=S.C.dB A (aZ S.C a) (bN S.C a),fell:=S.fell.set (bA a (S.C.n*S.C.sz)) true }:=by
 obtain⟨Γ,H,h1,h2,h3⟩:=h.gh;obtain⟨n1,n2⟩:=aM.uQ A S.C (aZ S.C a) (bN S.C a);have f:=h.fine.eY (h.fine.cl.dB HA HN (aZ S.C a) (bN S.C a)) n1 n2 (Nat.le_of_eq (congrArg List.length (aM.Nw (A:=A) S.C (aZ S.C a) (bN S.C a)).symm));refine⟨⟨f.cl,f.n,f.sz,f.be,f.le,by show(S.fell.set _ _).length=_;rw[List.length_set];exact f.fe,f.ak⟩,h.bad,⟨Γ,H,h1.dB HA HN h.fine.cl _ _,λg hg=>?_,λg hg=>.inl ?_⟩,λj hj hf=>?_⟩
 ·show DL (S.C.dB A (aZ S.C a) (bN S.C a)).sz (Γ g) _
  rw[n2];have hg:g<(S.C.dB A (aZ S.C a) (bN S.C a)).n:=hg;rw[n1]at hg;exact h2 g hg
 ·have hg:g<(S.C.dB A (aZ S.C a) (bN S.C a)).n:=hg
  rw[n1]at hg;rcases h3 g hg with q|⟨i,q1,q2⟩
  ·exact q
  ·exact Nat.le_trans q2 (hk g i hg q1)
 ·have hj:j<(S.C.dB A (aZ S.C a) (bN S.C a)).n*(S.C.dB A (aZ S.C a) (bN S.C a)).sz:=hj
  rw[n1,n2]at hj;have hf:(S.fell.set (bA a (S.C.n*S.C.sz)) true).getD j true=false:=hf;by_cases e:bA a (S.C.n*S.C.sz)=j
  ·subst e
   rw[List.getD_eq_getElem?_getD,List.getElem?_set_self (by rw[h.fine.fe];exact hj)]at hf;cases hf
  ·rw[List.getD_eq_getElem?_getD,List.getElem?_set_ne e,<-List.getD_eq_getElem?_getD]at hf
   obtain⟨e1,e2⟩:=KY (C:=S.C) (C':=S.C.dB A (aZ S.C a) (bN S.C a)) n1 n2 (j:Int);obtain⟨e3,e4⟩:=adN hj;show _<=((S.C.dB A (aZ S.C a) (bN S.C a)).F (aZ (S.C.dB A (aZ S.C a) (bN S.C a)) j) (bN (S.C.dB A (aZ S.C a) (bN S.C a)) j)).log.length;rw[e1,e2];have ne:¬(aZ S.C j=aZ S.C a/\bN S.C j=bN S.C a):=λq=>by
    rw[e3,e4]at q;unfold aZ bN at q;have:=Nat.div_add_mod (bA a (S.C.n*S.C.sz)) S.C.sz;rw[<-q.1,<-q.2,Nat.div_add_mod]at this;exact e this.symm
   unfold aM.dB;split
   ·show _<=(fw S.C.F (aZ S.C a) (bN S.C a) (mStart A (S.C.F (aZ S.C a) (bN S.C a))) (aZ S.C j) (bN S.C j)).log.length
    rw[bz _ _ ne];exact h.le j hj hf
   ·exact h.le j hj hf
include HL
theorem bW.do(h:bW A S){t:Stp}(ht:t.wf A):(S.do A t).2=true/\bW A (S.do A t).1:=by
 have f:=Sit.aK.do HA HN HL h.fine ht;have nb:(!S.bad)=true:=by rw[h.bad];rfl
 obtain⟨l1,l2⟩:=nV (C:=S.C) (k:=t.a) h.fine.n h.fine.sz;have key:∀k,((S.tX A t k).1.aK A)->(S.tX A t k).2=true/\bW A (S.tX A t k).1:=λk=>by
  unfold Sit.tX;split
  ·intro f
   refine⟨nb,?_⟩;have f:(if S.C.q.length<20000 then S.sends A (dh t.q) (aZ S.C t.a) (bN S.C t.a)else S).aK A:=f;show bW A (if S.C.q.length<20000 then S.sends A (dh t.q) (aZ S.C t.a) (bN S.C t.a)else S);split
   ·rename_i c
    rw[if_pos c]at f;exact h.send l1 l2 (A.enc (nW (dh t.q))) (l:=S.asks++[⟨dh t.q,aZ S.C t.a,S.C.q.length⟩]) f.ak (λa ha=>List.mem_append_left _ ha) λ_ _ m hm _=>⟨_,List.mem_append_right _ List.mem_cons_self,by rw[HP.ask ht.r hm],rfl⟩
   ·exact h
  ·intro f
   refine⟨nb,?_⟩;have f:(S.tV A t).aK A:=f;show bW A (S.tV A t);have s1:(∀m,A.dec t.d=some m->¬(m.kind=1/\¬t.d.size > 1000/\S.C.q.length<20000))->bW A { S with C:=S.C.send (aZ S.C t.a) (bN S.C t.a) t.d }:=λno=>h.send l1 l2 t.d (l:=S.asks) (Nat.le_trans h.fine.ak (S.C.Fv _ _ _)) (λ_ ha=>ha) λq1 q2 m hm k1=>(no m hm ⟨k1,q2,q1⟩).elim
   unfold Sit.tV at f |-;split
   ·rename_i m hm
    rw[hm]at f;split
    ·rename_i c
     have f:(if m.kind=1/\¬t.d.size > 1000/\S.C.q.length<20000 then S.doA A t m else{ S with C:=S.C.send (aZ S.C t.a) (bN S.C t.a) t.d }).aK A:=f;rw[if_pos c]at f;exact h.send l1 l2 t.d (l:=S.asks++[⟨m.q,aZ S.C t.a,S.C.q.length⟩]) f.ak (λa ha=>List.mem_append_left _ ha) λ_ _ m' hm' _=>⟨_,List.mem_append_right _ List.mem_cons_self,by rw[hm]at hm';cases hm';rfl,rfl⟩
    ·rename_i c;exact s1 λm' hm'=>by rw[hm]at hm';cases hm';exact c
   ·rename_i hm;exact s1 λm' hm'=>by rw[hm]at hm';cases hm'
  ·intro f
   split
   ·exact⟨rfl,bW.eG HA HN HP h _⟩
   ·exact⟨nb,h⟩
  ·intro f
   split
   ·exact⟨rfl,bW.eG HA HN HP h _⟩
   ·exact⟨nb,h⟩
  ·intro f
   exact⟨rfl,bW.tick HA HN HP h _ _⟩
  ·intro f
   obtain⟨a1,a2,a3,a4⟩:=h.look;refine⟨a1,?_⟩;show bW A (S.Nv A t);unfold Sit.Nv;have:=a2.dB HA HN a4 t.a;rw[a3]at this |-;exact this
  ·intro f
   exact⟨rfl,bW.all HA HN HP _ h⟩
 exact key _ f
omit HL HP in
theorem bW.new{n sz:Nat}(hn:0<n/\n<=4)(hN:n=A.N)(hz:0<sz/\sz<=5):bW A (Sit.new A n sz)/\(Sit.new A n sz).FE:=by
 refine⟨⟨Sit.aK.new HA HN hn hN hz,rfl,⟨_,_,lX.new HA HN hn.2 hN hz.2,λg hg k c hk=>?_,λg hg=>.inl (Nat.zero_le _)⟩,λi hi hf=>?_⟩,λg i _ _=>Nat.zero_le _⟩
 ·have hk:((List.replicate n []).getD g [])[k]? = some c:=hk
  rw[List.getD_eq_getElem?_getD,List.getElem?_replicate]at hk;split at hk<;>simp at hk
 ·show(List.replicate (n*sz) 0).getD i 0<=_
  rw[List.getD_eq_getElem?_getD,List.getElem?_replicate];split<;>simp
end
end
