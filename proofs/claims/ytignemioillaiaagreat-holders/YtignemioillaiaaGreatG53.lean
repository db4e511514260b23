/- Lemmas. -/
import Derived.Test.YtignemioillaiaaGreatG52
namespace Go.Proofs.YtignemioillaiaaGreat
set_option maxHeartbeats 8000000
set_option maxRecDepth 100000
open List
section
open Go Go.Conc
def bE(f:Nat->Nat):Nat->Nat
 |0=>0
 |n+1=>bE f n+f n
theorem qO{f f':Nat->Nat}:∀{n:Nat},(∀j,j<n->f' j=f j)->bE f' n=bE f n
 |0,_=>rfl
 |n+1,h=>by
  show bE f' n+f' n=bE f n+f n;rw[qO λj hj=>h j (by omega),h n (by omega)]
theorem oz{f f':Nat->Nat}{i:Nat}:∀{n:Nat},i<n->(∀j,j<n->j≠i->f' j=f j)->bE f' n+f i=bE f n+f' i
 |n+1,hi,h=>by
  show bE f' n+f' n+f i=bE f n+f n+f' i;by_cases e:i=n
  ·subst e
   rw[qO λj hj=>h j (by omega) (by omega)];omega
  ·have:=oz (n:=n) (by omega) λj hj=>h j (by omega)
   rw[h n (by omega) (Ne.symm e)];omega
theorem CE{f:Nat->Nat}{i:Nat}:∀{n:Nat},i<n->f i<=bE f n
 |n+1,hi=>by
  show f i<=bE f n+f n;by_cases e:i=n
  ·subst e;omega
  ·have:=CE (f:=f) (i:=i) (n:=n) (by omega);omega
theorem LV{f:Nat->Nat}{i j:Nat}:∀{n:Nat},i<n->j<n->i≠j->f i+f j<=bE f n
 |n+1,hi,hj,ne=>by
  show f i+f j<=bE f n+f n;by_cases e:i=n
  ·subst e;have:=CE (f:=f) (i:=j) (n:=i) (by omega);omega
  ·by_cases e':j=n
   ·subst e';have:=CE (f:=f) (i:=i) (n:=j) (by omega);omega
   ·have:=LV (f:=f) (i:=i) (j:=j) (n:=n) (by omega) (by omega) ne;omega
theorem TG{f f':Nat->Nat}{i j n:Nat}(hi:i<n)(hj:j<n)(ne:i≠j)(h:∀x,x<n->x≠i->x≠j->f' x=f x):bE f' n+f i+f j=bE f n+f' i+f' j:=by
 have a:=oz (f:=f) (f':=λx=>if x=i then f' x else f x) hi λx _ q=>if_neg q
 have b:=oz (f:=λx=>if x=i then f' x else f x) (f':=f') hj λx hx q=>by
  show f' x=if x=i then f' x else f x
  split
  ·rfl
  ·rename_i q';exact h x hx q' q
 simp only[if_neg (Ne.symm ne),if_true]at a b;omega
def uA(i k:Int)(r:Rg):Bool:=decide (i<r.seq) && (decide (r.lo<=k) && decide (k<=r.hi))
def TR(s:St)(i:Int)(d:Nat)(k:Int):Nat:=(aT s.O d).2.countP (uA i k)
def FF(n:Nat)(st:Nat->St)(k:Int)(g:Nat):Nat:=(if own 0 (st g).M k=g then 1 else 0)+bE (λd=>TR (st g) ((st d).I.getD g 0) d k) n
def cnt(n:Nat)(st:Nat->St)(k:Int):Nat:=bE (FF n st k) n
theorem CF{O:List (Int×List Rg)}{t:Nat}(ht:t<O.length)(x:Int×List Rg)(d:Nat):aT (O.set t x) d=if d=t then x else aT O d:=by
 unfold aT;rw[Int.toNat_natCast,getElem?_set];by_cases e:d=t
 ·subst e;rw[if_pos rfl,if_pos rfl,if_pos ht];rfl
 ·rw[if_neg (Ne.symm e),if_neg e]
theorem IY{i k:Int}{r:Rg}(hr:r.seq=i+1):∀{l:List Rg},l.Pairwise (λa b=>a.seq<b.seq)->r∈l->l.countP (uA i k)=l.countP (uA (i+1) k)+if r.lo<=k/\k<=r.hi then 1 else 0
 |x::l,hp,hm=>by
  obtain⟨h1,h2⟩:=pairwise_cons.1 hp;rcases mem_cons.1 hm with rfl|hm
  ·have e:l.countP (uA i k)=l.countP (uA (i+1) k):=countP_congr λy hy=>by
    have:=h1 y hy;unfold uA;rw[decide_eq_true (show i<y.seq by omega),decide_eq_true (show i+1<y.seq by omega)]
   have e1:uA (i+1) k r=false:=by unfold uA;rw[decide_eq_false (by omega)];rfl
   have e2:uA i k r=(decide (r.lo<=k) && decide (k<=r.hi)):=by unfold uA;rw[decide_eq_true (by omega)];rfl
   rw[countP_cons,countP_cons,e,e1,e2];by_cases q:r.lo<=k/\k<=r.hi
   ·rw[if_pos q,decide_eq_true q.1,decide_eq_true q.2];rfl
   ·rw[if_neg q,if_neg]
    ·rfl
    ·intro z
     simp only[Bool.and_eq_true,decide_eq_true_eq]at z;exact q z
  ·have:=h1 r hm
   have e1:uA i k x=false:=by unfold uA;rw[decide_eq_false (by omega)];rfl
   have e2:uA (i+1) k x=false:=by unfold uA;rw[decide_eq_false (by omega)];rfl
   rw[countP_cons,countP_cons,e1,e2,IY hr h2 hm];simp
structure Gl(n:Nat)(st:Nat->St):Prop where
 ok:∀g,g<n->rO (st g)/\(st g).n=n/\(st g).g=g
 nx:∀g d,g<n->d<n->(st d).I.getD g 0<(aT (st g).O d).1
 inc:∀g d,g<n->d<n->(aT (st g).O d).2.Pairwise λa b=>a.seq<b.seq
 lt:∀g d,g<n->d<n->∀r∈(aT (st g).O d).2,r.seq<(aT (st g).O d).1
 one:∀k,0<=k->k<18446744073709551616->cnt n st k=1
inductive Eff(n g:Nat)(s:St)(c:MC)(s':St):Prop
 |same (m:s'.M=s.M) (o:s'.O=s.O) (i:s'.I=s.I):Eff n g s c s'
 |dlg (lo hi:Int) (t:Nat) (r:Rg) (h0:0<=lo) (h1:lo<=hi) (h2:hi<18446744073709551616) (ht:t<n) (hg:t≠g) (ow:∀k,lo<=k->k<=hi->own 0 s.M k=g) (m:s'.M=fT s.M lo hi t) (o:s'.O=s.O.set t ((aT s.O t).1+1,(aT s.O t).2++[r])) (e1:r.seq=(aT s.O t).1) (e2:r.lo=lo) (e3:r.hi=hi) (i:s'.I=s.I):Eff n g s c s'
 |rcv (g0:Nat) (hk:c.kind=2) (e0:c.r.src=g0) (h0:g0<n) (hg:g0≠g) (b0:0<=c.r.lo) (b1:c.r.lo<=c.r.hi) (b2:c.r.hi<18446744073709551616) (es:c.r.seq=s.I.getD g0 0+1) (m:s'.M=fT s.M c.r.lo c.r.hi g) (o:s'.O=s.O) (i:s'.I=s.I.set g0 c.r.seq):Eff n g s c s'
 |set (g0:Nat) (hk:c.kind=3) (e0:c.peer=g0) (h0:g0<n) (m:s'.M=s.M) (o:s'.O=s.O.set g0 ((aT s.O g0).1,keepR c.seq (aT s.O g0).2)) (i:s'.I=s.I):Eff n g s c s'
theorem LW{m:List Pc}(h:Can m){lo hi:Int}(h0:0<=lo)(h1:lo<=hi)(h2:hi<18446744073709551616){g:Nat}(hg:g<4){k:Int}(k0:0<=k)(k1:k<18446744073709551616):own 0 (fT m lo hi g) k=if lo<=k/\k<=hi then(g:Int)else own 0 m k:=(wZ h h0 h1 h2 (g:=g) ⟨by omega,by omega⟩).2 k k0 k1
theorem Gl.step{n g:Nat}{st st':Nat->St}{c:MC}(h:Gl n st)(hg:g<n)(ho:∀g',g'≠g->st' g'=st g')(he:Eff n g (st g) c (st' g))(hs:rO (st' g)/\(st' g).n=n/\(st' g).g=g)(hr:∀g0:Nat,c.kind=2->c.r.src=g0->g0<n->c.r∈(aT (st g0).O g).2\/c.r.seq<=(st g).I.getD g0 0)(hx:∀g0:Nat,c.kind=3->c.peer=g0->g0<n->c.seq<=(st g0).I.getD g 0):Gl n st':=by
 obtain⟨s1,s2,s3⟩:=h.ok g hg;have ol:(st g).O.length=n:=by have:=s1.ol;omega
 have il:(st g).I.length=n:=by have:=s1.il;omega
 have n4:n<=4:=by have:=s1.n4;omega
 have ok':∀g',g'<n->rO (st' g')/\(st' g').n=n/\(st' g').g=g':=λg' hg'=>by
  by_cases e:g'=g
  ·subst e;exact hs
  ·rw[ho g' e];exact h.ok g' hg'
 cases he with
 |same m o i =>
  have eO:∀g',(st' g').O=(st g').O:=λg'=>by by_cases e:g'=g;subst e;exact o;rw[ho g' e]
  have eI:∀g',(st' g').I=(st g').I:=λg'=>by by_cases e:g'=g;subst e;exact i;rw[ho g' e]
  have eM:∀g',(st' g').M=(st g').M:=λg'=>by by_cases e:g'=g;subst e;exact m;rw[ho g' e]
  refine⟨ok',λg' d a b=>?_,λg' d a b=>?_,λg' d a b=>?_,λk k0 k1=>?_⟩
  ·rw[eO,eI];exact h.nx g' d a b
  ·rw[eO];exact h.inc g' d a b
  ·rw[eO];exact h.lt g' d a b
  ·rw[<-h.one k k0 k1]
   unfold cnt FF TR;simp only[eO,eI,eM]
 |dlg lo hi t r h0 h1 h2 ht hgt ow m o e1 e2 e3 i =>
  have eI:∀g',(st' g').I=(st g').I:=λg'=>by by_cases e:g'=g;subst e;exact i;rw[ho g' e]
  have eL:∀d:Nat,aT (st' g).O d=if d=t then((aT (st g).O t).1+1,(aT (st g).O t).2++[r])else aT (st g).O d:=λd=>by rw[o];exact CF (by omega) _ d
  refine⟨ok',λg' d a b=>?_,λg' d a b=>?_,λg' d a b=>?_,λk k0 k1=>?_⟩
  ·rw[eI]
   have:=h.nx g' d a b;by_cases e:g'=g
   ·subst e;rw[eL]
    split
    ·rename_i q;subst q;show _<_+1;omega
    ·exact this
   ·rw[ho g' e];exact this
  ·by_cases e:g'=g
   ·subst e;rw[eL]
    split
    ·rename_i q
     refine pairwise_append.2 ⟨h.inc g' t a ht,by simp,λx hx y hy=>?_⟩;rw[mem_singleton.1 hy,e1];exact h.lt g' t a ht x hx
    ·exact h.inc g' d a b
   ·rw[ho g' e];exact h.inc g' d a b
  ·by_cases e:g'=g
   ·subst e;rw[eL]
    split
    ·intro x hx
     rcases mem_append.1 hx with q|q
     ·have:=h.lt g' t a ht x q;show _<_+1;omega
     ·rw[mem_singleton.1 q,e1];show _<_+1;omega
    ·exact h.lt g' d a b
   ·rw[ho g' e];exact h.lt g' d a b
  ·have c1:cnt n st' k+FF n st k g=cnt n st k+FF n st' k g:=oz hg λj hj ne=>by
    unfold FF;simp only[eI];rw[ho j ne]
   have c2:bE (λd=>TR (st' g) ((st' d).I.getD g 0) d k) n+TR (st g) ((st t).I.getD g 0) t k=bE (λd=>TR (st g) ((st d).I.getD g 0) d k) n+TR (st' g) ((st' t).I.getD g 0) t k:=oz (f:=λd=>TR (st g) ((st d).I.getD g 0) d k) (f':=λd=>TR (st' g) ((st' d).I.getD g 0) d k) ht λj hj ne=>by
    show TR (st' g) ((st' j).I.getD g 0) j k=TR (st g) ((st j).I.getD g 0) j k;unfold TR;rw[eI,eL,if_neg ne]
   have c3:TR (st' g) ((st' t).I.getD g 0) t k=TR (st g) ((st t).I.getD g 0) t k+if lo<=k/\k<=hi then 1 else 0:=by
    unfold TR;rw[eI,eL,if_pos rfl];show((aT (st g).O t).2++[r]).countP _=_;rw[countP_append];congr 1
    have:=h.nx g t hg ht;rw[countP_singleton];unfold uA;rw[e1,e2,e3,decide_eq_true this,Bool.true_and];by_cases q:lo<=k/\k<=hi
    ·rw[if_pos q,decide_eq_true q.1,decide_eq_true q.2];rfl
    ·rw[if_neg q,if_neg]
     intro x;simp only[Bool.and_eq_true,decide_eq_true_eq]at x;exact q x
   have c4:=LW s1.can h0 h1 h2 (g:=t) (by omega) k0 k1;rw[<-m]at c4;rw[h.one k k0 k1]at c1;unfold FF at c1;rw[c4]at c1;by_cases q:lo<=k/\k<=hi
   ·rw[if_pos q]at c1 c3
    rw[if_pos (ow k q.1 q.2),if_neg (by omega)]at c1;omega
   ·rw[if_neg q]at c1 c3
    omega
 |rcv g0 hk e0 h0 hgt b0 b1 b2 es m o i =>
  have hin:c.r∈(aT (st g0).O g).2:=(hr g0 hk e0 h0).resolve_right λq=>by omega
  have eO:∀g',(st' g').O=(st g').O:=λg'=>by by_cases e:g'=g;subst e;exact o;rw[ho g' e]
  have eI:∀x:Nat,(st' g).I.getD x 0=if x=g0 then c.r.seq else(st g).I.getD x 0:=λx=>by
   rw[i,getD_eq_getElem?_getD,getElem?_set];by_cases q:x=g0
   ·subst q;rw[if_pos rfl,if_pos rfl,if_pos (by omega)];rfl
   ·rw[if_neg (Ne.symm q),if_neg q,getD_eq_getElem?_getD]
  refine⟨ok',λg' d a b=>?_,λg' d a b=>?_,λg' d a b=>?_,λk k0 k1=>?_⟩
  ·rw[eO]
   have:=h.nx g' d a b;by_cases e:d=g
   ·subst e
    rw[eI];split
    ·rename_i q;subst q;exact h.lt g' d a b _ hin
    ·exact this
   ·rw[ho d e];exact this
  ·rw[eO];exact h.inc g' d a b
  ·rw[eO];exact h.lt g' d a b
  ·have c1:cnt n st' k+FF n st k g+FF n st k g0=cnt n st k+FF n st' k g+FF n st' k g0:=TG hg h0 (Ne.symm hgt) λj hj n1 n2=>by
    unfold FF;rw[ho j n1];congr 1
    refine qO λd hd=>?_
    by_cases e:d=g
    ·subst e;rw[eI,if_neg n2]
    ·rw[ho d e]
   have c2:bE (λd=>TR (st' g) ((st' d).I.getD g 0) d k) n=bE (λd=>TR (st g) ((st d).I.getD g 0) d k) n:=qO λd hd=>by
    unfold TR;rw[eO];by_cases e:d=g
    ·subst e;rw[eI,if_neg (Ne.symm hgt)]
    ·rw[ho d e]
   have c3:bE (λd=>TR (st' g0) ((st' d).I.getD g0 0) d k) n+TR (st g0) ((st g).I.getD g0 0) g k=bE (λd=>TR (st g0) ((st d).I.getD g0 0) d k) n+TR (st' g0) ((st' g).I.getD g0 0) g k:=oz (f:=λd=>TR (st g0) ((st d).I.getD g0 0) d k) (f':=λd=>TR (st' g0) ((st' d).I.getD g0 0) d k) hg λj hj ne=>by
    show TR (st' g0) ((st' j).I.getD g0 0) j k=TR (st g0) ((st j).I.getD g0 0) j k;rw[ho j ne,ho g0 hgt]
   have c4:TR (st g0) ((st g).I.getD g0 0) g k=TR (st' g0) ((st' g).I.getD g0 0) g k+if c.r.lo<=k/\k<=c.r.hi then 1 else 0:=by
    unfold TR;rw[eI,if_pos rfl,ho g0 hgt,es];exact IY es (h.inc g0 g h0 hg) hin
   have c5:FF n st k g+FF n st k g0<=1:=by rw[<-h.one k k0 k1];exact LV hg h0 (Ne.symm hgt)
   have c6:TR (st g0) ((st g).I.getD g0 0) g k<=bE (λd=>TR (st g0) ((st d).I.getD g0 0) d k) n:=CE (f:=λd=>TR (st g0) ((st d).I.getD g0 0) d k) hg;have c7:=LW s1.can b0 b1 b2 (g:=g) (by omega) k0 k1;rw[<-m]at c7;rw[h.one k k0 k1]at c1;have e9:(st' g0).M=(st g0).M:=by rw[ho g0 hgt]
   unfold FF at c1 c5;rw[c7,e9]at c1;by_cases q:c.r.lo<=k/\k<=c.r.hi
   ·rw[if_pos q]at c1 c4
    rw[if_pos rfl]at c1;have:¬own 0 (st g).M k=g:=λz=>by rw[if_pos z]at c5;omega
    rw[if_neg this]at c1;omega
   ·rw[if_neg q]at c1 c4
    omega
 |set g0 hk e0 h0 m o i =>
  have hle:=hx g0 hk e0 h0;have eI:∀g',(st' g').I=(st g').I:=λg'=>by by_cases e:g'=g;subst e;exact i;rw[ho g' e]
  have eL:∀d:Nat,aT (st' g).O d=if d=g0 then((aT (st g).O g0).1,keepR c.seq (aT (st g).O g0).2)else aT (st g).O d:=λd=>by rw[o];exact CF (by omega) _ d
  refine⟨ok',λg' d a b=>?_,λg' d a b=>?_,λg' d a b=>?_,λk k0 k1=>?_⟩
  ·rw[eI]
   have:=h.nx g' d a b;by_cases e:g'=g
   ·subst e;rw[eL]
    split
    ·rename_i q;subst q;exact this
    ·exact this
   ·rw[ho g' e];exact this
  ·by_cases e:g'=g
   ·subst e;rw[eL]
    split
    ·exact(h.inc g' g0 a h0).filter _
    ·exact h.inc g' d a b
   ·rw[ho g' e];exact h.inc g' d a b
  ·by_cases e:g'=g
   ·subst e;rw[eL]
    split
    ·intro x hx'
     exact h.lt g' g0 a h0 x (mem_filter.1 hx').1
    ·exact h.lt g' d a b
   ·rw[ho g' e];exact h.lt g' d a b
  ·have c1:cnt n st' k+FF n st k g=cnt n st k+FF n st' k g:=oz hg λj hj ne=>by
    unfold FF;simp only[eI];rw[ho j ne]
   have c2:bE (λd=>TR (st' g) ((st' d).I.getD g 0) d k) n=bE (λd=>TR (st g) ((st d).I.getD g 0) d k) n:=qO λd hd=>by
    unfold TR;rw[eI,eL];split
    ·rename_i q
     subst q;show(keepR c.seq _).countP _=_;unfold keepR;rw[countP_filter];refine countP_congr λx _=>?_
     unfold uA;simp only[Bool.and_eq_true,decide_eq_true_eq,Bool.not_eq_true',decide_eq_false_iff_not];constructor
     ·exact λz=>z.1
     ·exact λz=>⟨z,by omega⟩
    ·rfl
   rw[h.one k k0 k1]at c1;unfold FF at c1;rw[m,c2]at c1;omega
end
