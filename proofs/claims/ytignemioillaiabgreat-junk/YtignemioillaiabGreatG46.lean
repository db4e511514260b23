/- sameRange, sameCommand. -/
import Derived.Test.YtignemioillaiabGreatG45
namespace Go.Proofs.YtignemioillaiabGreat
set_option maxHeartbeats 8000000
set_option maxRecDepth 100000
section
open Go Go.Conc
def lu {α:Type} (f:α->α->Bool) (l m:List α):Bool:=(List.zipWith f l m).all id
theorem FP {α:Type} {f:α->α->Bool} {l m:List α} {k:Nat} {x y:α} (h1:l[k]? = some x) (h2:m[k]? = some y) (h:f x y=false):lu f l m=false:=by
 cases hz:lu f l m with
 | false=>rfl
 | true =>
  unfold lu at hz;rw [List.all_eq_true] at hz;have:f x y∈List.zipWith f l m:=List.mem_of_getElem? (i:=k) (by rw [List.getElem?_zipWith,h1,h2]);have:=hz _ this;rw [h] at this;cases this
theorem uZ {α:Type} {f:α->α->Bool} {l m:List α} (h:∀ (k:Nat) (x y:α),k<l.length->l[k]? = some x->m[k]? = some y->f x y=true):lu f l m=true:=by
 unfold lu;rw [List.all_eq_true];intro b hb;obtain ⟨k,hk⟩:=List.mem_iff_getElem?.1 hb;rw [List.getElem?_zipWith] at hk;cases h1:l[k]? with
 | none=>rw [h1] at hk;cases hk
 | some x =>
  cases h2:m[k]? with
  | none=>rw [h1,h2] at hk;cases hk
  | some y =>
   rw [h1,h2] at hk;cases hk
   exact h k x y (List.getElem?_eq_some_iff.1 h1).1 h1 h2
def jv (p q:Row):Bool:=p.key == q.key && (p.val == q.val && true)
theorem QX {l:List Row} {k:Nat} {p:Row} (h:l[k]? = some p):aQ (l.map Row.cells).flatten (k*2) 2=p.cells:=by
 rw [<- List.flatMap_def];exact jW (f:=Row.cells) (λ _=>rfl) l k p h
def nS (a b:Rg):Bool:=a.src == b.src && (a.dst == b.dst && (a.seq == b.seq && (a.lo == b.lo && (a.hi == b.hi && ((a.rows.length:Int) == b.rows.length && ((a.aY.length:Int) == b.aY.length && (lu jv a.rows b.rows && lu eB a.aY b.aY)))))))
theorem FQ {a b:Int} (h:((a != b) == false)=false):(a == b)=false:=by cases hb:a == b <;> simp_all [bne]
theorem FR {a b:Int} (h:((a != b) == false)=true):(a == b)=true:=by cases hb:a == b <;> simp_all [bne]
theorem Xi (w:World) {a b:Rg} {ra da rb db:Value} (ha:aM w a ra da) (hb:aM w b rb db) (la:a.rows.length<=1000000/\a.aY.length<=1000000):af Tryz.prog 58 #[.agg (eO a ra da).toArray,.agg (eO b rb db).toArray] w (λ v w'=>v=.bool (nS a b)/\GB none w w'):=by
 obtain ⟨⟨raa,rac,rfl,rah,ral,rad⟩,⟨daa,dac,rfl,dah,dal,dad⟩⟩:=ha;obtain ⟨⟨rba,rbc,rfl,rbh,rbl,rbd⟩,⟨dba,dbc,rfl,dbh,dbl,dbd⟩⟩:=hb;refine aj ah mixed Tryz.func58 rfl rfl ?_;refine λ w1 b1 m1 g1 l1 w2 b2 m2 g2 l2=>?_
 have m1:=g2.get m1 nofun;have G:=g1.trans g2;refine ⟨_,_,m1,_,rfl,_,_,m2,_,rfl,?_⟩;refine au (λ c1=>?_) (λ c=>⟨by unfold nS;rw [FQ c];rfl,G⟩);refine ⟨_,_,m1,_,rfl,_,_,m2,_,rfl,au (λ c2=>?_) (λ c=>⟨by unfold nS;rw [FQ c];simp,G⟩)⟩;refine ⟨_,_,m1,_,rfl,_,_,m2,_,rfl,au (λ c3=>?_) (λ c=>⟨by unfold nS;rw [FQ c];simp,G⟩)⟩;refine ⟨_,_,m1,_,rfl,_,_,m2,_,rfl,au (λ c4=>?_) (λ c=>⟨by unfold nS;rw [FQ c];simp,G⟩)⟩;refine ⟨_,_,m1,_,rfl,_,_,m2,_,rfl,au (λ c5=>?_) (λ c=>⟨by unfold nS;rw [FQ c];simp,G⟩)⟩;refine ⟨_,_,m1,_,rfl,_,_,m2,_,rfl,au (λ c6=>?_) (λ c=>⟨by unfold nS;rw [FQ c];simp,G⟩)⟩;refine ⟨_,_,m1,_,rfl,_,_,m2,_,rfl,au (λ c=>⟨by unfold nS;rw [show ((a.aY.length:Int) == b.aY.length)=false by simpa [bne] using c];simp,G⟩) (λ c7=>?_)⟩;have e6:=FR c6;have e7:((a.aY.length:Int) == b.aY.length)=true:=by simpa [bne] using c7
 have er:nS a b=(lu jv a.rows b.rows && lu eB a.aY b.aY):=by
  unfold nS;rw [FR c1,FR c2,FR c3,FR c4,FR c5,e6,e7];rfl
 have n6:a.rows.length=b.rows.length:=by have:=eq_of_beq e6;omega
 have n7:a.aY.length=b.aY.length:=by have:=eq_of_beq e7;omega
 rw [er];refine ⟨λ q s w3=>∃ k:Nat,q=a.rows.length - k/\k<=a.rows.length/\s=[(2,Ptt b1),(3,Ptt b2),(5,.int .i64 k)]/\w3=w2/\∀ (j:Nat) (x y:Row),j<k->a.rows[j]? = some x->b.rows[j]? = some y->jv x y=true,⟨_,_,⟨0,rfl,Nat.zero_le _,rfl,rfl,λ j x y h=>by omega⟩,rfl,rfl,rfl,trivial⟩,?_⟩;rintro q s w2 ⟨k,rfl,hk,rfl,rfl,hall⟩;refine ⟨_,_,m1,_,rfl,au (λ c=>?_) (λ c=>?_)⟩
 ·have d1:k<a.rows.length:=by have:=of_decide_eq_true c;omega
  rcases rad with ⟨_,h0⟩ | ⟨B,off,cs,rfl,hB,hcut⟩
  ·omega
  rcases rbd with ⟨_,h0⟩ | ⟨B',off',cs',rfl,hB',hcut'⟩
  ·omega
  obtain ⟨x,hx⟩:∃ x,a.rows[k]? = some x:=⟨a.rows[k],by simp [d1]⟩;obtain ⟨y,hy⟩:∃ y,b.rows[k]? = some y:=⟨b.rows[k]'(by omega),by simp [show k<b.rows.length by omega]⟩;refine ⟨by kernel_rfl,_,_,m1,_,rfl,⟨by omega,by omega⟩,_,_,G.get hB nofun,x.cells,(Fz.elem hcut d1).trans (QX hx),rfl,_,_,m2,_,rfl,⟨by omega,by omega⟩,_,_,G.get hB' nofun,y.cells,(Fz.elem hcut' (by omega)).trans (QX hy),rfl,au (λ d=>?_) (λ d=>?_)⟩
  ·have d2:jv x y=false:=by cases hh:jv x y with | false=>rfl | true=>exact absurd (show (!(jv x y))=true from d) (by rw [hh];decide)
   exact ⟨by rw [FP hx hy d2];rfl,G⟩
  ·have d2:jv x y=true:=by cases hh:jv x y with | true=>rfl | false=>exact absurd (show (!(jv x y))=false from d) (by rw [hh];decide)
   refine ⟨by omega,_,_,⟨k+1,rfl,by omega,rfl,rfl,λ j x' y' hj h1 h2=>?_⟩,⟨rfl,rfl,rfl,trivial⟩,by omega⟩;by_cases e:j=k
   ·subst e;rw [hx] at h1;rw [hy] at h2;cases h1;cases h2;exact d2
   ·exact hall j x' y' (by omega) h1 h2
 ·have d1:k=a.rows.length:=by have:=of_decide_eq_false c;omega
  subst d1;rw [uZ (f:=jv) (λ j x y hj h1 h2=>hall j x y hj h1 h2),Bool.true_and];refine ⟨λ q s w3=>∃ k:Nat,q=a.aY.length - k/\k<=a.aY.length/\s=[(2,Ptt b1),(3,Ptt b2),(6,.int .i64 k)]/\w3=w2/\∀ (j:Nat) (x y:az),j<k->a.aY[j]? = some x->b.aY[j]? = some y->eB x y=true,⟨_,_,⟨0,rfl,Nat.zero_le _,rfl,rfl,λ j x y h=>by omega⟩,rfl,rfl,rfl,trivial⟩,?_⟩;clear hall;rintro q s w2 ⟨k,rfl,hk,rfl,rfl,hall⟩;refine ⟨_,_,m1,_,rfl,au (λ c=>?_) (λ c=>?_)⟩
  ·have d1:k<a.aY.length:=by have:=of_decide_eq_true c;omega
   rcases dad with ⟨_,h0⟩ | ⟨B,off,cs,rfl,hB,hcut⟩
   ·omega
   rcases dbd with ⟨_,h0⟩ | ⟨B',off',cs',rfl,hB',hcut'⟩
   ·omega
   obtain ⟨x,hx⟩:∃ x,a.aY[k]? = some x:=⟨a.aY[k],by simp [d1]⟩;obtain ⟨y,hy⟩:∃ y,b.aY[k]? = some y:=⟨b.aY[k]'(by omega),by simp [show k<b.aY.length by omega]⟩;refine ⟨by kernel_rfl,_,_,m1,_,rfl,⟨by omega,by omega⟩,_,_,G.get hB nofun,x.cells,(Fz.elem hcut d1).trans (Jo hx),rfl,_,_,m2,_,rfl,⟨by omega,by omega⟩,_,_,G.get hB' nofun,y.cells,(Fz.elem hcut' (by omega)).trans (Jo hy),rfl,au (λ d=>?_) (λ d=>?_)⟩
   ·have d2:eB x y=false:=by cases hh:eB x y with | false=>rfl | true=>exact absurd (show (!(eB x y))=true from d) (by rw [hh];decide)
    exact ⟨by rw [FP hx hy d2],G⟩
   ·have d2:eB x y=true:=by cases hh:eB x y with | true=>rfl | false=>exact absurd (show (!(eB x y))=false from d) (by rw [hh];decide)
    refine ⟨by omega,_,_,⟨k+1,rfl,by omega,rfl,rfl,λ j x' y' hj h1 h2=>?_⟩,⟨rfl,rfl,rfl,trivial⟩,by omega⟩;by_cases e:j=k
    ·subst e;rw [hx] at h1;rw [hy] at h2;cases h1;cases h2;exact d2
    ·exact hall j x' y' (by omega) h1 h2
  ·have d1:k=a.aY.length:=by have:=of_decide_eq_false c;omega
   subst d1;exact ⟨by rw [uZ (f:=eB) (λ j x y hj h1 h2=>hall j x y hj h1 h2)],G⟩
def sZ (a b:MC):Bool:=nS a.r b.r && (a.kind == b.kind && (qi a.q b.q && (a.peer == b.peer && a.seq == b.seq)))
theorem Xj (w:World) {a b:MC} {va vb:Value} (ha:jI w va a) (hb:jI w vb b) (la:a.r.rows.length<=1000000/\a.r.aY.length<=1000000):af Tryz.prog 36 #[va,vb] w (λ v w'=>v=.bool (sZ a b)/\GB none w w'):=by
 obtain ⟨ra,da,rfl,ha⟩:=ha;obtain ⟨rb,db,rfl,hb⟩:=hb;refine aj ah mixed Tryz.func36 rfl rfl ?_;refine λ w1 b1 m1 g1 l1 w2 b2 m2 g2 l2=>?_
 have m1:=g2.get m1 nofun;have G:=g1.trans g2;refine ⟨_,_,m1,eO a.r ra da,rfl,rfl,_,_,m2,eO b.r rb db,rfl,rfl,_,Xi w2 (ha.kz G.kz) (hb.kz G.kz) la,?_⟩;rintro _ w3 ⟨rfl,g3⟩;have m1:=g3.get m1 nofun;have m2:=g3.get m2 nofun;have G:=G.trans g3;unfold sZ;generalize nS a.r b.r=r;cases r
 ·exact ⟨rfl,G⟩
 refine ⟨_,_,m1,_,rfl,_,_,m2,_,rfl,au (λ c=>?_) (λ c=>?_)⟩
 ·have c1:(a.kind == b.kind)=true:=eq_of_beq c
  refine ⟨_,_,m1,a.q.cells,rfl,rfl,_,_,m2,b.q.cells,rfl,rfl,au (λ c=>?_) (λ c=>?_)⟩
  ·have c2:qi a.q b.q=true:=eq_of_beq c
   refine ⟨_,_,m1,_,rfl,_,_,m2,_,rfl,au (λ c=>?_) (λ c=>?_)⟩
   ·have c3:(a.peer == b.peer)=true:=eq_of_beq c
    exact ⟨_,_,m1,_,rfl,_,_,m2,_,rfl,congrArg Value.bool (by rw [c1,c2,c3];rfl),G⟩
   ·have c3:(a.peer == b.peer)=false:=by simpa using c
    exact ⟨congrArg Value.bool (by rw [c1,c2,c3];rfl),G⟩
  ·have c2:qi a.q b.q=false:=by cases h:qi a.q b.q;rfl;unfold qi at h;rw [h] at c;cases c
   exact ⟨congrArg Value.bool (by rw [c1,c2];rfl),G⟩
 ·have c1:(a.kind == b.kind)=false:=by simpa using c
  exact ⟨congrArg Value.bool (by rw [c1];rfl),G⟩
structure Sit.aK (A:aT) (S:Sit):Prop where
 cl:S.C.aK A
 n:0<S.C.n
 sz:0<S.C.sz
 be:S.dM.length=S.C.n
 le:S.len.length=S.C.n*S.C.sz
 fe:S.fell.length=S.C.n*S.C.sz
 ak:S.asks.length<=S.C.q.length
def Sit.dh (S:Sit) (i:Nat):Sit:=if (S.C.F (aZ S.C i) (bH S.C i)).log.length > (S.dM.getD (aZ S.C i) []).length then { S with dM:=S.dM.set (aZ S.C i) (S.C.F (aZ S.C i) (bH S.C i)).log } else S
def Sit.dW (S:Sit) (i:Nat):Sit×Bool :=
 if lu sZ (S.C.F (aZ S.C i) (bH S.C i)).log (S.dM.getD (aZ S.C i) [])=false then (S,false)
 else if (S.C.F (aZ S.C i) (bH S.C i)).log.length<S.len.getD i 0/\S.fell.getD i true=false then (S.dh i,false)
 else ({ S.dh i with len:=S.len.set i (S.C.F (aZ S.C i) (bH S.C i)).log.length,fell:=S.fell.set i false },true)
def Sit.eU (S:Sit):Nat->Sit×Bool
 | 0=>(S,true)
 | i+1=>match S.eU i with
  | (T,true)=>T.dW i
  | (T,false)=>(T,false)
def Sit.look (S:Sit):Sit×Bool:=S.eU (S.C.n*S.C.sz)
theorem Sit.FT (S:Sit) (i:Nat):(S.dh i).C=S.C/\(S.dh i).len=S.len/\(S.dh i).fell=S.fell/\(S.dh i).asks=S.asks/\(S.dh i).dM.length=S.dM.length:=by
 unfold Sit.dh;split
 ·exact ⟨rfl,rfl,rfl,rfl,by simp⟩
 ·exact ⟨rfl,rfl,rfl,rfl,rfl⟩
theorem Sit.Ul (S:Sit) (i:Nat):(S.dh i).next=S.next/\(S.dh i).bad=S.bad:=by
 unfold Sit.dh;split <;> exact ⟨rfl,rfl⟩
theorem Sit.aK.dW {A:aT} {S:Sit} (h:S.aK A) (i:Nat):(S.dW i).1.aK A/\(S.dW i).1.C=S.C:=by
 obtain ⟨e1,e2,e3,e4,e5⟩:=S.FT i;unfold Sit.dW;split
 ·exact ⟨h,rfl⟩
 ·split
  ·exact ⟨⟨by rw [e1];exact h.cl,by rw [e1];exact h.n,by rw [e1];exact h.sz,by rw [e5,e1];exact h.be,by rw [e2,e1];exact h.le,by rw [e3,e1];exact h.fe,by rw [e4,e1];exact h.ak⟩,e1⟩
  ·refine ⟨⟨by show aL.aK A (S.dh i).C;rw [e1];exact h.cl,by show 0<(S.dh i).C.n;rw [e1];exact h.n,by show 0<(S.dh i).C.sz;rw [e1];exact h.sz,by show (S.dh i).dM.length=(S.dh i).C.n;rw [e5,e1];exact h.be,?_,?_,by show (S.dh i).asks.length<=(S.dh i).C.q.length;rw [e4,e1];exact h.ak⟩,e1⟩
   ·show (S.len.set i _).length=(S.dh i).C.n*(S.dh i).C.sz
    rw [List.length_set,e1];exact h.le
   ·show (S.fell.set i _).length=(S.dh i).C.n*(S.dh i).C.sz
    rw [List.length_set,e1];exact h.fe
theorem Sit.aK.eU {A:aT} {S:Sit} (h:S.aK A):∀ i,(S.eU i).1.aK A/\(S.eU i).1.C=S.C
 | 0=>⟨h,rfl⟩
 | i+1=>by
  have ih:=Sit.aK.eU h i;unfold Sit.eU;generalize S.eU i=p at ih;obtain ⟨T,b⟩:=p;cases b
  ·exact ih
  ·exact ⟨(ih.1.dW i).1,(ih.1.dW i).2.trans ih.2⟩
theorem Sit.EM {S T:Sit}:∀ {i:Nat} (m:Nat),S.eU i=(T,false)->S.eU (i+m)=(T,false)
 | _,0,h=>h
 | i,m+1,h=>by
  have:=Sit.EM m h;show (match S.eU (i+m) with | (T,true)=>T.dW (i+m) | (T,false)=>(T,false))=_;rw [this]
theorem mR.el {w:World} {a:Option Addr} {n c:Nat} {l:List MC} (h:mR w (.slice a n c) l) {k:Nat} {x:MC} (hc:l[k]? = some x):∃ gb cur rv dv,a=some ⟨gb,0,none⟩/\n=l.length/\w.heap[gb]? = some (.cells cur 80)/\aQ cur.toList (k*17) 17=dz x rv dv/\aM w x.r rv dv:=by
 obtain ⟨vs,v1,v2,v3⟩:=h;have hk:k<l.length:=(List.getElem?_eq_some_iff.1 hc).1;obtain ⟨p,hp⟩:∃ p,vs[k]? = some p:=⟨vs[k],by simp [v1,hk]⟩;obtain ⟨gb,cap,cur,ev,aR,htk,hsz,hcap⟩:=jD v2 (by omega);injection ev with ev en ec;refine ⟨gb,cur,p.1,p.2,ev,en,aR,?_,v3 k x p hc hp⟩;rw [<- Ol hc hp,show lf l vs=_ from htk.symm];unfold aQ;rw [List.drop_take,List.take_take,Nat.min_eq_left (by omega)]
theorem ru {w:World} {e:TypeId} {n:Nat} {v:Value} {xs:List Value} (h:w.ownsRow 0 e 1 v n xs) {k:Nat} {x:Value} (hx:xs[k]? = some x):∃ gb cap cur,v=.slice (some ⟨gb,0,none⟩) n cap/\w.heap[gb]? = some (.cells cur e)/\cur.toList[k]? = some x/\k<n/\k<cur.toList.length:=by
 have hl:xs.length=n*1:=h.1;have hk:k<xs.length:=(List.getElem?_eq_some_iff.1 hx).1;obtain ⟨gb,cap,cur,ev,aR,htk,hsz,hcap⟩:=jD h (by omega);refine ⟨gb,cap,cur,ev,aR,?_,by omega,by rw [Array.length_toList];omega⟩;rw [<- htk,List.getElem?_take,if_pos (by omega)] at hx;exact hx
def jE (A:aT) (q:List bF) (k:Nat) (acc:List (az×Nat)):List (az×Nat)×Bool:=match q[k]? with
 | none=>(acc,true)
 | some p=>if p.tg≠255 then (acc,true) else match A.dec p.d with
  | none=>(acc,false)
  | some m=>if m.kind=2/\m.p.c=p.tr then (acc++[(m.p,k)],true) else (acc,false)
def wz (A:aT) (q:List bF):Nat->List (az×Nat)×Bool
 | 0=>([],true)
 | k+1=>match wz A q k with
  | (acc,true)=>jE A q k acc
  | (acc,false)=>(acc,false)
def ni (A:aT) (q:List bF):List (az×Nat)×Bool:=wz A q q.length
theorem EN {A:aT} {q:List bF} {T:List (az×Nat)}:∀ {i:Nat} (m:Nat),wz A q i=(T,false)->wz A q (i+m)=(T,false)
 | _,0,h=>h
 | i,m+1,h=>by
  have:=EN m h;show (match wz A q (i+m) with | (acc,true)=>jE A q (i+m) acc | (acc,false)=>(acc,false))=_;rw [this]
def EO (x:az×Nat):List Value:=x.1.cells++[.int .i64 (x.2:Nat)]
section
variable {A:aT} (HA:bK A) {Λ:bU} {w:World} {bs:Nat} {S:Sit}
include HA
theorem Xk (h:bY Λ bs S w) (hF:S.C.aK A):af Tryz.prog 8 #[Ptt bs] w (λ v w'=>(∃ lv,v=.tuple #[lv,.bool (ni A S.C.q).2]/\w'.ownsRow 0 72 8 lv (ni A S.C.q).1.length ((ni A S.C.q).1.map EO).flatten)/\GB none w w'):=by
 refine aj ah mixed Tryz.func8 rfl rfl ?_;obtain ⟨bc,a,gv,sv,B,ad,hS⟩:=h;have hlen:=hF.len;refine ⟨_,_,hS.si.mem,_,rfl,_,oq hS.enter hlen 0 (by decide) (by decide),?_⟩;rintro lv w1 ⟨o1,g1,f1⟩;have e0:S.C.q.length - min (0:Int).toNat S.C.q.length=S.C.q.length:=by simp
 have e1:S.C.q.drop (min (0:Int).toNat S.C.q.length)=S.C.q:=by simp
 rw [e0,e1] at o1;obtain ⟨la,lc,rfl⟩:=ae o1;generalize hq:S.C.q=q at *;refine ⟨λ m s wk=>∃ (k:Nat) (acc:List (az×Nat)) (tv:Value),m=q.length - k/\k<=q.length/\s=[(4,tv),(5,.slice la q.length lc),(6,.int .i64 k)]/\wz A q k=(acc,true)/\wk.ownsRow 0 72 8 tv acc.length (acc.map EO).flatten/\(∀ x,tv.ownBlock=some x->w1.heap.size<=x)/\acc.length<=k/\GB none w1 wk,⟨_,_,⟨0,[],.slice none 0 0,rfl,Nat.zero_le _,rfl,rfl,eX _ _ _,nofun,Nat.le_refl _,GB.refl _ _⟩,rfl,rfl,rfl,trivial⟩,?_⟩;rintro m s wk ⟨k,acc,tv,rfl,hk,rfl,ht,tw,tn,tl,gk⟩;have OE:wz A q (k+1)=jE A q k acc:=by
  show (match wz A q k with | (acc,true)=>jE A q k acc | (acc,false)=>(acc,false))=_;rw [ht]
 have hstop:∀ T,jE A q k acc=(T,false)->k<q.length->ni A q=(T,false):=λ T e hlt=>by
  unfold ni;rw [<- Nat.add_sub_cancel' (show k+1<=q.length from hlt)];exact EN _ (OE.trans e)
 refine au (λ c=>?_) (λ c=>?_)
 ·have c1:k<q.length:=by have:=of_decide_eq_true c;omega
  replace hstop:=λ T e=>hstop T e c1
  obtain ⟨p,hp⟩:∃ p,q[k]? = some p:=⟨q[k],by simp [c1]⟩;obtain ⟨gb,cap,cur,ev,aR,htk,hsz,hcap⟩:=jD o1 (by omega);injection ev with ev _ Qy;subst ev;subst Qy;have OG:=gk.get aR nofun;have hel:=Va hp htk;have get:∀ (j:Nat) (v:Value),p.cells[j]? = some v->cur.toList[k*5+j]? = some v:=λ j v hj=>by
   have hj5:j<5:=(List.getElem?_eq_some_iff.1 hj).1;rw [<- hel] at hj;unfold aQ at hj;rw [List.getElem?_take,if_pos hj5,List.getElem?_drop] at hj;exact hj
  refine ⟨⟨by omega,by omega⟩,_,_,OG,.int .u8 p.tg,by show cur.toList[0+(k:Int).toNat*5+2]? = _;rw [Nat.zero_add,Int.toNat_natCast];exact get 2 _ rfl,?_⟩;refine au (λ d=>?_) (λ d=>?_)
  ·have d1:p.tg≠255:=by simpa using d
   have el:jE A q k acc=(acc,true):=by unfold jE;rw [hp];show (if p.tg≠255 then _ else _)=_;rw [if_pos d1]
   exact ⟨by omega,_,_,⟨k+1,acc,tv,rfl,by omega,rfl,OE.trans el,tw,tn,by omega,gk⟩,⟨rfl,rfl,rfl,trivial⟩,by omega⟩
  ·have d1:p.tg=255:=by simpa using d
   refine ⟨⟨by omega,by omega⟩,_,_,OG,.string p.d,by show cur.toList[0+(k:Int).toNat*5+4]? = _;rw [Nat.zero_add,Int.toNat_natCast];exact get 4 _ rfl,_,HA.parse wk p.d,?_⟩;rintro _ w2 ⟨⟨mv,e,m,rfl,hm,hc⟩,g2⟩;obtain ⟨rv,dv,vv,rv',dS,rfl,i1,i2,i3⟩:=hm;obtain ⟨_,_,_,_,_,_,rfl,rfl⟩:=i1.sl;obtain ⟨_,_,rfl⟩:=i2.sl;obtain ⟨_,_,_,_,_,_,rfl,rfl⟩:=i3.sl;refine λ w3 b3 m3 g3 l3=>⟨_,_,_,m3,rfl,rfl,λ w4 m4 g4=>?_⟩
   have G4:GB none wk w4:=g2.trans (g3.new g4 l3);have QY:=aA tw (w1:=w4) λ x hx=>by obtain ⟨c,hc⟩:=aD tw hx;exact G4.block x (ag hc) nofun
   have qD:=G4.get OG nofun;rcases hc with ⟨rfl,hd,_⟩ | ⟨he,hd⟩
   ·refine ⟨by kernel_rfl,_,_,m4,_,rfl,?_⟩
    refine au (λ x=>?_) (λ x=>?_)
    ·have x1:m.kind=2:=by simpa using x
     refine ⟨_,_,m4,_,rfl,⟨by omega,by omega⟩,_,_,qD,.int .u8 p.tr,by show cur.toList[0+(k:Int).toNat*5+2+1]? = _;rw [Nat.zero_add,Int.toNat_natCast];exact get 3 _ rfl,?_⟩;refine au (λ y=>?_) (λ y=>?_)
     ·have y1:¬ m.p.c=p.tr:=by simpa using y
      have el:jE A q k acc=(acc,false):=by
       unfold jE;rw [hp];show (if p.tg≠255 then _ else _)=_;rw [if_neg (λ h=>h d1),hd];show (if m.kind=2/\m.p.c=p.tr then _ else _)=_;rw [if_neg (λ h=>y1 h.2)]
      have et:=hstop _ el;exact ⟨⟨tv,by rw [et],by rw [et];exact QY⟩,(g1.trans gk).trans G4⟩
     ·have y1:m.p.c=p.tr:=by simpa using y
      have el:jE A q k acc=(acc++[(m.p,k)],true):=by
       unfold jE;rw [hp];show (if p.tg≠255 then _ else _)=_;rw [if_neg (λ h=>h d1),hd];show (if m.kind=2/\m.p.c=p.tr then _ else _)=_;rw [if_pos ⟨x1,y1⟩]
      obtain ⟨ta,tc,rfl⟩:=ae tw;refine ⟨_,_,m4,m.p.cells,rfl,rfl,λ w5 b5 m5 g5 l5=>?_⟩;have to5:=aA QY (w1:=w5) λ x hx=>by obtain ⟨c,hc⟩:=aD QY hx;exact g5.block x (ag hc) nofun
      refine ⟨_,EO (m.p,k),to5,⟨_,_,m5,rfl,rfl,rfl⟩,by omega,λ v' w6 Mf g6 n6=>?_⟩;refine ⟨by omega,_,_,⟨k+1,acc++[(m.p,k)],v',rfl,by omega,rfl,OE.trans el,?_,λ x hx=>(n6 x hx).elim (tn x) λ hl=>?_,by rw [List.length_append];show acc.length+1<=_;omega,GB.ownB ((gk.trans G4).trans g5) g6 tn⟩,⟨rfl,rfl,rfl,trivial⟩,by omega⟩
      ·rw [List.length_append,List.map_append,List.flatten_append,show (List.map EO [(m.p,k)]).flatten=EO (m.p,k) by simp];exact Mf
      ·have:=((gk.trans G4).trans g5).size;omega
    ·have x1:¬ m.kind=2:=by simpa using x
     have el:jE A q k acc=(acc,false):=by
      unfold jE;rw [hp];show (if p.tg≠255 then _ else _)=_;rw [if_neg (λ h=>h d1),hd];show (if m.kind=2/\m.p.c=p.tr then _ else _)=_;rw [if_neg (λ h=>x1 h.1)]
     have et:=hstop _ el;exact ⟨⟨tv,by rw [et],by rw [et];exact QY⟩,(g1.trans gk).trans G4⟩
   ·refine ⟨by kernel_rfl,?_⟩
    have el:jE A q k acc=(acc,false):=by unfold jE;rw [hp];show (if p.tg≠255 then _ else _)=_;rw [if_neg (λ h=>h d1),hd]
    have et:=hstop _ el;refine au (λ x=>?_) (λ x=>?_)
    ·have:e=0:=by simpa using x
     exact absurd this he
    ·exact ⟨⟨tv,by rw [et],by rw [et];exact QY⟩,(g1.trans gk).trans G4⟩
 ·have c1:k=q.length:=by have:=of_decide_eq_false c;omega
  subst c1;have et:ni A q=(acc,true):=ht;exact ⟨⟨tv,by rw [et],by rw [et];exact tw⟩,g1.trans gk⟩
end
end
end Go.Proofs.YtignemioillaiabGreat
