/- sameRange, sameCommand. -/
import Derived.Test.YtignemioillaiabGreatG47
namespace Go.Proofs.YtignemioillaiabGreat
set_option maxHeartbeats 8000000
set_option maxRecDepth 100000
section
open Go Go.Conc
def qE {α:Type} (f:α→α→Bool) (l m:List α):Bool:=(List.zipWith f l m).all id
theorem Fx {α:Type} {f:α→α→Bool} {l m:List α} {k:Nat} {x y:α} (h1:l[k]? = some x) (h2:m[k]? = some y) (h:f x y=false):qE f l m=false:=by
 cases hz:qE f l m with
 | false=>rfl
 | true =>
  unfold qE at hz;rw [List.all_eq_true] at hz;have:f x y∈List.zipWith f l m:=List.mem_of_getElem? (i:=k) (by rw [List.getElem?_zipWith,h1,h2]);have:=hz _ this;rw [h] at this;cases this
theorem uX {α:Type} {f:α→α→Bool} {l m:List α} (h:∀ (k:Nat) (x y:α),k<l.length→l[k]? = some x→m[k]? = some y→f x y=true):qE f l m=true:=by
 unfold qE;rw [List.all_eq_true];intro b hb;obtain ⟨k,hk⟩:=List.mem_iff_getElem?.1 hb;rw [List.getElem?_zipWith] at hk;cases h1:l[k]? with
 | none=>rw [h1] at hk;cases hk
 | some x =>
  cases h2:m[k]? with
  | none=>rw [h1,h2] at hk;cases hk
  | some y =>
   rw [h1,h2] at hk;cases hk
   exact h k x y (List.getElem?_eq_some_iff.1 h1).1 h1 h2
def iT (p q:Row):Bool:=p.key == q.key && (p.val == q.val && true)
theorem EA {l:List Row} {k:Nat} {p:Row} (h:l[k]? = some p):aO (l.map Row.cells).flatten (k*2) 2=p.cells:=by
 rw [← List.flatMap_def];exact jy (f:=Row.cells) (fun _=>rfl) l k p h
def qF (a b:Rg):Bool:=a.src == b.src && (a.dst == b.dst && (a.seq == b.seq && (a.lo == b.lo && (a.hi == b.hi && ((a.rows.length:Int) == b.rows.length && ((a.bz.length:Int) == b.bz.length && (qE iT a.rows b.rows && qE dU a.bz b.bz)))))))
theorem Fy {a b:Int} (h:((a != b) == false)=false):(a == b)=false:=by cases hb:a == b <;> simp_all [bne]
theorem FB {a b:Int} (h:((a != b) == false)=true):(a == b)=true:=by cases hb:a == b <;> simp_all [bne]
theorem Mr (w:World) {a b:Rg} {ra da rb db:Value} (ha:aP w a ra da) (hb:aP w b rb db) (la:a.rows.length≤1000000∧a.bz.length≤1000000):af Tryz.prog 58 #[.agg (dN a ra da).toArray,.agg (dN b rb db).toArray] w (fun v w'=>v=.bool (qF a b)∧GB none w w'):=by
 obtain ⟨⟨raa,rac,rfl,rah,ral,rad⟩,⟨daa,dac,rfl,dah,dal,dad⟩⟩:=ha;obtain ⟨⟨rba,rbc,rfl,rbh,rbl,rbd⟩,⟨dba,dbc,rfl,dbh,dbl,dbd⟩⟩:=hb;refine ah au mixed Tryz.func58 rfl rfl ?_;refine fun w1 b1 m1 g1 l1 w2 b2 m2 g2 l2=>?_
 have m1:=g2.get m1 nofun;have G:=g1.trans g2;refine ⟨_,_,m1,_,rfl,_,_,m2,_,rfl,?_⟩;refine aj (fun c1=>?_) (fun c=>⟨by unfold qF;rw [Fy c];rfl,G⟩);refine ⟨_,_,m1,_,rfl,_,_,m2,_,rfl,aj (fun c2=>?_) (fun c=>⟨by unfold qF;rw [Fy c];simp,G⟩)⟩;refine ⟨_,_,m1,_,rfl,_,_,m2,_,rfl,aj (fun c3=>?_) (fun c=>⟨by unfold qF;rw [Fy c];simp,G⟩)⟩;refine ⟨_,_,m1,_,rfl,_,_,m2,_,rfl,aj (fun c4=>?_) (fun c=>⟨by unfold qF;rw [Fy c];simp,G⟩)⟩;refine ⟨_,_,m1,_,rfl,_,_,m2,_,rfl,aj (fun c5=>?_) (fun c=>⟨by unfold qF;rw [Fy c];simp,G⟩)⟩;refine ⟨_,_,m1,_,rfl,_,_,m2,_,rfl,aj (fun c6=>?_) (fun c=>⟨by unfold qF;rw [Fy c];simp,G⟩)⟩;refine ⟨_,_,m1,_,rfl,_,_,m2,_,rfl,aj (fun c=>⟨by unfold qF;rw [show ((a.bz.length:Int) == b.bz.length)=false by simpa [bne] using c];simp,G⟩) (fun c7=>?_)⟩;have e6:=FB c6;have e7:((a.bz.length:Int) == b.bz.length)=true:=by simpa [bne] using c7
 have er:qF a b=(qE iT a.rows b.rows && qE dU a.bz b.bz):=by
  unfold qF;rw [FB c1,FB c2,FB c3,FB c4,FB c5,e6,e7];rfl
 have n6:a.rows.length=b.rows.length:=by have:=eq_of_beq e6;omega
 have n7:a.bz.length=b.bz.length:=by have:=eq_of_beq e7;omega
 rw [er];refine ⟨fun q s w3=>∃ k:Nat,q=a.rows.length - k∧k≤a.rows.length∧s=[(2,.pointer (some ⟨b1,0,none⟩)),(3,.pointer (some ⟨b2,0,none⟩)),(5,.int .i64 k)]∧w3=w2∧∀ (j:Nat) (x y:Row),j<k→a.rows[j]? = some x→b.rows[j]? = some y→iT x y=true,⟨_,_,⟨0,rfl,Nat.zero_le _,rfl,rfl,fun j x y h=>by omega⟩,rfl,rfl,rfl,trivial⟩,?_⟩;rintro q s w2 ⟨k,rfl,hk,rfl,rfl,hall⟩;refine ⟨_,_,m1,_,rfl,aj (fun c=>?_) (fun c=>?_)⟩
 ·have d1:k<a.rows.length:=by have:=of_decide_eq_true c;omega
  rcases rad with ⟨_,h0⟩ | ⟨B,off,cs,rfl,hB,hcut⟩
  ·omega
  rcases rbd with ⟨_,h0⟩ | ⟨B',off',cs',rfl,hB',hcut'⟩
  ·omega
  obtain ⟨x,hx⟩:∃ x,a.rows[k]? = some x:=⟨a.rows[k],by simp [d1]⟩;obtain ⟨y,hy⟩:∃ y,b.rows[k]? = some y:=⟨b.rows[k]'(by omega),by simp [show k<b.rows.length by omega]⟩;refine ⟨by kernel_rfl,_,_,m1,_,rfl,⟨by omega,by omega⟩,_,_,G.get hB nofun,x.cells,(Fz.elem hcut d1).trans (EA hx),rfl,_,_,m2,_,rfl,⟨by omega,by omega⟩,_,_,G.get hB' nofun,y.cells,(Fz.elem hcut' (by omega)).trans (EA hy),rfl,aj (fun d=>?_) (fun d=>?_)⟩
  ·have d2:iT x y=false:=by cases hh:iT x y with | false=>rfl | true=>exact absurd (show (!(iT x y))=true from d) (by rw [hh];decide)
   exact ⟨by rw [Fx hx hy d2];rfl,G⟩
  ·have d2:iT x y=true:=by cases hh:iT x y with | true=>rfl | false=>exact absurd (show (!(iT x y))=false from d) (by rw [hh];decide)
   refine ⟨by omega,_,_,⟨k+1,rfl,by omega,rfl,rfl,fun j x' y' hj h1 h2=>?_⟩,⟨rfl,rfl,rfl,trivial⟩,by omega⟩;by_cases e:j=k
   ·subst e;rw [hx] at h1;rw [hy] at h2;cases h1;cases h2;exact d2
   ·exact hall j x' y' (by omega) h1 h2
 ·have d1:k=a.rows.length:=by have:=of_decide_eq_false c;omega
  subst d1;rw [uX (f:=iT) (fun j x y hj h1 h2=>hall j x y hj h1 h2),Bool.true_and];refine ⟨fun q s w3=>∃ k:Nat,q=a.bz.length - k∧k≤a.bz.length∧s=[(2,.pointer (some ⟨b1,0,none⟩)),(3,.pointer (some ⟨b2,0,none⟩)),(6,.int .i64 k)]∧w3=w2∧∀ (j:Nat) (x y:aD),j<k→a.bz[j]? = some x→b.bz[j]? = some y→dU x y=true,⟨_,_,⟨0,rfl,Nat.zero_le _,rfl,rfl,fun j x y h=>by omega⟩,rfl,rfl,rfl,trivial⟩,?_⟩;clear hall;rintro q s w2 ⟨k,rfl,hk,rfl,rfl,hall⟩;refine ⟨_,_,m1,_,rfl,aj (fun c=>?_) (fun c=>?_)⟩
  ·have d1:k<a.bz.length:=by have:=of_decide_eq_true c;omega
   rcases dad with ⟨_,h0⟩ | ⟨B,off,cs,rfl,hB,hcut⟩
   ·omega
   rcases dbd with ⟨_,h0⟩ | ⟨B',off',cs',rfl,hB',hcut'⟩
   ·omega
   obtain ⟨x,hx⟩:∃ x,a.bz[k]? = some x:=⟨a.bz[k],by simp [d1]⟩;obtain ⟨y,hy⟩:∃ y,b.bz[k]? = some y:=⟨b.bz[k]'(by omega),by simp [show k<b.bz.length by omega]⟩;refine ⟨by kernel_rfl,_,_,m1,_,rfl,⟨by omega,by omega⟩,_,_,G.get hB nofun,x.cells,(Fz.elem hcut d1).trans (Ab hx),rfl,_,_,m2,_,rfl,⟨by omega,by omega⟩,_,_,G.get hB' nofun,y.cells,(Fz.elem hcut' (by omega)).trans (Ab hy),rfl,aj (fun d=>?_) (fun d=>?_)⟩
   ·have d2:dU x y=false:=by cases hh:dU x y with | false=>rfl | true=>exact absurd (show (!(dU x y))=true from d) (by rw [hh];decide)
    exact ⟨by rw [Fx hx hy d2],G⟩
   ·have d2:dU x y=true:=by cases hh:dU x y with | true=>rfl | false=>exact absurd (show (!(dU x y))=false from d) (by rw [hh];decide)
    refine ⟨by omega,_,_,⟨k+1,rfl,by omega,rfl,rfl,fun j x' y' hj h1 h2=>?_⟩,⟨rfl,rfl,rfl,trivial⟩,by omega⟩;by_cases e:j=k
    ·subst e;rw [hx] at h1;rw [hy] at h2;cases h1;cases h2;exact d2
    ·exact hall j x' y' (by omega) h1 h2
  ·have d1:k=a.bz.length:=by have:=of_decide_eq_false c;omega
   subst d1;exact ⟨by rw [uX (f:=dU) (fun j x y hj h1 h2=>hall j x y hj h1 h2)],G⟩
def yL (a b:MC):Bool:=qF a.r b.r && (a.kind == b.kind && (rH a.q b.q && (a.peer == b.peer && a.seq == b.seq)))
theorem WU (w:World) {a b:MC} {va vb:Value} (ha:jE w va a) (hb:jE w vb b) (la:a.r.rows.length≤1000000∧a.r.bz.length≤1000000):af Tryz.prog 36 #[va,vb] w (fun v w'=>v=.bool (yL a b)∧GB none w w'):=by
 obtain ⟨ra,da,rfl,ha⟩:=ha;obtain ⟨rb,db,rfl,hb⟩:=hb;refine ah au mixed Tryz.func36 rfl rfl ?_;refine fun w1 b1 m1 g1 l1 w2 b2 m2 g2 l2=>?_
 have m1:=g2.get m1 nofun;have G:=g1.trans g2;refine ⟨_,_,m1,dN a.r ra da,rfl,rfl,_,_,m2,dN b.r rb db,rfl,rfl,_,Mr w2 (ha.kz G.kz) (hb.kz G.kz) la,?_⟩;rintro _ w3 ⟨rfl,g3⟩;have m1:=g3.get m1 nofun;have m2:=g3.get m2 nofun;have G:=G.trans g3;unfold yL;generalize qF a.r b.r=r;cases r
 ·exact ⟨rfl,G⟩
 refine ⟨_,_,m1,_,rfl,_,_,m2,_,rfl,aj (fun c=>?_) (fun c=>?_)⟩
 ·have c1:(a.kind == b.kind)=true:=eq_of_beq c
  refine ⟨_,_,m1,a.q.cells,rfl,rfl,_,_,m2,b.q.cells,rfl,rfl,aj (fun c=>?_) (fun c=>?_)⟩
  ·have c2:rH a.q b.q=true:=eq_of_beq c
   refine ⟨_,_,m1,_,rfl,_,_,m2,_,rfl,aj (fun c=>?_) (fun c=>?_)⟩
   ·have c3:(a.peer == b.peer)=true:=eq_of_beq c
    exact ⟨_,_,m1,_,rfl,_,_,m2,_,rfl,congrArg Value.bool (by rw [c1,c2,c3];rfl),G⟩
   ·have c3:(a.peer == b.peer)=false:=by simpa using c
    exact ⟨congrArg Value.bool (by rw [c1,c2,c3];rfl),G⟩
  ·have c2:rH a.q b.q=false:=by cases h:rH a.q b.q;rfl;unfold rH at h;rw [h] at c;cases c
   exact ⟨congrArg Value.bool (by rw [c1,c2];rfl),G⟩
 ·have c1:(a.kind == b.kind)=false:=by simpa using c
  exact ⟨congrArg Value.bool (by rw [c1];rfl),G⟩
structure Sit.aN (A:bE) (S:Sit):Prop where
 cl:S.C.aN A
 n:0<S.C.n
 sz:0<S.C.sz
 be:S.dY.length=S.C.n
 le:S.len.length=S.C.n*S.C.sz
 fe:S.fell.length=S.C.n*S.C.sz
 ak:S.asks.length≤S.C.q.length
def Sit.dJ (S:Sit) (i:Nat):Sit:=if (S.C.F (bV S.C i) (dF S.C i)).log.length > (S.dY.getD (bV S.C i) []).length then { S with dY:=S.dY.set (bV S.C i) (S.C.F (bV S.C i) (dF S.C i)).log } else S
def Sit.gT (S:Sit) (i:Nat):Sit×Bool :=
 if qE yL (S.C.F (bV S.C i) (dF S.C i)).log (S.dY.getD (bV S.C i) [])=false then (S,false)
 else if (S.C.F (bV S.C i) (dF S.C i)).log.length<S.len.getD i 0∧S.fell.getD i true=false then (S.dJ i,false)
 else ({ S.dJ i with len:=S.len.set i (S.C.F (bV S.C i) (dF S.C i)).log.length,fell:=S.fell.set i false },true)
def Sit.iE (S:Sit):Nat→Sit×Bool
 | 0=>(S,true)
 | i+1=>match S.iE i with
  | (T,true)=>T.gT i
  | (T,false)=>(T,false)
def Sit.look (S:Sit):Sit×Bool:=S.iE (S.C.n*S.C.sz)
theorem Sit.Ms (S:Sit) (i:Nat):(S.dJ i).C=S.C∧(S.dJ i).len=S.len∧(S.dJ i).fell=S.fell∧(S.dJ i).asks=S.asks∧(S.dJ i).dY.length=S.dY.length:=by
 unfold Sit.dJ;split
 ·exact ⟨rfl,rfl,rfl,rfl,by simp⟩
 ·exact ⟨rfl,rfl,rfl,rfl,rfl⟩
theorem Sit.aN.gT {A:bE} {S:Sit} (h:S.aN A) (i:Nat):(S.gT i).1.aN A∧(S.gT i).1.C=S.C:=by
 obtain ⟨e1,e2,e3,e4,e5⟩:=S.Ms i;unfold Sit.gT;split
 ·exact ⟨h,rfl⟩
 ·split
  ·exact ⟨⟨by rw [e1];exact h.cl,by rw [e1];exact h.n,by rw [e1];exact h.sz,by rw [e5,e1];exact h.be,by rw [e2,e1];exact h.le,by rw [e3,e1];exact h.fe,by rw [e4,e1];exact h.ak⟩,e1⟩
  ·refine ⟨⟨by show aW.aN A (S.dJ i).C;rw [e1];exact h.cl,by show 0<(S.dJ i).C.n;rw [e1];exact h.n,by show 0<(S.dJ i).C.sz;rw [e1];exact h.sz,by show (S.dJ i).dY.length=(S.dJ i).C.n;rw [e5,e1];exact h.be,?_,?_,by show (S.dJ i).asks.length≤(S.dJ i).C.q.length;rw [e4,e1];exact h.ak⟩,e1⟩
   ·show (S.len.set i _).length=(S.dJ i).C.n*(S.dJ i).C.sz
    rw [List.length_set,e1];exact h.le
   ·show (S.fell.set i _).length=(S.dJ i).C.n*(S.dJ i).C.sz
    rw [List.length_set,e1];exact h.fe
theorem Sit.aN.iE {A:bE} {S:Sit} (h:S.aN A):∀ i,(S.iE i).1.aN A∧(S.iE i).1.C=S.C
 | 0=>⟨h,rfl⟩
 | i+1=>by
  have ih:=Sit.aN.iE h i;unfold Sit.iE;generalize S.iE i=p at ih;obtain ⟨T,b⟩:=p;cases b
  ·exact ih
  ·exact ⟨(ih.1.gT i).1,(ih.1.gT i).2.trans ih.2⟩
theorem Sit.EB {S T:Sit}:∀ {i:Nat} (m:Nat),S.iE i=(T,false)→S.iE (i+m)=(T,false)
 | _,0,h=>h
 | i,m+1,h=>by
  have:=Sit.EB m h;show (match S.iE (i+m) with | (T,true)=>T.gT (i+m) | (T,false)=>(T,false))=_;rw [this]
theorem mQ.el {w:World} {a:Option Addr} {n c:Nat} {l:List MC} (h:mQ w (.slice a n c) l) {k:Nat} {x:MC} (hc:l[k]? = some x):∃ gb cur rv dv,a=some ⟨gb,0,none⟩∧n=l.length∧w.heap[gb]? = some (.cells cur 80)∧aO cur.toList (k*17) 17=cK x rv dv∧aP w x.r rv dv:=by
 obtain ⟨vs,v1,v2,v3⟩:=h;have hk:k<l.length:=(List.getElem?_eq_some_iff.1 hc).1;obtain ⟨p,hp⟩:∃ p,vs[k]? = some p:=⟨vs[k],by simp [v1,hk]⟩;obtain ⟨gb,cap,cur,ev,aT,htk,hsz,hcap⟩:=iI v2 (by omega);injection ev with ev en ec;refine ⟨gb,cur,p.1,p.2,ev,en,aT,?_,v3 k x p hc hp⟩;rw [← NY hc hp,show lf l vs=_ from htk.symm];unfold aO;rw [List.drop_take,List.take_take,Nat.min_eq_left (by omega)]
theorem rA {w:World} {e:TypeId} {n:Nat} {v:Value} {xs:List Value} (h:w.ownsRow 0 e 1 v n xs) {k:Nat} {x:Value} (hx:xs[k]? = some x):∃ gb cap cur,v=.slice (some ⟨gb,0,none⟩) n cap∧w.heap[gb]? = some (.cells cur e)∧cur.toList[k]? = some x∧k<n∧k<cur.toList.length:=by
 have hl:xs.length=n*1:=h.1;have hk:k<xs.length:=(List.getElem?_eq_some_iff.1 hx).1;obtain ⟨gb,cap,cur,ev,aT,htk,hsz,hcap⟩:=iI h (by omega);refine ⟨gb,cap,cur,ev,aT,?_,by omega,by rw [Array.length_toList];omega⟩;rw [← htk,List.getElem?_take,if_pos (by omega)] at hx;exact hx
def jw (A:bE) (q:List bJ) (k:Nat) (acc:List (aD×Nat)):List (aD×Nat)×Bool:=match q[k]? with
 | none=>(acc,true)
 | some p=>if p.tg≠255 then (acc,true) else match A.dec p.d with
  | none=>(acc,false)
  | some m=>if m.kind=2∧m.p.c=p.tr then (acc++[(m.p,k)],true) else (acc,false)
def wo (A:bE) (q:List bJ):Nat→List (aD×Nat)×Bool
 | 0=>([],true)
 | k+1=>match wo A q k with
  | (acc,true)=>jw A q k acc
  | (acc,false)=>(acc,false)
def nA (A:bE) (q:List bJ):List (aD×Nat)×Bool:=wo A q q.length
theorem EC {A:bE} {q:List bJ} {T:List (aD×Nat)}:∀ {i:Nat} (m:Nat),wo A q i=(T,false)→wo A q (i+m)=(T,false)
 | _,0,h=>h
 | i,m+1,h=>by
  have:=EC m h;show (match wo A q (i+m) with | (acc,true)=>jw A q (i+m) acc | (acc,false)=>(acc,false))=_;rw [this]
def ED (x:aD×Nat):List Value:=x.1.cells++[.int .i64 (x.2:Nat)]
section
variable {A:bE} (HA:bW A) {Λ:bN} {w:World} {bs:Nat} {S:Sit}
include HA
theorem WV (h:cz Λ bs S w) (hF:S.C.aN A):af Tryz.prog 8 #[.pointer (some ⟨bs,0,none⟩)] w (fun v w'=>(∃ lv,v=.tuple #[lv,.bool (nA A S.C.q).2]∧w'.ownsRow 0 72 8 lv (nA A S.C.q).1.length ((nA A S.C.q).1.map ED).flatten)∧GB none w w'):=by
 refine ah au mixed Tryz.func8 rfl rfl ?_;obtain ⟨bc,a,gv,sv,B,ad,hS⟩:=h;have hlen:=hF.len;refine ⟨_,_,hS.si.mem,_,rfl,_,nu hS.enter hlen 0 (by decide) (by decide),?_⟩;rintro lv w1 ⟨o1,g1,f1⟩;have e0:S.C.q.length - min (0:Int).toNat S.C.q.length=S.C.q.length:=by simp
 have e1:S.C.q.drop (min (0:Int).toNat S.C.q.length)=S.C.q:=by simp
 rw [e0,e1] at o1;obtain ⟨la,lc,rfl⟩:=ag o1;generalize hq:S.C.q=q at *;refine ⟨fun m s wk=>∃ (k:Nat) (acc:List (aD×Nat)) (tv:Value),m=q.length - k∧k≤q.length∧s=[(4,tv),(5,.slice la q.length lc),(6,.int .i64 k)]∧wo A q k=(acc,true)∧wk.ownsRow 0 72 8 tv acc.length (acc.map ED).flatten∧(∀ x,tv.ownBlock=some x→w1.heap.size≤x)∧acc.length≤k∧GB none w1 wk,⟨_,_,⟨0,[],.slice none 0 0,rfl,Nat.zero_le _,rfl,rfl,eG _ _ _,nofun,Nat.le_refl _,GB.refl _ _⟩,rfl,rfl,rfl,trivial⟩,?_⟩;rintro m s wk ⟨k,acc,tv,rfl,hk,rfl,ht,tw,tn,tl,gk⟩;have Oq:wo A q (k+1)=jw A q k acc:=by
  show (match wo A q k with | (acc,true)=>jw A q k acc | (acc,false)=>(acc,false))=_;rw [ht]
 have hstop:∀ T,jw A q k acc=(T,false)→k<q.length→nA A q=(T,false):=fun T e hlt=>by
  unfold nA;rw [← Nat.add_sub_cancel' (show k+1≤q.length from hlt)];exact EC _ (Oq.trans e)
 refine aj (fun c=>?_) (fun c=>?_)
 ·have c1:k<q.length:=by have:=of_decide_eq_true c;omega
  replace hstop:=fun T e=>hstop T e c1
  obtain ⟨p,hp⟩:∃ p,q[k]? = some p:=⟨q[k],by simp [c1]⟩;obtain ⟨gb,cap,cur,ev,aT,htk,hsz,hcap⟩:=iI o1 (by omega);injection ev with ev _ Jr;subst ev;subst Jr;have Ot:=gk.get aT nofun;have hel:=Hd hp htk;have get:∀ (j:Nat) (v:Value),p.cells[j]? = some v→cur.toList[k*5+j]? = some v:=fun j v hj=>by
   have hj5:j<5:=(List.getElem?_eq_some_iff.1 hj).1;rw [← hel] at hj;unfold aO at hj;rw [List.getElem?_take,if_pos hj5,List.getElem?_drop] at hj;exact hj
  refine ⟨⟨by omega,by omega⟩,_,_,Ot,.int .u8 p.tg,by show cur.toList[0+(k:Int).toNat*5+2]? = _;rw [Nat.zero_add,Int.toNat_natCast];exact get 2 _ rfl,?_⟩;refine aj (fun d=>?_) (fun d=>?_)
  ·have d1:p.tg≠255:=by simpa using d
   have el:jw A q k acc=(acc,true):=by unfold jw;rw [hp];show (if p.tg≠255 then _ else _)=_;rw [if_pos d1]
   exact ⟨by omega,_,_,⟨k+1,acc,tv,rfl,by omega,rfl,Oq.trans el,tw,tn,by omega,gk⟩,⟨rfl,rfl,rfl,trivial⟩,by omega⟩
  ·have d1:p.tg=255:=by simpa using d
   refine ⟨⟨by omega,by omega⟩,_,_,Ot,.string p.d,by show cur.toList[0+(k:Int).toNat*5+4]? = _;rw [Nat.zero_add,Int.toNat_natCast];exact get 4 _ rfl,_,HA.parse wk p.d,?_⟩;rintro _ w2 ⟨⟨mv,e,m,rfl,hm,hc⟩,g2⟩;obtain ⟨rv,dv,vv,rv',cB,rfl,i1,i2,i3⟩:=hm;obtain ⟨_,_,_,_,_,_,rfl,rfl⟩:=i1.sl;obtain ⟨_,_,rfl⟩:=i2.sl;obtain ⟨_,_,_,_,_,_,rfl,rfl⟩:=i3.sl;refine fun w3 b3 m3 g3 l3=>⟨_,_,_,m3,rfl,rfl,fun w4 m4 g4=>?_⟩
   have G4:GB none wk w4:=g2.trans (g3.new g4 l3);have QK:=aF tw (w1:=w4) fun x hx=>by obtain ⟨c,hc⟩:=aG tw hx;exact G4.block x (ae hc) nofun
   have qz:=G4.get Ot nofun;rcases hc with ⟨rfl,hd,_⟩ | ⟨he,hd⟩
   ·refine ⟨by kernel_rfl,_,_,m4,_,rfl,?_⟩
    refine aj (fun x=>?_) (fun x=>?_)
    ·have x1:m.kind=2:=by simpa using x
     refine ⟨_,_,m4,_,rfl,⟨by omega,by omega⟩,_,_,qz,.int .u8 p.tr,by show cur.toList[0+(k:Int).toNat*5+2+1]? = _;rw [Nat.zero_add,Int.toNat_natCast];exact get 3 _ rfl,?_⟩;refine aj (fun y=>?_) (fun y=>?_)
     ·have y1:¬ m.p.c=p.tr:=by simpa using y
      have el:jw A q k acc=(acc,false):=by
       unfold jw;rw [hp];show (if p.tg≠255 then _ else _)=_;rw [if_neg (fun h=>h d1),hd];show (if m.kind=2∧m.p.c=p.tr then _ else _)=_;rw [if_neg (fun h=>y1 h.2)]
      have et:=hstop _ el;exact ⟨⟨tv,by rw [et],by rw [et];exact QK⟩,(g1.trans gk).trans G4⟩
     ·have y1:m.p.c=p.tr:=by simpa using y
      have el:jw A q k acc=(acc++[(m.p,k)],true):=by
       unfold jw;rw [hp];show (if p.tg≠255 then _ else _)=_;rw [if_neg (fun h=>h d1),hd];show (if m.kind=2∧m.p.c=p.tr then _ else _)=_;rw [if_pos ⟨x1,y1⟩]
      obtain ⟨ta,tc,rfl⟩:=ag tw;refine ⟨_,_,m4,m.p.cells,rfl,rfl,fun w5 b5 m5 g5 l5=>?_⟩;have to5:=aF QK (w1:=w5) fun x hx=>by obtain ⟨c,hc⟩:=aG QK hx;exact g5.block x (ae hc) nofun
      refine ⟨_,ED (m.p,k),to5,⟨_,_,m5,rfl,rfl,rfl⟩,by omega,fun v' w6 LG g6 n6=>?_⟩;refine ⟨by omega,_,_,⟨k+1,acc++[(m.p,k)],v',rfl,by omega,rfl,Oq.trans el,?_,fun x hx=>(n6 x hx).elim (tn x) fun hl=>?_,by rw [List.length_append];show acc.length+1≤_;omega,GB.ownB ((gk.trans G4).trans g5) g6 tn⟩,⟨rfl,rfl,rfl,trivial⟩,by omega⟩
      ·rw [List.length_append,List.map_append,List.flatten_append,show (List.map ED [(m.p,k)]).flatten=ED (m.p,k) by simp];exact LG
      ·have:=((gk.trans G4).trans g5).size;omega
    ·have x1:¬ m.kind=2:=by simpa using x
     have el:jw A q k acc=(acc,false):=by
      unfold jw;rw [hp];show (if p.tg≠255 then _ else _)=_;rw [if_neg (fun h=>h d1),hd];show (if m.kind=2∧m.p.c=p.tr then _ else _)=_;rw [if_neg (fun h=>x1 h.1)]
     have et:=hstop _ el;exact ⟨⟨tv,by rw [et],by rw [et];exact QK⟩,(g1.trans gk).trans G4⟩
   ·refine ⟨by kernel_rfl,?_⟩
    have el:jw A q k acc=(acc,false):=by unfold jw;rw [hp];show (if p.tg≠255 then _ else _)=_;rw [if_neg (fun h=>h d1),hd]
    have et:=hstop _ el;refine aj (fun x=>?_) (fun x=>?_)
    ·have:e=0:=by simpa using x
     exact absurd this he
    ·exact ⟨⟨tv,by rw [et],by rw [et];exact QK⟩,(g1.trans gk).trans G4⟩
 ·have c1:k=q.length:=by have:=of_decide_eq_false c;omega
  subst c1;have et:nA A q=(acc,true):=ht;exact ⟨⟨tv,by rw [et],by rw [et];exact tw⟩,g1.trans gk⟩
end
end
end Go.Proofs.YtignemioillaiabGreat
