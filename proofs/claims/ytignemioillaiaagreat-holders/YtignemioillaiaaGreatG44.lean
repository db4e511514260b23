/- Lemmas. -/
import Derived.Test.YtignemioillaiaaGreatG43
namespace Go.Proofs.YtignemioillaiaaGreat
set_option maxHeartbeats 8000000
set_option maxRecDepth 100000
open List
section
open Go Go.Conc
def oo{α:Type}(f:α->α->Bool)(l m:List α):Bool:=(zipWith f l m).all id
theorem GZ{α:Type}{f:α->α->Bool}{l m:List α}{k:Nat}{x y:α}(h1:l[k]? = some x)(h2:m[k]? = some y)(h:f x y=false):oo f l m=false:=by
 cases hz:oo f l m with
 |false=>rfl
 |true =>
  unfold oo at hz;rw[all_eq_true]at hz;have:f x y∈zipWith f l m:=List.mem_of_getElem? (i:=k) (by rw[getElem?_zipWith,h1,h2]);have:=hz _ this;rw[h]at this;cases this
theorem wF{α:Type}{f:α->α->Bool}{l m:List α}(h:∀(k:Nat) (x y:α),k<l.length->l[k]? = some x->m[k]? = some y->f x y=true):oo f l m=true:=by
 unfold oo;rw[all_eq_true];intro b hb;obtain⟨k,hk⟩:=mem_iff_getElem?.1 hb;rw[getElem?_zipWith]at hk;cases h1:l[k]? with
 |none=>rw[h1]at hk;cases hk
 |some x =>
  cases h2:m[k]? with
  |none=>rw[h1,h2]at hk;cases hk
  |some y =>
   rw[h1,h2]at hk;cases hk
   exact h k x y (List.getElem?_eq_some_iff.1 h1).1 h1 h2
def jR(p q:Row):Bool:=p.key == q.key && (p.val == q.val && true)
theorem SQ{l:List Row}{k:Nat}{p:Row}(h:l[k]? = some p):aK (l.map Row.cells).flatten (k*2) 2=p.cells:=by
 rw[<-flatMap_def];exact jZ (f:=Row.cells) (λ_=>rfl) l k p h
def rR(a b:Rg):Bool:=a.src == b.src && (a.dst == b.dst && (a.seq == b.seq && (a.lo == b.lo && (a.hi == b.hi && ((a.rows.length:Int) == b.rows.length && ((a.aZ.length:Int) == b.aZ.length && (oo jR a.rows b.rows && oo eZ a.aZ b.aZ)))))))
theorem Ha{a b:Int}(h:((a != b) == false)=false):(a == b)=false:=by cases hb:a == b<;>simp_all [bne]
theorem Hd{a b:Int}(h:((a != b) == false)=true):(a == b)=true:=by cases hb:a == b<;>simp_all [bne]
theorem YP(w:World){a b:Rg}{ra da rb db:Value}(ha:aM w a ra da)(hb:aM w b rb db)(la:a.rows.length<=1000000/\a.aZ.length<=1000000):ag Tryz.prog 74 #[.agg (eu a ra da).toArray,.agg (eu b rb db).toArray] w (λv w'=>v=.bool (rR a b)/\GB none w w'):=by
 obtain⟨⟨raa,rac,rfl,rah,ral,rad⟩,⟨daa,dac,rfl,dah,dal,dad⟩⟩:=ha;obtain⟨⟨rba,rbc,rfl,rbh,rbl,rbd⟩,⟨dba,dbc,rfl,dbh,dbl,dbd⟩⟩:=hb;refine ah Tryz.func74 rfl rfl ?_;refine λw1 b1 m1 g1 l1 w2 b2 m2 g2 l2=>?_
 have m1:=g2.get m1 nofun;have G:=g1.trans g2;refine⟨_,_,m1,_,rfl,_,_,m2,_,rfl,?_⟩;refine aj (λc1=>?_) (λc=>⟨by unfold rR;rw[Ha c];rfl,G⟩);refine⟨_,_,m1,_,rfl,_,_,m2,_,rfl,aj (λc2=>?_) (λc=>⟨by unfold rR;rw[Ha c];simp,G⟩)⟩;refine⟨_,_,m1,_,rfl,_,_,m2,_,rfl,aj (λc3=>?_) (λc=>⟨by unfold rR;rw[Ha c];simp,G⟩)⟩;refine⟨_,_,m1,_,rfl,_,_,m2,_,rfl,aj (λc4=>?_) (λc=>⟨by unfold rR;rw[Ha c];simp,G⟩)⟩;refine⟨_,_,m1,_,rfl,_,_,m2,_,rfl,aj (λc5=>?_) (λc=>⟨by unfold rR;rw[Ha c];simp,G⟩)⟩;refine⟨_,_,m1,_,rfl,_,_,m2,_,rfl,aj (λc6=>?_) (λc=>⟨by unfold rR;rw[Ha c];simp,G⟩)⟩;refine⟨_,_,m1,_,rfl,_,_,m2,_,rfl,aj (λc=>⟨by unfold rR;rw[show((a.aZ.length:Int) == b.aZ.length)=false by simpa[bne]using c];simp,G⟩) (λc7=>?_)⟩;have e6:=Hd c6;have e7:((a.aZ.length:Int) == b.aZ.length)=true:=by simpa[bne]using c7
 have er:rR a b=(oo jR a.rows b.rows && oo eZ a.aZ b.aZ):=by
  unfold rR;rw[Hd c1,Hd c2,Hd c3,Hd c4,Hd c5,e6,e7];rfl
 have n6:a.rows.length=b.rows.length:=by have:=eq_of_beq e6;omega
 have n7:a.aZ.length=b.aZ.length:=by have:=eq_of_beq e7;omega
 rw[er];refine⟨λq s w3=>∃k:Nat,q=a.rows.length - k/\k<=a.rows.length/\s=[(2,Ptt b1),(3,Ptt b2),(5,.int .i64 k)]/\w3=w2/\∀(j:Nat) (x y:Row),j<k->a.rows[j]? = some x->b.rows[j]? = some y->jR x y=true,⟨_,_,⟨0,rfl,Nat.zero_le _,rfl,rfl,λj x y h=>by omega⟩,rfl,rfl,rfl,trivial⟩,?_⟩;rintro q s w2 ⟨k,rfl,hk,rfl,rfl,hall⟩;refine⟨_,_,m1,_,rfl,aj (λc=>?_) (λc=>?_)⟩
 ·have d1:k<a.rows.length:=by have:=Ptq c;omega
  rcases rad with⟨_,h0⟩|⟨B,off,cs,rfl,hB,hcut⟩
  ·omega
  rcases rbd with⟨_,h0⟩|⟨B',off',cs',rfl,hB',hcut'⟩
  ·omega
  obtain⟨x,hx⟩:∃x,a.rows[k]? = some x:=⟨a.rows[k],by simp[d1]⟩;obtain⟨y,hy⟩:∃y,b.rows[k]? = some y:=⟨b.rows[k]'(by omega),by simp[show k<b.rows.length by omega]⟩;refine⟨by kernel_rfl,_,_,m1,_,rfl,by omega,_,_,G.get hB nofun,x.cells,(Fz.elem hcut d1).trans (SQ hx),rfl,_,_,m2,_,rfl,by omega,_,_,G.get hB' nofun,y.cells,(Fz.elem hcut' (by omega)).trans (SQ hy),rfl,aj (λd=>?_) (λd=>?_)⟩
  ·have d2:jR x y=false:=by cases hh:jR x y with|false=>rfl|true=>exact absurd (show(!(jR x y))=true from d) (by rw[hh];decide)
   exact⟨by rw[GZ hx hy d2];rfl,G⟩
  ·have d2:jR x y=true:=by cases hh:jR x y with|true=>rfl|false=>exact absurd (show(!(jR x y))=false from d) (by rw[hh];decide)
   refine⟨by omega,_,_,⟨k+1,rfl,by omega,rfl,rfl,λj x' y' hj h1 h2=>?_⟩,⟨rfl,rfl,rfl,trivial⟩,by omega⟩;by_cases e:j=k
   ·subst e;rw[hx]at h1;rw[hy]at h2;cases h1;cases h2;exact d2
   ·exact hall j x' y' (by omega) h1 h2
 ·have d1:k=a.rows.length:=by have:=Ptx c;omega
  subst d1;rw[wF (f:=jR) (λj x y hj h1 h2=>hall j x y hj h1 h2),Bool.true_and];refine⟨λq s w3=>∃k:Nat,q=a.aZ.length - k/\k<=a.aZ.length/\s=[(2,Ptt b1),(3,Ptt b2),(6,.int .i64 k)]/\w3=w2/\∀(j:Nat) (x y:aA),j<k->a.aZ[j]? = some x->b.aZ[j]? = some y->eZ x y=true,⟨_,_,⟨0,rfl,Nat.zero_le _,rfl,rfl,λj x y h=>by omega⟩,rfl,rfl,rfl,trivial⟩,?_⟩;clear hall;rintro q s w2 ⟨k,rfl,hk,rfl,rfl,hall⟩;refine⟨_,_,m1,_,rfl,aj (λc=>?_) (λc=>?_)⟩
  ·have d1:k<a.aZ.length:=by have:=Ptq c;omega
   rcases dad with⟨_,h0⟩|⟨B,off,cs,rfl,hB,hcut⟩
   ·omega
   rcases dbd with⟨_,h0⟩|⟨B',off',cs',rfl,hB',hcut'⟩
   ·omega
   obtain⟨x,hx⟩:∃x,a.aZ[k]? = some x:=⟨a.aZ[k],by simp[d1]⟩;obtain⟨y,hy⟩:∃y,b.aZ[k]? = some y:=⟨b.aZ[k]'(by omega),by simp[show k<b.aZ.length by omega]⟩;refine⟨by kernel_rfl,_,_,m1,_,rfl,by omega,_,_,G.get hB nofun,x.cells,(Fz.elem hcut d1).trans (Kv hx),rfl,_,_,m2,_,rfl,by omega,_,_,G.get hB' nofun,y.cells,(Fz.elem hcut' (by omega)).trans (Kv hy),rfl,aj (λd=>?_) (λd=>?_)⟩
   ·have d2:eZ x y=false:=by cases hh:eZ x y with|false=>rfl|true=>exact absurd (show(!(eZ x y))=true from d) (by rw[hh];decide)
    exact⟨by rw[GZ hx hy d2],G⟩
   ·have d2:eZ x y=true:=by cases hh:eZ x y with|true=>rfl|false=>exact absurd (show(!(eZ x y))=false from d) (by rw[hh];decide)
    refine⟨by omega,_,_,⟨k+1,rfl,by omega,rfl,rfl,λj x' y' hj h1 h2=>?_⟩,⟨rfl,rfl,rfl,trivial⟩,by omega⟩;by_cases e:j=k
    ·subst e;rw[hx]at h1;rw[hy]at h2;cases h1;cases h2;exact d2
    ·exact hall j x' y' (by omega) h1 h2
  ·have d1:k=a.aZ.length:=by have:=Ptx c;omega
   subst d1;exact⟨by rw[wF (f:=eZ) (λj x y hj h1 h2=>hall j x y hj h1 h2)],G⟩
def uG(a b:MC):Bool:=rR a.r b.r && (a.kind == b.kind && (rq a.q b.q && (a.peer == b.peer && a.seq == b.seq)))
theorem YQ(w:World){a b:MC}{va vb:Value}(ha:kr w va a)(hb:kr w vb b)(la:a.r.rows.length<=1000000/\a.r.aZ.length<=1000000):ag Tryz.prog 128 #[va,vb] w (λv w'=>v=.bool (uG a b)/\GB none w w'):=by
 obtain⟨ra,da,rfl,ha⟩:=ha;obtain⟨rb,db,rfl,hb⟩:=hb;refine ah Tryz.func128 rfl rfl ?_;refine λw1 b1 m1 g1 l1 w2 b2 m2 g2 l2=>?_
 have m1:=g2.get m1 nofun;have G:=g1.trans g2;refine⟨_,_,m1,eu a.r ra da,rfl,rfl,_,_,m2,eu b.r rb db,rfl,rfl,_,YP w2 (ha.kz G.kz) (hb.kz G.kz) la,?_⟩;rintro _ w3 ⟨rfl,g3⟩;have m1:=g3.get m1 nofun;have m2:=g3.get m2 nofun;have G:=G.trans g3;unfold uG;generalize rR a.r b.r=r;cases r
 ·exact⟨rfl,G⟩
 refine⟨_,_,m1,_,rfl,_,_,m2,_,rfl,aj (λc=>?_) (λc=>?_)⟩
 ·have c1:(a.kind == b.kind)=true:=eq_of_beq c
  refine⟨_,_,m1,a.q.cells,rfl,rfl,_,_,m2,b.q.cells,rfl,rfl,aj (λc=>?_) (λc=>?_)⟩
  ·have c2:rq a.q b.q=true:=eq_of_beq c
   refine⟨_,_,m1,_,rfl,_,_,m2,_,rfl,aj (λc=>?_) (λc=>?_)⟩
   ·have c3:(a.peer == b.peer)=true:=eq_of_beq c
    exact⟨_,_,m1,_,rfl,_,_,m2,_,rfl,congrArg Value.bool (by rw[c1,c2,c3];rfl),G⟩
   ·have c3:(a.peer == b.peer)=false:=by simpa using c
    exact⟨congrArg Value.bool (by rw[c1,c2,c3];rfl),G⟩
  ·have c2:rq a.q b.q=false:=by cases h:rq a.q b.q;rfl;unfold rq at h;rw[h]at c;cases c
   exact⟨congrArg Value.bool (by rw[c1,c2];rfl),G⟩
 ·have c1:(a.kind == b.kind)=false:=by simpa using c
  exact⟨congrArg Value.bool (by rw[c1];rfl),G⟩
structure Sit.aJ(A:aO)(S:Sit):Prop where
 cl:S.C.aJ A
 n:0<S.C.n
 sz:0<S.C.sz
 be:S.bG.length=S.C.n
 le:S.len.length=S.C.n*S.C.sz
 fe:S.fell.length=S.C.n*S.C.sz
 ak:S.asks.length<=S.C.q.length
def Sit.dx(S:Sit)(i:Nat):Sit:=if(S.C.F (aY S.C i) (bN S.C i)).log.length > (S.bG.getD (aY S.C i) []).length then{ S with bG:=S.bG.set (aY S.C i) (S.C.F (aY S.C i) (bN S.C i)).log }else S
def Sit.dz(S:Sit)(i:Nat):Sit×Bool :=
 if oo uG (S.C.F (aY S.C i) (bN S.C i)).log (S.bG.getD (aY S.C i) [])=false then(S,false)
 else if(S.C.F (aY S.C i) (bN S.C i)).log.length<S.len.getD i 0/\S.fell.getD i true=false then(S.dx i,false)
 else({ S.dx i with len:=S.len.set i (S.C.F (aY S.C i) (bN S.C i)).log.length,fell:=S.fell.set i false },true)
def Sit.dX(S:Sit):Nat->Sit×Bool
 |0=>(S,true)
 |i+1=>match S.dX i with
  |(T,true)=>T.dz i
  |(T,false)=>(T,false)
def Sit.look(S:Sit):Sit×Bool:=S.dX (S.C.n*S.C.sz)
theorem Sit.CB(S:Sit)(i:Nat):(S.dx i).C=S.C/\(S.dx i).len=S.len/\(S.dx i).fell=S.fell/\(S.dx i).asks=S.asks/\(S.dx i).bG.length=S.bG.length:=by
 unfold Sit.dx;split
 ·exact⟨rfl,rfl,rfl,rfl,by simp⟩
 ·exact⟨rfl,rfl,rfl,rfl,rfl⟩
theorem Sit.VG(S:Sit)(i:Nat):(S.dx i).next=S.next/\(S.dx i).bad=S.bad:=by
 unfold Sit.dx;split<;>exact⟨rfl,rfl⟩
theorem Sit.aJ.dz{A:aO}{S:Sit}(h:S.aJ A)(i:Nat):(S.dz i).1.aJ A/\(S.dz i).1.C=S.C:=by
 obtain⟨e1,e2,e3,e4,e5⟩:=S.CB i;unfold Sit.dz;split
 ·exact⟨h,rfl⟩
 ·split
  ·exact⟨⟨by rw[e1];exact h.cl,by rw[e1];exact h.n,by rw[e1];exact h.sz,by rw[e5,e1];exact h.be,by rw[e2,e1];exact h.le,by rw[e3,e1];exact h.fe,by rw[e4,e1];exact h.ak⟩,e1⟩
  ·refine⟨⟨by show aL.aJ A (S.dx i).C;rw[e1];exact h.cl,by show 0<(S.dx i).C.n;rw[e1];exact h.n,by show 0<(S.dx i).C.sz;rw[e1];exact h.sz,by show(S.dx i).bG.length=(S.dx i).C.n;rw[e5,e1];exact h.be,?_,?_,by show(S.dx i).asks.length<=(S.dx i).C.q.length;rw[e4,e1];exact h.ak⟩,e1⟩
   ·show(S.len.set i _).length=(S.dx i).C.n*(S.dx i).C.sz
    rw[length_set,e1];exact h.le
   ·show(S.fell.set i _).length=(S.dx i).C.n*(S.dx i).C.sz
    rw[length_set,e1];exact h.fe
theorem Sit.aJ.dX{A:aO}{S:Sit}(h:S.aJ A):∀i,(S.dX i).1.aJ A/\(S.dX i).1.C=S.C
 |0=>⟨h,rfl⟩
 |i+1=>by
  have ih:=Sit.aJ.dX h i;unfold Sit.dX;generalize S.dX i=p at ih;obtain⟨T,b⟩:=p;cases b
  ·exact ih
  ·exact⟨(ih.1.dz i).1,(ih.1.dz i).2.trans ih.2⟩
theorem Sit.FQ{S T:Sit}:∀{i:Nat} (m:Nat),S.dX i=(T,false)->S.dX (i+m)=(T,false)
 |_,0,h=>h
 |i,m+1,h=>by
  have:=Sit.FQ m h;show(match S.dX (i+m)with|(T,true)=>T.dz (i+m)|(T,false)=>(T,false))=_;rw[this]
theorem jV.el{w:World}{a:Option Addr}{n c:Nat}{l:List MC}(h:jV w (.slice a n c) l){k:Nat}{x:MC}(hc:l[k]? = some x):∃gb cur rv dv,a=some ⟨gb,0,none⟩/\n=l.length/\w.heap[gb]? = some (.cells cur 54)/\aK cur.toList (k*17) 17=dC x rv dv/\aM w x.r rv dv:=by
 obtain⟨vs,v1,v2,v3⟩:=h;have hk:k<l.length:=(List.getElem?_eq_some_iff.1 hc).1;obtain⟨p,hp⟩:∃p,vs[k]? = some p:=⟨vs[k],by simp[v1,hk]⟩;obtain⟨gb,cap,cur,ev,aR,htk,hsz,hcap⟩:=jD v2 (by omega);injection ev with ev en ec;refine⟨gb,cur,p.1,p.2,ev,en,aR,?_,v3 k x p hc hp⟩;rw[<-PK hc hp,show lf l vs=_ from htk.symm];unfold aK;rw[drop_take,take_take,Nat.min_eq_left (by omega)]
theorem qw{w:World}{e:TypeId}{n:Nat}{v:Value}{xs:List Value}(h:w.ownsRow 0 e 1 v n xs){k:Nat}{x:Value}(hx:xs[k]? = some x):∃gb cap cur,v=.slice (Pty gb) n cap/\w.heap[gb]? = some (.cells cur e)/\cur.toList[k]? = some x/\k<n/\k<cur.toList.length:=by
 have hl:xs.length=n*1:=h.1;have hk:k<xs.length:=(List.getElem?_eq_some_iff.1 hx).1;obtain⟨gb,cap,cur,ev,aR,htk,hsz,hcap⟩:=jD h (by omega);refine⟨gb,cap,cur,ev,aR,?_,by omega,by rw[Array.length_toList];omega⟩;rw[<-htk,getElem?_take,if_pos (by omega)]at hx;exact hx
def jX(A:aO)(q:List bJ)(k:Nat)(acc:List (aA×Nat)):List (aA×Nat)×Bool:=match q[k]? with
 |none=>(acc,true)
 |some p=>if p.tg≠255 then(acc,true)else match A.dec p.d with
  |none=>(acc,false)
  |some m=>if m.kind=2/\m.p.c=p.tr then(acc++[(m.p,k)],true)else(acc,false)
def xA(A:aO)(q:List bJ):Nat->List (aA×Nat)×Bool
 |0=>([],true)
 |k+1=>match xA A q k with
  |(acc,true)=>jX A q k acc
  |(acc,false)=>(acc,false)
def oq(A:aO)(q:List bJ):List (aA×Nat)×Bool:=xA A q q.length
theorem FR{A:aO}{q:List bJ}{T:List (aA×Nat)}:∀{i:Nat} (m:Nat),xA A q i=(T,false)->xA A q (i+m)=(T,false)
 |_,0,h=>h
 |i,m+1,h=>by
  have:=FR m h;show(match xA A q (i+m)with|(acc,true)=>jX A q (i+m) acc|(acc,false)=>(acc,false))=_;rw[this]
def FT(x:aA×Nat):List Value:=x.1.cells++[.int .i64 (x.2:Nat)]
section
variable{A:aO}(HA:bH A){Λ:bU}{w:World}{bs:Nat}{S:Sit}
include HA
theorem YR(h:df Λ bs S w)(hF:S.C.aJ A):ag Tryz.prog 173 #[Ptt bs] w (λv w'=>(∃lv,v=.tuple #[lv,.bool (oq A S.C.q).2]/\w'.ownsRow 0 264 8 lv (oq A S.C.q).1.length ((oq A S.C.q).1.map FT).flatten)/\GB none w w'):=by
 refine ah Tryz.func173 rfl rfl ?_;obtain⟨bc,a,gv,sv,B,ad,hS⟩:=h;have hlen:=hF.len;refine⟨_,_,hS.si.mem,_,rfl,_,rH hS.enter hlen 0 (by decide) (by decide),?_⟩;rintro lv w1 ⟨o1,g1,f1⟩;have e0:S.C.q.length - min (0:Int).toNat S.C.q.length=S.C.q.length:=by simp
 have e1:S.C.q.drop (min (0:Int).toNat S.C.q.length)=S.C.q:=by simp
 rw[e0,e1]at o1;obtain⟨la,lc,rfl⟩:=af o1;generalize hq:S.C.q=q at *;refine⟨λm s wk=>∃(k:Nat) (acc:List (aA×Nat)) (tv:Value),m=q.length - k/\k<=q.length/\s=[(4,tv),(5,.slice la q.length lc),(6,.int .i64 k)]/\xA A q k=(acc,true)/\wk.ownsRow 0 264 8 tv acc.length (acc.map FT).flatten/\(∀x,tv.ownBlock=some x->w1.heap.size<=x)/\acc.length<=k/\GB none w1 wk,⟨_,_,⟨0,[],Ptz,rfl,Nat.zero_le _,rfl,rfl,dZ _ _ _,nofun,Nat.le_refl _,GB.refl _ _⟩,rfl,rfl,rfl,trivial⟩,?_⟩;rintro m s wk ⟨k,acc,tv,rfl,hk,rfl,ht,tw,tn,tl,gk⟩;have P8:xA A q (k+1)=jX A q k acc:=by
  show(match xA A q k with|(acc,true)=>jX A q k acc|(acc,false)=>(acc,false))=_;rw[ht]
 have hstop:∀T,jX A q k acc=(T,false)->k<q.length->oq A q=(T,false):=λT e hlt=>by
  unfold oq;rw[<-Nat.add_sub_cancel' (show k+1<=q.length from hlt)];exact FR _ (P8.trans e)
 refine aj (λc=>?_) (λc=>?_)
 ·have c1:k<q.length:=by have:=Ptq c;omega
  replace hstop:=λT e=>hstop T e c1
  obtain⟨p,hp⟩:∃p,q[k]? = some p:=⟨q[k],by simp[c1]⟩;obtain⟨gb,cap,cur,ev,aR,htk,hsz,hcap⟩:=jD o1 (by omega);injection ev with ev _ R9;subst ev;subst R9;have P9:=gk.get aR nofun;have hel:=WL hp htk;have get:∀(j:Nat) (v:Value),p.cells[j]? = some v->cur.toList[k*5+j]? = some v:=λj v hj=>by
   have hj5:j<5:=(List.getElem?_eq_some_iff.1 hj).1;rw[<-hel]at hj;unfold aK at hj;rw[getElem?_take,if_pos hj5,getElem?_drop]at hj;exact hj
  refine⟨by omega,_,_,P9,.int .u8 p.tg,by show cur.toList[0+(k:Int).toNat*5+2]? = _;rw[Nat.zero_add,Int.toNat_natCast];exact get 2 _ rfl,?_⟩;refine aj (λd=>?_) (λd=>?_)
  ·have d1:p.tg≠255:=by simpa using d
   have el:jX A q k acc=(acc,true):=by unfold jX;rw[hp];show(if p.tg≠255 then _ else _)=_;rw[if_pos d1]
   exact⟨by omega,_,_,⟨k+1,acc,tv,rfl,by omega,rfl,P8.trans el,tw,tn,by omega,gk⟩,⟨rfl,rfl,rfl,trivial⟩,by omega⟩
  ·have d1:p.tg=255:=by simpa using d
   refine⟨by omega,_,_,P9,.string p.d,by show cur.toList[0+(k:Int).toNat*5+4]? = _;rw[Nat.zero_add,Int.toNat_natCast];exact get 4 _ rfl,_,HA.parse wk p.d,?_⟩;rintro _ w2 ⟨⟨mv,e,m,rfl,hm,hc⟩,g2⟩;obtain⟨rv,dv,vv,rv',eU,rfl,i1,i2,i3⟩:=hm;obtain⟨_,_,_,_,_,_,rfl,rfl⟩:=i1.sl;obtain⟨_,_,rfl⟩:=i2.sl;obtain⟨_,_,_,_,_,_,rfl,rfl⟩:=i3.sl;refine λw3 b3 m3 g3 l3=>⟨_,_,_,m3,rfl,rfl,λw4 m4 g4=>?_⟩
   have G4:GB none wk w4:=g2.trans (g3.new g4 l3);have SS:=ay tw (w1:=w4) λx hx=>by obtain⟨c,hc⟩:=ax tw hx;exact G4.block x (ae hc) nofun
   have rJ:=G4.get P9 nofun;rcases hc with⟨rfl,hd,_⟩|⟨he,hd⟩
   ·refine⟨by kernel_rfl,_,_,m4,_,rfl,?_⟩
    refine aj (λx=>?_) (λx=>?_)
    ·have x1:m.kind=2:=by simpa using x
     refine⟨_,_,m4,_,rfl,by omega,_,_,rJ,.int .u8 p.tr,by show cur.toList[0+(k:Int).toNat*5+2+1]? = _;rw[Nat.zero_add,Int.toNat_natCast];exact get 3 _ rfl,?_⟩;refine aj (λy=>?_) (λy=>?_)
     ·have y1:¬m.p.c=p.tr:=by simpa using y
      have el:jX A q k acc=(acc,false):=by
       unfold jX;rw[hp];show(if p.tg≠255 then _ else _)=_;rw[if_neg (λh=>h d1),hd];show(if m.kind=2/\m.p.c=p.tr then _ else _)=_;rw[if_neg (λh=>y1 h.2)]
      have et:=hstop _ el;exact⟨⟨tv,by rw[et],by rw[et];exact SS⟩,(g1.trans gk).trans G4⟩
     ·have y1:m.p.c=p.tr:=by simpa using y
      have el:jX A q k acc=(acc++[(m.p,k)],true):=by
       unfold jX;rw[hp];show(if p.tg≠255 then _ else _)=_;rw[if_neg (λh=>h d1),hd];show(if m.kind=2/\m.p.c=p.tr then _ else _)=_;rw[if_pos ⟨x1,y1⟩]
      obtain⟨ta,tc,rfl⟩:=af tw;refine⟨_,_,m4,m.p.cells,rfl,rfl,λw5 b5 m5 g5 l5=>?_⟩;have to5:=ay SS (w1:=w5) λx hx=>by obtain⟨c,hc⟩:=ax SS hx;exact g5.block x (ae hc) nofun
      refine⟨_,FT (m.p,k),to5,⟨_,_,m5,rfl,rfl,rfl⟩,by omega,λv' w6 ND g6 n6=>?_⟩;refine⟨by omega,_,_,⟨k+1,acc++[(m.p,k)],v',rfl,by omega,rfl,P8.trans el,?_,λx hx=>(n6 x hx).elim (tn x) λhl=>?_,by rw[length_append];show acc.length+1<=_;omega,GB.ownB ((gk.trans G4).trans g5) g6 tn⟩,⟨rfl,rfl,rfl,trivial⟩,by omega⟩
      ·rw[length_append,map_append,flatten_append,show(map FT [(m.p,k)]).flatten=FT (m.p,k)by simp];exact ND
      ·have:=((gk.trans G4).trans g5).size;omega
    ·have x1:¬m.kind=2:=by simpa using x
     have el:jX A q k acc=(acc,false):=by
      unfold jX;rw[hp];show(if p.tg≠255 then _ else _)=_;rw[if_neg (λh=>h d1),hd];show(if m.kind=2/\m.p.c=p.tr then _ else _)=_;rw[if_neg (λh=>x1 h.1)]
     have et:=hstop _ el;exact⟨⟨tv,by rw[et],by rw[et];exact SS⟩,(g1.trans gk).trans G4⟩
   ·refine⟨by kernel_rfl,?_⟩
    have el:jX A q k acc=(acc,false):=by unfold jX;rw[hp];show(if p.tg≠255 then _ else _)=_;rw[if_neg (λh=>h d1),hd]
    have et:=hstop _ el;refine aj (λx=>?_) (λx=>?_)
    ·have:e=0:=by simpa using x
     exact absurd this he
    ·exact⟨⟨tv,by rw[et],by rw[et];exact SS⟩,(g1.trans gk).trans G4⟩
 ·have c1:k=q.length:=by have:=Ptx c;omega
  subst c1;have et:oq A q=(acc,true):=ht;exact⟨⟨tv,by rw[et],by rw[et];exact tw⟩,g1.trans gk⟩
end
end
