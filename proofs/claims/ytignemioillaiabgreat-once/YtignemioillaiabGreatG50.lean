/- Lemmas. -/
import Derived.Test.YtignemioillaiabGreatG49
namespace Go.Proofs.YtignemioillaiabGreat
set_option maxHeartbeats 8000000
set_option maxRecDepth 100000
open List
section
open Go Go.Conc
def stA(n:Nat)(ls:Nat->List MC)(g:Nat):St:=bR (bJ n) (kS g n) (ls g)
structure Ew(n:Nat)(ls:Nat->List MC):Prop where
 gl:Gl n (stA n ls)
 gd:∀g,g<n->cu n (ls g).length (stA n ls g)
 past:∀g d,g<n->d<n->∀j,j<=(ls g).length->∀r∈(aP (bR (bJ n) (kS g n) ((ls g).take j)).O d).2,r∈(aP (stA n ls g).O d).2\/r.seq<=(stA n ls d).I.getD g 0
 up:∀g d:Nat,g<n->∀j,j<=(ls g).length->(bR (bJ n) (kS g n) ((ls g).take j)).I.getD d 0<=(stA n ls g).I.getD d 0
theorem Dh:∀n,fU (λ_=>0) n=0
 |0=>rfl
 |n+1=>by show fU (λ_=>0) n+0=0;rw[Dh n]
theorem Di{g n d:Nat}(hd:d<n):aP (kS g n).O d=(1,[]):=by
 show aP (replicate n ((1:Int),([]:List Rg))) d=_;unfold aP;rw[Jfa,Jgt,Jb6 hd];rfl
theorem ae7(g n x:Nat):(kS g n).I.getD x 0=0:=by
 show(replicate n (0:Int)).getD x 0=0;rw[Jdx,Jgt];split<;>rfl
theorem Ew.nil{n:Nat}(h0:0<n)(h4:n<=4):Ew n λ_=>[]:=by
 have gd:∀g,g<n->cu n 0 (kS g n):=λg hg=>(CX n).Ag g n rfl hg h4
 refine⟨⟨λg hg=>⟨(gd g hg).ok,rfl,rfl⟩,λg d _ hd=>?_,λg d _ hd=>?_,λg d _ hd r hr=>?_,λk k0 k1=>?_⟩,gd,λg d _ hd j hj r hr=>?_,λg d _ j hj=>?_⟩
 .show(kS d n).I.getD g 0<(aP (kS g n).O d).1
  rw[ae7,Di hd];decide
 .show(aP (kS g n).O d).2.Pairwise _
  rw[Di hd];exact .nil
 .have hr:r∈(aP (kS g n).O d).2:=hr
  rw[Di hd]at hr;cases hr
 .have e:∀g,g<n->FF n (stA n λ_=>[]) k g=if(0:Int)=g then 1 else 0:=λg hg=>by
   unfold FF;have e1:own 0 (stA n (λ_=>[]) g).M k=0:=by
    show own 0 [⟨0,0⟩] k=0;unfold own;rw[Jb6 k0];rfl
   rw[e1];have:fU (λd=>TR (stA n (λ_=>[]) g) ((stA n (λ_=>[]) d).I.getD g 0) d k) n=fU (λ_=>0) n:=wD λd hd=>by
    show(aP (kS g n).O d).2.countP _=0;rw[Di hd];rfl
   rw[this,Dh];rfl
  have:=mY (f:=λ_=>0) (f':=FF n (stA n λ_=>[]) k) h0 λj hj ne=>by
   rw[e j hj,Jb5 (by omega)]
  rw[Dh,e 0 h0,Jb6 (show(0:Int)=((0:Nat):Int)from rfl)]at this;unfold cnt;omega
 .have hr:r∈(aP (bR (bJ n) (kS g n) (([]:List MC).take j)).O d).2:=hr
  rw[take_nil]at hr;have hr:r∈(aP (kS g n).O d).2:=hr;rw[Di hd]at hr;cases hr
 .show(bR (bJ n) (kS g n) (([]:List MC).take j)).I.getD d 0<=(kS g n).I.getD d 0
  rw[take_nil];exact Jfb _
theorem uW(n:Nat)(s:St)(l:List MC)(c:MC):bR (bJ n) s (l++[c])=(cB (bR (bJ n) s l) c).1:=by unfold bR;rw[Jg4];rfl
theorem Ew.ext{n:Nat}{ls:Nat->List MC}(h:Ew n ls){g:Nat}(hg:g<n){c:MC}(hc:Hw (bJ n) n ls g c)(hl:(ls g).length<=59):Ew n (fA ls g (ls g++[c])):=by
 have gc:iE n c:=hc.1;have eo:∀g',g'≠g->stA n (fA ls g (ls g++[c])) g'=stA n ls g':=λg' ne=>by unfold stA fA;rw[Jb5 ne]
 have lo:∀g',g'≠g->fA ls g (ls g++[c]) g'=ls g':=λg' ne=>by unfold fA;rw[Jb5 ne]
 have lg:fA ls g (ls g++[c]) g=ls g++[c]:=kT _ _ _;have eg:stA n (fA ls g (ls g++[c])) g=(cB (stA n ls g) c).1:=by unfold stA;rw[lg,uW]
 have gd:=h.gd g hg;have gd':=gd.app (by omega) gc;obtain⟨o1,o2,o3⟩:=h.gl.ok g hg;have ef:=P6 gd o3 gc;have an:=RU (stA n ls g) c;have hr:∀g0:Nat,c.kind=2->c.r.src=g0->g0<n->c.r∈(aP (stA n ls g0).O g).2\/c.r.seq<=(stA n ls g).I.getD g0 0:=λg0 hk e0 h0=>by
  rcases hc.2 with e|e|⟨e,g1,q1,e1,e2,j,hj,o,ho,hr⟩|⟨e,_⟩
  .omega
  .omega
  .obtain rfl:g1=g0:=by omega
   refine h.past g1 g q1 hg j hj c.r ?_;unfold aP;rw[Jfa];have ho:(bR (bJ n) (kS g1 n) ((ls g1).take j)).O[g]?=some o:=ho;rw[ho];exact hr
  .omega
 have hx:∀g0:Nat,c.kind=3->c.peer=g0->g0<n->c.seq<=(stA n ls g0).I.getD g 0:=λg0 hk e0 h0=>by
  rcases hc.2 with e|e|⟨e,_⟩|⟨e,g1,q1,e1,j,hj,hs⟩
  .omega
  .omega
  .omega
  .obtain rfl:g1=g0:=by omega
   exact Int.le_trans hs (h.up g1 g q1 j hj)
 have Y8:∀d x:Nat,(stA n ls d).I.getD x 0<=(stA n (fA ls g (ls g++[c])) d).I.getD x 0:=λd x=>by
  by_cases e:d=g
  .subst e;rw[eg];exact XO n _ c (by omega:(ls d).length<=60) gd hc.1 x
  .rw[eo d e];exact Jfb _
 refine⟨h.gl.step hg eo (by rw[eg];exact ef) (by rw[eg];exact⟨gd'.ok,gd'.n,an.2.trans o3⟩) hr hx,λg' hg'=>?_,λg' d hg' hd j hj r hr'=>?_,λg' d hg' j hj=>?_⟩
 .by_cases e:g'=g
  .subst e;rw[eg,lg,Jc6];exact gd'
  .rw[eo g' e,lo g' e];exact h.gd g' hg'
 .by_cases e:g'=g
  .subst e
   rw[lg]at hj hr';rw[eg];by_cases e2:j<=(ls g').length
   .rw[Jd3 e2]at hr'
    rcases h.past g' d hg' hd j e2 r hr' with q|q
    .have ol:(stA n ls g').O.length=n:=by have:=o1.ol;omega
     cases ef with
     |same m o i=>rw[o];exact .inl q
     |H8 lo hi t r' h0 h1 h2 ht hgt ow m o e1 e2 e3 i =>
      rw[o,zI (by omega)];split
      .rename_i z;subst z;exact .inl (Jdc.2 (.inl q))
      .exact .inl q
     |rcv g0 hk e0 h0 hgt b0 b1 b2 es m o i=>rw[o];exact .inl q
     |set g0 hk e0 h0 m o i =>
      rw[o,zI (by omega)];split
      .rename_i z
       subst z;by_cases le:r.seq<=c.seq
       .exact .inr (Int.le_trans le (Int.le_trans (hx d hk e0 h0) (Y8 d g')))
       .exact .inl (mem_filter.2 ⟨q,by simp;omega⟩)
      .exact .inl q
    .exact .inr (Int.le_trans q (Y8 d g'))
   .rw[Jc6,Jfz]at hj
    have:(ls g'++[c]).take j=ls g'++[c]:=Jd2 (by rw[Jc6,Jfz];omega);rw[this,uW]at hr';exact .inl hr'
  .rw[lo g' e]at hj hr'
   rw[eo g' e];rcases h.past g' d hg' hd j hj r hr' with q|q
   .exact .inl q
   .exact .inr (Int.le_trans q (Y8 d g'))
 .by_cases e:g'=g
  .subst e
   rw[lg]at hj |-;by_cases e2:j<=(ls g').length
   .rw[Jd3 e2]
    exact Int.le_trans (h.up g' d hg' j e2) (Y8 g' d)
   .rw[Jc6,Jfz]at hj
    have:(ls g'++[c]).take j=ls g'++[c]:=Jd2 (by rw[Jc6,Jfz];omega);rw[this,uW,eg];exact Jfb _
  .rw[lo g' e]at hj |-
   rw[eo g' e];exact h.up g' d hg' j hj
theorem jF.glh{n:Nat}(h0:0<n)(h4:n<=4){ls:Nat->List MC}(h:jF (bJ n) n ls):(∀g,g<n->(ls g).length<=60)->Ew n ls:=by
 induction h with
 |nil=>exact λ_=>Ew.nil h0 h4
 | @ext ls g c h hg hc ih =>
  intro hl;refine(ih λg' hg'=>?_).ext hg hc ?_
  .by_cases e:g'=g
   .subst e
    have:=hl g' hg';rw[kT,Jc6]at this;omega
   .have:=hl g' hg'
    unfold fA at this;rw[Jb5 e]at this;exact this
  .have:=hl g hg
   rw[kT,Jc6,Jfz]at this;omega
theorem XP{T:List Row}{r x:Row}:x∈IP T r↔x=r\/x∈T/\x.key≠r.key:=by
 unfold IP;simp only[Jdc,Jb3,mem_filter,Jdr];constructor
 .rintro(⟨a,b⟩|rfl|⟨a,b⟩)
  .exact .inr ⟨a,by omega⟩
  .exact .inl rfl
  .exact .inr ⟨a,by omega⟩
 .rintro(rfl|⟨a,b⟩)
  .exact .inr (.inl rfl)
  .rcases Int.lt_or_gt_of_ne b with q|q
   .exact .inl ⟨a,q⟩
   .exact .inr (.inr ⟨a,q⟩)
theorem A9{D:List ag}{r x:ag}:x∈CO D r↔x=r\/x∈D/\¬(x.key=r.key/\x.c=r.c):=by
 unfold CO;simp only[Jdc,Jb3,mem_filter,oQ];constructor
 .rintro(⟨a,b⟩|rfl|⟨a,b⟩)
  .exact .inr ⟨a,by omega⟩
  .exact .inl rfl
  .exact .inr ⟨a,by omega⟩
 .rintro(rfl|⟨a,b⟩)
  .exact .inr (.inl rfl)
  .by_cases q:x.key<r.key\/x.key=r.key/\x.c<r.c
   .exact .inl ⟨a,q⟩
   .exact .inr (.inr ⟨a,by omega⟩)
theorem Jc{α:Type}{f:α->Int}{l:List α}(h:Au f l)(hu:∀(i j:Nat) (x y:α),i<j->l[i]?=some x->l[j]?=some y->0<=f x->0<f y){x:α}(hx:x∈l)(h0:f x=0):mU f l=true/\l[dM f l]?=some x:=by
 obtain⟨h1,h2⟩:=ry f l h;obtain⟨t,ht⟩:=Jdf.1 hx;have ge:dM f l<=t:=Nat.not_lt.1 λlt=>by have:=h1 t x lt ht;omega
 have:dM f l=t:=by
  refine Jg8 λne=>?_
  have lt:=(Jcn.1 ht).1;have hy:=Jcc (l:=l) (i:=dM f l) (by omega);have:=hu _ t _ x (by omega) hy ht (h2 _ _ (Jb0 _) hy);omega
 refine⟨?_,by rw[this];exact ht⟩;unfold mU;rw[this,ht];simp[h0]
theorem FB{T:List Row}(h:fT T){x:Row}(hx:x∈T):iV T x.key=true/\oN T x.key=x.val:=by
 obtain⟨a,b⟩:=Jc (Kv h x.key) (IL h x.key) hx (jq.2 rfl);refine⟨a,?_⟩;unfold oN;rw[Jb6 a,b];rfl
theorem aaK{T:List Row}{k:Int}(h:iV T k=true):∃x∈T,x.key=k:=by
 obtain⟨x,hx,h0⟩:=sK h;exact⟨x,Jcv hx,jq.1 h0⟩
theorem XQ{D:List ag}(h:iM D){x q:ag}(hx:x∈D)(hk:x.key=q.key/\x.c=q.c):Fg D q=true/\D[xV D q]?=some x:=Jc (Rh h q) (Pv h q) hx (IJ.2 hk)
theorem Jd{D:List ag}{q:ag}(h:Fg D q=true):∃x,D[xV D q]?=some x/\x∈D/\x.key=q.key/\x.c=q.c:=by
 obtain⟨x,hx,h0⟩:=sK h;exact⟨x,hx,Jcv hx,IJ.1 h0⟩
theorem xq{α:Type}{f:α->Int}{lo hi:Int}{l:List α}{x:α}:x∈sB f lo l++sA f lo hi l↔x∈l/\(f x<lo\/lo<=f x/\hi<f x):=by
 unfold sB sA;simp only[Jdc,mem_filter,Jdr,Jdy,Jf8,Jgy,Int.not_lt];constructor
 .rintro(⟨a,b⟩|⟨a,b⟩)
  .exact⟨a,.inl b⟩
  .exact⟨a,.inr b⟩
 .rintro⟨a,b|b⟩
  .exact .inl ⟨a,b⟩
  .exact .inr ⟨a,b⟩
theorem Vm{α:Type}{f:α->Int}{lo hi:Int}{l:List α}{x:α}:x∈sW f lo hi l↔x∈l/\lo<=f x/\f x<=hi:=by
 unfold sW;simp only[mem_filter,Jdy,Jf8,Jgy,Int.not_lt]
structure Mem where
 f:Bool
 v:Int
 sq:Nat->Int
 sd:Nat->ag
def Mem.z:Mem:=⟨false,0,λ_=>0,λ_=>rV⟩
def Mem.put(m:Mem)(r:ag):Mem:={m with sq:=λi=>if i=r.c.toNat then r.s else m.sq i,sd:=λi=>if i=r.c.toNat then r else m.sd i}
inductive oo(m:Mem)(q:aW)(r:ag):Mem->Bool->Prop
 |red (h:r.k=3) (h4:q.k=4) (hs:r.s=q.s):oo m q r m false
 |old (h:r.k=4) (hs:r.s=q.s) (hl:q.s<m.sq q.c.toNat):oo m q r m false
 |same (h:r.k≠3) (hs:q.s=m.sq q.c.toNat) (e:r=m.sd q.c.toNat):oo m q r m false
 |get (hl:m.sq q.c.toNat<q.s) (h:q.k=1) (e:r=⟨q.c,q.s,q.key,1,m.f,if m.f then m.v else 0,0⟩):oo m q r (m.put r) true
 |full (hl:m.sq q.c.toNat<q.s) (h:q.k=2) (e:r=⟨q.c,q.s,q.key,5,false,0,0⟩) (hf:m.f=false):oo m q r (m.put r) true
 |set (hl:m.sq q.c.toNat<q.s) (h:q.k=2) (e:r=⟨q.c,q.s,q.key,2,false,0,0⟩):oo m q r {m.put r with f:=true,v:=q.v} true
 |del (hl:m.sq q.c.toNat<q.s) (h:q.k=3) (e:r=⟨q.c,q.s,q.key,2,false,0,0⟩):oo m q r {m.put r with f:=false} true
 |H8 (hl:m.sq q.c.toNat<q.s) (h:q.k=4) (e:r=⟨q.c,q.s,q.key,2,false,0,0⟩\/r=⟨q.c,q.s,q.key,5,false,0,0⟩):oo m q r (m.put r) true
inductive Mm(k:Int):List (aW×ag)->Mem->List ag->Prop
 |nil:Mm k [] .z []
 |snoc {l:List (aW×ag)} {m m':Mem} {e:List ag} {q:aW} {r:ag} {b:Bool} (h:Mm k l m e) (hq:(0<=q.c/\q.c<4)/\1<=q.s/\q.key=k/\r.c=q.c/\r.key=k) (ha:oo m q r m' b):Mm k (l++[(q,r)]) m' (if b then e++[r]else e)
theorem oo.done{m m':Mem}{q:aW}{r:ag}(h:oo m q r m' true):m.sq q.c.toNat<q.s/\r.s=q.s/\r.c=q.c/\m'.sq=(m.put r).sq/\m'.sd=(m.put r).sd:=by
 cases h with
 |get hl _ e=>subst e;exact⟨hl,rfl,rfl,rfl,rfl⟩
 |full hl _ e=>subst e;exact⟨hl,rfl,rfl,rfl,rfl⟩
 |set hl _ e=>subst e;exact⟨hl,rfl,rfl,rfl,rfl⟩
 |del hl _ e=>subst e;exact⟨hl,rfl,rfl,rfl,rfl⟩
 |H8 hl _ e=>rcases e with e|e<;>(subst e;exact⟨hl,rfl,rfl,rfl,rfl⟩)
theorem oo.not{m m':Mem}{q:aW}{r:ag}(h:oo m q r m' false):m'=m/\(r.k=3\/r.k=4\/q.s=m.sq q.c.toNat/\r=m.sd q.c.toNat):=by
 cases h with
 |red h=>exact⟨rfl,.inl h⟩
 |old h=>exact⟨rfl,.inr (.inl h)⟩
 |same _ hs e=>exact⟨rfl,.inr (.inr ⟨hs,e⟩)⟩
theorem Mem.Vn(m:Mem)(r:ag)(i:Nat):(m.put r).sq i=(if i=r.c.toNat then r.s else m.sq i)/\(m.put r).sd i=if i=r.c.toNat then r else m.sd i:=⟨rfl,rfl⟩
theorem Mm.facts{k:Int}{l:List (aW×ag)}{m:Mem}{e:List ag}(h:Mm k l m e):(∀i,m.sq i≠0->m.sd i∈e)/\(∀x∈e,∃q,(q,x)∈l/\x.c=q.c/\x.s=q.s/\x.key=q.key)/\(∀x∈e,x.s<=m.sq x.c.toNat/\1<=x.s)/\(e.Pairwise λa b=>a≠b)/\(∀q r,(q,r)∈l->r.k≠3->r.k≠4->r∈e)/\(∀i,0<=m.sq i)/\e.length<=l.length:=by
 induction h with
 |nil=>exact⟨λi h=>absurd rfl h,λ_ h=>(Jbw h).elim,λ_ h=>(Jbw h).elim,.nil,λ_ _ h=>(Jbw h).elim,λ_=>Jfb _,Jb0 _⟩
 | @snoc l m m' e q r b h hq ha ih =>
  obtain⟨i1,i2,i3,i4,i5,i6,i7⟩:=ih;cases b with
  |false =>
   obtain⟨rfl,hr⟩:=ha.not;refine⟨i1,λx hx=>?_,i3,i4,λq' r' hm k3 k4=>?_,i6,by rw[Jc6];exact Nat.le_succ_of_le i7⟩
   .obtain⟨q',a,b⟩:=i2 x hx
    exact⟨q',Jgx _ a,b⟩
   .rcases Jdc.1 hm with a|a
    .exact i5 q' r' a k3 k4
    .rw[Jg6]at a
     cases a
     rcases hr with a|a|⟨a,b⟩
     .exact(k3 a).elim
     .exact(k4 a).elim
     .rw[b];exact i1 _ (by have:=hq.2.1;omega)
  |true =>
   obtain⟨d1,d2,d3,d4,d5⟩:=ha.done;have e1:∀i,m'.sq i=if i=r.c.toNat then r.s else m.sq i:=λi=>congrFun d4 i
   have e2:∀i,m'.sd i=if i=r.c.toNat then r else m.sd i:=λi=>congrFun d5 i
   rw[<-d3,<-d2]at d1;rw[Jb6 (rfl:true=true)];refine⟨λi hi=>?_,λx hx=>?_,λx hx=>?_,?_,λq' r' hm k3 k4=>?_,λi=>?_,by simp;omega⟩
   .rw[e1]at hi
    rw[e2];split
    .simp
    .rename_i ne
     rw[Jb5 ne]at hi;exact Jgx _ (i1 i hi)
   .rcases Jdc.1 hx with a|a
    .obtain⟨q',a,b⟩:=i2 x a
     exact⟨q',Jgx _ a,b⟩
    .rw[Jg6]at a
     subst a;exact⟨q,by simp,d3,d2,by rw[hq.2.2.2.2,hq.2.2.1]⟩
   .rw[e1]
    rcases Jdc.1 hx with a|a
    .have:=i3 x a
     split
     .rename_i e;rw[e]at this;exact⟨by omega,this.2⟩
     .exact this
    .rw[Jg6]at a
     subst a;rw[Jb6 rfl];have:=hq.2.1;omega
   .refine Jgp.2 ⟨i4,by simp,λa ha' b hb=>?_⟩
    rw[Jg6]at hb;subst hb;intro e;subst e;have:=(i3 _ ha').1;omega
   .rcases Jdc.1 hm with a|a
    .exact Jgx _ (i5 q' r' a k3 k4)
    .rw[Jg6]at a
     cases a
     simp
   .rw[e1]
    split
    .have:=hq.2.1;omega
    .exact i6 i
structure oZ(T:List Row)(D:List ag)(k:Int)(m:Mem):Prop where
 t:∀x∈T,x.key=k->m.f=true/\x.val=m.v
 f:m.f=true->∃x∈T,x.key=k
 d:∀x∈D,x.key=k->m.sd x.c.toNat=x/\m.sq x.c.toNat=x.s/\1<=x.s/\0<=x.c/\x.k≠3
 n:∀i:Nat,m.sq i≠0->∃x∈D,x.key=k/\x.c=i
theorem oZ.of{T T':List Row}{D D':List ag}{k:Int}{m:Mem}(h:oZ T D k m)(ht:∀x:Row,x.key=k->(x∈T'↔x∈T))(hd:∀x:ag,x.key=k->(x∈D'↔x∈D)):oZ T' D' k m:=by
 refine⟨λx a b=>h.t x ((ht x b).1 a) b,λq=>?_,λx a b=>h.d x ((hd x b).1 a) b,λi q=>?_⟩
 .obtain⟨x,a,b⟩:=h.f q
  exact⟨x,(ht x b).2 a,b⟩
 .obtain⟨x,a,b,c⟩:=h.n i q
  exact⟨x,(hd x b).2 a,b,c⟩
theorem oZ.rem{T T':List Row}{D:List ag}{k:Int}{m:Mem}(h:oZ T D k m){r:ag}(hk:r.key=k)(hc:0<=r.c)(hs:1<=r.s)(h3:r.k≠3){b:Bool}{v:Int}(ht:(∀x∈T',x.key=k->b=true/\x.val=v)/\(b=true->∃x∈T',x.key=k)):oZ T' (CO D r) k {m.put r with f:=b,v:=v}:=by
 refine⟨ht.1,ht.2,λx hx xk=>?_,λi hi=>?_⟩
 .show(m.put r).sd x.c.toNat=x/\(m.put r).sq x.c.toNat=x.s/\_
  obtain⟨p1,p2⟩:=m.Vn r x.c.toNat;rw[p1,p2];rcases A9.1 hx with rfl|⟨a,ne⟩
  .rw[Jb6 rfl,Jb6 rfl];exact⟨rfl,rfl,hs,hc,h3⟩
  .obtain⟨d1,d2,d3⟩:=h.d x a xk
   have:¬x.c.toNat=r.c.toNat:=λe=>ne ⟨by rw[xk,hk],by omega⟩
   rw[Jb5 this,Jb5 this];exact⟨d1,d2,d3⟩
 .have hi:(m.put r).sq i≠0:=hi
  rw[(m.Vn r i).1]at hi;split at hi
  .rename_i e
   exact⟨r,A9.2 (.inl rfl),hk,by omega⟩
  .rename_i ne
   obtain⟨x,a,b,c⟩:=h.n i hi;exact⟨x,A9.2 (.inr ⟨a,λq=>ne (by rw[<-q.2,c];omega)⟩),b,c⟩
section
variable(A:aI)(n:Nat)(ls:Nat->List MC)
def eZ(g j:Nat):St:=bR A (A.bg g n) ((ls g).take j)
def qI(d src:Nat)(seq:Int)(i:Nat):Bool:=decide ((eZ A n ls d i).I.getD src 0<seq)&&decide ((eZ A n ls d (i+1)).I.getD src 0=seq)
def qJ(d src:Nat)(seq:Int):Option Nat:=((List.range (ls d).length).find? (qI A n ls d src seq)).map (· + 1)
def iF(k:Int)(g i:Nat)(c:MC):List (aW×ag):=if c.kind=1/\c.q.key=k then[(c.q,(A.ap (eZ A n ls g i) c).2)]else[]
def j6(k:Int):Nat->Nat->Nat->List (aW×ag)->List (aW×ag)
 |0,_,_,out=>out
 |h+1,g,i,out=>match(ls g)[i]? with
  |none=>out
  |some c =>
   if own 0 (eZ A n ls g i).M k=g then
    if own 0 (eZ A n ls g (i+1)).M k=g then j6 k h g (i+1) (out++iF A n ls k g i c)
    else if n<=(own 0 (eZ A n ls g (i+1)).M k).toNat then out++iF A n ls k g i c
    else match qJ A n ls (own 0 (eZ A n ls g (i+1)).M k).toNat g (aP (eZ A n ls g i).O (own 0 (eZ A n ls g (i+1)).M k).toNat).1 with
     |none=>out++iF A n ls k g i c
     |some a=>j6 k h (own 0 (eZ A n ls g (i+1)).M k).toNat a (out++iF A n ls k g i c)
   else j6 k h g (i+1) out
inductive Fw(k:Int):Nat->Nat->Nat->List (aW×ag)->Prop
 |nil:Fw k 0 0 0 []
 |stay {h g i:Nat} {out:List (aW×ag)} {c:MC} (w:Fw k h g i out) (hc:(ls g)[i]?=some c) (e:own 0 (eZ A n ls g i).M k=g) (t:own 0 (eZ A n ls g (i+1)).M k=g):Fw k (h+1) g (i+1) (out++iF A n ls k g i c)
 |move {h g i:Nat} {out:List (aW×ag)} {c:MC} {d a:Nat} (w:Fw k h g i out) (hc:(ls g)[i]?=some c) (e:own 0 (eZ A n ls g i).M k=g) (t:own 0 (eZ A n ls g (i+1)).M k=d) (ne:d≠g) (hd:d<n) (ca:qJ A n ls d g (aP (eZ A n ls g i).O d).1=some a):Fw k (h+1) d a (out++iF A n ls k g i c)
end
section
variable{A:aI}{n:Nat}{ls ls':Nat->List MC}{k:Int}
theorem Fw.j6{h g i:Nat}{out:List (aW×ag)}(w:Fw A n ls k h g i out):∀m,Go.Proofs.YtignemioillaiabGreat.j6 A n ls k (m+h) 0 0 []=Go.Proofs.YtignemioillaiabGreat.j6 A n ls k m g i out:=by
 induction w with
 |nil=>exact λ_=>rfl
 | @stay h g i out c w hc e t ih =>
  intro m;rw[show m+(h+1)=(m+1)+h by omega,ih (m+1)];show(match(ls g)[i]? with|none=>_|some c=>_)=_;rw[hc];show(if _ then _ else _)=_;rw[Jb6 e,Jb6 t]
 | @move h g i out c d a w hc e t ne hd ca ih =>
  intro m;rw[show m+(h+1)=(m+1)+h by omega,ih (m+1)];show(match(ls g)[i]? with|none=>_|some c=>_)=_;rw[hc];show(if _ then _ else _)=_;rw[Jb6 e,Jb5 (by rw[t];omega)];rw[t,Jfa,Jb5 (by omega),ca]
def Pre(n:Nat)(ls ls':Nat->List MC):Prop:=∀g,g<n->∃m,ls' g=ls g++m
theorem Pre.at(h:Pre n ls ls'){g i:Nat}(hg:g<n){c:MC}(hc:(ls g)[i]?=some c):(ls' g)[i]?=some c:=by
 obtain⟨m,e⟩:=h g hg;rw[e,Jc8 (Jcn.1 hc).1];exact hc
theorem Pre.st(h:Pre n ls ls'){g j:Nat}(hg:g<n)(hj:j<=(ls g).length):eZ A n ls' g j=eZ A n ls g j:=by
 obtain⟨m,e⟩:=h g hg;unfold eZ;rw[e,Jd3 hj]
theorem Pre.len(h:Pre n ls ls'){g:Nat}(hg:g<n):(ls g).length<=(ls' g).length:=by
 obtain⟨m,e⟩:=h g hg;rw[e,Jc6];omega
theorem find_range{p p':Nat->Bool}{a:Nat}:∀{x y:Nat},x<=y->(∀i,i<x->p' i=p i)->(List.range x).find? p=some a->(List.range y).find? p'=some a:=by
 intro x y h hp hf;obtain⟨z,rfl⟩:∃z,y=x+z:=⟨y-x,by omega⟩;have e:(List.range x).find? p'=(List.range x).find? p:=by
  have:∀(l:List Nat),(∀i∈l,p' i=p i)->l.find? p'=l.find? p:=λl=>by
   induction l with
   |nil=>exact λ_=>rfl
   |cons b l ih =>
    intro hl;rw[find?_cons,find?_cons,hl b (by simp),ih λi hi=>hl i (by simp[hi])]
  exact this _ λi hi=>hp i (Jc3.1 hi)
 rw[List.range_add,List.find?_append,e,hf];rfl
theorem Pre.came(h:Pre n ls ls'){d src a:Nat}{seq:Int}(hd:d<n)(hc:qJ A n ls d src seq=some a):qJ A n ls' d src seq=some a:=by
 unfold qJ at hc |-;obtain⟨i,hi,rfl⟩:=Jbk.1 hc;rw[find_range (h.len hd) (λi lt=>?_) hi]
 .rfl
 .unfold qI
  rw[h.st hd (Jft lt),h.st hd lt]
theorem Pre.out(h:Pre n ls ls'){g i:Nat}(hg:g<n)(hi:i<=(ls g).length)(c:MC):iF A n ls' k g i c=iF A n ls k g i c:=by unfold iF;rw[h.st hg hi]
theorem Fw.lt{h g i:Nat}{out:List (aW×ag)}(h0:0<n)(w:Fw A n ls k h g i out):g<n/\i<=(ls g).length:=by
 induction w with
 |nil=>exact⟨h0,Jcm _⟩
 |stay w hc e t ih=>exact⟨ih.1,(Jcn.1 hc).1⟩
 |move w hc e t ne hd ca ih =>
  refine⟨hd,?_⟩;unfold qJ at ca;obtain⟨i,hi,rfl⟩:=Jbk.1 ca;exact Jc3.1 (Jfd hi)
theorem Fw.mono(h0:0<n)(hp:Pre n ls ls'){h g i:Nat}{out:List (aW×ag)}(w:Fw A n ls k h g i out):Fw A n ls' k h g i out:=by
 induction w with
 |nil=>exact .nil
 | @stay h g i out c w hc e t ih =>
  obtain⟨g1,g2⟩:=w.lt h0;have lt:=(Jcn.1 hc).1;rw[<-hp.out g1 g2];rw[<-hp.st g1 g2]at e;rw[<-hp.st g1 lt]at t;exact .stay ih (hp.at g1 hc) e t
 | @move h g i out c d a w hc e t ne hd ca ih =>
  obtain⟨g1,g2⟩:=w.lt h0;have lt:=(Jcn.1 hc).1;have ca:=hp.came hd ca;rw[<-hp.out g1 g2];rw[<-hp.st g1 g2]at e ca;rw[<-hp.st g1 lt]at t;exact .move ih (hp.at g1 hc) e t ne hd ca
theorem wE{g i:Nat}{c:MC}{x:aW×ag}(h:x∈iF A n ls k g i c):c.kind=1/\c.q.key=k/\x.1=c.q:=by
 unfold iF at h;split at h
 .rename_i e
  rw[Jg6]at h;rw[h];exact⟨e.1,e.2,rfl⟩
 .cases h
theorem Fw.mem{h g i:Nat}{out:List (aW×ag)}(h0:0<n)(w:Fw A n ls k h g i out):∀x∈out,∃g' c,g'<n/\c∈ls g'/\c.kind=1/\x.1=c.q:=by
 induction w with
 |nil=>exact λ_ h=>(Jbw h).elim
 |stay w hc e t ih =>
  intro x hx;rcases Jdc.1 hx with q|q
  .exact ih x q
  .exact⟨_,_,(w.lt h0).1,Jcv hc,(wE q).1,(wE q).2.2⟩
 |move w hc e t ne hd ca ih =>
  intro x hx;rcases Jdc.1 hx with q|q
  .exact ih x q
  .exact⟨_,_,(w.lt h0).1,Jcv hc,(wE q).1,(wE q).2.2⟩
theorem zJ:∀(h g i:Nat) (out:List (aW×ag)),∃m,Go.Proofs.YtignemioillaiabGreat.j6 A n ls k h g i out=out++m
 |0,_,_,out=>⟨[],(Jc1 _).symm⟩
 |h+1,g,i,out=>by
  unfold Go.Proofs.YtignemioillaiabGreat.j6;split
  .exact⟨[],(Jc1 _).symm⟩
  .rename_i c hc
   split
   .split
    .obtain⟨m,e⟩:=zJ h g (i+1) (out++iF A n ls k g i c)
     exact⟨_,e.trans (Jd4 _ _ _)⟩
    .split
     .exact⟨_,rfl⟩
     .split
      .exact⟨_,rfl⟩
      .obtain⟨m,e⟩:=zJ h (own 0 (eZ A n ls g (i+1)).M k).toNat _ (out++iF A n ls k g i c)
       exact⟨_,e.trans (Jd4 _ _ _)⟩
   .exact zJ h g (i+1) out
end
end
