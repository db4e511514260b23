/- Lemmas. -/
import Derived.Test.YtignemioillaiabGreatG36
namespace Go.Proofs.YtignemioillaiabGreat
set_option maxHeartbeats 8000000
set_option maxRecDepth 100000
open List
section
open Go Go.Conc
theorem yH{α:Type}{P:α->Bool}{l:List α}(h:∀x∈l,P x=true):l.filter P=l:=filter_eq_self.2 h
theorem sS{α:Type}{P:α->Bool}{l:List α}(h:∀x∈l,P x=false):l.filter P=[]:=by
 rw[filter_eq_nil_iff];intro x hx;rw[h x hx];simp
theorem UG{α:Type}{f:α->Int}:∀{l:List α},Au f l->l.take (dM f l)=l.filter (λx=>decide (f x<0))/\l.drop (dM f l)=l.filter (λx=>decide (0<=f x)):=by
 intro l h;obtain⟨h1,h2⟩:=ry f l h;have a1:∀x∈l.take (dM f l),f x<0:=by
  intro x hx;obtain⟨t,ht,rfl⟩:=Jga hx;rw[Jd6]at ht;exact h1 t _ (by omega) (by rw[getElem_take];exact Jcc (by omega))
 have a2:∀x∈l.drop (dM f l),0<=f x:=by
  intro x hx;obtain⟨t,ht,rfl⟩:=Jga hx;exact h2 (dM f l+t) _ (by omega) (by rw[getElem_drop];exact Jcc _)
 constructor
 .conv=>rhs;rw[<-Jgk (dM f l) l]
  rw[Jfh,yH (λx hx=>by simpa using a1 x hx),sS (λx hx=>by have:=a2 x hx;simp;omega),Jc1]
 .conv=>rhs;rw[<-Jgk (dM f l) l]
  rw[Jfh,sS (λx hx=>by have:=a1 x hx;simp;omega),yH (λx hx=>by simpa using a2 x hx),nil_append]
theorem MW{α:Type}{f:α->Int}{l:List α}{q:α}(h:Au f l)(hu:∀(i j:Nat) (x y:α),i<j->l[i]?=some x->l[j]?=some y->0<=f x->0<f y) :
 (if mU f l then l.set (dM f l) q else pV l (dM f l) q)=l.filter (λx=>decide (f x<0))++q::l.filter (λx=>decide (0<f x)):=by
 obtain⟨t1,t2⟩:=UG h;cases hh:mU f l with
 |true =>
  obtain⟨x,hx,h0⟩:=sK hh;have hlt:=(Jcn.1 hx).1;have e2:l.drop (dM f l+1)=l.filter (λx=>decide (0<f x)):=by
   have d:l.drop (dM f l)=x::l.drop (dM f l+1):=by
    rw[Jch hlt,(Jcn.1 hx).2]
   have a:∀y∈l.drop (dM f l+1),0<f y:=by
    intro y hy;obtain⟨t,ht,rfl⟩:=Jga hy;exact hu (dM f l) (dM f l+1+t) x _ (by omega) hx (by rw[getElem_drop];exact Jcc _) (by omega)
   have b:∀y∈l.take (dM f l),f y<0:=by
    intro y hy;rw[t1]at hy;simpa using(mem_filter.1 hy).2
   conv=>rhs;rw[<-Jgk (dM f l) l,d]
   rw[Jfh,filter_cons,sS (λy hy=>by have:=b y hy;simp;omega),yH (λy hy=>by simpa using a y hy),h0];simp
  rw[Jb6 rfl,Jck,Jb6 hlt,t1,e2]
 |false =>
  have e2:l.drop (dM f l)=l.filter (λx=>decide (0<f x)):=by
   rw[t2];apply filter_congr
   intro x hx;obtain⟨t,ht,rfl⟩:=Jga hx;obtain⟨h1,h2⟩:=ry f l h;by_cases hz:f l[t]=0
   .exfalso
    have hge:dM f l<=t:=by
     rcases Nat.lt_or_ge t (dM f l)with hlt|hge
     .have:=h1 t _ hlt (Jcc ht);omega
     .exact hge
    have hp:dM f l<l.length:=by omega
    have hy:=Jcc hp;have h0:=h2 _ _ (Jb0 _) hy;have hnz:f l[dM f l]≠0:=by
     intro e;unfold mU at hh;rw[hy]at hh;simp[e]at hh
    rcases Jg9 hge with hlt|heq
    .have:=hu (dM f l) t _ _ hlt hy (Jcc ht) h0
     omega
    .exact hnz (by simpa[heq]using hz)
   .by_cases hp:0<=f l[t]
    .have:0<f l[t]:=by omega
     simp[hp,this]
    .have:¬0<f l[t]:=by omega
     simp[hp,this]
  rw[Jb5 (by simp),pV,t1,e2]
theorem IL{T:List Row}(h:fT T)(key:Int):∀(i j:Nat) (x y:Row),i<j->T[i]?=some x->T[j]?=some y->0<=gQ x.key key->0<gQ y.key key:=by
 intro i j x y hij hx hy h0;have:=nJ h hij hx hy;have a:¬gQ x.key key<0:=by omega
 rw[wz]at a;have b:¬gQ y.key key<0:=by rw[wz];omega
 have c:gQ y.key key≠0:=by rw[Ne,jq];omega
 omega
theorem Pv{D:List ag}(h:iM D)(q:ag):∀(i j:Nat) (x y:ag),i<j->D[i]?=some x->D[j]?=some y->0<=jC x q->0<jC y q:=by
 intro i j x y hij hx hy h0;have:=nJ h hij hx hy;have a:¬jC x q<0:=by omega
 rw[Dz]at a;have b:¬jC y q<0:=by rw[Dz];omega
 have c:jC y q≠0:=by rw[Ne,IJ];omega
 omega
theorem IM{a b:Int}:0<gQ a b↔b<a:=by
 unfold gQ;split
 .simp;omega
 .split<;>omega
theorem aao{a b:ag}:0<jC a b↔b.key<a.key\/b.key=a.key/\b.c<a.c:=by
 unfold jC O9;split
 .rename_i h
  rw[jq]at h;rw[IM];omega
 .rename_i h
  rw[jq]at h;rw[IM];omega
theorem oQ{a b:ag}:ahead a b=true↔a.key<b.key\/a.key=b.key/\a.c<b.c:=by simp[ahead]
def CO(D:List ag)(r:ag):List ag:=D.filter (λx=>ahead x r)++r::D.filter (λx=>ahead r x)
theorem AJ{D:List ag}(h:iM D)(r:ag):gH D r=CO D r:=by
 unfold gH CO;rw[MW (Rh h r) (Pv h r)];congr 1
 .apply filter_congr;intro x _
  rw[Bool.eq_iff_iff,oQ,Jgn,Dz]
 .congr 1
  apply filter_congr;intro x _
  rw[Bool.eq_iff_iff,oQ,Jgn,aao]
def IP(T:List Row)(r:Row):List Row:=T.filter (λx=>decide (x.key<r.key))++r::T.filter (λx=>decide (r.key<x.key))
theorem MX{T:List Row}(h:fT T)(key v:Int):(if iV T key then T.set (uT T key) ⟨key,v⟩else pV T (uT T key) ⟨key,v⟩)=IP T ⟨key,v⟩:=by
 unfold IP;rw[MW (Kv h key) (IL h key)];congr 1
 .apply filter_congr;intro x _
  rw[Bool.eq_iff_iff,Jgn,Jgn,wz]
 .congr 1
  apply filter_congr;intro x _
  rw[Bool.eq_iff_iff,Jgn,Jgn,IM]
theorem fT.le{T:List Row}(h:fT T):T.Pairwise (λa b=>a.key<=b.key):=h.imp (λh=>by omega)
theorem iM.le{D:List ag}(h:iM D):D.Pairwise (λa b=>a.key<=b.key):=h.imp (λh=>by omega)
theorem UH{D:List ag}(h:iM D)(r:ag):iM (CO D r):=by
 unfold CO iM;rw[Jgp,Jgq];refine⟨h.sublist Jdp,⟨λx hx=>?_,h.sublist Jdp⟩,λx hx y hy=>?_⟩
 .exact oQ.1 (mem_filter.1 hx).2
 .have a:=oQ.1 (mem_filter.1 hx).2
  rcases Jb3.1 hy with rfl|hy
  .exact a
  .have b:=oQ.1 (mem_filter.1 hy).2
   omega
theorem JV{T:List Row}(h:fT T)(r:Row):fT (IP T r):=by
 unfold IP fT;rw[Jgp,Jgq];refine⟨h.sublist Jdp,⟨λx hx=>?_,h.sublist Jdp⟩,λx hx y hy=>?_⟩
 .simpa using(mem_filter.1 hx).2
 .have a:x.key<r.key:=by simpa using(mem_filter.1 hx).2
  rcases Jb3.1 hy with rfl|hy
  .exact a
  .have b:r.key<y.key:=by simpa using(mem_filter.1 hy).2
   omega
theorem Xl(D:List ag)(r:ag)(h:iM D):(CO D r).length<=D.length+1:=by
 rw[<-AJ h];unfold gH;split
 .simp
 .rw[oP];omega
theorem Rt{α:Type}{f:α->Int}{lo:Int}{l:List α}{x:α}(h:x∈sB f lo l):f x<lo:=by unfold sB at h;simpa using(mem_filter.1 h).2
theorem Ru{α:Type}{f:α->Int}{lo hi:Int}{l:List α}{x:α}(h:x∈sA f lo hi l):hi<f x:=by
 unfold sA at h;have:=(mem_filter.1 h).2;simp at this;exact this.2
theorem MZ:∀{t:List Pc} {p:Pc},u7 p.f p.g t->∀(i:Nat) (x y:Pc),(p::t)[i+1]?=some x->(p::t)[i]?=some y->x.g<4/\y.f<x.f/\y.g≠x.g
 | [],p,_,i,x,y,hx,_=>by simp at hx
 |q::t,p,h,i,x,y,hx,hy=>by
  obtain⟨h1,h2,h3,h4,h5,h6⟩:=h;cases i with
  |zero=>simp at hx hy;subst hx;subst hy;exact⟨h5,h1,h3⟩
  |succ i=>exact MZ h6 i x y (by simpa using hx) (by simpa using hy)
theorem Hd{m:List Pc}(h:Can m)(hl:m.length<=1000):jK m=true:=by
 cases m with
 |nil=>exact h.elim
 |cons p t =>
  obtain⟨h1,h2,h3,h4⟩:=h;have ha:=MZ (p:=p) (t:=t) (by rw[h1];exact h4);unfold jK;simp only[Jdy,Jdr,all_eq_true,Jc3];refine⟨⟨⟨by simp,hl⟩,by simp[h1]⟩,λi hi=>?_⟩;unfold Kq;rw[Jcc hi];cases i with
  |zero=>simp[h3]
  |succ i =>
   obtain⟨a1,a2,a3⟩:=ha i _ _ (Jcc hi) (Jcc (by omega));simp only[Nat.add_sub_cancel];rw[Jcc (by omega)];simp only[Jdy,Jdr,Bool.or_eq_true,Jf8,Jd9];exact⟨a1,.inr ⟨a2,a3⟩⟩
theorem aap{T:List Row}(h:fT T)(key v:Int):fT (jO T key v)/\(jO T key v).length<=T.length+1:=by
 have e:=MX h key v;unfold jO;cases hh:iV T key with
 |true =>
  rw[hh]at e;simp only[Jb8]at e |-;exact⟨e▸JV h _,by simp⟩
 |false =>
  rw[hh]at e;have nf:¬(false=true):=by simp
  rw[Jb5 nf]at e |-;split
  .exact⟨h,by omega⟩
  .exact⟨e▸JV h _,by rw[oP];omega⟩
theorem aaq{T:List Row}(h:fT T)(key:Int):fT (ug T key)/\(ug T key).length<=T.length:=by
 unfold ug;split
 .exact⟨h.sublist (Jdh _ _),(Jdh _ _).length_le⟩
 .exact⟨h,Jb0 _⟩
theorem Pw{D:List ag}(h:iM D)(r:ag):iM (gH D r)/\(gH D r).length<=D.length+1:=by
 rw[AJ h];exact⟨UH h r,Xl D r h⟩
def inL{α:Type}(f:α->Int)(lo hi:Int)(fl:Bool)(l:List α):List α:=l.filter λx=>(decide (lo<=f x)&&decide (f x<=hi))==fl
theorem xY{α:Type}{f:α->Int}{lo hi:Int}(hlh:lo<=hi):∀{l:List α},l.Pairwise (λa b=>f a<=f b)->sB f lo l++sA f lo hi l=inL f lo hi false l
 | [],_=>rfl
 |a::t,h=>by
  obtain⟨h1,h2⟩:=Jgq.1 h;have ih:=xY hlh h2;unfold sB sA inL at ih |-;by_cases c1:f a<lo
  .have e1:¬(lo<=f a):=by omega
   simp only[filter_cons,c1,e1];simpa using ih
  .have nb:sB f lo t=[]:=sS (λx hx=>by have:=h1 x hx;simp;omega)
   unfold sB at nb;rw[nb]at ih;by_cases c2:hi<f a
   .have e2:¬(f a<=hi):=by omega
    have e1:lo<=f a:=by omega
    simp only[filter_cons,c1,c2,e1,e2,nb];simpa using ih
   .have e2:f a<=hi:=by omega
    have e1:lo<=f a:=by omega
    simp only[filter_cons,c1,c2,e1,e2,nb];simpa using ih
theorem DJ{α:Type}{f:α->Int}{lo hi:Int}(hlh:lo<=hi){l:List α}(h:l.Pairwise (λa b=>f a<=f b)):(sB f lo l++sA f lo hi l).length<=l.length:=by
 rw[xY hlh h];exact Jff _ _
theorem acY{B P A:List Row}{lo hi:Int}(hB:∀x∈B,x.key<lo)(hA:∀x∈A,hi<x.key)(hP:∀x∈P,lo<=x.key/\x.key<=hi)(sb:fT B)(sp:fT P)(sa:fT A)(hlh:lo<=hi):fT (B++(P++A)):=by
 unfold fT;rw[Jgp,Jgp];refine⟨sb,⟨sp,sa,λx hx y hy=>?_⟩,λx hx y hy=>?_⟩
 .have:=hP x hx;have:=hA y hy;omega
 .have a:=hB x hx
  rcases Jdc.1 hy with hy|hy
  .have:=hP y hy;omega
  .have:=hA y hy;omega
theorem aar{B P A:List ag}{lo hi:Int}(hB:∀x∈B,x.key<lo)(hA:∀x∈A,hi<x.key)(hP:∀x∈P,lo<=x.key/\x.key<=hi)(sb:iM B)(sp:iM P)(sa:iM A)(hlh:lo<=hi):iM (B++(P++A)):=by
 unfold iM;rw[Jgp,Jgp];refine⟨sb,⟨sp,sa,λx hx y hy=>?_⟩,λx hx y hy=>?_⟩
 .have:=hP x hx;have:=hA y hy;omega
 .have a:=hB x hx
  rcases Jdc.1 hy with hy|hy
  .have:=hP y hy;omega
  .have:=hA y hy;omega
theorem xg{α:Type}{l:List α}{i:Nat}{a x:α}(h:x∈l.set i a):x=a\/x∈l:=by
 rcases mem_or_eq_of_mem_set h with h|h
 .exact .inr h
 .exact .inl h
theorem AL{α:Type}{R:α->α->Prop}(tr:∀a b c,R a b->R b c->R a c):∀{l:List α},(∀(i:Nat) (x y:α),l[i]?=some x->l[i+1]?=some y->R x y)->l.Pairwise R
 | [],_=>Pairwise.nil
 |a::t,h=>by
  have ht:t.Pairwise R:=AL tr (λi x y hx hy=>h (i+1) x y (by simpa using hx) (by simpa using hy));refine Jgq.2 ⟨λy hy=>?_,ht⟩;obtain⟨j,hj,rfl⟩:=Jga hy;have h0:R a t[0]:=h 0 a _ rfl (by simp);cases j with
  |zero=>exact h0
  |succ j=>exact tr _ _ _ h0 (pairwise_iff_getElem.1 ht 0 (j+1) (by omega) hj (by omega))
theorem yI{α:Type}{f:α->Bool}{lt:α->α->Bool}{l:List α}(h:kr f lt l=true):(∀(i:Nat) (x y:α),l[i]?=some x->l[i+1]?=some y->lt x y=true)/\(∀x∈l,f x=true)/\l.length<=255:=by
 unfold kr at h;simp only[Jdy,Jdr,all_eq_true,Jc3]at h;refine⟨λi x y hx hy=>?_,λx hx=>?_,h.1⟩
 .have:=h.2 (i+1) (Jcn.1 hy).1
  unfold xU at this;rw[hy]at this;simp[hx]at this;exact this.2
 .obtain⟨j,hj,rfl⟩:=Jga hx
  have:=h.2 j hj;unfold xU at this;rw[Jcc hj]at this;simp at this;exact this.1
theorem yJ{r:Rg}(h:Dy r=true):fT r.rows/\(∀x∈r.rows,r.lo<=x.key/\x.key<=r.hi)/\r.rows.length<=255:=by
 obtain⟨h1,h2,h3⟩:=yI h;exact⟨AL (λa b c h1 h2=>by omega) (λi x y hx hy=>by simpa using h1 i x y hx hy),λx hx=>by simpa[GR]using h2 x hx,h3⟩
theorem uC{r:Rg}(h:Aq r=true):iM r.aX/\(∀x∈r.aX,r.lo<=x.key/\x.key<=r.hi)/\r.aX.length<=255:=by
 obtain⟨h1,h2,h3⟩:=yI h;exact⟨AL (λa b c h1 h2=>by omega) (λi x y hx hy=>oQ.1 (h1 i x y hx hy)),λx hx=>by have:=h2 x hx;simp[GR]at this;exact this.2.2,h3⟩
section
variable{Λ:aB}{w0 w:World}{b:Nat}{s:St}
theorem Sk.M0(h:Sk Λ w0 b s w){w1 w2 w3:World}{b1 b2 b3:Nat}{o1 o2 o3:Obj}(g1:GB none w w1)(m1:w1.heap[b1]?=some o1)(l1:w.heap.size<=b1)(g2:GB none w1 w2)(m2:w2.heap[b2]?=some o2)(l2:w1.heap.size<=b2)(g3:GB none w2 w3)(m3:w3.heap[b3]?=some o3)(l3:w2.heap.size<=b3):Sk (((Λ.add b1 o1).add b2 o2).add b3 o3) w0 b s w3/\b1≠b2/\b1≠b3/\b2≠b3/\(Λ b1=none/\Λ b2=none/\Λ b3=none)/\w0.heap.size<=b1/\w0.heap.size<=b2/\w0.heap.size<=b3:=by
 have hs:=h.sz;obtain⟨h1,u1⟩:=h.box g1 m1 l1;obtain⟨h2,u2⟩:=h1.box g2 m2 l2;obtain⟨h3,u3⟩:=h2.box g3 m3 l3;have k1:=ae m1;have k2:=ae m2;have e1:=g1.size;have e2:=g2.size;have e3:=g3.size;have n12:b1≠b2:=by omega
 have n13:b1≠b3:=by omega
 have n23:b2≠b3:=by omega
 rw[aB.ne n12.symm]at u2;rw[aB.ne n23.symm,aB.ne n13.symm]at u3;exact⟨h3,n12,n13,n23,⟨u1,u2,u3⟩,by omega,by omega,by omega⟩
theorem M3{Λ:aB}{b1 b2 b3:Nat}(hu:Λ b1=none/\Λ b2=none/\Λ b3=none):∀x o,Λ x=some o->x≠b1/\x≠b2/\x≠b3:=by
 intro x o hx;refine⟨λe=>?_,λe=>?_,λe=>?_⟩
 .rw[e,hu.1]at hx;cases hx
 .rw[e,hu.2.1]at hx;cases hx
 .rw[e,hu.2.2]at hx;cases hx
theorem Om(h:Sk Λ w0 b s w)(hk:sP s)(hz:Fq s){q:aW}(h0:0<=q.key)(h1:q.key<=q.hi)(h2:q.hi<=18446744073709551615)(h3:0<=q.to)(p:ag):CY 162 #[Ptt b,.agg q.cells.toArray,.agg p.cells.toArray] w (λv w'=>v=.agg (AB s q p).2.cells.toArray/\Sk Λ w0 b (AB s q p).1 w'):=by
 refine aj Tryz.func162 rfl rfl ?_;refine λw1 b1 m1 g1 l1 w2 b2 m2 g2 l2 w3 b3 m3 g3 l3=>?_
 obtain⟨h,n12,n13,n23,hu,q1,q2,q3⟩:=h.M0 g1 m1 l1 g2 m2 l2 g3 m3 l3;have a1:=h.g (x:=b1) (by rw[aB.ne n13,aB.ne n12,aB.eq]);obtain⟨T,M,D,O,I,ls,hw⟩:=h;refine⟨_,_,a1,q.cells,rfl,rfl,_,UD hw hk h0 h1 h2 h3,?_⟩;rintro _ w4 ⟨g4,va,vn,vc,rfl,hP⟩;have uM:∀x,gP s q=true->(Value.slice va vn vc).ownBlock=some x->_:=λx hf hx=>hw.rU ((hP hf).new x hx)
 have hgb:=hw.gb;have h:Sk (((Λ.add b1 _).add b2 _).add b3 _) w0 b s w4:=⟨T,M,D,O,I,ls,hw.ay g4⟩;clear m1 g1 l1 m2 g2 l2 m3 g3 l3 a1;unfold AB;obtain⟨f,hf⟩:∃f,gP s q=f:=⟨_,rfl⟩;rw[hf]at hP uM |-;have a2:=h.g (x:=b2) (by rw[aB.ne n23,aB.eq]);cases f
 .refine⟨_,_,_,a2,rfl,rfl,λw5 m5 g5=>?_⟩
  replace m5:Hl w5 b2 (ag.cells {p with k:=5}) 70:=m5;replace h:=h.over (by rw[aB.ne n23,aB.eq]) g5 m5 q2;refine⟨_,_,m5,ag.cells {p with k:=5},rfl,rfl,_,qx h hk.sD (Jb1 hz.d (by decide)) {p with k:=5},?_⟩;rintro _ w6 ⟨rfl,h⟩;have m6:=h.g (aB.eq _ b2 _);have m7:=h.g (x:=b3) (by rw[aB.ne n23.symm,aB.eq]);refine⟨_,_,m6,ag.cells {p with k:=5},rfl,rfl,_,_,_,m7,rfl,rfl,λw7 m8 g8=>?_⟩;replace h:=h.over (by rw[aB.ne n23.symm,aB.eq]) g8 m8 q3;refine⟨_,_,m8,ag.cells {p with k:=5},rfl,rfl,rfl,h.weak λx o hx=>?_⟩;obtain⟨e1,e2,e3⟩:=M3 hu x o hx;rw[aB.ne e3,aB.ne e2,aB.ne e3,aB.ne e2,aB.ne e1];exact hx
 .have hP:=hP rfl
  have hto:q.to<s.n/\(aP s.O q.to).2.length<4:=by unfold gP at hf;simp at hf;exact⟨hf.1.1.2,hf.1.2⟩
  have xX:0<(fC s.M q.key q.hi q.to).length:=by
   obtain⟨gc,_⟩:=xN hk.can h0 h1 (by omega) (g:=q.to) ⟨h3,by have:=hk.n4;omega⟩;cases hg:fC s.M q.key q.hi q.to with
   |nil=>rw[hg]at gc;exact gc.elim
   |cons _ _=>exact Nat.succ_pos _
  obtain⟨x,cap,cur,ev,hcx,_,_,_⟩:=j5 hP.own xX;have hxn:=hP.new x (by rw[ev];rfl);have ux:=uM x rfl (by rw[ev];rfl);replace h:Sk ((((Λ.add b1 _).add b2 _).add b3 _).add x _) w0 b s w4:=⟨T,M,D,O,I,ls,hw.box g4 hcx hxn⟩;have nx2:x≠b2:=λe=>by rw[e,aB.ne n23,aB.eq]at ux;cases ux
  have nx3:x≠b3:=λe=>by rw[e,aB.eq]at ux;cases ux
  have YM:x≠b1:=λe=>by rw[e,aB.ne n13,aB.ne n12,aB.eq]at ux;cases ux
  refine⟨_,_,_,a2,rfl,rfl,λw5 m5 g5=>?_⟩;replace m5:Hl w5 b2 (ag.cells {p with k:=2}) 70:=m5;replace h:=h.over (by rw[aB.ne nx2.symm,aB.ne n23,aB.eq]) g5 m5 q2;refine⟨_,_,m5,ag.cells {p with k:=2},rfl,rfl,_,qx h hk.sD (Jb1 hz.d (by decide)) {p with k:=2},?_⟩;rintro _ w6 ⟨rfl,h⟩;have ac0:=Pw hk.sD {p with k:=2};have hlm:aP s.O q.to∈s.O:=by
   unfold aP;have hl:q.to.toNat<s.O.length:=by have:=hk.ol;omega
   rw[Jcc hl];exact getElem_mem hl
  have m6:=h.g (x:=b1) (by rw[aB.ne n12,aB.ne YM.symm,aB.ne n13,aB.ne n12,aB.eq]);refine⟨_,_,m6,q.cells,rfl,rfl,_,Ol h ⟨hk.g0,hk.gn,hk.n4,hk.sT,ac0.1,hk.CJ,hk.can,hk.ol,hk.il⟩ hz.t (by show(gH s.D _).length<=_;have:=ac0.2;have:=hz.d;omega) h3 hto.1 (by show(aP s.O q.to).2.length<=_;omega) (hz.q _ hlm).2,?_⟩;rintro _ w7 ⟨rfl,h⟩;have hx7:=h.g (x:=x) (by rw[aB.ne nx2,aB.eq]);replace h:Sk ((((Λ.add b1 _).add b2 _).add b3 _).add b2 _) w0 b _ w7:=h.weak λy o hy=>by
   by_cases e2:y=b2
   .subst e2;rw[aB.eq]at hy |-;exact hy
   .rw[aB.ne e2]at hy |-
    have ex:y≠x:=λe=>by rw[e]at hy;rw[ux]at hy;cases hy
    rw[aB.ne ex];exact hy
  obtain⟨T,M',D,O,I,ls,hw'⟩:=h;have PM:PN w0 w7 (.slice va vn vc) (fC s.M q.key q.hi q.to):=⟨ax hP.own λy hy=>by
   rw[ev]at hy;obtain rfl:x=y:=by simpa[Value.ownBlock]using hy
   rw[hx7,hcx],hw'.gb,λy hy=>Jb1 hgb.size (hP.new y hy)⟩
  refine⟨_,_,_,hw'.mem,rfl,rfl,λw8 m8 g8=>?_⟩;have h:Sk ((((Λ.add b1 _).add b2 _).add b3 _).add b2 _) w0 b {DI {s with D:=gH s.D {p with k:=2} } q with M:=fC s.M q.key q.hi q.to} w8:=⟨_,_,_,_,_,_,hw'.acT PM (λy hy=>by
   have hy':=hy;rw[ev]at hy';obtain rfl:x=y:=by simpa[Value.ownBlock]using hy'
   rw[aB.ne nx2];exact ux) m8 g8⟩
  have m9:=h.g (aB.eq _ b2 _);have m10:=h.g (x:=b3) (by rw[aB.ne n23.symm,aB.eq]);refine⟨_,_,m9,ag.cells {p with k:=2},rfl,rfl,_,_,_,m10,rfl,rfl,λw9 m11 g11=>?_⟩;replace h:=h.over (by rw[aB.ne n23.symm,aB.eq]) g11 m11 q3;refine⟨_,_,m11,ag.cells {p with k:=2},rfl,rfl,rfl,h.weak λy o hy=>?_⟩;obtain⟨e1,e2,e3⟩:=M3 hu y o hy;rw[aB.ne e3,aB.ne e2,aB.ne e3,aB.ne e2,aB.ne e1];exact hy
end
structure aW.wfi(q:aW):Prop where
 key:0<=q.key/\q.key<=18446744073709551615
 hi:0<=q.hi/\q.hi<=18446744073709551615
 to:0<=q.to
theorem YN{q:aW}(h:fV q=true):q.k=1\/q.k=2\/q.k=3\/q.k=4/\q.key<=q.hi/\q.to<4:=by
 unfold fV at h;simp only[Jdy]at h;obtain⟨_,h⟩:=h;split at h
 .rename_i k;omega
 split at h
 .rename_i k;omega
 split at h
 .rename_i k
  simp at h;exact .inr (.inr (.inr ⟨k,h.1,h.2.1⟩))
 .cases h
theorem aas{s:St}{q:aW}(hk:sP s)(hz:Fq s)(h4:q.k=4)(h3:0<=q.to):AB s q (lX q)=(fP s q,dN s q):=by
 unfold AB fP dN;rw[h4];by_cases hf:gP s q=true
 .have hto:q.to<s.n:=by unfold gP at hf;simp at hf;exact hf.1.1.2
  have hlm:aP s.O q.to∈s.O:=by
   unfold aP;have hl:q.to.toNat<s.O.length:=by have:=hk.ol;omega
   rw[Jcc hl];exact getElem_mem hl
  have hq:=(hz.q _ hlm).2;simp only[hf,Jb8];unfold acr DI;rw[wrap_u32 (by omega)];rfl
 .simp only[hf]
  rfl
theorem aB.twice(Λ:aB)(b:Nat)(o o':Obj):(Λ.add b o).add b o'=Λ.add b o':=by
 funext y
 unfold aB.add;split<;>rfl
section
variable{Λ:aB}{w0 w:World}{b:Nat}{s:St}
theorem UI(h:Sk Λ w0 b s w)(hk:sP s)(hz:Fq s){q:aW}(hq:fV q=true)(hw:q.wfi):CY 102 #[Ptt b,.agg q.cells.toArray,.agg (lX q).cells.toArray] w (λv w'=>v=.agg (dN s q).cells.toArray/\Sk Λ w0 b (fP s q) w'):=by
 have hkk:=YN hq;have fin:∀{b1 b2 b3:Nat} {o1 o2 o3:Obj} {p:ag} {s':St} {w9:World},(b1≠b2/\b1≠b3/\b2≠b3)->(Λ b1=none/\Λ b2=none/\Λ b3=none)->w0.heap.size<=b3->∀{c:Array Value} {t:Nat},o3=.cells c t->Sk ((((Λ.add b1 o1).add b2 o2).add b3 o3).add b2 (.cells p.cells.toArray 70)) w0 b s' w9->Hl w9 b2 p.cells 70/\w9.heap[b3]?=some o3/\∀(qi:World) (m:Hl qi b3 p.cells 70) (g:GB (some b3) w9 qi),Sk Λ w0 b s' qi:=by
  rintro b1 b2 b3 o1 o2 o3 p s' w9 ⟨n12,n13,n23⟩ hu q3 c t rfl h;refine⟨h.g (aB.eq _ b2 _),h.g (by rw[aB.ne n23.symm,aB.eq]),λqi m g=>?_⟩;refine(h.over (by rw[aB.ne n23.symm,aB.eq]) g m q3).weak λx o hx=>?_
  obtain⟨e1,e2,e3⟩:=M3 hu x o hx;rw[aB.ne e3,aB.ne e2,aB.ne e3,aB.ne e2,aB.ne e1];exact hx
 obtain⟨c,sq,k,key,val,hi,to⟩:=q;obtain⟨hw1,hw2,hw3⟩:=hw;dsimp only at hkk hw1 hw2 hw3;rcases hkk with rfl|rfl|rfl|⟨rfl,hlh,hto⟩
 .have eP:dN s ⟨c,sq,1,key,val,hi,to⟩=⟨c,sq,key,1,iV s.T key,oN s.T key,0⟩:=by simp[dN]
  have eS:fP s ⟨c,sq,1,key,val,hi,to⟩={s with D:=gH s.D ⟨c,sq,key,1,iV s.T key,oN s.T key,0⟩}:=by simp[fP,eP]
  rw[eP,eS];refine aj Tryz.func102 rfl rfl ?_;refine λw1 b1 m1 g1 l1 w2 b2 m2 g2 l2 w3 b3 m3 g3 l3=>?_
  obtain⟨h,n12,n13,n23,hu,q1,q2,q3⟩:=h.M0 g1 m1 l1 g2 m2 l2 g3 m3 l3;have a1:=h.g (x:=b1) (by rw[aB.ne n13,aB.ne n12,aB.eq]);have a2:=h.g (x:=b2) (by rw[aB.ne n23,aB.eq]);clear m1 g1 l1 m2 g2 l2 m3 g3 l3;refine⟨_,_,a1,_,rfl,_,_,_,a2,rfl,rfl,λw4 m4 g4=>?_⟩;replace h:=h.over (by rw[aB.ne n23,aB.eq]) g4 m4 q2;have a1:=h.g (x:=b1) (by rw[aB.ne n12,aB.ne n13,aB.ne n12,aB.eq]);obtain⟨T,M,D,O,I,ls,hw⟩:=h;refine⟨_,_,a1,.int .u64 key,rfl,_,acM hw.mem hw.sa.t.fz (Jb1 hz.t (by decide)) hk.sT key,?_⟩;rintro _ w5 ⟨rfl,g5⟩;have h:Sk ((((Λ.add b1 _).add b2 _).add b3 _).add b2 _) w0 b s w5:=⟨_,_,_,_,_,_,hw.ay g5⟩;refine⟨_,_,_,g5.get m4 nofun,rfl,rfl,λw6 m6 g6=>?_⟩;replace h:=h.over (aB.eq _ b2 _) g6 m6 q2;refine⟨_,_,_,m6,rfl,rfl,λw7 m7 g7=>?_⟩;replace h:=h.over (aB.eq _ b2 _) g7 m7 q2;rw[aB.twice,aB.twice]at h;replace h:Sk ((((Λ.add b1 _).add b2 _).add b3 _).add b2 (.cells (ag.cells ⟨c,sq,key,1,iV s.T key,oN s.T key,0⟩).toArray 70)) w0 b s w7:=h;replace m7:Hl w7 b2 (ag.cells ⟨c,sq,key,1,iV s.T key,oN s.T key,0⟩) 70:=m7;refine⟨_,_,m7,ag.cells ⟨c,sq,key,1,iV s.T key,oN s.T key,0⟩,rfl,rfl,_,qx h hk.sD (Jb1 hz.d (by decide)) ⟨c,sq,key,1,iV s.T key,oN s.T key,0⟩,?_⟩;rintro _ w8 ⟨rfl,h⟩;obtain⟨m8,m9,hf⟩:=fin ⟨n12,n13,n23⟩ hu q3 rfl h;exact⟨_,_,m8,ag.cells ⟨c,sq,key,1,iV s.T key,oN s.T key,0⟩,rfl,rfl,_,_,_,m9,rfl,rfl,λw9 m10 g10=>⟨_,_,m10,ag.cells ⟨c,sq,key,1,iV s.T key,oN s.T key,0⟩,rfl,rfl,rfl,hf w9 m10 g10⟩⟩
 .have eP:dN s ⟨c,sq,2,key,val,hi,to⟩=⟨c,sq,key,jD s.T key,false,0,0⟩:=by simp[dN]
  have eS:fP s ⟨c,sq,2,key,val,hi,to⟩={s with T:=jO s.T key val,D:=gH s.D ⟨c,sq,key,jD s.T key,false,0,0⟩}:=by simp[fP,eP]
  rw[eP,eS];refine aj Tryz.func102 rfl rfl ?_;refine λw1 b1 m1 g1 l1 w2 b2 m2 g2 l2 w3 b3 m3 g3 l3=>?_
  obtain⟨h,n12,n13,n23,hu,q1,q2,q3⟩:=h.M0 g1 m1 l1 g2 m2 l2 g3 m3 l3;have a1:=h.g (x:=b1) (by rw[aB.ne n13,aB.ne n12,aB.eq]);have a2:=h.g (x:=b2) (by rw[aB.ne n23,aB.eq]);clear m1 g1 l1 m2 g2 l2 m3 g3 l3;refine⟨_,_,a1,_,rfl,_,_,a1,.int .u64 key,rfl,_,_,a1,.int .u64 val,rfl,_,acU h hk.sT hz.t key val,?_⟩;rintro _ w5 ⟨rfl,h⟩;have a2:=h.g (x:=b2) (by rw[aB.ne n23,aB.eq]);refine⟨_,_,_,a2,rfl,rfl,λw7 m7 g7=>?_⟩;replace h:=h.over (by rw[aB.ne n23,aB.eq]) g7 m7 q2;replace h:Sk ((((Λ.add b1 _).add b2 _).add b3 _).add b2 (.cells (ag.cells ⟨c,sq,key,jD s.T key,false,0,0⟩).toArray 70)) w0 b {s with T:=jO s.T key val} w7:=h;replace m7:Hl w7 b2 (ag.cells ⟨c,sq,key,jD s.T key,false,0,0⟩) 70:=m7;refine⟨_,_,m7,ag.cells ⟨c,sq,key,jD s.T key,false,0,0⟩,rfl,rfl,_,qx h hk.sD (Jb1 hz.d (by decide)) ⟨c,sq,key,jD s.T key,false,0,0⟩,?_⟩;rintro _ w8 ⟨rfl,h⟩;obtain⟨m8,m9,hf⟩:=fin ⟨n12,n13,n23⟩ hu q3 rfl h;exact⟨_,_,m8,ag.cells ⟨c,sq,key,jD s.T key,false,0,0⟩,rfl,rfl,_,_,_,m9,rfl,rfl,λw9 m10 g10=>⟨_,_,m10,ag.cells ⟨c,sq,key,jD s.T key,false,0,0⟩,rfl,rfl,rfl,hf w9 m10 g10⟩⟩
 .have eP:dN s ⟨c,sq,3,key,val,hi,to⟩=⟨c,sq,key,2,false,0,0⟩:=by simp[dN]
  have eS:fP s ⟨c,sq,3,key,val,hi,to⟩={s with T:=ug s.T key,D:=gH s.D ⟨c,sq,key,2,false,0,0⟩}:=by simp[fP,eP]
  rw[eP,eS];refine aj Tryz.func102 rfl rfl ?_;refine λw1 b1 m1 g1 l1 w2 b2 m2 g2 l2 w3 b3 m3 g3 l3=>?_
  obtain⟨h,n12,n13,n23,hu,q1,q2,q3⟩:=h.M0 g1 m1 l1 g2 m2 l2 g3 m3 l3;have a1:=h.g (x:=b1) (by rw[aB.ne n13,aB.ne n12,aB.eq]);have a2:=h.g (x:=b2) (by rw[aB.ne n23,aB.eq]);clear m1 g1 l1 m2 g2 l2 m3 g3 l3;refine⟨_,_,a1,_,rfl,_,_,a1,.int .u64 key,rfl,_,UC h hk.sT hz.t key,?_⟩;rintro _ w5 ⟨rfl,h⟩;have a2:=h.g (x:=b2) (by rw[aB.ne n23,aB.eq]);refine⟨_,_,_,a2,rfl,rfl,λw7 m7 g7=>?_⟩;replace h:=h.over (by rw[aB.ne n23,aB.eq]) g7 m7 q2;replace h:Sk ((((Λ.add b1 _).add b2 _).add b3 _).add b2 (.cells (ag.cells ⟨c,sq,key,2,false,0,0⟩).toArray 70)) w0 b {s with T:=ug s.T key} w7:=h;replace m7:Hl w7 b2 (ag.cells ⟨c,sq,key,2,false,0,0⟩) 70:=m7;refine⟨_,_,m7,ag.cells ⟨c,sq,key,2,false,0,0⟩,rfl,rfl,_,qx h hk.sD (Jb1 hz.d (by decide)) ⟨c,sq,key,2,false,0,0⟩,?_⟩;rintro _ w8 ⟨rfl,h⟩;obtain⟨m8,m9,hf⟩:=fin ⟨n12,n13,n23⟩ hu q3 rfl h;exact⟨_,_,m8,ag.cells ⟨c,sq,key,2,false,0,0⟩,rfl,rfl,_,_,_,m9,rfl,rfl,λw9 m10 g10=>⟨_,_,m10,ag.cells ⟨c,sq,key,2,false,0,0⟩,rfl,rfl,rfl,hf w9 m10 g10⟩⟩
 .have e2:=aas (q:=⟨c,sq,4,key,val,hi,to⟩) hk hz rfl hw3
  have e3:fP s ⟨c,sq,4,key,val,hi,to⟩=(AB s ⟨c,sq,4,key,val,hi,to⟩ (lX ⟨c,sq,4,key,val,hi,to⟩)).1:=by rw[e2]
  have e4:dN s ⟨c,sq,4,key,val,hi,to⟩=(AB s ⟨c,sq,4,key,val,hi,to⟩ (lX ⟨c,sq,4,key,val,hi,to⟩)).2:=by rw[e2]
  rw[e3,e4];clear e2 e3 e4;refine aj Tryz.func102 rfl rfl ?_;refine λw1 b1 m1 g1 l1 w2 b2 m2 g2 l2 w3 b3 m3 g3 l3=>?_
  obtain⟨h,n12,n13,n23,hu,q1,q2,q3⟩:=h.M0 g1 m1 l1 g2 m2 l2 g3 m3 l3;have a1:=h.g (x:=b1) (by rw[aB.ne n13,aB.ne n12,aB.eq]);have a2:=h.g (x:=b2) (by rw[aB.ne n23,aB.eq]);clear m1 g1 l1 m2 g2 l2 m3 g3 l3;refine⟨_,_,a1,_,rfl,_,_,a1,aW.cells ⟨c,sq,4,key,val,hi,to⟩,rfl,rfl,_,_,a2,(lX ⟨c,sq,4,key,val,hi,to⟩).cells,rfl,rfl,_,Om h hk hz (q:=⟨c,sq,4,key,val,hi,to⟩) hw1.1 hlh hw2.2 hw3 (lX ⟨c,sq,4,key,val,hi,to⟩),?_⟩;rintro _ w5 ⟨rfl,h⟩;have a3:=h.g (x:=b3) (aB.eq _ b3 _);generalize (AB s ⟨c,sq,4,key,val,hi,to⟩ (lX ⟨c,sq,4,key,val,hi,to⟩)).2=P at *;generalize (AB s ⟨c,sq,4,key,val,hi,to⟩ (lX ⟨c,sq,4,key,val,hi,to⟩)).1=S' at *;refine⟨_,_,_,a3,rfl,rfl,λw9 m10 g10=>⟨_,_,m10,P.cells,rfl,rfl,rfl,?_⟩⟩;refine(h.over (aB.eq _ b3 _) g10 m10 q3).weak λx o hx=>?_
  obtain⟨e1,e2,e3⟩:=M3 hu x o hx;rw[aB.ne e3,aB.ne e3,aB.ne e2,aB.ne e1];exact hx
end
section
variable{Λ:aB}{w0 w:World}{b:Nat}{s:St}
theorem ac2{Λ:aB}{b1 b2:Nat}(hu:Λ b1=none/\Λ b2=none):∀x o,Λ x=some o->x≠b1/\x≠b2:=by
 intro x o hx;refine⟨λe=>?_,λe=>?_⟩
 .rw[e,hu.1]at hx;cases hx
 .rw[e,hu.2]at hx;cases hx
theorem aat(h:Sk Λ w0 b s w)(hk:sP s)(hz:Fq s){q:aW}(hw:q.wfi):CY 61 #[Ptt b,.agg q.cells.toArray] w (λv w'=>v=.agg (iy s q).2.cells.toArray/\Sk Λ w0 b (iy s q).1 w'):=by
 refine aj Tryz.func61 rfl rfl ?_;refine λw1 b1 m1 g1 l1 w2 b2 m2 g2 l2=>?_
 have hs0:=h.sz;obtain⟨h,u1⟩:=h.box g1 m1 l1;obtain⟨h,u2⟩:=h.box g2 m2 l2;have n12:b1≠b2:=by have:=ae m1;omega
 have q2:w0.heap.size<=b2:=by have:=g1.size;omega
 rw[aB.ne n12.symm]at u2;have a1:=h.g (x:=b1) (by rw[aB.ne n12,aB.eq]);clear m1 g1 l1 m2 g2 l2;refine⟨_,_,a1,q.cells,rfl,rfl,_,Ao w2 q,?_⟩;rintro _ w3 ⟨rfl,g3⟩;replace h:=h.ay g3;replace a1:=g3.get a1 nofun;have a2:=h.g (x:=b2) (aB.eq _ b2 _);have done:∀{Λ':aB} {s':St} {w8:World} (P:ag),(∀x o,Λ x=some o->Λ' x=some o)->∀{c:Array Value} {t:Nat},Λ' b2=some (.cells c t)->Sk Λ' w0 b s' w8->∀w9 (m:Hl w9 b2 P.cells 70) (g:GB (some b2) w8 w9),Sk Λ w0 b s' w9:=λP hwk _ _ h2 h w9 m g=>(h.over h2 g m q2).weak λx o hx=>by
  rw[aB.ne (ac2 ⟨u1,u2⟩ x o hx).2];exact hwk x o hx
 have wk2:∀{o1 o2:Obj},∀x o,Λ x=some o->((Λ.add b1 o1).add b2 o2) x=some o:=λx o hx=>by
  obtain⟨e1,e2⟩:=ac2 ⟨u1,u2⟩ x o hx;rw[aB.ne e2,aB.ne e1];exact hx
 unfold iy;obtain⟨ok,hok⟩:∃ok,fV q=ok:=⟨_,rfl⟩;rw[hok];cases ok
 .refine⟨_,_,_,a2,rfl,rfl,λw4 m4 g4=>?_⟩
  exact⟨_,_,m4,rV.cells,rfl,rfl,rfl,done rV wk2 (aB.eq _ b2 _) h w4 m4 g4⟩
 simp only[Bool.true_eq_false,Jba];refine⟨_,_,a1,.int .u8 q.c,rfl,_,_,a1,.int .u32 q.s,rfl,_,_,a1,.int .u64 q.key,rfl,λw4 b5 m5 g5 l5=>⟨_,_,_,m5,rfl,rfl,λw5 m6 g6=>?_⟩⟩;replace m6:w5.heap[b5]?=some (.cells (lX q).cells.toArray 70):=m6;have q5:w0.heap.size<=b5:=Jb1 h.sz l5;have n15:b1≠b5:=by have:=ae a1;omega
 have n25:b2≠b5:=by have:=ae a2;omega
 obtain⟨h,u5⟩:=h.box (g5.new g6 l5) m6 l5;rw[aB.ne n25.symm,aB.ne n15.symm]at u5;replace a1:=(g5.new g6 l5).get a1 nofun;clear a2 g5 g6 l5 m5;have UJ:∀{o1 o2 o3:Obj},∀x o,Λ x=some o->(((Λ.add b1 o1).add b2 o2).add b5 o3) x=some o:=λx o hx=>by
  obtain⟨e1,e2,e3⟩:=M3 ⟨u1,u2,u5⟩ x o hx;rw[aB.ne e3,aB.ne e2,aB.ne e1];exact hx
 obtain⟨T,M,D,O,I,ls,hsw⟩:=h;refine⟨_,_,a1,.int .u64 q.key,rfl,_,_,a1,.int .u64 q.key,rfl,_,_,a1,.int .u64 q.hi,rfl,_,Oj (hi:=sF q) hsw.mem hsw.sa.m.fz hk.CJ hk.can hw.key.1,?_⟩;rintro _ w6 ⟨rfl,g6⟩;replace hsw:=hsw.ay g6;replace a1:=g6.get a1 nofun;replace m6:=g6.get m6 nofun;have h:Sk (((Λ.add b1 _).add b2 _).add b5 _) w0 b s w6:=⟨_,_,_,_,_,_,hsw⟩;have a2:=h.g (x:=b2) (by rw[aB.ne n25,aB.eq]);obtain⟨st,hst⟩:∃st,yF s.M s.g q.key (sF q)=st:=⟨_,rfl⟩;rw[hst];cases st
 rotate_left
 .simp only[Jb8]
  refine⟨_,_,_,m6,rfl,rfl,λw7 m7 g7=>?_⟩;replace h:=h.over (aB.eq _ b5 _) g7 m7 q5;refine⟨_,_,_,m7,rfl,rfl,λw8 m8 g8=>?_⟩;replace h:=h.over (aB.eq _ b5 _) g8 m8 q5;rw[aB.twice,aB.twice]at h;have a2:=h.g (x:=b2) (by rw[aB.ne n25,aB.eq]);refine⟨_,_,m8,ag.cells ⟨q.c,q.s,q.key,3,false,0,yE s.M s.g q.key (sF q)⟩,rfl,rfl,_,_,_,a2,rfl,rfl,λw9 m9 g9=>?_⟩;exact⟨_,_,m9,ag.cells ⟨q.c,q.s,q.key,3,false,0,yE s.M s.g q.key (sF q)⟩,rfl,rfl,rfl,done _ UJ (by rw[aB.ne n25,aB.eq]) h w9 m9 g9⟩
 simp only[Jb9,Jba];refine⟨_,_,m6,(lX q).cells,rfl,rfl,_,Uz hsw.mem hsw.sa.d.fz (Jb1 hz.d (by decide)) hk.sD (lX q),?_⟩;rintro _ w7 ⟨rfl,g7⟩;replace hsw:=hsw.ay g7;replace a1:=g7.get a1 nofun;replace a2:=g7.get a2 nofun;replace m6:=g7.get m6 nofun;replace h:Sk (((Λ.add b1 _).add b2 _).add b5 _) w0 b s w7:=⟨_,_,_,_,_,_,hsw⟩;obtain⟨hd,hhd⟩:∃hd,Fg s.D (lX q)=hd:=⟨_,rfl⟩;rw[hhd];cases hd
 .simp only[Jb9,Jba]
  refine⟨by kernel_rfl,?_⟩;refine⟨_,_,a1,q.cells,rfl,rfl,_,_,m6,(lX q).cells,rfl,rfl,_,UI h hk hz hok hw,?_⟩;rintro _ w8 ⟨rfl,h⟩;have a2:=h.g (x:=b2) (by rw[aB.ne n25,aB.eq]);refine⟨_,_,_,a2,rfl,rfl,λw9 m9 g9=>?_⟩;exact⟨_,_,m9,(dN s q).cells,rfl,rfl,rfl,done _ UJ (by rw[aB.ne n25,aB.eq]) h w9 m9 g9⟩
 obtain⟨x,hx,hx0⟩:=sK hhd;have hi:xV s.D (lX q)<s.D.length:=(Jcn.1 hx).1;have hx':s.D[xV s.D (lX q)]?=some x:=hx;simp only[Jb8,hx'];obtain⟨g,cap,cur,ev,hg,aR,hcut,hsz⟩:=hsw.sa.d.at (f:=ag.cells) (λ_=>rfl) hx;subst ev;have hcs:cur.toList[0+((xV s.D (lX q):Nat):Int).toNat*7+1]?=some (.int .u32 x.s):=iU hcut rfl (by decide);refine⟨by kernel_rfl,_,_,hsw.mem,_,rfl,by omega,_,_,aR,.int .u32 x.s,hcs,_,_,a1,.int .u32 q.s,rfl,ah (λe=>?_) (λe=>?_)⟩
 .have e1:=Ptq e
  rw[Jb5 (by omega)];refine⟨by kernel_rfl,_,_,hsw.mem,_,rfl,by omega,_,_,aR,.int .u32 x.s,hcs,_,_,a1,.int .u32 q.s,rfl,ah (λf=>?_) (λf=>?_)⟩
  .rw[Jb6 (eq_of_beq f)]
   refine⟨_,_,hsw.mem,_,rfl,by omega,_,_,aR,x.cells,hcut,rfl,_,_,_,a2,rfl,rfl,λw9 m9 g9=>?_⟩;exact⟨_,_,m9,x.cells,rfl,rfl,rfl,done x UJ (by rw[aB.ne n25,aB.eq]) h w9 m9 g9⟩
  .rw[Jb5 (by simpa using f)]
   refine⟨_,_,_,m6,rfl,rfl,λw8 m8 g8=>?_⟩;replace h:=h.over (aB.eq _ b5 _) g8 m8 q5;rw[aB.twice]at h;have a2:=h.g (x:=b2) (by rw[aB.ne n25,aB.eq]);refine⟨_,_,m8,ag.cells ⟨q.c,q.s,q.key,4,false,0,0⟩,rfl,rfl,_,_,_,a2,rfl,rfl,λw9 m9 g9=>?_⟩;exact⟨_,_,m9,ag.cells ⟨q.c,q.s,q.key,4,false,0,0⟩,rfl,rfl,rfl,done _ UJ (by rw[aB.ne n25,aB.eq]) h w9 m9 g9⟩
 .have e1:=Ptx e
  rw[Jb6 (by omega)];refine⟨_,_,a1,q.cells,rfl,rfl,_,_,m6,(lX q).cells,rfl,rfl,_,UI h hk hz hok hw,?_⟩;rintro _ w8 ⟨rfl,h⟩;have a2:=h.g (x:=b2) (by rw[aB.ne n25,aB.eq]);refine⟨_,_,_,a2,rfl,rfl,λw9 m9 g9=>?_⟩;exact⟨_,_,m9,(dN s q).cells,rfl,rfl,rfl,done _ UJ (by rw[aB.ne n25,aB.eq]) h w9 m9 g9⟩
end
end
