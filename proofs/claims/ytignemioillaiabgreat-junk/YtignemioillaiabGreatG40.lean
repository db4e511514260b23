/- A shard, plain (2): what stays in order. -/
import Derived.Test.YtignemioillaiabGreatG39
namespace Go.Proofs.YtignemioillaiabGreat
set_option maxHeartbeats 8000000
set_option maxRecDepth 100000
section
open Go Go.Conc
theorem wO {α:Type} {P:α->Bool} {l:List α} (h:∀ x∈l,P x=true):l.filter P=l:=List.filter_eq_self.2 h
theorem qF {α:Type} {P:α->Bool} {l:List α} (h:∀ x∈l,P x=false):l.filter P=[]:=by
 rw [List.filter_eq_nil_iff];intro x hx;rw [h x hx];simp
theorem QL {α:Type} {f:α->Int}:∀ {l:List α},Aw f l->l.take (dQ f l)=l.filter (λ x=>decide (f x<0))/\l.drop (dQ f l)=l.filter (λ x=>decide (0<=f x)):=by
 intro l h;obtain ⟨h1,h2⟩:=sG f l h;have a1:∀ x∈l.take (dQ f l),f x<0:=by
  intro x hx;obtain ⟨t,ht,rfl⟩:=List.getElem_of_mem hx;rw [List.length_take] at ht;exact h1 t _ (by omega) (by rw [List.getElem_take];exact List.getElem?_eq_getElem (by omega))
 have a2:∀ x∈l.drop (dQ f l),0<=f x:=by
  intro x hx;obtain ⟨t,ht,rfl⟩:=List.getElem_of_mem hx;exact h2 (dQ f l+t) _ (by omega) (by rw [List.getElem_drop];exact List.getElem?_eq_getElem _)
 constructor
 ·conv=>rhs;rw [<- List.take_append_drop (dQ f l) l]
  rw [List.filter_append,wO (λ x hx=>by simpa using a1 x hx),qF (λ x hx=>by have:=a2 x hx;simp;omega),List.append_nil]
 ·conv=>rhs;rw [<- List.take_append_drop (dQ f l) l]
  rw [List.filter_append,qF (λ x hx=>by have:=a1 x hx;simp;omega),wO (λ x hx=>by simpa using a2 x hx),List.nil_append]
theorem JP {α:Type} {f:α->Int} {l:List α} {q:α} (h:Aw f l) (hu:∀ (i j:Nat) (x y:α),i<j->l[i]? = some x->l[j]? = some y->0<=f x->0<f y) :
 (if mY f l then l.set (dQ f l) q else j5 l (dQ f l) q)=l.filter (λ x=>decide (f x<0))++q::l.filter (λ x=>decide (0<f x)):=by
 obtain ⟨t1,t2⟩:=QL h;cases hh:mY f l with
 | true =>
  obtain ⟨x,hx,h0⟩:=xG hh;have hlt:=(List.getElem?_eq_some_iff.1 hx).1;have e2:l.drop (dQ f l+1)=l.filter (λ x=>decide (0<f x)):=by
   have d:l.drop (dQ f l)=x::l.drop (dQ f l+1):=by
    rw [List.drop_eq_getElem_cons hlt,(List.getElem?_eq_some_iff.1 hx).2]
   have a:∀ y∈l.drop (dQ f l+1),0<f y:=by
    intro y hy;obtain ⟨t,ht,rfl⟩:=List.getElem_of_mem hy;exact hu (dQ f l) (dQ f l+1+t) x _ (by omega) hx (by rw [List.getElem_drop];exact List.getElem?_eq_getElem _) (by omega)
   have b:∀ y∈l.take (dQ f l),f y<0:=by
    intro y hy;rw [t1] at hy;simpa using (List.mem_filter.1 hy).2
   conv=>rhs;rw [<- List.take_append_drop (dQ f l) l,d]
   rw [List.filter_append,List.filter_cons,qF (λ y hy=>by have:=b y hy;simp;omega),wO (λ y hy=>by simpa using a y hy),h0];simp
  rw [if_pos rfl,List.set_eq_take_append_cons_drop,if_pos hlt,t1,e2]
 | false =>
  have e2:l.drop (dQ f l)=l.filter (λ x=>decide (0<f x)):=by
   rw [t2];apply List.filter_congr
   intro x hx;obtain ⟨t,ht,rfl⟩:=List.getElem_of_mem hx;obtain ⟨h1,h2⟩:=sG f l h;by_cases hz:f l[t]=0
   ·exfalso
    have hge:dQ f l<=t:=by
     rcases Nat.lt_or_ge t (dQ f l) with hlt | hge
     ·have:=h1 t _ hlt (List.getElem?_eq_getElem ht);omega
     ·exact hge
    have hp:dQ f l<l.length:=by omega
    have hy:=List.getElem?_eq_getElem hp;have h0:=h2 _ _ (Nat.le_refl _) hy;have hnz:f l[dQ f l]≠0:=by
     intro e;unfold mY at hh;rw [hy] at hh;simp [e] at hh
    rcases Nat.lt_or_eq_of_le hge with hlt | heq
    ·have:=hu (dQ f l) t _ _ hlt hy (List.getElem?_eq_getElem ht) h0
     omega
    ·exact hnz (by simpa [heq] using hz)
   ·by_cases hp:0<=f l[t]
    ·have:0<f l[t]:=by omega
     simp [hp,this]
    ·have:¬ 0<f l[t]:=by omega
     simp [hp,this]
  rw [if_neg (by simp),j5,t1,e2]
theorem W9 {T:List Row} (h:gq T) (key:Int):∀ (i j:Nat) (x y:Row),i<j->T[i]? = some x->T[j]? = some y->0<=fI x.key key->0<fI y.key key:=by
 intro i j x y hij hx hy h0;have:=Bu h hij hx hy;have a:¬ fI x.key key<0:=by omega
 rw [um] at a;have b:¬ fI y.key key<0:=by rw [um];omega
 have c:fI y.key key≠0:=by rw [Ne,lV];omega
 omega
theorem Xa {D:List az} (h:iI D) (q:az):∀ (i j:Nat) (x y:az),i<j->D[i]? = some x->D[j]? = some y->0<=jb x q->0<jb y q:=by
 intro i j x y hij hx hy h0;have:=Bu h hij hx hy;have a:¬ jb x q<0:=by omega
 rw [Bt] at a;have b:¬ jb y q<0:=by rw [Bt];omega
 have c:jb y q≠0:=by rw [Ne,WG];omega
 omega
theorem FK {a b:Int}:0<fI a b↔b<a:=by
 unfold fI;split
 ·simp;omega
 ·split <;> omega
theorem Xb {a b:az}:0<jb a b↔b.key<a.key\/b.key=a.key/\b.c<a.c:=by
 unfold jb Md;split
 ·rename_i h
  rw [lV] at h;rw [FK];omega
 ·rename_i h
  rw [lV] at h;rw [FK];omega
theorem pO {a b:az}:ahead a b=true↔a.key<b.key\/a.key=b.key/\a.c<b.c:=by simp [ahead]
def JQ (D:List az) (r:az):List az:=D.filter (λ x=>ahead x r)++r::D.filter (λ x=>ahead r x)
theorem JR {D:List az} (h:iI D) (r:az):jc D r=JQ D r:=by
 unfold jc JQ;rw [JP (U1 h r) (Xa h r)];congr 1
 ·apply List.filter_congr;intro x _
  rw [Bool.eq_iff_iff,pO,decide_eq_true_iff,Bt]
 ·congr 1
  apply List.filter_congr;intro x _
  rw [Bool.eq_iff_iff,pO,decide_eq_true_iff,Xb]
def Ou (T:List Row) (r:Row):List Row:=T.filter (λ x=>decide (x.key<r.key))++r::T.filter (λ x=>decide (r.key<x.key))
theorem TU {T:List Row} (h:gq T) (key v:Int):(if kJ T key then T.set (sH T key) ⟨key,v⟩ else j5 T (sH T key) ⟨key,v⟩)=Ou T ⟨key,v⟩:=by
 unfold Ou;rw [JP (U0 h key) (W9 h key)];congr 1
 ·apply List.filter_congr;intro x _
  rw [Bool.eq_iff_iff,decide_eq_true_iff,decide_eq_true_iff,um]
 ·congr 1
  apply List.filter_congr;intro x _
  rw [Bool.eq_iff_iff,decide_eq_true_iff,decide_eq_true_iff,FK]
theorem gq.le {T:List Row} (h:gq T):T.Pairwise (λ a b=>a.key<=b.key):=h.imp (λ h=>by omega)
theorem iI.le {D:List az} (h:iI D):D.Pairwise (λ a b=>a.key<=b.key):=h.imp (λ h=>by omega)
theorem QM {D:List az} (h:iI D) (r:az):iI (JQ D r):=by
 unfold JQ iI;rw [List.pairwise_append,List.pairwise_cons];refine ⟨h.sublist List.filter_sublist,⟨λ x hx=>?_,h.sublist List.filter_sublist⟩,λ x hx y hy=>?_⟩
 ·exact pO.1 (List.mem_filter.1 hx).2
 ·have a:=pO.1 (List.mem_filter.1 hx).2
  rcases List.mem_cons.1 hy with rfl | hy
  ·exact a
  ·have b:=pO.1 (List.mem_filter.1 hy).2
   omega
theorem GN {T:List Row} (h:gq T) (r:Row):gq (Ou T r):=by
 unfold Ou gq;rw [List.pairwise_append,List.pairwise_cons];refine ⟨h.sublist List.filter_sublist,⟨λ x hx=>?_,h.sublist List.filter_sublist⟩,λ x hx y hy=>?_⟩
 ·simpa using (List.mem_filter.1 hx).2
 ·have a:x.key<r.key:=by simpa using (List.mem_filter.1 hx).2
  rcases List.mem_cons.1 hy with rfl | hy
  ·exact a
  ·have b:r.key<y.key:=by simpa using (List.mem_filter.1 hy).2
   omega
theorem TV (D:List az) (r:az) (h:iI D):(JQ D r).length<=D.length+1:=by
 rw [<- JR h];unfold jc;split
 ·simp
 ·rw [gL];omega
theorem Vl {α:Type} {f:α->Int} {lo:Int} {l:List α} {x:α} (h:x∈sB f lo l):f x<lo:=by unfold sB at h;simpa using (List.mem_filter.1 h).2
theorem Vm {α:Type} {f:α->Int} {lo hi:Int} {l:List α} {x:α} (h:x∈sA f lo hi l):hi<f x:=by
 unfold sA at h;have:=(List.mem_filter.1 h).2;simp at this;exact this.2
theorem JU:∀ {t:List Pc} {p:Pc},uJ p.f p.g t->∀ (i:Nat) (x y:Pc),(p::t)[i+1]? = some x->(p::t)[i]? = some y->x.g<4/\y.f<x.f/\y.g≠x.g
 | [],p,_,i,x,y,hx,_=>by simp at hx
 | q::t,p,h,i,x,y,hx,hy=>by
  obtain ⟨h1,h2,h3,h4,h5,h6⟩:=h;cases i with
  | zero=>simp at hx hy;subst hx;subst hy;exact ⟨h5,h1,h3⟩
  | succ i=>exact JU h6 i x y (by simpa using hx) (by simpa using hy)
theorem EG {m:List Pc} (h:Can m) (hl:m.length<=1000):kU m=true:=by
 cases m with
 | nil=>exact h.elim
 | cons p t =>
  obtain ⟨h1,h2,h3,h4⟩:=h;have ha:=JU (p:=p) (t:=t) (by rw [h1];exact h4);unfold kU;simp only [Bool.and_eq_true,decide_eq_true_eq,List.all_eq_true,List.mem_range];refine ⟨⟨⟨by simp,hl⟩,by simp [h1]⟩,λ i hi=>?_⟩;unfold HY;rw [List.getElem?_eq_getElem hi];cases i with
  | zero=>simp [h3]
  | succ i =>
   obtain ⟨a1,a2,a3⟩:=ha i _ _ (List.getElem?_eq_getElem hi) (List.getElem?_eq_getElem (by omega));simp only [Nat.add_sub_cancel];rw [List.getElem?_eq_getElem (by omega)];simp only [Bool.and_eq_true,decide_eq_true_eq,Bool.or_eq_true,Bool.not_eq_true',beq_eq_false_iff_ne];exact ⟨a1,.inr ⟨a2,a3⟩⟩
theorem Xc {T:List Row} (h:gq T) (key v:Int):gq (nQ T key v)/\(nQ T key v).length<=T.length+1:=by
 have e:=TU h key v;unfold nQ;cases hh:kJ T key with
 | true =>
  rw [hh] at e;simp only [if_true] at e |-;exact ⟨e ▸ GN h _,by simp⟩
 | false =>
  rw [hh] at e;have nf:¬ (false=true):=by simp
  rw [if_neg nf] at e |-;split
  ·exact ⟨h,by omega⟩
  ·exact ⟨e ▸ GN h _,by rw [gL];omega⟩
theorem Xd {T:List Row} (h:gq T) (key:Int):gq (wN T key)/\(wN T key).length<=T.length:=by
 unfold wN;split
 ·exact ⟨h.sublist (List.eraseIdx_sublist _ _),(List.eraseIdx_sublist _ _).length_le⟩
 ·exact ⟨h,Nat.le_refl _⟩
theorem Mv {D:List az} (h:iI D) (r:az):iI (jc D r)/\(jc D r).length<=D.length+1:=by
 rw [JR h];exact ⟨QM h r,TV D r h⟩
def inL {α:Type} (f:α->Int) (lo hi:Int) (fl:Bool) (l:List α):List α:=l.filter λ x=>(decide (lo<=f x) && decide (f x<=hi)) == fl
theorem wu {α:Type} {f:α->Int} {lo hi:Int} (hlh:lo<=hi):∀ {l:List α},l.Pairwise (λ a b=>f a<=f b)->sB f lo l++sA f lo hi l=inL f lo hi false l
 | [],_=>rfl
 | a::t,h=>by
  obtain ⟨h1,h2⟩:=List.pairwise_cons.1 h;have ih:=wu hlh h2;unfold sB sA inL at ih |-;by_cases c1:f a<lo
  ·have e1:¬ (lo<=f a):=by omega
   simp only [List.filter_cons,c1,e1];simpa using ih
  ·have nb:sB f lo t=[]:=qF (λ x hx=>by have:=h1 x hx;simp;omega)
   unfold sB at nb;rw [nb] at ih;by_cases c2:hi<f a
   ·have e2:¬ (f a<=hi):=by omega
    have e1:lo<=f a:=by omega
    simp only [List.filter_cons,c1,c2,e1,e2,nb];simpa using ih
   ·have e2:f a<=hi:=by omega
    have e1:lo<=f a:=by omega
    simp only [List.filter_cons,c1,c2,e1,e2,nb];simpa using ih
theorem BB {α:Type} {f:α->Int} {lo hi:Int} (hlh:lo<=hi) {l:List α} (h:l.Pairwise (λ a b=>f a<=f b)):(sB f lo l++sA f lo hi l).length<=l.length:=by
 rw [wu hlh h];exact List.length_filter_le _ _
theorem Zz {B P A:List Row} {lo hi:Int} (hB:∀ x∈B,x.key<lo) (hA:∀ x∈A,hi<x.key) (hP:∀ x∈P,lo<=x.key/\x.key<=hi) (sb:gq B) (sp:gq P) (sa:gq A) (hlh:lo<=hi):gq (B++(P++A)):=by
 unfold gq;rw [List.pairwise_append,List.pairwise_append];refine ⟨sb,⟨sp,sa,λ x hx y hy=>?_⟩,λ x hx y hy=>?_⟩
 ·have:=hP x hx;have:=hA y hy;omega
 ·have a:=hB x hx
  rcases List.mem_append.1 hy with hy | hy
  ·have:=hP y hy;omega
  ·have:=hA y hy;omega
theorem Xe {B P A:List az} {lo hi:Int} (hB:∀ x∈B,x.key<lo) (hA:∀ x∈A,hi<x.key) (hP:∀ x∈P,lo<=x.key/\x.key<=hi) (sb:iI B) (sp:iI P) (sa:iI A) (hlh:lo<=hi):iI (B++(P++A)):=by
 unfold iI;rw [List.pairwise_append,List.pairwise_append];refine ⟨sb,⟨sp,sa,λ x hx y hy=>?_⟩,λ x hx y hy=>?_⟩
 ·have:=hP x hx;have:=hA y hy;omega
 ·have a:=hB x hx
  rcases List.mem_append.1 hy with hy | hy
  ·have:=hP y hy;omega
  ·have:=hA y hy;omega
theorem uY {α:Type} {l:List α} {i:Nat} {a x:α} (h:x∈l.set i a):x=a\/x∈l:=by
 rcases List.mem_or_eq_of_mem_set h with h | h
 ·exact .inr h
 ·exact .inl h
theorem yN {α:Type} {R:α->α->Prop} (tr:∀ a b c,R a b->R b c->R a c):∀ {l:List α},(∀ (i:Nat) (x y:α),l[i]? = some x->l[i+1]? = some y->R x y)->l.Pairwise R
 | [],_=>List.Pairwise.nil
 | a::t,h=>by
  have ht:t.Pairwise R:=yN tr (λ i x y hx hy=>h (i+1) x y (by simpa using hx) (by simpa using hy));refine List.pairwise_cons.2 ⟨λ y hy=>?_,ht⟩;obtain ⟨j,hj,rfl⟩:=List.getElem_of_mem hy;have h0:R a t[0]:=h 0 a _ rfl (by simp);cases j with
  | zero=>exact h0
  | succ j=>exact tr _ _ _ h0 (List.pairwise_iff_getElem.1 ht 0 (j+1) (by omega) hj (by omega))
theorem Cj {α:Type} {f:α->Bool} {lt:α->α->Bool} {l:List α} (h:jG f lt l=true):(∀ (i:Nat) (x y:α),l[i]? = some x->l[i+1]? = some y->lt x y=true)/\(∀ x∈l,f x=true)/\l.length<=255:=by
 unfold jG at h;simp only [Bool.and_eq_true,decide_eq_true_eq,List.all_eq_true,List.mem_range] at h;refine ⟨λ i x y hx hy=>?_,λ x hx=>?_,h.1⟩
 ·have:=h.2 (i+1) (List.getElem?_eq_some_iff.1 hy).1
  unfold vY at this;rw [hy] at this;simp [hx] at this;exact this.2
 ·obtain ⟨j,hj,rfl⟩:=List.getElem_of_mem hx
  have:=h.2 j hj;unfold vY at this;rw [List.getElem?_eq_getElem hj] at this;simp at this;exact this.1
theorem Ck {r:Rg} (h:Br r=true):gq r.rows/\(∀ x∈r.rows,r.lo<=x.key/\x.key<=r.hi)/\r.rows.length<=255:=by
 obtain ⟨h1,h2,h3⟩:=Cj h;exact ⟨yN (λ a b c h1 h2=>by omega) (λ i x y hx hy=>by simpa using h1 i x y hx hy),λ x hx=>by simpa [Ey] using h2 x hx,h3⟩
theorem Cm {r:Rg} (h:yD r=true):iI r.aY/\(∀ x∈r.aY,r.lo<=x.key/\x.key<=r.hi)/\r.aY.length<=255:=by
 obtain ⟨h1,h2,h3⟩:=Cj h;exact ⟨yN (λ a b c h1 h2=>by omega) (λ i x y hx hy=>pO.1 (h1 i x y hx hy)),λ x hx=>by have:=h2 x hx;simp [Ey] at this;exact this.2.2,h3⟩
section
variable {Λ:aC} {w0 w:World} {b:Nat} {s:St}
theorem Sk.JV (h:Sk Λ w0 b s w) {w1 w2 w3:World} {b1 b2 b3:Nat} {o1 o2 o3:Obj} (g1:GB none w w1) (m1:w1.heap[b1]? = some o1) (l1:w.heap.size<=b1) (g2:GB none w1 w2) (m2:w2.heap[b2]? = some o2) (l2:w1.heap.size<=b2) (g3:GB none w2 w3) (m3:w3.heap[b3]? = some o3) (l3:w2.heap.size<=b3):Sk (((Λ.add b1 o1).add b2 o2).add b3 o3) w0 b s w3/\b1≠b2/\b1≠b3/\b2≠b3/\(Λ b1=none/\Λ b2=none/\Λ b3=none)/\w0.heap.size<=b1/\w0.heap.size<=b2/\w0.heap.size<=b3:=by
 have hs:=h.sz;obtain ⟨h1,u1⟩:=h.box g1 m1 l1;obtain ⟨h2,u2⟩:=h1.box g2 m2 l2;obtain ⟨h3,u3⟩:=h2.box g3 m3 l3;have k1:=ag m1;have k2:=ag m2;have e1:=g1.size;have e2:=g2.size;have e3:=g3.size;have n12:b1≠b2:=by omega
 have n13:b1≠b3:=by omega
 have n23:b2≠b3:=by omega
 rw [aC.ne n12.symm] at u2;rw [aC.ne n23.symm,aC.ne n13.symm] at u3;exact ⟨h3,n12,n13,n23,⟨u1,u2,u3⟩,by omega,by omega,by omega⟩
theorem JW {Λ:aC} {b1 b2 b3:Nat} (hu:Λ b1=none/\Λ b2=none/\Λ b3=none):∀ x o,Λ x=some o->x≠b1/\x≠b2/\x≠b3:=by
 intro x o hx;refine ⟨λ e=>?_,λ e=>?_,λ e=>?_⟩
 ·rw [e,hu.1] at hx;cases hx
 ·rw [e,hu.2.1] at hx;cases hx
 ·rw [e,hu.2.2] at hx;cases hx
theorem KU (h:Sk Λ w0 b s w) (hk:uX s) (hz:Di s) {q:bN} (h0:0<=q.key) (h1:q.key<=q.hi) (h2:q.hi<=18446744073709551615) (h3:0<=q.to) (p:az):af Tryz.prog 162 #[Ptt b,.agg q.cells.toArray,.agg p.cells.toArray] w (λ v w'=>v=.agg (yM s q p).2.cells.toArray/\Sk Λ w0 b (yM s q p).1 w'):=by
 refine aj ah mixed Tryz.func162 rfl rfl ?_;refine λ w1 b1 m1 g1 l1 w2 b2 m2 g2 l2 w3 b3 m3 g3 l3=>?_
 obtain ⟨h,n12,n13,n23,hu,q1,q2,q3⟩:=h.JV g1 m1 l1 g2 m2 l2 g3 m3 l3;have a1:=h.g (x:=b1) (by rw [aC.ne n13,aC.ne n12,aC.eq]);obtain ⟨T,M,D,O,I,ls,hw⟩:=h;refine ⟨_,_,a1,q.cells,rfl,rfl,_,QI hw hk h0 h1 h2 h3,?_⟩;rintro _ w4 ⟨g4,va,vn,vc,rfl,hP⟩;have uM:∀ x,gK s q=true->(Value.slice va vn vc).ownBlock=some x->_:=λ x hf hx=>hw.qf ((hP hf).new x hx)
 have hgb:=hw.gb;have h:Sk (((Λ.add b1 _).add b2 _).add b3 _) w0 b s w4:=⟨T,M,D,O,I,ls,hw.ax g4⟩;clear m1 g1 l1 m2 g2 l2 m3 g3 l3 a1;unfold yM;obtain ⟨f,hf⟩:∃ f,gK s q=f:=⟨_,rfl⟩;rw [hf] at hP uM |-;have a2:=h.g (x:=b2) (by rw [aC.ne n23,aC.eq]);cases f
 ·refine ⟨_,_,_,a2,rfl,rfl,λ w5 m5 g5=>?_⟩
  replace m5:w5.heap[b2]? = some (.cells (az.cells { p with k:=5 }).toArray 70):=m5;replace h:=h.over (by rw [aC.ne n23,aC.eq]) g5 m5 q2;refine ⟨_,_,m5,az.cells { p with k:=5 },rfl,rfl,_,oz h hk.sD (Nat.le_trans hz.d (by decide)) { p with k:=5 },?_⟩;rintro _ w6 ⟨rfl,h⟩;have m6:=h.g (aC.eq _ b2 _);have m7:=h.g (x:=b3) (by rw [aC.ne n23.symm,aC.eq]);refine ⟨_,_,m6,az.cells { p with k:=5 },rfl,rfl,_,_,_,m7,rfl,rfl,λ w7 m8 g8=>?_⟩;replace h:=h.over (by rw [aC.ne n23.symm,aC.eq]) g8 m8 q3;refine ⟨_,_,m8,az.cells { p with k:=5 },rfl,rfl,rfl,h.weak λ x o hx=>?_⟩;obtain ⟨e1,e2,e3⟩:=JW hu x o hx;rw [aC.ne e3,aC.ne e2,aC.ne e3,aC.ne e2,aC.ne e1];exact hx
 ·have hP:=hP rfl
  have hto:q.to<s.n/\(dU s.O q.to).2.length<4:=by unfold gK at hf;simp at hf;exact ⟨hf.1.1.2,hf.1.2⟩
  have wh:0<(iF s.M q.key q.hi q.to).length:=by
   obtain ⟨gc,_⟩:=Ac hk.can h0 h1 (by omega) (g:=q.to) ⟨h3,by have:=hk.n4;omega⟩;cases hg:iF s.M q.key q.hi q.to with
   | nil=>rw [hg] at gc;exact gc.elim
   | cons _ _=>exact Nat.succ_pos _
  obtain ⟨x,cap,cur,ev,hcx,_,_,_⟩:=jD hP.own wh;have hxn:=hP.new x (by rw [ev];rfl);have ux:=uM x rfl (by rw [ev];rfl);replace h:Sk ((((Λ.add b1 _).add b2 _).add b3 _).add x _) w0 b s w4:=⟨T,M,D,O,I,ls,hw.box g4 hcx hxn⟩;have ZA:x≠b2:=λ e=>by rw [e,aC.ne n23,aC.eq] at ux;cases ux
  have nx3:x≠b3:=λ e=>by rw [e,aC.eq] at ux;cases ux
  have Vn:x≠b1:=λ e=>by rw [e,aC.ne n13,aC.ne n12,aC.eq] at ux;cases ux
  refine ⟨_,_,_,a2,rfl,rfl,λ w5 m5 g5=>?_⟩;replace m5:w5.heap[b2]? = some (.cells (az.cells { p with k:=2 }).toArray 70):=m5;replace h:=h.over (by rw [aC.ne ZA.symm,aC.ne n23,aC.eq]) g5 m5 q2;refine ⟨_,_,m5,az.cells { p with k:=2 },rfl,rfl,_,oz h hk.sD (Nat.le_trans hz.d (by decide)) { p with k:=2 },?_⟩;rintro _ w6 ⟨rfl,h⟩;have ZB:=Mv hk.sD { p with k:=2 };have hlm:dU s.O q.to∈s.O:=by
   unfold dU;have hl:q.to.toNat<s.O.length:=by have:=hk.ol;omega
   rw [List.getElem?_eq_getElem hl];exact List.getElem_mem hl
  have m6:=h.g (x:=b1) (by rw [aC.ne n12,aC.ne Vn.symm,aC.ne n13,aC.ne n12,aC.eq]);refine ⟨_,_,m6,q.cells,rfl,rfl,_,KT h ⟨hk.g0,hk.gn,hk.n4,hk.sT,ZB.1,hk.Ci,hk.can,hk.ol,hk.il⟩ hz.t (by show (jc s.D _).length<=_;have:=ZB.2;have:=hz.d;omega) h3 hto.1 (by show (dU s.O q.to).2.length<=_;omega) (hz.q _ hlm).2,?_⟩;rintro _ w7 ⟨rfl,h⟩;have hx7:=h.g (x:=x) (by rw [aC.ne ZA,aC.eq]);replace h:Sk ((((Λ.add b1 _).add b2 _).add b3 _).add b2 _) w0 b _ w7:=h.weak λ y o hy=>by
   by_cases e2:y=b2
   ·subst e2;rw [aC.eq] at hy |-;exact hy
   ·rw [aC.ne e2] at hy |-
    have ex:y≠x:=λ e=>by rw [e] at hy;rw [ux] at hy;cases hy
    rw [aC.ne ex];exact hy
  obtain ⟨T,M',D,O,I,ls,hw'⟩:=h;have PM:PN w0 w7 (.slice va vn vc) (iF s.M q.key q.hi q.to):=⟨aA hP.own λ y hy=>by
   rw [ev] at hy;obtain rfl:x=y:=by simpa [Value.ownBlock] using hy
   rw [hx7,hcx],hw'.gb,λ y hy=>Nat.le_trans hgb.size (hP.new y hy)⟩
  refine ⟨_,_,_,hw'.mem,rfl,rfl,λ w8 m8 g8=>?_⟩;have h:Sk ((((Λ.add b1 _).add b2 _).add b3 _).add b2 _) w0 b { BA { s with D:=jc s.D { p with k:=2 } } q with M:=iF s.M q.key q.hi q.to } w8:=⟨_,_,_,_,_,_,hw'.Zu PM (λ y hy=>by
   have hy':=hy;rw [ev] at hy';obtain rfl:x=y:=by simpa [Value.ownBlock] using hy'
   rw [aC.ne ZA];exact ux) m8 g8⟩
  have m9:=h.g (aC.eq _ b2 _);have m10:=h.g (x:=b3) (by rw [aC.ne n23.symm,aC.eq]);refine ⟨_,_,m9,az.cells { p with k:=2 },rfl,rfl,_,_,_,m10,rfl,rfl,λ w9 m11 g11=>?_⟩;replace h:=h.over (by rw [aC.ne n23.symm,aC.eq]) g11 m11 q3;refine ⟨_,_,m11,az.cells { p with k:=2 },rfl,rfl,rfl,h.weak λ y o hy=>?_⟩;obtain ⟨e1,e2,e3⟩:=JW hu y o hy;rw [aC.ne e3,aC.ne e2,aC.ne e3,aC.ne e2,aC.ne e1];exact hy
end
structure bN.ZC (q:bN):Prop where
 key:0<=q.key/\q.key<=18446744073709551615
 hi:0<=q.hi/\q.hi<=18446744073709551615
 to:0<=q.to
theorem aaK {q:bN} (h:kI q=true):q.k=1\/q.k=2\/q.k=3\/q.k=4/\q.key<=q.hi/\q.to<4:=by
 unfold kI at h;simp only [Bool.and_eq_true] at h;obtain ⟨_,h⟩:=h;split at h
 ·rename_i k;omega
 split at h
 ·rename_i k;omega
 split at h
 ·rename_i k
  simp at h;exact .inr (.inr (.inr ⟨k,h.1,h.2.1⟩))
 ·cases h
theorem Xf {s:St} {q:bN} (hk:uX s) (hz:Di s) (h4:q.k=4) (h3:0<=q.to):yM s q (kY q)=(sJ s q,kK s q):=by
 unfold yM sJ kK;rw [h4];by_cases hf:gK s q=true
 ·have hto:q.to<s.n:=by unfold gK at hf;simp at hf;exact hf.1.1.2
  have hlm:dU s.O q.to∈s.O:=by
   unfold dU;have hl:q.to.toNat<s.O.length:=by have:=hk.ol;omega
   rw [List.getElem?_eq_getElem hl];exact List.getElem_mem hl
  have hq:=(hz.q _ hlm).2;simp only [hf,if_true];unfold Y1 BA;rw [wrap_u32 (by omega)];rfl
 ·simp only [hf]
  rfl
theorem aC.twice (Λ:aC) (b:Nat) (o o':Obj):(Λ.add b o).add b o'=Λ.add b o':=by
 funext y
 unfold aC.add;split <;> rfl
section
variable {Λ:aC} {w0 w:World} {b:Nat} {s:St}
theorem QO (h:Sk Λ w0 b s w) (hk:uX s) (hz:Di s) {q:bN} (hq:kI q=true) (hw:q.ZC):af Tryz.prog 102 #[Ptt b,.agg q.cells.toArray,.agg (kY q).cells.toArray] w (λ v w'=>v=.agg (kK s q).cells.toArray/\Sk Λ w0 b (sJ s q) w'):=by
 have hkk:=aaK hq;have fin:∀ {b1 b2 b3:Nat} {o1 o2 o3:Obj} {p:az} {s':St} {w9:World},(b1≠b2/\b1≠b3/\b2≠b3)->(Λ b1=none/\Λ b2=none/\Λ b3=none)->w0.heap.size<=b3->∀ {c:Array Value} {t:Nat},o3=.cells c t->Sk ((((Λ.add b1 o1).add b2 o2).add b3 o3).add b2 (.cells p.cells.toArray 70)) w0 b s' w9->w9.heap[b2]? = some (.cells p.cells.toArray 70)/\w9.heap[b3]? = some o3/\∀ (qm:World) (m:qm.heap[b3]? = some (.cells p.cells.toArray 70)) (g:GB (some b3) w9 qm),Sk Λ w0 b s' qm:=by
  rintro b1 b2 b3 o1 o2 o3 p s' w9 ⟨n12,n13,n23⟩ hu q3 c t rfl h;refine ⟨h.g (aC.eq _ b2 _),h.g (by rw [aC.ne n23.symm,aC.eq]),λ qm m g=>?_⟩;refine (h.over (by rw [aC.ne n23.symm,aC.eq]) g m q3).weak λ x o hx=>?_
  obtain ⟨e1,e2,e3⟩:=JW hu x o hx;rw [aC.ne e3,aC.ne e2,aC.ne e3,aC.ne e2,aC.ne e1];exact hx
 obtain ⟨c,sq,k,key,val,hi,to⟩:=q;obtain ⟨hw1,hw2,hw3⟩:=hw;dsimp only at hkk hw1 hw2 hw3;rcases hkk with rfl | rfl | rfl | ⟨rfl,hlh,hto⟩
 ·have eP:kK s ⟨c,sq,1,key,val,hi,to⟩=⟨c,sq,key,1,kJ s.T key,q8 s.T key,0⟩:=by simp [kK]
  have eS:sJ s ⟨c,sq,1,key,val,hi,to⟩={ s with D:=jc s.D ⟨c,sq,key,1,kJ s.T key,q8 s.T key,0⟩ }:=by simp [sJ,eP]
  rw [eP,eS];refine aj ah mixed Tryz.func102 rfl rfl ?_;refine λ w1 b1 m1 g1 l1 w2 b2 m2 g2 l2 w3 b3 m3 g3 l3=>?_
  obtain ⟨h,n12,n13,n23,hu,q1,q2,q3⟩:=h.JV g1 m1 l1 g2 m2 l2 g3 m3 l3;have a1:=h.g (x:=b1) (by rw [aC.ne n13,aC.ne n12,aC.eq]);have a2:=h.g (x:=b2) (by rw [aC.ne n23,aC.eq]);clear m1 g1 l1 m2 g2 l2 m3 g3 l3;refine ⟨_,_,a1,_,rfl,_,_,_,a2,rfl,rfl,λ w4 m4 g4=>?_⟩;replace h:=h.over (by rw [aC.ne n23,aC.eq]) g4 m4 q2;have a1:=h.g (x:=b1) (by rw [aC.ne n12,aC.ne n13,aC.ne n12,aC.eq]);obtain ⟨T,M,D,O,I,ls,hw⟩:=h;refine ⟨_,_,a1,.int .u64 key,rfl,_,Zl hw.mem hw.sa.t.fz (Nat.le_trans hz.t (by decide)) hk.sT key,?_⟩;rintro _ w5 ⟨rfl,g5⟩;have h:Sk ((((Λ.add b1 _).add b2 _).add b3 _).add b2 _) w0 b s w5:=⟨_,_,_,_,_,_,hw.ax g5⟩;refine ⟨_,_,_,g5.get m4 nofun,rfl,rfl,λ w6 m6 g6=>?_⟩;replace h:=h.over (aC.eq _ b2 _) g6 m6 q2;refine ⟨_,_,_,m6,rfl,rfl,λ w7 m7 g7=>?_⟩;replace h:=h.over (aC.eq _ b2 _) g7 m7 q2;rw [aC.twice,aC.twice] at h;replace h:Sk ((((Λ.add b1 _).add b2 _).add b3 _).add b2 (.cells (az.cells ⟨c,sq,key,1,kJ s.T key,q8 s.T key,0⟩).toArray 70)) w0 b s w7:=h;replace m7:w7.heap[b2]? = some (.cells (az.cells ⟨c,sq,key,1,kJ s.T key,q8 s.T key,0⟩).toArray 70):=m7;refine ⟨_,_,m7,az.cells ⟨c,sq,key,1,kJ s.T key,q8 s.T key,0⟩,rfl,rfl,_,oz h hk.sD (Nat.le_trans hz.d (by decide)) ⟨c,sq,key,1,kJ s.T key,q8 s.T key,0⟩,?_⟩;rintro _ w8 ⟨rfl,h⟩;obtain ⟨m8,m9,hf⟩:=fin ⟨n12,n13,n23⟩ hu q3 rfl h;exact ⟨_,_,m8,az.cells ⟨c,sq,key,1,kJ s.T key,q8 s.T key,0⟩,rfl,rfl,_,_,_,m9,rfl,rfl,λ w9 m10 g10=>⟨_,_,m10,az.cells ⟨c,sq,key,1,kJ s.T key,q8 s.T key,0⟩,rfl,rfl,rfl,hf w9 m10 g10⟩⟩
 ·have eP:kK s ⟨c,sq,2,key,val,hi,to⟩=⟨c,sq,key,q9 s.T key,false,0,0⟩:=by simp [kK]
  have eS:sJ s ⟨c,sq,2,key,val,hi,to⟩={ s with T:=nQ s.T key val,D:=jc s.D ⟨c,sq,key,q9 s.T key,false,0,0⟩ }:=by simp [sJ,eP]
  rw [eP,eS];refine aj ah mixed Tryz.func102 rfl rfl ?_;refine λ w1 b1 m1 g1 l1 w2 b2 m2 g2 l2 w3 b3 m3 g3 l3=>?_
  obtain ⟨h,n12,n13,n23,hu,q1,q2,q3⟩:=h.JV g1 m1 l1 g2 m2 l2 g3 m3 l3;have a1:=h.g (x:=b1) (by rw [aC.ne n13,aC.ne n12,aC.eq]);have a2:=h.g (x:=b2) (by rw [aC.ne n23,aC.eq]);clear m1 g1 l1 m2 g2 l2 m3 g3 l3;refine ⟨_,_,a1,_,rfl,_,_,a1,.int .u64 key,rfl,_,_,a1,.int .u64 val,rfl,_,Zv h hk.sT hz.t key val,?_⟩;rintro _ w5 ⟨rfl,h⟩;have a2:=h.g (x:=b2) (by rw [aC.ne n23,aC.eq]);refine ⟨_,_,_,a2,rfl,rfl,λ w7 m7 g7=>?_⟩;replace h:=h.over (by rw [aC.ne n23,aC.eq]) g7 m7 q2;replace h:Sk ((((Λ.add b1 _).add b2 _).add b3 _).add b2 (.cells (az.cells ⟨c,sq,key,q9 s.T key,false,0,0⟩).toArray 70)) w0 b { s with T:=nQ s.T key val } w7:=h;replace m7:w7.heap[b2]? = some (.cells (az.cells ⟨c,sq,key,q9 s.T key,false,0,0⟩).toArray 70):=m7;refine ⟨_,_,m7,az.cells ⟨c,sq,key,q9 s.T key,false,0,0⟩,rfl,rfl,_,oz h hk.sD (Nat.le_trans hz.d (by decide)) ⟨c,sq,key,q9 s.T key,false,0,0⟩,?_⟩;rintro _ w8 ⟨rfl,h⟩;obtain ⟨m8,m9,hf⟩:=fin ⟨n12,n13,n23⟩ hu q3 rfl h;exact ⟨_,_,m8,az.cells ⟨c,sq,key,q9 s.T key,false,0,0⟩,rfl,rfl,_,_,_,m9,rfl,rfl,λ w9 m10 g10=>⟨_,_,m10,az.cells ⟨c,sq,key,q9 s.T key,false,0,0⟩,rfl,rfl,rfl,hf w9 m10 g10⟩⟩
 ·have eP:kK s ⟨c,sq,3,key,val,hi,to⟩=⟨c,sq,key,2,false,0,0⟩:=by simp [kK]
  have eS:sJ s ⟨c,sq,3,key,val,hi,to⟩={ s with T:=wN s.T key,D:=jc s.D ⟨c,sq,key,2,false,0,0⟩ }:=by simp [sJ,eP]
  rw [eP,eS];refine aj ah mixed Tryz.func102 rfl rfl ?_;refine λ w1 b1 m1 g1 l1 w2 b2 m2 g2 l2 w3 b3 m3 g3 l3=>?_
  obtain ⟨h,n12,n13,n23,hu,q1,q2,q3⟩:=h.JV g1 m1 l1 g2 m2 l2 g3 m3 l3;have a1:=h.g (x:=b1) (by rw [aC.ne n13,aC.ne n12,aC.eq]);have a2:=h.g (x:=b2) (by rw [aC.ne n23,aC.eq]);clear m1 g1 l1 m2 g2 l2 m3 g3 l3;refine ⟨_,_,a1,_,rfl,_,_,a1,.int .u64 key,rfl,_,QH h hk.sT hz.t key,?_⟩;rintro _ w5 ⟨rfl,h⟩;have a2:=h.g (x:=b2) (by rw [aC.ne n23,aC.eq]);refine ⟨_,_,_,a2,rfl,rfl,λ w7 m7 g7=>?_⟩;replace h:=h.over (by rw [aC.ne n23,aC.eq]) g7 m7 q2;replace h:Sk ((((Λ.add b1 _).add b2 _).add b3 _).add b2 (.cells (az.cells ⟨c,sq,key,2,false,0,0⟩).toArray 70)) w0 b { s with T:=wN s.T key } w7:=h;replace m7:w7.heap[b2]? = some (.cells (az.cells ⟨c,sq,key,2,false,0,0⟩).toArray 70):=m7;refine ⟨_,_,m7,az.cells ⟨c,sq,key,2,false,0,0⟩,rfl,rfl,_,oz h hk.sD (Nat.le_trans hz.d (by decide)) ⟨c,sq,key,2,false,0,0⟩,?_⟩;rintro _ w8 ⟨rfl,h⟩;obtain ⟨m8,m9,hf⟩:=fin ⟨n12,n13,n23⟩ hu q3 rfl h;exact ⟨_,_,m8,az.cells ⟨c,sq,key,2,false,0,0⟩,rfl,rfl,_,_,_,m9,rfl,rfl,λ w9 m10 g10=>⟨_,_,m10,az.cells ⟨c,sq,key,2,false,0,0⟩,rfl,rfl,rfl,hf w9 m10 g10⟩⟩
 ·have e2:=Xf (q:=⟨c,sq,4,key,val,hi,to⟩) hk hz rfl hw3
  have e3:sJ s ⟨c,sq,4,key,val,hi,to⟩=(yM s ⟨c,sq,4,key,val,hi,to⟩ (kY ⟨c,sq,4,key,val,hi,to⟩)).1:=by rw [e2]
  have e4:kK s ⟨c,sq,4,key,val,hi,to⟩=(yM s ⟨c,sq,4,key,val,hi,to⟩ (kY ⟨c,sq,4,key,val,hi,to⟩)).2:=by rw [e2]
  rw [e3,e4];clear e2 e3 e4;refine aj ah mixed Tryz.func102 rfl rfl ?_;refine λ w1 b1 m1 g1 l1 w2 b2 m2 g2 l2 w3 b3 m3 g3 l3=>?_
  obtain ⟨h,n12,n13,n23,hu,q1,q2,q3⟩:=h.JV g1 m1 l1 g2 m2 l2 g3 m3 l3;have a1:=h.g (x:=b1) (by rw [aC.ne n13,aC.ne n12,aC.eq]);have a2:=h.g (x:=b2) (by rw [aC.ne n23,aC.eq]);clear m1 g1 l1 m2 g2 l2 m3 g3 l3;refine ⟨_,_,a1,_,rfl,_,_,a1,bN.cells ⟨c,sq,4,key,val,hi,to⟩,rfl,rfl,_,_,a2,(kY ⟨c,sq,4,key,val,hi,to⟩).cells,rfl,rfl,_,KU h hk hz (q:=⟨c,sq,4,key,val,hi,to⟩) hw1.1 hlh hw2.2 hw3 (kY ⟨c,sq,4,key,val,hi,to⟩),?_⟩;rintro _ w5 ⟨rfl,h⟩;have a3:=h.g (x:=b3) (aC.eq _ b3 _);generalize (yM s ⟨c,sq,4,key,val,hi,to⟩ (kY ⟨c,sq,4,key,val,hi,to⟩)).2=P at *;generalize (yM s ⟨c,sq,4,key,val,hi,to⟩ (kY ⟨c,sq,4,key,val,hi,to⟩)).1=S' at *;refine ⟨_,_,_,a3,rfl,rfl,λ w9 m10 g10=>⟨_,_,m10,P.cells,rfl,rfl,rfl,?_⟩⟩;refine (h.over (aC.eq _ b3 _) g10 m10 q3).weak λ x o hx=>?_
  obtain ⟨e1,e2,e3⟩:=JW hu x o hx;rw [aC.ne e3,aC.ne e3,aC.ne e2,aC.ne e1];exact hx
end
section
variable {Λ:aC} {w0 w:World} {b:Nat} {s:St}
theorem ZE {Λ:aC} {b1 b2:Nat} (hu:Λ b1=none/\Λ b2=none):∀ x o,Λ x=some o->x≠b1/\x≠b2:=by
 intro x o hx;refine ⟨λ e=>?_,λ e=>?_⟩
 ·rw [e,hu.1] at hx;cases hx
 ·rw [e,hu.2] at hx;cases hx
theorem Xg (h:Sk Λ w0 b s w) (hk:uX s) (hz:Di s) {q:bN} (hw:q.ZC):af Tryz.prog 61 #[Ptt b,.agg q.cells.toArray] w (λ v w'=>v=.agg (yH s q).2.cells.toArray/\Sk Λ w0 b (yH s q).1 w'):=by
 refine aj ah mixed Tryz.func61 rfl rfl ?_;refine λ w1 b1 m1 g1 l1 w2 b2 m2 g2 l2=>?_
 have hs0:=h.sz;obtain ⟨h,u1⟩:=h.box g1 m1 l1;obtain ⟨h,u2⟩:=h.box g2 m2 l2;have n12:b1≠b2:=by have:=ag m1;omega
 have q2:w0.heap.size<=b2:=by have:=g1.size;omega
 rw [aC.ne n12.symm] at u2;have a1:=h.g (x:=b1) (by rw [aC.ne n12,aC.eq]);clear m1 g1 l1 m2 g2 l2;refine ⟨_,_,a1,q.cells,rfl,rfl,_,yB w2 q,?_⟩;rintro _ w3 ⟨rfl,g3⟩;replace h:=h.ax g3;replace a1:=g3.get a1 nofun;have a2:=h.g (x:=b2) (aC.eq _ b2 _);have done:∀ {Λ':aC} {s':St} {w8:World} (P:az),(∀ x o,Λ x=some o->Λ' x=some o)->∀ {c:Array Value} {t:Nat},Λ' b2=some (.cells c t)->Sk Λ' w0 b s' w8->∀ w9 (m:w9.heap[b2]? = some (.cells P.cells.toArray 70)) (g:GB (some b2) w8 w9),Sk Λ w0 b s' w9:=λ P hwk _ _ h2 h w9 m g=>(h.over h2 g m q2).weak λ x o hx=>by
  rw [aC.ne (ZE ⟨u1,u2⟩ x o hx).2];exact hwk x o hx
 have wk2:∀ {o1 o2:Obj},∀ x o,Λ x=some o->((Λ.add b1 o1).add b2 o2) x=some o:=λ x o hx=>by
  obtain ⟨e1,e2⟩:=ZE ⟨u1,u2⟩ x o hx;rw [aC.ne e2,aC.ne e1];exact hx
 unfold yH;obtain ⟨ok,hok⟩:∃ ok,kI q=ok:=⟨_,rfl⟩;rw [hok];cases ok
 ·refine ⟨_,_,_,a2,rfl,rfl,λ w4 m4 g4=>?_⟩
  exact ⟨_,_,m4,rY.cells,rfl,rfl,rfl,done rY wk2 (aC.eq _ b2 _) h w4 m4 g4⟩
 simp only [Bool.true_eq_false,if_false];refine ⟨_,_,a1,.int .u8 q.c,rfl,_,_,a1,.int .u32 q.s,rfl,_,_,a1,.int .u64 q.key,rfl,λ w4 b5 m5 g5 l5=>⟨_,_,_,m5,rfl,rfl,λ w5 m6 g6=>?_⟩⟩;replace m6:w5.heap[b5]? = some (.cells (kY q).cells.toArray 70):=m6;have q5:w0.heap.size<=b5:=Nat.le_trans h.sz l5;have n15:b1≠b5:=by have:=ag a1;omega
 have n25:b2≠b5:=by have:=ag a2;omega
 obtain ⟨h,u5⟩:=h.box (g5.new g6 l5) m6 l5;rw [aC.ne n25.symm,aC.ne n15.symm] at u5;replace a1:=(g5.new g6 l5).get a1 nofun;clear a2 g5 g6 l5 m5;have QP:∀ {o1 o2 o3:Obj},∀ x o,Λ x=some o->(((Λ.add b1 o1).add b2 o2).add b5 o3) x=some o:=λ x o hx=>by
  obtain ⟨e1,e2,e3⟩:=JW ⟨u1,u2,u5⟩ x o hx;rw [aC.ne e3,aC.ne e2,aC.ne e1];exact hx
 obtain ⟨T,M,D,O,I,ls,hsw⟩:=h;refine ⟨_,_,a1,.int .u64 q.key,rfl,_,_,a1,.int .u64 q.key,rfl,_,_,a1,.int .u64 q.hi,rfl,_,KS (hi:=Me q) hsw.mem hsw.sa.m.fz hk.Ci hk.can hw.key.1,?_⟩;rintro _ w6 ⟨rfl,g6⟩;replace hsw:=hsw.ax g6;replace a1:=g6.get a1 nofun;replace m6:=g6.get m6 nofun;have h:Sk (((Λ.add b1 _).add b2 _).add b5 _) w0 b s w6:=⟨_,_,_,_,_,_,hsw⟩;have a2:=h.g (x:=b2) (by rw [aC.ne n25,aC.eq]);obtain ⟨st,hst⟩:∃ st,Oe s.M s.g q.key (Me q)=st:=⟨_,rfl⟩;rw [hst];cases st
 rotate_left
 ·simp only [if_true]
  refine ⟨_,_,_,m6,rfl,rfl,λ w7 m7 g7=>?_⟩;replace h:=h.over (aC.eq _ b5 _) g7 m7 q5;refine ⟨_,_,_,m7,rfl,rfl,λ w8 m8 g8=>?_⟩;replace h:=h.over (aC.eq _ b5 _) g8 m8 q5;rw [aC.twice,aC.twice] at h;have a2:=h.g (x:=b2) (by rw [aC.ne n25,aC.eq]);refine ⟨_,_,m8,az.cells ⟨q.c,q.s,q.key,3,false,0,JA s.M s.g q.key (Me q)⟩,rfl,rfl,_,_,_,a2,rfl,rfl,λ w9 m9 g9=>?_⟩;exact ⟨_,_,m9,az.cells ⟨q.c,q.s,q.key,3,false,0,JA s.M s.g q.key (Me q)⟩,rfl,rfl,rfl,done _ QP (by rw [aC.ne n25,aC.eq]) h w9 m9 g9⟩
 simp only [Bool.false_eq_true,if_false];refine ⟨_,_,m6,(kY q).cells,rfl,rfl,_,QD hsw.mem hsw.sa.d.fz (Nat.le_trans hz.d (by decide)) hk.sD (kY q),?_⟩;rintro _ w7 ⟨rfl,g7⟩;replace hsw:=hsw.ax g7;replace a1:=g7.get a1 nofun;replace a2:=g7.get a2 nofun;replace m6:=g7.get m6 nofun;replace h:Sk (((Λ.add b1 _).add b2 _).add b5 _) w0 b s w7:=⟨_,_,_,_,_,_,hsw⟩;obtain ⟨hd,hhd⟩:∃ hd,Jz s.D (kY q)=hd:=⟨_,rfl⟩;rw [hhd];cases hd
 ·simp only [Bool.false_eq_true,if_false]
  refine ⟨by kernel_rfl,?_⟩;refine ⟨_,_,a1,q.cells,rfl,rfl,_,_,m6,(kY q).cells,rfl,rfl,_,QO h hk hz hok hw,?_⟩;rintro _ w8 ⟨rfl,h⟩;have a2:=h.g (x:=b2) (by rw [aC.ne n25,aC.eq]);refine ⟨_,_,_,a2,rfl,rfl,λ w9 m9 g9=>?_⟩;exact ⟨_,_,m9,(kK s q).cells,rfl,rfl,rfl,done _ QP (by rw [aC.ne n25,aC.eq]) h w9 m9 g9⟩
 obtain ⟨x,hx,hx0⟩:=xG hhd;have hi:zh s.D (kY q)<s.D.length:=(List.getElem?_eq_some_iff.1 hx).1;have hx':s.D[zh s.D (kY q)]? = some x:=hx;simp only [if_true,hx'];obtain ⟨g,cap,cur,ev,hg,aR,hcut,hsz⟩:=hsw.sa.d.at (f:=az.cells) (λ _=>rfl) hx;subst ev;have hcs:cur.toList[0+((zh s.D (kY q):Nat):Int).toNat*7+1]? = some (.int .u32 x.s):=iy hcut rfl (by decide);refine ⟨by kernel_rfl,_,_,hsw.mem,_,rfl,⟨by omega,by omega⟩,_,_,aR,.int .u32 x.s,hcs,_,_,a1,.int .u32 q.s,rfl,au (λ e=>?_) (λ e=>?_)⟩
 ·have e1:=of_decide_eq_true e
  rw [if_neg (by omega)];refine ⟨by kernel_rfl,_,_,hsw.mem,_,rfl,⟨by omega,by omega⟩,_,_,aR,.int .u32 x.s,hcs,_,_,a1,.int .u32 q.s,rfl,au (λ f=>?_) (λ f=>?_)⟩
  ·rw [if_pos (eq_of_beq f)]
   refine ⟨_,_,hsw.mem,_,rfl,⟨by omega,by omega⟩,_,_,aR,x.cells,hcut,rfl,_,_,_,a2,rfl,rfl,λ w9 m9 g9=>?_⟩;exact ⟨_,_,m9,x.cells,rfl,rfl,rfl,done x QP (by rw [aC.ne n25,aC.eq]) h w9 m9 g9⟩
  ·rw [if_neg (by simpa using f)]
   refine ⟨_,_,_,m6,rfl,rfl,λ w8 m8 g8=>?_⟩;replace h:=h.over (aC.eq _ b5 _) g8 m8 q5;rw [aC.twice] at h;have a2:=h.g (x:=b2) (by rw [aC.ne n25,aC.eq]);refine ⟨_,_,m8,az.cells ⟨q.c,q.s,q.key,4,false,0,0⟩,rfl,rfl,_,_,_,a2,rfl,rfl,λ w9 m9 g9=>?_⟩;exact ⟨_,_,m9,az.cells ⟨q.c,q.s,q.key,4,false,0,0⟩,rfl,rfl,rfl,done _ QP (by rw [aC.ne n25,aC.eq]) h w9 m9 g9⟩
 ·have e1:=of_decide_eq_false e
  rw [if_pos (by omega)];refine ⟨_,_,a1,q.cells,rfl,rfl,_,_,m6,(kY q).cells,rfl,rfl,_,QO h hk hz hok hw,?_⟩;rintro _ w8 ⟨rfl,h⟩;have a2:=h.g (x:=b2) (by rw [aC.ne n25,aC.eq]);refine ⟨_,_,_,a2,rfl,rfl,λ w9 m9 g9=>?_⟩;exact ⟨_,_,m9,(kK s q).cells,rfl,rfl,rfl,done _ QP (by rw [aC.ne n25,aC.eq]) h w9 m9 g9⟩
end
end
end Go.Proofs.YtignemioillaiabGreat
