/- What the document's Apply makes of a shard is what the program's makes of it; what a log can make of a shard stays so: no program text here. -/
import Derived.Test.YtignemioillaiaaGreatG25
namespace Go.Proofs.YtignemioillaiaaGreat
set_option maxHeartbeats 8000000
set_option maxRecDepth 100000
section
open Go.RowKit Go.Lib
theorem qC {α:Type} {P:α→Bool} {l:List α} (h:∀ x∈l,P x=true):l.filter P=l:=List.filter_eq_self.2 h
theorem oF {α:Type} {P:α→Bool} {l:List α} (h:∀ x∈l,P x=false):l.filter P=[]:=by
 rw [List.filter_eq_nil_iff];intro x hx;rw [h x hx];simp
theorem X7 {α:Type} {f:α→Int}:∀ {l:List α},Oi f l→l.take (fJ f l)=l.filter (fun x=>decide (f x<0))∧l.drop (fJ f l)=l.filter (fun x=>decide (0≤f x)):=by
 intro l h;obtain ⟨h1,h2⟩:=Cf f l h;have a1:∀ x∈l.take (fJ f l),f x<0:=by
  intro x hx;obtain ⟨t,ht,rfl⟩:=List.getElem_of_mem hx;rw [List.length_take] at ht;exact h1 t _ (by omega) (by rw [List.getElem_take];exact List.getElem?_eq_getElem (by omega))
 have a2:∀ x∈l.drop (fJ f l),0≤f x:=by
  intro x hx;obtain ⟨t,ht,rfl⟩:=List.getElem_of_mem hx;exact h2 (fJ f l+t) _ (by omega) (by rw [List.getElem_drop];exact List.getElem?_eq_getElem _)
 constructor
 ·conv=>rhs;rw [← List.take_append_drop (fJ f l) l]
  rw [List.filter_append,qC (fun x hx=>by simpa using a1 x hx),oF (fun x hx=>by have:=a2 x hx;simp;omega),List.append_nil]
 ·conv=>rhs;rw [← List.take_append_drop (fJ f l) l]
  rw [List.filter_append,oF (fun x hx=>by have:=a1 x hx;simp;omega),qC (fun x hx=>by simpa using a2 x hx),List.nil_append]
theorem Tu {α:Type} {f:α→Int} {l:List α} {q:α} (h:Oi f l) (hu:∀ (i j:Nat) (x y:α),i<j→l[i]? = some x→l[j]? = some y→0≤f x→0<f y) :
 (if wS f l then l.set (fJ f l) q else CV l (fJ f l) q)=l.filter (fun x=>decide (f x<0))++q::l.filter (fun x=>decide (0<f x)):=by
 obtain ⟨t1,t2⟩:=X7 h;cases hh:wS f l with
 | true =>
  obtain ⟨x,hx,h0⟩:=wC hh;have hlt:=(mV hx);have e2:l.drop (fJ f l+1)=l.filter (fun x=>decide (0<f x)):=by
   have d:l.drop (fJ f l)=x::l.drop (fJ f l+1):=by
    rw [List.drop_eq_getElem_cons hlt,(List.getElem?_eq_some_iff.1 hx).2]
   have a:∀ y∈l.drop (fJ f l+1),0<f y:=by
    intro y hy;obtain ⟨t,ht,rfl⟩:=List.getElem_of_mem hy;exact hu (fJ f l) (fJ f l+1+t) x _ (by omega) hx (by rw [List.getElem_drop];exact List.getElem?_eq_getElem _) (by omega)
   have b:∀ y∈l.take (fJ f l),f y<0:=by
    intro y hy;rw [t1] at hy;simpa using (List.mem_filter.1 hy).2
   conv=>rhs;rw [← List.take_append_drop (fJ f l) l,d]
   rw [List.filter_append,List.filter_cons,oF (fun y hy=>by have:=b y hy;simp;omega),qC (fun y hy=>by simpa using a y hy),h0];simp
  rw [if_pos rfl,List.set_eq_take_append_cons_drop,if_pos hlt,t1,e2]
 | false =>
  have e2:l.drop (fJ f l)=l.filter (fun x=>decide (0<f x)):=by
   rw [t2];apply List.filter_congr
   intro x hx;obtain ⟨t,ht,rfl⟩:=List.getElem_of_mem hx;obtain ⟨h1,h2⟩:=Cf f l h;by_cases hz:f l[t]=0
   ·exfalso
    have hge:fJ f l≤t:=by
     rcases Nat.lt_or_ge t (fJ f l) with hlt | hge
     ·have:=h1 t _ hlt (List.getElem?_eq_getElem ht);omega
     ·exact hge
    have hp:fJ f l<l.length:=by omega
    have hy:=List.getElem?_eq_getElem hp;have h0:=h2 _ _ (Nat.le_refl _) hy;have hnz:f l[fJ f l]≠0:=by
     intro e;unfold wS at hh;rw [hy] at hh;simp [e] at hh
    rcases Nat.lt_or_eq_of_le hge with hlt | heq
    ·have:=hu (fJ f l) t _ _ hlt hy (List.getElem?_eq_getElem ht) h0
     omega
    ·exact hnz (by simpa [heq] using hz)
   ·by_cases hp:0≤f l[t]
    ·have:0<f l[t]:=by omega
     simp [hp,this]
    ·have:¬ 0<f l[t]:=by omega
     simp [hp,this]
  rw [if_neg (by simp),CV,t1,e2]
theorem abP {T:List Row} (h:jZ T) (key:Int):∀ (i j:Nat) (x y:Row),i<j→T[i]? = some x→T[j]? = some y→0≤j3 x.key key→0<j3 y.key key:=by
 intro i j x y hij hx hy h0;have:=Ao h hij hx hy;have a:¬ j3 x.key key<0:=by omega
 rw [BB] at a;have b:¬ j3 y.key key<0:=by rw [BB];omega
 have c:j3 y.key key≠0:=by rw [Ne,sj];omega
 omega
theorem abQ {D:List ak} (h:eU D) (q:ak):∀ (i j:Nat) (x y:ak),i<j→D[i]? = some x→D[j]? = some y→0≤nO x q→0<nO y q:=by
 intro i j x y hij hx hy h0;have:=Ao h hij hx hy;have a:¬ nO x q<0:=by omega
 rw [GA] at a;have b:¬ nO y q<0:=by rw [GA];omega
 have c:nO y q≠0:=by rw [Ne,Kw];omega
 omega
theorem Oz {a b:Int}:0<j3 a b↔b<a:=by
 unfold j3;split
 ·simp;omega
 ·split <;> omega
theorem abR {a b:ak}:0<nO a b↔b.key<a.key∨b.key=a.key∧b.c<a.c:=by
 unfold nO WK;split
 ·rename_i h
  rw [sj] at h;rw [Oz];omega
 ·rename_i h
  rw [sj] at h;rw [Oz];omega
theorem oN {a b:ak}:ahead a b=true↔a.key<b.key∨a.key=b.key∧a.c<b.c:=by simp [ahead]
theorem E8 {a b:ak}:ahead a b=false↔¬ (a.key<b.key∨a.key=b.key∧a.c<b.c):=by rw [← oN];simp
def Gi (D:List ak) (r:ak):List ak:=D.filter (fun x=>ahead x r)++r::D.filter (fun x=>ahead r x)
theorem Fa {D:List ak} (h:eU D) (r:ak):nU D r=Gi D r:=by
 unfold nU Gi;rw [Tu (VN h r) (abQ h r)];congr 1
 ·apply List.filter_congr;intro x _
  rw [Bool.eq_iff_iff,oN,decide_eq_true_iff,GA]
 ·congr 1
  apply List.filter_congr;intro x _
  rw [Bool.eq_iff_iff,oN,decide_eq_true_iff,abR]
theorem JM (r:ak):∀ (l acc:List ak) (b:Bool),l.foldl (fw r) (acc,b)=(acc++(l.foldl (fw r) ([],b)).1,(l.foldl (fw r) ([],b)).2)
 | [],acc,b=>by simp
 | a::t,acc,b=>by
  rw [List.foldl_cons,List.foldl_cons];have e:∀ acc,fw r (acc,b) a=(acc++(fw r ([],b) a).1,(fw r ([],b) a).2):=by
   intro acc;unfold fw;dsimp only;split <;> simp
  rw [e acc];obtain ⟨X,hX⟩:∃ X,X=fw r ([],b) a:=⟨_,rfl⟩;rw [← hX];obtain ⟨A,B⟩:=X;dsimp only;rw [JM r t (acc++A) B,JM r t A B];simp
theorem Vb {r:ak}:∀ {l:List ak},(∀ x∈l,ahead r x=true)→l.foldl (fw r) ([],true)=(l,true)
 | [],_=>rfl
 | a::t,h=>by
  have ha:=h a (by simp);rw [oN] at ha;rw [List.foldl_cons];have e:fw r ([],true) a=([a],true):=by
   unfold fw;dsimp only;have:a.key≠r.key∨a.c≠r.c:=by omega
   simp [this]
  rw [e,JM,Vb (fun x hx=>h x (by simp [hx]))];simp
theorem Cq {r:ak}:∀ {l:List ak},eU l→fe l r=Gi l r
 | [],_=>rfl
 | a::t,h=>by
  obtain ⟨h1,h2⟩:=List.pairwise_cons.1 h;have ih:=Cq (r:=r) (l:=t) h2;by_cases c1:ahead r a=true
  ·have all:∀ x∈t,ahead r x=true:=by
    intro x hx;have:=h1 x hx;rw [oN] at c1 ⊢;omega
   have c1':=oN.1 c1;have e:fw r ([],false) a=([r,a],true):=by
    unfold fw;dsimp only;have:a.key≠r.key∨a.c≠r.c:=by omega
    simp [this,c1]
   unfold fe Gi;rw [List.foldl_cons,e,JM,Vb all];have n1:(a::t).filter (fun x=>ahead x r)=[]:=oF (fun x hx=>by
    rw [E8];rcases List.mem_cons.1 hx with rfl | hx
    ·omega
    ·have:=oN.1 (all x hx);omega)
   have n2:(a::t).filter (fun x=>ahead r x)=a::t:=qC (fun x hx=>by
    rcases List.mem_cons.1 hx with rfl | hx
    ·exact c1
    ·exact all x hx)
   rw [n1,n2];simp
  ·have c1':=E8.1 (by simpa using c1)
   by_cases c2:a.key=r.key∧a.c=r.c
   ·have e:fw r ([],false) a=([],false):=by
     unfold fw;simp [c1,c2.1,c2.2]
    have:fe (a::t) r=fe t r:=by unfold fe;rw [List.foldl_cons,e]
    rw [this,ih];unfold Gi;have n1:ahead a r=false:=by rw [E8];omega
    rw [List.filter_cons,List.filter_cons,n1,if_neg (by simp),if_neg c1]
   ·have n1:ahead a r=true:=by rw [oN];omega
    have e:fw r ([],false) a=([a],false):=by
     unfold fw;dsimp only;have:a.key≠r.key∨a.c≠r.c:=by omega
     simp [this,c1]
    have:fe (a::t) r=a::fe t r:=by
     unfold fe;rw [List.foldl_cons,e,JM];dsimp only;split <;> simp
    rw [this,ih];unfold Gi;rw [List.filter_cons,List.filter_cons,n1,if_pos rfl,if_neg c1];rfl
def OB (T:List Row) (r:Row):List Row:=T.filter (fun x=>decide (x.key<r.key))++r::T.filter (fun x=>decide (r.key<x.key))
theorem Tv {T:List Row} (h:jZ T) (key v:Int):(if o7 T key then T.set (wE T key) ⟨key,v⟩ else CV T (wE T key) ⟨key,v⟩)=OB T ⟨key,v⟩:=by
 unfold OB;rw [Tu (VM h key) (abP h key)];congr 1
 ·apply List.filter_congr;intro x _
  rw [Bool.eq_iff_iff,decide_eq_true_iff,decide_eq_true_iff,BB]
 ·congr 1
  apply List.filter_congr;intro x _
  rw [Bool.eq_iff_iff,decide_eq_true_iff,decide_eq_true_iff,Oz]
theorem X8 {T:List Row} (h:jZ T) (k:Int):T.takeWhile (fun x=>decide (x.key<k))=T.filter (fun x=>decide (x.key<k)):=by
 induction T with
 | nil=>rfl
 | cons a t ih =>
  obtain ⟨h1,h2⟩:=List.pairwise_cons.1 h;rw [List.takeWhile_cons,List.filter_cons];by_cases hk:a.key<k
  ·rw [if_pos (by simp [hk]),if_pos (by simp [hk]),ih h2]
  ·rw [if_neg (by simp [hk]),if_neg (by simp [hk])]
   exact (oF (fun x hx=>by have:=h1 x hx;simp;omega)).symm
theorem X9 {T:List Row} (h:jZ T) (r:Row):oU T r=OB T r:=by
 unfold oU OB;rw [X8 h]
theorem abS {T:List Row} (h:jZ T) (key:Int):dz (fun x:Row=>x.key) key key true T=if o7 T key then [⟨key,qR T key⟩] else []:=by
 unfold dz;cases hh:o7 T key with
 | false =>
  have:=O0 h hh;rw [if_neg (by simp)];exact oF (fun x hx=>by have:=this x hx;simp;omega)
 | true =>
  obtain ⟨x,hx,h0⟩:=wC hh;rw [sj] at h0;have hlt:=(mV hx);have hv:qR T key=x.val:=by unfold qR;rw [if_pos hh,hx];rfl
  have e:(⟨key,qR T key⟩:Row)=x:=by rw [hv,← h0]
  rw [if_pos rfl,e];have d:T=T.take (wE T key)++x::T.drop (wE T key+1):=by
   conv=>lhs;rw [← List.take_append_drop (wE T key) T,List.drop_eq_getElem_cons hlt,(List.getElem?_eq_some_iff.1 hx).2]
  have hp:(T.take (wE T key)++x::T.drop (wE T key+1)).Pairwise (fun a b=>a.key<b.key):=d ▸ h;rw [List.pairwise_append,List.pairwise_cons] at hp;obtain ⟨_,⟨p1,_⟩,p2⟩:=hp;generalize hA:T.take (wE T key)=A at *;generalize hB:T.drop (wE T key+1)=B at *;rw [d,List.filter_append,List.filter_cons];rw [oF (fun y hy=>by have:=p2 y hy x (by simp);simp;omega),oF (l:=B) (fun y hy=>by have:=p1 y hy;simp;omega),if_pos (by simp;omega)];rfl
theorem Vd {T:List Row} (h:jZ T) (key:Int):Ag T key=dz (fun x:Row=>x.key) key key false T:=by
 unfold Ag dz;cases hh:o7 T key with
 | false =>
  have:=O0 h hh;rw [if_neg (by simp)];exact (qC (fun x hx=>by have:=this x hx;simp;omega)).symm
 | true =>
  obtain ⟨x,hx,h0⟩:=wC hh;rw [sj] at h0;have hlt:=(mV hx);rw [if_pos rfl];have d:T=T.take (wE T key)++x::T.drop (wE T key+1):=by
   conv=>lhs;rw [← List.take_append_drop (wE T key) T,List.drop_eq_getElem_cons hlt,(List.getElem?_eq_some_iff.1 hx).2]
  have hp:(T.take (wE T key)++x::T.drop (wE T key+1)).Pairwise (fun a b=>a.key<b.key):=d ▸ h;rw [List.pairwise_append,List.pairwise_cons] at hp;obtain ⟨_,⟨p1,_⟩,p2⟩:=hp;rw [List.eraseIdx_eq_take_drop_succ];generalize hA:T.take (wE T key)=A at *;generalize hB:T.drop (wE T key+1)=B at *;rw [d,List.filter_append,List.filter_cons,if_neg (by simp;omega)];rw [qC (fun y hy=>by have:=p2 y hy x (by simp);simp;omega),qC (l:=B) (fun y hy=>by have:=p1 y hy;simp;omega)]
theorem uL {α:Type} {f:α→Int} {lo hi:Int} (hlh:lo≤hi):∀ {l:List α},l.Pairwise (fun a b=>f a≤f b)→sB f lo l++sA f lo hi l=dz f lo hi false l
 | [],_=>rfl
 | a::t,h=>by
  obtain ⟨h1,h2⟩:=List.pairwise_cons.1 h;have ih:=uL hlh h2;unfold sB sA dz at ih ⊢;by_cases c1:f a<lo
  ·have e1:¬ (lo≤f a):=by omega
   simp only [List.filter_cons,c1,e1];simpa using ih
  ·have nb:sB f lo t=[]:=oF (fun x hx=>by have:=h1 x hx;simp;omega)
   unfold sB at nb;rw [nb] at ih;by_cases c2:hi<f a
   ·have e2:¬ (f a≤hi):=by omega
    have e1:lo≤f a:=by omega
    simp only [List.filter_cons,c1,c2,e1,e2,nb];simpa using ih
   ·have e2:f a≤hi:=by omega
    have e1:lo≤f a:=by omega
    simp only [List.filter_cons,c1,c2,e1,e2,nb];simpa using ih
theorem Tw {α:Type} {f:α→Int} {lo hi:Int} (l:List α):sW f lo hi l=dz f lo hi true l:=by
 unfold sW dz;apply List.filter_congr;intro x _
 by_cases c1:f x<lo <;> by_cases c2:hi<f x
 all_goals simp [c1,c2]
 all_goals omega
theorem jZ.le {T:List Row} (h:jZ T):T.Pairwise (fun a b=>a.key≤b.key):=h.imp (fun h=>by omega)
theorem eU.le {D:List ak} (h:eU D):D.Pairwise (fun a b=>a.key≤b.key):=h.imp (fun h=>by omega)
theorem Q6 {D:List ak} (h:eU D) (r:ak):eU (Gi D r):=by
 unfold Gi eU;rw [List.pairwise_append,List.pairwise_cons];refine ⟨h.sublist List.filter_sublist,⟨fun x hx=>?_,h.sublist List.filter_sublist⟩,fun x hx y hy=>?_⟩
 ·exact oN.1 (List.mem_filter.1 hx).2
 ·have a:=oN.1 (List.mem_filter.1 hx).2
  rcases List.mem_cons.1 hy with rfl | hy
  ·exact a
  ·have b:=oN.1 (List.mem_filter.1 hy).2
   omega
theorem Q7 {T:List Row} (h:jZ T) (r:Row):jZ (OB T r):=by
 unfold OB jZ;rw [List.pairwise_append,List.pairwise_cons];refine ⟨h.sublist List.filter_sublist,⟨fun x hx=>?_,h.sublist List.filter_sublist⟩,fun x hx y hy=>?_⟩
 ·simpa using (List.mem_filter.1 hx).2
 ·have a:x.key<r.key:=by simpa using (List.mem_filter.1 hx).2
  rcases List.mem_cons.1 hy with rfl | hy
  ·exact a
  ·have b:r.key<y.key:=by simpa using (List.mem_filter.1 hy).2
   omega
theorem ZH (D:List ak) (r:ak) (h:eU D):(Gi D r).length≤D.length+1:=by
 rw [← Fa h];unfold nU;split
 ·simp
 ·rw [Hu];omega
theorem L9 {lo hi:Int} {B A:List Row} (hB:∀ x∈B,x.key<lo) (hA:∀ x∈A,hi<x.key):∀ (rows P:List Row),(∀ x∈P,∀ y∈rows,x.key<y.key)→rows.Pairwise (fun a b=>a.key<b.key)→(∀ x∈rows,lo≤x.key∧x.key≤hi)→rows.foldl oU (B++(P++A))=B++((P++rows)++A)
 | [],P,_,_,_=>by simp
 | r::t,P,h1,h2,h3=>by
  obtain ⟨p1,p2⟩:=List.pairwise_cons.1 h2;have hr:=h3 r (by simp);have e:oU (B++(P++A)) r=B++((P++[r])++A):=by
   unfold oU;have bp:∀ x∈B++P,decide (x.key<r.key)=true:=by
    intro x hx;rcases List.mem_append.1 hx with hx | hx
    ·have:=hB x hx;simp;omega
    ·have:=h1 x hx r (by simp);simp;omega
   have t1:(B++(P++A)).takeWhile (fun x=>decide (x.key<r.key))=B++P:=by
    rw [← List.append_assoc,List.takeWhile_append_of_pos bp];have:A.takeWhile (fun x=>decide (x.key<r.key))=[]:=by
     cases A with
     | nil=>rfl
     | cons a s=>have:=hA a (by simp);rw [List.takeWhile_cons,if_neg (by simp;omega)]
    rw [this,List.append_nil]
   have t2:(B++(P++A)).filter (fun x=>decide (r.key<x.key))=A:=by
    rw [← List.append_assoc,List.filter_append,oF (fun x hx=>by have:=bp x hx;simp at this;simp;omega),qC (fun x hx=>by have:=hA x hx;simp;omega),List.nil_append]
   rw [t1,t2];simp
  rw [List.foldl_cons,e,L9 hB hA t (P++[r]) ?_ p2 (fun x hx=>h3 x (by simp [hx]))]
  ·simp
  ·intro x hx y hy
   rcases List.mem_append.1 hx with hx | hx
   ·exact h1 x hx y (by simp [hy])
   ·simp at hx;subst hx;exact p1 y hy
theorem Ma {lo hi:Int} {B A:List ak} (hB:∀ x∈B,x.key<lo) (hA:∀ x∈A,hi<x.key) (sB':eU B) (sA':eU A) (hlh:lo≤hi):∀ (bP P:List ak),eU (P++bP)→(∀ x∈P++bP,lo≤x.key∧x.key≤hi)→bP.foldl fe (B++(P++A))=B++((P++bP)++A)
 | [],P,_,_=>by simp
 | r::t,P,h2,h3=>by
  have hp:=List.pairwise_append.1 h2;obtain ⟨p1,p2⟩:=List.pairwise_cons.1 hp.2.1;have hr:=h3 r (by simp);have srt:eU (B++(P++A)):=by
   unfold eU;rw [List.pairwise_append,List.pairwise_append];refine ⟨sB',⟨hp.1,sA',fun x hx y hy=>?_⟩,fun x hx y hy=>?_⟩
   ·have:=h3 x (by simp [hx]);have:=hA y hy;omega
   ·have a:=hB x hx
    rcases List.mem_append.1 hy with hy | hy
    ·have:=h3 y (by simp [hy]);omega
    ·have:=hA y hy;omega
  have e:fe (B++(P++A)) r=B++((P++[r])++A):=by
   rw [Cq srt];unfold Gi;have bp:∀ x∈B++P,ahead x r=true:=by
    intro x hx;rw [oN];rcases List.mem_append.1 hx with hx | hx
    ·have:=hB x hx;omega
    ·exact hp.2.2 x hx r (by simp)
   have ap:∀ x∈A,ahead r x=true:=by
    intro x hx;rw [oN];have:=hA x hx;omega
   rw [← List.append_assoc,List.filter_append,List.filter_append (p:=fun x=>ahead r x),qC bp,qC ap,oF (l:=A) (fun x hx=>by have:=oN.1 (ap x hx);rw [E8];omega),oF (l:=B++P) (fun x hx=>by have:=oN.1 (bp x hx);rw [E8];omega)];simp
  rw [List.foldl_cons,e,Ma hB hA sB' sA' hlh t (P++[r]) (by simpa using h2) (by simpa using h3)];simp
theorem Tx {g lo hi:Int}:∀ {m:List Pc} {f d:Int},AV f d m→f≤lo→own d m lo=g→m.find? (yB g lo hi)=m.find? (AX lo hi)
 | [],_,_,_,_,_=>rfl
 | p::t,f,d,h,hf,ho=>by
  obtain ⟨h1,h2,h3,h4,h5,h6⟩:=h;by_cases c:p.f≤lo
  ·have e1:yB g lo hi p=false:=by unfold yB;simp;omega
   have e2:AX lo hi p=false:=by unfold AX;simp;omega
   rw [List.find?_cons,List.find?_cons,e1,e2];refine Tx h6 c ?_;unfold own at ho;rw [if_pos c] at ho;exact ho
  ·have ho':d=g:=by unfold own at ho;rw [if_neg c] at ho;exact ho
   by_cases c2:p.f≤hi
   ·have e1:yB g lo hi p=true:=by unfold yB;simp;omega
    have e2:AX lo hi p=true:=by unfold AX;simp;omega
    rw [List.find?_cons,List.find?_cons,e1,e2]
   ·have big:∀ q∈p::t,hi<q.f:=by
     intro q hq;rcases List.mem_cons.1 hq with rfl | hq
     ·omega
     ·have:=(LG t _ _ h6 q hq).1;omega
    have n1:(p::t).find? (yB g lo hi)=none:=by
     rw [List.find?_eq_none];intro q hq;have:=big q hq;unfold yB;simp;omega
    have n2:(p::t).find? (AX lo hi)=none:=by
     rw [List.find?_eq_none];intro q hq;have:=big q hq;unfold AX;simp;omega
    rw [n1,n2]
theorem Ve {m:List Pc} (h:Can m) {g lo hi:Int} (hlo:0≤lo) (ho:own 0 m lo=g):m.find? (yB g lo hi)=m.find? (AX lo hi):=by
 cases m with
 | nil=>rfl
 | cons p t =>
  obtain ⟨h1,h2,h3,h4⟩:=h;have e1:yB g lo hi p=false:=by unfold yB;simp;omega
  have e2:AX lo hi p=false:=by unfold AX;simp;omega
  rw [List.find?_cons,List.find?_cons,e1,e2];refine Tx h4 (by omega) ?_;unfold own at ho;rw [if_pos (by omega)] at ho;exact ho
theorem ZI {m:List Pc} (h:Can m) {g lo hi:Int} (hlo:0≤lo):DK m g lo hi=BF m g lo hi:=by
 unfold DK BF;by_cases c:own 0 m lo=g
 ·rw [if_neg (by simp [c]),if_neg (by simp [c]),Ve h hlo c]
 ·rw [if_pos c,if_pos c]
theorem ZJ {m:List Pc} (h:Can m) {g lo hi:Int} (hlo:0≤lo):Io m g lo hi=rF m g lo hi:=by
 unfold Io rF;by_cases c:own 0 m lo=g
 ·rw [if_neg (by simp [c]),if_neg (by simp [c]),Ve h hlo c]
 ·rw [if_pos c,if_pos c]
theorem Ya {D:List ak} (h:eU D) {q:bH} {x:ak} (hx:x∈D) (hk:x.key=q.key∧x.c=q.c):D.find? (sN q.c q.s q.key)=if q.s≤x.s then some x else none:=by
 have uniq:∀ y∈D,sN q.c q.s q.key y=true→y=x:=by
  intro y hy hh;have hy2:y.key=q.key∧y.c=q.c:=by unfold sN at hh;simp at hh;exact hh.1
  obtain ⟨i,hi,rfl⟩:=List.getElem_of_mem hy;obtain ⟨j,hj,rfl⟩:=List.getElem_of_mem hx;rcases Nat.lt_trichotomy i j with c | c | c
  ·have:=List.pairwise_iff_getElem.1 h i j hi hj c;omega
  ·subst c;rfl
  ·have:=List.pairwise_iff_getElem.1 h j i hj hi c;omega
 by_cases c:q.s≤x.s
 ·rw [if_pos c]
  have hh:sN q.c q.s q.key x=true:=by unfold sN;simp [hk.1,hk.2];omega
  cases hf:D.find? (sN q.c q.s q.key) with
  | none=>rw [List.find?_eq_none] at hf;exact absurd hh (by simpa using hf x hx)
  | some y=>rw [uniq y (List.mem_of_find?_eq_some hf) (List.find?_some hf)]
 ·rw [if_neg c,List.find?_eq_none]
  intro y hy hh;have:=uniq y hy hh;subst this;unfold sN at hh;simp at hh;omega
theorem ZK {D:List ak} (h:eU D) {q:bH} (hh:BC D (Ox q)=false):D.find? (sN q.c q.s q.key)=none:=by
 rw [List.find?_eq_none];intro y hy e;have:=VO h hh y hy;unfold sN at e;simp at e;exact this ⟨e.1.1,e.1.2⟩
def Gj (q:bH):Int:=if q.k=4 then q.hi else q.key
theorem abT {q:bH} (h:q.ok=true) (h0:0≤q.key):U5 q=Gj q:=by
 unfold U5 Gj;simp [bH.ok] at h;split <;> split <;> omega
def vz (s:St) (q:bH):ak :=
 if q.k=1 then (match dz (fun x:Row=>x.key) q.key q.key true s.T with | x::_=>⟨q.c,q.s,q.key,1,true,x.val,0⟩ | []=>⟨q.c,q.s,q.key,1,false,0,0⟩)
 else if q.k=3 then ⟨q.c,q.s,q.key,2,false,0,0⟩
 else if (dz (fun x:Row=>x.key) q.key q.key true s.T).length=0∧8≤s.T.length then ⟨q.c,q.s,q.key,5,false,0,0⟩ else ⟨q.c,q.s,q.key,2,false,0,0⟩
def zm (s:St) (q:bH):List Row :=
 if q.k=1 then s.T else if q.k=3 then dz (fun x:Row=>x.key) q.key q.key false s.T
 else if (dz (fun x:Row=>x.key) q.key q.key true s.T).length=0∧8≤s.T.length then s.T else oU s.T ⟨q.key,q.v⟩
def Bd (s:St) (q:bH):St×ak :=
 if om s q=true then
  ({ s with T:=dz (fun x:Row=>x.key) q.key q.hi false s.T,M:=dG s.M q.key q.hi q.to,D:=dz (fun x:ak=>x.key) q.key q.hi false (fe s.D ⟨q.c,q.s,q.key,2,false,0,0⟩),O:=s.O.set q.to.toNat (IntKind.u32.wrap ((qJ s.O q.to).1+1),(qJ s.O q.to).2++[⟨s.g,q.to,(qJ s.O q.to).1,q.key,q.hi,dz (fun x:Row=>x.key) q.key q.hi true s.T,dz (fun x:ak=>x.key) q.key q.hi true (fe s.D ⟨q.c,q.s,q.key,2,false,0,0⟩)⟩]) },⟨q.c,q.s,q.key,2,false,0,0⟩)
 else ({ s with D:=fe s.D ⟨q.c,q.s,q.key,5,false,0,0⟩ },⟨q.c,q.s,q.key,5,false,0,0⟩)
def uA (s:St) (q:bH):St×ak :=
 if DK s.M s.g q.key (Gj q)=true then (s,⟨q.c,q.s,q.key,3,false,0,Io s.M s.g q.key (Gj q)⟩)
 else match s.D.find? (sN q.c q.s q.key) with
 | some x=>if x.s=q.s then (s,x) else (s,⟨q.c,q.s,q.key,4,false,0,0⟩)
 | none=>if q.k=4 then Bd s q else ({ s with T:=zm s q,D:=fe s.D (vz s q) },vz s q)
def zG (s:St) (r:Rg):St :=
 if oL s.g s.n s.I r=true∧(dG s.M r.lo r.hi s.g).length≤1000 then
  { s with T:=r.rows.foldl oU (dz (fun x:Row=>x.key) r.lo r.hi false s.T),M:=dG s.M r.lo r.hi s.g,D:=r.bP.foldl fe (dz (fun x:ak=>x.key) r.lo r.hi false s.D),I:=s.I.set r.src.toNat r.seq }
 else s
def uz (s:St) (c:dY):St×ak :=
 if c.kind=1 then (if c.zq.ok=true then uA s c.zq else (s,qX)) else if c.kind=2 then (if c.qE.ok=true then zG s c.qE.core else s,qX) else if c.kind=3 then (qU s c.peer c.seq,qX) else (s,qX)
theorem adQ {s:St} (hs:ku s) {q:bH} (hq:q.ok=true) (h4:q.k≠4):({ s with T:=zm s q,D:=fe s.D (vz s q) }:St)=qh s q∧vz s q=uw s q:=by
 have e1:=abS hs.sT q.key;have hk:q.k=1∨q.k=2∨q.k=3:=by simp [bH.ok] at hq;omega
 have er:vz s q=uw s q:=by
  unfold vz uw;rw [e1];rcases hk with hk | hk | hk
  ·rw [if_pos hk,if_pos hk]
   cases hh:o7 s.T q.key with
   | true=>simp
   | false=>simp [qR,hh]
  ·have n1:¬ q.k=1:=by omega
   have n3:¬ q.k=3:=by omega
   rw [if_neg n1,if_neg n3,if_neg n1,if_pos hk];unfold sJ;cases hh:o7 s.T q.key with
   | true=>simp
   | false =>
    by_cases c:8≤s.T.length
    ·simp [c]
    ·simp [c]
  ·rw [if_neg (by omega),if_pos hk,if_neg (by omega),if_neg (by omega),if_pos hk]
 refine ⟨?_,er⟩;rw [er,Cq hs.sD,← Fa hs.sD];unfold qh;rcases hk with hk | hk | hk
 ·rw [if_neg (by omega),if_neg (by omega),if_neg (by simp [h4])]
  unfold zm;rw [if_pos hk]
 ·rw [if_pos hk]
  unfold zm;rw [if_neg (by omega),if_neg (by omega),e1];have:(if (if o7 s.T q.key then [(⟨q.key,qR s.T q.key⟩:Row)] else []).length=0∧8≤s.T.length then s.T else oU s.T ⟨q.key,q.v⟩)=zl s.T q.key q.v:=by
   rw [X9 hs.sT,← Tv hs.sT];unfold zl;cases hh:o7 s.T q.key with
   | true=>simp
   | false =>
    by_cases c:8≤s.T.length
    ·simp [c]
    ·simp [c]
  rw [this]
 ·rw [if_neg (by omega),if_pos hk]
  unfold zm;rw [if_neg (by omega),if_pos hk,Vd hs.sT]
theorem adR {s:St} (hs:ku s) {q:bH} (hq:q.ok=true) (h4:q.k=4):Bd s q=(qh s q,uw s q):=by
 have hlh:q.key≤q.hi:=by simp [bH.ok] at hq;omega
 unfold Bd;cases hf:om s q with
 | true =>
  have ep:uw s q=⟨q.c,q.s,q.key,2,false,0,0⟩:=by unfold uw;simp [h4,hf]
  have es:qh s q=LU s q (nU s.D ⟨q.c,q.s,q.key,2,false,0,0⟩):=by unfold qh;rw [ep];simp [h4,hf]
  rw [if_pos rfl,es,ep,Cq hs.sD,Fa hs.sD];have sp:=Q6 hs.sD ⟨q.c,q.s,q.key,2,false,0,0⟩;unfold LU Jw Jy Ow;rw [uL hlh hs.sT.le,uL hlh sp.le,Tw,Tw]
 | false =>
  have ep:uw s q=⟨q.c,q.s,q.key,5,false,0,0⟩:=by unfold uw;simp [h4,hf]
  have es:qh s q={ s with D:=nU s.D ⟨q.c,q.s,q.key,5,false,0,0⟩ }:=by unfold qh;rw [ep];simp [h4,hf]
  rw [if_neg (by simp),es,ep,Cq hs.sD,Fa hs.sD]
theorem adS {s:St} (hs:ku s) {q:bH} (hq:q.ok=true) (h0:0≤q.key):uA s q=qz s q:=by
 have hdo:(if q.k=4 then Bd s q else ({ s with T:=zm s q,D:=fe s.D (vz s q) },vz s q))=(qh s q,uw s q):=by
  by_cases h4:q.k=4
  ·rw [if_pos h4,adR hs hq h4]
  ·rw [if_neg h4]
   obtain ⟨a,b⟩:=adQ hs hq h4;rw [a,b]
 unfold uA qz;have nq:¬ q.ok=false:=by simp [hq]
 rw [if_neg nq,abT hq h0,ZI hs.can h0,ZJ hs.can h0];split
 ·rfl
 ·cases hh:BC s.D (Ox q) with
  | false =>
   have nf:¬ (false=true):=by simp
   rw [ZK hs.sD hh,if_neg nf];exact hdo
  | true =>
   obtain ⟨x,hx,hz⟩:=wC hh;rw [Kw] at hz;rw [Ya hs.sD (List.mem_of_getElem? hx) ⟨hz.1,hz.2⟩,if_pos rfl,hx];dsimp only;rcases Int.lt_trichotomy x.s q.s with c | c | c
   ·have c1:¬ q.s≤x.s:=by omega
    rw [if_neg c1,if_pos c];exact hdo
   ·have c1:q.s≤x.s:=by omega
    have c2:¬ x.s<q.s:=by omega
    rw [if_pos c1,if_neg c2]
   ·have c1:q.s≤x.s:=by omega
    have c2:¬ x.s<q.s:=by omega
    rw [if_pos c1,if_neg c2]
theorem Iw {α:Type} {R:α→α→Prop} (tr:∀ a b c,R a b→R b c→R a c):∀ {l:List α},(∀ (i:Nat) (x y:α),l[i]? = some x→l[i+1]? = some y→R x y)→l.Pairwise R
 | [],_=>List.Pairwise.nil
 | a::t,h=>by
  have ht:t.Pairwise R:=Iw tr (fun i x y hx hy=>h (i+1) x y (by simpa using hx) (by simpa using hy));refine List.pairwise_cons.2 ⟨fun y hy=>?_,ht⟩;obtain ⟨j,hj,rfl⟩:=List.getElem_of_mem hy;have h0:R a t[0]:=h 0 a _ rfl (by simp);cases j with
  | zero=>exact h0
  | succ j=>exact tr _ _ _ h0 (List.pairwise_iff_getElem.1 ht 0 (j+1) (by omega) hj (by omega))
theorem Gl {lo hi:Int} {rows:List Row} (h:uV lo hi rows=true):jZ rows∧(∀ x∈rows,lo≤x.key∧x.key≤hi)∧rows.length≤255:=by
 unfold uV at h;simp only [Bool.and_eq_true,decide_eq_true_eq,List.all_eq_true,List.mem_range] at h;refine ⟨Iw (fun a b c h1 h2=>by omega) (fun i x y hx hy=>?_),fun x hx=>?_,h.1⟩
 ·have:=h.2 (i+1) (mV hy)
  unfold rowAt at this;rw [hy] at this;simp [hx] at this;exact this.2
 ·obtain ⟨j,hj,rfl⟩:=List.getElem_of_mem hx
  have:=h.2 j hj;unfold rowAt at this;rw [List.getElem?_eq_getElem hj] at this;simp at this;exact this.1
theorem Gm {lo hi:Int} {bP:List ak} (h:yx lo hi bP=true):eU bP∧(∀ x∈bP,lo≤x.key∧x.key≤hi)∧bP.length≤255:=by
 unfold yx at h;simp only [Bool.and_eq_true,decide_eq_true_eq,List.all_eq_true,List.mem_range] at h;refine ⟨Iw (fun a b c h1 h2=>by omega) (fun i x y hx hy=>?_),fun x hx=>?_,h.1⟩
 ·have:=h.2 (i+1) (mV hy)
  unfold qV at this;rw [hy] at this;simp [hx] at this;exact oN.1 this.2
 ·obtain ⟨j,hj,rfl⟩:=List.getElem_of_mem hx
  have:=h.2 j hj;unfold qV at this;rw [List.getElem?_eq_getElem hj] at this;simp at this;exact ⟨this.1.1.2,this.1.2⟩
theorem FW {r:aF} (h:r.ok=true):r.src<4∧r.lo≤r.hi∧uV r.lo r.hi r.rows=true∧yx r.lo r.hi r.bP=true:=by
 unfold aF.ok at h;simp only [Bool.and_eq_true,decide_eq_true_eq] at h;exact ⟨h.1.1.1.1.1,h.1.1.2,h.1.2,h.2⟩
theorem KF {α:Type} {f:α→Int} {lo:Int} {l:List α} {x:α} (h:x∈sB f lo l):f x<lo:=by unfold sB at h;simpa using (List.mem_filter.1 h).2
theorem KG {α:Type} {f:α→Int} {lo hi:Int} {l:List α} {x:α} (h:x∈sA f lo hi l):hi<f x:=by
 unfold sA at h;have:=(List.mem_filter.1 h).2;simp at this;exact this.2
theorem abU {s:St} (hs:ku s) {r:aF}:(if r.ok=true then zG s r.core else s)=pW s r.ok r.core:=by
 unfold pW zG;cases hr:r.ok with
 | false=>simp
 | true =>
  obtain ⟨_,hlh,h1,h2⟩:=FW hr;obtain ⟨s1,i1,_⟩:=Gl h1;obtain ⟨s2,i2,_⟩:=Gm h2;rw [if_pos rfl];by_cases c:oL s.g s.n s.I r.core=true∧(dG s.M r.core.lo r.core.hi s.g).length≤1000
  ·rw [if_pos c,if_pos ⟨rfl,c⟩]
   have e1:=L9 (lo:=r.lo) (hi:=r.hi) (B:=sB (fun x:Row=>x.key) r.lo s.T) (A:=sA (fun x:Row=>x.key) r.lo r.hi s.T) (fun x hx=>KF hx) (fun x hx=>KG hx) r.rows [] (by simp) s1 i1;have e2:=Ma (lo:=r.lo) (hi:=r.hi) (B:=sB (fun x:ak=>x.key) r.lo s.D) (A:=sA (fun x:ak=>x.key) r.lo r.hi s.D) (fun x hx=>KF hx) (fun x hx=>KG hx) (hs.sD.sublist List.filter_sublist) (hs.sD.sublist List.filter_sublist) hlh r.bP [] (by simpa using s2) (by simpa using i2);have e3:=uL hlh hs.sT.le;have e4:=uL hlh hs.sD.le;simp only [List.nil_append] at e1 e2;show St.mk .. = St.mk ..;simp only [aF.core];rw [← e3,← e4,e1,e2]
  ·rw [if_neg c,if_neg (fun e=>c e.2)]
theorem abV {s:St} (hs:ku s) {c:dY} (h0:0≤c.zq.key):uz s c=iy s c:=by
 unfold uz iy;split
 ·cases hq:c.zq.ok with
  | true=>rw [if_pos rfl,adS hs hq h0]
  | false=>rw [if_neg (by simp)];unfold qz;rw [if_pos hq]
 ·split
  ·rw [abU hs]
  ·rfl
theorem Ty:∀ {t:List Pc} {p:Pc},AV p.f p.g t→∀ (i:Nat) (x y:Pc),(p::t)[i+1]? = some x→(p::t)[i]? = some y→x.g<4∧y.f<x.f∧y.g≠x.g
 | [],p,_,i,x,y,hx,_=>by simp at hx
 | q::t,p,h,i,x,y,hx,hy=>by
  obtain ⟨h1,h2,h3,h4,h5,h6⟩:=h;cases i with
  | zero=>simp at hx hy;subst hx;subst hy;exact ⟨h5,h1,h3⟩
  | succ i=>exact Ty h6 i x y (by simpa using hx) (by simpa using hy)
theorem NM {m:List Pc} (h:Can m) (hl:m.length≤1000):nM m=true:=by
 cases m with
 | nil=>exact h.elim
 | cons p t =>
  obtain ⟨h1,h2,h3,h4⟩:=h;have ha:=Ty (p:=p) (t:=t) (by rw [h1];exact h4);unfold nM;simp only [Bool.and_eq_true,decide_eq_true_eq,List.all_eq_true,List.mem_range];refine ⟨⟨⟨by simp,hl⟩,by simp [h1]⟩,fun i hi=>?_⟩;unfold zt;rw [List.getElem?_eq_getElem hi];cases i with
  | zero=>simp [h3]
  | succ i =>
   obtain ⟨a1,a2,a3⟩:=ha i _ _ (List.getElem?_eq_getElem hi) (List.getElem?_eq_getElem (by omega));simp only [Nat.add_sub_cancel];rw [List.getElem?_eq_getElem (by omega)];simp only [Bool.and_eq_true,decide_eq_true_eq,Bool.or_eq_true,Bool.not_eq_true',beq_eq_false_iff_ne];exact ⟨a1,.inr ⟨a2,a3⟩⟩
theorem abW {T:List Row} (h:jZ T) (key v:Int):jZ (zl T key v)∧(zl T key v).length≤T.length+1:=by
 have e:=Tv h key v;unfold zl;cases hh:o7 T key with
 | true =>
  rw [hh] at e;simp only [if_true] at e ⊢;exact ⟨e ▸ Q7 h _,by simp⟩
 | false =>
  rw [hh] at e;have nf:¬ (false=true):=by simp
  rw [if_neg nf] at e ⊢;split
  ·exact ⟨h,by omega⟩
  ·exact ⟨e ▸ Q7 h _,by rw [Hu];omega⟩
theorem abX {T:List Row} (h:jZ T) (key:Int):jZ (Ag T key)∧(Ag T key).length≤T.length:=by
 rw [Vd h];exact ⟨h.sublist List.filter_sublist,List.length_filter_le _ _⟩
theorem abY {D:List ak} (h:eU D) (r:ak):eU (nU D r)∧(nU D r).length≤D.length+1:=by
 rw [Fa h];exact ⟨Q6 h r,ZH D r h⟩
theorem Av {α:Type} {f:α→Int} {lo hi:Int} (hlh:lo≤hi) {l:List α} (h:l.Pairwise (fun a b=>f a≤f b)):(sB f lo l++sA f lo hi l).length≤l.length:=by
 rw [uL hlh h];exact List.length_filter_le _ _
theorem adT {B P A:List Row} {lo hi:Int} (hB:∀ x∈B,x.key<lo) (hA:∀ x∈A,hi<x.key) (hP:∀ x∈P,lo≤x.key∧x.key≤hi) (sb:jZ B) (sp:jZ P) (sa:jZ A) (hlh:lo≤hi):jZ (B++(P++A)):=by
 unfold jZ;rw [List.pairwise_append,List.pairwise_append];refine ⟨sb,⟨sp,sa,fun x hx y hy=>?_⟩,fun x hx y hy=>?_⟩
 ·have:=hP x hx;have:=hA y hy;omega
 ·have a:=hB x hx
  rcases List.mem_append.1 hy with hy | hy
  ·have:=hP y hy;omega
  ·have:=hA y hy;omega
theorem abZ {B P A:List ak} {lo hi:Int} (hB:∀ x∈B,x.key<lo) (hA:∀ x∈A,hi<x.key) (hP:∀ x∈P,lo≤x.key∧x.key≤hi) (sb:eU B) (sp:eU P) (sa:eU A) (hlh:lo≤hi):eU (B++(P++A)):=by
 unfold eU;rw [List.pairwise_append,List.pairwise_append];refine ⟨sb,⟨sp,sa,fun x hx y hy=>?_⟩,fun x hx y hy=>?_⟩
 ·have:=hP x hx;have:=hA y hy;omega
 ·have a:=hB x hx
  rcases List.mem_append.1 hy with hy | hy
  ·have:=hP y hy;omega
  ·have:=hA y hy;omega
theorem Iy {α:Type} {l:List α} {i:Nat} {a x:α} (h:x∈l.set i a):x=a∨x∈l:=by
 rcases List.mem_or_eq_of_mem_set h with h | h
 ·exact .inr h
 ·exact .inl h
theorem JN {O:List (Int×List Rg)} {k:Int}:qJ O k∈O∨qJ O k=(0,[]):=by
 unfold qJ;cases h:O[k.toNat]? with
 | none=>exact .inr rfl
 | some x=>exact .inl (List.mem_of_getElem? h)
theorem nL.mono {N N':Nat} {s:St} (h:nL N s) (hn:N≤N'):nL N' s:=⟨Nat.lt_of_lt_of_le h.t hn,Nat.lt_of_lt_of_le h.d hn,fun x hx=>⟨Nat.lt_of_lt_of_le (h.q x hx).1 hn,fun r hr=>⟨Nat.lt_of_lt_of_le ((h.q x hx).2 r hr).1 hn,Nat.lt_of_lt_of_le ((h.q x hx).2 r hr).2 hn⟩⟩⟩
theorem afo {s:St} (hs:ku s) {q:bH} (hq:q.ok=true) (hwf:0≤q.key∧q.hi<18446744073709551616∧0≤q.to):ku (qh s q)∧∀ N,nL N s→nL (N+1) (qh s q):=by
 have hr:=abY hs.sD (uw s q);unfold qh;split
 ·have ht:=abW hs.sT q.key q.v
  refine ⟨⟨hs.g0,hs.gn,hs.n4,ht.1,hr.1,hs.FP,hs.can,hs.ml,hs.ol,hs.il⟩,fun N h=>⟨?_,?_,fun x hx=>(h.mono (Nat.le_succ N)).q x hx⟩⟩
  ·have:=h.t;have:=ht.2;dsimp only;omega
  ·have:=h.d;have:=hr.2;dsimp only;omega
 ·split
  ·have ht:=abX hs.sT q.key
   refine ⟨⟨hs.g0,hs.gn,hs.n4,ht.1,hr.1,hs.FP,hs.can,hs.ml,hs.ol,hs.il⟩,fun N h=>⟨?_,?_,fun x hx=>(h.mono (Nat.le_succ N)).q x hx⟩⟩
   ·have:=h.t;have:=ht.2;dsimp only;omega
   ·have:=h.d;have:=hr.2;dsimp only;omega
  ·split
   ·rename_i h4
    obtain ⟨h4,hf⟩:=h4;have hlh:q.key≤q.hi:=by simp [bH.ok] at hq;omega
    have hto:q.to<4:=by simp [bH.ok] at hq;omega
    obtain ⟨gc,_⟩:=Jl hs.can hwf.1 hlh hwf.2.1 ⟨hwf.2.2,hto⟩;have f8:(dG s.M q.key q.hi q.to).length≤8:=by unfold om at hf;simp at hf;exact hf.2
    have fq:(qJ s.O q.to).2.length<4:=by unfold om at hf;simp at hf;exact hf.1.2
    refine ⟨⟨hs.g0,hs.gn,hs.n4,?_,?_,NM gc (Nat.le_trans f8 (by omega)),gc,Nat.le_trans f8 (by omega),?_,hs.il⟩,fun N h=>⟨?_,?_,fun x hx=>?_⟩⟩
    ·show jZ (Jw _ _ _);unfold Jw;rw [uL hlh hs.sT.le];exact hs.sT.sublist List.filter_sublist
    ·show eU (Jy _ _ _);unfold Jy;rw [uL hlh hr.1.le];exact hr.1.sublist List.filter_sublist
    ·show ((List.set _ _ _).length:Int)=_;rw [List.length_set];exact hs.ol
    ·have a:(Jw s.T q.key q.hi).length≤s.T.length:=by unfold Jw;exact Av hlh hs.sT.le
     have:=h.t;show (Jw _ _ _).length<_;omega
    ·have a:(Jy (nU s.D (uw s q)) q.key q.hi).length≤(nU s.D (uw s q)).length:=by unfold Jy;exact Av hlh hr.1.le
     have:=hr.2;have:=h.d;show (Jy _ _ _).length<_;omega
    ·rcases Iy hx with rfl | hx
     ·have hN:0<N:=Nat.lt_of_le_of_lt (Nat.zero_le _) h.t
      have base:(qJ s.O q.to).2.length<N∧∀ r∈(qJ s.O q.to).2,r.rows.length<N∧r.bP.length<N:=by
       rcases JN (O:=s.O) (k:=q.to) with hm | hm
       ·exact h.q _ hm
       ·rw [hm];exact ⟨hN,fun r hr=>absurd hr (List.not_mem_nil)⟩
      refine ⟨by simp only [List.length_append,List.length_singleton];omega,fun r hr'=>?_⟩;rcases List.mem_append.1 hr' with hr' | hr'
      ·have:=base.2 r hr';omega
      ·simp only [List.mem_singleton] at hr'
       subst hr';unfold Ow;dsimp only;have a1:(sW (fun x:Row=>x.key) q.key q.hi s.T).length≤s.T.length:=List.length_filter_le _ _;have a2:(sW (fun x:ak=>x.key) q.key q.hi (nU s.D (uw s q))).length≤(nU s.D (uw s q)).length:=List.length_filter_le _ _;have:=h.t;have:=h.d;have:=hr.2;exact ⟨by omega,by omega⟩
     ·have:=h.q x hx
      exact ⟨by omega,fun r hr=>by have:=this.2 r hr;omega⟩
   ·refine ⟨⟨hs.g0,hs.gn,hs.n4,hs.sT,hr.1,hs.FP,hs.can,hs.ml,hs.ol,hs.il⟩,fun N h=>⟨?_,?_,fun x hx=>(h.mono (Nat.le_succ N)).q x hx⟩⟩
    ·have:=h.t;dsimp only;omega
    ·have:=h.d;have:=hr.2;dsimp only;omega
theorem Tz {s:St} (hs:ku s) {q:bH} (hwf:0≤q.key∧q.hi<18446744073709551616∧0≤q.to):ku (qz s q).1∧∀ N,nL N s→nL (N+1) (qz s q).1:=by
 have same:ku s∧∀ N,nL N s→nL (N+1) s:=⟨hs,fun N h=>h.mono (Nat.le_succ N)⟩;unfold qz;split
 ·exact same
 ·rename_i hq
  have hdo:=afo hs (by simpa using hq) hwf;split
  ·exact same
  ·split
   ·split
    ·split
     ·exact hdo
     ·split <;> exact same
    ·exact same
   ·exact hdo
theorem adU {s:St} (hs:ku s) {r:aF} (hwf:0≤r.lo∧r.hi<18446744073709551616):ku (pW s r.ok r.core)∧∀ N,nL N s→nL (N+255) (pW s r.ok r.core):=by
 unfold pW;split
 ·rename_i c
  obtain ⟨hr,hn,hg⟩:=c;obtain ⟨_,hlh,h1,h2⟩:=FW hr;obtain ⟨s1,i1,l1⟩:=Gl h1;obtain ⟨s2,i2,l2⟩:=Gm h2;have hg4:=hs.gn;have hn4:=hs.n4;have hg0:=hs.g0;obtain ⟨gc,_⟩:=Jl hs.can hwf.1 hlh hwf.2 (g:=s.g) ⟨hg0,by omega⟩;have b1:(sB (fun x:Row=>x.key) r.lo s.T++sA (fun x:Row=>x.key) r.lo r.hi s.T).length≤s.T.length:=Av hlh hs.sT.le;have b2:(sB (fun x:ak=>x.key) r.lo s.D++sA (fun x:ak=>x.key) r.lo r.hi s.D).length≤s.D.length:=Av hlh hs.sD.le;simp only [List.length_append] at b1 b2;refine ⟨⟨hs.g0,hs.gn,hs.n4,adT (lo:=r.lo) (hi:=r.hi) (fun x hx=>KF hx) (fun x hx=>KG hx) i1 (hs.sT.sublist List.filter_sublist) s1 (hs.sT.sublist List.filter_sublist) hlh,abZ (lo:=r.lo) (hi:=r.hi) (fun x hx=>KF hx) (fun x hx=>KG hx) i2 (hs.sD.sublist List.filter_sublist) s2 (hs.sD.sublist List.filter_sublist) hlh,NM gc hg,gc,hg,hs.ol,?_⟩,fun N h=>⟨?_,?_,fun x hx=>(h.mono (by omega)).q x hx⟩⟩
  ·show ((List.set _ _ _).length:Int)=_;rw [List.length_set];exact hs.il
  ·have:=h.t
   simp only [aF.core,List.length_append];omega
  ·have:=h.d
   simp only [aF.core,List.length_append];omega
 ·exact ⟨hs,fun N h=>h.mono (by omega)⟩
theorem TA {s:St} (hs:ku s) (peer sq:Int):ku (qU s peer sq)∧∀ N,nL N s→nL N (qU s peer sq):=by
 unfold qU;split
 ·refine ⟨⟨hs.g0,hs.gn,hs.n4,hs.sT,hs.sD,hs.FP,hs.can,hs.ml,?_,hs.il⟩,fun N h=>⟨h.t,h.d,fun x hx=>?_⟩⟩
  ·show ((List.set _ _ _).length:Int)=_;rw [List.length_set];exact hs.ol
  ·rcases Iy hx with rfl | hx
   ·rcases JN (O:=s.O) (k:=peer) with hm | hm
    ·refine ⟨Nat.lt_of_le_of_lt (List.length_filter_le _ _) (h.q _ hm).1,fun r hr=>(h.q _ hm).2 r (List.mem_filter.1 hr).1⟩
    ·rw [hm]
     have hN:0<N:=Nat.lt_of_le_of_lt (Nat.zero_le _) h.t;exact ⟨hN,fun r hr=>absurd hr (List.not_mem_nil)⟩
   ·exact h.q x hx
 ·exact ⟨hs,fun N h=>h⟩
theorem adV {s:St} (hs:ku s) {c:dY} (hq:0≤c.zq.key∧c.zq.hi<18446744073709551616∧0≤c.zq.to) (hr:0≤c.qE.lo∧c.qE.hi<18446744073709551616):ku (iy s c).1∧∀ N,nL N s→nL (N+255) (iy s c).1:=by
 unfold iy;split
 ·exact ⟨(Tz hs hq).1,fun N h=>((Tz hs hq).2 N h).mono (by omega)⟩
 ·split
  ·exact adU hs hr
  ·split
   ·exact ⟨(TA hs _ _).1,fun N h=>((TA hs _ _).2 N h).mono (by omega)⟩
   ·exact ⟨hs,fun N h=>h.mono (by omega)⟩
end
end Go.Proofs.YtignemioillaiaaGreat
