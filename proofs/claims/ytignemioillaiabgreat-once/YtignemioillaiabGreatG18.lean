/- Lemmas. -/
import Derived.Test.YtignemioillaiabGreatG17
namespace Go.Proofs.YtignemioillaiabGreat
set_option maxHeartbeats 8000000
set_option linter.unusedSectionVars false
set_option maxRecDepth 100000
open List
section
open Go Go.Conc
def edge(ops:Array Oper)(i j:Nat):Bool:=match ops[j]? with
 |some o=>o.after.any λe=>Region.binds .any e&&e.on==i
 |none=>false
def zf(ops:Array Oper):Bool:=Region.noSelect ops&&(List.range ops.size).all λi=>(List.range ops.size).all λj=>i==j||edge ops i j||edge ops j i||match ops[i]?,ops[j]? with
 |some x,some y=>x.apart ops y
 |_,_=>true
noncomputable def reach(ops:Array Oper)(n i:Nat):Nat->Bool:=Nat.rec (motive:=λ_=>Nat->Bool) (λ_=>false) (λ_ ih j=>match ops.toList[j]? with
 |some o=>o.after.toList.any λe=>Region.binds .any e&&(Nat.beq e.on i||ih e.on)
 |none=>false) n
theorem Gv(ops:Array Oper)(n i j:Nat):reach ops (n+1) i j=match ops.toList[j]? with
 |some o=>o.after.toList.any λe=>Region.binds .any e&&(Nat.beq e.on i||reach ops n i e.on)
 |none=>false:=rfl
section
variable(P:Program)[kD P](X:Goroutine->World->Prop)(b:Frame)(k:List Item)(cs:List Frame)(ops:Array Oper)(S:World->Prop)(es qs:Nat->Bool)
def AnyS:Nat->Array Bool->Act->World->Prop
 |0,l,a,w=>Region.ready .any ops l=[]/\X (G (b.at a k) cs) w
 |n+1,l,a,w=>(Region.ready .any ops l=[]->X (G (b.at a k) cs) w)/\∀i∈Region.ready .any ops l,∀o,ops[i]?=some o->if Region.wanted o (yielded ops a.tmps)=true then iG P o a.eval w (λv w'=>((es i=true->S w')/\(qs i=true->w'.heap=w.heap))/\AnyS n (l.setIfInBounds i true) (a.put o.dst v) w')else AnyS n (l.setIfInBounds i true) (a.put o.dst undef) w
def rR(S:World->Prop)(q0:Prop)(o:Oper)(v:Value)(a:Act):Prop :=
 (Region.wanted o (yielded ops a.tmps)=true/\q0/\∀w,S w->aK P (execOp a.eval o) w/\(execOp a.eval o).run P w=.ok (.value v) w)\/(Region.wanted o (yielded ops a.tmps)=false/\v=undef)
end
section
variable{P:Program}[kD P]{main:Bool}{D:World->World->Array Event->Prop}{X:Goroutine->World->Prop}{b:Frame}{k:List Item}{cs:List Frame}{ops:Array Oper}{S:World->Prop}{es qs:Nat->Bool}
theorem QQ(hX:SX P main D X)(hk:b.kind≠.early):∀(n t:Nat) (l:Array Bool) (a:Act) (w:World),AnyS P X b k cs ops S es qs n l a w->X (G (b.at a (.inRegion ops (Region.linearise.go .any ops n t l [])::k)) cs) w:=by
 intro n;induction n with
 |zero=>exact λt l a w h=>aH.regionEnd hX.c h.2
 |succ n ih =>
  intro t l a w h;simp only[Region.linearise.go];change X (G (b.at a (.inRegion ops (match(Region.ready .any ops l)[t%(Region.ready .any ops l).length]? with
   |some i=>Region.linearise.go .any ops n (t / (Region.ready .any ops l).length) (l.setIfInBounds i true) [i]
   |none=>[].reverse)::k)) cs) w
  cases hi:(Region.ready .any ops l)[t%(Region.ready .any ops l).length]? with
  |none =>
   have hnil:Region.ready .any ops l=[]:=by
    cases hr:Region.ready .any ops l with
    |nil=>rfl
    |cons x xs =>
     rw[hr]at hi;have:=Jct.1 hi;have:=Nat.mod_lt t (show 0<(x::xs).length by simp);omega
   exact aH.regionEnd hX.c (h.1 hnil)
  |some i =>
   simp only[];rw[linearise_go_acc,reverse_singleton,singleton_append];have hm:=Jcv hi;obtain⟨_,o,ho,_⟩:=mem_ready.1 hm;have h2:=h.2 i hm o ho;by_cases hw:Region.wanted o (yielded ops a.tmps)=true
   .rw[Jb6 hw]at h2
    exact h2.go hX ho hw hk λv w' hx=>ih _ _ _ w' hx.2
   .rw[Jb5 hw]at h2
    exact hX.c.go rfl (λ_=>stepG_unwanted ho (by simpa using hw)) (ih _ _ _ w h2)
theorem AnyS.same(hX:SX P main D X)(hS:∀w w',cO w w'->S w->S w'):∀(n:Nat) (l:Array Bool) (a:Act) (w w₁:World),AnyS P X b k cs ops S es qs n l a w->cO w w₁->AnyS P X b k cs ops S es qs n l a w₁
 |0,_,_,_,_,h,hs=>⟨h.1,hX.rely hs h.2⟩
 |n+1,l,a,w,w₁,h,hs=>⟨λe=>hX.rely hs (h.1 e),λi hi o ho=>by
  have h2:=h.2 i hi o ho;split
  .rename_i hw
   rw[Jb6 hw]at h2;exact(h2.same hs).mono λv w' hx=>⟨⟨hx.1.1,λe=>by rw[hs.heap];exact hx.1.2 e⟩,hx.2⟩
  .rename_i hw
   rw[Jb5 hw]at h2;exact AnyS.same hX hS n _ _ _ _ h2 hs⟩
theorem rR.of_same{q0:Prop}{o:Oper}{v:Value}{a a':Act}(hy:rR P ops S q0 o v a)(he:execOp a'.eval o=execOp a.eval o)(hw:Region.wanted o (yielded ops a'.tmps)=Region.wanted o (yielded ops a.tmps)):rR P ops S q0 o v a':=by
 unfold rR at *;rw[he,hw];exact hy
def Closed(ops:Array Oper)(l:Array Bool):Prop:=∀j o,ops[j]?=some o->l.getD j true=true->∀e∈o.after,Region.binds .any e=true->l.getD e.on false=true
theorem Closed.set{l:Array Bool}(h:Closed ops l){i:Nat}(hi:i∈Region.ready .any ops l):Closed ops (l.setIfInBounds i true):=by
 intro j o ho hj e he hb;by_cases hji:i=j
 .subst hji
  obtain⟨_,o',ho',hall⟩:=mem_ready.1 hi;rw[ho]at ho';cases ho'
  exact getD_set_true (hall e he hb)
 .rw[getD_set_ne true hji]at hj
  exact getD_set_true (h j o ho hj e he hb)
theorem ZB{l:Array Bool}{i:Nat}(h:l.getD i false=true):l.getD i true=true:=by
 rw[Jcx]at h |-;cases hq:l[i]? with
 |none=>rfl
 |some c=>rw[hq]at h;exact h
theorem QR{l:Array Bool}(hc:Closed ops l):∀(n i j:Nat) (o:Oper),ops[j]?=some o->(∀e∈o.after,Region.binds .any e=true->l.getD e.on false=true)->reach ops n i j=true->l.getD i false=true:=by
 intro n;induction n with
 |zero=>intro i j o _ _ h;cases h
 |succ n ih =>
  intro i j o ho hall h;rw[Gv,Jdw,ho]at h;dsimp only at h;obtain⟨e,he,hb⟩:=any_eq_true.1 h;simp only[Jdy,Bool.or_eq_true]at hb;have hd:=hall e (by simpa using he) hb.1;rcases hb.2 with h1|h1
  .rw[<-Jdq h1];exact hd
  .cases n with
   |zero=>cases h1
   |succ n =>
    cases ho':ops[e.on]? with
    |none=>rw[Gv,Jdw,ho']at h1;cases h1
    |some o'=>exact ih i e.on o' ho' (hc e.on o' ho' (ZB hd)) h1
theorem iG.Yd{q0:Prop}{oi oj:Oper}{v:Value}(hap:oi.apart ops oj=true)(hsi:∀cs b,oi.op≠.select cs b)(hsj:∀cs b,oj.op≠.select cs b){K:Act->World->Prop}{a:Act}{w:World}(hy:rR P ops S q0 oi v a)
 (h:if Region.wanted oj (yielded ops (a.put oi.dst v).tmps)=true then iG P oj (a.put oi.dst v).eval w (λu w'=>K ((a.put oi.dst v).put oj.dst u) w')else K ((a.put oi.dst v).put oj.dst undef) w) :
 if Region.wanted oj (yielded ops a.tmps)=true then iG P oj a.eval w (λu w'=>rR P ops S q0 oi v (a.put oj.dst u)/\K ((a.put oj.dst u).put oi.dst v) w')else rR P ops S q0 oi v (a.put oj.dst undef)/\K ((a.put oj.dst undef).put oi.dst v) w:=by
 obtain⟨h1,h2,h3⟩:=Oper.apart_spec hap;have keep:∀u,rR P ops S q0 oi v (a.put oj.dst u):=λu=>hy.of_same (execOp_put oi hsi a oj.dst u h3) (wanted_put oi a oj.dst u h3)
 rw[wanted_put oj a oi.dst v h1]at h;split
 .rename_i hw
  rw[Jb6 hw]at h;unfold iG at h |-;rw[execOp_put oj hsj a oi.dst v h1]at h;rcases h with h|⟨f,args,Post,e1,e2,e3,e4⟩
  .refine .inl λw₁ hs=>⟨(h w₁ hs).1,?_⟩
   obtain⟨u,w',k1,k2⟩:=(h w₁ hs).2;exact⟨u,w',k1,keep u,by rw[<-Act.put_comm a v u h2];exact k2⟩
  .exact .inr ⟨f,args,Post,e1,e2,e3,λu w' hp=>⟨keep u,by rw[<-Act.put_comm a v u h2];exact e4 u w' hp⟩⟩
 .rename_i hw
  rw[Jb5 hw]at h;exact⟨keep undef,by rw[<-Act.put_comm a v undef h2];exact h⟩
theorem zY(hX:SX P main D X)(OI:∀w w',w'.heap=w.heap->S w->S w')(hfree:zf ops=true){i:Nat}{oi:Oper}{v:Value}(hi:ops[i]?=some oi)(q:Bool)(hns:q=false->∀j,j<ops.size->j≠i->reach ops ops.size i j=true\/es j=true\/qs j=true) :
 ∀(n:Nat) (l:Array Bool) (a:Act) (w:World),Closed ops l->i∈Region.ready .any ops l->rR P ops (λw=>q=false->S w) (es i=false) oi v a->(q=false->S w) ->
  AnyS P X b k cs ops S es qs n (l.setIfInBounds i true) (a.put oi.dst v) w->AnyS P X b k cs ops S es qs (n+1) l a w:=by
 simp only[zf,Jdy,all_eq_true,Jc3]at hfree;obtain⟨hsel,hfree⟩:=hfree;have hsel:=Region.noSelect_spec hsel;have hSS:∀w w',cO w w'->S w->S w':=λw w' hs=>OI w w' hs.heap
 have own:∀(n:Nat) (l:Array Bool) (a:Act) (w:World),rR P ops (λw=>q=false->S w) (es i=false) oi v a->(q=false->S w)->AnyS P X b k cs ops S es qs n (l.setIfInBounds i true) (a.put oi.dst v) w->if Region.wanted oi (yielded ops a.tmps)=true then iG P oi a.eval w (λv w'=>((es i=true->S w')/\(qs i=true->w'.heap=w.heap))/\AnyS P X b k cs ops S es qs n (l.setIfInBounds i true) (a.put oi.dst v) w')else AnyS P X b k cs ops S es qs n (l.setIfInBounds i true) (a.put oi.dst undef) w:=by
  intro n l a w hy hS H;rcases hy with⟨hw,OJ,hv⟩|⟨hw,rfl⟩
  .rw[Jb6 hw]
   refine .inl λw₁ hs=>?_
   have hh:=hv w₁ λe=>hSS _ _ hs (hS e)
   exact⟨hh.1,v,w₁,.inl hh.2,⟨λe=>(by rw[OJ]at e;cases e),λ_=>hs.heap⟩,AnyS.same hX hSS _ _ _ _ _ H hs⟩
  .rw[Jb5 (by simp[hw])]
   exact H
 intro n;induction n with
 |zero =>
  intro l a w hc hr hy hS H;refine⟨λh=>(by rw[h]at hr;cases hr),λj hj o ho=>?_⟩;by_cases hji:j=i
  .subst hji
   rw[hi]at ho;cases ho
   exact own 0 l a w hy hS H
  .have:=ready_mono hj hji
   rw[H.1]at this;cases this
 |succ n ih =>
  intro l a w hc hr hy hS H;refine⟨λh=>(by rw[h]at hr;cases hr),λj hj o ho=>?_⟩;by_cases hji:j=i
  .subst hji
   rw[hi]at ho;cases ho
   exact own (n+1) l a w hy hS H
  .have h1:=H.2 j (ready_mono hj hji) o ho
   obtain⟨hjun,oj,hoj,hall⟩:=mem_ready.1 hj;rw[ho]at hoj;cases hoj
   obtain⟨h0,oi',abG,aeq⟩:=mem_ready.1 hr;rw[hi]at abG;cases abG
   have hlj:j<ops.size:=(Jbd.1 ho).1;have Tx:i<ops.size:=(Jbd.1 hi).1;have h0':l.getD i false=false:=by
    rw[Jcx]at h0 |-;cases hq:l[i]? with
    |none=>rfl
    |some c=>rw[hq]at h0;exact h0
   have aer:l.getD j false=false:=by
    rw[Jcx]at hjun |-;cases hq:l[j]? with
    |none=>rfl
    |some c=>rw[hq]at hjun;exact hjun
   have ne1:edge ops i j=false:=by
    cases hb:edge ops i j with
    |false=>rfl
    |true =>
     unfold edge at hb;rw[ho]at hb;dsimp only at hb;obtain⟨e,he,hb⟩:=Array.any_eq_true'.1 hb;simp only[Jdy,Jfc]at hb;have:=hall e he hb.1;rw[hb.2,h0']at this;cases this
   have OB:edge ops j i=false:=by
    cases hb:edge ops j i with
    |false=>rfl
    |true =>
     unfold edge at hb;rw[hi]at hb;dsimp only at hb;obtain⟨e,he,hb⟩:=Array.any_eq_true'.1 hb;simp only[Jdy,Jfc]at hb;have:=aeq e he hb.1;rw[hb.2,aer]at this;cases this
   have hap:oi.apart ops o=true:=by
    have:=hfree i Tx j hlj;rw[hi,ho]at this;simpa[ne1,OB,Ne.symm hji]using this
   have hnr:reach ops ops.size i j=false:=by
    cases hb:reach ops ops.size i j with
    |false=>rfl
    |true =>
     have:=QR hc _ i j o ho hall hb;rw[h0']at this;cases this
   have h2:=iG.Yd (K:=λa' w'=>(((es j=true->S w')/\(qs j=true->w'.heap=w.heap))/\AnyS P X b k cs ops S es qs n ((l.setIfInBounds i true).setIfInBounds j true) a' w')\/(w'=w/\AnyS P X b k cs ops S es qs n ((l.setIfInBounds i true).setIfInBounds j true) a' w')) hap (λcs b=>hsel i oi cs b hi) (λcs b=>hsel j o cs b ho) hy (by
    split
    .rename_i hw
     rw[Jb6 hw]at h1;exact h1.mono λv w hx=>.inl hx
    .rename_i hw
     rw[Jb5 hw]at h1;exact .inr ⟨rfl,h1⟩)
   have fin:∀u w',rR P ops (λw=>q=false->S w) (es i=false) oi v (a.put o.dst u)->((((es j=true->S w')/\(qs j=true->w'.heap=w.heap))/\AnyS P X b k cs ops S es qs n ((l.setIfInBounds i true).setIfInBounds j true) ((a.put o.dst u).put oi.dst v) w')\/(w'=w/\AnyS P X b k cs ops S es qs n ((l.setIfInBounds i true).setIfInBounds j true) ((a.put o.dst u).put oi.dst v) w'))->AnyS P X b k cs ops S es qs (n+1) (l.setIfInBounds j true) (a.put o.dst u) w':=by
    intro u w' hy' hA;rw[Array.setIfInBounds_comm _ _ (Ne.symm hji)]at hA;refine ih _ _ w' (hc.set hj) (ready_mono hr (Ne.symm hji)) hy' (λe=>?_) (by rcases hA with hA|hA<;>exact hA.2);rcases hA with hA|hA
    .rcases hns e j hlj hji with h|h|h
     .rw[hnr]at h;cases h
     .exact hA.1.1 h
     .exact OI _ _ (hA.1.2 h) (hS e)
    .rw[hA.1];exact hS e
   split
   .rename_i hw
    have hw':Region.wanted o (yielded ops (a.put oi.dst v).tmps)=true:=by
     obtain⟨g1,_,_⟩:=Oper.apart_spec hap;rw[wanted_put o a oi.dst v g1];exact hw
    have h3:=iG.Yd (K:=λa' w'=>((es j=true->S w')/\(qs j=true->w'.heap=w.heap))/\AnyS P X b k cs ops S es qs n ((l.setIfInBounds i true).setIfInBounds j true) a' w') hap (λcs b=>hsel i oi cs b hi) (λcs b=>hsel j o cs b ho) hy (by
     rw[Jb6 hw'];have h1:=H.2 j (ready_mono hj hji) o ho;rw[Jb6 hw']at h1;exact h1)
    rw[Jb6 hw]at h3;exact h3.mono λu w' hx=>⟨hx.2.1,fin u w' hx.1 (.inl hx.2)⟩
   .rename_i hw
    rw[Jb5 hw]at h2;exact fin undef w h2.1 h2.2
end
def dK(n:Nat)(s:Sg)(d:Option Nat)(v:Value):Sg:=match d with
 |some d=>bif Nat.blt d n then(d,v)::s else s
 |none=>s
structure Fit(n:Nat)(s:Sg)(a:Act):Prop where
 defers:a.defers=[]
 size:a.tmps.size=n
 get:∀i v,at? s i=some v->a.tmps.getD i undef=v
theorem Fit.ev{n:Nat}{s:Sg}{a:Act}(h:Fit n s a)(x:Operand)(v:Value)(hx:ev s x=some v):a.eval x=v:=by
 cases x with
 |tmp t=>exact h.get t v hx
 |const u=>exact Jbm hx
 |global g=>exact Jbm hx
 |func f=>exact Jbm hx
theorem Fit.put{n:Nat}{s:Sg}{a:Act}(h:Fit n s a)(d:Option Nat)(v:Value):Fit n (dK n s d v) (a.put d v):=by
 cases d with
 |none=>exact h
 |some d =>
  unfold dK;dsimp only;refine⟨h.defers,by show(a.tmps.setIfInBounds d v).size=n;simp[h.size],λi u hi=>?_⟩;show(a.tmps.setIfInBounds d v).getD i undef=u;cases hb:Nat.blt d n with
  |true =>
   rw[hb]at hi;have hlt:d<n:=by have:=Jc4 hb;omega
   rw[cond_true,at?_cons]at hi;cases he:Nat.beq i d with
   |true =>
    rw[he]at hi;have:=Jdq he;subst this;simp only[cond_true,Jbc]at hi;subst hi;rw[Jcx,Array.getElem?_setIfInBounds_self_of_lt (by rw[h.size];exact hlt)];rfl
   |false =>
    rw[he]at hi;have hne:d≠i:=λe=>by subst e;rw[Nat.beq_refl]at he;cases he
    rw[Jcx,Array.getElem?_setIfInBounds_ne hne,<-Jcx];exact h.get i u hi
  |false =>
   rw[hb]at hi;have hge:¬d<n:=λhlt=>by rw[show Nat.blt d n=true from Jca hlt]at hb;cases hb
   have:a.tmps.setIfInBounds d v=a.tmps:=by
    unfold Array.setIfInBounds;rw[dif_neg (by rw[h.size];exact hge)]
   rw[this];exact h.get i u hi
theorem Fit.more{n:Nat}{s:Sg}{a:Act}(h:Fit n s a){d:Nat}{v:Value}(hv:a.tmps.getD d undef=v):Fit n ((d,v)::s) a:=by
 refine⟨h.defers,h.size,λi u hi=>?_⟩;rw[at?_cons]at hi;cases he:Nat.beq i d with
 |true =>
  rw[he]at hi;have:=Jdq he;subst this;simp only[cond_true,Jbc]at hi;rw[<-hi];exact hv
 |false=>rw[he]at hi;exact h.get i u hi
inductive Gd where
 |y|n|m (d:Nat) (b want:Bool)|bad
noncomputable def Eg(ops:Array Oper)(s:Sg)(o:Oper):Gd:=match o.guard with
 |none=>.y
 |some (j,want)=>match ops.toList[j]? with
  |some oj=>match oj.dst with
   |some d=>match at? s d with
    |some (.bool b)=>.m d b want
    |some _=>.n
    |none=>.bad
   |none=>.n
  |none=>.n
def gW(s:Sg)(A B:Sg->Prop):Gd->Prop
 |.y=>A s
 |.n=>B s
 |.m d b want=>bif b==want then A ((d,.bool want)::s)else B ((d,.bool (!want))::s)
 |.bad=>False
theorem Gx{ops:Array Oper}{tmps:Array Value}{j:Nat}(h:(ops[j]?).bind (·.dst)=none):yielded ops tmps j=none:=by
 unfold yielded;rw[h];rfl
theorem QS{ops:Array Oper}{tmps:Array Value}{j d:Nat}{oj:Oper}{v:Value}(hj:ops[j]?=some oj)(hd:oj.dst=some d)(hv:tmps.getD d undef=v):yielded ops tmps j=match v with | .bool b=>some b|_=>none:=by
 unfold yielded;rw[hj,Jdt,hd,Jdt];rw[Jcx]at hv;cases hx:tmps[d]? with
 |none=>rw[hx]at hv;subst hv;rfl
 |some z=>rw[hx]at hv;simp only[Jd1]at hv;subst hv;cases z<;>rfl
theorem ah{c:Bool}{A B:Prop}(h1:c=true->A)(h2:c=false->B):cond c A B:=by
 cases c
 .exact h2 rfl
 .exact h1 rfl
theorem Ko{n:Nat}{ops:Array Oper}{s:Sg}{o:Oper}{a:Act}{A B:Sg->Prop}(hf:Fit n s a)(h:gW s A B (Eg ops s o)):∃s',Fit n s' a/\((Region.wanted o (yielded ops a.tmps)=true/\A s')\/(Region.wanted o (yielded ops a.tmps)=false/\B s')):=by
 unfold Eg at h;unfold Region.wanted;cases hg:o.guard with
 |none=>rw[hg]at h;exact⟨s,hf,.inl ⟨rfl,h⟩⟩
 |some p =>
  obtain⟨j,want⟩:=p;rw[hg]at h;dsimp only at h |-;rw[Jdw]at h;cases hj:ops[j]? with
  |none=>rw[hj]at h;exact⟨s,hf,.inr ⟨by rw[Gx (by rw[hj];rfl)];rfl,h⟩⟩
  |some oj =>
   rw[hj]at h;dsimp only at h;cases hd:oj.dst with
   |none=>rw[hd]at h;exact⟨s,hf,.inr ⟨by rw[Gx (by rw[hj];exact hd)];rfl,h⟩⟩
   |some d =>
    rw[hd]at h;dsimp only at h;cases ha:at? s d with
    |none=>rw[ha]at h;exact h.elim
    |some v =>
     rw[ha]at h;have hv:=hf.get d v ha;rw[QS hj hd hv];cases v with
     |bool b =>
      dsimp only at h |-;unfold gW at h;dsimp only at h;cases hb:b==want with
      |true =>
       rw[hb]at h;have e:b=want:=by simpa using hb
       exact⟨_,hf.more (hv.trans (by rw[e])),.inl ⟨by simp[e],h⟩⟩
      |false =>
       rw[hb]at h;have e:b = !want:=by cases b<;>cases want<;>simp_all
       exact⟨_,hf.more (hv.trans (by rw[e])),.inr ⟨by rw[e];cases want<;>rfl,h⟩⟩
     |_=>exact⟨s,hf,.inr ⟨rfl,h⟩⟩
section
variable{P:Program}[kD P](E:ng P)(n:Nat)(ops:Array Oper)(K:Sg->World->Prop)
noncomputable def LJ(os:List Oper):Sg->World->Prop:=rec (motive:=λ_=>Sg->World->Prop) (λs w=>K s w) (λo _ ih s w=>gW s (λs=>OH E s w (λv w'=>ih (dK n s o.dst v) w') o) (λs=>ih (dK n s o.dst undef) w) (Eg ops s o)) os
theorem Tz(o:Oper)(os:List Oper)(s:Sg)(w:World):LJ E n ops K (o::os) s w=gW s (λs=>OH E s w (λv w'=>LJ E n ops K os (dK n s o.dst v) w') o) (λs=>LJ E n ops K os (dK n s o.dst undef) w) (Eg ops s o):=rfl
def kd:Op->Nat
 |.move _ | .assign _ | .pick _ _ _ | .fieldAddr _ _ _ | .field _ _ _ | .indexAddr _ _ _ | .index _ _ _ | .binOp _ _ _ _ _ | .unOp _ _ _ | .convert _ _ _ | .extract _ _ | .build _ _ | .makeFunc _ _ _ | .nilCheck _ | .slice _ _ _ _ _=>0
 |.call {callee:=.builtin .len,.. } | .call {callee:=.builtin .cap,.. } | .call {callee:=.builtin .max,.. } | .call {callee:=.builtin .min,.. }=>0
 |.load _ _ | .lookup _ _ _ _=>1
 |_=>2
def rT(j:Nat):Bool:=match ops.toList[j]? with
 |some o=>Nat.blt (kd o.op) 2
 |none=>false
def rdB(j:Nat):Bool:=match ops.toList[j]? with
 |some o=>Nat.beq (kd o.op) 1
 |none=>false
noncomputable def oF(j:Nat):Bool:=!rT ops j&&(List.range ops.toList.length).any λi=>rdB ops i && !(Nat.beq i j) && !reach ops ops.size i j
def uq(l:List Nat)(o:Oper):Bool:=o.after.toList.all λe=>!Region.binds .any e||l.contains e.on
def wP:List Oper->Nat->List (Nat×Oper)
 | [],_=>[]
 |o::os,i=>(i,o)::wP os (i+1)
def iC:List (World->Prop)->World->Prop
 | [],_=>True
 |f::r,w=>f w/\iC r w
noncomputable def OL(w:World)(t:Nat)(K:Value->(World->Prop)->Prop):Option Value->Prop
 |some (.pointer (some ⟨b,off,none⟩))=>match E.T.get t with
  |some y=>∃xs ty,w.heap[b]?=some (.cells xs ty (E.Tp b))/\iH (kQ y) (iH (Nat.beq (bD E.T t) 0) False (∃c,aG xs.toList off (bD E.T t)=c/\c.length=bD E.T t/\K (.agg c.toArray) (λw=>w.heap[b]?=some (.cells xs ty (E.Tp b))))) (∃v,xs.toList[off]?=some v/\K v (λw=>w.heap[b]?=some (.cells xs ty (E.Tp b))))
  |none=>False
 |_=>False
noncomputable def Ye(w:World)(t:Nat)(ok:Bool)(K:Value->(World->Prop)->Prop):Option Value->Option Value->Prop
 |some (.map (some m)),some (.int .u32 k)=>match zX E t with
  |some (_,e)=>∃f,fZ w m f/\K (bif ok then .tuple #[(f k).getD (zv E.T e ((E.T.get e).getD .p)),.bool (f k).isSome]else(f k).getD (zv E.T e ((E.T.get e).getD .p))) (λw=>fZ w m f)
  |none=>False
 |_,_=>False
def QT(F:Nat->Oper->Prop):List (Nat×Oper)->Prop
 | []=>True
 | [(i,o)]=>F i o
 |(i,o)::r=>F i o/\QT F r
noncomputable def uL(f:Nat):List Nat->Sg->List (World->Prop)->World->Prop:=Nat.rec (motive:=λ_=>List Nat->Sg->List (World->Prop)->World->Prop) (λ_ _ _ _=>False) (λ_ ih l s Γ w=>match(wP ops.toList 0).filter λp=>!l.contains p.1&&uq l p.2 with
 | []=>K s w
 |R=>match R.find? λp=>Nat.beq (kd p.2.op) 0 with
  |some (i,o)=>gW s (λs=>match iT E.T (ev s) o.op with
   |.v x=>ih (i::l) (dK n s o.dst x) Γ w
   |.c p x=>p/\ih (i::l) (dK n s o.dst x) Γ w
   |.d p x y=>(p/\ih (i::l) (dK n s o.dst x) Γ w)\/ih (i::l) (dK n s o.dst y) Γ w
   |.no=>False) (λs=>ih (i::l) (dK n s o.dst undef) Γ w) (Eg ops s o)
  |none=>QT (λi o=>gW s (λs=>match o.op with
   |.load t x=>ze E w (λv w'=>ih (i::l) (dK n s o.dst v) Γ w') t (ev s x)
   |.lookup t x y ok=>Jt E w (λv w'=>ih (i::l) (dK n s o.dst v) Γ w') t ok (ev s x) (ev s y)
   |op=>QO E s w (λv w'=>iH (oF ops i) (iC Γ w'/\ih (i::l) (dK n s o.dst v) Γ w') (ih (i::l) (dK n s o.dst v) Γ w')) op)
   (λs=>ih (i::l) (dK n s o.dst undef) Γ w) (Eg ops s o)) R) f
theorem Wn(f:Nat)(l:List Nat)(s:Sg)(Γ:List (World->Prop))(w:World):uL E n ops K (f+1) l s Γ w=match(wP ops.toList 0).filter λp=>!l.contains p.1&&uq l p.2 with
 | []=>K s w
 |R=>match R.find? λp=>Nat.beq (kd p.2.op) 0 with
  |some (i,o)=>gW s (λs=>match iT E.T (ev s) o.op with
   |.v x=>uL E n ops K f (i::l) (dK n s o.dst x) Γ w
   |.c p x=>p/\uL E n ops K f (i::l) (dK n s o.dst x) Γ w
   |.d p x y=>(p/\uL E n ops K f (i::l) (dK n s o.dst x) Γ w)\/uL E n ops K f (i::l) (dK n s o.dst y) Γ w
   |.no=>False) (λs=>uL E n ops K f (i::l) (dK n s o.dst undef) Γ w) (Eg ops s o)
  |none=>QT (λi o=>gW s (λs=>match o.op with
   |.load t x=>ze E w (λv w'=>uL E n ops K f (i::l) (dK n s o.dst v) Γ w') t (ev s x)
   |.lookup t x y ok=>Jt E w (λv w'=>uL E n ops K f (i::l) (dK n s o.dst v) Γ w') t ok (ev s x) (ev s y)
   |op=>QO E s w (λv w'=>iH (oF ops i) (iC Γ w'/\uL E n ops K f (i::l) (dK n s o.dst v) Γ w') (uL E n ops K f (i::l) (dK n s o.dst v) Γ w')) op)
   (λs=>uL E n ops K f (i::l) (dK n s o.dst undef) Γ w) (Eg ops s o)) R:=rfl
noncomputable def xJ(w:World)(q:List (Nat×Oper)):List Nat->Sg->List (World->Prop)->Prop:=rec (motive:=λ_=>List Nat->Sg->List (World->Prop)->Prop) (λl s Γ=>uL E n ops K (ops.toList.length+1) l s Γ w) (λp _ ih l s Γ=>iH (uq l p.2) (gW s (λs=>match iT E.T (ev s) p.2.op with
 |.v x=>ih (p.1::l) (dK n s p.2.dst x) Γ
 |.c c x=>c/\ih (p.1::l) (dK n s p.2.dst x) Γ
 |.d c x y=>(c/\ih (p.1::l) (dK n s p.2.dst x) Γ)\/ih (p.1::l) (dK n s p.2.dst y) Γ
 |.no=>match p.2.op with
  |.load t x=>OL E w t (λv F=>ih (p.1::l) (dK n s p.2.dst v) (F::Γ)) (ev s x)
  |.lookup t x y ok=>Ye E w t ok (λv F=>ih (p.1::l) (dK n s p.2.dst v) (F::Γ)) (ev s x) (ev s y)
  |_=>ih l s Γ) (λs=>ih (p.1::l) (dK n s p.2.dst undef) Γ) (Eg ops s p.2))
 (ih l s Γ)) q
theorem Wo(w:World)(i:Nat)(o:Oper)(r:List (Nat×Oper))(l:List Nat)(s:Sg)(Γ:List (World->Prop)):xJ E n ops K w ((i,o)::r) l s Γ=iH (uq l o) (gW s (λs=>match iT E.T (ev s) o.op with
 |.v x=>xJ E n ops K w r (i::l) (dK n s o.dst x) Γ
 |.c p x=>p/\xJ E n ops K w r (i::l) (dK n s o.dst x) Γ
 |.d p x y=>(p/\xJ E n ops K w r (i::l) (dK n s o.dst x) Γ)\/xJ E n ops K w r (i::l) (dK n s o.dst y) Γ
 |.no=>match o.op with
  |.load t x=>OL E w t (λv F=>xJ E n ops K w r (i::l) (dK n s o.dst v) (F::Γ)) (ev s x)
  |.lookup t x y ok=>Ye E w t ok (λv F=>xJ E n ops K w r (i::l) (dK n s o.dst v) (F::Γ)) (ev s x) (ev s y)
  |_=>xJ E n ops K w r l s Γ) (λs=>xJ E n ops K w r (i::l) (dK n s o.dst undef) Γ) (Eg ops s o))
 (xJ E n ops K w r l s Γ):=rfl
def Gy(ops:Array Oper):Bool:=ops.toList.all λo=>o.after.toList.all λe=>Nat.blt e.on ops.size
noncomputable def drW(s:Sg)(w:World):Prop:=(zf ops&&Gy ops)=true/\xJ E n ops K w (wP ops.toList 0) [] s []
end
end
