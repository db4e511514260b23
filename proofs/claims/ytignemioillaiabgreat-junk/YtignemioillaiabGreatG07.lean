/- Two goroutines, each on blocks of its own: the machine's moves. -/
import Derived.Test.YtignemioillaiabGreatG06
namespace Go.Proofs.YtignemioillaiabGreat
set_option maxHeartbeats 8000000
set_option maxRecDepth 100000
section
open Go Go.Conc
open Go.ConcN (sumTo upd sumTo_upd upd_ne upd_same)
structure aO (F:Nat->Prop) (w w1:World):Prop where
 size:w.heap.size<=w1.heap.size
 own:∀ b,F b->w1.heap[b]? = w.heap[b]?
 os:w1.os=w.os
 out:w1.output=w.output
def Grow (F:Nat->Prop) (w w':World) (b:Nat):Prop:=F b\/(w.heap.size<=b/\b<w'.heap.size)
structure kS (F:Nat->Prop) (w w':World) (es:Array Event):Prop where
 size:w.heap.size<=w'.heap.size
 rest:∀ b,b<w.heap.size->¬ F b->w'.heap[b]? = w.heap[b]?
 os:w'.os=w.os
 out:w'.output=w.output
 evs:∀ e∈es,zM (Grow F w w') e
theorem aO.refl (F:Nat->Prop) (w:World):aO F w w:=⟨Nat.le_refl _,λ _ _=>rfl,rfl,rfl⟩
theorem aO.trans {F:Nat->Prop} {a b c:World} (h:aO F a b) (k:aO F b c):aO F a c:=⟨Nat.le_trans h.size k.size,λ x hx=>(k.own x hx).trans (h.own x hx),k.os.trans h.os,k.out.trans h.out⟩
theorem aO.at (F:Nat->Prop) (w:World) (d:Nat):aO F w (w.at d):=⟨Nat.le_refl _,λ _ _=>rfl,rfl,rfl⟩
section
variable (P:Program) (main:Bool) (Stop:(Nat->Prop)->Goroutine->World->Prop)
def aB (F:Nat->Prop) (g:Goroutine) (w:World):Prop:=∀ X:(Nat->Prop)->Goroutine->World->Prop,
 (∀ F g w,(∀ w1,aO F w w1->Stop F g w1)->X F g w) ->
 (∀ F g w,g.status=.running->(∀ w1,aO F w w1->(stepG P main g w1).goes λ g' w' es=>kS F w1 w' es/\X (Grow F w1 w') g' w')->X F g w)->X F g w
end
section
variable {P:Program} {main:Bool} {Stop:(Nat->Prop)->Goroutine->World->Prop} {F:Nat->Prop} {g:Goroutine} {w:World}
theorem aB.stop (h:∀ w1,aO F w w1->Stop F g w1):aB P main Stop F g w:=λ _ h1 _=>h1 F g w h
theorem aB.step (hr:g.status=.running) (h:∀ w1,aO F w w1->(stepG P main g w1).goes λ g' w' es=>kS F w1 w' es/\aB P main Stop (Grow F w1 w') g' w'):aB P main Stop F g w :=
 λ X h1 h2=>h2 F g w hr λ w1 hw=>goes_mono (h w1 hw) λ _ _ _ hx=>⟨hx.1,hx.2 X h1 h2⟩
theorem aB.induct {X:(Nat->Prop)->Goroutine->World->Prop} (h:aB P main Stop F g w) (h1:∀ F g w,(∀ w1,aO F w w1->Stop F g w1)->X F g w)
 (h2:∀ F g w,g.status=.running->(∀ w1,aO F w w1->(stepG P main g w1).goes λ g' w' es=>kS F w1 w' es/\aB P main Stop (Grow F w1 w') g' w'/\X (Grow F w1 w') g' w')->X F g w):X F g w:=by
 refine (h (λ F g w=>aB P main Stop F g w/\X F g w) (λ F g w hs=>⟨.stop hs,h1 F g w hs⟩) λ F g w hr hs=>⟨.step hr λ w1 hw=>goes_mono (hs w1 hw) λ _ _ _ hx=>⟨hx.1,hx.2.1⟩,h2 F g w hr hs⟩).2
theorem aB.cases (h:aB P main Stop F g w):(∀ w1,aO F w w1->Stop F g w1)\/(g.status=.running/\∀ w1,aO F w w1->(stepG P main g w1).goes λ g' w' es=>kS F w1 w' es/\aB P main Stop (Grow F w1 w') g' w') :=
 h.induct (X:=λ F g w=>(∀ w1,aO F w w1->Stop F g w1)\/(g.status=.running/\∀ w1,aO F w w1->(stepG P main g w1).goes λ g' w' es=>kS F w1 w' es/\aB P main Stop (Grow F w1 w') g' w')) (λ _ _ _ h=>.inl h) λ _ _ _ hr h=>.inr ⟨hr,λ w1 hw=>goes_mono (h w1 hw) λ _ _ _ hx=>⟨hx.1,hx.2.1⟩⟩
theorem aB.rely {w1:World} (h:aB P main Stop F g w) (hw:aO F w w1):aB P main Stop F g w1:=by
 rcases h.cases with h | ⟨hr,h⟩
 ·exact .stop λ w2 h2=>h w2 (hw.trans h2)
 ·exact .step hr λ w2 h2=>h w2 (hw.trans h2)
end
structure Score where
 W:Nat
 pk:Nat
 th:Nat
 z0:Value
 z1:Value
 size:Nat
 ns:Nat
 eX:Nat->Prop
 RN:Nat->Prop
 rest:Nat->Option Obj
 os:Os
 out:Array (Nat×ByteArray)
structure dE (P:Program) (s:Score) (kp kt:Nat) (rT:Bool) (F0 FW:Nat->Prop) (gs:Array Goroutine) (a b:Goroutine) (w:World):Prop where
 g0:gs[0]? = some a
 gW:gs[s.W]? = some b
 w0:s.W≠0
 sz:gs.size=s.size
 apart:∀ x,F0 x->¬ FW x
 F4:∀ x,F0 x->x<w.heap.size
 F5:∀ x,FW x->x<w.heap.size
 op:dD w s.pk kp
 ot:w.heap[s.th]? = some (.chan 0 #[] rT kt kt false)
 qV:¬ F0 s.pk/\¬ F0 s.th
 uD:¬ FW s.pk/\¬ FW s.th
 pt:s.pk≠s.th
 zP:∀ x,x<s.ns->F0 x->s.eX x
 Cz:∀ x,x<s.ns->FW x->s.RN x
 big:s.ns<=w.heap.size
 O0:∀ x,x<s.ns->¬ s.eX x->¬ s.RN x->x≠s.pk->x≠s.th->w.heap[x]? = s.rest x
 O3:w.os=s.os
 Ir:w.output=s.out
section
variable {P:Program} {s:Score} {kp kt:Nat} {rT:Bool} {F0 FW:Nat->Prop} {gs:Array Goroutine} {a b:Goroutine} {w:World}
theorem ag {w:World} {x:Nat} {o:Obj} (h:w.heap[x]? = some o):x<w.heap.size:=(Array.getElem?_eq_some_iff.1 h).1
theorem dE.main (h:dE P s kp kt rT F0 FW gs a b w) {gs':Array Goroutine} {a' b':Goroutine} {w':World} {es:Array Event} (hg:kS F0 w w' es) (h0:gs'[0]? = some a') (hW:gs'[s.W]? = some b') (hsz:gs'.size=gs.size) :
 dE P s kp kt rT (Grow F0 w w') FW gs' a' b' w'/\aO FW w w':=by
 have hne:∀ x,x<w.heap.size->¬ F0 x->w'.heap[x]? = w.heap[x]?:=hg.rest;refine ⟨⟨h0,hW,h.w0,hsz.trans h.sz,?_,?_,λ x hx=>Nat.lt_of_lt_of_le (h.F5 x hx) hg.size,?_,?_,?_,h.uD,h.pt,?_,h.Cz,Nat.le_trans h.big hg.size,?_,hg.os.trans h.O3,hg.out.trans h.Ir⟩,⟨hg.size,λ x hx=>hne x (h.F5 x hx) λ h0=>h.apart x h0 hx,hg.os,hg.out⟩⟩
 ·rintro x (hx | hx) hx'
  ·exact h.apart x hx hx'
  ·have:=h.F5 x hx';omega
 ·rintro x (hx | hx)
  ·exact Nat.lt_of_lt_of_le (h.F4 x hx) hg.size
  ·exact hx.2
 ·exact (hne _ (ag h.op) h.qV.1).trans h.op
 ·exact (hne _ (ag h.ot) h.qV.2).trans h.ot
 ·refine ⟨?_,?_⟩
  ·rintro (hx | hx)
   ·exact h.qV.1 hx
   ·have:=ag h.op;omega
  ·rintro (hx | hx)
   ·exact h.qV.2 hx
   ·have:=ag h.ot;omega
 ·rintro x hx (hy | hy)
  ·exact h.zP x hx hy
  ·have:=h.big;omega
 ·intro x hx ho Ux h1 h2
  rw [hne x (Nat.lt_of_lt_of_le hx h.big) λ hf=>ho (h.zP x hx hf)];exact h.O0 x hx ho Ux h1 h2
theorem dE.work (h:dE P s kp kt rT F0 FW gs a b w) {gs':Array Goroutine} {a' b':Goroutine} {w':World} {es:Array Event} (hg:kS FW w w' es) (h0:gs'[0]? = some a') (hW:gs'[s.W]? = some b') (hsz:gs'.size=gs.size) :
 dE P s kp kt rT F0 (Grow FW w w') gs' a' b' w'/\aO F0 w w':=by
 have hne:∀ x,x<w.heap.size->¬ FW x->w'.heap[x]? = w.heap[x]?:=hg.rest;refine ⟨⟨h0,hW,h.w0,hsz.trans h.sz,?_,λ x hx=>Nat.lt_of_lt_of_le (h.F4 x hx) hg.size,?_,?_,?_,h.qV,?_,h.pt,h.zP,?_,Nat.le_trans h.big hg.size,?_,hg.os.trans h.O3,hg.out.trans h.Ir⟩,⟨hg.size,λ x hx=>hne x (h.F4 x hx) λ h0=>h.apart x hx h0,hg.os,hg.out⟩⟩
 ·rintro x hx (hx' | hx')
  ·exact h.apart x hx hx'
  ·have:=h.F4 x hx;omega
 ·rintro x (hx | hx)
  ·exact Nat.lt_of_lt_of_le (h.F5 x hx) hg.size
  ·exact hx.2
 ·exact (hne _ (ag h.op) h.uD.1).trans h.op
 ·exact (hne _ (ag h.ot) h.uD.2).trans h.ot
 ·refine ⟨?_,?_⟩
  ·rintro (hx | hx)
   ·exact h.uD.1 hx
   ·have:=ag h.op;omega
  ·rintro (hx | hx)
   ·exact h.uD.2 hx
   ·have:=ag h.ot;omega
 ·rintro x hx (hy | hy)
  ·exact h.Cz x hx hy
  ·have:=h.big;omega
 ·intro x hx ho Ux h1 h2
  rw [hne x (Nat.lt_of_lt_of_le hx h.big) λ hf=>Ux (h.Cz x hx hf)];exact h.O0 x hx ho Ux h1 h2
theorem dE.chan (h:dE P s kp kt rT F0 FW gs a b w) {c:Nat} (hc:c=s.pk\/c=s.th) {o:Obj} {kp' Uy:Nat} {RO:Bool} {gs':Array Goroutine} {a' b':Goroutine} (h0:gs'[0]? = some a') (hW:gs'[s.W]? = some b') (hsz:gs'.size=gs.size)
 (ho1:dD { w with heap:=w.heap.setIfInBounds c o } s.pk kp') (ho2:(w.heap.setIfInBounds c o)[s.th]? = some (.chan 0 #[] RO Uy Uy false)) :
 dE P s kp' Uy RO F0 FW gs' a' b' { w with heap:=w.heap.setIfInBounds c o }/\aO F0 w { w with heap:=w.heap.setIfInBounds c o }/\aO FW w { w with heap:=w.heap.setIfInBounds c o }:=by
 have hs:({ w with heap:=w.heap.setIfInBounds c o }:World).heap.size=w.heap.size:=by simp
 have hne:∀ x,x≠c->(w.heap.setIfInBounds c o)[x]? = w.heap[x]?:=λ x hx=>Array.getElem?_setIfInBounds_ne (Ne.symm hx)
 have O4:∀ x,F0 x->x≠c:=λ x hx e=>by
  subst e;rcases hc with hc | hc
  ·exact h.qV.1 (hc ▸ hx)
  ·exact h.qV.2 (hc ▸ hx)
 have hFW:∀ x,FW x->x≠c:=λ x hx e=>by
  subst e;rcases hc with hc | hc
  ·exact h.uD.1 (hc ▸ hx)
  ·exact h.uD.2 (hc ▸ hx)
 refine ⟨⟨h0,hW,h.w0,hsz.trans h.sz,h.apart,λ x hx=>by rw [hs];exact h.F4 x hx,λ x hx=>by rw [hs];exact h.F5 x hx,ho1,ho2,h.qV,h.uD,h.pt,h.zP,h.Cz,by rw [hs];exact h.big,λ x hx hy hyW h1 h2=>?_,h.O3,h.Ir⟩,
  ⟨Nat.le_of_eq hs.symm,λ x hx=>hne x (O4 x hx),rfl,rfl⟩,⟨Nat.le_of_eq hs.symm,λ x hx=>hne x (hFW x hx),rfl,rfl⟩⟩
 show (w.heap.setIfInBounds c o)[x]? = _;rw [hne x (by rcases hc with rfl | rfl <;> assumption)];exact h.O0 x hx hy hyW h1 h2
theorem dE.at (h:dE P s kp kt rT F0 FW gs a b w) (d:Nat) {gs':Array Goroutine} {a' b':Goroutine} (h0:gs'[0]? = some a') (hW:gs'[s.W]? = some b') (hsz:gs'.size=gs.size):dE P s kp kt rT F0 FW gs' a' b' (w.at d) :=
 ⟨h0,hW,h.w0,hsz.trans h.sz,h.apart,h.F4,h.F5,h.op,h.ot,h.qV,h.uD,h.pt,h.zP,h.Cz,h.big,h.O0,h.O3,h.Ir⟩
theorem dE.pick (h:dE P s kp kt rT F0 FW gs a b w) {t:Trace} {q:Nat->Nat} (hL:aV (Two s.W) P t gs q) (ha:awake a) (hb:awake b) (hr:a.status=.running\/b.status=.running) (ka:∀ d,a.again (w.at d)=a) (kb:∀ d,b.again (w.at d)=b) (sl:Option (Nat×Nat)) :
 (∃ d sl',a.status=.running/\stepT P (crowd gs w sl)=runT P (crowd gs (w.at d) sl') 0)\/(∃ d sl',b.status=.running/\stepT P (crowd gs w sl)=runT P (crowd gs (w.at d) sl') s.W) \/
 ∃ d sl' gs' q' i fn pos es,i≠0/\i≠s.W/\(∀ e∈es,Event.mute e=true)/\stepT P (crowd gs w sl)=(.next (crowd gs' (w.at d) sl'),MemOp.ofEvents i fn pos es)/\dE P s kp kt rT F0 FW gs' a b (w.at d)/\aV (Two s.W) P (t++MemOp.ofEvents i fn pos es) gs' q'/\sumTo s.size q'<sumTo s.size q:=by
 have haw:=hL.awake λ i g hi hg=>by
  rcases hi with rfl | rfl
  ·rw [h.g0] at hg;cases hg;exact ha
  ·rw [h.gW] at hg;cases hg;exact hb
 obtain ⟨i,g,d,sl',hi,hg,hst⟩:=crowd_pick (P:=P) (w:=w) (sl:=sl) haw (by
  rcases hr with hr | hr
  ·exact ⟨0,a,h.g0,hr⟩
  ·exact ⟨s.W,b,h.gW,hr⟩)
 by_cases hi0:i=0
 ·subst hi0
  rw [h.g0] at hi;cases hi
  exact .inl ⟨d,sl',hg,hst⟩
 by_cases jR:i=s.W
 ·subst jR
  rw [h.gW] at hi;cases hi
  exact .inr (.inl ⟨d,sl',hg,hst⟩)
 obtain ⟨g',es,q',hm,xh,hL',hlt'⟩:=hL.slip (w:=w.at d) hi (λ hx=>hx.elim hi0 jR) hi0 hg sl';rw [h.sz] at hlt';exact .inr (.inr ⟨d,sl',_,q',i,_,_,es,hi0,jR,hm,hst.trans xh,h.at d (by rw [dI hi0 h.g0,qU (ka d)]) (by rw [dI jR h.gW,qU (kb d)]) (by simp),hL',hlt'⟩)
end
theorem aV.same {Sp:Nat->Prop} {P:Program} {t:Trace} {gs gs':Array Goroutine} {q:Nat->Nat} (h:aV Sp P t gs q) (hs:gs'.size=gs.size) (ho:∀ k,¬ Sp k->gs'[k]? = gs[k]?) {u:Trace} (hu:pW u):aV Sp P (t++u) gs' q:=by
 refine ⟨λ i g hi hg=>?_,λ j hj=>?_⟩
 ·rw [ho i hi] at hg
  rw [kR hu];exact h.old i g hi hg
 ·rw [kR hu]
  exact h.above j (by rw [<- hs];exact hj)
theorem F6:pW #[]:=by
 intro op hop;simp at hop
section
variable (P:Program) (s:Score) (SM SW:List Value->(Nat->Prop)->Goroutine->World->Prop) (dC:Value->Prop)
abbrev Score.cs (s:Score):Array CommCase:=dw s.pk s.th s.z0 s.z1
structure jS (acc:List Value) (F:Nat->Prop) (A2:Goroutine) (w:World):Prop where
 Xy:∃ a0,SM acc F a0 w/\iC P s.cs A2 a0
 next:∀ v,dC v->aB P true (SM (acc++[v])) F (A2.finishComm P s.cs .select 0 v true) w
structure Parts:Prop where
 acC:∀ acc F a w w1,SM acc F a w->aO F w w1->SM acc F a w1
 jY:∀ vs F b w w1,SW vs F b w->aO F w w1->SW vs F b w1
 sel:∀ acc F a w,SM acc F a w->∃ A2,iC P s.cs A2 a/\∀ v,dC v->aB P true (SM (acc++[v])) F (A2.finishComm P s.cs .select 0 v true) w
 send:∀ v vs F b w,SW (v::vs) F b w->dC v/\b.status=.running/\∃ B2 z,(∀ w,stepG P false b w=.comm B2 #[scase s.pk v z] true .send w #[])/\aB P false (SW vs) F (Go.Conc.served B2 undef) w
 close:∀ F b w,SW [] F b w->b.status=.running/\mayWake P b=true/\∃ b' k,QuitsD P k 0 b'/\∀ w1 kt,w1.heap[s.th]? = some (.chan 0 #[] false kt kt false)->stepG P false b w1=.go b' { w1 with heap:=w1.heap.setIfInBounds s.th (.chan 0 #[] true kt kt false) } #[⟨.obj s.th,false,true⟩,⟨.obj s.th,true,true⟩]
def Fin (acc:List Value) (m:Machine) (t:Trace):Prop:=∃ gs w sl q F0 FW A2 b a0 b0 kp kt,m=crowd gs w sl/\dE P s kp kt true F0 FW gs (A2.finishComm P s.cs .select 1 s.z1 false) b w/\SM acc F0 a0 w/\iC P s.cs A2 a0/\SW [] FW b0 w/\aV (· = 0) P t gs q/\ji t
end
section
variable {P:Program} {s:Score} {SM SW:List Value->(Nat->Prop)->Goroutine->World->Prop} {dC:Value->Prop}
theorem jS.rely (hp:Parts P s SM SW dC) {acc:List Value} {F:Nat->Prop} {A2:Goroutine} {w w1:World} (h:jS P s SM dC acc F A2 w) (hr:aO F w w1):jS P s SM dC acc F A2 w1:=by
 obtain ⟨a0,h1,h2⟩:=h.Xy;exact ⟨⟨a0,hp.acC _ _ _ _ _ h1 hr,h2⟩,λ v hv=>(h.next v hv).rely hr⟩
theorem Parts.DV (hp:Parts P s SM SW dC) {acc:List Value} {F:Nat->Prop} {a:Goroutine} {w:World} (h:SM acc F a w):∃ A2,iC P s.cs A2 a/\jS P s SM dC acc F A2 w:=by
 obtain ⟨A2,h1,h2⟩:=hp.sel acc F a w h;exact ⟨A2,h1,⟨⟨a,h,h1⟩,h2⟩⟩
theorem iC.tries {A2 a:Goroutine} (h:iC P s.cs A2 a):iC P s.cs A2 { parked A2 s.cs .select with status:=.running } :=
 ⟨rfl,rfl,rfl,rfl,λ w=>by rw [<- h.Iq w];exact stepG_same h.fr.symm h.cl.symm h.dy.symm w⟩
def mH (s:Score) (FW:Nat->Prop) (b:Nat):Prop:=FW b\/b=s.th
theorem CB {i:Nat} {fn:FuncId} {pos:String} {es:Array Event} (hm:∀ e∈es,Event.mute e=true):∀ op∈MemOp.ofEvents i fn pos es,op.act.touch? = none:=λ op hop=>by
 obtain ⟨e,he,ea,_⟩:=nT hop;rw [ea];exact touch_mute (hm e he)
theorem xS (hp:Parts P s SM SW dC) {acc:List Value}:∀ (M:Nat) {F0 FW T0 TW:Nat->Prop} {gs:Array Goroutine} {a A2 b b0:Goroutine} {w:World} {sl:Option (Nat×Nat)} {t:Trace} {q:Nat->Nat} {kp kt pc:Nat},sumTo s.size q<=M->iC P s.cs A2 a->jS P s SM dC acc F0 A2 w->SW [] FW b0 w->dE P s kp kt true F0 FW gs a b w->aV (· = 0) P t gs q->pX s.th pc T0 TW t->Reaches P (Fin P s SM SW acc) (crowd gs w sl) t:=by
 intro M;induction M using Nat.strongRecOn with
 | ind M ih =>
  intro F0 FW T0 TW gs a A2 b b0 w sl t q kp kt pc hM hs hS hW h hL hT;have haw:=hL.awake λ i g hi hg=>by cases hi;rw [h.g0] at hg;cases hg;exact awake_of (.inl hs.run)
  obtain ⟨i,g,d,sl',hi,hg,hst⟩:=crowd_pick (P:=P) (w:=w) (sl:=sl) haw ⟨0,a,h.g0,hs.run⟩;have hlt:0<gs.size:=(Array.getElem?_eq_some_iff.1 h.g0).1;have hltW:s.W<gs.size:=(Array.getElem?_eq_some_iff.1 h.gW).1;by_cases hi0:i=0
  ·subst hi0
   obtain rfl:g=a:=by have:=h.g0;rw [hi] at this;exact Option.some.inj this
   have hpn:∀ c,partners (gs.setIfInBounds 0 ph) c true=[]:=λ c=>rR hL λ j x hj hne _=>absurd hj hne
   have hr:=crowd_sel_recv_closed (P:=P) (sl:=sl') (i:=0) (k:=1) (c:=s.th) (z:=s.z1) (s:=kt) (r:=kt) hi (show stepG P (0 == 0) g (w.at d)=_ from hs.Iq (w.at d)) rfl (λ m c' hm hc'=>by
    rcases m with _ | m
    ·cases hc'
     exact ways_recv_none (h.op.at d) (hpn s.pk)
    ·rcases m with _ | m
     ·exact absurd rfl hm
     ·simp [Score.cs,dw] at hc') h.ot (hpn s.th)
   refine Reaches.step (hst.trans hr) (.here ?_);have hops:(MemOp.ofEvents 0 g.frame.fn g.frame.place #[]:Trace) = #[]:=rfl;rw [hops,Array.empty_append];obtain ⟨a0,ha0,hat⟩:=(hS.rely hp (aO.at F0 w d)).Xy;refine ⟨_,w.at d,sl',q,F0,FW,A2,b,a0,b0,kp,kt,rfl,h.at d ?_ ?_ (by simp),ha0,hat,hp.jY _ _ _ _ _ hW (aO.at FW w d),?_,hT.met _ _⟩
   ·rw [Array.getElem?_setIfInBounds_self_of_lt hlt];rfl
   ·rw [Array.getElem?_setIfInBounds_ne (Ne.symm h.w0)];exact h.gW
   ·exact hL.same (by simp) (λ k hk=>Array.getElem?_setIfInBounds_ne (Ne.symm hk)) (by
     intro op hop;simp only [List.mem_toArray,List.mem_cons,List.not_mem_nil,or_false] at hop;subst hop;exact ⟨nofun,nofun⟩)
  ·obtain ⟨g',es,q',hm,xh,hL',hlt'⟩:=hL.slip (w:=w.at d) hi hi0 hi0 hg sl'
   refine Reaches.step (hst.trans xh) ?_;rw [h.sz] at hlt';have hWx:∃ b',((gs.map (woken P g g' (w.at d))).setIfInBounds i g')[s.W]? = some b':=⟨_,Array.getElem?_eq_getElem (by simpa using hltW)⟩;obtain ⟨b',hb'⟩:=hWx;exact ih (sumTo s.size q') (by omega) (Nat.le_refl _) hs (hS.rely hp (aO.at F0 w d)) (hp.jY _ _ _ _ _ hW (aO.at FW w d)) (h.at d (by rw [dI hi0 h.g0,woken_run hs.run]) hb' (by simp)) hL' (hT.still (CB hm) ((Deaf_other t hi0 _ ofEvents_g).trans hT.lY))
theorem Kv (hp:Parts P s SM SW dC) {acc:List Value} {F0:Nat->Prop} {a:Goroutine} {w:World} (hM:aB P true (SM acc) F0 a w):∀ {FW:Nat->Prop} {gs:Array Goroutine} {b b0:Goroutine} {sl:Option (Nat×Nat)} {t:Trace} {q:Nat->Nat} {kp kt pc:Nat},SW [] FW b0 w->dE P s kp kt true F0 FW gs a b w->aV (· = 0) P t gs q->pX s.th pc F0 (mH s FW) t->Reaches P (Fin P s SM SW acc) (crowd gs w sl) t:=by
 refine hM.induct (X:=λ F0 a w=>∀ {FW:Nat->Prop} {gs:Array Goroutine} {b b0:Goroutine} {sl:Option (Nat×Nat)} {t:Trace} {q:Nat->Nat} {kp kt pc:Nat},SW [] FW b0 w->dE P s kp kt true F0 FW gs a b w->aV (· = 0) P t gs q->pX s.th pc F0 (mH s FW) t->Reaches P (Fin P s SM SW acc) (crowd gs w sl) t) ?_ ?_
 ·intro F0 a w hs FW gs b b0 sl t q kp kt pc hW h hL hT
  obtain ⟨A2,h1,h2⟩:=hp.DV (hs w (.refl _ _));exact xS hp _ (Nat.le_refl _) h1 h2 hW h hL hT
 ·intro F0 a w hrun hstep FW gs b b0 sl t q kp kt pc
  suffices H:∀ M w gs b sl t q,sumTo s.size q<=M->(∀ w1,aO F0 w w1->(stepG P true a w1).goes λ g' w' es=>kS F0 w1 w' es/\aB P true (SM acc) (Grow F0 w1 w') g' w'/\∀ {FW:Nat->Prop} {gs:Array Goroutine} {b b0:Goroutine} {sl:Option (Nat×Nat)} {t:Trace} {q:Nat->Nat} {kp kt pc:Nat},SW [] FW b0 w'->dE P s kp kt true (Grow F0 w1 w') FW gs g' b w'->aV (· = 0) P t gs q->pX s.th pc (Grow F0 w1 w') (mH s FW) t->Reaches P (Fin P s SM SW acc) (crowd gs w' sl) t)->SW [] FW b0 w->dE P s kp kt true F0 FW gs a b w->aV (· = 0) P t gs q->pX s.th pc F0 (mH s FW) t->Reaches P (Fin P s SM SW acc) (crowd gs w sl) t from H _ w gs b sl t q (Nat.le_refl _) hstep
  intro M;induction M using Nat.strongRecOn with
  | ind M ih =>
   intro w gs b sl t q hM hstep hW h hL hT;have haw:=hL.awake λ i g hi hg=>by cases hi;rw [h.g0] at hg;cases hg;exact awake_of (.inl hrun)
   obtain ⟨i,g,d,sl',hi,hg,hst⟩:=crowd_pick (P:=P) (w:=w) (sl:=sl) haw ⟨0,a,h.g0,hrun⟩;have hlt:0<gs.size:=(Array.getElem?_eq_some_iff.1 h.g0).1;have hltW:s.W<gs.size:=(Array.getElem?_eq_some_iff.1 h.gW).1;by_cases hi0:i=0
   ·subst hi0
    obtain rfl:g=a:=by have:=h.g0;rw [hi] at this;exact Option.some.inj this
    have hs:=hstep (w.at d) (aO.at F0 w d);cases hgo:stepG P true g (w.at d) with
    | go a' w' es =>
     rw [hgo,goes_go] at hs;obtain ⟨hgu,_,hnext⟩:=hs;have hrunT:=runT_crowd_go (P:=P) (sl:=sl') (i:=0) hi (show stepG P (0 == 0) g (w.at d)=_ from hgo);refine Reaches.step (hst.trans hrunT) ?_;obtain ⟨b',hb'⟩:∃ b',((gs.map (woken P g a' w')).setIfInBounds 0 a')[s.W]? = some b':=⟨_,Array.getElem?_eq_getElem (by simpa using hltW)⟩;have hD:=(h.at d h.g0 h.gW rfl).main hgu (iO hlt) hb' (by simp);refine hnext (sl:=sl') (hp.jY _ _ _ _ _ (hp.jY _ _ _ _ _ hW (aO.at FW w d)) hD.2) hD.1 (hL.nu rfl hlt ofEvents_g) (hT.grow.main ?_ hgu.evs);rintro x hx (hx' | rfl)
     ·exact hD.1.apart x hx hx'
     ·exact hD.1.qV.2 hx
    | _=>rw [hgo] at hs;exact hs.elim
   ·obtain ⟨g',es,q',hm,xh,hL',hlt'⟩:=hL.slip (w:=w.at d) hi hi0 hi0 hg sl'
    refine Reaches.step (hst.trans xh) ?_;rw [h.sz] at hlt';obtain ⟨b',hb'⟩:∃ b',((gs.map (woken P g g' (w.at d))).setIfInBounds i g')[s.W]? = some b':=⟨_,Array.getElem?_eq_getElem (by simpa using hltW)⟩;exact ih (sumTo s.size q') (by omega) (w.at d) _ b' sl' _ q' (Nat.le_refl _) (λ w1 h1=>hstep w1 ((aO.at F0 w d).trans h1)) (hp.jY _ _ _ _ _ hW (aO.at FW w d)) (h.at d (by rw [dI hi0 h.g0,woken_run hrun]) hb' (by simp)) hL' (hT.still (CB hm) ((Deaf_other t hi0 _ ofEvents_g).trans hT.lY))
end
section
variable {P:Program} {s:Score} {SM SW:List Value->(Nat->Prop)->Goroutine->World->Prop} {dC:Value->Prop}
theorem O5 {W:Nat} {c k:Nat} {fn fn':FuncId} {pos pos':String}:pW #[⟨W,fn,pos,.send c k⟩,⟨0,fn',pos',.recv c k 0⟩,⟨W,fn,pos,.sendDone c k⟩,⟨0,fn',pos',.recvDone c k⟩]:=by
 intro op hop;simp only [List.mem_toArray,List.mem_cons,List.not_mem_nil,or_false] at hop;rcases hop with rfl | rfl | rfl | rfl <;> exact ⟨nofun,nofun⟩
theorem F7 {w:World} {k kt:Nat} {rT:Bool} (h1:dD w s.pk k) (h2:w.heap[s.th]? = some (.chan 0 #[] rT kt kt false)) (hne:s.pk≠s.th) :
 dD { w with heap:=w.heap.setIfInBounds s.pk (.chan 0 #[] false (k+1) (k+1) false) } s.pk (k+1)/\(w.heap.setIfInBounds s.pk (.chan 0 #[] false (k+1) (k+1) false))[s.th]? = some (.chan 0 #[] rT kt kt false):=by
 constructor
 ·show (w.heap.setIfInBounds s.pk _)[s.pk]? = _
  rw [Array.getElem?_setIfInBounds_self_of_lt (ag h1)]
 ·rw [Array.getElem?_setIfInBounds_ne hne]
  exact h2
theorem O6 (_hp:Parts P s SM SW dC) {acc vs:List Value} {v z:Value} {F0 FW T0 TW:Nat->Prop} {gs:Array Goroutine} {A2 B2 b:Goroutine} {w:World} {t:Trace} {q:Nat->Nat} {kp kt:Nat} (h:dE P s kp kt false F0 FW gs (parked A2 s.cs .select) b w) (hL:aV (Two s.W) P t gs q) (hT:dJ s.W T0 TW t)
 (hS:jS P s SM dC acc F0 A2 w) (hv:dC v) (hb:∀ w,stepG P false b w=.comm B2 #[scase s.pk v z] true .send w #[]) (hn:aB P false (SW vs) FW (Go.Conc.served B2 undef) w) (sl:Option (Nat×Nat)) :
 ∃ gs' a' b' w' ops,runT P (crowd gs w sl) s.W=(.next (crowd gs' w' sl),ops)/\dE P s (kp+1) kt false F0 FW gs' a' b' w'/\aV (Two s.W) P (t++ops) gs' q/\dJ s.W F0 FW (t++ops)/\aB P true (SM (acc++[v])) F0 a' w'/\aB P false (SW vs) FW b' w':=by
 have hlt:0<gs.size:=(Array.getElem?_eq_some_iff.1 h.g0).1;have hltW:s.W<gs.size:=(Array.getElem?_eq_some_iff.1 h.gW).1;have RP:partners (gs.setIfInBounds s.W ph) s.pk false=[(0,0)]:=by
  have hoff:offersAt (parked A2 s.cs .select) s.pk false=[0]:=offersAt_parked_at (k:=0) (z:=s.z0) rfl λ m cc hm hcc=>by
   rcases m with _ | m
   ·exact absurd rfl hm
   ·rcases m with _ | m
    ·cases hcc
     intro e;have e':Value.chan (some s.th)=Value.chan (some s.pk):=e;injection e' with e1;injection e1 with e2;exact h.pt e2.symm
    ·simp [Score.cs,dw] at hcc
  have:=partners_one (gs:=gs.setIfInBounds s.W ph) (r:=s.pk) (send:=false) (j:=0) (g:=parked A2 s.cs .select) (stand_get (Ne.symm h.w0) h.g0) λ k x hk hx=>by
   rcases getElem?_stand gs s.W k x hx with ⟨_,rfl⟩ | ⟨hne,hx⟩
   ·rfl
   ·exact wI (hL.old k x (λ hh=>hh.elim hk hne) hx) _ _
  rw [this,hoff];rfl
 have hr:=crowd_send_meets_sel (P:=P) (sl:=sl) (i:=s.W) (j:=0) (k:=0) (zj:=s.z0) (c:=s.pk) (s:=kp) (r:=kp) h.gW (show stepG P (s.W == 0) b w=_ by rw [show (s.W == 0)=false by simpa using h.w0];exact hb w) h.op (Ne.symm h.w0) h.g0 rfl RP;obtain ⟨c1,c2⟩:=F7 h.op h.ot h.pt;have hD:=h.chan (.inl rfl) (gs':=(gs.setIfInBounds 0 (A2.finishComm P s.cs .select 0 v true)).setIfInBounds s.W (Go.Conc.served B2 undef)) (a':=A2.finishComm P s.cs .select 0 v true) (b':=Go.Conc.served B2 undef)
  (by rw [Array.getElem?_setIfInBounds_ne h.w0,Array.getElem?_setIfInBounds_self_of_lt hlt]) (by rw [Array.getElem?_setIfInBounds_self_of_lt (by simpa using hltW)]) (by simp) c1 c2
 refine ⟨_,_,_,_,_,hr,hD.1,?_,?_,(hS.next v hv).rely hD.2.1,hn.rely hD.2.2⟩
 ·exact hL.same (by simp) (λ k hk=>by rw [Array.getElem?_setIfInBounds_ne (λ e=>hk (.inr e.symm)),Array.getElem?_setIfInBounds_ne (λ e=>hk (.inl e.symm))]) O5
 ·exact hT.exchange F0 FW s.pk kp _ _ _ _
theorem O7 (_hp:Parts P s SM SW dC) {acc vs:List Value} {v z:Value} {F0 FW T0 TW:Nat->Prop} {gs:Array Goroutine} {a A2 B2:Goroutine} {w:World} {t:Trace} {q:Nat->Nat} {kp kt:Nat} (h:dE P s kp kt false F0 FW gs a (parked B2 #[scase s.pk v z] .send) w) (hL:aV (Two s.W) P t gs q) (hT:dJ s.W T0 TW t)
 (ha:iC P s.cs A2 a) (hS:jS P s SM dC acc F0 A2 w) (hv:dC v) (hn:aB P false (SW vs) FW (Go.Conc.served B2 undef) w) (sl:Option (Nat×Nat)) :
 ∃ gs' a' b' w' ops,runT P (crowd gs w sl) 0=(.next (crowd gs' w' sl),ops)/\dE P s (kp+1) kt false F0 FW gs' a' b' w'/\aV (Two s.W) P (t++ops) gs' q/\dJ s.W F0 FW (t++ops)/\aB P true (SM (acc++[v])) F0 a' w'/\aB P false (SW vs) FW b' w':=by
 have hlt:0<gs.size:=(Array.getElem?_eq_some_iff.1 h.g0).1;have hltW:s.W<gs.size:=(Array.getElem?_eq_some_iff.1 h.gW).1;have RP:partners (gs.setIfInBounds 0 ph) s.pk true=[(s.W,0)]:=by
  have hoff:offersAt (parked B2 #[scase s.pk v z] .send) s.pk true=[0]:=by rw [offersAt_parked_send,if_pos rfl]
  have:=partners_one (gs:=gs.setIfInBounds 0 ph) (r:=s.pk) (send:=true) (j:=s.W) (g:=parked B2 #[scase s.pk v z] .send) (stand_get h.w0 h.gW) λ k x hk hx=>by
   rcases getElem?_stand gs 0 k x hx with ⟨_,rfl⟩ | ⟨hne,hx⟩
   ·rfl
   ·exact wI (hL.old k x (λ hh=>hh.elim hne hk) hx) _ _
  rw [this,hoff];rfl
 have acD:partners (gs.setIfInBounds 0 ph) s.th true=[]:=rR hL λ j x hj hne hx=>by
  rcases hj with rfl | rfl
  ·exact absurd rfl hne
  ·rw [h.gW] at hx;cases hx
   rw [offersAt_parked_send,if_neg h.pt]
 have hr:=crowd_sel_recv_meets (P:=P) (sl:=sl) (i:=0) (j:=s.W) (k:=0) (z:=s.z0) (zj:=z) (c:=s.pk) (s:=kp) (r:=kp) (v:=v) h.g0 (show stepG P (0 == 0) a w=_ from ha.Iq w) rfl (λ m c' hm hc'=>by
  rcases m with _ | m
  ·exact absurd rfl hm
  ·rcases m with _ | m
   ·cases hc'
    exact ways_recv_none h.ot acD
   ·simp [Score.cs,dw] at hc') h.op h.w0 h.gW RP
 obtain ⟨c1,c2⟩:=F7 h.op h.ot h.pt;have hD:=h.chan (.inl rfl) (gs':=(gs.setIfInBounds s.W (Go.Conc.served B2 undef)).setIfInBounds 0 (A2.finishComm P s.cs .select 0 v true)) (a':=A2.finishComm P s.cs .select 0 v true) (b':=Go.Conc.served B2 undef)
  (by rw [Array.getElem?_setIfInBounds_self_of_lt (by simpa using hlt)]) (by rw [Array.getElem?_setIfInBounds_ne (Ne.symm h.w0),Array.getElem?_setIfInBounds_self_of_lt hltW]) (by simp) c1 c2
 refine ⟨_,_,_,_,_,hr,hD.1,?_,?_,(hS.next v hv).rely hD.2.1,hn.rely hD.2.2⟩
 ·exact hL.same (by simp) (λ k hk=>by rw [Array.getElem?_setIfInBounds_ne (λ e=>hk (.inl e.symm)),Array.getElem?_setIfInBounds_ne (λ e=>hk (.inr e.symm))]) O5
 ·exact hT.exchange F0 FW s.pk kp _ _ _ _
theorem dE.Fu {kp kt:Nat} {rT:Bool} {F0 FW:Nat->Prop} {gs:Array Goroutine} {a b:Goroutine} {w:World} (h:dE P s kp kt rT F0 FW gs a b w):∀ x,F0 x->¬ mH s FW x:=by
 rintro x hx (hx' | rfl)
 ·exact h.apart x hx hx'
 ·exact h.qV.2 hx
theorem zQ (hp:Parts P s SM SW dC) {F0 FW T0 TW:Nat->Prop} {gs:Array Goroutine} {a b:Goroutine} {w:World} {t:Trace} {q:Nat->Nat} {kp kt:Nat} (h:dE P s kp kt false F0 FW gs a b w) (hL:aV (Two s.W) P t gs q) (hT:dJ s.W T0 TW t) (hd:∀ x,T0 x->¬ mH s TW x) (hW:SW [] FW b w) (sl:Option (Nat×Nat)) :
 ∃ gs' b' w' ops q' pc,runT P (crowd gs w sl) s.W=(.next (crowd gs' w' sl),ops)/\w'.heap[s.th]? = some (.chan 0 #[] true kt kt false)/\dE P s kp kt true F0 FW gs' (a.again w') b' w'/\SW [] FW b w'/\aO F0 w w'/\aV (· = 0) P (t++ops) gs' q'/\pX s.th pc T0 (mH s TW) (t++ops):=by
 have hltW:s.W<gs.size:=(Array.getElem?_eq_some_iff.1 h.gW).1;obtain ⟨_,hwake,b',k,hq,hst⟩:=hp.close FW b w hW;have hgo:=hst w kt h.ot;have hr:=runT_crowd_go (P:=P) (sl:=sl) (i:=s.W) h.gW (show stepG P (s.W == 0) b w=_ by rw [show (s.W == 0)=false by simpa using h.w0];exact hgo);have hwk:∀ g,woken P b b' { w with heap:=w.heap.setIfInBounds s.th (.chan 0 #[] true kt kt false) } g=g.again { w with heap:=w.heap.setIfInBounds s.th (.chan 0 #[] true kt kt false) }:=by
  intro g;unfold Go.Conc.woken;rw [hwake];rcases hq.status with e | e <;> rw [e] <;> rfl
 have hth:(w.heap.setIfInBounds s.th (.chan 0 #[] true kt kt false))[s.th]? = some (.chan 0 #[] true kt kt false):=by rw [Array.getElem?_setIfInBounds_self_of_lt (ag h.ot)]
 have hD:=h.chan (.inr rfl) (o:=.chan 0 #[] true kt kt false) (gs':=(gs.map (woken P b b' { w with heap:=w.heap.setIfInBounds s.th (.chan 0 #[] true kt kt false) })).setIfInBounds s.W b') (a':=a.again { w with heap:=w.heap.setIfInBounds s.th (.chan 0 #[] true kt kt false) }) (b':=b') (kp':=kp) (Uy:=kt) (RO:=true)
  (by rw [dI h.w0 h.g0,hwk]) (iO hltW) (by simp) (by show (w.heap.setIfInBounds s.th _)[s.pk]? = _;rw [Array.getElem?_setIfInBounds_ne (Ne.symm h.pt)];exact h.op) hth
 have hTc:=(hT.grow (vE:=T0) (yY:=mH s TW) (λ _ h=>h) λ _ h=>.inl h).close h.w0 hd (c:=s.th) (.inr rfl) b.frame.fn b.frame.place;have hLp:=hL.nu (g:=b) (g':=b') (w':={ w with heap:=w.heap.setIfInBounds s.th (.chan 0 #[] true kt kt false) }) (.inr rfl) hltW (u:=MemOp.ofEvents s.W b.frame.fn b.frame.place #[⟨.obj s.th,false,true⟩,⟨.obj s.th,true,true⟩]) ofEvents_g;refine ⟨_,b',_,_,upd q s.W k,_,hr,hth,hD.1,hp.jY _ _ _ _ _ hW hD.2.2,hD.2.1,⟨λ j x hj hx=>?_,hLp.above⟩,hTc⟩;by_cases Xz:j=s.W
 ·subst Xz
  rw [iO hltW] at hx;cases hx
  rw [upd_same,xR,hT.uC]
  ·exact hq
  ·intro e he
   simp only [List.mem_toArray,List.mem_cons,List.not_mem_nil,or_false] at he;rcases he with rfl | rfl <;> exact ⟨nofun,nofun⟩
 ·rw [upd_ne q k Xz]
  exact hLp.old j x (λ hh=>hh.elim hj Xz) hx
end
end
end Go.Proofs.YtignemioillaiabGreat
