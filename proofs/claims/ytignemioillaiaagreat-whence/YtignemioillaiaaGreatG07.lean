/- Two goroutines, each on blocks of its own: the machine's moves. -/
import Derived.Test.YtignemioillaiaaGreatG06
namespace Go.Proofs.YtignemioillaiaaGreat
set_option maxHeartbeats 8000000
set_option maxRecDepth 100000
section
open Go Go.Conc
open Go.ConcN (sumTo upd sumTo_upd upd_ne upd_same)
structure aQ(F:Nat->Prop)(w w1:World):Prop where
 size:w.heap.size<=w1.heap.size
 own:∀b,F b->w1.heap[b]? = w.heap[b]?
 os:w1.os=w.os
 out:w1.output=w.output
def Grow(F:Nat->Prop)(w w':World)(b:Nat):Prop:=F b\/(w.heap.size<=b/\b<w'.heap.size)
structure lJ(F:Nat->Prop)(w w':World)(es:Array Event):Prop where
 size:w.heap.size<=w'.heap.size
 rest:∀b,b<w.heap.size->¬F b->w'.heap[b]? = w.heap[b]?
 os:w'.os=w.os
 out:w'.output=w.output
 evs:∀e∈es,Am (Grow F w w') e
theorem aQ.refl(F:Nat->Prop)(w:World):aQ F w w:=⟨Nat.le_refl _,λ_ _=>rfl,rfl,rfl⟩
theorem aQ.trans{F:Nat->Prop}{a b c:World}(h:aQ F a b)(k:aQ F b c):aQ F a c:=⟨Nat.le_trans h.size k.size,λx hx=>(k.own x hx).trans (h.own x hx),k.os.trans h.os,k.out.trans h.out⟩
theorem aQ.at(F:Nat->Prop)(w:World)(d:Nat):aQ F w (w.at d):=⟨Nat.le_refl _,λ_ _=>rfl,rfl,rfl⟩
section
variable(P:Program)(main:Bool)(Stop:(Nat->Prop)->Goroutine->World->Prop)
def aC(F:Nat->Prop)(g:Goroutine)(w:World):Prop:=∀X:(Nat->Prop)->Goroutine->World->Prop,
 (∀F g w,(∀w1,aQ F w w1->Stop F g w1)->X F g w) ->
 (∀F g w,g.status=.running->(∀w1,aQ F w w1->(stepG P main g w1).goes λg' w' es=>lJ F w1 w' es/\X (Grow F w1 w') g' w')->X F g w)->X F g w
end
section
variable{P:Program}{main:Bool}{Stop:(Nat->Prop)->Goroutine->World->Prop}{F:Nat->Prop}{g:Goroutine}{w:World}
theorem aC.stop(h:∀w1,aQ F w w1->Stop F g w1):aC P main Stop F g w:=λ_ h1 _=>h1 F g w h
theorem aC.step(hr:g.status=.running)(h:∀w1,aQ F w w1->(stepG P main g w1).goes λg' w' es=>lJ F w1 w' es/\aC P main Stop (Grow F w1 w') g' w'):aC P main Stop F g w :=
 λX h1 h2=>h2 F g w hr λw1 hw=>goes_mono (h w1 hw) λ_ _ _ hx=>⟨hx.1,hx.2 X h1 h2⟩
theorem aC.induct{X:(Nat->Prop)->Goroutine->World->Prop}(h:aC P main Stop F g w)(h1:∀F g w,(∀w1,aQ F w w1->Stop F g w1)->X F g w)
 (h2:∀F g w,g.status=.running->(∀w1,aQ F w w1->(stepG P main g w1).goes λg' w' es=>lJ F w1 w' es/\aC P main Stop (Grow F w1 w') g' w'/\X (Grow F w1 w') g' w')->X F g w):X F g w:=by
 refine(h (λF g w=>aC P main Stop F g w/\X F g w) (λF g w hs=>⟨.stop hs,h1 F g w hs⟩) λF g w hr hs=>⟨.step hr λw1 hw=>goes_mono (hs w1 hw) λ_ _ _ hx=>⟨hx.1,hx.2.1⟩,h2 F g w hr hs⟩).2
theorem aC.cases(h:aC P main Stop F g w):(∀w1,aQ F w w1->Stop F g w1)\/(g.status=.running/\∀w1,aQ F w w1->(stepG P main g w1).goes λg' w' es=>lJ F w1 w' es/\aC P main Stop (Grow F w1 w') g' w') :=
 h.induct (X:=λF g w=>(∀w1,aQ F w w1->Stop F g w1)\/(g.status=.running/\∀w1,aQ F w w1->(stepG P main g w1).goes λg' w' es=>lJ F w1 w' es/\aC P main Stop (Grow F w1 w') g' w')) (λ_ _ _ h=>.inl h) λ_ _ _ hr h=>.inr ⟨hr,λw1 hw=>goes_mono (h w1 hw) λ_ _ _ hx=>⟨hx.1,hx.2.1⟩⟩
theorem aC.rely{w1:World}(h:aC P main Stop F g w)(hw:aQ F w w1):aC P main Stop F g w1:=by
 rcases h.cases with h|⟨hr,h⟩
 ·exact .stop λw2 h2=>h w2 (hw.trans h2)
 ·exact .step hr λw2 h2=>h w2 (hw.trans h2)
end
structure Score where
 W:Nat
 pk:Nat
 th:Nat
 z0:Value
 z1:Value
 size:Nat
 ns:Nat
 dY:Nat->Prop
 Tn:Nat->Prop
 rest:Nat->Option Obj
 os:Os
 out:Array (Nat×ByteArray)
structure dH(P:Program)(s:Score)(kp kt:Nat)(tq:Bool)(F0 FW:Nat->Prop)(gs:Array Goroutine)(a b:Goroutine)(w:World):Prop where
 g0:gs[0]? = some a
 gW:gs[s.W]? = some b
 w0:s.W≠0
 sz:gs.size=s.size
 apart:∀x,F0 x->¬FW x
 GH:∀x,F0 x->x<w.heap.size
 GI:∀x,FW x->x<w.heap.size
 op:dG w s.pk kp
 ot:w.heap[s.th]? = some (.chan 0 #[] tq kt kt false)
 rP:¬F0 s.pk/\¬F0 s.th
 uY:¬FW s.pk/\¬FW s.th
 pt:s.pk≠s.th
 Aq:∀x,x<s.ns->F0 x->s.dY x
 Dh:∀x,x<s.ns->FW x->s.Tn x
 big:s.ns<=w.heap.size
 PS:∀x,x<s.ns->¬s.dY x->¬s.Tn x->x≠s.pk->x≠s.th->w.heap[x]? = s.rest x
 PT:w.os=s.os
 Jd:w.output=s.out
section
variable{P:Program}{s:Score}{kp kt:Nat}{tq:Bool}{F0 FW:Nat->Prop}{gs:Array Goroutine}{a b:Goroutine}{w:World}
theorem ae{w:World}{x:Nat}{o:Obj}(h:w.heap[x]? = some o):x<w.heap.size:=(Array.getElem?_eq_some_iff.1 h).1
theorem dH.main(h:dH P s kp kt tq F0 FW gs a b w){gs':Array Goroutine}{a' b':Goroutine}{w':World}{es:Array Event}(hg:lJ F0 w w' es)(h0:gs'[0]? = some a')(hW:gs'[s.W]? = some b')(hsz:gs'.size=gs.size) :
 dH P s kp kt tq (Grow F0 w w') FW gs' a' b' w'/\aQ FW w w':=by
 have hne:∀x,x<w.heap.size->¬F0 x->w'.heap[x]? = w.heap[x]?:=hg.rest;refine⟨⟨h0,hW,h.w0,hsz.trans h.sz,?_,?_,λx hx=>Nat.lt_of_lt_of_le (h.GI x hx) hg.size,?_,?_,?_,h.uY,h.pt,?_,h.Dh,Nat.le_trans h.big hg.size,?_,hg.os.trans h.PT,hg.out.trans h.Jd⟩,⟨hg.size,λx hx=>hne x (h.GI x hx) λh0=>h.apart x h0 hx,hg.os,hg.out⟩⟩
 ·rintro x (hx|hx) hx'
  ·exact h.apart x hx hx'
  ·have:=h.GI x hx';omega
 ·rintro x (hx|hx)
  ·exact Nat.lt_of_lt_of_le (h.GH x hx) hg.size
  ·exact hx.2
 ·exact(hne _ (ae h.op) h.rP.1).trans h.op
 ·exact(hne _ (ae h.ot) h.rP.2).trans h.ot
 ·refine⟨?_,?_⟩
  ·rintro(hx|hx)
   ·exact h.rP.1 hx
   ·have:=ae h.op;omega
  ·rintro(hx|hx)
   ·exact h.rP.2 hx
   ·have:=ae h.ot;omega
 ·rintro x hx (hy|hy)
  ·exact h.Aq x hx hy
  ·have:=h.big;omega
 ·intro x hx ho Vv h1 h2
  rw[hne x (Nat.lt_of_lt_of_le hx h.big) λhf=>ho (h.Aq x hx hf)];exact h.PS x hx ho Vv h1 h2
theorem dH.work(h:dH P s kp kt tq F0 FW gs a b w){gs':Array Goroutine}{a' b':Goroutine}{w':World}{es:Array Event}(hg:lJ FW w w' es)(h0:gs'[0]? = some a')(hW:gs'[s.W]? = some b')(hsz:gs'.size=gs.size) :
 dH P s kp kt tq F0 (Grow FW w w') gs' a' b' w'/\aQ F0 w w':=by
 have hne:∀x,x<w.heap.size->¬FW x->w'.heap[x]? = w.heap[x]?:=hg.rest;refine⟨⟨h0,hW,h.w0,hsz.trans h.sz,?_,λx hx=>Nat.lt_of_lt_of_le (h.GH x hx) hg.size,?_,?_,?_,h.rP,?_,h.pt,h.Aq,?_,Nat.le_trans h.big hg.size,?_,hg.os.trans h.PT,hg.out.trans h.Jd⟩,⟨hg.size,λx hx=>hne x (h.GH x hx) λh0=>h.apart x hx h0,hg.os,hg.out⟩⟩
 ·rintro x hx (hx' | hx')
  ·exact h.apart x hx hx'
  ·have:=h.GH x hx;omega
 ·rintro x (hx|hx)
  ·exact Nat.lt_of_lt_of_le (h.GI x hx) hg.size
  ·exact hx.2
 ·exact(hne _ (ae h.op) h.uY.1).trans h.op
 ·exact(hne _ (ae h.ot) h.uY.2).trans h.ot
 ·refine⟨?_,?_⟩
  ·rintro(hx|hx)
   ·exact h.uY.1 hx
   ·have:=ae h.op;omega
  ·rintro(hx|hx)
   ·exact h.uY.2 hx
   ·have:=ae h.ot;omega
 ·rintro x hx (hy|hy)
  ·exact h.Dh x hx hy
  ·have:=h.big;omega
 ·intro x hx ho Vv h1 h2
  rw[hne x (Nat.lt_of_lt_of_le hx h.big) λhf=>Vv (h.Dh x hx hf)];exact h.PS x hx ho Vv h1 h2
theorem dH.chan(h:dH P s kp kt tq F0 FW gs a b w){c:Nat}(hc:c=s.pk\/c=s.th){o:Obj}{kp' Vw:Nat}{Tp:Bool}{gs':Array Goroutine}{a' b':Goroutine}(h0:gs'[0]? = some a')(hW:gs'[s.W]? = some b')(hsz:gs'.size=gs.size)
 (ho1:dG { w with heap:=w.heap.setIfInBounds c o } s.pk kp') (ho2:(w.heap.setIfInBounds c o)[s.th]? = some (.chan 0 #[] Tp Vw Vw false)) :
 dH P s kp' Vw Tp F0 FW gs' a' b' { w with heap:=w.heap.setIfInBounds c o }/\aQ F0 w { w with heap:=w.heap.setIfInBounds c o }/\aQ FW w { w with heap:=w.heap.setIfInBounds c o }:=by
 have hs:({ w with heap:=w.heap.setIfInBounds c o }:World).heap.size=w.heap.size:=by simp
 have hne:∀x,x≠c->(w.heap.setIfInBounds c o)[x]? = w.heap[x]?:=λx hx=>Array.getElem?_setIfInBounds_ne (Ne.symm hx)
 have PU:∀x,F0 x->x≠c:=λx hx e=>by
  subst e;rcases hc with hc|hc
  ·exact h.rP.1 (hc▸hx)
  ·exact h.rP.2 (hc▸hx)
 have hFW:∀x,FW x->x≠c:=λx hx e=>by
  subst e;rcases hc with hc|hc
  ·exact h.uY.1 (hc▸hx)
  ·exact h.uY.2 (hc▸hx)
 refine⟨⟨h0,hW,h.w0,hsz.trans h.sz,h.apart,λx hx=>by rw[hs];exact h.GH x hx,λx hx=>by rw[hs];exact h.GI x hx,ho1,ho2,h.rP,h.uY,h.pt,h.Aq,h.Dh,by rw[hs];exact h.big,λx hx hy hyW h1 h2=>?_,h.PT,h.Jd⟩,
  ⟨Nat.le_of_eq hs.symm,λx hx=>hne x (PU x hx),rfl,rfl⟩,⟨Nat.le_of_eq hs.symm,λx hx=>hne x (hFW x hx),rfl,rfl⟩⟩
 show(w.heap.setIfInBounds c o)[x]? = _;rw[hne x (by rcases hc with rfl|rfl<;>assumption)];exact h.PS x hx hy hyW h1 h2
theorem dH.at(h:dH P s kp kt tq F0 FW gs a b w)(d:Nat){gs':Array Goroutine}{a' b':Goroutine}(h0:gs'[0]? = some a')(hW:gs'[s.W]? = some b')(hsz:gs'.size=gs.size):dH P s kp kt tq F0 FW gs' a' b' (w.at d) :=
 ⟨h0,hW,h.w0,hsz.trans h.sz,h.apart,h.GH,h.GI,h.op,h.ot,h.rP,h.uY,h.pt,h.Aq,h.Dh,h.big,h.PS,h.PT,h.Jd⟩
theorem dH.pick(h:dH P s kp kt tq F0 FW gs a b w){t:Trace}{q:Nat->Nat}(hL:aV (Two s.W) P t gs q)(ha:awake a)(hb:awake b)(hr:a.status=.running\/b.status=.running)(ka:∀d,a.again (w.at d)=a)(kb:∀d,b.again (w.at d)=b)(sl:Option (Nat×Nat)) :
 (∃d sl',a.status=.running/\stepT P (crowd gs w sl)=runT P (crowd gs (w.at d) sl') 0)\/(∃d sl',b.status=.running/\stepT P (crowd gs w sl)=runT P (crowd gs (w.at d) sl') s.W) \/
 ∃d sl' gs' q' i fn pos es,i≠0/\i≠s.W/\(∀e∈es,Event.mute e=true)/\stepT P (crowd gs w sl)=(.next (crowd gs' (w.at d) sl'),MemOp.ofEvents i fn pos es)/\dH P s kp kt tq F0 FW gs' a b (w.at d)/\aV (Two s.W) P (t++MemOp.ofEvents i fn pos es) gs' q'/\sumTo s.size q'<sumTo s.size q:=by
 have haw:=hL.awake λi g hi hg=>by
  rcases hi with rfl|rfl
  ·rw[h.g0]at hg;cases hg;exact ha
  ·rw[h.gW]at hg;cases hg;exact hb
 obtain⟨i,g,d,sl',hi,hg,hst⟩:=crowd_pick (P:=P) (w:=w) (sl:=sl) haw (by
  rcases hr with hr|hr
  ·exact⟨0,a,h.g0,hr⟩
  ·exact⟨s.W,b,h.gW,hr⟩)
 by_cases hi0:i=0
 ·subst hi0
  rw[h.g0]at hi;cases hi
  exact .inl ⟨d,sl',hg,hst⟩
 by_cases j6:i=s.W
 ·subst j6
  rw[h.gW]at hi;cases hi
  exact .inr (.inl ⟨d,sl',hg,hst⟩)
 obtain⟨g',es,q',hm,xM,hL',hlt'⟩:=hL.slip (w:=w.at d) hi (λhx=>hx.elim hi0 j6) hi0 hg sl';rw[h.sz]at hlt';exact .inr (.inr ⟨d,sl',_,q',i,_,_,es,hi0,j6,hm,hst.trans xM,h.at d (by rw[dN hi0 h.g0,rO (ka d)]) (by rw[dN j6 h.gW,rO (kb d)]) (by simp),hL',hlt'⟩)
end
theorem aV.same{Sp:Nat->Prop}{P:Program}{t:Trace}{gs gs':Array Goroutine}{q:Nat->Nat}(h:aV Sp P t gs q)(hs:gs'.size=gs.size)(ho:∀k,¬Sp k->gs'[k]? = gs[k]?){u:Trace}(hu:qF u):aV Sp P (t++u) gs' q:=by
 refine⟨λi g hi hg=>?_,λj hj=>?_⟩
 ·rw[ho i hi]at hg
  rw[lH hu];exact h.old i g hi hg
 ·rw[lH hu]
  exact h.above j (by rw[<-hs];exact hj)
theorem GJ:qF #[]:=by
 intro op hop;simp at hop
section
variable(P:Program)(s:Score)(SM SW:List Value->(Nat->Prop)->Goroutine->World->Prop)(dF:Value->Prop)
abbrev Score.cs(s:Score):Array CommCase:=dC s.pk s.th s.z0 s.z1
structure kg(acc:List Value)(F:Nat->Prop)(A2:Goroutine)(w:World):Prop where
 Yz:∃a0,SM acc F a0 w/\iI P s.cs A2 a0
 next:∀v,dF v->aC P true (SM (acc++[v])) F (A2.finishComm P s.cs .select 0 v true) w
structure Parts:Prop where
 aea:∀acc F a w w1,SM acc F a w->aQ F w w1->SM acc F a w1
 ky:∀vs F b w w1,SW vs F b w->aQ F w w1->SW vs F b w1
 sel:∀acc F a w,SM acc F a w->∃A2,iI P s.cs A2 a/\∀v,dF v->aC P true (SM (acc++[v])) F (A2.finishComm P s.cs .select 0 v true) w
 send:∀v vs F b w,SW (v::vs) F b w->dF v/\b.status=.running/\∃B2 z,(∀w,stepG P false b w=.comm B2 #[scase s.pk v z] true .send w #[])/\aC P false (SW vs) F (Go.Conc.served B2 undef) w
 close:∀F b w,SW [] F b w->b.status=.running/\mayWake P b=true/\∃b' k,QuitsD P k 0 b'/\∀w1 kt,w1.heap[s.th]? = some (.chan 0 #[] false kt kt false)->stepG P false b w1=.go b' { w1 with heap:=w1.heap.setIfInBounds s.th (.chan 0 #[] true kt kt false) } #[⟨.obj s.th,false,true⟩,⟨.obj s.th,true,true⟩]
def Fin(acc:List Value)(m:Machine)(t:Trace):Prop:=∃gs w sl q F0 FW A2 b a0 b0 kp kt,m=crowd gs w sl/\dH P s kp kt true F0 FW gs (A2.finishComm P s.cs .select 1 s.z1 false) b w/\SM acc F0 a0 w/\iI P s.cs A2 a0/\SW [] FW b0 w/\aV (· = 0) P t gs q/\jw t
end
section
variable{P:Program}{s:Score}{SM SW:List Value->(Nat->Prop)->Goroutine->World->Prop}{dF:Value->Prop}
theorem kg.rely(hp:Parts P s SM SW dF){acc:List Value}{F:Nat->Prop}{A2:Goroutine}{w w1:World}(h:kg P s SM dF acc F A2 w)(hr:aQ F w w1):kg P s SM dF acc F A2 w1:=by
 obtain⟨a0,h1,h2⟩:=h.Yz;exact⟨⟨a0,hp.aea _ _ _ _ _ h1 hr,h2⟩,λv hv=>(h.next v hv).rely hr⟩
theorem Parts.Eo(hp:Parts P s SM SW dF){acc:List Value}{F:Nat->Prop}{a:Goroutine}{w:World}(h:SM acc F a w):∃A2,iI P s.cs A2 a/\kg P s SM dF acc F A2 w:=by
 obtain⟨A2,h1,h2⟩:=hp.sel acc F a w h;exact⟨A2,h1,⟨⟨a,h,h1⟩,h2⟩⟩
theorem iI.tries{A2 a:Goroutine}(h:iI P s.cs A2 a):iI P s.cs A2 { parked A2 s.cs .select with status:=.running } :=
 ⟨rfl,rfl,rfl,rfl,λw=>by rw[<-h.Jc w];exact stepG_same h.fr.symm h.cl.symm h.dy.symm w⟩
def nu(s:Score)(FW:Nat->Prop)(b:Nat):Prop:=FW b\/b=s.th
theorem Di{i:Nat}{fn:FuncId}{pos:String}{es:Array Event}(hm:∀e∈es,Event.mute e=true):∀op∈MemOp.ofEvents i fn pos es,op.act.touch? = none:=λop hop=>by
 obtain⟨e,he,ea,_⟩:=oI hop;rw[ea];exact touch_mute (hm e he)
theorem yC(hp:Parts P s SM SW dF){acc:List Value}:∀(M:Nat) {F0 FW T0 TW:Nat->Prop} {gs:Array Goroutine} {a A2 b b0:Goroutine} {w:World} {sl:Option (Nat×Nat)} {t:Trace} {q:Nat->Nat} {kp kt pc:Nat},sumTo s.size q<=M->iI P s.cs A2 a->kg P s SM dF acc F0 A2 w->SW [] FW b0 w->dH P s kp kt true F0 FW gs a b w->aV (· = 0) P t gs q->qG s.th pc T0 TW t->Reaches P (Fin P s SM SW acc) (crowd gs w sl) t:=by
 intro M;induction M using Nat.strongRecOn with
 |ind M ih =>
  intro F0 FW T0 TW gs a A2 b b0 w sl t q kp kt pc hM hs hS hW h hL hT;have haw:=hL.awake λi g hi hg=>by cases hi;rw[h.g0]at hg;cases hg;exact awake_of (.inl hs.run)
  obtain⟨i,g,d,sl',hi,hg,hst⟩:=crowd_pick (P:=P) (w:=w) (sl:=sl) haw ⟨0,a,h.g0,hs.run⟩;have hlt:0<gs.size:=(Array.getElem?_eq_some_iff.1 h.g0).1;have hltW:s.W<gs.size:=(Array.getElem?_eq_some_iff.1 h.gW).1;by_cases hi0:i=0
  ·subst hi0
   obtain rfl:g=a:=by have:=h.g0;rw[hi]at this;exact Option.some.inj this
   have hpn:∀c,partners (gs.setIfInBounds 0 ph) c true=[]:=λc=>sZ hL λj x hj hne _=>absurd hj hne
   have hr:=crowd_sel_recv_closed (P:=P) (sl:=sl') (i:=0) (k:=1) (c:=s.th) (z:=s.z1) (s:=kt) (r:=kt) hi (show stepG P (0 == 0) g (w.at d)=_ from hs.Jc (w.at d)) rfl (λm c' hm hc'=>by
    rcases m with _|m
    ·cases hc'
     exact ways_recv_none (h.op.at d) (hpn s.pk)
    ·rcases m with _|m
     ·exact absurd rfl hm
     ·simp[Score.cs,dC]at hc') h.ot (hpn s.th)
   refine Reaches.step (hst.trans hr) (.here ?_);have hops:(MemOp.ofEvents 0 g.frame.fn g.frame.place #[]:Trace) = #[]:=rfl;rw[hops,Array.empty_append];obtain⟨a0,ha0,hat⟩:=(hS.rely hp (aQ.at F0 w d)).Yz;refine⟨_,w.at d,sl',q,F0,FW,A2,b,a0,b0,kp,kt,rfl,h.at d ?_ ?_ (by simp),ha0,hat,hp.ky _ _ _ _ _ hW (aQ.at FW w d),?_,hT.met _ _⟩
   ·rw[Array.getElem?_setIfInBounds_self_of_lt hlt];rfl
   ·rw[Array.getElem?_setIfInBounds_ne (Ne.symm h.w0)];exact h.gW
   ·exact hL.same (by simp) (λk hk=>Array.getElem?_setIfInBounds_ne (Ne.symm hk)) (by
     intro op hop;simp only[List.mem_toArray,List.mem_cons,List.not_mem_nil,or_false]at hop;subst hop;exact⟨nofun,nofun⟩)
  ·obtain⟨g',es,q',hm,xM,hL',hlt'⟩:=hL.slip (w:=w.at d) hi hi0 hi0 hg sl'
   refine Reaches.step (hst.trans xM) ?_;rw[h.sz]at hlt';have hWx:∃b',((gs.map (woken P g g' (w.at d))).setIfInBounds i g')[s.W]? = some b':=⟨_,Array.getElem?_eq_getElem (by simpa using hltW)⟩;obtain⟨b',hb'⟩:=hWx;exact ih (sumTo s.size q') (by omega) (Nat.le_refl _) hs (hS.rely hp (aQ.at F0 w d)) (hp.ky _ _ _ _ _ hW (aQ.at FW w d)) (h.at d (by rw[dN hi0 h.g0,woken_run hs.run]) hb' (by simp)) hL' (hT.still (Di hm) ((Deaf_other t hi0 _ ofEvents_g).trans hT.mJ))
theorem Li(hp:Parts P s SM SW dF){acc:List Value}{F0:Nat->Prop}{a:Goroutine}{w:World}(hM:aC P true (SM acc) F0 a w):∀{FW:Nat->Prop} {gs:Array Goroutine} {b b0:Goroutine} {sl:Option (Nat×Nat)} {t:Trace} {q:Nat->Nat} {kp kt pc:Nat},SW [] FW b0 w->dH P s kp kt true F0 FW gs a b w->aV (· = 0) P t gs q->qG s.th pc F0 (nu s FW) t->Reaches P (Fin P s SM SW acc) (crowd gs w sl) t:=by
 refine hM.induct (X:=λF0 a w=>∀{FW:Nat->Prop} {gs:Array Goroutine} {b b0:Goroutine} {sl:Option (Nat×Nat)} {t:Trace} {q:Nat->Nat} {kp kt pc:Nat},SW [] FW b0 w->dH P s kp kt true F0 FW gs a b w->aV (· = 0) P t gs q->qG s.th pc F0 (nu s FW) t->Reaches P (Fin P s SM SW acc) (crowd gs w sl) t) ?_ ?_
 ·intro F0 a w hs FW gs b b0 sl t q kp kt pc hW h hL hT
  obtain⟨A2,h1,h2⟩:=hp.Eo (hs w (.refl _ _));exact yC hp _ (Nat.le_refl _) h1 h2 hW h hL hT
 ·intro F0 a w hrun hstep FW gs b b0 sl t q kp kt pc
  suffices H:∀M w gs b sl t q,sumTo s.size q<=M->(∀w1,aQ F0 w w1->(stepG P true a w1).goes λg' w' es=>lJ F0 w1 w' es/\aC P true (SM acc) (Grow F0 w1 w') g' w'/\∀{FW:Nat->Prop} {gs:Array Goroutine} {b b0:Goroutine} {sl:Option (Nat×Nat)} {t:Trace} {q:Nat->Nat} {kp kt pc:Nat},SW [] FW b0 w'->dH P s kp kt true (Grow F0 w1 w') FW gs g' b w'->aV (· = 0) P t gs q->qG s.th pc (Grow F0 w1 w') (nu s FW) t->Reaches P (Fin P s SM SW acc) (crowd gs w' sl) t)->SW [] FW b0 w->dH P s kp kt true F0 FW gs a b w->aV (· = 0) P t gs q->qG s.th pc F0 (nu s FW) t->Reaches P (Fin P s SM SW acc) (crowd gs w sl) t from H _ w gs b sl t q (Nat.le_refl _) hstep
  intro M;induction M using Nat.strongRecOn with
  |ind M ih =>
   intro w gs b sl t q hM hstep hW h hL hT;have haw:=hL.awake λi g hi hg=>by cases hi;rw[h.g0]at hg;cases hg;exact awake_of (.inl hrun)
   obtain⟨i,g,d,sl',hi,hg,hst⟩:=crowd_pick (P:=P) (w:=w) (sl:=sl) haw ⟨0,a,h.g0,hrun⟩;have hlt:0<gs.size:=(Array.getElem?_eq_some_iff.1 h.g0).1;have hltW:s.W<gs.size:=(Array.getElem?_eq_some_iff.1 h.gW).1;by_cases hi0:i=0
   ·subst hi0
    obtain rfl:g=a:=by have:=h.g0;rw[hi]at this;exact Option.some.inj this
    have hs:=hstep (w.at d) (aQ.at F0 w d);cases hgo:stepG P true g (w.at d)with
    |go a' w' es =>
     rw[hgo,goes_go]at hs;obtain⟨hgu,_,hnext⟩:=hs;have hrunT:=runT_crowd_go (P:=P) (sl:=sl') (i:=0) hi (show stepG P (0 == 0) g (w.at d)=_ from hgo);refine Reaches.step (hst.trans hrunT) ?_;obtain⟨b',hb'⟩:∃b',((gs.map (woken P g a' w')).setIfInBounds 0 a')[s.W]? = some b':=⟨_,Array.getElem?_eq_getElem (by simpa using hltW)⟩;have hD:=(h.at d h.g0 h.gW rfl).main hgu (iV hlt) hb' (by simp);refine hnext (sl:=sl') (hp.ky _ _ _ _ _ (hp.ky _ _ _ _ _ hW (aQ.at FW w d)) hD.2) hD.1 (hL.nR rfl hlt ofEvents_g) (hT.grow.main ?_ hgu.evs);rintro x hx (hx' | rfl)
     ·exact hD.1.apart x hx hx'
     ·exact hD.1.rP.2 hx
    |_=>rw[hgo]at hs;exact hs.elim
   ·obtain⟨g',es,q',hm,xM,hL',hlt'⟩:=hL.slip (w:=w.at d) hi hi0 hi0 hg sl'
    refine Reaches.step (hst.trans xM) ?_;rw[h.sz]at hlt';obtain⟨b',hb'⟩:∃b',((gs.map (woken P g g' (w.at d))).setIfInBounds i g')[s.W]? = some b':=⟨_,Array.getElem?_eq_getElem (by simpa using hltW)⟩;exact ih (sumTo s.size q') (by omega) (w.at d) _ b' sl' _ q' (Nat.le_refl _) (λw1 h1=>hstep w1 ((aQ.at F0 w d).trans h1)) (hp.ky _ _ _ _ _ hW (aQ.at FW w d)) (h.at d (by rw[dN hi0 h.g0,woken_run hrun]) hb' (by simp)) hL' (hT.still (Di hm) ((Deaf_other t hi0 _ ofEvents_g).trans hT.mJ))
end
section
variable{P:Program}{s:Score}{SM SW:List Value->(Nat->Prop)->Goroutine->World->Prop}{dF:Value->Prop}
theorem PV{W:Nat}{c k:Nat}{fn fn':FuncId}{pos pos':String}:qF #[⟨W,fn,pos,.send c k⟩,⟨0,fn',pos',.recv c k 0⟩,⟨W,fn,pos,.sendDone c k⟩,⟨0,fn',pos',.recvDone c k⟩]:=by
 intro op hop;simp only[List.mem_toArray,List.mem_cons,List.not_mem_nil,or_false]at hop;rcases hop with rfl|rfl|rfl|rfl<;>exact⟨nofun,nofun⟩
theorem GK{w:World}{k kt:Nat}{tq:Bool}(h1:dG w s.pk k)(h2:w.heap[s.th]? = some (.chan 0 #[] tq kt kt false))(hne:s.pk≠s.th) :
 dG { w with heap:=w.heap.setIfInBounds s.pk (.chan 0 #[] false (k+1) (k+1) false) } s.pk (k+1)/\(w.heap.setIfInBounds s.pk (.chan 0 #[] false (k+1) (k+1) false))[s.th]? = some (.chan 0 #[] tq kt kt false):=by
 constructor
 ·show(w.heap.setIfInBounds s.pk _)[s.pk]? = _
  rw[Array.getElem?_setIfInBounds_self_of_lt (ae h1)]
 ·rw[Array.getElem?_setIfInBounds_ne hne]
  exact h2
theorem PW(_hp:Parts P s SM SW dF){acc vs:List Value}{v z:Value}{F0 FW T0 TW:Nat->Prop}{gs:Array Goroutine}{A2 B2 b:Goroutine}{w:World}{t:Trace}{q:Nat->Nat}{kp kt:Nat}(h:dH P s kp kt false F0 FW gs (parked A2 s.cs .select) b w)(hL:aV (Two s.W) P t gs q)(hT:dO s.W T0 TW t)
 (hS:kg P s SM dF acc F0 A2 w) (hv:dF v) (hb:∀w,stepG P false b w=.comm B2 #[scase s.pk v z] true .send w #[]) (hn:aC P false (SW vs) FW (Go.Conc.served B2 undef) w) (sl:Option (Nat×Nat)) :
 ∃gs' a' b' w' ops,runT P (crowd gs w sl) s.W=(.next (crowd gs' w' sl),ops)/\dH P s (kp+1) kt false F0 FW gs' a' b' w'/\aV (Two s.W) P (t++ops) gs' q/\dO s.W F0 FW (t++ops)/\aC P true (SM (acc++[v])) F0 a' w'/\aC P false (SW vs) FW b' w':=by
 have hlt:0<gs.size:=(Array.getElem?_eq_some_iff.1 h.g0).1;have hltW:s.W<gs.size:=(Array.getElem?_eq_some_iff.1 h.gW).1;have Tq:partners (gs.setIfInBounds s.W ph) s.pk false=[(0,0)]:=by
  have hoff:offersAt (parked A2 s.cs .select) s.pk false=[0]:=offersAt_parked_at (k:=0) (z:=s.z0) rfl λm cc hm hcc=>by
   rcases m with _|m
   ·exact absurd rfl hm
   ·rcases m with _|m
    ·cases hcc
     intro e;have e':Value.chan (some s.th)=Value.chan (some s.pk):=e;injection e' with e1;injection e1 with e2;exact h.pt e2.symm
    ·simp[Score.cs,dC]at hcc
  have:=partners_one (gs:=gs.setIfInBounds s.W ph) (r:=s.pk) (send:=false) (j:=0) (g:=parked A2 s.cs .select) (stand_get (Ne.symm h.w0) h.g0) λk x hk hx=>by
   rcases getElem?_stand gs s.W k x hx with⟨_,rfl⟩|⟨hne,hx⟩
   ·rfl
   ·exact xh (hL.old k x (λhh=>hh.elim hk hne) hx) _ _
  rw[this,hoff];rfl
 have hr:=crowd_send_meets_sel (P:=P) (sl:=sl) (i:=s.W) (j:=0) (k:=0) (zj:=s.z0) (c:=s.pk) (s:=kp) (r:=kp) h.gW (show stepG P (s.W == 0) b w=_ by rw[show(s.W == 0)=false by simpa using h.w0];exact hb w) h.op (Ne.symm h.w0) h.g0 rfl Tq;obtain⟨c1,c2⟩:=GK h.op h.ot h.pt;have hD:=h.chan (.inl rfl) (gs':=(gs.setIfInBounds 0 (A2.finishComm P s.cs .select 0 v true)).setIfInBounds s.W (Go.Conc.served B2 undef)) (a':=A2.finishComm P s.cs .select 0 v true) (b':=Go.Conc.served B2 undef)
  (by rw[Array.getElem?_setIfInBounds_ne h.w0,Array.getElem?_setIfInBounds_self_of_lt hlt]) (by rw[Array.getElem?_setIfInBounds_self_of_lt (by simpa using hltW)]) (by simp) c1 c2
 refine⟨_,_,_,_,_,hr,hD.1,?_,?_,(hS.next v hv).rely hD.2.1,hn.rely hD.2.2⟩
 ·exact hL.same (by simp) (λk hk=>by rw[Array.getElem?_setIfInBounds_ne (λe=>hk (.inr e.symm)),Array.getElem?_setIfInBounds_ne (λe=>hk (.inl e.symm))]) PV
 ·exact hT.exchange F0 FW s.pk kp _ _ _ _
theorem PX(_hp:Parts P s SM SW dF){acc vs:List Value}{v z:Value}{F0 FW T0 TW:Nat->Prop}{gs:Array Goroutine}{a A2 B2:Goroutine}{w:World}{t:Trace}{q:Nat->Nat}{kp kt:Nat}(h:dH P s kp kt false F0 FW gs a (parked B2 #[scase s.pk v z] .send) w)(hL:aV (Two s.W) P t gs q)(hT:dO s.W T0 TW t)
 (ha:iI P s.cs A2 a) (hS:kg P s SM dF acc F0 A2 w) (hv:dF v) (hn:aC P false (SW vs) FW (Go.Conc.served B2 undef) w) (sl:Option (Nat×Nat)) :
 ∃gs' a' b' w' ops,runT P (crowd gs w sl) 0=(.next (crowd gs' w' sl),ops)/\dH P s (kp+1) kt false F0 FW gs' a' b' w'/\aV (Two s.W) P (t++ops) gs' q/\dO s.W F0 FW (t++ops)/\aC P true (SM (acc++[v])) F0 a' w'/\aC P false (SW vs) FW b' w':=by
 have hlt:0<gs.size:=(Array.getElem?_eq_some_iff.1 h.g0).1;have hltW:s.W<gs.size:=(Array.getElem?_eq_some_iff.1 h.gW).1;have Tq:partners (gs.setIfInBounds 0 ph) s.pk true=[(s.W,0)]:=by
  have hoff:offersAt (parked B2 #[scase s.pk v z] .send) s.pk true=[0]:=by rw[offersAt_parked_send,if_pos rfl]
  have:=partners_one (gs:=gs.setIfInBounds 0 ph) (r:=s.pk) (send:=true) (j:=s.W) (g:=parked B2 #[scase s.pk v z] .send) (stand_get h.w0 h.gW) λk x hk hx=>by
   rcases getElem?_stand gs 0 k x hx with⟨_,rfl⟩|⟨hne,hx⟩
   ·rfl
   ·exact xh (hL.old k x (λhh=>hh.elim hne hk) hx) _ _
  rw[this,hoff];rfl
 have aeb:partners (gs.setIfInBounds 0 ph) s.th true=[]:=sZ hL λj x hj hne hx=>by
  rcases hj with rfl|rfl
  ·exact absurd rfl hne
  ·rw[h.gW]at hx;cases hx
   rw[offersAt_parked_send,if_neg h.pt]
 have hr:=crowd_sel_recv_meets (P:=P) (sl:=sl) (i:=0) (j:=s.W) (k:=0) (z:=s.z0) (zj:=z) (c:=s.pk) (s:=kp) (r:=kp) (v:=v) h.g0 (show stepG P (0 == 0) a w=_ from ha.Jc w) rfl (λm c' hm hc'=>by
  rcases m with _|m
  ·exact absurd rfl hm
  ·rcases m with _|m
   ·cases hc'
    exact ways_recv_none h.ot aeb
   ·simp[Score.cs,dC]at hc') h.op h.w0 h.gW Tq
 obtain⟨c1,c2⟩:=GK h.op h.ot h.pt;have hD:=h.chan (.inl rfl) (gs':=(gs.setIfInBounds s.W (Go.Conc.served B2 undef)).setIfInBounds 0 (A2.finishComm P s.cs .select 0 v true)) (a':=A2.finishComm P s.cs .select 0 v true) (b':=Go.Conc.served B2 undef)
  (by rw[Array.getElem?_setIfInBounds_self_of_lt (by simpa using hlt)]) (by rw[Array.getElem?_setIfInBounds_ne (Ne.symm h.w0),Array.getElem?_setIfInBounds_self_of_lt hltW]) (by simp) c1 c2
 refine⟨_,_,_,_,_,hr,hD.1,?_,?_,(hS.next v hv).rely hD.2.1,hn.rely hD.2.2⟩
 ·exact hL.same (by simp) (λk hk=>by rw[Array.getElem?_setIfInBounds_ne (λe=>hk (.inl e.symm)),Array.getElem?_setIfInBounds_ne (λe=>hk (.inr e.symm))]) PV
 ·exact hT.exchange F0 FW s.pk kp _ _ _ _
theorem dH.FX{kp kt:Nat}{tq:Bool}{F0 FW:Nat->Prop}{gs:Array Goroutine}{a b:Goroutine}{w:World}(h:dH P s kp kt tq F0 FW gs a b w):∀x,F0 x->¬nu s FW x:=by
 rintro x hx (hx' | rfl)
 ·exact h.apart x hx hx'
 ·exact h.rP.2 hx
theorem Ar(hp:Parts P s SM SW dF){F0 FW T0 TW:Nat->Prop}{gs:Array Goroutine}{a b:Goroutine}{w:World}{t:Trace}{q:Nat->Nat}{kp kt:Nat}(h:dH P s kp kt false F0 FW gs a b w)(hL:aV (Two s.W) P t gs q)(hT:dO s.W T0 TW t)(hd:∀x,T0 x->¬nu s TW x)(hW:SW [] FW b w)(sl:Option (Nat×Nat)) :
 ∃gs' b' w' ops q' pc,runT P (crowd gs w sl) s.W=(.next (crowd gs' w' sl),ops)/\w'.heap[s.th]? = some (.chan 0 #[] true kt kt false)/\dH P s kp kt true F0 FW gs' (a.again w') b' w'/\SW [] FW b w'/\aQ F0 w w'/\aV (· = 0) P (t++ops) gs' q'/\qG s.th pc T0 (nu s TW) (t++ops):=by
 have hltW:s.W<gs.size:=(Array.getElem?_eq_some_iff.1 h.gW).1;obtain⟨_,hwake,b',k,hq,hst⟩:=hp.close FW b w hW;have hgo:=hst w kt h.ot;have hr:=runT_crowd_go (P:=P) (sl:=sl) (i:=s.W) h.gW (show stepG P (s.W == 0) b w=_ by rw[show(s.W == 0)=false by simpa using h.w0];exact hgo);have hwk:∀g,woken P b b' { w with heap:=w.heap.setIfInBounds s.th (.chan 0 #[] true kt kt false) } g=g.again { w with heap:=w.heap.setIfInBounds s.th (.chan 0 #[] true kt kt false) }:=by
  intro g;unfold Go.Conc.woken;rw[hwake];rcases hq.status with e|e<;>rw[e]<;>rfl
 have hth:(w.heap.setIfInBounds s.th (.chan 0 #[] true kt kt false))[s.th]? = some (.chan 0 #[] true kt kt false):=by rw[Array.getElem?_setIfInBounds_self_of_lt (ae h.ot)]
 have hD:=h.chan (.inr rfl) (o:=.chan 0 #[] true kt kt false) (gs':=(gs.map (woken P b b' { w with heap:=w.heap.setIfInBounds s.th (.chan 0 #[] true kt kt false) })).setIfInBounds s.W b') (a':=a.again { w with heap:=w.heap.setIfInBounds s.th (.chan 0 #[] true kt kt false) }) (b':=b') (kp':=kp) (Vw:=kt) (Tp:=true)
  (by rw[dN h.w0 h.g0,hwk]) (iV hltW) (by simp) (by show(w.heap.setIfInBounds s.th _)[s.pk]? = _;rw[Array.getElem?_setIfInBounds_ne (Ne.symm h.pt)];exact h.op) hth
 have hTc:=(hT.grow (wy:=T0) (zD:=nu s TW) (λ_ h=>h) λ_ h=>.inl h).close h.w0 hd (c:=s.th) (.inr rfl) b.frame.fn b.frame.place;have hLp:=hL.nR (g:=b) (g':=b') (w':={ w with heap:=w.heap.setIfInBounds s.th (.chan 0 #[] true kt kt false) }) (.inr rfl) hltW (u:=MemOp.ofEvents s.W b.frame.fn b.frame.place #[⟨.obj s.th,false,true⟩,⟨.obj s.th,true,true⟩]) ofEvents_g;refine⟨_,b',_,_,upd q s.W k,_,hr,hth,hD.1,hp.ky _ _ _ _ _ hW hD.2.2,hD.2.1,⟨λj x hj hx=>?_,hLp.above⟩,hTc⟩;by_cases YA:j=s.W
 ·subst YA
  rw[iV hltW]at hx;cases hx
  rw[upd_same,yB,hT.uX]
  ·exact hq
  ·intro e he
   simp only[List.mem_toArray,List.mem_cons,List.not_mem_nil,or_false]at he;rcases he with rfl|rfl<;>exact⟨nofun,nofun⟩
 ·rw[upd_ne q k YA]
  exact hLp.old j x (λhh=>hh.elim hj YA) hx
end
end
