/- Lemmas. -/
import Derived.Test.YtignemioillaiaaGreatG06
namespace Go.Proofs.YtignemioillaiaaGreat
set_option maxHeartbeats 8000000
set_option maxRecDepth 100000
open List
section
open Go Go.Conc
open Go.ConcN (sumTo upd sumTo_upd upd_ne upd_same)
structure aQ(F:Nat->Prop)(w w1:World):Prop where
 size:w.heap.size<=w1.heap.size
 own:∀b,F b->w1.heap[b]? = w.heap[b]?
 os:w1.os=w.os
 out:w1.output=w.output
def Grow(F:Nat->Prop)(w w':World)(b:Nat):Prop:=F b\/(w.heap.size<=b/\b<w'.heap.size)
structure mg(F:Nat->Prop)(w w':World)(es:Array Event):Prop where
 size:w.heap.size<=w'.heap.size
 rest:∀b,b<w.heap.size->¬F b->w'.heap[b]? = w.heap[b]?
 os:w'.os=w.os
 out:w'.output=w.output
 evs:∀e∈es,AR (Grow F w w') e
theorem aQ.refl(F:Nat->Prop)(w:World):aQ F w w:=⟨Nat.le_refl _,λ_ _=>rfl,rfl,rfl⟩
theorem aQ.trans{F:Nat->Prop}{a b c:World}(h:aQ F a b)(k:aQ F b c):aQ F a c:=⟨Nat.le_trans h.size k.size,λx hx=>(k.own x hx).trans (h.own x hx),k.os.trans h.os,k.out.trans h.out⟩
theorem aQ.at(F:Nat->Prop)(w:World)(d:Nat):aQ F w (w.at d):=⟨Nat.le_refl _,λ_ _=>rfl,rfl,rfl⟩
section
variable(P:Program)(main:Bool)(Stop:(Nat->Prop)->Goroutine->World->Prop)
def aB(F:Nat->Prop)(g:Goroutine)(w:World):Prop:=∀X:(Nat->Prop)->Goroutine->World->Prop,
 (∀F g w,(∀w1,aQ F w w1->Stop F g w1)->X F g w) ->
 (∀F g w,g.status=.running->(∀w1,aQ F w w1->(stepG P main g w1).goes λg' w' es=>mg F w1 w' es/\X (Grow F w1 w') g' w')->X F g w)->X F g w
end
section
variable{P:Program}{main:Bool}{Stop:(Nat->Prop)->Goroutine->World->Prop}{F:Nat->Prop}{g:Goroutine}{w:World}
theorem aB.stop(h:∀w1,aQ F w w1->Stop F g w1):aB P main Stop F g w:=λ_ h1 _=>h1 F g w h
theorem aB.step(hr:g.status=.running)(h:∀w1,aQ F w w1->(stepG P main g w1).goes λg' w' es=>mg F w1 w' es/\aB P main Stop (Grow F w1 w') g' w'):aB P main Stop F g w :=
 λX h1 h2=>h2 F g w hr λw1 hw=>goes_mono (h w1 hw) λ_ _ _ hx=>⟨hx.1,hx.2 X h1 h2⟩
theorem aB.induct{X:(Nat->Prop)->Goroutine->World->Prop}(h:aB P main Stop F g w)(h1:∀F g w,(∀w1,aQ F w w1->Stop F g w1)->X F g w)
 (h2:∀F g w,g.status=.running->(∀w1,aQ F w w1->(stepG P main g w1).goes λg' w' es=>mg F w1 w' es/\aB P main Stop (Grow F w1 w') g' w'/\X (Grow F w1 w') g' w')->X F g w):X F g w:=by
 refine(h (λF g w=>aB P main Stop F g w/\X F g w) (λF g w hs=>⟨.stop hs,h1 F g w hs⟩) λF g w hr hs=>⟨.step hr λw1 hw=>goes_mono (hs w1 hw) λ_ _ _ hx=>⟨hx.1,hx.2.1⟩,h2 F g w hr hs⟩).2
theorem aB.cases(h:aB P main Stop F g w):(∀w1,aQ F w w1->Stop F g w1)\/(g.status=.running/\∀w1,aQ F w w1->(stepG P main g w1).goes λg' w' es=>mg F w1 w' es/\aB P main Stop (Grow F w1 w') g' w') :=
 h.induct (X:=λF g w=>(∀w1,aQ F w w1->Stop F g w1)\/(g.status=.running/\∀w1,aQ F w w1->(stepG P main g w1).goes λg' w' es=>mg F w1 w' es/\aB P main Stop (Grow F w1 w') g' w')) (λ_ _ _ h=>.inl h) λ_ _ _ hr h=>.inr ⟨hr,λw1 hw=>goes_mono (h w1 hw) λ_ _ _ hx=>⟨hx.1,hx.2.1⟩⟩
theorem aB.rely{w1:World}(h:aB P main Stop F g w)(hw:aQ F w w1):aB P main Stop F g w1:=by
 rcases h.cases with h|⟨hr,h⟩
 ·exact .stop λw2 h2=>h w2 (hw.trans h2)
 ·exact .step hr λw2 h2=>h w2 (hw.trans h2)
end
structure Score where
 W:Nat
 pk:Nat
 th:Nat
 z0:Value
 z1:Value
 size:Nat
 ns:Nat
 dZ:Nat->Prop
 T9:Nat->Prop
 rest:Nat->Option Obj
 os:Os
 out:Array (Nat×ByteArray)
structure dJ(P:Program)(s:Score)(kp kt:Nat)(uf:Bool)(F0 FW:Nat->Prop)(gs:Array Goroutine)(a b:Goroutine)(w:World):Prop where
 g0:gs[0]? = some a
 gW:gs[s.W]? = some b
 w0:s.W≠0
 sz:gs.size=s.size
 apart:∀x,F0 x->¬FW x
 Hy:∀x,F0 x->x<w.heap.size
 Hz:∀x,FW x->x<w.heap.size
 op:dI w s.pk kp
 ot:w.heap[s.th]? = some (.chan 0 #[] uf kt kt false)
 sK:¬F0 s.pk/\¬F0 s.th
 vL:¬FW s.pk/\¬FW s.th
 pt:s.pk≠s.th
 AX:∀x,x<s.ns->F0 x->s.dZ x
 DJ:∀x,x<s.ns->FW x->s.T9 x
 big:s.ns<=w.heap.size
 Qt:∀x,x<s.ns->¬s.dZ x->¬s.T9 x->x≠s.pk->x≠s.th->w.heap[x]? = s.rest x
 Qu:w.os=s.os
 JC:w.output=s.out
section
variable{P:Program}{s:Score}{kp kt:Nat}{uf:Bool}{F0 FW:Nat->Prop}{gs:Array Goroutine}{a b:Goroutine}{w:World}
theorem ae{w:World}{x:Nat}{o:Obj}(h:w.heap[x]? = some o):x<w.heap.size:=(Array.getElem?_eq_some_iff.1 h).1
theorem dJ.main(h:dJ P s kp kt uf F0 FW gs a b w){gs':Array Goroutine}{a' b':Goroutine}{w':World}{es:Array Event}(hg:mg F0 w w' es)(h0:gs'[0]? = some a')(hW:gs'[s.W]? = some b')(hsz:gs'.size=gs.size) :
 dJ P s kp kt uf (Grow F0 w w') FW gs' a' b' w'/\aQ FW w w':=by
 have hne:∀x,x<w.heap.size->¬F0 x->w'.heap[x]? = w.heap[x]?:=hg.rest;refine⟨⟨h0,hW,h.w0,hsz.trans h.sz,?_,?_,λx hx=>Nat.lt_of_lt_of_le (h.Hz x hx) hg.size,?_,?_,?_,h.vL,h.pt,?_,h.DJ,Nat.le_trans h.big hg.size,?_,hg.os.trans h.Qu,hg.out.trans h.JC⟩,⟨hg.size,λx hx=>hne x (h.Hz x hx) λh0=>h.apart x h0 hx,hg.os,hg.out⟩⟩
 ·rintro x (hx|hx) hx'
  ·exact h.apart x hx hx'
  ·have:=h.Hz x hx';omega
 ·rintro x (hx|hx)
  ·exact Nat.lt_of_lt_of_le (h.Hy x hx) hg.size
  ·exact hx.2
 ·exact(hne _ (ae h.op) h.sK.1).trans h.op
 ·exact(hne _ (ae h.ot) h.sK.2).trans h.ot
 ·refine⟨?_,?_⟩
  ·rintro(hx|hx)
   ·exact h.sK.1 hx
   ·have:=ae h.op;omega
  ·rintro(hx|hx)
   ·exact h.sK.2 hx
   ·have:=ae h.ot;omega
 ·rintro x hx (hy|hy)
  ·exact h.AX x hx hy
  ·have:=h.big;omega
 ·intro x hx ho V3 h1 h2
  rw[hne x (Nat.lt_of_lt_of_le hx h.big) λhf=>ho (h.AX x hx hf)];exact h.Qt x hx ho V3 h1 h2
theorem dJ.work(h:dJ P s kp kt uf F0 FW gs a b w){gs':Array Goroutine}{a' b':Goroutine}{w':World}{es:Array Event}(hg:mg FW w w' es)(h0:gs'[0]? = some a')(hW:gs'[s.W]? = some b')(hsz:gs'.size=gs.size) :
 dJ P s kp kt uf F0 (Grow FW w w') gs' a' b' w'/\aQ F0 w w':=by
 have hne:∀x,x<w.heap.size->¬FW x->w'.heap[x]? = w.heap[x]?:=hg.rest;refine⟨⟨h0,hW,h.w0,hsz.trans h.sz,?_,λx hx=>Nat.lt_of_lt_of_le (h.Hy x hx) hg.size,?_,?_,?_,h.sK,?_,h.pt,h.AX,?_,Nat.le_trans h.big hg.size,?_,hg.os.trans h.Qu,hg.out.trans h.JC⟩,⟨hg.size,λx hx=>hne x (h.Hy x hx) λh0=>h.apart x hx h0,hg.os,hg.out⟩⟩
 ·rintro x hx (hx' | hx')
  ·exact h.apart x hx hx'
  ·have:=h.Hy x hx;omega
 ·rintro x (hx|hx)
  ·exact Nat.lt_of_lt_of_le (h.Hz x hx) hg.size
  ·exact hx.2
 ·exact(hne _ (ae h.op) h.vL.1).trans h.op
 ·exact(hne _ (ae h.ot) h.vL.2).trans h.ot
 ·refine⟨?_,?_⟩
  ·rintro(hx|hx)
   ·exact h.vL.1 hx
   ·have:=ae h.op;omega
  ·rintro(hx|hx)
   ·exact h.vL.2 hx
   ·have:=ae h.ot;omega
 ·rintro x hx (hy|hy)
  ·exact h.DJ x hx hy
  ·have:=h.big;omega
 ·intro x hx ho V3 h1 h2
  rw[hne x (Nat.lt_of_lt_of_le hx h.big) λhf=>V3 (h.DJ x hx hf)];exact h.Qt x hx ho V3 h1 h2
theorem dJ.chan(h:dJ P s kp kt uf F0 FW gs a b w){c:Nat}(hc:c=s.pk\/c=s.th){o:Obj}{kp' V4:Nat}{Ua:Bool}{gs':Array Goroutine}{a' b':Goroutine}(h0:gs'[0]? = some a')(hW:gs'[s.W]? = some b')(hsz:gs'.size=gs.size)
 (ho1:dI { w with heap:=w.heap.setIfInBounds c o } s.pk kp') (ho2:(w.heap.setIfInBounds c o)[s.th]? = some (.chan 0 #[] Ua V4 V4 false)) :
 dJ P s kp' V4 Ua F0 FW gs' a' b' { w with heap:=w.heap.setIfInBounds c o }/\aQ F0 w { w with heap:=w.heap.setIfInBounds c o }/\aQ FW w { w with heap:=w.heap.setIfInBounds c o }:=by
 have hs:({ w with heap:=w.heap.setIfInBounds c o }:World).heap.size=w.heap.size:=by simp
 have hne:∀x,x≠c->(w.heap.setIfInBounds c o)[x]? = w.heap[x]?:=λx hx=>Array.getElem?_setIfInBounds_ne (Ne.symm hx)
 have Qv:∀x,F0 x->x≠c:=λx hx e=>by
  subst e;rcases hc with hc|hc
  ·exact h.sK.1 (hc▸hx)
  ·exact h.sK.2 (hc▸hx)
 have hFW:∀x,FW x->x≠c:=λx hx e=>by
  subst e;rcases hc with hc|hc
  ·exact h.vL.1 (hc▸hx)
  ·exact h.vL.2 (hc▸hx)
 refine⟨⟨h0,hW,h.w0,hsz.trans h.sz,h.apart,λx hx=>by rw[hs];exact h.Hy x hx,λx hx=>by rw[hs];exact h.Hz x hx,ho1,ho2,h.sK,h.vL,h.pt,h.AX,h.DJ,by rw[hs];exact h.big,λx hx hy hyW h1 h2=>?_,h.Qu,h.JC⟩,
  ⟨Nat.le_of_eq hs.symm,λx hx=>hne x (Qv x hx),rfl,rfl⟩,⟨Nat.le_of_eq hs.symm,λx hx=>hne x (hFW x hx),rfl,rfl⟩⟩
 show(w.heap.setIfInBounds c o)[x]? = _;rw[hne x (by rcases hc with rfl|rfl<;>assumption)];exact h.Qt x hx hy hyW h1 h2
theorem dJ.at(h:dJ P s kp kt uf F0 FW gs a b w)(d:Nat){gs':Array Goroutine}{a' b':Goroutine}(h0:gs'[0]? = some a')(hW:gs'[s.W]? = some b')(hsz:gs'.size=gs.size):dJ P s kp kt uf F0 FW gs' a' b' (w.at d) :=
 ⟨h0,hW,h.w0,hsz.trans h.sz,h.apart,h.Hy,h.Hz,h.op,h.ot,h.sK,h.vL,h.pt,h.AX,h.DJ,h.big,h.Qt,h.Qu,h.JC⟩
theorem dJ.pick(h:dJ P s kp kt uf F0 FW gs a b w){t:Trace}{q:Nat->Nat}(hL:aV (Two s.W) P t gs q)(ha:awake a)(hb:awake b)(hr:a.status=.running\/b.status=.running)(ka:∀d,a.again (w.at d)=a)(kb:∀d,b.again (w.at d)=b)(sl:Option (Nat×Nat)) :
 (∃d sl',a.status=.running/\stepT P (crowd gs w sl)=runT P (crowd gs (w.at d) sl') 0)\/(∃d sl',b.status=.running/\stepT P (crowd gs w sl)=runT P (crowd gs (w.at d) sl') s.W) \/
 ∃d sl' gs' q' i fn pos es,i≠0/\i≠s.W/\(∀e∈es,Event.mute e=true)/\stepT P (crowd gs w sl)=(.next (crowd gs' (w.at d) sl'),MemOp.ofEvents i fn pos es)/\dJ P s kp kt uf F0 FW gs' a b (w.at d)/\aV (Two s.W) P (t++MemOp.ofEvents i fn pos es) gs' q'/\sumTo s.size q'<sumTo s.size q:=by
 have haw:=hL.awake λi g hi hg=>by
  rcases hi with rfl|rfl
  ·rw[h.g0]at hg;cases hg;exact ha
  ·rw[h.gW]at hg;cases hg;exact hb
 obtain⟨i,g,d,sl',hi,hg,hst⟩:=crowd_pick (P:=P) (w:=w) (sl:=sl) haw (by
  rcases hr with hr|hr
  ·exact⟨0,a,h.g0,hr⟩
  ·exact⟨s.W,b,h.gW,hr⟩)
 by_cases hi0:i=0
 ·subst hi0
  rw[h.g0]at hi;cases hi
  exact .inl ⟨d,sl',hg,hst⟩
 by_cases kG:i=s.W
 ·subst kG
  rw[h.gW]at hi;cases hi
  exact .inr (.inl ⟨d,sl',hg,hst⟩)
 obtain⟨g',es,q',hm,yj,hL',hlt'⟩:=hL.slip (w:=w.at d) hi (λhx=>hx.elim hi0 kG) hi0 hg sl';rw[h.sz]at hlt';exact .inr (.inr ⟨d,sl',_,q',i,_,_,es,hi0,kG,hm,hst.trans yj,h.at d (by rw[dN hi0 h.g0,sJ (ka d)]) (by rw[dN kG h.gW,sJ (kb d)]) (by simp),hL',hlt'⟩)
end
theorem aV.same{Sp:Nat->Prop}{P:Program}{t:Trace}{gs gs':Array Goroutine}{q:Nat->Nat}(h:aV Sp P t gs q)(hs:gs'.size=gs.size)(ho:∀k,¬Sp k->gs'[k]? = gs[k]?){u:Trace}(hu:qU u):aV Sp P (t++u) gs' q:=by
 refine⟨λi g hi hg=>?_,λj hj=>?_⟩
 ·rw[ho i hi]at hg
  rw[lZ hu];exact h.old i g hi hg
 ·rw[lZ hu]
  exact h.above j (by rw[<-hs];exact hj)
theorem HY:qU #[]:=by
 intro op hop;simp at hop
section
variable(P:Program)(s:Score)(SM SW:List Value->(Nat->Prop)->Goroutine->World->Prop)(dG:Value->Prop)
abbrev Score.cs(s:Score):Array CommCase:=dD s.pk s.th s.z0 s.z1
structure kH(acc:List Value)(F:Nat->Prop)(A2:Goroutine)(w:World):Prop where
 Y9:∃a0,SM acc F a0 w/\iP P s.cs A2 a0
 next:∀v,dG v->aB P true (SM (acc++[v])) F (A2.finishComm P s.cs .select 0 v true) w
structure Parts:Prop where
 aeD:∀acc F a w w1,SM acc F a w->aQ F w w1->SM acc F a w1
 kM:∀vs F b w w1,SW vs F b w->aQ F w w1->SW vs F b w1
 sel:∀acc F a w,SM acc F a w->∃A2,iP P s.cs A2 a/\∀v,dG v->aB P true (SM (acc++[v])) F (A2.finishComm P s.cs .select 0 v true) w
 send:∀v vs F b w,SW (v::vs) F b w->dG v/\b.status=.running/\∃B2 z,(∀w,stepG P false b w=.comm B2 #[scase s.pk v z] true .send w #[])/\aB P false (SW vs) F (Go.Conc.served B2 undef) w
 close:∀F b w,SW [] F b w->b.status=.running/\mayWake P b=true/\∃b' k,QuitsD P k 0 b'/\∀w1 kt,w1.heap[s.th]? = some (.chan 0 #[] false kt kt false)->stepG P false b w1=.go b' { w1 with heap:=w1.heap.setIfInBounds s.th (.chan 0 #[] true kt kt false) } #[⟨.obj s.th,false,true⟩,⟨.obj s.th,true,true⟩]
def Fin(acc:List Value)(m:Machine)(t:Trace):Prop:=∃gs w sl q F0 FW A2 b a0 b0 kp kt,m=crowd gs w sl/\dJ P s kp kt true F0 FW gs (A2.finishComm P s.cs .select 1 s.z1 false) b w/\SM acc F0 a0 w/\iP P s.cs A2 a0/\SW [] FW b0 w/\aV (· = 0) P t gs q/\jH t
end
section
variable{P:Program}{s:Score}{SM SW:List Value->(Nat->Prop)->Goroutine->World->Prop}{dG:Value->Prop}
theorem kH.rely(hp:Parts P s SM SW dG){acc:List Value}{F:Nat->Prop}{A2:Goroutine}{w w1:World}(h:kH P s SM dG acc F A2 w)(hr:aQ F w w1):kH P s SM dG acc F A2 w1:=by
 obtain⟨a0,h1,h2⟩:=h.Y9;exact⟨⟨a0,hp.aeD _ _ _ _ _ h1 hr,h2⟩,λv hv=>(h.next v hv).rely hr⟩
theorem Parts.EM(hp:Parts P s SM SW dG){acc:List Value}{F:Nat->Prop}{a:Goroutine}{w:World}(h:SM acc F a w):∃A2,iP P s.cs A2 a/\kH P s SM dG acc F A2 w:=by
 obtain⟨A2,h1,h2⟩:=hp.sel acc F a w h;exact⟨A2,h1,⟨⟨a,h,h1⟩,h2⟩⟩
theorem iP.tries{A2 a:Goroutine}(h:iP P s.cs A2 a):iP P s.cs A2 { parked A2 s.cs .select with status:=.running } :=
 ⟨rfl,rfl,rfl,rfl,λw=>by rw[<-h.JB w];exact stepG_same h.fr.symm h.cl.symm h.dy.symm w⟩
def nL(s:Score)(FW:Nat->Prop)(b:Nat):Prop:=FW b\/b=s.th
theorem DK{i:Nat}{fn:FuncId}{pos:String}{es:Array Event}(hm:∀e∈es,Event.mute e=true):∀op∈MemOp.ofEvents i fn pos es,op.act.touch? = none:=λop hop=>by
 obtain⟨e,he,ea,_⟩:=pE hop;rw[ea];exact touch_mute (hm e he)
theorem yU(hp:Parts P s SM SW dG){acc:List Value}:∀(M:Nat) {F0 FW T0 TW:Nat->Prop} {gs:Array Goroutine} {a A2 b b0:Goroutine} {w:World} {sl:Option (Nat×Nat)} {t:Trace} {q:Nat->Nat} {kp kt pc:Nat},sumTo s.size q<=M->iP P s.cs A2 a->kH P s SM dG acc F0 A2 w->SW [] FW b0 w->dJ P s kp kt true F0 FW gs a b w->aV (· = 0) P t gs q->qV s.th pc T0 TW t->Reaches P (Fin P s SM SW acc) (crowd gs w sl) t:=by
 intro M;induction M using Nat.strongRecOn with
 |ind M ih =>
  intro F0 FW T0 TW gs a A2 b b0 w sl t q kp kt pc hM hs hS hW h hL hT;have haw:=hL.awake λi g hi hg=>by cases hi;rw[h.g0]at hg;cases hg;exact awake_of (.inl hs.run)
  obtain⟨i,g,d,sl',hi,hg,hst⟩:=crowd_pick (P:=P) (w:=w) (sl:=sl) haw ⟨0,a,h.g0,hs.run⟩;have hlt:0<gs.size:=(Array.getElem?_eq_some_iff.1 h.g0).1;have hltW:s.W<gs.size:=(Array.getElem?_eq_some_iff.1 h.gW).1;by_cases hi0:i=0
  ·subst hi0
   obtain rfl:g=a:=by have:=h.g0;rw[hi]at this;exact Option.some.inj this
   have hpn:∀c,partners (gs.setIfInBounds 0 ph) c true=[]:=λc=>tZ hL λj x hj hne _=>absurd hj hne
   have hr:=crowd_sel_recv_closed (P:=P) (sl:=sl') (i:=0) (k:=1) (c:=s.th) (z:=s.z1) (s:=kt) (r:=kt) hi (show stepG P (0 == 0) g (w.at d)=_ from hs.JB (w.at d)) rfl (λm c' hm hc'=>by
    rcases m with _|m
    ·cases hc'
     exact ways_recv_none (h.op.at d) (hpn s.pk)
    ·rcases m with _|m
     ·exact absurd rfl hm
     ·simp[Score.cs,dD]at hc') h.ot (hpn s.th)
   refine Reaches.step (hst.trans hr) (.here ?_);have hops:(MemOp.ofEvents 0 g.frame.fn g.frame.place #[]:Trace) = #[]:=rfl;rw[hops,Array.empty_append];obtain⟨a0,ha0,hat⟩:=(hS.rely hp (aQ.at F0 w d)).Y9;refine⟨_,w.at d,sl',q,F0,FW,A2,b,a0,b0,kp,kt,rfl,h.at d ?_ ?_ (by simp),ha0,hat,hp.kM _ _ _ _ _ hW (aQ.at FW w d),?_,hT.met _ _⟩
   ·rw[Array.getElem?_setIfInBounds_self_of_lt hlt];rfl
   ·rw[Array.getElem?_setIfInBounds_ne (Ne.symm h.w0)];exact h.gW
   ·exact hL.same (by simp) (λk hk=>Array.getElem?_setIfInBounds_ne (Ne.symm hk)) (by
     intro op hop;simp only[mem_toArray,mem_cons,not_mem_nil,or_false]at hop;subst hop;exact⟨nofun,nofun⟩)
  ·obtain⟨g',es,q',hm,yj,hL',hlt'⟩:=hL.slip (w:=w.at d) hi hi0 hi0 hg sl'
   refine Reaches.step (hst.trans yj) ?_;rw[h.sz]at hlt';have hWx:∃b',((gs.map (woken P g g' (w.at d))).setIfInBounds i g')[s.W]? = some b':=⟨_,Array.getElem?_eq_getElem (by simpa using hltW)⟩;obtain⟨b',hb'⟩:=hWx;exact ih (sumTo s.size q') (by omega) (Nat.le_refl _) hs (hS.rely hp (aQ.at F0 w d)) (hp.kM _ _ _ _ _ hW (aQ.at FW w d)) (h.at d (by rw[dN hi0 h.g0,woken_run hs.run]) hb' (by simp)) hL' (hT.still (DK hm) ((Deaf_other t hi0 _ ofEvents_g).trans hT.ni))
theorem Mi(hp:Parts P s SM SW dG){acc:List Value}{F0:Nat->Prop}{a:Goroutine}{w:World}(hM:aB P true (SM acc) F0 a w):∀{FW:Nat->Prop} {gs:Array Goroutine} {b b0:Goroutine} {sl:Option (Nat×Nat)} {t:Trace} {q:Nat->Nat} {kp kt pc:Nat},SW [] FW b0 w->dJ P s kp kt true F0 FW gs a b w->aV (· = 0) P t gs q->qV s.th pc F0 (nL s FW) t->Reaches P (Fin P s SM SW acc) (crowd gs w sl) t:=by
 refine hM.induct (X:=λF0 a w=>∀{FW:Nat->Prop} {gs:Array Goroutine} {b b0:Goroutine} {sl:Option (Nat×Nat)} {t:Trace} {q:Nat->Nat} {kp kt pc:Nat},SW [] FW b0 w->dJ P s kp kt true F0 FW gs a b w->aV (· = 0) P t gs q->qV s.th pc F0 (nL s FW) t->Reaches P (Fin P s SM SW acc) (crowd gs w sl) t) ?_ ?_
 ·intro F0 a w hs FW gs b b0 sl t q kp kt pc hW h hL hT
  obtain⟨A2,h1,h2⟩:=hp.EM (hs w (.refl _ _));exact yU hp _ (Nat.le_refl _) h1 h2 hW h hL hT
 ·intro F0 a w hrun hstep FW gs b b0 sl t q kp kt pc
  suffices H:∀M w gs b sl t q,sumTo s.size q<=M->(∀w1,aQ F0 w w1->(stepG P true a w1).goes λg' w' es=>mg F0 w1 w' es/\aB P true (SM acc) (Grow F0 w1 w') g' w'/\∀{FW:Nat->Prop} {gs:Array Goroutine} {b b0:Goroutine} {sl:Option (Nat×Nat)} {t:Trace} {q:Nat->Nat} {kp kt pc:Nat},SW [] FW b0 w'->dJ P s kp kt true (Grow F0 w1 w') FW gs g' b w'->aV (· = 0) P t gs q->qV s.th pc (Grow F0 w1 w') (nL s FW) t->Reaches P (Fin P s SM SW acc) (crowd gs w' sl) t)->SW [] FW b0 w->dJ P s kp kt true F0 FW gs a b w->aV (· = 0) P t gs q->qV s.th pc F0 (nL s FW) t->Reaches P (Fin P s SM SW acc) (crowd gs w sl) t from H _ w gs b sl t q (Nat.le_refl _) hstep
  intro M;induction M using Nat.strongRecOn with
  |ind M ih =>
   intro w gs b sl t q hM hstep hW h hL hT;have haw:=hL.awake λi g hi hg=>by cases hi;rw[h.g0]at hg;cases hg;exact awake_of (.inl hrun)
   obtain⟨i,g,d,sl',hi,hg,hst⟩:=crowd_pick (P:=P) (w:=w) (sl:=sl) haw ⟨0,a,h.g0,hrun⟩;have hlt:0<gs.size:=(Array.getElem?_eq_some_iff.1 h.g0).1;have hltW:s.W<gs.size:=(Array.getElem?_eq_some_iff.1 h.gW).1;by_cases hi0:i=0
   ·subst hi0
    obtain rfl:g=a:=by have:=h.g0;rw[hi]at this;exact Option.some.inj this
    have hs:=hstep (w.at d) (aQ.at F0 w d);cases hgo:stepG P true g (w.at d)with
    |go a' w' es =>
     rw[hgo,goes_go]at hs;obtain⟨hgu,_,hnext⟩:=hs;have hrunT:=runT_crowd_go (P:=P) (sl:=sl') (i:=0) hi (show stepG P (0 == 0) g (w.at d)=_ from hgo);refine Reaches.step (hst.trans hrunT) ?_;obtain⟨b',hb'⟩:∃b',((gs.map (woken P g a' w')).setIfInBounds 0 a')[s.W]? = some b':=⟨_,Array.getElem?_eq_getElem (by simpa using hltW)⟩;have hD:=(h.at d h.g0 h.gW rfl).main hgu (jc hlt) hb' (by simp);refine hnext (sl:=sl') (hp.kM _ _ _ _ _ (hp.kM _ _ _ _ _ hW (aQ.at FW w d)) hD.2) hD.1 (hL.oC rfl hlt ofEvents_g) (hT.grow.main ?_ hgu.evs);rintro x hx (hx' | rfl)
     ·exact hD.1.apart x hx hx'
     ·exact hD.1.sK.2 hx
    |_=>rw[hgo]at hs;exact hs.elim
   ·obtain⟨g',es,q',hm,yj,hL',hlt'⟩:=hL.slip (w:=w.at d) hi hi0 hi0 hg sl'
    refine Reaches.step (hst.trans yj) ?_;rw[h.sz]at hlt';obtain⟨b',hb'⟩:∃b',((gs.map (woken P g g' (w.at d))).setIfInBounds i g')[s.W]? = some b':=⟨_,Array.getElem?_eq_getElem (by simpa using hltW)⟩;exact ih (sumTo s.size q') (by omega) (w.at d) _ b' sl' _ q' (Nat.le_refl _) (λw1 h1=>hstep w1 ((aQ.at F0 w d).trans h1)) (hp.kM _ _ _ _ _ hW (aQ.at FW w d)) (h.at d (by rw[dN hi0 h.g0,woken_run hrun]) hb' (by simp)) hL' (hT.still (DK hm) ((Deaf_other t hi0 _ ofEvents_g).trans hT.ni))
end
section
variable{P:Program}{s:Score}{SM SW:List Value->(Nat->Prop)->Goroutine->World->Prop}{dG:Value->Prop}
theorem Qw{W:Nat}{c k:Nat}{fn fn':FuncId}{pos pos':String}:qU #[⟨W,fn,pos,.send c k⟩,⟨0,fn',pos',.recv c k 0⟩,⟨W,fn,pos,.sendDone c k⟩,⟨0,fn',pos',.recvDone c k⟩]:=by
 intro op hop;simp only[mem_toArray,mem_cons,not_mem_nil,or_false]at hop;rcases hop with rfl|rfl|rfl|rfl<;>exact⟨nofun,nofun⟩
theorem HZ{w:World}{k kt:Nat}{uf:Bool}(h1:dI w s.pk k)(h2:w.heap[s.th]? = some (.chan 0 #[] uf kt kt false))(hne:s.pk≠s.th) :
 dI { w with heap:=w.heap.setIfInBounds s.pk (.chan 0 #[] false (k+1) (k+1) false) } s.pk (k+1)/\(w.heap.setIfInBounds s.pk (.chan 0 #[] false (k+1) (k+1) false))[s.th]? = some (.chan 0 #[] uf kt kt false):=by
 constructor
 ·show(w.heap.setIfInBounds s.pk _)[s.pk]? = _
  rw[Array.getElem?_setIfInBounds_self_of_lt (ae h1)]
 ·rw[Array.getElem?_setIfInBounds_ne hne]
  exact h2
theorem Qy(_hp:Parts P s SM SW dG){acc vs:List Value}{v z:Value}{F0 FW T0 TW:Nat->Prop}{gs:Array Goroutine}{A2 B2 b:Goroutine}{w:World}{t:Trace}{q:Nat->Nat}{kp kt:Nat}(h:dJ P s kp kt false F0 FW gs (parked A2 s.cs .select) b w)(hL:aV (Two s.W) P t gs q)(hT:dO s.W T0 TW t)
 (hS:kH P s SM dG acc F0 A2 w) (hv:dG v) (hb:∀w,stepG P false b w=.comm B2 #[scase s.pk v z] true .send w #[]) (hn:aB P false (SW vs) FW (Go.Conc.served B2 undef) w) (sl:Option (Nat×Nat)) :
 ∃gs' a' b' w' ops,runT P (crowd gs w sl) s.W=(.next (crowd gs' w' sl),ops)/\dJ P s (kp+1) kt false F0 FW gs' a' b' w'/\aV (Two s.W) P (t++ops) gs' q/\dO s.W F0 FW (t++ops)/\aB P true (SM (acc++[v])) F0 a' w'/\aB P false (SW vs) FW b' w':=by
 have hlt:0<gs.size:=(Array.getElem?_eq_some_iff.1 h.g0).1;have hltW:s.W<gs.size:=(Array.getElem?_eq_some_iff.1 h.gW).1;have Ub:partners (gs.setIfInBounds s.W ph) s.pk false=[(0,0)]:=by
  have hoff:offersAt (parked A2 s.cs .select) s.pk false=[0]:=offersAt_parked_at (k:=0) (z:=s.z0) rfl λm cc hm hcc=>by
   rcases m with _|m
   ·exact absurd rfl hm
   ·rcases m with _|m
    ·cases hcc
     intro e;have e':Value.chan (some s.th)=Value.chan (some s.pk):=e;injection e' with e1;injection e1 with e2;exact h.pt e2.symm
    ·simp[Score.cs,dD]at hcc
  have:=partners_one (gs:=gs.setIfInBounds s.W ph) (r:=s.pk) (send:=false) (j:=0) (g:=parked A2 s.cs .select) (stand_get (Ne.symm h.w0) h.g0) λk x hk hx=>by
   rcases getElem?_stand gs s.W k x hx with⟨_,rfl⟩|⟨hne,hx⟩
   ·rfl
   ·exact xK (hL.old k x (λhh=>hh.elim hk hne) hx) _ _
  rw[this,hoff];rfl
 have hr:=crowd_send_meets_sel (P:=P) (sl:=sl) (i:=s.W) (j:=0) (k:=0) (zj:=s.z0) (c:=s.pk) (s:=kp) (r:=kp) h.gW (show stepG P (s.W == 0) b w=_ by rw[show(s.W == 0)=false by simpa using h.w0];exact hb w) h.op (Ne.symm h.w0) h.g0 rfl Ub;obtain⟨c1,c2⟩:=HZ h.op h.ot h.pt;have hD:=h.chan (.inl rfl) (gs':=(gs.setIfInBounds 0 (A2.finishComm P s.cs .select 0 v true)).setIfInBounds s.W (Go.Conc.served B2 undef)) (a':=A2.finishComm P s.cs .select 0 v true) (b':=Go.Conc.served B2 undef)
  (by rw[Array.getElem?_setIfInBounds_ne h.w0,Array.getElem?_setIfInBounds_self_of_lt hlt]) (by rw[Array.getElem?_setIfInBounds_self_of_lt (by simpa using hltW)]) (by simp) c1 c2
 refine⟨_,_,_,_,_,hr,hD.1,?_,?_,(hS.next v hv).rely hD.2.1,hn.rely hD.2.2⟩
 ·exact hL.same (by simp) (λk hk=>by rw[Array.getElem?_setIfInBounds_ne (λe=>hk (.inr e.symm)),Array.getElem?_setIfInBounds_ne (λe=>hk (.inl e.symm))]) Qw
 ·exact hT.exchange F0 FW s.pk kp _ _ _ _
theorem Qz(_hp:Parts P s SM SW dG){acc vs:List Value}{v z:Value}{F0 FW T0 TW:Nat->Prop}{gs:Array Goroutine}{a A2 B2:Goroutine}{w:World}{t:Trace}{q:Nat->Nat}{kp kt:Nat}(h:dJ P s kp kt false F0 FW gs a (parked B2 #[scase s.pk v z] .send) w)(hL:aV (Two s.W) P t gs q)(hT:dO s.W T0 TW t)
 (ha:iP P s.cs A2 a) (hS:kH P s SM dG acc F0 A2 w) (hv:dG v) (hn:aB P false (SW vs) FW (Go.Conc.served B2 undef) w) (sl:Option (Nat×Nat)) :
 ∃gs' a' b' w' ops,runT P (crowd gs w sl) 0=(.next (crowd gs' w' sl),ops)/\dJ P s (kp+1) kt false F0 FW gs' a' b' w'/\aV (Two s.W) P (t++ops) gs' q/\dO s.W F0 FW (t++ops)/\aB P true (SM (acc++[v])) F0 a' w'/\aB P false (SW vs) FW b' w':=by
 have hlt:0<gs.size:=(Array.getElem?_eq_some_iff.1 h.g0).1;have hltW:s.W<gs.size:=(Array.getElem?_eq_some_iff.1 h.gW).1;have Ub:partners (gs.setIfInBounds 0 ph) s.pk true=[(s.W,0)]:=by
  have hoff:offersAt (parked B2 #[scase s.pk v z] .send) s.pk true=[0]:=by rw[offersAt_parked_send,if_pos rfl]
  have:=partners_one (gs:=gs.setIfInBounds 0 ph) (r:=s.pk) (send:=true) (j:=s.W) (g:=parked B2 #[scase s.pk v z] .send) (stand_get h.w0 h.gW) λk x hk hx=>by
   rcases getElem?_stand gs 0 k x hx with⟨_,rfl⟩|⟨hne,hx⟩
   ·rfl
   ·exact xK (hL.old k x (λhh=>hh.elim hne hk) hx) _ _
  rw[this,hoff];rfl
 have aeE:partners (gs.setIfInBounds 0 ph) s.th true=[]:=tZ hL λj x hj hne hx=>by
  rcases hj with rfl|rfl
  ·exact absurd rfl hne
  ·rw[h.gW]at hx;cases hx
   rw[offersAt_parked_send,if_neg h.pt]
 have hr:=crowd_sel_recv_meets (P:=P) (sl:=sl) (i:=0) (j:=s.W) (k:=0) (z:=s.z0) (zj:=z) (c:=s.pk) (s:=kp) (r:=kp) (v:=v) h.g0 (show stepG P (0 == 0) a w=_ from ha.JB w) rfl (λm c' hm hc'=>by
  rcases m with _|m
  ·exact absurd rfl hm
  ·rcases m with _|m
   ·cases hc'
    exact ways_recv_none h.ot aeE
   ·simp[Score.cs,dD]at hc') h.op h.w0 h.gW Ub
 obtain⟨c1,c2⟩:=HZ h.op h.ot h.pt;have hD:=h.chan (.inl rfl) (gs':=(gs.setIfInBounds s.W (Go.Conc.served B2 undef)).setIfInBounds 0 (A2.finishComm P s.cs .select 0 v true)) (a':=A2.finishComm P s.cs .select 0 v true) (b':=Go.Conc.served B2 undef)
  (by rw[Array.getElem?_setIfInBounds_self_of_lt (by simpa using hlt)]) (by rw[Array.getElem?_setIfInBounds_ne (Ne.symm h.w0),Array.getElem?_setIfInBounds_self_of_lt hltW]) (by simp) c1 c2
 refine⟨_,_,_,_,_,hr,hD.1,?_,?_,(hS.next v hv).rely hD.2.1,hn.rely hD.2.2⟩
 ·exact hL.same (by simp) (λk hk=>by rw[Array.getElem?_setIfInBounds_ne (λe=>hk (.inl e.symm)),Array.getElem?_setIfInBounds_ne (λe=>hk (.inr e.symm))]) Qw
 ·exact hT.exchange F0 FW s.pk kp _ _ _ _
theorem dJ.Gx{kp kt:Nat}{uf:Bool}{F0 FW:Nat->Prop}{gs:Array Goroutine}{a b:Goroutine}{w:World}(h:dJ P s kp kt uf F0 FW gs a b w):∀x,F0 x->¬nL s FW x:=by
 rintro x hx (hx' | rfl)
 ·exact h.apart x hx hx'
 ·exact h.sK.2 hx
theorem AY(hp:Parts P s SM SW dG){F0 FW T0 TW:Nat->Prop}{gs:Array Goroutine}{a b:Goroutine}{w:World}{t:Trace}{q:Nat->Nat}{kp kt:Nat}(h:dJ P s kp kt false F0 FW gs a b w)(hL:aV (Two s.W) P t gs q)(hT:dO s.W T0 TW t)(hd:∀x,T0 x->¬nL s TW x)(hW:SW [] FW b w)(sl:Option (Nat×Nat)) :
 ∃gs' b' w' ops q' pc,runT P (crowd gs w sl) s.W=(.next (crowd gs' w' sl),ops)/\w'.heap[s.th]? = some (.chan 0 #[] true kt kt false)/\dJ P s kp kt true F0 FW gs' (a.again w') b' w'/\SW [] FW b w'/\aQ F0 w w'/\aV (· = 0) P (t++ops) gs' q'/\qV s.th pc T0 (nL s TW) (t++ops):=by
 have hltW:s.W<gs.size:=(Array.getElem?_eq_some_iff.1 h.gW).1;obtain⟨_,hwake,b',k,hq,hst⟩:=hp.close FW b w hW;have hgo:=hst w kt h.ot;have hr:=runT_crowd_go (P:=P) (sl:=sl) (i:=s.W) h.gW (show stepG P (s.W == 0) b w=_ by rw[show(s.W == 0)=false by simpa using h.w0];exact hgo);have hwk:∀g,woken P b b' { w with heap:=w.heap.setIfInBounds s.th (.chan 0 #[] true kt kt false) } g=g.again { w with heap:=w.heap.setIfInBounds s.th (.chan 0 #[] true kt kt false) }:=by
  intro g;unfold Go.Conc.woken;rw[hwake];rcases hq.status with e|e<;>rw[e]<;>rfl
 have hth:(w.heap.setIfInBounds s.th (.chan 0 #[] true kt kt false))[s.th]? = some (.chan 0 #[] true kt kt false):=by rw[Array.getElem?_setIfInBounds_self_of_lt (ae h.ot)]
 have hD:=h.chan (.inr rfl) (o:=.chan 0 #[] true kt kt false) (gs':=(gs.map (woken P b b' { w with heap:=w.heap.setIfInBounds s.th (.chan 0 #[] true kt kt false) })).setIfInBounds s.W b') (a':=a.again { w with heap:=w.heap.setIfInBounds s.th (.chan 0 #[] true kt kt false) }) (b':=b') (kp':=kp) (V4:=kt) (Ua:=true)
  (by rw[dN h.w0 h.g0,hwk]) (jc hltW) (by simp) (by show(w.heap.setIfInBounds s.th _)[s.pk]? = _;rw[Array.getElem?_setIfInBounds_ne (Ne.symm h.pt)];exact h.op) hth
 have hTc:=(hT.grow (wO:=T0) (zY:=nL s TW) (λ_ h=>h) λ_ h=>.inl h).close h.w0 hd (c:=s.th) (.inr rfl) b.frame.fn b.frame.place;have hLp:=hL.oC (g:=b) (g':=b') (w':={ w with heap:=w.heap.setIfInBounds s.th (.chan 0 #[] true kt kt false) }) (.inr rfl) hltW (u:=MemOp.ofEvents s.W b.frame.fn b.frame.place #[⟨.obj s.th,false,true⟩,⟨.obj s.th,true,true⟩]) ofEvents_g;refine⟨_,b',_,_,upd q s.W k,_,hr,hth,hD.1,hp.kM _ _ _ _ _ hW hD.2.2,hD.2.1,⟨λj x hj hx=>?_,hLp.above⟩,hTc⟩;by_cases Za:j=s.W
 ·subst Za
  rw[jc hltW]at hx;cases hx
  rw[upd_same,yT,hT.vK]
  ·exact hq
  ·intro e he
   simp only[mem_toArray,mem_cons,not_mem_nil,or_false]at he;rcases he with rfl|rfl<;>exact⟨nofun,nofun⟩
 ·rw[upd_ne q k Za]
  exact hLp.old j x (λhh=>hh.elim hj Za) hx
end
end
