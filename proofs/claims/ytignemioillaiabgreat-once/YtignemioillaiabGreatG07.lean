/- Lemmas. -/
import Derived.Test.YtignemioillaiabGreatG06
namespace Go.Proofs.YtignemioillaiabGreat
set_option maxHeartbeats 8000000
set_option maxRecDepth 100000
open List
section
open Go Go.Conc
open Go.ConcN (sumTo upd sumTo_upd upd_ne upd_same)
structure aO(F:Nat->Prop)(w w1:World):Prop where
 size:w.heap.size<=w1.heap.size
 own:∀b,F b->w1.heap[b]?=w.heap[b]?
 os:w1.os=w.os
 out:w1.output=w.output
def Grow(F:Nat->Prop)(w w':World)(b:Nat):Prop:=F b\/(w.heap.size<=b/\b<w'.heap.size)
structure mG(F:Nat->Prop)(w w':World)(es:Array Event):Prop where
 size:w.heap.size<=w'.heap.size
 rest:∀b,b<w.heap.size->¬F b->w'.heap[b]?=w.heap[b]?
 os:w'.os=w.os
 out:w'.output=w.output
 evs:∀e∈es,BN (Grow F w w') e
theorem aO.refl(F:Nat->Prop)(w:World):aO F w w:=⟨Jb0 _,λ_ _=>rfl,rfl,rfl⟩
theorem aO.trans{F:Nat->Prop}{a b c:World}(h:aO F a b)(k:aO F b c):aO F a c:=⟨Jb1 h.size k.size,λx hx=>(k.own x hx).trans (h.own x hx),k.os.trans h.os,k.out.trans h.out⟩
theorem aO.at(F:Nat->Prop)(w:World)(d:Nat):aO F w (w.at d):=⟨Jb0 _,λ_ _=>rfl,rfl,rfl⟩
section
variable(P:Program)(main:Bool)(Stop:(Nat->Prop)->Goroutine->World->Prop)
def aA(F:Nat->Prop)(g:Goroutine)(w:World):Prop:=∀X:(Nat->Prop)->Goroutine->World->Prop,
 (∀F g w,(∀w1,aO F w w1->Stop F g w1)->X F g w) ->
 (∀F g w,g.status=.running->(∀w1,aO F w w1->(stepG P main g w1).goes λg' w' es=>mG F w1 w' es/\X (Grow F w1 w') g' w')->X F g w)->X F g w
end
section
variable{P:Program}{main:Bool}{Stop:(Nat->Prop)->Goroutine->World->Prop}{F:Nat->Prop}{g:Goroutine}{w:World}
theorem aA.stop(h:∀w1,aO F w w1->Stop F g w1):aA P main Stop F g w:=λ_ h1 _=>h1 F g w h
theorem aA.step(hr:g.status=.running)(h:∀w1,aO F w w1->(stepG P main g w1).goes λg' w' es=>mG F w1 w' es/\aA P main Stop (Grow F w1 w') g' w'):aA P main Stop F g w :=
 λX h1 h2=>h2 F g w hr λw1 hw=>goes_mono (h w1 hw) λ_ _ _ hx=>⟨hx.1,hx.2 X h1 h2⟩
theorem aA.induct{X:(Nat->Prop)->Goroutine->World->Prop}(h:aA P main Stop F g w)(h1:∀F g w,(∀w1,aO F w w1->Stop F g w1)->X F g w)
 (h2:∀F g w,g.status=.running->(∀w1,aO F w w1->(stepG P main g w1).goes λg' w' es=>mG F w1 w' es/\aA P main Stop (Grow F w1 w') g' w'/\X (Grow F w1 w') g' w')->X F g w):X F g w:=by
 refine(h (λF g w=>aA P main Stop F g w/\X F g w) (λF g w hs=>⟨.stop hs,h1 F g w hs⟩) λF g w hr hs=>⟨.step hr λw1 hw=>goes_mono (hs w1 hw) λ_ _ _ hx=>⟨hx.1,hx.2.1⟩,h2 F g w hr hs⟩).2
theorem aA.cases(h:aA P main Stop F g w):(∀w1,aO F w w1->Stop F g w1)\/(g.status=.running/\∀w1,aO F w w1->(stepG P main g w1).goes λg' w' es=>mG F w1 w' es/\aA P main Stop (Grow F w1 w') g' w') :=
 h.induct (X:=λF g w=>(∀w1,aO F w w1->Stop F g w1)\/(g.status=.running/\∀w1,aO F w w1->(stepG P main g w1).goes λg' w' es=>mG F w1 w' es/\aA P main Stop (Grow F w1 w') g' w')) (λ_ _ _ h=>.inl h) λ_ _ _ hr h=>.inr ⟨hr,λw1 hw=>goes_mono (h w1 hw) λ_ _ _ hx=>⟨hx.1,hx.2.1⟩⟩
theorem aA.rely{w1:World}(h:aA P main Stop F g w)(hw:aO F w w1):aA P main Stop F g w1:=by
 rcases h.cases with h|⟨hr,h⟩
 .exact .stop λw2 h2=>h w2 (hw.trans h2)
 .exact .step hr λw2 h2=>h w2 (hw.trans h2)
end
structure Score where
 W:Nat
 pk:Nat
 th:Nat
 z0:Value
 z1:Value
 size:Nat
 ns:Nat
 eu:Nat->Prop
 VM:Nat->Prop
 rest:Nat->Option Obj
 os:Os
 out:Array (Nat×ByteArray)
structure dH(P:Program)(s:Score)(kp kt:Nat)(uI:Bool)(F0 FW:Nat->Prop)(gs:Array Goroutine)(a b:Goroutine)(w:World):Prop where
 g0:gs[0]?=some a
 gW:gs[s.W]?=some b
 w0:s.W≠0
 sz:gs.size=s.size
 apart:∀x,F0 x->¬FW x
 Jj:∀x,F0 x->x<w.heap.size
 Eb:∀x,FW x->x<w.heap.size
 op:dG w s.pk kp
 ot:w.heap[s.th]?=some (.chan 0 #[] uI kt kt false)
 tV:¬F0 s.pk/\¬F0 s.th
 wM:¬FW s.pk/\¬FW s.th
 pt:s.pk≠s.th
 BQ:∀x,x<s.ns->F0 x->s.eu x
 EJ:∀x,x<s.ns->FW x->s.VM x
 big:s.ns<=w.heap.size
 Su:∀x,x<s.ns->¬s.eu x->¬s.VM x->x≠s.pk->x≠s.th->w.heap[x]?=s.rest x
 Sv:w.os=s.os
 KU:w.output=s.out
section
variable{P:Program}{s:Score}{kp kt:Nat}{uI:Bool}{F0 FW:Nat->Prop}{gs:Array Goroutine}{a b:Goroutine}{w:World}
theorem ae{w:World}{x:Nat}{o:Obj}(h:w.heap[x]?=some o):x<w.heap.size:=(Jbd.1 h).1
theorem dH.main(h:dH P s kp kt uI F0 FW gs a b w){gs':Array Goroutine}{a' b':Goroutine}{w':World}{es:Array Event}(hg:mG F0 w w' es)(h0:gs'[0]?=some a')(hW:gs'[s.W]?=some b')(hsz:gs'.size=gs.size) :
 dH P s kp kt uI (Grow F0 w w') FW gs' a' b' w'/\aO FW w w':=by
 have hne:∀x,x<w.heap.size->¬F0 x->w'.heap[x]?=w.heap[x]?:=hg.rest;refine⟨⟨h0,hW,h.w0,hsz.trans h.sz,?_,?_,λx hx=>Jbz (h.Eb x hx) hg.size,?_,?_,?_,h.wM,h.pt,?_,h.EJ,Jb1 h.big hg.size,?_,hg.os.trans h.Sv,hg.out.trans h.KU⟩,⟨hg.size,λx hx=>hne x (h.Eb x hx) λh0=>h.apart x h0 hx,hg.os,hg.out⟩⟩
 .rintro x (hx|hx) hx'
  .exact h.apart x hx hx'
  .have:=h.Eb x hx';omega
 .rintro x (hx|hx)
  .exact Jbz (h.Jj x hx) hg.size
  .exact hx.2
 .exact(hne _ (ae h.op) h.tV.1).trans h.op
 .exact(hne _ (ae h.ot) h.tV.2).trans h.ot
 .refine⟨?_,?_⟩
  .rintro(hx|hx)
   .exact h.tV.1 hx
   .have:=ae h.op;omega
  .rintro(hx|hx)
   .exact h.tV.2 hx
   .have:=ae h.ot;omega
 .rintro x hx (hy|hy)
  .exact h.BQ x hx hy
  .have:=h.big;omega
 .intro x hx ho X3 h1 h2
  rw[hne x (Jbz hx h.big) λhf=>ho (h.BQ x hx hf)];exact h.Su x hx ho X3 h1 h2
theorem dH.work(h:dH P s kp kt uI F0 FW gs a b w){gs':Array Goroutine}{a' b':Goroutine}{w':World}{es:Array Event}(hg:mG FW w w' es)(h0:gs'[0]?=some a')(hW:gs'[s.W]?=some b')(hsz:gs'.size=gs.size) :
 dH P s kp kt uI F0 (Grow FW w w') gs' a' b' w'/\aO F0 w w':=by
 have hne:∀x,x<w.heap.size->¬FW x->w'.heap[x]?=w.heap[x]?:=hg.rest;refine⟨⟨h0,hW,h.w0,hsz.trans h.sz,?_,λx hx=>Jbz (h.Jj x hx) hg.size,?_,?_,?_,h.tV,?_,h.pt,h.BQ,?_,Jb1 h.big hg.size,?_,hg.os.trans h.Sv,hg.out.trans h.KU⟩,⟨hg.size,λx hx=>hne x (h.Jj x hx) λh0=>h.apart x hx h0,hg.os,hg.out⟩⟩
 .rintro x hx (hx' | hx')
  .exact h.apart x hx hx'
  .have:=h.Jj x hx;omega
 .rintro x (hx|hx)
  .exact Jbz (h.Eb x hx) hg.size
  .exact hx.2
 .exact(hne _ (ae h.op) h.wM.1).trans h.op
 .exact(hne _ (ae h.ot) h.wM.2).trans h.ot
 .refine⟨?_,?_⟩
  .rintro(hx|hx)
   .exact h.wM.1 hx
   .have:=ae h.op;omega
  .rintro(hx|hx)
   .exact h.wM.2 hx
   .have:=ae h.ot;omega
 .rintro x hx (hy|hy)
  .exact h.EJ x hx hy
  .have:=h.big;omega
 .intro x hx ho X3 h1 h2
  rw[hne x (Jbz hx h.big) λhf=>X3 (h.EJ x hx hf)];exact h.Su x hx ho X3 h1 h2
theorem dH.chan(h:dH P s kp kt uI F0 FW gs a b w){c:Nat}(hc:c=s.pk\/c=s.th){o:Obj}{kp' X4:Nat}{VN:Bool}{gs':Array Goroutine}{a' b':Goroutine}(h0:gs'[0]?=some a')(hW:gs'[s.W]?=some b')(hsz:gs'.size=gs.size)
 (ho1:dG {w with heap:=w.heap.setIfInBounds c o} s.pk kp') (ho2:(w.heap.setIfInBounds c o)[s.th]?=some (.chan 0 #[] VN X4 X4 false)) :
 dH P s kp' X4 VN F0 FW gs' a' b' {w with heap:=w.heap.setIfInBounds c o}/\aO F0 w {w with heap:=w.heap.setIfInBounds c o}/\aO FW w {w with heap:=w.heap.setIfInBounds c o}:=by
 have hs:({w with heap:=w.heap.setIfInBounds c o}:World).heap.size=w.heap.size:=by simp
 have hne:∀x,x≠c->(w.heap.setIfInBounds c o)[x]?=w.heap[x]?:=λx hx=>Array.getElem?_setIfInBounds_ne (Ne.symm hx)
 have Sy:∀x,F0 x->x≠c:=λx hx e=>by
  subst e;rcases hc with hc|hc
  .exact h.tV.1 (hc▸hx)
  .exact h.tV.2 (hc▸hx)
 have hFW:∀x,FW x->x≠c:=λx hx e=>by
  subst e;rcases hc with hc|hc
  .exact h.wM.1 (hc▸hx)
  .exact h.wM.2 (hc▸hx)
 refine⟨⟨h0,hW,h.w0,hsz.trans h.sz,h.apart,λx hx=>by rw[hs];exact h.Jj x hx,λx hx=>by rw[hs];exact h.Eb x hx,ho1,ho2,h.tV,h.wM,h.pt,h.BQ,h.EJ,by rw[hs];exact h.big,λx hx hy hyW h1 h2=>?_,h.Sv,h.KU⟩,
  ⟨Jc0 hs.symm,λx hx=>hne x (Sy x hx),rfl,rfl⟩,⟨Jc0 hs.symm,λx hx=>hne x (hFW x hx),rfl,rfl⟩⟩
 show(w.heap.setIfInBounds c o)[x]?=_;rw[hne x (by rcases hc with rfl|rfl<;>assumption)];exact h.Su x hx hy hyW h1 h2
theorem dH.at(h:dH P s kp kt uI F0 FW gs a b w)(d:Nat){gs':Array Goroutine}{a' b':Goroutine}(h0:gs'[0]?=some a')(hW:gs'[s.W]?=some b')(hsz:gs'.size=gs.size):dH P s kp kt uI F0 FW gs' a' b' (w.at d) :=
 ⟨h0,hW,h.w0,hsz.trans h.sz,h.apart,h.Jj,h.Eb,h.op,h.ot,h.tV,h.wM,h.pt,h.BQ,h.EJ,h.big,h.Su,h.Sv,h.KU⟩
theorem dH.pick(h:dH P s kp kt uI F0 FW gs a b w){t:Trace}{q:Nat->Nat}(hL:aU (Two s.W) P t gs q)(ha:awake a)(hb:awake b)(hr:a.status=.running\/b.status=.running)(ka:∀d,a.again (w.at d)=a)(kb:∀d,b.again (w.at d)=b)(sl:Option (Nat×Nat)) :
 (∃d sl',a.status=.running/\stepT P (crowd gs w sl)=runT P (crowd gs (w.at d) sl') 0)\/(∃d sl',b.status=.running/\stepT P (crowd gs w sl)=runT P (crowd gs (w.at d) sl') s.W) \/
 ∃d sl' gs' q' i fn pos es,i≠0/\i≠s.W/\(∀e∈es,Event.mute e=true)/\stepT P (crowd gs w sl)=(.next (crowd gs' (w.at d) sl'),MemOp.ofEvents i fn pos es)/\dH P s kp kt uI F0 FW gs' a b (w.at d)/\aU (Two s.W) P (t++MemOp.ofEvents i fn pos es) gs' q'/\sumTo s.size q'<sumTo s.size q:=by
 have haw:=hL.awake λi g hi hg=>by
  rcases hi with rfl|rfl
  .rw[h.g0]at hg;cases hg;exact ha
  .rw[h.gW]at hg;cases hg;exact hb
 obtain⟨i,g,d,sl',hi,hg,hst⟩:=crowd_pick (P:=P) (w:=w) (sl:=sl) haw (by
  rcases hr with hr|hr
  .exact⟨0,a,h.g0,hr⟩
  .exact⟨s.W,b,h.gW,hr⟩)
 by_cases hi0:i=0
 .subst hi0
  rw[h.g0]at hi;cases hi
  exact .inl ⟨d,sl',hg,hst⟩
 by_cases kN:i=s.W
 .subst kN
  rw[h.gW]at hi;cases hi
  exact .inr (.inl ⟨d,sl',hg,hst⟩)
 obtain⟨g',es,q',hm,yY,hL',hlt'⟩:=hL.slip (w:=w.at d) hi (λhx=>hx.elim hi0 kN) hi0 hg sl';rw[h.sz]at hlt';exact .inr (.inr ⟨d,sl',_,q',i,_,_,es,hi0,kN,hm,hst.trans yY,h.at d (by rw[dO hi0 h.g0,tT (ka d)]) (by rw[dO kN h.gW,tT (kb d)]) (by simp),hL',hlt'⟩)
end
theorem aU.same{Sp:Nat->Prop}{P:Program}{t:Trace}{gs gs':Array Goroutine}{q:Nat->Nat}(h:aU Sp P t gs q)(hs:gs'.size=gs.size)(ho:∀k,¬Sp k->gs'[k]?=gs[k]?){u:Trace}(hu:rJ u):aU Sp P (t++u) gs' q:=by
 refine⟨λi g hi hg=>?_,λj hj=>?_⟩
 .rw[ho i hi]at hg
  rw[mF hu];exact h.old i g hi hg
 .rw[mF hu]
  exact h.above j (by rw[<-hs];exact hj)
theorem Jk:rJ #[]:=by
 intro op hop;simp at hop
section
variable(P:Program)(s:Score)(SM SW:List Value->(Nat->Prop)->Goroutine->World->Prop)(dE:Value->Prop)
abbrev Score.cs(s:Score):Array CommCase:=dB s.pk s.th s.z0 s.z1
structure kP(acc:List Value)(F:Nat->Prop)(A2:Goroutine)(w:World):Prop where
 at0:∃a0,SM acc F a0 w/\iY P s.cs A2 a0
 next:∀v,dE v->aA P true (SM (acc++[v])) F (A2.finishComm P s.cs .select 0 v true) w
structure Parts:Prop where
 agD:∀acc F a w w1,SM acc F a w->aO F w w1->SM acc F a w1
 kV:∀vs F b w w1,SW vs F b w->aO F w w1->SW vs F b w1
 sel:∀acc F a w,SM acc F a w->∃A2,iY P s.cs A2 a/\∀v,dE v->aA P true (SM (acc++[v])) F (A2.finishComm P s.cs .select 0 v true) w
 send:∀v vs F b w,SW (v::vs) F b w->dE v/\b.status=.running/\∃B2 z,(∀w,stepG P false b w=.comm B2 #[scase s.pk v z] true .send w #[])/\aA P false (SW vs) F (Go.Conc.served B2 undef) w
 close:∀F b w,SW [] F b w->b.status=.running/\mayWake P b=true/\∃b' k,QuitsD P k 0 b'/\∀w1 kt,w1.heap[s.th]?=some (.chan 0 #[] false kt kt false)->stepG P false b w1=.go b' {w1 with heap:=w1.heap.setIfInBounds s.th (.chan 0 #[] true kt kt false)} #[⟨.obj s.th,false,true⟩,⟨.obj s.th,true,true⟩]
def Fin(acc:List Value)(m:Machine)(t:Trace):Prop:=∃gs w sl q F0 FW A2 b a0 b0 kp kt,m=crowd gs w sl/\dH P s kp kt true F0 FW gs (A2.finishComm P s.cs .select 1 s.z1 false) b w/\SM acc F0 a0 w/\iY P s.cs A2 a0/\SW [] FW b0 w/\aU (· = 0) P t gs q/\jI t
end
section
variable{P:Program}{s:Score}{SM SW:List Value->(Nat->Prop)->Goroutine->World->Prop}{dE:Value->Prop}
theorem kP.rely(hp:Parts P s SM SW dE){acc:List Value}{F:Nat->Prop}{A2:Goroutine}{w w1:World}(h:kP P s SM dE acc F A2 w)(hr:aO F w w1):kP P s SM dE acc F A2 w1:=by
 obtain⟨a0,h1,h2⟩:=h.at0;exact⟨⟨a0,hp.agD _ _ _ _ _ h1 hr,h2⟩,λv hv=>(h.next v hv).rely hr⟩
theorem Parts.F4(hp:Parts P s SM SW dE){acc:List Value}{F:Nat->Prop}{a:Goroutine}{w:World}(h:SM acc F a w):∃A2,iY P s.cs A2 a/\kP P s SM dE acc F A2 w:=by
 obtain⟨A2,h1,h2⟩:=hp.sel acc F a w h;exact⟨A2,h1,⟨⟨a,h,h1⟩,h2⟩⟩
theorem iY.tries{A2 a:Goroutine}(h:iY P s.cs A2 a):iY P s.cs A2 {parked A2 s.cs .select with status:=.running} :=
 ⟨rfl,rfl,rfl,rfl,λw=>by rw[<-h.KT w];exact stepG_same h.fr.symm h.cl.symm h.dy.symm w⟩
def oz(s:Score)(FW:Nat->Prop)(b:Nat):Prop:=FW b\/b=s.th
theorem EK{i:Nat}{fn:FuncId}{pos:String}{es:Array Event}(hm:∀e∈es,Event.mute e=true):∀op∈MemOp.ofEvents i fn pos es,op.act.touch?=none:=λop hop=>by
 obtain⟨e,he,ea,_⟩:=pY hop;rw[ea];exact touch_mute (hm e he)
theorem zN(hp:Parts P s SM SW dE){acc:List Value}:∀(M:Nat) {F0 FW T0 TW:Nat->Prop} {gs:Array Goroutine} {a A2 b b0:Goroutine} {w:World} {sl:Option (Nat×Nat)} {t:Trace} {q:Nat->Nat} {kp kt pc:Nat},sumTo s.size q<=M->iY P s.cs A2 a->kP P s SM dE acc F0 A2 w->SW [] FW b0 w->dH P s kp kt true F0 FW gs a b w->aU (· = 0) P t gs q->rM s.th pc T0 TW t->Reaches P (Fin P s SM SW acc) (crowd gs w sl) t:=by
 intro M;induction M using Nat.strongRecOn with
 |ind M ih =>
  intro F0 FW T0 TW gs a A2 b b0 w sl t q kp kt pc hM hs hS hW h hL hT;have haw:=hL.awake λi g hi hg=>by cases hi;rw[h.g0]at hg;cases hg;exact awake_of (.inl hs.run)
  obtain⟨i,g,d,sl',hi,hg,hst⟩:=crowd_pick (P:=P) (w:=w) (sl:=sl) haw ⟨0,a,h.g0,hs.run⟩;have hlt:0<gs.size:=(Jbd.1 h.g0).1;have hltW:s.W<gs.size:=(Jbd.1 h.gW).1;by_cases hi0:i=0
  .subst hi0
   obtain rfl:g=a:=by have:=h.g0;rw[hi]at this;exact Jbm this
   have hpn:∀c,partners (gs.setIfInBounds 0 ph) c true=[]:=λc=>uH hL λj x hj hne _=>absurd hj hne
   have hr:=crowd_sel_recv_closed (P:=P) (sl:=sl') (i:=0) (k:=1) (c:=s.th) (z:=s.z1) (s:=kt) (r:=kt) hi (show stepG P (0==0) g (w.at d)=_ from hs.KT (w.at d)) rfl (λm c' hm hc'=>by
    rcases m with _|m
    .cases hc'
     exact ways_recv_none (h.op.at d) (hpn s.pk)
    .rcases m with _|m
     .exact absurd rfl hm
     .simp[Score.cs,dB]at hc') h.ot (hpn s.th)
   refine Reaches.step (hst.trans hr) (.here ?_);have hops:(MemOp.ofEvents 0 g.frame.fn g.frame.place #[]:Trace)=#[]:=rfl;rw[hops,Array.empty_append];obtain⟨a0,ha0,hat⟩:=(hS.rely hp (aO.at F0 w d)).at0;refine⟨_,w.at d,sl',q,F0,FW,A2,b,a0,b0,kp,kt,rfl,h.at d ?_ ?_ (by simp),ha0,hat,hp.kV _ _ _ _ _ hW (aO.at FW w d),?_,hT.met _ _⟩
   .rw[Array.getElem?_setIfInBounds_self_of_lt hlt];rfl
   .rw[Array.getElem?_setIfInBounds_ne (Ne.symm h.w0)];exact h.gW
   .exact hL.same (by simp) (λk hk=>Array.getElem?_setIfInBounds_ne (Ne.symm hk)) (by
     intro op hop;simp only[Jbq,Jb3,Jbw,Jbx]at hop;subst hop;exact⟨nofun,nofun⟩)
  .obtain⟨g',es,q',hm,yY,hL',hlt'⟩:=hL.slip (w:=w.at d) hi hi0 hi0 hg sl'
   refine Reaches.step (hst.trans yY) ?_;rw[h.sz]at hlt';have hWx:∃b',((gs.map (woken P g g' (w.at d))).setIfInBounds i g')[s.W]?=some b':=⟨_,Jbn (by simpa using hltW)⟩;obtain⟨b',hb'⟩:=hWx;exact ih (sumTo s.size q') (by omega) (Jb0 _) hs (hS.rely hp (aO.at F0 w d)) (hp.kV _ _ _ _ _ hW (aO.at FW w d)) (h.at d (by rw[dO hi0 h.g0,woken_run hs.run]) hb' (by simp)) hL' (hT.still (EK hm) ((Deaf_other t hi0 _ ofEvents_g).trans hT.nL))
theorem NQ(hp:Parts P s SM SW dE){acc:List Value}{F0:Nat->Prop}{a:Goroutine}{w:World}(hM:aA P true (SM acc) F0 a w):∀{FW:Nat->Prop} {gs:Array Goroutine} {b b0:Goroutine} {sl:Option (Nat×Nat)} {t:Trace} {q:Nat->Nat} {kp kt pc:Nat},SW [] FW b0 w->dH P s kp kt true F0 FW gs a b w->aU (· = 0) P t gs q->rM s.th pc F0 (oz s FW) t->Reaches P (Fin P s SM SW acc) (crowd gs w sl) t:=by
 refine hM.induct (X:=λF0 a w=>∀{FW:Nat->Prop} {gs:Array Goroutine} {b b0:Goroutine} {sl:Option (Nat×Nat)} {t:Trace} {q:Nat->Nat} {kp kt pc:Nat},SW [] FW b0 w->dH P s kp kt true F0 FW gs a b w->aU (· = 0) P t gs q->rM s.th pc F0 (oz s FW) t->Reaches P (Fin P s SM SW acc) (crowd gs w sl) t) ?_ ?_
 .intro F0 a w hs FW gs b b0 sl t q kp kt pc hW h hL hT
  obtain⟨A2,h1,h2⟩:=hp.F4 (hs w (.refl _ _));exact zN hp _ (Jb0 _) h1 h2 hW h hL hT
 .intro F0 a w hrun hstep FW gs b b0 sl t q kp kt pc
  suffices H:∀M w gs b sl t q,sumTo s.size q<=M->(∀w1,aO F0 w w1->(stepG P true a w1).goes λg' w' es=>mG F0 w1 w' es/\aA P true (SM acc) (Grow F0 w1 w') g' w'/\∀{FW:Nat->Prop} {gs:Array Goroutine} {b b0:Goroutine} {sl:Option (Nat×Nat)} {t:Trace} {q:Nat->Nat} {kp kt pc:Nat},SW [] FW b0 w'->dH P s kp kt true (Grow F0 w1 w') FW gs g' b w'->aU (· = 0) P t gs q->rM s.th pc (Grow F0 w1 w') (oz s FW) t->Reaches P (Fin P s SM SW acc) (crowd gs w' sl) t)->SW [] FW b0 w->dH P s kp kt true F0 FW gs a b w->aU (· = 0) P t gs q->rM s.th pc F0 (oz s FW) t->Reaches P (Fin P s SM SW acc) (crowd gs w sl) t from H _ w gs b sl t q (Jb0 _) hstep
  intro M;induction M using Nat.strongRecOn with
  |ind M ih =>
   intro w gs b sl t q hM hstep hW h hL hT;have haw:=hL.awake λi g hi hg=>by cases hi;rw[h.g0]at hg;cases hg;exact awake_of (.inl hrun)
   obtain⟨i,g,d,sl',hi,hg,hst⟩:=crowd_pick (P:=P) (w:=w) (sl:=sl) haw ⟨0,a,h.g0,hrun⟩;have hlt:0<gs.size:=(Jbd.1 h.g0).1;have hltW:s.W<gs.size:=(Jbd.1 h.gW).1;by_cases hi0:i=0
   .subst hi0
    obtain rfl:g=a:=by have:=h.g0;rw[hi]at this;exact Jbm this
    have hs:=hstep (w.at d) (aO.at F0 w d);cases hgo:stepG P true g (w.at d)with
    |go a' w' es =>
     rw[hgo,goes_go]at hs;obtain⟨hgu,_,hnext⟩:=hs;have hrunT:=runT_crowd_go (P:=P) (sl:=sl') (i:=0) hi (show stepG P (0==0) g (w.at d)=_ from hgo);refine Reaches.step (hst.trans hrunT) ?_;obtain⟨b',hb'⟩:∃b',((gs.map (woken P g a' w')).setIfInBounds 0 a')[s.W]?=some b':=⟨_,Jbn (by simpa using hltW)⟩;have hD:=(h.at d h.g0 h.gW rfl).main hgu (ji hlt) hb' (by simp);refine hnext (sl:=sl') (hp.kV _ _ _ _ _ (hp.kV _ _ _ _ _ hW (aO.at FW w d)) hD.2) hD.1 (hL.pg rfl hlt ofEvents_g) (hT.grow.main ?_ hgu.evs);rintro x hx (hx' | rfl)
     .exact hD.1.apart x hx hx'
     .exact hD.1.tV.2 hx
    |_=>rw[hgo]at hs;exact hs.elim
   .obtain⟨g',es,q',hm,yY,hL',hlt'⟩:=hL.slip (w:=w.at d) hi hi0 hi0 hg sl'
    refine Reaches.step (hst.trans yY) ?_;rw[h.sz]at hlt';obtain⟨b',hb'⟩:∃b',((gs.map (woken P g g' (w.at d))).setIfInBounds i g')[s.W]?=some b':=⟨_,Jbn (by simpa using hltW)⟩;exact ih (sumTo s.size q') (by omega) (w.at d) _ b' sl' _ q' (Jb0 _) (λw1 h1=>hstep w1 ((aO.at F0 w d).trans h1)) (hp.kV _ _ _ _ _ hW (aO.at FW w d)) (h.at d (by rw[dO hi0 h.g0,woken_run hrun]) hb' (by simp)) hL' (hT.still (EK hm) ((Deaf_other t hi0 _ ofEvents_g).trans hT.nL))
end
section
variable{P:Program}{s:Score}{SM SW:List Value->(Nat->Prop)->Goroutine->World->Prop}{dE:Value->Prop}
theorem Sz{W:Nat}{c k:Nat}{fn fn':FuncId}{pos pos':String}:rJ #[⟨W,fn,pos,.send c k⟩,⟨0,fn',pos',.recv c k 0⟩,⟨W,fn,pos,.sendDone c k⟩,⟨0,fn',pos',.recvDone c k⟩]:=by
 intro op hop;simp only[Jbq,Jb3,Jbw,Jbx]at hop;rcases hop with rfl|rfl|rfl|rfl<;>exact⟨nofun,nofun⟩
theorem Jl{w:World}{k kt:Nat}{uI:Bool}(h1:dG w s.pk k)(h2:w.heap[s.th]?=some (.chan 0 #[] uI kt kt false))(hne:s.pk≠s.th) :
 dG {w with heap:=w.heap.setIfInBounds s.pk (.chan 0 #[] false (k+1) (k+1) false)} s.pk (k+1)/\(w.heap.setIfInBounds s.pk (.chan 0 #[] false (k+1) (k+1) false))[s.th]?=some (.chan 0 #[] uI kt kt false):=by
 constructor
 .show(w.heap.setIfInBounds s.pk _)[s.pk]?=_
  rw[Array.getElem?_setIfInBounds_self_of_lt (ae h1)]
 .rw[Array.getElem?_setIfInBounds_ne hne]
  exact h2
theorem SB(_hp:Parts P s SM SW dE){acc vs:List Value}{v z:Value}{F0 FW T0 TW:Nat->Prop}{gs:Array Goroutine}{A2 B2 b:Goroutine}{w:World}{t:Trace}{q:Nat->Nat}{kp kt:Nat}(h:dH P s kp kt false F0 FW gs (parked A2 s.cs .select) b w)(hL:aU (Two s.W) P t gs q)(hT:dP s.W T0 TW t)
 (hS:kP P s SM dE acc F0 A2 w) (hv:dE v) (hb:∀w,stepG P false b w=.comm B2 #[scase s.pk v z] true .send w #[]) (hn:aA P false (SW vs) FW (Go.Conc.served B2 undef) w) (sl:Option (Nat×Nat)) :
 ∃gs' a' b' w' ops,runT P (crowd gs w sl) s.W=(.next (crowd gs' w' sl),ops)/\dH P s (kp+1) kt false F0 FW gs' a' b' w'/\aU (Two s.W) P (t++ops) gs' q/\dP s.W F0 FW (t++ops)/\aA P true (SM (acc++[v])) F0 a' w'/\aA P false (SW vs) FW b' w':=by
 have hlt:0<gs.size:=(Jbd.1 h.g0).1;have hltW:s.W<gs.size:=(Jbd.1 h.gW).1;have VO:partners (gs.setIfInBounds s.W ph) s.pk false=[(0,0)]:=by
  have hoff:offersAt (parked A2 s.cs .select) s.pk false=[0]:=offersAt_parked_at (k:=0) (z:=s.z0) rfl λm cc hm hcc=>by
   rcases m with _|m
   .exact absurd rfl hm
   .rcases m with _|m
    .cases hcc
     intro e;have e':Value.chan (some s.th)=Value.chan (some s.pk):=e;injection e' with e1;injection e1 with e2;exact h.pt e2.symm
    .simp[Score.cs,dB]at hcc
  have:=partners_one (gs:=gs.setIfInBounds s.W ph) (r:=s.pk) (send:=false) (j:=0) (g:=parked A2 s.cs .select) (stand_get (Ne.symm h.w0) h.g0) λk x hk hx=>by
   rcases getElem?_stand gs s.W k x hx with⟨_,rfl⟩|⟨hne,hx⟩
   .rfl
   .exact yx (hL.old k x (λhh=>hh.elim hk hne) hx) _ _
  rw[this,hoff];rfl
 have hr:=crowd_send_meets_sel (P:=P) (sl:=sl) (i:=s.W) (j:=0) (k:=0) (zj:=s.z0) (c:=s.pk) (s:=kp) (r:=kp) h.gW (show stepG P (s.W==0) b w=_ by rw[show(s.W==0)=false by simpa using h.w0];exact hb w) h.op (Ne.symm h.w0) h.g0 rfl VO;obtain⟨c1,c2⟩:=Jl h.op h.ot h.pt;have hD:=h.chan (.inl rfl) (gs':=(gs.setIfInBounds 0 (A2.finishComm P s.cs .select 0 v true)).setIfInBounds s.W (Go.Conc.served B2 undef)) (a':=A2.finishComm P s.cs .select 0 v true) (b':=Go.Conc.served B2 undef)
  (by rw[Array.getElem?_setIfInBounds_ne h.w0,Array.getElem?_setIfInBounds_self_of_lt hlt]) (by rw[Array.getElem?_setIfInBounds_self_of_lt (by simpa using hltW)]) (by simp) c1 c2
 refine⟨_,_,_,_,_,hr,hD.1,?_,?_,(hS.next v hv).rely hD.2.1,hn.rely hD.2.2⟩
 .exact hL.same (by simp) (λk hk=>by rw[Array.getElem?_setIfInBounds_ne (λe=>hk (.inr e.symm)),Array.getElem?_setIfInBounds_ne (λe=>hk (.inl e.symm))]) Sz
 .exact hT.exchange F0 FW s.pk kp _ _ _ _
theorem SC(_hp:Parts P s SM SW dE){acc vs:List Value}{v z:Value}{F0 FW T0 TW:Nat->Prop}{gs:Array Goroutine}{a A2 B2:Goroutine}{w:World}{t:Trace}{q:Nat->Nat}{kp kt:Nat}(h:dH P s kp kt false F0 FW gs a (parked B2 #[scase s.pk v z] .send) w)(hL:aU (Two s.W) P t gs q)(hT:dP s.W T0 TW t)
 (ha:iY P s.cs A2 a) (hS:kP P s SM dE acc F0 A2 w) (hv:dE v) (hn:aA P false (SW vs) FW (Go.Conc.served B2 undef) w) (sl:Option (Nat×Nat)) :
 ∃gs' a' b' w' ops,runT P (crowd gs w sl) 0=(.next (crowd gs' w' sl),ops)/\dH P s (kp+1) kt false F0 FW gs' a' b' w'/\aU (Two s.W) P (t++ops) gs' q/\dP s.W F0 FW (t++ops)/\aA P true (SM (acc++[v])) F0 a' w'/\aA P false (SW vs) FW b' w':=by
 have hlt:0<gs.size:=(Jbd.1 h.g0).1;have hltW:s.W<gs.size:=(Jbd.1 h.gW).1;have VO:partners (gs.setIfInBounds 0 ph) s.pk true=[(s.W,0)]:=by
  have hoff:offersAt (parked B2 #[scase s.pk v z] .send) s.pk true=[0]:=by rw[offersAt_parked_send,Jb6 rfl]
  have:=partners_one (gs:=gs.setIfInBounds 0 ph) (r:=s.pk) (send:=true) (j:=s.W) (g:=parked B2 #[scase s.pk v z] .send) (stand_get h.w0 h.gW) λk x hk hx=>by
   rcases getElem?_stand gs 0 k x hx with⟨_,rfl⟩|⟨hne,hx⟩
   .rfl
   .exact yx (hL.old k x (λhh=>hh.elim hne hk) hx) _ _
  rw[this,hoff];rfl
 have agE:partners (gs.setIfInBounds 0 ph) s.th true=[]:=uH hL λj x hj hne hx=>by
  rcases hj with rfl|rfl
  .exact absurd rfl hne
  .rw[h.gW]at hx;cases hx
   rw[offersAt_parked_send,Jb5 h.pt]
 have hr:=crowd_sel_recv_meets (P:=P) (sl:=sl) (i:=0) (j:=s.W) (k:=0) (z:=s.z0) (zj:=z) (c:=s.pk) (s:=kp) (r:=kp) (v:=v) h.g0 (show stepG P (0==0) a w=_ from ha.KT w) rfl (λm c' hm hc'=>by
  rcases m with _|m
  .exact absurd rfl hm
  .rcases m with _|m
   .cases hc'
    exact ways_recv_none h.ot agE
   .simp[Score.cs,dB]at hc') h.op h.w0 h.gW VO
 obtain⟨c1,c2⟩:=Jl h.op h.ot h.pt;have hD:=h.chan (.inl rfl) (gs':=(gs.setIfInBounds s.W (Go.Conc.served B2 undef)).setIfInBounds 0 (A2.finishComm P s.cs .select 0 v true)) (a':=A2.finishComm P s.cs .select 0 v true) (b':=Go.Conc.served B2 undef)
  (by rw[Array.getElem?_setIfInBounds_self_of_lt (by simpa using hlt)]) (by rw[Array.getElem?_setIfInBounds_ne (Ne.symm h.w0),Array.getElem?_setIfInBounds_self_of_lt hltW]) (by simp) c1 c2
 refine⟨_,_,_,_,_,hr,hD.1,?_,?_,(hS.next v hv).rely hD.2.1,hn.rely hD.2.2⟩
 .exact hL.same (by simp) (λk hk=>by rw[Array.getElem?_setIfInBounds_ne (λe=>hk (.inl e.symm)),Array.getElem?_setIfInBounds_ne (λe=>hk (.inr e.symm))]) Sz
 .exact hT.exchange F0 FW s.pk kp _ _ _ _
theorem dH.Iw{kp kt:Nat}{uI:Bool}{F0 FW:Nat->Prop}{gs:Array Goroutine}{a b:Goroutine}{w:World}(h:dH P s kp kt uI F0 FW gs a b w):∀x,F0 x->¬oz s FW x:=by
 rintro x hx (hx' | rfl)
 .exact h.apart x hx hx'
 .exact h.tV.2 hx
theorem BR(hp:Parts P s SM SW dE){F0 FW T0 TW:Nat->Prop}{gs:Array Goroutine}{a b:Goroutine}{w:World}{t:Trace}{q:Nat->Nat}{kp kt:Nat}(h:dH P s kp kt false F0 FW gs a b w)(hL:aU (Two s.W) P t gs q)(hT:dP s.W T0 TW t)(hd:∀x,T0 x->¬oz s TW x)(hW:SW [] FW b w)(sl:Option (Nat×Nat)) :
 ∃gs' b' w' ops q' pc,runT P (crowd gs w sl) s.W=(.next (crowd gs' w' sl),ops)/\w'.heap[s.th]?=some (.chan 0 #[] true kt kt false)/\dH P s kp kt true F0 FW gs' (a.again w') b' w'/\SW [] FW b w'/\aO F0 w w'/\aU (· = 0) P (t++ops) gs' q'/\rM s.th pc T0 (oz s TW) (t++ops):=by
 have hltW:s.W<gs.size:=(Jbd.1 h.gW).1;obtain⟨_,hwake,b',k,hq,hst⟩:=hp.close FW b w hW;have hgo:=hst w kt h.ot;have hr:=runT_crowd_go (P:=P) (sl:=sl) (i:=s.W) h.gW (show stepG P (s.W==0) b w=_ by rw[show(s.W==0)=false by simpa using h.w0];exact hgo);have hwk:∀g,woken P b b' {w with heap:=w.heap.setIfInBounds s.th (.chan 0 #[] true kt kt false)} g=g.again {w with heap:=w.heap.setIfInBounds s.th (.chan 0 #[] true kt kt false)}:=by
  intro g;unfold Go.Conc.woken;rw[hwake];rcases hq.status with e|e<;>rw[e]<;>rfl
 have hth:(w.heap.setIfInBounds s.th (.chan 0 #[] true kt kt false))[s.th]?=some (.chan 0 #[] true kt kt false):=by rw[Array.getElem?_setIfInBounds_self_of_lt (ae h.ot)]
 have hD:=h.chan (.inr rfl) (o:=.chan 0 #[] true kt kt false) (gs':=(gs.map (woken P b b' {w with heap:=w.heap.setIfInBounds s.th (.chan 0 #[] true kt kt false)})).setIfInBounds s.W b') (a':=a.again {w with heap:=w.heap.setIfInBounds s.th (.chan 0 #[] true kt kt false)}) (b':=b') (kp':=kp) (X4:=kt) (VN:=true)
  (by rw[dO h.w0 h.g0,hwk]) (ji hltW) (by simp) (by show(w.heap.setIfInBounds s.th _)[s.pk]?=_;rw[Array.getElem?_setIfInBounds_ne (Ne.symm h.pt)];exact h.op) hth
 have hTc:=(hT.grow (xB:=T0) (Bb:=oz s TW) (λ_ h=>h) λ_ h=>.inl h).close h.w0 hd (c:=s.th) (.inr rfl) b.frame.fn b.frame.place;have hLp:=hL.pg (g:=b) (g':=b') (w':={w with heap:=w.heap.setIfInBounds s.th (.chan 0 #[] true kt kt false)}) (.inr rfl) hltW (u:=MemOp.ofEvents s.W b.frame.fn b.frame.place #[⟨.obj s.th,false,true⟩,⟨.obj s.th,true,true⟩]) ofEvents_g;refine⟨_,b',_,_,upd q s.W k,_,hr,hth,hD.1,hp.kV _ _ _ _ _ hW hD.2.2,hD.2.1,⟨λj x hj hx=>?_,hLp.above⟩,hTc⟩;by_cases hjW:j=s.W
 .subst hjW
  rw[ji hltW]at hx;cases hx
  rw[upd_same,zM,hT.wL]
  .exact hq
  .intro e he
   simp only[Jbq,Jb3,Jbw,Jbx]at he;rcases he with rfl|rfl<;>exact⟨nofun,nofun⟩
 .rw[upd_ne q k hjW]
  exact hLp.old j x (λhh=>hh.elim hj hjW) hx
end
end
