/- The duet, whole. -/
import Derived.Test.YtignemioillaiabGreatG07
namespace Go.Proofs.YtignemioillaiabGreat
set_option maxHeartbeats 8000000
set_option maxRecDepth 100000
section
open Go Go.Conc
open Go.ConcN (sumTo upd sumTo_upd upd_ne upd_same)
section
variable {P:Program} {s:Score} {SM SW:List Value->(Nat->Prop)->Goroutine->World->Prop} {dC:Value->Prop}
def Claim (P:Program) (s:Score) (SM SW:List Value->(Nat->Prop)->Goroutine->World->Prop) (vs:List Value):Prop :=
 ∀ {acc:List Value} {F0 FW:Nat->Prop} {gs:Array Goroutine} {a b:Goroutine} {w:World} {sl:Option (Nat×Nat)} {t:Trace} {q:Nat->Nat} {kp kt:Nat},aB P true (SM acc) F0 a w->aB P false (SW vs) FW b w->dE P s kp kt false F0 FW gs a b w->aV (Two s.W) P t gs q->dJ s.W F0 FW t->Reaches P (Fin P s SM SW (acc++vs)) (crowd gs w sl) t
def CE (P:Program) (s:Score) (SM SW:List Value->(Nat->Prop)->Goroutine->World->Prop) (vs:List Value):Prop:=∀ v vs',vs=v::vs'->Claim P s SM SW vs'
theorem eZ {g:Goroutine} (h:g.status=.running):awake g:=awake_of (.inl h)
theorem mJ (g:Goroutine) (cs:Array CommCase) (sh:CommShape):awake (parked g cs sh):=λ t ht=>by cases ht
theorem dY {g:Goroutine} (h:g.status=.running) (w:World):g.again w=g:=again_running w (.inl h)
theorem DX (hp:Parts P s SM SW dC) {vs:List Value} {F:Nat->Prop} {b:Goroutine} {w:World} (h:SW vs F b w):b.status=.running:=by
 cases vs with
 | nil=>exact (hp.close _ _ _ h).1
 | cons v vs=>exact (hp.send _ _ _ _ _ h).2.1
theorem O8 (hp:Parts P s SM SW dC) {acc:List Value} {F:Nat->Prop} {a:Goroutine} {w:World} (h:SM acc F a w):a.status=.running:=by
 obtain ⟨A2,h1,_⟩:=hp.sel _ _ _ _ h;exact h1.run
theorem Iu (acc:List Value) (v:Value) (vs:List Value):(acc++[v])++vs=acc++v::vs:=by simp
section
variable {acc vs:List Value} {F0 FW:Nat->Prop} {gs:Array Goroutine} {a b:Goroutine} {w:World} {t:Trace} {q:Nat->Nat} {kp kt:Nat}
theorem lS (hT:dJ s.W F0 FW t) {i:Nat} {fn:FuncId} {pos:String} {es:Array Event} (h0:i≠0) (hW:i≠s.W) (hm:∀ e∈es,Event.mute e=true):dJ s.W F0 FW (t++MemOp.ofEvents i fn pos es):=DU hT h0 hW hm
end
theorem vF (hp:Parts P s SM SW dC) {acc vs:List Value} (hV:CE P s SM SW vs):∀ (M:Nat) {F0 FW T0 TW:Nat->Prop} {gs:Array Goroutine} {A2 b:Goroutine} {w:World} {sl:Option (Nat×Nat)} {t:Trace} {q:Nat->Nat} {kp kt:Nat},sumTo s.size q<=M->jS P s SM dC acc F0 A2 w->SW vs FW b w->dE P s kp kt false F0 FW gs (parked A2 s.cs .select) b w->aV (Two s.W) P t gs q->dJ s.W T0 TW t->(∀ x,T0 x->¬ mH s TW x)->Reaches P (Fin P s SM SW (acc++vs)) (crowd gs w sl) t:=by
 intro M;induction M using Nat.strongRecOn with
 | ind M ih =>
  intro F0 FW T0 TW gs A2 b w sl t q kp kt hM hS hW h hL hT hd;have hrun:=DX hp hW;rcases h.pick hL (mJ _ _ _) (eZ hrun) (.inr hrun) (λ d=>ry (h.op.at d) (show dD (w.at d) s.th kt from h.ot)) (λ d=>dY hrun _) sl with ⟨d,sl',hx,_⟩ | ⟨d,sl',_,hst⟩ | ⟨d,sl',gs',q',i,fn,pos,es,hi0,jR,hm,hst,h',hL',hlt⟩
  ·cases hx
  ·have hD:=h.at d h.g0 h.gW rfl
   have hS':=hS.rely hp (aO.at F0 w d);have hW':=hp.jY _ _ _ _ _ hW (aO.at FW w d);cases vs with
   | nil =>
    obtain ⟨gs',b',w',ops,q',pc,hr,hth,hD',hW2,hrel,hL',hT'⟩:=zQ hp hD hL hT hd hW' sl';refine Reaches.step (hst.trans hr) ?_;have hag:(parked A2 s.cs .select).again w'={ parked A2 s.cs .select with status:=.running }:=again_some_closed (k:=1) (z:=s.z1) (c:=s.th) rfl hth;rw [hag] at hD';obtain ⟨a0,_,hat⟩:=hS'.Xy;rw [List.append_nil];exact xS hp _ (Nat.le_refl _) hat.tries (hS'.rely hp hrel) hW2 hD' hL' hT'
   | cons v vs' =>
    obtain ⟨hv,_,B2,z,hb,hn⟩:=hp.send _ _ _ _ _ hW';obtain ⟨gs',a',b',w',ops,hr,hD',hL',hT',hm',hw'⟩:=O6 hp hD hL hT hS' hv hb hn sl';refine Reaches.step (hst.trans hr) ?_;rw [<- Iu];exact hV v vs' rfl hm' hw' hD' hL' hT'
  ·refine Reaches.step hst ?_
   exact ih (sumTo s.size q') (by omega) (Nat.le_refl _) (hS.rely hp (aO.at F0 w d)) (hp.jY _ _ _ _ _ hW (aO.at FW w d)) h' hL' (lS hT hi0 jR hm) hd
theorem DY (hp:Parts P s SM SW dC) {acc vs:List Value} {v z:Value} (hV:Claim P s SM SW vs):∀ (M:Nat) {F0 FW T0 TW:Nat->Prop} {gs:Array Goroutine} {a A2 B2:Goroutine} {w:World} {sl:Option (Nat×Nat)} {t:Trace} {q:Nat->Nat} {kp kt:Nat},sumTo s.size q<=M->iC P s.cs A2 a->jS P s SM dC acc F0 A2 w->dC v->aB P false (SW vs) FW (Go.Conc.served B2 undef) w->dE P s kp kt false F0 FW gs a (parked B2 #[scase s.pk v z] .send) w->aV (Two s.W) P t gs q->dJ s.W T0 TW t->Reaches P (Fin P s SM SW (acc++v::vs)) (crowd gs w sl) t:=by
 intro M;induction M using Nat.strongRecOn with
 | ind M ih =>
  intro F0 FW T0 TW gs a A2 B2 w sl t q kp kt hM ha hS hv hn h hL hT;rcases h.pick hL (eZ ha.run) (mJ _ _ _) (.inl ha.run) (λ d=>dY ha.run _) (λ d=>again_send_open (h.op.at d)) sl with ⟨d,sl',_,hst⟩ | ⟨d,sl',hx,_⟩ | ⟨d,sl',gs',q',i,fn,pos,es,hi0,jR,hm,hst,h',hL',hlt⟩
  ·have hD:=h.at d h.g0 h.gW rfl
   obtain ⟨gs',a',b',w',ops,hr,hD',hL',hT',hm',hw'⟩:=O7 hp hD hL hT ha (hS.rely hp (aO.at F0 w d)) hv (hn.rely (aO.at FW w d)) sl';refine Reaches.step (hst.trans hr) ?_;rw [<- Iu];exact hV hm' hw' hD' hL' hT'
  ·cases hx
  ·refine Reaches.step hst ?_
   exact ih (sumTo s.size q') (by omega) (Nat.le_refl _) ha (hS.rely hp (aO.at F0 w d)) hv (hn.rely (aO.at FW w d)) h' hL' (lS hT hi0 jR hm)
theorem Kw (hp:Parts P s SM SW dC) {acc vs:List Value} {v z:Value} (hV:Claim P s SM SW vs) {F0:Nat->Prop} {a:Goroutine} {w:World} (hM:aB P true (SM acc) F0 a w):∀ {FW:Nat->Prop} {gs:Array Goroutine} {B2:Goroutine} {sl:Option (Nat×Nat)} {t:Trace} {q:Nat->Nat} {kp kt:Nat},dC v->aB P false (SW vs) FW (Go.Conc.served B2 undef) w->dE P s kp kt false F0 FW gs a (parked B2 #[scase s.pk v z] .send) w->aV (Two s.W) P t gs q->dJ s.W F0 FW t->Reaches P (Fin P s SM SW (acc++v::vs)) (crowd gs w sl) t:=by
 refine hM.induct (X:=λ F0 a w=>∀ {FW:Nat->Prop} {gs:Array Goroutine} {B2:Goroutine} {sl:Option (Nat×Nat)} {t:Trace} {q:Nat->Nat} {kp kt:Nat},dC v->aB P false (SW vs) FW (Go.Conc.served B2 undef) w->dE P s kp kt false F0 FW gs a (parked B2 #[scase s.pk v z] .send) w->aV (Two s.W) P t gs q->dJ s.W F0 FW t->Reaches P (Fin P s SM SW (acc++v::vs)) (crowd gs w sl) t) ?_ ?_
 ·intro F0 a w hs FW gs B2 sl t q kp kt hv hn h hL hT
  obtain ⟨A2,h1,h2⟩:=hp.DV (hs w (.refl _ _));exact DY hp hV _ (Nat.le_refl _) h1 h2 hv hn h hL hT
 ·intro F0 a w hrun hstep FW gs B2 sl t q kp kt
  suffices H:∀ M w gs sl t q,sumTo s.size q<=M->(∀ w1,aO F0 w w1->(stepG P true a w1).goes λ g' w' es=>kS F0 w1 w' es/\aB P true (SM acc) (Grow F0 w1 w') g' w'/\∀ {FW:Nat->Prop} {gs:Array Goroutine} {B2:Goroutine} {sl:Option (Nat×Nat)} {t:Trace} {q:Nat->Nat} {kp kt:Nat},dC v->aB P false (SW vs) FW (Go.Conc.served B2 undef) w'->dE P s kp kt false (Grow F0 w1 w') FW gs g' (parked B2 #[scase s.pk v z] .send) w'->aV (Two s.W) P t gs q->dJ s.W (Grow F0 w1 w') FW t->Reaches P (Fin P s SM SW (acc++v::vs)) (crowd gs w' sl) t)->dC v->aB P false (SW vs) FW (Go.Conc.served B2 undef) w->dE P s kp kt false F0 FW gs a (parked B2 #[scase s.pk v z] .send) w->aV (Two s.W) P t gs q->dJ s.W F0 FW t->Reaches P (Fin P s SM SW (acc++v::vs)) (crowd gs w sl) t from H _ w gs sl t q (Nat.le_refl _) hstep
  intro M;induction M using Nat.strongRecOn with
  | ind M ih =>
   intro w gs sl t q hM hstep hv hn h hL hT;rcases h.pick hL (eZ hrun) (mJ _ _ _) (.inl hrun) (λ d=>dY hrun _) (λ d=>again_send_open (h.op.at d)) sl with ⟨d,sl',_,hst⟩ | ⟨d,sl',hx,_⟩ | ⟨d,sl',gs',q',i,fn,pos,es,hi0,jR,hm,hst,h',hL',hlt⟩
   ·have hs:=hstep (w.at d) (aO.at F0 w d)
    have xU:0<gs.size:=(Array.getElem?_eq_some_iff.1 h.g0).1;cases hgo:stepG P true a (w.at d) with
    | go a' w' es =>
     rw [hgo,goes_go] at hs;obtain ⟨hgu,_,hnext⟩:=hs;have hrunT:=runT_crowd_go (P:=P) (sl:=sl') (i:=0) h.g0 (show stepG P (0 == 0) a (w.at d)=_ from hgo);refine Reaches.step (hst.trans hrunT) ?_;have hpk:dD w' s.pk kp:=((h.at d h.g0 h.gW rfl).main hgu (gs':=gs.setIfInBounds 0 a') (by rw [Array.getElem?_setIfInBounds_self_of_lt xU]) (by rw [Array.getElem?_setIfInBounds_ne (Ne.symm h.w0)];exact h.gW) (by simp)).1.op;have hD:=(h.at d h.g0 h.gW rfl).main hgu (gs':=(gs.map (woken P a a' w')).setIfInBounds 0 a') (iO xU) (by rw [dI (Ne.symm h.w0) h.gW,qU (again_send_open hpk)]) (by simp);exact hnext (sl:=sl') hv ((hn.rely (aO.at FW w d)).rely hD.2) hD.1 (hL.nu (.inl rfl) xU ofEvents_g) ((hT.grow (λ x hx=>.inl hx) λ _ h=>h).main h.w0 hD.1.apart hgu.evs)
    | _=>rw [hgo] at hs;exact hs.elim
   ·cases hx
   ·refine Reaches.step hst ?_
    exact ih (sumTo s.size q') (by omega) (w.at d) gs' sl' _ q' (Nat.le_refl _) (λ w1 h1=>hstep w1 ((aO.at F0 w d).trans h1)) hv (hn.rely (aO.at FW w d)) h' hL' (lS hT hi0 jR hm)
end
section
variable {P:Program} {s:Score} {SM SW:List Value->(Nat->Prop)->Goroutine->World->Prop} {dC:Value->Prop}
theorem DZ (_hp:Parts P s SM SW dC) {F0 FW:Nat->Prop} {gs:Array Goroutine} {a b B2:Goroutine} {v z:Value} {w:World} {t:Trace} {q:Nat->Nat} {kp kt:Nat} (h:dE P s kp kt false F0 FW gs a b w) (hL:aV (Two s.W) P t gs q) (ha:a.status=.running) (hb:∀ w,stepG P false b w=.comm B2 #[scase s.pk v z] true .send w #[]) (sl:Option (Nat×Nat)) :
 ∃ gs' ops,runT P (crowd gs w sl) s.W=(.next (crowd gs' w sl),ops)/\ops = #[]/\dE P s kp kt false F0 FW gs' a (parked B2 #[scase s.pk v z] .send) w/\aV (Two s.W) P t gs' q:=by
 have hltW:s.W<gs.size:=(Array.getElem?_eq_some_iff.1 h.gW).1;have hpn:partners (gs.setIfInBounds s.W ph) s.pk false=[]:=rR hL λ j x hj hne hx=>by
  rcases hj with rfl | rfl
  ·rw [h.g0] at hx;cases hx
   exact offersAt_of_not_blocked (by rw [ha];exact nofun) _ _
  ·exact absurd rfl hne
 have hr:=crowd_waits (P:=P) (sl:=sl) (i:=s.W) h.gW (show stepG P (s.W == 0) b w=_ by rw [show (s.W == 0)=false by simpa using h.w0];exact hb w) (λ cc hcc=>by
  simp only [List.mem_toArray,List.mem_cons,List.not_mem_nil,or_false] at hcc;subst hcc;exact ways_send_none h.op (Nat.le_refl _) hpn)
 have hD:=h.at w.drawn (gs':=gs.setIfInBounds s.W (parked B2 #[scase s.pk v z] .send)) (a':=a) (b':=parked B2 #[scase s.pk v z] .send) (by rw [Array.getElem?_setIfInBounds_ne h.w0];exact h.g0) (by rw [Array.getElem?_setIfInBounds_self_of_lt hltW]) (by simp);refine ⟨_,_,hr,rfl,hD,?_⟩;have:=hL.same (gs':=gs.setIfInBounds s.W (parked B2 #[scase s.pk v z] .send)) (by simp) (λ k hk=>Array.getElem?_setIfInBounds_ne (λ e=>hk (.inr e.symm))) F6;rwa [Array.append_empty] at this
theorem zS (_hp:Parts P s SM SW dC) {F0 FW:Nat->Prop} {gs:Array Goroutine} {a A2 b:Goroutine} {w:World} {t:Trace} {q:Nat->Nat} {kp kt:Nat} (h:dE P s kp kt false F0 FW gs a b w) (hL:aV (Two s.W) P t gs q) (ha:iC P s.cs A2 a) (hb:b.status=.running) (sl:Option (Nat×Nat)) :
 ∃ gs' ops,runT P (crowd gs w sl) 0=(.next (crowd gs' w sl),ops)/\ops = #[]/\dE P s kp kt false F0 FW gs' (parked A2 s.cs .select) b w/\aV (Two s.W) P t gs' q:=by
 have hlt:0<gs.size:=(Array.getElem?_eq_some_iff.1 h.g0).1;have hpn:∀ c,partners (gs.setIfInBounds 0 ph) c true=[]:=λ c=>rR hL λ j x hj hne hx=>by
  rcases hj with rfl | rfl
  ·exact absurd rfl hne
  ·rw [h.gW] at hx;cases hx
   exact offersAt_of_not_blocked (by rw [hb];exact nofun) _ _
 have hr:=crowd_waits (P:=P) (sl:=sl) (i:=0) h.g0 (show stepG P (0 == 0) a w=_ from ha.Iq w) (λ cc hcc=>by
  simp only [Score.cs,dw,List.mem_toArray,List.mem_cons,List.not_mem_nil,or_false] at hcc;rcases hcc with rfl | rfl
  ·exact ways_recv_none h.op (hpn _)
  ·exact ways_recv_none h.ot (hpn _))
 have hD:=h.at w.drawn (gs':=gs.setIfInBounds 0 (parked A2 s.cs .select)) (a':=parked A2 s.cs .select) (b':=b) (by rw [Array.getElem?_setIfInBounds_self_of_lt hlt]) (by rw [Array.getElem?_setIfInBounds_ne (Ne.symm h.w0)];exact h.gW) (by simp);refine ⟨_,_,hr,rfl,hD,?_⟩;have:=hL.same (gs':=gs.setIfInBounds 0 (parked A2 s.cs .select)) (by simp) (λ k hk=>Array.getElem?_setIfInBounds_ne (λ e=>hk (.inl e.symm))) F6;rwa [Array.append_empty] at this
theorem D6 (hp:Parts P s SM SW dC) {acc vs:List Value} (hV:CE P s SM SW vs) {F0 FW:Nat->Prop} {gs:Array Goroutine} {a b:Goroutine} {w:World} {sl:Option (Nat×Nat)} {t:Trace} {q:Nat->Nat} {kp kt:Nat} (ha:a.status=.running) (hM:aB P true (SM acc) F0 a w) (hW:SW vs FW b w) (h:dE P s kp kt false F0 FW gs a b w) (hL:aV (Two s.W) P t gs q) (hT:dJ s.W F0 FW t) :
 ∃ m ops,runT P (crowd gs w sl) s.W=(.next m,ops)/\Reaches P (Fin P s SM SW (acc++vs)) m (t++ops):=by
 cases vs with
 | nil =>
  obtain ⟨gs',b',w',ops,q',pc,hr,hth,hD',hW2,hrel,hL',hT'⟩:=zQ hp h hL hT h.Fu hW sl;rw [dY ha] at hD';refine ⟨_,_,hr,?_⟩;rw [List.append_nil];exact Kv hp (hM.rely hrel) hW2 hD' hL' hT'
 | cons v vs' =>
  obtain ⟨hv,_,B2,z,hb,hn⟩:=hp.send _ _ _ _ _ hW;obtain ⟨gs',ops,hr,rfl,hD',hL'⟩:=DZ hp h hL ha hb sl;refine ⟨_,_,hr,?_⟩;rw [Array.append_empty];exact Kw hp (hV v vs' rfl) hM hv hn hD' hL' hT
theorem RQ (hp:Parts P s SM SW dC) {acc vs:List Value} (hV:CE P s SM SW vs):∀ (M:Nat) {F0 FW:Nat->Prop} {gs:Array Goroutine} {a b:Goroutine} {w:World} {sl:Option (Nat×Nat)} {t:Trace} {q:Nat->Nat} {kp kt:Nat},sumTo s.size q<=M->(∀ w1,aO F0 w w1->SM acc F0 a w1)->SW vs FW b w->dE P s kp kt false F0 FW gs a b w->aV (Two s.W) P t gs q->dJ s.W F0 FW t->Reaches P (Fin P s SM SW (acc++vs)) (crowd gs w sl) t:=by
 intro M;induction M using Nat.strongRecOn with
 | ind M ih =>
  intro F0 FW gs a b w sl t q kp kt hM hS hW h hL hT;have hrun:=DX hp hW;have ha:=O8 hp (hS w (.refl _ _));rcases h.pick hL (eZ ha) (eZ hrun) (.inl ha) (λ d=>dY ha _) (λ d=>dY hrun _) sl with ⟨d,sl',_,hst⟩ | ⟨d,sl',_,hst⟩ | ⟨d,sl',gs',q',i,fn,pos,es,hi0,jR,hm,hst,h',hL',hlt⟩
  ·have hD:=h.at d h.g0 h.gW rfl
   obtain ⟨A2,h1,h2⟩:=hp.DV (hS (w.at d) (aO.at F0 w d));obtain ⟨gs',ops,hr,rfl,hD',hL'⟩:=zS hp hD hL h1 hrun sl';refine Reaches.step (hst.trans hr) ?_;rw [Array.append_empty];exact vF hp hV _ (Nat.le_refl _) h2 (hp.jY _ _ _ _ _ hW (aO.at FW w d)) hD' hL' hT h.Fu
  ·obtain ⟨m,ops,hr,hR⟩:=D6 hp hV (sl:=sl') ha (aB.stop λ w1 h1=>hS w1 ((aO.at F0 w d).trans h1)) (hp.jY _ _ _ _ _ hW (aO.at FW w d)) (h.at d h.g0 h.gW rfl) hL hT
   exact Reaches.step (hst.trans hr) hR
  ·refine Reaches.step hst ?_
   exact ih (sumTo s.size q') (by omega) (Nat.le_refl _) (λ w1 h1=>hS w1 ((aO.at F0 w d).trans h1)) (hp.jY _ _ _ _ _ hW (aO.at FW w d)) h' hL' (lS hT hi0 jR hm)
theorem O9 (hp:Parts P s SM SW dC) {acc vs:List Value} (hV:CE P s SM SW vs) {F0:Nat->Prop} {a:Goroutine} {w:World} (hM:aB P true (SM acc) F0 a w):∀ {FW:Nat->Prop} {gs:Array Goroutine} {b:Goroutine} {sl:Option (Nat×Nat)} {t:Trace} {q:Nat->Nat} {kp kt:Nat},SW vs FW b w->dE P s kp kt false F0 FW gs a b w->aV (Two s.W) P t gs q->dJ s.W F0 FW t->Reaches P (Fin P s SM SW (acc++vs)) (crowd gs w sl) t:=by
 refine hM.induct (X:=λ F0 a w=>∀ {FW:Nat->Prop} {gs:Array Goroutine} {b:Goroutine} {sl:Option (Nat×Nat)} {t:Trace} {q:Nat->Nat} {kp kt:Nat},SW vs FW b w->dE P s kp kt false F0 FW gs a b w->aV (Two s.W) P t gs q->dJ s.W F0 FW t->Reaches P (Fin P s SM SW (acc++vs)) (crowd gs w sl) t) ?_ ?_
 ·intro F0 a w hs FW gs b sl t q kp kt hW h hL hT
  exact RQ hp hV _ (Nat.le_refl _) hs hW h hL hT
 ·intro F0 a w hrun hstep FW gs b sl t q kp kt
  suffices H:∀ M w gs sl t q,sumTo s.size q<=M->(∀ w1,aO F0 w w1->(stepG P true a w1).goes λ g' w' es=>kS F0 w1 w' es/\aB P true (SM acc) (Grow F0 w1 w') g' w'/\∀ {FW:Nat->Prop} {gs:Array Goroutine} {b:Goroutine} {sl:Option (Nat×Nat)} {t:Trace} {q:Nat->Nat} {kp kt:Nat},SW vs FW b w'->dE P s kp kt false (Grow F0 w1 w') FW gs g' b w'->aV (Two s.W) P t gs q->dJ s.W (Grow F0 w1 w') FW t->Reaches P (Fin P s SM SW (acc++vs)) (crowd gs w' sl) t)->SW vs FW b w->dE P s kp kt false F0 FW gs a b w->aV (Two s.W) P t gs q->dJ s.W F0 FW t->Reaches P (Fin P s SM SW (acc++vs)) (crowd gs w sl) t from H _ w gs sl t q (Nat.le_refl _) hstep
  intro M;induction M using Nat.strongRecOn with
  | ind M ih =>
   intro w gs sl t q hM hstep hW h hL hT;have tu:=DX hp hW;rcases h.pick hL (eZ hrun) (eZ tu) (.inl hrun) (λ d=>dY hrun _) (λ d=>dY tu _) sl with ⟨d,sl',_,hst⟩ | ⟨d,sl',_,hst⟩ | ⟨d,sl',gs',q',i,fn,pos,es,hi0,jR,hm,hst,h',hL',hlt⟩
   ·have hs:=hstep (w.at d) (aO.at F0 w d)
    have xU:0<gs.size:=(Array.getElem?_eq_some_iff.1 h.g0).1;cases hgo:stepG P true a (w.at d) with
    | go a' w' es =>
     rw [hgo,goes_go] at hs;obtain ⟨hgu,_,hnext⟩:=hs;have hrunT:=runT_crowd_go (P:=P) (sl:=sl') (i:=0) h.g0 (show stepG P (0 == 0) a (w.at d)=_ from hgo);refine Reaches.step (hst.trans hrunT) ?_;have hD:=(h.at d h.g0 h.gW rfl).main hgu (gs':=(gs.map (woken P a a' w')).setIfInBounds 0 a') (iO xU) (by rw [dI (Ne.symm h.w0) h.gW,woken_run tu]) (by simp);exact hnext (sl:=sl') (hp.jY _ _ _ _ _ (hp.jY _ _ _ _ _ hW (aO.at FW w d)) hD.2) hD.1 (hL.nu (.inl rfl) xU ofEvents_g) ((hT.grow (λ x hx=>.inl hx) λ _ h=>h).main h.w0 hD.1.apart hgu.evs)
    | _=>rw [hgo] at hs;exact hs.elim
   ·obtain ⟨m,ops,hr,hR⟩:=D6 hp hV (sl:=sl') hrun (aB.step hrun λ w1 h1=>goes_mono (hstep w1 ((aO.at F0 w d).trans h1)) λ _ _ _ hx=>⟨hx.1,hx.2.1⟩) (hp.jY _ _ _ _ _ hW (aO.at FW w d)) (h.at d h.g0 h.gW rfl) hL hT
    exact Reaches.step (hst.trans hr) hR
   ·refine Reaches.step hst ?_
    exact ih (sumTo s.size q') (by omega) (w.at d) gs' sl' _ q' (Nat.le_refl _) (λ w1 h1=>hstep w1 ((aO.at F0 w d).trans h1)) (hp.jY _ _ _ _ _ hW (aO.at FW w d)) h' hL' (lS hT hi0 jR hm)
theorem Pb (hp:Parts P s SM SW dC) {acc vs:List Value} (hV:CE P s SM SW vs) {FW:Nat->Prop} {b:Goroutine} {w:World} (hW:aB P false (SW vs) FW b w):∀ {F0:Nat->Prop} {gs:Array Goroutine} {A2:Goroutine} {sl:Option (Nat×Nat)} {t:Trace} {q:Nat->Nat} {kp kt:Nat},jS P s SM dC acc F0 A2 w->dE P s kp kt false F0 FW gs (parked A2 s.cs .select) b w->aV (Two s.W) P t gs q->dJ s.W F0 FW t->Reaches P (Fin P s SM SW (acc++vs)) (crowd gs w sl) t:=by
 refine hW.induct (X:=λ FW b w=>∀ {F0:Nat->Prop} {gs:Array Goroutine} {A2:Goroutine} {sl:Option (Nat×Nat)} {t:Trace} {q:Nat->Nat} {kp kt:Nat},jS P s SM dC acc F0 A2 w->dE P s kp kt false F0 FW gs (parked A2 s.cs .select) b w->aV (Two s.W) P t gs q->dJ s.W F0 FW t->Reaches P (Fin P s SM SW (acc++vs)) (crowd gs w sl) t) ?_ ?_
 ·intro FW b w hs F0 gs A2 sl t q kp kt hS h hL hT
  exact vF hp hV _ (Nat.le_refl _) hS (hs w (.refl _ _)) h hL hT h.Fu
 ·intro FW b w hrun hstep F0 gs A2 sl t q kp kt
  suffices H:∀ M w gs sl t q,sumTo s.size q<=M->(∀ w1,aO FW w w1->(stepG P false b w1).goes λ g' w' es=>kS FW w1 w' es/\aB P false (SW vs) (Grow FW w1 w') g' w'/\∀ {F0:Nat->Prop} {gs:Array Goroutine} {A2:Goroutine} {sl:Option (Nat×Nat)} {t:Trace} {q:Nat->Nat} {kp kt:Nat},jS P s SM dC acc F0 A2 w'->dE P s kp kt false F0 (Grow FW w1 w') gs (parked A2 s.cs .select) g' w'->aV (Two s.W) P t gs q->dJ s.W F0 (Grow FW w1 w') t->Reaches P (Fin P s SM SW (acc++vs)) (crowd gs w' sl) t)->jS P s SM dC acc F0 A2 w->dE P s kp kt false F0 FW gs (parked A2 s.cs .select) b w->aV (Two s.W) P t gs q->dJ s.W F0 FW t->Reaches P (Fin P s SM SW (acc++vs)) (crowd gs w sl) t from H _ w gs sl t q (Nat.le_refl _) hstep
  intro M;induction M using Nat.strongRecOn with
  | ind M ih =>
   intro w gs sl t q hM hstep hS h hL hT;rcases h.pick hL (mJ _ _ _) (eZ hrun) (.inr hrun) (λ d=>ry (h.op.at d) (show dD (w.at d) s.th kt from h.ot)) (λ d=>dY hrun _) sl with ⟨d,sl',hx,_⟩ | ⟨d,sl',_,hst⟩ | ⟨d,sl',gs',q',i,fn,pos,es,hi0,jR,hm,hst,h',hL',hlt⟩
   ·cases hx
   ·have hs:=hstep (w.at d) (aO.at FW w d)
    have hltW:s.W<gs.size:=(Array.getElem?_eq_some_iff.1 h.gW).1;cases hgo:stepG P false b (w.at d) with
    | go b' w' es =>
     rw [hgo,goes_go] at hs;obtain ⟨hgu,_,hnext⟩:=hs;have hrunT:=runT_crowd_go (P:=P) (sl:=sl') (i:=s.W) h.gW (show stepG P (s.W == 0) b (w.at d)=_ by rw [show (s.W == 0)=false by simpa using h.w0];exact hgo);refine Reaches.step (hst.trans hrunT) ?_;have hopen:=((h.at d h.g0 h.gW rfl).work hgu (gs':=gs.setIfInBounds s.W b') (by rw [Array.getElem?_setIfInBounds_ne h.w0];exact h.g0) (by rw [Array.getElem?_setIfInBounds_self_of_lt hltW]) (by simp)).1;have hD:=(h.at d h.g0 h.gW rfl).work hgu (gs':=(gs.map (woken P b b' w')).setIfInBounds s.W b') (by rw [dI h.w0 h.g0,qU (ry hopen.op (show dD w' s.th kt from hopen.ot))]) (iO hltW) (by simp);exact hnext (sl:=sl') ((hS.rely hp (aO.at F0 w d)).rely hp hD.2) hD.1 (hL.nu (.inr rfl) hltW ofEvents_g) ((hT.grow (λ _ h=>h) λ x hx=>.inl hx).work h.w0 hD.1.apart hgu.evs)
    | _=>rw [hgo] at hs;exact hs.elim
   ·refine Reaches.step hst ?_
    exact ih (sumTo s.size q') (by omega) (w.at d) gs' sl' _ q' (Nat.le_refl _) (λ w1 h1=>hstep w1 ((aO.at FW w d).trans h1)) (hS.rely hp (aO.at F0 w d)) h' hL' (lS hT hi0 jR hm)
end
section
variable {P:Program} {s:Score} {SM SW:List Value->(Nat->Prop)->Goroutine->World->Prop} {dC:Value->Prop}
theorem Iw (hp:Parts P s SM SW dC) {acc vs:List Value} (hV:CE P s SM SW vs) {FW:Nat->Prop} {b:Goroutine} {w0:World} (tu:b.status=.running)
 (hstep:∀ w1,aO FW w0 w1->(stepG P false b w1).goes λ g' w' es=>kS FW w1 w' es/\aB P false (SW vs) (Grow FW w1 w') g' w'/\∀ {F0:Nat->Prop} {gs:Array Goroutine} {a:Goroutine} {sl:Option (Nat×Nat)} {t:Trace} {q:Nat->Nat} {kp kt:Nat},aB P true (SM acc) F0 a w'->dE P s kp kt false F0 (Grow FW w1 w') gs a g' w'->aV (Two s.W) P t gs q->dJ s.W F0 (Grow FW w1 w') t->Reaches P (Fin P s SM SW (acc++vs)) (crowd gs w' sl) t)
 {F0:Nat->Prop} {a:Goroutine} {w:World} (hM:aB P true (SM acc) F0 a w):∀ {gs:Array Goroutine} {sl:Option (Nat×Nat)} {t:Trace} {q:Nat->Nat} {kp kt:Nat},aO FW w0 w->dE P s kp kt false F0 FW gs a b w->aV (Two s.W) P t gs q->dJ s.W F0 FW t->Reaches P (Fin P s SM SW (acc++vs)) (crowd gs w sl) t:=by
 have Uz:∀ {F0:Nat->Prop} {a:Goroutine} {w:World} {gs:Array Goroutine} {sl:Option (Nat×Nat)} {t:Trace} {q:Nat->Nat} {kp kt:Nat},aB P true (SM acc) F0 a w->a.status=.running->aO FW w0 w->dE P s kp kt false F0 FW gs a b w->aV (Two s.W) P t gs q->dJ s.W F0 FW t->∃ m ops,runT P (crowd gs w sl) s.W=(.next m,ops)/\Reaches P (Fin P s SM SW (acc++vs)) m (t++ops):=by
  intro F0 a w gs sl t q kp kt hM ha hrel h hL hT;have hs:=hstep w hrel;have hltW:s.W<gs.size:=(Array.getElem?_eq_some_iff.1 h.gW).1;cases hgo:stepG P false b w with
  | go b' w' es =>
   rw [hgo,goes_go] at hs;obtain ⟨hgu,_,hnext⟩:=hs;have hrunT:=runT_crowd_go (P:=P) (sl:=sl) (i:=s.W) h.gW (show stepG P (s.W == 0) b w=_ by rw [show (s.W == 0)=false by simpa using h.w0];exact hgo);refine ⟨_,_,hrunT,?_⟩;have hD:=h.work hgu (gs':=(gs.map (woken P b b' w')).setIfInBounds s.W b') (by rw [dI h.w0 h.g0,woken_run ha]) (iO hltW) (by simp);exact hnext (sl:=sl) (hM.rely hD.2) hD.1 (hL.nu (.inr rfl) hltW ofEvents_g) ((hT.grow (λ _ h=>h) λ x hx=>.inl hx).work h.w0 hD.1.apart hgu.evs)
  | _=>rw [hgo] at hs;exact hs.elim
 have aal:∀ {w:World},aO FW w0 w->aB P false (SW vs) FW b w:=λ hrel=>aB.step tu λ w1 h1=>goes_mono (hstep w1 (hrel.trans h1)) λ _ _ _ hx=>⟨hx.1,hx.2.1⟩
 refine @aB.induct _ _ _ _ _ _ (λ F0 a w=>∀ {gs:Array Goroutine} {sl:Option (Nat×Nat)} {t:Trace} {q:Nat->Nat} {kp kt:Nat},aO FW w0 w->dE P s kp kt false F0 FW gs a b w->aV (Two s.W) P t gs q->dJ s.W F0 FW t->Reaches P (Fin P s SM SW (acc++vs)) (crowd gs w sl) t) hM ?_ ?_
 ·intro F0 a w hs gs sl t q kp kt
  suffices H:∀ M w gs sl t q,sumTo s.size q<=M->(∀ w1,aO F0 w w1->SM acc F0 a w1)->aO FW w0 w->dE P s kp kt false F0 FW gs a b w->aV (Two s.W) P t gs q->dJ s.W F0 FW t->Reaches P (Fin P s SM SW (acc++vs)) (crowd gs w sl) t from H _ w gs sl t q (Nat.le_refl _) hs
  intro M;induction M using Nat.strongRecOn with
  | ind M ih =>
   intro w gs sl t q hM hs hrel h hL hT;have ha:=O8 hp (hs w (.refl _ _));rcases h.pick hL (eZ ha) (eZ tu) (.inl ha) (λ d=>dY ha _) (λ d=>dY tu _) sl with ⟨d,sl',_,hst⟩ | ⟨d,sl',_,hst⟩ | ⟨d,sl',gs',q',i,fn,pos,es,hi0,jR,hm,hst,h',hL',hlt⟩
   ·obtain ⟨A2,h1,h2⟩:=hp.DV (hs (w.at d) (aO.at F0 w d))
    obtain ⟨gs',ops,hr,rfl,hD',hL'⟩:=zS hp (h.at d h.g0 h.gW rfl) hL h1 tu sl';refine Reaches.step (hst.trans hr) ?_;rw [Array.append_empty];exact Pb hp hV (aal (hrel.trans (aO.at FW w d))) h2 hD' hL' hT
   ·obtain ⟨m,ops,hr,hR⟩:=Uz (sl:=sl') (aB.stop λ w1 h1=>hs w1 ((aO.at F0 w d).trans h1)) ha (hrel.trans (aO.at FW w d)) (h.at d h.g0 h.gW rfl) hL hT
    exact Reaches.step (hst.trans hr) hR
   ·refine Reaches.step hst ?_
    exact ih (sumTo s.size q') (by omega) (w.at d) gs' sl' _ q' (Nat.le_refl _) (λ w1 h1=>hs w1 ((aO.at F0 w d).trans h1)) (hrel.trans (aO.at FW w d)) h' hL' (lS hT hi0 jR hm)
 ·intro F0 a w hrun zT gs sl t q kp kt
  suffices H:∀ M w gs sl t q,sumTo s.size q<=M->(∀ w1,aO F0 w w1->(stepG P true a w1).goes λ g' w' es=>kS F0 w1 w' es/\aB P true (SM acc) (Grow F0 w1 w') g' w'/\∀ {gs:Array Goroutine} {sl:Option (Nat×Nat)} {t:Trace} {q:Nat->Nat} {kp kt:Nat},aO FW w0 w'->dE P s kp kt false (Grow F0 w1 w') FW gs g' b w'->aV (Two s.W) P t gs q->dJ s.W (Grow F0 w1 w') FW t->Reaches P (Fin P s SM SW (acc++vs)) (crowd gs w' sl) t)->aO FW w0 w->dE P s kp kt false F0 FW gs a b w->aV (Two s.W) P t gs q->dJ s.W F0 FW t->Reaches P (Fin P s SM SW (acc++vs)) (crowd gs w sl) t from H _ w gs sl t q (Nat.le_refl _) zT
  intro M;induction M using Nat.strongRecOn with
  | ind M ih =>
   intro w gs sl t q hM zT hrel h hL hT;rcases h.pick hL (eZ hrun) (eZ tu) (.inl hrun) (λ d=>dY hrun _) (λ d=>dY tu _) sl with ⟨d,sl',_,hst⟩ | ⟨d,sl',_,hst⟩ | ⟨d,sl',gs',q',i,fn,pos,es,hi0,jR,hm,hst,h',hL',hlt⟩
   ·have hs:=zT (w.at d) (aO.at F0 w d)
    have xU:0<gs.size:=(Array.getElem?_eq_some_iff.1 h.g0).1;cases hgo:stepG P true a (w.at d) with
    | go a' w' es =>
     rw [hgo,goes_go] at hs;obtain ⟨hgu,_,hnext⟩:=hs;have hrunT:=runT_crowd_go (P:=P) (sl:=sl') (i:=0) h.g0 (show stepG P (0 == 0) a (w.at d)=_ from hgo);refine Reaches.step (hst.trans hrunT) ?_;have hD:=(h.at d h.g0 h.gW rfl).main hgu (gs':=(gs.map (woken P a a' w')).setIfInBounds 0 a') (iO xU) (by rw [dI (Ne.symm h.w0) h.gW,woken_run tu]) (by simp);exact hnext (sl:=sl') ((hrel.trans (aO.at FW w d)).trans hD.2) hD.1 (hL.nu (.inl rfl) xU ofEvents_g) ((hT.grow (λ x hx=>.inl hx) λ _ h=>h).main h.w0 hD.1.apart hgu.evs)
    | _=>rw [hgo] at hs;exact hs.elim
   ·obtain ⟨m,ops,hr,hR⟩:=Uz (sl:=sl') (aB.step hrun λ w1 h1=>goes_mono (zT w1 ((aO.at F0 w d).trans h1)) λ _ _ _ hx=>⟨hx.1,hx.2.1⟩) hrun (hrel.trans (aO.at FW w d)) (h.at d h.g0 h.gW rfl) hL hT
    exact Reaches.step (hst.trans hr) hR
   ·refine Reaches.step hst ?_
    exact ih (sumTo s.size q') (by omega) (w.at d) gs' sl' _ q' (Nat.le_refl _) (λ w1 h1=>zT w1 ((aO.at F0 w d).trans h1)) (hrel.trans (aO.at FW w d)) h' hL' (lS hT hi0 jR hm)
theorem F8 (hp:Parts P s SM SW dC) {vs:List Value} (hV:CE P s SM SW vs):Claim P s SM SW vs:=by
 intro acc F0 FW gs a b w sl t q kp kt hM hW h hL hT;revert F0 gs a sl t q kp kt
 refine hW.induct (X:=λ FW b w=>∀ {F0:Nat->Prop} {gs:Array Goroutine} {a:Goroutine} {sl:Option (Nat×Nat)} {t:Trace} {q:Nat->Nat} {kp kt:Nat},aB P true (SM acc) F0 a w->dE P s kp kt false F0 FW gs a b w->aV (Two s.W) P t gs q->dJ s.W F0 FW t->Reaches P (Fin P s SM SW (acc++vs)) (crowd gs w sl) t) ?_ ?_
 ·intro FW b w hs F0 gs a sl t q kp kt hM h hL hT
  exact O9 hp hV hM (hs w (.refl _ _)) h hL hT
 ·intro FW b w hrun hstep F0 gs a sl t q kp kt hM h hL hT
  exact Iw hp hV hrun hstep hM (.refl _ _) h hL hT
theorem Nb (hp:Parts P s SM SW dC):∀ vs:List Value,Claim P s SM SW vs
 | []=>F8 hp λ _ _ e=>by cases e
 | v::vs=>F8 hp λ v' vs' e=>by
  cases e
  exact Nb hp vs
end
end
end Go.Proofs.YtignemioillaiabGreat
