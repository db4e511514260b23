/- Lemmas. -/
import Derived.Test.YtignemioillaiaaGreatG07
namespace Go.Proofs.YtignemioillaiaaGreat
set_option maxHeartbeats 8000000
set_option maxRecDepth 100000
open List
section
open Go Go.Conc
open Go.ConcN (sumTo upd sumTo_upd upd_ne upd_same)
section
variable{P:Program}{s:Score}{SM SW:List Value->(Nat->Prop)->Goroutine->World->Prop}{dG:Value->Prop}
def Claim(P:Program)(s:Score)(SM SW:List Value->(Nat->Prop)->Goroutine->World->Prop)(vs:List Value):Prop :=
 ∀{acc:List Value} {F0 FW:Nat->Prop} {gs:Array Goroutine} {a b:Goroutine} {w:World} {sl:Option (Nat×Nat)} {t:Trace} {q:Nat->Nat} {kp kt:Nat},aB P true (SM acc) F0 a w->aB P false (SW vs) FW b w->dJ P s kp kt false F0 FW gs a b w->aV (Two s.W) P t gs q->dO s.W F0 FW t->Reaches P (Fin P s SM SW (acc++vs)) (crowd gs w sl) t
def DN(P:Program)(s:Score)(SM SW:List Value->(Nat->Prop)->Goroutine->World->Prop)(vs:List Value):Prop:=∀v vs',vs=v::vs'->Claim P s SM SW vs'
theorem fK{g:Goroutine}(h:g.status=.running):awake g:=awake_of (.inl h)
theorem nM(g:Goroutine)(cs:Array CommCase)(sh:CommShape):awake (parked g cs sh):=λt ht=>by cases ht
theorem eD{g:Goroutine}(h:g.status=.running)(w:World):g.again w=g:=again_running w (.inl h)
theorem EN(hp:Parts P s SM SW dG){vs:List Value}{F:Nat->Prop}{b:Goroutine}{w:World}(h:SW vs F b w):b.status=.running:=by
 cases vs with
 |nil=>exact(hp.close _ _ _ h).1
 |cons v vs=>exact(hp.send _ _ _ _ _ h).2.1
theorem QA(hp:Parts P s SM SW dG){acc:List Value}{F:Nat->Prop}{a:Goroutine}{w:World}(h:SM acc F a w):a.status=.running:=by
 obtain⟨A2,h1,_⟩:=hp.sel _ _ _ _ h;exact h1.run
theorem JD(acc:List Value)(v:Value)(vs:List Value):(acc++[v])++vs=acc++v::vs:=by simp
section
variable{acc vs:List Value}{F0 FW:Nat->Prop}{gs:Array Goroutine}{a b:Goroutine}{w:World}{t:Trace}{q:Nat->Nat}{kp kt:Nat}
theorem mW(hT:dO s.W F0 FW t){i:Nat}{fn:FuncId}{pos:String}{es:Array Event}(h0:i≠0)(hW:i≠s.W)(hm:∀e∈es,Event.mute e=true):dO s.W F0 FW (t++MemOp.ofEvents i fn pos es):=EL hT h0 hW hm
end
theorem wP(hp:Parts P s SM SW dG){acc vs:List Value}(hV:DN P s SM SW vs):∀(M:Nat) {F0 FW T0 TW:Nat->Prop} {gs:Array Goroutine} {A2 b:Goroutine} {w:World} {sl:Option (Nat×Nat)} {t:Trace} {q:Nat->Nat} {kp kt:Nat},sumTo s.size q<=M->kH P s SM dG acc F0 A2 w->SW vs FW b w->dJ P s kp kt false F0 FW gs (parked A2 s.cs .select) b w->aV (Two s.W) P t gs q->dO s.W T0 TW t->(∀x,T0 x->¬nL s TW x)->Reaches P (Fin P s SM SW (acc++vs)) (crowd gs w sl) t:=by
 intro M;induction M using Nat.strongRecOn with
 |ind M ih =>
  intro F0 FW T0 TW gs A2 b w sl t q kp kt hM hS hW h hL hT hd;have hrun:=EN hp hW;rcases h.pick hL (nM _ _ _) (fK hrun) (.inr hrun) (λd=>tF (h.op.at d) (show dI (w.at d) s.th kt from h.ot)) (λd=>eD hrun _) sl with⟨d,sl',hx,_⟩|⟨d,sl',_,hst⟩|⟨d,sl',gs',q',i,fn,pos,es,hi0,kG,hm,hst,h',hL',hlt⟩
  ·cases hx
  ·have hD:=h.at d h.g0 h.gW rfl
   have hS':=hS.rely hp (aQ.at F0 w d);have hW':=hp.kM _ _ _ _ _ hW (aQ.at FW w d);cases vs with
   |nil =>
    obtain⟨gs',b',w',ops,q',pc,hr,hth,hD',hW2,hrel,hL',hT'⟩:=AY hp hD hL hT hd hW' sl';refine Reaches.step (hst.trans hr) ?_;have hag:(parked A2 s.cs .select).again w'={ parked A2 s.cs .select with status:=.running }:=again_some_closed (k:=1) (z:=s.z1) (c:=s.th) rfl hth;rw[hag]at hD';obtain⟨a0,_,hat⟩:=hS'.Y9;rw[append_nil];exact yU hp _ (Nat.le_refl _) hat.tries (hS'.rely hp hrel) hW2 hD' hL' hT'
   |cons v vs' =>
    obtain⟨hv,_,B2,z,hb,hn⟩:=hp.send _ _ _ _ _ hW';obtain⟨gs',a',b',w',ops,hr,hD',hL',hT',hm',hw'⟩:=Qy hp hD hL hT hS' hv hb hn sl';refine Reaches.step (hst.trans hr) ?_;rw[<-JD];exact hV v vs' rfl hm' hw' hD' hL' hT'
  ·refine Reaches.step hst ?_
   exact ih (sumTo s.size q') (by omega) (Nat.le_refl _) (hS.rely hp (aQ.at F0 w d)) (hp.kM _ _ _ _ _ hW (aQ.at FW w d)) h' hL' (mW hT hi0 kG hm) hd
theorem EO(hp:Parts P s SM SW dG){acc vs:List Value}{v z:Value}(hV:Claim P s SM SW vs):∀(M:Nat) {F0 FW T0 TW:Nat->Prop} {gs:Array Goroutine} {a A2 B2:Goroutine} {w:World} {sl:Option (Nat×Nat)} {t:Trace} {q:Nat->Nat} {kp kt:Nat},sumTo s.size q<=M->iP P s.cs A2 a->kH P s SM dG acc F0 A2 w->dG v->aB P false (SW vs) FW (Go.Conc.served B2 undef) w->dJ P s kp kt false F0 FW gs a (parked B2 #[scase s.pk v z] .send) w->aV (Two s.W) P t gs q->dO s.W T0 TW t->Reaches P (Fin P s SM SW (acc++v::vs)) (crowd gs w sl) t:=by
 intro M;induction M using Nat.strongRecOn with
 |ind M ih =>
  intro F0 FW T0 TW gs a A2 B2 w sl t q kp kt hM ha hS hv hn h hL hT;rcases h.pick hL (fK ha.run) (nM _ _ _) (.inl ha.run) (λd=>eD ha.run _) (λd=>again_send_open (h.op.at d)) sl with⟨d,sl',_,hst⟩|⟨d,sl',hx,_⟩|⟨d,sl',gs',q',i,fn,pos,es,hi0,kG,hm,hst,h',hL',hlt⟩
  ·have hD:=h.at d h.g0 h.gW rfl
   obtain⟨gs',a',b',w',ops,hr,hD',hL',hT',hm',hw'⟩:=Qz hp hD hL hT ha (hS.rely hp (aQ.at F0 w d)) hv (hn.rely (aQ.at FW w d)) sl';refine Reaches.step (hst.trans hr) ?_;rw[<-JD];exact hV hm' hw' hD' hL' hT'
  ·cases hx
  ·refine Reaches.step hst ?_
   exact ih (sumTo s.size q') (by omega) (Nat.le_refl _) ha (hS.rely hp (aQ.at F0 w d)) hv (hn.rely (aQ.at FW w d)) h' hL' (mW hT hi0 kG hm)
theorem Mj(hp:Parts P s SM SW dG){acc vs:List Value}{v z:Value}(hV:Claim P s SM SW vs){F0:Nat->Prop}{a:Goroutine}{w:World}(hM:aB P true (SM acc) F0 a w):∀{FW:Nat->Prop} {gs:Array Goroutine} {B2:Goroutine} {sl:Option (Nat×Nat)} {t:Trace} {q:Nat->Nat} {kp kt:Nat},dG v->aB P false (SW vs) FW (Go.Conc.served B2 undef) w->dJ P s kp kt false F0 FW gs a (parked B2 #[scase s.pk v z] .send) w->aV (Two s.W) P t gs q->dO s.W F0 FW t->Reaches P (Fin P s SM SW (acc++v::vs)) (crowd gs w sl) t:=by
 refine hM.induct (X:=λF0 a w=>∀{FW:Nat->Prop} {gs:Array Goroutine} {B2:Goroutine} {sl:Option (Nat×Nat)} {t:Trace} {q:Nat->Nat} {kp kt:Nat},dG v->aB P false (SW vs) FW (Go.Conc.served B2 undef) w->dJ P s kp kt false F0 FW gs a (parked B2 #[scase s.pk v z] .send) w->aV (Two s.W) P t gs q->dO s.W F0 FW t->Reaches P (Fin P s SM SW (acc++v::vs)) (crowd gs w sl) t) ?_ ?_
 ·intro F0 a w hs FW gs B2 sl t q kp kt hv hn h hL hT
  obtain⟨A2,h1,h2⟩:=hp.EM (hs w (.refl _ _));exact EO hp hV _ (Nat.le_refl _) h1 h2 hv hn h hL hT
 ·intro F0 a w hrun hstep FW gs B2 sl t q kp kt
  suffices H:∀M w gs sl t q,sumTo s.size q<=M->(∀w1,aQ F0 w w1->(stepG P true a w1).goes λg' w' es=>mg F0 w1 w' es/\aB P true (SM acc) (Grow F0 w1 w') g' w'/\∀{FW:Nat->Prop} {gs:Array Goroutine} {B2:Goroutine} {sl:Option (Nat×Nat)} {t:Trace} {q:Nat->Nat} {kp kt:Nat},dG v->aB P false (SW vs) FW (Go.Conc.served B2 undef) w'->dJ P s kp kt false (Grow F0 w1 w') FW gs g' (parked B2 #[scase s.pk v z] .send) w'->aV (Two s.W) P t gs q->dO s.W (Grow F0 w1 w') FW t->Reaches P (Fin P s SM SW (acc++v::vs)) (crowd gs w' sl) t)->dG v->aB P false (SW vs) FW (Go.Conc.served B2 undef) w->dJ P s kp kt false F0 FW gs a (parked B2 #[scase s.pk v z] .send) w->aV (Two s.W) P t gs q->dO s.W F0 FW t->Reaches P (Fin P s SM SW (acc++v::vs)) (crowd gs w sl) t from H _ w gs sl t q (Nat.le_refl _) hstep
  intro M;induction M using Nat.strongRecOn with
  |ind M ih =>
   intro w gs sl t q hM hstep hv hn h hL hT;rcases h.pick hL (fK hrun) (nM _ _ _) (.inl hrun) (λd=>eD hrun _) (λd=>again_send_open (h.op.at d)) sl with⟨d,sl',_,hst⟩|⟨d,sl',hx,_⟩|⟨d,sl',gs',q',i,fn,pos,es,hi0,kG,hm,hst,h',hL',hlt⟩
   ·have hs:=hstep (w.at d) (aQ.at F0 w d)
    have yV:0<gs.size:=(Array.getElem?_eq_some_iff.1 h.g0).1;cases hgo:stepG P true a (w.at d)with
    |go a' w' es =>
     rw[hgo,goes_go]at hs;obtain⟨hgu,_,hnext⟩:=hs;have hrunT:=runT_crowd_go (P:=P) (sl:=sl') (i:=0) h.g0 (show stepG P (0 == 0) a (w.at d)=_ from hgo);refine Reaches.step (hst.trans hrunT) ?_;have hpk:dI w' s.pk kp:=((h.at d h.g0 h.gW rfl).main hgu (gs':=gs.setIfInBounds 0 a') (by rw[Array.getElem?_setIfInBounds_self_of_lt yV]) (by rw[Array.getElem?_setIfInBounds_ne (Ne.symm h.w0)];exact h.gW) (by simp)).1.op;have hD:=(h.at d h.g0 h.gW rfl).main hgu (gs':=(gs.map (woken P a a' w')).setIfInBounds 0 a') (jc yV) (by rw[dN (Ne.symm h.w0) h.gW,sJ (again_send_open hpk)]) (by simp);exact hnext (sl:=sl') hv ((hn.rely (aQ.at FW w d)).rely hD.2) hD.1 (hL.oC (.inl rfl) yV ofEvents_g) ((hT.grow (λx hx=>.inl hx) λ_ h=>h).main h.w0 hD.1.apart hgu.evs)
    |_=>rw[hgo]at hs;exact hs.elim
   ·cases hx
   ·refine Reaches.step hst ?_
    exact ih (sumTo s.size q') (by omega) (w.at d) gs' sl' _ q' (Nat.le_refl _) (λw1 h1=>hstep w1 ((aQ.at F0 w d).trans h1)) hv (hn.rely (aQ.at FW w d)) h' hL' (mW hT hi0 kG hm)
end
section
variable{P:Program}{s:Score}{SM SW:List Value->(Nat->Prop)->Goroutine->World->Prop}{dG:Value->Prop}
theorem EP(_hp:Parts P s SM SW dG){F0 FW:Nat->Prop}{gs:Array Goroutine}{a b B2:Goroutine}{v z:Value}{w:World}{t:Trace}{q:Nat->Nat}{kp kt:Nat}(h:dJ P s kp kt false F0 FW gs a b w)(hL:aV (Two s.W) P t gs q)(ha:a.status=.running)(hb:∀w,stepG P false b w=.comm B2 #[scase s.pk v z] true .send w #[])(sl:Option (Nat×Nat)) :
 ∃gs' ops,runT P (crowd gs w sl) s.W=(.next (crowd gs' w sl),ops)/\ops = #[]/\dJ P s kp kt false F0 FW gs' a (parked B2 #[scase s.pk v z] .send) w/\aV (Two s.W) P t gs' q:=by
 have hltW:s.W<gs.size:=(Array.getElem?_eq_some_iff.1 h.gW).1;have hpn:partners (gs.setIfInBounds s.W ph) s.pk false=[]:=tZ hL λj x hj hne hx=>by
  rcases hj with rfl|rfl
  ·rw[h.g0]at hx;cases hx
   exact offersAt_of_not_blocked (by rw[ha];exact nofun) _ _
  ·exact absurd rfl hne
 have hr:=crowd_waits (P:=P) (sl:=sl) (i:=s.W) h.gW (show stepG P (s.W == 0) b w=_ by rw[show(s.W == 0)=false by simpa using h.w0];exact hb w) (λcc hcc=>by
  simp only[mem_toArray,mem_cons,not_mem_nil,or_false]at hcc;subst hcc;exact ways_send_none h.op (Nat.le_refl _) hpn)
 have hD:=h.at w.drawn (gs':=gs.setIfInBounds s.W (parked B2 #[scase s.pk v z] .send)) (a':=a) (b':=parked B2 #[scase s.pk v z] .send) (by rw[Array.getElem?_setIfInBounds_ne h.w0];exact h.g0) (by rw[Array.getElem?_setIfInBounds_self_of_lt hltW]) (by simp);refine⟨_,_,hr,rfl,hD,?_⟩;have:=hL.same (gs':=gs.setIfInBounds s.W (parked B2 #[scase s.pk v z] .send)) (by simp) (λk hk=>Array.getElem?_setIfInBounds_ne (λe=>hk (.inr e.symm))) HY;rwa [Array.append_empty]at this
theorem AZ(_hp:Parts P s SM SW dG){F0 FW:Nat->Prop}{gs:Array Goroutine}{a A2 b:Goroutine}{w:World}{t:Trace}{q:Nat->Nat}{kp kt:Nat}(h:dJ P s kp kt false F0 FW gs a b w)(hL:aV (Two s.W) P t gs q)(ha:iP P s.cs A2 a)(hb:b.status=.running)(sl:Option (Nat×Nat)) :
 ∃gs' ops,runT P (crowd gs w sl) 0=(.next (crowd gs' w sl),ops)/\ops = #[]/\dJ P s kp kt false F0 FW gs' (parked A2 s.cs .select) b w/\aV (Two s.W) P t gs' q:=by
 have hlt:0<gs.size:=(Array.getElem?_eq_some_iff.1 h.g0).1;have hpn:∀c,partners (gs.setIfInBounds 0 ph) c true=[]:=λc=>tZ hL λj x hj hne hx=>by
  rcases hj with rfl|rfl
  ·exact absurd rfl hne
  ·rw[h.gW]at hx;cases hx
   exact offersAt_of_not_blocked (by rw[hb];exact nofun) _ _
 have hr:=crowd_waits (P:=P) (sl:=sl) (i:=0) h.g0 (show stepG P (0 == 0) a w=_ from ha.JB w) (λcc hcc=>by
  simp only[Score.cs,dD,mem_toArray,mem_cons,not_mem_nil,or_false]at hcc;rcases hcc with rfl|rfl
  ·exact ways_recv_none h.op (hpn _)
  ·exact ways_recv_none h.ot (hpn _))
 have hD:=h.at w.drawn (gs':=gs.setIfInBounds 0 (parked A2 s.cs .select)) (a':=parked A2 s.cs .select) (b':=b) (by rw[Array.getElem?_setIfInBounds_self_of_lt hlt]) (by rw[Array.getElem?_setIfInBounds_ne (Ne.symm h.w0)];exact h.gW) (by simp);refine⟨_,_,hr,rfl,hD,?_⟩;have:=hL.same (gs':=gs.setIfInBounds 0 (parked A2 s.cs .select)) (by simp) (λk hk=>Array.getElem?_setIfInBounds_ne (λe=>hk (.inl e.symm))) HY;rwa [Array.append_empty]at this
theorem ER(hp:Parts P s SM SW dG){acc vs:List Value}(hV:DN P s SM SW vs){F0 FW:Nat->Prop}{gs:Array Goroutine}{a b:Goroutine}{w:World}{sl:Option (Nat×Nat)}{t:Trace}{q:Nat->Nat}{kp kt:Nat}(ha:a.status=.running)(hM:aB P true (SM acc) F0 a w)(hW:SW vs FW b w)(h:dJ P s kp kt false F0 FW gs a b w)(hL:aV (Two s.W) P t gs q)(hT:dO s.W F0 FW t) :
 ∃m ops,runT P (crowd gs w sl) s.W=(.next m,ops)/\Reaches P (Fin P s SM SW (acc++vs)) m (t++ops):=by
 cases vs with
 |nil =>
  obtain⟨gs',b',w',ops,q',pc,hr,hth,hD',hW2,hrel,hL',hT'⟩:=AY hp h hL hT h.Gx hW sl;rw[eD ha]at hD';refine⟨_,_,hr,?_⟩;rw[append_nil];exact Mi hp (hM.rely hrel) hW2 hD' hL' hT'
 |cons v vs' =>
  obtain⟨hv,_,B2,z,hb,hn⟩:=hp.send _ _ _ _ _ hW;obtain⟨gs',ops,hr,rfl,hD',hL'⟩:=EP hp h hL ha hb sl;refine⟨_,_,hr,?_⟩;rw[Array.append_empty];exact Mj hp (hV v vs' rfl) hM hv hn hD' hL' hT
theorem Uc(hp:Parts P s SM SW dG){acc vs:List Value}(hV:DN P s SM SW vs):∀(M:Nat) {F0 FW:Nat->Prop} {gs:Array Goroutine} {a b:Goroutine} {w:World} {sl:Option (Nat×Nat)} {t:Trace} {q:Nat->Nat} {kp kt:Nat},sumTo s.size q<=M->(∀w1,aQ F0 w w1->SM acc F0 a w1)->SW vs FW b w->dJ P s kp kt false F0 FW gs a b w->aV (Two s.W) P t gs q->dO s.W F0 FW t->Reaches P (Fin P s SM SW (acc++vs)) (crowd gs w sl) t:=by
 intro M;induction M using Nat.strongRecOn with
 |ind M ih =>
  intro F0 FW gs a b w sl t q kp kt hM hS hW h hL hT;have hrun:=EN hp hW;have ha:=QA hp (hS w (.refl _ _));rcases h.pick hL (fK ha) (fK hrun) (.inl ha) (λd=>eD ha _) (λd=>eD hrun _) sl with⟨d,sl',_,hst⟩|⟨d,sl',_,hst⟩|⟨d,sl',gs',q',i,fn,pos,es,hi0,kG,hm,hst,h',hL',hlt⟩
  ·have hD:=h.at d h.g0 h.gW rfl
   obtain⟨A2,h1,h2⟩:=hp.EM (hS (w.at d) (aQ.at F0 w d));obtain⟨gs',ops,hr,rfl,hD',hL'⟩:=AZ hp hD hL h1 hrun sl';refine Reaches.step (hst.trans hr) ?_;rw[Array.append_empty];exact wP hp hV _ (Nat.le_refl _) h2 (hp.kM _ _ _ _ _ hW (aQ.at FW w d)) hD' hL' hT h.Gx
  ·obtain⟨m,ops,hr,hR⟩:=ER hp hV (sl:=sl') ha (aB.stop λw1 h1=>hS w1 ((aQ.at F0 w d).trans h1)) (hp.kM _ _ _ _ _ hW (aQ.at FW w d)) (h.at d h.g0 h.gW rfl) hL hT
   exact Reaches.step (hst.trans hr) hR
  ·refine Reaches.step hst ?_
   exact ih (sumTo s.size q') (by omega) (Nat.le_refl _) (λw1 h1=>hS w1 ((aQ.at F0 w d).trans h1)) (hp.kM _ _ _ _ _ hW (aQ.at FW w d)) h' hL' (mW hT hi0 kG hm)
theorem QC(hp:Parts P s SM SW dG){acc vs:List Value}(hV:DN P s SM SW vs){F0:Nat->Prop}{a:Goroutine}{w:World}(hM:aB P true (SM acc) F0 a w):∀{FW:Nat->Prop} {gs:Array Goroutine} {b:Goroutine} {sl:Option (Nat×Nat)} {t:Trace} {q:Nat->Nat} {kp kt:Nat},SW vs FW b w->dJ P s kp kt false F0 FW gs a b w->aV (Two s.W) P t gs q->dO s.W F0 FW t->Reaches P (Fin P s SM SW (acc++vs)) (crowd gs w sl) t:=by
 refine hM.induct (X:=λF0 a w=>∀{FW:Nat->Prop} {gs:Array Goroutine} {b:Goroutine} {sl:Option (Nat×Nat)} {t:Trace} {q:Nat->Nat} {kp kt:Nat},SW vs FW b w->dJ P s kp kt false F0 FW gs a b w->aV (Two s.W) P t gs q->dO s.W F0 FW t->Reaches P (Fin P s SM SW (acc++vs)) (crowd gs w sl) t) ?_ ?_
 ·intro F0 a w hs FW gs b sl t q kp kt hW h hL hT
  exact Uc hp hV _ (Nat.le_refl _) hs hW h hL hT
 ·intro F0 a w hrun hstep FW gs b sl t q kp kt
  suffices H:∀M w gs sl t q,sumTo s.size q<=M->(∀w1,aQ F0 w w1->(stepG P true a w1).goes λg' w' es=>mg F0 w1 w' es/\aB P true (SM acc) (Grow F0 w1 w') g' w'/\∀{FW:Nat->Prop} {gs:Array Goroutine} {b:Goroutine} {sl:Option (Nat×Nat)} {t:Trace} {q:Nat->Nat} {kp kt:Nat},SW vs FW b w'->dJ P s kp kt false (Grow F0 w1 w') FW gs g' b w'->aV (Two s.W) P t gs q->dO s.W (Grow F0 w1 w') FW t->Reaches P (Fin P s SM SW (acc++vs)) (crowd gs w' sl) t)->SW vs FW b w->dJ P s kp kt false F0 FW gs a b w->aV (Two s.W) P t gs q->dO s.W F0 FW t->Reaches P (Fin P s SM SW (acc++vs)) (crowd gs w sl) t from H _ w gs sl t q (Nat.le_refl _) hstep
  intro M;induction M using Nat.strongRecOn with
  |ind M ih =>
   intro w gs sl t q hM hstep hW h hL hT;have uI:=EN hp hW;rcases h.pick hL (fK hrun) (fK uI) (.inl hrun) (λd=>eD hrun _) (λd=>eD uI _) sl with⟨d,sl',_,hst⟩|⟨d,sl',_,hst⟩|⟨d,sl',gs',q',i,fn,pos,es,hi0,kG,hm,hst,h',hL',hlt⟩
   ·have hs:=hstep (w.at d) (aQ.at F0 w d)
    have yV:0<gs.size:=(Array.getElem?_eq_some_iff.1 h.g0).1;cases hgo:stepG P true a (w.at d)with
    |go a' w' es =>
     rw[hgo,goes_go]at hs;obtain⟨hgu,_,hnext⟩:=hs;have hrunT:=runT_crowd_go (P:=P) (sl:=sl') (i:=0) h.g0 (show stepG P (0 == 0) a (w.at d)=_ from hgo);refine Reaches.step (hst.trans hrunT) ?_;have hD:=(h.at d h.g0 h.gW rfl).main hgu (gs':=(gs.map (woken P a a' w')).setIfInBounds 0 a') (jc yV) (by rw[dN (Ne.symm h.w0) h.gW,woken_run uI]) (by simp);exact hnext (sl:=sl') (hp.kM _ _ _ _ _ (hp.kM _ _ _ _ _ hW (aQ.at FW w d)) hD.2) hD.1 (hL.oC (.inl rfl) yV ofEvents_g) ((hT.grow (λx hx=>.inl hx) λ_ h=>h).main h.w0 hD.1.apart hgu.evs)
    |_=>rw[hgo]at hs;exact hs.elim
   ·obtain⟨m,ops,hr,hR⟩:=ER hp hV (sl:=sl') hrun (aB.step hrun λw1 h1=>goes_mono (hstep w1 ((aQ.at F0 w d).trans h1)) λ_ _ _ hx=>⟨hx.1,hx.2.1⟩) (hp.kM _ _ _ _ _ hW (aQ.at FW w d)) (h.at d h.g0 h.gW rfl) hL hT
    exact Reaches.step (hst.trans hr) hR
   ·refine Reaches.step hst ?_
    exact ih (sumTo s.size q') (by omega) (w.at d) gs' sl' _ q' (Nat.le_refl _) (λw1 h1=>hstep w1 ((aQ.at F0 w d).trans h1)) (hp.kM _ _ _ _ _ hW (aQ.at FW w d)) h' hL' (mW hT hi0 kG hm)
theorem QD(hp:Parts P s SM SW dG){acc vs:List Value}(hV:DN P s SM SW vs){FW:Nat->Prop}{b:Goroutine}{w:World}(hW:aB P false (SW vs) FW b w):∀{F0:Nat->Prop} {gs:Array Goroutine} {A2:Goroutine} {sl:Option (Nat×Nat)} {t:Trace} {q:Nat->Nat} {kp kt:Nat},kH P s SM dG acc F0 A2 w->dJ P s kp kt false F0 FW gs (parked A2 s.cs .select) b w->aV (Two s.W) P t gs q->dO s.W F0 FW t->Reaches P (Fin P s SM SW (acc++vs)) (crowd gs w sl) t:=by
 refine hW.induct (X:=λFW b w=>∀{F0:Nat->Prop} {gs:Array Goroutine} {A2:Goroutine} {sl:Option (Nat×Nat)} {t:Trace} {q:Nat->Nat} {kp kt:Nat},kH P s SM dG acc F0 A2 w->dJ P s kp kt false F0 FW gs (parked A2 s.cs .select) b w->aV (Two s.W) P t gs q->dO s.W F0 FW t->Reaches P (Fin P s SM SW (acc++vs)) (crowd gs w sl) t) ?_ ?_
 ·intro FW b w hs F0 gs A2 sl t q kp kt hS h hL hT
  exact wP hp hV _ (Nat.le_refl _) hS (hs w (.refl _ _)) h hL hT h.Gx
 ·intro FW b w hrun hstep F0 gs A2 sl t q kp kt
  suffices H:∀M w gs sl t q,sumTo s.size q<=M->(∀w1,aQ FW w w1->(stepG P false b w1).goes λg' w' es=>mg FW w1 w' es/\aB P false (SW vs) (Grow FW w1 w') g' w'/\∀{F0:Nat->Prop} {gs:Array Goroutine} {A2:Goroutine} {sl:Option (Nat×Nat)} {t:Trace} {q:Nat->Nat} {kp kt:Nat},kH P s SM dG acc F0 A2 w'->dJ P s kp kt false F0 (Grow FW w1 w') gs (parked A2 s.cs .select) g' w'->aV (Two s.W) P t gs q->dO s.W F0 (Grow FW w1 w') t->Reaches P (Fin P s SM SW (acc++vs)) (crowd gs w' sl) t)->kH P s SM dG acc F0 A2 w->dJ P s kp kt false F0 FW gs (parked A2 s.cs .select) b w->aV (Two s.W) P t gs q->dO s.W F0 FW t->Reaches P (Fin P s SM SW (acc++vs)) (crowd gs w sl) t from H _ w gs sl t q (Nat.le_refl _) hstep
  intro M;induction M using Nat.strongRecOn with
  |ind M ih =>
   intro w gs sl t q hM hstep hS h hL hT;rcases h.pick hL (nM _ _ _) (fK hrun) (.inr hrun) (λd=>tF (h.op.at d) (show dI (w.at d) s.th kt from h.ot)) (λd=>eD hrun _) sl with⟨d,sl',hx,_⟩|⟨d,sl',_,hst⟩|⟨d,sl',gs',q',i,fn,pos,es,hi0,kG,hm,hst,h',hL',hlt⟩
   ·cases hx
   ·have hs:=hstep (w.at d) (aQ.at FW w d)
    have hltW:s.W<gs.size:=(Array.getElem?_eq_some_iff.1 h.gW).1;cases hgo:stepG P false b (w.at d)with
    |go b' w' es =>
     rw[hgo,goes_go]at hs;obtain⟨hgu,_,hnext⟩:=hs;have hrunT:=runT_crowd_go (P:=P) (sl:=sl') (i:=s.W) h.gW (show stepG P (s.W == 0) b (w.at d)=_ by rw[show(s.W == 0)=false by simpa using h.w0];exact hgo);refine Reaches.step (hst.trans hrunT) ?_;have hopen:=((h.at d h.g0 h.gW rfl).work hgu (gs':=gs.setIfInBounds s.W b') (by rw[Array.getElem?_setIfInBounds_ne h.w0];exact h.g0) (by rw[Array.getElem?_setIfInBounds_self_of_lt hltW]) (by simp)).1;have hD:=(h.at d h.g0 h.gW rfl).work hgu (gs':=(gs.map (woken P b b' w')).setIfInBounds s.W b') (by rw[dN h.w0 h.g0,sJ (tF hopen.op (show dI w' s.th kt from hopen.ot))]) (jc hltW) (by simp);exact hnext (sl:=sl') ((hS.rely hp (aQ.at F0 w d)).rely hp hD.2) hD.1 (hL.oC (.inr rfl) hltW ofEvents_g) ((hT.grow (λ_ h=>h) λx hx=>.inl hx).work h.w0 hD.1.apart hgu.evs)
    |_=>rw[hgo]at hs;exact hs.elim
   ·refine Reaches.step hst ?_
    exact ih (sumTo s.size q') (by omega) (w.at d) gs' sl' _ q' (Nat.le_refl _) (λw1 h1=>hstep w1 ((aQ.at FW w d).trans h1)) (hS.rely hp (aQ.at F0 w d)) h' hL' (mW hT hi0 kG hm)
end
section
variable{P:Program}{s:Score}{SM SW:List Value->(Nat->Prop)->Goroutine->World->Prop}{dG:Value->Prop}
theorem JE(hp:Parts P s SM SW dG){acc vs:List Value}(hV:DN P s SM SW vs){FW:Nat->Prop}{b:Goroutine}{w0:World}(uI:b.status=.running)
 (hstep:∀w1,aQ FW w0 w1->(stepG P false b w1).goes λg' w' es=>mg FW w1 w' es/\aB P false (SW vs) (Grow FW w1 w') g' w'/\∀{F0:Nat->Prop} {gs:Array Goroutine} {a:Goroutine} {sl:Option (Nat×Nat)} {t:Trace} {q:Nat->Nat} {kp kt:Nat},aB P true (SM acc) F0 a w'->dJ P s kp kt false F0 (Grow FW w1 w') gs a g' w'->aV (Two s.W) P t gs q->dO s.W F0 (Grow FW w1 w') t->Reaches P (Fin P s SM SW (acc++vs)) (crowd gs w' sl) t)
 {F0:Nat->Prop} {a:Goroutine} {w:World} (hM:aB P true (SM acc) F0 a w):∀{gs:Array Goroutine} {sl:Option (Nat×Nat)} {t:Trace} {q:Nat->Nat} {kp kt:Nat},aQ FW w0 w->dJ P s kp kt false F0 FW gs a b w->aV (Two s.W) P t gs q->dO s.W F0 FW t->Reaches P (Fin P s SM SW (acc++vs)) (crowd gs w sl) t:=by
 have V6:∀{F0:Nat->Prop} {a:Goroutine} {w:World} {gs:Array Goroutine} {sl:Option (Nat×Nat)} {t:Trace} {q:Nat->Nat} {kp kt:Nat},aB P true (SM acc) F0 a w->a.status=.running->aQ FW w0 w->dJ P s kp kt false F0 FW gs a b w->aV (Two s.W) P t gs q->dO s.W F0 FW t->∃m ops,runT P (crowd gs w sl) s.W=(.next m,ops)/\Reaches P (Fin P s SM SW (acc++vs)) m (t++ops):=by
  intro F0 a w gs sl t q kp kt hM ha hrel h hL hT;have hs:=hstep w hrel;have hltW:s.W<gs.size:=(Array.getElem?_eq_some_iff.1 h.gW).1;cases hgo:stepG P false b w with
  |go b' w' es =>
   rw[hgo,goes_go]at hs;obtain⟨hgu,_,hnext⟩:=hs;have hrunT:=runT_crowd_go (P:=P) (sl:=sl) (i:=s.W) h.gW (show stepG P (s.W == 0) b w=_ by rw[show(s.W == 0)=false by simpa using h.w0];exact hgo);refine⟨_,_,hrunT,?_⟩;have hD:=h.work hgu (gs':=(gs.map (woken P b b' w')).setIfInBounds s.W b') (by rw[dN h.w0 h.g0,woken_run ha]) (jc hltW) (by simp);exact hnext (sl:=sl) (hM.rely hD.2) hD.1 (hL.oC (.inr rfl) hltW ofEvents_g) ((hT.grow (λ_ h=>h) λx hx=>.inl hx).work h.w0 hD.1.apart hgu.evs)
  |_=>rw[hgo]at hs;exact hs.elim
 have ab6:∀{w:World},aQ FW w0 w->aB P false (SW vs) FW b w:=λhrel=>aB.step uI λw1 h1=>goes_mono (hstep w1 (hrel.trans h1)) λ_ _ _ hx=>⟨hx.1,hx.2.1⟩
 refine @aB.induct _ _ _ _ _ _ (λF0 a w=>∀{gs:Array Goroutine} {sl:Option (Nat×Nat)} {t:Trace} {q:Nat->Nat} {kp kt:Nat},aQ FW w0 w->dJ P s kp kt false F0 FW gs a b w->aV (Two s.W) P t gs q->dO s.W F0 FW t->Reaches P (Fin P s SM SW (acc++vs)) (crowd gs w sl) t) hM ?_ ?_
 ·intro F0 a w hs gs sl t q kp kt
  suffices H:∀M w gs sl t q,sumTo s.size q<=M->(∀w1,aQ F0 w w1->SM acc F0 a w1)->aQ FW w0 w->dJ P s kp kt false F0 FW gs a b w->aV (Two s.W) P t gs q->dO s.W F0 FW t->Reaches P (Fin P s SM SW (acc++vs)) (crowd gs w sl) t from H _ w gs sl t q (Nat.le_refl _) hs
  intro M;induction M using Nat.strongRecOn with
  |ind M ih =>
   intro w gs sl t q hM hs hrel h hL hT;have ha:=QA hp (hs w (.refl _ _));rcases h.pick hL (fK ha) (fK uI) (.inl ha) (λd=>eD ha _) (λd=>eD uI _) sl with⟨d,sl',_,hst⟩|⟨d,sl',_,hst⟩|⟨d,sl',gs',q',i,fn,pos,es,hi0,kG,hm,hst,h',hL',hlt⟩
   ·obtain⟨A2,h1,h2⟩:=hp.EM (hs (w.at d) (aQ.at F0 w d))
    obtain⟨gs',ops,hr,rfl,hD',hL'⟩:=AZ hp (h.at d h.g0 h.gW rfl) hL h1 uI sl';refine Reaches.step (hst.trans hr) ?_;rw[Array.append_empty];exact QD hp hV (ab6 (hrel.trans (aQ.at FW w d))) h2 hD' hL' hT
   ·obtain⟨m,ops,hr,hR⟩:=V6 (sl:=sl') (aB.stop λw1 h1=>hs w1 ((aQ.at F0 w d).trans h1)) ha (hrel.trans (aQ.at FW w d)) (h.at d h.g0 h.gW rfl) hL hT
    exact Reaches.step (hst.trans hr) hR
   ·refine Reaches.step hst ?_
    exact ih (sumTo s.size q') (by omega) (w.at d) gs' sl' _ q' (Nat.le_refl _) (λw1 h1=>hs w1 ((aQ.at F0 w d).trans h1)) (hrel.trans (aQ.at FW w d)) h' hL' (mW hT hi0 kG hm)
 ·intro F0 a w hrun A7 gs sl t q kp kt
  suffices H:∀M w gs sl t q,sumTo s.size q<=M->(∀w1,aQ F0 w w1->(stepG P true a w1).goes λg' w' es=>mg F0 w1 w' es/\aB P true (SM acc) (Grow F0 w1 w') g' w'/\∀{gs:Array Goroutine} {sl:Option (Nat×Nat)} {t:Trace} {q:Nat->Nat} {kp kt:Nat},aQ FW w0 w'->dJ P s kp kt false (Grow F0 w1 w') FW gs g' b w'->aV (Two s.W) P t gs q->dO s.W (Grow F0 w1 w') FW t->Reaches P (Fin P s SM SW (acc++vs)) (crowd gs w' sl) t)->aQ FW w0 w->dJ P s kp kt false F0 FW gs a b w->aV (Two s.W) P t gs q->dO s.W F0 FW t->Reaches P (Fin P s SM SW (acc++vs)) (crowd gs w sl) t from H _ w gs sl t q (Nat.le_refl _) A7
  intro M;induction M using Nat.strongRecOn with
  |ind M ih =>
   intro w gs sl t q hM A7 hrel h hL hT;rcases h.pick hL (fK hrun) (fK uI) (.inl hrun) (λd=>eD hrun _) (λd=>eD uI _) sl with⟨d,sl',_,hst⟩|⟨d,sl',_,hst⟩|⟨d,sl',gs',q',i,fn,pos,es,hi0,kG,hm,hst,h',hL',hlt⟩
   ·have hs:=A7 (w.at d) (aQ.at F0 w d)
    have yV:0<gs.size:=(Array.getElem?_eq_some_iff.1 h.g0).1;cases hgo:stepG P true a (w.at d)with
    |go a' w' es =>
     rw[hgo,goes_go]at hs;obtain⟨hgu,_,hnext⟩:=hs;have hrunT:=runT_crowd_go (P:=P) (sl:=sl') (i:=0) h.g0 (show stepG P (0 == 0) a (w.at d)=_ from hgo);refine Reaches.step (hst.trans hrunT) ?_;have hD:=(h.at d h.g0 h.gW rfl).main hgu (gs':=(gs.map (woken P a a' w')).setIfInBounds 0 a') (jc yV) (by rw[dN (Ne.symm h.w0) h.gW,woken_run uI]) (by simp);exact hnext (sl:=sl') ((hrel.trans (aQ.at FW w d)).trans hD.2) hD.1 (hL.oC (.inl rfl) yV ofEvents_g) ((hT.grow (λx hx=>.inl hx) λ_ h=>h).main h.w0 hD.1.apart hgu.evs)
    |_=>rw[hgo]at hs;exact hs.elim
   ·obtain⟨m,ops,hr,hR⟩:=V6 (sl:=sl') (aB.step hrun λw1 h1=>goes_mono (A7 w1 ((aQ.at F0 w d).trans h1)) λ_ _ _ hx=>⟨hx.1,hx.2.1⟩) hrun (hrel.trans (aQ.at FW w d)) (h.at d h.g0 h.gW rfl) hL hT
    exact Reaches.step (hst.trans hr) hR
   ·refine Reaches.step hst ?_
    exact ih (sumTo s.size q') (by omega) (w.at d) gs' sl' _ q' (Nat.le_refl _) (λw1 h1=>A7 w1 ((aQ.at F0 w d).trans h1)) (hrel.trans (aQ.at FW w d)) h' hL' (mW hT hi0 kG hm)
theorem H5(hp:Parts P s SM SW dG){vs:List Value}(hV:DN P s SM SW vs):Claim P s SM SW vs:=by
 intro acc F0 FW gs a b w sl t q kp kt hM hW h hL hT;revert F0 gs a sl t q kp kt
 refine hW.induct (X:=λFW b w=>∀{F0:Nat->Prop} {gs:Array Goroutine} {a:Goroutine} {sl:Option (Nat×Nat)} {t:Trace} {q:Nat->Nat} {kp kt:Nat},aB P true (SM acc) F0 a w->dJ P s kp kt false F0 FW gs a b w->aV (Two s.W) P t gs q->dO s.W F0 FW t->Reaches P (Fin P s SM SW (acc++vs)) (crowd gs w sl) t) ?_ ?_
 ·intro FW b w hs F0 gs a sl t q kp kt hM h hL hT
  exact QC hp hV hM (hs w (.refl _ _)) h hL hT
 ·intro FW b w hrun hstep F0 gs a sl t q kp kt hM h hL hT
  exact JE hp hV hrun hstep hM (.refl _ _) h hL hT
theorem OD(hp:Parts P s SM SW dG):∀vs:List Value,Claim P s SM SW vs
 | []=>H5 hp λ_ _ e=>by cases e
 |v::vs=>H5 hp λv' vs' e=>by
  cases e
  exact OD hp vs
end
end
