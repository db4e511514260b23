/- Lemmas. -/
import Derived.Test.YtignemioillaiabGreatG07
namespace Go.Proofs.YtignemioillaiabGreat
set_option maxHeartbeats 8000000
set_option maxRecDepth 100000
open List
section
open Go Go.Conc
open Go.ConcN (sumTo upd sumTo_upd upd_ne upd_same)
section
variable{P:Program}{s:Score}{SM SW:List Value->(Nat->Prop)->Goroutine->World->Prop}{dE:Value->Prop}
def Claim(P:Program)(s:Score)(SM SW:List Value->(Nat->Prop)->Goroutine->World->Prop)(vs:List Value):Prop :=
 ∀{acc:List Value} {F0 FW:Nat->Prop} {gs:Array Goroutine} {a b:Goroutine} {w:World} {sl:Option (Nat×Nat)} {t:Trace} {q:Nat->Nat} {kp kt:Nat},aA P true (SM acc) F0 a w->aA P false (SW vs) FW b w->dH P s kp kt false F0 FW gs a b w->aU (Two s.W) P t gs q->dP s.W F0 FW t->Reaches P (Fin P s SM SW (acc++vs)) (crowd gs w sl) t
def EL(P:Program)(s:Score)(SM SW:List Value->(Nat->Prop)->Goroutine->World->Prop)(vs:List Value):Prop:=∀v vs',vs=v::vs'->Claim P s SM SW vs'
theorem fI{g:Goroutine}(h:g.status=.running):awake g:=awake_of (.inl h)
theorem oC(g:Goroutine)(cs:Array CommCase)(sh:CommShape):awake (parked g cs sh):=λt ht=>by cases ht
theorem eG{g:Goroutine}(h:g.status=.running)(w:World):g.again w=g:=again_running w (.inl h)
theorem F7(hp:Parts P s SM SW dE){vs:List Value}{F:Nat->Prop}{b:Goroutine}{w:World}(h:SW vs F b w):b.status=.running:=by
 cases vs with
 |nil=>exact(hp.close _ _ _ h).1
 |cons v vs=>exact(hp.send _ _ _ _ _ h).2.1
theorem SE(hp:Parts P s SM SW dE){acc:List Value}{F:Nat->Prop}{a:Goroutine}{w:World}(h:SM acc F a w):a.status=.running:=by
 obtain⟨A2,h1,_⟩:=hp.sel _ _ _ _ h;exact h1.run
theorem KV(acc:List Value)(v:Value)(vs:List Value):(acc++[v])++vs=acc++v::vs:=by simp
section
variable{acc vs:List Value}{F0 FW:Nat->Prop}{gs:Array Goroutine}{a b:Goroutine}{w:World}{t:Trace}{q:Nat->Nat}{kp kt:Nat}
theorem nG(hT:dP s.W F0 FW t){i:Nat}{fn:FuncId}{pos:String}{es:Array Event}(h0:i≠0)(hW:i≠s.W)(hm:∀e∈es,Event.mute e=true):dP s.W F0 FW (t++MemOp.ofEvents i fn pos es):=F3 hT h0 hW hm
end
theorem xC(hp:Parts P s SM SW dE){acc vs:List Value}(hV:EL P s SM SW vs):∀(M:Nat) {F0 FW T0 TW:Nat->Prop} {gs:Array Goroutine} {A2 b:Goroutine} {w:World} {sl:Option (Nat×Nat)} {t:Trace} {q:Nat->Nat} {kp kt:Nat},sumTo s.size q<=M->kP P s SM dE acc F0 A2 w->SW vs FW b w->dH P s kp kt false F0 FW gs (parked A2 s.cs .select) b w->aU (Two s.W) P t gs q->dP s.W T0 TW t->(∀x,T0 x->¬oz s TW x)->Reaches P (Fin P s SM SW (acc++vs)) (crowd gs w sl) t:=by
 intro M;induction M using Nat.strongRecOn with
 |ind M ih =>
  intro F0 FW T0 TW gs A2 b w sl t q kp kt hM hS hW h hL hT hd;have hrun:=F7 hp hW;rcases h.pick hL (oC _ _ _) (fI hrun) (.inr hrun) (λd=>uk (h.op.at d) (show dG (w.at d) s.th kt from h.ot)) (λd=>eG hrun _) sl with⟨d,sl',hx,_⟩|⟨d,sl',_,hst⟩|⟨d,sl',gs',q',i,fn,pos,es,hi0,kN,hm,hst,h',hL',hlt⟩
  .cases hx
  .have hD:=h.at d h.g0 h.gW rfl
   have hS':=hS.rely hp (aO.at F0 w d);have hW':=hp.kV _ _ _ _ _ hW (aO.at FW w d);cases vs with
   |nil =>
    obtain⟨gs',b',w',ops,q',pc,hr,hth,hD',hW2,hrel,hL',hT'⟩:=BR hp hD hL hT hd hW' sl';refine Reaches.step (hst.trans hr) ?_;have hag:(parked A2 s.cs .select).again w'={parked A2 s.cs .select with status:=.running}:=again_some_closed (k:=1) (z:=s.z1) (c:=s.th) rfl hth;rw[hag]at hD';obtain⟨a0,_,hat⟩:=hS'.at0;rw[Jc1];exact zN hp _ (Jb0 _) hat.tries (hS'.rely hp hrel) hW2 hD' hL' hT'
   |cons v vs' =>
    obtain⟨hv,_,B2,z,hb,hn⟩:=hp.send _ _ _ _ _ hW';obtain⟨gs',a',b',w',ops,hr,hD',hL',hT',hm',hw'⟩:=SB hp hD hL hT hS' hv hb hn sl';refine Reaches.step (hst.trans hr) ?_;rw[<-KV];exact hV v vs' rfl hm' hw' hD' hL' hT'
  .refine Reaches.step hst ?_
   exact ih (sumTo s.size q') (by omega) (Jb0 _) (hS.rely hp (aO.at F0 w d)) (hp.kV _ _ _ _ _ hW (aO.at FW w d)) h' hL' (nG hT hi0 kN hm) hd
theorem Ga(hp:Parts P s SM SW dE){acc vs:List Value}{v z:Value}(hV:Claim P s SM SW vs):∀(M:Nat) {F0 FW T0 TW:Nat->Prop} {gs:Array Goroutine} {a A2 B2:Goroutine} {w:World} {sl:Option (Nat×Nat)} {t:Trace} {q:Nat->Nat} {kp kt:Nat},sumTo s.size q<=M->iY P s.cs A2 a->kP P s SM dE acc F0 A2 w->dE v->aA P false (SW vs) FW (Go.Conc.served B2 undef) w->dH P s kp kt false F0 FW gs a (parked B2 #[scase s.pk v z] .send) w->aU (Two s.W) P t gs q->dP s.W T0 TW t->Reaches P (Fin P s SM SW (acc++v::vs)) (crowd gs w sl) t:=by
 intro M;induction M using Nat.strongRecOn with
 |ind M ih =>
  intro F0 FW T0 TW gs a A2 B2 w sl t q kp kt hM ha hS hv hn h hL hT;rcases h.pick hL (fI ha.run) (oC _ _ _) (.inl ha.run) (λd=>eG ha.run _) (λd=>again_send_open (h.op.at d)) sl with⟨d,sl',_,hst⟩|⟨d,sl',hx,_⟩|⟨d,sl',gs',q',i,fn,pos,es,hi0,kN,hm,hst,h',hL',hlt⟩
  .have hD:=h.at d h.g0 h.gW rfl
   obtain⟨gs',a',b',w',ops,hr,hD',hL',hT',hm',hw'⟩:=SC hp hD hL hT ha (hS.rely hp (aO.at F0 w d)) hv (hn.rely (aO.at FW w d)) sl';refine Reaches.step (hst.trans hr) ?_;rw[<-KV];exact hV hm' hw' hD' hL' hT'
  .cases hx
  .refine Reaches.step hst ?_
   exact ih (sumTo s.size q') (by omega) (Jb0 _) ha (hS.rely hp (aO.at F0 w d)) hv (hn.rely (aO.at FW w d)) h' hL' (nG hT hi0 kN hm)
theorem NR(hp:Parts P s SM SW dE){acc vs:List Value}{v z:Value}(hV:Claim P s SM SW vs){F0:Nat->Prop}{a:Goroutine}{w:World}(hM:aA P true (SM acc) F0 a w):∀{FW:Nat->Prop} {gs:Array Goroutine} {B2:Goroutine} {sl:Option (Nat×Nat)} {t:Trace} {q:Nat->Nat} {kp kt:Nat},dE v->aA P false (SW vs) FW (Go.Conc.served B2 undef) w->dH P s kp kt false F0 FW gs a (parked B2 #[scase s.pk v z] .send) w->aU (Two s.W) P t gs q->dP s.W F0 FW t->Reaches P (Fin P s SM SW (acc++v::vs)) (crowd gs w sl) t:=by
 refine hM.induct (X:=λF0 a w=>∀{FW:Nat->Prop} {gs:Array Goroutine} {B2:Goroutine} {sl:Option (Nat×Nat)} {t:Trace} {q:Nat->Nat} {kp kt:Nat},dE v->aA P false (SW vs) FW (Go.Conc.served B2 undef) w->dH P s kp kt false F0 FW gs a (parked B2 #[scase s.pk v z] .send) w->aU (Two s.W) P t gs q->dP s.W F0 FW t->Reaches P (Fin P s SM SW (acc++v::vs)) (crowd gs w sl) t) ?_ ?_
 .intro F0 a w hs FW gs B2 sl t q kp kt hv hn h hL hT
  obtain⟨A2,h1,h2⟩:=hp.F4 (hs w (.refl _ _));exact Ga hp hV _ (Jb0 _) h1 h2 hv hn h hL hT
 .intro F0 a w hrun hstep FW gs B2 sl t q kp kt
  suffices H:∀M w gs sl t q,sumTo s.size q<=M->(∀w1,aO F0 w w1->(stepG P true a w1).goes λg' w' es=>mG F0 w1 w' es/\aA P true (SM acc) (Grow F0 w1 w') g' w'/\∀{FW:Nat->Prop} {gs:Array Goroutine} {B2:Goroutine} {sl:Option (Nat×Nat)} {t:Trace} {q:Nat->Nat} {kp kt:Nat},dE v->aA P false (SW vs) FW (Go.Conc.served B2 undef) w'->dH P s kp kt false (Grow F0 w1 w') FW gs g' (parked B2 #[scase s.pk v z] .send) w'->aU (Two s.W) P t gs q->dP s.W (Grow F0 w1 w') FW t->Reaches P (Fin P s SM SW (acc++v::vs)) (crowd gs w' sl) t)->dE v->aA P false (SW vs) FW (Go.Conc.served B2 undef) w->dH P s kp kt false F0 FW gs a (parked B2 #[scase s.pk v z] .send) w->aU (Two s.W) P t gs q->dP s.W F0 FW t->Reaches P (Fin P s SM SW (acc++v::vs)) (crowd gs w sl) t from H _ w gs sl t q (Jb0 _) hstep
  intro M;induction M using Nat.strongRecOn with
  |ind M ih =>
   intro w gs sl t q hM hstep hv hn h hL hT;rcases h.pick hL (fI hrun) (oC _ _ _) (.inl hrun) (λd=>eG hrun _) (λd=>again_send_open (h.op.at d)) sl with⟨d,sl',_,hst⟩|⟨d,sl',hx,_⟩|⟨d,sl',gs',q',i,fn,pos,es,hi0,kN,hm,hst,h',hL',hlt⟩
   .have hs:=hstep (w.at d) (aO.at F0 w d)
    have zO:0<gs.size:=(Jbd.1 h.g0).1;cases hgo:stepG P true a (w.at d)with
    |go a' w' es =>
     rw[hgo,goes_go]at hs;obtain⟨hgu,_,hnext⟩:=hs;have hrunT:=runT_crowd_go (P:=P) (sl:=sl') (i:=0) h.g0 (show stepG P (0==0) a (w.at d)=_ from hgo);refine Reaches.step (hst.trans hrunT) ?_;have hpk:dG w' s.pk kp:=((h.at d h.g0 h.gW rfl).main hgu (gs':=gs.setIfInBounds 0 a') (by rw[Array.getElem?_setIfInBounds_self_of_lt zO]) (by rw[Array.getElem?_setIfInBounds_ne (Ne.symm h.w0)];exact h.gW) (by simp)).1.op;have hD:=(h.at d h.g0 h.gW rfl).main hgu (gs':=(gs.map (woken P a a' w')).setIfInBounds 0 a') (ji zO) (by rw[dO (Ne.symm h.w0) h.gW,tT (again_send_open hpk)]) (by simp);exact hnext (sl:=sl') hv ((hn.rely (aO.at FW w d)).rely hD.2) hD.1 (hL.pg (.inl rfl) zO ofEvents_g) ((hT.grow (λx hx=>.inl hx) λ_ h=>h).main h.w0 hD.1.apart hgu.evs)
    |_=>rw[hgo]at hs;exact hs.elim
   .cases hx
   .refine Reaches.step hst ?_
    exact ih (sumTo s.size q') (by omega) (w.at d) gs' sl' _ q' (Jb0 _) (λw1 h1=>hstep w1 ((aO.at F0 w d).trans h1)) hv (hn.rely (aO.at FW w d)) h' hL' (nG hT hi0 kN hm)
end
section
variable{P:Program}{s:Score}{SM SW:List Value->(Nat->Prop)->Goroutine->World->Prop}{dE:Value->Prop}
theorem Gb(_hp:Parts P s SM SW dE){F0 FW:Nat->Prop}{gs:Array Goroutine}{a b B2:Goroutine}{v z:Value}{w:World}{t:Trace}{q:Nat->Nat}{kp kt:Nat}(h:dH P s kp kt false F0 FW gs a b w)(hL:aU (Two s.W) P t gs q)(ha:a.status=.running)(hb:∀w,stepG P false b w=.comm B2 #[scase s.pk v z] true .send w #[])(sl:Option (Nat×Nat)) :
 ∃gs' ops,runT P (crowd gs w sl) s.W=(.next (crowd gs' w sl),ops)/\ops=#[]/\dH P s kp kt false F0 FW gs' a (parked B2 #[scase s.pk v z] .send) w/\aU (Two s.W) P t gs' q:=by
 have hltW:s.W<gs.size:=(Jbd.1 h.gW).1;have hpn:partners (gs.setIfInBounds s.W ph) s.pk false=[]:=uH hL λj x hj hne hx=>by
  rcases hj with rfl|rfl
  .rw[h.g0]at hx;cases hx
   exact offersAt_of_not_blocked (by rw[ha];exact nofun) _ _
  .exact absurd rfl hne
 have hr:=crowd_waits (P:=P) (sl:=sl) (i:=s.W) h.gW (show stepG P (s.W==0) b w=_ by rw[show(s.W==0)=false by simpa using h.w0];exact hb w) (λcc hcc=>by
  simp only[Jbq,Jb3,Jbw,Jbx]at hcc;subst hcc;exact ways_send_none h.op (Jb0 _) hpn)
 have hD:=h.at w.drawn (gs':=gs.setIfInBounds s.W (parked B2 #[scase s.pk v z] .send)) (a':=a) (b':=parked B2 #[scase s.pk v z] .send) (by rw[Array.getElem?_setIfInBounds_ne h.w0];exact h.g0) (by rw[Array.getElem?_setIfInBounds_self_of_lt hltW]) (by simp);refine⟨_,_,hr,rfl,hD,?_⟩;have:=hL.same (gs':=gs.setIfInBounds s.W (parked B2 #[scase s.pk v z] .send)) (by simp) (λk hk=>Array.getElem?_setIfInBounds_ne (λe=>hk (.inr e.symm))) Jk;rwa [Jby]at this
theorem BS(_hp:Parts P s SM SW dE){F0 FW:Nat->Prop}{gs:Array Goroutine}{a A2 b:Goroutine}{w:World}{t:Trace}{q:Nat->Nat}{kp kt:Nat}(h:dH P s kp kt false F0 FW gs a b w)(hL:aU (Two s.W) P t gs q)(ha:iY P s.cs A2 a)(hb:b.status=.running)(sl:Option (Nat×Nat)) :
 ∃gs' ops,runT P (crowd gs w sl) 0=(.next (crowd gs' w sl),ops)/\ops=#[]/\dH P s kp kt false F0 FW gs' (parked A2 s.cs .select) b w/\aU (Two s.W) P t gs' q:=by
 have hlt:0<gs.size:=(Jbd.1 h.g0).1;have hpn:∀c,partners (gs.setIfInBounds 0 ph) c true=[]:=λc=>uH hL λj x hj hne hx=>by
  rcases hj with rfl|rfl
  .exact absurd rfl hne
  .rw[h.gW]at hx;cases hx
   exact offersAt_of_not_blocked (by rw[hb];exact nofun) _ _
 have hr:=crowd_waits (P:=P) (sl:=sl) (i:=0) h.g0 (show stepG P (0==0) a w=_ from ha.KT w) (λcc hcc=>by
  simp only[Score.cs,dB,Jbq,Jb3,Jbw,Jbx]at hcc;rcases hcc with rfl|rfl
  .exact ways_recv_none h.op (hpn _)
  .exact ways_recv_none h.ot (hpn _))
 have hD:=h.at w.drawn (gs':=gs.setIfInBounds 0 (parked A2 s.cs .select)) (a':=parked A2 s.cs .select) (b':=b) (by rw[Array.getElem?_setIfInBounds_self_of_lt hlt]) (by rw[Array.getElem?_setIfInBounds_ne (Ne.symm h.w0)];exact h.gW) (by simp);refine⟨_,_,hr,rfl,hD,?_⟩;have:=hL.same (gs':=gs.setIfInBounds 0 (parked A2 s.cs .select)) (by simp) (λk hk=>Array.getElem?_setIfInBounds_ne (λe=>hk (.inl e.symm))) Jk;rwa [Jby]at this
theorem Gc(hp:Parts P s SM SW dE){acc vs:List Value}(hV:EL P s SM SW vs){F0 FW:Nat->Prop}{gs:Array Goroutine}{a b:Goroutine}{w:World}{sl:Option (Nat×Nat)}{t:Trace}{q:Nat->Nat}{kp kt:Nat}(ha:a.status=.running)(hM:aA P true (SM acc) F0 a w)(hW:SW vs FW b w)(h:dH P s kp kt false F0 FW gs a b w)(hL:aU (Two s.W) P t gs q)(hT:dP s.W F0 FW t) :
 ∃m ops,runT P (crowd gs w sl) s.W=(.next m,ops)/\Reaches P (Fin P s SM SW (acc++vs)) m (t++ops):=by
 cases vs with
 |nil =>
  obtain⟨gs',b',w',ops,q',pc,hr,hth,hD',hW2,hrel,hL',hT'⟩:=BR hp h hL hT h.Iw hW sl;rw[eG ha]at hD';refine⟨_,_,hr,?_⟩;rw[Jc1];exact NQ hp (hM.rely hrel) hW2 hD' hL' hT'
 |cons v vs' =>
  obtain⟨hv,_,B2,z,hb,hn⟩:=hp.send _ _ _ _ _ hW;obtain⟨gs',ops,hr,rfl,hD',hL'⟩:=Gb hp h hL ha hb sl;refine⟨_,_,hr,?_⟩;rw[Jby];exact NR hp (hV v vs' rfl) hM hv hn hD' hL' hT
theorem VP(hp:Parts P s SM SW dE){acc vs:List Value}(hV:EL P s SM SW vs):∀(M:Nat) {F0 FW:Nat->Prop} {gs:Array Goroutine} {a b:Goroutine} {w:World} {sl:Option (Nat×Nat)} {t:Trace} {q:Nat->Nat} {kp kt:Nat},sumTo s.size q<=M->(∀w1,aO F0 w w1->SM acc F0 a w1)->SW vs FW b w->dH P s kp kt false F0 FW gs a b w->aU (Two s.W) P t gs q->dP s.W F0 FW t->Reaches P (Fin P s SM SW (acc++vs)) (crowd gs w sl) t:=by
 intro M;induction M using Nat.strongRecOn with
 |ind M ih =>
  intro F0 FW gs a b w sl t q kp kt hM hS hW h hL hT;have hrun:=F7 hp hW;have ha:=SE hp (hS w (.refl _ _));rcases h.pick hL (fI ha) (fI hrun) (.inl ha) (λd=>eG ha _) (λd=>eG hrun _) sl with⟨d,sl',_,hst⟩|⟨d,sl',_,hst⟩|⟨d,sl',gs',q',i,fn,pos,es,hi0,kN,hm,hst,h',hL',hlt⟩
  .have hD:=h.at d h.g0 h.gW rfl
   obtain⟨A2,h1,h2⟩:=hp.F4 (hS (w.at d) (aO.at F0 w d));obtain⟨gs',ops,hr,rfl,hD',hL'⟩:=BS hp hD hL h1 hrun sl';refine Reaches.step (hst.trans hr) ?_;rw[Jby];exact xC hp hV _ (Jb0 _) h2 (hp.kV _ _ _ _ _ hW (aO.at FW w d)) hD' hL' hT h.Iw
  .obtain⟨m,ops,hr,hR⟩:=Gc hp hV (sl:=sl') ha (aA.stop λw1 h1=>hS w1 ((aO.at F0 w d).trans h1)) (hp.kV _ _ _ _ _ hW (aO.at FW w d)) (h.at d h.g0 h.gW rfl) hL hT
   exact Reaches.step (hst.trans hr) hR
  .refine Reaches.step hst ?_
   exact ih (sumTo s.size q') (by omega) (Jb0 _) (λw1 h1=>hS w1 ((aO.at F0 w d).trans h1)) (hp.kV _ _ _ _ _ hW (aO.at FW w d)) h' hL' (nG hT hi0 kN hm)
theorem SF(hp:Parts P s SM SW dE){acc vs:List Value}(hV:EL P s SM SW vs){F0:Nat->Prop}{a:Goroutine}{w:World}(hM:aA P true (SM acc) F0 a w):∀{FW:Nat->Prop} {gs:Array Goroutine} {b:Goroutine} {sl:Option (Nat×Nat)} {t:Trace} {q:Nat->Nat} {kp kt:Nat},SW vs FW b w->dH P s kp kt false F0 FW gs a b w->aU (Two s.W) P t gs q->dP s.W F0 FW t->Reaches P (Fin P s SM SW (acc++vs)) (crowd gs w sl) t:=by
 refine hM.induct (X:=λF0 a w=>∀{FW:Nat->Prop} {gs:Array Goroutine} {b:Goroutine} {sl:Option (Nat×Nat)} {t:Trace} {q:Nat->Nat} {kp kt:Nat},SW vs FW b w->dH P s kp kt false F0 FW gs a b w->aU (Two s.W) P t gs q->dP s.W F0 FW t->Reaches P (Fin P s SM SW (acc++vs)) (crowd gs w sl) t) ?_ ?_
 .intro F0 a w hs FW gs b sl t q kp kt hW h hL hT
  exact VP hp hV _ (Jb0 _) hs hW h hL hT
 .intro F0 a w hrun hstep FW gs b sl t q kp kt
  suffices H:∀M w gs sl t q,sumTo s.size q<=M->(∀w1,aO F0 w w1->(stepG P true a w1).goes λg' w' es=>mG F0 w1 w' es/\aA P true (SM acc) (Grow F0 w1 w') g' w'/\∀{FW:Nat->Prop} {gs:Array Goroutine} {b:Goroutine} {sl:Option (Nat×Nat)} {t:Trace} {q:Nat->Nat} {kp kt:Nat},SW vs FW b w'->dH P s kp kt false (Grow F0 w1 w') FW gs g' b w'->aU (Two s.W) P t gs q->dP s.W (Grow F0 w1 w') FW t->Reaches P (Fin P s SM SW (acc++vs)) (crowd gs w' sl) t)->SW vs FW b w->dH P s kp kt false F0 FW gs a b w->aU (Two s.W) P t gs q->dP s.W F0 FW t->Reaches P (Fin P s SM SW (acc++vs)) (crowd gs w sl) t from H _ w gs sl t q (Jb0 _) hstep
  intro M;induction M using Nat.strongRecOn with
  |ind M ih =>
   intro w gs sl t q hM hstep hW h hL hT;have vC:=F7 hp hW;rcases h.pick hL (fI hrun) (fI vC) (.inl hrun) (λd=>eG hrun _) (λd=>eG vC _) sl with⟨d,sl',_,hst⟩|⟨d,sl',_,hst⟩|⟨d,sl',gs',q',i,fn,pos,es,hi0,kN,hm,hst,h',hL',hlt⟩
   .have hs:=hstep (w.at d) (aO.at F0 w d)
    have zO:0<gs.size:=(Jbd.1 h.g0).1;cases hgo:stepG P true a (w.at d)with
    |go a' w' es =>
     rw[hgo,goes_go]at hs;obtain⟨hgu,_,hnext⟩:=hs;have hrunT:=runT_crowd_go (P:=P) (sl:=sl') (i:=0) h.g0 (show stepG P (0==0) a (w.at d)=_ from hgo);refine Reaches.step (hst.trans hrunT) ?_;have hD:=(h.at d h.g0 h.gW rfl).main hgu (gs':=(gs.map (woken P a a' w')).setIfInBounds 0 a') (ji zO) (by rw[dO (Ne.symm h.w0) h.gW,woken_run vC]) (by simp);exact hnext (sl:=sl') (hp.kV _ _ _ _ _ (hp.kV _ _ _ _ _ hW (aO.at FW w d)) hD.2) hD.1 (hL.pg (.inl rfl) zO ofEvents_g) ((hT.grow (λx hx=>.inl hx) λ_ h=>h).main h.w0 hD.1.apart hgu.evs)
    |_=>rw[hgo]at hs;exact hs.elim
   .obtain⟨m,ops,hr,hR⟩:=Gc hp hV (sl:=sl') hrun (aA.step hrun λw1 h1=>goes_mono (hstep w1 ((aO.at F0 w d).trans h1)) λ_ _ _ hx=>⟨hx.1,hx.2.1⟩) (hp.kV _ _ _ _ _ hW (aO.at FW w d)) (h.at d h.g0 h.gW rfl) hL hT
    exact Reaches.step (hst.trans hr) hR
   .refine Reaches.step hst ?_
    exact ih (sumTo s.size q') (by omega) (w.at d) gs' sl' _ q' (Jb0 _) (λw1 h1=>hstep w1 ((aO.at F0 w d).trans h1)) (hp.kV _ _ _ _ _ hW (aO.at FW w d)) h' hL' (nG hT hi0 kN hm)
theorem SG(hp:Parts P s SM SW dE){acc vs:List Value}(hV:EL P s SM SW vs){FW:Nat->Prop}{b:Goroutine}{w:World}(hW:aA P false (SW vs) FW b w):∀{F0:Nat->Prop} {gs:Array Goroutine} {A2:Goroutine} {sl:Option (Nat×Nat)} {t:Trace} {q:Nat->Nat} {kp kt:Nat},kP P s SM dE acc F0 A2 w->dH P s kp kt false F0 FW gs (parked A2 s.cs .select) b w->aU (Two s.W) P t gs q->dP s.W F0 FW t->Reaches P (Fin P s SM SW (acc++vs)) (crowd gs w sl) t:=by
 refine hW.induct (X:=λFW b w=>∀{F0:Nat->Prop} {gs:Array Goroutine} {A2:Goroutine} {sl:Option (Nat×Nat)} {t:Trace} {q:Nat->Nat} {kp kt:Nat},kP P s SM dE acc F0 A2 w->dH P s kp kt false F0 FW gs (parked A2 s.cs .select) b w->aU (Two s.W) P t gs q->dP s.W F0 FW t->Reaches P (Fin P s SM SW (acc++vs)) (crowd gs w sl) t) ?_ ?_
 .intro FW b w hs F0 gs A2 sl t q kp kt hS h hL hT
  exact xC hp hV _ (Jb0 _) hS (hs w (.refl _ _)) h hL hT h.Iw
 .intro FW b w hrun hstep F0 gs A2 sl t q kp kt
  suffices H:∀M w gs sl t q,sumTo s.size q<=M->(∀w1,aO FW w w1->(stepG P false b w1).goes λg' w' es=>mG FW w1 w' es/\aA P false (SW vs) (Grow FW w1 w') g' w'/\∀{F0:Nat->Prop} {gs:Array Goroutine} {A2:Goroutine} {sl:Option (Nat×Nat)} {t:Trace} {q:Nat->Nat} {kp kt:Nat},kP P s SM dE acc F0 A2 w'->dH P s kp kt false F0 (Grow FW w1 w') gs (parked A2 s.cs .select) g' w'->aU (Two s.W) P t gs q->dP s.W F0 (Grow FW w1 w') t->Reaches P (Fin P s SM SW (acc++vs)) (crowd gs w' sl) t)->kP P s SM dE acc F0 A2 w->dH P s kp kt false F0 FW gs (parked A2 s.cs .select) b w->aU (Two s.W) P t gs q->dP s.W F0 FW t->Reaches P (Fin P s SM SW (acc++vs)) (crowd gs w sl) t from H _ w gs sl t q (Jb0 _) hstep
  intro M;induction M using Nat.strongRecOn with
  |ind M ih =>
   intro w gs sl t q hM hstep hS h hL hT;rcases h.pick hL (oC _ _ _) (fI hrun) (.inr hrun) (λd=>uk (h.op.at d) (show dG (w.at d) s.th kt from h.ot)) (λd=>eG hrun _) sl with⟨d,sl',hx,_⟩|⟨d,sl',_,hst⟩|⟨d,sl',gs',q',i,fn,pos,es,hi0,kN,hm,hst,h',hL',hlt⟩
   .cases hx
   .have hs:=hstep (w.at d) (aO.at FW w d)
    have hltW:s.W<gs.size:=(Jbd.1 h.gW).1;cases hgo:stepG P false b (w.at d)with
    |go b' w' es =>
     rw[hgo,goes_go]at hs;obtain⟨hgu,_,hnext⟩:=hs;have hrunT:=runT_crowd_go (P:=P) (sl:=sl') (i:=s.W) h.gW (show stepG P (s.W==0) b (w.at d)=_ by rw[show(s.W==0)=false by simpa using h.w0];exact hgo);refine Reaches.step (hst.trans hrunT) ?_;have hopen:=((h.at d h.g0 h.gW rfl).work hgu (gs':=gs.setIfInBounds s.W b') (by rw[Array.getElem?_setIfInBounds_ne h.w0];exact h.g0) (by rw[Array.getElem?_setIfInBounds_self_of_lt hltW]) (by simp)).1;have hD:=(h.at d h.g0 h.gW rfl).work hgu (gs':=(gs.map (woken P b b' w')).setIfInBounds s.W b') (by rw[dO h.w0 h.g0,tT (uk hopen.op (show dG w' s.th kt from hopen.ot))]) (ji hltW) (by simp);exact hnext (sl:=sl') ((hS.rely hp (aO.at F0 w d)).rely hp hD.2) hD.1 (hL.pg (.inr rfl) hltW ofEvents_g) ((hT.grow (λ_ h=>h) λx hx=>.inl hx).work h.w0 hD.1.apart hgu.evs)
    |_=>rw[hgo]at hs;exact hs.elim
   .refine Reaches.step hst ?_
    exact ih (sumTo s.size q') (by omega) (w.at d) gs' sl' _ q' (Jb0 _) (λw1 h1=>hstep w1 ((aO.at FW w d).trans h1)) (hS.rely hp (aO.at F0 w d)) h' hL' (nG hT hi0 kN hm)
end
section
variable{P:Program}{s:Score}{SM SW:List Value->(Nat->Prop)->Goroutine->World->Prop}{dE:Value->Prop}
theorem KW(hp:Parts P s SM SW dE){acc vs:List Value}(hV:EL P s SM SW vs){FW:Nat->Prop}{b:Goroutine}{w0:World}(vC:b.status=.running)
 (hstep:∀w1,aO FW w0 w1->(stepG P false b w1).goes λg' w' es=>mG FW w1 w' es/\aA P false (SW vs) (Grow FW w1 w') g' w'/\∀{F0:Nat->Prop} {gs:Array Goroutine} {a:Goroutine} {sl:Option (Nat×Nat)} {t:Trace} {q:Nat->Nat} {kp kt:Nat},aA P true (SM acc) F0 a w'->dH P s kp kt false F0 (Grow FW w1 w') gs a g' w'->aU (Two s.W) P t gs q->dP s.W F0 (Grow FW w1 w') t->Reaches P (Fin P s SM SW (acc++vs)) (crowd gs w' sl) t)
 {F0:Nat->Prop} {a:Goroutine} {w:World} (hM:aA P true (SM acc) F0 a w):∀{gs:Array Goroutine} {sl:Option (Nat×Nat)} {t:Trace} {q:Nat->Nat} {kp kt:Nat},aO FW w0 w->dH P s kp kt false F0 FW gs a b w->aU (Two s.W) P t gs q->dP s.W F0 FW t->Reaches P (Fin P s SM SW (acc++vs)) (crowd gs w sl) t:=by
 have X5:∀{F0:Nat->Prop} {a:Goroutine} {w:World} {gs:Array Goroutine} {sl:Option (Nat×Nat)} {t:Trace} {q:Nat->Nat} {kp kt:Nat},aA P true (SM acc) F0 a w->a.status=.running->aO FW w0 w->dH P s kp kt false F0 FW gs a b w->aU (Two s.W) P t gs q->dP s.W F0 FW t->∃m ops,runT P (crowd gs w sl) s.W=(.next m,ops)/\Reaches P (Fin P s SM SW (acc++vs)) m (t++ops):=by
  intro F0 a w gs sl t q kp kt hM ha hrel h hL hT;have hs:=hstep w hrel;have hltW:s.W<gs.size:=(Jbd.1 h.gW).1;cases hgo:stepG P false b w with
  |go b' w' es =>
   rw[hgo,goes_go]at hs;obtain⟨hgu,_,hnext⟩:=hs;have hrunT:=runT_crowd_go (P:=P) (sl:=sl) (i:=s.W) h.gW (show stepG P (s.W==0) b w=_ by rw[show(s.W==0)=false by simpa using h.w0];exact hgo);refine⟨_,_,hrunT,?_⟩;have hD:=h.work hgu (gs':=(gs.map (woken P b b' w')).setIfInBounds s.W b') (by rw[dO h.w0 h.g0,woken_run ha]) (ji hltW) (by simp);exact hnext (sl:=sl) (hM.rely hD.2) hD.1 (hL.pg (.inr rfl) hltW ofEvents_g) ((hT.grow (λ_ h=>h) λx hx=>.inl hx).work h.w0 hD.1.apart hgu.evs)
  |_=>rw[hgo]at hs;exact hs.elim
 have aeh:∀{w:World},aO FW w0 w->aA P false (SW vs) FW b w:=λhrel=>aA.step vC λw1 h1=>goes_mono (hstep w1 (hrel.trans h1)) λ_ _ _ hx=>⟨hx.1,hx.2.1⟩
 refine @aA.induct _ _ _ _ _ _ (λF0 a w=>∀{gs:Array Goroutine} {sl:Option (Nat×Nat)} {t:Trace} {q:Nat->Nat} {kp kt:Nat},aO FW w0 w->dH P s kp kt false F0 FW gs a b w->aU (Two s.W) P t gs q->dP s.W F0 FW t->Reaches P (Fin P s SM SW (acc++vs)) (crowd gs w sl) t) hM ?_ ?_
 .intro F0 a w hs gs sl t q kp kt
  suffices H:∀M w gs sl t q,sumTo s.size q<=M->(∀w1,aO F0 w w1->SM acc F0 a w1)->aO FW w0 w->dH P s kp kt false F0 FW gs a b w->aU (Two s.W) P t gs q->dP s.W F0 FW t->Reaches P (Fin P s SM SW (acc++vs)) (crowd gs w sl) t from H _ w gs sl t q (Jb0 _) hs
  intro M;induction M using Nat.strongRecOn with
  |ind M ih =>
   intro w gs sl t q hM hs hrel h hL hT;have ha:=SE hp (hs w (.refl _ _));rcases h.pick hL (fI ha) (fI vC) (.inl ha) (λd=>eG ha _) (λd=>eG vC _) sl with⟨d,sl',_,hst⟩|⟨d,sl',_,hst⟩|⟨d,sl',gs',q',i,fn,pos,es,hi0,kN,hm,hst,h',hL',hlt⟩
   .obtain⟨A2,h1,h2⟩:=hp.F4 (hs (w.at d) (aO.at F0 w d))
    obtain⟨gs',ops,hr,rfl,hD',hL'⟩:=BS hp (h.at d h.g0 h.gW rfl) hL h1 vC sl';refine Reaches.step (hst.trans hr) ?_;rw[Jby];exact SG hp hV (aeh (hrel.trans (aO.at FW w d))) h2 hD' hL' hT
   .obtain⟨m,ops,hr,hR⟩:=X5 (sl:=sl') (aA.stop λw1 h1=>hs w1 ((aO.at F0 w d).trans h1)) ha (hrel.trans (aO.at FW w d)) (h.at d h.g0 h.gW rfl) hL hT
    exact Reaches.step (hst.trans hr) hR
   .refine Reaches.step hst ?_
    exact ih (sumTo s.size q') (by omega) (w.at d) gs' sl' _ q' (Jb0 _) (λw1 h1=>hs w1 ((aO.at F0 w d).trans h1)) (hrel.trans (aO.at FW w d)) h' hL' (nG hT hi0 kN hm)
 .intro F0 a w hrun BU gs sl t q kp kt
  suffices H:∀M w gs sl t q,sumTo s.size q<=M->(∀w1,aO F0 w w1->(stepG P true a w1).goes λg' w' es=>mG F0 w1 w' es/\aA P true (SM acc) (Grow F0 w1 w') g' w'/\∀{gs:Array Goroutine} {sl:Option (Nat×Nat)} {t:Trace} {q:Nat->Nat} {kp kt:Nat},aO FW w0 w'->dH P s kp kt false (Grow F0 w1 w') FW gs g' b w'->aU (Two s.W) P t gs q->dP s.W (Grow F0 w1 w') FW t->Reaches P (Fin P s SM SW (acc++vs)) (crowd gs w' sl) t)->aO FW w0 w->dH P s kp kt false F0 FW gs a b w->aU (Two s.W) P t gs q->dP s.W F0 FW t->Reaches P (Fin P s SM SW (acc++vs)) (crowd gs w sl) t from H _ w gs sl t q (Jb0 _) BU
  intro M;induction M using Nat.strongRecOn with
  |ind M ih =>
   intro w gs sl t q hM BU hrel h hL hT;rcases h.pick hL (fI hrun) (fI vC) (.inl hrun) (λd=>eG hrun _) (λd=>eG vC _) sl with⟨d,sl',_,hst⟩|⟨d,sl',_,hst⟩|⟨d,sl',gs',q',i,fn,pos,es,hi0,kN,hm,hst,h',hL',hlt⟩
   .have hs:=BU (w.at d) (aO.at F0 w d)
    have zO:0<gs.size:=(Jbd.1 h.g0).1;cases hgo:stepG P true a (w.at d)with
    |go a' w' es =>
     rw[hgo,goes_go]at hs;obtain⟨hgu,_,hnext⟩:=hs;have hrunT:=runT_crowd_go (P:=P) (sl:=sl') (i:=0) h.g0 (show stepG P (0==0) a (w.at d)=_ from hgo);refine Reaches.step (hst.trans hrunT) ?_;have hD:=(h.at d h.g0 h.gW rfl).main hgu (gs':=(gs.map (woken P a a' w')).setIfInBounds 0 a') (ji zO) (by rw[dO (Ne.symm h.w0) h.gW,woken_run vC]) (by simp);exact hnext (sl:=sl') ((hrel.trans (aO.at FW w d)).trans hD.2) hD.1 (hL.pg (.inl rfl) zO ofEvents_g) ((hT.grow (λx hx=>.inl hx) λ_ h=>h).main h.w0 hD.1.apart hgu.evs)
    |_=>rw[hgo]at hs;exact hs.elim
   .obtain⟨m,ops,hr,hR⟩:=X5 (sl:=sl') (aA.step hrun λw1 h1=>goes_mono (BU w1 ((aO.at F0 w d).trans h1)) λ_ _ _ hx=>⟨hx.1,hx.2.1⟩) hrun (hrel.trans (aO.at FW w d)) (h.at d h.g0 h.gW rfl) hL hT
    exact Reaches.step (hst.trans hr) hR
   .refine Reaches.step hst ?_
    exact ih (sumTo s.size q') (by omega) (w.at d) gs' sl' _ q' (Jb0 _) (λw1 h1=>BU w1 ((aO.at F0 w d).trans h1)) (hrel.trans (aO.at FW w d)) h' hL' (nG hT hi0 kN hm)
theorem Jm(hp:Parts P s SM SW dE){vs:List Value}(hV:EL P s SM SW vs):Claim P s SM SW vs:=by
 intro acc F0 FW gs a b w sl t q kp kt hM hW h hL hT;revert F0 gs a sl t q kp kt
 refine hW.induct (X:=λFW b w=>∀{F0:Nat->Prop} {gs:Array Goroutine} {a:Goroutine} {sl:Option (Nat×Nat)} {t:Trace} {q:Nat->Nat} {kp kt:Nat},aA P true (SM acc) F0 a w->dH P s kp kt false F0 FW gs a b w->aU (Two s.W) P t gs q->dP s.W F0 FW t->Reaches P (Fin P s SM SW (acc++vs)) (crowd gs w sl) t) ?_ ?_
 .intro FW b w hs F0 gs a sl t q kp kt hM h hL hT
  exact SF hp hV hM (hs w (.refl _ _)) h hL hT
 .intro FW b w hrun hstep F0 gs a sl t q kp kt hM h hL hT
  exact KW hp hV hrun hstep hM (.refl _ _) h hL hT
theorem Ql(hp:Parts P s SM SW dE):∀vs:List Value,Claim P s SM SW vs
 | []=>Jm hp λ_ _ e=>by cases e
 |v::vs=>Jm hp λv' vs' e=>by
  cases e
  exact Ql hp vs
end
end
