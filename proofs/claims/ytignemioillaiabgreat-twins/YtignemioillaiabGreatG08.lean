/- The duet, whole. -/
import Derived.Test.YtignemioillaiabGreatG07
namespace Go.Proofs.YtignemioillaiabGreat
set_option maxHeartbeats 8000000
set_option maxRecDepth 100000
section
open Go Go.Conc
open Go.ConcN (sumTo upd sumTo_upd upd_ne upd_same)
section
variable {P:Program} {s:Score} {SM SW:List Value→(Nat→Prop)→Goroutine→World→Prop} {dA:Value→Prop}
def Claim (P:Program) (s:Score) (SM SW:List Value→(Nat→Prop)→Goroutine→World→Prop) (vs:List Value):Prop :=
 ∀ {acc:List Value} {F0 FW:Nat→Prop} {gs:Array Goroutine} {a b:Goroutine} {w:World} {sl:Option (Nat×Nat)} {t:Trace} {q:Nat→Nat} {kp kt:Nat},aH P true (SM acc) F0 a w→aH P false (SW vs) FW b w→dC P s kp kt false F0 FW gs a b w→aX (Two s.W) P t gs q→dH s.W F0 FW t→Reaches P (Fin P s SM SW (acc++vs)) (crowd gs w sl) t
def Cr (P:Program) (s:Score) (SM SW:List Value→(Nat→Prop)→Goroutine→World→Prop) (vs:List Value):Prop:=∀ v vs',vs=v::vs'→Claim P s SM SW vs'
theorem eO {g:Goroutine} (h:g.status=.running):awake g:=awake_of (.inl h)
theorem mH (g:Goroutine) (cs:Array CommCase) (sh:CommShape):awake (parked g cs sh):=fun t ht=>by cases ht
theorem dS {g:Goroutine} (h:g.status=.running) (w:World):g.again w=g:=again_running w (.inl h)
theorem DC (hp:Parts P s SM SW dA) {vs:List Value} {F:Nat→Prop} {b:Goroutine} {w:World} (h:SW vs F b w):b.status=.running:=by
 cases vs with
 | nil=>exact (hp.close _ _ _ h).1
 | cons v vs=>exact (hp.send _ _ _ _ _ h).2.1
theorem OT (hp:Parts P s SM SW dA) {acc:List Value} {F:Nat→Prop} {a:Goroutine} {w:World} (h:SM acc F a w):a.status=.running:=by
 obtain ⟨A2,h1,_⟩:=hp.sel _ _ _ _ h;exact h1.run
theorem H6 (acc:List Value) (v:Value) (vs:List Value):(acc++[v])++vs=acc++v::vs:=by simp
section
variable {acc vs:List Value} {F0 FW:Nat→Prop} {gs:Array Goroutine} {a b:Goroutine} {w:World} {t:Trace} {q:Nat→Nat} {kp kt:Nat}
theorem lS (hT:dH s.W F0 FW t) {i:Nat} {fn:FuncId} {pos:String} {es:Array Event} (h0:i≠0) (hW:i≠s.W) (hm:∀ e∈es,Event.mute e=true):dH s.W F0 FW (t++MemOp.ofEvents i fn pos es):=Dy hT h0 hW hm
end
theorem vC (hp:Parts P s SM SW dA) {acc vs:List Value} (hV:Cr P s SM SW vs):∀ (M:Nat) {F0 FW T0 TW:Nat→Prop} {gs:Array Goroutine} {A2 b:Goroutine} {w:World} {sl:Option (Nat×Nat)} {t:Trace} {q:Nat→Nat} {kp kt:Nat},sumTo s.size q≤M→jQ P s SM dA acc F0 A2 w→SW vs FW b w→dC P s kp kt false F0 FW gs (parked A2 s.cs .select) b w→aX (Two s.W) P t gs q→dH s.W T0 TW t→(∀ x,T0 x→¬ mG s TW x)→Reaches P (Fin P s SM SW (acc++vs)) (crowd gs w sl) t:=by
 intro M;induction M using Nat.strongRecOn with
 | ind M ih =>
  intro F0 FW T0 TW gs A2 b w sl t q kp kt hM hS hW h hL hT hd;have hrun:=DC hp hW;rcases h.pick hL (mH _ _ _) (eO hrun) (.inr hrun) (fun d=>rD (h.op.at d) (show dB (w.at d) s.th kt from h.ot)) (fun d=>dS hrun _) sl with ⟨d,sl',hx,_⟩ | ⟨d,sl',_,hst⟩ | ⟨d,sl',gs',q',i,fn,pos,es,hi0,jP,hm,hst,h',hL',hlt⟩
  ·cases hx
  ·have hD:=h.at d h.g0 h.gW rfl
   have hS':=hS.rely hp (aS.at F0 w d);have hW':=hp.jX _ _ _ _ _ hW (aS.at FW w d);cases vs with
   | nil =>
    obtain ⟨gs',b',w',ops,q',pc,hr,hth,hD',hW2,hrel,hL',hT'⟩:=zI hp hD hL hT hd hW' sl';refine Reaches.step (hst.trans hr) ?_;have hag:(parked A2 s.cs .select).again w'={ parked A2 s.cs .select with status:=.running }:=again_some_closed (k:=1) (z:=s.z1) (c:=s.th) rfl hth;rw [hag] at hD';obtain ⟨a0,_,hat⟩:=hS'.Xk;rw [List.append_nil];exact xL hp _ (Nat.le_refl _) hat.tries (hS'.rely hp hrel) hW2 hD' hL' hT'
   | cons v vs' =>
    obtain ⟨hv,_,B2,z,hb,hn⟩:=hp.send _ _ _ _ _ hW';obtain ⟨gs',a',b',w',ops,hr,hD',hL',hT',hm',hw'⟩:=OP hp hD hL hT hS' hv hb hn sl';refine Reaches.step (hst.trans hr) ?_;rw [← H6];exact hV v vs' rfl hm' hw' hD' hL' hT'
  ·refine Reaches.step hst ?_
   exact ih (sumTo s.size q') (by omega) (Nat.le_refl _) (hS.rely hp (aS.at F0 w d)) (hp.jX _ _ _ _ _ hW (aS.at FW w d)) h' hL' (lS hT hi0 jP hm) hd
theorem DD (hp:Parts P s SM SW dA) {acc vs:List Value} {v z:Value} (hV:Claim P s SM SW vs):∀ (M:Nat) {F0 FW T0 TW:Nat→Prop} {gs:Array Goroutine} {a A2 B2:Goroutine} {w:World} {sl:Option (Nat×Nat)} {t:Trace} {q:Nat→Nat} {kp kt:Nat},sumTo s.size q≤M→iw P s.cs A2 a→jQ P s SM dA acc F0 A2 w→dA v→aH P false (SW vs) FW (Go.Conc.served B2 undef) w→dC P s kp kt false F0 FW gs a (parked B2 #[scase s.pk v z] .send) w→aX (Two s.W) P t gs q→dH s.W T0 TW t→Reaches P (Fin P s SM SW (acc++v::vs)) (crowd gs w sl) t:=by
 intro M;induction M using Nat.strongRecOn with
 | ind M ih =>
  intro F0 FW T0 TW gs a A2 B2 w sl t q kp kt hM ha hS hv hn h hL hT;rcases h.pick hL (eO ha.run) (mH _ _ _) (.inl ha.run) (fun d=>dS ha.run _) (fun d=>again_send_open (h.op.at d)) sl with ⟨d,sl',_,hst⟩ | ⟨d,sl',hx,_⟩ | ⟨d,sl',gs',q',i,fn,pos,es,hi0,jP,hm,hst,h',hL',hlt⟩
  ·have hD:=h.at d h.g0 h.gW rfl
   obtain ⟨gs',a',b',w',ops,hr,hD',hL',hT',hm',hw'⟩:=OQ hp hD hL hT ha (hS.rely hp (aS.at F0 w d)) hv (hn.rely (aS.at FW w d)) sl';refine Reaches.step (hst.trans hr) ?_;rw [← H6];exact hV hm' hw' hD' hL' hT'
  ·cases hx
  ·refine Reaches.step hst ?_
   exact ih (sumTo s.size q') (by omega) (Nat.le_refl _) ha (hS.rely hp (aS.at F0 w d)) hv (hn.rely (aS.at FW w d)) h' hL' (lS hT hi0 jP hm)
theorem Kj (hp:Parts P s SM SW dA) {acc vs:List Value} {v z:Value} (hV:Claim P s SM SW vs) {F0:Nat→Prop} {a:Goroutine} {w:World} (hM:aH P true (SM acc) F0 a w):∀ {FW:Nat→Prop} {gs:Array Goroutine} {B2:Goroutine} {sl:Option (Nat×Nat)} {t:Trace} {q:Nat→Nat} {kp kt:Nat},dA v→aH P false (SW vs) FW (Go.Conc.served B2 undef) w→dC P s kp kt false F0 FW gs a (parked B2 #[scase s.pk v z] .send) w→aX (Two s.W) P t gs q→dH s.W F0 FW t→Reaches P (Fin P s SM SW (acc++v::vs)) (crowd gs w sl) t:=by
 refine hM.induct (X:=fun F0 a w=>∀ {FW:Nat→Prop} {gs:Array Goroutine} {B2:Goroutine} {sl:Option (Nat×Nat)} {t:Trace} {q:Nat→Nat} {kp kt:Nat},dA v→aH P false (SW vs) FW (Go.Conc.served B2 undef) w→dC P s kp kt false F0 FW gs a (parked B2 #[scase s.pk v z] .send) w→aX (Two s.W) P t gs q→dH s.W F0 FW t→Reaches P (Fin P s SM SW (acc++v::vs)) (crowd gs w sl) t) ?_ ?_
 ·intro F0 a w hs FW gs B2 sl t q kp kt hv hn h hL hT
  obtain ⟨A2,h1,h2⟩:=hp.Dz (hs w (.refl _ _));exact DD hp hV _ (Nat.le_refl _) h1 h2 hv hn h hL hT
 ·intro F0 a w hrun hstep FW gs B2 sl t q kp kt
  suffices H:∀ M w gs sl t q,sumTo s.size q≤M→(∀ w1,aS F0 w w1→(stepG P true a w1).goes fun g' w' es=>kU F0 w1 w' es∧aH P true (SM acc) (Grow F0 w1 w') g' w'∧∀ {FW:Nat→Prop} {gs:Array Goroutine} {B2:Goroutine} {sl:Option (Nat×Nat)} {t:Trace} {q:Nat→Nat} {kp kt:Nat},dA v→aH P false (SW vs) FW (Go.Conc.served B2 undef) w'→dC P s kp kt false (Grow F0 w1 w') FW gs g' (parked B2 #[scase s.pk v z] .send) w'→aX (Two s.W) P t gs q→dH s.W (Grow F0 w1 w') FW t→Reaches P (Fin P s SM SW (acc++v::vs)) (crowd gs w' sl) t)→dA v→aH P false (SW vs) FW (Go.Conc.served B2 undef) w→dC P s kp kt false F0 FW gs a (parked B2 #[scase s.pk v z] .send) w→aX (Two s.W) P t gs q→dH s.W F0 FW t→Reaches P (Fin P s SM SW (acc++v::vs)) (crowd gs w sl) t from H _ w gs sl t q (Nat.le_refl _) hstep
  intro M;induction M using Nat.strongRecOn with
  | ind M ih =>
   intro w gs sl t q hM hstep hv hn h hL hT;rcases h.pick hL (eO hrun) (mH _ _ _) (.inl hrun) (fun d=>dS hrun _) (fun d=>again_send_open (h.op.at d)) sl with ⟨d,sl',_,hst⟩ | ⟨d,sl',hx,_⟩ | ⟨d,sl',gs',q',i,fn,pos,es,hi0,jP,hm,hst,h',hL',hlt⟩
   ·have hs:=hstep (w.at d) (aS.at F0 w d)
    have xM:0<gs.size:=(Array.getElem?_eq_some_iff.1 h.g0).1;cases hgo:stepG P true a (w.at d) with
    | go a' w' es =>
     rw [hgo,goes_go] at hs;obtain ⟨hgu,_,hnext⟩:=hs;have hrunT:=runT_crowd_go (P:=P) (sl:=sl') (i:=0) h.g0 (show stepG P (0 == 0) a (w.at d)=_ from hgo);refine Reaches.step (hst.trans hrunT) ?_;have hpk:dB w' s.pk kp:=((h.at d h.g0 h.gW rfl).main hgu (gs':=gs.setIfInBounds 0 a') (by rw [Array.getElem?_setIfInBounds_self_of_lt xM]) (by rw [Array.getElem?_setIfInBounds_ne (Ne.symm h.w0)];exact h.gW) (by simp)).1.op;have hD:=(h.at d h.g0 h.gW rfl).main hgu (gs':=(gs.map (woken P a a' w')).setIfInBounds 0 a') (iJ xM) (by rw [dG (Ne.symm h.w0) h.gW,qU (again_send_open hpk)]) (by simp);exact hnext (sl:=sl') hv ((hn.rely (aS.at FW w d)).rely hD.2) hD.1 (hL.nD (.inl rfl) xM ofEvents_g) ((hT.grow (fun x hx=>.inl hx) fun _ h=>h).main h.w0 hD.1.apart hgu.evs)
    | _=>rw [hgo] at hs;exact hs.elim
   ·cases hx
   ·refine Reaches.step hst ?_
    exact ih (sumTo s.size q') (by omega) (w.at d) gs' sl' _ q' (Nat.le_refl _) (fun w1 h1=>hstep w1 ((aS.at F0 w d).trans h1)) hv (hn.rely (aS.at FW w d)) h' hL' (lS hT hi0 jP hm)
end
section
variable {P:Program} {s:Score} {SM SW:List Value→(Nat→Prop)→Goroutine→World→Prop} {dA:Value→Prop}
theorem DF (_hp:Parts P s SM SW dA) {F0 FW:Nat→Prop} {gs:Array Goroutine} {a b B2:Goroutine} {v z:Value} {w:World} {t:Trace} {q:Nat→Nat} {kp kt:Nat} (h:dC P s kp kt false F0 FW gs a b w) (hL:aX (Two s.W) P t gs q) (ha:a.status=.running) (hb:∀ w,stepG P false b w=.comm B2 #[scase s.pk v z] true .send w #[]) (sl:Option (Nat×Nat)) :
 ∃ gs' ops,runT P (crowd gs w sl) s.W=(.next (crowd gs' w sl),ops)∧ops = #[]∧dC P s kp kt false F0 FW gs' a (parked B2 #[scase s.pk v z] .send) w∧aX (Two s.W) P t gs' q:=by
 have hltW:s.W<gs.size:=(Array.getElem?_eq_some_iff.1 h.gW).1;have hpn:partners (gs.setIfInBounds s.W ph) s.pk false=[]:=rR hL fun j x hj hne hx=>by
  rcases hj with rfl | rfl
  ·rw [h.g0] at hx;cases hx
   exact offersAt_of_not_blocked (by rw [ha];exact nofun) _ _
  ·exact absurd rfl hne
 have hr:=crowd_waits (P:=P) (sl:=sl) (i:=s.W) h.gW (show stepG P (s.W == 0) b w=_ by rw [show (s.W == 0)=false by simpa using h.w0];exact hb w) (fun cc hcc=>by
  simp only [List.mem_toArray,List.mem_cons,List.not_mem_nil,or_false] at hcc;subst hcc;exact ways_send_none h.op (Nat.le_refl _) hpn)
 have hD:=h.at w.drawn (gs':=gs.setIfInBounds s.W (parked B2 #[scase s.pk v z] .send)) (a':=a) (b':=parked B2 #[scase s.pk v z] .send) (by rw [Array.getElem?_setIfInBounds_ne h.w0];exact h.g0) (by rw [Array.getElem?_setIfInBounds_self_of_lt hltW]) (by simp);refine ⟨_,_,hr,rfl,hD,?_⟩;have:=hL.same (gs':=gs.setIfInBounds s.W (parked B2 #[scase s.pk v z] .send)) (by simp) (fun k hk=>Array.getElem?_setIfInBounds_ne (fun e=>hk (.inr e.symm))) FK;rwa [Array.append_empty] at this
theorem zJ (_hp:Parts P s SM SW dA) {F0 FW:Nat→Prop} {gs:Array Goroutine} {a A2 b:Goroutine} {w:World} {t:Trace} {q:Nat→Nat} {kp kt:Nat} (h:dC P s kp kt false F0 FW gs a b w) (hL:aX (Two s.W) P t gs q) (ha:iw P s.cs A2 a) (hb:b.status=.running) (sl:Option (Nat×Nat)) :
 ∃ gs' ops,runT P (crowd gs w sl) 0=(.next (crowd gs' w sl),ops)∧ops = #[]∧dC P s kp kt false F0 FW gs' (parked A2 s.cs .select) b w∧aX (Two s.W) P t gs' q:=by
 have hlt:0<gs.size:=(Array.getElem?_eq_some_iff.1 h.g0).1;have hpn:∀ c,partners (gs.setIfInBounds 0 ph) c true=[]:=fun c=>rR hL fun j x hj hne hx=>by
  rcases hj with rfl | rfl
  ·exact absurd rfl hne
  ·rw [h.gW] at hx;cases hx
   exact offersAt_of_not_blocked (by rw [hb];exact nofun) _ _
 have hr:=crowd_waits (P:=P) (sl:=sl) (i:=0) h.g0 (show stepG P (0 == 0) a w=_ from ha.HZ w) (fun cc hcc=>by
  simp only [Score.cs,di,List.mem_toArray,List.mem_cons,List.not_mem_nil,or_false] at hcc;rcases hcc with rfl | rfl
  ·exact ways_recv_none h.op (hpn _)
  ·exact ways_recv_none h.ot (hpn _))
 have hD:=h.at w.drawn (gs':=gs.setIfInBounds 0 (parked A2 s.cs .select)) (a':=parked A2 s.cs .select) (b':=b) (by rw [Array.getElem?_setIfInBounds_self_of_lt hlt]) (by rw [Array.getElem?_setIfInBounds_ne (Ne.symm h.w0)];exact h.gW) (by simp);refine ⟨_,_,hr,rfl,hD,?_⟩;have:=hL.same (gs':=gs.setIfInBounds 0 (parked A2 s.cs .select)) (by simp) (fun k hk=>Array.getElem?_setIfInBounds_ne (fun e=>hk (.inl e.symm))) FK;rwa [Array.append_empty] at this
theorem DI (hp:Parts P s SM SW dA) {acc vs:List Value} (hV:Cr P s SM SW vs) {F0 FW:Nat→Prop} {gs:Array Goroutine} {a b:Goroutine} {w:World} {sl:Option (Nat×Nat)} {t:Trace} {q:Nat→Nat} {kp kt:Nat} (ha:a.status=.running) (hM:aH P true (SM acc) F0 a w) (hW:SW vs FW b w) (h:dC P s kp kt false F0 FW gs a b w) (hL:aX (Two s.W) P t gs q) (hT:dH s.W F0 FW t) :
 ∃ m ops,runT P (crowd gs w sl) s.W=(.next m,ops)∧Reaches P (Fin P s SM SW (acc++vs)) m (t++ops):=by
 cases vs with
 | nil =>
  obtain ⟨gs',b',w',ops,q',pc,hr,hth,hD',hW2,hrel,hL',hT'⟩:=zI hp h hL hT h.EX hW sl;rw [dS ha] at hD';refine ⟨_,_,hr,?_⟩;rw [List.append_nil];exact Ki hp (hM.rely hrel) hW2 hD' hL' hT'
 | cons v vs' =>
  obtain ⟨hv,_,B2,z,hb,hn⟩:=hp.send _ _ _ _ _ hW;obtain ⟨gs',ops,hr,rfl,hD',hL'⟩:=DF hp h hL ha hb sl;refine ⟨_,_,hr,?_⟩;rw [Array.append_empty];exact Kj hp (hV v vs' rfl) hM hv hn hD' hL' hT
theorem Rv (hp:Parts P s SM SW dA) {acc vs:List Value} (hV:Cr P s SM SW vs):∀ (M:Nat) {F0 FW:Nat→Prop} {gs:Array Goroutine} {a b:Goroutine} {w:World} {sl:Option (Nat×Nat)} {t:Trace} {q:Nat→Nat} {kp kt:Nat},sumTo s.size q≤M→(∀ w1,aS F0 w w1→SM acc F0 a w1)→SW vs FW b w→dC P s kp kt false F0 FW gs a b w→aX (Two s.W) P t gs q→dH s.W F0 FW t→Reaches P (Fin P s SM SW (acc++vs)) (crowd gs w sl) t:=by
 intro M;induction M using Nat.strongRecOn with
 | ind M ih =>
  intro F0 FW gs a b w sl t q kp kt hM hS hW h hL hT;have hrun:=DC hp hW;have ha:=OT hp (hS w (.refl _ _));rcases h.pick hL (eO ha) (eO hrun) (.inl ha) (fun d=>dS ha _) (fun d=>dS hrun _) sl with ⟨d,sl',_,hst⟩ | ⟨d,sl',_,hst⟩ | ⟨d,sl',gs',q',i,fn,pos,es,hi0,jP,hm,hst,h',hL',hlt⟩
  ·have hD:=h.at d h.g0 h.gW rfl
   obtain ⟨A2,h1,h2⟩:=hp.Dz (hS (w.at d) (aS.at F0 w d));obtain ⟨gs',ops,hr,rfl,hD',hL'⟩:=zJ hp hD hL h1 hrun sl';refine Reaches.step (hst.trans hr) ?_;rw [Array.append_empty];exact vC hp hV _ (Nat.le_refl _) h2 (hp.jX _ _ _ _ _ hW (aS.at FW w d)) hD' hL' hT h.EX
  ·obtain ⟨m,ops,hr,hR⟩:=DI hp hV (sl:=sl') ha (aH.stop fun w1 h1=>hS w1 ((aS.at F0 w d).trans h1)) (hp.jX _ _ _ _ _ hW (aS.at FW w d)) (h.at d h.g0 h.gW rfl) hL hT
   exact Reaches.step (hst.trans hr) hR
  ·refine Reaches.step hst ?_
   exact ih (sumTo s.size q') (by omega) (Nat.le_refl _) (fun w1 h1=>hS w1 ((aS.at F0 w d).trans h1)) (hp.jX _ _ _ _ _ hW (aS.at FW w d)) h' hL' (lS hT hi0 jP hm)
theorem OU (hp:Parts P s SM SW dA) {acc vs:List Value} (hV:Cr P s SM SW vs) {F0:Nat→Prop} {a:Goroutine} {w:World} (hM:aH P true (SM acc) F0 a w):∀ {FW:Nat→Prop} {gs:Array Goroutine} {b:Goroutine} {sl:Option (Nat×Nat)} {t:Trace} {q:Nat→Nat} {kp kt:Nat},SW vs FW b w→dC P s kp kt false F0 FW gs a b w→aX (Two s.W) P t gs q→dH s.W F0 FW t→Reaches P (Fin P s SM SW (acc++vs)) (crowd gs w sl) t:=by
 refine hM.induct (X:=fun F0 a w=>∀ {FW:Nat→Prop} {gs:Array Goroutine} {b:Goroutine} {sl:Option (Nat×Nat)} {t:Trace} {q:Nat→Nat} {kp kt:Nat},SW vs FW b w→dC P s kp kt false F0 FW gs a b w→aX (Two s.W) P t gs q→dH s.W F0 FW t→Reaches P (Fin P s SM SW (acc++vs)) (crowd gs w sl) t) ?_ ?_
 ·intro F0 a w hs FW gs b sl t q kp kt hW h hL hT
  exact Rv hp hV _ (Nat.le_refl _) hs hW h hL hT
 ·intro F0 a w hrun hstep FW gs b sl t q kp kt
  suffices H:∀ M w gs sl t q,sumTo s.size q≤M→(∀ w1,aS F0 w w1→(stepG P true a w1).goes fun g' w' es=>kU F0 w1 w' es∧aH P true (SM acc) (Grow F0 w1 w') g' w'∧∀ {FW:Nat→Prop} {gs:Array Goroutine} {b:Goroutine} {sl:Option (Nat×Nat)} {t:Trace} {q:Nat→Nat} {kp kt:Nat},SW vs FW b w'→dC P s kp kt false (Grow F0 w1 w') FW gs g' b w'→aX (Two s.W) P t gs q→dH s.W (Grow F0 w1 w') FW t→Reaches P (Fin P s SM SW (acc++vs)) (crowd gs w' sl) t)→SW vs FW b w→dC P s kp kt false F0 FW gs a b w→aX (Two s.W) P t gs q→dH s.W F0 FW t→Reaches P (Fin P s SM SW (acc++vs)) (crowd gs w sl) t from H _ w gs sl t q (Nat.le_refl _) hstep
  intro M;induction M using Nat.strongRecOn with
  | ind M ih =>
   intro w gs sl t q hM hstep hW h hL hT;have tq:=DC hp hW;rcases h.pick hL (eO hrun) (eO tq) (.inl hrun) (fun d=>dS hrun _) (fun d=>dS tq _) sl with ⟨d,sl',_,hst⟩ | ⟨d,sl',_,hst⟩ | ⟨d,sl',gs',q',i,fn,pos,es,hi0,jP,hm,hst,h',hL',hlt⟩
   ·have hs:=hstep (w.at d) (aS.at F0 w d)
    have xM:0<gs.size:=(Array.getElem?_eq_some_iff.1 h.g0).1;cases hgo:stepG P true a (w.at d) with
    | go a' w' es =>
     rw [hgo,goes_go] at hs;obtain ⟨hgu,_,hnext⟩:=hs;have hrunT:=runT_crowd_go (P:=P) (sl:=sl') (i:=0) h.g0 (show stepG P (0 == 0) a (w.at d)=_ from hgo);refine Reaches.step (hst.trans hrunT) ?_;have hD:=(h.at d h.g0 h.gW rfl).main hgu (gs':=(gs.map (woken P a a' w')).setIfInBounds 0 a') (iJ xM) (by rw [dG (Ne.symm h.w0) h.gW,woken_run tq]) (by simp);exact hnext (sl:=sl') (hp.jX _ _ _ _ _ (hp.jX _ _ _ _ _ hW (aS.at FW w d)) hD.2) hD.1 (hL.nD (.inl rfl) xM ofEvents_g) ((hT.grow (fun x hx=>.inl hx) fun _ h=>h).main h.w0 hD.1.apart hgu.evs)
    | _=>rw [hgo] at hs;exact hs.elim
   ·obtain ⟨m,ops,hr,hR⟩:=DI hp hV (sl:=sl') hrun (aH.step hrun fun w1 h1=>goes_mono (hstep w1 ((aS.at F0 w d).trans h1)) fun _ _ _ hx=>⟨hx.1,hx.2.1⟩) (hp.jX _ _ _ _ _ hW (aS.at FW w d)) (h.at d h.g0 h.gW rfl) hL hT
    exact Reaches.step (hst.trans hr) hR
   ·refine Reaches.step hst ?_
    exact ih (sumTo s.size q') (by omega) (w.at d) gs' sl' _ q' (Nat.le_refl _) (fun w1 h1=>hstep w1 ((aS.at F0 w d).trans h1)) (hp.jX _ _ _ _ _ hW (aS.at FW w d)) h' hL' (lS hT hi0 jP hm)
theorem OV (hp:Parts P s SM SW dA) {acc vs:List Value} (hV:Cr P s SM SW vs) {FW:Nat→Prop} {b:Goroutine} {w:World} (hW:aH P false (SW vs) FW b w):∀ {F0:Nat→Prop} {gs:Array Goroutine} {A2:Goroutine} {sl:Option (Nat×Nat)} {t:Trace} {q:Nat→Nat} {kp kt:Nat},jQ P s SM dA acc F0 A2 w→dC P s kp kt false F0 FW gs (parked A2 s.cs .select) b w→aX (Two s.W) P t gs q→dH s.W F0 FW t→Reaches P (Fin P s SM SW (acc++vs)) (crowd gs w sl) t:=by
 refine hW.induct (X:=fun FW b w=>∀ {F0:Nat→Prop} {gs:Array Goroutine} {A2:Goroutine} {sl:Option (Nat×Nat)} {t:Trace} {q:Nat→Nat} {kp kt:Nat},jQ P s SM dA acc F0 A2 w→dC P s kp kt false F0 FW gs (parked A2 s.cs .select) b w→aX (Two s.W) P t gs q→dH s.W F0 FW t→Reaches P (Fin P s SM SW (acc++vs)) (crowd gs w sl) t) ?_ ?_
 ·intro FW b w hs F0 gs A2 sl t q kp kt hS h hL hT
  exact vC hp hV _ (Nat.le_refl _) hS (hs w (.refl _ _)) h hL hT h.EX
 ·intro FW b w hrun hstep F0 gs A2 sl t q kp kt
  suffices H:∀ M w gs sl t q,sumTo s.size q≤M→(∀ w1,aS FW w w1→(stepG P false b w1).goes fun g' w' es=>kU FW w1 w' es∧aH P false (SW vs) (Grow FW w1 w') g' w'∧∀ {F0:Nat→Prop} {gs:Array Goroutine} {A2:Goroutine} {sl:Option (Nat×Nat)} {t:Trace} {q:Nat→Nat} {kp kt:Nat},jQ P s SM dA acc F0 A2 w'→dC P s kp kt false F0 (Grow FW w1 w') gs (parked A2 s.cs .select) g' w'→aX (Two s.W) P t gs q→dH s.W F0 (Grow FW w1 w') t→Reaches P (Fin P s SM SW (acc++vs)) (crowd gs w' sl) t)→jQ P s SM dA acc F0 A2 w→dC P s kp kt false F0 FW gs (parked A2 s.cs .select) b w→aX (Two s.W) P t gs q→dH s.W F0 FW t→Reaches P (Fin P s SM SW (acc++vs)) (crowd gs w sl) t from H _ w gs sl t q (Nat.le_refl _) hstep
  intro M;induction M using Nat.strongRecOn with
  | ind M ih =>
   intro w gs sl t q hM hstep hS h hL hT;rcases h.pick hL (mH _ _ _) (eO hrun) (.inr hrun) (fun d=>rD (h.op.at d) (show dB (w.at d) s.th kt from h.ot)) (fun d=>dS hrun _) sl with ⟨d,sl',hx,_⟩ | ⟨d,sl',_,hst⟩ | ⟨d,sl',gs',q',i,fn,pos,es,hi0,jP,hm,hst,h',hL',hlt⟩
   ·cases hx
   ·have hs:=hstep (w.at d) (aS.at FW w d)
    have hltW:s.W<gs.size:=(Array.getElem?_eq_some_iff.1 h.gW).1;cases hgo:stepG P false b (w.at d) with
    | go b' w' es =>
     rw [hgo,goes_go] at hs;obtain ⟨hgu,_,hnext⟩:=hs;have hrunT:=runT_crowd_go (P:=P) (sl:=sl') (i:=s.W) h.gW (show stepG P (s.W == 0) b (w.at d)=_ by rw [show (s.W == 0)=false by simpa using h.w0];exact hgo);refine Reaches.step (hst.trans hrunT) ?_;have hopen:=((h.at d h.g0 h.gW rfl).work hgu (gs':=gs.setIfInBounds s.W b') (by rw [Array.getElem?_setIfInBounds_ne h.w0];exact h.g0) (by rw [Array.getElem?_setIfInBounds_self_of_lt hltW]) (by simp)).1;have hD:=(h.at d h.g0 h.gW rfl).work hgu (gs':=(gs.map (woken P b b' w')).setIfInBounds s.W b') (by rw [dG h.w0 h.g0,qU (rD hopen.op (show dB w' s.th kt from hopen.ot))]) (iJ hltW) (by simp);exact hnext (sl:=sl') ((hS.rely hp (aS.at F0 w d)).rely hp hD.2) hD.1 (hL.nD (.inr rfl) hltW ofEvents_g) ((hT.grow (fun _ h=>h) fun x hx=>.inl hx).work h.w0 hD.1.apart hgu.evs)
    | _=>rw [hgo] at hs;exact hs.elim
   ·refine Reaches.step hst ?_
    exact ih (sumTo s.size q') (by omega) (w.at d) gs' sl' _ q' (Nat.le_refl _) (fun w1 h1=>hstep w1 ((aS.at FW w d).trans h1)) (hS.rely hp (aS.at F0 w d)) h' hL' (lS hT hi0 jP hm)
end
section
variable {P:Program} {s:Score} {SM SW:List Value→(Nat→Prop)→Goroutine→World→Prop} {dA:Value→Prop}
theorem H7 (hp:Parts P s SM SW dA) {acc vs:List Value} (hV:Cr P s SM SW vs) {FW:Nat→Prop} {b:Goroutine} {w0:World} (tq:b.status=.running)
 (hstep:∀ w1,aS FW w0 w1→(stepG P false b w1).goes fun g' w' es=>kU FW w1 w' es∧aH P false (SW vs) (Grow FW w1 w') g' w'∧∀ {F0:Nat→Prop} {gs:Array Goroutine} {a:Goroutine} {sl:Option (Nat×Nat)} {t:Trace} {q:Nat→Nat} {kp kt:Nat},aH P true (SM acc) F0 a w'→dC P s kp kt false F0 (Grow FW w1 w') gs a g' w'→aX (Two s.W) P t gs q→dH s.W F0 (Grow FW w1 w') t→Reaches P (Fin P s SM SW (acc++vs)) (crowd gs w' sl) t)
 {F0:Nat→Prop} {a:Goroutine} {w:World} (hM:aH P true (SM acc) F0 a w):∀ {gs:Array Goroutine} {sl:Option (Nat×Nat)} {t:Trace} {q:Nat→Nat} {kp kt:Nat},aS FW w0 w→dC P s kp kt false F0 FW gs a b w→aX (Two s.W) P t gs q→dH s.W F0 FW t→Reaches P (Fin P s SM SW (acc++vs)) (crowd gs w sl) t:=by
 have Ug:∀ {F0:Nat→Prop} {a:Goroutine} {w:World} {gs:Array Goroutine} {sl:Option (Nat×Nat)} {t:Trace} {q:Nat→Nat} {kp kt:Nat},aH P true (SM acc) F0 a w→a.status=.running→aS FW w0 w→dC P s kp kt false F0 FW gs a b w→aX (Two s.W) P t gs q→dH s.W F0 FW t→∃ m ops,runT P (crowd gs w sl) s.W=(.next m,ops)∧Reaches P (Fin P s SM SW (acc++vs)) m (t++ops):=by
  intro F0 a w gs sl t q kp kt hM ha hrel h hL hT;have hs:=hstep w hrel;have hltW:s.W<gs.size:=(Array.getElem?_eq_some_iff.1 h.gW).1;cases hgo:stepG P false b w with
  | go b' w' es =>
   rw [hgo,goes_go] at hs;obtain ⟨hgu,_,hnext⟩:=hs;have hrunT:=runT_crowd_go (P:=P) (sl:=sl) (i:=s.W) h.gW (show stepG P (s.W == 0) b w=_ by rw [show (s.W == 0)=false by simpa using h.w0];exact hgo);refine ⟨_,_,hrunT,?_⟩;have hD:=h.work hgu (gs':=(gs.map (woken P b b' w')).setIfInBounds s.W b') (by rw [dG h.w0 h.g0,woken_run ha]) (iJ hltW) (by simp);exact hnext (sl:=sl) (hM.rely hD.2) hD.1 (hL.nD (.inr rfl) hltW ofEvents_g) ((hT.grow (fun _ h=>h) fun x hx=>.inl hx).work h.w0 hD.1.apart hgu.evs)
  | _=>rw [hgo] at hs;exact hs.elim
 have aam:∀ {w:World},aS FW w0 w→aH P false (SW vs) FW b w:=fun hrel=>aH.step tq fun w1 h1=>goes_mono (hstep w1 (hrel.trans h1)) fun _ _ _ hx=>⟨hx.1,hx.2.1⟩
 refine @aH.induct _ _ _ _ _ _ (fun F0 a w=>∀ {gs:Array Goroutine} {sl:Option (Nat×Nat)} {t:Trace} {q:Nat→Nat} {kp kt:Nat},aS FW w0 w→dC P s kp kt false F0 FW gs a b w→aX (Two s.W) P t gs q→dH s.W F0 FW t→Reaches P (Fin P s SM SW (acc++vs)) (crowd gs w sl) t) hM ?_ ?_
 ·intro F0 a w hs gs sl t q kp kt
  suffices H:∀ M w gs sl t q,sumTo s.size q≤M→(∀ w1,aS F0 w w1→SM acc F0 a w1)→aS FW w0 w→dC P s kp kt false F0 FW gs a b w→aX (Two s.W) P t gs q→dH s.W F0 FW t→Reaches P (Fin P s SM SW (acc++vs)) (crowd gs w sl) t from H _ w gs sl t q (Nat.le_refl _) hs
  intro M;induction M using Nat.strongRecOn with
  | ind M ih =>
   intro w gs sl t q hM hs hrel h hL hT;have ha:=OT hp (hs w (.refl _ _));rcases h.pick hL (eO ha) (eO tq) (.inl ha) (fun d=>dS ha _) (fun d=>dS tq _) sl with ⟨d,sl',_,hst⟩ | ⟨d,sl',_,hst⟩ | ⟨d,sl',gs',q',i,fn,pos,es,hi0,jP,hm,hst,h',hL',hlt⟩
   ·obtain ⟨A2,h1,h2⟩:=hp.Dz (hs (w.at d) (aS.at F0 w d))
    obtain ⟨gs',ops,hr,rfl,hD',hL'⟩:=zJ hp (h.at d h.g0 h.gW rfl) hL h1 tq sl';refine Reaches.step (hst.trans hr) ?_;rw [Array.append_empty];exact OV hp hV (aam (hrel.trans (aS.at FW w d))) h2 hD' hL' hT
   ·obtain ⟨m,ops,hr,hR⟩:=Ug (sl:=sl') (aH.stop fun w1 h1=>hs w1 ((aS.at F0 w d).trans h1)) ha (hrel.trans (aS.at FW w d)) (h.at d h.g0 h.gW rfl) hL hT
    exact Reaches.step (hst.trans hr) hR
   ·refine Reaches.step hst ?_
    exact ih (sumTo s.size q') (by omega) (w.at d) gs' sl' _ q' (Nat.le_refl _) (fun w1 h1=>hs w1 ((aS.at F0 w d).trans h1)) (hrel.trans (aS.at FW w d)) h' hL' (lS hT hi0 jP hm)
 ·intro F0 a w hrun zK gs sl t q kp kt
  suffices H:∀ M w gs sl t q,sumTo s.size q≤M→(∀ w1,aS F0 w w1→(stepG P true a w1).goes fun g' w' es=>kU F0 w1 w' es∧aH P true (SM acc) (Grow F0 w1 w') g' w'∧∀ {gs:Array Goroutine} {sl:Option (Nat×Nat)} {t:Trace} {q:Nat→Nat} {kp kt:Nat},aS FW w0 w'→dC P s kp kt false (Grow F0 w1 w') FW gs g' b w'→aX (Two s.W) P t gs q→dH s.W (Grow F0 w1 w') FW t→Reaches P (Fin P s SM SW (acc++vs)) (crowd gs w' sl) t)→aS FW w0 w→dC P s kp kt false F0 FW gs a b w→aX (Two s.W) P t gs q→dH s.W F0 FW t→Reaches P (Fin P s SM SW (acc++vs)) (crowd gs w sl) t from H _ w gs sl t q (Nat.le_refl _) zK
  intro M;induction M using Nat.strongRecOn with
  | ind M ih =>
   intro w gs sl t q hM zK hrel h hL hT;rcases h.pick hL (eO hrun) (eO tq) (.inl hrun) (fun d=>dS hrun _) (fun d=>dS tq _) sl with ⟨d,sl',_,hst⟩ | ⟨d,sl',_,hst⟩ | ⟨d,sl',gs',q',i,fn,pos,es,hi0,jP,hm,hst,h',hL',hlt⟩
   ·have hs:=zK (w.at d) (aS.at F0 w d)
    have xM:0<gs.size:=(Array.getElem?_eq_some_iff.1 h.g0).1;cases hgo:stepG P true a (w.at d) with
    | go a' w' es =>
     rw [hgo,goes_go] at hs;obtain ⟨hgu,_,hnext⟩:=hs;have hrunT:=runT_crowd_go (P:=P) (sl:=sl') (i:=0) h.g0 (show stepG P (0 == 0) a (w.at d)=_ from hgo);refine Reaches.step (hst.trans hrunT) ?_;have hD:=(h.at d h.g0 h.gW rfl).main hgu (gs':=(gs.map (woken P a a' w')).setIfInBounds 0 a') (iJ xM) (by rw [dG (Ne.symm h.w0) h.gW,woken_run tq]) (by simp);exact hnext (sl:=sl') ((hrel.trans (aS.at FW w d)).trans hD.2) hD.1 (hL.nD (.inl rfl) xM ofEvents_g) ((hT.grow (fun x hx=>.inl hx) fun _ h=>h).main h.w0 hD.1.apart hgu.evs)
    | _=>rw [hgo] at hs;exact hs.elim
   ·obtain ⟨m,ops,hr,hR⟩:=Ug (sl:=sl') (aH.step hrun fun w1 h1=>goes_mono (zK w1 ((aS.at F0 w d).trans h1)) fun _ _ _ hx=>⟨hx.1,hx.2.1⟩) hrun (hrel.trans (aS.at FW w d)) (h.at d h.g0 h.gW rfl) hL hT
    exact Reaches.step (hst.trans hr) hR
   ·refine Reaches.step hst ?_
    exact ih (sumTo s.size q') (by omega) (w.at d) gs' sl' _ q' (Nat.le_refl _) (fun w1 h1=>zK w1 ((aS.at F0 w d).trans h1)) (hrel.trans (aS.at FW w d)) h' hL' (lS hT hi0 jP hm)
theorem FM (hp:Parts P s SM SW dA) {vs:List Value} (hV:Cr P s SM SW vs):Claim P s SM SW vs:=by
 intro acc F0 FW gs a b w sl t q kp kt hM hW h hL hT;revert F0 gs a sl t q kp kt
 refine hW.induct (X:=fun FW b w=>∀ {F0:Nat→Prop} {gs:Array Goroutine} {a:Goroutine} {sl:Option (Nat×Nat)} {t:Trace} {q:Nat→Nat} {kp kt:Nat},aH P true (SM acc) F0 a w→dC P s kp kt false F0 FW gs a b w→aX (Two s.W) P t gs q→dH s.W F0 FW t→Reaches P (Fin P s SM SW (acc++vs)) (crowd gs w sl) t) ?_ ?_
 ·intro FW b w hs F0 gs a sl t q kp kt hM h hL hT
  exact OU hp hV hM (hs w (.refl _ _)) h hL hT
 ·intro FW b w hrun hstep F0 gs a sl t q kp kt hM h hL hT
  exact H7 hp hV hrun hstep hM (.refl _ _) h hL hT
theorem MS (hp:Parts P s SM SW dA):∀ vs:List Value,Claim P s SM SW vs
 | []=>FM hp fun _ _ e=>by cases e
 | v::vs=>FM hp fun v' vs' e=>by
  cases e
  exact MS hp vs
end
end
end Go.Proofs.YtignemioillaiabGreat
