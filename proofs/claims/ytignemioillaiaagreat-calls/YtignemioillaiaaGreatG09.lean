/- The duet, to its end. -/
import Derived.Test.YtignemioillaiaaGreatG08
namespace Go.Proofs.YtignemioillaiaaGreat
set_option maxHeartbeats 8000000
set_option maxRecDepth 100000
section
open Go Go.Conc
open Go.ConcN (sumTo upd sumTo_upd upd_ne upd_same)
section
variable {P : Program} {s : Score} {SM SW : List Value → (Nat → Prop) → Goroutine → World → Prop} {OkV : Value → Prop}
/-- The worker comes to its send; goroutine 0 is not parked: it waits. -/
theorem send_waits (_hp : Parts P s SM SW OkV) {F0 FW : Nat → Prop} {gs : Array Goroutine} {a b B2 : Goroutine} {v z : Value} {w : World} {t : Trace} {q : Nat → Nat} {kp kt : Nat} (h : Dua P s kp kt false F0 FW gs a b w) (hL : LeaveX (Two s.W) P t gs q) (ha : a.status = .running) (hb : ∀ w, stepG P false b w = .comm B2 #[scase s.pk v z] true .send w #[]) (sl : Option (Nat × Nat)) :
    ∃ gs' ops, runT P (crowd gs w sl) s.W = (.next (crowd gs' w sl), ops) ∧ ops = #[] ∧ Dua P s kp kt false F0 FW gs' a (parked B2 #[scase s.pk v z] .send) w ∧ LeaveX (Two s.W) P t gs' q := by
  have hltW : s.W < gs.size := (Array.getElem?_eq_some_iff.1 h.gW).1
  have hpn : partners (gs.setIfInBounds s.W ph) s.pk false = [] := parts_nil hL fun j x hj hne hx => by
    rcases hj with rfl | rfl
    · rw [h.g0] at hx; cases hx
      exact offersAt_of_not_blocked (by rw [ha]; exact nofun) _ _
    · exact absurd rfl hne
  have hr := crowd_waits (P := P) (sl := sl) (i := s.W) h.gW (show stepG P (s.W == 0) b w = _ by rw [show (s.W == 0) = false by simpa using h.w0]; exact hb w) (fun cc hcc => by
    simp only [List.mem_toArray, List.mem_cons, List.not_mem_nil, or_false] at hcc
    subst hcc
    exact ways_send_none h.op (Nat.le_refl _) hpn)
  have hD := h.at w.drawn (gs' := gs.setIfInBounds s.W (parked B2 #[scase s.pk v z] .send)) (a' := a) (b' := parked B2 #[scase s.pk v z] .send) (by rw [Array.getElem?_setIfInBounds_ne h.w0]; exact h.g0) (by rw [Array.getElem?_setIfInBounds_self_of_lt hltW]) (by simp)
  refine ⟨_, _, hr, rfl, hD, ?_⟩
  have := hL.same (gs' := gs.setIfInBounds s.W (parked B2 #[scase s.pk v z] .send)) (by simp) (fun k hk => Array.getElem?_setIfInBounds_ne (fun e => hk (.inr e.symm))) noEar_nil
  rwa [Array.append_empty] at this
/-- Goroutine 0 comes to its select; nobody waits for it: it waits. -/
theorem sel_waits (_hp : Parts P s SM SW OkV) {F0 FW : Nat → Prop} {gs : Array Goroutine} {a A2 b : Goroutine} {w : World} {t : Trace} {q : Nat → Nat} {kp kt : Nat} (h : Dua P s kp kt false F0 FW gs a b w) (hL : LeaveX (Two s.W) P t gs q) (ha : AtSel P s.cs A2 a) (hb : b.status = .running) (sl : Option (Nat × Nat)) :
    ∃ gs' ops, runT P (crowd gs w sl) 0 = (.next (crowd gs' w sl), ops) ∧ ops = #[] ∧ Dua P s kp kt false F0 FW gs' (parked A2 s.cs .select) b w ∧ LeaveX (Two s.W) P t gs' q := by
  have hlt : 0 < gs.size := (Array.getElem?_eq_some_iff.1 h.g0).1
  have hpn : ∀ c, partners (gs.setIfInBounds 0 ph) c true = [] := fun c => parts_nil hL fun j x hj hne hx => by
    rcases hj with rfl | rfl
    · exact absurd rfl hne
    · rw [h.gW] at hx; cases hx
      exact offersAt_of_not_blocked (by rw [hb]; exact nofun) _ _
  have hr := crowd_waits (P := P) (sl := sl) (i := 0) h.g0 (show stepG P (0 == 0) a w = _ from ha.com w) (fun cc hcc => by
    simp only [Score.cs, cases2, List.mem_toArray, List.mem_cons, List.not_mem_nil, or_false] at hcc
    rcases hcc with rfl | rfl
    · exact ways_recv_none h.op (hpn _)
    · exact ways_recv_none h.ot (hpn _))
  have hD := h.at w.drawn (gs' := gs.setIfInBounds 0 (parked A2 s.cs .select)) (a' := parked A2 s.cs .select) (b' := b) (by rw [Array.getElem?_setIfInBounds_self_of_lt hlt]) (by rw [Array.getElem?_setIfInBounds_ne (Ne.symm h.w0)]; exact h.gW) (by simp)
  refine ⟨_, _, hr, rfl, hD, ?_⟩
  have := hL.same (gs' := gs.setIfInBounds 0 (parked A2 s.cs .select)) (by simp) (fun k hk => Array.getElem?_setIfInBounds_ne (fun e => hk (.inl e.symm))) noEar_nil
  rwa [Array.append_empty] at this
/-- The worker at its stop moves, goroutine 0 being on its way. -/
theorem stop_moves (hp : Parts P s SM SW OkV) {acc vs : List Value} (hV : Tail P s SM SW vs) {F0 FW : Nat → Prop} {gs : Array Goroutine} {a b : Goroutine} {w : World} {sl : Option (Nat × Nat)} {t : Trace} {q : Nat → Nat} {kp kt : Nat} (ha : a.status = .running) (hM : GoesF P true (SM acc) F0 a w) (hW : SW vs FW b w) (h : Dua P s kp kt false F0 FW gs a b w) (hL : LeaveX (Two s.W) P t gs q) (hT : TrB s.W F0 FW t) :
    ∃ m ops, runT P (crowd gs w sl) s.W = (.next m, ops) ∧ Reaches P (Fin P s SM SW (acc ++ vs)) m (t ++ ops) := by
  cases vs with
  | nil =>
    obtain ⟨gs', b', w', ops, q', pc, hr, hth, hD', hW2, hrel, hL', hT'⟩ := duo_close hp h hL hT h.apartTh hW sl
    rw [again_run ha] at hD'
    refine ⟨_, _, hr, ?_⟩
    rw [List.append_nil]
    exact closed_walk hp (hM.rely hrel) hW2 hD' hL' hT'
  | cons v vs' =>
    obtain ⟨hv, _, B2, z, hb, hn⟩ := hp.send _ _ _ _ _ hW
    obtain ⟨gs', ops, hr, rfl, hD', hL'⟩ := send_waits hp h hL ha hb sl
    refine ⟨_, _, hr, ?_⟩
    rw [Array.append_empty]
    exact walk_parked hp (hV v vs' rfl) hM hv hn hD' hL' hT
/-- (iv) The worker at its stop, goroutine 0 at its select. -/
theorem stop_sel (hp : Parts P s SM SW OkV) {acc vs : List Value} (hV : Tail P s SM SW vs) : ∀ (M : Nat) {F0 FW : Nat → Prop} {gs : Array Goroutine} {a b : Goroutine} {w : World} {sl : Option (Nat × Nat)} {t : Trace} {q : Nat → Nat} {kp kt : Nat}, sumTo s.size q ≤ M → (∀ w1, RelF F0 w w1 → SM acc F0 a w1) → SW vs FW b w → Dua P s kp kt false F0 FW gs a b w → LeaveX (Two s.W) P t gs q → TrB s.W F0 FW t → Reaches P (Fin P s SM SW (acc ++ vs)) (crowd gs w sl) t := by
  intro M
  induction M using Nat.strongRecOn with
  | ind M ih =>
    intro F0 FW gs a b w sl t q kp kt hM hS hW h hL hT
    have hrun := sw_run hp hW
    have ha := sm_run hp (hS w (.refl _ _))
    rcases h.pick hL (awake_run ha) (awake_run hrun) (.inl ha) (fun d => again_run ha _) (fun d => again_run hrun _) sl with ⟨d, sl', _, hst⟩ | ⟨d, sl', _, hst⟩ | ⟨d, sl', gs', q', i, fn, pos, es, hi0, hiW, hm, hst, h', hL', hlt⟩
    · have hD := h.at d h.g0 h.gW rfl
      obtain ⟨A2, h1, h2⟩ := hp.selAt (hS (w.at d) (RelF.at F0 w d))
      obtain ⟨gs', ops, hr, rfl, hD', hL'⟩ := sel_waits hp hD hL h1 hrun sl'
      refine Reaches.step (hst.trans hr) ?_
      rw [Array.append_empty]
      exact stop_park hp hV _ (Nat.le_refl _) h2 (hp.wrel _ _ _ _ _ hW (RelF.at FW w d)) hD' hL' hT h.apartTh
    · obtain ⟨m, ops, hr, hR⟩ := stop_moves hp hV (sl := sl') ha (GoesF.stop fun w1 h1 => hS w1 ((RelF.at F0 w d).trans h1)) (hp.wrel _ _ _ _ _ hW (RelF.at FW w d)) (h.at d h.g0 h.gW rfl) hL hT
      exact Reaches.step (hst.trans hr) hR
    · refine Reaches.step hst ?_
      exact ih (sumTo s.size q') (by omega) (Nat.le_refl _) (fun w1 h1 => hS w1 ((RelF.at F0 w d).trans h1)) (hp.wrel _ _ _ _ _ hW (RelF.at FW w d)) h' hL' (slip_tr hT hi0 hiW hm)
/-- (iv) The worker at its stop, goroutine 0 on its way. -/
theorem stop_walk (hp : Parts P s SM SW OkV) {acc vs : List Value} (hV : Tail P s SM SW vs) {F0 : Nat → Prop} {a : Goroutine} {w : World} (hM : GoesF P true (SM acc) F0 a w) : ∀ {FW : Nat → Prop} {gs : Array Goroutine} {b : Goroutine} {sl : Option (Nat × Nat)} {t : Trace} {q : Nat → Nat} {kp kt : Nat}, SW vs FW b w → Dua P s kp kt false F0 FW gs a b w → LeaveX (Two s.W) P t gs q → TrB s.W F0 FW t → Reaches P (Fin P s SM SW (acc ++ vs)) (crowd gs w sl) t := by
  refine hM.induct (X := fun F0 a w => ∀ {FW : Nat → Prop} {gs : Array Goroutine} {b : Goroutine} {sl : Option (Nat × Nat)} {t : Trace} {q : Nat → Nat} {kp kt : Nat}, SW vs FW b w → Dua P s kp kt false F0 FW gs a b w → LeaveX (Two s.W) P t gs q → TrB s.W F0 FW t → Reaches P (Fin P s SM SW (acc ++ vs)) (crowd gs w sl) t) ?_ ?_
  · intro F0 a w hs FW gs b sl t q kp kt hW h hL hT
    exact stop_sel hp hV _ (Nat.le_refl _) hs hW h hL hT
  · intro F0 a w hrun hstep FW gs b sl t q kp kt
    suffices H : ∀ M w gs sl t q, sumTo s.size q ≤ M → (∀ w1, RelF F0 w w1 → (stepG P true a w1).goes fun g' w' es => GuarF F0 w1 w' es ∧ GoesF P true (SM acc) (Grow F0 w1 w') g' w' ∧ ∀ {FW : Nat → Prop} {gs : Array Goroutine} {b : Goroutine} {sl : Option (Nat × Nat)} {t : Trace} {q : Nat → Nat} {kp kt : Nat}, SW vs FW b w' → Dua P s kp kt false (Grow F0 w1 w') FW gs g' b w' → LeaveX (Two s.W) P t gs q → TrB s.W (Grow F0 w1 w') FW t → Reaches P (Fin P s SM SW (acc ++ vs)) (crowd gs w' sl) t) → SW vs FW b w → Dua P s kp kt false F0 FW gs a b w → LeaveX (Two s.W) P t gs q → TrB s.W F0 FW t → Reaches P (Fin P s SM SW (acc ++ vs)) (crowd gs w sl) t from H _ w gs sl t q (Nat.le_refl _) hstep
    intro M
    induction M using Nat.strongRecOn with
    | ind M ih =>
      intro w gs sl t q hM hstep hW h hL hT
      have hrW := sw_run hp hW
      rcases h.pick hL (awake_run hrun) (awake_run hrW) (.inl hrun) (fun d => again_run hrun _) (fun d => again_run hrW _) sl with ⟨d, sl', _, hst⟩ | ⟨d, sl', _, hst⟩ | ⟨d, sl', gs', q', i, fn, pos, es, hi0, hiW, hm, hst, h', hL', hlt⟩
      · have hs := hstep (w.at d) (RelF.at F0 w d)
        have hlt0 : 0 < gs.size := (Array.getElem?_eq_some_iff.1 h.g0).1
        cases hgo : stepG P true a (w.at d) with
        | go a' w' es =>
          rw [hgo, goes_go] at hs
          obtain ⟨hgu, _, hnext⟩ := hs
          have hrunT := runT_crowd_go (P := P) (sl := sl') (i := 0) h.g0 (show stepG P (0 == 0) a (w.at d) = _ from hgo)
          refine Reaches.step (hst.trans hrunT) ?_
          have hD := (h.at d h.g0 h.gW rfl).main hgu (gs' := (gs.map (woken P a a' w')).setIfInBounds 0 a') (get_own hlt0) (by rw [get_other (Ne.symm h.w0) h.gW, woken_run hrW]) (by simp)
          exact hnext (sl := sl') (hp.wrel _ _ _ _ _ (hp.wrel _ _ _ _ _ hW (RelF.at FW w d)) hD.2) hD.1 (hL.party (.inl rfl) hlt0 ofEvents_g) ((hT.grow (fun x hx => .inl hx) fun _ h => h).main h.w0 hD.1.apart hgu.evs)
        | _ => rw [hgo] at hs; exact hs.elim
      · obtain ⟨m, ops, hr, hR⟩ := stop_moves hp hV (sl := sl') hrun (GoesF.step hrun fun w1 h1 => goes_mono (hstep w1 ((RelF.at F0 w d).trans h1)) fun _ _ _ hx => ⟨hx.1, hx.2.1⟩) (hp.wrel _ _ _ _ _ hW (RelF.at FW w d)) (h.at d h.g0 h.gW rfl) hL hT
        exact Reaches.step (hst.trans hr) hR
      · refine Reaches.step hst ?_
        exact ih (sumTo s.size q') (by omega) (w.at d) gs' sl' _ q' (Nat.le_refl _) (fun w1 h1 => hstep w1 ((RelF.at F0 w d).trans h1)) (hp.wrel _ _ _ _ _ hW (RelF.at FW w d)) h' hL' (slip_tr hT hi0 hiW hm)
/-- (v) The worker on its way, goroutine 0 parked. -/
theorem walk_park (hp : Parts P s SM SW OkV) {acc vs : List Value} (hV : Tail P s SM SW vs) {FW : Nat → Prop} {b : Goroutine} {w : World} (hW : GoesF P false (SW vs) FW b w) : ∀ {F0 : Nat → Prop} {gs : Array Goroutine} {A2 : Goroutine} {sl : Option (Nat × Nat)} {t : Trace} {q : Nat → Nat} {kp kt : Nat}, SelAt P s SM OkV acc F0 A2 w → Dua P s kp kt false F0 FW gs (parked A2 s.cs .select) b w → LeaveX (Two s.W) P t gs q → TrB s.W F0 FW t → Reaches P (Fin P s SM SW (acc ++ vs)) (crowd gs w sl) t := by
  refine hW.induct (X := fun FW b w => ∀ {F0 : Nat → Prop} {gs : Array Goroutine} {A2 : Goroutine} {sl : Option (Nat × Nat)} {t : Trace} {q : Nat → Nat} {kp kt : Nat}, SelAt P s SM OkV acc F0 A2 w → Dua P s kp kt false F0 FW gs (parked A2 s.cs .select) b w → LeaveX (Two s.W) P t gs q → TrB s.W F0 FW t → Reaches P (Fin P s SM SW (acc ++ vs)) (crowd gs w sl) t) ?_ ?_
  · intro FW b w hs F0 gs A2 sl t q kp kt hS h hL hT
    exact stop_park hp hV _ (Nat.le_refl _) hS (hs w (.refl _ _)) h hL hT h.apartTh
  · intro FW b w hrun hstep F0 gs A2 sl t q kp kt
    suffices H : ∀ M w gs sl t q, sumTo s.size q ≤ M → (∀ w1, RelF FW w w1 → (stepG P false b w1).goes fun g' w' es => GuarF FW w1 w' es ∧ GoesF P false (SW vs) (Grow FW w1 w') g' w' ∧ ∀ {F0 : Nat → Prop} {gs : Array Goroutine} {A2 : Goroutine} {sl : Option (Nat × Nat)} {t : Trace} {q : Nat → Nat} {kp kt : Nat}, SelAt P s SM OkV acc F0 A2 w' → Dua P s kp kt false F0 (Grow FW w1 w') gs (parked A2 s.cs .select) g' w' → LeaveX (Two s.W) P t gs q → TrB s.W F0 (Grow FW w1 w') t → Reaches P (Fin P s SM SW (acc ++ vs)) (crowd gs w' sl) t) → SelAt P s SM OkV acc F0 A2 w → Dua P s kp kt false F0 FW gs (parked A2 s.cs .select) b w → LeaveX (Two s.W) P t gs q → TrB s.W F0 FW t → Reaches P (Fin P s SM SW (acc ++ vs)) (crowd gs w sl) t from H _ w gs sl t q (Nat.le_refl _) hstep
    intro M
    induction M using Nat.strongRecOn with
    | ind M ih =>
      intro w gs sl t q hM hstep hS h hL hT
      rcases h.pick hL (awake_parked _ _ _) (awake_run hrun) (.inr hrun) (fun d => parked_open (h.op.at d) (show ChOpen (w.at d) s.th kt from h.ot)) (fun d => again_run hrun _) sl with ⟨d, sl', hx, _⟩ | ⟨d, sl', _, hst⟩ | ⟨d, sl', gs', q', i, fn, pos, es, hi0, hiW, hm, hst, h', hL', hlt⟩
      · cases hx
      · have hs := hstep (w.at d) (RelF.at FW w d)
        have hltW : s.W < gs.size := (Array.getElem?_eq_some_iff.1 h.gW).1
        cases hgo : stepG P false b (w.at d) with
        | go b' w' es =>
          rw [hgo, goes_go] at hs
          obtain ⟨hgu, _, hnext⟩ := hs
          have hrunT := runT_crowd_go (P := P) (sl := sl') (i := s.W) h.gW (show stepG P (s.W == 0) b (w.at d) = _ by rw [show (s.W == 0) = false by simpa using h.w0]; exact hgo)
          refine Reaches.step (hst.trans hrunT) ?_
          have hopen := ((h.at d h.g0 h.gW rfl).work hgu (gs' := gs.setIfInBounds s.W b') (by rw [Array.getElem?_setIfInBounds_ne h.w0]; exact h.g0) (by rw [Array.getElem?_setIfInBounds_self_of_lt hltW]) (by simp)).1
          have hD := (h.at d h.g0 h.gW rfl).work hgu (gs' := (gs.map (woken P b b' w')).setIfInBounds s.W b') (by rw [get_other h.w0 h.g0, woken_id (parked_open hopen.op (show ChOpen w' s.th kt from hopen.ot))]) (get_own hltW) (by simp)
          exact hnext (sl := sl') ((hS.rely hp (RelF.at F0 w d)).rely hp hD.2) hD.1 (hL.party (.inr rfl) hltW ofEvents_g) ((hT.grow (fun _ h => h) fun x hx => .inl hx).work h.w0 hD.1.apart hgu.evs)
        | _ => rw [hgo] at hs; exact hs.elim
      · refine Reaches.step hst ?_
        exact ih (sumTo s.size q') (by omega) (w.at d) gs' sl' _ q' (Nat.le_refl _) (fun w1 h1 => hstep w1 ((RelF.at FW w d).trans h1)) (hS.rely hp (RelF.at F0 w d)) h' hL' (slip_tr hT hi0 hiW hm)
end
section
variable {P : Program} {s : Score} {SM SW : List Value → (Nat → Prop) → Goroutine → World → Prop} {OkV : Value → Prop}
/-- The worker is on its way (it has a step to take), goroutine 0 too: the worker's next step is known to lead on. -/
theorem walk_walk_in (hp : Parts P s SM SW OkV) {acc vs : List Value} (hV : Tail P s SM SW vs) {FW : Nat → Prop} {b : Goroutine} {w0 : World} (hrW : b.status = .running)
    (hstep : ∀ w1, RelF FW w0 w1 → (stepG P false b w1).goes fun g' w' es => GuarF FW w1 w' es ∧ GoesF P false (SW vs) (Grow FW w1 w') g' w' ∧ ∀ {F0 : Nat → Prop} {gs : Array Goroutine} {a : Goroutine} {sl : Option (Nat × Nat)} {t : Trace} {q : Nat → Nat} {kp kt : Nat}, GoesF P true (SM acc) F0 a w' → Dua P s kp kt false F0 (Grow FW w1 w') gs a g' w' → LeaveX (Two s.W) P t gs q → TrB s.W F0 (Grow FW w1 w') t → Reaches P (Fin P s SM SW (acc ++ vs)) (crowd gs w' sl) t)
    {F0 : Nat → Prop} {a : Goroutine} {w : World} (hM : GoesF P true (SM acc) F0 a w) : ∀ {gs : Array Goroutine} {sl : Option (Nat × Nat)} {t : Trace} {q : Nat → Nat} {kp kt : Nat}, RelF FW w0 w → Dua P s kp kt false F0 FW gs a b w → LeaveX (Two s.W) P t gs q → TrB s.W F0 FW t → Reaches P (Fin P s SM SW (acc ++ vs)) (crowd gs w sl) t := by
  -- the worker's own move, whatever goroutine 0 is at
  have wmove : ∀ {F0 : Nat → Prop} {a : Goroutine} {w : World} {gs : Array Goroutine} {sl : Option (Nat × Nat)} {t : Trace} {q : Nat → Nat} {kp kt : Nat}, GoesF P true (SM acc) F0 a w → a.status = .running → RelF FW w0 w → Dua P s kp kt false F0 FW gs a b w → LeaveX (Two s.W) P t gs q → TrB s.W F0 FW t → ∃ m ops, runT P (crowd gs w sl) s.W = (.next m, ops) ∧ Reaches P (Fin P s SM SW (acc ++ vs)) m (t ++ ops) := by
    intro F0 a w gs sl t q kp kt hM ha hrel h hL hT
    have hs := hstep w hrel
    have hltW : s.W < gs.size := (Array.getElem?_eq_some_iff.1 h.gW).1
    cases hgo : stepG P false b w with
    | go b' w' es =>
      rw [hgo, goes_go] at hs
      obtain ⟨hgu, _, hnext⟩ := hs
      have hrunT := runT_crowd_go (P := P) (sl := sl) (i := s.W) h.gW (show stepG P (s.W == 0) b w = _ by rw [show (s.W == 0) = false by simpa using h.w0]; exact hgo)
      refine ⟨_, _, hrunT, ?_⟩
      have hD := h.work hgu (gs' := (gs.map (woken P b b' w')).setIfInBounds s.W b') (by rw [get_other h.w0 h.g0, woken_run ha]) (get_own hltW) (by simp)
      exact hnext (sl := sl) (hM.rely hD.2) hD.1 (hL.party (.inr rfl) hltW ofEvents_g) ((hT.grow (fun _ h => h) fun x hx => .inl hx).work h.w0 hD.1.apart hgu.evs)
    | _ => rw [hgo] at hs; exact hs.elim
  have wgoes : ∀ {w : World}, RelF FW w0 w → GoesF P false (SW vs) FW b w := fun hrel => GoesF.step hrW fun w1 h1 => goes_mono (hstep w1 (hrel.trans h1)) fun _ _ _ hx => ⟨hx.1, hx.2.1⟩
  refine @GoesF.induct _ _ _ _ _ _ (fun F0 a w => ∀ {gs : Array Goroutine} {sl : Option (Nat × Nat)} {t : Trace} {q : Nat → Nat} {kp kt : Nat}, RelF FW w0 w → Dua P s kp kt false F0 FW gs a b w → LeaveX (Two s.W) P t gs q → TrB s.W F0 FW t → Reaches P (Fin P s SM SW (acc ++ vs)) (crowd gs w sl) t) hM ?_ ?_
  · intro F0 a w hs gs sl t q kp kt
    suffices H : ∀ M w gs sl t q, sumTo s.size q ≤ M → (∀ w1, RelF F0 w w1 → SM acc F0 a w1) → RelF FW w0 w → Dua P s kp kt false F0 FW gs a b w → LeaveX (Two s.W) P t gs q → TrB s.W F0 FW t → Reaches P (Fin P s SM SW (acc ++ vs)) (crowd gs w sl) t from H _ w gs sl t q (Nat.le_refl _) hs
    intro M
    induction M using Nat.strongRecOn with
    | ind M ih =>
      intro w gs sl t q hM hs hrel h hL hT
      have ha := sm_run hp (hs w (.refl _ _))
      rcases h.pick hL (awake_run ha) (awake_run hrW) (.inl ha) (fun d => again_run ha _) (fun d => again_run hrW _) sl with ⟨d, sl', _, hst⟩ | ⟨d, sl', _, hst⟩ | ⟨d, sl', gs', q', i, fn, pos, es, hi0, hiW, hm, hst, h', hL', hlt⟩
      · obtain ⟨A2, h1, h2⟩ := hp.selAt (hs (w.at d) (RelF.at F0 w d))
        obtain ⟨gs', ops, hr, rfl, hD', hL'⟩ := sel_waits hp (h.at d h.g0 h.gW rfl) hL h1 hrW sl'
        refine Reaches.step (hst.trans hr) ?_
        rw [Array.append_empty]
        exact walk_park hp hV (wgoes (hrel.trans (RelF.at FW w d))) h2 hD' hL' hT
      · obtain ⟨m, ops, hr, hR⟩ := wmove (sl := sl') (GoesF.stop fun w1 h1 => hs w1 ((RelF.at F0 w d).trans h1)) ha (hrel.trans (RelF.at FW w d)) (h.at d h.g0 h.gW rfl) hL hT
        exact Reaches.step (hst.trans hr) hR
      · refine Reaches.step hst ?_
        exact ih (sumTo s.size q') (by omega) (w.at d) gs' sl' _ q' (Nat.le_refl _) (fun w1 h1 => hs w1 ((RelF.at F0 w d).trans h1)) (hrel.trans (RelF.at FW w d)) h' hL' (slip_tr hT hi0 hiW hm)
  · intro F0 a w hrun hmstep gs sl t q kp kt
    suffices H : ∀ M w gs sl t q, sumTo s.size q ≤ M → (∀ w1, RelF F0 w w1 → (stepG P true a w1).goes fun g' w' es => GuarF F0 w1 w' es ∧ GoesF P true (SM acc) (Grow F0 w1 w') g' w' ∧ ∀ {gs : Array Goroutine} {sl : Option (Nat × Nat)} {t : Trace} {q : Nat → Nat} {kp kt : Nat}, RelF FW w0 w' → Dua P s kp kt false (Grow F0 w1 w') FW gs g' b w' → LeaveX (Two s.W) P t gs q → TrB s.W (Grow F0 w1 w') FW t → Reaches P (Fin P s SM SW (acc ++ vs)) (crowd gs w' sl) t) → RelF FW w0 w → Dua P s kp kt false F0 FW gs a b w → LeaveX (Two s.W) P t gs q → TrB s.W F0 FW t → Reaches P (Fin P s SM SW (acc ++ vs)) (crowd gs w sl) t from H _ w gs sl t q (Nat.le_refl _) hmstep
    intro M
    induction M using Nat.strongRecOn with
    | ind M ih =>
      intro w gs sl t q hM hmstep hrel h hL hT
      rcases h.pick hL (awake_run hrun) (awake_run hrW) (.inl hrun) (fun d => again_run hrun _) (fun d => again_run hrW _) sl with ⟨d, sl', _, hst⟩ | ⟨d, sl', _, hst⟩ | ⟨d, sl', gs', q', i, fn, pos, es, hi0, hiW, hm, hst, h', hL', hlt⟩
      · have hs := hmstep (w.at d) (RelF.at F0 w d)
        have hlt0 : 0 < gs.size := (Array.getElem?_eq_some_iff.1 h.g0).1
        cases hgo : stepG P true a (w.at d) with
        | go a' w' es =>
          rw [hgo, goes_go] at hs
          obtain ⟨hgu, _, hnext⟩ := hs
          have hrunT := runT_crowd_go (P := P) (sl := sl') (i := 0) h.g0 (show stepG P (0 == 0) a (w.at d) = _ from hgo)
          refine Reaches.step (hst.trans hrunT) ?_
          have hD := (h.at d h.g0 h.gW rfl).main hgu (gs' := (gs.map (woken P a a' w')).setIfInBounds 0 a') (get_own hlt0) (by rw [get_other (Ne.symm h.w0) h.gW, woken_run hrW]) (by simp)
          exact hnext (sl := sl') ((hrel.trans (RelF.at FW w d)).trans hD.2) hD.1 (hL.party (.inl rfl) hlt0 ofEvents_g) ((hT.grow (fun x hx => .inl hx) fun _ h => h).main h.w0 hD.1.apart hgu.evs)
        | _ => rw [hgo] at hs; exact hs.elim
      · obtain ⟨m, ops, hr, hR⟩ := wmove (sl := sl') (GoesF.step hrun fun w1 h1 => goes_mono (hmstep w1 ((RelF.at F0 w d).trans h1)) fun _ _ _ hx => ⟨hx.1, hx.2.1⟩) hrun (hrel.trans (RelF.at FW w d)) (h.at d h.g0 h.gW rfl) hL hT
        exact Reaches.step (hst.trans hr) hR
      · refine Reaches.step hst ?_
        exact ih (sumTo s.size q') (by omega) (w.at d) gs' sl' _ q' (Nat.le_refl _) (fun w1 h1 => hmstep w1 ((RelF.at F0 w d).trans h1)) (hrel.trans (RelF.at FW w d)) h' hL' (slip_tr hT hi0 hiW hm)
/-- (vi) Both on their way. -/
theorem walk_walk (hp : Parts P s SM SW OkV) {vs : List Value} (hV : Tail P s SM SW vs) : Claim P s SM SW vs := by
  intro acc F0 FW gs a b w sl t q kp kt hM hW h hL hT
  revert F0 gs a sl t q kp kt
  refine hW.induct (X := fun FW b w => ∀ {F0 : Nat → Prop} {gs : Array Goroutine} {a : Goroutine} {sl : Option (Nat × Nat)} {t : Trace} {q : Nat → Nat} {kp kt : Nat}, GoesF P true (SM acc) F0 a w → Dua P s kp kt false F0 FW gs a b w → LeaveX (Two s.W) P t gs q → TrB s.W F0 FW t → Reaches P (Fin P s SM SW (acc ++ vs)) (crowd gs w sl) t) ?_ ?_
  · intro FW b w hs F0 gs a sl t q kp kt hM h hL hT
    exact stop_walk hp hV hM (hs w (.refl _ _)) h hL hT
  · intro FW b w hrun hstep F0 gs a sl t q kp kt hM h hL hT
    exact walk_walk_in hp hV hrun hstep hM (.refl _ _) h hL hT
/-- THE DUET. -/
theorem duet (hp : Parts P s SM SW OkV) : ∀ vs : List Value, Claim P s SM SW vs
  | [] => walk_walk hp fun _ _ e => by cases e
  | v :: vs => walk_walk hp fun v' vs' e => by
    cases e
    exact duet hp vs
end
end
end Go.Proofs.YtignemioillaiaaGreat
