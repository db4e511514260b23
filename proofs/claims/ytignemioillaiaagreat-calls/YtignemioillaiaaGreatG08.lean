/- The duet: the worker sends, goroutine 0 takes at its select; the worker closes, goroutine 0 leaves its select. -/
import Derived.Test.YtignemioillaiaaGreatG07
namespace Go.Proofs.YtignemioillaiaaGreat
set_option maxHeartbeats 8000000
set_option maxRecDepth 100000
section
open Go Go.Conc
open Go.ConcN (sumTo upd sumTo_upd upd_ne upd_same)
theorem LeaveX.same {Sp : Nat → Prop} {P : Program} {t : Trace} {gs gs' : Array Goroutine} {q : Nat → Nat} (h : LeaveX Sp P t gs q) (hs : gs'.size = gs.size) (ho : ∀ k, ¬ Sp k → gs'[k]? = gs[k]?) {u : Trace} (hu : NoEar u) : LeaveX Sp P (t ++ u) gs' q := by
  refine ⟨fun i g hi hg => ?_, fun j hj => ?_⟩
  · rw [ho i hi] at hg
    rw [deaf_app hu]
    exact h.old i g hi hg
  · rw [deaf_app hu]
    exact h.above j (by rw [← hs]; exact hj)
theorem noEar_nil : NoEar #[] := by
  intro op hop
  simp at hop
section
variable (P : Program) (s : Score) (SM SW : List Value → (Nat → Prop) → Goroutine → World → Prop) (OkV : Value → Prop)
abbrev Score.cs (s : Score) : Array CommCase := cases2 s.pk s.th s.z0 s.z1
/-- Goroutine 0 at its select. -/
structure SelAt (acc : List Value) (F : Nat → Prop) (A2 : Goroutine) (w : World) : Prop where
  at0 : ∃ a0, SM acc F a0 w ∧ AtSel P s.cs A2 a0
  next : ∀ v, OkV v → GoesF P true (SM (acc ++ [v])) F (A2.finishComm P s.cs .select 0 v true) w
/-- What is asked of the two parts. -/
structure Parts : Prop where
  mrel : ∀ acc F a w w1, SM acc F a w → RelF F w w1 → SM acc F a w1
  wrel : ∀ vs F b w w1, SW vs F b w → RelF F w w1 → SW vs F b w1
  sel : ∀ acc F a w, SM acc F a w → ∃ A2, AtSel P s.cs A2 a ∧ ∀ v, OkV v → GoesF P true (SM (acc ++ [v])) F (A2.finishComm P s.cs .select 0 v true) w
  send : ∀ v vs F b w, SW (v :: vs) F b w → OkV v ∧ b.status = .running ∧ ∃ B2 z, (∀ w, stepG P false b w = .comm B2 #[scase s.pk v z] true .send w #[]) ∧ GoesF P false (SW vs) F (Go.Conc.served B2 undef) w
  close : ∀ F b w, SW [] F b w → b.status = .running ∧ mayWake P b = true ∧ ∃ b' k, QuitsD P k 0 b' ∧ ∀ w1 kt, w1.heap[s.th]? = some (.chan 0 #[] false kt kt false) → stepG P false b w1 = .go b' { w1 with heap := w1.heap.setIfInBounds s.th (.chan 0 #[] true kt kt false) } #[⟨.obj s.th, false, true⟩, ⟨.obj s.th, true, true⟩]
/-- THE END OF A DUET. -/
def Fin (acc : List Value) (m : Machine) (t : Trace) : Prop := ∃ gs w sl q F0 FW A2 b a0 b0 kp kt, m = crowd gs w sl ∧ Dua P s kp kt true F0 FW gs (A2.finishComm P s.cs .select 1 s.z1 false) b w ∧ SM acc F0 a0 w ∧ AtSel P s.cs A2 a0 ∧ SW [] FW b0 w ∧ LeaveX (· = 0) P t gs q ∧ PastU t
end
section
variable {P : Program} {s : Score} {SM SW : List Value → (Nat → Prop) → Goroutine → World → Prop} {OkV : Value → Prop}
theorem SelAt.rely (hp : Parts P s SM SW OkV) {acc : List Value} {F : Nat → Prop} {A2 : Goroutine} {w w1 : World} (h : SelAt P s SM OkV acc F A2 w) (hr : RelF F w w1) : SelAt P s SM OkV acc F A2 w1 := by
  obtain ⟨a0, h1, h2⟩ := h.at0
  exact ⟨⟨a0, hp.mrel _ _ _ _ _ h1 hr, h2⟩, fun v hv => (h.next v hv).rely hr⟩
theorem Parts.selAt (hp : Parts P s SM SW OkV) {acc : List Value} {F : Nat → Prop} {a : Goroutine} {w : World} (h : SM acc F a w) : ∃ A2, AtSel P s.cs A2 a ∧ SelAt P s SM OkV acc F A2 w := by
  obtain ⟨A2, h1, h2⟩ := hp.sel acc F a w h
  exact ⟨A2, h1, ⟨⟨a, h, h1⟩, h2⟩⟩
theorem AtSel.tries {A2 a : Goroutine} (h : AtSel P s.cs A2 a) : AtSel P s.cs A2 { parked A2 s.cs .select with status := .running } :=
  ⟨rfl, rfl, rfl, rfl, fun w => by rw [← h.com w]; exact stepG_same h.fr.symm h.cl.symm h.dy.symm w⟩
/-- The blocks that the worker knows when it has closed. -/
def withTh (s : Score) (FW : Nat → Prop) (b : Nat) : Prop := FW b ∨ b = s.th
theorem mute_ops {i : Nat} {fn : FuncId} {pos : String} {es : Array Event} (hm : ∀ e ∈ es, Event.mute e = true) : ∀ op ∈ MemOp.ofEvents i fn pos es, op.act.touch? = none := fun op hop => by
  obtain ⟨e, he, ea, _⟩ := ops_ev hop
  rw [ea]
  exact touch_mute (hm e he)
/-- Behind the close, at the select. -/
theorem closed_sel (hp : Parts P s SM SW OkV) {acc : List Value} : ∀ (M : Nat) {F0 FW T0 TW : Nat → Prop} {gs : Array Goroutine} {a A2 b b0 : Goroutine} {w : World} {sl : Option (Nat × Nat)} {t : Trace} {q : Nat → Nat} {kp kt pc : Nat}, sumTo s.size q ≤ M → AtSel P s.cs A2 a → SelAt P s SM OkV acc F0 A2 w → SW [] FW b0 w → Dua P s kp kt true F0 FW gs a b w → LeaveX (· = 0) P t gs q → TrC s.th pc T0 TW t → Reaches P (Fin P s SM SW acc) (crowd gs w sl) t := by
  intro M
  induction M using Nat.strongRecOn with
  | ind M ih =>
    intro F0 FW T0 TW gs a A2 b b0 w sl t q kp kt pc hM hs hS hW h hL hT
    have haw := hL.awake fun i g hi hg => by cases hi; rw [h.g0] at hg; cases hg; exact awake_of (.inl hs.run)
    obtain ⟨i, g, d, sl', hi, hg, hst⟩ := crowd_pick (P := P) (w := w) (sl := sl) haw ⟨0, a, h.g0, hs.run⟩
    have hlt : 0 < gs.size := (Array.getElem?_eq_some_iff.1 h.g0).1
    have hltW : s.W < gs.size := (Array.getElem?_eq_some_iff.1 h.gW).1
    by_cases hi0 : i = 0
    · subst hi0
      obtain rfl : g = a := by have := h.g0; rw [hi] at this; exact Option.some.inj this
      have hpn : ∀ c, partners (gs.setIfInBounds 0 ph) c true = [] := fun c => parts_nil hL fun j x hj hne _ => absurd hj hne
      have hr := crowd_sel_recv_closed (P := P) (sl := sl') (i := 0) (k := 1) (c := s.th) (z := s.z1) (s := kt) (r := kt) hi (show stepG P (0 == 0) g (w.at d) = _ from hs.com (w.at d)) rfl (fun m c' hm hc' => by
        rcases m with _ | m
        · cases hc'
          exact ways_recv_none (h.op.at d) (hpn s.pk)
        · rcases m with _ | m
          · exact absurd rfl hm
          · simp [Score.cs, cases2] at hc') h.ot (hpn s.th)
      refine Reaches.step (hst.trans hr) (.here ?_)
      have hops : (MemOp.ofEvents 0 g.frame.fn g.frame.place #[] : Trace) = #[] := rfl
      rw [hops, Array.empty_append]
      obtain ⟨a0, ha0, hat⟩ := (hS.rely hp (RelF.at F0 w d)).at0
      refine ⟨_, w.at d, sl', q, F0, FW, A2, b, a0, b0, kp, kt, rfl, h.at d ?_ ?_ (by simp), ha0, hat, hp.wrel _ _ _ _ _ hW (RelF.at FW w d), ?_, hT.met _ _⟩
      · rw [Array.getElem?_setIfInBounds_self_of_lt hlt]; rfl
      · rw [Array.getElem?_setIfInBounds_ne (Ne.symm h.w0)]; exact h.gW
      · exact hL.same (by simp) (fun k hk => Array.getElem?_setIfInBounds_ne (Ne.symm hk)) (by
          intro op hop
          simp only [List.mem_toArray, List.mem_cons, List.not_mem_nil, or_false] at hop
          subst hop
          exact ⟨nofun, nofun⟩)
    · obtain ⟨g', es, q', hm, hrT, hL', hlt'⟩ := hL.slip (w := w.at d) hi hi0 hi0 hg sl'
      refine Reaches.step (hst.trans hrT) ?_
      rw [h.sz] at hlt'
      have hWx : ∃ b', ((gs.map (woken P g g' (w.at d))).setIfInBounds i g')[s.W]? = some b' := ⟨_, Array.getElem?_eq_getElem (by simpa using hltW)⟩
      obtain ⟨b', hb'⟩ := hWx
      exact ih (sumTo s.size q') (by omega) (Nat.le_refl _) hs (hS.rely hp (RelF.at F0 w d)) (hp.wrel _ _ _ _ _ hW (RelF.at FW w d)) (h.at d (by rw [get_other hi0 h.g0, woken_run hs.run]) hb' (by simp)) hL' (hT.still (mute_ops hm) ((Deaf_other t hi0 _ ofEvents_g).trans hT.ear0))
/-- Behind the close, on the way to the select. -/
theorem closed_walk (hp : Parts P s SM SW OkV) {acc : List Value} {F0 : Nat → Prop} {a : Goroutine} {w : World} (hM : GoesF P true (SM acc) F0 a w) : ∀ {FW : Nat → Prop} {gs : Array Goroutine} {b b0 : Goroutine} {sl : Option (Nat × Nat)} {t : Trace} {q : Nat → Nat} {kp kt pc : Nat}, SW [] FW b0 w → Dua P s kp kt true F0 FW gs a b w → LeaveX (· = 0) P t gs q → TrC s.th pc F0 (withTh s FW) t → Reaches P (Fin P s SM SW acc) (crowd gs w sl) t := by
  refine hM.induct (X := fun F0 a w => ∀ {FW : Nat → Prop} {gs : Array Goroutine} {b b0 : Goroutine} {sl : Option (Nat × Nat)} {t : Trace} {q : Nat → Nat} {kp kt pc : Nat}, SW [] FW b0 w → Dua P s kp kt true F0 FW gs a b w → LeaveX (· = 0) P t gs q → TrC s.th pc F0 (withTh s FW) t → Reaches P (Fin P s SM SW acc) (crowd gs w sl) t) ?_ ?_
  · intro F0 a w hs FW gs b b0 sl t q kp kt pc hW h hL hT
    obtain ⟨A2, h1, h2⟩ := hp.selAt (hs w (.refl _ _))
    exact closed_sel hp _ (Nat.le_refl _) h1 h2 hW h hL hT
  · intro F0 a w hrun hstep FW gs b b0 sl t q kp kt pc
    suffices H : ∀ M w gs b sl t q, sumTo s.size q ≤ M → (∀ w1, RelF F0 w w1 → (stepG P true a w1).goes fun g' w' es => GuarF F0 w1 w' es ∧ GoesF P true (SM acc) (Grow F0 w1 w') g' w' ∧ ∀ {FW : Nat → Prop} {gs : Array Goroutine} {b b0 : Goroutine} {sl : Option (Nat × Nat)} {t : Trace} {q : Nat → Nat} {kp kt pc : Nat}, SW [] FW b0 w' → Dua P s kp kt true (Grow F0 w1 w') FW gs g' b w' → LeaveX (· = 0) P t gs q → TrC s.th pc (Grow F0 w1 w') (withTh s FW) t → Reaches P (Fin P s SM SW acc) (crowd gs w' sl) t) → SW [] FW b0 w → Dua P s kp kt true F0 FW gs a b w → LeaveX (· = 0) P t gs q → TrC s.th pc F0 (withTh s FW) t → Reaches P (Fin P s SM SW acc) (crowd gs w sl) t from H _ w gs b sl t q (Nat.le_refl _) hstep
    intro M
    induction M using Nat.strongRecOn with
    | ind M ih =>
      intro w gs b sl t q hM hstep hW h hL hT
      have haw := hL.awake fun i g hi hg => by cases hi; rw [h.g0] at hg; cases hg; exact awake_of (.inl hrun)
      obtain ⟨i, g, d, sl', hi, hg, hst⟩ := crowd_pick (P := P) (w := w) (sl := sl) haw ⟨0, a, h.g0, hrun⟩
      have hlt : 0 < gs.size := (Array.getElem?_eq_some_iff.1 h.g0).1
      have hltW : s.W < gs.size := (Array.getElem?_eq_some_iff.1 h.gW).1
      by_cases hi0 : i = 0
      · subst hi0
        obtain rfl : g = a := by have := h.g0; rw [hi] at this; exact Option.some.inj this
        have hs := hstep (w.at d) (RelF.at F0 w d)
        cases hgo : stepG P true g (w.at d) with
        | go a' w' es =>
          rw [hgo, goes_go] at hs
          obtain ⟨hgu, _, hnext⟩ := hs
          have hrunT := runT_crowd_go (P := P) (sl := sl') (i := 0) hi (show stepG P (0 == 0) g (w.at d) = _ from hgo)
          refine Reaches.step (hst.trans hrunT) ?_
          obtain ⟨b', hb'⟩ : ∃ b', ((gs.map (woken P g a' w')).setIfInBounds 0 a')[s.W]? = some b' := ⟨_, Array.getElem?_eq_getElem (by simpa using hltW)⟩
          have hD := (h.at d h.g0 h.gW rfl).main hgu (get_own hlt) hb' (by simp)
          refine hnext (sl := sl') (hp.wrel _ _ _ _ _ (hp.wrel _ _ _ _ _ hW (RelF.at FW w d)) hD.2) hD.1 (hL.party rfl hlt ofEvents_g) (hT.grow.main ?_ hgu.evs)
          rintro x hx (hx' | rfl)
          · exact hD.1.apart x hx hx'
          · exact hD.1.not0.2 hx
        | _ => rw [hgo] at hs; exact hs.elim
      · obtain ⟨g', es, q', hm, hrT, hL', hlt'⟩ := hL.slip (w := w.at d) hi hi0 hi0 hg sl'
        refine Reaches.step (hst.trans hrT) ?_
        rw [h.sz] at hlt'
        obtain ⟨b', hb'⟩ : ∃ b', ((gs.map (woken P g g' (w.at d))).setIfInBounds i g')[s.W]? = some b' := ⟨_, Array.getElem?_eq_getElem (by simpa using hltW)⟩
        exact ih (sumTo s.size q') (by omega) (w.at d) _ b' sl' _ q' (Nat.le_refl _) (fun w1 h1 => hstep w1 ((RelF.at F0 w d).trans h1)) (hp.wrel _ _ _ _ _ hW (RelF.at FW w d)) (h.at d (by rw [get_other hi0 h.g0, woken_run hrun]) hb' (by simp)) hL' (hT.still (mute_ops hm) ((Deaf_other t hi0 _ ofEvents_g).trans hT.ear0))
end
section
variable {P : Program} {s : Score} {SM SW : List Value → (Nat → Prop) → Goroutine → World → Prop} {OkV : Value → Prop}
theorem noEar4 {W : Nat} {c k : Nat} {fn fn' : FuncId} {pos pos' : String} : NoEar #[⟨W, fn, pos, .send c k⟩, ⟨0, fn', pos', .recv c k 0⟩, ⟨W, fn, pos, .sendDone c k⟩, ⟨0, fn', pos', .recvDone c k⟩] := by
  intro op hop
  simp only [List.mem_toArray, List.mem_cons, List.not_mem_nil, or_false] at hop
  rcases hop with rfl | rfl | rfl | rfl <;> exact ⟨nofun, nofun⟩
theorem chan_pass {w : World} {k kt : Nat} {clo : Bool} (h1 : ChOpen w s.pk k) (h2 : w.heap[s.th]? = some (.chan 0 #[] clo kt kt false)) (hne : s.pk ≠ s.th) :
    ChOpen { w with heap := w.heap.setIfInBounds s.pk (.chan 0 #[] false (k + 1) (k + 1) false) } s.pk (k + 1) ∧ (w.heap.setIfInBounds s.pk (.chan 0 #[] false (k + 1) (k + 1) false))[s.th]? = some (.chan 0 #[] clo kt kt false) := by
  constructor
  · show (w.heap.setIfInBounds s.pk _)[s.pk]? = _
    rw [Array.getElem?_setIfInBounds_self_of_lt (lt_heap h1)]
  · rw [Array.getElem?_setIfInBounds_ne hne]
    exact h2
/-- The worker sends; goroutine 0 is parked at its select. -/
theorem exch_send (_hp : Parts P s SM SW OkV) {acc vs : List Value} {v z : Value} {F0 FW T0 TW : Nat → Prop} {gs : Array Goroutine} {A2 B2 b : Goroutine} {w : World} {t : Trace} {q : Nat → Nat} {kp kt : Nat} (h : Dua P s kp kt false F0 FW gs (parked A2 s.cs .select) b w) (hL : LeaveX (Two s.W) P t gs q) (hT : TrB s.W T0 TW t)
    (hS : SelAt P s SM OkV acc F0 A2 w) (hv : OkV v) (hb : ∀ w, stepG P false b w = .comm B2 #[scase s.pk v z] true .send w #[]) (hn : GoesF P false (SW vs) FW (Go.Conc.served B2 undef) w) (sl : Option (Nat × Nat)) :
    ∃ gs' a' b' w' ops, runT P (crowd gs w sl) s.W = (.next (crowd gs' w' sl), ops) ∧ Dua P s (kp + 1) kt false F0 FW gs' a' b' w' ∧ LeaveX (Two s.W) P (t ++ ops) gs' q ∧ TrB s.W F0 FW (t ++ ops) ∧ GoesF P true (SM (acc ++ [v])) F0 a' w' ∧ GoesF P false (SW vs) FW b' w' := by
  have hlt : 0 < gs.size := (Array.getElem?_eq_some_iff.1 h.g0).1
  have hltW : s.W < gs.size := (Array.getElem?_eq_some_iff.1 h.gW).1
  have hpar : partners (gs.setIfInBounds s.W ph) s.pk false = [(0, 0)] := by
    have hoff : offersAt (parked A2 s.cs .select) s.pk false = [0] := offersAt_parked_at (k := 0) (z := s.z0) rfl fun m cc hm hcc => by
      rcases m with _ | m
      · exact absurd rfl hm
      · rcases m with _ | m
        · cases hcc
          intro e
          have e' : Value.chan (some s.th) = Value.chan (some s.pk) := e
          injection e' with e1
          injection e1 with e2
          exact h.pt e2.symm
        · simp [Score.cs, cases2] at hcc
    have := partners_one (gs := gs.setIfInBounds s.W ph) (r := s.pk) (send := false) (j := 0) (g := parked A2 s.cs .select) (stand_get (Ne.symm h.w0) h.g0) fun k x hk hx => by
      rcases getElem?_stand gs s.W k x hx with ⟨_, rfl⟩ | ⟨hne, hx⟩
      · rfl
      · exact quit_offers (hL.old k x (fun hh => hh.elim hk hne) hx) _ _
    rw [this, hoff]
    rfl
  have hr := crowd_send_meets_sel (P := P) (sl := sl) (i := s.W) (j := 0) (k := 0) (zj := s.z0) (c := s.pk) (s := kp) (r := kp) h.gW (show stepG P (s.W == 0) b w = _ by rw [show (s.W == 0) = false by simpa using h.w0]; exact hb w) h.op (Ne.symm h.w0) h.g0 rfl hpar
  obtain ⟨c1, c2⟩ := chan_pass h.op h.ot h.pt
  have hD := h.chan (.inl rfl) (gs' := (gs.setIfInBounds 0 (A2.finishComm P s.cs .select 0 v true)).setIfInBounds s.W (Go.Conc.served B2 undef)) (a' := A2.finishComm P s.cs .select 0 v true) (b' := Go.Conc.served B2 undef)
    (by rw [Array.getElem?_setIfInBounds_ne h.w0, Array.getElem?_setIfInBounds_self_of_lt hlt]) (by rw [Array.getElem?_setIfInBounds_self_of_lt (by simpa using hltW)]) (by simp) c1 c2
  refine ⟨_, _, _, _, _, hr, hD.1, ?_, ?_, (hS.next v hv).rely hD.2.1, hn.rely hD.2.2⟩
  · exact hL.same (by simp) (fun k hk => by rw [Array.getElem?_setIfInBounds_ne (fun e => hk (.inr e.symm)), Array.getElem?_setIfInBounds_ne (fun e => hk (.inl e.symm))]) noEar4
  · exact hT.exchange F0 FW s.pk kp _ _ _ _
/-- Goroutine 0 comes to its select; the worker is parked at its send. -/
theorem exch_recv (_hp : Parts P s SM SW OkV) {acc vs : List Value} {v z : Value} {F0 FW T0 TW : Nat → Prop} {gs : Array Goroutine} {a A2 B2 : Goroutine} {w : World} {t : Trace} {q : Nat → Nat} {kp kt : Nat} (h : Dua P s kp kt false F0 FW gs a (parked B2 #[scase s.pk v z] .send) w) (hL : LeaveX (Two s.W) P t gs q) (hT : TrB s.W T0 TW t)
    (ha : AtSel P s.cs A2 a) (hS : SelAt P s SM OkV acc F0 A2 w) (hv : OkV v) (hn : GoesF P false (SW vs) FW (Go.Conc.served B2 undef) w) (sl : Option (Nat × Nat)) :
    ∃ gs' a' b' w' ops, runT P (crowd gs w sl) 0 = (.next (crowd gs' w' sl), ops) ∧ Dua P s (kp + 1) kt false F0 FW gs' a' b' w' ∧ LeaveX (Two s.W) P (t ++ ops) gs' q ∧ TrB s.W F0 FW (t ++ ops) ∧ GoesF P true (SM (acc ++ [v])) F0 a' w' ∧ GoesF P false (SW vs) FW b' w' := by
  have hlt : 0 < gs.size := (Array.getElem?_eq_some_iff.1 h.g0).1
  have hltW : s.W < gs.size := (Array.getElem?_eq_some_iff.1 h.gW).1
  have hpar : partners (gs.setIfInBounds 0 ph) s.pk true = [(s.W, 0)] := by
    have hoff : offersAt (parked B2 #[scase s.pk v z] .send) s.pk true = [0] := by rw [offersAt_parked_send, if_pos rfl]
    have := partners_one (gs := gs.setIfInBounds 0 ph) (r := s.pk) (send := true) (j := s.W) (g := parked B2 #[scase s.pk v z] .send) (stand_get h.w0 h.gW) fun k x hk hx => by
      rcases getElem?_stand gs 0 k x hx with ⟨_, rfl⟩ | ⟨hne, hx⟩
      · rfl
      · exact quit_offers (hL.old k x (fun hh => hh.elim hne hk) hx) _ _
    rw [this, hoff]
    rfl
  have hpth : partners (gs.setIfInBounds 0 ph) s.th true = [] := parts_nil hL fun j x hj hne hx => by
    rcases hj with rfl | rfl
    · exact absurd rfl hne
    · rw [h.gW] at hx; cases hx
      rw [offersAt_parked_send, if_neg h.pt]
  have hr := crowd_sel_recv_meets (P := P) (sl := sl) (i := 0) (j := s.W) (k := 0) (z := s.z0) (zj := z) (c := s.pk) (s := kp) (r := kp) (v := v) h.g0 (show stepG P (0 == 0) a w = _ from ha.com w) rfl (fun m c' hm hc' => by
    rcases m with _ | m
    · exact absurd rfl hm
    · rcases m with _ | m
      · cases hc'
        exact ways_recv_none h.ot hpth
      · simp [Score.cs, cases2] at hc') h.op h.w0 h.gW hpar
  obtain ⟨c1, c2⟩ := chan_pass h.op h.ot h.pt
  have hD := h.chan (.inl rfl) (gs' := (gs.setIfInBounds s.W (Go.Conc.served B2 undef)).setIfInBounds 0 (A2.finishComm P s.cs .select 0 v true)) (a' := A2.finishComm P s.cs .select 0 v true) (b' := Go.Conc.served B2 undef)
    (by rw [Array.getElem?_setIfInBounds_self_of_lt (by simpa using hlt)]) (by rw [Array.getElem?_setIfInBounds_ne (Ne.symm h.w0), Array.getElem?_setIfInBounds_self_of_lt hltW]) (by simp) c1 c2
  refine ⟨_, _, _, _, _, hr, hD.1, ?_, ?_, (hS.next v hv).rely hD.2.1, hn.rely hD.2.2⟩
  · exact hL.same (by simp) (fun k hk => by rw [Array.getElem?_setIfInBounds_ne (fun e => hk (.inl e.symm)), Array.getElem?_setIfInBounds_ne (fun e => hk (.inr e.symm))]) noEar4
  · exact hT.exchange F0 FW s.pk kp _ _ _ _
theorem Dua.apartTh {kp kt : Nat} {clo : Bool} {F0 FW : Nat → Prop} {gs : Array Goroutine} {a b : Goroutine} {w : World} (h : Dua P s kp kt clo F0 FW gs a b w) : ∀ x, F0 x → ¬ withTh s FW x := by
  rintro x hx (hx' | rfl)
  · exact h.apart x hx hx'
  · exact h.not0.2 hx
/-- The worker closes. -/
theorem duo_close (hp : Parts P s SM SW OkV) {F0 FW T0 TW : Nat → Prop} {gs : Array Goroutine} {a b : Goroutine} {w : World} {t : Trace} {q : Nat → Nat} {kp kt : Nat} (h : Dua P s kp kt false F0 FW gs a b w) (hL : LeaveX (Two s.W) P t gs q) (hT : TrB s.W T0 TW t) (hd : ∀ x, T0 x → ¬ withTh s TW x) (hW : SW [] FW b w) (sl : Option (Nat × Nat)) :
    ∃ gs' b' w' ops q' pc, runT P (crowd gs w sl) s.W = (.next (crowd gs' w' sl), ops) ∧ w'.heap[s.th]? = some (.chan 0 #[] true kt kt false) ∧ Dua P s kp kt true F0 FW gs' (a.again w') b' w' ∧ SW [] FW b w' ∧ RelF F0 w w' ∧ LeaveX (· = 0) P (t ++ ops) gs' q' ∧ TrC s.th pc T0 (withTh s TW) (t ++ ops) := by
  have hltW : s.W < gs.size := (Array.getElem?_eq_some_iff.1 h.gW).1
  obtain ⟨_, hwake, b', k, hq, hst⟩ := hp.close FW b w hW
  have hgo := hst w kt h.ot
  have hr := runT_crowd_go (P := P) (sl := sl) (i := s.W) h.gW (show stepG P (s.W == 0) b w = _ by rw [show (s.W == 0) = false by simpa using h.w0]; exact hgo)
  have hwk : ∀ g, woken P b b' { w with heap := w.heap.setIfInBounds s.th (.chan 0 #[] true kt kt false) } g = g.again { w with heap := w.heap.setIfInBounds s.th (.chan 0 #[] true kt kt false) } := by
    intro g
    unfold Go.Conc.woken
    rw [hwake]
    rcases hq.status with e | e <;> rw [e] <;> rfl
  have hth : (w.heap.setIfInBounds s.th (.chan 0 #[] true kt kt false))[s.th]? = some (.chan 0 #[] true kt kt false) := by rw [Array.getElem?_setIfInBounds_self_of_lt (lt_heap h.ot)]
  have hD := h.chan (.inr rfl) (o := .chan 0 #[] true kt kt false) (gs' := (gs.map (woken P b b' { w with heap := w.heap.setIfInBounds s.th (.chan 0 #[] true kt kt false) })).setIfInBounds s.W b') (a' := a.again { w with heap := w.heap.setIfInBounds s.th (.chan 0 #[] true kt kt false) }) (b' := b') (kp' := kp) (kt' := kt) (clo' := true)
    (by rw [get_other h.w0 h.g0, hwk]) (get_own hltW) (by simp) (by show (w.heap.setIfInBounds s.th _)[s.pk]? = _; rw [Array.getElem?_setIfInBounds_ne (Ne.symm h.pt)]; exact h.op) hth
  have hTc := (hT.grow (F0' := T0) (FW' := withTh s TW) (fun _ h => h) fun _ h => .inl h).close h.w0 hd (c := s.th) (.inr rfl) b.frame.fn b.frame.place
  have hLp := hL.party (g := b) (g' := b') (w' := { w with heap := w.heap.setIfInBounds s.th (.chan 0 #[] true kt kt false) }) (.inr rfl) hltW (u := MemOp.ofEvents s.W b.frame.fn b.frame.place #[⟨.obj s.th, false, true⟩, ⟨.obj s.th, true, true⟩]) ofEvents_g
  refine ⟨_, b', _, _, upd q s.W k, _, hr, hth, hD.1, hp.wrel _ _ _ _ _ hW hD.2.2, hD.2.1, ⟨fun j x hj hx => ?_, hLp.above⟩, hTc⟩
  by_cases hjW : j = s.W
  · subst hjW
    rw [get_own hltW] at hx
    cases hx
    rw [upd_same, deaf_own, hT.earW]
    · exact hq
    · intro e he
      simp only [List.mem_toArray, List.mem_cons, List.not_mem_nil, or_false] at he
      rcases he with rfl | rfl <;> exact ⟨nofun, nofun⟩
  · rw [upd_ne q k hjW]
    exact hLp.old j x (fun hh => hh.elim hj hjW) hx
end
section
variable {P : Program} {s : Score} {SM SW : List Value → (Nat → Prop) → Goroutine → World → Prop} {OkV : Value → Prop}
/-- From here on, both on their way. -/
def Claim (P : Program) (s : Score) (SM SW : List Value → (Nat → Prop) → Goroutine → World → Prop) (vs : List Value) : Prop :=
  ∀ {acc : List Value} {F0 FW : Nat → Prop} {gs : Array Goroutine} {a b : Goroutine} {w : World} {sl : Option (Nat × Nat)} {t : Trace} {q : Nat → Nat} {kp kt : Nat}, GoesF P true (SM acc) F0 a w → GoesF P false (SW vs) FW b w → Dua P s kp kt false F0 FW gs a b w → LeaveX (Two s.W) P t gs q → TrB s.W F0 FW t → Reaches P (Fin P s SM SW (acc ++ vs)) (crowd gs w sl) t
/-- What is known of the rest of the list. -/
def Tail (P : Program) (s : Score) (SM SW : List Value → (Nat → Prop) → Goroutine → World → Prop) (vs : List Value) : Prop := ∀ v vs', vs = v :: vs' → Claim P s SM SW vs'
theorem awake_run {g : Goroutine} (h : g.status = .running) : awake g := awake_of (.inl h)
theorem awake_parked (g : Goroutine) (cs : Array CommCase) (sh : CommShape) : awake (parked g cs sh) := fun t ht => by cases ht
theorem again_run {g : Goroutine} (h : g.status = .running) (w : World) : g.again w = g := again_running w (.inl h)
theorem sw_run (hp : Parts P s SM SW OkV) {vs : List Value} {F : Nat → Prop} {b : Goroutine} {w : World} (h : SW vs F b w) : b.status = .running := by
  cases vs with
  | nil => exact (hp.close _ _ _ h).1
  | cons v vs => exact (hp.send _ _ _ _ _ h).2.1
theorem sm_run (hp : Parts P s SM SW OkV) {acc : List Value} {F : Nat → Prop} {a : Goroutine} {w : World} (h : SM acc F a w) : a.status = .running := by
  obtain ⟨A2, h1, _⟩ := hp.sel _ _ _ _ h
  exact h1.run
theorem app_cons (acc : List Value) (v : Value) (vs : List Value) : (acc ++ [v]) ++ vs = acc ++ v :: vs := by simp
section
variable {acc vs : List Value} {F0 FW : Nat → Prop} {gs : Array Goroutine} {a b : Goroutine} {w : World} {t : Trace} {q : Nat → Nat} {kp kt : Nat}
/-- Slips keep what the trace tells. -/
theorem slip_tr (hT : TrB s.W F0 FW t) {i : Nat} {fn : FuncId} {pos : String} {es : Array Event} (h0 : i ≠ 0) (hW : i ≠ s.W) (hm : ∀ e ∈ es, Event.mute e = true) : TrB s.W F0 FW (t ++ MemOp.ofEvents i fn pos es) := still_mute hT h0 hW hm
end
/-- (ii) The worker at its stop, goroutine 0 parked. -/
theorem stop_park (hp : Parts P s SM SW OkV) {acc vs : List Value} (hV : Tail P s SM SW vs) : ∀ (M : Nat) {F0 FW T0 TW : Nat → Prop} {gs : Array Goroutine} {A2 b : Goroutine} {w : World} {sl : Option (Nat × Nat)} {t : Trace} {q : Nat → Nat} {kp kt : Nat}, sumTo s.size q ≤ M → SelAt P s SM OkV acc F0 A2 w → SW vs FW b w → Dua P s kp kt false F0 FW gs (parked A2 s.cs .select) b w → LeaveX (Two s.W) P t gs q → TrB s.W T0 TW t → (∀ x, T0 x → ¬ withTh s TW x) → Reaches P (Fin P s SM SW (acc ++ vs)) (crowd gs w sl) t := by
  intro M
  induction M using Nat.strongRecOn with
  | ind M ih =>
    intro F0 FW T0 TW gs A2 b w sl t q kp kt hM hS hW h hL hT hd
    have hrun := sw_run hp hW
    rcases h.pick hL (awake_parked _ _ _) (awake_run hrun) (.inr hrun) (fun d => parked_open (h.op.at d) (show ChOpen (w.at d) s.th kt from h.ot)) (fun d => again_run hrun _) sl with ⟨d, sl', hx, _⟩ | ⟨d, sl', _, hst⟩ | ⟨d, sl', gs', q', i, fn, pos, es, hi0, hiW, hm, hst, h', hL', hlt⟩
    · cases hx
    · have hD := h.at d h.g0 h.gW rfl
      have hS' := hS.rely hp (RelF.at F0 w d)
      have hW' := hp.wrel _ _ _ _ _ hW (RelF.at FW w d)
      cases vs with
      | nil =>
        obtain ⟨gs', b', w', ops, q', pc, hr, hth, hD', hW2, hrel, hL', hT'⟩ := duo_close hp hD hL hT hd hW' sl'
        refine Reaches.step (hst.trans hr) ?_
        have hag : (parked A2 s.cs .select).again w' = { parked A2 s.cs .select with status := .running } := again_some_closed (k := 1) (z := s.z1) (c := s.th) rfl hth
        rw [hag] at hD'
        obtain ⟨a0, _, hat⟩ := hS'.at0
        rw [List.append_nil]
        exact closed_sel hp _ (Nat.le_refl _) hat.tries (hS'.rely hp hrel) hW2 hD' hL' hT'
      | cons v vs' =>
        obtain ⟨hv, _, B2, z, hb, hn⟩ := hp.send _ _ _ _ _ hW'
        obtain ⟨gs', a', b', w', ops, hr, hD', hL', hT', hm', hw'⟩ := exch_send hp hD hL hT hS' hv hb hn sl'
        refine Reaches.step (hst.trans hr) ?_
        rw [← app_cons]
        exact hV v vs' rfl hm' hw' hD' hL' hT'
    · refine Reaches.step hst ?_
      exact ih (sumTo s.size q') (by omega) (Nat.le_refl _) (hS.rely hp (RelF.at F0 w d)) (hp.wrel _ _ _ _ _ hW (RelF.at FW w d)) h' hL' (slip_tr hT hi0 hiW hm) hd
/-- Goroutine 0 at its select, the worker parked at its send. -/
theorem sel_parked (hp : Parts P s SM SW OkV) {acc vs : List Value} {v z : Value} (hV : Claim P s SM SW vs) : ∀ (M : Nat) {F0 FW T0 TW : Nat → Prop} {gs : Array Goroutine} {a A2 B2 : Goroutine} {w : World} {sl : Option (Nat × Nat)} {t : Trace} {q : Nat → Nat} {kp kt : Nat}, sumTo s.size q ≤ M → AtSel P s.cs A2 a → SelAt P s SM OkV acc F0 A2 w → OkV v → GoesF P false (SW vs) FW (Go.Conc.served B2 undef) w → Dua P s kp kt false F0 FW gs a (parked B2 #[scase s.pk v z] .send) w → LeaveX (Two s.W) P t gs q → TrB s.W T0 TW t → Reaches P (Fin P s SM SW (acc ++ v :: vs)) (crowd gs w sl) t := by
  intro M
  induction M using Nat.strongRecOn with
  | ind M ih =>
    intro F0 FW T0 TW gs a A2 B2 w sl t q kp kt hM ha hS hv hn h hL hT
    rcases h.pick hL (awake_run ha.run) (awake_parked _ _ _) (.inl ha.run) (fun d => again_run ha.run _) (fun d => again_send_open (h.op.at d)) sl with ⟨d, sl', _, hst⟩ | ⟨d, sl', hx, _⟩ | ⟨d, sl', gs', q', i, fn, pos, es, hi0, hiW, hm, hst, h', hL', hlt⟩
    · have hD := h.at d h.g0 h.gW rfl
      obtain ⟨gs', a', b', w', ops, hr, hD', hL', hT', hm', hw'⟩ := exch_recv hp hD hL hT ha (hS.rely hp (RelF.at F0 w d)) hv (hn.rely (RelF.at FW w d)) sl'
      refine Reaches.step (hst.trans hr) ?_
      rw [← app_cons]
      exact hV hm' hw' hD' hL' hT'
    · cases hx
    · refine Reaches.step hst ?_
      exact ih (sumTo s.size q') (by omega) (Nat.le_refl _) ha (hS.rely hp (RelF.at F0 w d)) hv (hn.rely (RelF.at FW w d)) h' hL' (slip_tr hT hi0 hiW hm)
/-- (iii) Goroutine 0 on its way, the worker parked at its send. -/
theorem walk_parked (hp : Parts P s SM SW OkV) {acc vs : List Value} {v z : Value} (hV : Claim P s SM SW vs) {F0 : Nat → Prop} {a : Goroutine} {w : World} (hM : GoesF P true (SM acc) F0 a w) : ∀ {FW : Nat → Prop} {gs : Array Goroutine} {B2 : Goroutine} {sl : Option (Nat × Nat)} {t : Trace} {q : Nat → Nat} {kp kt : Nat}, OkV v → GoesF P false (SW vs) FW (Go.Conc.served B2 undef) w → Dua P s kp kt false F0 FW gs a (parked B2 #[scase s.pk v z] .send) w → LeaveX (Two s.W) P t gs q → TrB s.W F0 FW t → Reaches P (Fin P s SM SW (acc ++ v :: vs)) (crowd gs w sl) t := by
  refine hM.induct (X := fun F0 a w => ∀ {FW : Nat → Prop} {gs : Array Goroutine} {B2 : Goroutine} {sl : Option (Nat × Nat)} {t : Trace} {q : Nat → Nat} {kp kt : Nat}, OkV v → GoesF P false (SW vs) FW (Go.Conc.served B2 undef) w → Dua P s kp kt false F0 FW gs a (parked B2 #[scase s.pk v z] .send) w → LeaveX (Two s.W) P t gs q → TrB s.W F0 FW t → Reaches P (Fin P s SM SW (acc ++ v :: vs)) (crowd gs w sl) t) ?_ ?_
  · intro F0 a w hs FW gs B2 sl t q kp kt hv hn h hL hT
    obtain ⟨A2, h1, h2⟩ := hp.selAt (hs w (.refl _ _))
    exact sel_parked hp hV _ (Nat.le_refl _) h1 h2 hv hn h hL hT
  · intro F0 a w hrun hstep FW gs B2 sl t q kp kt
    suffices H : ∀ M w gs sl t q, sumTo s.size q ≤ M → (∀ w1, RelF F0 w w1 → (stepG P true a w1).goes fun g' w' es => GuarF F0 w1 w' es ∧ GoesF P true (SM acc) (Grow F0 w1 w') g' w' ∧ ∀ {FW : Nat → Prop} {gs : Array Goroutine} {B2 : Goroutine} {sl : Option (Nat × Nat)} {t : Trace} {q : Nat → Nat} {kp kt : Nat}, OkV v → GoesF P false (SW vs) FW (Go.Conc.served B2 undef) w' → Dua P s kp kt false (Grow F0 w1 w') FW gs g' (parked B2 #[scase s.pk v z] .send) w' → LeaveX (Two s.W) P t gs q → TrB s.W (Grow F0 w1 w') FW t → Reaches P (Fin P s SM SW (acc ++ v :: vs)) (crowd gs w' sl) t) → OkV v → GoesF P false (SW vs) FW (Go.Conc.served B2 undef) w → Dua P s kp kt false F0 FW gs a (parked B2 #[scase s.pk v z] .send) w → LeaveX (Two s.W) P t gs q → TrB s.W F0 FW t → Reaches P (Fin P s SM SW (acc ++ v :: vs)) (crowd gs w sl) t from H _ w gs sl t q (Nat.le_refl _) hstep
    intro M
    induction M using Nat.strongRecOn with
    | ind M ih =>
      intro w gs sl t q hM hstep hv hn h hL hT
      rcases h.pick hL (awake_run hrun) (awake_parked _ _ _) (.inl hrun) (fun d => again_run hrun _) (fun d => again_send_open (h.op.at d)) sl with ⟨d, sl', _, hst⟩ | ⟨d, sl', hx, _⟩ | ⟨d, sl', gs', q', i, fn, pos, es, hi0, hiW, hm, hst, h', hL', hlt⟩
      · have hs := hstep (w.at d) (RelF.at F0 w d)
        have hlt0 : 0 < gs.size := (Array.getElem?_eq_some_iff.1 h.g0).1
        cases hgo : stepG P true a (w.at d) with
        | go a' w' es =>
          rw [hgo, goes_go] at hs
          obtain ⟨hgu, _, hnext⟩ := hs
          have hrunT := runT_crowd_go (P := P) (sl := sl') (i := 0) h.g0 (show stepG P (0 == 0) a (w.at d) = _ from hgo)
          refine Reaches.step (hst.trans hrunT) ?_
          have hpk : ChOpen w' s.pk kp := ((h.at d h.g0 h.gW rfl).main hgu (gs' := gs.setIfInBounds 0 a') (by rw [Array.getElem?_setIfInBounds_self_of_lt hlt0]) (by rw [Array.getElem?_setIfInBounds_ne (Ne.symm h.w0)]; exact h.gW) (by simp)).1.op
          have hD := (h.at d h.g0 h.gW rfl).main hgu (gs' := (gs.map (woken P a a' w')).setIfInBounds 0 a') (get_own hlt0) (by rw [get_other (Ne.symm h.w0) h.gW, woken_id (again_send_open hpk)]) (by simp)
          exact hnext (sl := sl') hv ((hn.rely (RelF.at FW w d)).rely hD.2) hD.1 (hL.party (.inl rfl) hlt0 ofEvents_g) ((hT.grow (fun x hx => .inl hx) fun _ h => h).main h.w0 hD.1.apart hgu.evs)
        | _ => rw [hgo] at hs; exact hs.elim
      · cases hx
      · refine Reaches.step hst ?_
        exact ih (sumTo s.size q') (by omega) (w.at d) gs' sl' _ q' (Nat.le_refl _) (fun w1 h1 => hstep w1 ((RelF.at F0 w d).trans h1)) hv (hn.rely (RelF.at FW w d)) h' hL' (slip_tr hT hi0 hiW hm)
end
end
end Go.Proofs.YtignemioillaiaaGreat
