/- The duet: the worker sends, goroutine 0 takes at its select; the worker closes, goroutine 0 leaves its select. -/
import Derived.Test.YtignemioillaiaaGreatG24
namespace Go.Proofs.YtignemioillaiaaGreat
set_option maxHeartbeats 8000000
set_option maxRecDepth 100000
section
open Go Go.Conc
open Go.ConcN (sumTo upd sumTo_upd upd_ne upd_same)
theorem bW.same {Sp : Nat → Prop} {P : Program} {t : Trace} {gs gs' : Array Goroutine} {q : Nat → Nat} (h : bW Sp P t gs q) (hs : gs'.size = gs.size) (ho : ∀ k, ¬ Sp k → gs'[k]? = gs[k]?) {u : Trace} (hu : qh u) : bW Sp P (t ++ u) gs' q := by
  refine ⟨fun i g hi hg => ?_, fun j hj => ?_⟩
  · rw [ho i hi] at hg
    rw [mo hu]
    exact h.old i g hi hg
  · rw [mo hu]
    exact h.above j (by rw [← hs]; exact hj)
theorem El : qh #[] := by
  intro op hop
  simp at hop
section
variable (P : Program) (s : Score) (SM SW : List Value → (Nat → Prop) → Goroutine → World → Prop) (dY : Value → Prop)
abbrev Score.cs (s : Score) : Array CommCase := dX s.pk s.th s.z0 s.z1
structure lh (acc : List Value) (F : Nat → Prop) (A2 : Goroutine) (w : World) : Prop where
  TS : ∃ a0, SM acc F a0 w ∧ jk P s.cs A2 a0
  next : ∀ v, dY v → aK P true (SM (acc ++ [v])) F (A2.finishComm P s.cs .select 0 v true) w
structure Parts : Prop where
  WM : ∀ acc F a w w1, SM acc F a w → bA F w w1 → SM acc F a w1
  lC : ∀ vs F b w w1, SW vs F b w → bA F w w1 → SW vs F b w1
  VI : ∀ acc F a w, SM acc F a w → ∃ A2, jk P s.cs A2 a ∧ ∀ v, dY v → aK P true (SM (acc ++ [v])) F (A2.finishComm P s.cs .select 0 v true) w
  send : ∀ v vs F b w, SW (v :: vs) F b w → dY v ∧ b.status = .running ∧ ∃ B2 z, (∀ w, stepG P false b w = .comm B2 #[scase s.pk v z] true .send w #[]) ∧ aK P false (SW vs) F (Go.Conc.served B2 undef) w
  close : ∀ F b w, SW [] F b w → b.status = .running ∧ mayWake P b = true ∧ ∃ b' k, QuitsD P k 0 b' ∧ ∀ w1 kt, w1.heap[s.th]? = some (.chan 0 #[] false kt kt false) → stepG P false b w1 = .go b' { w1 with heap := w1.heap.setIfInBounds s.th (.chan 0 #[] true kt kt false) } #[⟨.obj s.th, false, true⟩, ⟨.obj s.th, true, true⟩]
def Fin (acc : List Value) (m : Machine) (t : Trace) : Prop := ∃ gs w sl q F0 FW A2 b a0 b0 kp kt, m = crowd gs w sl ∧ ed P s kp kt true F0 FW gs (A2.finishComm P s.cs .select 1 s.z1 false) b w ∧ SM acc F0 a0 w ∧ jk P s.cs A2 a0 ∧ SW [] FW b0 w ∧ bW (· = 0) P t gs q ∧ kD t
end
section
variable {P : Program} {s : Score} {SM SW : List Value → (Nat → Prop) → Goroutine → World → Prop} {dY : Value → Prop}
theorem lh.rely (hp : Parts P s SM SW dY) {acc : List Value} {F : Nat → Prop} {A2 : Goroutine} {w w1 : World} (h : lh P s SM dY acc F A2 w) (hr : bA F w w1) : lh P s SM dY acc F A2 w1 := by
  obtain ⟨a0, h1, h2⟩ := h.TS
  exact ⟨⟨a0, hp.WM _ _ _ _ _ h1 hr, h2⟩, fun v hv => (h.next v hv).rely hr⟩
theorem Parts.Cw (hp : Parts P s SM SW dY) {acc : List Value} {F : Nat → Prop} {a : Goroutine} {w : World} (h : SM acc F a w) : ∃ A2, jk P s.cs A2 a ∧ lh P s SM dY acc F A2 w := by
  obtain ⟨A2, h1, h2⟩ := hp.VI acc F a w h
  exact ⟨A2, h1, ⟨⟨a, h, h1⟩, h2⟩⟩
theorem jk.tries {A2 a : Goroutine} (h : jk P s.cs A2 a) : jk P s.cs A2 { parked A2 s.cs .select with status := .running } :=
  ⟨rfl, rfl, rfl, rfl, fun w => by rw [← h.Gg w]; exact stepG_same h.fr.symm h.cl.symm h.dy.symm w⟩
def nG (s : Score) (FW : Nat → Prop) (b : Nat) : Prop := FW b ∨ b = s.th
theorem Bj {i : Nat} {fn : FuncId} {pos : String} {es : Array Event} (hm : ∀ e ∈ es, Event.mute e = true) : ∀ op ∈ MemOp.ofEvents i fn pos es, op.act.touch? = none := fun op hop => by
  obtain ⟨e, he, ea, _⟩ := oD hop
  rw [ea]
  exact touch_mute (hm e he)
theorem vH (hp : Parts P s SM SW dY) {acc : List Value} : ∀ (M : Nat) {F0 FW T0 TW : Nat → Prop} {gs : Array Goroutine} {a A2 b b0 : Goroutine} {w : World} {sl : Option (Nat × Nat)} {t : Trace} {q : Nat → Nat} {kp kt pc : Nat}, sumTo s.size q ≤ M → jk P s.cs A2 a → lh P s SM dY acc F0 A2 w → SW [] FW b0 w → ed P s kp kt true F0 FW gs a b w → bW (· = 0) P t gs q → qi s.th pc T0 TW t → Reaches P (Fin P s SM SW acc) (crowd gs w sl) t := by
  intro M
  induction M using Nat.strongRecOn with
  | ind M ih =>
    intro F0 FW T0 TW gs a A2 b b0 w sl t q kp kt pc hM hs hS hW h hL hT
    have haw := hL.awake fun i g hi hg => by cases hi; rw [h.g0] at hg; cases hg; exact awake_of (.inl hs.run)
    obtain ⟨i, g, d, sl', hi, hg, hst⟩ := crowd_pick (P := P) (w := w) (sl := sl) haw ⟨0, a, h.g0, hs.run⟩
    have hlt : 0 < gs.size := (Array.getElem?_eq_some_iff.1 h.g0).1
    have hltW : s.W < gs.size := (Array.getElem?_eq_some_iff.1 h.gW).1
    by_cases hi0 : i = 0
    · subst hi0
      obtain rfl : g = a := by have := h.g0; rw [hi] at this; exact Option.some.inj this
      have hpn : ∀ c, partners (gs.setIfInBounds 0 ph) c true = [] := fun c => qU hL fun j x hj hne _ => absurd hj hne
      have hr := crowd_sel_recv_closed (P := P) (sl := sl') (i := 0) (k := 1) (c := s.th) (z := s.z1) (s := kt) (r := kt) hi (show stepG P (0 == 0) g (w.at d) = _ from hs.Gg (w.at d)) rfl (fun m c' hm hc' => by
        rcases m with _ | m
        · cases hc'
          exact ways_recv_none (h.op.at d) (hpn s.pk)
        · rcases m with _ | m
          · exact absurd rfl hm
          · simp [Score.cs, dX] at hc') h.ot (hpn s.th)
      refine Reaches.step (hst.trans hr) (.here ?_)
      have hops : (MemOp.ofEvents 0 g.frame.fn g.frame.place #[] : Trace) = #[] := rfl
      rw [hops, Array.empty_append]
      obtain ⟨a0, ha0, hat⟩ := (hS.rely hp (bA.at F0 w d)).TS
      refine ⟨_, w.at d, sl', q, F0, FW, A2, b, a0, b0, kp, kt, rfl, h.at d ?_ ?_ (by simp), ha0, hat, hp.lC _ _ _ _ _ hW (bA.at FW w d), ?_, hT.met _ _⟩
      · rw [Array.getElem?_setIfInBounds_self_of_lt hlt]; rfl
      · rw [Array.getElem?_setIfInBounds_ne (Ne.symm h.w0)]; exact h.gW
      · exact hL.same (by simp) (fun k hk => Array.getElem?_setIfInBounds_ne (Ne.symm hk)) (by
          intro op hop
          simp only [List.mem_toArray, List.mem_cons, List.not_mem_nil, or_false] at hop
          subst hop
          exact ⟨nofun, nofun⟩)
    · obtain ⟨g', es, q', hm, uW, hL', hlt'⟩ := hL.slip (w := w.at d) hi hi0 hi0 hg sl'
      refine Reaches.step (hst.trans uW) ?_
      rw [h.sz] at hlt'
      have X8 : ∃ b', ((gs.map (woken P g g' (w.at d))).setIfInBounds i g')[s.W]? = some b' := ⟨_, Array.getElem?_eq_getElem (by simpa using hltW)⟩
      obtain ⟨b', hb'⟩ := X8
      exact ih (sumTo s.size q') (by omega) (Nat.le_refl _) hs (hS.rely hp (bA.at F0 w d)) (hp.lC _ _ _ _ _ hW (bA.at FW w d)) (h.at d (by rw [eO hi0 h.g0, woken_run hs.run]) hb' (by simp)) hL' (hT.still (Bj hm) ((Deaf_other t hi0 _ ofEvents_g).trans hT.mV))
theorem HV (hp : Parts P s SM SW dY) {acc : List Value} {F0 : Nat → Prop} {a : Goroutine} {w : World} (hM : aK P true (SM acc) F0 a w) : ∀ {FW : Nat → Prop} {gs : Array Goroutine} {b b0 : Goroutine} {sl : Option (Nat × Nat)} {t : Trace} {q : Nat → Nat} {kp kt pc : Nat}, SW [] FW b0 w → ed P s kp kt true F0 FW gs a b w → bW (· = 0) P t gs q → qi s.th pc F0 (nG s FW) t → Reaches P (Fin P s SM SW acc) (crowd gs w sl) t := by
  refine hM.induct (X := fun F0 a w => ∀ {FW : Nat → Prop} {gs : Array Goroutine} {b b0 : Goroutine} {sl : Option (Nat × Nat)} {t : Trace} {q : Nat → Nat} {kp kt pc : Nat}, SW [] FW b0 w → ed P s kp kt true F0 FW gs a b w → bW (· = 0) P t gs q → qi s.th pc F0 (nG s FW) t → Reaches P (Fin P s SM SW acc) (crowd gs w sl) t) ?_ ?_
  · intro F0 a w hs FW gs b b0 sl t q kp kt pc hW h hL hT
    obtain ⟨A2, h1, h2⟩ := hp.Cw (hs w (.refl _ _))
    exact vH hp _ (Nat.le_refl _) h1 h2 hW h hL hT
  · intro F0 a w hrun hstep FW gs b b0 sl t q kp kt pc
    suffices H : ∀ M w gs b sl t q, sumTo s.size q ≤ M → (∀ w1, bA F0 w w1 → (stepG P true a w1).goes fun g' w' es => mr F0 w1 w' es ∧ aK P true (SM acc) (Grow F0 w1 w') g' w' ∧ ∀ {FW : Nat → Prop} {gs : Array Goroutine} {b b0 : Goroutine} {sl : Option (Nat × Nat)} {t : Trace} {q : Nat → Nat} {kp kt pc : Nat}, SW [] FW b0 w' → ed P s kp kt true (Grow F0 w1 w') FW gs g' b w' → bW (· = 0) P t gs q → qi s.th pc (Grow F0 w1 w') (nG s FW) t → Reaches P (Fin P s SM SW acc) (crowd gs w' sl) t) → SW [] FW b0 w → ed P s kp kt true F0 FW gs a b w → bW (· = 0) P t gs q → qi s.th pc F0 (nG s FW) t → Reaches P (Fin P s SM SW acc) (crowd gs w sl) t from H _ w gs b sl t q (Nat.le_refl _) hstep
    intro M
    induction M using Nat.strongRecOn with
    | ind M ih =>
      intro w gs b sl t q hM hstep hW h hL hT
      have haw := hL.awake fun i g hi hg => by cases hi; rw [h.g0] at hg; cases hg; exact awake_of (.inl hrun)
      obtain ⟨i, g, d, sl', hi, hg, hst⟩ := crowd_pick (P := P) (w := w) (sl := sl) haw ⟨0, a, h.g0, hrun⟩
      have hlt : 0 < gs.size := (Array.getElem?_eq_some_iff.1 h.g0).1
      have hltW : s.W < gs.size := (Array.getElem?_eq_some_iff.1 h.gW).1
      by_cases hi0 : i = 0
      · subst hi0
        obtain rfl : g = a := by have := h.g0; rw [hi] at this; exact Option.some.inj this
        have hs := hstep (w.at d) (bA.at F0 w d)
        cases hgo : stepG P true g (w.at d) with
        | go a' w' es =>
          rw [hgo, goes_go] at hs
          obtain ⟨hgu, _, hnext⟩ := hs
          have hrunT := runT_crowd_go (P := P) (sl := sl') (i := 0) hi (show stepG P (0 == 0) g (w.at d) = _ from hgo)
          refine Reaches.step (hst.trans hrunT) ?_
          obtain ⟨b', hb'⟩ : ∃ b', ((gs.map (woken P g a' w')).setIfInBounds 0 a')[s.W]? = some b' := ⟨_, Array.getElem?_eq_getElem (by simpa using hltW)⟩
          have hD := (h.at d h.g0 h.gW rfl).main hgu (kg hlt) hb' (by simp)
          refine hnext (sl := sl') (hp.lC _ _ _ _ _ (hp.lC _ _ _ _ _ hW (bA.at FW w d)) hD.2) hD.1 (hL.nO rfl hlt ofEvents_g) (hT.grow.main ?_ hgu.evs)
          rintro x hx (hx' | rfl)
          · exact hD.1.apart x hx hx'
          · exact hD.1.qC.2 hx
        | _ => rw [hgo] at hs; exact hs.elim
      · obtain ⟨g', es, q', hm, uW, hL', hlt'⟩ := hL.slip (w := w.at d) hi hi0 hi0 hg sl'
        refine Reaches.step (hst.trans uW) ?_
        rw [h.sz] at hlt'
        obtain ⟨b', hb'⟩ : ∃ b', ((gs.map (woken P g g' (w.at d))).setIfInBounds i g')[s.W]? = some b' := ⟨_, Array.getElem?_eq_getElem (by simpa using hltW)⟩
        exact ih (sumTo s.size q') (by omega) (w.at d) _ b' sl' _ q' (Nat.le_refl _) (fun w1 h1 => hstep w1 ((bA.at F0 w d).trans h1)) (hp.lC _ _ _ _ _ hW (bA.at FW w d)) (h.at d (by rw [eO hi0 h.g0, woken_run hrun]) hb' (by simp)) hL' (hT.still (Bj hm) ((Deaf_other t hi0 _ ofEvents_g).trans hT.mV))
end
section
variable {P : Program} {s : Score} {SM SW : List Value → (Nat → Prop) → Goroutine → World → Prop} {dY : Value → Prop}
theorem Mi {W : Nat} {c k : Nat} {fn fn' : FuncId} {pos pos' : String} : qh #[⟨W, fn, pos, .send c k⟩, ⟨0, fn', pos', .recv c k 0⟩, ⟨W, fn, pos, .sendDone c k⟩, ⟨0, fn', pos', .recvDone c k⟩] := by
  intro op hop
  simp only [List.mem_toArray, List.mem_cons, List.not_mem_nil, or_false] at hop
  rcases hop with rfl | rfl | rfl | rfl <;> exact ⟨nofun, nofun⟩
theorem Em {w : World} {k kt : Nat} {rq : Bool} (h1 : dP w s.pk k) (h2 : w.heap[s.th]? = some (.chan 0 #[] rq kt kt false)) (hne : s.pk ≠ s.th) :
    dP { w with heap := w.heap.setIfInBounds s.pk (.chan 0 #[] false (k + 1) (k + 1) false) } s.pk (k + 1) ∧ (w.heap.setIfInBounds s.pk (.chan 0 #[] false (k + 1) (k + 1) false))[s.th]? = some (.chan 0 #[] rq kt kt false) := by
  constructor
  · show (w.heap.setIfInBounds s.pk _)[s.pk]? = _
    rw [Array.getElem?_setIfInBounds_self_of_lt (dz h1)]
  · rw [Array.getElem?_setIfInBounds_ne hne]
    exact h2
theorem Mj (_hp : Parts P s SM SW dY) {acc vs : List Value} {v z : Value} {F0 FW T0 TW : Nat → Prop} {gs : Array Goroutine} {A2 B2 b : Goroutine} {w : World} {t : Trace} {q : Nat → Nat} {kp kt : Nat} (h : ed P s kp kt false F0 FW gs (parked A2 s.cs .select) b w) (hL : bW (Two s.W) P t gs q) (hT : eP s.W T0 TW t)
    (hS : lh P s SM dY acc F0 A2 w) (hv : dY v) (hb : ∀ w, stepG P false b w = .comm B2 #[scase s.pk v z] true .send w #[]) (hn : aK P false (SW vs) FW (Go.Conc.served B2 undef) w) (sl : Option (Nat × Nat)) :
    ∃ gs' a' b' w' ops, runT P (crowd gs w sl) s.W = (.next (crowd gs' w' sl), ops) ∧ ed P s (kp + 1) kt false F0 FW gs' a' b' w' ∧ bW (Two s.W) P (t ++ ops) gs' q ∧ eP s.W F0 FW (t ++ ops) ∧ aK P true (SM (acc ++ [v])) F0 a' w' ∧ aK P false (SW vs) FW b' w' := by
  have hlt : 0 < gs.size := (Array.getElem?_eq_some_iff.1 h.g0).1
  have hltW : s.W < gs.size := (Array.getElem?_eq_some_iff.1 h.gW).1
  have OT : partners (gs.setIfInBounds s.W ph) s.pk false = [(0, 0)] := by
    have hoff : offersAt (parked A2 s.cs .select) s.pk false = [0] := offersAt_parked_at (k := 0) (z := s.z0) rfl fun m cc hm hcc => by
      rcases m with _ | m
      · exact absurd rfl hm
      · rcases m with _ | m
        · cases hcc
          intro e
          have e' : Value.chan (some s.th) = Value.chan (some s.pk) := e
          injection e' with e1
          injection e1 with e2
          exact h.pt e2.symm
        · simp [Score.cs, dX] at hcc
    have := partners_one (gs := gs.setIfInBounds s.W ph) (r := s.pk) (send := false) (j := 0) (g := parked A2 s.cs .select) (stand_get (Ne.symm h.w0) h.g0) fun k x hk hx => by
      rcases getElem?_stand gs s.W k x hx with ⟨_, rfl⟩ | ⟨hne, hx⟩
      · rfl
      · exact uy (hL.old k x (fun hh => hh.elim hk hne) hx) _ _
    rw [this, hoff]
    rfl
  have hr := crowd_send_meets_sel (P := P) (sl := sl) (i := s.W) (j := 0) (k := 0) (zj := s.z0) (c := s.pk) (s := kp) (r := kp) h.gW (show stepG P (s.W == 0) b w = _ by rw [show (s.W == 0) = false by simpa using h.w0]; exact hb w) h.op (Ne.symm h.w0) h.g0 rfl OT
  obtain ⟨c1, c2⟩ := Em h.op h.ot h.pt
  have hD := h.chan (.inl rfl) (gs' := (gs.setIfInBounds 0 (A2.finishComm P s.cs .select 0 v true)).setIfInBounds s.W (Go.Conc.served B2 undef)) (a' := A2.finishComm P s.cs .select 0 v true) (b' := Go.Conc.served B2 undef)
    (by rw [Array.getElem?_setIfInBounds_ne h.w0, Array.getElem?_setIfInBounds_self_of_lt hlt]) (by rw [Array.getElem?_setIfInBounds_self_of_lt (by simpa using hltW)]) (by simp) c1 c2
  refine ⟨_, _, _, _, _, hr, hD.1, ?_, ?_, (hS.next v hv).rely hD.2.1, hn.rely hD.2.2⟩
  · exact hL.same (by simp) (fun k hk => by rw [Array.getElem?_setIfInBounds_ne (fun e => hk (.inr e.symm)), Array.getElem?_setIfInBounds_ne (fun e => hk (.inl e.symm))]) Mi
  · exact hT.exchange F0 FW s.pk kp _ _ _ _
theorem Mk (_hp : Parts P s SM SW dY) {acc vs : List Value} {v z : Value} {F0 FW T0 TW : Nat → Prop} {gs : Array Goroutine} {a A2 B2 : Goroutine} {w : World} {t : Trace} {q : Nat → Nat} {kp kt : Nat} (h : ed P s kp kt false F0 FW gs a (parked B2 #[scase s.pk v z] .send) w) (hL : bW (Two s.W) P t gs q) (hT : eP s.W T0 TW t)
    (ha : jk P s.cs A2 a) (hS : lh P s SM dY acc F0 A2 w) (hv : dY v) (hn : aK P false (SW vs) FW (Go.Conc.served B2 undef) w) (sl : Option (Nat × Nat)) :
    ∃ gs' a' b' w' ops, runT P (crowd gs w sl) 0 = (.next (crowd gs' w' sl), ops) ∧ ed P s (kp + 1) kt false F0 FW gs' a' b' w' ∧ bW (Two s.W) P (t ++ ops) gs' q ∧ eP s.W F0 FW (t ++ ops) ∧ aK P true (SM (acc ++ [v])) F0 a' w' ∧ aK P false (SW vs) FW b' w' := by
  have hlt : 0 < gs.size := (Array.getElem?_eq_some_iff.1 h.g0).1
  have hltW : s.W < gs.size := (Array.getElem?_eq_some_iff.1 h.gW).1
  have OT : partners (gs.setIfInBounds 0 ph) s.pk true = [(s.W, 0)] := by
    have hoff : offersAt (parked B2 #[scase s.pk v z] .send) s.pk true = [0] := by rw [offersAt_parked_send, if_pos rfl]
    have := partners_one (gs := gs.setIfInBounds 0 ph) (r := s.pk) (send := true) (j := s.W) (g := parked B2 #[scase s.pk v z] .send) (stand_get h.w0 h.gW) fun k x hk hx => by
      rcases getElem?_stand gs 0 k x hx with ⟨_, rfl⟩ | ⟨hne, hx⟩
      · rfl
      · exact uy (hL.old k x (fun hh => hh.elim hne hk) hx) _ _
    rw [this, hoff]
    rfl
  have WN : partners (gs.setIfInBounds 0 ph) s.th true = [] := qU hL fun j x hj hne hx => by
    rcases hj with rfl | rfl
    · exact absurd rfl hne
    · rw [h.gW] at hx; cases hx
      rw [offersAt_parked_send, if_neg h.pt]
  have hr := crowd_sel_recv_meets (P := P) (sl := sl) (i := 0) (j := s.W) (k := 0) (z := s.z0) (zj := z) (c := s.pk) (s := kp) (r := kp) (v := v) h.g0 (show stepG P (0 == 0) a w = _ from ha.Gg w) rfl (fun m c' hm hc' => by
    rcases m with _ | m
    · exact absurd rfl hm
    · rcases m with _ | m
      · cases hc'
        exact ways_recv_none h.ot WN
      · simp [Score.cs, dX] at hc') h.op h.w0 h.gW OT
  obtain ⟨c1, c2⟩ := Em h.op h.ot h.pt
  have hD := h.chan (.inl rfl) (gs' := (gs.setIfInBounds s.W (Go.Conc.served B2 undef)).setIfInBounds 0 (A2.finishComm P s.cs .select 0 v true)) (a' := A2.finishComm P s.cs .select 0 v true) (b' := Go.Conc.served B2 undef)
    (by rw [Array.getElem?_setIfInBounds_self_of_lt (by simpa using hlt)]) (by rw [Array.getElem?_setIfInBounds_ne (Ne.symm h.w0), Array.getElem?_setIfInBounds_self_of_lt hltW]) (by simp) c1 c2
  refine ⟨_, _, _, _, _, hr, hD.1, ?_, ?_, (hS.next v hv).rely hD.2.1, hn.rely hD.2.2⟩
  · exact hL.same (by simp) (fun k hk => by rw [Array.getElem?_setIfInBounds_ne (fun e => hk (.inl e.symm)), Array.getElem?_setIfInBounds_ne (fun e => hk (.inr e.symm))]) Mi
  · exact hT.exchange F0 FW s.pk kp _ _ _ _
theorem ed.Dx {kp kt : Nat} {rq : Bool} {F0 FW : Nat → Prop} {gs : Array Goroutine} {a b : Goroutine} {w : World} (h : ed P s kp kt rq F0 FW gs a b w) : ∀ x, F0 x → ¬ nG s FW x := by
  rintro x hx (hx' | rfl)
  · exact h.apart x hx hx'
  · exact h.qC.2 hx
theorem xU (hp : Parts P s SM SW dY) {F0 FW T0 TW : Nat → Prop} {gs : Array Goroutine} {a b : Goroutine} {w : World} {t : Trace} {q : Nat → Nat} {kp kt : Nat} (h : ed P s kp kt false F0 FW gs a b w) (hL : bW (Two s.W) P t gs q) (hT : eP s.W T0 TW t) (hd : ∀ x, T0 x → ¬ nG s TW x) (hW : SW [] FW b w) (sl : Option (Nat × Nat)) :
    ∃ gs' b' w' ops q' pc, runT P (crowd gs w sl) s.W = (.next (crowd gs' w' sl), ops) ∧ w'.heap[s.th]? = some (.chan 0 #[] true kt kt false) ∧ ed P s kp kt true F0 FW gs' (a.again w') b' w' ∧ SW [] FW b w' ∧ bA F0 w w' ∧ bW (· = 0) P (t ++ ops) gs' q' ∧ qi s.th pc T0 (nG s TW) (t ++ ops) := by
  have hltW : s.W < gs.size := (Array.getElem?_eq_some_iff.1 h.gW).1
  obtain ⟨_, hwake, b', k, hq, hst⟩ := hp.close FW b w hW
  have hgo := hst w kt h.ot
  have hr := runT_crowd_go (P := P) (sl := sl) (i := s.W) h.gW (show stepG P (s.W == 0) b w = _ by rw [show (s.W == 0) = false by simpa using h.w0]; exact hgo)
  have hwk : ∀ g, woken P b b' { w with heap := w.heap.setIfInBounds s.th (.chan 0 #[] true kt kt false) } g = g.again { w with heap := w.heap.setIfInBounds s.th (.chan 0 #[] true kt kt false) } := by
    intro g
    unfold Go.Conc.woken
    rw [hwake]
    rcases hq.status with e | e <;> rw [e] <;> rfl
  have hth : (w.heap.setIfInBounds s.th (.chan 0 #[] true kt kt false))[s.th]? = some (.chan 0 #[] true kt kt false) := by rw [Array.getElem?_setIfInBounds_self_of_lt (dz h.ot)]
  have hD := h.chan (.inr rfl) (o := .chan 0 #[] true kt kt false) (gs' := (gs.map (woken P b b' { w with heap := w.heap.setIfInBounds s.th (.chan 0 #[] true kt kt false) })).setIfInBounds s.W b') (a' := a.again { w with heap := w.heap.setIfInBounds s.th (.chan 0 #[] true kt kt false) }) (b' := b') (kp' := kp) (Qy := kt) (OQ := true)
    (by rw [eO h.w0 h.g0, hwk]) (kg hltW) (by simp) (by show (w.heap.setIfInBounds s.th _)[s.pk]? = _; rw [Array.getElem?_setIfInBounds_ne (Ne.symm h.pt)]; exact h.op) hth
  have X9 := (hT.grow (tL := T0) (vP := nG s TW) (fun _ h => h) fun _ h => .inl h).close h.w0 hd (c := s.th) (.inr rfl) b.frame.fn b.frame.place
  have VJ := hL.nO (g := b) (g' := b') (w' := { w with heap := w.heap.setIfInBounds s.th (.chan 0 #[] true kt kt false) }) (.inr rfl) hltW (u := MemOp.ofEvents s.W b.frame.fn b.frame.place #[⟨.obj s.th, false, true⟩, ⟨.obj s.th, true, true⟩]) ofEvents_g
  refine ⟨_, b', _, _, upd q s.W k, _, hr, hth, hD.1, hp.lC _ _ _ _ _ hW hD.2.2, hD.2.1, ⟨fun j x hj hx => ?_, VJ.above⟩, X9⟩
  by_cases TT : j = s.W
  · subst TT
    rw [kg hltW] at hx
    cases hx
    rw [upd_same, vG, hT.sN]
    · exact hq
    · intro e he
      simp only [List.mem_toArray, List.mem_cons, List.not_mem_nil, or_false] at he
      rcases he with rfl | rfl <;> exact ⟨nofun, nofun⟩
  · rw [upd_ne q k TT]
    exact VJ.old j x (fun hh => hh.elim hj TT) hx
end
section
variable {P : Program} {s : Score} {SM SW : List Value → (Nat → Prop) → Goroutine → World → Prop} {dY : Value → Prop}
def Claim (P : Program) (s : Score) (SM SW : List Value → (Nat → Prop) → Goroutine → World → Prop) (vs : List Value) : Prop :=
  ∀ {acc : List Value} {F0 FW : Nat → Prop} {gs : Array Goroutine} {a b : Goroutine} {w : World} {sl : Option (Nat × Nat)} {t : Trace} {q : Nat → Nat} {kp kt : Nat}, aK P true (SM acc) F0 a w → aK P false (SW vs) FW b w → ed P s kp kt false F0 FW gs a b w → bW (Two s.W) P t gs q → eP s.W F0 FW t → Reaches P (Fin P s SM SW (acc ++ vs)) (crowd gs w sl) t
def Bl (P : Program) (s : Score) (SM SW : List Value → (Nat → Prop) → Goroutine → World → Prop) (vs : List Value) : Prop := ∀ v vs', vs = v :: vs' → Claim P s SM SW vs'
theorem fV {g : Goroutine} (h : g.status = .running) : awake g := awake_of (.inl h)
theorem nH (g : Goroutine) (cs : Array CommCase) (sh : CommShape) : awake (parked g cs sh) := fun t ht => by cases ht
theorem fE {g : Goroutine} (h : g.status = .running) (w : World) : g.again w = g := again_running w (.inl h)
theorem Cx (hp : Parts P s SM SW dY) {vs : List Value} {F : Nat → Prop} {b : Goroutine} {w : World} (h : SW vs F b w) : b.status = .running := by
  cases vs with
  | nil => exact (hp.close _ _ _ h).1
  | cons v vs => exact (hp.send _ _ _ _ _ h).2.1
theorem Ml (hp : Parts P s SM SW dY) {acc : List Value} {F : Nat → Prop} {a : Goroutine} {w : World} (h : SM acc F a w) : a.status = .running := by
  obtain ⟨A2, h1, _⟩ := hp.VI _ _ _ _ h
  exact h1.run
theorem Gi (acc : List Value) (v : Value) (vs : List Value) : (acc ++ [v]) ++ vs = acc ++ v :: vs := by simp
section
variable {acc vs : List Value} {F0 FW : Nat → Prop} {gs : Array Goroutine} {a b : Goroutine} {w : World} {t : Trace} {q : Nat → Nat} {kp kt : Nat}
theorem mP (hT : eP s.W F0 FW t) {i : Nat} {fn : FuncId} {pos : String} {es : Array Event} (h0 : i ≠ 0) (hW : i ≠ s.W) (hm : ∀ e ∈ es, Event.mute e = true) : eP s.W F0 FW (t ++ MemOp.ofEvents i fn pos es) := Cv hT h0 hW hm
end
theorem tN (hp : Parts P s SM SW dY) {acc vs : List Value} (hV : Bl P s SM SW vs) : ∀ (M : Nat) {F0 FW T0 TW : Nat → Prop} {gs : Array Goroutine} {A2 b : Goroutine} {w : World} {sl : Option (Nat × Nat)} {t : Trace} {q : Nat → Nat} {kp kt : Nat}, sumTo s.size q ≤ M → lh P s SM dY acc F0 A2 w → SW vs FW b w → ed P s kp kt false F0 FW gs (parked A2 s.cs .select) b w → bW (Two s.W) P t gs q → eP s.W T0 TW t → (∀ x, T0 x → ¬ nG s TW x) → Reaches P (Fin P s SM SW (acc ++ vs)) (crowd gs w sl) t := by
  intro M
  induction M using Nat.strongRecOn with
  | ind M ih =>
    intro F0 FW T0 TW gs A2 b w sl t q kp kt hM hS hW h hL hT hd
    have hrun := Cx hp hW
    rcases h.pick hL (nH _ _ _) (fV hrun) (.inr hrun) (fun d => qO (h.op.at d) (show dP (w.at d) s.th kt from h.ot)) (fun d => fE hrun _) sl with ⟨d, sl', hx, _⟩ | ⟨d, sl', _, hst⟩ | ⟨d, sl', gs', q', i, fn, pos, es, hi0, kZ, hm, hst, h', hL', hlt⟩
    · cases hx
    · have hD := h.at d h.g0 h.gW rfl
      have hS' := hS.rely hp (bA.at F0 w d)
      have hW' := hp.lC _ _ _ _ _ hW (bA.at FW w d)
      cases vs with
      | nil =>
        obtain ⟨gs', b', w', ops, q', pc, hr, hth, hD', hW2, hrel, hL', hT'⟩ := xU hp hD hL hT hd hW' sl'
        refine Reaches.step (hst.trans hr) ?_
        have hag : (parked A2 s.cs .select).again w' = { parked A2 s.cs .select with status := .running } := again_some_closed (k := 1) (z := s.z1) (c := s.th) rfl hth
        rw [hag] at hD'
        obtain ⟨a0, _, hat⟩ := hS'.TS
        rw [List.append_nil]
        exact vH hp _ (Nat.le_refl _) hat.tries (hS'.rely hp hrel) hW2 hD' hL' hT'
      | cons v vs' =>
        obtain ⟨hv, _, B2, z, hb, hn⟩ := hp.send _ _ _ _ _ hW'
        obtain ⟨gs', a', b', w', ops, hr, hD', hL', hT', hm', hw'⟩ := Mj hp hD hL hT hS' hv hb hn sl'
        refine Reaches.step (hst.trans hr) ?_
        rw [← Gi]
        exact hV v vs' rfl hm' hw' hD' hL' hT'
    · refine Reaches.step hst ?_
      exact ih (sumTo s.size q') (by omega) (Nat.le_refl _) (hS.rely hp (bA.at F0 w d)) (hp.lC _ _ _ _ _ hW (bA.at FW w d)) h' hL' (mP hT hi0 kZ hm) hd
theorem Cy (hp : Parts P s SM SW dY) {acc vs : List Value} {v z : Value} (hV : Claim P s SM SW vs) : ∀ (M : Nat) {F0 FW T0 TW : Nat → Prop} {gs : Array Goroutine} {a A2 B2 : Goroutine} {w : World} {sl : Option (Nat × Nat)} {t : Trace} {q : Nat → Nat} {kp kt : Nat}, sumTo s.size q ≤ M → jk P s.cs A2 a → lh P s SM dY acc F0 A2 w → dY v → aK P false (SW vs) FW (Go.Conc.served B2 undef) w → ed P s kp kt false F0 FW gs a (parked B2 #[scase s.pk v z] .send) w → bW (Two s.W) P t gs q → eP s.W T0 TW t → Reaches P (Fin P s SM SW (acc ++ v :: vs)) (crowd gs w sl) t := by
  intro M
  induction M using Nat.strongRecOn with
  | ind M ih =>
    intro F0 FW T0 TW gs a A2 B2 w sl t q kp kt hM ha hS hv hn h hL hT
    rcases h.pick hL (fV ha.run) (nH _ _ _) (.inl ha.run) (fun d => fE ha.run _) (fun d => again_send_open (h.op.at d)) sl with ⟨d, sl', _, hst⟩ | ⟨d, sl', hx, _⟩ | ⟨d, sl', gs', q', i, fn, pos, es, hi0, kZ, hm, hst, h', hL', hlt⟩
    · have hD := h.at d h.g0 h.gW rfl
      obtain ⟨gs', a', b', w', ops, hr, hD', hL', hT', hm', hw'⟩ := Mk hp hD hL hT ha (hS.rely hp (bA.at F0 w d)) hv (hn.rely (bA.at FW w d)) sl'
      refine Reaches.step (hst.trans hr) ?_
      rw [← Gi]
      exact hV hm' hw' hD' hL' hT'
    · cases hx
    · refine Reaches.step hst ?_
      exact ih (sumTo s.size q') (by omega) (Nat.le_refl _) ha (hS.rely hp (bA.at F0 w d)) hv (hn.rely (bA.at FW w d)) h' hL' (mP hT hi0 kZ hm)
theorem HZ (hp : Parts P s SM SW dY) {acc vs : List Value} {v z : Value} (hV : Claim P s SM SW vs) {F0 : Nat → Prop} {a : Goroutine} {w : World} (hM : aK P true (SM acc) F0 a w) : ∀ {FW : Nat → Prop} {gs : Array Goroutine} {B2 : Goroutine} {sl : Option (Nat × Nat)} {t : Trace} {q : Nat → Nat} {kp kt : Nat}, dY v → aK P false (SW vs) FW (Go.Conc.served B2 undef) w → ed P s kp kt false F0 FW gs a (parked B2 #[scase s.pk v z] .send) w → bW (Two s.W) P t gs q → eP s.W F0 FW t → Reaches P (Fin P s SM SW (acc ++ v :: vs)) (crowd gs w sl) t := by
  refine hM.induct (X := fun F0 a w => ∀ {FW : Nat → Prop} {gs : Array Goroutine} {B2 : Goroutine} {sl : Option (Nat × Nat)} {t : Trace} {q : Nat → Nat} {kp kt : Nat}, dY v → aK P false (SW vs) FW (Go.Conc.served B2 undef) w → ed P s kp kt false F0 FW gs a (parked B2 #[scase s.pk v z] .send) w → bW (Two s.W) P t gs q → eP s.W F0 FW t → Reaches P (Fin P s SM SW (acc ++ v :: vs)) (crowd gs w sl) t) ?_ ?_
  · intro F0 a w hs FW gs B2 sl t q kp kt hv hn h hL hT
    obtain ⟨A2, h1, h2⟩ := hp.Cw (hs w (.refl _ _))
    exact Cy hp hV _ (Nat.le_refl _) h1 h2 hv hn h hL hT
  · intro F0 a w hrun hstep FW gs B2 sl t q kp kt
    suffices H : ∀ M w gs sl t q, sumTo s.size q ≤ M → (∀ w1, bA F0 w w1 → (stepG P true a w1).goes fun g' w' es => mr F0 w1 w' es ∧ aK P true (SM acc) (Grow F0 w1 w') g' w' ∧ ∀ {FW : Nat → Prop} {gs : Array Goroutine} {B2 : Goroutine} {sl : Option (Nat × Nat)} {t : Trace} {q : Nat → Nat} {kp kt : Nat}, dY v → aK P false (SW vs) FW (Go.Conc.served B2 undef) w' → ed P s kp kt false (Grow F0 w1 w') FW gs g' (parked B2 #[scase s.pk v z] .send) w' → bW (Two s.W) P t gs q → eP s.W (Grow F0 w1 w') FW t → Reaches P (Fin P s SM SW (acc ++ v :: vs)) (crowd gs w' sl) t) → dY v → aK P false (SW vs) FW (Go.Conc.served B2 undef) w → ed P s kp kt false F0 FW gs a (parked B2 #[scase s.pk v z] .send) w → bW (Two s.W) P t gs q → eP s.W F0 FW t → Reaches P (Fin P s SM SW (acc ++ v :: vs)) (crowd gs w sl) t from H _ w gs sl t q (Nat.le_refl _) hstep
    intro M
    induction M using Nat.strongRecOn with
    | ind M ih =>
      intro w gs sl t q hM hstep hv hn h hL hT
      rcases h.pick hL (fV hrun) (nH _ _ _) (.inl hrun) (fun d => fE hrun _) (fun d => again_send_open (h.op.at d)) sl with ⟨d, sl', _, hst⟩ | ⟨d, sl', hx, _⟩ | ⟨d, sl', gs', q', i, fn, pos, es, hi0, kZ, hm, hst, h', hL', hlt⟩
      · have hs := hstep (w.at d) (bA.at F0 w d)
        have oO : 0 < gs.size := (Array.getElem?_eq_some_iff.1 h.g0).1
        cases hgo : stepG P true a (w.at d) with
        | go a' w' es =>
          rw [hgo, goes_go] at hs
          obtain ⟨hgu, _, hnext⟩ := hs
          have hrunT := runT_crowd_go (P := P) (sl := sl') (i := 0) h.g0 (show stepG P (0 == 0) a (w.at d) = _ from hgo)
          refine Reaches.step (hst.trans hrunT) ?_
          have hpk : dP w' s.pk kp := ((h.at d h.g0 h.gW rfl).main hgu (gs' := gs.setIfInBounds 0 a') (by rw [Array.getElem?_setIfInBounds_self_of_lt oO]) (by rw [Array.getElem?_setIfInBounds_ne (Ne.symm h.w0)]; exact h.gW) (by simp)).1.op
          have hD := (h.at d h.g0 h.gW rfl).main hgu (gs' := (gs.map (woken P a a' w')).setIfInBounds 0 a') (kg oO) (by rw [eO (Ne.symm h.w0) h.gW, qB (again_send_open hpk)]) (by simp)
          exact hnext (sl := sl') hv ((hn.rely (bA.at FW w d)).rely hD.2) hD.1 (hL.nO (.inl rfl) oO ofEvents_g) ((hT.grow (fun x hx => .inl hx) fun _ h => h).main h.w0 hD.1.apart hgu.evs)
        | _ => rw [hgo] at hs; exact hs.elim
      · cases hx
      · refine Reaches.step hst ?_
        exact ih (sumTo s.size q') (by omega) (w.at d) gs' sl' _ q' (Nat.le_refl _) (fun w1 h1 => hstep w1 ((bA.at F0 w d).trans h1)) hv (hn.rely (bA.at FW w d)) h' hL' (mP hT hi0 kZ hm)
end
section
variable {P : Program} {s : Score} {SM SW : List Value → (Nat → Prop) → Goroutine → World → Prop} {dY : Value → Prop}
theorem Cz (_hp : Parts P s SM SW dY) {F0 FW : Nat → Prop} {gs : Array Goroutine} {a b B2 : Goroutine} {v z : Value} {w : World} {t : Trace} {q : Nat → Nat} {kp kt : Nat} (h : ed P s kp kt false F0 FW gs a b w) (hL : bW (Two s.W) P t gs q) (ha : a.status = .running) (hb : ∀ w, stepG P false b w = .comm B2 #[scase s.pk v z] true .send w #[]) (sl : Option (Nat × Nat)) :
    ∃ gs' ops, runT P (crowd gs w sl) s.W = (.next (crowd gs' w sl), ops) ∧ ops = #[] ∧ ed P s kp kt false F0 FW gs' a (parked B2 #[scase s.pk v z] .send) w ∧ bW (Two s.W) P t gs' q := by
  have hltW : s.W < gs.size := (Array.getElem?_eq_some_iff.1 h.gW).1
  have hpn : partners (gs.setIfInBounds s.W ph) s.pk false = [] := qU hL fun j x hj hne hx => by
    rcases hj with rfl | rfl
    · rw [h.g0] at hx; cases hx
      exact offersAt_of_not_blocked (by rw [ha]; exact nofun) _ _
    · exact absurd rfl hne
  have hr := crowd_waits (P := P) (sl := sl) (i := s.W) h.gW (show stepG P (s.W == 0) b w = _ by rw [show (s.W == 0) = false by simpa using h.w0]; exact hb w) (fun cc hcc => by
    simp only [List.mem_toArray, List.mem_cons, List.not_mem_nil, or_false] at hcc
    subst hcc
    exact ways_send_none h.op (Nat.le_refl _) hpn)
  have hD := h.at w.drawn (gs' := gs.setIfInBounds s.W (parked B2 #[scase s.pk v z] .send)) (a' := a) (b' := parked B2 #[scase s.pk v z] .send) (by rw [Array.getElem?_setIfInBounds_ne h.w0]; exact h.g0) (by rw [Array.getElem?_setIfInBounds_self_of_lt hltW]) (by simp)
  refine ⟨_, _, hr, rfl, hD, ?_⟩
  have := hL.same (gs' := gs.setIfInBounds s.W (parked B2 #[scase s.pk v z] .send)) (by simp) (fun k hk => Array.getElem?_setIfInBounds_ne (fun e => hk (.inr e.symm))) El
  rwa [Array.append_empty] at this
theorem xV (_hp : Parts P s SM SW dY) {F0 FW : Nat → Prop} {gs : Array Goroutine} {a A2 b : Goroutine} {w : World} {t : Trace} {q : Nat → Nat} {kp kt : Nat} (h : ed P s kp kt false F0 FW gs a b w) (hL : bW (Two s.W) P t gs q) (ha : jk P s.cs A2 a) (hb : b.status = .running) (sl : Option (Nat × Nat)) :
    ∃ gs' ops, runT P (crowd gs w sl) 0 = (.next (crowd gs' w sl), ops) ∧ ops = #[] ∧ ed P s kp kt false F0 FW gs' (parked A2 s.cs .select) b w ∧ bW (Two s.W) P t gs' q := by
  have hlt : 0 < gs.size := (Array.getElem?_eq_some_iff.1 h.g0).1
  have hpn : ∀ c, partners (gs.setIfInBounds 0 ph) c true = [] := fun c => qU hL fun j x hj hne hx => by
    rcases hj with rfl | rfl
    · exact absurd rfl hne
    · rw [h.gW] at hx; cases hx
      exact offersAt_of_not_blocked (by rw [hb]; exact nofun) _ _
  have hr := crowd_waits (P := P) (sl := sl) (i := 0) h.g0 (show stepG P (0 == 0) a w = _ from ha.Gg w) (fun cc hcc => by
    simp only [Score.cs, dX, List.mem_toArray, List.mem_cons, List.not_mem_nil, or_false] at hcc
    rcases hcc with rfl | rfl
    · exact ways_recv_none h.op (hpn _)
    · exact ways_recv_none h.ot (hpn _))
  have hD := h.at w.drawn (gs' := gs.setIfInBounds 0 (parked A2 s.cs .select)) (a' := parked A2 s.cs .select) (b' := b) (by rw [Array.getElem?_setIfInBounds_self_of_lt hlt]) (by rw [Array.getElem?_setIfInBounds_ne (Ne.symm h.w0)]; exact h.gW) (by simp)
  refine ⟨_, _, hr, rfl, hD, ?_⟩
  have := hL.same (gs' := gs.setIfInBounds 0 (parked A2 s.cs .select)) (by simp) (fun k hk => Array.getElem?_setIfInBounds_ne (fun e => hk (.inl e.symm))) El
  rwa [Array.append_empty] at this
theorem CB (hp : Parts P s SM SW dY) {acc vs : List Value} (hV : Bl P s SM SW vs) {F0 FW : Nat → Prop} {gs : Array Goroutine} {a b : Goroutine} {w : World} {sl : Option (Nat × Nat)} {t : Trace} {q : Nat → Nat} {kp kt : Nat} (ha : a.status = .running) (hM : aK P true (SM acc) F0 a w) (hW : SW vs FW b w) (h : ed P s kp kt false F0 FW gs a b w) (hL : bW (Two s.W) P t gs q) (hT : eP s.W F0 FW t) :
    ∃ m ops, runT P (crowd gs w sl) s.W = (.next m, ops) ∧ Reaches P (Fin P s SM SW (acc ++ vs)) m (t ++ ops) := by
  cases vs with
  | nil =>
    obtain ⟨gs', b', w', ops, q', pc, hr, hth, hD', hW2, hrel, hL', hT'⟩ := xU hp h hL hT h.Dx hW sl
    rw [fE ha] at hD'
    refine ⟨_, _, hr, ?_⟩
    rw [List.append_nil]
    exact HV hp (hM.rely hrel) hW2 hD' hL' hT'
  | cons v vs' =>
    obtain ⟨hv, _, B2, z, hb, hn⟩ := hp.send _ _ _ _ _ hW
    obtain ⟨gs', ops, hr, rfl, hD', hL'⟩ := Cz hp h hL ha hb sl
    refine ⟨_, _, hr, ?_⟩
    rw [Array.append_empty]
    exact HZ hp (hV v vs' rfl) hM hv hn hD' hL' hT
theorem OU (hp : Parts P s SM SW dY) {acc vs : List Value} (hV : Bl P s SM SW vs) : ∀ (M : Nat) {F0 FW : Nat → Prop} {gs : Array Goroutine} {a b : Goroutine} {w : World} {sl : Option (Nat × Nat)} {t : Trace} {q : Nat → Nat} {kp kt : Nat}, sumTo s.size q ≤ M → (∀ w1, bA F0 w w1 → SM acc F0 a w1) → SW vs FW b w → ed P s kp kt false F0 FW gs a b w → bW (Two s.W) P t gs q → eP s.W F0 FW t → Reaches P (Fin P s SM SW (acc ++ vs)) (crowd gs w sl) t := by
  intro M
  induction M using Nat.strongRecOn with
  | ind M ih =>
    intro F0 FW gs a b w sl t q kp kt hM hS hW h hL hT
    have hrun := Cx hp hW
    have ha := Ml hp (hS w (.refl _ _))
    rcases h.pick hL (fV ha) (fV hrun) (.inl ha) (fun d => fE ha _) (fun d => fE hrun _) sl with ⟨d, sl', _, hst⟩ | ⟨d, sl', _, hst⟩ | ⟨d, sl', gs', q', i, fn, pos, es, hi0, kZ, hm, hst, h', hL', hlt⟩
    · have hD := h.at d h.g0 h.gW rfl
      obtain ⟨A2, h1, h2⟩ := hp.Cw (hS (w.at d) (bA.at F0 w d))
      obtain ⟨gs', ops, hr, rfl, hD', hL'⟩ := xV hp hD hL h1 hrun sl'
      refine Reaches.step (hst.trans hr) ?_
      rw [Array.append_empty]
      exact tN hp hV _ (Nat.le_refl _) h2 (hp.lC _ _ _ _ _ hW (bA.at FW w d)) hD' hL' hT h.Dx
    · obtain ⟨m, ops, hr, hR⟩ := CB hp hV (sl := sl') ha (aK.stop fun w1 h1 => hS w1 ((bA.at F0 w d).trans h1)) (hp.lC _ _ _ _ _ hW (bA.at FW w d)) (h.at d h.g0 h.gW rfl) hL hT
      exact Reaches.step (hst.trans hr) hR
    · refine Reaches.step hst ?_
      exact ih (sumTo s.size q') (by omega) (Nat.le_refl _) (fun w1 h1 => hS w1 ((bA.at F0 w d).trans h1)) (hp.lC _ _ _ _ _ hW (bA.at FW w d)) h' hL' (mP hT hi0 kZ hm)
theorem Mm (hp : Parts P s SM SW dY) {acc vs : List Value} (hV : Bl P s SM SW vs) {F0 : Nat → Prop} {a : Goroutine} {w : World} (hM : aK P true (SM acc) F0 a w) : ∀ {FW : Nat → Prop} {gs : Array Goroutine} {b : Goroutine} {sl : Option (Nat × Nat)} {t : Trace} {q : Nat → Nat} {kp kt : Nat}, SW vs FW b w → ed P s kp kt false F0 FW gs a b w → bW (Two s.W) P t gs q → eP s.W F0 FW t → Reaches P (Fin P s SM SW (acc ++ vs)) (crowd gs w sl) t := by
  refine hM.induct (X := fun F0 a w => ∀ {FW : Nat → Prop} {gs : Array Goroutine} {b : Goroutine} {sl : Option (Nat × Nat)} {t : Trace} {q : Nat → Nat} {kp kt : Nat}, SW vs FW b w → ed P s kp kt false F0 FW gs a b w → bW (Two s.W) P t gs q → eP s.W F0 FW t → Reaches P (Fin P s SM SW (acc ++ vs)) (crowd gs w sl) t) ?_ ?_
  · intro F0 a w hs FW gs b sl t q kp kt hW h hL hT
    exact OU hp hV _ (Nat.le_refl _) hs hW h hL hT
  · intro F0 a w hrun hstep FW gs b sl t q kp kt
    suffices H : ∀ M w gs sl t q, sumTo s.size q ≤ M → (∀ w1, bA F0 w w1 → (stepG P true a w1).goes fun g' w' es => mr F0 w1 w' es ∧ aK P true (SM acc) (Grow F0 w1 w') g' w' ∧ ∀ {FW : Nat → Prop} {gs : Array Goroutine} {b : Goroutine} {sl : Option (Nat × Nat)} {t : Trace} {q : Nat → Nat} {kp kt : Nat}, SW vs FW b w' → ed P s kp kt false (Grow F0 w1 w') FW gs g' b w' → bW (Two s.W) P t gs q → eP s.W (Grow F0 w1 w') FW t → Reaches P (Fin P s SM SW (acc ++ vs)) (crowd gs w' sl) t) → SW vs FW b w → ed P s kp kt false F0 FW gs a b w → bW (Two s.W) P t gs q → eP s.W F0 FW t → Reaches P (Fin P s SM SW (acc ++ vs)) (crowd gs w sl) t from H _ w gs sl t q (Nat.le_refl _) hstep
    intro M
    induction M using Nat.strongRecOn with
    | ind M ih =>
      intro w gs sl t q hM hstep hW h hL hT
      have ru := Cx hp hW
      rcases h.pick hL (fV hrun) (fV ru) (.inl hrun) (fun d => fE hrun _) (fun d => fE ru _) sl with ⟨d, sl', _, hst⟩ | ⟨d, sl', _, hst⟩ | ⟨d, sl', gs', q', i, fn, pos, es, hi0, kZ, hm, hst, h', hL', hlt⟩
      · have hs := hstep (w.at d) (bA.at F0 w d)
        have oO : 0 < gs.size := (Array.getElem?_eq_some_iff.1 h.g0).1
        cases hgo : stepG P true a (w.at d) with
        | go a' w' es =>
          rw [hgo, goes_go] at hs
          obtain ⟨hgu, _, hnext⟩ := hs
          have hrunT := runT_crowd_go (P := P) (sl := sl') (i := 0) h.g0 (show stepG P (0 == 0) a (w.at d) = _ from hgo)
          refine Reaches.step (hst.trans hrunT) ?_
          have hD := (h.at d h.g0 h.gW rfl).main hgu (gs' := (gs.map (woken P a a' w')).setIfInBounds 0 a') (kg oO) (by rw [eO (Ne.symm h.w0) h.gW, woken_run ru]) (by simp)
          exact hnext (sl := sl') (hp.lC _ _ _ _ _ (hp.lC _ _ _ _ _ hW (bA.at FW w d)) hD.2) hD.1 (hL.nO (.inl rfl) oO ofEvents_g) ((hT.grow (fun x hx => .inl hx) fun _ h => h).main h.w0 hD.1.apart hgu.evs)
        | _ => rw [hgo] at hs; exact hs.elim
      · obtain ⟨m, ops, hr, hR⟩ := CB hp hV (sl := sl') hrun (aK.step hrun fun w1 h1 => goes_mono (hstep w1 ((bA.at F0 w d).trans h1)) fun _ _ _ hx => ⟨hx.1, hx.2.1⟩) (hp.lC _ _ _ _ _ hW (bA.at FW w d)) (h.at d h.g0 h.gW rfl) hL hT
        exact Reaches.step (hst.trans hr) hR
      · refine Reaches.step hst ?_
        exact ih (sumTo s.size q') (by omega) (w.at d) gs' sl' _ q' (Nat.le_refl _) (fun w1 h1 => hstep w1 ((bA.at F0 w d).trans h1)) (hp.lC _ _ _ _ _ hW (bA.at FW w d)) h' hL' (mP hT hi0 kZ hm)
theorem Mo (hp : Parts P s SM SW dY) {acc vs : List Value} (hV : Bl P s SM SW vs) {FW : Nat → Prop} {b : Goroutine} {w : World} (hW : aK P false (SW vs) FW b w) : ∀ {F0 : Nat → Prop} {gs : Array Goroutine} {A2 : Goroutine} {sl : Option (Nat × Nat)} {t : Trace} {q : Nat → Nat} {kp kt : Nat}, lh P s SM dY acc F0 A2 w → ed P s kp kt false F0 FW gs (parked A2 s.cs .select) b w → bW (Two s.W) P t gs q → eP s.W F0 FW t → Reaches P (Fin P s SM SW (acc ++ vs)) (crowd gs w sl) t := by
  refine hW.induct (X := fun FW b w => ∀ {F0 : Nat → Prop} {gs : Array Goroutine} {A2 : Goroutine} {sl : Option (Nat × Nat)} {t : Trace} {q : Nat → Nat} {kp kt : Nat}, lh P s SM dY acc F0 A2 w → ed P s kp kt false F0 FW gs (parked A2 s.cs .select) b w → bW (Two s.W) P t gs q → eP s.W F0 FW t → Reaches P (Fin P s SM SW (acc ++ vs)) (crowd gs w sl) t) ?_ ?_
  · intro FW b w hs F0 gs A2 sl t q kp kt hS h hL hT
    exact tN hp hV _ (Nat.le_refl _) hS (hs w (.refl _ _)) h hL hT h.Dx
  · intro FW b w hrun hstep F0 gs A2 sl t q kp kt
    suffices H : ∀ M w gs sl t q, sumTo s.size q ≤ M → (∀ w1, bA FW w w1 → (stepG P false b w1).goes fun g' w' es => mr FW w1 w' es ∧ aK P false (SW vs) (Grow FW w1 w') g' w' ∧ ∀ {F0 : Nat → Prop} {gs : Array Goroutine} {A2 : Goroutine} {sl : Option (Nat × Nat)} {t : Trace} {q : Nat → Nat} {kp kt : Nat}, lh P s SM dY acc F0 A2 w' → ed P s kp kt false F0 (Grow FW w1 w') gs (parked A2 s.cs .select) g' w' → bW (Two s.W) P t gs q → eP s.W F0 (Grow FW w1 w') t → Reaches P (Fin P s SM SW (acc ++ vs)) (crowd gs w' sl) t) → lh P s SM dY acc F0 A2 w → ed P s kp kt false F0 FW gs (parked A2 s.cs .select) b w → bW (Two s.W) P t gs q → eP s.W F0 FW t → Reaches P (Fin P s SM SW (acc ++ vs)) (crowd gs w sl) t from H _ w gs sl t q (Nat.le_refl _) hstep
    intro M
    induction M using Nat.strongRecOn with
    | ind M ih =>
      intro w gs sl t q hM hstep hS h hL hT
      rcases h.pick hL (nH _ _ _) (fV hrun) (.inr hrun) (fun d => qO (h.op.at d) (show dP (w.at d) s.th kt from h.ot)) (fun d => fE hrun _) sl with ⟨d, sl', hx, _⟩ | ⟨d, sl', _, hst⟩ | ⟨d, sl', gs', q', i, fn, pos, es, hi0, kZ, hm, hst, h', hL', hlt⟩
      · cases hx
      · have hs := hstep (w.at d) (bA.at FW w d)
        have hltW : s.W < gs.size := (Array.getElem?_eq_some_iff.1 h.gW).1
        cases hgo : stepG P false b (w.at d) with
        | go b' w' es =>
          rw [hgo, goes_go] at hs
          obtain ⟨hgu, _, hnext⟩ := hs
          have hrunT := runT_crowd_go (P := P) (sl := sl') (i := s.W) h.gW (show stepG P (s.W == 0) b (w.at d) = _ by rw [show (s.W == 0) = false by simpa using h.w0]; exact hgo)
          refine Reaches.step (hst.trans hrunT) ?_
          have hopen := ((h.at d h.g0 h.gW rfl).work hgu (gs' := gs.setIfInBounds s.W b') (by rw [Array.getElem?_setIfInBounds_ne h.w0]; exact h.g0) (by rw [Array.getElem?_setIfInBounds_self_of_lt hltW]) (by simp)).1
          have hD := (h.at d h.g0 h.gW rfl).work hgu (gs' := (gs.map (woken P b b' w')).setIfInBounds s.W b') (by rw [eO h.w0 h.g0, qB (qO hopen.op (show dP w' s.th kt from hopen.ot))]) (kg hltW) (by simp)
          exact hnext (sl := sl') ((hS.rely hp (bA.at F0 w d)).rely hp hD.2) hD.1 (hL.nO (.inr rfl) hltW ofEvents_g) ((hT.grow (fun _ h => h) fun x hx => .inl hx).work h.w0 hD.1.apart hgu.evs)
        | _ => rw [hgo] at hs; exact hs.elim
      · refine Reaches.step hst ?_
        exact ih (sumTo s.size q') (by omega) (w.at d) gs' sl' _ q' (Nat.le_refl _) (fun w1 h1 => hstep w1 ((bA.at FW w d).trans h1)) (hS.rely hp (bA.at F0 w d)) h' hL' (mP hT hi0 kZ hm)
end
section
variable {P : Program} {s : Score} {SM SW : List Value → (Nat → Prop) → Goroutine → World → Prop} {dY : Value → Prop}
theorem Gj (hp : Parts P s SM SW dY) {acc vs : List Value} (hV : Bl P s SM SW vs) {FW : Nat → Prop} {b : Goroutine} {w0 : World} (ru : b.status = .running)
    (hstep : ∀ w1, bA FW w0 w1 → (stepG P false b w1).goes fun g' w' es => mr FW w1 w' es ∧ aK P false (SW vs) (Grow FW w1 w') g' w' ∧ ∀ {F0 : Nat → Prop} {gs : Array Goroutine} {a : Goroutine} {sl : Option (Nat × Nat)} {t : Trace} {q : Nat → Nat} {kp kt : Nat}, aK P true (SM acc) F0 a w' → ed P s kp kt false F0 (Grow FW w1 w') gs a g' w' → bW (Two s.W) P t gs q → eP s.W F0 (Grow FW w1 w') t → Reaches P (Fin P s SM SW (acc ++ vs)) (crowd gs w' sl) t)
    {F0 : Nat → Prop} {a : Goroutine} {w : World} (hM : aK P true (SM acc) F0 a w) : ∀ {gs : Array Goroutine} {sl : Option (Nat × Nat)} {t : Trace} {q : Nat → Nat} {kp kt : Nat}, bA FW w0 w → ed P s kp kt false F0 FW gs a b w → bW (Two s.W) P t gs q → eP s.W F0 FW t → Reaches P (Fin P s SM SW (acc ++ vs)) (crowd gs w sl) t := by
  have Qz : ∀ {F0 : Nat → Prop} {a : Goroutine} {w : World} {gs : Array Goroutine} {sl : Option (Nat × Nat)} {t : Trace} {q : Nat → Nat} {kp kt : Nat}, aK P true (SM acc) F0 a w → a.status = .running → bA FW w0 w → ed P s kp kt false F0 FW gs a b w → bW (Two s.W) P t gs q → eP s.W F0 FW t → ∃ m ops, runT P (crowd gs w sl) s.W = (.next m, ops) ∧ Reaches P (Fin P s SM SW (acc ++ vs)) m (t ++ ops) := by
    intro F0 a w gs sl t q kp kt hM ha hrel h hL hT
    have hs := hstep w hrel
    have hltW : s.W < gs.size := (Array.getElem?_eq_some_iff.1 h.gW).1
    cases hgo : stepG P false b w with
    | go b' w' es =>
      rw [hgo, goes_go] at hs
      obtain ⟨hgu, _, hnext⟩ := hs
      have hrunT := runT_crowd_go (P := P) (sl := sl) (i := s.W) h.gW (show stepG P (s.W == 0) b w = _ by rw [show (s.W == 0) = false by simpa using h.w0]; exact hgo)
      refine ⟨_, _, hrunT, ?_⟩
      have hD := h.work hgu (gs' := (gs.map (woken P b b' w')).setIfInBounds s.W b') (by rw [eO h.w0 h.g0, woken_run ha]) (kg hltW) (by simp)
      exact hnext (sl := sl) (hM.rely hD.2) hD.1 (hL.nO (.inr rfl) hltW ofEvents_g) ((hT.grow (fun _ h => h) fun x hx => .inl hx).work h.w0 hD.1.apart hgu.evs)
    | _ => rw [hgo] at hs; exact hs.elim
  have Vn : ∀ {w : World}, bA FW w0 w → aK P false (SW vs) FW b w := fun hrel => aK.step ru fun w1 h1 => goes_mono (hstep w1 (hrel.trans h1)) fun _ _ _ hx => ⟨hx.1, hx.2.1⟩
  refine @aK.induct _ _ _ _ _ _ (fun F0 a w => ∀ {gs : Array Goroutine} {sl : Option (Nat × Nat)} {t : Trace} {q : Nat → Nat} {kp kt : Nat}, bA FW w0 w → ed P s kp kt false F0 FW gs a b w → bW (Two s.W) P t gs q → eP s.W F0 FW t → Reaches P (Fin P s SM SW (acc ++ vs)) (crowd gs w sl) t) hM ?_ ?_
  · intro F0 a w hs gs sl t q kp kt
    suffices H : ∀ M w gs sl t q, sumTo s.size q ≤ M → (∀ w1, bA F0 w w1 → SM acc F0 a w1) → bA FW w0 w → ed P s kp kt false F0 FW gs a b w → bW (Two s.W) P t gs q → eP s.W F0 FW t → Reaches P (Fin P s SM SW (acc ++ vs)) (crowd gs w sl) t from H _ w gs sl t q (Nat.le_refl _) hs
    intro M
    induction M using Nat.strongRecOn with
    | ind M ih =>
      intro w gs sl t q hM hs hrel h hL hT
      have ha := Ml hp (hs w (.refl _ _))
      rcases h.pick hL (fV ha) (fV ru) (.inl ha) (fun d => fE ha _) (fun d => fE ru _) sl with ⟨d, sl', _, hst⟩ | ⟨d, sl', _, hst⟩ | ⟨d, sl', gs', q', i, fn, pos, es, hi0, kZ, hm, hst, h', hL', hlt⟩
      · obtain ⟨A2, h1, h2⟩ := hp.Cw (hs (w.at d) (bA.at F0 w d))
        obtain ⟨gs', ops, hr, rfl, hD', hL'⟩ := xV hp (h.at d h.g0 h.gW rfl) hL h1 ru sl'
        refine Reaches.step (hst.trans hr) ?_
        rw [Array.append_empty]
        exact Mo hp hV (Vn (hrel.trans (bA.at FW w d))) h2 hD' hL' hT
      · obtain ⟨m, ops, hr, hR⟩ := Qz (sl := sl') (aK.stop fun w1 h1 => hs w1 ((bA.at F0 w d).trans h1)) ha (hrel.trans (bA.at FW w d)) (h.at d h.g0 h.gW rfl) hL hT
        exact Reaches.step (hst.trans hr) hR
      · refine Reaches.step hst ?_
        exact ih (sumTo s.size q') (by omega) (w.at d) gs' sl' _ q' (Nat.le_refl _) (fun w1 h1 => hs w1 ((bA.at F0 w d).trans h1)) (hrel.trans (bA.at FW w d)) h' hL' (mP hT hi0 kZ hm)
  · intro F0 a w hrun xW gs sl t q kp kt
    suffices H : ∀ M w gs sl t q, sumTo s.size q ≤ M → (∀ w1, bA F0 w w1 → (stepG P true a w1).goes fun g' w' es => mr F0 w1 w' es ∧ aK P true (SM acc) (Grow F0 w1 w') g' w' ∧ ∀ {gs : Array Goroutine} {sl : Option (Nat × Nat)} {t : Trace} {q : Nat → Nat} {kp kt : Nat}, bA FW w0 w' → ed P s kp kt false (Grow F0 w1 w') FW gs g' b w' → bW (Two s.W) P t gs q → eP s.W (Grow F0 w1 w') FW t → Reaches P (Fin P s SM SW (acc ++ vs)) (crowd gs w' sl) t) → bA FW w0 w → ed P s kp kt false F0 FW gs a b w → bW (Two s.W) P t gs q → eP s.W F0 FW t → Reaches P (Fin P s SM SW (acc ++ vs)) (crowd gs w sl) t from H _ w gs sl t q (Nat.le_refl _) xW
    intro M
    induction M using Nat.strongRecOn with
    | ind M ih =>
      intro w gs sl t q hM xW hrel h hL hT
      rcases h.pick hL (fV hrun) (fV ru) (.inl hrun) (fun d => fE hrun _) (fun d => fE ru _) sl with ⟨d, sl', _, hst⟩ | ⟨d, sl', _, hst⟩ | ⟨d, sl', gs', q', i, fn, pos, es, hi0, kZ, hm, hst, h', hL', hlt⟩
      · have hs := xW (w.at d) (bA.at F0 w d)
        have oO : 0 < gs.size := (Array.getElem?_eq_some_iff.1 h.g0).1
        cases hgo : stepG P true a (w.at d) with
        | go a' w' es =>
          rw [hgo, goes_go] at hs
          obtain ⟨hgu, _, hnext⟩ := hs
          have hrunT := runT_crowd_go (P := P) (sl := sl') (i := 0) h.g0 (show stepG P (0 == 0) a (w.at d) = _ from hgo)
          refine Reaches.step (hst.trans hrunT) ?_
          have hD := (h.at d h.g0 h.gW rfl).main hgu (gs' := (gs.map (woken P a a' w')).setIfInBounds 0 a') (kg oO) (by rw [eO (Ne.symm h.w0) h.gW, woken_run ru]) (by simp)
          exact hnext (sl := sl') ((hrel.trans (bA.at FW w d)).trans hD.2) hD.1 (hL.nO (.inl rfl) oO ofEvents_g) ((hT.grow (fun x hx => .inl hx) fun _ h => h).main h.w0 hD.1.apart hgu.evs)
        | _ => rw [hgo] at hs; exact hs.elim
      · obtain ⟨m, ops, hr, hR⟩ := Qz (sl := sl') (aK.step hrun fun w1 h1 => goes_mono (xW w1 ((bA.at F0 w d).trans h1)) fun _ _ _ hx => ⟨hx.1, hx.2.1⟩) hrun (hrel.trans (bA.at FW w d)) (h.at d h.g0 h.gW rfl) hL hT
        exact Reaches.step (hst.trans hr) hR
      · refine Reaches.step hst ?_
        exact ih (sumTo s.size q') (by omega) (w.at d) gs' sl' _ q' (Nat.le_refl _) (fun w1 h1 => xW w1 ((bA.at F0 w d).trans h1)) (hrel.trans (bA.at FW w d)) h' hL' (mP hT hi0 kZ hm)
theorem En (hp : Parts P s SM SW dY) {vs : List Value} (hV : Bl P s SM SW vs) : Claim P s SM SW vs := by
  intro acc F0 FW gs a b w sl t q kp kt hM hW h hL hT
  revert F0 gs a sl t q kp kt
  refine hW.induct (X := fun FW b w => ∀ {F0 : Nat → Prop} {gs : Array Goroutine} {a : Goroutine} {sl : Option (Nat × Nat)} {t : Trace} {q : Nat → Nat} {kp kt : Nat}, aK P true (SM acc) F0 a w → ed P s kp kt false F0 FW gs a b w → bW (Two s.W) P t gs q → eP s.W F0 FW t → Reaches P (Fin P s SM SW (acc ++ vs)) (crowd gs w sl) t) ?_ ?_
  · intro FW b w hs F0 gs a sl t q kp kt hM h hL hT
    exact Mm hp hV hM (hs w (.refl _ _)) h hL hT
  · intro FW b w hrun hstep F0 gs a sl t q kp kt hM h hL hT
    exact Gj hp hV hrun hstep hM (.refl _ _) h hL hT
theorem Kl (hp : Parts P s SM SW dY) : ∀ vs : List Value, Claim P s SM SW vs
  | [] => En hp fun _ _ e => by cases e
  | v :: vs => En hp fun v' vs' e => by
    cases e
    exact Kl hp vs
end
end
end Go.Proofs.YtignemioillaiaaGreat
