/- A machine of many goroutines: some are spoken of, all others only leave. The walk with no bound beside leavers. -/
import Derived.Test.YtignemioillaiaaGreatG23
import Derived.Conc.CrowdSel
namespace Go.Proofs.YtignemioillaiaaGreat
set_option maxHeartbeats 8000000
set_option maxRecDepth 100000
section
open Go Go.Conc
open Go.ConcN (sumTo upd sumTo_upd upd_ne upd_same)
def Reaches (P : Program) (K : Machine → Trace → Prop) (m : Machine) (t : Trace) : Prop := ∃ N m' t', runNT P N m t = (.next m', t') ∧ K m' t'
section
variable {P : Program} {K K' : Machine → Trace → Prop} {m : Machine} {t : Trace}
theorem Reaches.here (h : K m t) : Reaches P K m t := ⟨0, m, t, rfl, h⟩
theorem Reaches.step {m1 : Machine} {ops : Trace} (h : stepT P m = (.next m1, ops)) (h1 : Reaches P K m1 (t ++ ops)) : Reaches P K m t := by
  obtain ⟨N, m', t', hr, hk⟩ := h1
  exact ⟨N + 1, m', t', by simp only [runNT, h]; exact hr, hk⟩
theorem rT : ∀ (i k : Nat) {m m' : Machine} {t t' : Trace}, runNT P i m t = (.next m', t') → runNT P (i + k) m t = runNT P k m' t'
  | 0, k, m, m', t, t', h => by cases h; rw [Nat.zero_add]
  | i + 1, k, m, m', t, t', h => by
    rw [Nat.succ_add]
    simp only [runNT] at h ⊢
    generalize stepT P m = r at h
    obtain ⟨s, ops⟩ := r
    cases s with
    | next m1 => exact rT i k h
    | ended o w => cases h
theorem Reaches.trans (h : Reaches P K m t) (hk : ∀ m t, K m t → Reaches P K' m t) : Reaches P K' m t := by
  obtain ⟨N, m', t', hr, h1⟩ := h
  obtain ⟨N', m2, t2, hr2, h2⟩ := hk _ _ h1
  exact ⟨N + N', m2, t2, (rT N N' hr).trans hr2, h2⟩
theorem Reaches.mono (h : Reaches P K m t) (hk : ∀ m t, K m t → K' m t) : Reaches P K' m t := h.trans fun _ _ x => .here (hk _ _ x)
end
structure bW (Sp : Nat → Prop) (P : Program) (t : Trace) (gs : Array Goroutine) (q : Nat → Nat) : Prop where
  old : ∀ i g, ¬ Sp i → gs[i]? = some g → QuitsD P (q i) (Deaf t i) g
  above : ∀ j, gs.size ≤ j → Deaf t j = 0
section
variable {P : Program} {Sp : Nat → Prop} {t : Trace} {gs : Array Goroutine} {q : Nat → Nat}
theorem ofEvents_g {i : Nat} {fn : FuncId} {pos : String} {es : Array Event} : ∀ op ∈ MemOp.ofEvents i fn pos es, op.g = i := by
  intro op hop
  rw [ofEvents_eq] at hop
  obtain ⟨e, _, rfl⟩ := Array.mem_map.1 hop
  rfl
theorem bW.leavers (h : bW (· = 0) P t gs q) : Leavers P t gs q := ⟨fun i g hi hg => h.old i g (by omega) hg, h.above⟩
theorem bW.of (h : Leavers P t gs q) : bW (· = 0) P t gs q := ⟨fun i g hi hg => h.old i g (by omega) hg, h.above⟩
theorem bW.nO (h : bW Sp P t gs q) {i : Nat} {g g' : Goroutine} {w' : World} (hi : Sp i) (hlt : i < gs.size) {u : Trace} (hu : ∀ op ∈ u, op.g = i) : bW Sp P (t ++ u) ((gs.map (woken P g g' w')).setIfInBounds i g') q := by
  refine ⟨fun j x hj hx => ?_, fun j hj => ?_⟩
  · have hne : i ≠ j := by rintro rfl; exact hj hi
    rw [Array.getElem?_setIfInBounds_ne hne, Array.getElem?_map] at hx
    obtain ⟨y, hy, rfl⟩ := Option.map_eq_some_iff.1 hx
    have hq := h.old j y hj hy
    rw [woken_quitsD hq, Deaf_other t hne _ hu]
    exact hq
  · rw [Deaf_other t (g' := i) (by simp at hj; omega) _ hu]
    exact h.above j (by simpa using hj)
theorem bW.slip (h : bW Sp P t gs q) {i : Nat} {g : Goroutine} {w : World} (hi : gs[i]? = some g) (hs : ¬ Sp i) (hz : ¬ i = 0) (hr : g.status = .running) (sl : Option (Nat × Nat)) :
    ∃ g' es q', (∀ e ∈ es, Event.mute e = true) ∧ runT P (crowd gs w sl) i = (.next (crowd ((gs.map (woken P g g' w)).setIfInBounds i g') w sl), MemOp.ofEvents i g.frame.fn g.frame.place es) ∧
      bW Sp P (t ++ MemOp.ofEvents i g.frame.fn g.frame.place es) ((gs.map (woken P g g' w)).setIfInBounds i g') q' ∧ sumTo gs.size q' < sumTo gs.size q := by
  have hq := h.old i g hs hi
  have hi0 : (i == 0) = false := by simp; omega
  have hlt : i < gs.size := (Array.getElem?_eq_some_iff.1 hi).1
  cases hqi : q i with
  | zero => rw [hqi] at hq; rw [hq.1] at hr; cases hr
  | succ k =>
    rw [hqi] at hq
    rcases hq with ⟨hf, _⟩ | ⟨_, g', es, hm, hstp, hq'⟩
    · rw [hf] at hr; cases hr
    refine ⟨g', es, upd q i k, hm, runT_crowd_go (P := P) (sl := sl) (i := i) hi (by rw [hi0]; exact hstp w), ⟨fun j x hj hx => ?_, fun j hj => ?_⟩, ?_⟩
    · by_cases hji : i = j
      · subst hji
        rw [Array.getElem?_setIfInBounds_self_of_lt (by simpa using hlt)] at hx
        obtain rfl := Option.some.inj hx
        rw [upd_same, Deaf_own]
        exact hq'
      · rw [Array.getElem?_setIfInBounds_ne hji, Array.getElem?_map] at hx
        obtain ⟨y, hy, rfl⟩ := Option.map_eq_some_iff.1 hx
        have hqj := h.old j y hj hy
        rw [woken_quitsD hqj, upd_ne q k (Ne.symm hji), Deaf_other t hji _ ofEvents_g]
        exact hqj
    · rw [Deaf_other t (g' := i) (by simp at hj; omega) _ ofEvents_g]
      exact h.above j (by simpa using hj)
    · have : sumTo gs.size (upd q i k) + q i = sumTo gs.size q + k := sumTo_upd q k id hlt
      omega
theorem bW.awake (h : bW Sp P t gs q) (hs : ∀ i g, Sp i → gs[i]? = some g → awake g) : ∀ g ∈ gs, awake g := by
  intro g hg
  obtain ⟨i, hi, rfl⟩ := Array.mem_iff_getElem.1 hg
  by_cases hsp : Sp i
  · exact hs i _ hsp (Array.getElem?_eq_getElem hi)
  · exact awake_of ((h.old i _ hsp (Array.getElem?_eq_getElem hi)).status.elim .inl fun x => .inr (.inr x))
theorem eO {i j : Nat} {g' x : Goroutine} {f : Goroutine → Goroutine} (hij : i ≠ j) (hx : gs[j]? = some x) : ((gs.map f).setIfInBounds i g')[j]? = some (f x) := by
  rw [Array.getElem?_setIfInBounds_ne hij, Array.getElem?_map, hx]
  rfl
theorem kg {i : Nat} {g' : Goroutine} {f : Goroutine → Goroutine} (hlt : i < gs.size) : ((gs.map f).setIfInBounds i g')[i]? = some g' := by
  rw [Array.getElem?_setIfInBounds_self_of_lt (by simpa using hlt)]
end
def kD (t : Trace) : Prop := ∃ B, Past (fun _ => False) B t
theorem Mf (t : Trace) : ∃ B, ∀ op ∈ t, op.act.low B := by
  obtain ⟨l⟩ := t
  induction l with
  | nil => exact ⟨0, by simp⟩
  | cons a l ih =>
    obtain ⟨B, hB⟩ := ih
    obtain ⟨B', hB'⟩ : ∃ B', a.act.low B' := by
      cases a.act with
      | access e =>
        obtain ⟨l, wr, sy⟩ := e
        cases l with
        | cell x => exact ⟨x.block + 1, Nat.lt_succ_self _⟩
        | obj x => exact ⟨x + 1, Nat.lt_succ_self _⟩
        | _ => exact ⟨0, trivial⟩
      | mark m =>
        cases m with
        | acquire x => exact ⟨x.block + 1, Nat.lt_succ_self _⟩
        | release x => exact ⟨x.block + 1, Nat.lt_succ_self _⟩
        | releaseMerge x => exact ⟨x.block + 1, Nat.lt_succ_self _⟩
        | read x => exact ⟨x.block + 1, Nat.lt_succ_self _⟩
        | write x => exact ⟨x.block + 1, Nat.lt_succ_self _⟩
        | _ => exact ⟨0, trivial⟩
      | go _ => exact ⟨0, trivial⟩
      | start => exact ⟨0, trivial⟩
      | send c _ => exact ⟨c + 1, Nat.lt_succ_self _⟩
      | sendDone c _ => exact ⟨c + 1, Nat.lt_succ_self _⟩
      | recv c _ _ => exact ⟨c + 1, Nat.lt_succ_self _⟩
      | recvDone c _ => exact ⟨c + 1, Nat.lt_succ_self _⟩
      | close c => exact ⟨c + 1, Nat.lt_succ_self _⟩
      | recvClosed c => exact ⟨c + 1, Nat.lt_succ_self _⟩
    refine ⟨max B B', fun op hop => ?_⟩
    simp only [List.mem_toArray, List.mem_cons] at hop
    rcases hop with rfl | hop
    · exact MemAct.low_mono (Nat.le_max_right _ _) hB'
    · exact MemAct.low_mono (Nat.le_max_left _ _) (hB op (by simpa using hop))
theorem kD.own {t : Trace} (h : kD t) {fn : FuncId} {pos : String} {es : Array Event} (hes : ∀ e ∈ es, mU e) : kD (t ++ MemOp.ofEvents 0 fn pos es) := by
  obtain ⟨B, h⟩ := h
  obtain ⟨B', hB'⟩ := Mf (MemOp.ofEvents 0 fn pos es)
  refine ⟨max B B', (h.mono (Nat.le_max_left _ _)).own fun e he => ⟨fun _ _ hs => hs.elim, (hes e he).1, (hes e he).2, ?_⟩⟩
  have := hB' _ (by rw [ofEvents_eq]; exact Array.mem_map.2 ⟨e, he, rfl⟩)
  exact MemAct.low_mono (Nat.le_max_right _ _) this
theorem kD.mute {t : Trace} (h : kD t) {g : Nat} (hg : g ≠ 0) {fn : FuncId} {pos : String} {es : Array Event} (hm : ∀ e ∈ es, e.mute = true) : kD (t ++ MemOp.ofEvents g fn pos es) := by
  obtain ⟨B, h⟩ := h
  exact ⟨B, h.mute hg hm⟩
def Qw (P : Program) (n : Nat) (Stop : Goroutine → World → Prop) (m : Machine) (t : Trace) : Prop :=
  ∃ gs a w sl q, m = crowd gs w sl ∧ gs.size = n ∧ gs[0]? = some a ∧ Stop a w ∧ bW (· = 0) P t gs q ∧ kD t
def qd (_ _ : World) (es : Array Event) : Prop := ∀ e ∈ es, mU e
section
variable {P : Program} {Stop : Goroutine → World → Prop}
theorem OM {a : Goroutine} {w : World} (h : dw P true AtRel qd Stop a w) : ∀ {gs : Array Goroutine} {sl : Option (Nat × Nat)} {t : Trace} {q : Nat → Nat}, gs[0]? = some a → bW (· = 0) P t gs q → kD t → Reaches P (Qw P gs.size Stop) (crowd gs w sl) t := by
  refine h (fun a w => ∀ {gs : Array Goroutine} {sl : Option (Nat × Nat)} {t : Trace} {q : Nat → Nat}, gs[0]? = some a → bW (· = 0) P t gs q → kD t → Reaches P (Qw P gs.size Stop) (crowd gs w sl) t) ?_ ?_
  · intro a w hs gs sl t q h0 hL hP
    exact .here ⟨gs, a, w, sl, q, rfl, rfl, h0, hs w (atRel_refl w), hL, hP⟩
  · intro a w hrun hstep gs sl t q
    suffices H : ∀ M w gs sl t q, sumTo gs.size q ≤ M → (∀ w₁, AtRel w w₁ → (stepG P true a w₁).goes fun g' w' es => qd w₁ w' es ∧ ∀ {gs : Array Goroutine} {sl : Option (Nat × Nat)} {t : Trace} {q : Nat → Nat}, gs[0]? = some g' → bW (· = 0) P t gs q → kD t → Reaches P (Qw P gs.size Stop) (crowd gs w' sl) t) → gs[0]? = some a → bW (· = 0) P t gs q → kD t → Reaches P (Qw P gs.size Stop) (crowd gs w sl) t from H _ w gs sl t q (Nat.le_refl _) hstep
    intro M
    induction M using Nat.strongRecOn with
    | ind M ih =>
      intro w gs sl t q hM hstep h0 hL hP
      have haw := hL.awake fun i g hi hg => by cases hi; rw [h0] at hg; cases hg; exact awake_of (.inl hrun)
      obtain ⟨i, g, d, sl', hi, hg, hst⟩ := crowd_pick (P := P) (w := w) (sl := sl) haw ⟨0, a, h0, hrun⟩
      have hlt : 0 < gs.size := (Array.getElem?_eq_some_iff.1 h0).1
      by_cases hi0 : i = 0
      · subst hi0
        obtain rfl : g = a := by rw [h0] at hi; exact (Option.some.inj hi).symm
        have hs := hstep (w.at d) ⟨d, rfl⟩
        cases hgo : stepG P true g (w.at d) with
        | go a' w' es =>
          rw [hgo, goes_go] at hs
          have hrunT := runT_crowd_go (P := P) (sl := sl') (i := 0) hi (show stepG P (0 == 0) g (w.at d) = _ from hgo)
          refine Reaches.step (hst.trans hrunT) ?_
          have := hs.2 (gs := (gs.map (woken P g a' w')).setIfInBounds 0 a') (sl := sl') (t := t ++ MemOp.ofEvents 0 g.frame.fn g.frame.place es) (q := q) (kg hlt) (hL.nO rfl hlt ofEvents_g) (hP.own hs.1)
          simpa using this
        | _ => rw [hgo] at hs; exact hs.elim
      · obtain ⟨g', es, q', hm, uW, hL', hlt'⟩ := hL.slip (w := w.at d) hi hi0 hi0 hg sl'
        refine Reaches.step (hst.trans uW) ?_
        have hsz : ((gs.map (woken P g g' (w.at d))).setIfInBounds i g').size = gs.size := by simp
        have := ih (sumTo gs.size q') (by omega) (w.at d) _ sl' _ q' (by rw [hsz]; exact Nat.le_refl _) (fun w₁ h1 => hstep w₁ (atRel_trans _ _ _ ⟨d, rfl⟩ h1)) (by rw [eO hi0 h0, woken_run hrun]) hL' (hP.mute hi0 hm)
        rwa [hsz] at this
end
end
section
open Go Go.Conc
def xM (F : Nat → Prop) : Loc → Prop
  | .cell a => F a.block
  | .obj r => F r
  | _ => False
theorem Gf {F F' : Nat → Prop} (h : ∀ b, F b → F' b) {l : Loc} (hl : xM F l) : xM F' l := by
  cases l <;> first | exact h _ hl | exact hl
theorem xN {F F' : Nat → Prop} (h : ∀ b, F b → ¬ F' b) {l : Loc} (hl : xM F l) (hl' : xM F' l) : False := by
  cases l <;> first | exact h _ hl hl' | exact hl
def xP (F : Nat → Prop) (e : Event) : Prop := mU e ∧ ∀ x, (MemAct.ofEvent e).touch? = some x → x.loc.isMemory = true → xM F x.loc
structure eP (W : Nat) (F0 FW : Nat → Prop) (t : Trace) : Prop where
  clean : ∀ said, ¬ Race said t
  known : ∀ i a, touchAt t i = some a → a.loc.isMemory = true → (Knows t 0 i ∧ Knows t W i) ∨ (Knows t 0 i ∧ xM F0 a.loc) ∨ (Knows t W i ∧ xM FW a.loc)
  mV : Deaf t 0 = 0
  sN : Deaf t W = 0
theorem vG {t : Trace} {g : Nat} {fn : FuncId} {pos : String} {es : Array Event} (h : ∀ e ∈ es, mU e) : Deaf (t ++ MemOp.ofEvents g fn pos es) g = Deaf t g := by
  rw [Deaf_own]
  exact deafBehind_still (fun e he => h e he) _
theorem oD {g : Nat} {fn : FuncId} {pos : String} {es : Array Event} {op : MemOp} (h : op ∈ MemOp.ofEvents g fn pos es) : ∃ e ∈ es, op.act = .ofEvent e ∧ op.g = g := by
  rw [ofEvents_eq] at h
  obtain ⟨e, he, rfl⟩ := Array.mem_map.1 h
  exact ⟨e, he, rfl, rfl⟩
section
variable {W : Nat} {F0 FW tL vP : Nat → Prop} {t : Trace}
theorem eP.grow (h : eP W F0 FW t) (h0 : ∀ b, F0 b → tL b) (hW : ∀ b, FW b → vP b) : eP W tL vP t :=
  ⟨h.clean, fun i a ha hm => (h.known i a ha hm).imp id (Or.imp (fun x => ⟨x.1, Gf h0 x.2⟩) fun x => ⟨x.1, Gf hW x.2⟩), h.mV, h.sN⟩
theorem eP.main (h : eP W F0 FW t) (hW : W ≠ 0) (hd : ∀ b, F0 b → ¬ FW b) {fn : FuncId} {pos : String} {es : Array Event} (hes : ∀ e ∈ es, xP F0 e) : eP W F0 FW (t ++ MemOp.ofEvents 0 fn pos es) := by
  refine ⟨fun said => noRace_append (h.clean said) ofEvents_g fun i a ha op hop b hb hc => ?_, fun i a ha hm => ?_, (vG fun e he => (hes e he).1).trans h.mV, (Deaf_other t (Ne.symm hW) _ ofEvents_g).trans h.sN⟩
  · obtain ⟨e, he, ea, _⟩ := oD hop
    have hm : a.loc.isMemory = true := hc.2.1
    have hin : xM F0 b.loc := (hes e he).2 b (by rw [← ea]; exact hb) (by rw [← hc.1]; exact hm)
    rcases h.known i a ha hm with x | x | x
    · exact x.1
    · exact x.1
    · rw [hc.1] at x
      exact (xN hd hin x.2).elim
  · obtain ⟨x, hx, hxa⟩ := touch_of ha
    rcases getElem?_append_cases hx with ⟨_, hx'⟩ | ⟨_, hxu⟩
    · rcases h.known i a (by rw [touchAt_of hx']; exact hxa) hm with y | y | y
      · exact .inl ⟨y.1.app _, y.2.app _⟩
      · exact .inr (.inl ⟨y.1.app _, y.2⟩)
      · exact .inr (.inr ⟨y.1.app _, y.2⟩)
    · obtain ⟨e, he, ea, eg⟩ := oD hxu
      have := knows_own hx
      rw [eg] at this
      exact .inr (.inl ⟨this, (hes e he).2 a (by rw [← ea]; exact hxa) hm⟩)
theorem eP.work (h : eP W F0 FW t) (hW : W ≠ 0) (hd : ∀ b, F0 b → ¬ FW b) {fn : FuncId} {pos : String} {es : Array Event} (hes : ∀ e ∈ es, xP FW e) : eP W F0 FW (t ++ MemOp.ofEvents W fn pos es) := by
  refine ⟨fun said => noRace_append (h.clean said) ofEvents_g fun i a ha op hop b hb hc => ?_, fun i a ha hm => ?_, (Deaf_other t hW _ ofEvents_g).trans h.mV, (vG fun e he => (hes e he).1).trans h.sN⟩
  · obtain ⟨e, he, ea, _⟩ := oD hop
    have hm : a.loc.isMemory = true := hc.2.1
    have hin : xM FW b.loc := (hes e he).2 b (by rw [← ea]; exact hb) (by rw [← hc.1]; exact hm)
    rcases h.known i a ha hm with x | x | x
    · exact x.2
    · rw [hc.1] at x
      exact (xN hd x.2 hin).elim
    · exact x.1
  · obtain ⟨x, hx, hxa⟩ := touch_of ha
    rcases getElem?_append_cases hx with ⟨_, hx'⟩ | ⟨_, hxu⟩
    · rcases h.known i a (by rw [touchAt_of hx']; exact hxa) hm with y | y | y
      · exact .inl ⟨y.1.app _, y.2.app _⟩
      · exact .inr (.inl ⟨y.1.app _, y.2⟩)
      · exact .inr (.inr ⟨y.1.app _, y.2⟩)
    · obtain ⟨e, he, ea, eg⟩ := oD hxu
      have := knows_own hx
      rw [eg] at this
      exact .inr (.inr ⟨this, (hes e he).2 a (by rw [← ea]; exact hxa) hm⟩)
theorem eP.still (h : eP W F0 FW t) {u : Trace} (hu : ∀ op ∈ u, op.act.touch? = none) (h0 : Deaf (t ++ u) 0 = 0) (hW : Deaf (t ++ u) W = 0) : eP W F0 FW (t ++ u) := by
  refine ⟨fun said => ?_, fun i a ha hm => ?_, h0, hW⟩
  · rintro ⟨i, j, hij, ⟨a, b, ha, hb, hc⟩, n1, n2⟩
    obtain ⟨x, hx, hxa⟩ := touch_of ha
    obtain ⟨y, hy, hyb⟩ := touch_of hb
    rcases getElem?_append_cases hy with ⟨hj, hy'⟩ | ⟨hj, hyu⟩
    · rcases getElem?_append_cases hx with ⟨hi, hx'⟩ | ⟨_, hxu⟩
      · exact h.clean said ⟨i, j, hij, ⟨a, b, by simp [Trace.act?, hx', hxa], by simp [Trace.act?, hy', hyb], hc⟩, fun e => n1 (hb_app u e), fun e => n2 (hb_app u e)⟩
      · rw [hu x hxu] at hxa; cases hxa
    · rw [hu y hyu] at hyb; cases hyb
  · obtain ⟨x, hx, hxa⟩ := touch_of ha
    rcases getElem?_append_cases hx with ⟨_, hx'⟩ | ⟨_, hxu⟩
    · rcases h.known i a (by rw [touchAt_of hx']; exact hxa) hm with y | y | y
      · exact .inl ⟨y.1.app _, y.2.app _⟩
      · exact .inr (.inl ⟨y.1.app _, y.2⟩)
      · exact .inr (.inr ⟨y.1.app _, y.2⟩)
    · rw [hu x hxu] at hxa; cases hxa
end
def qh (u : Trace) : Prop := ∀ op ∈ u, op.act ≠ .mark .disable ∧ op.act ≠ .mark .enable
theorem Eh {t u : Trace} (hu : qh u) (g : Nat) : ∀ j, (t ++ u).deaf g (t.size + j) = Deaf t g := by
  intro j
  induction j with
  | zero =>
    have key : ∀ k, k ≤ t.size → (t ++ u).deaf g k = t.deaf g k := by
      intro k
      induction k with
      | zero => intro _; rfl
      | succ k ih =>
        intro hk
        simp only [Trace.deaf]
        rw [getElem?_append_old (by omega), ih (by omega)]
    exact key t.size (Nat.le_refl _)
  | succ j ih =>
    rw [← Nat.add_assoc]
    simp only [Trace.deaf]
    rw [ih]
    split
    · rename_i h
      rcases getElem?_append_cases h with ⟨hlt, _⟩ | ⟨_, hm⟩
      · omega
      · exact absurd rfl (hu _ hm).1
    · rename_i h
      rcases getElem?_append_cases h with ⟨hlt, _⟩ | ⟨_, hm⟩
      · omega
      · exact absurd rfl (hu _ hm).2
    · rfl
theorem mo {t u : Trace} (hu : qh u) (g : Nat) : Deaf (t ++ u) g = Deaf t g := by
  have := Eh (t := t) hu g u.size
  rw [← this]
  unfold Deaf
  rw [Array.size_append]
theorem heard_new {t u : Trace} (hu : qh u) {j : Nat} {op : MemOp} (h : (t ++ u)[t.size + j]? = some op) (hd : Deaf t op.g = 0) : (t ++ u).heard (t.size + j) :=
  ⟨op.g, by simp [Trace.g?, h], by rw [Eh hu]; exact hd⟩
theorem OO {t : Trace} (h1 : ∀ said, ¬ Race said t) (h2 : ∀ i a, touchAt t i = some a → a.loc.isMemory = true → Knows t 0 i) (h3 : Deaf t 0 = 0) : kD t := by
  obtain ⟨B, hB⟩ := Mf t
  refine ⟨B, h1, fun i a ha hm => .inl (h2 i a ha hm), ?_, h3, hB⟩
  intro i g hg hne hc
  obtain ⟨x, hx, hm, _⟩ := hc
  obtain ⟨q, z, hz, hzg, hb⟩ := h2 i x hx hm
  rcases hb with rfl | hb
  · have : t.g? i = some z.g := by simp [Trace.g?, hz]
    rw [this] at hg
    cases hg
    exact absurd hzg hne
  · exact ⟨q, by simp [Trace.g?, hz, hzg], hb⟩
theorem kD.known {t : Trace} (h : kD t) : ∀ i a, touchAt t i = some a → a.loc.isMemory = true → Knows t 0 i := by
  obtain ⟨B, h⟩ := h
  exact fun i a ha hm => (h.known i a ha hm).elim id fun x => x.1.elim
theorem pG {t u : Trace} {j : Nat} {op : MemOp} (h : u[j]? = some op) : (t ++ u)[t.size + j]? = some op := by
  rw [Array.getElem?_append_right (Nat.le_add_right _ _), Nat.add_sub_cancel_left]
  exact h
theorem zg {t : Trace} {i j : Nat} (h : Notices t i j) (hi : t.heard i) (hj : t.heard j) : HappensBefore t i j := .single (.inr ⟨h, hi, hj⟩)
section
variable {W : Nat} {F0 FW : Nat → Prop} {t : Trace}
theorem old_touch {u : Trace} (hu : ∀ op ∈ u, op.act.touch? = none) {i : Nat} {a : Touch} (ha : touchAt (t ++ u) i = some a) : touchAt t i = some a := by
  obtain ⟨x, hx, hxa⟩ := touch_of ha
  rcases getElem?_append_cases hx with ⟨_, hx'⟩ | ⟨_, hxu⟩
  · rw [touchAt_of hx']; exact hxa
  · rw [hu x hxu] at hxa; cases hxa
theorem eP.start (h : kD t) (_hW : W ≠ 0) (he : Deaf t W = 0) (fn fn' : FuncId) (pos pos' : String) : eP W F0 FW (t ++ #[⟨0, fn, pos, .go W⟩, ⟨W, fn', pos', .start⟩]) := by
  have hear : qh #[⟨0, fn, pos, .go W⟩, ⟨W, fn', pos', .start⟩] := by
    intro op hop
    simp only [List.mem_toArray, List.mem_cons, List.not_mem_nil, or_false] at hop
    rcases hop with rfl | rfl <;> exact ⟨nofun, nofun⟩
  have xQ : ∀ op ∈ (#[⟨0, fn, pos, .go W⟩, ⟨W, fn', pos', .start⟩] : Trace), op.act.touch? = none := by
    intro op hop
    simp only [List.mem_toArray, List.mem_cons, List.not_mem_nil, or_false] at hop
    rcases hop with rfl | rfl <;> rfl
  have h0 : Deaf t 0 = 0 := h.choose_spec.hears
  have hT : eP W (fun _ => True) (fun _ => True) t := ⟨h.choose_spec.clean, fun i a ha hm => .inr (.inl ⟨h.known i a ha hm, by cases hl : a.loc <;> rw [hl] at hm <;> first | trivial | cases hm⟩), h0, he⟩
  have hS := hT.still xQ ((mo hear 0).trans h0) ((mo hear W).trans he)
  have g0 := pG (t := t) (u := #[⟨0, fn, pos, .go W⟩, ⟨W, fn', pos', .start⟩]) (j := 0) (op := ⟨0, fn, pos, .go W⟩) rfl
  have g1 := pG (t := t) (u := #[⟨0, fn, pos, .go W⟩, ⟨W, fn', pos', .start⟩]) (j := 1) (op := ⟨W, fn', pos', .start⟩) rfl
  refine ⟨hS.clean, fun i a ha hm => ?_, hS.mV, hS.sN⟩
  have hk := h.known i a (old_touch xQ ha) hm
  have e1 : HappensBefore (t ++ #[⟨0, fn, pos, .go W⟩, ⟨W, fn', pos', .start⟩]) i (t.size + 0) := hk.hb_new (Nat.le_refl _) g0 rfl
  have e2 : HappensBefore (t ++ #[⟨0, fn, pos, .go W⟩, ⟨W, fn', pos', .start⟩]) (t.size + 0) (t.size + 1) := zg (.spawn (child := W) (by rw [act?_of g0]) (by rw [act?_of g1]) (by simp only [Trace.g?, g1, Option.map_some])) (heard_new hear g0 h0) (heard_new hear g1 he)
  exact .inl ⟨hk.app _, ⟨t.size + 1, _, g1, rfl, .inr (e1.trans e2)⟩⟩
theorem eP.exchange (h : eP W F0 FW t) (tL vP : Nat → Prop) (c k : Nat) (fn fn' : FuncId) (pos pos' : String) :
    eP W tL vP (t ++ #[⟨W, fn, pos, .send c k⟩, ⟨0, fn', pos', .recv c k 0⟩, ⟨W, fn, pos, .sendDone c k⟩, ⟨0, fn', pos', .recvDone c k⟩]) := by
  generalize hu : (#[⟨W, fn, pos, .send c k⟩, ⟨0, fn', pos', .recv c k 0⟩, ⟨W, fn, pos, .sendDone c k⟩, ⟨0, fn', pos', .recvDone c k⟩] : Trace) = u
  have hear : qh u := by
    intro op hop
    rw [← hu] at hop
    simp only [List.mem_toArray, List.mem_cons, List.not_mem_nil, or_false] at hop
    rcases hop with rfl | rfl | rfl | rfl <;> exact ⟨nofun, nofun⟩
  have xQ : ∀ op ∈ u, op.act.touch? = none := by
    intro op hop
    rw [← hu] at hop
    simp only [List.mem_toArray, List.mem_cons, List.not_mem_nil, or_false] at hop
    rcases hop with rfl | rfl | rfl | rfl <;> rfl
  have hS := h.still xQ ((mo hear 0).trans h.mV) ((mo hear W).trans h.sN)
  have g0 := pG (t := t) (u := u) (j := 0) (op := ⟨W, fn, pos, .send c k⟩) (by rw [← hu]; rfl)
  have g1 := pG (t := t) (u := u) (j := 1) (op := ⟨0, fn', pos', .recv c k 0⟩) (by rw [← hu]; rfl)
  have g2 := pG (t := t) (u := u) (j := 2) (op := ⟨W, fn, pos, .sendDone c k⟩) (by rw [← hu]; rfl)
  have g3 := pG (t := t) (u := u) (j := 3) (op := ⟨0, fn', pos', .recvDone c k⟩) (by rw [← hu]; rfl)
  have e1 : HappensBefore (t ++ u) (t.size + 0) (t.size + 3) := zg (.handOver (c := c) (k := k) (by rw [act?_of g0]) (by rw [act?_of g3])) (heard_new hear g0 h.sN) (heard_new hear g3 h.mV)
  have e2 : HappensBefore (t ++ u) (t.size + 1) (t.size + 2) := zg (.room (c := c) (k := k) (cap := 0) (by rw [act?_of g1]) (by rw [act?_of g2]; rfl)) (heard_new hear g1 h.mV) (heard_new hear g2 h.sN)
  have k0 : ∀ i, Knows t 0 i → Knows (t ++ u) W i := fun i hk => ⟨t.size + 2, _, g2, rfl, .inr ((hk.hb_new (Nat.le_add_right _ _) g1 rfl).trans e2)⟩
  have kW : ∀ i, Knows t W i → Knows (t ++ u) 0 i := fun i hk => ⟨t.size + 3, _, g3, rfl, .inr ((hk.hb_new (Nat.le_add_right _ _) g0 rfl).trans e1)⟩
  refine ⟨hS.clean, fun i a ha hm => .inl ?_, hS.mV, hS.sN⟩
  rcases h.known i a (old_touch xQ ha) hm with x | x | x
  · exact ⟨x.1.app _, x.2.app _⟩
  · exact ⟨x.1.app _, k0 i x.1⟩
  · exact ⟨kW i x.1, x.1.app _⟩
structure qi (c pc : Nat) (F0 FW : Nat → Prop) (t : Trace) : Prop where
  clean : ∀ said, ¬ Race said t
  known : ∀ i a, touchAt t i = some a → a.loc.isMemory = true → Knows t 0 i ∨ (Before t i pc ∧ xM FW a.loc)
  act : t.act? pc = some (.close c)
  hrd : t.heard pc
  mV : Deaf t 0 = 0
theorem eP.close (h : eP W F0 FW t) (hW : W ≠ 0) (hd : ∀ b, F0 b → ¬ FW b) {c : Nat} (hc : FW c) (fn : FuncId) (pos : String) :
    qi c (t.size + 1) F0 FW (t ++ MemOp.ofEvents W fn pos #[⟨.obj c, false, true⟩, ⟨.obj c, true, true⟩]) := by
  have hev : ∀ e ∈ (#[⟨.obj c, false, true⟩, ⟨.obj c, true, true⟩] : Array Event), xP FW e := by
    intro e he
    simp only [List.mem_toArray, List.mem_cons, List.not_mem_nil, or_false] at he
    rcases he with rfl | rfl
    · refine ⟨⟨nofun, nofun⟩, fun x hx _ => ?_⟩
      cases hx
      exact hc
    · exact ⟨⟨nofun, nofun⟩, fun x hx _ => by cases hx⟩
  have hT := h.work hW hd (fn := fn) (pos := pos) hev
  generalize hu : MemOp.ofEvents W fn pos #[⟨.obj c, false, true⟩, ⟨.obj c, true, true⟩] = u at hT
  have g1 := pG (t := t) (u := u) (j := 1) (op := ⟨W, fn, pos, .close c⟩) (by rw [← hu, ofEvents_eq, Array.getElem?_map]; rfl)
  have hear : qh u := by
    intro op hop
    rw [← hu] at hop
    obtain ⟨e, he, ea, _⟩ := oD hop
    simp only [List.mem_toArray, List.mem_cons, List.not_mem_nil, or_false] at he
    rw [ea]
    rcases he with rfl | rfl <;> exact ⟨nofun, nofun⟩
  refine ⟨hT.clean, fun i a ha hm => ?_, by rw [act?_of g1], heard_new hear g1 h.sN, hT.mV⟩
  obtain ⟨x, hx, hxa⟩ := touch_of ha
  rcases getElem?_append_cases hx with ⟨_, hx'⟩ | ⟨hge, hxu⟩
  · rcases h.known i a (by rw [touchAt_of hx']; exact hxa) hm with y | y | y
    · exact .inl (y.1.app _)
    · exact .inl (y.1.app _)
    · exact .inr ⟨.inr (y.1.hb_new (Nat.le_add_right _ _) g1 rfl), y.2⟩
  · rw [← hu] at hxu
    obtain ⟨e, he, ea, eg⟩ := oD hxu
    refine .inr ⟨?_, (hev e he).2 a (by rw [← ea]; exact hxa) hm⟩
    have hlt := lt_size_of_getElem? hx
    have hsz : u.size = 2 := by rw [← hu, ofEvents_eq, Array.size_map]; rfl
    rw [Array.size_append, hsz] at hlt
    rcases Nat.lt_or_ge i (t.size + 1) with hi | hi
    · exact .inr (hb_po hi hx g1 eg)
    · exact .inl (by omega)
theorem qi.main {c pc : Nat} (h : qi c pc F0 FW t) (hd : ∀ b, F0 b → ¬ FW b) {fn : FuncId} {pos : String} {es : Array Event} (hes : ∀ e ∈ es, xP F0 e) : qi c pc F0 FW (t ++ MemOp.ofEvents 0 fn pos es) := by
  have hpc : pc < t.size := lt_of_act? h.act
  refine ⟨fun said => noRace_append (h.clean said) ofEvents_g fun i a ha op hop b hb hc => ?_, fun i a ha hm => ?_, by rw [act?_old hpc]; exact h.act, (heard_old hpc).2 h.hrd, (vG fun e he => (hes e he).1).trans h.mV⟩
  · obtain ⟨e, he, ea, _⟩ := oD hop
    have hm : a.loc.isMemory = true := hc.2.1
    have hin : xM F0 b.loc := (hes e he).2 b (by rw [← ea]; exact hb) (by rw [← hc.1]; exact hm)
    rcases h.known i a ha hm with x | x
    · exact x
    · rw [hc.1] at x
      exact (xN hd hin x.2).elim
  · obtain ⟨x, hx, hxa⟩ := touch_of ha
    rcases getElem?_append_cases hx with ⟨_, hx'⟩ | ⟨_, hxu⟩
    · exact (h.known i a (by rw [touchAt_of hx']; exact hxa) hm).imp (·.app _) fun y => ⟨y.1.app _, y.2⟩
    · obtain ⟨e, he, ea, eg⟩ := oD hxu
      have := knows_own hx
      rw [eg] at this
      exact .inl this
theorem qi.grow {c pc : Nat} {tL : Nat → Prop} (h : qi c pc F0 FW t) : qi c pc tL FW t := ⟨h.clean, h.known, h.act, h.hrd, h.mV⟩
theorem xR {said : Bool} {u : Trace} (h : ¬ Race said t) (hu : ∀ op ∈ u, op.act.touch? = none) : ¬ Race said (t ++ u) := by
  rintro ⟨i, j, hij, ⟨a, b, ha, hb, hc⟩, n1, n2⟩
  obtain ⟨x, hx, hxa⟩ := touch_of ha
  obtain ⟨y, hy, hyb⟩ := touch_of hb
  rcases getElem?_append_cases hy with ⟨hj, hy'⟩ | ⟨hj, hyu⟩
  · rcases getElem?_append_cases hx with ⟨hi, hx'⟩ | ⟨_, hxu⟩
    · exact h ⟨i, j, hij, ⟨a, b, by simp [Trace.act?, hx', hxa], by simp [Trace.act?, hy', hyb], hc⟩, fun e => n1 (hb_app u e), fun e => n2 (hb_app u e)⟩
    · rw [hu x hxu] at hxa; cases hxa
  · rw [hu y hyu] at hyb; cases hyb
theorem qi.still {c pc : Nat} (h : qi c pc F0 FW t) {u : Trace} (hu : ∀ op ∈ u, op.act.touch? = none) (h0 : Deaf (t ++ u) 0 = 0) : qi c pc F0 FW (t ++ u) := by
  have hpc : pc < t.size := lt_of_act? h.act
  exact ⟨fun said => xR (h.clean said) hu, fun i a ha hm => (h.known i a (old_touch hu ha) hm).imp (·.app _) fun y => ⟨y.1.app _, y.2⟩, by rw [act?_old hpc]; exact h.act, (heard_old hpc).2 h.hrd, h0⟩
theorem qi.met {c pc : Nat} (h : qi c pc F0 FW t) (fn : FuncId) (pos : String) : kD (t ++ #[⟨0, fn, pos, .recvClosed c⟩]) := by
  have hpc : pc < t.size := lt_of_act? h.act
  have hear : qh #[⟨0, fn, pos, .recvClosed c⟩] := by
    intro op hop
    simp only [List.mem_toArray, List.mem_cons, List.not_mem_nil, or_false] at hop
    subst hop
    exact ⟨nofun, nofun⟩
  have xQ : ∀ op ∈ (#[⟨0, fn, pos, .recvClosed c⟩] : Trace), op.act.touch? = none := by
    intro op hop
    simp only [List.mem_toArray, List.mem_cons, List.not_mem_nil, or_false] at hop
    subst hop
    rfl
  have g0 := pG (t := t) (u := #[⟨0, fn, pos, .recvClosed c⟩]) (j := 0) (op := ⟨0, fn, pos, .recvClosed c⟩) rfl
  have e1 : HappensBefore (t ++ #[⟨0, fn, pos, .recvClosed c⟩]) pc (t.size + 0) := zg (.closed (c := c) (by rw [act?_old hpc]; exact h.act) (by rw [act?_of g0])) ((heard_old hpc).2 h.hrd) (heard_new hear g0 h.mV)
  refine OO (fun said => xR (h.clean said) xQ) (fun i a ha hm => ?_) ((mo hear 0).trans h.mV)
  rcases h.known i a (old_touch xQ ha) hm with x | x
  · exact x.app _
  · exact ⟨t.size + 0, _, g0, rfl, .inr ((x.1.app _).hb e1)⟩
end
end
section
open Go Go.Conc
open Go.ConcN (sumTo upd sumTo_upd upd_ne upd_same)
def dP (w : World) (c k : Nat) : Prop := w.heap[c]? = some (.chan 0 #[] false k k false)
theorem dP.at {w : World} {c k : Nat} (h : dP w c k) (d : Nat) : dP (w.at d) c k := h
theorem dP.keep {w w' : World} {c k : Nat} (h : dP w c k) (hc : iH w w') : dP w' c k := (hc c _ rfl).1 h
def DW (pk th : Nat) (w w' : World) (es : Array Event) : Prop := (∀ e ∈ es, mU e) ∧ ∀ c, c = pk ∨ c = th → ∀ o, o.isChan = true → w.heap[c]? = some o → w'.heap[c]? = some o
theorem DW.of {pk th : Nat} {w w' : World} {es : Array Event} (h : oQ w w' es) : DW pk th w w' es := ⟨h.1, fun c _ o ho hc => (h.2 c o ho).1 hc⟩
def dX (pk th : Nat) (z0 z1 : Value) : Array CommCase := #[rcase pk z0, rcase th z1]
section
variable (P : Program) (cs : Array CommCase) (A2 : Goroutine)
structure jk (a : Goroutine) : Prop where
  run : a.status = .running
  fr : a.frame = A2.frame
  cl : a.callers = A2.callers
  dy : a.dying = A2.dying
  Gg : ∀ w, stepG P true a w = .comm A2 cs true .select w #[]
def QW : Nat → Goroutine → Prop
  | 0, a => jk P cs A2 a
  | n + 1, a => jk P cs A2 a ∨ (a.status = .running ∧ ∃ a', (∀ w, stepG P true a w = .go a' w #[]) ∧ QW n a')
def MQ (n : Nat) (a : Goroutine) : Prop := (∃ k, n = k + 1 ∧ QW P cs A2 k a) ∨ (n = 0 ∧ a = parked A2 cs .select)
end
section
variable {P : Program} {pk th : Nat} {z0 z1 : Value} {A2 : Goroutine}
theorem QW.running {cs : Array CommCase} : ∀ {n : Nat} {a : Goroutine}, QW P cs A2 n a → a.status = .running
  | 0, _, h => h.run
  | _ + 1, _, h => h.elim (·.run) (·.1)
theorem QW.cases {cs : Array CommCase} {n : Nat} {a : Goroutine} (h : QW P cs A2 n a) : jk P cs A2 a ∨ ∃ k a', n = k + 1 ∧ (∀ w, stepG P true a w = .go a' w #[]) ∧ QW P cs A2 k a' := by
  cases n with
  | zero => exact .inl h
  | succ n => exact h.imp id fun ⟨_, a', h1, h2⟩ => ⟨n, a', rfl, h1, h2⟩
theorem qO {w : World} {kp kt : Nat} (h1 : dP w pk kp) (h2 : dP w th kt) : (parked A2 (dX pk th z0 z1) .select).again w = parked A2 (dX pk th z0 z1) .select := by
  refine again_all_open fun cc hcc => ?_
  simp only [dX, List.mem_toArray, List.mem_cons, List.not_mem_nil, or_false] at hcc
  rcases hcc with rfl | rfl
  · exact ⟨_, _, _, _, _, _, _, rfl, h1⟩
  · exact ⟨_, _, _, _, _, _, _, rfl, h2⟩
theorem qB {x x' g : Goroutine} {w : World} (h : g.again w = g) : woken P x x' w g = g := by
  unfold woken
  split
  · exact h
  · rfl
theorem MQ.woken {w : World} {kp kt n : Nat} {a x x' : Goroutine} (h : MQ P (dX pk th z0 z1) A2 n a) (h1 : dP w pk kp) (h2 : dP w th kt) : Go.Conc.woken P x x' w a = a := by
  rcases h with ⟨k, _, h⟩ | ⟨_, rfl⟩
  · exact woken_run h.running
  · exact qB (qO h1 h2)
theorem MQ.awake {cs : Array CommCase} {n : Nat} {a : Goroutine} (h : MQ P cs A2 n a) : Go.Conc.awake a := by
  rcases h with ⟨k, _, h⟩ | ⟨_, rfl⟩
  · exact awake_of (.inl h.running)
  · exact fun t ht => by cases ht
theorem uy {n d : Nat} {g : Goroutine} (h : QuitsD P n d g) (c : Nat) (b : Bool) : offersAt g c b = [] := by
  refine offersAt_of_not_blocked ?_ c b
  rcases h.status with h | h <;> rw [h] <;> exact nofun
theorem qU {Sp : Nat → Prop} {t : Trace} {gs : Array Goroutine} {q : Nat → Nat} (hL : bW Sp P t gs q) {i c : Nat} {b : Bool} (hs : ∀ j g, Sp j → j ≠ i → gs[j]? = some g → offersAt g c b = []) : partners (gs.setIfInBounds i ph) c b = [] := by
  refine partners_nil fun j g hg => ?_
  rcases getElem?_stand gs i j g hg with ⟨_, rfl⟩ | ⟨hne, hg⟩
  · rfl
  · by_cases hj : Sp j
    · exact hs j g hj hne hg
    · exact uy (hL.old j g hj hg) c b
def Two (W : Nat) (i : Nat) : Prop := i = 0 ∨ i = W
structure uX (P : Program) (W pk th : Nat) (z0 z1 : Value) (A2 : Goroutine) (kp kt : Nat) (gs : Array Goroutine) (a b : Goroutine) (w : World) (t : Trace) (q : Nat → Nat) (n : Nat) : Prop where
  g0 : gs[0]? = some a
  gW : gs[W]? = some b
  w0 : W ≠ 0
  lv : bW (Two W) P t gs q
  tr : eP W (fun _ => False) (fun _ => True) t
  op : dP w pk kp
  ot : dP w th kt
  mq : MQ P (dX pk th z0 z1) A2 n a
theorem R5 {e : Event} (h : mU e) : xP (fun _ => True) e := ⟨h, fun x _ hm => by cases hl : x.loc <;> rw [hl] at hm <;> first | trivial | cases hm⟩
theorem Cv {W : Nat} {F0 FW : Nat → Prop} {t : Trace} (h : eP W F0 FW t) {i : Nat} (h0 : i ≠ 0) (hW : i ≠ W) {fn : FuncId} {pos : String} {es : Array Event} (hm : ∀ e ∈ es, Event.mute e = true) : eP W F0 FW (t ++ MemOp.ofEvents i fn pos es) :=
  h.still (fun op hop => by obtain ⟨e, he, ea, _⟩ := oD hop; rw [ea]; exact touch_mute (hm e he)) ((Deaf_other t h0 _ ofEvents_g).trans h.mV) ((Deaf_other t hW _ ofEvents_g).trans h.sN)
theorem uX.move {W kp kt : Nat} {gs : Array Goroutine} {a b : Goroutine} {w : World} {t : Trace} {q : Nat → Nat} {n : Nat} (h : uX P W pk th z0 z1 A2 kp kt gs a b w t q n) (hb : b.status = .running) (sl : Option (Nat × Nat)) :
    (∃ d sl', stepT P (crowd gs w sl) = runT P (crowd gs (w.at d) sl') W) ∨
    ∃ d sl' gs' a' ops q' n', stepT P (crowd gs w sl) = (.next (crowd gs' (w.at d) sl'), ops) ∧ gs'.size = gs.size ∧ uX P W pk th z0 z1 A2 kp kt gs' a' b (w.at d) (t ++ ops) q' n' ∧ n' + sumTo gs.size q' < n + sumTo gs.size q := by
  have haw := h.lv.awake fun i g hi hg => by
    rcases hi with rfl | rfl
    · rw [h.g0] at hg; cases hg; exact h.mq.awake
    · rw [h.gW] at hg; cases hg; exact awake_of (.inl hb)
  obtain ⟨i, g, d, sl', hi, hg, hst⟩ := crowd_pick (P := P) (w := w) (sl := sl) haw ⟨W, b, h.gW, hb⟩
  by_cases kZ : i = W
  · subst kZ
    exact .inl ⟨d, sl', hst⟩
  refine .inr ?_
  have hlt : 0 < gs.size := (Array.getElem?_eq_some_iff.1 h.g0).1
  by_cases hi0 : i = 0
  · subst hi0
    obtain rfl : g = a := by have := h.g0; rw [hi] at this; exact Option.some.inj this
    rcases h.mq with ⟨k, rfl, hk⟩ | ⟨_, rfl⟩
    · rcases hk.cases with hs | ⟨k', a', rfl, hgo, hk'⟩
      · -- it comes to the select, and waits
        have hno : ∀ cc ∈ dX pk th z0 z1, NoWays (w.at d) (gs.setIfInBounds 0 ph) cc := by
          have hp : ∀ c, partners (gs.setIfInBounds 0 ph) c true = [] := fun c => qU h.lv fun j x hj hne hx => by
            rcases hj with rfl | rfl
            · exact absurd rfl hne
            · rw [h.gW] at hx; cases hx
              exact offersAt_of_not_blocked (by rw [hb]; exact nofun) c true
          intro cc hcc
          simp only [dX, List.mem_toArray, List.mem_cons, List.not_mem_nil, or_false] at hcc
          rcases hcc with rfl | rfl
          · exact ways_recv_none (h.op.at d) (hp pk)
          · exact ways_recv_none (h.ot.at d) (hp th)
        have hr := crowd_waits (P := P) (sl := sl') (i := 0) hi (show stepG P (0 == 0) g (w.at d) = _ from hs.Gg (w.at d)) hno
        refine ⟨d, sl', _, parked A2 (dX pk th z0 z1) .select, _, q, 0, hst.trans hr, by simp, ?_, by omega⟩
        have hops : (MemOp.ofEvents 0 g.frame.fn g.frame.place #[] : Trace) = #[] := rfl
        rw [hops, Array.append_empty]
        refine ⟨?_, ?_, h.w0, ⟨fun j x hj hx => ?_, fun j hj => h.lv.above j (by simpa using hj)⟩, h.tr, h.op.at d, h.ot.at d, .inr ⟨rfl, rfl⟩⟩
        · rw [Array.getElem?_setIfInBounds_self_of_lt hlt]
        · rw [Array.getElem?_setIfInBounds_ne (Ne.symm h.w0)]; exact h.gW
        · rw [Array.getElem?_setIfInBounds_ne (fun e => hj (.inl e.symm))] at hx
          exact h.lv.old j x hj hx
      · have hr := runT_crowd_go (P := P) (sl := sl') (i := 0) hi (show stepG P (0 == 0) g (w.at d) = _ from hgo (w.at d))
        refine ⟨d, sl', _, a', _, q, k' + 1, hst.trans hr, by simp, ?_, by omega⟩
        refine ⟨kg hlt, by rw [eO (Ne.symm h.w0) h.gW, woken_run hb], h.w0, h.lv.nO (.inl rfl) hlt ofEvents_g, ?_, h.op.at d, h.ot.at d, .inl ⟨k', rfl, hk'⟩⟩
        have hops : (MemOp.ofEvents 0 g.frame.fn g.frame.place #[] : Trace) = #[] := rfl
        rw [hops, Array.append_empty]
        exact h.tr
    · cases hg
  · have hsp : ¬ Two W i := fun hx => hx.elim hi0 kZ
    obtain ⟨g', es, q', hm, uW, hL', hlt'⟩ := h.lv.slip (w := w.at d) hi hsp hi0 hg sl'
    refine ⟨d, sl', _, a, _, q', n, hst.trans uW, by simp, ?_, by omega⟩
    exact ⟨by rw [eO hi0 h.g0, h.mq.woken (h.op.at d) (h.ot.at d)], by rw [eO kZ h.gW, woken_run hb], h.w0, hL', Cv h.tr hi0 kZ hm, h.op.at d, h.ot.at d, h.mq⟩
theorem work {W kp kt : Nat} {nP : Goroutine → World → Prop} {b : Goroutine} {w : World} (hw : dw P false AtRel (DW pk th) nP b w) :
    ∀ {gs : Array Goroutine} {a : Goroutine} {sl : Option (Nat × Nat)} {t : Trace} {q : Nat → Nat} {n : Nat}, uX P W pk th z0 z1 A2 kp kt gs a b w t q n →
      Reaches P (fun m t' => ∃ gs' a' b' w' sl' q' n', m = crowd gs' w' sl' ∧ gs'.size = gs.size ∧ uX P W pk th z0 z1 A2 kp kt gs' a' b' w' t' q' n' ∧ nP b' w') (crowd gs w sl) t := by
  refine hw (fun b w => ∀ {gs : Array Goroutine} {a : Goroutine} {sl : Option (Nat × Nat)} {t : Trace} {q : Nat → Nat} {n : Nat}, uX P W pk th z0 z1 A2 kp kt gs a b w t q n → Reaches P (fun m t' => ∃ gs' a' b' w' sl' q' n', m = crowd gs' w' sl' ∧ gs'.size = gs.size ∧ uX P W pk th z0 z1 A2 kp kt gs' a' b' w' t' q' n' ∧ nP b' w') (crowd gs w sl) t) ?_ ?_
  · intro b w hs gs a sl t q n h
    exact .here ⟨gs, a, b, w, sl, q, n, rfl, rfl, h, hs w (atRel_refl w)⟩
  · intro b w hrun hstep gs a sl t q n
    suffices H : ∀ M w gs a sl t q n, n + sumTo gs.size q ≤ M → (∀ w₁, AtRel w w₁ → (stepG P false b w₁).goes fun g' w' es => DW pk th w₁ w' es ∧ ∀ {gs : Array Goroutine} {a : Goroutine} {sl : Option (Nat × Nat)} {t : Trace} {q : Nat → Nat} {n : Nat}, uX P W pk th z0 z1 A2 kp kt gs a g' w' t q n → Reaches P (fun m t' => ∃ gs' a' b' w' sl' q' n', m = crowd gs' w' sl' ∧ gs'.size = gs.size ∧ uX P W pk th z0 z1 A2 kp kt gs' a' b' w' t' q' n' ∧ nP b' w') (crowd gs w' sl) t) →
        uX P W pk th z0 z1 A2 kp kt gs a b w t q n → Reaches P (fun m t' => ∃ gs' a' b' w' sl' q' n', m = crowd gs' w' sl' ∧ gs'.size = gs.size ∧ uX P W pk th z0 z1 A2 kp kt gs' a' b' w' t' q' n' ∧ nP b' w') (crowd gs w sl) t from H _ w gs a sl t q n (Nat.le_refl _) hstep
    intro M
    induction M using Nat.strongRecOn with
    | ind M ih =>
      intro w gs a sl t q n hM hstep h
      rcases h.move hrun sl with ⟨d, sl', hst⟩ | ⟨d, sl', gs', a', ops, q', n', hst, hsz, h', hlt⟩
      · have hs := hstep (w.at d) ⟨d, rfl⟩
        have hltW : W < gs.size := (Array.getElem?_eq_some_iff.1 h.gW).1
        cases hgo : stepG P false b (w.at d) with
        | go b' w' es =>
          rw [hgo, goes_go] at hs
          obtain ⟨⟨hev, hch⟩, hnext⟩ := hs
          have hr := runT_crowd_go (P := P) (sl := sl') (i := W) h.gW (show stepG P (W == 0) b (w.at d) = _ by rw [show (W == 0) = false by simpa using h.w0]; exact hgo)
          refine Reaches.step (hst.trans hr) ?_
          have op' : dP w' pk kp := hch pk (.inl rfl) _ rfl (h.op.at d)
          have VH : dP w' th kt := hch th (.inr rfl) _ rfl (h.ot.at d)
          have hA : uX P W pk th z0 z1 A2 kp kt ((gs.map (woken P b b' w')).setIfInBounds W b') a b' w' (t ++ MemOp.ofEvents W b.frame.fn b.frame.place es) q n :=
            ⟨by rw [eO h.w0 h.g0, h.mq.woken op' VH], kg hltW, h.w0, h.lv.nO (.inr rfl) hltW ofEvents_g, h.tr.work h.w0 (fun _ hx => hx.elim) fun e he => R5 (hev e he), op', VH, h.mq⟩
          have := hnext (sl := sl') hA
          simpa using this
        | _ => rw [hgo] at hs; exact hs.elim
      · refine Reaches.step hst ?_
        have := ih (n' + sumTo gs'.size q') (by rw [hsz]; omega) (w.at d) gs' a' sl' _ q' n' (Nat.le_refl _) (fun w₁ h1 => hstep w₁ (atRel_trans _ _ _ ⟨d, rfl⟩ h1)) h'
        rwa [hsz] at this
end
structure bA (F : Nat → Prop) (w w1 : World) : Prop where
  size : w.heap.size ≤ w1.heap.size
  own : ∀ b, F b → w1.heap[b]? = w.heap[b]?
  os : w1.os = w.os
  out : w1.output = w.output
def Grow (F : Nat → Prop) (w w' : World) (b : Nat) : Prop := F b ∨ (w.heap.size ≤ b ∧ b < w'.heap.size)
structure mr (F : Nat → Prop) (w w' : World) (es : Array Event) : Prop where
  size : w.heap.size ≤ w'.heap.size
  rest : ∀ b, b < w.heap.size → ¬ F b → w'.heap[b]? = w.heap[b]?
  os : w'.os = w.os
  out : w'.output = w.output
  evs : ∀ e ∈ es, xP (Grow F w w') e
theorem bA.refl (F : Nat → Prop) (w : World) : bA F w w := ⟨Nat.le_refl _, fun _ _ => rfl, rfl, rfl⟩
theorem bA.trans {F : Nat → Prop} {a b c : World} (h : bA F a b) (k : bA F b c) : bA F a c := ⟨Nat.le_trans h.size k.size, fun x hx => (k.own x hx).trans (h.own x hx), k.os.trans h.os, k.out.trans h.out⟩
theorem bA.at (F : Nat → Prop) (w : World) (d : Nat) : bA F w (w.at d) := ⟨Nat.le_refl _, fun _ _ => rfl, rfl, rfl⟩
section
variable (P : Program) (main : Bool) (Stop : (Nat → Prop) → Goroutine → World → Prop)
def aK (F : Nat → Prop) (g : Goroutine) (w : World) : Prop := ∀ X : (Nat → Prop) → Goroutine → World → Prop,
  (∀ F g w, (∀ w1, bA F w w1 → Stop F g w1) → X F g w) →
  (∀ F g w, g.status = .running → (∀ w1, bA F w w1 → (stepG P main g w1).goes fun g' w' es => mr F w1 w' es ∧ X (Grow F w1 w') g' w') → X F g w) → X F g w
end
section
variable {P : Program} {main : Bool} {Stop : (Nat → Prop) → Goroutine → World → Prop} {F : Nat → Prop} {g : Goroutine} {w : World}
theorem aK.stop (h : ∀ w1, bA F w w1 → Stop F g w1) : aK P main Stop F g w := fun _ h1 _ => h1 F g w h
theorem aK.step (hr : g.status = .running) (h : ∀ w1, bA F w w1 → (stepG P main g w1).goes fun g' w' es => mr F w1 w' es ∧ aK P main Stop (Grow F w1 w') g' w') : aK P main Stop F g w :=
  fun X h1 h2 => h2 F g w hr fun w1 hw => goes_mono (h w1 hw) fun _ _ _ hx => ⟨hx.1, hx.2 X h1 h2⟩
theorem aK.induct {X : (Nat → Prop) → Goroutine → World → Prop} (h : aK P main Stop F g w) (h1 : ∀ F g w, (∀ w1, bA F w w1 → Stop F g w1) → X F g w)
    (h2 : ∀ F g w, g.status = .running → (∀ w1, bA F w w1 → (stepG P main g w1).goes fun g' w' es => mr F w1 w' es ∧ aK P main Stop (Grow F w1 w') g' w' ∧ X (Grow F w1 w') g' w') → X F g w) : X F g w := by
  refine (h (fun F g w => aK P main Stop F g w ∧ X F g w) (fun F g w hs => ⟨.stop hs, h1 F g w hs⟩) fun F g w hr hs => ⟨.step hr fun w1 hw => goes_mono (hs w1 hw) fun _ _ _ hx => ⟨hx.1, hx.2.1⟩, h2 F g w hr hs⟩).2
theorem aK.cases (h : aK P main Stop F g w) : (∀ w1, bA F w w1 → Stop F g w1) ∨ (g.status = .running ∧ ∀ w1, bA F w w1 → (stepG P main g w1).goes fun g' w' es => mr F w1 w' es ∧ aK P main Stop (Grow F w1 w') g' w') :=
  h.induct (X := fun F g w => (∀ w1, bA F w w1 → Stop F g w1) ∨ (g.status = .running ∧ ∀ w1, bA F w w1 → (stepG P main g w1).goes fun g' w' es => mr F w1 w' es ∧ aK P main Stop (Grow F w1 w') g' w')) (fun _ _ _ h => .inl h) fun _ _ _ hr h => .inr ⟨hr, fun w1 hw => goes_mono (h w1 hw) fun _ _ _ hx => ⟨hx.1, hx.2.1⟩⟩
theorem aK.rely {w1 : World} (h : aK P main Stop F g w) (hw : bA F w w1) : aK P main Stop F g w1 := by
  rcases h.cases with h | ⟨hr, h⟩
  · exact .stop fun w2 h2 => h w2 (hw.trans h2)
  · exact .step hr fun w2 h2 => h w2 (hw.trans h2)
theorem aK.trans {Stop' : (Nat → Prop) → Goroutine → World → Prop} (h : aK P main Stop F g w) (hs : ∀ F g w, Stop F g w → aK P main Stop' F g w) : aK P main Stop' F g w :=
  h (fun F g w => aK P main Stop' F g w) (fun F g w h => hs F g w (h w (.refl F w))) fun _ _ _ hr h => .step hr h
theorem aK.running (h : aK P main Stop F g w) (hs : ∀ F g w, Stop F g w → g.status = .running) : g.status = .running := by
  rcases h.cases with h | ⟨hr, _⟩
  · exact hs F g w (h w (.refl F w))
  · exact hr
end
structure Score where
  W : Nat
  pk : Nat
  th : Nat
  z0 : Value
  z1 : Value
  size : Nat
  ns : Nat
  qj : Nat → Prop
  OP : Nat → Prop
  rest : Nat → Option Obj
  os : Os
  out : Array (Nat × ByteArray)
structure ed (P : Program) (s : Score) (kp kt : Nat) (rq : Bool) (F0 FW : Nat → Prop) (gs : Array Goroutine) (a b : Goroutine) (w : World) : Prop where
  g0 : gs[0]? = some a
  gW : gs[s.W]? = some b
  w0 : s.W ≠ 0
  sz : gs.size = s.size
  apart : ∀ x, F0 x → ¬ FW x
  Ei : ∀ x, F0 x → x < w.heap.size
  Ej : ∀ x, FW x → x < w.heap.size
  op : dP w s.pk kp
  ot : w.heap[s.th]? = some (.chan 0 #[] rq kt kt false)
  qC : ¬ F0 s.pk ∧ ¬ F0 s.th
  sP : ¬ FW s.pk ∧ ¬ FW s.th
  pt : s.pk ≠ s.th
  xS : ∀ x, x < s.ns → F0 x → s.qj x
  Bi : ∀ x, x < s.ns → FW x → s.OP x
  big : s.ns ≤ w.heap.size
  Mg : ∀ x, x < s.ns → ¬ s.qj x → ¬ s.OP x → x ≠ s.pk → x ≠ s.th → w.heap[x]? = s.rest x
  Mh : w.os = s.os
  Gh : w.output = s.out
section
variable {P : Program} {s : Score} {kp kt : Nat} {rq : Bool} {F0 FW : Nat → Prop} {gs : Array Goroutine} {a b : Goroutine} {w : World}
theorem dz {w : World} {x : Nat} {o : Obj} (h : w.heap[x]? = some o) : x < w.heap.size := (Array.getElem?_eq_some_iff.1 h).1
theorem ed.main (h : ed P s kp kt rq F0 FW gs a b w) {gs' : Array Goroutine} {a' b' : Goroutine} {w' : World} {es : Array Event} (hg : mr F0 w w' es) (h0 : gs'[0]? = some a') (hW : gs'[s.W]? = some b') (hsz : gs'.size = gs.size) :
    ed P s kp kt rq (Grow F0 w w') FW gs' a' b' w' ∧ bA FW w w' := by
  have hne : ∀ x, x < w.heap.size → ¬ F0 x → w'.heap[x]? = w.heap[x]? := hg.rest
  refine ⟨⟨h0, hW, h.w0, hsz.trans h.sz, ?_, ?_, fun x hx => Nat.lt_of_lt_of_le (h.Ej x hx) hg.size, ?_, ?_, ?_, h.sP, h.pt, ?_, h.Bi, Nat.le_trans h.big hg.size, ?_, hg.os.trans h.Mh, hg.out.trans h.Gh⟩, ⟨hg.size, fun x hx => hne x (h.Ej x hx) fun h0 => h.apart x h0 hx, hg.os, hg.out⟩⟩
  · rintro x (hx | hx) hx'
    · exact h.apart x hx hx'
    · have := h.Ej x hx'; omega
  · rintro x (hx | hx)
    · exact Nat.lt_of_lt_of_le (h.Ei x hx) hg.size
    · exact hx.2
  · exact (hne _ (dz h.op) h.qC.1).trans h.op
  · exact (hne _ (dz h.ot) h.qC.2).trans h.ot
  · refine ⟨?_, ?_⟩
    · rintro (hx | hx)
      · exact h.qC.1 hx
      · have := dz h.op; omega
    · rintro (hx | hx)
      · exact h.qC.2 hx
      · have := dz h.ot; omega
  · rintro x hx (hy | hy)
    · exact h.xS x hx hy
    · have := h.big; omega
  · intro x hx ho Qx h1 h2
    rw [hne x (Nat.lt_of_lt_of_le hx h.big) fun hf => ho (h.xS x hx hf)]
    exact h.Mg x hx ho Qx h1 h2
theorem ed.work (h : ed P s kp kt rq F0 FW gs a b w) {gs' : Array Goroutine} {a' b' : Goroutine} {w' : World} {es : Array Event} (hg : mr FW w w' es) (h0 : gs'[0]? = some a') (hW : gs'[s.W]? = some b') (hsz : gs'.size = gs.size) :
    ed P s kp kt rq F0 (Grow FW w w') gs' a' b' w' ∧ bA F0 w w' := by
  have hne : ∀ x, x < w.heap.size → ¬ FW x → w'.heap[x]? = w.heap[x]? := hg.rest
  refine ⟨⟨h0, hW, h.w0, hsz.trans h.sz, ?_, fun x hx => Nat.lt_of_lt_of_le (h.Ei x hx) hg.size, ?_, ?_, ?_, h.qC, ?_, h.pt, h.xS, ?_, Nat.le_trans h.big hg.size, ?_, hg.os.trans h.Mh, hg.out.trans h.Gh⟩, ⟨hg.size, fun x hx => hne x (h.Ei x hx) fun h0 => h.apart x hx h0, hg.os, hg.out⟩⟩
  · rintro x hx (hx' | hx')
    · exact h.apart x hx hx'
    · have := h.Ei x hx; omega
  · rintro x (hx | hx)
    · exact Nat.lt_of_lt_of_le (h.Ej x hx) hg.size
    · exact hx.2
  · exact (hne _ (dz h.op) h.sP.1).trans h.op
  · exact (hne _ (dz h.ot) h.sP.2).trans h.ot
  · refine ⟨?_, ?_⟩
    · rintro (hx | hx)
      · exact h.sP.1 hx
      · have := dz h.op; omega
    · rintro (hx | hx)
      · exact h.sP.2 hx
      · have := dz h.ot; omega
  · rintro x hx (hy | hy)
    · exact h.Bi x hx hy
    · have := h.big; omega
  · intro x hx ho Qx h1 h2
    rw [hne x (Nat.lt_of_lt_of_le hx h.big) fun hf => Qx (h.Bi x hx hf)]
    exact h.Mg x hx ho Qx h1 h2
theorem ed.chan (h : ed P s kp kt rq F0 FW gs a b w) {c : Nat} (hc : c = s.pk ∨ c = s.th) {o : Obj} {kp' Qy : Nat} {OQ : Bool} {gs' : Array Goroutine} {a' b' : Goroutine} (h0 : gs'[0]? = some a') (hW : gs'[s.W]? = some b') (hsz : gs'.size = gs.size)
    (ho1 : dP { w with heap := w.heap.setIfInBounds c o } s.pk kp') (ho2 : (w.heap.setIfInBounds c o)[s.th]? = some (.chan 0 #[] OQ Qy Qy false)) :
    ed P s kp' Qy OQ F0 FW gs' a' b' { w with heap := w.heap.setIfInBounds c o } ∧ bA F0 w { w with heap := w.heap.setIfInBounds c o } ∧ bA FW w { w with heap := w.heap.setIfInBounds c o } := by
  have hs : ({ w with heap := w.heap.setIfInBounds c o } : World).heap.size = w.heap.size := by simp
  have hne : ∀ x, x ≠ c → (w.heap.setIfInBounds c o)[x]? = w.heap[x]? := fun x hx => Array.getElem?_setIfInBounds_ne (Ne.symm hx)
  have X5 : ∀ x, F0 x → x ≠ c := fun x hx e => by
    subst e
    rcases hc with hc | hc
    · exact h.qC.1 (hc ▸ hx)
    · exact h.qC.2 (hc ▸ hx)
  have X6 : ∀ x, FW x → x ≠ c := fun x hx e => by
    subst e
    rcases hc with hc | hc
    · exact h.sP.1 (hc ▸ hx)
    · exact h.sP.2 (hc ▸ hx)
  refine ⟨⟨h0, hW, h.w0, hsz.trans h.sz, h.apart, fun x hx => by rw [hs]; exact h.Ei x hx, fun x hx => by rw [hs]; exact h.Ej x hx, ho1, ho2, h.qC, h.sP, h.pt, h.xS, h.Bi, by rw [hs]; exact h.big, fun x hx hy X7 h1 h2 => ?_, h.Mh, h.Gh⟩,
    ⟨Nat.le_of_eq hs.symm, fun x hx => hne x (X5 x hx), rfl, rfl⟩, ⟨Nat.le_of_eq hs.symm, fun x hx => hne x (X6 x hx), rfl, rfl⟩⟩
  show (w.heap.setIfInBounds c o)[x]? = _
  rw [hne x (by rcases hc with rfl | rfl <;> assumption)]
  exact h.Mg x hx hy X7 h1 h2
theorem ed.at (h : ed P s kp kt rq F0 FW gs a b w) (d : Nat) {gs' : Array Goroutine} {a' b' : Goroutine} (h0 : gs'[0]? = some a') (hW : gs'[s.W]? = some b') (hsz : gs'.size = gs.size) : ed P s kp kt rq F0 FW gs' a' b' (w.at d) :=
  ⟨h0, hW, h.w0, hsz.trans h.sz, h.apart, h.Ei, h.Ej, h.op, h.ot, h.qC, h.sP, h.pt, h.xS, h.Bi, h.big, h.Mg, h.Mh, h.Gh⟩
theorem ed.pick (h : ed P s kp kt rq F0 FW gs a b w) {t : Trace} {q : Nat → Nat} (hL : bW (Two s.W) P t gs q) (ha : awake a) (hb : awake b) (hr : a.status = .running ∨ b.status = .running) (ka : ∀ d, a.again (w.at d) = a) (kb : ∀ d, b.again (w.at d) = b) (sl : Option (Nat × Nat)) :
    (∃ d sl', a.status = .running ∧ stepT P (crowd gs w sl) = runT P (crowd gs (w.at d) sl') 0) ∨ (∃ d sl', b.status = .running ∧ stepT P (crowd gs w sl) = runT P (crowd gs (w.at d) sl') s.W) ∨
    ∃ d sl' gs' q' i fn pos es, i ≠ 0 ∧ i ≠ s.W ∧ (∀ e ∈ es, Event.mute e = true) ∧ stepT P (crowd gs w sl) = (.next (crowd gs' (w.at d) sl'), MemOp.ofEvents i fn pos es) ∧ ed P s kp kt rq F0 FW gs' a b (w.at d) ∧ bW (Two s.W) P (t ++ MemOp.ofEvents i fn pos es) gs' q' ∧ sumTo s.size q' < sumTo s.size q := by
  have haw := hL.awake fun i g hi hg => by
    rcases hi with rfl | rfl
    · rw [h.g0] at hg; cases hg; exact ha
    · rw [h.gW] at hg; cases hg; exact hb
  obtain ⟨i, g, d, sl', hi, hg, hst⟩ := crowd_pick (P := P) (w := w) (sl := sl) haw (by
    rcases hr with hr | hr
    · exact ⟨0, a, h.g0, hr⟩
    · exact ⟨s.W, b, h.gW, hr⟩)
  by_cases hi0 : i = 0
  · subst hi0
    rw [h.g0] at hi
    cases hi
    exact .inl ⟨d, sl', hg, hst⟩
  by_cases kZ : i = s.W
  · subst kZ
    rw [h.gW] at hi
    cases hi
    exact .inr (.inl ⟨d, sl', hg, hst⟩)
  obtain ⟨g', es, q', hm, uW, hL', hlt'⟩ := hL.slip (w := w.at d) hi (fun hx => hx.elim hi0 kZ) hi0 hg sl'
  rw [h.sz] at hlt'
  exact .inr (.inr ⟨d, sl', _, q', i, _, _, es, hi0, kZ, hm, hst.trans uW, h.at d (by rw [eO hi0 h.g0, qB (ka d)]) (by rw [eO kZ h.gW, qB (kb d)]) (by simp), hL', hlt'⟩)
end
end
end Go.Proofs.YtignemioillaiaaGreat
