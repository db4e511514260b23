/- A machine of many goroutines: some are spoken of, all others only leave. The walk with no bound beside leavers. -/
import Derived.Test.YtignemioillaiaaGreatG05
import Derived.Conc.CrowdSel
namespace Go.Proofs.YtignemioillaiaaGreat
set_option maxHeartbeats 8000000
set_option maxRecDepth 100000
section
open Go Go.Conc
open Go.ConcN (sumTo upd sumTo_upd upd_ne upd_same)
/-- The machine comes to such a state. -/
def Reaches (P : Program) (K : Machine → Trace → Prop) (m : Machine) (t : Trace) : Prop := ∃ N m' t', runNT P N m t = (.next m', t') ∧ K m' t'
section
variable {P : Program} {K K' : Machine → Trace → Prop} {m : Machine} {t : Trace}
theorem Reaches.here (h : K m t) : Reaches P K m t := ⟨0, m, t, rfl, h⟩
theorem Reaches.step {m1 : Machine} {ops : Trace} (h : stepT P m = (.next m1, ops)) (h1 : Reaches P K m1 (t ++ ops)) : Reaches P K m t := by
  obtain ⟨N, m', t', hr, hk⟩ := h1
  exact ⟨N + 1, m', t', by simp only [runNT, h]; exact hr, hk⟩
theorem runNT_more : ∀ (i k : Nat) {m m' : Machine} {t t' : Trace}, runNT P i m t = (.next m', t') → runNT P (i + k) m t = runNT P k m' t'
  | 0, k, m, m', t, t', h => by cases h; rw [Nat.zero_add]
  | i + 1, k, m, m', t, t', h => by
    rw [Nat.succ_add]
    simp only [runNT] at h ⊢
    generalize stepT P m = r at h
    obtain ⟨s, ops⟩ := r
    cases s with
    | next m1 => exact runNT_more i k h
    | ended o w => cases h
theorem Reaches.trans (h : Reaches P K m t) (hk : ∀ m t, K m t → Reaches P K' m t) : Reaches P K' m t := by
  obtain ⟨N, m', t', hr, h1⟩ := h
  obtain ⟨N', m2, t2, hr2, h2⟩ := hk _ _ h1
  exact ⟨N + N', m2, t2, (runNT_more N N' hr).trans hr2, h2⟩
end
/-- Whoever is not spoken of only leaves. -/
structure LeaveX (Sp : Nat → Prop) (P : Program) (t : Trace) (gs : Array Goroutine) (q : Nat → Nat) : Prop where
  old : ∀ i g, ¬ Sp i → gs[i]? = some g → QuitsD P (q i) (Deaf t i) g
  above : ∀ j, gs.size ≤ j → Deaf t j = 0
section
variable {P : Program} {Sp : Nat → Prop} {t : Trace} {gs : Array Goroutine} {q : Nat → Nat}
theorem ofEvents_g {i : Nat} {fn : FuncId} {pos : String} {es : Array Event} : ∀ op ∈ MemOp.ofEvents i fn pos es, op.g = i := by
  intro op hop
  rw [ofEvents_eq] at hop
  obtain ⟨e, _, rfl⟩ := Array.mem_map.1 hop
  rfl
theorem LeaveX.leavers (h : LeaveX (· = 0) P t gs q) : Leavers P t gs q := ⟨fun i g hi hg => h.old i g (by omega) hg, h.above⟩
/-- One who is spoken of has taken a step. -/
theorem LeaveX.party (h : LeaveX Sp P t gs q) {i : Nat} {g g' : Goroutine} {w' : World} (hi : Sp i) (hlt : i < gs.size) {u : Trace} (hu : ∀ op ∈ u, op.g = i) : LeaveX Sp P (t ++ u) ((gs.map (woken P g g' w')).setIfInBounds i g') q := by
  refine ⟨fun j x hj hx => ?_, fun j hj => ?_⟩
  · have hne : i ≠ j := by rintro rfl; exact hj hi
    rw [Array.getElem?_setIfInBounds_ne hne, Array.getElem?_map] at hx
    obtain ⟨y, hy, rfl⟩ := Option.map_eq_some_iff.1 hx
    have hq := h.old j y hj hy
    rw [woken_quitsD hq, Deaf_other t hne _ hu]
    exact hq
  · rw [Deaf_other t (g' := i) (by simp at hj; omega) _ hu]
    exact h.above j (by simpa using hj)
/-- A leaver's step. -/
theorem LeaveX.slip (h : LeaveX Sp P t gs q) {i : Nat} {g : Goroutine} {w : World} (hi : gs[i]? = some g) (hs : ¬ Sp i) (hz : ¬ i = 0) (hr : g.status = .running) (sl : Option (Nat × Nat)) :
    ∃ g' es q', (∀ e ∈ es, Event.mute e = true) ∧ runT P (crowd gs w sl) i = (.next (crowd ((gs.map (woken P g g' w)).setIfInBounds i g') w sl), MemOp.ofEvents i g.frame.fn g.frame.place es) ∧
      LeaveX Sp P (t ++ MemOp.ofEvents i g.frame.fn g.frame.place es) ((gs.map (woken P g g' w)).setIfInBounds i g') q' ∧ sumTo gs.size q' < sumTo gs.size q := by
  have hq := h.old i g hs hi
  have hi0 : (i == 0) = false := by simp; omega
  have hlt : i < gs.size := (Array.getElem?_eq_some_iff.1 hi).1
  cases hqi : q i with
  | zero => rw [hqi] at hq; rw [hq.1] at hr; cases hr
  | succ k =>
    rw [hqi] at hq
    rcases hq with ⟨hf, _⟩ | ⟨_, g', es, hm, hstp, hq'⟩
    · rw [hf] at hr; cases hr
    refine ⟨g', es, upd q i k, hm, runT_crowd_go (P := P) (sl := sl) (i := i) hi (by rw [hi0]; exact hstp w), ⟨fun j x hj hx => ?_, fun j hj => ?_⟩, ?_⟩
    · by_cases hji : i = j
      · subst hji
        rw [Array.getElem?_setIfInBounds_self_of_lt (by simpa using hlt)] at hx
        obtain rfl := Option.some.inj hx
        rw [upd_same, Deaf_own]
        exact hq'
      · rw [Array.getElem?_setIfInBounds_ne hji, Array.getElem?_map] at hx
        obtain ⟨y, hy, rfl⟩ := Option.map_eq_some_iff.1 hx
        have hqj := h.old j y hj hy
        rw [woken_quitsD hqj, upd_ne q k (Ne.symm hji), Deaf_other t hji _ ofEvents_g]
        exact hqj
    · rw [Deaf_other t (g' := i) (by simp at hj; omega) _ ofEvents_g]
      exact h.above j (by simpa using hj)
    · have : sumTo gs.size (upd q i k) + q i = sumTo gs.size q + k := sumTo_upd q k id hlt
      omega
theorem LeaveX.awake (h : LeaveX Sp P t gs q) (hs : ∀ i g, Sp i → gs[i]? = some g → awake g) : ∀ g ∈ gs, awake g := by
  intro g hg
  obtain ⟨i, hi, rfl⟩ := Array.mem_iff_getElem.1 hg
  by_cases hsp : Sp i
  · exact hs i _ hsp (Array.getElem?_eq_getElem hi)
  · exact awake_of ((h.old i _ hsp (Array.getElem?_eq_getElem hi)).status.elim .inl fun x => .inr (.inr x))
/-- Another one's record behind a step. -/
theorem get_other {i j : Nat} {g' x : Goroutine} {f : Goroutine → Goroutine} (hij : i ≠ j) (hx : gs[j]? = some x) : ((gs.map f).setIfInBounds i g')[j]? = some (f x) := by
  rw [Array.getElem?_setIfInBounds_ne hij, Array.getElem?_map, hx]
  rfl
theorem get_own {i : Nat} {g' : Goroutine} {f : Goroutine → Goroutine} (hlt : i < gs.size) : ((gs.map f).setIfInBounds i g')[i]? = some g' := by
  rw [Array.getElem?_setIfInBounds_self_of_lt (by simpa using hlt)]
end
/-- What is held of the trace between calls that go. -/
def PastU (t : Trace) : Prop := ∃ B, Past (fun _ => False) B t
theorem low_ex (t : Trace) : ∃ B, ∀ op ∈ t, op.act.low B := by
  obtain ⟨l⟩ := t
  induction l with
  | nil => exact ⟨0, by simp⟩
  | cons a l ih =>
    obtain ⟨B, hB⟩ := ih
    obtain ⟨B', hB'⟩ : ∃ B', a.act.low B' := by
      cases a.act with
      | access e =>
        obtain ⟨l, wr, sy⟩ := e
        cases l with
        | cell x => exact ⟨x.block + 1, Nat.lt_succ_self _⟩
        | obj x => exact ⟨x + 1, Nat.lt_succ_self _⟩
        | _ => exact ⟨0, trivial⟩
      | mark m =>
        cases m with
        | acquire x => exact ⟨x.block + 1, Nat.lt_succ_self _⟩
        | release x => exact ⟨x.block + 1, Nat.lt_succ_self _⟩
        | releaseMerge x => exact ⟨x.block + 1, Nat.lt_succ_self _⟩
        | read x => exact ⟨x.block + 1, Nat.lt_succ_self _⟩
        | write x => exact ⟨x.block + 1, Nat.lt_succ_self _⟩
        | _ => exact ⟨0, trivial⟩
      | go _ => exact ⟨0, trivial⟩
      | start => exact ⟨0, trivial⟩
      | send c _ => exact ⟨c + 1, Nat.lt_succ_self _⟩
      | sendDone c _ => exact ⟨c + 1, Nat.lt_succ_self _⟩
      | recv c _ _ => exact ⟨c + 1, Nat.lt_succ_self _⟩
      | recvDone c _ => exact ⟨c + 1, Nat.lt_succ_self _⟩
      | close c => exact ⟨c + 1, Nat.lt_succ_self _⟩
      | recvClosed c => exact ⟨c + 1, Nat.lt_succ_self _⟩
    refine ⟨max B B', fun op hop => ?_⟩
    simp only [List.mem_toArray, List.mem_cons] at hop
    rcases hop with rfl | hop
    · exact MemAct.low_mono (Nat.le_max_right _ _) hB'
    · exact MemAct.low_mono (Nat.le_max_left _ _) (hB op (by simpa using hop))
theorem PastU.own {t : Trace} (h : PastU t) {fn : FuncId} {pos : String} {es : Array Event} (hes : ∀ e ∈ es, okEv e) : PastU (t ++ MemOp.ofEvents 0 fn pos es) := by
  obtain ⟨B, h⟩ := h
  obtain ⟨B', hB'⟩ := low_ex (MemOp.ofEvents 0 fn pos es)
  refine ⟨max B B', (h.mono (Nat.le_max_left _ _)).own fun e he => ⟨fun _ _ hs => hs.elim, (hes e he).1, (hes e he).2, ?_⟩⟩
  have := hB' _ (by rw [ofEvents_eq]; exact Array.mem_map.2 ⟨e, he, rfl⟩)
  exact MemAct.low_mono (Nat.le_max_right _ _) this
theorem PastU.mute {t : Trace} (h : PastU t) {g : Nat} (hg : g ≠ 0) {fn : FuncId} {pos : String} {es : Array Event} (hm : ∀ e ∈ es, e.mute = true) : PastU (t ++ MemOp.ofEvents g fn pos es) := by
  obtain ⟨B, h⟩ := h
  exact ⟨B, h.mute hg hm⟩
/-- Goroutine 0 stands at such a stop, all others only leave. -/
def Frm (P : Program) (n : Nat) (Stop : Goroutine → World → Prop) (m : Machine) (t : Trace) : Prop :=
  ∃ gs a w sl q, m = crowd gs w sl ∧ gs.size = n ∧ gs[0]? = some a ∧ Stop a w ∧ LeaveX (· = 0) P t gs q ∧ PastU t
def OkE (_ _ : World) (es : Array Event) : Prop := ∀ e ∈ es, okEv e
section
variable {P : Program} {Stop : Goroutine → World → Prop}
/-- THE WALK WITH NO BOUND, BESIDE LEAVERS. -/
theorem beside_u {a : Goroutine} {w : World} (h : GoesU P true AtRel OkE Stop a w) : ∀ {gs : Array Goroutine} {sl : Option (Nat × Nat)} {t : Trace} {q : Nat → Nat}, gs[0]? = some a → LeaveX (· = 0) P t gs q → PastU t → Reaches P (Frm P gs.size Stop) (crowd gs w sl) t := by
  refine h (fun a w => ∀ {gs : Array Goroutine} {sl : Option (Nat × Nat)} {t : Trace} {q : Nat → Nat}, gs[0]? = some a → LeaveX (· = 0) P t gs q → PastU t → Reaches P (Frm P gs.size Stop) (crowd gs w sl) t) ?_ ?_
  · intro a w hs gs sl t q h0 hL hP
    exact .here ⟨gs, a, w, sl, q, rfl, rfl, h0, hs w (atRel_refl w), hL, hP⟩
  · intro a w hrun hstep gs sl t q
    suffices H : ∀ M w gs sl t q, sumTo gs.size q ≤ M → (∀ w₁, AtRel w w₁ → (stepG P true a w₁).goes fun g' w' es => OkE w₁ w' es ∧ ∀ {gs : Array Goroutine} {sl : Option (Nat × Nat)} {t : Trace} {q : Nat → Nat}, gs[0]? = some g' → LeaveX (· = 0) P t gs q → PastU t → Reaches P (Frm P gs.size Stop) (crowd gs w' sl) t) → gs[0]? = some a → LeaveX (· = 0) P t gs q → PastU t → Reaches P (Frm P gs.size Stop) (crowd gs w sl) t from H _ w gs sl t q (Nat.le_refl _) hstep
    intro M
    induction M using Nat.strongRecOn with
    | ind M ih =>
      intro w gs sl t q hM hstep h0 hL hP
      have haw := hL.awake fun i g hi hg => by cases hi; rw [h0] at hg; cases hg; exact awake_of (.inl hrun)
      obtain ⟨i, g, d, sl', hi, hg, hst⟩ := crowd_pick (P := P) (w := w) (sl := sl) haw ⟨0, a, h0, hrun⟩
      have hlt : 0 < gs.size := (Array.getElem?_eq_some_iff.1 h0).1
      by_cases hi0 : i = 0
      · subst hi0
        obtain rfl : g = a := by rw [h0] at hi; exact (Option.some.inj hi).symm
        have hs := hstep (w.at d) ⟨d, rfl⟩
        cases hgo : stepG P true g (w.at d) with
        | go a' w' es =>
          rw [hgo, goes_go] at hs
          have hrunT := runT_crowd_go (P := P) (sl := sl') (i := 0) hi (show stepG P (0 == 0) g (w.at d) = _ from hgo)
          refine Reaches.step (hst.trans hrunT) ?_
          have := hs.2 (gs := (gs.map (woken P g a' w')).setIfInBounds 0 a') (sl := sl') (t := t ++ MemOp.ofEvents 0 g.frame.fn g.frame.place es) (q := q) (get_own hlt) (hL.party rfl hlt ofEvents_g) (hP.own hs.1)
          simpa using this
        | _ => rw [hgo] at hs; exact hs.elim
      · obtain ⟨g', es, q', hm, hrT, hL', hlt'⟩ := hL.slip (w := w.at d) hi hi0 hi0 hg sl'
        refine Reaches.step (hst.trans hrT) ?_
        have hsz : ((gs.map (woken P g g' (w.at d))).setIfInBounds i g').size = gs.size := by simp
        have := ih (sumTo gs.size q') (by omega) (w.at d) _ sl' _ q' (by rw [hsz]; exact Nat.le_refl _) (fun w₁ h1 => hstep w₁ (atRel_trans _ _ _ ⟨d, rfl⟩ h1)) (by rw [get_other hi0 h0, woken_run hrun]) hL' (hP.mute hi0 hm)
        rwa [hsz] at this
end
end
section
open Go Go.Conc
def inB (F : Nat → Prop) : Loc → Prop
  | .cell a => F a.block
  | .obj r => F r
  | _ => False
theorem inB_mono {F F' : Nat → Prop} (h : ∀ b, F b → F' b) {l : Loc} (hl : inB F l) : inB F' l := by
  cases l <;> first | exact h _ hl | exact hl
theorem inB_apart {F F' : Nat → Prop} (h : ∀ b, F b → ¬ F' b) {l : Loc} (hl : inB F l) (hl' : inB F' l) : False := by
  cases l <;> first | exact h _ hl hl' | exact hl
/-- What a step may list. -/
def evF (F : Nat → Prop) (e : Event) : Prop := okEv e ∧ ∀ x, (MemAct.ofEvent e).touch? = some x → x.loc.isMemory = true → inB F x.loc
structure TrB (W : Nat) (F0 FW : Nat → Prop) (t : Trace) : Prop where
  clean : ∀ said, ¬ Race said t
  known : ∀ i a, touchAt t i = some a → a.loc.isMemory = true → (Knows t 0 i ∧ Knows t W i) ∨ (Knows t 0 i ∧ inB F0 a.loc) ∨ (Knows t W i ∧ inB FW a.loc)
  ear0 : Deaf t 0 = 0
  earW : Deaf t W = 0
theorem deaf_own {t : Trace} {g : Nat} {fn : FuncId} {pos : String} {es : Array Event} (h : ∀ e ∈ es, okEv e) : Deaf (t ++ MemOp.ofEvents g fn pos es) g = Deaf t g := by
  rw [Deaf_own]
  exact deafBehind_still (fun e he => h e he) _
theorem ops_ev {g : Nat} {fn : FuncId} {pos : String} {es : Array Event} {op : MemOp} (h : op ∈ MemOp.ofEvents g fn pos es) : ∃ e ∈ es, op.act = .ofEvent e ∧ op.g = g := by
  rw [ofEvents_eq] at h
  obtain ⟨e, he, rfl⟩ := Array.mem_map.1 h
  exact ⟨e, he, rfl, rfl⟩
section
variable {W : Nat} {F0 FW F0' FW' : Nat → Prop} {t : Trace}
theorem TrB.grow (h : TrB W F0 FW t) (h0 : ∀ b, F0 b → F0' b) (hW : ∀ b, FW b → FW' b) : TrB W F0' FW' t :=
  ⟨h.clean, fun i a ha hm => (h.known i a ha hm).imp id (Or.imp (fun x => ⟨x.1, inB_mono h0 x.2⟩) fun x => ⟨x.1, inB_mono hW x.2⟩), h.ear0, h.earW⟩
theorem TrB.main (h : TrB W F0 FW t) (hW : W ≠ 0) (hd : ∀ b, F0 b → ¬ FW b) {fn : FuncId} {pos : String} {es : Array Event} (hes : ∀ e ∈ es, evF F0 e) : TrB W F0 FW (t ++ MemOp.ofEvents 0 fn pos es) := by
  refine ⟨fun said => noRace_append (h.clean said) ofEvents_g fun i a ha op hop b hb hc => ?_, fun i a ha hm => ?_, (deaf_own fun e he => (hes e he).1).trans h.ear0, (Deaf_other t (Ne.symm hW) _ ofEvents_g).trans h.earW⟩
  · obtain ⟨e, he, ea, _⟩ := ops_ev hop
    have hm : a.loc.isMemory = true := hc.2.1
    have hin : inB F0 b.loc := (hes e he).2 b (by rw [← ea]; exact hb) (by rw [← hc.1]; exact hm)
    rcases h.known i a ha hm with x | x | x
    · exact x.1
    · exact x.1
    · rw [hc.1] at x
      exact (inB_apart hd hin x.2).elim
  · obtain ⟨x, hx, hxa⟩ := touch_of ha
    rcases getElem?_append_cases hx with ⟨_, hx'⟩ | ⟨_, hxu⟩
    · rcases h.known i a (by rw [touchAt_of hx']; exact hxa) hm with y | y | y
      · exact .inl ⟨y.1.app _, y.2.app _⟩
      · exact .inr (.inl ⟨y.1.app _, y.2⟩)
      · exact .inr (.inr ⟨y.1.app _, y.2⟩)
    · obtain ⟨e, he, ea, eg⟩ := ops_ev hxu
      have := knows_own hx
      rw [eg] at this
      exact .inr (.inl ⟨this, (hes e he).2 a (by rw [← ea]; exact hxa) hm⟩)
theorem TrB.work (h : TrB W F0 FW t) (hW : W ≠ 0) (hd : ∀ b, F0 b → ¬ FW b) {fn : FuncId} {pos : String} {es : Array Event} (hes : ∀ e ∈ es, evF FW e) : TrB W F0 FW (t ++ MemOp.ofEvents W fn pos es) := by
  refine ⟨fun said => noRace_append (h.clean said) ofEvents_g fun i a ha op hop b hb hc => ?_, fun i a ha hm => ?_, (Deaf_other t hW _ ofEvents_g).trans h.ear0, (deaf_own fun e he => (hes e he).1).trans h.earW⟩
  · obtain ⟨e, he, ea, _⟩ := ops_ev hop
    have hm : a.loc.isMemory = true := hc.2.1
    have hin : inB FW b.loc := (hes e he).2 b (by rw [← ea]; exact hb) (by rw [← hc.1]; exact hm)
    rcases h.known i a ha hm with x | x | x
    · exact x.2
    · rw [hc.1] at x
      exact (inB_apart hd x.2 hin).elim
    · exact x.1
  · obtain ⟨x, hx, hxa⟩ := touch_of ha
    rcases getElem?_append_cases hx with ⟨_, hx'⟩ | ⟨_, hxu⟩
    · rcases h.known i a (by rw [touchAt_of hx']; exact hxa) hm with y | y | y
      · exact .inl ⟨y.1.app _, y.2.app _⟩
      · exact .inr (.inl ⟨y.1.app _, y.2⟩)
      · exact .inr (.inr ⟨y.1.app _, y.2⟩)
    · obtain ⟨e, he, ea, eg⟩ := ops_ev hxu
      have := knows_own hx
      rw [eg] at this
      exact .inr (.inr ⟨this, (hes e he).2 a (by rw [← ea]; exact hxa) hm⟩)
/-- Operations that touch nothing and say nothing of hearing. -/
theorem TrB.still (h : TrB W F0 FW t) {u : Trace} (hu : ∀ op ∈ u, op.act.touch? = none) (h0 : Deaf (t ++ u) 0 = 0) (hW : Deaf (t ++ u) W = 0) : TrB W F0 FW (t ++ u) := by
  refine ⟨fun said => ?_, fun i a ha hm => ?_, h0, hW⟩
  · rintro ⟨i, j, hij, ⟨a, b, ha, hb, hc⟩, n1, n2⟩
    obtain ⟨x, hx, hxa⟩ := touch_of ha
    obtain ⟨y, hy, hyb⟩ := touch_of hb
    rcases getElem?_append_cases hy with ⟨hj, hy'⟩ | ⟨hj, hyu⟩
    · rcases getElem?_append_cases hx with ⟨hi, hx'⟩ | ⟨_, hxu⟩
      · exact h.clean said ⟨i, j, hij, ⟨a, b, by simp [Trace.act?, hx', hxa], by simp [Trace.act?, hy', hyb], hc⟩, fun e => n1 (hb_app u e), fun e => n2 (hb_app u e)⟩
      · rw [hu x hxu] at hxa; cases hxa
    · rw [hu y hyu] at hyb; cases hyb
  · obtain ⟨x, hx, hxa⟩ := touch_of ha
    rcases getElem?_append_cases hx with ⟨_, hx'⟩ | ⟨_, hxu⟩
    · rcases h.known i a (by rw [touchAt_of hx']; exact hxa) hm with y | y | y
      · exact .inl ⟨y.1.app _, y.2.app _⟩
      · exact .inr (.inl ⟨y.1.app _, y.2⟩)
      · exact .inr (.inr ⟨y.1.app _, y.2⟩)
    · rw [hu x hxu] at hxa; cases hxa
end
/-- Nobody says that it does not hear, or hears again. -/
def NoEar (u : Trace) : Prop := ∀ op ∈ u, op.act ≠ .mark .disable ∧ op.act ≠ .mark .enable
theorem deaf_same {t u : Trace} (hu : NoEar u) (g : Nat) : ∀ j, (t ++ u).deaf g (t.size + j) = Deaf t g := by
  intro j
  induction j with
  | zero =>
    have key : ∀ k, k ≤ t.size → (t ++ u).deaf g k = t.deaf g k := by
      intro k
      induction k with
      | zero => intro _; rfl
      | succ k ih =>
        intro hk
        simp only [Trace.deaf]
        rw [getElem?_append_old (by omega), ih (by omega)]
    exact key t.size (Nat.le_refl _)
  | succ j ih =>
    rw [← Nat.add_assoc]
    simp only [Trace.deaf]
    rw [ih]
    split
    · rename_i h
      rcases getElem?_append_cases h with ⟨hlt, _⟩ | ⟨_, hm⟩
      · omega
      · exact absurd rfl (hu _ hm).1
    · rename_i h
      rcases getElem?_append_cases h with ⟨hlt, _⟩ | ⟨_, hm⟩
      · omega
      · exact absurd rfl (hu _ hm).2
    · rfl
theorem deaf_app {t u : Trace} (hu : NoEar u) (g : Nat) : Deaf (t ++ u) g = Deaf t g := by
  have := deaf_same (t := t) hu g u.size
  rw [← this]
  unfold Deaf
  rw [Array.size_append]
theorem heard_new {t u : Trace} (hu : NoEar u) {j : Nat} {op : MemOp} (h : (t ++ u)[t.size + j]? = some op) (hd : Deaf t op.g = 0) : (t ++ u).heard (t.size + j) :=
  ⟨op.g, by simp [Trace.g?, h], by rw [deaf_same hu]; exact hd⟩
theorem pastU_of {t : Trace} (h1 : ∀ said, ¬ Race said t) (h2 : ∀ i a, touchAt t i = some a → a.loc.isMemory = true → Knows t 0 i) (h3 : Deaf t 0 = 0) : PastU t := by
  obtain ⟨B, hB⟩ := low_ex t
  refine ⟨B, h1, fun i a ha hm => .inl (h2 i a ha hm), ?_, h3, hB⟩
  intro i g hg hne hc
  obtain ⟨x, hx, hm, _⟩ := hc
  obtain ⟨q, z, hz, hzg, hb⟩ := h2 i x hx hm
  rcases hb with rfl | hb
  · have : t.g? i = some z.g := by simp [Trace.g?, hz]
    rw [this] at hg
    cases hg
    exact absurd hzg hne
  · exact ⟨q, by simp [Trace.g?, hz, hzg], hb⟩
theorem PastU.known {t : Trace} (h : PastU t) : ∀ i a, touchAt t i = some a → a.loc.isMemory = true → Knows t 0 i := by
  obtain ⟨B, h⟩ := h
  exact fun i a ha hm => (h.known i a ha hm).elim id fun x => x.1.elim
theorem get_new {t u : Trace} {j : Nat} {op : MemOp} (h : u[j]? = some op) : (t ++ u)[t.size + j]? = some op := by
  rw [Array.getElem?_append_right (Nat.le_add_right _ _), Nat.add_sub_cancel_left]
  exact h
theorem hb_edge {t : Trace} {i j : Nat} (h : Notices t i j) (hi : t.heard i) (hj : t.heard j) : HappensBefore t i j := .single (.inr ⟨h, hi, hj⟩)
section
variable {W : Nat} {F0 FW : Nat → Prop} {t : Trace}
theorem old_touch {u : Trace} (hu : ∀ op ∈ u, op.act.touch? = none) {i : Nat} {a : Touch} (ha : touchAt (t ++ u) i = some a) : touchAt t i = some a := by
  obtain ⟨x, hx, hxa⟩ := touch_of ha
  rcases getElem?_append_cases hx with ⟨_, hx'⟩ | ⟨_, hxu⟩
  · rw [touchAt_of hx']; exact hxa
  · rw [hu x hxu] at hxa; cases hxa
/-- THE START. -/
theorem TrB.start (h : PastU t) (_hW : W ≠ 0) (he : Deaf t W = 0) (fn fn' : FuncId) (pos pos' : String) : TrB W F0 FW (t ++ #[⟨0, fn, pos, .go W⟩, ⟨W, fn', pos', .start⟩]) := by
  have hear : NoEar #[⟨0, fn, pos, .go W⟩, ⟨W, fn', pos', .start⟩] := by
    intro op hop
    simp only [List.mem_toArray, List.mem_cons, List.not_mem_nil, or_false] at hop
    rcases hop with rfl | rfl <;> exact ⟨nofun, nofun⟩
  have htou : ∀ op ∈ (#[⟨0, fn, pos, .go W⟩, ⟨W, fn', pos', .start⟩] : Trace), op.act.touch? = none := by
    intro op hop
    simp only [List.mem_toArray, List.mem_cons, List.not_mem_nil, or_false] at hop
    rcases hop with rfl | rfl <;> rfl
  have h0 : Deaf t 0 = 0 := h.choose_spec.hears
  have hT : TrB W (fun _ => True) (fun _ => True) t := ⟨h.choose_spec.clean, fun i a ha hm => .inr (.inl ⟨h.known i a ha hm, by cases hl : a.loc <;> rw [hl] at hm <;> first | trivial | cases hm⟩), h0, he⟩
  have hS := hT.still htou ((deaf_app hear 0).trans h0) ((deaf_app hear W).trans he)
  have g0 := get_new (t := t) (u := #[⟨0, fn, pos, .go W⟩, ⟨W, fn', pos', .start⟩]) (j := 0) (op := ⟨0, fn, pos, .go W⟩) rfl
  have g1 := get_new (t := t) (u := #[⟨0, fn, pos, .go W⟩, ⟨W, fn', pos', .start⟩]) (j := 1) (op := ⟨W, fn', pos', .start⟩) rfl
  refine ⟨hS.clean, fun i a ha hm => ?_, hS.ear0, hS.earW⟩
  have hk := h.known i a (old_touch htou ha) hm
  have e1 : HappensBefore (t ++ #[⟨0, fn, pos, .go W⟩, ⟨W, fn', pos', .start⟩]) i (t.size + 0) := hk.hb_new (Nat.le_refl _) g0 rfl
  have e2 : HappensBefore (t ++ #[⟨0, fn, pos, .go W⟩, ⟨W, fn', pos', .start⟩]) (t.size + 0) (t.size + 1) := hb_edge (.spawn (child := W) (by rw [act?_of g0]) (by rw [act?_of g1]) (by simp only [Trace.g?, g1, Option.map_some])) (heard_new hear g0 h0) (heard_new hear g1 he)
  exact .inl ⟨hk.app _, ⟨t.size + 1, _, g1, rfl, .inr (e1.trans e2)⟩⟩
/-- AN EXCHANGE: both know all. -/
theorem TrB.exchange (h : TrB W F0 FW t) (F0' FW' : Nat → Prop) (c k : Nat) (fn fn' : FuncId) (pos pos' : String) :
    TrB W F0' FW' (t ++ #[⟨W, fn, pos, .send c k⟩, ⟨0, fn', pos', .recv c k 0⟩, ⟨W, fn, pos, .sendDone c k⟩, ⟨0, fn', pos', .recvDone c k⟩]) := by
  generalize hu : (#[⟨W, fn, pos, .send c k⟩, ⟨0, fn', pos', .recv c k 0⟩, ⟨W, fn, pos, .sendDone c k⟩, ⟨0, fn', pos', .recvDone c k⟩] : Trace) = u
  have hear : NoEar u := by
    intro op hop
    rw [← hu] at hop
    simp only [List.mem_toArray, List.mem_cons, List.not_mem_nil, or_false] at hop
    rcases hop with rfl | rfl | rfl | rfl <;> exact ⟨nofun, nofun⟩
  have htou : ∀ op ∈ u, op.act.touch? = none := by
    intro op hop
    rw [← hu] at hop
    simp only [List.mem_toArray, List.mem_cons, List.not_mem_nil, or_false] at hop
    rcases hop with rfl | rfl | rfl | rfl <;> rfl
  have hS := h.still htou ((deaf_app hear 0).trans h.ear0) ((deaf_app hear W).trans h.earW)
  have g0 := get_new (t := t) (u := u) (j := 0) (op := ⟨W, fn, pos, .send c k⟩) (by rw [← hu]; rfl)
  have g1 := get_new (t := t) (u := u) (j := 1) (op := ⟨0, fn', pos', .recv c k 0⟩) (by rw [← hu]; rfl)
  have g2 := get_new (t := t) (u := u) (j := 2) (op := ⟨W, fn, pos, .sendDone c k⟩) (by rw [← hu]; rfl)
  have g3 := get_new (t := t) (u := u) (j := 3) (op := ⟨0, fn', pos', .recvDone c k⟩) (by rw [← hu]; rfl)
  have e1 : HappensBefore (t ++ u) (t.size + 0) (t.size + 3) := hb_edge (.handOver (c := c) (k := k) (by rw [act?_of g0]) (by rw [act?_of g3])) (heard_new hear g0 h.earW) (heard_new hear g3 h.ear0)
  have e2 : HappensBefore (t ++ u) (t.size + 1) (t.size + 2) := hb_edge (.room (c := c) (k := k) (cap := 0) (by rw [act?_of g1]) (by rw [act?_of g2]; rfl)) (heard_new hear g1 h.ear0) (heard_new hear g2 h.earW)
  have k0 : ∀ i, Knows t 0 i → Knows (t ++ u) W i := fun i hk => ⟨t.size + 2, _, g2, rfl, .inr ((hk.hb_new (Nat.le_add_right _ _) g1 rfl).trans e2)⟩
  have kW : ∀ i, Knows t W i → Knows (t ++ u) 0 i := fun i hk => ⟨t.size + 3, _, g3, rfl, .inr ((hk.hb_new (Nat.le_add_right _ _) g0 rfl).trans e1)⟩
  refine ⟨hS.clean, fun i a ha hm => .inl ?_, hS.ear0, hS.earW⟩
  rcases h.known i a (old_touch htou ha) hm with x | x | x
  · exact ⟨x.1.app _, x.2.app _⟩
  · exact ⟨x.1.app _, k0 i x.1⟩
  · exact ⟨kW i x.1, x.1.app _⟩
/-- BEHIND THE CLOSE at pc. -/
structure TrC (c pc : Nat) (F0 FW : Nat → Prop) (t : Trace) : Prop where
  clean : ∀ said, ¬ Race said t
  known : ∀ i a, touchAt t i = some a → a.loc.isMemory = true → Knows t 0 i ∨ (Before t i pc ∧ inB FW a.loc)
  act : t.act? pc = some (.close c)
  hrd : t.heard pc
  ear0 : Deaf t 0 = 0
theorem TrB.close (h : TrB W F0 FW t) (hW : W ≠ 0) (hd : ∀ b, F0 b → ¬ FW b) {c : Nat} (hc : FW c) (fn : FuncId) (pos : String) :
    TrC c (t.size + 1) F0 FW (t ++ MemOp.ofEvents W fn pos #[⟨.obj c, false, true⟩, ⟨.obj c, true, true⟩]) := by
  have hev : ∀ e ∈ (#[⟨.obj c, false, true⟩, ⟨.obj c, true, true⟩] : Array Event), evF FW e := by
    intro e he
    simp only [List.mem_toArray, List.mem_cons, List.not_mem_nil, or_false] at he
    rcases he with rfl | rfl
    · refine ⟨⟨nofun, nofun⟩, fun x hx _ => ?_⟩
      cases hx
      exact hc
    · exact ⟨⟨nofun, nofun⟩, fun x hx _ => by cases hx⟩
  have hT := h.work hW hd (fn := fn) (pos := pos) hev
  generalize hu : MemOp.ofEvents W fn pos #[⟨.obj c, false, true⟩, ⟨.obj c, true, true⟩] = u at hT
  have g1 := get_new (t := t) (u := u) (j := 1) (op := ⟨W, fn, pos, .close c⟩) (by rw [← hu, ofEvents_eq, Array.getElem?_map]; rfl)
  have hear : NoEar u := by
    intro op hop
    rw [← hu] at hop
    obtain ⟨e, he, ea, _⟩ := ops_ev hop
    simp only [List.mem_toArray, List.mem_cons, List.not_mem_nil, or_false] at he
    rw [ea]
    rcases he with rfl | rfl <;> exact ⟨nofun, nofun⟩
  refine ⟨hT.clean, fun i a ha hm => ?_, by rw [act?_of g1], heard_new hear g1 h.earW, hT.ear0⟩
  obtain ⟨x, hx, hxa⟩ := touch_of ha
  rcases getElem?_append_cases hx with ⟨_, hx'⟩ | ⟨hge, hxu⟩
  · rcases h.known i a (by rw [touchAt_of hx']; exact hxa) hm with y | y | y
    · exact .inl (y.1.app _)
    · exact .inl (y.1.app _)
    · exact .inr ⟨.inr (y.1.hb_new (Nat.le_add_right _ _) g1 rfl), y.2⟩
  · rw [← hu] at hxu
    obtain ⟨e, he, ea, eg⟩ := ops_ev hxu
    refine .inr ⟨?_, (hev e he).2 a (by rw [← ea]; exact hxa) hm⟩
    have hlt := lt_size_of_getElem? hx
    have hsz : u.size = 2 := by rw [← hu, ofEvents_eq, Array.size_map]; rfl
    rw [Array.size_append, hsz] at hlt
    rcases Nat.lt_or_ge i (t.size + 1) with hi | hi
    · exact .inr (hb_po hi hx g1 eg)
    · exact .inl (by omega)
theorem TrC.main {c pc : Nat} (h : TrC c pc F0 FW t) (hd : ∀ b, F0 b → ¬ FW b) {fn : FuncId} {pos : String} {es : Array Event} (hes : ∀ e ∈ es, evF F0 e) : TrC c pc F0 FW (t ++ MemOp.ofEvents 0 fn pos es) := by
  have hpc : pc < t.size := lt_of_act? h.act
  refine ⟨fun said => noRace_append (h.clean said) ofEvents_g fun i a ha op hop b hb hc => ?_, fun i a ha hm => ?_, by rw [act?_old hpc]; exact h.act, (heard_old hpc).2 h.hrd, (deaf_own fun e he => (hes e he).1).trans h.ear0⟩
  · obtain ⟨e, he, ea, _⟩ := ops_ev hop
    have hm : a.loc.isMemory = true := hc.2.1
    have hin : inB F0 b.loc := (hes e he).2 b (by rw [← ea]; exact hb) (by rw [← hc.1]; exact hm)
    rcases h.known i a ha hm with x | x
    · exact x
    · rw [hc.1] at x
      exact (inB_apart hd hin x.2).elim
  · obtain ⟨x, hx, hxa⟩ := touch_of ha
    rcases getElem?_append_cases hx with ⟨_, hx'⟩ | ⟨_, hxu⟩
    · exact (h.known i a (by rw [touchAt_of hx']; exact hxa) hm).imp (·.app _) fun y => ⟨y.1.app _, y.2⟩
    · obtain ⟨e, he, ea, eg⟩ := ops_ev hxu
      have := knows_own hx
      rw [eg] at this
      exact .inl this
theorem TrC.grow {c pc : Nat} {F0' : Nat → Prop} (h : TrC c pc F0 FW t) : TrC c pc F0' FW t := ⟨h.clean, h.known, h.act, h.hrd, h.ear0⟩
theorem noRace_still {said : Bool} {u : Trace} (h : ¬ Race said t) (hu : ∀ op ∈ u, op.act.touch? = none) : ¬ Race said (t ++ u) := by
  rintro ⟨i, j, hij, ⟨a, b, ha, hb, hc⟩, n1, n2⟩
  obtain ⟨x, hx, hxa⟩ := touch_of ha
  obtain ⟨y, hy, hyb⟩ := touch_of hb
  rcases getElem?_append_cases hy with ⟨hj, hy'⟩ | ⟨hj, hyu⟩
  · rcases getElem?_append_cases hx with ⟨hi, hx'⟩ | ⟨_, hxu⟩
    · exact h ⟨i, j, hij, ⟨a, b, by simp [Trace.act?, hx', hxa], by simp [Trace.act?, hy', hyb], hc⟩, fun e => n1 (hb_app u e), fun e => n2 (hb_app u e)⟩
    · rw [hu x hxu] at hxa; cases hxa
  · rw [hu y hyu] at hyb; cases hyb
theorem TrC.still {c pc : Nat} (h : TrC c pc F0 FW t) {u : Trace} (hu : ∀ op ∈ u, op.act.touch? = none) (h0 : Deaf (t ++ u) 0 = 0) : TrC c pc F0 FW (t ++ u) := by
  have hpc : pc < t.size := lt_of_act? h.act
  exact ⟨fun said => noRace_still (h.clean said) hu, fun i a ha hm => (h.known i a (old_touch hu ha) hm).imp (·.app _) fun y => ⟨y.1.app _, y.2⟩, by rw [act?_old hpc]; exact h.act, (heard_old hpc).2 h.hrd, h0⟩
/-- THE CLOSE IS MET: goroutine 0 knows all. -/
theorem TrC.met {c pc : Nat} (h : TrC c pc F0 FW t) (fn : FuncId) (pos : String) : PastU (t ++ #[⟨0, fn, pos, .recvClosed c⟩]) := by
  have hpc : pc < t.size := lt_of_act? h.act
  have hear : NoEar #[⟨0, fn, pos, .recvClosed c⟩] := by
    intro op hop
    simp only [List.mem_toArray, List.mem_cons, List.not_mem_nil, or_false] at hop
    subst hop
    exact ⟨nofun, nofun⟩
  have htou : ∀ op ∈ (#[⟨0, fn, pos, .recvClosed c⟩] : Trace), op.act.touch? = none := by
    intro op hop
    simp only [List.mem_toArray, List.mem_cons, List.not_mem_nil, or_false] at hop
    subst hop
    rfl
  have g0 := get_new (t := t) (u := #[⟨0, fn, pos, .recvClosed c⟩]) (j := 0) (op := ⟨0, fn, pos, .recvClosed c⟩) rfl
  have e1 : HappensBefore (t ++ #[⟨0, fn, pos, .recvClosed c⟩]) pc (t.size + 0) := hb_edge (.closed (c := c) (by rw [act?_old hpc]; exact h.act) (by rw [act?_of g0])) ((heard_old hpc).2 h.hrd) (heard_new hear g0 h.ear0)
  refine pastU_of (fun said => noRace_still (h.clean said) htou) (fun i a ha hm => ?_) ((deaf_app hear 0).trans h.ear0)
  rcases h.known i a (old_touch htou ha) hm with x | x
  · exact x.app _
  · exact ⟨t.size + 0, _, g0, rfl, .inr ((x.1.app _).hb e1)⟩
end
end
end Go.Proofs.YtignemioillaiaaGreat
