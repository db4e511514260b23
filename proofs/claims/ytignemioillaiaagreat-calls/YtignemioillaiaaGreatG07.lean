/- A worker at work while goroutine 0 is on its way to its select, or waits there. -/
import Derived.Test.YtignemioillaiaaGreatG06
namespace Go.Proofs.YtignemioillaiaaGreat
set_option maxHeartbeats 8000000
set_option maxRecDepth 100000
section
open Go Go.Conc
open Go.ConcN (sumTo upd sumTo_upd upd_ne upd_same)
/-- An open channel without a buffer. -/
def ChOpen (w : World) (c k : Nat) : Prop := w.heap[c]? = some (.chan 0 #[] false k k false)
theorem ChOpen.at {w : World} {c k : Nat} (h : ChOpen w c k) (d : Nat) : ChOpen (w.at d) c k := h
/-- What a worker's step keeps: both channels. -/
def DW (pk th : Nat) (w w' : World) (es : Array Event) : Prop := (∀ e ∈ es, okEv e) ∧ ∀ c, c = pk ∨ c = th → ∀ o, o.isChan = true → w.heap[c]? = some o → w'.heap[c]? = some o
theorem DW.of {pk th : Nat} {w w' : World} {es : Array Event} (h : OkEs w w' es) : DW pk th w w' es := ⟨h.1, fun c _ o ho hc => (h.2 c o ho).1 hc⟩
/-- The two cases of the select. -/
def cases2 (pk th : Nat) (z0 z1 : Value) : Array CommCase := #[rcase pk z0, rcase th z1]
section
variable (P : Program) (cs : Array CommCase) (A2 : Goroutine)
/-- It stands at the select. -/
structure AtSel (a : Goroutine) : Prop where
  run : a.status = .running
  fr : a.frame = A2.frame
  cl : a.callers = A2.callers
  dy : a.dying = A2.dying
  com : ∀ w, stepG P true a w = .comm A2 cs true .select w #[]
/-- Within n steps that touch nothing it stands at the select. -/
def QW : Nat → Goroutine → Prop
  | 0, a => AtSel P cs A2 a
  | n + 1, a => AtSel P cs A2 a ∨ (a.status = .running ∧ ∃ a', (∀ w, stepG P true a w = .go a' w #[]) ∧ QW n a')
/-- On its way to the select (n: steps, and one), or parked there (0). -/
def MQ (n : Nat) (a : Goroutine) : Prop := (∃ k, n = k + 1 ∧ QW P cs A2 k a) ∨ (n = 0 ∧ a = parked A2 cs .select)
end
section
variable {P : Program} {pk th : Nat} {z0 z1 : Value} {A2 : Goroutine}
theorem QW.running {cs : Array CommCase} : ∀ {n : Nat} {a : Goroutine}, QW P cs A2 n a → a.status = .running
  | 0, _, h => h.run
  | _ + 1, _, h => h.elim (·.run) (·.1)
theorem QW.cases {cs : Array CommCase} {n : Nat} {a : Goroutine} (h : QW P cs A2 n a) : AtSel P cs A2 a ∨ ∃ k a', n = k + 1 ∧ (∀ w, stepG P true a w = .go a' w #[]) ∧ QW P cs A2 k a' := by
  cases n with
  | zero => exact .inl h
  | succ n => exact h.imp id fun ⟨_, a', h1, h2⟩ => ⟨n, a', rfl, h1, h2⟩
theorem parked_open {w : World} {kp kt : Nat} (h1 : ChOpen w pk kp) (h2 : ChOpen w th kt) : (parked A2 (cases2 pk th z0 z1) .select).again w = parked A2 (cases2 pk th z0 z1) .select := by
  refine again_all_open fun cc hcc => ?_
  simp only [cases2, List.mem_toArray, List.mem_cons, List.not_mem_nil, or_false] at hcc
  rcases hcc with rfl | rfl
  · exact ⟨_, _, _, _, _, _, _, rfl, h1⟩
  · exact ⟨_, _, _, _, _, _, _, rfl, h2⟩
theorem woken_id {x x' g : Goroutine} {w : World} (h : g.again w = g) : woken P x x' w g = g := by
  unfold woken
  split
  · exact h
  · rfl
theorem MQ.woken {w : World} {kp kt n : Nat} {a x x' : Goroutine} (h : MQ P (cases2 pk th z0 z1) A2 n a) (h1 : ChOpen w pk kp) (h2 : ChOpen w th kt) : Go.Conc.woken P x x' w a = a := by
  rcases h with ⟨k, _, h⟩ | ⟨_, rfl⟩
  · exact woken_run h.running
  · exact woken_id (parked_open h1 h2)
theorem MQ.awake {cs : Array CommCase} {n : Nat} {a : Goroutine} (h : MQ P cs A2 n a) : Go.Conc.awake a := by
  rcases h with ⟨k, _, h⟩ | ⟨_, rfl⟩
  · exact awake_of (.inl h.running)
  · exact fun t ht => by cases ht
/-- Nobody offers anything but such as are spoken of. -/
theorem quit_offers {n d : Nat} {g : Goroutine} (h : QuitsD P n d g) (c : Nat) (b : Bool) : offersAt g c b = [] := by
  refine offersAt_of_not_blocked ?_ c b
  rcases h.status with h | h <;> rw [h] <;> exact nofun
theorem parts_nil {Sp : Nat → Prop} {t : Trace} {gs : Array Goroutine} {q : Nat → Nat} (hL : LeaveX Sp P t gs q) {i c : Nat} {b : Bool} (hs : ∀ j g, Sp j → j ≠ i → gs[j]? = some g → offersAt g c b = []) : partners (gs.setIfInBounds i ph) c b = [] := by
  refine partners_nil fun j g hg => ?_
  rcases getElem?_stand gs i j g hg with ⟨_, rfl⟩ | ⟨hne, hg⟩
  · rfl
  · by_cases hj : Sp j
    · exact hs j g hj hne hg
    · exact quit_offers (hL.old j g hj hg) c b
def Two (W : Nat) (i : Nat) : Prop := i = 0 ∨ i = W
/-- The machine while the worker is at work. -/
structure Aid (P : Program) (W pk th : Nat) (z0 z1 : Value) (A2 : Goroutine) (kp kt : Nat) (gs : Array Goroutine) (a b : Goroutine) (w : World) (t : Trace) (q : Nat → Nat) (n : Nat) : Prop where
  g0 : gs[0]? = some a
  gW : gs[W]? = some b
  w0 : W ≠ 0
  lv : LeaveX (Two W) P t gs q
  tr : TrB W (fun _ => False) (fun _ => True) t
  op : ChOpen w pk kp
  ot : ChOpen w th kt
  mq : MQ P (cases2 pk th z0 z1) A2 n a
theorem evF_all {e : Event} (h : okEv e) : evF (fun _ => True) e := ⟨h, fun x _ hm => by cases hl : x.loc <;> rw [hl] at hm <;> first | trivial | cases hm⟩
theorem still_mute {W : Nat} {F0 FW : Nat → Prop} {t : Trace} (h : TrB W F0 FW t) {i : Nat} (h0 : i ≠ 0) (hW : i ≠ W) {fn : FuncId} {pos : String} {es : Array Event} (hm : ∀ e ∈ es, Event.mute e = true) : TrB W F0 FW (t ++ MemOp.ofEvents i fn pos es) :=
  h.still (fun op hop => by obtain ⟨e, he, ea, _⟩ := ops_ev hop; rw [ea]; exact touch_mute (hm e he)) ((Deaf_other t h0 _ ofEvents_g).trans h.ear0) ((Deaf_other t hW _ ofEvents_g).trans h.earW)
/-- One move of a machine in which the worker runs: the worker's; or another's, and all is as it was. -/
theorem Aid.move {W kp kt : Nat} {gs : Array Goroutine} {a b : Goroutine} {w : World} {t : Trace} {q : Nat → Nat} {n : Nat} (h : Aid P W pk th z0 z1 A2 kp kt gs a b w t q n) (hb : b.status = .running) (sl : Option (Nat × Nat)) :
    (∃ d sl', stepT P (crowd gs w sl) = runT P (crowd gs (w.at d) sl') W) ∨
    ∃ d sl' gs' a' ops q' n', stepT P (crowd gs w sl) = (.next (crowd gs' (w.at d) sl'), ops) ∧ gs'.size = gs.size ∧ Aid P W pk th z0 z1 A2 kp kt gs' a' b (w.at d) (t ++ ops) q' n' ∧ n' + sumTo gs.size q' < n + sumTo gs.size q := by
  have haw := h.lv.awake fun i g hi hg => by
    rcases hi with rfl | rfl
    · rw [h.g0] at hg; cases hg; exact h.mq.awake
    · rw [h.gW] at hg; cases hg; exact awake_of (.inl hb)
  obtain ⟨i, g, d, sl', hi, hg, hst⟩ := crowd_pick (P := P) (w := w) (sl := sl) haw ⟨W, b, h.gW, hb⟩
  by_cases hiW : i = W
  · subst hiW
    exact .inl ⟨d, sl', hst⟩
  refine .inr ?_
  have hlt : 0 < gs.size := (Array.getElem?_eq_some_iff.1 h.g0).1
  by_cases hi0 : i = 0
  · subst hi0
    obtain rfl : g = a := by have := h.g0; rw [hi] at this; exact Option.some.inj this
    rcases h.mq with ⟨k, rfl, hk⟩ | ⟨_, rfl⟩
    · rcases hk.cases with hs | ⟨k', a', rfl, hgo, hk'⟩
      · -- it comes to the select, and waits
        have hno : ∀ cc ∈ cases2 pk th z0 z1, NoWays (w.at d) (gs.setIfInBounds 0 ph) cc := by
          have hp : ∀ c, partners (gs.setIfInBounds 0 ph) c true = [] := fun c => parts_nil h.lv fun j x hj hne hx => by
            rcases hj with rfl | rfl
            · exact absurd rfl hne
            · rw [h.gW] at hx; cases hx
              exact offersAt_of_not_blocked (by rw [hb]; exact nofun) c true
          intro cc hcc
          simp only [cases2, List.mem_toArray, List.mem_cons, List.not_mem_nil, or_false] at hcc
          rcases hcc with rfl | rfl
          · exact ways_recv_none (h.op.at d) (hp pk)
          · exact ways_recv_none (h.ot.at d) (hp th)
        have hr := crowd_waits (P := P) (sl := sl') (i := 0) hi (show stepG P (0 == 0) g (w.at d) = _ from hs.com (w.at d)) hno
        refine ⟨d, sl', _, parked A2 (cases2 pk th z0 z1) .select, _, q, 0, hst.trans hr, by simp, ?_, by omega⟩
        have hops : (MemOp.ofEvents 0 g.frame.fn g.frame.place #[] : Trace) = #[] := rfl
        rw [hops, Array.append_empty]
        refine ⟨?_, ?_, h.w0, ⟨fun j x hj hx => ?_, fun j hj => h.lv.above j (by simpa using hj)⟩, h.tr, h.op.at d, h.ot.at d, .inr ⟨rfl, rfl⟩⟩
        · rw [Array.getElem?_setIfInBounds_self_of_lt hlt]
        · rw [Array.getElem?_setIfInBounds_ne (Ne.symm h.w0)]; exact h.gW
        · rw [Array.getElem?_setIfInBounds_ne (fun e => hj (.inl e.symm))] at hx
          exact h.lv.old j x hj hx
      · have hr := runT_crowd_go (P := P) (sl := sl') (i := 0) hi (show stepG P (0 == 0) g (w.at d) = _ from hgo (w.at d))
        refine ⟨d, sl', _, a', _, q, k' + 1, hst.trans hr, by simp, ?_, by omega⟩
        refine ⟨get_own hlt, by rw [get_other (Ne.symm h.w0) h.gW, woken_run hb], h.w0, h.lv.party (.inl rfl) hlt ofEvents_g, ?_, h.op.at d, h.ot.at d, .inl ⟨k', rfl, hk'⟩⟩
        have hops : (MemOp.ofEvents 0 g.frame.fn g.frame.place #[] : Trace) = #[] := rfl
        rw [hops, Array.append_empty]
        exact h.tr
    · cases hg
  · have hsp : ¬ Two W i := fun hx => hx.elim hi0 hiW
    obtain ⟨g', es, q', hm, hrT, hL', hlt'⟩ := h.lv.slip (w := w.at d) hi hsp hi0 hg sl'
    refine ⟨d, sl', _, a, _, q', n, hst.trans hrT, by simp, ?_, by omega⟩
    exact ⟨by rw [get_other hi0 h.g0, h.mq.woken (h.op.at d) (h.ot.at d)], by rw [get_other hiW h.gW, woken_run hb], h.w0, hL', still_mute h.tr hi0 hiW hm, h.op.at d, h.ot.at d, h.mq⟩
/-- THE WORKER's WORK. -/
theorem work {W kp kt : Nat} {StopW : Goroutine → World → Prop} {b : Goroutine} {w : World} (hw : GoesU P false AtRel (DW pk th) StopW b w) :
    ∀ {gs : Array Goroutine} {a : Goroutine} {sl : Option (Nat × Nat)} {t : Trace} {q : Nat → Nat} {n : Nat}, Aid P W pk th z0 z1 A2 kp kt gs a b w t q n →
      Reaches P (fun m t' => ∃ gs' a' b' w' sl' q' n', m = crowd gs' w' sl' ∧ gs'.size = gs.size ∧ Aid P W pk th z0 z1 A2 kp kt gs' a' b' w' t' q' n' ∧ StopW b' w') (crowd gs w sl) t := by
  refine hw (fun b w => ∀ {gs : Array Goroutine} {a : Goroutine} {sl : Option (Nat × Nat)} {t : Trace} {q : Nat → Nat} {n : Nat}, Aid P W pk th z0 z1 A2 kp kt gs a b w t q n → Reaches P (fun m t' => ∃ gs' a' b' w' sl' q' n', m = crowd gs' w' sl' ∧ gs'.size = gs.size ∧ Aid P W pk th z0 z1 A2 kp kt gs' a' b' w' t' q' n' ∧ StopW b' w') (crowd gs w sl) t) ?_ ?_
  · intro b w hs gs a sl t q n h
    exact .here ⟨gs, a, b, w, sl, q, n, rfl, rfl, h, hs w (atRel_refl w)⟩
  · intro b w hrun hstep gs a sl t q n
    suffices H : ∀ M w gs a sl t q n, n + sumTo gs.size q ≤ M → (∀ w₁, AtRel w w₁ → (stepG P false b w₁).goes fun g' w' es => DW pk th w₁ w' es ∧ ∀ {gs : Array Goroutine} {a : Goroutine} {sl : Option (Nat × Nat)} {t : Trace} {q : Nat → Nat} {n : Nat}, Aid P W pk th z0 z1 A2 kp kt gs a g' w' t q n → Reaches P (fun m t' => ∃ gs' a' b' w' sl' q' n', m = crowd gs' w' sl' ∧ gs'.size = gs.size ∧ Aid P W pk th z0 z1 A2 kp kt gs' a' b' w' t' q' n' ∧ StopW b' w') (crowd gs w' sl) t) →
        Aid P W pk th z0 z1 A2 kp kt gs a b w t q n → Reaches P (fun m t' => ∃ gs' a' b' w' sl' q' n', m = crowd gs' w' sl' ∧ gs'.size = gs.size ∧ Aid P W pk th z0 z1 A2 kp kt gs' a' b' w' t' q' n' ∧ StopW b' w') (crowd gs w sl) t from H _ w gs a sl t q n (Nat.le_refl _) hstep
    intro M
    induction M using Nat.strongRecOn with
    | ind M ih =>
      intro w gs a sl t q n hM hstep h
      rcases h.move hrun sl with ⟨d, sl', hst⟩ | ⟨d, sl', gs', a', ops, q', n', hst, hsz, h', hlt⟩
      · have hs := hstep (w.at d) ⟨d, rfl⟩
        have hltW : W < gs.size := (Array.getElem?_eq_some_iff.1 h.gW).1
        cases hgo : stepG P false b (w.at d) with
        | go b' w' es =>
          rw [hgo, goes_go] at hs
          obtain ⟨⟨hev, hch⟩, hnext⟩ := hs
          have hr := runT_crowd_go (P := P) (sl := sl') (i := W) h.gW (show stepG P (W == 0) b (w.at d) = _ by rw [show (W == 0) = false by simpa using h.w0]; exact hgo)
          refine Reaches.step (hst.trans hr) ?_
          have op' : ChOpen w' pk kp := hch pk (.inl rfl) _ rfl (h.op.at d)
          have ot' : ChOpen w' th kt := hch th (.inr rfl) _ rfl (h.ot.at d)
          have hA : Aid P W pk th z0 z1 A2 kp kt ((gs.map (woken P b b' w')).setIfInBounds W b') a b' w' (t ++ MemOp.ofEvents W b.frame.fn b.frame.place es) q n :=
            ⟨by rw [get_other h.w0 h.g0, h.mq.woken op' ot'], get_own hltW, h.w0, h.lv.party (.inr rfl) hltW ofEvents_g, h.tr.work h.w0 (fun _ hx => hx.elim) fun e he => evF_all (hev e he), op', ot', h.mq⟩
          have := hnext (sl := sl') hA
          simpa using this
        | _ => rw [hgo] at hs; exact hs.elim
      · refine Reaches.step hst ?_
        have := ih (n' + sumTo gs'.size q') (by rw [hsz]; omega) (w.at d) gs' a' sl' _ q' n' (Nat.le_refl _) (fun w₁ h1 => hstep w₁ (atRel_trans _ _ _ ⟨d, rfl⟩ h1)) h'
        rwa [hsz] at this
end
/-- What others may do to the world of one who owns F. -/
structure RelF (F : Nat → Prop) (w w1 : World) : Prop where
  size : w.heap.size ≤ w1.heap.size
  own : ∀ b, F b → w1.heap[b]? = w.heap[b]?
  os : w1.os = w.os
  out : w1.output = w.output
def Grow (F : Nat → Prop) (w w' : World) (b : Nat) : Prop := F b ∨ (w.heap.size ≤ b ∧ b < w'.heap.size)
/-- What one who owns F may do. -/
structure GuarF (F : Nat → Prop) (w w' : World) (es : Array Event) : Prop where
  size : w.heap.size ≤ w'.heap.size
  rest : ∀ b, b < w.heap.size → ¬ F b → w'.heap[b]? = w.heap[b]?
  os : w'.os = w.os
  out : w'.output = w.output
  evs : ∀ e ∈ es, evF (Grow F w w') e
theorem RelF.refl (F : Nat → Prop) (w : World) : RelF F w w := ⟨Nat.le_refl _, fun _ _ => rfl, rfl, rfl⟩
theorem RelF.trans {F : Nat → Prop} {a b c : World} (h : RelF F a b) (k : RelF F b c) : RelF F a c := ⟨Nat.le_trans h.size k.size, fun x hx => (k.own x hx).trans (h.own x hx), k.os.trans h.os, k.out.trans h.out⟩
theorem RelF.at (F : Nat → Prop) (w : World) (d : Nat) : RelF F w (w.at d) := ⟨Nat.le_refl _, fun _ _ => rfl, rfl, rfl⟩
section
variable (P : Program) (main : Bool) (Stop : (Nat → Prop) → Goroutine → World → Prop)
/-- The walk of one who owns F, with no bound of steps. -/
def GoesF (F : Nat → Prop) (g : Goroutine) (w : World) : Prop := ∀ X : (Nat → Prop) → Goroutine → World → Prop,
  (∀ F g w, (∀ w1, RelF F w w1 → Stop F g w1) → X F g w) →
  (∀ F g w, g.status = .running → (∀ w1, RelF F w w1 → (stepG P main g w1).goes fun g' w' es => GuarF F w1 w' es ∧ X (Grow F w1 w') g' w') → X F g w) → X F g w
end
section
variable {P : Program} {main : Bool} {Stop : (Nat → Prop) → Goroutine → World → Prop} {F : Nat → Prop} {g : Goroutine} {w : World}
theorem GoesF.stop (h : ∀ w1, RelF F w w1 → Stop F g w1) : GoesF P main Stop F g w := fun _ h1 _ => h1 F g w h
theorem GoesF.step (hr : g.status = .running) (h : ∀ w1, RelF F w w1 → (stepG P main g w1).goes fun g' w' es => GuarF F w1 w' es ∧ GoesF P main Stop (Grow F w1 w') g' w') : GoesF P main Stop F g w :=
  fun X h1 h2 => h2 F g w hr fun w1 hw => goes_mono (h w1 hw) fun _ _ _ hx => ⟨hx.1, hx.2 X h1 h2⟩
/-- The induction that keeps the walk. -/
theorem GoesF.induct {X : (Nat → Prop) → Goroutine → World → Prop} (h : GoesF P main Stop F g w) (h1 : ∀ F g w, (∀ w1, RelF F w w1 → Stop F g w1) → X F g w)
    (h2 : ∀ F g w, g.status = .running → (∀ w1, RelF F w w1 → (stepG P main g w1).goes fun g' w' es => GuarF F w1 w' es ∧ GoesF P main Stop (Grow F w1 w') g' w' ∧ X (Grow F w1 w') g' w') → X F g w) : X F g w := by
  refine (h (fun F g w => GoesF P main Stop F g w ∧ X F g w) (fun F g w hs => ⟨.stop hs, h1 F g w hs⟩) fun F g w hr hs => ⟨.step hr fun w1 hw => goes_mono (hs w1 hw) fun _ _ _ hx => ⟨hx.1, hx.2.1⟩, h2 F g w hr hs⟩).2
theorem GoesF.cases (h : GoesF P main Stop F g w) : (∀ w1, RelF F w w1 → Stop F g w1) ∨ (g.status = .running ∧ ∀ w1, RelF F w w1 → (stepG P main g w1).goes fun g' w' es => GuarF F w1 w' es ∧ GoesF P main Stop (Grow F w1 w') g' w') :=
  h.induct (X := fun F g w => (∀ w1, RelF F w w1 → Stop F g w1) ∨ (g.status = .running ∧ ∀ w1, RelF F w w1 → (stepG P main g w1).goes fun g' w' es => GuarF F w1 w' es ∧ GoesF P main Stop (Grow F w1 w') g' w')) (fun _ _ _ h => .inl h) fun _ _ _ hr h => .inr ⟨hr, fun w1 hw => goes_mono (h w1 hw) fun _ _ _ hx => ⟨hx.1, hx.2.1⟩⟩
theorem GoesF.rely {w1 : World} (h : GoesF P main Stop F g w) (hw : RelF F w w1) : GoesF P main Stop F g w1 := by
  rcases h.cases with h | ⟨hr, h⟩
  · exact .stop fun w2 h2 => h w2 (hw.trans h2)
  · exact .step hr fun w2 h2 => h w2 (hw.trans h2)
end
/-- What never changes in a duet: its channels, the blocks that nobody touches. -/
structure Score where
  W : Nat
  pk : Nat
  th : Nat
  z0 : Value
  z1 : Value
  size : Nat
  ns : Nat
  own0 : Nat → Prop
  ownW : Nat → Prop
  rest : Nat → Option Obj
  os : Os
  out : Array (Nat × ByteArray)
/-- The machine of a duet. clo: the end has been closed. -/
structure Dua (P : Program) (s : Score) (kp kt : Nat) (clo : Bool) (F0 FW : Nat → Prop) (gs : Array Goroutine) (a b : Goroutine) (w : World) : Prop where
  g0 : gs[0]? = some a
  gW : gs[s.W]? = some b
  w0 : s.W ≠ 0
  sz : gs.size = s.size
  apart : ∀ x, F0 x → ¬ FW x
  in0 : ∀ x, F0 x → x < w.heap.size
  inW : ∀ x, FW x → x < w.heap.size
  op : ChOpen w s.pk kp
  ot : w.heap[s.th]? = some (.chan 0 #[] clo kt kt false)
  not0 : ¬ F0 s.pk ∧ ¬ F0 s.th
  notW : ¬ FW s.pk ∧ ¬ FW s.th
  pt : s.pk ≠ s.th
  old0 : ∀ x, x < s.ns → F0 x → s.own0 x
  oldW : ∀ x, x < s.ns → FW x → s.ownW x
  big : s.ns ≤ w.heap.size
  rst : ∀ x, x < s.ns → ¬ s.own0 x → ¬ s.ownW x → x ≠ s.pk → x ≠ s.th → w.heap[x]? = s.rest x
  oso : w.os = s.os
  outo : w.output = s.out
section
variable {P : Program} {s : Score} {kp kt : Nat} {clo : Bool} {F0 FW : Nat → Prop} {gs : Array Goroutine} {a b : Goroutine} {w : World}
theorem lt_heap {w : World} {x : Nat} {o : Obj} (h : w.heap[x]? = some o) : x < w.heap.size := (Array.getElem?_eq_some_iff.1 h).1
/-- A step of goroutine 0. -/
theorem Dua.main (h : Dua P s kp kt clo F0 FW gs a b w) {gs' : Array Goroutine} {a' b' : Goroutine} {w' : World} {es : Array Event} (hg : GuarF F0 w w' es) (h0 : gs'[0]? = some a') (hW : gs'[s.W]? = some b') (hsz : gs'.size = gs.size) :
    Dua P s kp kt clo (Grow F0 w w') FW gs' a' b' w' ∧ RelF FW w w' := by
  have hne : ∀ x, x < w.heap.size → ¬ F0 x → w'.heap[x]? = w.heap[x]? := hg.rest
  refine ⟨⟨h0, hW, h.w0, hsz.trans h.sz, ?_, ?_, fun x hx => Nat.lt_of_lt_of_le (h.inW x hx) hg.size, ?_, ?_, ?_, h.notW, h.pt, ?_, h.oldW, Nat.le_trans h.big hg.size, ?_, hg.os.trans h.oso, hg.out.trans h.outo⟩, ⟨hg.size, fun x hx => hne x (h.inW x hx) fun h0 => h.apart x h0 hx, hg.os, hg.out⟩⟩
  · rintro x (hx | hx) hx'
    · exact h.apart x hx hx'
    · have := h.inW x hx'; omega
  · rintro x (hx | hx)
    · exact Nat.lt_of_lt_of_le (h.in0 x hx) hg.size
    · exact hx.2
  · exact (hne _ (lt_heap h.op) h.not0.1).trans h.op
  · exact (hne _ (lt_heap h.ot) h.not0.2).trans h.ot
  · refine ⟨?_, ?_⟩
    · rintro (hx | hx)
      · exact h.not0.1 hx
      · have := lt_heap h.op; omega
    · rintro (hx | hx)
      · exact h.not0.2 hx
      · have := lt_heap h.ot; omega
  · rintro x hx (hy | hy)
    · exact h.old0 x hx hy
    · have := h.big; omega
  · intro x hx ho hoW h1 h2
    rw [hne x (Nat.lt_of_lt_of_le hx h.big) fun hf => ho (h.old0 x hx hf)]
    exact h.rst x hx ho hoW h1 h2
/-- A step of the worker. -/
theorem Dua.work (h : Dua P s kp kt clo F0 FW gs a b w) {gs' : Array Goroutine} {a' b' : Goroutine} {w' : World} {es : Array Event} (hg : GuarF FW w w' es) (h0 : gs'[0]? = some a') (hW : gs'[s.W]? = some b') (hsz : gs'.size = gs.size) :
    Dua P s kp kt clo F0 (Grow FW w w') gs' a' b' w' ∧ RelF F0 w w' := by
  have hne : ∀ x, x < w.heap.size → ¬ FW x → w'.heap[x]? = w.heap[x]? := hg.rest
  refine ⟨⟨h0, hW, h.w0, hsz.trans h.sz, ?_, fun x hx => Nat.lt_of_lt_of_le (h.in0 x hx) hg.size, ?_, ?_, ?_, h.not0, ?_, h.pt, h.old0, ?_, Nat.le_trans h.big hg.size, ?_, hg.os.trans h.oso, hg.out.trans h.outo⟩, ⟨hg.size, fun x hx => hne x (h.in0 x hx) fun h0 => h.apart x hx h0, hg.os, hg.out⟩⟩
  · rintro x hx (hx' | hx')
    · exact h.apart x hx hx'
    · have := h.in0 x hx; omega
  · rintro x (hx | hx)
    · exact Nat.lt_of_lt_of_le (h.inW x hx) hg.size
    · exact hx.2
  · exact (hne _ (lt_heap h.op) h.notW.1).trans h.op
  · exact (hne _ (lt_heap h.ot) h.notW.2).trans h.ot
  · refine ⟨?_, ?_⟩
    · rintro (hx | hx)
      · exact h.notW.1 hx
      · have := lt_heap h.op; omega
    · rintro (hx | hx)
      · exact h.notW.2 hx
      · have := lt_heap h.ot; omega
  · rintro x hx (hy | hy)
    · exact h.oldW x hx hy
    · have := h.big; omega
  · intro x hx ho hoW h1 h2
    rw [hne x (Nat.lt_of_lt_of_le hx h.big) fun hf => hoW (h.oldW x hx hf)]
    exact h.rst x hx ho hoW h1 h2
/-- A channel's object is changed: nobody's blocks are. -/
theorem Dua.chan (h : Dua P s kp kt clo F0 FW gs a b w) {c : Nat} (hc : c = s.pk ∨ c = s.th) {o : Obj} {kp' kt' : Nat} {clo' : Bool} {gs' : Array Goroutine} {a' b' : Goroutine} (h0 : gs'[0]? = some a') (hW : gs'[s.W]? = some b') (hsz : gs'.size = gs.size)
    (ho1 : ChOpen { w with heap := w.heap.setIfInBounds c o } s.pk kp') (ho2 : (w.heap.setIfInBounds c o)[s.th]? = some (.chan 0 #[] clo' kt' kt' false)) :
    Dua P s kp' kt' clo' F0 FW gs' a' b' { w with heap := w.heap.setIfInBounds c o } ∧ RelF F0 w { w with heap := w.heap.setIfInBounds c o } ∧ RelF FW w { w with heap := w.heap.setIfInBounds c o } := by
  have hs : ({ w with heap := w.heap.setIfInBounds c o } : World).heap.size = w.heap.size := by simp
  have hne : ∀ x, x ≠ c → (w.heap.setIfInBounds c o)[x]? = w.heap[x]? := fun x hx => Array.getElem?_setIfInBounds_ne (Ne.symm hx)
  have hF0 : ∀ x, F0 x → x ≠ c := fun x hx e => by
    subst e
    rcases hc with hc | hc
    · exact h.not0.1 (hc ▸ hx)
    · exact h.not0.2 (hc ▸ hx)
  have hFW : ∀ x, FW x → x ≠ c := fun x hx e => by
    subst e
    rcases hc with hc | hc
    · exact h.notW.1 (hc ▸ hx)
    · exact h.notW.2 (hc ▸ hx)
  refine ⟨⟨h0, hW, h.w0, hsz.trans h.sz, h.apart, fun x hx => by rw [hs]; exact h.in0 x hx, fun x hx => by rw [hs]; exact h.inW x hx, ho1, ho2, h.not0, h.notW, h.pt, h.old0, h.oldW, by rw [hs]; exact h.big, fun x hx hy hyW h1 h2 => ?_, h.oso, h.outo⟩,
    ⟨Nat.le_of_eq hs.symm, fun x hx => hne x (hF0 x hx), rfl, rfl⟩, ⟨Nat.le_of_eq hs.symm, fun x hx => hne x (hFW x hx), rfl, rfl⟩⟩
  show (w.heap.setIfInBounds c o)[x]? = _
  rw [hne x (by rcases hc with rfl | rfl <;> assumption)]
  exact h.rst x hx hy hyW h1 h2
theorem Dua.at (h : Dua P s kp kt clo F0 FW gs a b w) (d : Nat) {gs' : Array Goroutine} {a' b' : Goroutine} (h0 : gs'[0]? = some a') (hW : gs'[s.W]? = some b') (hsz : gs'.size = gs.size) : Dua P s kp kt clo F0 FW gs' a' b' (w.at d) :=
  ⟨h0, hW, h.w0, hsz.trans h.sz, h.apart, h.in0, h.inW, h.op, h.ot, h.not0, h.notW, h.pt, h.old0, h.oldW, h.big, h.rst, h.oso, h.outo⟩
/-- WHO MOVES: goroutine 0, the worker, or one who leaves: then all is as it was. -/
theorem Dua.pick (h : Dua P s kp kt clo F0 FW gs a b w) {t : Trace} {q : Nat → Nat} (hL : LeaveX (Two s.W) P t gs q) (ha : awake a) (hb : awake b) (hr : a.status = .running ∨ b.status = .running) (ka : ∀ d, a.again (w.at d) = a) (kb : ∀ d, b.again (w.at d) = b) (sl : Option (Nat × Nat)) :
    (∃ d sl', a.status = .running ∧ stepT P (crowd gs w sl) = runT P (crowd gs (w.at d) sl') 0) ∨ (∃ d sl', b.status = .running ∧ stepT P (crowd gs w sl) = runT P (crowd gs (w.at d) sl') s.W) ∨
    ∃ d sl' gs' q' i fn pos es, i ≠ 0 ∧ i ≠ s.W ∧ (∀ e ∈ es, Event.mute e = true) ∧ stepT P (crowd gs w sl) = (.next (crowd gs' (w.at d) sl'), MemOp.ofEvents i fn pos es) ∧ Dua P s kp kt clo F0 FW gs' a b (w.at d) ∧ LeaveX (Two s.W) P (t ++ MemOp.ofEvents i fn pos es) gs' q' ∧ sumTo s.size q' < sumTo s.size q := by
  have haw := hL.awake fun i g hi hg => by
    rcases hi with rfl | rfl
    · rw [h.g0] at hg; cases hg; exact ha
    · rw [h.gW] at hg; cases hg; exact hb
  obtain ⟨i, g, d, sl', hi, hg, hst⟩ := crowd_pick (P := P) (w := w) (sl := sl) haw (by
    rcases hr with hr | hr
    · exact ⟨0, a, h.g0, hr⟩
    · exact ⟨s.W, b, h.gW, hr⟩)
  by_cases hi0 : i = 0
  · subst hi0
    rw [h.g0] at hi
    cases hi
    exact .inl ⟨d, sl', hg, hst⟩
  by_cases hiW : i = s.W
  · subst hiW
    rw [h.gW] at hi
    cases hi
    exact .inr (.inl ⟨d, sl', hg, hst⟩)
  obtain ⟨g', es, q', hm, hrT, hL', hlt'⟩ := hL.slip (w := w.at d) hi (fun hx => hx.elim hi0 hiW) hi0 hg sl'
  rw [h.sz] at hlt'
  exact .inr (.inr ⟨d, sl', _, q', i, _, _, es, hi0, hiW, hm, hst.trans hrT, h.at d (by rw [get_other hi0 h.g0, woken_id (ka d)]) (by rw [get_other hiW h.gW, woken_id (kb d)]) (by simp), hL', hlt'⟩)
end
end
end Go.Proofs.YtignemioillaiaaGreat
