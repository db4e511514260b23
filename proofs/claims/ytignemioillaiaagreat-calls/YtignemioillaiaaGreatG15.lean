/- The loop of step; what is asked of its two parts. -/
import Derived.Test.YtignemioillaiaaGreatG14
namespace Go.Proofs.YtignemioillaiaaGreat
set_option maxHeartbeats 8000000
set_option maxRecDepth 100000
section
open Go Go.Conc
noncomputable def SMp (bc : Nat) (gv r wk : Value) (pk th : Nat) (q0 : List Pkt) (cs : List Frame) (acc : List Value) (F : Nat → Prop) (a : Goroutine) (w : World) : Prop :=
  ∃ ps : List Pkt, acc = ps.map Pkt.val ∧ ∃ sv x8 x17 x18 x19 x20 x21 x22 x23 x24, a = A59 (.pointer (some ⟨bc, 0, none⟩)) r wk pk th x8 x17 x18 x19 x20 x21 x22 x23 x24 cs ∧ F bc ∧ w.heap[bc]? = some (.cells #[gv, sv] 131) ∧
    w.ownsRow 0 139 5 sv ((q0 ++ ps).take 20000).length (flat ((q0 ++ ps).take 20000)) ∧ (∀ g, sv.ownBlock = some g → F g) ∧ ∀ x, F x → x < w.heap.size
section
variable {bc : Nat} {gv r wk : Value} {pk th : Nat} {q0 : List Pkt} {cs : List Frame}
theorem SMp.rely {acc : List Value} {F : Nat → Prop} {a : Goroutine} {w w1 : World} (h : SMp bc gv r wk pk th q0 cs acc F a w) (hr : RelF F w w1) : SMp bc gv r wk pk th q0 cs acc F a w1 := by
  obtain ⟨ps, e, sv, x8, x17, x18, x19, x20, x21, x22, x23, x24, h1, h2, h3, h4, h5, h6⟩ := h
  exact ⟨ps, e, sv, x8, x17, x18, x19, x20, x21, x22, x23, x24, h1, h2, (hr.own _ h2).trans h3, owns_rely h4 fun g hg => hr.own g (h5 g hg), h5, fun x hx => Nat.lt_of_lt_of_le (h6 x hx) hr.size⟩
theorem finish59 (c r wk : Value) (pk th : Nat) (x8 x17 x18 x19 x20 x21 x22 x23 x24 : Value) (cs : List Frame) (i : Int) (v : Value) (ok : Bool) : (A59 c r wk pk th x8 x17 x18 x19 x20 x21 x22 x23 x24 cs).finishComm Tryz.prog (cases2 pk th z59 y59) .select i v ok =
    G ((Go.Conc.base 59).at ⟨tm59 c r wk pk th x8 (commResult (cases2 pk th z59 y59) .select i v ok) x18 x19 x20 x21 x22 x23 x24, []⟩ (.inRegion R59 [1, 2, 3] :: K59)) cs := by
  show G (((Go.Conc.base 59).at ⟨tm59 c r wk pk th x8 x17 x18 x19 x20 x21 x22 x23 x24, []⟩ (.inRegion R59 [0, 1, 2, 3] :: K59)).finish (commResult (cases2 pk th z59 y59) .select i v ok)) cs = _
  rw [Frame.finish_at]
  have : (R59[0]?).bind (·.dst) = some 17 := by
    unfold R59
    simp only [B59, L59, c59, Tryz.f59, cl, cr, cb, co, Option.getD]
    rfl
  rw [this]
  rfl
theorem comm0 (v : Value) : commResult (cases2 pk th z59 y59) .select 0 v true = .tuple #[.int .i64 0, .bool true, v, y59] := by
  simp [commResult, cases2, rcase, goInt]
theorem comm1 (v : Value) : commResult (cases2 pk th z59 y59) .select 1 v false = .tuple #[.int .i64 1, .bool false, z59, v] := by
  simp [commResult, cases2, rcase, goInt]
/-- From one packet to the next select. -/
theorem sel_next {acc : List Value} {F : Nat → Prop} {a : Goroutine} {w : World} (h : SMp bc gv r wk pk th q0 cs acc F a w) (hq : q0.length ≤ 20000) :
    ∃ A2, AtSel Tryz.prog (cases2 pk th z59 y59) A2 a ∧ ∀ v, (∃ p : Pkt, v = p.val) → GoesF Tryz.prog true (SMp bc gv r wk pk th q0 cs (acc ++ [v])) F (A2.finishComm Tryz.prog (cases2 pk th z59 y59) .select 0 v true) w := by
  obtain ⟨ps, rfl, sv, x8, x17, x18, x19, x20, x21, x22, x23, x24, rfl, g2, h3, h4, h5, h6⟩ := h
  refine ⟨_, atSel59 _ _ _ _ _ _ _ _ _ _ _ _ _ _ _, ?_⟩
  rintro _ ⟨p, rfl⟩
  rw [finish59, comm0]
  have hend : ∀ (F' : Nat → Prop) (w' : World) (sv' y8 y17 y18 y19 y20 y21 y22 y23 y24 : Value), F' bc → (∀ x, F' x → x < w'.heap.size) → w'.heap[bc]? = some (.cells #[gv, sv'] 131) → w'.ownsRow 0 139 5 sv' ((q0 ++ (ps ++ [p])).take 20000).length (flat ((q0 ++ (ps ++ [p])).take 20000)) → (∀ g, sv'.ownBlock = some g → F' g) →
      GoesF Tryz.prog true (SMp bc gv r wk pk th q0 cs (ps.map Pkt.val ++ [p.val])) F' (A59 (.pointer (some ⟨bc, 0, none⟩)) r wk pk th y8 y17 y18 y19 y20 y21 y22 y23 y24 cs) w' := by
    intro F' w' sv' y8 y17 y18 y19 y20 y21 y22 y23 y24 k1 k2 k3 k4 k5
    refine GoesF.stop fun w1 h1 => SMp.rely ?_ h1
    exact ⟨ps ++ [p], by simp, sv', y8, y17, y18, y19, y20, y21, y22, y23, y24, rfl, k1, k3, k4, k5, k2⟩
  unfold A59 tm59 R59 K59 at hend
  unfold tm59 R59 K59
  simp only [B59, L59, c59, Tryz.f59, cl, cr, cb, co, Option.getD] at hend ⊢
  refine Ctl.quiet goesF_c rfl rfl (by decide) _ (fun _ => by go_simp <;> rfl) (fun _ => by simp [go_sem, *]) ?_
  simp [Act.put]
  refine Ctl.quiet goesF_c rfl rfl (by decide) _ (fun _ => by go_simp <;> rfl) (fun _ => by simp [go_sem, *]) ?_
  simp [Act.put]
  refine Ctl.quiet goesF_c rfl rfl (by decide) _ (fun _ => by go_simp <;> rfl) (fun _ => by simp [go_sem, *]) ?_
  simp [Act.put]
  refine Ctl.regionEnd goesF_c ?_
  refine Ctl.block goesF_c ?_
  refine Ctl.cond goesF_c true rfl ?_
  simp only [if_true]
  refine Ctl.seq goesF_c ?_
  refine Ctl.region goesF_c _ rfl ?_
  simp [List.range, List.range.loop]
  refine Ctl.quiet goesF_c rfl rfl (by decide) _ (fun _ => by go_simp <;> rfl) (fun _ => by simp [go_sem, *]) ?_
  simp [Act.put]
  refine GoesF.makeK rfl rfl (by decide) (ob := .cells #[.int .u8 0, .int .u8 0, .int .u8 0, .int .u8 0, .string ⟨#[]⟩] 139) (v := fun n => .pointer (some ⟨n, 0, none⟩)) (fun w1 => by simp [go_sem]) (fun w1 => by go_simp) h6 (fun w1 h1 => ?_)
  simp [Act.put]
  refine GoesF.storeS rfl rfl (by decide) 139 rfl rfl (v := .agg p.cells.toArray) rfl (.inr rfl) (B := w1.heap.size) (xs := #[.int .u8 0, .int .u8 0, .int .u8 0, .int .u8 0, .string ⟨#[]⟩]) (t := 139) (alloc_new w1 _) (by kernel_rfl) rfl (Nat.le_refl 5) p.cells rfl (fun w2 w3 h2 hb3 hne3 hsz3 hos3 hou3 => ?_)
  simp [Act.put]
  have hs2 : w1.heap.size + 1 ≤ w2.heap.size := by rw [← alloc_size]; exact h2.size
  have hold : ∀ x, F x → w3.heap[x]? = w.heap[x]? := fun x hx => by
    have hx1 : x < w1.heap.size := Nat.lt_of_lt_of_le (h6 x hx) h1.size
    rw [hne3 x (by omega), h2.own x (.inl hx), ← h1.own x hx, alloc_old hx1]
  refine Ctl.regionEnd goesF_c ?_
  refine Ctl.region goesF_c _ rfl ?_
  simp [List.range, List.range.loop]
  refine Ctl.quiet goesF_c rfl rfl (by decide) _ (fun _ => by go_simp <;> rfl) (fun _ => by simp [go_sem, *]) ?_
  simp [Act.put]
  refine GoesF.loadS rfl rfl (by decide) 139 rfl rfl (.inr rfl) hb3 Tryz.underlying139 rfl (n := 5) (by kernel_rfl) (Nat.le_refl 5) p.cells rfl ?_
  simp [Act.put]
  refine Ctl.call goesF_c rfl rfl (by decide) rfl Tryz.func63 (by kernel_rfl) (by rw [body63]; rfl) ?_
  simp [Act.eval]
  have hin3 : ∀ x, (F x ∨ x = w1.heap.size) → x < w3.heap.size := fun x hx => by
    rcases hx with hx | hx
    · have := h6 x hx; have := h1.size; omega
    · omega
  refine join_F (q := (q0 ++ ps).take 20000) (.inl g2) ((hold bc g2).trans h3) (owns_rely h4 fun g hg => hold g (h5 g hg)) (fun g hg => .inl (h5 g hg)) hin3 (by simp; omega) (fun F' w' sv' k1 k2 k3 k4 k5 => ?_)
  rw [Frame.finish_at]
  simp [Act.put]
  refine Ctl.regionEnd goesF_c ?_
  refine Ctl.inBlock goesF_c ?_
  refine Ctl.inBlock goesF_c ?_
  refine Ctl.inLoop goesF_c ?_
  refine Ctl.block goesF_c ?_
  refine Ctl.seq goesF_c ?_
  refine Ctl.seq goesF_c ?_
  refine Ctl.region goesF_c _ rfl ?_
  simp [List.range, List.range.loop]
  refine Ctl.quiet goesF_c rfl rfl (by decide) _ (fun _ => by go_simp <;> rfl) (fun _ => by simp [go_sem, *]) ?_
  simp [Act.put]
  refine Ctl.regionEnd goesF_c ?_
  refine Ctl.region goesF_c _ rfl ?_
  simp [List.range, List.range.loop]
  refine Ctl.quiet goesF_c rfl rfl (by decide) _ (fun _ => by go_simp <;> rfl) (fun _ => by simp [go_sem, *]) ?_
  simp [Act.put]
  refine Ctl.regionEnd goesF_c ?_
  refine Ctl.seq goesF_c ?_
  refine Ctl.region goesF_c _ rfl ?_
  simp [List.range, List.range.loop]
  refine hend F' w' sv' _ _ _ _ _ _ _ _ _ (k1 _ (.inl g2)) k2 k3 ?_ k5
  have htk : (q0 ++ (ps ++ [p])).take 20000 = ((q0 ++ ps).take 20000 ++ [p]).take 20000 := by
    rw [← List.append_assoc, List.take_append (l₁ := q0 ++ ps), List.take_append (l₁ := (q0 ++ ps).take 20000), List.take_take, Nat.min_self]
    congr 1
    rw [List.length_take]
    by_cases hle : (q0 ++ ps).length ≤ 20000
    · rw [Nat.min_eq_right hle]
    · rw [Nat.min_eq_left (by omega)]
      congr 1
      omega
  rw [htk]
  exact k4
end
theorem val_inj {p q : Pkt} (h : p.val = q.val) : p = q := by
  cases p
  cases q
  simp only [Pkt.val, Value.agg.injEq, Array.mk.injEq, List.cons.injEq, Value.int.injEq, Value.string.injEq, true_and, and_true] at h
  obtain ⟨rfl, rfl, rfl, rfl, rfl⟩ := h
  rfl
theorem vals_inj : ∀ {ps qs : List Pkt}, ps.map Pkt.val = qs.map Pkt.val → ps = qs
  | [], [], _ => rfl
  | [], _ :: _, h => by cases h
  | _ :: _, [], h => by cases h
  | p :: ps, q :: qs, h => by
    injection h with h1 h2
    rw [val_inj h1, vals_inj h2]
/-- What is asked of the two parts. -/
theorem parts59 {bc br : Nat} {gv r wk x rv : Value} {pk th : Nat} {q0 : List Pkt} {cs : List Frame} {rc : Array Value} {tR : TypeId} {sl : Value} {ps : List Pkt} (hq : q0.length ≤ 20000) (hn : ps.length < 1000000) (hrc : 20 < rc.size) (s : Score) (e1 : s.pk = pk) (e2 : s.th = th) (e3 : s.z0 = z59) (e4 : s.z1 = y59) :
    Parts Tryz.prog s (SMp bc gv r wk pk th q0 cs) (SWp br pk rc tR sl ps (cR106 rv wk pk th x [dcl th]) [bornF Tryz.prog]) (fun v => ∃ p : Pkt, v = p.val) := by
  have hcs : s.cs = cases2 pk th z59 y59 := by unfold Score.cs; rw [e1, e2, e3, e4]
  refine ⟨fun acc F a w w1 h hr => h.rely hr, fun vs F b w w1 h hr => h.rely hr, fun acc F a w h => ?_, fun v vs F b w h => ?_, fun F b w h => ?_⟩
  · rw [hcs]
    exact sel_next h hq
  · rw [e1]
    exact ho_next rfl hn hrc h
  · obtain ⟨rfl, _⟩ := h
    refine ⟨rfl, rfl, G { (baseD 106).at ⟨tm106 rv wk pk th x, []⟩ [] with mode := .returning } [bornF Tryz.prog], 2, worker_quits Tryz.func106 (by kernel_rfl), fun w1 kt hw => ?_⟩
    rw [e2] at hw ⊢
    exact close_step (b := baseD 106) (by kernel_rfl) w1 hw
section
variable {K : Machine → Trace → Prop} {w : World} {bc br : Nat} {gv sv wk : Value} {q0 : List Pkt} {cs : List Frame} {cF : Frame} {f : FuncId} {fst cap : Array Value} {fn : Func}
/-- What is left of the cluster behind a step that began with its record written, in world w3. -/
structure After3 (bc br : Nat) (gv sv sl : Value) (q0 ps : List Pkt) (rc : Array Value) (tR : TypeId) (pk : Nat) (w3 w4 : World) : Prop where
  clu : ∃ sv', w4.heap[bc]? = some (.cells #[gv, sv'] 131) ∧ w4.ownsRow 0 139 5 sv' ((q0 ++ ps).take 20000).length (flat ((q0 ++ ps).take 20000)) ∧ ∀ g, sv'.ownBlock = some g → sv.ownBlock = some g ∨ w3.heap.size ≤ g
  rep : w4.heap[br]? = some (.cells (rc.setIfInBounds 20 (.slice none 0 0)) tR)
  rest : ∀ x, x < w3.heap.size → x ≠ bc → x ≠ br → some x ≠ sv.ownBlock → some x ≠ sl.ownBlock → x ≠ pk → x ≠ pk + 1 → w4.heap[x]? = w3.heap[x]?
  size : w3.heap.size ≤ w4.heap.size
  os : w4.os = w3.os
  out : w4.output = w3.output
/-- What is asked of the world when the record is written. -/
structure Written (bc br : Nat) (gv sv sl : Value) (q0 ps : List Pkt) (rc : Array Value) (tR : TypeId) (pk : Nat) (w3 : World) : Prop where
  clu : w3.heap[bc]? = some (.cells #[gv, sv] 131)
  row : w3.ownsRow 0 139 5 sv q0.length (flat q0)
  rep : w3.heap[br]? = some (.cells rc tR)
  out : rc[20]? = some sl
  box : w3.ownsRow 0 139 5 sl ps.length (flat ps)
  few : ps.length < 1000000
  ne1 : bc ≠ br
  ne2 : some br ≠ sv.ownBlock
  ne3 : some bc ≠ sl.ownBlock
  ne4 : ∀ g, sv.ownBlock = some g → some g ≠ sl.ownBlock
  ch : w3.heap[pk]? = some (.chan 0 #[] false 0 0 false) ∧ w3.heap[pk + 1]? = some (.chan 0 #[] false 0 0 false)
theorem owns_lt {w : World} {sv : Value} {n : Nat} {xs : List Value} (h : w.ownsRow 0 139 5 sv n xs) {g : Nat} (hg : sv.ownBlock = some g) : ∃ cur, w.heap[g]? = some (.cells cur 139) := by
  rcases h.2 with ⟨rfl, _⟩ | ⟨g', cap, cur, rfl, _, hb, _⟩
  · cases hg
  · obtain rfl : g' = g := by simpa [Value.ownBlock] using hg
    exact ⟨cur, hb⟩
/-- Behind the select, when the end has been met. -/
theorem step_ends (hX : Shut Tryz.prog true OkE (XR Tryz.prog K)) {c r : Value} {pk th : Nat} {x8 x17 x18 x19 x20 x21 x22 x23 x24 : Value} (h : XR Tryz.prog K (G (cF.finish (.tuple #[])) cs) w) :
    XR Tryz.prog K ((A59 c r wk pk th x8 x17 x18 x19 x20 x21 x22 x23 x24 (cF :: cs)).finishComm Tryz.prog (cases2 pk th z59 y59) .select 1 y59 false) w := by
  rw [finish59, comm1]
  unfold tm59 R59 K59
  simp only [B59, L59, c59, Tryz.f59, cl, cr, cb, co, Option.getD]
  refine Ctl.quiet hX.c rfl rfl (by decide) _ (fun _ => by go_simp <;> rfl) (fun _ => by simp [go_sem, *]) ?_
  simp [Act.put]
  refine Ctl.quiet hX.c rfl rfl (by decide) _ (fun _ => by go_simp <;> rfl) (fun _ => by simp [go_sem, *]) ?_
  simp [Act.put]
  refine Ctl.quiet hX.c rfl rfl (by decide) _ (fun _ => by go_simp <;> rfl) (fun _ => by simp [go_sem, *]) ?_
  simp [Act.put]
  refine Ctl.regionEnd hX.c ?_
  refine Ctl.block hX.c ?_
  refine Ctl.cond hX.c false rfl ?_
  simp only [Bool.false_eq_true, if_false]
  refine Ctl.cond hX.c true rfl ?_
  simp only [if_true]
  refine Ctl.ret hX.c ?_
  exact hX.c.go rfl (fun w => stepG_leave (b := Go.Conc.base 59) (fn := Tryz.f59) rfl rfl Tryz.func59 (results_none (by kernel_rfl) _ _ _) (events_results_none (by kernel_rfl) _ _)) h
theorem spawn59 (c r wk : Value) (pk th : Nat) (cs : List Frame) (w : World) : stepG Tryz.prog true (G ((Go.Conc.base 59).at ⟨#[c, r, wk, undef, undef, undef, .chan (some pk), .chan (some th), undef, .chan (some pk), .chan (some th), r, wk, .chan (some pk), .chan (some th), undef, undef, undef, undef, undef, undef, undef, undef, undef, undef], []⟩ [.inRegion (co (cl (cr (cr c59)))) [4], .code (cr (cr (cr c59)))]) cs) w =
    .spawn (G ((Go.Conc.base 59).at ⟨#[c, r, wk, undef, undef, undef, .chan (some pk), .chan (some th), undef, .chan (some pk), .chan (some th), r, wk, .chan (some pk), .chan (some th), undef, undef, undef, undef, undef, undef, undef, undef, undef, undef], []⟩ [.inRegion (co (cl (cr (cr c59)))) [], .code (cr (cr (cr c59)))]) cs) (born Tryz.prog (dcall 106 #[r, wk, .chan (some pk), .chan (some th)])) w #[] := by
  simp only [c59, Tryz.f59, cl, cr, co, Option.getD]
  rw [stepG_spawn rfl rfl (by decide) (d := dcall 106 #[r, wk, .chan (some pk), .chan (some th)]) (w' := w) (by go_simp; rfl) rfl, listed_none (by simp [go_sem])]
  rfl
theorem GoesU.imp {P : Program} {main : Bool} {R : World → World → Prop} {D : World → World → Array Event → Prop} {Stop Stop' : Goroutine → World → Prop} {g : Goroutine} {w : World} (h : GoesU P main R D Stop g w) (hs : ∀ g w, Stop g w → Stop' g w) : GoesU P main R D Stop' g w :=
  h (fun g w => GoesU P main R D Stop' g w) (fun _ _ h => .stop fun w₁ h1 => hs _ _ (h w₁ h1)) fun _ _ hr h => .step hr h
/-- STEP. -/
theorem step_XR (hf : Tryz.prog.funcs[f]? = some fn) (hname : (fn.name == "runtime.NumGoroutine") = false) (hb : fn.body.isNone = false) (hq : q0.length ≤ 20000)
    {Q1 : World → Prop} {R3 : Value → List Pkt → Array Value → TypeId → World → Prop}
    (hwork : CallsY Tryz.prog f (fst ++ cap) ((w.alloc (.chan 0 #[] false 0 0 false)).alloc (.chan 0 #[] false 0 0 false)) (fun _ w' => Q1 w'))
    (hwrite : ∀ w₁, Q1 w₁ → BodyY Tryz.prog 155 (Tryz.f155.body.getD .skip) { tmps := #[.pointer (some ⟨br, 0, none⟩)] ++ Array.replicate (Tryz.f155.ntmps - (#[.pointer (some ⟨br, 0, none⟩)] : Array Value).size) undef, defers := [] } w₁ (fun _ w' => ∃ sl ps rc tR, Written bc br gv sv sl q0 ps rc tR w.heap.size w' ∧ R3 sl ps rc tR w'))
    (h : ∀ sl ps rc tR w3 w4, Written bc br gv sv sl q0 ps rc tR w.heap.size w3 → R3 sl ps rc tR w3 → After3 bc br gv sv sl q0 ps rc tR w.heap.size w3 w4 → XR Tryz.prog K (G (cF.finish (.tuple #[])) cs) w4) :
    XR Tryz.prog K (G (Frame.enter Tryz.prog 59 #[.pointer (some ⟨bc, 0, none⟩), .pointer (some ⟨br, 0, none⟩), .func (.func f) fst cap] .normal) (cF :: cs)) w := by
  refine step_begins shut_XR ?_
  obtain ⟨n, hn⟩ := to_select (.pointer (some ⟨bc, 0, none⟩)) (.pointer (some ⟨br, 0, none⟩)) (.func (.func f) fst cap) w.heap.size (w.heap.size + 1) (cF :: cs)
  have hpk : ChOpen ((w.alloc (.chan 0 #[] false 0 0 false)).alloc (.chan 0 #[] false 0 0 false)) w.heap.size 0 := by
    unfold ChOpen
    rw [alloc_old (by rw [alloc_size]; omega), alloc_new]
  have hth : ChOpen ((w.alloc (.chan 0 #[] false 0 0 false)).alloc (.chan 0 #[] false 0 0 false)) (w.heap.size + 1) 0 := by
    unfold ChOpen
    have := alloc_new (w.alloc (.chan 0 #[] false 0 0 false)) (.chan 0 #[] false 0 0 false)
    rwa [alloc_size] at this
  generalize hpkn : w.heap.size = pk at *
  let StopW : Goroutine → World → Prop := fun g w' => ∃ sl ps rc tR w3 F' x, Written bc br gv sv sl q0 ps rc tR pk w3 ∧ R3 sl ps rc tR w3 ∧ SWp br pk rc tR sl ps (cR106 (.pointer (some ⟨br, 0, none⟩)) (.func (.func f) fst cap) pk (pk + 1) x [dcl (pk + 1)]) [bornF Tryz.prog] (ps.map Pkt.val) F' g w' ∧ Since0 (fun x => x = br ∨ some x = sl.ownBlock) w3 F' w'
  refine hire (StopW := StopW) rfl (fun w₁ => spawn59 _ _ _ _ _ _ w₁) hn hpk hth (by omega) ?_ ?_
  · -- the worker
    refine worker_begins shut_W hf hname hb ?_
    refine hwork false _ _ _ shut_W fun fr v w' _ hl hQ => shut_W.back hl ?_
    refine worker_writes shut_W ?_
    have key : ∀ (sl : Value) (ps : List Pkt) (rc : Array Value) (tR : TypeId) (w3 : World), Written bc br gv sv sl q0 ps rc tR pk w3 → R3 sl ps rc tR w3 → GoesU Tryz.prog false SameW (DW pk (pk + 1)) StopW (G (cR106 (.pointer (some ⟨br, 0, none⟩)) (.func (.func f) fst cap) pk (pk + 1) v [dcall 154 #[.pointer (some ⟨br, 0, none⟩), .chan (some pk)], dcl (pk + 1)]) [bornF Tryz.prog]) w3 := by
      intro sl ps rc tR w3 hW hR3
      refine worker_hands shut_W ?_
      have hnot : ∀ c, w3.heap[c]? = some (.chan 0 #[] false 0 0 false) → ¬ (c = br ∨ some c = sl.ownBlock) := by
        rintro c hc (rfl | h)
        · rw [hW.rep] at hc; cases hc
        · obtain ⟨cur, hcur⟩ := owns_lt hW.box h.symm
          rw [hc] at hcur; cases hcur
      have hinb : ∀ x, (x = br ∨ some x = sl.ownBlock) → x < w3.heap.size := by
        rintro x (rfl | h)
        · exact lt_heap hW.rep
        · obtain ⟨cur, hcur⟩ := owns_lt hW.box h.symm
          exact lt_heap hcur
      have hgo := ho_enter (br := br) (pk := pk) (tR := tR) (cR := cR106 (.pointer (some ⟨br, 0, none⟩)) (.func (.func f) fst cap) pk (pk + 1) v [dcl (pk + 1)]) (cs1 := [bornF Tryz.prog]) (F := fun x => x = br ∨ some x = sl.ownBlock) rfl hW.few (.inl rfl) hW.rep hW.out hW.box (fun g hg => .inr hg.symm) hinb
      refine (hgo.toU (pk := pk) (th := pk + 1) (hnot _ hW.ch.1) (hnot _ hW.ch.2) (lt_heap hW.ch.1) (lt_heap hW.ch.2) hinb).imp ?_
      rintro g w' ⟨F', h1, h2⟩
      exact ⟨sl, ps, rc, tR, w3, F', v, hW, hR3, h1, h2⟩
    rw [enter_atD #[.pointer (some ⟨br, 0, none⟩)] Tryz.func155 (c := Tryz.f155.body.getD .skip) rfl]
    refine hwrite w' hQ false _ _ (baseD 155) _ shut_W rfl (by decide) fun a' todo w3 hd hq => ?_
    obtain ⟨sl, ps, rc, tR, hW, hR3⟩ := hq
    refine shut_W.c.go rfl (fun w => stepG_leave_deferred (b := baseD 155) (fn := Tryz.f155) rfl hd Tryz.func155 (results_none (by kernel_rfl) _ _ _) (events_results_none (by kernel_rfl) _ _) rfl) ?_
    exact key sl ps rc tR w3 hW hR3
  · -- the meeting
    rintro b w' ⟨sl, ps, rc, tR, w3, F', x, hW, hR3, hSW, hS0⟩
    have hrc : 20 < rc.size := (Array.getElem?_eq_some_iff.1 hW.out).1
    have hF' : ∀ c, ¬ (c = br ∨ some c = sl.ownBlock) → c < w3.heap.size → ¬ F' c := fun c hc hl hx => by
      rcases hS0.own c hx with h | h
      · exact hc h
      · omega
    have hbc : ¬ (bc = br ∨ some bc = sl.ownBlock) := fun h => h.elim hW.ne1 hW.ne3
    have hsv : ∀ g, sv.ownBlock = some g → ¬ (g = br ∨ some g = sl.ownBlock) := fun g hg h => h.elim (fun e => hW.ne2 (by rw [hg, e])) (hW.ne4 g hg)
    have hsvlt : ∀ g, sv.ownBlock = some g → g < w3.heap.size := fun g hg => by
      obtain ⟨cur, hcur⟩ := owns_lt hW.row hg
      exact lt_heap hcur
    have hnot : ∀ c, w3.heap[c]? = some (.chan 0 #[] false 0 0 false) → ¬ (c = br ∨ some c = sl.ownBlock) := by
      rintro c hc (rfl | h)
      · rw [hW.rep] at hc; cases hc
      · obtain ⟨cur, hcur⟩ := owns_lt hW.box h.symm
        rw [hc] at hcur; cases hcur
    have hnot0 : ∀ c, w3.heap[c]? = some (.chan 0 #[] false 0 0 false) → ¬ (c = bc ∨ some c = sv.ownBlock) := by
      rintro c hc (rfl | h)
      · rw [hW.clu] at hc; cases hc
      · obtain ⟨cur, hcur⟩ := owns_lt hW.row h.symm
        rw [hc] at hcur; cases hcur
    have htk : q0.take 20000 = q0 := List.take_of_length_le hq
    have hbcs : w'.heap[bc]? = some (.cells #[gv, sv] 131) := (hS0.rest bc (lt_heap hW.clu) hbc).trans hW.clu
    have hrow : w'.ownsRow 0 139 5 sv q0.length (flat q0) := owns_rely hW.row fun g hg => hS0.rest g (hsvlt g hg) (hsv g hg)
    have hin0 : ∀ x, (x = bc ∨ some x = sv.ownBlock) → x < w'.heap.size := by
      rintro x (rfl | h)
      · exact lt_heap hbcs
      · have := hsvlt x h.symm; have := hS0.size; omega
    refine ⟨SMp bc gv (.pointer (some ⟨br, 0, none⟩)) (.func (.func f) fst cap) pk (pk + 1) q0 (cF :: cs), SWp br pk rc tR sl ps (cR106 (.pointer (some ⟨br, 0, none⟩)) (.func (.func f) fst cap) pk (pk + 1) x [dcl (pk + 1)]) [bornF Tryz.prog], (fun v => ∃ p : Pkt, v = p.val), ps.map Pkt.val, (fun x => x = bc ∨ some x = sv.ownBlock), F', ⟨fun s e1 e2 e3 e4 => parts59 hq hW.few hrc s e1 e2 e3 e4, hSW, ?_, ?_, hin0, hS0.inb, ⟨hnot0 _ hW.ch.1, hnot0 _ hW.ch.2⟩, ⟨hF' _ (hnot _ hW.ch.1) (lt_heap hW.ch.1), hF' _ (hnot _ hW.ch.2) (lt_heap hW.ch.2)⟩⟩, ?_⟩
    · exact ⟨_, ⟨[], rfl, sv, _, _, _, _, _, _, _, _, _, rfl, .inl rfl, hbcs, by simpa [htk] using hrow, fun g hg => .inr hg.symm, hin0⟩, atSel59 _ _ _ _ _ _ _ _ _ _ _ _ _ _ _⟩
    · rintro y (rfl | hy)
      · exact hF' _ hbc (lt_heap hW.clu)
      · exact hF' _ (hsv y hy.symm) (hsvlt y hy.symm)
    · intro F0' FW' A2' a0 b0 w4 hM hat hWn hD
      obtain ⟨ps', e, sv', x8, x17, x18, x19, x20, x21, x22, x23, x24, rfl, k2, k3, k4, k5, k6⟩ := hM
      obtain rfl := vals_inj e
      obtain rfl := hat.inj (atSel59 _ _ _ _ _ _ _ _ _ _ _ _ _ _ _) w4
      refine step_ends shut_XR (h sl ps rc tR w3 w4 hW hR3 ⟨⟨sv', k3, k4, fun g hg => ?_⟩, hWn.2.2.1, fun y hy h1 h2 h3 h4 h5 h6 => ?_, Nat.le_trans hS0.size hD.size, hD.os.trans hS0.os, hD.out.trans hS0.out⟩)
      · by_cases hl : g < w'.heap.size
        · rcases hD.old0 g hl (k5 g hg) with rfl | h
          · exact absurd (by rw [hg]) (owns_ne k4 k3)
          · exact .inl h.symm
        · exact .inr (by have := hS0.size; omega)
      · have hnF' := hF' y (fun h => h.elim h2 h4) hy
        rw [hD.rest y (Nat.lt_of_lt_of_le hy hS0.size) (fun h => h.elim h1 h3) hnF' h5 h6]
        exact hS0.rest y hy fun h => h.elim h2 h4
end
section
variable {P : Program} {f : FuncId} {args : Array Value} {w : World} {Post : Value → World → Prop}
end
section
variable {P : Program} {main : Bool} {D : World → World → Array Event → Prop} {X : Goroutine → World → Prop} {w : World} {b : Frame} {a : Act} {k : List Item} {cs : List Frame} {ops : Array Oper} {i : Nat} {rest : List Nat} {o : Oper}
theorem plain_op {A : FuncId → Bool} {S : FuncId → List Nat} {fn : FuncId} {ρ : Operand → Value} (h : okOp A S fn o.op = true) (hc : noCall o.op = true) : Plain [] (execOp ρ o) := (exec_val h hc).1
theorem plain_blt {ρ : Operand → Value} {bt : Builtin} {ar : Array Operand} {ats : Array TypeId} (hop : o.op = .call { callee := .builtin bt, args := ar, argTypes := ats }) (h : okBuiltin bt = true) : Plain [] (execOp ρ o) := by
  have e : execOp ρ o = builtin bt ats o.type (ar.map fun | .const _ => true | _ => false) (ar.map ρ) := by
    unfold execOp
    rw [hop]
    rfl
  rw [e]
  exact (builtin_ok h _ _ _ _).1
theorem plain_load {ρ : Operand → Value} {ty : TypeId} {x : Operand} (hop : o.op = .load ty x) : Plain [] (execOp ρ o) := plain_op (A := fun _ => false) (S := fun _ => []) (fn := 0) (by rw [hop]; rfl) (by rw [hop]; rfl)
theorem plain_store {ρ : Operand → Value} {ty : TypeId} {x y : Operand} (hop : o.op = .store ty x y) : Plain [] (execOp ρ o) := plain_op (A := fun _ => false) (S := fun _ => []) (fn := 0) (by rw [hop]; rfl) (by rw [hop]; rfl)
end
section
variable (P : Program) (X : Goroutine → World → Prop) (b : Frame) (k : List Item) (cs : List Frame) (ops : Array Oper) (S : World → Prop) (z : Nat)
end
section
variable {P : Program} {main : Bool} {D : World → World → Array Event → Prop} {X : Goroutine → World → Prop} {b : Frame} {k : List Item} {cs : List Frame} {ops : Array Oper} {S : World → Prop} {z : Nat}
theorem CallsY.same {f : FuncId} {args : Array Value} {w w₁ : World} {Post : Value → World → Prop} (h : CallsY P f args w Post) (hs : SameW w w₁) : CallsY P f args w₁ Post := fun main D X cs hX hk => hX.rely hs (h main D X cs hX hk)
end
section
variable {P : Program} {ops : Array Oper}
end
/-- w' is w but for one block, and for what is new. -/
structure GB (r : Option Nat) (w w' : World) : Prop where
  os : w'.os = w.os
  out : w'.output = w.output
  size : w.heap.size ≤ w'.heap.size
  block : ∀ x, x < w.heap.size → some x ≠ r → w'.heap[x]? = w.heap[x]?
theorem GB.refl (r : Option Nat) (w : World) : GB r w w := ⟨rfl, rfl, Nat.le_refl _, fun _ _ _ => rfl⟩
theorem GB.trans {r : Option Nat} {a b c : World} (h : GB r a b) (k : GB r b c) : GB r a c := ⟨k.os.trans h.os, k.out.trans h.out, Nat.le_trans h.size k.size, fun x hx hr => (k.block x (Nat.lt_of_lt_of_le hx h.size) hr).trans (h.block x hx hr)⟩
theorem GB.only {b : Nat} {w w' : World} (h : Only b w w') : GB (some b) w w' := ⟨h.os, h.output, Nat.le_of_eq h.size.symm, fun x _ hr => h.block x fun e => hr (by rw [e])⟩
theorem GB.weak {r : Option Nat} {w w' : World} (h : GB none w w') : GB r w w' := ⟨h.os, h.out, h.size, fun x hx _ => h.block x hx nofun⟩
theorem GB.alloc (r : Option Nat) (w : World) (o : Obj) : GB r w (w.alloc o) := ⟨rfl, rfl, by rw [alloc_size]; omega, fun x hx _ => alloc_old hx o⟩
theorem GB.same {r : Option Nat} {a b c : World} (h : GB r a b) (hs : SameW b c) : GB r a c := by
  obtain ⟨p, rfl⟩ := hs
  exact ⟨h.os, h.out, h.size, h.block⟩
theorem GB.get {r : Option Nat} {w w' : World} (h : GB r w w') {x : Nat} {o : Obj} (hx : w.heap[x]? = some o) (hr : some x ≠ r) : w'.heap[x]? = some o := (h.block x (lt_heap hx) hr).trans hx
/-- An empty map. -/
def Emp (w : World) (m : Nat) : Prop := w.heap[m]? = some (.map #[] 0)
section
variable {P : Program} {w : World} {m : Nat}
theorem run_check {key : TypeId} {k : Int} {b : Bool} (hk : P.underlying key = some (.int .u32)) (n : Nat) (w : World) : (Instr.checkKey b (n + 1) key (.int .u32 k)).run P w = .ok () w := by
  rw [Instr.checkKey]
  simp [run_underlying hk]
end
/-- A replica's cells. -/
theorem exec_range {ρ : Operand → Value} {o : Oper} {t : TypeId} {x : Operand} (hop : o.op = .range t x) : execOp ρ o = (do pure (Next.value (← Instr.range t (ρ x)))) := by
  unfold execOp
  rw [hop]
theorem exec_next {ρ : Operand → Value} {o : Oper} {x : Operand} (hop : o.op = .next x false) : execOp ρ o = (do pure (Next.value (← Instr.next (ρ x) false o.type))) := by
  unfold execOp
  rw [hop]
theorem exec_clear {ρ : Operand → Value} {o : Oper} {t : TypeId} {x : Operand} (hop : o.op = .call { callee := .builtin .clear, args := #[x], argTypes := #[t] }) : execOp ρ o = (do pure (Next.value (← Builtin.clear_ #[t] o.type #[ρ x]))) := by
  have e : execOp ρ o = builtin .clear #[t] o.type (#[x].map fun | .const _ => true | _ => false) (#[x].map ρ) := by
    unfold execOp
    rw [hop]
    rfl
  rw [e, show #[x].map ρ = #[ρ x] by simp]
  rfl
section
variable {P : Program} {main : Bool} {D : World → World → Array Event → Prop} {X : Goroutine → World → Prop} {w : World} {b : Frame} {a : Act} {k : List Item} {cs : List Frame} {ops : Array Oper} {i : Nat} {rest : List Nat} {o : Oper}
end
end
section
open Go Go.Conc Go.RowKit
section
variable {P : Program} {main : Bool} {D : World → World → Array Event → Prop} {X : Goroutine → World → Prop} {w : World} {b : Frame} {a : Act} {k : List Item} {cs : List Frame} {ops : Array Oper} {i : Nat} {rest : List Nat} {o : Oper}
theorem Ctl.unw (hX : Ctl P main X) (ho : ops[i]? = some o) (hw : Region.wanted o (yielded ops a.tmps) = false) (h : X (G (b.at (a.put o.dst undef) (.inRegion ops rest :: k)) cs) w) : X (G (b.at a (.inRegion ops (i :: rest) :: k)) cs) w :=
  hX.go rfl (fun _ => stepG_unwanted ho hw) h
/-- An append, whoever owns the row. -/
theorem run_appendA {s x : Operand} {t : TypeId} (hop : o.op = .call { callee := .builtin .append, args := #[s, x], argTypes := #[t, t] })
    (e : TypeId) (ii : TypeInfo) (z : Value) (size bytes : Nat) (ht : P.underlying t = some (.slice e)) (hi : P.info? e = some ii) (hz : ii.zero = some z) (hsize : ii.size = size) (hby : ii.bytes = bytes) (hzs : z.cells.size = size) (hsz : 0 < size)
    {v : Value} {n : Nat} {xs : List Value} (hs : a.eval s = v) (hown : w.ownsRow 0 e size v n xs) {B m c : Nat} {news : List Value} {off : Nat} (hx : a.eval x = .slice (some ⟨B, off, none⟩) m c) {nb : Array Value} {tb : TypeId} (hW : w.heap[B]? = some (.cells nb tb)) (hnb : (nb.toList.drop off).take (m * size) = news) (hl : news.length = m * size) (h1 : ∀ u ∈ news, u.oneCell' = true)
    (h63 : n + m ≤ maxLen) (hbytes : (n + m) * bytes ≤ 140737488355328) : ∃ v' w', (execOp a.eval o).run P w = .ok (.value v') w' ∧ w'.ownsRow 0 e size v' (n + m) (xs ++ news) ∧ GB v.ownBlock w w' ∧ (∀ g, v'.ownBlock = some g → v.ownBlock = some g ∨ w.heap.size ≤ g) ∧ ∀ g c', v = .slice (some ⟨g, 0, none⟩) n c' → n + m ≤ c' → v' = .slice (some ⟨g, 0, none⟩) (n + m) c' := by
  have hnews : ∀ j u, news[j]? = some u → w.cell? ((⟨B, off, none⟩ : Addr).add j) = some u := fun j u hu => by
    have hadd : (⟨B, off, none⟩ : Addr).add j = ⟨B, off + j, none⟩ := by unfold Addr.add; split <;> simp_all
    rw [hadd, blk_cell hW]
    rw [← hnb, List.getElem?_take] at hu
    split at hu
    · rw [List.getElem?_drop] at hu; simpa using hu
    · cases hu
  obtain ⟨v', w', hrun, ho', hg⟩ := run_append_new (P := P) w 0 t o.type e ii z size bytes ht hi hz hsize hby hzs hsz v n xs hown ⟨B, off, none⟩ m c news hl hnews h1 h63 hbytes (Nat.zero_le _)
  refine ⟨v', w', ?_, ho', ⟨hg.grown.os, hg.grown.output, hg.grown.size, fun y hy hne => hg.grown.block y hy hne⟩, fun g hgo => ?_, fun g c' hv hroom => ?_⟩
  · have hh := uponK_append (P := P) s x t hop hs hx hrun (K := fun a' w'' => a' = a.put o.dst v' ∧ w'' = w') ⟨rfl, rfl⟩
    have e1 : execOp a.eval o = builtin .append #[t, t] o.type (#[s, x].map fun | .const _ => true | _ => false) (#[s, x].map a.eval) := by
      unfold execOp
      rw [hop]
      rfl
    rw [e1]
    simp only [List.map_toArray, List.map_cons, List.map_nil, hs, hx]
    unfold builtin
    simp only [Sem.run_bind]
    simp [hrun]
  · rcases hg.own with he | he
    · exact .inl (he ▸ hgo)
    · exact .inr (he g hgo)
  · subst hsize
    rcases hown.2 with ⟨e0, _⟩ | ⟨g2, cap, cur, e2, _, hg2, _, _, hcs, _⟩
    · rw [hv] at e0; cases e0
    · rw [hv] at e2
      injection e2 with e3 _ e4
      injection e3 with e3
      injection e3 with e3
      subst e3
      subst e4
      have hr := run_append_room (P := P) w t o.type e ii ht hi g n c' cur hg2 ⟨B, off, none⟩ m c news hl hnews h1 hroom (by rw [hl, hcs, ← Nat.add_mul]; exact Nat.mul_le_mul_right _ hroom)
      rw [hv, hr] at hrun
      injection hrun with hrun
      exact hrun.symm
end
end
end Go.Proofs.YtignemioillaiaaGreat
