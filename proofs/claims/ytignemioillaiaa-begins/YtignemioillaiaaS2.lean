/- shard.Begin and the document's Begin, of numbers that are refused; the document's Begin. -/
import Derived.Test.YtignemioillaiaaS1
import Derived.Test.YtignemioillaiaaN
namespace Go.Proofs.Ytignemioillaiaa
open Go.RowKit

set_option maxHeartbeats 4000000 in
set_option maxRecDepth 100000 in
theorem begin_f (g n : Int) (w : World) (h : n < 1 ∨ 4 < n ∨ g < 0 ∨ n ≤ g) :
    Calls Try.prog 23 #[.int .i64 g, .int .i64 n] w fun e w' => e = .returned (.tuple #[.agg #[.int .u8 0, .int .u8 0, .slice none 0 0, .slice none 0 0, .slice none 0 0, .slice none 0 0, .slice none 0 0], .int .i64 5]) ∧ Below w.heap.size w w' := by
  have fin : ∀ (a : Act) (W : World), a.tmps.getD 4 undef = .pointer (some ⟨w.heap.size, 0, none⟩) → a.tmps.getD 5 undef = .int .i64 5 → W.heap[w.heap.size]? = some (.cells #[.int .u8 0, .int .u8 0, .slice none 0 0, .slice none 0 0, .slice none 0 0, .slice none 0 0, .slice none 0 0] 74) → Below w.heap.size w W → a.defers = [] →
      bodyPost Try.prog Try.f23 (fun e w' => e = .returned (.tuple #[.agg #[.int .u8 0, .int .u8 0, .slice none 0 0, .slice none 0 0, .slice none 0 0, .slice none 0 0, .slice none 0 0], .int .i64 5]) ∧ Below w.heap.size w w') .ret a W := fun a W h1 h2 h3 h4 h5 => by
    refine bodyPost_ret (v := .tuple #[.agg #[.int .u8 0, .int .u8 0, .slice none 0 0, .slice none 0 0, .slice none 0 0, .slice none 0 0, .slice none 0 0], .int .i64 5]) ?_ h5 ⟨rfl, h4⟩
    rw [results_row_tmp Try.results23 _ _ w.heap.size 74 _ (0, 0) _ h1 h3 Try.underlying74 rfl sz_shd, h2]
  by_cases c0 : n < 1
  · have d0 : decide (n < 1) = true := by simp; omega
    clear c0 h
    go_enter Try.func23, Try.ntmps23
    go_wp2_with fail
    exact fin _ _ rfl rfl (by simp [heap_alloc]) (later_alloc _ _) rfl
  by_cases c1 : 4 < n
  · have d0 : decide (n < 1) = false := by simp; omega
    have d1 : decide (4 < n) = true := by simp; omega
    clear c0 c1 h
    go_enter Try.func23, Try.ntmps23
    go_wp2_with fail
    exact fin _ _ rfl rfl (by simp [heap_alloc]) (later_alloc _ _) rfl
  by_cases c2 : g < 0
  · have d0 : decide (n < 1) = false := by simp; omega
    have d1 : decide (4 < n) = false := by simp; omega
    have d2 : decide (g < 0) = true := by simp; omega
    clear c0 c1 c2 h
    go_enter Try.func23, Try.ntmps23
    go_wp2_with fail
    exact fin _ _ rfl rfl (by simp [heap_alloc]) (later_alloc _ _) rfl
  · have d0 : decide (n < 1) = false := by simp; omega
    have d1 : decide (4 < n) = false := by simp; omega
    have d2 : decide (g < 0) = false := by simp; omega
    have d3 : decide (n ≤ g) = true := by simp; omega
    clear c0 c1 c2 h
    go_enter Try.func23, Try.ntmps23
    go_wp2_with fail
    exact fin _ _ rfl rfl (by simp [heap_alloc]) (later_alloc _ _) rfl

set_option maxHeartbeats 4000000 in
set_option maxRecDepth 100000 in
theorem ref_begin_f (g n : Int) (w : World) (h : n < 1 ∨ 4 < n ∨ g < 0 ∨ n ≤ g) :
    Calls Try.prog 24 #[.int .i64 g, .int .i64 n] w fun e w' => e = .returned (.tuple #[.agg #[.int .u8 0, .int .u8 0, .slice none 0 0, .slice none 0 0, .slice none 0 0, .slice none 0 0, .slice none 0 0], .int .i64 5]) ∧ Below w.heap.size w w' := by
  have fin : ∀ (a : Act) (W : World), a.tmps.getD 4 undef = .pointer (some ⟨w.heap.size, 0, none⟩) → a.tmps.getD 5 undef = .int .i64 5 → W.heap[w.heap.size]? = some (.cells #[.int .u8 0, .int .u8 0, .slice none 0 0, .slice none 0 0, .slice none 0 0, .slice none 0 0, .slice none 0 0] 74) → Below w.heap.size w W → a.defers = [] →
      bodyPost Try.prog Try.f24 (fun e w' => e = .returned (.tuple #[.agg #[.int .u8 0, .int .u8 0, .slice none 0 0, .slice none 0 0, .slice none 0 0, .slice none 0 0, .slice none 0 0], .int .i64 5]) ∧ Below w.heap.size w w') .ret a W := fun a W h1 h2 h3 h4 h5 => by
    refine bodyPost_ret (v := .tuple #[.agg #[.int .u8 0, .int .u8 0, .slice none 0 0, .slice none 0 0, .slice none 0 0, .slice none 0 0, .slice none 0 0], .int .i64 5]) ?_ h5 ⟨rfl, h4⟩
    rw [results_row_tmp Try.results24 _ _ w.heap.size 74 _ (0, 0) _ h1 h3 Try.underlying74 rfl sz_shd, h2]
  by_cases c0 : n < 1
  · have d0 : decide (n < 1) = true := by simp; omega
    clear c0 h
    go_enter Try.func24, Try.ntmps24
    go_wp2_with fail
    exact fin _ _ rfl rfl (by simp [heap_alloc]) (later_alloc _ _) rfl
  by_cases c1 : 4 < n
  · have d0 : decide (n < 1) = false := by simp; omega
    have d1 : decide (4 < n) = true := by simp; omega
    clear c0 c1 h
    go_enter Try.func24, Try.ntmps24
    go_wp2_with fail
    exact fin _ _ rfl rfl (by simp [heap_alloc]) (later_alloc _ _) rfl
  by_cases c2 : g < 0
  · have d0 : decide (n < 1) = false := by simp; omega
    have d1 : decide (4 < n) = false := by simp; omega
    have d2 : decide (g < 0) = true := by simp; omega
    clear c0 c1 c2 h
    go_enter Try.func24, Try.ntmps24
    go_wp2_with fail
    exact fin _ _ rfl rfl (by simp [heap_alloc]) (later_alloc _ _) rfl
  · have d0 : decide (n < 1) = false := by simp; omega
    have d1 : decide (4 < n) = false := by simp; omega
    have d2 : decide (g < 0) = false := by simp; omega
    have d3 : decide (n ≤ g) = true := by simp; omega
    clear c0 c1 c2 h
    go_enter Try.func24, Try.ntmps24
    go_wp2_with fail
    exact fin _ _ rfl rfl (by simp [heap_alloc]) (later_alloc _ _) rfl

end Go.Proofs.Ytignemioillaiaa
