/- The document's answer: letters. -/
import Derived.Test.YtignemioillaiaaC2
namespace Go.Proofs.Ytignemioillaiaa
open Go.RowKit

set_option maxHeartbeats 400000 in
set_option maxRecDepth 100000 in
theorem ref_letters_e (k : Int) (w : World) (h : (k == 0) = true ∨ 10 < k) :
    Calls Try.prog 36 #[.int .u8 k] w fun e w' => e = .returned (.string ByteArray.empty) ∧ Below w.heap.size w w' := by
  rcases h with h | h
  all_goals
    go_enter Try.func36, Try.ntmps36
    go_wp2
    go_ret
    exact ⟨rfl, later_alloc _ _⟩

set_option maxHeartbeats 400000 in
set_option maxRecDepth 100000 in
theorem ref_letters_1 (w : World) :
    Calls Try.prog 36 #[.int .u8 1] w fun e w' => e = .returned (.string (bstr [113])) ∧ Below w.heap.size w w' := by
  go_enter Try.func36, Try.ntmps36
  go_wp2
  go_ret
  exact ⟨rfl, later_alloc _ _⟩

set_option maxHeartbeats 400000 in
set_option maxRecDepth 100000 in
theorem ref_letters_2 (w : World) :
    Calls Try.prog 36 #[.int .u8 2] w fun e w' => e = .returned (.string (bstr [114])) ∧ Below w.heap.size w w' := by
  go_enter Try.func36, Try.ntmps36
  go_wp2
  go_ret
  exact ⟨rfl, later_alloc _ _⟩

set_option maxHeartbeats 400000 in
set_option maxRecDepth 100000 in
theorem ref_letters_3 (w : World) :
    Calls Try.prog 36 #[.int .u8 3] w fun e w' => e = .returned (.string (bstr [98])) ∧ Below w.heap.size w w' := by
  go_enter Try.func36, Try.ntmps36
  go_wp2
  go_ret
  exact ⟨rfl, later_alloc _ _⟩

set_option maxHeartbeats 400000 in
set_option maxRecDepth 100000 in
theorem ref_letters_4 (w : World) :
    Calls Try.prog 36 #[.int .u8 4] w fun e w' => e = .returned (.string (bstr [98, 118])) ∧ Below w.heap.size w w' := by
  go_enter Try.func36, Try.ntmps36
  go_wp2
  go_ret
  exact ⟨rfl, later_alloc _ _⟩

set_option maxHeartbeats 400000 in
set_option maxRecDepth 100000 in
theorem ref_letters_5 (w : World) :
    Calls Try.prog 36 #[.int .u8 5] w fun e w' => e = .returned (.string (bstr [98])) ∧ Below w.heap.size w w' := by
  go_enter Try.func36, Try.ntmps36
  go_wp2
  go_ret
  exact ⟨rfl, later_alloc _ _⟩

set_option maxHeartbeats 400000 in
set_option maxRecDepth 100000 in
theorem ref_letters_6 (w : World) :
    Calls Try.prog 36 #[.int .u8 6] w fun e w' => e = .returned (.string (bstr [98, 115, 99])) ∧ Below w.heap.size w w' := by
  go_enter Try.func36, Try.ntmps36
  go_wp2
  go_ret
  exact ⟨rfl, later_alloc _ _⟩

set_option maxHeartbeats 400000 in
set_option maxRecDepth 100000 in
theorem ref_letters_7 (w : World) :
    Calls Try.prog 36 #[.int .u8 7] w fun e w' => e = .returned (.string (bstr [98, 115])) ∧ Below w.heap.size w w' := by
  go_enter Try.func36, Try.ntmps36
  go_wp2
  go_ret
  exact ⟨rfl, later_alloc _ _⟩

set_option maxHeartbeats 400000 in
set_option maxRecDepth 100000 in
theorem ref_letters_8 (w : World) :
    Calls Try.prog 36 #[.int .u8 8] w fun e w' => e = .returned (.string (bstr [115, 99])) ∧ Below w.heap.size w w' := by
  go_enter Try.func36, Try.ntmps36
  go_wp2
  go_ret
  exact ⟨rfl, later_alloc _ _⟩

set_option maxHeartbeats 400000 in
set_option maxRecDepth 100000 in
theorem ref_letters_9 (w : World) :
    Calls Try.prog 36 #[.int .u8 9] w fun e w' => e = .returned (.string (bstr [109])) ∧ Below w.heap.size w w' := by
  go_enter Try.func36, Try.ntmps36
  go_wp2
  go_ret
  exact ⟨rfl, later_alloc _ _⟩

set_option maxHeartbeats 400000 in
set_option maxRecDepth 100000 in
theorem ref_letters_10 (w : World) :
    Calls Try.prog 36 #[.int .u8 10] w fun e w' => e = .returned (.string (bstr [112])) ∧ Below w.heap.size w w' := by
  go_enter Try.func36, Try.ntmps36
  go_wp2
  go_ret
  exact ⟨rfl, later_alloc _ _⟩

end Go.Proofs.Ytignemioillaiaa
