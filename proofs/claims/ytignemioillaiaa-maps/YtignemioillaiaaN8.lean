/- The document's answer: Give. -/
import Derived.Test.YtignemioillaiaaN6
import Derived.Test.YtignemioillaiaaN7
namespace Go.Proofs.Ytignemioillaiaa
open Go.RowKit

set_option maxHeartbeats 400000 in
set_option maxRecDepth 100000 in
theorem ref_give_no (a : Option Addr) (n c : Nat) (m : List Pc) (lo hi g : Int) (w : World) (h : MapIn w a n c m) (hwf : ∀ (i : Nat) (x : Pc), m[i]? = some x → x.wf) (hno : mapOk m = false) :
    Calls Try.prog 21 #[.slice a n c, .int .u64 lo, .int .u64 hi, .int .u8 g] w fun e w' => e = .returned (.tuple #[.slice none 0 0, .int .i64 3]) ∧ Below w.heap.size w w' := by
  go_enter Try.func21, Try.ntmps21
  go_wp2_with (go_at_call 56; go_must (refine (ref_ismap _ _ _ m _ h hwf).mono ?_; rintro e w1 ⟨rfl, hb1⟩; rw [hno]))
  go_ret2
  exact ⟨rfl, hb1⟩

set_option maxHeartbeats 400000 in
set_option maxRecDepth 100000 in
theorem ref_give_bad (a : Option Addr) (n c : Nat) (m : List Pc) (lo hi g : Int) (w : World) (h : MapIn w a n c m) (hwf : ∀ (i : Nat) (x : Pc), m[i]? = some x → x.wf) (hyes : mapOk m = true) (hbad : hi < lo ∨ 4 ≤ g) :
    Calls Try.prog 21 #[.slice a n c, .int .u64 lo, .int .u64 hi, .int .u8 g] w fun e w' => e = .returned (.tuple #[.slice none 0 0, .int .i64 4]) ∧ Below w.heap.size w w' := by
  by_cases h1 : hi < lo
  · have hd : decide (hi < lo) = true := by simp [h1]
    go_enter Try.func21, Try.ntmps21
    go_wp2_with (go_at_call 56; go_must (refine (ref_ismap _ _ _ m _ h hwf).mono ?_; rintro e w1 ⟨rfl, hb1⟩; rw [hyes]))
    go_ret2
    exact ⟨rfl, hb1⟩
  · have hd : decide (hi < lo) = false := by simp; omega
    have hd2 : decide (3 < g) = true := by simp; omega
    go_enter Try.func21, Try.ntmps21
    go_wp2_with (go_at_call 56; go_must (refine (ref_ismap _ _ _ m _ h hwf).mono ?_; rintro e w1 ⟨rfl, hb1⟩; rw [hyes]))
    go_ret2
    exact ⟨rfl, hb1⟩

end Go.Proofs.Ytignemioillaiaa
