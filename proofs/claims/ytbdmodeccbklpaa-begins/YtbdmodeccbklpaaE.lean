/- The law's looks: two lists that hold the same are the same. -/
import Derived.Test.YtbdmodeccbklpaaRows
import Derived.Test.YtbdmodeccbklpaaD3
import Derived.Test.YtbdmodeccbklpaaP
import Derived.WalkLawsBesides
import Derived.Deep.QuietTactic
import Derived.BigQuiet
namespace Go.Proofs.Ytbdmodeccbklpaa
open Go.RowKit

set_option maxHeartbeats 400000 in
set_option maxRecDepth 100000 in
theorem samerows_any (a1 : Option Addr) (n1 c1 : Nat) (a2 : Option Addr) (n2 c2 : Nat) (rows : List Row) (w : World) (h1 : SlIn w.heap.size w ⟨a1, n1, c1⟩ 2 (rows.map Row.cells)) (h2 : SlIn w.heap.size w ⟨a2, n2, c2⟩ 2 (rows.map Row.cells)) :
    Calls Try.prog 61 #[.slice a1 n1 c1, .slice a2 n2 c2] w fun e w' => e = .returned (.bool true) ∧ Below w.heap.size w w' := by
  have hl1 : n1 = rows.length := by simpa using h1.len
  have hl2 : n2 = rows.length := by simpa using h2.len
  obtain rfl : n2 = n1 := by omega
  have hlm : n2 ≤ maxLen := Nat.le_trans h1.le h1.max
  unfold maxLen at hlm
  have HL : Hid (n2 = rows.length) := hl1
  clear hl1 hl2
  go_enter Try.func61, Try.ntmps61
  go_wp2_with fail
  go_loopw [5] (fun i wr => ∃ k : Nat, k ≤ n2 ∧ i = .int .i64 k ∧ Below w.heap.size w wr) (fun i _ => n2 - (intOf i).toNat)
  case atStart => exact ⟨0, Nat.zero_le _, rfl, Below.refl _ _⟩
  case round =>
    obtain ⟨k, hk, rfl, hnx⟩ := hrel
    by_cases hlt : k < n2
    · obtain ⟨x, hx⟩ : ∃ x, rows[k]? = some x := ⟨rows[k]'(by rw [← HL.out]; exact hlt), by simp⟩
      obtain ⟨b, off, ha, hbB, hc0, hc1⟩ := (h1.later hnx).at2 hx
      obtain ⟨b', off', ha', hbB', hd0, hd1⟩ := (h2.later hnx).at2 hx
      obtain rfl : a1 = some ⟨b, off, none⟩ := ha
      obtain rfl : a2 = some ⟨b', off', none⟩ := ha'
      have hi0 : (0 : Int) ≤ (k : Int) := by omega
      have hi1 : (k : Int) < (n2 : Int) := by omega
      clear hx
      obtain ⟨xkey, xval⟩ := x
      dsimp only at hc0 hc1 hd0 hd1
      go_wp2_with fail
      go_quiet (fail)
      go_wp2
      go_roundw
      case rel => exact ⟨k + 1, by omega, by go_num, below_drewN hnx _⟩
      case measure => simp [intOf]; omega
    · go_wp2
      go_ret
      exact ⟨rfl, hnx⟩

set_option maxHeartbeats 400000 in
set_option maxRecDepth 100000 in
theorem samedups_any (a1 : Option Addr) (n1 c1 : Nat) (a2 : Option Addr) (n2 c2 : Nat) (dups : List Rep) (w : World) (h1 : SlIn w.heap.size w ⟨a1, n1, c1⟩ 7 (dups.map Rep.cells)) (h2 : SlIn w.heap.size w ⟨a2, n2, c2⟩ 7 (dups.map Rep.cells)) :
    Calls Try.prog 62 #[.slice a1 n1 c1, .slice a2 n2 c2] w fun e w' => e = .returned (.bool true) ∧ Below w.heap.size w w' := by
  have hl1 : n1 = dups.length := by simpa using h1.len
  have hl2 : n2 = dups.length := by simpa using h2.len
  obtain rfl : n2 = n1 := by omega
  have hlm : n2 ≤ maxLen := Nat.le_trans h1.le h1.max
  unfold maxLen at hlm
  have HL : Hid (n2 = dups.length) := hl1
  clear hl1 hl2
  go_enter Try.func62, Try.ntmps62
  go_wp2_with fail
  go_loopw [5] (fun i wr => ∃ k : Nat, k ≤ n2 ∧ i = .int .i64 k ∧ Below w.heap.size w wr) (fun i _ => n2 - (intOf i).toNat)
  case atStart => exact ⟨0, Nat.zero_le _, rfl, Below.refl _ _⟩
  case round =>
    obtain ⟨k, hk, rfl, hnx⟩ := hrel
    by_cases hlt : k < n2
    · obtain ⟨x, hx⟩ : ∃ x, dups[k]? = some x := ⟨dups[k]'(by rw [← HL.out]; exact hlt), by simp⟩
      obtain ⟨b, off, ha, hbB, hc0, hc1, hc2, hc3, hc4, hc5, hc6⟩ := (h1.later hnx).at7 hx
      obtain ⟨b', off', ha', hbB', hd0, hd1, hd2, hd3, hd4, hd5, hd6⟩ := (h2.later hnx).at7 hx
      obtain rfl : a1 = some ⟨b, off, none⟩ := ha
      obtain rfl : a2 = some ⟨b', off', none⟩ := ha'
      have hi0 : (0 : Int) ≤ (k : Int) := by omega
      have hi1 : (k : Int) < (n2 : Int) := by omega
      clear hx
      obtain ⟨xc, xs, xkey, xk, xf, xv, xg⟩ := x
      dsimp only at hc0 hc1 hc2 hc3 hc4 hc5 hc6 hd0 hd1 hd2 hd3 hd4 hd5 hd6
      go_wp2_with fail
      go_quiet (fail)
      go_wp2
      go_roundw
      case rel => exact ⟨k + 1, by omega, by go_num, below_drewN hnx _⟩
      case measure => simp [intOf]; omega
    · go_wp2
      go_ret
      exact ⟨rfl, hnx⟩

end Go.Proofs.Ytbdmodeccbklpaa
