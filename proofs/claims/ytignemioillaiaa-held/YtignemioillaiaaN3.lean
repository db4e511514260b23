/- Package ranges: join, ahead. -/
import Derived.Test.YtignemioillaiaaN
namespace Go.Proofs.Ytignemioillaiaa
open Go.RowKit

theorem join_no {L : List Pc} {p : Pc} (h : L.length = 0) : join L p = L ++ [p] := by
  have : L = [] := List.eq_nil_of_length_eq_zero h
  subst this; rfl
theorem join_yes {L : List Pc} {p y : Pc} (hy : L[L.length - 1]? = some y) : join L p = if y.g = p.g then L else L ++ [p] := by
  unfold join; rw [List.getLast?_eq_getElem?, hy]

theorem ownp_drew {base : Nat} {w : World} {v : Value} {l : List Pc} (h : OwnP base w v l) (n : Nat) : OwnP base (w.drewN n) v l := ownp_below h (below_drewN (Below.refl _ _) n)

set_option maxHeartbeats 400000 in
set_option maxRecDepth 100000 in
theorem join_any (base : Nat) (v : Value) (L : List Pc) (pf pg : Int) (w : World) (hown : OwnP base w v L) (hb : base ≤ w.heap.size) (hl : L.length < 1000000) :
    Calls Try.prog 59 #[v, .agg #[.int .u64 pf, .int .u8 pg]] w fun e w' => ∃ v', e = .returned v' ∧ OwnP base w' v' (join L ⟨pf, pg⟩) ∧ Grew w v w' v' := by
  obtain ⟨i0, hi, hz0, hz1, hz2⟩ := info_parts info_pc
  obtain ⟨a, n, c, rfl, hin, hnil⟩ := hown.slin
  have hlen : n = L.length := by simpa using hin.len
  have HL : Hid (n = L.length) := hlen
  have hlm : n < 1000000 := by omega
  clear hlen hnil
  by_cases h0 : n = 0
  · subst h0
    go_enter Try.func59, Try.ntmps59
    go_wp2
    go_quiet (fail)
    go_wp2_with (first | (at_builtin; go_must (refine wpList_append_new _ rfl _ _ 62 rfl base 64 i0 (.agg #[.int .u64 0, .int .u8 0]) 2 16 Try.underlying62 hi hz0 hz1 hz2 rfl (by decide) _ L.length (L.map Pc.cells).flatten rfl (ownp_alloc (ownp_drew (ownp_alloc hown _) _) _) _ 1 1 [.int .u64 pf, .int .u8 pg] rfl rfl ?_ ?_ ?_ ?_ ?_ ?_)))
    case refine_1 => exact pc_new (by simp)
    case refine_2 => exact pc_one1 pf pg
    case refine_3 => unfold maxLen; have := HL.out; omega
    case refine_4 => have := HL.out; omega
    case refine_5 => simp; omega
    intro v' w1 hown' hgrow
    go_wp2
    go_ret
    refine ⟨_, rfl, ownp_eq (ownp_snoc hown') ?_, (Grew.alloc _ _ _).trans ((Grew.drewN _ _ _).trans ((Grew.alloc _ _ _).trans hgrow))⟩
    exact (join_no HL.out.symm).symm
  · obtain ⟨y, hy⟩ : ∃ y, L[L.length - 1]? = some y := ⟨L[L.length - 1]'(by rw [← HL.out]; omega), by simp⟩
    obtain ⟨b, off, ha, hbB, hc0, hc1⟩ := hin.atP hy
    obtain rfl : a = some ⟨b, off, none⟩ := ha
    rw [← HL.out] at hc1
    have hn0 : 0 < n := by omega
    have h0d : decide ((0 : Int) < (n : Int)) = true := by simp; omega
    have HY : Hid (L[L.length - 1]? = some y) := hy
    clear hy hc0
    obtain ⟨yf, yg⟩ := y
    dsimp only at hc1
    have hj0 : (0 : Int) ≤ (n : Int) - 1 := by omega
    have hj1 : (n : Int) - 1 < (n : Int) := by omega
    by_cases hg : yg = pg
    · have hgd : (yg == pg) = true := by simp [hg]
      go_enter Try.func59, Try.ntmps59
      go_wp2
      go_quiet (fail)
      go_wp2
      go_ret
      refine ⟨_, rfl, ?_, ?_⟩
      · rw [join_yes HY.out, if_pos hg]
        exact ownp_drew (ownp_alloc hown _) _
      · exact (Grew.alloc _ _ _).trans (Grew.drewN _ _ _)
    · have hgd : (yg == pg) = false := by simp [hg]
      go_enter Try.func59, Try.ntmps59
      go_wp2
      go_quiet (fail)
      go_wp2_with (first | (at_builtin; go_must (refine wpList_append_new _ rfl _ _ 62 rfl base 64 i0 (.agg #[.int .u64 0, .int .u8 0]) 2 16 Try.underlying62 hi hz0 hz1 hz2 rfl (by decide) _ L.length (L.map Pc.cells).flatten rfl (ownp_alloc (ownp_drew (ownp_alloc hown _) _) _) _ 1 1 [.int .u64 pf, .int .u8 pg] rfl rfl ?_ ?_ ?_ ?_ ?_ ?_)))
      case refine_1 => exact pc_new (by simp)
      case refine_2 => exact pc_one1 pf pg
      case refine_3 => unfold maxLen; have := HL.out; omega
      case refine_4 => have := HL.out; omega
      case refine_5 => simp; omega
      intro v' w1 hown' hgrow
      go_wp2
      go_ret
      refine ⟨_, rfl, ownp_eq (ownp_snoc hown') ?_, (Grew.alloc _ _ _).trans ((Grew.drewN _ _ _).trans ((Grew.alloc _ _ _).trans hgrow))⟩
      rw [join_yes HY.out, if_neg hg]

end Go.Proofs.Ytignemioillaiaa
