/- Package right: the rows and the dups of a range. -/
import Derived.Test.YtignemioillaiaaA
import Derived.Deep.QuietTactic
import Derived.BigQuiet
namespace Go.Proofs.Ytignemioillaiaa
open Go.RowKit

theorem rowAt_out {lo hi : Int} {rows : List Row} {k : Nat} {x : Row} (hx : rows[k]? = some x) (h : (!decide (lo ≤ x.key)) = true ∨ (!decide (x.key ≤ hi)) = true) : rowAt lo hi rows k = false := by
  unfold rowAt; rw [hx]
  rcases h with h | h <;> simp at h <;> simp <;> intros <;> omega
theorem rowAt_prev {lo hi : Int} {rows : List Row} {k : Nat} {x y : Row} (hx : rows[k]? = some x) (h0 : 0 < k) (hy : rows[k - 1]? = some y) (h : x.key ≤ y.key) : rowAt lo hi rows k = false := by
  have : (k == 0) = false := by simp; omega
  unfold rowAt; rw [hx]
  simp [hy, this]; intros; omega
theorem rowAt_good {lo hi : Int} {rows : List Row} {k : Nat} {x : Row} (hx : rows[k]? = some x) (h : (!decide (lo ≤ x.key)) = false ∧ (!decide (x.key ≤ hi)) = false) (hy : k = 0 ∨ ∃ y, rows[k - 1]? = some y ∧ y.key < x.key) : rowAt lo hi rows k = true := by
  unfold rowAt; rw [hx]
  simp at h
  rcases hy with rfl | ⟨y, hy, hlt⟩
  · simp [h]
  · simp [h, hy, hlt]

set_option maxHeartbeats 400000 in
set_option maxRecDepth 100000 in
theorem rows_any (rsrc rdst rseq rlo rhi : Int) (rra : Option Addr) (rrn rrc : Nat) (rda : Option Addr) (rdn rdc : Nat) (rrows : List Row) (w : World) (h : SlIn w.heap.size w ⟨rra, rrn, rrc⟩ 2 (rrows.map Row.cells)) :
    Calls Try.prog 123 #[.agg #[.int .u8 rsrc, .int .u8 rdst, .int .u32 rseq, .int .u64 rlo, .int .u64 rhi, .slice rra rrn rrc, .slice rda rdn rdc]] w fun e w' => e = .returned (.bool (rowsOk rlo rhi rrows)) ∧ Below w.heap.size w w' := by
  have hlen : rrn = rrows.length := by simpa using h.len
  have hlm : rrn ≤ maxLen := Nat.le_trans h.le h.max
  unfold maxLen at hlm
  have HL : Hid (rrn = rrows.length) := hlen
  clear hlen
  go_enter Try.func123, Try.ntmps123
  go_wp2_with fail
  · go_ret
    exact ⟨ret_bool (by have := HL.out; simp [rowsOk]; omega), ((Below.refl _ _).alloc (Nat.le_refl _) _)⟩
  · generalize hW : w.alloc (Obj.cells #[.int .u8 rsrc, .int .u8 rdst, .int .u32 rseq, .int .u64 rlo, .int .u64 rhi, .slice rra rrn rrc, .slice rda rdn rdc] 33) = W
    have hW0 : W.heap[w.heap.size]? = some (Obj.cells #[.int .u8 rsrc, .int .u8 rdst, .int .u32 rseq, .int .u64 rlo, .int .u64 rhi, .slice rra rrn rrc, .slice rda rdn rdc] 33) := by rw [← hW]; exact heap_alloc_new w _
    have hW1 : Below w.heap.size w W := by rw [← hW]; exact (Below.refl _ _).alloc (Nat.le_refl _) _
    have hW2 : W.heap.size = w.heap.size + 1 := by rw [← hW]; simp
    clear hW
    go_loopw [12] (fun i wr => ∃ k : Nat, k ≤ rrn ∧ i = .int .i64 k ∧ (List.range k).all (rowAt rlo rhi rrows) = true ∧ Below (w.heap.size + 1) W wr) (fun i _ => rrn - (intOf i).toNat)
    case atStart => exact ⟨0, Nat.zero_le _, rfl, by simp, Below.refl _ _⟩
    case round =>
      obtain ⟨k, hk, rfl, hall, hnx⟩ := hrel
      have hB := blk_of hW0 hnx
      have hsz : w.heap.size < wr.heap.size := by have := hnx.size; omega
      have HA : Hid ((List.range k).all (rowAt rlo rhi rrows) = true) := hall
      clear hall
      by_cases hlt : k < rrn
      · obtain ⟨x, hx⟩ : ∃ x, rrows[k]? = some x := ⟨rrows[k]'(by rw [← HL.out]; exact hlt), by simp⟩
        have hS := h.below (hW1.trans (hnx.mono (by omega))) (Nat.le_refl _)
        obtain ⟨b, off, ha, hbB, hc0, hc1⟩ := hS.at2 hx
        obtain rfl : rra = some ⟨b, off, none⟩ := ha
        have HX : Hid (rrows[k]? = some x) := hx
        clear hx
        have hbz : b < wr.heap.size := by omega
        by_cases hk0 : 0 < k
        · obtain ⟨y, hy⟩ : ∃ y, rrows[k - 1]? = some y := ⟨rrows[k - 1]'(by rw [← HL.out]; omega), by simp⟩
          obtain ⟨b', off', ha', _, hd0, _⟩ := hS.at2 hy
          simp only [Option.some.injEq, Addr.mk.injEq, and_true] at ha'
          obtain ⟨rfl, rfl⟩ := ha'
          have HY : Hid (rrows[k - 1]? = some y) := hy
          clear hy
          go_wp2_with (first | (go_at_call 151; refine (within_any _ _ _ _ _ _ _ _ _ _ _ _ _).mono ?_; rintro e w1 ⟨rfl, hbel⟩; have hl : Below wr.heap.size wr w1 := later_trans (later_alloc _ _) hbel; have hB1 : ∀ o, w1.cell? ⟨w.heap.size, o, none⟩ = _ := fun o => (later_cell hl hsz o).trans (hB o); have hX1 := blk hbel (heap_alloc_new wr _); have hd1 := (later_cell hl hbz _).trans hd0))
          · go_ret
            refine ⟨ret_bool (rows_bad (k := k) (by rw [← HL.out]; exact hlt) (rowAt_out HX.out (by assumption))).symm, hW1.trans ((hnx.mono (by omega)).trans (hl.mono (by omega)))⟩
          · go_quiet (fail)
            go_wp2
            · go_ret
              exact ⟨ret_bool (rows_bad (k := k) (by rw [← HL.out]; exact hlt) (rowAt_prev HX.out hk0 HY.out (by assumption))).symm, below_drewN (hW1.trans ((hnx.mono (by omega)).trans (hl.mono (by omega)))) _⟩
            · go_roundw
              case rel => exact ⟨k + 1, by omega, by go_num, all_next HA.out (rowAt_good HX.out (by assumption) (.inr ⟨_, HY.out, by assumption⟩)), below_drewN (hnx.trans (hl.mono (by omega))) _⟩
              case measure => simp [intOf]; omega
        · have hd : decide ((0 : Int) < (k : Int)) = false := by simp; omega
          go_wp2_with (first | (go_at_call 151; refine (within_any _ _ _ _ _ _ _ _ _ _ _ _ _).mono ?_; rintro e w1 ⟨rfl, hbel⟩; have hl : Below wr.heap.size wr w1 := later_trans (later_alloc _ _) hbel; have hB1 : ∀ o, w1.cell? ⟨w.heap.size, o, none⟩ = _ := fun o => (later_cell hl hsz o).trans (hB o); have hX1 := blk hbel (heap_alloc_new wr _)))
          · go_ret
            refine ⟨ret_bool (rows_bad (k := k) (by rw [← HL.out]; exact hlt) (rowAt_out HX.out (by assumption))).symm, hW1.trans ((hnx.mono (by omega)).trans (hl.mono (by omega)))⟩
          · go_quiet (fail)
            go_wp2
            go_roundw
            case rel => exact ⟨k + 1, by omega, by go_num, all_next HA.out (rowAt_good HX.out (by assumption) (.inl (by omega))), below_drewN (hnx.trans (hl.mono (by omega))) _⟩
            case measure => simp [intOf]; omega
      · go_wp2
        go_ret
        obtain rfl : k = rrn := by omega
        exact ⟨ret_bool (by have := HL.out; have h2 := HA.out; rw [this] at h2; simp [rowsOk, h2]; omega), hW1.trans (hnx.mono (by omega))⟩

end Go.Proofs.Ytignemioillaiaa
