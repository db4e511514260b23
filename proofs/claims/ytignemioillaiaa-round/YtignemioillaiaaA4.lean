/- Package right: the dups of a range. -/
import Derived.Test.YtignemioillaiaaA
import Derived.Deep.QuietTactic
import Derived.BigQuiet
import Derived.Deep.RegionWith
namespace Go.Proofs.Ytignemioillaiaa
open Go.RowKit

theorem dupAt_out {lo hi : Int} {dups : List Rep} {k : Nat} {x : Rep} (hx : dups[k]? = some x) (h : (!decide (lo ≤ x.key)) = true ∨ (!decide (x.key ≤ hi)) = true) : dupAt lo hi dups k = false := by
  unfold dupAt; rw [hx]
  rcases h with h | h <;> simp at h <;> simp <;> intros <;> omega
theorem dupAt_nk {lo hi : Int} {dups : List Rep} {k : Nat} {x : Rep} (hx : dups[k]? = some x) (h : ¬ kept x.k = true) : dupAt lo hi dups k = false := by
  unfold dupAt; rw [hx]
  simp at h; simp [h]
theorem dupAt_nok {lo hi : Int} {dups : List Rep} {k : Nat} {x : Rep} (hx : dups[k]? = some x) (h : ¬ x.ok = true) : dupAt lo hi dups k = false := by
  unfold dupAt; rw [hx]
  simp at h; simp [h]
theorem dupAt_prev {lo hi : Int} {dups : List Rep} {k : Nat} {x y : Rep} (hx : dups[k]? = some x) (h0 : 0 < k) (hy : dups[k - 1]? = some y) (h : ahead y x = false) : dupAt lo hi dups k = false := by
  have : (k == 0) = false := by simp; omega
  unfold dupAt; rw [hx]
  simp [hy, this, h]
theorem dupAt_good {lo hi : Int} {dups : List Rep} {k : Nat} {x : Rep} (hx : dups[k]? = some x) (h1 : x.ok = true) (h2 : kept x.k = true) (h : (!decide (lo ≤ x.key)) = false ∧ (!decide (x.key ≤ hi)) = false) (hy : k = 0 ∨ ∃ y, dups[k - 1]? = some y ∧ ahead y x = true) : dupAt lo hi dups k = true := by
  unfold dupAt; rw [hx]
  simp at h
  rcases hy with rfl | ⟨y, hy, hlt⟩
  · simp [h, h1, h2]
  · simp [h, h1, h2, hy, hlt]

set_option maxHeartbeats 1000000 in
set_option maxRecDepth 100000 in
theorem dups_any (rsrc rdst rseq rlo rhi : Int) (rra : Option Addr) (rrn rrc : Nat) (rda : Option Addr) (rdn rdc : Nat) (rdups : List Rep) (w : World) (h : SlIn w.heap.size w ⟨rda, rdn, rdc⟩ 7 (rdups.map Rep.cells)) :
    Calls Try.prog 124 #[.agg #[.int .u8 rsrc, .int .u8 rdst, .int .u32 rseq, .int .u64 rlo, .int .u64 rhi, .slice rra rrn rrc, .slice rda rdn rdc]] w fun e w' => e = .returned (.bool (dupsOk rlo rhi rdups)) ∧ Below w.heap.size w w' := by
  have hlen : rdn = rdups.length := by simpa using h.len
  have hlm : rdn ≤ maxLen := Nat.le_trans h.le h.max
  unfold maxLen at hlm
  have HL : Hid (rdn = rdups.length) := hlen
  clear hlen
  go_enter Try.func124, Try.ntmps124
  go_wp2_with fail
  · go_ret
    exact ⟨ret_bool (by have := HL.out; simp [dupsOk]; omega), ((Below.refl _ _).alloc (Nat.le_refl _) _)⟩
  · generalize hW : w.alloc (Obj.cells #[.int .u8 rsrc, .int .u8 rdst, .int .u32 rseq, .int .u64 rlo, .int .u64 rhi, .slice rra rrn rrc, .slice rda rdn rdc] 33) = W
    have hW0 : W.heap[w.heap.size]? = some (Obj.cells #[.int .u8 rsrc, .int .u8 rdst, .int .u32 rseq, .int .u64 rlo, .int .u64 rhi, .slice rra rrn rrc, .slice rda rdn rdc] 33) := by rw [← hW]; exact heap_alloc_new w _
    have hW1 : Below w.heap.size w W := by rw [← hW]; exact (Below.refl _ _).alloc (Nat.le_refl _) _
    have hW2 : W.heap.size = w.heap.size + 1 := by rw [← hW]; simp
    clear hW
    go_loopw [12] (fun i wr => ∃ k : Nat, k ≤ rdn ∧ i = .int .i64 k ∧ (List.range k).all (dupAt rlo rhi rdups) = true ∧ Below (w.heap.size + 1) W wr) (fun i _ => rdn - (intOf i).toNat)
    case atStart => exact ⟨0, Nat.zero_le _, rfl, by simp, Below.refl _ _⟩
    case round =>
      obtain ⟨k, hk, rfl, hall, hnx⟩ := hrel
      have hB := blk_of hW0 hnx
      have hsz : w.heap.size < wr.heap.size := by have := hnx.size; omega
      have HA : Hid ((List.range k).all (dupAt rlo rhi rdups) = true) := hall
      clear hall
      by_cases hlt : k < rdn
      · obtain ⟨x, hx⟩ : ∃ x, rdups[k]? = some x := ⟨rdups[k]'(by rw [← HL.out]; exact hlt), by simp⟩
        have hS := h.below (hW1.trans (hnx.mono (by omega))) (Nat.le_refl _)
        obtain ⟨b, off, ha, hbB, hc0, hc1, hc2, hc3, hc4, hc5, hc6⟩ := hS.at7 hx
        obtain rfl : rda = some ⟨b, off, none⟩ := ha
        have HX : Hid (rdups[k]? = some x) := hx
        clear hx
        have hbz : b < wr.heap.size := by omega
        obtain ⟨xc, xs, xkey, xk, xf, xv, xg⟩ := x
        by_cases hk0 : 0 < k
        · obtain ⟨j, rfl⟩ : ∃ j, k = j + 1 := ⟨k - 1, by omega⟩
          obtain ⟨y, hy⟩ : ∃ y, rdups[j]? = some y := ⟨rdups[j]'(by rw [← HL.out]; omega), by simp⟩
          have hj1 : (0 : Int) ≤ (j : Int) := by omega
          have hj2 : (j : Int) < (rdn : Int) := by omega
          have hj3 : j < rdn := by omega
          have hj4 : IntKind.i64.wrap (j : Int) = (j : Int) := IntWalk.i64_in _ ⟨by omega, by omega⟩
          obtain ⟨b', off', ha', _, hd0, hd1, hd2, hd3, hd4, hd5, hd6⟩ := hS.at7 hy
          simp only [Option.some.injEq, Addr.mk.injEq, and_true] at ha'
          obtain ⟨rfl, rfl⟩ := ha'
          have HY : Hid (rdups[j]? = some y) := hy
          clear hy
          obtain ⟨yc, ys, ykey, yk, yf, yv, yg⟩ := y
          dsimp only at hc0 hc1 hc2 hc3 hc4 hc5 hc6 hd0 hd1 hd2 hd3 hd4 hd5 hd6
          go_wp2_with (first | (go_at_call 70; refine (reply_any _ _ _ _ _ _ _ _).mono ?_; rintro e w1 ⟨rfl, hbel⟩; have hl : Below wr.heap.size wr w1 := later_trans (later_alloc _ _) hbel; have hB1 : ∀ o, w1.cell? ⟨w.heap.size, o, none⟩ = _ := fun o => (later_cell hl hsz o).trans (hB o); have hX1 := blk hbel (heap_alloc_new wr _); have hz1 : wr.heap.size < w1.heap.size := (by have := hbel.size; simp at this; omega)) | (go_at_call 152; refine (remembered_any _ _).mono ?_; rintro e w1 ⟨rfl, rfl⟩) | (go_at_call 151; refine (within_any _ _ _ _ _ _ _ _ _ _ _ _ _).mono ?_; rintro e w2 ⟨rfl, hbel2⟩; have hl2 : Below wr.heap.size wr w2 := later_trans hl hbel2; have hB2 : ∀ o, w2.cell? ⟨w.heap.size, o, none⟩ = _ := fun o => (later_cell hl2 hsz o).trans (hB o); have hX2 : ∀ o, w2.cell? ⟨wr.heap.size, o, none⟩ = _ := fun o => (later_cell hbel2 hz1 o).trans (hX1 o); have he0 := (later_cell hl2 hbz _).trans hd0; have he1 := (later_cell hl2 hbz _).trans hd1; have he2 := (later_cell hl2 hbz _).trans hd2; have he3 := (later_cell hl2 hbz _).trans hd3; have he4 := (later_cell hl2 hbz _).trans hd4; have he5 := (later_cell hl2 hbz _).trans hd5; have he6 := (later_cell hl2 hbz _).trans hd6))
          · go_ret; exact ⟨ret_bool (dups_bad (k := j + 1) (by rw [← HL.out]; exact hlt) (dupAt_out HX.out (by assumption))).symm, hW1.trans ((hnx.mono (by omega)).trans (hl2.mono (by omega)))⟩
          · go_region_with (first | (go_at_call 153; refine (ahead_any _ _ _ _ _ _ _ _ _ _ _ _ _ _ _).mono ?_; rintro e w3 ⟨rfl, hbel3⟩))
            all_goals go_wp2
            all_goals first | (go_ret; exact ⟨ret_bool (dups_bad (k := j + 1) (by rw [← HL.out]; exact hlt) (dupAt_prev HX.out hk0 HY.out (by first | assumption | simp_all))).symm, hW1.trans ((hnx.mono (by omega)).trans ((hl2.drew.trans (Below.mono ‹Below (World.drew _).heap.size _ _› hl2.size)).mono (by omega)))⟩) | skip
            all_goals go_roundw
            all_goals first | exact ⟨j + 1 + 1, by omega, by go_num, all_next HA.out (dupAt_good HX.out (by assumption) (by assumption) (by assumption) (.inr ⟨_, HY.out, by first | assumption | simp_all⟩)), hnx.trans ((hl2.drew.trans (Below.mono ‹Below (World.drew _).heap.size _ _› hl2.size)).mono (by omega))⟩ | (simp [intOf]; omega) | skip
            all_goals go_ways
          · go_ret; exact ⟨ret_bool (dups_bad (k := j + 1) (by rw [← HL.out]; exact hlt) (dupAt_nk HX.out (by assumption))).symm, hW1.trans ((hnx.mono (by omega)).trans (hl.mono (by omega)))⟩
          · go_ret; exact ⟨ret_bool (dups_bad (k := j + 1) (by rw [← HL.out]; exact hlt) (dupAt_nok HX.out (by assumption))).symm, hW1.trans ((hnx.mono (by omega)).trans (hl.mono (by omega)))⟩
        · have hd : decide ((0 : Int) < (k : Int)) = false := by simp; omega
          dsimp only at hc0 hc1 hc2 hc3 hc4 hc5 hc6
          go_wp2_with (first | (go_at_call 70; refine (reply_any _ _ _ _ _ _ _ _).mono ?_; rintro e w1 ⟨rfl, hbel⟩; have hl : Below wr.heap.size wr w1 := later_trans (later_alloc _ _) hbel; have hB1 : ∀ o, w1.cell? ⟨w.heap.size, o, none⟩ = _ := fun o => (later_cell hl hsz o).trans (hB o); have hX1 := blk hbel (heap_alloc_new wr _); have hz1 : wr.heap.size < w1.heap.size := (by have := hbel.size; simp at this; omega)) | (go_at_call 152; refine (remembered_any _ _).mono ?_; rintro e w1 ⟨rfl, rfl⟩) | (go_at_call 151; refine (within_any _ _ _ _ _ _ _ _ _ _ _ _ _).mono ?_; rintro e w2 ⟨rfl, hbel2⟩; have hl2 : Below wr.heap.size wr w2 := later_trans hl hbel2; have hB2 : ∀ o, w2.cell? ⟨w.heap.size, o, none⟩ = _ := fun o => (later_cell hl2 hsz o).trans (hB o); have hX2 : ∀ o, w2.cell? ⟨wr.heap.size, o, none⟩ = _ := fun o => (later_cell hbel2 hz1 o).trans (hX1 o)))
          · go_ret; exact ⟨ret_bool (dups_bad (k := k) (by rw [← HL.out]; exact hlt) (dupAt_out HX.out (by assumption))).symm, hW1.trans ((hnx.mono (by omega)).trans (hl2.mono (by omega)))⟩
          · go_quiet (fail)
            go_wp2
            go_roundw
            case rel => exact ⟨k + 1, by omega, by go_num, all_next HA.out (dupAt_good HX.out (by assumption) (by assumption) (by assumption) (.inl (by omega))), below_drewN (hnx.trans (hl2.mono (by omega))) _⟩
            case measure => simp [intOf]; omega
          · go_ret; exact ⟨ret_bool (dups_bad (k := k) (by rw [← HL.out]; exact hlt) (dupAt_nk HX.out (by assumption))).symm, hW1.trans ((hnx.mono (by omega)).trans (hl.mono (by omega)))⟩
          · go_ret; exact ⟨ret_bool (dups_bad (k := k) (by rw [← HL.out]; exact hlt) (dupAt_nok HX.out (by assumption))).symm, hW1.trans ((hnx.mono (by omega)).trans (hl.mono (by omega)))⟩
      · go_wp2
        go_ret
        obtain rfl : k = rdn := by omega
        exact ⟨ret_bool (by have := HL.out; have h2 := HA.out; rw [this] at h2; simp [dupsOk, h2]; omega), hW1.trans (hnx.mono (by omega))⟩

end Go.Proofs.Ytignemioillaiaa
