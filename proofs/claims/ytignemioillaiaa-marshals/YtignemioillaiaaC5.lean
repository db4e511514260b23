/- The document's answer: when a range is right. -/
import Derived.Test.YtignemioillaiaaC1
import Derived.Test.YtignemioillaiaaC2
import Derived.Test.YtignemioillaiaaA3
import Derived.Test.YtignemioillaiaaA4
namespace Go.Proofs.Ytignemioillaiaa
open Go.RowKit

theorem rowAt_val0 {lo hi : Int} {rows : List Row} {k : Nat} {x : Row} (hx : rows[k]? = some x) (h0 : k = 0) : rowAt lo hi rows k = (decide (lo ≤ x.key) && decide (x.key ≤ hi)) := by
  subst h0; unfold rowAt; rw [hx]; simp
theorem rowAt_val {lo hi : Int} {rows : List Row} {k : Nat} {x y : Row} (hx : rows[k]? = some x) (h0 : 0 < k) (hy : rows[k - 1]? = some y) : rowAt lo hi rows k = (decide (lo ≤ x.key) && decide (x.key ≤ hi) && decide (y.key < x.key)) := by
  have : (k == 0) = false := by simp; omega
  unfold rowAt; rw [hx]; simp [hy, this]

theorem dupAt_val0 {lo hi : Int} {dups : List Rep} {k : Nat} {x : Rep} (hx : dups[k]? = some x) (h0 : k = 0) : dupAt lo hi dups k = (x.ok && kept x.k && decide (lo ≤ x.key) && decide (x.key ≤ hi)) := by
  subst h0; unfold dupAt; rw [hx]; simp
theorem dupAt_val {lo hi : Int} {dups : List Rep} {k : Nat} {x y : Rep} (hx : dups[k]? = some x) (h0 : 0 < k) (hy : dups[k - 1]? = some y) : dupAt lo hi dups k = (x.ok && kept x.k && decide (lo ≤ x.key) && decide (x.key ≤ hi) && ahead y x) := by
  have : (k == 0) = false := by simp; omega
  unfold dupAt; rw [hx]; simp [hy, this]
theorem Rep.ok_kept {p : Rep} (h : p.ok = true) (h3 : ¬ p.k = 3) (h4 : ¬ p.k = 4) : kept p.k = true := by
  unfold Rep.ok at h; simp [h3, h4] at h
  simp [kept]; rcases h.2 with h | h
  · left; left; exact h.1.1
  · rcases h.1.1.1 with h | h
    · left; right; exact h
    · right; exact h

/-- What both loops know of the range. -/
theorem isrange_dups (rsrc rdst rseq rlo rhi : Int) (rra : Option Addr) (rrn rrc : Nat) (rda : Option Addr) (rdn rdc : Nat) (_rdups : List Rep) (w W wr : World) (hW0 : W.heap[w.heap.size]? = some (Obj.cells #[.int .u8 rsrc, .int .u8 rdst, .int .u32 rseq, .int .u64 rlo, .int .u64 rhi, .slice rra rrn rrc, .slice rda rdn rdc] 33)) (hnx : Below (w.heap.size + 1) W wr) : ∀ o, wr.cell? ⟨w.heap.size, o, none⟩ = (#[.int .u8 rsrc, .int .u8 rdst, .int .u32 rseq, .int .u64 rlo, .int .u64 rhi, .slice rra rrn rrc, .slice rda rdn rdc] : Array Value)[o]? := blk_of hW0 hnx

set_option maxHeartbeats 2000000 in
set_option maxRecDepth 100000 in
theorem ref_range (rsrc rdst rseq rlo rhi : Int) (rra : Option Addr) (rrn rrc : Nat) (rda : Option Addr) (rdn rdc : Nat) (rrows : List Row) (rdups : List Rep) (w : World) (h1 : SlIn w.heap.size w ⟨rra, rrn, rrc⟩ 2 (rrows.map Row.cells)) (h2 : SlIn w.heap.size w ⟨rda, rdn, rdc⟩ 7 (rdups.map Rep.cells)) (hwf : (Rng.mk rsrc rdst rseq rlo rhi ⟨rra, rrn, rrc⟩ ⟨rda, rdn, rdc⟩ rrows rdups).wf) :
    Calls Try.prog 90 #[.agg #[.int .u8 rsrc, .int .u8 rdst, .int .u32 rseq, .int .u64 rlo, .int .u64 rhi, .slice rra rrn rrc, .slice rda rdn rdc]] w fun e w' => e = .returned (.bool (Rng.mk rsrc rdst rseq rlo rhi ⟨rra, rrn, rrc⟩ ⟨rda, rdn, rdc⟩ rrows rdups).ok) ∧ Below w.heap.size w w' := by
  obtain ⟨hs1, hs2, hs3, hs4, hs5, hs6, hs7⟩ := hwf
  simp only [U8, U32, U64] at hs1 hs2 hs3 hs4 hs5
  have HWD : Hid (∀ (i : Nat) (x : Rep), rdups[i]? = some x → x.wf) := hs7
  have hrn : rrn = rrows.length := by simpa using h1.len
  have hdn : rdn = rdups.length := by simpa using h2.len
  have HRN : Hid (rrn = rrows.length) := hrn
  have HDN : Hid (rdn = rdups.length) := hdn
  clear hs6 hs7 hrn hdn
  by_cases c3 : (rseq == 0) = false
  case neg =>
    have c4 : rseq = 0 := by simpa using c3
    go_enter Try.func90, Try.ntmps90
    go_wp2_with fail
    all_goals (go_ret; refine ⟨ret_bool ?_, later_alloc _ _⟩; simp [Rng.ok, c4])
  case pos =>
  by_cases hd255 : rdn ≤ 255
  case neg =>
    go_enter Try.func90, Try.ntmps90
    go_wp2_with fail
    all_goals (go_ret; refine ⟨ret_bool ?_, later_alloc _ _⟩; have := HRN.out; have := HDN.out; simp [Rng.ok, rowsOk, dupsOk]; omega)
  case pos =>
  go_enter Try.func90, Try.ntmps90
  go_wp2_with fail
  all_goals first | (go_ret; refine ⟨ret_bool ?_, later_alloc _ _⟩; have := HRN.out; have := HDN.out; simp [Rng.ok, rowsOk, dupsOk]; omega) | (exfalso; rename_i hcon; simp at hcon; omega) | skip
  have hr255 : rrn ≤ 255 := by omega
  have hhead : decide (rsrc < 4) = true ∧ decide (rdst < 4) = true ∧ decide (1 ≤ rseq) = true ∧ decide (rlo ≤ rhi) = true := by (have c3' : ¬ rseq = 0 := (by simpa using c3)); simp; omega
  have HH : Hid (decide (rsrc < 4) = true ∧ decide (rdst < 4) = true ∧ decide (1 ≤ rseq) = true ∧ decide (rlo ≤ rhi) = true) := hhead
  clear hhead
  generalize hW : w.alloc (Obj.cells #[.int .u8 rsrc, .int .u8 rdst, .int .u32 rseq, .int .u64 rlo, .int .u64 rhi, .slice rra rrn rrc, .slice rda rdn rdc] 33) = W
  have hW0 : W.heap[w.heap.size]? = some (Obj.cells #[.int .u8 rsrc, .int .u8 rdst, .int .u32 rseq, .int .u64 rlo, .int .u64 rhi, .slice rra rrn rrc, .slice rda rdn rdc] 33) := by rw [← hW]; exact heap_alloc_new w _
  have hW1 : Below w.heap.size w W := by rw [← hW]; exact later_alloc w _
  clear hW
  go_loopw [3] (fun i wr => ∃ k : Nat, k ≤ rrn ∧ i = .int .i64 k ∧ (List.range k).all (rowAt rlo rhi rrows) = true ∧ Below W.heap.size W wr) (fun i _ => rrn - (intOf i).toNat)
  case atStart => exact ⟨0, Nat.zero_le _, rfl, by simp, Below.refl _ _⟩
  case round =>
    obtain ⟨k, hk, rfl, hall, hnx⟩ := hrel
    have hB := blk hnx hW0
    have HA : Hid ((List.range k).all (rowAt rlo rhi rrows) = true) := hall
    clear hall
    by_cases hlt : k < rrn
    · obtain ⟨x, hx⟩ : ∃ x, rrows[k]? = some x := ⟨rrows[k]'(by rw [← HRN.out]; exact hlt), by simp⟩
      have hS := (h1.later hW1).later hnx
      obtain ⟨b, off, ha, hbB, hc0, hc1⟩ := hS.at2 hx
      obtain rfl : rra = some ⟨b, off, none⟩ := ha
      have HX : Hid (rrows[k]? = some x) := hx
      clear hx
      by_cases hk0 : 0 < k
      · obtain ⟨y, hy⟩ : ∃ y, rrows[k - 1]? = some y := ⟨rrows[k - 1]'(by rw [← HRN.out]; omega), by simp⟩
        obtain ⟨b', off', ha', _, hd0, _⟩ := hS.at2 hy
        simp only [Option.some.injEq, Addr.mk.injEq, and_true] at ha'
        obtain ⟨rfl, rfl⟩ := ha'
        have HY : Hid (rrows[k - 1]? = some y) := hy
        clear hy
        by_cases t1 : x.key < rlo
        · go_wp2; go_ret; exact ⟨ret_bool (by rw [Rng.ok]; dsimp only; rw [rows_bad (k := k) (by rw [← HRN.out]; exact hlt) (by rw [rowAt_val HX.out hk0 HY.out]; simp; omega)]; simp), later_trans hW1 hnx⟩
        by_cases t2 : rhi < x.key
        · go_wp2; go_ret; exact ⟨ret_bool (by rw [Rng.ok]; dsimp only; rw [rows_bad (k := k) (by rw [← HRN.out]; exact hlt) (by rw [rowAt_val HX.out hk0 HY.out]; simp; omega)]; simp), later_trans hW1 hnx⟩
        by_cases t3 : x.key ≤ y.key
        · go_wp2; go_ret; exact ⟨ret_bool (by rw [Rng.ok]; dsimp only; rw [rows_bad (k := k) (by rw [← HRN.out]; exact hlt) (by rw [rowAt_val HX.out hk0 HY.out]; simp; omega)]; simp), later_trans hW1 hnx⟩
        · go_wp2
          go_roundw
          case rel => exact ⟨k + 1, by omega, by go_num, all_next HA.out (by rw [rowAt_val HX.out hk0 HY.out]; simp; omega), hnx⟩
          case measure => simp [intOf]; omega
      · have hd : decide ((0 : Int) < (k : Int)) = false := by simp; omega
        by_cases t1 : x.key < rlo
        · go_wp2; go_ret; exact ⟨ret_bool (by rw [Rng.ok]; dsimp only; rw [rows_bad (k := k) (by rw [← HRN.out]; exact hlt) (by rw [rowAt_val0 HX.out (by omega)]; simp; omega)]; simp), later_trans hW1 hnx⟩
        by_cases t2 : rhi < x.key
        · go_wp2; go_ret; exact ⟨ret_bool (by rw [Rng.ok]; dsimp only; rw [rows_bad (k := k) (by rw [← HRN.out]; exact hlt) (by rw [rowAt_val0 HX.out (by omega)]; simp; omega)]; simp), later_trans hW1 hnx⟩
        · go_wp2
          go_roundw
          case rel => exact ⟨k + 1, by omega, by go_num, all_next HA.out (by rw [rowAt_val0 HX.out (by omega)]; simp; omega), hnx⟩
          case measure => simp [intOf]; omega
    · have hk' : k = rrn := by omega
      have HRO : Hid (rowsOk rlo rhi rrows = true) := by
        show rowsOk rlo rhi rrows = true
        have h3 := HA.out; have h4 := HRN.out
        rw [hk', h4] at h3; simp [rowsOk, h3]; omega
      have HK' : Hid (k = rrn) := hk'
      clear hk'
      go_wp2_with fail
      go_loopw [5] (fun i wq => ∃ j : Nat, j ≤ rdn ∧ i = .int .i64 j ∧ (List.range j).all (dupAt rlo rhi rdups) = true ∧ Below W.heap.size W wq) (fun i _ => rdn - (intOf i).toNat)
      case atStart => exact ⟨0, Nat.zero_le _, rfl, by simp, hnx⟩
      case round =>
        obtain ⟨j, hj, rfl, hall2, hnq⟩ := hrel
        have HA2 : Hid ((List.range j).all (dupAt rlo rhi rdups) = true) := hall2
        have hBq := blk hnq hW0
        clear hall2
        by_cases hlj : j < rdn
        · obtain ⟨y, hy⟩ : ∃ y, rdups[j]? = some y := ⟨rdups[j]'(by rw [← HDN.out]; exact hlj), by simp⟩
          have hSq := (h2.later hW1).later hnq
          obtain ⟨b, off, ha, hbB, hc⟩ := hSq.el (i := j) (x := y.cells) (by simp [hy])
          obtain rfl : rda = some ⟨b, off, none⟩ := ha
          have hyw := HWD.out j y hy
          have HY : Hid (rdups[j]? = some y) := hy
          clear hy
          obtain ⟨yc, ys, ykey, yk, yf, yv, yg⟩ := y
          simp only [Rep.cells] at hc
          obtain ⟨_, hy2, _, hy4, _, _⟩ := hyw
          simp only [U8, U32] at hy2 hy4
          have hWz := heap_alloc_new wr (.cells #[.int .u8 0, .int .u32 0, .int .u64 0, .int .u8 0, .bool false, .int .u64 0, .int .u8 0] 27)
          have hTz := later_alloc wr (.cells #[.int .u8 0, .int .u32 0, .int .u64 0, .int .u8 0, .bool false, .int .u64 0, .int .u8 0] 27)
          have hzW : w.heap.size < wr.heap.size := Nat.lt_of_lt_of_le (Array.getElem?_eq_some_iff.1 hW0).1 hnq.size
          by_cases hj0 : 0 < j
          case neg =>
            have hd0 : decide ((0 : Int) < (j : Int)) = false := by simp; omega
            by_cases t0 : (Rep.mk yc ys ykey yk yf yv yg).ok = true
            case neg =>
              have t0' : (Rep.mk yc ys ykey yk yf yv yg).ok = false := by simpa using t0
              go_wp2_with (first | (with_reducible show wpList _ _ _ ({ dst := some 90, op := Op.load 27 _, type := _, pos := _, after := _, guard := none } :: _) _ _; go_must (refine wpList_load_mem rfl _ _ rfl b (off + j * 7) rfl 7 _ Try.underlying27 rfl sz_rep [.int .u8 yc, .int .u32 ys, .int .u64 ykey, .int .u8 yk, .bool yf, .int .u64 yv, .int .u8 yg] rfl hc ?_)) | (with_reducible show wpList _ _ _ ({ dst := _, op := Op.store 27 _ _, type := _, pos := _, after := _, guard := none } :: _) _ _; go_must (refine wpList_store_blk rfl _ _ _ rfl rfl wr.heap.size 0 rfl [.int .u8 yc, .int .u32 ys, .int .u64 ykey, .int .u8 yk, .bool yf, .int .u64 yv, .int .u8 yg] rfl _ sz_rep rfl rfl _ _ hWz rfl [.int .u8 yc, .int .u32 ys, .int .u64 ykey, .int .u8 yk, .bool yf, .int .u64 yv, .int .u8 yg] rfl ?_; intro w2 hW2 hO2; have hT2 := hTz.trans (hO2.below (Nat.le_refl _)))) | (with_reducible show wpList _ _ _ ({ dst := some 91, op := Op.load 27 _, type := _, pos := _, after := _, guard := none } :: _) _ _; go_must (refine wpList_load_blk rfl _ _ rfl wr.heap.size 0 rfl 7 _ Try.underlying27 rfl sz_rep _ _ hW2 rfl [.int .u8 yc, .int .u32 ys, .int .u64 ykey, .int .u8 yk, .bool yf, .int .u64 yv, .int .u8 yg] rfl ?_)) | (go_at_call 87; go_must (refine (ref_reply _ _ _ _ _ _ _ _ (by omega) (by omega)).mono ?_; rintro e w3 ⟨rfl, hbel3⟩; have hT3 := later_trans hT2 hbel3; have hB3 : ∀ o, w3.cell? ⟨w.heap.size, o, none⟩ = _ := fun o => (later_cell hT3 hzW o).trans (hBq o); have hW3 := blk_later hbel3 hW2; have hD3 := blk_cell hW3)))
              go_ret; exact ⟨ret_bool (by rw [Rng.ok]; dsimp only; rw [dups_bad (k := j) (by rw [← HDN.out]; exact hlj) (by rw [dupAt_val0 HY.out (by omega)]; simp [t0'])]; simp), later_trans hW1 (later_trans hnq hT3)⟩
            by_cases t1 : (yk == 3) = true
            case pos =>
              go_wp2_with (first | (with_reducible show wpList _ _ _ ({ dst := some 90, op := Op.load 27 _, type := _, pos := _, after := _, guard := none } :: _) _ _; go_must (refine wpList_load_mem rfl _ _ rfl b (off + j * 7) rfl 7 _ Try.underlying27 rfl sz_rep [.int .u8 yc, .int .u32 ys, .int .u64 ykey, .int .u8 yk, .bool yf, .int .u64 yv, .int .u8 yg] rfl hc ?_)) | (with_reducible show wpList _ _ _ ({ dst := _, op := Op.store 27 _ _, type := _, pos := _, after := _, guard := none } :: _) _ _; go_must (refine wpList_store_blk rfl _ _ _ rfl rfl wr.heap.size 0 rfl [.int .u8 yc, .int .u32 ys, .int .u64 ykey, .int .u8 yk, .bool yf, .int .u64 yv, .int .u8 yg] rfl _ sz_rep rfl rfl _ _ hWz rfl [.int .u8 yc, .int .u32 ys, .int .u64 ykey, .int .u8 yk, .bool yf, .int .u64 yv, .int .u8 yg] rfl ?_; intro w2 hW2 hO2; have hT2 := hTz.trans (hO2.below (Nat.le_refl _)))) | (with_reducible show wpList _ _ _ ({ dst := some 91, op := Op.load 27 _, type := _, pos := _, after := _, guard := none } :: _) _ _; go_must (refine wpList_load_blk rfl _ _ rfl wr.heap.size 0 rfl 7 _ Try.underlying27 rfl sz_rep _ _ hW2 rfl [.int .u8 yc, .int .u32 ys, .int .u64 ykey, .int .u8 yk, .bool yf, .int .u64 yv, .int .u8 yg] rfl ?_)) | (go_at_call 87; go_must (refine (ref_reply _ _ _ _ _ _ _ _ (by omega) (by omega)).mono ?_; rintro e w3 ⟨rfl, hbel3⟩; have hT3 := later_trans hT2 hbel3; have hB3 : ∀ o, w3.cell? ⟨w.heap.size, o, none⟩ = _ := fun o => (later_cell hT3 hzW o).trans (hBq o); have hW3 := blk_later hbel3 hW2; have hD3 := blk_cell hW3)))
              go_ret; exact ⟨ret_bool (by rw [Rng.ok]; dsimp only; rw [dups_bad (k := j) (by rw [← HDN.out]; exact hlj) (by rw [dupAt_val0 HY.out (by omega)]; simp [kept, show yk = 3 by simpa using t1])]; simp), later_trans hW1 (later_trans hnq hT3)⟩
            by_cases t2 : (yk == 4) = true
            case pos =>
              go_wp2_with (first | (with_reducible show wpList _ _ _ ({ dst := some 90, op := Op.load 27 _, type := _, pos := _, after := _, guard := none } :: _) _ _; go_must (refine wpList_load_mem rfl _ _ rfl b (off + j * 7) rfl 7 _ Try.underlying27 rfl sz_rep [.int .u8 yc, .int .u32 ys, .int .u64 ykey, .int .u8 yk, .bool yf, .int .u64 yv, .int .u8 yg] rfl hc ?_)) | (with_reducible show wpList _ _ _ ({ dst := _, op := Op.store 27 _ _, type := _, pos := _, after := _, guard := none } :: _) _ _; go_must (refine wpList_store_blk rfl _ _ _ rfl rfl wr.heap.size 0 rfl [.int .u8 yc, .int .u32 ys, .int .u64 ykey, .int .u8 yk, .bool yf, .int .u64 yv, .int .u8 yg] rfl _ sz_rep rfl rfl _ _ hWz rfl [.int .u8 yc, .int .u32 ys, .int .u64 ykey, .int .u8 yk, .bool yf, .int .u64 yv, .int .u8 yg] rfl ?_; intro w2 hW2 hO2; have hT2 := hTz.trans (hO2.below (Nat.le_refl _)))) | (with_reducible show wpList _ _ _ ({ dst := some 91, op := Op.load 27 _, type := _, pos := _, after := _, guard := none } :: _) _ _; go_must (refine wpList_load_blk rfl _ _ rfl wr.heap.size 0 rfl 7 _ Try.underlying27 rfl sz_rep _ _ hW2 rfl [.int .u8 yc, .int .u32 ys, .int .u64 ykey, .int .u8 yk, .bool yf, .int .u64 yv, .int .u8 yg] rfl ?_)) | (go_at_call 87; go_must (refine (ref_reply _ _ _ _ _ _ _ _ (by omega) (by omega)).mono ?_; rintro e w3 ⟨rfl, hbel3⟩; have hT3 := later_trans hT2 hbel3; have hB3 : ∀ o, w3.cell? ⟨w.heap.size, o, none⟩ = _ := fun o => (later_cell hT3 hzW o).trans (hBq o); have hW3 := blk_later hbel3 hW2; have hD3 := blk_cell hW3)))
              go_ret; exact ⟨ret_bool (by rw [Rng.ok]; dsimp only; rw [dups_bad (k := j) (by rw [← HDN.out]; exact hlj) (by rw [dupAt_val0 HY.out (by omega)]; simp [kept, show yk = 4 by simpa using t2])]; simp), later_trans hW1 (later_trans hnq hT3)⟩
            by_cases t3 : ykey < rlo
            case pos =>
              go_wp2_with (first | (with_reducible show wpList _ _ _ ({ dst := some 90, op := Op.load 27 _, type := _, pos := _, after := _, guard := none } :: _) _ _; go_must (refine wpList_load_mem rfl _ _ rfl b (off + j * 7) rfl 7 _ Try.underlying27 rfl sz_rep [.int .u8 yc, .int .u32 ys, .int .u64 ykey, .int .u8 yk, .bool yf, .int .u64 yv, .int .u8 yg] rfl hc ?_)) | (with_reducible show wpList _ _ _ ({ dst := _, op := Op.store 27 _ _, type := _, pos := _, after := _, guard := none } :: _) _ _; go_must (refine wpList_store_blk rfl _ _ _ rfl rfl wr.heap.size 0 rfl [.int .u8 yc, .int .u32 ys, .int .u64 ykey, .int .u8 yk, .bool yf, .int .u64 yv, .int .u8 yg] rfl _ sz_rep rfl rfl _ _ hWz rfl [.int .u8 yc, .int .u32 ys, .int .u64 ykey, .int .u8 yk, .bool yf, .int .u64 yv, .int .u8 yg] rfl ?_; intro w2 hW2 hO2; have hT2 := hTz.trans (hO2.below (Nat.le_refl _)))) | (with_reducible show wpList _ _ _ ({ dst := some 91, op := Op.load 27 _, type := _, pos := _, after := _, guard := none } :: _) _ _; go_must (refine wpList_load_blk rfl _ _ rfl wr.heap.size 0 rfl 7 _ Try.underlying27 rfl sz_rep _ _ hW2 rfl [.int .u8 yc, .int .u32 ys, .int .u64 ykey, .int .u8 yk, .bool yf, .int .u64 yv, .int .u8 yg] rfl ?_)) | (go_at_call 87; go_must (refine (ref_reply _ _ _ _ _ _ _ _ (by omega) (by omega)).mono ?_; rintro e w3 ⟨rfl, hbel3⟩; have hT3 := later_trans hT2 hbel3; have hB3 : ∀ o, w3.cell? ⟨w.heap.size, o, none⟩ = _ := fun o => (later_cell hT3 hzW o).trans (hBq o); have hW3 := blk_later hbel3 hW2; have hD3 := blk_cell hW3)))
              go_ret; exact ⟨ret_bool (by rw [Rng.ok]; dsimp only; rw [dups_bad (k := j) (by rw [← HDN.out]; exact hlj) (by rw [dupAt_val0 HY.out (by omega)]; simp; omega)]; simp), later_trans hW1 (later_trans hnq hT3)⟩
            by_cases t4 : rhi < ykey
            case pos =>
              go_wp2_with (first | (with_reducible show wpList _ _ _ ({ dst := some 90, op := Op.load 27 _, type := _, pos := _, after := _, guard := none } :: _) _ _; go_must (refine wpList_load_mem rfl _ _ rfl b (off + j * 7) rfl 7 _ Try.underlying27 rfl sz_rep [.int .u8 yc, .int .u32 ys, .int .u64 ykey, .int .u8 yk, .bool yf, .int .u64 yv, .int .u8 yg] rfl hc ?_)) | (with_reducible show wpList _ _ _ ({ dst := _, op := Op.store 27 _ _, type := _, pos := _, after := _, guard := none } :: _) _ _; go_must (refine wpList_store_blk rfl _ _ _ rfl rfl wr.heap.size 0 rfl [.int .u8 yc, .int .u32 ys, .int .u64 ykey, .int .u8 yk, .bool yf, .int .u64 yv, .int .u8 yg] rfl _ sz_rep rfl rfl _ _ hWz rfl [.int .u8 yc, .int .u32 ys, .int .u64 ykey, .int .u8 yk, .bool yf, .int .u64 yv, .int .u8 yg] rfl ?_; intro w2 hW2 hO2; have hT2 := hTz.trans (hO2.below (Nat.le_refl _)))) | (with_reducible show wpList _ _ _ ({ dst := some 91, op := Op.load 27 _, type := _, pos := _, after := _, guard := none } :: _) _ _; go_must (refine wpList_load_blk rfl _ _ rfl wr.heap.size 0 rfl 7 _ Try.underlying27 rfl sz_rep _ _ hW2 rfl [.int .u8 yc, .int .u32 ys, .int .u64 ykey, .int .u8 yk, .bool yf, .int .u64 yv, .int .u8 yg] rfl ?_)) | (go_at_call 87; go_must (refine (ref_reply _ _ _ _ _ _ _ _ (by omega) (by omega)).mono ?_; rintro e w3 ⟨rfl, hbel3⟩; have hT3 := later_trans hT2 hbel3; have hB3 : ∀ o, w3.cell? ⟨w.heap.size, o, none⟩ = _ := fun o => (later_cell hT3 hzW o).trans (hBq o); have hW3 := blk_later hbel3 hW2; have hD3 := blk_cell hW3)))
              go_ret; exact ⟨ret_bool (by rw [Rng.ok]; dsimp only; rw [dups_bad (k := j) (by rw [← HDN.out]; exact hlj) (by rw [dupAt_val0 HY.out (by omega)]; simp; omega)]; simp), later_trans hW1 (later_trans hnq hT3)⟩
            have hkp := Rep.ok_kept t0 (by simpa using t1) (by simpa using t2)
            have HKP : Hid (kept yk = true) := hkp
            clear hkp
            have t1' : (yk == 3) = false := by simpa using t1
            have t2' : (yk == 4) = false := by simpa using t2
            clear t1 t2
            go_wp2_with (first | (with_reducible show wpList _ _ _ ({ dst := some 90, op := Op.load 27 _, type := _, pos := _, after := _, guard := none } :: _) _ _; go_must (refine wpList_load_mem rfl _ _ rfl b (off + j * 7) rfl 7 _ Try.underlying27 rfl sz_rep [.int .u8 yc, .int .u32 ys, .int .u64 ykey, .int .u8 yk, .bool yf, .int .u64 yv, .int .u8 yg] rfl hc ?_)) | (with_reducible show wpList _ _ _ ({ dst := _, op := Op.store 27 _ _, type := _, pos := _, after := _, guard := none } :: _) _ _; go_must (refine wpList_store_blk rfl _ _ _ rfl rfl wr.heap.size 0 rfl [.int .u8 yc, .int .u32 ys, .int .u64 ykey, .int .u8 yk, .bool yf, .int .u64 yv, .int .u8 yg] rfl _ sz_rep rfl rfl _ _ hWz rfl [.int .u8 yc, .int .u32 ys, .int .u64 ykey, .int .u8 yk, .bool yf, .int .u64 yv, .int .u8 yg] rfl ?_; intro w2 hW2 hO2; have hT2 := hTz.trans (hO2.below (Nat.le_refl _)))) | (with_reducible show wpList _ _ _ ({ dst := some 91, op := Op.load 27 _, type := _, pos := _, after := _, guard := none } :: _) _ _; go_must (refine wpList_load_blk rfl _ _ rfl wr.heap.size 0 rfl 7 _ Try.underlying27 rfl sz_rep _ _ hW2 rfl [.int .u8 yc, .int .u32 ys, .int .u64 ykey, .int .u8 yk, .bool yf, .int .u64 yv, .int .u8 yg] rfl ?_)) | (go_at_call 87; go_must (refine (ref_reply _ _ _ _ _ _ _ _ (by omega) (by omega)).mono ?_; rintro e w3 ⟨rfl, hbel3⟩; have hT3 := later_trans hT2 hbel3; have hB3 : ∀ o, w3.cell? ⟨w.heap.size, o, none⟩ = _ := fun o => (later_cell hT3 hzW o).trans (hBq o); have hW3 := blk_later hbel3 hW2; have hD3 := blk_cell hW3)))
            go_roundw
            case rel => exact ⟨j + 1, by omega, by go_num, all_next HA2.out (by rw [dupAt_val0 HY.out (by omega)]; simp [t0, HKP.out]; omega), later_trans hnq hT3⟩
            case measure => simp [intOf]; omega
          case pos =>
            obtain ⟨i, rfl⟩ : ∃ i, j = i + 1 := ⟨j - 1, by omega⟩
            obtain ⟨z, hz⟩ : ∃ z, rdups[i]? = some z := ⟨rdups[i]'(by rw [← HDN.out]; omega), by simp⟩
            obtain ⟨b', off', ha', _, hd0, hd1, hd2, hd3, hd4, hd5, hd6⟩ := hSq.at7 hz
            simp only [Option.some.injEq, Addr.mk.injEq, and_true] at ha'
            obtain ⟨rfl, rfl⟩ := ha'
            have HZ : Hid (rdups[i]? = some z) := hz
            clear hz
            obtain ⟨zc, zs, zkey, zk, zf, zv, zg⟩ := z
            dsimp only at hd0 hd1 hd2 hd3 hd4 hd5 hd6
            have hj00 : (0 : Int) < (i : Int) + 1 := by omega
            by_cases t0 : (Rep.mk yc ys ykey yk yf yv yg).ok = true
            case neg =>
              have t0' : (Rep.mk yc ys ykey yk yf yv yg).ok = false := by simpa using t0
              go_wp2_with (first | (with_reducible show wpList _ _ _ ({ dst := some 90, op := Op.load 27 _, type := _, pos := _, after := _, guard := none } :: _) _ _; go_must (refine wpList_load_mem rfl _ _ rfl b (off + (i + 1) * 7) rfl 7 _ Try.underlying27 rfl sz_rep [.int .u8 yc, .int .u32 ys, .int .u64 ykey, .int .u8 yk, .bool yf, .int .u64 yv, .int .u8 yg] rfl hc ?_)) | (with_reducible show wpList _ _ _ ({ dst := _, op := Op.store 27 _ _, type := _, pos := _, after := _, guard := none } :: _) _ _; go_must (refine wpList_store_blk rfl _ _ _ rfl rfl wr.heap.size 0 rfl [.int .u8 yc, .int .u32 ys, .int .u64 ykey, .int .u8 yk, .bool yf, .int .u64 yv, .int .u8 yg] rfl _ sz_rep rfl rfl _ _ hWz rfl [.int .u8 yc, .int .u32 ys, .int .u64 ykey, .int .u8 yk, .bool yf, .int .u64 yv, .int .u8 yg] rfl ?_; intro w2 hW2 hO2; have hT2 := hTz.trans (hO2.below (Nat.le_refl _)))) | (with_reducible show wpList _ _ _ ({ dst := some 91, op := Op.load 27 _, type := _, pos := _, after := _, guard := none } :: _) _ _; go_must (refine wpList_load_blk rfl _ _ rfl wr.heap.size 0 rfl 7 _ Try.underlying27 rfl sz_rep _ _ hW2 rfl [.int .u8 yc, .int .u32 ys, .int .u64 ykey, .int .u8 yk, .bool yf, .int .u64 yv, .int .u8 yg] rfl ?_)) | (go_at_call 87; go_must (refine (ref_reply _ _ _ _ _ _ _ _ (by omega) (by omega)).mono ?_; rintro e w3 ⟨rfl, hbel3⟩; have hT3 := later_trans hT2 hbel3; have hB3 : ∀ o, w3.cell? ⟨w.heap.size, o, none⟩ = _ := fun o => (later_cell hT3 hzW o).trans (hBq o); have hW3 := blk_later hbel3 hW2; have hD3 := blk_cell hW3)))
              go_ret; exact ⟨ret_bool (by rw [Rng.ok]; dsimp only; rw [dups_bad (k := i + 1) (by rw [← HDN.out]; exact hlj) (by rw [dupAt_val HY.out hj0 HZ.out]; simp [t0'])]; simp), later_trans hW1 (later_trans hnq hT3)⟩
            by_cases t1 : (yk == 3) = true
            case pos =>
              go_wp2_with (first | (with_reducible show wpList _ _ _ ({ dst := some 90, op := Op.load 27 _, type := _, pos := _, after := _, guard := none } :: _) _ _; go_must (refine wpList_load_mem rfl _ _ rfl b (off + (i + 1) * 7) rfl 7 _ Try.underlying27 rfl sz_rep [.int .u8 yc, .int .u32 ys, .int .u64 ykey, .int .u8 yk, .bool yf, .int .u64 yv, .int .u8 yg] rfl hc ?_)) | (with_reducible show wpList _ _ _ ({ dst := _, op := Op.store 27 _ _, type := _, pos := _, after := _, guard := none } :: _) _ _; go_must (refine wpList_store_blk rfl _ _ _ rfl rfl wr.heap.size 0 rfl [.int .u8 yc, .int .u32 ys, .int .u64 ykey, .int .u8 yk, .bool yf, .int .u64 yv, .int .u8 yg] rfl _ sz_rep rfl rfl _ _ hWz rfl [.int .u8 yc, .int .u32 ys, .int .u64 ykey, .int .u8 yk, .bool yf, .int .u64 yv, .int .u8 yg] rfl ?_; intro w2 hW2 hO2; have hT2 := hTz.trans (hO2.below (Nat.le_refl _)))) | (with_reducible show wpList _ _ _ ({ dst := some 91, op := Op.load 27 _, type := _, pos := _, after := _, guard := none } :: _) _ _; go_must (refine wpList_load_blk rfl _ _ rfl wr.heap.size 0 rfl 7 _ Try.underlying27 rfl sz_rep _ _ hW2 rfl [.int .u8 yc, .int .u32 ys, .int .u64 ykey, .int .u8 yk, .bool yf, .int .u64 yv, .int .u8 yg] rfl ?_)) | (go_at_call 87; go_must (refine (ref_reply _ _ _ _ _ _ _ _ (by omega) (by omega)).mono ?_; rintro e w3 ⟨rfl, hbel3⟩; have hT3 := later_trans hT2 hbel3; have hB3 : ∀ o, w3.cell? ⟨w.heap.size, o, none⟩ = _ := fun o => (later_cell hT3 hzW o).trans (hBq o); have hW3 := blk_later hbel3 hW2; have hD3 := blk_cell hW3)))
              go_ret; exact ⟨ret_bool (by rw [Rng.ok]; dsimp only; rw [dups_bad (k := i + 1) (by rw [← HDN.out]; exact hlj) (by rw [dupAt_val HY.out hj0 HZ.out]; simp [kept, show yk = 3 by simpa using t1])]; simp), later_trans hW1 (later_trans hnq hT3)⟩
            by_cases t2 : (yk == 4) = true
            case pos =>
              go_wp2_with (first | (with_reducible show wpList _ _ _ ({ dst := some 90, op := Op.load 27 _, type := _, pos := _, after := _, guard := none } :: _) _ _; go_must (refine wpList_load_mem rfl _ _ rfl b (off + (i + 1) * 7) rfl 7 _ Try.underlying27 rfl sz_rep [.int .u8 yc, .int .u32 ys, .int .u64 ykey, .int .u8 yk, .bool yf, .int .u64 yv, .int .u8 yg] rfl hc ?_)) | (with_reducible show wpList _ _ _ ({ dst := _, op := Op.store 27 _ _, type := _, pos := _, after := _, guard := none } :: _) _ _; go_must (refine wpList_store_blk rfl _ _ _ rfl rfl wr.heap.size 0 rfl [.int .u8 yc, .int .u32 ys, .int .u64 ykey, .int .u8 yk, .bool yf, .int .u64 yv, .int .u8 yg] rfl _ sz_rep rfl rfl _ _ hWz rfl [.int .u8 yc, .int .u32 ys, .int .u64 ykey, .int .u8 yk, .bool yf, .int .u64 yv, .int .u8 yg] rfl ?_; intro w2 hW2 hO2; have hT2 := hTz.trans (hO2.below (Nat.le_refl _)))) | (with_reducible show wpList _ _ _ ({ dst := some 91, op := Op.load 27 _, type := _, pos := _, after := _, guard := none } :: _) _ _; go_must (refine wpList_load_blk rfl _ _ rfl wr.heap.size 0 rfl 7 _ Try.underlying27 rfl sz_rep _ _ hW2 rfl [.int .u8 yc, .int .u32 ys, .int .u64 ykey, .int .u8 yk, .bool yf, .int .u64 yv, .int .u8 yg] rfl ?_)) | (go_at_call 87; go_must (refine (ref_reply _ _ _ _ _ _ _ _ (by omega) (by omega)).mono ?_; rintro e w3 ⟨rfl, hbel3⟩; have hT3 := later_trans hT2 hbel3; have hB3 : ∀ o, w3.cell? ⟨w.heap.size, o, none⟩ = _ := fun o => (later_cell hT3 hzW o).trans (hBq o); have hW3 := blk_later hbel3 hW2; have hD3 := blk_cell hW3)))
              go_ret; exact ⟨ret_bool (by rw [Rng.ok]; dsimp only; rw [dups_bad (k := i + 1) (by rw [← HDN.out]; exact hlj) (by rw [dupAt_val HY.out hj0 HZ.out]; simp [kept, show yk = 4 by simpa using t2])]; simp), later_trans hW1 (later_trans hnq hT3)⟩
            by_cases t3 : ykey < rlo
            case pos =>
              go_wp2_with (first | (with_reducible show wpList _ _ _ ({ dst := some 90, op := Op.load 27 _, type := _, pos := _, after := _, guard := none } :: _) _ _; go_must (refine wpList_load_mem rfl _ _ rfl b (off + (i + 1) * 7) rfl 7 _ Try.underlying27 rfl sz_rep [.int .u8 yc, .int .u32 ys, .int .u64 ykey, .int .u8 yk, .bool yf, .int .u64 yv, .int .u8 yg] rfl hc ?_)) | (with_reducible show wpList _ _ _ ({ dst := _, op := Op.store 27 _ _, type := _, pos := _, after := _, guard := none } :: _) _ _; go_must (refine wpList_store_blk rfl _ _ _ rfl rfl wr.heap.size 0 rfl [.int .u8 yc, .int .u32 ys, .int .u64 ykey, .int .u8 yk, .bool yf, .int .u64 yv, .int .u8 yg] rfl _ sz_rep rfl rfl _ _ hWz rfl [.int .u8 yc, .int .u32 ys, .int .u64 ykey, .int .u8 yk, .bool yf, .int .u64 yv, .int .u8 yg] rfl ?_; intro w2 hW2 hO2; have hT2 := hTz.trans (hO2.below (Nat.le_refl _)))) | (with_reducible show wpList _ _ _ ({ dst := some 91, op := Op.load 27 _, type := _, pos := _, after := _, guard := none } :: _) _ _; go_must (refine wpList_load_blk rfl _ _ rfl wr.heap.size 0 rfl 7 _ Try.underlying27 rfl sz_rep _ _ hW2 rfl [.int .u8 yc, .int .u32 ys, .int .u64 ykey, .int .u8 yk, .bool yf, .int .u64 yv, .int .u8 yg] rfl ?_)) | (go_at_call 87; go_must (refine (ref_reply _ _ _ _ _ _ _ _ (by omega) (by omega)).mono ?_; rintro e w3 ⟨rfl, hbel3⟩; have hT3 := later_trans hT2 hbel3; have hB3 : ∀ o, w3.cell? ⟨w.heap.size, o, none⟩ = _ := fun o => (later_cell hT3 hzW o).trans (hBq o); have hW3 := blk_later hbel3 hW2; have hD3 := blk_cell hW3)))
              go_ret; exact ⟨ret_bool (by rw [Rng.ok]; dsimp only; rw [dups_bad (k := i + 1) (by rw [← HDN.out]; exact hlj) (by rw [dupAt_val HY.out hj0 HZ.out]; simp; omega)]; simp), later_trans hW1 (later_trans hnq hT3)⟩
            by_cases t4 : rhi < ykey
            case pos =>
              go_wp2_with (first | (with_reducible show wpList _ _ _ ({ dst := some 90, op := Op.load 27 _, type := _, pos := _, after := _, guard := none } :: _) _ _; go_must (refine wpList_load_mem rfl _ _ rfl b (off + (i + 1) * 7) rfl 7 _ Try.underlying27 rfl sz_rep [.int .u8 yc, .int .u32 ys, .int .u64 ykey, .int .u8 yk, .bool yf, .int .u64 yv, .int .u8 yg] rfl hc ?_)) | (with_reducible show wpList _ _ _ ({ dst := _, op := Op.store 27 _ _, type := _, pos := _, after := _, guard := none } :: _) _ _; go_must (refine wpList_store_blk rfl _ _ _ rfl rfl wr.heap.size 0 rfl [.int .u8 yc, .int .u32 ys, .int .u64 ykey, .int .u8 yk, .bool yf, .int .u64 yv, .int .u8 yg] rfl _ sz_rep rfl rfl _ _ hWz rfl [.int .u8 yc, .int .u32 ys, .int .u64 ykey, .int .u8 yk, .bool yf, .int .u64 yv, .int .u8 yg] rfl ?_; intro w2 hW2 hO2; have hT2 := hTz.trans (hO2.below (Nat.le_refl _)))) | (with_reducible show wpList _ _ _ ({ dst := some 91, op := Op.load 27 _, type := _, pos := _, after := _, guard := none } :: _) _ _; go_must (refine wpList_load_blk rfl _ _ rfl wr.heap.size 0 rfl 7 _ Try.underlying27 rfl sz_rep _ _ hW2 rfl [.int .u8 yc, .int .u32 ys, .int .u64 ykey, .int .u8 yk, .bool yf, .int .u64 yv, .int .u8 yg] rfl ?_)) | (go_at_call 87; go_must (refine (ref_reply _ _ _ _ _ _ _ _ (by omega) (by omega)).mono ?_; rintro e w3 ⟨rfl, hbel3⟩; have hT3 := later_trans hT2 hbel3; have hB3 : ∀ o, w3.cell? ⟨w.heap.size, o, none⟩ = _ := fun o => (later_cell hT3 hzW o).trans (hBq o); have hW3 := blk_later hbel3 hW2; have hD3 := blk_cell hW3)))
              go_ret; exact ⟨ret_bool (by rw [Rng.ok]; dsimp only; rw [dups_bad (k := i + 1) (by rw [← HDN.out]; exact hlj) (by rw [dupAt_val HY.out hj0 HZ.out]; simp; omega)]; simp), later_trans hW1 (later_trans hnq hT3)⟩
            have hkp := Rep.ok_kept t0 (by simpa using t1) (by simpa using t2)
            have HKP : Hid (kept yk = true) := hkp
            clear hkp
            have t1' : (yk == 3) = false := by simpa using t1
            have t2' : (yk == 4) = false := by simpa using t2
            clear t1 t2
            go_wp2_with (first | (with_reducible show wpList _ _ _ ({ dst := some 90, op := Op.load 27 _, type := _, pos := _, after := _, guard := none } :: _) _ _; go_must (refine wpList_load_mem rfl _ _ rfl b (off + (i + 1) * 7) rfl 7 _ Try.underlying27 rfl sz_rep [.int .u8 yc, .int .u32 ys, .int .u64 ykey, .int .u8 yk, .bool yf, .int .u64 yv, .int .u8 yg] rfl hc ?_)) | (with_reducible show wpList _ _ _ ({ dst := _, op := Op.store 27 _ _, type := _, pos := _, after := _, guard := none } :: _) _ _; go_must (refine wpList_store_blk rfl _ _ _ rfl rfl wr.heap.size 0 rfl [.int .u8 yc, .int .u32 ys, .int .u64 ykey, .int .u8 yk, .bool yf, .int .u64 yv, .int .u8 yg] rfl _ sz_rep rfl rfl _ _ hWz rfl [.int .u8 yc, .int .u32 ys, .int .u64 ykey, .int .u8 yk, .bool yf, .int .u64 yv, .int .u8 yg] rfl ?_; intro w2 hW2 hO2; have hT2 := hTz.trans (hO2.below (Nat.le_refl _)))) | (with_reducible show wpList _ _ _ ({ dst := some 91, op := Op.load 27 _, type := _, pos := _, after := _, guard := none } :: _) _ _; go_must (refine wpList_load_blk rfl _ _ rfl wr.heap.size 0 rfl 7 _ Try.underlying27 rfl sz_rep _ _ hW2 rfl [.int .u8 yc, .int .u32 ys, .int .u64 ykey, .int .u8 yk, .bool yf, .int .u64 yv, .int .u8 yg] rfl ?_)) | (go_at_call 87; go_must (refine (ref_reply _ _ _ _ _ _ _ _ (by omega) (by omega)).mono ?_; rintro e w3 ⟨rfl, hbel3⟩; have hT3 := later_trans hT2 hbel3; have hB3 : ∀ o, w3.cell? ⟨w.heap.size, o, none⟩ = _ := fun o => (later_cell hT3 hzW o).trans (hBq o); have hW3 := blk_later hbel3 hW2; have hD3 := blk_cell hW3)))
            have hz3 : w.heap.size < w3.heap.size := Nat.lt_of_lt_of_le hzW hT3.size
            have hzb : b < w3.heap.size := Nat.lt_of_lt_of_le hbB hT3.size
            have he0 := (later_cell hT3 hbB _).trans hd0
            have he1 := (later_cell hT3 hbB _).trans hd1
            have he2 := (later_cell hT3 hbB _).trans hd2
            have he3 := (later_cell hT3 hbB _).trans hd3
            have he4 := (later_cell hT3 hbB _).trans hd4
            have he5 := (later_cell hT3 hbB _).trans hd5
            have he6 := (later_cell hT3 hbB _).trans hd6
            have MK3 : Hid (∀ w', Below w3.heap.size w3 w' → (Below w3.heap.size w3 w' ∧ w'.cell? ⟨w.heap.size, 6, none⟩ = some (.slice (some ⟨b, off, none⟩) rdn rdc) ∧ w'.cell? ⟨wr.heap.size, 0, none⟩ = some (.int .u8 yc) ∧ w'.cell? ⟨wr.heap.size, 1, none⟩ = some (.int .u32 ys) ∧ w'.cell? ⟨wr.heap.size, 2, none⟩ = some (.int .u64 ykey) ∧ w'.cell? ⟨wr.heap.size, 3, none⟩ = some (.int .u8 yk) ∧ w'.cell? ⟨wr.heap.size, 4, none⟩ = some (.bool yf) ∧ w'.cell? ⟨wr.heap.size, 5, none⟩ = some (.int .u64 yv) ∧ w'.cell? ⟨wr.heap.size, 6, none⟩ = some (.int .u8 yg) ∧ w'.cell? ⟨b, off + i * 7, none⟩ = some (.int .u8 zc) ∧ w'.cell? ⟨b, off + i * 7 + 1, none⟩ = some (.int .u32 zs) ∧ w'.cell? ⟨b, off + i * 7 + 2, none⟩ = some (.int .u64 zkey) ∧ w'.cell? ⟨b, off + i * 7 + 3, none⟩ = some (.int .u8 zk) ∧ w'.cell? ⟨b, off + i * 7 + 4, none⟩ = some (.bool zf) ∧ w'.cell? ⟨b, off + i * 7 + 5, none⟩ = some (.int .u64 zv) ∧ w'.cell? ⟨b, off + i * 7 + 6, none⟩ = some (.int .u8 zg))) := fun w' hb => ⟨hb, (later_cell hb hz3 _).trans (hB3 6), blk hb hW3 0, blk hb hW3 1, blk hb hW3 2, blk hb hW3 3, blk hb hW3 4, blk hb hW3 5, blk hb hW3 6, (later_cell hb hzb _).trans he0, (later_cell hb hzb _).trans he1, (later_cell hb hzb _).trans he2, (later_cell hb hzb _).trans he3, (later_cell hb hzb _).trans he4, (later_cell hb hzb _).trans he5, (later_cell hb hzb _).trans he6⟩
            have hwi : IntKind.i64.wrap (i : Int) = (i : Int) := IntWalk.i64_in _ ⟨by omega, by omega⟩
            have hi0 : (0 : Int) ≤ (i : Int) := by omega
            have hi1 : (i : Int) < (rdn : Int) := by omega
            have hi2 : i < rdn := by omega
            go_region_held3 (fun w' => Below w3.heap.size w3 w' ∧ w'.cell? ⟨w.heap.size, 6, none⟩ = some (.slice (some ⟨b, off, none⟩) rdn rdc) ∧ w'.cell? ⟨wr.heap.size, 0, none⟩ = some (.int .u8 yc) ∧ w'.cell? ⟨wr.heap.size, 1, none⟩ = some (.int .u32 ys) ∧ w'.cell? ⟨wr.heap.size, 2, none⟩ = some (.int .u64 ykey) ∧ w'.cell? ⟨wr.heap.size, 3, none⟩ = some (.int .u8 yk) ∧ w'.cell? ⟨wr.heap.size, 4, none⟩ = some (.bool yf) ∧ w'.cell? ⟨wr.heap.size, 5, none⟩ = some (.int .u64 yv) ∧ w'.cell? ⟨wr.heap.size, 6, none⟩ = some (.int .u8 yg) ∧ w'.cell? ⟨b, off + i * 7, none⟩ = some (.int .u8 zc) ∧ w'.cell? ⟨b, off + i * 7 + 1, none⟩ = some (.int .u32 zs) ∧ w'.cell? ⟨b, off + i * 7 + 2, none⟩ = some (.int .u64 zkey) ∧ w'.cell? ⟨b, off + i * 7 + 3, none⟩ = some (.int .u8 zk) ∧ w'.cell? ⟨b, off + i * 7 + 4, none⟩ = some (.bool zf) ∧ w'.cell? ⟨b, off + i * 7 + 5, none⟩ = some (.int .u64 zv) ∧ w'.cell? ⟨b, off + i * 7 + 6, none⟩ = some (.int .u8 zg)) (first | exact MK3.out _ (Below.refl _ _).drew | exact MK3.out _ (held_next (by assumption) (by assumption))) (first | (go_at_call 131; refine (ref_behind _ _ _ _ _ _ _ _ _ _ _ _ _ _ _).mono ?_; rintro e w4 ⟨rfl, hbel4⟩))
            go_wp2
            · go_ret
              have hah : ahead (Rep.mk zc zs zkey zk zf zv zg) (Rep.mk yc ys ykey yk yf yv yg) = false := by simpa using (show (!ahead (Rep.mk zc zs zkey zk zf zv zg) (Rep.mk yc ys ykey yk yf yv yg)) = true by assumption)
              exact ⟨ret_bool (by rw [Rng.ok]; dsimp only; rw [dups_bad (k := i + 1) (by rw [← HDN.out]; exact hlj) (by rw [dupAt_val HY.out hj0 HZ.out, hah, Bool.and_false])]; simp), later_trans hW1 (later_trans hnq (held_done hT3 (by assumption)))⟩
            · have hah : ahead (Rep.mk zc zs zkey zk zf zv zg) (Rep.mk yc ys ykey yk yf yv yg) = true := by simpa using (show (!ahead (Rep.mk zc zs zkey zk zf zv zg) (Rep.mk yc ys ykey yk yf yv yg)) = false by assumption)
              go_roundw
              case rel => exact ⟨i + 1 + 1, by omega, by go_num, all_next HA2.out (by rw [dupAt_val HY.out hj0 HZ.out, hah]; simp [t0, HKP.out]; omega), later_trans hnq (held_done hT3 (by assumption))⟩
              case measure => simp [intOf]; omega
        · go_wp2
          go_ret
          have hj' : j = rdn := by omega
          refine ⟨ret_bool ?_, later_trans hW1 hnq⟩
          have h3 := HA2.out; have h4 := HDN.out; have h5 := HH.out; have h6 := HRO.out
          rw [hj', h4] at h3
          simp only [Rng.ok, h5.1, h5.2.1, h5.2.2.1, h5.2.2.2, h6, dupsOk, h3, Bool.and_true, Bool.true_and]
          simp; omega

end Go.Proofs.Ytignemioillaiaa
