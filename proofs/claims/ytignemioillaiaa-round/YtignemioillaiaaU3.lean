/- handoverkeep: a request that is right, out of a raw one. Round: rising keys make a right range; an append as a step of a region that draws its order. -/
import Derived.Test.YtignemioillaiaaRows
import Derived.Test.YtignemioillaiaaD4
import Derived.Test.YtignemioillaiaaP
import Derived.Test.YtignemioillaiaaF4
import Derived.WalkLawsBesides
import Derived.Deep.RegionHeld3
import Derived.Deep.CutRange
import Derived.Test.YtignemioillaiaaB
import Derived.Deep.RegionLaw
namespace Go.Proofs.Ytignemioillaiaa
open Go.RowKit

def keyOf (n : Int) : Int := if n % 11 = 10 then 18446744073709551615 else n % 11

def rightOf (q : Req) : Req := ⟨q.c % 3, 1 + q.s % 9, 1 + q.k % 4, keyOf q.key, if 1 + q.k % 4 = 2 then q.v else 0, if 1 + q.k % 4 = 4 then max (keyOf q.hi) (keyOf q.key) else 0, if 1 + q.k % 4 = 4 then q.to % 4 else 0⟩

theorem keyOf_in (n : Int) (_h : 0 ≤ n) : 0 ≤ keyOf n ∧ keyOf n < 18446744073709551616 := by
  unfold keyOf; split <;> omega

theorem rightOf_wf {q : Req} (h : q.wf) : (rightOf q).wf := by
  obtain ⟨h1, h2, h3, h4, h5, h6, h7⟩ := h
  simp only [U8, U32, U64] at *
  have k1 := keyOf_in q.key h4.1
  have k2 := keyOf_in q.hi h6.1
  refine ⟨?_, ?_, ?_, ?_, ?_, ?_, ?_⟩ <;> simp only [U8, U32, U64, rightOf] <;> (try split) <;> omega

theorem rightOf_ok {q : Req} (h : q.wf) : (rightOf q).ok = true := by
  obtain ⟨h1, h2, h3, h4, h5, h6, h7⟩ := h
  simp only [U8, U32, U64] at *
  have e1 : decide (q.c % 3 < 4) = true := by simp; omega
  have e2 : decide (1 ≤ 1 + q.s % 9) = true := by simp; omega
  unfold Req.ok
  show (decide (q.c % 3 < 4) && decide (1 ≤ 1 + q.s % 9) && _) = true
  rw [e1, e2]
  simp only [rightOf, Bool.and_true, Bool.true_and]
  obtain hk | hk | hk | hk : q.k % 4 = 0 ∨ q.k % 4 = 1 ∨ q.k % 4 = 2 ∨ q.k % 4 = 3 := by omega
  · simp [hk]
  · simp [hk]
  · simp [hk]
  · have : keyOf q.key ≤ max (keyOf q.hi) (keyOf q.key) := by omega
    have : q.to % 4 < 4 := by omega
    simp [hk]; omega

theorem mod_11 {n : Int} (h : 0 ≤ n ∧ n < 18446744073709551616) : IntKind.u64.wrap (n.tmod 11) = n % 11 := by
  have e : IntKind.u64.wrap (n.tmod 11) = (n.tmod 11) % 18446744073709551616 := rfl
  rw [e, Int.tmod_eq_emod_of_nonneg h.1]; omega

set_option maxRecDepth 100000 in
theorem key_any (n : Int) (w : World) (h : 0 ≤ n ∧ n < 18446744073709551616) :
    Calls Try.prog 63 #[.int .u64 n] w fun e w' => e = .returned (.int .u64 (keyOf n)) ∧ w' = w := by
  have hm := mod_11 h
  by_cases h1 : n % 11 = 10
  · have e1 : (n % 11 == 10) = true := by simp [h1]
    have e2 : keyOf n = 18446744073709551615 := by unfold keyOf; rw [if_pos h1]
    go_enter Try.func63, Try.ntmps63
    go_wp2_with fail
    go_ret
    exact ⟨by rw [e2]; rfl, rfl⟩
  · have e1 : (n % 11 == 10) = false := by simp [h1]
    have e2 : keyOf n = n % 11 := by unfold keyOf; rw [if_neg h1]
    go_enter Try.func63, Try.ntmps63
    go_wp2_with fail
    go_ret
    exact ⟨by rw [e2]; rfl, rfl⟩

theorem hideU {p : Prop} (h : p) : Hid p := h
theorem cell_only {B b : Nat} {w w' : World} (h : Only B w w') (hb : b ≠ B) (o : Nat) : w'.cell? ⟨b, o, none⟩ = w.cell? ⟨b, o, none⟩ := by
  unfold World.cell?; rw [h.block b hb]
theorem held_nextU {W a b : World} {X : Prop} (h : Below W.heap.size W a ∧ X) (k : Below a.heap.size a b) : Below W.heap.size W b := later_trans h.1 k
theorem held_drewU {W a : World} {X : Prop} (h : Below W.heap.size W a ∧ X) : Below W.heap.size W a.drew := h.1.drew
theorem heap_alloc2_oldU (w : World) (o p : Obj) : ((w.alloc o).alloc p).heap[w.heap.size]? = some o := heap_alloc2_old w o p
theorem heap_alloc2_newU (w : World) (o p : Obj) : ((w.alloc o).alloc p).heap[w.heap.size + 1]? = some p := heap_alloc2_new w o p

set_option maxHeartbeats 2000000 in
set_option maxRecDepth 100000 in
theorem right_any (qc qs qk qkey qv qhi qto : Int) (w : World) (h : (Req.mk qc qs qk qkey qv qhi qto).wf) :
    Calls Try.prog 26 #[.agg #[.int .u8 qc, .int .u32 qs, .int .u8 qk, .int .u64 qkey, .int .u64 qv, .int .u64 qhi, .int .u8 qto]] w fun e w' => e = .returned (.agg (rightOf (Req.mk qc qs qk qkey qv qhi qto)).cells.toArray) ∧ Below w.heap.size w w' := by
  obtain ⟨h1, h2, h3, h4, h5, h6, h7⟩ := h
  simp only [U8, U32, U64] at h1 h2 h3 h4 h5 h6 h7
  have m1 : qc.tmod 3 = qc % 3 := Int.tmod_eq_emod_of_nonneg h1.1
  have m2 : qs.tmod 9 = qs % 9 := Int.tmod_eq_emod_of_nonneg h2.1
  have m3 : qk.tmod 4 = qk % 4 := Int.tmod_eq_emod_of_nonneg h3.1
  have m4 : qto.tmod 4 = qto % 4 := Int.tmod_eq_emod_of_nonneg h7.1
  have m5 : IntKind.u32.wrap (1 + qs % 9) = 1 + qs % 9 := by have e : IntKind.u32.wrap (1 + qs % 9) = (1 + qs % 9) % 4294967296 := rfl; rw [e]; omega
  have m6 : IntKind.u8.wrap (1 + qk % 4) = 1 + qk % 4 := by have e : IntKind.u8.wrap (1 + qk % 4) = (1 + qk % 4) % 256 := rfl; rw [e]; omega
  have hK := key_any qkey
  have hH := key_any qhi
  obtain ⟨W, hW⟩ : ∃ W, W = (w.alloc (.cells #[.int .u8 qc, .int .u32 qs, .int .u8 qk, .int .u64 qkey, .int .u64 qv, .int .u64 qhi, .int .u8 qto] 25)).alloc (.cells #[.int .u8 0, .int .u32 0, .int .u8 0, .int .u64 0, .int .u64 0, .int .u64 0, .int .u8 0] 25) := ⟨_, rfl⟩
  have hWb : W.heap[w.heap.size]? = some (.cells #[.int .u8 qc, .int .u32 qs, .int .u8 qk, .int .u64 qkey, .int .u64 qv, .int .u64 qhi, .int .u8 qto] 25) := by rw [hW]; exact heap_alloc2_oldU w _ _
  have hWr : W.heap[w.heap.size + 1]? = some (.cells #[.int .u8 0, .int .u32 0, .int .u8 0, .int .u64 0, .int .u64 0, .int .u64 0, .int .u8 0] 25) := by rw [hW]; exact heap_alloc2_newU w _ _
  have hWl : Below w.heap.size w W := by rw [hW]; exact later_trans (later_alloc w _) (later_alloc _ _)
  have MK : Hid (∀ w', Below W.heap.size W w' → (Below W.heap.size W w' ∧ w'.cell? ⟨w.heap.size, 0, none⟩ = some (.int .u8 qc) ∧ w'.cell? ⟨w.heap.size, 1, none⟩ = some (.int .u32 qs) ∧ w'.cell? ⟨w.heap.size, 2, none⟩ = some (.int .u8 qk) ∧ w'.cell? ⟨w.heap.size, 3, none⟩ = some (.int .u64 qkey) ∧ w'.cell? ⟨w.heap.size, 4, none⟩ = some (.int .u64 qv) ∧ w'.cell? ⟨w.heap.size, 5, none⟩ = some (.int .u64 qhi) ∧ w'.cell? ⟨w.heap.size, 6, none⟩ = some (.int .u8 qto))) := fun w' hb => ⟨hb, blk hb hWb 0, blk hb hWb 1, blk hb hWb 2, blk hb hWb 3, blk hb hWb 4, blk hb hWb 5, blk hb hWb 6⟩
  have HR : Hid (W.heap[w.heap.size + 1]? = some (.cells #[.int .u8 0, .int .u32 0, .int .u8 0, .int .u64 0, .int .u64 0, .int .u64 0, .int .u8 0] 25)) := hWr
  clear hWr
  go_enter Try.func26, Try.ntmps26
  go_wp2_with fail
  rw [← hW]
  clear hW hWb
  go_cut [3] from 4 (fun s wx => ∃ b, s = .pointer (some ⟨b, 0, none⟩) ∧ W.heap.size ≤ b ∧ Below W.heap.size W wx ∧ wx.heap[b]? = some (.cells #[.int .u8 (qc % 3), .int .u32 (1 + qs % 9), .int .u8 (1 + qk % 4), .int .u64 (keyOf qkey), .int .u64 0, .int .u64 0, .int .u8 0] 25))
  case first =>
    go_region_held3 (fun w' => Below W.heap.size W w' ∧ w'.cell? ⟨w.heap.size, 0, none⟩ = some (.int .u8 qc) ∧ w'.cell? ⟨w.heap.size, 1, none⟩ = some (.int .u32 qs) ∧ w'.cell? ⟨w.heap.size, 2, none⟩ = some (.int .u8 qk) ∧ w'.cell? ⟨w.heap.size, 3, none⟩ = some (.int .u64 qkey) ∧ w'.cell? ⟨w.heap.size, 4, none⟩ = some (.int .u64 qv) ∧ w'.cell? ⟨w.heap.size, 5, none⟩ = some (.int .u64 qhi) ∧ w'.cell? ⟨w.heap.size, 6, none⟩ = some (.int .u8 qto)) (first | exact MK.out _ (Below.refl _ _).drew | exact MK.out _ (later_alloc _ _).drew | assumption | exact MK.out _ (held_drewU (by assumption)) | exact MK.out _ (held_nextU (by assumption) (later_alloc _ _))) (first | (go_at_call 63; refine (hK _ h4).mono ?_; rintro e w1 ⟨rfl, rfl⟩))
    all_goals (go_wp2_with fail; go_meet; exact ⟨_, rfl, Nat.le_refl _, (later_alloc _ _).drew, heap_alloc_new W _⟩)
  case rest =>
    clear m1 m2 m3 m5 m6 hK
    obtain ⟨b, rfl, hbW, hbw, hB⟩ := hcut
    obtain ⟨c1, hc1⟩ : ∃ x, qc % 3 = x := ⟨_, rfl⟩
    obtain ⟨s1, hs1⟩ : ∃ x, 1 + qs % 9 = x := ⟨_, rfl⟩
    obtain ⟨k1, hk1⟩ : ∃ x, 1 + qk % 4 = x := ⟨_, rfl⟩
    obtain ⟨key1, hkey1⟩ : ∃ x, keyOf qkey = x := ⟨_, rfl⟩
    obtain ⟨hi1, hhi1⟩ : ∃ x, keyOf qhi = x := ⟨_, rfl⟩
    have hz : k1 = 1 ∨ k1 = 2 ∨ k1 = 3 ∨ k1 = 4 := by omega
    rw [hc1, hs1, hk1, hkey1] at hB
    have HRO : Hid (rightOf (Req.mk qc qs qk qkey qv qhi qto) = ⟨c1, s1, k1, key1, if k1 = 2 then qv else 0, if k1 = 4 then max hi1 key1 else 0, if k1 = 4 then qto % 4 else 0⟩) := by
      show rightOf _ = _
      unfold rightOf
      simp only [hc1, hs1, hk1, hkey1, hhi1]
    have hneR : w.heap.size + 1 < b := by have := (Array.getElem?_eq_some_iff.1 HR.out).1; omega
    rw [hhi1] at hH
    clear hc1 hs1 hk1 hkey1 hhi1
    have hR := blk_later hbw HR.out
    have hMK := MK.out _ hbw
    have hcB := blk_cell hB
    have hfr := blkF (Below.refl _ wc) hB
    obtain ⟨_, hq0, hq1, hq2, hq3, hq4, hq5, hq6⟩ := hMK
    have hwb : w.heap.size ≠ b := by omega
    clear hfr
    rcases hz with h | h | h | h
    · have d2 : (k1 == 2) = false := by rw [h]; rfl
      have d4 : (k1 == 4) = false := by rw [h]; rfl
      have H := hideU h
      clear h
      go_wp2_with (first | (with_reducible show wpList _ _ _ ({ dst := some 44, op := Op.load 25 _, type := _, pos := _, after := _, guard := none } :: _) _ _; go_must (refine wpList_load_blk rfl _ _ rfl b 0 rfl 7 _ Try.underlying25 rfl sz_req _ _ hB rfl [.int .u8 c1, .int .u32 s1, .int .u8 k1, .int .u64 key1, .int .u64 0, .int .u64 0, .int .u8 0] rfl ?_)) | (with_reducible show wpList _ _ _ ({ dst := none, op := Op.store 25 _ _, type := _, pos := _, after := _, guard := none } :: _) _ _; go_must (refine wpList_store_blk rfl _ _ _ rfl rfl (w.heap.size + 1) 0 rfl [.int .u8 c1, .int .u32 s1, .int .u8 k1, .int .u64 key1, .int .u64 0, .int .u64 0, .int .u8 0] rfl _ sz_req rfl rfl _ _ hR rfl [.int .u8 c1, .int .u32 s1, .int .u8 k1, .int .u64 key1, .int .u64 0, .int .u64 0, .int .u8 0] rfl ?_; intro w9 hW9 hO9)))
      refine bodyPost_ret (v := .agg #[.int .u8 c1, .int .u32 s1, .int .u8 k1, .int .u64 key1, .int .u64 0, .int .u64 0, .int .u8 0]) (results_cell_row Try.results26 _ _ (w.heap.size + 1) 25 _ (0, 0) _ rfl hW9 Try.underlying25 rfl sz_req) rfl ⟨?_, (later_trans hWl hbw).trans (hO9.below (Nat.le_succ _))⟩
      rw [HRO.out, H.out]; rfl
    · have d2 : (k1 == 2) = true := by rw [h]; rfl
      have H := hideU h
      clear h
      go_wp2_with (first | (with_reducible show wpList _ _ _ ({ dst := none, op := Op.store 23 _ _, type := _, pos := _, after := _, guard := none } :: _) _ _; go_must (refine wpList_store_cell rfl _ _ _ rfl rfl b 4 rfl (.int .u64 qv) rfl sz_u64 rfl _ _ hB rfl [.int .u8 c1, .int .u32 s1, .int .u8 k1, .int .u64 key1, .int .u64 qv, .int .u64 0, .int .u8 0] rfl ?_; intro w5 hW5 hO5; have hR5 := (hO5.block (w.heap.size + 1) (by omega)).trans hR)) | (with_reducible show wpList _ _ _ ({ dst := some 44, op := Op.load 25 _, type := _, pos := _, after := _, guard := none } :: _) _ _; go_must (refine wpList_load_blk rfl _ _ rfl b 0 rfl 7 _ Try.underlying25 rfl sz_req _ _ hW5 rfl [.int .u8 c1, .int .u32 s1, .int .u8 k1, .int .u64 key1, .int .u64 qv, .int .u64 0, .int .u8 0] rfl ?_)) | (with_reducible show wpList _ _ _ ({ dst := none, op := Op.store 25 _ _, type := _, pos := _, after := _, guard := none } :: _) _ _; go_must (refine wpList_store_blk rfl _ _ _ rfl rfl (w.heap.size + 1) 0 rfl [.int .u8 c1, .int .u32 s1, .int .u8 k1, .int .u64 key1, .int .u64 qv, .int .u64 0, .int .u8 0] rfl _ sz_req rfl rfl _ _ hR5 rfl [.int .u8 c1, .int .u32 s1, .int .u8 k1, .int .u64 key1, .int .u64 qv, .int .u64 0, .int .u8 0] rfl ?_; intro w9 hW9 hO9)))
      refine bodyPost_ret (v := .agg #[.int .u8 c1, .int .u32 s1, .int .u8 k1, .int .u64 key1, .int .u64 qv, .int .u64 0, .int .u8 0]) (results_cell_row Try.results26 _ _ (w.heap.size + 1) 25 _ (0, 0) _ rfl hW9 Try.underlying25 rfl sz_req) rfl ⟨?_, ((later_trans hWl hbw).trans (hO5.below (by omega))).trans (hO9.below (Nat.le_succ _))⟩
      rw [HRO.out, H.out]; rfl
    · have d2 : (k1 == 2) = false := by rw [h]; rfl
      have d4 : (k1 == 4) = false := by rw [h]; rfl
      have H := hideU h
      clear h
      go_wp2_with (first | (with_reducible show wpList _ _ _ ({ dst := some 44, op := Op.load 25 _, type := _, pos := _, after := _, guard := none } :: _) _ _; go_must (refine wpList_load_blk rfl _ _ rfl b 0 rfl 7 _ Try.underlying25 rfl sz_req _ _ hB rfl [.int .u8 c1, .int .u32 s1, .int .u8 k1, .int .u64 key1, .int .u64 0, .int .u64 0, .int .u8 0] rfl ?_)) | (with_reducible show wpList _ _ _ ({ dst := none, op := Op.store 25 _ _, type := _, pos := _, after := _, guard := none } :: _) _ _; go_must (refine wpList_store_blk rfl _ _ _ rfl rfl (w.heap.size + 1) 0 rfl [.int .u8 c1, .int .u32 s1, .int .u8 k1, .int .u64 key1, .int .u64 0, .int .u64 0, .int .u8 0] rfl _ sz_req rfl rfl _ _ hR rfl [.int .u8 c1, .int .u32 s1, .int .u8 k1, .int .u64 key1, .int .u64 0, .int .u64 0, .int .u8 0] rfl ?_; intro w9 hW9 hO9)))
      refine bodyPost_ret (v := .agg #[.int .u8 c1, .int .u32 s1, .int .u8 k1, .int .u64 key1, .int .u64 0, .int .u64 0, .int .u8 0]) (results_cell_row Try.results26 _ _ (w.heap.size + 1) 25 _ (0, 0) _ rfl hW9 Try.underlying25 rfl sz_req) rfl ⟨?_, (later_trans hWl hbw).trans (hO9.below (Nat.le_succ _))⟩
      rw [HRO.out, H.out]; rfl
    · have d2 : (k1 == 2) = false := by rw [h]; rfl
      have d4 : (k1 == 4) = true := by rw [h]; rfl
      have H := hideU h
      clear h
      go_upto_region 7 with (first | (go_at_call 63; go_must (refine (hH _ h6).mono ?_; rintro e w1 ⟨rfl, rfl⟩)) | (with_reducible show wpList _ _ _ ({ dst := none, op := Op.store 23 _ _, type := _, pos := _, after := _, guard := none } :: _) _ _; go_must (refine wpList_store_cell rfl _ _ _ rfl rfl b 5 rfl (.int .u64 hi1) rfl sz_u64 rfl _ _ hB rfl [.int .u8 c1, .int .u32 s1, .int .u8 k1, .int .u64 key1, .int .u64 0, .int .u64 hi1, .int .u8 0] rfl ?_; intro w5 hW5 hO5; have hR5 := (hO5.block (w.heap.size + 1) (by omega)).trans hR; have hc5 := blk_cell hW5; have hto := (cell_only hO5 hwb 6).trans hq6)))
      clear hcB hq0 hq1 hq2 hq3 hq4 hq5 hq6 hB hR
      have hT5 := (later_trans hWl hbw).trans (hO5.below (show w.heap.size ≤ b by omega))
      by_cases hl : hi1 < key1
      · have dl : decide (hi1 < key1) = true := by simp; omega
        have emax : max hi1 key1 = key1 := by omega
        go_wp2_with (first | (with_reducible show wpList _ _ _ ({ dst := none, op := Op.store 23 _ _, type := _, pos := _, after := _, guard := none } :: _) _ _; go_must (refine wpList_store_cell rfl _ _ _ rfl rfl b 5 rfl (.int .u64 key1) rfl sz_u64 rfl _ _ hW5 rfl [.int .u8 c1, .int .u32 s1, .int .u8 k1, .int .u64 key1, .int .u64 0, .int .u64 key1, .int .u8 0] rfl ?_; intro w6 hW6 hO6; have hR6 := (hO6.block (w.heap.size + 1) (by omega)).trans hR5; have hto6 := (cell_only hO6 hwb 6).trans hto; have hT6 := hT5.trans (hO6.below (show w.heap.size ≤ b by omega)))) | (with_reducible show wpList _ _ _ ({ dst := none, op := Op.store 5 _ _, type := _, pos := _, after := _, guard := none } :: _) _ _; go_must (refine wpList_store_cell rfl _ _ _ rfl rfl b 6 rfl (.int .u8 (qto % 4)) rfl sz_u8 rfl _ _ hW6 rfl [.int .u8 c1, .int .u32 s1, .int .u8 k1, .int .u64 key1, .int .u64 0, .int .u64 key1, .int .u8 (qto % 4)] rfl ?_; intro w7 hW7 hO7; have hR7 := (hO7.block (w.heap.size + 1) (by omega)).trans hR6)) | (with_reducible show wpList _ _ _ ({ dst := some 44, op := Op.load 25 _, type := _, pos := _, after := _, guard := none } :: _) _ _; go_must (refine wpList_load_blk rfl _ _ rfl b 0 rfl 7 _ Try.underlying25 rfl sz_req _ _ hW7 rfl [.int .u8 c1, .int .u32 s1, .int .u8 k1, .int .u64 key1, .int .u64 0, .int .u64 key1, .int .u8 (qto % 4)] rfl ?_)) | (with_reducible show wpList _ _ _ ({ dst := none, op := Op.store 25 _ _, type := _, pos := _, after := _, guard := none } :: _) _ _; go_must (refine wpList_store_blk rfl _ _ _ rfl rfl (w.heap.size + 1) 0 rfl [.int .u8 c1, .int .u32 s1, .int .u8 k1, .int .u64 key1, .int .u64 0, .int .u64 key1, .int .u8 (qto % 4)] rfl _ sz_req rfl rfl _ _ hR7 rfl [.int .u8 c1, .int .u32 s1, .int .u8 k1, .int .u64 key1, .int .u64 0, .int .u64 key1, .int .u8 (qto % 4)] rfl ?_; intro w9 hW9 hO9)))
        refine bodyPost_ret (v := .agg #[.int .u8 c1, .int .u32 s1, .int .u8 k1, .int .u64 key1, .int .u64 0, .int .u64 key1, .int .u8 (qto % 4)]) (results_cell_row Try.results26 _ _ (w.heap.size + 1) 25 _ (0, 0) _ rfl hW9 Try.underlying25 rfl sz_req) rfl ⟨?_, (hT6.trans (hO7.below (by omega))).trans (hO9.below (Nat.le_succ _))⟩
        rw [HRO.out, H.out, emax]; rfl
      · have dl : decide (hi1 < key1) = false := by simp; omega
        have emax : max hi1 key1 = hi1 := by omega
        go_wp2_with (first | (with_reducible show wpList _ _ _ ({ dst := none, op := Op.store 5 _ _, type := _, pos := _, after := _, guard := none } :: _) _ _; go_must (refine wpList_store_cell rfl _ _ _ rfl rfl b 6 rfl (.int .u8 (qto % 4)) rfl sz_u8 rfl _ _ hW5 rfl [.int .u8 c1, .int .u32 s1, .int .u8 k1, .int .u64 key1, .int .u64 0, .int .u64 hi1, .int .u8 (qto % 4)] rfl ?_; intro w7 hW7 hO7; have hR7 := (hO7.block (w.heap.size + 1) (by omega)).trans hR5)) | (with_reducible show wpList _ _ _ ({ dst := some 44, op := Op.load 25 _, type := _, pos := _, after := _, guard := none } :: _) _ _; go_must (refine wpList_load_blk rfl _ _ rfl b 0 rfl 7 _ Try.underlying25 rfl sz_req _ _ hW7 rfl [.int .u8 c1, .int .u32 s1, .int .u8 k1, .int .u64 key1, .int .u64 0, .int .u64 hi1, .int .u8 (qto % 4)] rfl ?_)) | (with_reducible show wpList _ _ _ ({ dst := none, op := Op.store 25 _ _, type := _, pos := _, after := _, guard := none } :: _) _ _; go_must (refine wpList_store_blk rfl _ _ _ rfl rfl (w.heap.size + 1) 0 rfl [.int .u8 c1, .int .u32 s1, .int .u8 k1, .int .u64 key1, .int .u64 0, .int .u64 hi1, .int .u8 (qto % 4)] rfl _ sz_req rfl rfl _ _ hR7 rfl [.int .u8 c1, .int .u32 s1, .int .u8 k1, .int .u64 key1, .int .u64 0, .int .u64 hi1, .int .u8 (qto % 4)] rfl ?_; intro w9 hW9 hO9)))
        refine bodyPost_ret (v := .agg #[.int .u8 c1, .int .u32 s1, .int .u8 k1, .int .u64 key1, .int .u64 0, .int .u64 hi1, .int .u8 (qto % 4)]) (results_cell_row Try.results26 _ _ (w.heap.size + 1) 25 _ (0, 0) _ rfl hW9 Try.underlying25 rfl sz_req) rfl ⟨?_, (hT5.trans (hO7.below (by omega))).trans (hO9.below (Nat.le_succ _))⟩
        rw [HRO.out, H.out, emax]; rfl

end Go.Proofs.Ytignemioillaiaa

namespace Go.Proofs.Ytignemioillaiaa
open Go.RowKit

theorem step_append_new {P : Program} {ops : Array Oper} {o : Oper} {a : Act} {w : World} {K : Act → World → Prop} {Q : Exit → Act → World → Prop} {E : Prop} (hgd : o.guard = none) (s x : Operand) (t : TypeId)
    (ho : o.op = .call { callee := .builtin .append, args := #[s, x], argTypes := #[t, t] })
    (base : Nat) (e : TypeId) (i : TypeInfo) (z : Value) (size bytes : Nat) (ht : P.underlying t = some (.slice e)) (hi : P.info? e = some i) (hz : i.zero = some z)
    (hsize : i.size = size) (hby : i.bytes = bytes) (hzs : z.cells.size = size) (hsz : 0 < size) (v : Value) (n : Nat) (xs : List Value) (hs : a.eval s = v) (hown : w.ownsRow base e size v n xs)
    (ad : Addr) (m c : Nat) (news : List Value) (hx : a.eval x = .slice (some ad) m c) (hl : news.length = m * size) (hnews : ∀ j u, news[j]? = some u → w.cell? (ad.add j) = some u) (h1 : ∀ u ∈ news, u.oneCell' = true)
    (h63 : n + m ≤ maxLen) (hbytes : (n + m) * bytes ≤ 140737488355328) (hbase : base ≤ w.heap.size)
    (h : ∀ v' w', w'.ownsRow base e size v' (n + m) (xs ++ news) → Grew w v w' v' → K (a.put o.dst v') w') :
    if Region.wanted o (yielded ops a.tmps) = true then Oper.wp P o a w K Q else E := by
  have hw : Region.wanted o (yielded ops a.tmps) = true := by simp [Region.wanted, hgd]
  rw [if_pos hw]
  obtain ⟨v', w', hr, h2, h3⟩ := run_append_new (P := P) w base t o.type e i z size bytes ht hi hz hsize hby hzs hsz v n xs hown ad m c news hl hnews h1 h63 hbytes hbase
  unfold Oper.wp execOp
  simp only [ho, resolve, invoke, builtin, Sem.run_bind, Sem.run_pure, Result.andThen_ok, List.map_toArray, List.map_cons, List.map_nil, hs, hx, hr]
  exact h v' w' h2 h3

/-- Rising keys within 64 bits. -/
structure Rise (ks : List Int) : Prop where
  lt : ∀ (i : Nat) (a b : Int), ks[i]? = some a → ks[i + 1]? = some b → a < b
  inn : ∀ (i : Nat) (a : Int), ks[i]? = some a → 0 ≤ a ∧ a < 18446744073709551616

theorem Rise.nil : Rise [] := ⟨by intro i a b h; simp at h, by intro i a h; simp at h⟩
theorem Rise.snoc {ks : List Int} {k : Int} (h : Rise ks) (hk : 0 ≤ k ∧ k < 18446744073709551616) (hl : ks = [] ∨ ∃ y, ks[ks.length - 1]? = some y ∧ y < k) : Rise (ks ++ [k]) := by
  refine ⟨fun i a b ha hb => ?_, fun i a ha => ?_⟩
  · have hi := (List.getElem?_eq_some_iff.1 hb).1
    simp at hi
    have hi' : i < ks.length := by omega
    rw [List.getElem?_append_left hi'] at ha
    by_cases h1 : i + 1 < ks.length
    · rw [List.getElem?_append_left h1] at hb
      exact h.lt i a b ha hb
    · have e : i + 1 = ks.length := by omega
      rw [e, List.getElem?_append_right (Nat.le_refl _)] at hb
      simp at hb
      subst hb
      rcases hl with rfl | ⟨y, hy, hyk⟩
      · simp at hi'
      · have : i = ks.length - 1 := by omega
        rw [this, hy] at ha
        simp at ha; omega
  · by_cases h1 : i < ks.length
    · rw [List.getElem?_append_left h1] at ha
      exact h.inn i a ha
    · have hi := (List.getElem?_eq_some_iff.1 ha).1
      simp at hi
      have e : i = ks.length := by omega
      rw [e, List.getElem?_append_right (Nat.le_refl _)] at ha
      simp at ha; omega

def rowOf (v : Int) (k : Int) : Row := ⟨k, v⟩
def dupOf (c v : Int) (k : Int) : Rep := ⟨c, 7, k, 1, true, v, 0⟩

theorem rise_rows {ks : List Int} (v : Int) (h : Rise ks) (hl : ks.length ≤ 255) : rowsOk 0 18446744073709551615 (ks.map (rowOf v)) = true := by
  unfold rowsOk
  simp only [List.length_map, Bool.and_eq_true, decide_eq_true_eq, List.all_eq_true, List.mem_range]
  refine ⟨hl, fun i hi => ?_⟩
  obtain ⟨k, hk⟩ : ∃ k, ks[i]? = some k := ⟨ks[i], by simp [hi]⟩
  have hb := h.inn i k hk
  unfold rowAt
  simp only [List.getElem?_map, hk, Option.map_some, rowOf, Bool.and_eq_true, decide_eq_true_eq, Bool.or_eq_true]
  refine ⟨⟨by omega, by omega⟩, ?_⟩
  by_cases h0 : i = 0
  · left; simp [h0]
  · right
    obtain ⟨j, rfl⟩ : ∃ j, i = j + 1 := ⟨i - 1, by omega⟩
    obtain ⟨y, hy⟩ : ∃ y, ks[j]? = some y := ⟨ks[j]'(by omega), by simp⟩
    have := h.lt j y k hy hk
    simp only [Nat.add_sub_cancel, hy, Option.map_some, decide_eq_true_eq]
    exact this

theorem rise_dups {ks : List Int} (c v : Int) (h : Rise ks) (hl : ks.length ≤ 255) (hc : c < 4) : dupsOk 0 18446744073709551615 (ks.map (dupOf c v)) = true := by
  unfold dupsOk
  simp only [List.length_map, Bool.and_eq_true, decide_eq_true_eq, List.all_eq_true, List.mem_range]
  refine ⟨hl, fun i hi => ?_⟩
  obtain ⟨k, hk⟩ : ∃ k, ks[i]? = some k := ⟨ks[i], by simp [hi]⟩
  have hb := h.inn i k hk
  unfold dupAt
  simp only [List.getElem?_map, hk, Option.map_some, dupOf, Bool.and_eq_true, decide_eq_true_eq, Bool.or_eq_true]
  refine ⟨⟨⟨⟨?_, rfl⟩, by omega⟩, by omega⟩, ?_⟩
  · unfold Rep.ok; simp [hc]
  · by_cases h0 : i = 0
    · left; simp [h0]
    · right
      obtain ⟨j, rfl⟩ : ∃ j, i = j + 1 := ⟨i - 1, by omega⟩
      obtain ⟨y, hy⟩ : ∃ y, ks[j]? = some y := ⟨ks[j]'(by omega), by simp⟩
      have := h.lt j y k hy hk
      simp only [Nat.add_sub_cancel, hy, Option.map_some]
      unfold ahead
      simp [dupOf, this]

theorem rise_rng {ks : List Int} {src dst seq : Int} (v c u : Int) (rs ds : Sl) (h : Rise ks) (hl : ks.length ≤ 255) (h1 : src < 4) (h2 : dst < 4) (h3 : 1 ≤ seq) (hc : c < 4) :
    Rng.ok ⟨src, dst, seq, 0, 18446744073709551615, rs, ds, ks.map (rowOf v), ks.map (dupOf c u)⟩ = true := by
  unfold Rng.ok
  simp only [rise_rows v h hl, rise_dups c u h hl hc]
  simp [h1, h2, h3]

theorem rise_wf {ks : List Int} {src dst seq : Int} {v c u : Int} {rs ds : Sl} (h : Rise ks) (h1 : U8 src) (h2 : U8 dst) (h3 : U32 seq) (hv : U64 v) (hc : U8 c) (hu : U64 u) :
    Rng.wf ⟨src, dst, seq, 0, 18446744073709551615, rs, ds, ks.map (rowOf v), ks.map (dupOf c u)⟩ := by
  refine ⟨h1, h2, h3, by unfold U64; dsimp only; omega, by unfold U64; dsimp only; omega, fun i x hx => ?_, fun i x hx => ?_⟩
  · simp only [List.getElem?_map, Option.map_eq_some_iff] at hx
    obtain ⟨k, hk, rfl⟩ := hx
    exact ⟨h.inn i k hk, hv⟩
  · simp only [List.getElem?_map, Option.map_eq_some_iff] at hx
    obtain ⟨k, hk, rfl⟩ := hx
    exact ⟨hc, by unfold U32; dsimp only [dupOf]; omega, h.inn i k hk, by unfold U8; dsimp only [dupOf]; omega, hu, by unfold U8; dsimp only [dupOf]; omega⟩

end Go.Proofs.Ytignemioillaiaa

