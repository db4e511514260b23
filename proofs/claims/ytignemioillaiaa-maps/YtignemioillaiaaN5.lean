/- Package ranges: behind. -/
import Derived.Test.YtignemioillaiaaN3
import Derived.Test.YtignemioillaiaaN2
namespace Go.Proofs.Ytignemioillaiaa
open Go.RowKit

theorem SlIn.up {B B' : Nat} {w : World} {s : Sl} {size : Nat} {xs : List (List Value)} (h : SlIn B w s size xs) (hB : B ≤ B') : SlIn B' w s size xs :=
  ⟨h.len, h.le, h.max, fun h0 => by
    obtain ⟨b, off, ha, hlt, hc⟩ := h.at' h0
    exact ⟨b, off, ha, by omega, hc⟩⟩

theorem fold_next {m : List Pc} {k : Nat} {x : Pc} (f : List Pc → Pc → List Pc) (L : List Pc) (hx : m[k]? = some x) : (m.take (k + 1)).foldl f L = f ((m.take k).foldl f L) x := by
  rw [List.take_add_one, hx]
  simp only [Option.toList_some, List.foldl_append, List.foldl_cons, List.foldl_nil]
theorem fold_len {m : List Pc} {k : Nat} {hi : Int} {L : List Pc} (hL : L.length ≤ 2000) (hm : m.length ≤ 1000) : ((m.take k).foldl (behStep hi) L).length ≤ 3000 := by
  have h1 := beh_len hi (m.take k) L
  have h2 : (m.take k).length ≤ m.length := by simp [List.length_take]; omega
  omega

set_option maxHeartbeats 400000 in
set_option maxRecDepth 100000 in
theorem behind_any (base : Nat) (a : Option Addr) (n c : Nat) (m : List Pc) (hi : Int) (v : Value) (L : List Pc) (w : World) (h : SlIn base w ⟨a, n, c⟩ 2 (m.map Pc.cells)) (hb0 : base ≤ w.heap.size) (hown : OwnP base w v L) (hm : m.length ≤ 1000) (hL : L.length ≤ 1001) (hcan : Can m) (h0 : 0 ≤ hi) (h1 : hi < 18446744073709551616) :
    Calls Try.prog 58 #[.slice a n c, .int .u64 hi, v] w fun e w' => ∃ v', e = .returned v' ∧ OwnP base w' v' (behL m hi L) ∧ Below base w w' := by
  have hlen : n = m.length := by simpa using h.len
  have hlm : n ≤ 1000 := by omega
  have HL : Hid (n = m.length) := hlen
  clear hlen
  by_cases hmax : hi = 18446744073709551615
  · subst hmax
    go_enter Try.func58, Try.ntmps58
    go_wp2
    go_ret
    exact ⟨_, rfl, hown, Below.refl _ _⟩
  obtain ⟨p, hp⟩ : ∃ x, m[0]? = some x := by
    cases m with
    | nil => exact hcan.elim
    | cons p t => exact ⟨p, rfl⟩
  have hmx : (hi == 18446744073709551615) = false := by simp [hmax]
  have hh : hi + 1 < 18446744073709551616 := by omega
  have hB : behL m hi L = m.foldl (behStep hi) (join L ⟨hi + 1, own p.g m (hi + 1)⟩) := by unfold behL; rw [if_neg hmax, can_any hcan (hi + 1) (by omega) 0 p.g]
  have hj := join_len L ⟨hi + 1, own p.g m (hi + 1)⟩
  have HC : Hid (m[0]? = some p) := hp
  rw [hB]
  clear hB hp hcan hmax
  generalize hog : own p.g m (hi + 1) = og at hj ⊢
  go_enter Try.func58, Try.ntmps58
  go_wp2_with (first | (go_at_call 55; go_must (refine (holder_any _ _ _ m _ p HC.out _ (h.up hb0)).mono ?_; rintro e w1 ⟨rfl, hb1⟩; rw [hog]; have ho1 := ownp_below hown hb1)) | (go_at_call 59; go_must (refine (join_any base _ _ _ _ _ ho1 (Nat.le_trans hb0 hb1.size) (by omega)).mono ?_; rintro e w2 ⟨v2, rfl, ho2, hg2⟩)))
  have hn2 : Below base w w2 := (hb1.mono hb0).trans (hg2.belowP ho1 (Nat.le_trans hb0 hb1.size))
  generalize hL1 : join L ⟨hi + 1, og⟩ = L1 at ho2 hj ⊢
  go_loopw [2, 23] (fun vb i wr => ∃ k : Nat, k ≤ n ∧ i = .int .i64 k ∧ OwnP base wr vb ((m.take k).foldl (behStep hi) L1) ∧ Below base w wr ∧ base ≤ wr.heap.size) (fun _ i _ => n - (intOf i).toNat)
  case atStart => exact ⟨0, Nat.zero_le _, rfl, ho2, hn2, Nat.le_trans hb0 (Nat.le_trans hb1.size hg2.grown.size)⟩
  case round =>
    obtain ⟨k, hk, rfl, hor, hnx, hbr⟩ := hrel
    by_cases hlt : k < n
    · obtain ⟨x, hx⟩ : ∃ x, m[k]? = some x := ⟨m[k]'(by rw [← HL.out]; exact hlt), by simp⟩
      have hS := h.below hnx (Nat.le_refl _)
      obtain ⟨b, off, ha, hbB, hc⟩ := hS.el (i := k) (x := x.cells) (by simp [hx])
      obtain rfl : a = some ⟨b, off, none⟩ := ha
      have HX : Hid (m[k]? = some x) := hx
      have HN : Hid (((m.take k).foldl (behStep hi) L1).length ≤ 3000) := fold_len (by omega) hm
      clear hx
      obtain ⟨xf, xg⟩ := x
      simp only [Pc.cells] at hc
      have hi1 : (0 : Int) ≤ (k : Int) := by omega
      have hi2 : (k : Int) < (n : Int) := by omega
      have hW := heap_alloc_new wr (.cells #[.int .u64 0, .int .u8 0] 64)
      have hoA := ownp_alloc hor (.cells #[.int .u64 0, .int .u8 0] 64)
      have hnA := hnx.trans (Below.mono (later_alloc wr (.cells #[.int .u64 0, .int .u8 0] 64)) hbr)
      by_cases hg : hi < xf
      · go_wp2_with (first | (with_reducible show wpList _ _ _ ({ dst := some 26, op := Op.load 64 _, type := _, pos := _, after := _, guard := none } :: _) _ _; go_must (refine wpList_load_mem rfl _ _ rfl b (off + k * 2) rfl 2 _ Try.underlying64 rfl sz_pc [.int .u64 xf, .int .u8 xg] rfl hc ?_)) | (with_reducible show wpList _ _ _ ({ dst := _, op := Op.store 64 _ _, type := _, pos := _, after := _, guard := none } :: _) _ _; go_must (refine wpList_store_blk rfl _ _ _ rfl rfl wr.heap.size 0 rfl [.int .u64 xf, .int .u8 xg] rfl _ sz_pc rfl rfl _ _ hW rfl [.int .u64 xf, .int .u8 xg] rfl ?_; intro w3 hW3 hO3; have ho3 := ownp_only hoA hO3 hor.ne; have hn3 := hnA.trans (hO3.below hbr); have hs3 : w3.heap.size = wr.heap.size + 1 := (by rw [hO3.size]; simp); have hB3 := blk_cell hW3)) | (with_reducible show wpList _ _ _ ({ dst := some 32, op := Op.load 64 _, type := _, pos := _, after := _, guard := none } :: _) _ _; go_must (refine wpList_load_blk rfl _ _ rfl wr.heap.size 0 rfl 2 _ Try.underlying64 rfl sz_pc _ _ hW3 rfl [.int .u64 xf, .int .u8 xg] rfl ?_)) | (go_at_call 59; go_must (refine (join_any base _ _ _ _ _ ho3 (by omega) (by have := HN.out; omega)).mono ?_; rintro e w4 ⟨v4, rfl, ho4, hg4⟩)))
        go_roundw
        case rel =>
          refine ⟨k + 1, by omega, by go_num, ownp_eq ho4 ?_, ?_, ?_⟩
          · rw [fold_next _ _ HX.out]; unfold behStep; exact (if_pos hg).symm
          · exact hn3.trans (hg4.belowP ho3 (by omega))
          · have := hg4.grown.size; omega
        case measure => simp [intOf]; omega
      · go_wp2_with (first | (with_reducible show wpList _ _ _ ({ dst := some 26, op := Op.load 64 _, type := _, pos := _, after := _, guard := none } :: _) _ _; go_must (refine wpList_load_mem rfl _ _ rfl b (off + k * 2) rfl 2 _ Try.underlying64 rfl sz_pc [.int .u64 xf, .int .u8 xg] rfl hc ?_)) | (with_reducible show wpList _ _ _ ({ dst := _, op := Op.store 64 _ _, type := _, pos := _, after := _, guard := none } :: _) _ _; go_must (refine wpList_store_blk rfl _ _ _ rfl rfl wr.heap.size 0 rfl [.int .u64 xf, .int .u8 xg] rfl _ sz_pc rfl rfl _ _ hW rfl [.int .u64 xf, .int .u8 xg] rfl ?_; intro w3 hW3 hO3; have ho3 := ownp_only hoA hO3 hor.ne; have hn3 := hnA.trans (hO3.below hbr); have hs3 : w3.heap.size = wr.heap.size + 1 := (by rw [hO3.size]; simp); have hB3 := blk_cell hW3)))
        go_roundw
        case rel =>
          refine ⟨k + 1, by omega, by go_num, ownp_eq ho3 ?_, hn3, by omega⟩
          rw [fold_next _ _ HX.out]; unfold behStep; exact (if_neg hg).symm
        case measure => simp [intOf]; omega
    · go_wp2
      go_ret
      obtain rfl : k = n := by omega
      refine ⟨_, rfl, ownp_eq hor ?_, hnx⟩
      rw [HL.out, List.take_length, ← hL1]

end Go.Proofs.Ytignemioillaiaa
