/- Package ranges: ahead, behind. -/
import Derived.Test.YtignemioillaiaaN3
import Derived.Test.YtignemioillaiaaN2
namespace Go.Proofs.Ytignemioillaiaa
open Go.RowKit

theorem filter_next {m : List Pc} {k : Nat} {x : Pc} (P : Pc → Bool) (hx : m[k]? = some x) : (m.take (k + 1)).filter P = if P x then (m.take k).filter P ++ [x] else (m.take k).filter P := by
  rw [List.take_add_one, hx]
  simp only [Option.toList_some, List.filter_append, List.filter_cons, List.filter_nil]
  split <;> simp
theorem filter_len {m : List Pc} {k : Nat} (P : Pc → Bool) : ((m.take k).filter P).length ≤ m.length := by
  have h1 := List.length_filter_le P (m.take k)
  have h2 : (m.take k).length ≤ m.length := by simp [List.length_take]; omega
  omega

set_option maxHeartbeats 400000 in
set_option maxRecDepth 100000 in
theorem aheadp_any (a : Option Addr) (n c : Nat) (m : List Pc) (lo : Int) (w : World) (h : MapIn w a n c m) (hm : m.length ≤ 1000) :
    Calls Try.prog 60 #[.slice a n c, .int .u64 lo] w fun e w' => ∃ v', e = .returned v' ∧ OwnP w.heap.size w' v' (m.filter (fun p => decide (p.f < lo))) ∧ Below w.heap.size w w' := by
  obtain ⟨i0, hi, hz0, hz1, hz2⟩ := info_parts info_pc
  have hlen : n = m.length := by simpa using h.len
  have hlm : n ≤ 1000 := by omega
  have HL : Hid (n = m.length) := hlen
  clear hlen
  go_enter Try.func60, Try.ntmps60
  go_wp2
  go_loopw [5, 10] (fun vb i wr => ∃ k : Nat, k ≤ n ∧ i = .int .i64 k ∧ OwnP w.heap.size wr vb ((m.take k).filter (fun p => decide (p.f < lo))) ∧ Below w.heap.size w wr) (fun _ i _ => n - (intOf i).toNat)
  case atStart => exact ⟨0, Nat.zero_le _, rfl, ownp_nil _ _, Below.refl _ _⟩
  case round =>
    obtain ⟨k, hk, rfl, hor, hnx⟩ := hrel
    by_cases hlt : k < n
    · obtain ⟨x, hx⟩ : ∃ x, m[k]? = some x := ⟨m[k]'(by rw [← HL.out]; exact hlt), by simp⟩
      have hS := h.below hnx (Nat.le_refl _)
      obtain ⟨b, off, ha, hbB, hc⟩ := hS.el (i := k) (x := x.cells) (by simp [hx])
      obtain rfl : a = some ⟨b, off, none⟩ := ha
      have HX : Hid (m[k]? = some x) := hx
      have HN : Hid ((((m.take k).filter (fun p => decide (p.f < lo))).length) ≤ 1000) := Nat.le_trans (filter_len _) hm
      clear hx
      obtain ⟨xf, xg⟩ := x
      simp only [Pc.cells] at hc
      have hbr : w.heap.size ≤ wr.heap.size := hnx.size
      have hi1 : (0 : Int) ≤ (k : Int) := by omega
      have hi2 : (k : Int) < (n : Int) := by omega
      have hW := heap_alloc_new wr (.cells #[.int .u64 0, .int .u8 0] 64)
      have hoA := ownp_alloc hor (.cells #[.int .u64 0, .int .u8 0] 64)
      have hnA := hnx.trans (Below.mono (later_alloc wr (.cells #[.int .u64 0, .int .u8 0] 64)) hnx.size)
      by_cases hg : xf < lo
      · go_wp2_with (first | (with_reducible show wpList _ _ _ ({ dst := some 13, op := Op.load 64 _, type := _, pos := _, after := _, guard := none } :: _) _ _; go_must (refine wpList_load_mem rfl _ _ rfl b (off + k * 2) rfl 2 _ Try.underlying64 rfl sz_pc [.int .u64 xf, .int .u8 xg] rfl hc ?_)) | (with_reducible show wpList _ _ _ ({ dst := _, op := Op.store 64 _ _, type := _, pos := _, after := _, guard := none } :: _) _ _; go_must (refine wpList_store_blk rfl _ _ _ rfl rfl wr.heap.size 0 rfl [.int .u64 xf, .int .u8 xg] rfl _ sz_pc rfl rfl _ _ hW rfl [.int .u64 xf, .int .u8 xg] rfl ?_; intro w2 hW2 hO2; have ho2 := ownp_only hoA hO2 hor.ne; have hn2 := hnA.trans (hO2.below hbr); have hs2 : w2.heap.size = wr.heap.size + 1 := (by rw [hO2.size]; simp); have hB2 := blk_cell hW2)) | (with_reducible show wpList _ _ _ ({ dst := some 19, op := Op.load 64 _, type := _, pos := _, after := _, guard := none } :: _) _ _; go_must (refine wpList_load_blk rfl _ _ rfl wr.heap.size 0 rfl 2 _ Try.underlying64 rfl sz_pc _ _ hW2 rfl [.int .u64 xf, .int .u8 xg] rfl ?_)) | (at_builtin; go_must (refine wpList_append_new _ rfl _ _ 62 rfl w.heap.size 64 i0 (.agg #[.int .u64 0, .int .u8 0]) 2 16 Try.underlying62 hi hz0 hz1 hz2 rfl (by decide) _ _ _ rfl (ownp_alloc ho2 _) _ 1 1 [.int .u64 xf, .int .u8 xg] rfl rfl ?_ ?_ ?_ ?_ ?_ ?_)))
        case refine_1 => exact pc_new hs2.symm
        case refine_2 => exact pc_one1 xf xg
        case refine_3 => unfold maxLen; have := HN.out; omega
        case refine_4 => have := HN.out; omega
        case refine_5 => simp; omega
        intro v' w3 ho3 hg3
        go_wp2
        go_roundw
        case rel =>
          refine ⟨k + 1, by omega, by go_num, ownp_eq (ownp_snoc ho3) ?_, ?_⟩
          · rw [filter_next _ HX.out, if_pos (by simpa using hg)]
          · exact hn2.trans ((Below.mono (later_alloc w2 _) (by omega)).trans ((hg3.belowP (ownp_alloc ho2 _) (by simp; omega)).mono (Nat.le_refl _)))
        case measure => simp [intOf]; omega
      · go_wp2_with (first | (with_reducible show wpList _ _ _ ({ dst := some 13, op := Op.load 64 _, type := _, pos := _, after := _, guard := none } :: _) _ _; go_must (refine wpList_load_mem rfl _ _ rfl b (off + k * 2) rfl 2 _ Try.underlying64 rfl sz_pc [.int .u64 xf, .int .u8 xg] rfl hc ?_)) | (with_reducible show wpList _ _ _ ({ dst := _, op := Op.store 64 _ _, type := _, pos := _, after := _, guard := none } :: _) _ _; go_must (refine wpList_store_blk rfl _ _ _ rfl rfl wr.heap.size 0 rfl [.int .u64 xf, .int .u8 xg] rfl _ sz_pc rfl rfl _ _ hW rfl [.int .u64 xf, .int .u8 xg] rfl ?_; intro w2 hW2 hO2; have ho2 := ownp_only hoA hO2 hor.ne; have hn2 := hnA.trans (hO2.below hbr); have hB2 := blk_cell hW2)))
        go_roundw
        case rel =>
          refine ⟨k + 1, by omega, by go_num, ownp_eq ho2 ?_, hn2⟩
          rw [filter_next _ HX.out, if_neg (by simpa using hg)]
        case measure => simp [intOf]; omega
    · go_wp2
      go_ret
      obtain rfl : k = n := by omega
      refine ⟨_, rfl, ownp_eq hor ?_, hnx⟩
      rw [HL.out, List.take_length]

end Go.Proofs.Ytignemioillaiaa
