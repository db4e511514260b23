/- A plain map and what is new. -/
import Derived.Test.YtignemioillaiaaJ22
namespace Go.Proofs.Ytignemioillaiaa
open Go.RowKit Go.Lib

set_option maxHeartbeats 2000000 in
set_option maxRecDepth 100000 in
theorem ans_dlg (w : World) (bK : Nat) (A B : List Value) (m : Mem) (c : Nat) (hc : c < 4) (t : TypeId) (hbK : w.heap[bK]? = some (.cells (A ++ (m.cells ++ B)).toArray t)) (qs qk qkey qv qhi qto : Int) (hnew : m.s c < qs) (hk1 : (qk == 1) = false) (hk2 : (qk == 2) = false) (hk3 : (qk == 3) = false) (hk : (qk == 4) = true) :
    Calls Try.prog 31 #[.pointer (some ⟨bK, A.length, none⟩), .agg #[.int .u8 (c : Int), .int .u32 qs, .int .u8 qk, .int .u64 qkey, .int .u64 qv, .int .u64 qhi, .int .u8 qto, .int .u8 (c : Int), .int .u32 qs, .int .u64 qkey, .int .u8 5, .bool false, .int .u64 0, .int .u8 0]] w fun e w' => e = .returned (.tuple #[.bool true, .bool true]) ∧ AW w w' bK A B (m.put c qs (Rep.mk ((c : Int)) (qs) (qkey) (5) (false) (0) (0))) t := by
  obtain ⟨off, hoff⟩ : ∃ off, off = A.length := ⟨_, rfl⟩
  obtain ⟨sq, hsq⟩ : ∃ sq, sq = m.s c := ⟨_, rfl⟩
  obtain ⟨W, hW⟩ : ∃ W, W = ((w.alloc (.cells #[.int .u8 (c : Int), .int .u32 qs, .int .u8 qk, .int .u64 qkey, .int .u64 qv, .int .u64 qhi, .int .u8 qto, .int .u8 (c : Int), .int .u32 qs, .int .u64 qkey, .int .u8 5, .bool false, .int .u64 0, .int .u8 0] 106)).alloc (.cells #[.int .u8 (c : Int), .int .u32 qs, .int .u8 qk, .int .u64 qkey, .int .u64 qv, .int .u64 qhi, .int .u8 qto] 25)).alloc (.cells #[.int .u8 (c : Int), .int .u32 qs, .int .u64 qkey, .int .u8 5, .bool false, .int .u64 0, .int .u8 0] 27) := ⟨_, rfl⟩
  obtain ⟨hD, hQ, hR, hWl, hWs⟩ := three w (.cells #[.int .u8 (c : Int), .int .u32 qs, .int .u8 qk, .int .u64 qkey, .int .u64 qv, .int .u64 qhi, .int .u8 qto, .int .u8 (c : Int), .int .u32 qs, .int .u64 qkey, .int .u8 5, .bool false, .int .u64 0, .int .u8 0] 106) (.cells #[.int .u8 (c : Int), .int .u32 qs, .int .u8 qk, .int .u64 qkey, .int .u64 qv, .int .u64 qhi, .int .u8 qto] 25) (.cells #[.int .u8 (c : Int), .int .u32 qs, .int .u64 qkey, .int .u8 5, .bool false, .int .u64 0, .int .u8 0] 27)
  rw [← hW] at hD hQ hR hWl hWs
  have hbl : bK < w.heap.size := (Array.getElem?_eq_some_iff.1 hbK).1
  have hKW := blk_later hWl hbK
  have HK : Hid (W.heap[bK]? = some (.cells (A ++ (m.cells ++ B)).toArray t)) := hKW
  have HWL : Hid (Below w.heap.size w W) := hWl
  have HWS : Hid (W.heap.size = w.heap.size + 3) := hWs
  have HQ : Hid (W.heap[w.heap.size + 1]? = some (.cells #[.int .u8 (c : Int), .int .u32 qs, .int .u8 qk, .int .u64 qkey, .int .u64 qv, .int .u64 qhi, .int .u8 qto] 25)) := hQ
  have HR : Hid (W.heap[w.heap.size + 1 + 1]? = some (.cells #[.int .u8 (c : Int), .int .u32 qs, .int .u64 qkey, .int .u8 5, .bool false, .int .u64 0, .int .u8 0] 27)) := hR
  have hcq := blk_cell hQ
  have hcr := blk_cell hR
  have hks : W.cell? ⟨bK, off + 2 + c, none⟩ = some (.int .u32 sq) := by rw [hoff, hsq, Nat.add_assoc]; exact cell_mid hKW _ _ (mem_seq m c hc)
  have HOFF : Hid (off = A.length ∧ sq = m.s c) := (⟨hoff, hsq⟩ : _ ∧ _)
  have hi1 : (0 : Int) ≤ (c : Int) := by omega
  have hi2 : (c : Int) < 4 := by omega
  have hc4 : decide ((4 : Int) ≤ (c : Int)) = false := by simp; omega
  have hd1 : decide (qs < sq) = false := by simp [hsq]; omega
  have hd2 : (qs == sq) = false := by simp [hsq]; omega
  obtain ⟨⟨xc, xs, xkey, xk, xf, xv, xg⟩, hxx⟩ : ∃ x, x = m.said c := ⟨_, rfl⟩
  have HXX : Hid (m.said c = ⟨xc, xs, xkey, xk, xf, xv, xg⟩) := hxx.symm
  have HA0 : Hid (AW W W bK A B m t) := ⟨hKW, fun _ _ _ => rfl, rfl, rfl, rfl, Nat.le_refl _⟩
  clear hnew hxx
  rw [← hoff]
  clear hD hQ hR hWl hWs hKW hbK hoff hsq
  go_enter Try.func31, Try.ntmps31
  go_upto_region 3 with fail
  rw [← hW]
  clear hW
  go_wp2_with fail
  go_quiet (fail)
  have HA1 : Hid (AW W (W.drewN nq) bK A B m t) := HA0.out.later (below_drewN (Below.refl _ _) _)
  generalize W.drewN nq = X1 at HA1
  clear hcq hcr hks
  have hcqX1 := blk_cell ((HA1.out.o _ (by omega) (by have := HWS.out; omega)).trans HQ.out)
  have hcrX1 := blk_cell ((HA1.out.o _ (by omega) (by have := HWS.out; omega)).trans HR.out)
  have hks1 : X1.cell? ⟨bK, off + 2 + c, none⟩ = some (.int .u32 sq) := by rw [HOFF.out.1, HOFF.out.2, Nat.add_assoc]; exact cell_mid HA1.out.k _ _ (mem_seq m c hc)
  go_wp2_with fail
  go_quiet (fail)
  have HA2 : Hid (AW W (X1.drewN nq) bK A B m t) := HA1.out.later (below_drewN (Below.refl _ _) _)
  generalize X1.drewN nq = X2 at HA2
  clear hcqX1 hcrX1 hks1
  have hcqX2 := blk_cell ((HA2.out.o _ (by omega) (by have := HWS.out; omega)).trans HQ.out)
  have hcrX2 := blk_cell ((HA2.out.o _ (by omega) (by have := HWS.out; omega)).trans HR.out)
  have hks2 : X2.cell? ⟨bK, off + 2 + c, none⟩ = some (.int .u32 sq) := by rw [HOFF.out.1, HOFF.out.2, Nat.add_assoc]; exact cell_mid HA2.out.k _ _ (mem_seq m c hc)
  have hf2 := blkF (Below.refl _ X2) HA2.out.k
  go_wp2_with fail
  go_region
  have HA3 : Hid (AW W (X2.setCell ⟨bK, off + 2 + c, none⟩ (.int .u32 qs)).drew bK A B (m.seq c qs) t) := by
    obtain ⟨k1, k2⟩ := set_mid HA2.out.k (2 + c) [.int .u32 qs] (by rw [mem_len]; simp; omega)
    rw [mem_setseq m c qs hc] at k1
    rw [← Nat.add_assoc, ← HOFF.out.1] at k1 k2
    exact (HA2.out.set k2 k1).later (Below.refl _ _).drew
  generalize (X2.setCell ⟨bK, off + 2 + c, none⟩ (.int .u32 qs)).drew = X3 at HA3 ⊢
  clear hcqX2 hcrX2 hks2 hf2
  have hcqX3 := blk_cell ((HA3.out.o _ (by omega) (by have := HWS.out; omega)).trans HQ.out)
  have hcrX3 := blk_cell ((HA3.out.o _ (by omega) (by have := HWS.out; omega)).trans HR.out)
  have hy0X3 : X3.cell? ⟨bK, off + 6 + c * 7, none⟩ = some (.int .u8 xc) := by rw [HOFF.out.1, show A.length + 6 + c * 7 = A.length + (6 + c * 7 + 0) by omega]; exact cell_mid HA3.out.k _ _ (mem_said (m.seq c qs) c 0 hc _ (by show (m.said c).cells[0]? = _; rw [HXX.out]; rfl))
  have hy1X3 : X3.cell? ⟨bK, off + 6 + c * 7 + 1, none⟩ = some (.int .u32 xs) := by rw [HOFF.out.1, show A.length + 6 + c * 7 + 1 = A.length + (6 + c * 7 + 1) by omega]; exact cell_mid HA3.out.k _ _ (mem_said (m.seq c qs) c 1 hc _ (by show (m.said c).cells[1]? = _; rw [HXX.out]; rfl))
  have hy2X3 : X3.cell? ⟨bK, off + 6 + c * 7 + 2, none⟩ = some (.int .u64 xkey) := by rw [HOFF.out.1, show A.length + 6 + c * 7 + 2 = A.length + (6 + c * 7 + 2) by omega]; exact cell_mid HA3.out.k _ _ (mem_said (m.seq c qs) c 2 hc _ (by show (m.said c).cells[2]? = _; rw [HXX.out]; rfl))
  have hy3X3 : X3.cell? ⟨bK, off + 6 + c * 7 + 3, none⟩ = some (.int .u8 xk) := by rw [HOFF.out.1, show A.length + 6 + c * 7 + 3 = A.length + (6 + c * 7 + 3) by omega]; exact cell_mid HA3.out.k _ _ (mem_said (m.seq c qs) c 3 hc _ (by show (m.said c).cells[3]? = _; rw [HXX.out]; rfl))
  have hy4X3 : X3.cell? ⟨bK, off + 6 + c * 7 + 4, none⟩ = some (.bool xf) := by rw [HOFF.out.1, show A.length + 6 + c * 7 + 4 = A.length + (6 + c * 7 + 4) by omega]; exact cell_mid HA3.out.k _ _ (mem_said (m.seq c qs) c 4 hc _ (by show (m.said c).cells[4]? = _; rw [HXX.out]; rfl))
  have hy5X3 : X3.cell? ⟨bK, off + 6 + c * 7 + 5, none⟩ = some (.int .u64 xv) := by rw [HOFF.out.1, show A.length + 6 + c * 7 + 5 = A.length + (6 + c * 7 + 5) by omega]; exact cell_mid HA3.out.k _ _ (mem_said (m.seq c qs) c 5 hc _ (by show (m.said c).cells[5]? = _; rw [HXX.out]; rfl))
  have hy6X3 : X3.cell? ⟨bK, off + 6 + c * 7 + 6, none⟩ = some (.int .u8 xg) := by rw [HOFF.out.1, show A.length + 6 + c * 7 + 6 = A.length + (6 + c * 7 + 6) by omega]; exact cell_mid HA3.out.k _ _ (mem_said (m.seq c qs) c 6 hc _ (by show (m.said c).cells[6]? = _; rw [HXX.out]; rfl))
  have hf3 := blkF (Below.refl _ X3) HA3.out.k
  go_wp2_with fail
  go_region
  have HA4 : Hid (AW W (((((((X3.setCell ⟨bK, off + 6 + c * 7, none⟩ (.int .u8 (c : Int))).setCell ⟨bK, off + 6 + c * 7 + 1, none⟩ (.int .u32 qs)).setCell ⟨bK, off + 6 + c * 7 + 2, none⟩ (.int .u64 qkey)).setCell ⟨bK, off + 6 + c * 7 + 3, none⟩ (.int .u8 5)).setCell ⟨bK, off + 6 + c * 7 + 4, none⟩ (.bool false)).setCell ⟨bK, off + 6 + c * 7 + 5, none⟩ (.int .u64 0)).setCell ⟨bK, off + 6 + c * 7 + 6, none⟩ (.int .u8 0)).drew bK A B (m.put c qs (Rep.mk ((c : Int)) (qs) (qkey) (5) (false) (0) (0))) t) := by
    obtain ⟨k1, k2⟩ := set_mid HA3.out.k (6 + c * 7) (Rep.mk ((c : Int)) (qs) (qkey) (5) (false) (0) (0)).cells (by rw [mem_len]; show 6 + c * 7 + 7 ≤ 34; omega)
    rw [mem_setsaid m c qs (Rep.mk ((c : Int)) (qs) (qkey) (5) (false) (0) (0)) hc] at k1
    rw [← Nat.add_assoc, ← HOFF.out.1] at k1 k2
    simp only [Rep.cells, World.setCells, Nat.add_assoc, Nat.reduceAdd] at k1 k2 ⊢
    exact (HA3.out.set k2 k1).later (Below.refl _ _).drew
  generalize (((((((X3.setCell ⟨bK, off + 6 + c * 7, none⟩ (.int .u8 (c : Int))).setCell ⟨bK, off + 6 + c * 7 + 1, none⟩ (.int .u32 qs)).setCell ⟨bK, off + 6 + c * 7 + 2, none⟩ (.int .u64 qkey)).setCell ⟨bK, off + 6 + c * 7 + 3, none⟩ (.int .u8 5)).setCell ⟨bK, off + 6 + c * 7 + 4, none⟩ (.bool false)).setCell ⟨bK, off + 6 + c * 7 + 5, none⟩ (.int .u64 0)).setCell ⟨bK, off + 6 + c * 7 + 6, none⟩ (.int .u8 0)).drew = X4 at HA4 ⊢
  clear hcqX3 hcrX3 hf3 hy0X3 hy1X3 hy2X3 hy3X3 hy4X3 hy5X3 hy6X3
  have hcqX4 := blk_cell ((HA4.out.o _ (by omega) (by have := HWS.out; omega)).trans HQ.out)
  have hcrX4 := blk_cell ((HA4.out.o _ (by omega) (by have := HWS.out; omega)).trans HR.out)
  clear hcrX4
  go_upto_region 19 with fail
  obtain ⟨X5, hX5⟩ : ∃ X5, X5 = (X4.alloc (.cells #[.int .u8 (c : Int), .int .u32 qs, .int .u64 qkey, .int .u8 2, .bool false, .int .u64 0, .int .u8 0] 27)).alloc (.cells #[.int .u8 (c : Int), .int .u32 qs, .int .u64 qkey, .int .u8 5, .bool false, .int .u64 0, .int .u8 0] 27) := ⟨_, rfl⟩
  obtain ⟨hn5, hu5, h5l, h5s⟩ := two X4 (.cells #[.int .u8 (c : Int), .int .u32 qs, .int .u64 qkey, .int .u8 2, .bool false, .int .u64 0, .int .u8 0] 27) (.cells #[.int .u8 (c : Int), .int .u32 qs, .int .u64 qkey, .int .u8 5, .bool false, .int .u64 0, .int .u8 0] 27)
  rw [← hX5] at hn5 hu5 h5l h5s
  rw [← hX5]
  clear hX5 hcqX4
  have HA5 : Hid (AW W X5 bK A B (m.put c qs (Rep.mk ((c : Int)) (qs) (qkey) (5) (false) (0) (0))) t) := HA4.out.later h5l
  have HW4 : Hid (W.heap.size ≤ X4.heap.size ∧ bK < W.heap.size) := (⟨HA4.out.size, by have := HWS.out; omega⟩ : _ ∧ _)
  have HN5 : Hid (X5.heap[X4.heap.size]? = some (.cells #[.int .u8 (c : Int), .int .u32 qs, .int .u64 qkey, .int .u8 2, .bool false, .int .u64 0, .int .u8 0] 27)) := hn5
  have HU5 : Hid (X5.heap[X4.heap.size + 1]? = some (.cells #[.int .u8 (c : Int), .int .u32 qs, .int .u64 qkey, .int .u8 5, .bool false, .int .u64 0, .int .u8 0] 27)) := hu5
  have hcn5 := blk_cell hn5
  have hcu5 := blk_cell hu5
  clear hn5 hu5 h5l
  have hcqX5 := blk_cell ((HA5.out.o _ (by omega) (by have := HWS.out; omega)).trans HQ.out)
  have hcrX5 := blk_cell ((HA5.out.o _ (by omega) (by have := HWS.out; omega)).trans HR.out)
  have hkf : X5.cell? ⟨bK, off, none⟩ = some (.bool m.found) := by rw [HOFF.out.1]; exact cell_mid HA5.out.k 0 _ rfl
  have hkv : X5.cell? ⟨bK, off + 1, none⟩ = some (.int .u64 m.val) := by rw [HOFF.out.1]; exact cell_mid HA5.out.k 1 _ rfl
  go_wp2_with fail
  go_ret2
  exact ⟨rfl, HA5.out.from HWL.out⟩

set_option maxHeartbeats 2000000 in
set_option maxRecDepth 100000 in
theorem ans_del (w : World) (bK : Nat) (A B : List Value) (m : Mem) (c : Nat) (hc : c < 4) (t : TypeId) (hbK : w.heap[bK]? = some (.cells (A ++ (m.cells ++ B)).toArray t)) (qs qk qkey qv qhi qto : Int) (hnew : m.s c < qs) (hk1 : (qk == 1) = false) (hk2 : (qk == 2) = false) (hk : (qk == 3) = true) :
    Calls Try.prog 31 #[.pointer (some ⟨bK, A.length, none⟩), .agg #[.int .u8 (c : Int), .int .u32 qs, .int .u8 qk, .int .u64 qkey, .int .u64 qv, .int .u64 qhi, .int .u8 qto, .int .u8 (c : Int), .int .u32 qs, .int .u64 qkey, .int .u8 2, .bool false, .int .u64 0, .int .u8 0]] w fun e w' => e = .returned (.tuple #[.bool true, .bool true]) ∧ AW w w' bK A B (Mem.mk false (m.put c qs (Rep.mk ((c : Int)) (qs) (qkey) (2) (false) (0) (0))).val (m.put c qs (Rep.mk ((c : Int)) (qs) (qkey) (2) (false) (0) (0))).s (m.put c qs (Rep.mk ((c : Int)) (qs) (qkey) (2) (false) (0) (0))).said) t := by
  obtain ⟨off, hoff⟩ : ∃ off, off = A.length := ⟨_, rfl⟩
  obtain ⟨sq, hsq⟩ : ∃ sq, sq = m.s c := ⟨_, rfl⟩
  obtain ⟨W, hW⟩ : ∃ W, W = ((w.alloc (.cells #[.int .u8 (c : Int), .int .u32 qs, .int .u8 qk, .int .u64 qkey, .int .u64 qv, .int .u64 qhi, .int .u8 qto, .int .u8 (c : Int), .int .u32 qs, .int .u64 qkey, .int .u8 2, .bool false, .int .u64 0, .int .u8 0] 106)).alloc (.cells #[.int .u8 (c : Int), .int .u32 qs, .int .u8 qk, .int .u64 qkey, .int .u64 qv, .int .u64 qhi, .int .u8 qto] 25)).alloc (.cells #[.int .u8 (c : Int), .int .u32 qs, .int .u64 qkey, .int .u8 2, .bool false, .int .u64 0, .int .u8 0] 27) := ⟨_, rfl⟩
  obtain ⟨hD, hQ, hR, hWl, hWs⟩ := three w (.cells #[.int .u8 (c : Int), .int .u32 qs, .int .u8 qk, .int .u64 qkey, .int .u64 qv, .int .u64 qhi, .int .u8 qto, .int .u8 (c : Int), .int .u32 qs, .int .u64 qkey, .int .u8 2, .bool false, .int .u64 0, .int .u8 0] 106) (.cells #[.int .u8 (c : Int), .int .u32 qs, .int .u8 qk, .int .u64 qkey, .int .u64 qv, .int .u64 qhi, .int .u8 qto] 25) (.cells #[.int .u8 (c : Int), .int .u32 qs, .int .u64 qkey, .int .u8 2, .bool false, .int .u64 0, .int .u8 0] 27)
  rw [← hW] at hD hQ hR hWl hWs
  have hbl : bK < w.heap.size := (Array.getElem?_eq_some_iff.1 hbK).1
  have hKW := blk_later hWl hbK
  have HK : Hid (W.heap[bK]? = some (.cells (A ++ (m.cells ++ B)).toArray t)) := hKW
  have HWL : Hid (Below w.heap.size w W) := hWl
  have HWS : Hid (W.heap.size = w.heap.size + 3) := hWs
  have HQ : Hid (W.heap[w.heap.size + 1]? = some (.cells #[.int .u8 (c : Int), .int .u32 qs, .int .u8 qk, .int .u64 qkey, .int .u64 qv, .int .u64 qhi, .int .u8 qto] 25)) := hQ
  have HR : Hid (W.heap[w.heap.size + 1 + 1]? = some (.cells #[.int .u8 (c : Int), .int .u32 qs, .int .u64 qkey, .int .u8 2, .bool false, .int .u64 0, .int .u8 0] 27)) := hR
  have hcq := blk_cell hQ
  have hcr := blk_cell hR
  have hks : W.cell? ⟨bK, off + 2 + c, none⟩ = some (.int .u32 sq) := by rw [hoff, hsq, Nat.add_assoc]; exact cell_mid hKW _ _ (mem_seq m c hc)
  have HOFF : Hid (off = A.length ∧ sq = m.s c) := (⟨hoff, hsq⟩ : _ ∧ _)
  have hi1 : (0 : Int) ≤ (c : Int) := by omega
  have hi2 : (c : Int) < 4 := by omega
  have hc4 : decide ((4 : Int) ≤ (c : Int)) = false := by simp; omega
  have hd1 : decide (qs < sq) = false := by simp [hsq]; omega
  have hd2 : (qs == sq) = false := by simp [hsq]; omega
  obtain ⟨⟨xc, xs, xkey, xk, xf, xv, xg⟩, hxx⟩ : ∃ x, x = m.said c := ⟨_, rfl⟩
  have HXX : Hid (m.said c = ⟨xc, xs, xkey, xk, xf, xv, xg⟩) := hxx.symm
  have HA0 : Hid (AW W W bK A B m t) := ⟨hKW, fun _ _ _ => rfl, rfl, rfl, rfl, Nat.le_refl _⟩
  clear hnew hxx
  rw [← hoff]
  clear hD hQ hR hWl hWs hKW hbK hoff hsq
  go_enter Try.func31, Try.ntmps31
  go_upto_region 3 with fail
  rw [← hW]
  clear hW
  go_wp2_with fail
  go_quiet (fail)
  have HA1 : Hid (AW W (W.drewN nq) bK A B m t) := HA0.out.later (below_drewN (Below.refl _ _) _)
  generalize W.drewN nq = X1 at HA1
  clear hcq hcr hks
  have hcqX1 := blk_cell ((HA1.out.o _ (by omega) (by have := HWS.out; omega)).trans HQ.out)
  have hcrX1 := blk_cell ((HA1.out.o _ (by omega) (by have := HWS.out; omega)).trans HR.out)
  have hks1 : X1.cell? ⟨bK, off + 2 + c, none⟩ = some (.int .u32 sq) := by rw [HOFF.out.1, HOFF.out.2, Nat.add_assoc]; exact cell_mid HA1.out.k _ _ (mem_seq m c hc)
  go_wp2_with fail
  go_quiet (fail)
  have HA2 : Hid (AW W (X1.drewN nq) bK A B m t) := HA1.out.later (below_drewN (Below.refl _ _) _)
  generalize X1.drewN nq = X2 at HA2
  clear hcqX1 hcrX1 hks1
  have hcqX2 := blk_cell ((HA2.out.o _ (by omega) (by have := HWS.out; omega)).trans HQ.out)
  have hcrX2 := blk_cell ((HA2.out.o _ (by omega) (by have := HWS.out; omega)).trans HR.out)
  have hks2 : X2.cell? ⟨bK, off + 2 + c, none⟩ = some (.int .u32 sq) := by rw [HOFF.out.1, HOFF.out.2, Nat.add_assoc]; exact cell_mid HA2.out.k _ _ (mem_seq m c hc)
  have hf2 := blkF (Below.refl _ X2) HA2.out.k
  go_wp2_with fail
  go_region
  have HA3 : Hid (AW W (X2.setCell ⟨bK, off + 2 + c, none⟩ (.int .u32 qs)).drew bK A B (m.seq c qs) t) := by
    obtain ⟨k1, k2⟩ := set_mid HA2.out.k (2 + c) [.int .u32 qs] (by rw [mem_len]; simp; omega)
    rw [mem_setseq m c qs hc] at k1
    rw [← Nat.add_assoc, ← HOFF.out.1] at k1 k2
    exact (HA2.out.set k2 k1).later (Below.refl _ _).drew
  generalize (X2.setCell ⟨bK, off + 2 + c, none⟩ (.int .u32 qs)).drew = X3 at HA3 ⊢
  clear hcqX2 hcrX2 hks2 hf2
  have hcqX3 := blk_cell ((HA3.out.o _ (by omega) (by have := HWS.out; omega)).trans HQ.out)
  have hcrX3 := blk_cell ((HA3.out.o _ (by omega) (by have := HWS.out; omega)).trans HR.out)
  have hy0X3 : X3.cell? ⟨bK, off + 6 + c * 7, none⟩ = some (.int .u8 xc) := by rw [HOFF.out.1, show A.length + 6 + c * 7 = A.length + (6 + c * 7 + 0) by omega]; exact cell_mid HA3.out.k _ _ (mem_said (m.seq c qs) c 0 hc _ (by show (m.said c).cells[0]? = _; rw [HXX.out]; rfl))
  have hy1X3 : X3.cell? ⟨bK, off + 6 + c * 7 + 1, none⟩ = some (.int .u32 xs) := by rw [HOFF.out.1, show A.length + 6 + c * 7 + 1 = A.length + (6 + c * 7 + 1) by omega]; exact cell_mid HA3.out.k _ _ (mem_said (m.seq c qs) c 1 hc _ (by show (m.said c).cells[1]? = _; rw [HXX.out]; rfl))
  have hy2X3 : X3.cell? ⟨bK, off + 6 + c * 7 + 2, none⟩ = some (.int .u64 xkey) := by rw [HOFF.out.1, show A.length + 6 + c * 7 + 2 = A.length + (6 + c * 7 + 2) by omega]; exact cell_mid HA3.out.k _ _ (mem_said (m.seq c qs) c 2 hc _ (by show (m.said c).cells[2]? = _; rw [HXX.out]; rfl))
  have hy3X3 : X3.cell? ⟨bK, off + 6 + c * 7 + 3, none⟩ = some (.int .u8 xk) := by rw [HOFF.out.1, show A.length + 6 + c * 7 + 3 = A.length + (6 + c * 7 + 3) by omega]; exact cell_mid HA3.out.k _ _ (mem_said (m.seq c qs) c 3 hc _ (by show (m.said c).cells[3]? = _; rw [HXX.out]; rfl))
  have hy4X3 : X3.cell? ⟨bK, off + 6 + c * 7 + 4, none⟩ = some (.bool xf) := by rw [HOFF.out.1, show A.length + 6 + c * 7 + 4 = A.length + (6 + c * 7 + 4) by omega]; exact cell_mid HA3.out.k _ _ (mem_said (m.seq c qs) c 4 hc _ (by show (m.said c).cells[4]? = _; rw [HXX.out]; rfl))
  have hy5X3 : X3.cell? ⟨bK, off + 6 + c * 7 + 5, none⟩ = some (.int .u64 xv) := by rw [HOFF.out.1, show A.length + 6 + c * 7 + 5 = A.length + (6 + c * 7 + 5) by omega]; exact cell_mid HA3.out.k _ _ (mem_said (m.seq c qs) c 5 hc _ (by show (m.said c).cells[5]? = _; rw [HXX.out]; rfl))
  have hy6X3 : X3.cell? ⟨bK, off + 6 + c * 7 + 6, none⟩ = some (.int .u8 xg) := by rw [HOFF.out.1, show A.length + 6 + c * 7 + 6 = A.length + (6 + c * 7 + 6) by omega]; exact cell_mid HA3.out.k _ _ (mem_said (m.seq c qs) c 6 hc _ (by show (m.said c).cells[6]? = _; rw [HXX.out]; rfl))
  have hf3 := blkF (Below.refl _ X3) HA3.out.k
  go_wp2_with fail
  go_region
  have HA4 : Hid (AW W (((((((X3.setCell ⟨bK, off + 6 + c * 7, none⟩ (.int .u8 (c : Int))).setCell ⟨bK, off + 6 + c * 7 + 1, none⟩ (.int .u32 qs)).setCell ⟨bK, off + 6 + c * 7 + 2, none⟩ (.int .u64 qkey)).setCell ⟨bK, off + 6 + c * 7 + 3, none⟩ (.int .u8 2)).setCell ⟨bK, off + 6 + c * 7 + 4, none⟩ (.bool false)).setCell ⟨bK, off + 6 + c * 7 + 5, none⟩ (.int .u64 0)).setCell ⟨bK, off + 6 + c * 7 + 6, none⟩ (.int .u8 0)).drew bK A B (m.put c qs (Rep.mk ((c : Int)) (qs) (qkey) (2) (false) (0) (0))) t) := by
    obtain ⟨k1, k2⟩ := set_mid HA3.out.k (6 + c * 7) (Rep.mk ((c : Int)) (qs) (qkey) (2) (false) (0) (0)).cells (by rw [mem_len]; show 6 + c * 7 + 7 ≤ 34; omega)
    rw [mem_setsaid m c qs (Rep.mk ((c : Int)) (qs) (qkey) (2) (false) (0) (0)) hc] at k1
    rw [← Nat.add_assoc, ← HOFF.out.1] at k1 k2
    simp only [Rep.cells, World.setCells, Nat.add_assoc, Nat.reduceAdd] at k1 k2 ⊢
    exact (HA3.out.set k2 k1).later (Below.refl _ _).drew
  generalize (((((((X3.setCell ⟨bK, off + 6 + c * 7, none⟩ (.int .u8 (c : Int))).setCell ⟨bK, off + 6 + c * 7 + 1, none⟩ (.int .u32 qs)).setCell ⟨bK, off + 6 + c * 7 + 2, none⟩ (.int .u64 qkey)).setCell ⟨bK, off + 6 + c * 7 + 3, none⟩ (.int .u8 2)).setCell ⟨bK, off + 6 + c * 7 + 4, none⟩ (.bool false)).setCell ⟨bK, off + 6 + c * 7 + 5, none⟩ (.int .u64 0)).setCell ⟨bK, off + 6 + c * 7 + 6, none⟩ (.int .u8 0)).drew = X4 at HA4 ⊢
  clear hcqX3 hcrX3 hf3 hy0X3 hy1X3 hy2X3 hy3X3 hy4X3 hy5X3 hy6X3
  have hcqX4 := blk_cell ((HA4.out.o _ (by omega) (by have := HWS.out; omega)).trans HQ.out)
  have hcrX4 := blk_cell ((HA4.out.o _ (by omega) (by have := HWS.out; omega)).trans HR.out)
  clear hcrX4
  go_upto_region 19 with fail
  obtain ⟨X5, hX5⟩ : ∃ X5, X5 = (X4.alloc (.cells #[.int .u8 (c : Int), .int .u32 qs, .int .u64 qkey, .int .u8 2, .bool false, .int .u64 0, .int .u8 0] 27)).alloc (.cells #[.int .u8 (c : Int), .int .u32 qs, .int .u64 qkey, .int .u8 5, .bool false, .int .u64 0, .int .u8 0] 27) := ⟨_, rfl⟩
  obtain ⟨hn5, hu5, h5l, h5s⟩ := two X4 (.cells #[.int .u8 (c : Int), .int .u32 qs, .int .u64 qkey, .int .u8 2, .bool false, .int .u64 0, .int .u8 0] 27) (.cells #[.int .u8 (c : Int), .int .u32 qs, .int .u64 qkey, .int .u8 5, .bool false, .int .u64 0, .int .u8 0] 27)
  rw [← hX5] at hn5 hu5 h5l h5s
  rw [← hX5]
  clear hX5 hcqX4
  have HA5 : Hid (AW W X5 bK A B (m.put c qs (Rep.mk ((c : Int)) (qs) (qkey) (2) (false) (0) (0))) t) := HA4.out.later h5l
  have HW4 : Hid (W.heap.size ≤ X4.heap.size ∧ bK < W.heap.size) := (⟨HA4.out.size, by have := HWS.out; omega⟩ : _ ∧ _)
  have HN5 : Hid (X5.heap[X4.heap.size]? = some (.cells #[.int .u8 (c : Int), .int .u32 qs, .int .u64 qkey, .int .u8 2, .bool false, .int .u64 0, .int .u8 0] 27)) := hn5
  have HU5 : Hid (X5.heap[X4.heap.size + 1]? = some (.cells #[.int .u8 (c : Int), .int .u32 qs, .int .u64 qkey, .int .u8 5, .bool false, .int .u64 0, .int .u8 0] 27)) := hu5
  have hcn5 := blk_cell hn5
  have hcu5 := blk_cell hu5
  clear hn5 hu5 h5l
  have hcqX5 := blk_cell ((HA5.out.o _ (by omega) (by have := HWS.out; omega)).trans HQ.out)
  have hcrX5 := blk_cell ((HA5.out.o _ (by omega) (by have := HWS.out; omega)).trans HR.out)
  have hkf : X5.cell? ⟨bK, off, none⟩ = some (.bool m.found) := by rw [HOFF.out.1]; exact cell_mid HA5.out.k 0 _ rfl
  have hkv : X5.cell? ⟨bK, off + 1, none⟩ = some (.int .u64 m.val) := by rw [HOFF.out.1]; exact cell_mid HA5.out.k 1 _ rfl
  go_wp2_with (with_reducible show wpList _ _ _ ({ dst := _, op := Op.store 4 (Operand.tmp 147) _, type := _, pos := _, after := _, guard := none } :: _) _ _; go_must (refine wpList_store_mid rfl _ _ _ rfl rfl bK (off) rfl (.bool false) rfl (by kernel_rfl) rfl A (m.put c qs (Rep.mk (c : Int) (qs) (qkey) (2) (false) (0) (0))).cells B 0 t HA5.out.k (by rw [mem_len]; decide) (by rw [HOFF.out.1, Nat.add_zero]) ?_; intro X6 hw ho; rw [mem_setfound (m.put c qs (Rep.mk (c : Int) (qs) (qkey) (2) (false) (0) (0))) false] at hw; have HA6 : Hid (AW W X6 bK A B (Mem.mk false (m.put c qs (Rep.mk (c : Int) (qs) (qkey) (2) (false) (0) (0))).val (m.put c qs (Rep.mk (c : Int) (qs) (qkey) (2) (false) (0) (0))).s (m.put c qs (Rep.mk (c : Int) (qs) (qkey) (2) (false) (0) (0))).said) t) := hideJ (HA5.out.set ho hw); have HN6 : Hid (X6.heap[X4.heap.size]? = some (.cells #[.int .u8 (c : Int), .int .u32 qs, .int .u64 qkey, .int .u8 2, .bool false, .int .u64 0, .int .u8 0] 27)) := hideJ ((ho.block _ (by have := HW4.out; omega)).trans HN5.out); clear hw ho; have hcn6 := blk_cell HN6.out; have hcr6 := blk_cell ((HA6.out.o (w.heap.size + 1 + 1) (by omega) (by have := HWS.out; omega)).trans HR.out); have hcq6 := blk_cell ((HA6.out.o (w.heap.size + 1) (by omega) (by have := HWS.out; omega)).trans HQ.out)))
  go_ret2
  exact ⟨rfl, HA6.out.from HWL.out⟩

set_option maxHeartbeats 2000000 in
set_option maxRecDepth 100000 in
theorem ans_set (w : World) (bK : Nat) (A B : List Value) (m : Mem) (c : Nat) (hc : c < 4) (t : TypeId) (hbK : w.heap[bK]? = some (.cells (A ++ (m.cells ++ B)).toArray t)) (qs qk qkey qv qhi qto : Int) (hnew : m.s c < qs) (hk1 : (qk == 1) = false) (hk : (qk == 2) = true) :
    Calls Try.prog 31 #[.pointer (some ⟨bK, A.length, none⟩), .agg #[.int .u8 (c : Int), .int .u32 qs, .int .u8 qk, .int .u64 qkey, .int .u64 qv, .int .u64 qhi, .int .u8 qto, .int .u8 (c : Int), .int .u32 qs, .int .u64 qkey, .int .u8 2, .bool false, .int .u64 0, .int .u8 0]] w fun e w' => e = .returned (.tuple #[.bool true, .bool true]) ∧ AW w w' bK A B (Mem.mk true qv (m.put c qs (Rep.mk ((c : Int)) (qs) (qkey) (2) (false) (0) (0))).s (m.put c qs (Rep.mk ((c : Int)) (qs) (qkey) (2) (false) (0) (0))).said) t := by
  obtain ⟨off, hoff⟩ : ∃ off, off = A.length := ⟨_, rfl⟩
  obtain ⟨sq, hsq⟩ : ∃ sq, sq = m.s c := ⟨_, rfl⟩
  obtain ⟨W, hW⟩ : ∃ W, W = ((w.alloc (.cells #[.int .u8 (c : Int), .int .u32 qs, .int .u8 qk, .int .u64 qkey, .int .u64 qv, .int .u64 qhi, .int .u8 qto, .int .u8 (c : Int), .int .u32 qs, .int .u64 qkey, .int .u8 2, .bool false, .int .u64 0, .int .u8 0] 106)).alloc (.cells #[.int .u8 (c : Int), .int .u32 qs, .int .u8 qk, .int .u64 qkey, .int .u64 qv, .int .u64 qhi, .int .u8 qto] 25)).alloc (.cells #[.int .u8 (c : Int), .int .u32 qs, .int .u64 qkey, .int .u8 2, .bool false, .int .u64 0, .int .u8 0] 27) := ⟨_, rfl⟩
  obtain ⟨hD, hQ, hR, hWl, hWs⟩ := three w (.cells #[.int .u8 (c : Int), .int .u32 qs, .int .u8 qk, .int .u64 qkey, .int .u64 qv, .int .u64 qhi, .int .u8 qto, .int .u8 (c : Int), .int .u32 qs, .int .u64 qkey, .int .u8 2, .bool false, .int .u64 0, .int .u8 0] 106) (.cells #[.int .u8 (c : Int), .int .u32 qs, .int .u8 qk, .int .u64 qkey, .int .u64 qv, .int .u64 qhi, .int .u8 qto] 25) (.cells #[.int .u8 (c : Int), .int .u32 qs, .int .u64 qkey, .int .u8 2, .bool false, .int .u64 0, .int .u8 0] 27)
  rw [← hW] at hD hQ hR hWl hWs
  have hbl : bK < w.heap.size := (Array.getElem?_eq_some_iff.1 hbK).1
  have hKW := blk_later hWl hbK
  have HK : Hid (W.heap[bK]? = some (.cells (A ++ (m.cells ++ B)).toArray t)) := hKW
  have HWL : Hid (Below w.heap.size w W) := hWl
  have HWS : Hid (W.heap.size = w.heap.size + 3) := hWs
  have HQ : Hid (W.heap[w.heap.size + 1]? = some (.cells #[.int .u8 (c : Int), .int .u32 qs, .int .u8 qk, .int .u64 qkey, .int .u64 qv, .int .u64 qhi, .int .u8 qto] 25)) := hQ
  have HR : Hid (W.heap[w.heap.size + 1 + 1]? = some (.cells #[.int .u8 (c : Int), .int .u32 qs, .int .u64 qkey, .int .u8 2, .bool false, .int .u64 0, .int .u8 0] 27)) := hR
  have hcq := blk_cell hQ
  have hcr := blk_cell hR
  have hks : W.cell? ⟨bK, off + 2 + c, none⟩ = some (.int .u32 sq) := by rw [hoff, hsq, Nat.add_assoc]; exact cell_mid hKW _ _ (mem_seq m c hc)
  have HOFF : Hid (off = A.length ∧ sq = m.s c) := (⟨hoff, hsq⟩ : _ ∧ _)
  have hi1 : (0 : Int) ≤ (c : Int) := by omega
  have hi2 : (c : Int) < 4 := by omega
  have hc4 : decide ((4 : Int) ≤ (c : Int)) = false := by simp; omega
  have hd1 : decide (qs < sq) = false := by simp [hsq]; omega
  have hd2 : (qs == sq) = false := by simp [hsq]; omega
  obtain ⟨⟨xc, xs, xkey, xk, xf, xv, xg⟩, hxx⟩ : ∃ x, x = m.said c := ⟨_, rfl⟩
  have HXX : Hid (m.said c = ⟨xc, xs, xkey, xk, xf, xv, xg⟩) := hxx.symm
  have HA0 : Hid (AW W W bK A B m t) := ⟨hKW, fun _ _ _ => rfl, rfl, rfl, rfl, Nat.le_refl _⟩
  clear hnew hxx
  rw [← hoff]
  clear hD hQ hR hWl hWs hKW hbK hoff hsq
  go_enter Try.func31, Try.ntmps31
  go_upto_region 3 with fail
  rw [← hW]
  clear hW
  go_wp2_with fail
  go_quiet (fail)
  have HA1 : Hid (AW W (W.drewN nq) bK A B m t) := HA0.out.later (below_drewN (Below.refl _ _) _)
  generalize W.drewN nq = X1 at HA1
  clear hcq hcr hks
  have hcqX1 := blk_cell ((HA1.out.o _ (by omega) (by have := HWS.out; omega)).trans HQ.out)
  have hcrX1 := blk_cell ((HA1.out.o _ (by omega) (by have := HWS.out; omega)).trans HR.out)
  have hks1 : X1.cell? ⟨bK, off + 2 + c, none⟩ = some (.int .u32 sq) := by rw [HOFF.out.1, HOFF.out.2, Nat.add_assoc]; exact cell_mid HA1.out.k _ _ (mem_seq m c hc)
  go_wp2_with fail
  go_quiet (fail)
  have HA2 : Hid (AW W (X1.drewN nq) bK A B m t) := HA1.out.later (below_drewN (Below.refl _ _) _)
  generalize X1.drewN nq = X2 at HA2
  clear hcqX1 hcrX1 hks1
  have hcqX2 := blk_cell ((HA2.out.o _ (by omega) (by have := HWS.out; omega)).trans HQ.out)
  have hcrX2 := blk_cell ((HA2.out.o _ (by omega) (by have := HWS.out; omega)).trans HR.out)
  have hks2 : X2.cell? ⟨bK, off + 2 + c, none⟩ = some (.int .u32 sq) := by rw [HOFF.out.1, HOFF.out.2, Nat.add_assoc]; exact cell_mid HA2.out.k _ _ (mem_seq m c hc)
  have hf2 := blkF (Below.refl _ X2) HA2.out.k
  go_wp2_with fail
  go_region
  have HA3 : Hid (AW W (X2.setCell ⟨bK, off + 2 + c, none⟩ (.int .u32 qs)).drew bK A B (m.seq c qs) t) := by
    obtain ⟨k1, k2⟩ := set_mid HA2.out.k (2 + c) [.int .u32 qs] (by rw [mem_len]; simp; omega)
    rw [mem_setseq m c qs hc] at k1
    rw [← Nat.add_assoc, ← HOFF.out.1] at k1 k2
    exact (HA2.out.set k2 k1).later (Below.refl _ _).drew
  generalize (X2.setCell ⟨bK, off + 2 + c, none⟩ (.int .u32 qs)).drew = X3 at HA3 ⊢
  clear hcqX2 hcrX2 hks2 hf2
  have hcqX3 := blk_cell ((HA3.out.o _ (by omega) (by have := HWS.out; omega)).trans HQ.out)
  have hcrX3 := blk_cell ((HA3.out.o _ (by omega) (by have := HWS.out; omega)).trans HR.out)
  have hy0X3 : X3.cell? ⟨bK, off + 6 + c * 7, none⟩ = some (.int .u8 xc) := by rw [HOFF.out.1, show A.length + 6 + c * 7 = A.length + (6 + c * 7 + 0) by omega]; exact cell_mid HA3.out.k _ _ (mem_said (m.seq c qs) c 0 hc _ (by show (m.said c).cells[0]? = _; rw [HXX.out]; rfl))
  have hy1X3 : X3.cell? ⟨bK, off + 6 + c * 7 + 1, none⟩ = some (.int .u32 xs) := by rw [HOFF.out.1, show A.length + 6 + c * 7 + 1 = A.length + (6 + c * 7 + 1) by omega]; exact cell_mid HA3.out.k _ _ (mem_said (m.seq c qs) c 1 hc _ (by show (m.said c).cells[1]? = _; rw [HXX.out]; rfl))
  have hy2X3 : X3.cell? ⟨bK, off + 6 + c * 7 + 2, none⟩ = some (.int .u64 xkey) := by rw [HOFF.out.1, show A.length + 6 + c * 7 + 2 = A.length + (6 + c * 7 + 2) by omega]; exact cell_mid HA3.out.k _ _ (mem_said (m.seq c qs) c 2 hc _ (by show (m.said c).cells[2]? = _; rw [HXX.out]; rfl))
  have hy3X3 : X3.cell? ⟨bK, off + 6 + c * 7 + 3, none⟩ = some (.int .u8 xk) := by rw [HOFF.out.1, show A.length + 6 + c * 7 + 3 = A.length + (6 + c * 7 + 3) by omega]; exact cell_mid HA3.out.k _ _ (mem_said (m.seq c qs) c 3 hc _ (by show (m.said c).cells[3]? = _; rw [HXX.out]; rfl))
  have hy4X3 : X3.cell? ⟨bK, off + 6 + c * 7 + 4, none⟩ = some (.bool xf) := by rw [HOFF.out.1, show A.length + 6 + c * 7 + 4 = A.length + (6 + c * 7 + 4) by omega]; exact cell_mid HA3.out.k _ _ (mem_said (m.seq c qs) c 4 hc _ (by show (m.said c).cells[4]? = _; rw [HXX.out]; rfl))
  have hy5X3 : X3.cell? ⟨bK, off + 6 + c * 7 + 5, none⟩ = some (.int .u64 xv) := by rw [HOFF.out.1, show A.length + 6 + c * 7 + 5 = A.length + (6 + c * 7 + 5) by omega]; exact cell_mid HA3.out.k _ _ (mem_said (m.seq c qs) c 5 hc _ (by show (m.said c).cells[5]? = _; rw [HXX.out]; rfl))
  have hy6X3 : X3.cell? ⟨bK, off + 6 + c * 7 + 6, none⟩ = some (.int .u8 xg) := by rw [HOFF.out.1, show A.length + 6 + c * 7 + 6 = A.length + (6 + c * 7 + 6) by omega]; exact cell_mid HA3.out.k _ _ (mem_said (m.seq c qs) c 6 hc _ (by show (m.said c).cells[6]? = _; rw [HXX.out]; rfl))
  have hf3 := blkF (Below.refl _ X3) HA3.out.k
  go_wp2_with fail
  go_region
  have HA4 : Hid (AW W (((((((X3.setCell ⟨bK, off + 6 + c * 7, none⟩ (.int .u8 (c : Int))).setCell ⟨bK, off + 6 + c * 7 + 1, none⟩ (.int .u32 qs)).setCell ⟨bK, off + 6 + c * 7 + 2, none⟩ (.int .u64 qkey)).setCell ⟨bK, off + 6 + c * 7 + 3, none⟩ (.int .u8 2)).setCell ⟨bK, off + 6 + c * 7 + 4, none⟩ (.bool false)).setCell ⟨bK, off + 6 + c * 7 + 5, none⟩ (.int .u64 0)).setCell ⟨bK, off + 6 + c * 7 + 6, none⟩ (.int .u8 0)).drew bK A B (m.put c qs (Rep.mk ((c : Int)) (qs) (qkey) (2) (false) (0) (0))) t) := by
    obtain ⟨k1, k2⟩ := set_mid HA3.out.k (6 + c * 7) (Rep.mk ((c : Int)) (qs) (qkey) (2) (false) (0) (0)).cells (by rw [mem_len]; show 6 + c * 7 + 7 ≤ 34; omega)
    rw [mem_setsaid m c qs (Rep.mk ((c : Int)) (qs) (qkey) (2) (false) (0) (0)) hc] at k1
    rw [← Nat.add_assoc, ← HOFF.out.1] at k1 k2
    simp only [Rep.cells, World.setCells, Nat.add_assoc, Nat.reduceAdd] at k1 k2 ⊢
    exact (HA3.out.set k2 k1).later (Below.refl _ _).drew
  generalize (((((((X3.setCell ⟨bK, off + 6 + c * 7, none⟩ (.int .u8 (c : Int))).setCell ⟨bK, off + 6 + c * 7 + 1, none⟩ (.int .u32 qs)).setCell ⟨bK, off + 6 + c * 7 + 2, none⟩ (.int .u64 qkey)).setCell ⟨bK, off + 6 + c * 7 + 3, none⟩ (.int .u8 2)).setCell ⟨bK, off + 6 + c * 7 + 4, none⟩ (.bool false)).setCell ⟨bK, off + 6 + c * 7 + 5, none⟩ (.int .u64 0)).setCell ⟨bK, off + 6 + c * 7 + 6, none⟩ (.int .u8 0)).drew = X4 at HA4 ⊢
  clear hcqX3 hcrX3 hf3 hy0X3 hy1X3 hy2X3 hy3X3 hy4X3 hy5X3 hy6X3
  have hcqX4 := blk_cell ((HA4.out.o _ (by omega) (by have := HWS.out; omega)).trans HQ.out)
  have hcrX4 := blk_cell ((HA4.out.o _ (by omega) (by have := HWS.out; omega)).trans HR.out)
  clear hcrX4
  go_upto_region 19 with fail
  obtain ⟨X5, hX5⟩ : ∃ X5, X5 = (X4.alloc (.cells #[.int .u8 (c : Int), .int .u32 qs, .int .u64 qkey, .int .u8 2, .bool false, .int .u64 0, .int .u8 0] 27)).alloc (.cells #[.int .u8 (c : Int), .int .u32 qs, .int .u64 qkey, .int .u8 5, .bool false, .int .u64 0, .int .u8 0] 27) := ⟨_, rfl⟩
  obtain ⟨hn5, hu5, h5l, h5s⟩ := two X4 (.cells #[.int .u8 (c : Int), .int .u32 qs, .int .u64 qkey, .int .u8 2, .bool false, .int .u64 0, .int .u8 0] 27) (.cells #[.int .u8 (c : Int), .int .u32 qs, .int .u64 qkey, .int .u8 5, .bool false, .int .u64 0, .int .u8 0] 27)
  rw [← hX5] at hn5 hu5 h5l h5s
  rw [← hX5]
  clear hX5 hcqX4
  have HA5 : Hid (AW W X5 bK A B (m.put c qs (Rep.mk ((c : Int)) (qs) (qkey) (2) (false) (0) (0))) t) := HA4.out.later h5l
  have HW4 : Hid (W.heap.size ≤ X4.heap.size ∧ bK < W.heap.size) := (⟨HA4.out.size, by have := HWS.out; omega⟩ : _ ∧ _)
  have HN5 : Hid (X5.heap[X4.heap.size]? = some (.cells #[.int .u8 (c : Int), .int .u32 qs, .int .u64 qkey, .int .u8 2, .bool false, .int .u64 0, .int .u8 0] 27)) := hn5
  have HU5 : Hid (X5.heap[X4.heap.size + 1]? = some (.cells #[.int .u8 (c : Int), .int .u32 qs, .int .u64 qkey, .int .u8 5, .bool false, .int .u64 0, .int .u8 0] 27)) := hu5
  have hcn5 := blk_cell hn5
  have hcu5 := blk_cell hu5
  clear hn5 hu5 h5l
  have hcqX5 := blk_cell ((HA5.out.o _ (by omega) (by have := HWS.out; omega)).trans HQ.out)
  have hcrX5 := blk_cell ((HA5.out.o _ (by omega) (by have := HWS.out; omega)).trans HR.out)
  have hkf : X5.cell? ⟨bK, off, none⟩ = some (.bool m.found) := by rw [HOFF.out.1]; exact cell_mid HA5.out.k 0 _ rfl
  have hkv : X5.cell? ⟨bK, off + 1, none⟩ = some (.int .u64 m.val) := by rw [HOFF.out.1]; exact cell_mid HA5.out.k 1 _ rfl
  go_wp2_with (first
    | (with_reducible show wpList _ _ _ ({ dst := _, op := Op.store 4 (Operand.tmp 137) _, type := _, pos := _, after := _, guard := none } :: _) _ _; go_must (refine wpList_store_mid rfl _ _ _ rfl rfl bK (off) rfl (.bool true) rfl (by kernel_rfl) rfl A (m.put c qs (Rep.mk (c : Int) (qs) (qkey) (2) (false) (0) (0))).cells B 0 t HA5.out.k (by rw [mem_len]; decide) (by rw [HOFF.out.1, Nat.add_zero]) ?_; intro X6 hw ho; rw [mem_setfound (m.put c qs (Rep.mk (c : Int) (qs) (qkey) (2) (false) (0) (0))) true] at hw; have HA6 : Hid (AW W X6 bK A B (Mem.mk true (m.put c qs (Rep.mk (c : Int) (qs) (qkey) (2) (false) (0) (0))).val (m.put c qs (Rep.mk (c : Int) (qs) (qkey) (2) (false) (0) (0))).s (m.put c qs (Rep.mk (c : Int) (qs) (qkey) (2) (false) (0) (0))).said) t) := hideJ (HA5.out.set ho hw); have HN6 : Hid (X6.heap[X4.heap.size]? = some (.cells #[.int .u8 (c : Int), .int .u32 qs, .int .u64 qkey, .int .u8 2, .bool false, .int .u64 0, .int .u8 0] 27)) := hideJ ((ho.block _ (by have := HW4.out; omega)).trans HN5.out); clear hw ho; have hcn6 := blk_cell HN6.out; have hcr6 := blk_cell ((HA6.out.o (w.heap.size + 1 + 1) (by omega) (by have := HWS.out; omega)).trans HR.out); have hcq6 := blk_cell ((HA6.out.o (w.heap.size + 1) (by omega) (by have := HWS.out; omega)).trans HQ.out)))
    | (with_reducible show wpList _ _ _ ({ dst := _, op := Op.store 23 (Operand.tmp 142) _, type := _, pos := _, after := _, guard := none } :: _) _ _; go_must (refine wpList_store_mid rfl _ _ _ rfl rfl bK (off + 1) rfl (.int .u64 qv) rfl (by kernel_rfl) rfl A (Mem.mk true (m.put c qs (Rep.mk (c : Int) (qs) (qkey) (2) (false) (0) (0))).val (m.put c qs (Rep.mk (c : Int) (qs) (qkey) (2) (false) (0) (0))).s (m.put c qs (Rep.mk (c : Int) (qs) (qkey) (2) (false) (0) (0))).said).cells B 1 t HA6.out.k (by rw [mem_len]; decide) (by rw [HOFF.out.1]) ?_; intro X7 hw ho; rw [mem_setval (Mem.mk true (m.put c qs (Rep.mk (c : Int) (qs) (qkey) (2) (false) (0) (0))).val (m.put c qs (Rep.mk (c : Int) (qs) (qkey) (2) (false) (0) (0))).s (m.put c qs (Rep.mk (c : Int) (qs) (qkey) (2) (false) (0) (0))).said) qv] at hw; have HA7 : Hid (AW W X7 bK A B (Mem.mk true qv (m.put c qs (Rep.mk (c : Int) (qs) (qkey) (2) (false) (0) (0))).s (m.put c qs (Rep.mk (c : Int) (qs) (qkey) (2) (false) (0) (0))).said) t) := hideJ (HA6.out.set ho hw); have HN7 : Hid (X7.heap[X4.heap.size]? = some (.cells #[.int .u8 (c : Int), .int .u32 qs, .int .u64 qkey, .int .u8 2, .bool false, .int .u64 0, .int .u8 0] 27)) := hideJ ((ho.block _ (by have := HW4.out; omega)).trans HN6.out); clear hw ho; have hcn7 := blk_cell HN7.out; have hcr7 := blk_cell ((HA7.out.o (w.heap.size + 1 + 1) (by omega) (by have := HWS.out; omega)).trans HR.out); have hcq7 := blk_cell ((HA7.out.o (w.heap.size + 1) (by omega) (by have := HWS.out; omega)).trans HQ.out))))
  go_ret2
  exact ⟨rfl, HA7.out.from HWL.out⟩

end Go.Proofs.Ytignemioillaiaa
