/- Package wire: reading lists. -/
import Derived.Test.YtignemioillaiaaQ6
import Derived.Deep.QuietTactic
namespace Go.Proofs.Ytignemioillaiaa
open Go.RowKit

theorem own_upd {w w' : World} {base B : Nat} {e : TypeId} {size : Nat} {v : Value} {n : Nat} {xs : List Value} (h : w.ownsRow base e size v n xs) (hU : Upd B w w') (hB : B < base) : w'.ownsRow base e size v n xs :=
  World.ownsRow.kept h hU (.inr (by intro e; have := (World.ownsRow.lt h B e).1; omega))
theorem upd_alloc (B : Nat) (w : World) (o : Obj) : Upd B w (w.alloc o) := World.grownBy_alloc w o _
theorem upd_grown {B : Nat} {a b c : World} {row : Option Nat} (h : Upd B a b) (k : b.grownBy c row) (hr : ∀ j, row = some j → a.heap.size ≤ j) : Upd B a c :=
  ⟨k.os.trans h.os, k.tape.trans h.tape, k.output.trans h.output, Nat.le_trans h.size k.size, fun i hi hne => (k.block i (Nat.lt_of_lt_of_le hi h.size) (by intro e; have := hr i e.symm; omega)).trans (h.block i hi hne)⟩
theorem bstr_ne' (l : List Int) (h : 0 < l.length) : (bstr l).toList.isEmpty = false := by
  rw [ByteArray.toList_eq, bstr_data]
  cases l with
  | nil => simp at h
  | cons a b => simp
theorem new_cells {W : World} {b : Nat} {cs : List Value} {t : TypeId} (hb : b = W.heap.size) : ∀ (j : Nat) (u : Value), cs[j]? = some u → (W.alloc (.cells cs.toArray t)).cell? ((⟨b, 0, none⟩ : Addr).add j) = some u := by
  subst hb
  intro j u hj
  have hadd : (⟨W.heap.size, 0, none⟩ : Addr).add j = ⟨W.heap.size, j, none⟩ := by unfold Addr.add; split <;> simp_all
  rw [hadd, blk_cell (heap_alloc_new W _) j]
  simpa using hj
theorem row_one (x : Row) : ∀ u ∈ x.cells, u.oneCell' = true := by
  intro u hu; simp [Row.cells] at hu; rcases hu with rfl | rfl <;> rfl
theorem rep_one (x : Rep) : ∀ u ∈ x.cells, u.oneCell' = true := by
  intro u hu; simp [Rep.cells] at hu; rcases hu with rfl | rfl | rfl | rfl | rfl | rfl | rfl <;> rfl

theorem src_row' (B : Nat) (l : List Int) (w : World) (h : Src B w l) :
    Calls Try.prog 135 #[.pointer (some ⟨B, 0, none⟩)] w fun e w' => e = .returned (.agg #[.int .u64 (rdRow l).1.key, .int .u64 (rdRow l).1.val]) ∧ Src B w' (rdRow l).2 ∧ Upd B w w' := src_row B l w h

set_option maxHeartbeats 1000000 in
set_option maxRecDepth 100000 in
theorem list_rows (B : Nat) (l : List Int) (w : World) (h : Src B w l) :
    Calls Try.prog 134 #[.pointer (some ⟨B, 0, none⟩), .func (.func 135) #[.pointer (some ⟨B, 0, none⟩)] #[]] w fun e w' => ∃ v', e = .returned v' ∧ w'.ownsRow w.heap.size 82 2 v' (rdList rdRow (num 1 l).1.toNat (num 1 l).2).1.length ((rdList rdRow (num 1 l).1.toNat (num 1 l).2).1.map Row.cells).flatten ∧ Src B w' (rdList rdRow (num 1 l).1.toNat (num 1 l).2).2 ∧ Upd B w w' := by
  obtain ⟨i0, hi0, hz0, hz1, hz2⟩ := info_parts info_row
  have hltB := h.lt
  have hn8 := num1_in h.byt
  obtain ⟨n0, hn0⟩ : ∃ n : Nat, (num 1 l).1 = n := ⟨(num 1 l).1.toNat, by omega⟩
  obtain ⟨L0, hL0⟩ : ∃ L, L = (num 1 l).2 := ⟨_, rfl⟩
  have hn255 : n0 ≤ 255 := by omega
  obtain ⟨XS, hXS⟩ : ∃ X, X = rdList rdRow n0 L0 := ⟨_, rfl⟩
  have e0 : rdList rdRow (num 1 l).1.toNat (num 1 l).2 = XS := by rw [hXS, hL0, hn0]; rfl
  rw [e0]
  clear e0
  have HXS := hidQ hXS
  have HN0 := hidQ hn0
  have HL0 := hidQ hL0
  clear hn0 hXS hL0 hn8
  go_enter Try.func134, Try.ntmps134
  go_wp2_with (first | (go_at_call 91; go_must (refine (src8 B l _ h).mono ?_; rintro e w1 ⟨rfl, hS1, hO1⟩; rw [HN0.out])))
  rw [← HL0.out] at hS1
  go_loopw [5, 8] (fun vv i wr => ∃ (k : Nat) (xs : List Row) (lk : List Int), k ≤ n0 ∧ i = .int .u8 k ∧ Hid (XS = (xs ++ (rdList rdRow (n0 - k) lk).1, (rdList rdRow (n0 - k) lk).2)) ∧ Hid (xs.length ≤ k) ∧ Hid (wr.ownsRow w.heap.size 82 2 vv xs.length (xs.map Row.cells).flatten) ∧ Src B wr lk ∧ Upd B w wr) (fun _ i _ => n0 - (intOf i).toNat)
  case atStart => exact ⟨0, [], L0, Nat.zero_le _, rfl, (by show _ = _; rw [HXS.out]; rfl), Nat.le_refl _, World.ownsRow_nil _ _ _ _, hS1, upd_only hO1⟩
  case round =>
    clear hS1 hO1 h HL0 HN0 HXS
    obtain ⟨k, xs, lk, hk, rfl, HX, HK, HO, hS, hU⟩ := hrel
    have hsz := hU.size
    have hB := blk_cell hS.blk
    by_cases hlt : k < n0
    · by_cases hnil : lk = []
      · subst hnil
        have hemp : (bstr []).toList.isEmpty = true := by rw [ByteArray.toList_eq, bstr_data]; rfl
        have hend : XS = (xs, []) := by
          have := HX.out
          obtain ⟨j, hj⟩ : ∃ j, n0 - k = j + 1 := ⟨n0 - k - 1, by omega⟩
          rw [hj] at this
          simpa [rdList] using this
        go_wp2_with fail
        go_ret
        rw [hend]
        exact ⟨_, rfl, HO.out, hS, hU⟩
      · have hemp : (bstr lk).toList.isEmpty = false := bstr_ne' lk (by cases lk with | nil => exact (hnil rfl).elim | cons a b => simp)
        have HX' : Hid (XS = ((xs ++ [(rdRow lk).1]) ++ (rdList rdRow (n0 - (k + 1)) (rdRow lk).2).1, (rdList rdRow (n0 - (k + 1)) (rdRow lk).2).2)) := by
          show _ = _
          have := HX.out
          obtain ⟨j, hj⟩ : ∃ j, n0 - k = j + 1 := ⟨n0 - k - 1, by omega⟩
          rw [hj] at this
          rw [this, show n0 - (k + 1) = j by omega]
          simp [rdList, hnil]
        obtain ⟨X, hX⟩ : ∃ X, X = (rdRow lk).1 := ⟨_, rfl⟩
        have HXE := hidQ hX
        clear hX
        go_wp2_with (first | (go_at_call 135; go_must (refine (src_row' B lk _ hS).mono ?_; rintro e w2 ⟨rfl, hS2, hU2⟩; have how2 := own_upd HO.out hU2 hltB)) | (at_builtin; go_must (refine wpList_append_new _ rfl _ _ 30 rfl w.heap.size 82 i0 (.agg #[.int .u64 0, .int .u64 0]) 2 16 Try.underlying30 hi0 hz0 hz1 hz2 rfl (by decide) _ _ _ rfl (World.ownsRow.alloc how2 _) _ 1 1 [.int .u64 (rdRow lk).1.key, .int .u64 (rdRow lk).1.val] rfl rfl ?_ ?_ ?_ ?_ ?_ ?_)))
        case refine_1 => exact new_cells rfl
        case refine_2 => exact row_one (rdRow lk).1
        case refine_3 => unfold maxLen; have := HK.out; omega
        case refine_4 => have := HK.out; omega
        case refine_5 => have := hU2.size; simp; omega
        intro vv' w3 ho3 hg3
        go_wp2
        go_roundw
        case rel =>
          have how2a := World.ownsRow.alloc how2 (.cells #[.int .u64 (rdRow lk).1.key, .int .u64 (rdRow lk).1.val] 82)
          refine ⟨k + 1, xs ++ [(rdRow lk).1], (rdRow lk).2, by omega, by go_num, HX', ?_, ?_, ?_, ?_⟩
          · show (xs ++ _).length ≤ k + 1
            have := HK.out; simp; omega
          · show w3.ownsRow _ _ _ _ _ _
            rw [List.length_append, List.map_append, List.flatten_append]
            exact ho3
          · refine ⟨?_, hS2.byt, hS2.len⟩
            rw [hg3.grown.block B (by have := hS2.lt; simp; omega) (by intro e; have := (World.ownsRow.lt how2a B e.symm).1; omega)]
            exact blk_later (later_alloc w2 _) hS2.blk
          · exact upd_grown (upd_trans hU (upd_trans hU2 (upd_alloc B w2 _))) hg3.grown (fun j hj => (World.ownsRow.lt how2a j hj).1)
        case measure => simp [intOf]; omega
    · have hk' : k = n0 := by omega
      have hend : XS = (xs, lk) := by
        have := HX.out
        rw [hk', Nat.sub_self] at this
        simpa [rdList] using this
      go_wp2_with fail
      go_ret
      rw [hend]
      exact ⟨_, rfl, HO.out, hS, hU⟩

set_option maxHeartbeats 1000000 in
set_option maxRecDepth 100000 in
theorem list_reps (B : Nat) (l : List Int) (w : World) (h : Src B w l) :
    Calls Try.prog 136 #[.pointer (some ⟨B, 0, none⟩), .func (.func 93) #[.pointer (some ⟨B, 0, none⟩)] #[]] w fun e w' => ∃ v', e = .returned v' ∧ w'.ownsRow w.heap.size 27 7 v' (rdList rdRep (num 1 l).1.toNat (num 1 l).2).1.length ((rdList rdRep (num 1 l).1.toNat (num 1 l).2).1.map Rep.cells).flatten ∧ Src B w' (rdList rdRep (num 1 l).1.toNat (num 1 l).2).2 ∧ Upd B w w' := by
  obtain ⟨i0, hi0, hz0, hz1, hz2⟩ := info_parts info_rep
  have hltB := h.lt
  have hn8 := num1_in h.byt
  obtain ⟨n0, hn0⟩ : ∃ n : Nat, (num 1 l).1 = n := ⟨(num 1 l).1.toNat, by omega⟩
  obtain ⟨L0, hL0⟩ : ∃ L, L = (num 1 l).2 := ⟨_, rfl⟩
  have hn255 : n0 ≤ 255 := by omega
  obtain ⟨XS, hXS⟩ : ∃ X, X = rdList rdRep n0 L0 := ⟨_, rfl⟩
  have e0 : rdList rdRep (num 1 l).1.toNat (num 1 l).2 = XS := by rw [hXS, hL0, hn0]; rfl
  rw [e0]
  clear e0
  have HXS := hidQ hXS
  have HN0 := hidQ hn0
  have HL0 := hidQ hL0
  clear hn0 hXS hL0 hn8
  go_enter Try.func136, Try.ntmps136
  go_wp2_with (first | (go_at_call 91; go_must (refine (src8 B l _ h).mono ?_; rintro e w1 ⟨rfl, hS1, hO1⟩; rw [HN0.out])))
  rw [← HL0.out] at hS1
  go_loopw [5, 8] (fun vv i wr => ∃ (k : Nat) (xs : List Rep) (lk : List Int), k ≤ n0 ∧ i = .int .u8 k ∧ Hid (XS = (xs ++ (rdList rdRep (n0 - k) lk).1, (rdList rdRep (n0 - k) lk).2)) ∧ Hid (xs.length ≤ k) ∧ Hid (wr.ownsRow w.heap.size 27 7 vv xs.length (xs.map Rep.cells).flatten) ∧ Src B wr lk ∧ Upd B w wr) (fun _ i _ => n0 - (intOf i).toNat)
  case atStart => exact ⟨0, [], L0, Nat.zero_le _, rfl, (by show _ = _; rw [HXS.out]; rfl), Nat.le_refl _, World.ownsRow_nil _ _ _ _, hS1, upd_only hO1⟩
  case round =>
    clear hS1 hO1 h HL0 HN0 HXS
    obtain ⟨k, xs, lk, hk, rfl, HX, HK, HO, hS, hU⟩ := hrel
    have hsz := hU.size
    have hB := blk_cell hS.blk
    by_cases hlt : k < n0
    · by_cases hnil : lk = []
      · subst hnil
        have hemp : (bstr []).toList.isEmpty = true := by rw [ByteArray.toList_eq, bstr_data]; rfl
        have hend : XS = (xs, []) := by
          have := HX.out
          obtain ⟨j, hj⟩ : ∃ j, n0 - k = j + 1 := ⟨n0 - k - 1, by omega⟩
          rw [hj] at this
          simpa [rdList] using this
        go_wp2_with fail
        go_ret
        rw [hend]
        exact ⟨_, rfl, HO.out, hS, hU⟩
      · have hemp : (bstr lk).toList.isEmpty = false := bstr_ne' lk (by cases lk with | nil => exact (hnil rfl).elim | cons a b => simp)
        have HX' : Hid (XS = ((xs ++ [(rdRep lk).1]) ++ (rdList rdRep (n0 - (k + 1)) (rdRep lk).2).1, (rdList rdRep (n0 - (k + 1)) (rdRep lk).2).2)) := by
          show _ = _
          have := HX.out
          obtain ⟨j, hj⟩ : ∃ j, n0 - k = j + 1 := ⟨n0 - k - 1, by omega⟩
          rw [hj] at this
          rw [this, show n0 - (k + 1) = j by omega]
          simp [rdList, hnil]
        obtain ⟨X, hX⟩ : ∃ X, X = (rdRep lk).1 := ⟨_, rfl⟩
        have HXE := hidQ hX
        clear hX
        go_wp2_with (first | (go_at_call 93; go_must (refine (src_rep B lk _ hS).mono ?_; rintro e w2 ⟨rfl, hS2, hU2⟩; have how2 := own_upd HO.out hU2 hltB)) | (at_builtin; go_must (refine wpList_append_new _ rfl _ _ 31 rfl w.heap.size 27 i0 (.agg #[.int .u8 0, .int .u32 0, .int .u64 0, .int .u8 0, .bool false, .int .u64 0, .int .u8 0]) 7 40 Try.underlying31 hi0 hz0 hz1 hz2 rfl (by decide) _ _ _ rfl (World.ownsRow.alloc how2 _) _ 1 1 [.int .u8 (rdRep lk).1.c, .int .u32 (rdRep lk).1.s, .int .u64 (rdRep lk).1.key, .int .u8 (rdRep lk).1.k, .bool (rdRep lk).1.found, .int .u64 (rdRep lk).1.v, .int .u8 (rdRep lk).1.g] rfl rfl ?_ ?_ ?_ ?_ ?_ ?_)))
        case refine_1 => exact new_cells rfl
        case refine_2 => exact rep_one (rdRep lk).1
        case refine_3 => unfold maxLen; have := HK.out; omega
        case refine_4 => have := HK.out; omega
        case refine_5 => have := hU2.size; simp; omega
        intro vv' w3 ho3 hg3
        go_wp2
        go_roundw
        case rel =>
          have how2a := World.ownsRow.alloc how2 (.cells #[.int .u8 (rdRep lk).1.c, .int .u32 (rdRep lk).1.s, .int .u64 (rdRep lk).1.key, .int .u8 (rdRep lk).1.k, .bool (rdRep lk).1.found, .int .u64 (rdRep lk).1.v, .int .u8 (rdRep lk).1.g] 27)
          refine ⟨k + 1, xs ++ [(rdRep lk).1], (rdRep lk).2, by omega, by go_num, HX', ?_, ?_, ?_, ?_⟩
          · show (xs ++ _).length ≤ k + 1
            have := HK.out; simp; omega
          · show w3.ownsRow _ _ _ _ _ _
            rw [List.length_append, List.map_append, List.flatten_append]
            exact ho3
          · refine ⟨?_, hS2.byt, hS2.len⟩
            rw [hg3.grown.block B (by have := hS2.lt; simp; omega) (by intro e; have := (World.ownsRow.lt how2a B e.symm).1; omega)]
            exact blk_later (later_alloc w2 _) hS2.blk
          · exact upd_grown (upd_trans hU (upd_trans hU2 (upd_alloc B w2 _))) hg3.grown (fun j hj => (World.ownsRow.lt how2a j hj).1)
        case measure => simp [intOf]; omega
    · have hk' : k = n0 := by omega
      have hend : XS = (xs, lk) := by
        have := HX.out
        rw [hk', Nat.sub_self] at this
        simpa [rdList] using this
      go_wp2_with fail
      go_ret
      rw [hend]
      exact ⟨_, rfl, HO.out, hS, hU⟩

end Go.Proofs.Ytignemioillaiaa
