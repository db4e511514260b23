/- Package wire: reading lists. -/
import Derived.Test.YtignemioillaiaaGreatG10
import Derived.Deep.CutRange
namespace Go.Proofs.YtignemioillaiaaGreat
set_option maxHeartbeats 8000000
set_option maxRecDepth 100000
section
open Go.RowKit
theorem rX {w w' : World} {base B : Nat} {e : TypeId} {size : Nat} {v : Value} {n : Nat} {xs : List Value} (h : w.ownsRow base e size v n xs) (hU : fD B w w') (hB : B < base) : w'.ownsRow base e size v n xs :=
  World.ownsRow.kept h hU (.inr (by intro e; have := (World.ownsRow.lt h B e).1; omega))
theorem dm (B : Nat) (w : World) (o : Obj) : fD B w (w.alloc o) := World.grownBy_alloc w o _
theorem wM {B : Nat} {a b c : World} {row : Option Nat} (h : fD B a b) (k : b.grownBy c row) (hr : ∀ j, row = some j → a.heap.size ≤ j) : fD B a c :=
  ⟨k.os.trans h.os, k.tape.trans h.tape, k.output.trans h.output, Nat.le_trans h.size k.size, fun i hi hne => (k.block i (Nat.lt_of_lt_of_le hi h.size) (by intro e; have := hr i e.symm; omega)).trans (h.block i hi hne)⟩
theorem AR (l : List Int) (h : 0 < l.length) : (dI l).toList.isEmpty = false := by
  rw [ByteArray.toList_eq, kX]
  cases l with
  | nil => simp at h
  | cons a b => simp
theorem wN {W : World} {b : Nat} {cs : List Value} {t : TypeId} (hb : b = W.heap.size) : ∀ (j : Nat) (u : Value), cs[j]? = some u → (W.alloc (.cells cs.toArray t)).cell? ((⟨b, 0, none⟩ : Addr).add j) = some u := by
  subst hb
  intro j u hj
  have hadd : (⟨W.heap.size, 0, none⟩ : Addr).add j = ⟨W.heap.size, j, none⟩ := by unfold Addr.add; split <;> simp_all
  rw [hadd, af (heap_alloc_new W _) j]
  simpa using hj
theorem row_one (x : Row) : ∀ u ∈ x.cells, u.oneCell' = true := by
  intro u hu; simp [Row.cells] at hu; rcases hu with rfl | rfl <;> rfl
theorem RN (x : ay) : ∀ u ∈ x.cells, u.oneCell' = true := by
  intro u hu; simp [ay.cells] at hu; rcases hu with rfl | rfl | rfl | rfl | rfl | rfl | rfl <;> rfl
theorem Oa (B : Nat) (l : List Int) (w : World) (h : Src B w l) :
    Calls Tryz.prog 226 #[.pointer (some ⟨B, 0, none⟩)] w fun e w' => e = .returned (.agg #[.int .u64 (dE l).1.key, .int .u64 (dE l).1.val]) ∧ Src B w' (dE l).2 ∧ fD B w w' := RJ B l w h
theorem Li (B : Nat) (l : List Int) (w : World) (h : Src B w l) :
    Calls Tryz.prog 225 #[.pointer (some ⟨B, 0, none⟩), .func (.func 226) #[.pointer (some ⟨B, 0, none⟩)] #[]] w fun e w' => ∃ v', e = .returned v' ∧ w'.ownsRow w.heap.size 128 2 v' (bB dE (num 1 l).1.toNat (num 1 l).2).1.length ((bB dE (num 1 l).1.toNat (num 1 l).2).1.map Row.cells).flatten ∧ Src B w' (bB dE (num 1 l).1.toNat (num 1 l).2).2 ∧ fD B w w' := by
  obtain ⟨i0, hi0, hz0, hz1, hz2⟩ := info_parts NR
  have wO := h.lt
  have Lj := uG h.lG
  obtain ⟨n0, hn0⟩ : ∃ n : Nat, (num 1 l).1 = n := ⟨(num 1 l).1.toNat, by omega⟩
  obtain ⟨L0, hL0⟩ : ∃ L, L = (num 1 l).2 := ⟨_, rfl⟩
  have Qq : n0 ≤ 255 := by omega
  obtain ⟨XS, wP⟩ : ∃ X, X = bB dE n0 L0 := ⟨_, rfl⟩
  have e0 : bB dE (num 1 l).1.toNat (num 1 l).2 = XS := by rw [wP, hL0, hn0]; rfl
  rw [e0]
  clear e0
  have wJ := qY wP
  have D7 := qY hn0
  have D8 := qY hL0
  clear hn0 wP hL0 Lj
  go_enter Tryz.func225, Tryz.ntmps225
  go_wp2_with (first | (go_at_call 191; go_must (refine (iL B l _ h).mono ?_; rintro e w1 ⟨rfl, hS1, aJ⟩; rw [D7.out])))
  rw [← D8.out] at hS1
  go_loopw [5, 8] (fun vv i wr => ∃ (k : Nat) (xs : List Row) (lk : List Int), k ≤ n0 ∧ i = .int .u8 k ∧ Hid (XS = (xs ++ (bB dE (n0 - k) lk).1, (bB dE (n0 - k) lk).2)) ∧ Hid (xs.length ≤ k) ∧ Hid (wr.ownsRow w.heap.size 128 2 vv xs.length (xs.map Row.cells).flatten) ∧ Src B wr lk ∧ fD B w wr) (fun _ i _ => n0 - (intOf i).toNat)
  case atStart => exact ⟨0, [], L0, Nat.zero_le _, rfl, (by show _ = _; rw [wJ.out]; rfl), Nat.le_refl _, World.ownsRow_nil _ _ _ _, hS1, bV aJ⟩
  case round =>
    clear hS1 aJ h D8 D7 wJ
    obtain ⟨k, xs, lk, hk, rfl, HX, HK, HO, hS, hU⟩ := hrel
    have hsz := hU.size
    have hB := af hS.blk
    by_cases hlt : k < n0
    · by_cases hnil : lk = []
      · subst hnil
        have hemp : (dI []).toList.isEmpty = true := by rw [ByteArray.toList_eq, kX]; rfl
        have hend : XS = (xs, []) := by
          have := HX.out
          obtain ⟨j, hj⟩ : ∃ j, n0 - k = j + 1 := ⟨n0 - k - 1, by omega⟩
          rw [hj] at this
          simpa [bB] using this
        go_wp2_with fail
        go_ret
        rw [hend]
        exact ⟨_, rfl, HO.out, hS, hU⟩
      · have hemp : (dI lk).toList.isEmpty = false := AR lk (by cases lk with | nil => exact (hnil rfl).elim | cons a b => simp)
        have Ll : Hid (XS = ((xs ++ [(dE lk).1]) ++ (bB dE (n0 - (k + 1)) (dE lk).2).1, (bB dE (n0 - (k + 1)) (dE lk).2).2)) := by
          show _ = _
          have := HX.out
          obtain ⟨j, hj⟩ : ∃ j, n0 - k = j + 1 := ⟨n0 - k - 1, by omega⟩
          rw [hj] at this
          rw [this, show n0 - (k + 1) = j by omega]
          simp [bB, hnil]
        obtain ⟨X, hX⟩ : ∃ X, X = (dE lk).1 := ⟨_, rfl⟩
        have XW := qY hX
        clear hX
        go_wp2_with (first | (go_at_call 226; go_must (refine (Oa B lk _ hS).mono ?_; rintro e w2 ⟨rfl, hS2, iN⟩; have wQ := rX HO.out iN wO)) | (at_builtin; go_must (refine ku _ rfl _ _ 25 rfl w.heap.size 128 i0 (.agg #[.int .u64 0, .int .u64 0]) 2 16 Tryz.underlying25 hi0 hz0 hz1 hz2 rfl (by decide) _ _ _ rfl (World.ownsRow.alloc wQ _) _ 1 1 [.int .u64 (dE lk).1.key, .int .u64 (dE lk).1.val] rfl rfl ?_ ?_ ?_ ?_ ?_ ?_)))
        case refine_1 => exact wN rfl
        case refine_2 => exact row_one (dE lk).1
        case refine_3 => unfold maxLen; have := HK.out; omega
        case refine_4 => have := HK.out; omega
        case refine_5 => have := iN.size; simp; omega
        intro VA w3 ho3 hg3
        go_wp2
        go_roundw
        case rel =>
          have qK := World.ownsRow.alloc wQ (.cells #[.int .u64 (dE lk).1.key, .int .u64 (dE lk).1.val] 128)
          refine ⟨k + 1, xs ++ [(dE lk).1], (dE lk).2, by omega, by go_num, Ll, ?_, ?_, ?_, ?_⟩
          · show (xs ++ _).length ≤ k + 1
            have := HK.out; simp; omega
          · show w3.ownsRow _ _ _ _ _ _
            rw [List.length_append, List.map_append, List.flatten_append]
            exact ho3
          · refine ⟨?_, hS2.lG, hS2.len⟩
            rw [hg3.grown.block B (by have := hS2.lt; simp; omega) (by intro e; have := (World.ownsRow.lt qK B e.symm).1; omega)]
            exact bF (av w2 _) hS2.blk
          · exact wM (aF hU (aF iN (dm B w2 _))) hg3.grown (fun j hj => (World.ownsRow.lt qK j hj).1)
        case measure => simp [intOf]; omega
    · have hk' : k = n0 := by omega
      have hend : XS = (xs, lk) := by
        have := HX.out
        rw [hk', Nat.sub_self] at this
        simpa [bB] using this
      go_wp2_with fail
      go_ret
      rw [hend]
      exact ⟨_, rfl, HO.out, hS, hU⟩
theorem Lm (B : Nat) (l : List Int) (w : World) (h : Src B w l) :
    Calls Tryz.prog 227 #[.pointer (some ⟨B, 0, none⟩), .func (.func 193) #[.pointer (some ⟨B, 0, none⟩)] #[]] w fun e w' => ∃ v', e = .returned v' ∧ w'.ownsRow w.heap.size 57 7 v' (bB aW (num 1 l).1.toNat (num 1 l).2).1.length ((bB aW (num 1 l).1.toNat (num 1 l).2).1.map ay.cells).flatten ∧ Src B w' (bB aW (num 1 l).1.toNat (num 1 l).2).2 ∧ fD B w w' := by
  obtain ⟨i0, hi0, hz0, hz1, hz2⟩ := info_parts NS
  have wO := h.lt
  have Lj := uG h.lG
  obtain ⟨n0, hn0⟩ : ∃ n : Nat, (num 1 l).1 = n := ⟨(num 1 l).1.toNat, by omega⟩
  obtain ⟨L0, hL0⟩ : ∃ L, L = (num 1 l).2 := ⟨_, rfl⟩
  have Qq : n0 ≤ 255 := by omega
  obtain ⟨XS, wP⟩ : ∃ X, X = bB aW n0 L0 := ⟨_, rfl⟩
  have e0 : bB aW (num 1 l).1.toNat (num 1 l).2 = XS := by rw [wP, hL0, hn0]; rfl
  rw [e0]
  clear e0
  have wJ := qY wP
  have D7 := qY hn0
  have D8 := qY hL0
  clear hn0 wP hL0 Lj
  go_enter Tryz.func227, Tryz.ntmps227
  go_wp2_with (first | (go_at_call 191; go_must (refine (iL B l _ h).mono ?_; rintro e w1 ⟨rfl, hS1, aJ⟩; rw [D7.out])))
  rw [← D8.out] at hS1
  go_loopw [5, 8] (fun vv i wr => ∃ (k : Nat) (xs : List ay) (lk : List Int), k ≤ n0 ∧ i = .int .u8 k ∧ Hid (XS = (xs ++ (bB aW (n0 - k) lk).1, (bB aW (n0 - k) lk).2)) ∧ Hid (xs.length ≤ k) ∧ Hid (wr.ownsRow w.heap.size 57 7 vv xs.length (xs.map ay.cells).flatten) ∧ Src B wr lk ∧ fD B w wr) (fun _ i _ => n0 - (intOf i).toNat)
  case atStart => exact ⟨0, [], L0, Nat.zero_le _, rfl, (by show _ = _; rw [wJ.out]; rfl), Nat.le_refl _, World.ownsRow_nil _ _ _ _, hS1, bV aJ⟩
  case round =>
    clear hS1 aJ h D8 D7 wJ
    obtain ⟨k, xs, lk, hk, rfl, HX, HK, HO, hS, hU⟩ := hrel
    have hsz := hU.size
    have hB := af hS.blk
    by_cases hlt : k < n0
    · by_cases hnil : lk = []
      · subst hnil
        have hemp : (dI []).toList.isEmpty = true := by rw [ByteArray.toList_eq, kX]; rfl
        have hend : XS = (xs, []) := by
          have := HX.out
          obtain ⟨j, hj⟩ : ∃ j, n0 - k = j + 1 := ⟨n0 - k - 1, by omega⟩
          rw [hj] at this
          simpa [bB] using this
        go_wp2_with fail
        go_ret
        rw [hend]
        exact ⟨_, rfl, HO.out, hS, hU⟩
      · have hemp : (dI lk).toList.isEmpty = false := AR lk (by cases lk with | nil => exact (hnil rfl).elim | cons a b => simp)
        have Ll : Hid (XS = ((xs ++ [(aW lk).1]) ++ (bB aW (n0 - (k + 1)) (aW lk).2).1, (bB aW (n0 - (k + 1)) (aW lk).2).2)) := by
          show _ = _
          have := HX.out
          obtain ⟨j, hj⟩ : ∃ j, n0 - k = j + 1 := ⟨n0 - k - 1, by omega⟩
          rw [hj] at this
          rw [this, show n0 - (k + 1) = j by omega]
          simp [bB, hnil]
        obtain ⟨X, hX⟩ : ∃ X, X = (aW lk).1 := ⟨_, rfl⟩
        have XW := qY hX
        clear hX
        go_wp2_with (first | (go_at_call 193; go_must (refine (Iw B lk _ hS).mono ?_; rintro e w2 ⟨rfl, hS2, iN⟩; have wQ := rX HO.out iN wO)) | (at_builtin; go_must (refine ku _ rfl _ _ 27 rfl w.heap.size 57 i0 (.agg (List.toArray fT)) 7 40 Tryz.underlying27 hi0 hz0 hz1 hz2 rfl (by decide) _ _ _ rfl (World.ownsRow.alloc wQ _) _ 1 1 (rP (aW lk).1.c (aW lk).1.s (aW lk).1.key (aW lk).1.k (aW lk).1.found (aW lk).1.v (aW lk).1.g) rfl rfl ?_ ?_ ?_ ?_ ?_ ?_)))
        case refine_1 => exact wN rfl
        case refine_2 => exact RN (aW lk).1
        case refine_3 => unfold maxLen; have := HK.out; omega
        case refine_4 => have := HK.out; omega
        case refine_5 => have := iN.size; simp; omega
        intro VA w3 ho3 hg3
        go_wp2
        go_roundw
        case rel =>
          have qK := World.ownsRow.alloc wQ (.cells (List.toArray (rP (aW lk).1.c (aW lk).1.s (aW lk).1.key (aW lk).1.k (aW lk).1.found (aW lk).1.v (aW lk).1.g)) 57)
          refine ⟨k + 1, xs ++ [(aW lk).1], (aW lk).2, by omega, by go_num, Ll, ?_, ?_, ?_, ?_⟩
          · show (xs ++ _).length ≤ k + 1
            have := HK.out; simp; omega
          · show w3.ownsRow _ _ _ _ _ _
            rw [List.length_append, List.map_append, List.flatten_append]
            exact ho3
          · refine ⟨?_, hS2.lG, hS2.len⟩
            rw [hg3.grown.block B (by have := hS2.lt; simp; omega) (by intro e; have := (World.ownsRow.lt qK B e.symm).1; omega)]
            exact bF (av w2 _) hS2.blk
          · exact wM (aF hU (aF iN (dm B w2 _))) hg3.grown (fun j hj => (World.ownsRow.lt qK j hj).1)
        case measure => simp [intOf]; omega
    · have hk' : k = n0 := by omega
      have hend : XS = (xs, lk) := by
        have := HX.out
        rw [hk', Nat.sub_self] at this
        simpa [bB] using this
      go_wp2_with fail
      go_ret
      rw [hend]
      exact ⟨_, rfl, HO.out, hS, hU⟩
theorem bq {n B : Nat} {w w' : World} (h : n ≤ w.heap.size) (hO : Only B w w') : n ≤ w'.heap.size := by rw [hO.size]; exact h
theorem jo {n B : Nat} {w w' : World} (h : n ≤ w.heap.size) (hU : fD B w w') : n ≤ w'.heap.size := Nat.le_trans h hU.size
theorem Ob (B : Nat) (l : List Int) (w : World) (h : Src B w l) :
    Calls Tryz.prog 199 #[.pointer (some ⟨B, 0, none⟩)] w fun e w' => ∃ a1 n1 c1 a2 n2 c2, e = .returned (.agg (List.toArray (rR (num 1 l).1 (num 1 (num 1 l).2).1 (num 4 (num 1 (num 1 l).2).2).1 (num 8 (num 4 (num 1 (num 1 l).2).2).2).1 (num 8 (num 8 (num 4 (num 1 (num 1 l).2).2).2).2).1 a1 n1 c1 a2 n2 c2))) ∧ w'.ownsRow (w.heap.size + 2) 128 2 (.slice a1 n1 c1) (bB dE (num 1 (num 8 (num 8 (num 4 (num 1 (num 1 l).2).2).2).2).2).1.toNat (num 1 (num 8 (num 8 (num 4 (num 1 (num 1 l).2).2).2).2).2).2).1.length ((bB dE (num 1 (num 8 (num 8 (num 4 (num 1 (num 1 l).2).2).2).2).2).1.toNat (num 1 (num 8 (num 8 (num 4 (num 1 (num 1 l).2).2).2).2).2).2).1.map Row.cells).flatten ∧ w'.ownsRow (w.heap.size + 2) 57 7 (.slice a2 n2 c2) (bB aW (num 1 (bB dE (num 1 (num 8 (num 8 (num 4 (num 1 (num 1 l).2).2).2).2).2).1.toNat (num 1 (num 8 (num 8 (num 4 (num 1 (num 1 l).2).2).2).2).2).2).2).1.toNat (num 1 (bB dE (num 1 (num 8 (num 8 (num 4 (num 1 (num 1 l).2).2).2).2).2).1.toNat (num 1 (num 8 (num 8 (num 4 (num 1 (num 1 l).2).2).2).2).2).2).2).2).1.length ((bB aW (num 1 (bB dE (num 1 (num 8 (num 8 (num 4 (num 1 (num 1 l).2).2).2).2).2).1.toNat (num 1 (num 8 (num 8 (num 4 (num 1 (num 1 l).2).2).2).2).2).2).2).1.toNat (num 1 (bB dE (num 1 (num 8 (num 8 (num 4 (num 1 (num 1 l).2).2).2).2).2).1.toNat (num 1 (num 8 (num 8 (num 4 (num 1 (num 1 l).2).2).2).2).2).2).2).2).1.map ay.cells).flatten ∧ Src B w' (bB aW (num 1 (bB dE (num 1 (num 8 (num 8 (num 4 (num 1 (num 1 l).2).2).2).2).2).1.toNat (num 1 (num 8 (num 8 (num 4 (num 1 (num 1 l).2).2).2).2).2).2).2).1.toNat (num 1 (bB dE (num 1 (num 8 (num 8 (num 4 (num 1 (num 1 l).2).2).2).2).2).1.toNat (num 1 (num 8 (num 8 (num 4 (num 1 (num 1 l).2).2).2).2).2).2).2).2).2 ∧ fD B w w' := by
  have hlt := h.lt
  have dH : w.heap.size + 1 ≠ B := by omega
  have dh : w.heap.size ≠ B := by omega
  have bK : B ≠ w.heap.size + 1 := by omega
  have dC : B ≠ w.heap.size := by omega
  have bL : w.heap.size ≠ w.heap.size + 1 := by omega
  have wO : B < w.heap.size + 2 := by omega
  have hlt2 : w.heap.size + 1 < w.heap.size + 2 := by omega
  have hlt1 : w.heap.size < w.heap.size + 2 := by omega
  have fq : some (w.heap.size + 1) ≠ some B := by simp; omega
  have dW : some w.heap.size ≠ some B := by simp; omega
  have hZ : w.heap.size + 2 ≤ ((w.alloc (.cells (List.toArray q9) 52)).alloc (.cells (List.toArray q9) 52)).heap.size := by simp
  have hS := h.nA (.cells (List.toArray q9) 52) (.cells (List.toArray q9) 52)
  have hU := iM B w (.cells (List.toArray q9) 52) (.cells (List.toArray q9) 52)
  have hR : ((w.alloc (.cells (List.toArray q9) 52)).alloc (.cells (List.toArray q9) 52)).heap[w.heap.size]? = some (.cells (List.toArray q9) 52) := heap_alloc2_old w _ _
  have hV : ((w.alloc (.cells (List.toArray q9) 52)).alloc (.cells (List.toArray q9) 52)).heap[w.heap.size + 1]? = some (.cells (List.toArray q9) 52) := heap_alloc2_new w _ _
  go_enter Tryz.func199, Tryz.ntmps199
  go_wp2_with (first | (go_at_call 191; go_must (refine (iL B _ _ hS).mono ?_; rintro e w1 ⟨rfl, hS1, aJ⟩; have hU := aF hU (bV aJ); have hV := (aJ.block _ dH).trans hV; have hR := (aJ.block _ dh).trans hR; have hZ := bq hZ aJ; have hS := hS1)) | (go_at_call 197; go_must (refine (lZ B _ _ hS).mono ?_; rintro e w1 ⟨rfl, hS1, aJ⟩; have hU := aF hU (bV aJ); have hV := (aJ.block _ dH).trans hV; have hR := (aJ.block _ dh).trans hR; have hZ := bq hZ aJ; have hS := hS1)) | (go_at_call 224; go_must (refine (rE B _ _ hS).mono ?_; rintro e w1 ⟨rfl, hS1, aJ⟩; have hU := aF hU (bV aJ); have hV := (aJ.block _ dH).trans hV; have hR := (aJ.block _ dh).trans hR; have hZ := bq hZ aJ; have hS := hS1)) | (with_reducible show dG 5 6 ..; go_must (refine ah rfl _ _ _ rfl rfl (w.heap.size + 1) 0 rfl (.int .u8 (num 1 l).1) rfl iC rfl _ _ hV rfl (rR (num 1 l).1 0 0 0 0 none 0 0 none 0 0) rfl ?_; intro w1 hV1 hOv; have hU := aG hU hOv (Nat.le_succ _); have hR := (hOv.block _ bL).trans hR; have hS := hS.only hOv bK; have hZ := bq hZ hOv; have hV := hV1)) | (with_reducible show dG 5 9 ..; go_must (refine ah rfl _ _ _ rfl rfl (w.heap.size + 1) 1 rfl (.int .u8 (num 1 (num 1 l).2).1) rfl iC rfl _ _ hV rfl (rR (num 1 l).1 (num 1 (num 1 l).2).1 0 0 0 none 0 0 none 0 0) rfl ?_; intro w1 hV1 hOv; have hU := aG hU hOv (Nat.le_succ _); have hR := (hOv.block _ bL).trans hR; have hS := hS.only hOv bK; have hZ := bq hZ hOv; have hV := hV1)) | (with_reducible show dG 47 12 ..; go_must (refine ah rfl _ _ _ rfl rfl (w.heap.size + 1) 2 rfl (.int .u32 (num 4 (num 1 (num 1 l).2).2).1) rfl fK rfl _ _ hV rfl (rR (num 1 l).1 (num 1 (num 1 l).2).1 (num 4 (num 1 (num 1 l).2).2).1 0 0 none 0 0 none 0 0) rfl ?_; intro w1 hV1 hOv; have hU := aG hU hOv (Nat.le_succ _); have hR := (hOv.block _ bL).trans hR; have hS := hS.only hOv bK; have hZ := bq hZ hOv; have hV := hV1)) | (with_reducible show dG 48 15 ..; go_must (refine ah rfl _ _ _ rfl rfl (w.heap.size + 1) 3 rfl (.int .u64 (num 8 (num 4 (num 1 (num 1 l).2).2).2).1) rfl kU rfl _ _ hV rfl (rR (num 1 l).1 (num 1 (num 1 l).2).1 (num 4 (num 1 (num 1 l).2).2).1 (num 8 (num 4 (num 1 (num 1 l).2).2).2).1 0 none 0 0 none 0 0) rfl ?_; intro w1 hV1 hOv; have hU := aG hU hOv (Nat.le_succ _); have hR := (hOv.block _ bL).trans hR; have hS := hS.only hOv bK; have hZ := bq hZ hOv; have hV := hV1)) | (with_reducible show dG 48 18 ..; go_must (refine ah rfl _ _ _ rfl rfl (w.heap.size + 1) 4 rfl (.int .u64 (num 8 (num 8 (num 4 (num 1 (num 1 l).2).2).2).2).1) rfl kU rfl _ _ hV rfl (rR (num 1 l).1 (num 1 (num 1 l).2).1 (num 4 (num 1 (num 1 l).2).2).1 (num 8 (num 4 (num 1 (num 1 l).2).2).2).1 (num 8 (num 8 (num 4 (num 1 (num 1 l).2).2).2).2).1 none 0 0 none 0 0) rfl ?_; intro w1 hV1 hOv; have hU := aG hU hOv (Nat.le_succ _); have hR := (hOv.block _ bL).trans hR; have hS := hS.only hOv bK; have hZ := bq hZ hOv; have hV := hV1)) | (go_at_call 225; go_must (refine (Li B _ _ hS).mono ?_; rintro e w1 ⟨v1, rfl, eu, hS1, dD⟩; obtain ⟨a1, n1, c1, hv1⟩ := wL eu; rw [hv1] at eu ⊢; clear hv1; have hV := (dD.block _ (by omega) fq).trans hV; have hR := (dD.block _ (by omega) dW).trans hR; have eu := dA eu hZ; have hZ := jo hZ dD; have hU := aF hU dD; have hS := hS1)) | (with_reducible show wpList _ _ _ ({ dst := none, op := Op.store 25 _ _, type := _, pos := _, after := _, guard := none } :: _) _ _; go_must (refine ah rfl _ _ _ rfl rfl (w.heap.size + 1) 5 rfl (.slice a1 n1 c1) rfl RB rfl _ _ hV rfl (rR (num 1 l).1 (num 1 (num 1 l).2).1 (num 4 (num 1 (num 1 l).2).2).1 (num 8 (num 4 (num 1 (num 1 l).2).2).2).1 (num 8 (num 8 (num 4 (num 1 (num 1 l).2).2).2).2).1 a1 n1 c1 none 0 0) rfl ?_; intro w1 hV1 hOv; have hU := aG hU hOv (Nat.le_succ _); have hR := (hOv.block _ bL).trans hR; have hS := hS.only hOv bK; have hZ := bq hZ hOv; have hV := hV1; have eu := dB eu hOv hlt2)) | (go_at_call 227; go_must (refine (Lm B _ _ hS).mono ?_; rintro e w1 ⟨v1, rfl, fG, hS1, dD⟩; obtain ⟨a2, n2, c2, hv1⟩ := wL fG; rw [hv1] at fG ⊢; clear hv1; have hV := (dD.block _ (by omega) fq).trans hV; have hR := (dD.block _ (by omega) dW).trans hR; have fG := dA fG hZ; have hZ := jo hZ dD; have hU := aF hU dD; have hS := hS1; have eu := rX eu dD wO)) | (with_reducible show wpList _ _ _ ({ dst := none, op := Op.store 27 _ _, type := _, pos := _, after := _, guard := none } :: _) _ _; go_must (refine ah rfl _ _ _ rfl rfl (w.heap.size + 1) 6 rfl (.slice a2 n2 c2) rfl RD rfl _ _ hV rfl (rR (num 1 l).1 (num 1 (num 1 l).2).1 (num 4 (num 1 (num 1 l).2).2).1 (num 8 (num 4 (num 1 (num 1 l).2).2).2).1 (num 8 (num 8 (num 4 (num 1 (num 1 l).2).2).2).2).1 a1 n1 c1 a2 n2 c2) rfl ?_; intro w1 hV1 hOv; have hU := aG hU hOv (Nat.le_succ _); have hR := (hOv.block _ bL).trans hR; have hS := hS.only hOv bK; have hZ := bq hZ hOv; have hV := hV1; have eu := dB eu hOv hlt2; have fG := dB fG hOv hlt2)) | (with_reducible show wpList _ _ _ ({ dst := _, op := Op.load 52 _, type := _, pos := _, after := _, guard := none } :: _) _ _; go_must (refine ak rfl _ _ rfl (w.heap.size + 1) 0 rfl 7 _ Tryz.underlying52 rfl nk _ _ hV rfl (rR (num 1 l).1 (num 1 (num 1 l).2).1 (num 4 (num 1 (num 1 l).2).2).1 (num 8 (num 4 (num 1 (num 1 l).2).2).2).1 (num 8 (num 8 (num 4 (num 1 (num 1 l).2).2).2).2).1 a1 n1 c1 a2 n2 c2) rfl ?_)) | (with_reducible show wpList _ _ _ ({ dst := none, op := Op.store 52 _ _, type := _, pos := _, after := _, guard := none } :: _) _ _; go_must (refine ae rfl _ _ _ rfl rfl w.heap.size 0 rfl (rR (num 1 l).1 (num 1 (num 1 l).2).1 (num 4 (num 1 (num 1 l).2).2).1 (num 8 (num 4 (num 1 (num 1 l).2).2).2).1 (num 8 (num 8 (num 4 (num 1 (num 1 l).2).2).2).2).1 a1 n1 c1 a2 n2 c2) rfl _ nk rfl rfl _ _ hR rfl (rR (num 1 l).1 (num 1 (num 1 l).2).1 (num 4 (num 1 (num 1 l).2).2).1 (num 8 (num 4 (num 1 (num 1 l).2).2).2).1 (num 8 (num 8 (num 4 (num 1 (num 1 l).2).2).2).2).1 a1 n1 c1 a2 n2 c2) rfl ?_; intro w1 dZ hOr; have hU := aG hU hOr (Nat.le_refl _); have hS := hS.only hOr dC; have eu := dB eu hOr hlt1; have fG := dB fG hOr hlt1)))
  exact bodyPost_ret (v := .agg (List.toArray (rR (num 1 l).1 (num 1 (num 1 l).2).1 (num 4 (num 1 (num 1 l).2).2).1 (num 8 (num 4 (num 1 (num 1 l).2).2).2).1 (num 8 (num 8 (num 4 (num 1 (num 1 l).2).2).2).2).1 a1 n1 c1 a2 n2 c2))) (results_cell_row Tryz.results199 _ _ w.heap.size 52 _ (0, 0) _ rfl dZ Tryz.underlying52 rfl nk) rfl ⟨a1, n1, c1, a2, n2, c2, rfl, eu, fG, hS, hU⟩
theorem Src.later' {B : Nat} {w w' : World} {l : List Int} (h : Src B w l) (hb : Below w.heap.size w w') : Src B w' l := ⟨bF hb h.blk, h.lG, h.len⟩
theorem iG {n : Nat} {w : World} (h : w.heap.size = n + 1) (o : Obj) : n + 2 ≤ (w.alloc o).heap.size := by simp; omega
theorem Iy (B : Nat) (l : List Int) (w : World) (h : Src B w l) :
    Calls Tryz.prog 199 #[.pointer (some ⟨B, 0, none⟩)] w fun e w' => ∃ a1 n1 c1 a2 n2 c2, e = .returned (.agg (List.toArray (rR (bf l).1.src (bf l).1.dst (bf l).1.seq (bf l).1.lo (bf l).1.hi a1 n1 c1 a2 n2 c2))) ∧ w'.ownsRow w.heap.size 128 2 (.slice a1 n1 c1) (bf l).1.rows.length ((bf l).1.rows.map Row.cells).flatten ∧ w'.ownsRow w.heap.size 57 7 (.slice a2 n2 c2) (bf l).1.bC.length ((bf l).1.bC.map ay.cells).flatten ∧ Src B w' (bf l).2 ∧ fD B w w' := by
  have e : bf l = (⟨(num 1 l).1, (num 1 (num 1 l).2).1, (num 4 (num 1 (num 1 l).2).2).1, (num 8 (num 4 (num 1 (num 1 l).2).2).2).1, (num 8 (num 8 (num 4 (num 1 (num 1 l).2).2).2).2).1, ⟨none, (bB dE (num 1 (num 8 (num 8 (num 4 (num 1 (num 1 l).2).2).2).2).2).1.toNat (num 1 (num 8 (num 8 (num 4 (num 1 (num 1 l).2).2).2).2).2).2).1.length, (bB dE (num 1 (num 8 (num 8 (num 4 (num 1 (num 1 l).2).2).2).2).2).1.toNat (num 1 (num 8 (num 8 (num 4 (num 1 (num 1 l).2).2).2).2).2).2).1.length⟩, ⟨none, (bB aW (num 1 (bB dE (num 1 (num 8 (num 8 (num 4 (num 1 (num 1 l).2).2).2).2).2).1.toNat (num 1 (num 8 (num 8 (num 4 (num 1 (num 1 l).2).2).2).2).2).2).2).1.toNat (num 1 (bB dE (num 1 (num 8 (num 8 (num 4 (num 1 (num 1 l).2).2).2).2).2).1.toNat (num 1 (num 8 (num 8 (num 4 (num 1 (num 1 l).2).2).2).2).2).2).2).2).1.length, (bB aW (num 1 (bB dE (num 1 (num 8 (num 8 (num 4 (num 1 (num 1 l).2).2).2).2).2).1.toNat (num 1 (num 8 (num 8 (num 4 (num 1 (num 1 l).2).2).2).2).2).2).2).1.toNat (num 1 (bB dE (num 1 (num 8 (num 8 (num 4 (num 1 (num 1 l).2).2).2).2).2).1.toNat (num 1 (num 8 (num 8 (num 4 (num 1 (num 1 l).2).2).2).2).2).2).2).2).1.length⟩, (bB dE (num 1 (num 8 (num 8 (num 4 (num 1 (num 1 l).2).2).2).2).2).1.toNat (num 1 (num 8 (num 8 (num 4 (num 1 (num 1 l).2).2).2).2).2).2).1, (bB aW (num 1 (bB dE (num 1 (num 8 (num 8 (num 4 (num 1 (num 1 l).2).2).2).2).2).1.toNat (num 1 (num 8 (num 8 (num 4 (num 1 (num 1 l).2).2).2).2).2).2).2).1.toNat (num 1 (bB dE (num 1 (num 8 (num 8 (num 4 (num 1 (num 1 l).2).2).2).2).2).1.toNat (num 1 (num 8 (num 8 (num 4 (num 1 (num 1 l).2).2).2).2).2).2).2).2).1⟩, (bB aW (num 1 (bB dE (num 1 (num 8 (num 8 (num 4 (num 1 (num 1 l).2).2).2).2).2).1.toNat (num 1 (num 8 (num 8 (num 4 (num 1 (num 1 l).2).2).2).2).2).2).2).1.toNat (num 1 (bB dE (num 1 (num 8 (num 8 (num 4 (num 1 (num 1 l).2).2).2).2).2).1.toNat (num 1 (num 8 (num 8 (num 4 (num 1 (num 1 l).2).2).2).2).2).2).2).2).2) := by unfold bf; dsimp only
  rw [e]; dsimp only
  refine (Ob B l w h).mono ?_
  rintro e w' ⟨a1, n1, c1, a2, n2, c2, he, h1, h2, h3, h4⟩
  exact ⟨a1, n1, c1, a2, n2, c2, he, dA h1 (by omega), dA h2 (by omega), h3, h4⟩
theorem Oc (B : Nat) (l : List Int) (w : World) (h : Src B w l) (hk : ((num 1 l).1 == 1) = true) :
    Calls Tryz.prog 198 #[.pointer (some ⟨B, 0, none⟩)] w fun e w' => e = .returned (.agg (List.toArray (rC (num 1 l).1 (aS (num 1 l).2).1.c (aS (num 1 l).2).1.s (aS (num 1 l).2).1.k (aS (num 1 l).2).1.key (aS (num 1 l).2).1.v (aS (num 1 l).2).1.hi (aS (num 1 l).2).1.to 0 0 0 0 0 none 0 0 none 0 0 0 0))) ∧ Src B w' (aS (num 1 l).2).2 ∧ fD B w w' := by
  have hlt := h.lt
  have dH : w.heap.size + 1 ≠ B := by omega
  have dh : w.heap.size ≠ B := by omega
  have bK : B ≠ w.heap.size + 1 := by omega
  have dC : B ≠ w.heap.size := by omega
  have bL : w.heap.size ≠ w.heap.size + 1 := by omega
  have eU : w.heap.size + 1 < w.heap.size + 2 := by omega
  have eX : w.heap.size < w.heap.size + 2 := by omega
  have fq : some (w.heap.size + 1) ≠ some B := by simp; omega
  have dW : some w.heap.size ≠ some B := by simp; omega
  have hS := h.later' (av w (.cells (List.toArray jd) 54))
  have hU := dm B w (.cells (List.toArray jd) 54)
  have hR := heap_alloc_new w (.cells (List.toArray jd) 54)
  have hZ : w.heap.size + 1 ≤ (w.alloc (.cells (List.toArray jd) 54)).heap.size := by simp
  go_enter Tryz.func198, Tryz.ntmps198
  go_upto_region 2 with (first | (go_at_call 191; go_must (refine (iL B _ _ hS).mono ?_; rintro e w1 ⟨rfl, hS1, aJ⟩; have hU := aF hU (bV aJ); have hR := (aJ.block _ dh).trans hR; have hZ := bq hZ aJ; have hS := hS1; have hA1 := heap_alloc_new w1 (.cells (List.toArray jd) 54); have hs1 : w1.heap.size = w.heap.size + 1 := (by rw [aJ.size]; simp); rw [hs1] at hA1; have iw := av w1 (.cells (List.toArray jd) 54); have hS := hS.later' iw; have hR := bF iw hR; have hU := aF hU (dm B w1 (.cells (List.toArray jd) 54)); have hZ := iG hs1 (.cells (List.toArray jd) 54))) | (with_reducible show dG 54 3 ..; go_must (refine ae rfl _ _ _ rfl rfl (w.heap.size + 1) 0 rfl (rC (num 1 l).1 0 0 0 0 0 0 0 0 0 0 0 0 none 0 0 none 0 0 0 0) rfl _ dS rfl rfl _ _ hA1 rfl (rC (num 1 l).1 0 0 0 0 0 0 0 0 0 0 0 0 none 0 0 none 0 0 0 0) rfl ?_; intro w1 hV hOv; have hU := aG hU hOv (Nat.le_succ _); have hR := (hOv.block _ bL).trans hR; have hS := hS.only hOv bK; have hZ := bq hZ hOv; have dJ := af hV)))
  go_wp2_with (first | (go_at_call 192; go_must (refine (Iu B _ _ hS).mono ?_; rintro e w1 ⟨rfl, hS1, dD⟩; have hV := (dD.block _ (Nat.lt_of_lt_of_le eU hZ) fq).trans hV; have hR := (dD.block _ (Nat.lt_of_lt_of_le eX hZ) dW).trans hR; have hZ := jo hZ dD; have hU := aF hU dD; have hS := hS1)) | (with_reducible show wpList _ _ _ ({ dst := none, op := Op.store 50 _ _, type := _, pos := _, after := _, guard := none } :: _) _ _; go_must (refine ae rfl _ _ _ rfl rfl (w.heap.size + 1) 1 rfl (rQ (aS (num 1 l).2).1.c (aS (num 1 l).2).1.s (aS (num 1 l).2).1.k (aS (num 1 l).2).1.key (aS (num 1 l).2).1.v (aS (num 1 l).2).1.hi (aS (num 1 l).2).1.to) rfl _ jm rfl rfl _ _ hV rfl (rC (num 1 l).1 (aS (num 1 l).2).1.c (aS (num 1 l).2).1.s (aS (num 1 l).2).1.k (aS (num 1 l).2).1.key (aS (num 1 l).2).1.v (aS (num 1 l).2).1.hi (aS (num 1 l).2).1.to 0 0 0 0 0 none 0 0 none 0 0 0 0) rfl ?_; intro w1 hV1 hOv; have hU := aG hU hOv (Nat.le_succ _); have hR := (hOv.block _ bL).trans hR; have hS := hS.only hOv bK; have hZ := bq hZ hOv; have hV := hV1)) | (with_reducible show wpList _ _ _ ({ dst := _, op := Op.load 54 _, type := _, pos := _, after := _, guard := none } :: _) _ _; go_must (refine ak rfl _ _ rfl (w.heap.size + 1) 0 rfl 17 _ Tryz.underlying54 rfl dS _ _ hV rfl (rC (num 1 l).1 (aS (num 1 l).2).1.c (aS (num 1 l).2).1.s (aS (num 1 l).2).1.k (aS (num 1 l).2).1.key (aS (num 1 l).2).1.v (aS (num 1 l).2).1.hi (aS (num 1 l).2).1.to 0 0 0 0 0 none 0 0 none 0 0 0 0) rfl ?_)) | (with_reducible show dG 54 2 ..; go_must (refine ae rfl _ _ _ rfl rfl w.heap.size 0 rfl (rC (num 1 l).1 (aS (num 1 l).2).1.c (aS (num 1 l).2).1.s (aS (num 1 l).2).1.k (aS (num 1 l).2).1.key (aS (num 1 l).2).1.v (aS (num 1 l).2).1.hi (aS (num 1 l).2).1.to 0 0 0 0 0 none 0 0 none 0 0 0 0) rfl _ dS rfl rfl _ _ hR rfl (rC (num 1 l).1 (aS (num 1 l).2).1.c (aS (num 1 l).2).1.s (aS (num 1 l).2).1.k (aS (num 1 l).2).1.key (aS (num 1 l).2).1.v (aS (num 1 l).2).1.hi (aS (num 1 l).2).1.to 0 0 0 0 0 none 0 0 none 0 0 0 0) rfl ?_; intro w1 dZ hOr; have hU := aG hU hOr (Nat.le_refl _); have hS := hS.only hOr dC)))
  exact bodyPost_ret (v := .agg (List.toArray (rC (num 1 l).1 (aS (num 1 l).2).1.c (aS (num 1 l).2).1.s (aS (num 1 l).2).1.k (aS (num 1 l).2).1.key (aS (num 1 l).2).1.v (aS (num 1 l).2).1.hi (aS (num 1 l).2).1.to 0 0 0 0 0 none 0 0 none 0 0 0 0))) (results_cell_row Tryz.results198 _ _ w.heap.size 54 _ (0, 0) _ rfl dZ Tryz.underlying54 rfl dS) rfl ⟨rfl, hS, hU⟩
theorem Od (B : Nat) (l : List Int) (w : World) (h : Src B w l) (hk1 : ((num 1 l).1 == 1) = false) (hk : ((num 1 l).1 == 2) = true) :
    Calls Tryz.prog 198 #[.pointer (some ⟨B, 0, none⟩)] w fun e w' => ∃ a1 n1 c1 a2 n2 c2, e = .returned (.agg (List.toArray (rC (num 1 l).1 0 0 0 0 0 0 0 (bf (num 1 l).2).1.src (bf (num 1 l).2).1.dst (bf (num 1 l).2).1.seq (bf (num 1 l).2).1.lo (bf (num 1 l).2).1.hi a1 n1 c1 a2 n2 c2 0 0))) ∧ w'.ownsRow (w.heap.size + 2) 128 2 (.slice a1 n1 c1) (bf (num 1 l).2).1.rows.length ((bf (num 1 l).2).1.rows.map Row.cells).flatten ∧ w'.ownsRow (w.heap.size + 2) 57 7 (.slice a2 n2 c2) (bf (num 1 l).2).1.bC.length ((bf (num 1 l).2).1.bC.map ay.cells).flatten ∧ Src B w' (bf (num 1 l).2).2 ∧ fD B w w' := by
  have hlt := h.lt
  have dH : w.heap.size + 1 ≠ B := by omega
  have dh : w.heap.size ≠ B := by omega
  have bK : B ≠ w.heap.size + 1 := by omega
  have dC : B ≠ w.heap.size := by omega
  have bL : w.heap.size ≠ w.heap.size + 1 := by omega
  have eU : w.heap.size + 1 < w.heap.size + 2 := by omega
  have eX : w.heap.size < w.heap.size + 2 := by omega
  have fq : some (w.heap.size + 1) ≠ some B := by simp; omega
  have dW : some w.heap.size ≠ some B := by simp; omega
  have hS := h.later' (av w (.cells (List.toArray jd) 54))
  have hU := dm B w (.cells (List.toArray jd) 54)
  have hR := heap_alloc_new w (.cells (List.toArray jd) 54)
  have hZ : w.heap.size + 1 ≤ (w.alloc (.cells (List.toArray jd) 54)).heap.size := by simp
  go_enter Tryz.func198, Tryz.ntmps198
  go_upto_region 2 with (first | (go_at_call 191; go_must (refine (iL B _ _ hS).mono ?_; rintro e w1 ⟨rfl, hS1, aJ⟩; have hU := aF hU (bV aJ); have hR := (aJ.block _ dh).trans hR; have hZ := bq hZ aJ; have hS := hS1; have hA1 := heap_alloc_new w1 (.cells (List.toArray jd) 54); have hs1 : w1.heap.size = w.heap.size + 1 := (by rw [aJ.size]; simp); rw [hs1] at hA1; have iw := av w1 (.cells (List.toArray jd) 54); have hS := hS.later' iw; have hR := bF iw hR; have hU := aF hU (dm B w1 (.cells (List.toArray jd) 54)); have hZ := iG hs1 (.cells (List.toArray jd) 54))) | (with_reducible show dG 54 3 ..; go_must (refine ae rfl _ _ _ rfl rfl (w.heap.size + 1) 0 rfl (rC (num 1 l).1 0 0 0 0 0 0 0 0 0 0 0 0 none 0 0 none 0 0 0 0) rfl _ dS rfl rfl _ _ hA1 rfl (rC (num 1 l).1 0 0 0 0 0 0 0 0 0 0 0 0 none 0 0 none 0 0 0 0) rfl ?_; intro w1 hV hOv; have hU := aG hU hOv (Nat.le_succ _); have hR := (hOv.block _ bL).trans hR; have hS := hS.only hOv bK; have hZ := bq hZ hOv; have dJ := af hV)))
  go_wp2_with (first | (go_at_call 199; go_must (refine (Iy B _ _ hS).mono ?_; rintro e w1 ⟨a1, n1, c1, a2, n2, c2, rfl, eu, fG, hS1, dD⟩; have eu := dA eu hZ; have fG := dA fG hZ; have hV := (dD.block _ (Nat.lt_of_lt_of_le eU hZ) fq).trans hV; have hR := (dD.block _ (Nat.lt_of_lt_of_le eX hZ) dW).trans hR; have hZ := jo hZ dD; have hU := aF hU dD; have hS := hS1)) | (with_reducible show wpList _ _ _ ({ dst := none, op := Op.store 52 _ _, type := _, pos := _, after := _, guard := none } :: _) _ _; go_must (refine ae rfl _ _ _ rfl rfl (w.heap.size + 1) 8 rfl (rR (bf (num 1 l).2).1.src (bf (num 1 l).2).1.dst (bf (num 1 l).2).1.seq (bf (num 1 l).2).1.lo (bf (num 1 l).2).1.hi a1 n1 c1 a2 n2 c2) rfl _ nk rfl rfl _ _ hV rfl (rC (num 1 l).1 0 0 0 0 0 0 0 (bf (num 1 l).2).1.src (bf (num 1 l).2).1.dst (bf (num 1 l).2).1.seq (bf (num 1 l).2).1.lo (bf (num 1 l).2).1.hi a1 n1 c1 a2 n2 c2 0 0) rfl ?_; intro w1 hV1 hOv; have hU := aG hU hOv (Nat.le_succ _); have hR := (hOv.block _ bL).trans hR; have hS := hS.only hOv bK; have hZ := bq hZ hOv; have hV := hV1; have eu := dB eu hOv eU; have fG := dB fG hOv eU)) | (with_reducible show wpList _ _ _ ({ dst := _, op := Op.load 54 _, type := _, pos := _, after := _, guard := none } :: _) _ _; go_must (refine ak rfl _ _ rfl (w.heap.size + 1) 0 rfl 17 _ Tryz.underlying54 rfl dS _ _ hV rfl (rC (num 1 l).1 0 0 0 0 0 0 0 (bf (num 1 l).2).1.src (bf (num 1 l).2).1.dst (bf (num 1 l).2).1.seq (bf (num 1 l).2).1.lo (bf (num 1 l).2).1.hi a1 n1 c1 a2 n2 c2 0 0) rfl ?_)) | (with_reducible show dG 54 2 ..; go_must (refine ae rfl _ _ _ rfl rfl w.heap.size 0 rfl (rC (num 1 l).1 0 0 0 0 0 0 0 (bf (num 1 l).2).1.src (bf (num 1 l).2).1.dst (bf (num 1 l).2).1.seq (bf (num 1 l).2).1.lo (bf (num 1 l).2).1.hi a1 n1 c1 a2 n2 c2 0 0) rfl _ dS rfl rfl _ _ hR rfl (rC (num 1 l).1 0 0 0 0 0 0 0 (bf (num 1 l).2).1.src (bf (num 1 l).2).1.dst (bf (num 1 l).2).1.seq (bf (num 1 l).2).1.lo (bf (num 1 l).2).1.hi a1 n1 c1 a2 n2 c2 0 0) rfl ?_; intro w1 dZ hOr; have hU := aG hU hOr (Nat.le_refl _); have hS := hS.only hOr dC; have eu := dB eu hOr eX; have fG := dB fG hOr eX)))
  exact bodyPost_ret (v := .agg (List.toArray (rC (num 1 l).1 0 0 0 0 0 0 0 (bf (num 1 l).2).1.src (bf (num 1 l).2).1.dst (bf (num 1 l).2).1.seq (bf (num 1 l).2).1.lo (bf (num 1 l).2).1.hi a1 n1 c1 a2 n2 c2 0 0))) (results_cell_row Tryz.results198 _ _ w.heap.size 54 _ (0, 0) _ rfl dZ Tryz.underlying54 rfl dS) rfl ⟨a1, n1, c1, a2, n2, c2, rfl, eu, fG, hS, hU⟩
theorem Oe (B : Nat) (l : List Int) (w : World) (h : Src B w l) (hk1 : ((num 1 l).1 == 1) = false) (hk2 : ((num 1 l).1 == 2) = false) (hk : ((num 1 l).1 == 3) = true) :
    Calls Tryz.prog 198 #[.pointer (some ⟨B, 0, none⟩)] w fun e w' => e = .returned (.agg (List.toArray (rC (num 1 l).1 0 0 0 0 0 0 0 0 0 0 0 0 none 0 0 none 0 0 (num 1 (num 1 l).2).1 (num 4 (num 1 (num 1 l).2).2).1))) ∧ Src B w' (num 4 (num 1 (num 1 l).2).2).2 ∧ fD B w w' := by
  have hlt := h.lt
  have dH : w.heap.size + 1 ≠ B := by omega
  have dh : w.heap.size ≠ B := by omega
  have bK : B ≠ w.heap.size + 1 := by omega
  have dC : B ≠ w.heap.size := by omega
  have bL : w.heap.size ≠ w.heap.size + 1 := by omega
  have eU : w.heap.size + 1 < w.heap.size + 2 := by omega
  have eX : w.heap.size < w.heap.size + 2 := by omega
  have fq : some (w.heap.size + 1) ≠ some B := by simp; omega
  have dW : some w.heap.size ≠ some B := by simp; omega
  have hS := h.later' (av w (.cells (List.toArray jd) 54))
  have hU := dm B w (.cells (List.toArray jd) 54)
  have hR := heap_alloc_new w (.cells (List.toArray jd) 54)
  have hZ : w.heap.size + 1 ≤ (w.alloc (.cells (List.toArray jd) 54)).heap.size := by simp
  go_enter Tryz.func198, Tryz.ntmps198
  go_upto_region 2 with (first | (go_at_call 191; go_must (refine (iL B _ _ hS).mono ?_; rintro e w1 ⟨rfl, hS1, aJ⟩; have hU := aF hU (bV aJ); have hR := (aJ.block _ dh).trans hR; have hZ := bq hZ aJ; have hS := hS1; have hA1 := heap_alloc_new w1 (.cells (List.toArray jd) 54); have hs1 : w1.heap.size = w.heap.size + 1 := (by rw [aJ.size]; simp); rw [hs1] at hA1; have iw := av w1 (.cells (List.toArray jd) 54); have hS := hS.later' iw; have hR := bF iw hR; have hU := aF hU (dm B w1 (.cells (List.toArray jd) 54)); have hZ := iG hs1 (.cells (List.toArray jd) 54))) | (with_reducible show dG 54 3 ..; go_must (refine ae rfl _ _ _ rfl rfl (w.heap.size + 1) 0 rfl (rC (num 1 l).1 0 0 0 0 0 0 0 0 0 0 0 0 none 0 0 none 0 0 0 0) rfl _ dS rfl rfl _ _ hA1 rfl (rC (num 1 l).1 0 0 0 0 0 0 0 0 0 0 0 0 none 0 0 none 0 0 0 0) rfl ?_; intro w1 hV hOv; have hU := aG hU hOv (Nat.le_succ _); have hR := (hOv.block _ bL).trans hR; have hS := hS.only hOv bK; have hZ := bq hZ hOv; have dJ := af hV)))
  go_wp2_with (first | (go_at_call 191; go_must (refine (iL B _ _ hS).mono ?_; rintro e w1 ⟨rfl, hS1, aJ⟩; have hU := aF hU (bV aJ); have hR := (aJ.block _ dh).trans hR; have hZ := bq hZ aJ; have hS := hS1; have hV := (aJ.block _ dH).trans hV)) | (go_at_call 197; go_must (refine (lZ B _ _ hS).mono ?_; rintro e w1 ⟨rfl, hS1, aJ⟩; have hU := aF hU (bV aJ); have hR := (aJ.block _ dh).trans hR; have hZ := bq hZ aJ; have hS := hS1; have hV := (aJ.block _ dH).trans hV)) | (with_reducible show dG 5 23 ..; go_must (refine ah rfl _ _ _ rfl rfl (w.heap.size + 1) 15 rfl (.int .u8 (num 1 (num 1 l).2).1) rfl iC rfl _ _ hV rfl (rC (num 1 l).1 0 0 0 0 0 0 0 0 0 0 0 0 none 0 0 none 0 0 (num 1 (num 1 l).2).1 0) rfl ?_; intro w1 hV1 hOv; have hU := aG hU hOv (Nat.le_succ _); have hR := (hOv.block _ bL).trans hR; have hS := hS.only hOv bK; have hZ := bq hZ hOv; have hV := hV1)) | (with_reducible show dG 47 26 ..; go_must (refine ah rfl _ _ _ rfl rfl (w.heap.size + 1) 16 rfl (.int .u32 (num 4 (num 1 (num 1 l).2).2).1) rfl fK rfl _ _ hV rfl (rC (num 1 l).1 0 0 0 0 0 0 0 0 0 0 0 0 none 0 0 none 0 0 (num 1 (num 1 l).2).1 (num 4 (num 1 (num 1 l).2).2).1) rfl ?_; intro w1 hV1 hOv; have hU := aG hU hOv (Nat.le_succ _); have hR := (hOv.block _ bL).trans hR; have hS := hS.only hOv bK; have hZ := bq hZ hOv; have hV := hV1)) | (with_reducible show wpList _ _ _ ({ dst := _, op := Op.load 54 _, type := _, pos := _, after := _, guard := none } :: _) _ _; go_must (refine ak rfl _ _ rfl (w.heap.size + 1) 0 rfl 17 _ Tryz.underlying54 rfl dS _ _ hV rfl (rC (num 1 l).1 0 0 0 0 0 0 0 0 0 0 0 0 none 0 0 none 0 0 (num 1 (num 1 l).2).1 (num 4 (num 1 (num 1 l).2).2).1) rfl ?_)) | (with_reducible show dG 54 2 ..; go_must (refine ae rfl _ _ _ rfl rfl w.heap.size 0 rfl (rC (num 1 l).1 0 0 0 0 0 0 0 0 0 0 0 0 none 0 0 none 0 0 (num 1 (num 1 l).2).1 (num 4 (num 1 (num 1 l).2).2).1) rfl _ dS rfl rfl _ _ hR rfl (rC (num 1 l).1 0 0 0 0 0 0 0 0 0 0 0 0 none 0 0 none 0 0 (num 1 (num 1 l).2).1 (num 4 (num 1 (num 1 l).2).2).1) rfl ?_; intro w1 dZ hOr; have hU := aG hU hOr (Nat.le_refl _); have hS := hS.only hOr dC)))
  exact bodyPost_ret (v := .agg (List.toArray (rC (num 1 l).1 0 0 0 0 0 0 0 0 0 0 0 0 none 0 0 none 0 0 (num 1 (num 1 l).2).1 (num 4 (num 1 (num 1 l).2).2).1))) (results_cell_row Tryz.results198 _ _ w.heap.size 54 _ (0, 0) _ rfl dZ Tryz.underlying54 rfl dS) rfl ⟨rfl, hS, hU⟩
theorem Og (B : Nat) (l : List Int) (w : World) (h : Src B w l) (hk1 : ((num 1 l).1 == 1) = false) (hk2 : ((num 1 l).1 == 2) = false) (hk : ((num 1 l).1 == 3) = false) :
    Calls Tryz.prog 198 #[.pointer (some ⟨B, 0, none⟩)] w fun e w' => e = .returned (.agg (List.toArray (rC (num 1 l).1 0 0 0 0 0 0 0 0 0 0 0 0 none 0 0 none 0 0 0 0))) ∧ Src B w' (num 1 l).2 ∧ fD B w w' := by
  have hlt := h.lt
  have dH : w.heap.size + 1 ≠ B := by omega
  have dh : w.heap.size ≠ B := by omega
  have bK : B ≠ w.heap.size + 1 := by omega
  have dC : B ≠ w.heap.size := by omega
  have bL : w.heap.size ≠ w.heap.size + 1 := by omega
  have eU : w.heap.size + 1 < w.heap.size + 2 := by omega
  have eX : w.heap.size < w.heap.size + 2 := by omega
  have fq : some (w.heap.size + 1) ≠ some B := by simp; omega
  have dW : some w.heap.size ≠ some B := by simp; omega
  have hS := h.later' (av w (.cells (List.toArray jd) 54))
  have hU := dm B w (.cells (List.toArray jd) 54)
  have hR := heap_alloc_new w (.cells (List.toArray jd) 54)
  have hZ : w.heap.size + 1 ≤ (w.alloc (.cells (List.toArray jd) 54)).heap.size := by simp
  go_enter Tryz.func198, Tryz.ntmps198
  go_upto_region 2 with (first | (go_at_call 191; go_must (refine (iL B _ _ hS).mono ?_; rintro e w1 ⟨rfl, hS1, aJ⟩; have hU := aF hU (bV aJ); have hR := (aJ.block _ dh).trans hR; have hZ := bq hZ aJ; have hS := hS1; have hA1 := heap_alloc_new w1 (.cells (List.toArray jd) 54); have hs1 : w1.heap.size = w.heap.size + 1 := (by rw [aJ.size]; simp); rw [hs1] at hA1; have iw := av w1 (.cells (List.toArray jd) 54); have hS := hS.later' iw; have hR := bF iw hR; have hU := aF hU (dm B w1 (.cells (List.toArray jd) 54)); have hZ := iG hs1 (.cells (List.toArray jd) 54))) | (with_reducible show dG 54 3 ..; go_must (refine ae rfl _ _ _ rfl rfl (w.heap.size + 1) 0 rfl (rC (num 1 l).1 0 0 0 0 0 0 0 0 0 0 0 0 none 0 0 none 0 0 0 0) rfl _ dS rfl rfl _ _ hA1 rfl (rC (num 1 l).1 0 0 0 0 0 0 0 0 0 0 0 0 none 0 0 none 0 0 0 0) rfl ?_; intro w1 hV hOv; have hU := aG hU hOv (Nat.le_succ _); have hR := (hOv.block _ bL).trans hR; have hS := hS.only hOv bK; have hZ := bq hZ hOv; have dJ := af hV)))
  go_wp2_with (first | (with_reducible show wpList _ _ _ ({ dst := _, op := Op.load 54 _, type := _, pos := _, after := _, guard := none } :: _) _ _; go_must (refine ak rfl _ _ rfl (w.heap.size + 1) 0 rfl 17 _ Tryz.underlying54 rfl dS _ _ hV rfl (rC (num 1 l).1 0 0 0 0 0 0 0 0 0 0 0 0 none 0 0 none 0 0 0 0) rfl ?_)) | (with_reducible show dG 54 2 ..; go_must (refine ae rfl _ _ _ rfl rfl w.heap.size 0 rfl (rC (num 1 l).1 0 0 0 0 0 0 0 0 0 0 0 0 none 0 0 none 0 0 0 0) rfl _ dS rfl rfl _ _ hR rfl (rC (num 1 l).1 0 0 0 0 0 0 0 0 0 0 0 0 none 0 0 none 0 0 0 0) rfl ?_; intro w1 dZ hOr; have hU := aG hU hOr (Nat.le_refl _); have hS := hS.only hOr dC)))
  exact bodyPost_ret (v := .agg (List.toArray (rC (num 1 l).1 0 0 0 0 0 0 0 0 0 0 0 0 none 0 0 none 0 0 0 0))) (results_cell_row Tryz.results198 _ _ w.heap.size 54 _ (0, 0) _ rfl dZ Tryz.underlying54 rfl dS) rfl ⟨rfl, hS, hU⟩
end
end Go.Proofs.YtignemioillaiaaGreat
