/- slices.Insert of one Row. -/
import Derived.Test.YtignemioillaiaaJ2
import Derived.Test.YtignemioillaiaaJ4
import Derived.Test.YtignemioillaiaaF4
import Derived.Test.YtignemioillaiaaB
namespace Go.Proofs.Ytignemioillaiaa
open Go.RowKit Go.Lib

set_option maxHeartbeats 400000 in
set_option maxRecDepth 100000 in
theorem ins_row_room (g cap n i : Nat) (cur xs nw : List Value) (vb : Nat) (w : World) (hg : w.heap[g]? = some (.cells cur.toArray 82)) (hcs : cur.length = cap * 2) (htk : cur.take (n * 2) = xs) (hroom : n + 1 ≤ cap) (h1 : ∀ u ∈ xs, u.oneCell' = true)
    (hnl : nw.length = 2) (h1n : ∀ u ∈ nw, u.oneCell' = true) (hvb : w.heap[vb]? = some (.cells nw.toArray 82)) (hne : vb ≠ g) (hi : i < n) (hn : n < 1000000) :
    Calls Try.prog 157 #[.slice (some ⟨g, 0, none⟩) n cap, .int .i64 i, .slice (some ⟨vb, 0, none⟩) 1 1] w fun e w' =>
      e = .returned (.slice (some ⟨g, 0, none⟩) (n + 1) cap) ∧ w'.heap[g]? = some (.cells (splice (splice cur ((i + 1) * 2) (xs.drop (i * 2))) (i * 2) nw).toArray 82) ∧ Only g w w' := by
  have hd1 : ((i : Int) == (n : Int)) = false := by simp; omega
  have hi0 : (0 : Int) ≤ (i : Int) := by omega
  have hi1 : (i : Int) ≤ (n : Int) := by omega
  have hwr : IntKind.i64.wrap ((i : Int) + 1) = (i : Int) + 1 := by rw [IntKind.wrap_i64]; omega
  have hi4 : (0 : Int) ≤ (i : Int) + 1 := by omega
  have ht1 : ((i : Int) + 1).toNat = i + 1 := by omega
  have hi5 : (i : Int) ≤ (n : Int) + 1 := by omega
  have hi3 : ((i : Int) + 1) ≤ (n : Int) + 1 := by omega
  have hsb1 : n + 1 - (i + 1) = n - i := by omega
  obtain ⟨i0, hi0', hz0, hz1, hz2'⟩ := info_parts info_row
  have hd2 : decide ((cap : Int) < (n : Int) + 1) = false := by simp; omega
  have hi2 : ((n : Int) + 1) ≤ (cap : Int) := by omega
  have hcn1 : ¬ cap = i + 1 := by omega
  have hcn2 : ¬ cap = i := by omega
  have HG : Hid (w.heap[g]? = some (.cells cur.toArray 82)) := hg
  have HV : Hid (w.heap[vb]? = some (.cells nw.toArray 82)) := hvb
  have hov : ∀ off lb cb, (callFunc 164 #[.slice (some ⟨vb, 0, none⟩) 1 1, .slice (some ⟨g, off, none⟩) lb cb]).run Try.prog w = .ok (.value (.bool false)) w := fun off lb cb => by
    rw [run_callFunc_extern Try.func164 (by kernel_rfl) (by kernel_rfl) (by kernel_rfl) (e := Extern.SlicesOverlaps.overlaps #[30, 30] #[4]) (by kernel_rfl),
      Lib.run_overlaps_apart w 30 4 82 Try.underlying30 2 (fun w => by simp [sizeOf, typeInfo, hi0', hz1]) ⟨vb, 0, none⟩ ⟨g, off, none⟩ 1 1 lb cb hne 82 82 2 cur.length (by simp [World.shape?, hvb, hnl]) (by simp [World.shape?, hg]) (by rw [hcs]; omega) (by simp [World.frozen?, hvb]) (by simp [World.frozen?, hvb])]
    rfl
  clear hg hvb hi0' hz0 hz1 hz2'
  have HX : Hid (cur.take (n * 2) = xs) := htk
  clear htk
  have HL : Hid ((xs.drop (i * 2)).length = (n - i) * 2) := by
    show _ = _
    rw [← HX.out, List.length_drop, List.length_take, hcs, Nat.min_eq_left (Nat.mul_le_mul_right _ (by omega)), Nat.sub_mul]
  have HN : Hid (nw.length = 2) := hnl
  have hmn : Nat.min (n + 1 - i) (n - i) = n - i := Nat.min_eq_right (by omega)
  have HC : Hid (cur.length = cap * 2) := hcs
  obtain ⟨X2, hX2⟩ : ∃ X2, X2 = xs.drop (i * 2) := ⟨_, rfl⟩
  have HX2 : Hid (X2 = xs.drop (i * 2)) := hX2
  have HS2 : Hid (∀ j v, X2[j]? = some v → w.cell? ((⟨g, i * 2, none⟩ : Addr).add j) = some v) := by rw [hX2]; exact cells_drop HG.out HX.out _
  have HO2 : Hid (∀ u ∈ X2, u.oneCell' = true) := by rw [hX2]; exact one_drop h1 _
  have HL2 : Hid (X2.length = Nat.min (n + 1 - i) (n - i) * 2) := by rw [hX2, hmn]; exact HL.out
  have HF2 : Hid ((i + 1) * 2 + X2.length ≤ cur.length) := by show _ ≤ _; rw [HL2.out, hmn, HC.out, ← Nat.add_mul]; exact Nat.mul_le_mul_right _ (by omega)
  clear hX2 hcs hnl hmn
  rw [← HX2.out]
  obtain ⟨c1, hc1⟩ : ∃ c1, c1 = splice cur ((i + 1) * 2) X2 := ⟨_, rfl⟩
  have HC1 : Hid (c1 = splice cur ((i + 1) * 2) X2) := hc1
  rw [← hc1]
  clear hc1
  go_enter Try.func157, Try.ntmps157
  go_wp2_with fail
  go_region_law (refine step_copyK rfl (.tmp 73) (.tmp 76) 30 30 rfl 82 2 Try.underlying30 (by kernel_rfl) g ((i + 1) * 2) (n - i) (cap - (i + 1)) (by simp [Act.eval, Act.put]) ⟨g, i * 2, none⟩ (n + 1 - i) (cap - i) (by simp [Act.eval, Act.put]) cur 82 HG.out X2 HL2.out HS2.out HF2.out HO2.out ?_; intro w1 hg1 ho1)
  have HG1 : Hid (w1.heap[g]? = some (.cells c1.toArray 82)) := by rw [HC1.out]; exact hg1.out
  have HV1 : Hid (w1.heap[vb]? = some (.cells nw.toArray 82)) := (ho1.out.block vb hne).trans HV.out
  have HO1 : Hid (Only g w w1) := Only.trans (Only.drew g w) ho1.out
  have HF3 : Hid (i * 2 + nw.length ≤ c1.length) := by
    show _ ≤ _
    rw [HC1.out, length_splice _ _ _ HF2.out, HN.out, HC.out, ← Nat.succ_mul]; exact Nat.mul_le_mul_right _ (by omega)
  have HN2 : Hid (nw.length = Nat.min 1 (n + 1 - i) * 2) := by
    show _ = _
    rw [HN.out, show Nat.min 1 (n + 1 - i) = 1 from Nat.min_eq_left (by omega), Nat.one_mul]
  clear hg1 ho1
  go_wp2_with (with_reducible show wpList _ _ _ ({ dst := some 82, op := Op.call _, type := _, pos := _, after := _, guard := none } :: _) _ _; go_must (refine wpList_copyK rfl (.tmp 80) (.tmp 81) 30 30 rfl 82 2 Try.underlying30 (by kernel_rfl) g (i * 2) (n + 1 - i) (cap - i) rfl ⟨vb, 0, none⟩ 1 1 rfl c1 82 HG1.out nw HN2.out (cells_all HV1.out) HF3.out h1n ?_; intro w2 hg2 ho2))
  go_wp2
  go_ret
  exact ⟨rfl, hg2.out, HO1.out.trans ho2.out⟩

set_option maxHeartbeats 400000 in
set_option maxRecDepth 100000 in
theorem ins_row_grow (g cap n i : Nat) (cur xs nw : List Value) (vb : Nat) (w : World) (hg : w.heap[g]? = some (.cells cur.toArray 82)) (hcs : cur.length = cap * 2) (htk : cur.take (n * 2) = xs) (hnc : n ≤ cap) (hroom : cap < n + 1) (h1 : ∀ u ∈ xs, u.oneCell' = true)
    (hnl : nw.length = 2) (h1n : ∀ u ∈ nw, u.oneCell' = true) (hvb : w.heap[vb]? = some (.cells nw.toArray 82)) (hi : i < n) (hn : n < 1000000) :
    Calls Try.prog 157 #[.slice (some ⟨g, 0, none⟩) n cap, .int .i64 i, .slice (some ⟨vb, 0, none⟩) 1 1] w fun e w' =>
      ∃ (c2 : Nat) (cur2 : List Value), e = .returned (.slice (some ⟨w.heap.size, 0, none⟩) (n + 1) c2) ∧ w'.heap[w.heap.size]? = some (.cells (splice (splice cur2 (i * 2) nw) ((i + 1) * 2) (xs.drop (i * 2))).toArray 82) ∧
        cur2.length = c2 * 2 ∧ n + 1 ≤ c2 ∧ c2 ≤ maxLen ∧ cur2.take (i * 2) = xs.take (i * 2) ∧ Below w.heap.size w w' := by
  have hd1 : ((i : Int) == (n : Int)) = false := by simp; omega
  have hi0 : (0 : Int) ≤ (i : Int) := by omega
  have hi1 : (i : Int) ≤ (n : Int) := by omega
  have hwr : IntKind.i64.wrap ((i : Int) + 1) = (i : Int) + 1 := by rw [IntKind.wrap_i64]; omega
  have hi4 : (0 : Int) ≤ (i : Int) + 1 := by omega
  have ht1 : ((i : Int) + 1).toNat = i + 1 := by omega
  have hi5 : (i : Int) ≤ (n : Int) + 1 := by omega
  have hi3 : ((i : Int) + 1) ≤ (n : Int) + 1 := by omega
  have hsb1 : n + 1 - (i + 1) = n - i := by omega
  obtain ⟨i0, hi0', hz0, hz1, hz2'⟩ := info_parts info_row
  have hd2 : decide ((cap : Int) < (n : Int) + 1) = true := by simp; omega
  have hgl : g < w.heap.size := (Array.getElem?_eq_some_iff.1 hg).1
  have hvl : vb < w.heap.size := (Array.getElem?_eq_some_iff.1 hvb).1
  have HG : Hid (w.heap[g]? = some (.cells cur.toArray 82)) := hg
  have HV : Hid (w.heap[vb]? = some (.cells nw.toArray 82)) := hvb
  have hxl : (xs.take (i * 2)).length = i * i0.size := by
    rw [hz1, List.length_take, ← htk, List.length_take, hcs, Nat.min_eq_left (Nat.mul_le_mul_right _ hnc), Nat.min_eq_left (Nat.mul_le_mul_right _ (by omega))]
  have hxc : ∀ j v, (xs.take (i * 2))[j]? = some v → w.cell? ((⟨g, 0, none⟩ : Addr).add j) = some v := by
    intro j v hj
    refine cells_drop hg htk 0 j v ?_
    rw [List.getElem?_take] at hj
    split at hj
    · simpa using hj
    · cases hj
  obtain ⟨cur2, hc2l, hc2t, hrun⟩ := run_append_zeros (P := Try.prog) w 30 3 30 82 i0 (.agg #[.int .u64 0, .int .u64 0]) .i64 .i64 Try.underlying30 Try.underlying3 hi0' hz0 (by rw [hz1]; rfl) ⟨g, 0, none⟩ i cap (xs.take (i * 2)) hxl hxc (n + 1 - i) (by omega) (by rw [hz1]; decide) (by omega) (by rw [hz2', show i + (n + 1 - i) = n + 1 by omega]; omega) (by unfold maxLen; omega)
  have hge := grownCap_ge w (i + (n + 1 - i)) cap 82
  have hle := grownCap_le_maxLen w (i + (n + 1 - i)) cap 82 (by unfold maxLen; omega)
  generalize grownCap w (i + (n + 1 - i)) cap 82 = c2 at hc2l hrun hge hle
  rw [show i + (n + 1 - i) = n + 1 by omega] at hrun hge
  rw [show (((n + 1 - i : Nat)) : Int) = (n : Int) + 1 - (i : Int) by omega] at hrun
  rw [hz1] at hc2l hc2t
  have HR : Hid ((Builtin.append_ #[30, 3] 30 #[.slice (some ⟨g, 0, none⟩) i cap, .int .i64 ((n : Int) + 1 - (i : Int))]).run Try.prog w = .ok (.slice (some ⟨w.heap.size, 0, none⟩) (n + 1) c2) (w.drew.alloc (.cells cur2.toArray 82))) := hrun
  obtain ⟨W, hW⟩ : ∃ W, W = w.drew.alloc (.cells cur2.toArray 82) := ⟨_, rfl⟩
  have HW0 : Hid (W.heap[w.heap.size]? = some (.cells cur2.toArray 82)) := by show _ = _; rw [hW]; exact heap_alloc_new w.drew _
  have HWb : Hid (Below w.heap.size w W) := by
    show Below _ _ _
    rw [hW]; exact (Below.refl _ w).drew.alloc (Nat.le_refl _) _
  have HC2 : Hid (cur2.length = c2 * 2 ∧ cur2.take (i * 2) = xs.take (i * 2) ∧ n + 1 ≤ c2 ∧ c2 ≤ maxLen) := (⟨hc2l, hc2t, hge, hle⟩ : _ ∧ _ ∧ _ ∧ _)
  have hcn1 : ¬ c2 = i + 1 := by omega
  have hcn2 : ¬ c2 = i := by omega
  have hcn3 : ¬ cap = i := by omega
  have HX : Hid (cur.take (n * 2) = xs) := htk
  have HL : Hid ((xs.drop (i * 2)).length = (n - i) * 2) := by
    show _ = _
    rw [← htk, List.length_drop, List.length_take, hcs, Nat.min_eq_left (Nat.mul_le_mul_right _ (by omega)), Nat.sub_mul]
  have HN : Hid (nw.length = 2) := hnl
  have HN2 : Hid (nw.length = Nat.min 1 (n + 1 - i) * 2) := by
    show _ = _
    rw [hnl, show Nat.min 1 (n + 1 - i) = 1 from Nat.min_eq_left (by omega), Nat.one_mul]
  have HF3 : Hid (i * 2 + nw.length ≤ cur2.length) := by
    show _ ≤ _
    rw [hnl, hc2l, ← Nat.succ_mul]; exact Nat.mul_le_mul_right _ (by omega)
  have hmn : Nat.min (n - i) (n - i) = n - i := Nat.min_self _
  obtain ⟨X2, hX2⟩ : ∃ X2, X2 = xs.drop (i * 2) := ⟨_, rfl⟩
  have HX2 : Hid (X2 = xs.drop (i * 2)) := hX2
  have HS2 : Hid (∀ j v, X2[j]? = some v → w.cell? ((⟨g, i * 2, none⟩ : Addr).add j) = some v) := by rw [hX2]; exact cells_drop hg htk _
  have HO2 : Hid (∀ u ∈ X2, u.oneCell' = true) := by rw [hX2]; exact one_drop h1 _
  have HL2 : Hid (X2.length = Nat.min (n - i) (n - i) * 2) := by rw [hX2, hmn]; exact HL.out
  obtain ⟨c1, hc1⟩ : ∃ c1, c1 = splice cur2 (i * 2) nw := ⟨_, rfl⟩
  have HC1 : Hid (c1 = splice cur2 (i * 2) nw) := hc1
  have HF2 : Hid ((i + 1) * 2 + X2.length ≤ c1.length) := by show _ ≤ _; rw [hc1, length_splice _ _ _ HF3.out, HL2.out, hmn, hc2l, ← Nat.add_mul]; exact Nat.mul_le_mul_right _ (by omega)
  clear hX2 hcs hnl hmn hc1 hc2l hc2t hge hle hrun hg hvb htk hxl hxc hi0' hz0 hz1 hz2'
  go_enter Try.func157, Try.ntmps157
  go_wp2_with (first
    | (with_reducible show wpList _ _ _ ({ dst := some 40, op := Op.call _, type := _, pos := _, after := _, guard := none } :: _) _ _; go_must (refine Lib.wpList_append_run _ rfl (.tmp 34) (.tmp 39) 30 3 rfl (.slice (some ⟨g, 0, none⟩) i cap) (.int .i64 ((n : Int) + 1 - (i : Int))) rfl rfl _ _ HR.out ?_; rw [← hW]; clear hW HR))
    | (with_reducible show wpList _ _ _ ({ dst := some 45, op := Op.call _, type := _, pos := _, after := _, guard := none } :: _) _ _; go_must (refine wpList_copyK rfl (.tmp 43) (.tmp 44) 30 30 rfl 82 2 Try.underlying30 (by kernel_rfl) w.heap.size (i * 2) (n + 1 - i) (c2 - i) rfl ⟨vb, 0, none⟩ 1 1 rfl cur2 82 HW0.out nw HN2.out (cells_all ((HWb.out.block vb hvl).trans HV.out)) HF3.out h1n ?_; intro w1 hg1 ho1)))
  have HG1 : Hid (w1.heap[w.heap.size]? = some (.cells c1.toArray 82)) := by rw [HC1.out]; exact hg1.out
  have HB1 : Hid (Below w.heap.size w w1) := HWb.out.trans (ho1.out.below (Nat.le_refl _))
  have HS3 : Hid (∀ j v, X2[j]? = some v → w1.cell? ((⟨g, i * 2, none⟩ : Addr).add j) = some v) := fun j v hj => by
    have := HS2.out j v hj
    rw [add_at] at this ⊢
    rw [HB1.out.cell (p := ⟨g, i * 2 + j, none⟩) hgl]; exact this
  clear hg1 ho1
  go_region_law (refine step_copyK rfl (.tmp 50) (.tmp 53) 30 30 rfl 82 2 Try.underlying30 (by kernel_rfl) w.heap.size ((i + 1) * 2) (n - i) (c2 - (i + 1)) (by simp [Act.eval, Act.put]) ⟨g, i * 2, none⟩ (n - i) (cap - i) (by simp [Act.eval, Act.put]) c1 82 HG1.out X2 HL2.out HS3.out HF2.out HO2.out ?_; intro w2 hg2 ho2)
  go_wp2
  go_ret
  exact ⟨c2, cur2, rfl, by rw [← HX2.out, ← HC1.out]; exact hg2.out, HC2.out.1, HC2.out.2.2.1, HC2.out.2.2.2, HC2.out.2.1, HB1.out.drew.trans (ho2.out.below (Nat.le_refl _))⟩

set_option maxHeartbeats 400000 in
set_option maxRecDepth 100000 in
theorem ins_row_end (base : Nat) (a : Option Addr) (n c : Nat) (xs nw : List Value) (vb : Nat) (w : World) (hown : w.ownsRow base 82 2 (.slice a n c) n xs)
    (hnl : nw.length = 2) (h1n : ∀ u ∈ nw, u.oneCell' = true) (hvb : w.heap[vb]? = some (.cells nw.toArray 82)) (hb : base ≤ w.heap.size) (hn : n < 1000000) :
    Calls Try.prog 157 #[.slice a n c, .int .i64 n, .slice (some ⟨vb, 0, none⟩) 1 1] w fun e w' =>
      ∃ v', e = .returned v' ∧ w'.ownsRow base 82 2 v' (n + 1) (xs ++ nw) ∧ Grew w (.slice a n c) w' v' := by
  obtain ⟨i0, hi0', hz0, hz1, hz2'⟩ := info_parts info_row
  have HV : Hid (∀ (j : Nat) (u : Value), nw[j]? = some u → w.cell? ((⟨vb, 0, none⟩ : Addr).add j) = some u) := cells_all hvb
  have hi0 : (0 : Int) ≤ (n : Int) := by omega
  have HOW : Hid (w.ownsRow base 82 2 (.slice a n c) n xs) := hown
  have HN : Hid (nw.length = 1 * 2) := by show _ = _; rw [hnl]
  clear hown hvb hnl
  go_enter Try.func157, Try.ntmps157
  go_wp2_with (at_builtin; go_must (refine wpList_append_new _ rfl _ _ 30 rfl base 82 i0 (.agg #[.int .u64 0, .int .u64 0]) 2 16 Try.underlying30 hi0' hz0 hz1 hz2' rfl (by decide) (.slice a n c) n xs rfl HOW.out ⟨vb, 0, none⟩ 1 1 nw rfl HN.out HV.out h1n (by unfold maxLen; omega) (by omega) hb ?_; intro v' w1 hown' hgrow))
  all_goals (go_wp2; go_ret; exact ⟨v', rfl, hown', by first | exact hgrow | (rw [h] at hgrow; exact hgrow)⟩)

theorem ins_row (base : Nat) (v : Value) (n i : Nat) (xs nw : List Value) (vb : Nat) (w : World) (hown : w.ownsRow base 82 2 v n xs) (h1 : ∀ u ∈ xs, u.oneCell' = true)
    (hnl : nw.length = 2) (h1n : ∀ u ∈ nw, u.oneCell' = true) (hvb : w.heap[vb]? = some (.cells nw.toArray 82)) (hne : v.ownBlock ≠ some vb) (hi : i ≤ n) (hb : base ≤ w.heap.size) (hn : n < 1000000) :
    Calls Try.prog 157 #[v, .int .i64 i, .slice (some ⟨vb, 0, none⟩) 1 1] w fun e w' =>
      ∃ v', e = .returned v' ∧ w'.ownsRow base 82 2 v' (n + 1) (xs.take (i * 2) ++ (nw ++ xs.drop (i * 2))) ∧ Grew w v w' v' := by
  have hxl := hown.1
  rcases Nat.lt_or_eq_of_le hi with hlt | rfl
  · rcases hown.2 with ⟨_, h0⟩ | ⟨g, cap, cur, rfl, hbg, hg, hnc, hcm, hcs, htake⟩
    · omega
    have hcs' : cur.toList.length = cap * 2 := by rw [Array.length_toList]; exact hcs
    have hne' : vb ≠ g := fun e => hne (by rw [e]; rfl)
    have hg' : w.heap[g]? = some (.cells cur.toList.toArray 82) := by rw [Array.toArray_toList]; exact hg
    have hL : (xs.take (i * 2) ++ (nw ++ xs.drop (i * 2))).length = (n + 1) * 2 := by
      simp only [List.length_append, List.length_take, List.length_drop, hxl, hnl, Nat.min_eq_left (Nat.mul_le_mul_right 2 (Nat.le_of_lt hlt))]
      have := Nat.mul_le_mul_right 2 (Nat.le_of_lt hlt)
      omega
    by_cases hroom : n + 1 ≤ cap
    · refine (ins_row_room g cap n i cur.toList xs nw vb w hg' hcs' htake hroom h1 hnl h1n hvb hne' hlt hn).mono ?_
      rintro e w' ⟨rfl, hg1, ho⟩
      have hcl : n * 2 + 2 ≤ cur.toList.length := by rw [hcs', ← Nat.succ_mul]; exact Nat.mul_le_mul_right _ hroom
      have hil := Nat.mul_le_mul_right 2 (Nat.le_of_lt hlt)
      rw [Nat.succ_mul, ins_room_list cur.toList xs nw (i * 2) 2 (n * 2) htake hcl hil hnl] at hg1
      refine ⟨_, rfl, ⟨hL, .inr ⟨g, cap, _, rfl, hbg, hg1, hroom, hcm, ?_, ?_⟩⟩, ⟨grown_onlyJ ho, .inl rfl⟩⟩
      · rw [List.size_toArray, ← hcs', ← List.append_assoc, ← List.append_assoc, List.append_assoc _ nw, List.length_append, hL, List.length_drop, Nat.succ_mul]
        omega
      · show (xs.take (i * 2) ++ (nw ++ (xs.drop (i * 2) ++ _))).take ((n + 1) * 2) = _
        rw [← hL]; exact take_front _ _ _ _
    · refine (ins_row_grow g cap n i cur.toList xs nw vb w hg' hcs' htake hnc (by omega) h1 hnl h1n hvb hlt hn).mono ?_
      rintro e w' ⟨c2, cur2, rfl, hg1, hl2, hge, hle, ht2, hbel⟩
      have hal : (xs.take (i * 2)).length = i * 2 := by rw [List.length_take, hxl, Nat.min_eq_left (Nat.mul_le_mul_right 2 (Nat.le_of_lt hlt))]
      have hdl : (xs.drop (i * 2)).length = n * 2 - i * 2 := by rw [List.length_drop, hxl]
      have hil := Nat.mul_le_mul_right 2 (Nat.le_of_lt hlt)
      have hcl : i * 2 + 2 + (xs.drop (i * 2)).length ≤ cur2.length := by
        rw [hdl, hl2]
        have := Nat.mul_le_mul_right 2 hge
        rw [Nat.succ_mul] at this
        omega
      rw [Nat.succ_mul, ins_grow_list cur2 _ nw _ (i * 2) 2 ht2 hal hnl hcl] at hg1
      refine ⟨_, rfl, ⟨hL, .inr ⟨w.heap.size, c2, _, rfl, hb, hg1, hge, hle, ?_, ?_⟩⟩, ⟨grown_below hbel, .inr fun k hk => ?_⟩⟩
      · rw [List.size_toArray, ← hl2, ← List.append_assoc, ← List.append_assoc, List.append_assoc _ nw, List.length_append, hL, List.length_drop, Nat.succ_mul]
        rw [hdl] at hcl ⊢
        omega
      · show (xs.take (i * 2) ++ (nw ++ (xs.drop (i * 2) ++ _))).take ((n + 1) * 2) = _
        rw [← hL]; exact take_front _ _ _ _
      · simp [Value.ownBlock] at hk; omega
  · obtain ⟨a, c, rfl⟩ : ∃ a c, v = .slice a i c := by
      rcases hown.2 with ⟨rfl, rfl⟩ | ⟨g, cap, cur, rfl, _⟩
      · exact ⟨none, 0, rfl⟩
      · exact ⟨_, _, rfl⟩
    refine (ins_row_end base a i c xs nw vb w hown hnl h1n hvb hb hn).mono ?_
    rintro e w' ⟨v', rfl, hown', hgr⟩
    refine ⟨v', rfl, ?_, hgr⟩
    rw [List.take_of_length_le (by omega), List.drop_eq_nil_of_le (by omega), List.append_nil]
    exact hown'

end Go.Proofs.Ytignemioillaiaa
