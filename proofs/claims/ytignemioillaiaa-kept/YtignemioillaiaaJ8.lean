/- slices.Delete of one row. -/
import Derived.Test.YtignemioillaiaaJ5
namespace Go.Proofs.Ytignemioillaiaa
open Go.RowKit Go.Lib

set_option maxHeartbeats 400000 in
set_option maxRecDepth 100000 in
theorem del_row_mid (g cap n i : Nat) (cur xs : List Value) (w : World) (hg : w.heap[g]? = some (.cells cur.toArray 82)) (hcs : cur.length = cap * 2) (htk : cur.take (n * 2) = xs) (hnc : n ≤ cap) (h1 : ∀ u ∈ xs, u.oneCell' = true) (hi : i < n) (hn : n < 1000000) (hcap : ¬ cap = i + 1) :
    Calls Try.prog 158 #[.slice (some ⟨g, 0, none⟩) n cap, .int .i64 i, .int .i64 ((i : Int) + 1)] w fun e w' =>
      e = .returned (.slice (some ⟨g, 0, none⟩) (n - 1) cap) ∧ (∃ zs : List Value, zs.length = 2 ∧ w'.heap[g]? = some (.cells (splice (cur.take (i * 2) ++ xs.drop (i * 2 + 2) ++ cur.drop (i * 2 + (xs.drop (i * 2 + 2)).length)) (n * 2 - 2) zs).toArray 82)) ∧ Only g w w' := by
  obtain ⟨i0, hi0', hz0, hz1, hz2'⟩ := info_parts info_row
  have hd1 : ((i : Int) == (i : Int) + 1) = false := beq_eq_false_iff_ne.2 (by omega)
  have hi0 : (0 : Int) ≤ (i : Int) := by omega
  have hi1 : (i : Int) ≤ (i : Int) + 1 := by omega
  have hi2 : ((i : Int) + 1) ≤ (n : Int) := by omega
  have hi3 : (n : Int) ≤ (cap : Int) := by omega
  have hi4 : (0 : Int) ≤ (i : Int) + 1 := by omega
  have hi5 : (i : Int) ≤ (cap : Int) := by omega
  have ht1 : ((i : Int) + 1).toNat = i + 1 := by omega
  have hi6 : ((n - 1 : Nat) : Int) ≤ (n : Int) := by omega
  have hcn : ¬ cap = i + 1 := by omega
  have hcn2 : ¬ cap = n - 1 := by omega
  have hsb : n - (n - 1) = 1 := by omega
  have hcn3 : ¬ n = i := by omega
  have HG : Hid (w.heap[g]? = some (.cells cur.toArray 82)) := hg
  have HX : Hid (cur.take (n * 2) = xs) := htk
  have HC : Hid (cur.length = cap * 2) := hcs
  obtain ⟨X2, hX2⟩ : ∃ X2, X2 = xs.drop (i * 2 + 2) := ⟨_, rfl⟩
  have HX2 : Hid (X2 = xs.drop (i * 2 + 2)) := hX2
  have hxl : xs.length = n * 2 := by rw [← htk, List.length_take, hcs, Nat.min_eq_left (Nat.mul_le_mul_right _ hnc)]
  have HL2 : Hid (X2.length = (n - (i + 1)) * 2) := by
    show _ = _
    rw [hX2, List.length_drop, hxl, Nat.sub_mul, Nat.succ_mul]
  have HS2 : Hid (∀ j v, X2[j]? = some v → w.cell? ((⟨g, (i + 1) * 2, none⟩ : Addr).add j) = some v) := by
    intro j v hj
    rw [hX2] at hj; have := cells_drop hg htk (i * 2 + 2) j v hj; rw [show (i + 1) * 2 = i * 2 + 2 by omega]; exact this
  have HO2 : Hid (∀ u ∈ X2, u.oneCell' = true) := by rw [hX2]; exact one_drop h1 _
  have HF2 : Hid (i * 2 + X2.length ≤ cur.length) := by show _ ≤ _; rw [HL2.out, hcs, ← Nat.add_mul]; exact Nat.mul_le_mul_right _ (by omega)
  have hrm : i + (n - (i + 1)) ≤ cap := by omega
  have hre : i + (n - (i + 1)) = n - 1 := by omega
  obtain ⟨c1, hc1⟩ : ∃ c1, c1 = cur.take (i * 2) ++ X2 ++ cur.drop (i * 2 + X2.length) := ⟨_, rfl⟩
  have HC1 : Hid (c1 = cur.take (i * 2) ++ X2 ++ cur.drop (i * 2 + X2.length)) := hc1
  have HF3 : Hid ((n - 1) * 2 + 1 * 2 ≤ c1.length) := by
    have h2 := HF2.out
    show _ ≤ _
    rw [hc1, List.length_append, List.length_append, List.length_take, List.length_drop, hcs, Nat.min_eq_left (Nat.mul_le_mul_right _ (by omega))]
    omega
  clear hg htk hcs hX2 hxl hc1
  go_enter Try.func158, Try.ntmps158
  go_wp2_with fail
  go_region_law (refine step_appendK rfl (.tmp 22) (.tmp 25) 30 rfl 82 i0 Try.underlying30 hi0' 2 hz1 g i cap (by simp [Act.eval, Act.put]) ⟨g, (i + 1) * 2, none⟩ (n - (i + 1)) (cap - (i + 1)) (by simp [Act.eval, Act.put]) cur HG.out X2 HL2.out HS2.out HO2.out hrm HF2.out (n - 1) hre ?_; intro w1 hg1 ho1)
  have HG1 : Hid (w1.heap[g]? = some (.cells c1.toArray 82)) := by rw [HC1.out]; exact hg1.out
  have HO1 : Hid (Only g w w1) := Only.trans (Only.drew g w) ho1.out
  clear hg1 ho1
  go_wp2_with (with_reducible show wpList _ _ _ ({ dst := none, op := Op.call _, type := _, pos := _, after := _, guard := none } :: _) _ _; go_must (refine wpList_clearK rfl (.tmp 31) 30 rfl 82 i0 (.agg #[.int .u64 0, .int .u64 0]) Try.underlying30 hi0' hz0 2 hz1 rfl (by simp [Value.cells, Value.oneCell']) g ((n - 1) * 2) 1 (cap - (n - 1)) rfl (by decide) c1 82 HG1.out HF3.out ?_; intro zs w2 hzl hg2 ho2))
  go_wp2
  go_ret
  refine ⟨rfl, ⟨zs, by rw [hzl.out], ?_⟩, HO1.out.trans ho2.out⟩
  rw [← HX2.out, ← HC1.out, show n * 2 - 2 = (n - 1) * 2 by omega]
  exact hg2.out

set_option maxHeartbeats 400000 in
set_option maxRecDepth 100000 in
theorem del_row_last (g i : Nat) (cur _xs : List Value) (w : World) (hg : w.heap[g]? = some (.cells cur.toArray 82)) (hcs : cur.length = (i + 1) * 2) (hn : i < 1000000) :
    Calls Try.prog 158 #[.slice (some ⟨g, 0, none⟩) (i + 1) (i + 1), .int .i64 i, .int .i64 ((i : Int) + 1)] w fun e w' =>
      e = .returned (.slice (some ⟨g, 0, none⟩) i (i + 1)) ∧ (∃ zs : List Value, zs.length = 2 ∧ w'.heap[g]? = some (.cells (splice (cur.take (i * 2) ++ cur.drop (i * 2)) (i * 2) zs).toArray 82)) ∧ Only g w w' := by
  obtain ⟨i0, hi0', hz0, hz1, hz2'⟩ := info_parts info_row
  have hd1 : ((i : Int) == (i : Int) + 1) = false := beq_eq_false_iff_ne.2 (by omega)
  have hi0 : (0 : Int) ≤ (i : Int) := by omega
  have hi1 : (i : Int) ≤ (i : Int) + 1 := by omega
  have hi4 : (0 : Int) ≤ (i : Int) + 1 := by omega
  have ht1 : ((i : Int) + 1).toNat = i + 1 := by omega
  have HG : Hid (w.heap[g]? = some (.cells cur.toArray 82)) := hg
  have HC : Hid (cur.length = (i + 1) * 2) := hcs
  have HF2 : Hid (i * 2 + ([] : List Value).length ≤ cur.length) := by show _ ≤ _; rw [hcs]; simp; omega
  obtain ⟨c1, hc1⟩ : ∃ c1, c1 = cur.take (i * 2) ++ [] ++ cur.drop (i * 2 + ([] : List Value).length) := ⟨_, rfl⟩
  have HC1 : Hid (c1 = cur.take (i * 2) ++ [] ++ cur.drop (i * 2 + ([] : List Value).length)) := hc1
  have HF3 : Hid (i * 2 + 1 * 2 ≤ c1.length) := by
    show _ ≤ _
    simp only [hc1, List.append_nil, List.length_nil, Nat.add_zero, List.take_append_drop, hcs]; omega
  clear hg hcs hc1
  go_enter Try.func158, Try.ntmps158
  go_wp2_with fail
  go_region_law (refine step_appendK rfl (.tmp 22) (.tmp 25) 30 rfl 82 i0 Try.underlying30 hi0' 2 hz1 g i (i + 1) (by simp [Act.eval, Act.put]) ⟨g, 0, none⟩ 0 0 (by simp [Act.eval, Act.put]) cur HG.out [] rfl (fun j u h => by simp at h) (fun u h => by simp at h) (by omega) HF2.out i (by omega) ?_; intro w1 hg1 ho1)
  have HG1 : Hid (w1.heap[g]? = some (.cells c1.toArray 82)) := by rw [HC1.out]; exact hg1.out
  have HO1 : Hid (Only g w w1) := Only.trans (Only.drew g w) ho1.out
  clear hg1 ho1
  go_wp2_with (with_reducible show wpList _ _ _ ({ dst := none, op := Op.call _, type := _, pos := _, after := _, guard := none } :: _) _ _; go_must (refine wpList_clearK rfl (.tmp 31) 30 rfl 82 i0 (.agg #[.int .u64 0, .int .u64 0]) Try.underlying30 hi0' hz0 2 hz1 rfl (by simp [Value.cells, Value.oneCell']) g (i * 2) 1 1 (by simp [Act.eval]) (by decide) c1 82 HG1.out HF3.out ?_; intro zs w2 hzl hg2 ho2))
  go_wp2
  go_ret
  refine ⟨rfl, ⟨zs, by rw [hzl.out], ?_⟩, HO1.out.trans ho2.out⟩
  have h2 := hg2.out
  rw [HC1.out, List.append_nil, List.length_nil, Nat.add_zero] at h2
  exact h2

theorem del_row (base : Nat) (v : Value) (n i : Nat) (xs : List Value) (w : World) (hown : w.ownsRow base 82 2 v n xs) (h1 : ∀ u ∈ xs, u.oneCell' = true) (hi : i < n) (hn : n < 1000000) :
    Calls Try.prog 158 #[v, .int .i64 i, .int .i64 ((i : Int) + 1)] w fun e w' =>
      ∃ v', e = .returned v' ∧ w'.ownsRow base 82 2 v' (n - 1) (xs.take (i * 2) ++ xs.drop (i * 2 + 2)) ∧ Grew w v w' v' := by
  have hxl := hown.1
  rcases hown.2 with ⟨_, h0⟩ | ⟨g, cap, cur, rfl, hbg, hg, hnc, hcm, hcs, htake⟩
  · omega
  have hcs' : cur.toList.length = cap * 2 := by rw [Array.length_toList]; exact hcs
  have hg' : w.heap[g]? = some (.cells cur.toList.toArray 82) := by rw [Array.toArray_toList]; exact hg
  have hcl : n * 2 ≤ cur.toList.length := by rw [hcs']; exact Nat.mul_le_mul_right _ hnc
  have hil : i * 2 + 2 ≤ n * 2 := by rw [← Nat.succ_mul]; exact Nat.mul_le_mul_right _ hi
  have key : Calls Try.prog 158 #[.slice (some ⟨g, 0, none⟩) n cap, .int .i64 i, .int .i64 ((i : Int) + 1)] w fun e w' =>
      e = .returned (.slice (some ⟨g, 0, none⟩) (n - 1) cap) ∧ (∃ zs : List Value, zs.length = 2 ∧ w'.heap[g]? = some (.cells (splice (cur.toList.take (i * 2) ++ xs.drop (i * 2 + 2) ++ cur.toList.drop (i * 2 + (xs.drop (i * 2 + 2)).length)) (n * 2 - 2) zs).toArray 82)) ∧ Only g w w' := by
    by_cases hc : cap = i + 1
    · obtain rfl : n = i + 1 := by omega
      subst hc
      have he : xs.drop (i * 2 + 2) = [] := List.drop_eq_nil_of_le (by omega)
      refine (del_row_last g i cur.toList xs w hg' hcs' (by omega)).mono ?_
      rintro e w' ⟨rfl, ⟨zs, hzl, hg1⟩, ho⟩
      refine ⟨rfl, ⟨zs, hzl, ?_⟩, ho⟩
      rw [he, List.append_nil, List.length_nil, Nat.add_zero, show (i + 1) * 2 - 2 = i * 2 by omega]
      exact hg1
    · exact del_row_mid g cap n i cur.toList xs w hg' hcs' htake hnc h1 hi hn hc
  refine key.mono ?_
  rintro e w' ⟨rfl, ⟨zs, hzl, hg1⟩, ho⟩
  have hL : (xs.take (i * 2) ++ xs.drop (i * 2 + 2)).length = (n - 1) * 2 := by
    rw [List.length_append, List.length_take, List.length_drop, hxl]; omega
  refine ⟨_, rfl, ⟨hL, .inr ⟨g, cap, _, rfl, hbg, hg1, by omega, hcm, ?_, ?_⟩⟩, ⟨grown_onlyJ ho, .inl rfl⟩⟩
  · have hl1 : (cur.toList.take (i * 2) ++ xs.drop (i * 2 + 2) ++ cur.toList.drop (i * 2 + (xs.drop (i * 2 + 2)).length)).length = cap * 2 := by
      rw [List.length_append, List.length_append, List.length_take, List.length_drop, List.length_drop, hxl, hcs']
      rw [hcs'] at hcl
      omega
    rw [List.size_toArray, length_splice _ _ _ (by rw [hl1, hzl]; rw [hcs'] at hcl; omega), hl1]
  · show (splice _ _ _).take ((n - 1) * 2) = _
    rw [show (n - 1) * 2 = n * 2 - 2 by omega]
    exact del_list cur.toList xs zs (i * 2) 2 (n * 2) htake hcl hil hzl

end Go.Proofs.Ytignemioillaiaa
