/- shard.remember of what is known, and whole. -/
import Derived.Test.YtignemioillaiaaJ11
namespace Go.Proofs.Ytignemioillaiaa
open Go.RowKit Go.Lib

/-- Cells stored one by one are a part of the row laid anew. -/
theorem setCells_row (g : Nat) (t : TypeId) : ∀ (vs : List Value) (o : Nat) (cur : List Value) (w : World), w.heap[g]? = some (.cells cur.toArray t) → o + vs.length ≤ cur.length →
    (w.setCells g o vs).heap[g]? = some (.cells (splice cur o vs).toArray t) ∧ Only g w (w.setCells g o vs)
  | [], o, cur, w, hg, _ => ⟨by rw [World.setCells, hg]; simp [splice], ⟨rfl, rfl, rfl, rfl, fun _ _ => rfl⟩⟩
  | v :: r, o, cur, w, hg, hl => by
    obtain ⟨h1, h2⟩ := setCell_row (o := o) (v := v) hg
    simp only [List.length_cons] at hl
    obtain ⟨h3, h4⟩ := setCells_row g t r (o + 1) (cur.set o v) _ h1 (by simp; omega)
    refine ⟨?_, h2.trans h4⟩
    rw [World.setCells, h3]
    congr 3
    unfold splice
    rw [List.set_eq_take_append_cons_drop, if_pos (by omega)]
    have hA : (cur.take o).length = o := by simp; omega
    have e1 : (cur.take o ++ v :: cur.drop (o + 1)).take (o + 1) = cur.take o ++ [v] := by
      rw [show cur.take o ++ v :: cur.drop (o + 1) = (cur.take o ++ [v]) ++ cur.drop (o + 1) by simp, show o + 1 = (cur.take o ++ [v]).length by simp; omega, List.take_left]
    have e2 : (cur.take o ++ v :: cur.drop (o + 1)).drop (o + 1 + r.length) = cur.drop (o + (r.length + 1)) := by
      rw [show cur.take o ++ v :: cur.drop (o + 1) = (cur.take o ++ [v]) ++ cur.drop (o + 1) by simp, show o + 1 + r.length = (cur.take o ++ [v]).length + r.length by simp; omega, List.drop_length_add_append, List.drop_drop]
      congr 1; omega
    rw [e1, e2]; simp

set_option maxHeartbeats 400000 in
set_option maxRecDepth 100000 in
theorem remember_old (w : World) (base lim b : Nat) (g n : Int) (vT vM vD vO vI : Value) (T : List Row) (D : List Rep) (qc qs qkey qk : Int) (qf : Bool) (qv qg : Int) (h : Shd w base b g n vT vM vD vO vI T D) (hs : SortD D) (_hbl : b < lim) (hlD : ∀ k, vD.ownBlock = some k → k < lim) (hh : hasD D (Rep.mk qc qs qkey qk qf qv qg) = true) :
    Calls Try.prog 147 #[.pointer (some ⟨b, 0, none⟩), .agg #[.int .u8 qc, .int .u32 qs, .int .u64 qkey, .int .u8 qk, .bool qf, .int .u64 qv, .int .u8 qg]] w fun e w' => e = .returned (.tuple #[]) ∧ OutD base lim b g n vT vM vD vO vI T (remD D (Rep.mk qc qs qkey qk qf qv qg)) w w' := by
  obtain ⟨p, hp⟩ : ∃ p, p = atD D (Rep.mk qc qs qkey qk qf qv qg) := ⟨_, rfl⟩
  have HP : Hid (atD D (Rep.mk qc qs qkey qk qf qv qg) = p) := hp.symm
  obtain ⟨x, hx, hxe⟩ := hitB_some hh
  change D[atD D (Rep.mk qc qs qkey qk qf qv qg)]? = some x at hx
  rw [HP.out] at hx
  have hxl := (List.getElem?_eq_some_iff.1 hx).1
  clear hp hx hxe
  obtain ⟨W, hW⟩ : ∃ W, W = w.alloc (.cells #[.int .u8 qc, .int .u32 qs, .int .u64 qkey, .int .u8 qk, .bool qf, .int .u64 qv, .int .u8 qg] 27) := ⟨_, rfl⟩
  have hWq : W.heap[w.heap.size]? = some (.cells #[.int .u8 qc, .int .u32 qs, .int .u64 qkey, .int .u8 qk, .bool qf, .int .u64 qv, .int .u8 qg] 27) := by rw [hW]; exact heap_alloc_new w _
  have hWl : Below w.heap.size w W := by rw [hW]; exact later_alloc w _
  have HWL : Hid (Below w.heap.size w W) := hWl
  have HS : Hid (SortD D) := hs
  have HH : Hid (Shd W base b g n vT vM vD vO vI T D) := h.later hWl
  rcases h.oD.2 with ⟨_, h0⟩ | ⟨gD, cap, cur, hv, hbg, hgD, hnc, hcm, hcs, htake⟩
  · omega
  subst hv
  have HB : Hid (∀ w1, Below W.heap.size W w1 → w1.heap[b]? = some (.cells #[.int .u8 g, .int .u8 n, vT, vM, .slice (some ⟨gD, 0, none⟩) D.length cap, vO, vI] 74)) := fun w1 hb1 => blk_later hb1 HH.out.cell
  have HQ : Hid (∀ w1, Below W.heap.size W w1 → w1.heap[w.heap.size]? = some (.cells #[.int .u8 qc, .int .u32 qs, .int .u64 qkey, .int .u8 qk, .bool qf, .int .u64 qv, .int .u8 qg] 27)) := fun w1 hb1 => blk_later hb1 hWq
  have HG : Hid (∀ w1, Below W.heap.size W w1 → w1.heap[gD]? = some (.cells cur.toList.toArray 27)) := fun w1 hb1 => by rw [Array.toArray_toList]; exact blk_later hb1 (blk_later hWl hgD)
  have hcl : cur.toList.length = cap * 7 := by rw [Array.length_toList]; exact hcs
  have hfit : p * 7 + 7 ≤ cur.toList.length := by omega
  have HC : Hid (∀ w1, Below W.heap.size W w1 → ∀ j, j < 7 → ∃ u, w1.cell? ⟨gD, p * 7 + j, none⟩ = some u) := fun w1 hb1 j hj => by
    rw [blk_cell (HG.out w1 hb1)]
    exact ⟨_, List.getElem?_toArray ▸ List.getElem?_eq_getElem (by omega)⟩
  have hi1 : (0 : Int) ≤ (p : Int) := by omega
  have hi2 : (p : Int) < (D.length : Int) := by omega
  clear h hs hgD hWq hWl
  go_enter Try.func147, Try.ntmps147
  go_wp2_with (first
    | (go_at_call 110; go_must (rw [← hW]; clear hW; refine (dup_any _ base b g n vT vM (.slice (some ⟨gD, 0, none⟩) D.length cap) vO vI T D qc qs qkey qk qf qv qg HH.out HS.out).mono ?_; rintro e w1 ⟨rfl, hb1⟩; rw [hh, HP.out]; have hcS := blk_cell (HB.out w1 hb1) 4; have hcQ0 := blk_cell (HQ.out w1 hb1) 0; have hcQ1 := blk_cell (HQ.out w1 hb1) 1; have hcQ2 := blk_cell (HQ.out w1 hb1) 2; have hcQ3 := blk_cell (HQ.out w1 hb1) 3; have hcQ4 := blk_cell (HQ.out w1 hb1) 4; have hcQ5 := blk_cell (HQ.out w1 hb1) 5; have hcQ6 := blk_cell (HQ.out w1 hb1) 6)))
  simp at hcS hcQ0 hcQ1 hcQ2 hcQ3 hcQ4 hcQ5 hcQ6
  obtain ⟨u0, hu0⟩ := HC.out w1 hb1 0 (by decide)
  obtain ⟨u1, hu1⟩ := HC.out w1 hb1 1 (by decide)
  obtain ⟨u2, hu2⟩ := HC.out w1 hb1 2 (by decide)
  obtain ⟨u3, hu3⟩ := HC.out w1 hb1 3 (by decide)
  obtain ⟨u4, hu4⟩ := HC.out w1 hb1 4 (by decide)
  obtain ⟨u5, hu5⟩ := HC.out w1 hb1 5 (by decide)
  obtain ⟨u6, hu6⟩ := HC.out w1 hb1 6 (by decide)
  rw [Nat.add_zero] at hu0
  have hf0 := blkF (Below.refl _ w1) (HG.out w1 hb1)
  go_region
  all_goals (
    go_wp2
    (try simp only [Exit.inBlock, Exit.then])
    refine bodyPost_ret (results_none rfl _ _ _) rfl ?_
    obtain ⟨hs1, hs2⟩ := setCells_row gD 27 [.int .u8 qc, .int .u32 qs, .int .u64 qkey, .int .u8 qk, .bool qf, .int .u64 qv, .int .u8 qg] (p * 7) cur.toList w1 (HG.out w1 hb1) hfit
    simp only [World.setCells, Nat.add_assoc, Nat.reduceAdd] at hs1 hs2
    obtain ⟨X, hX⟩ : ∃ X, X = splice cur.toList (p * 7) [.int .u8 qc, .int .u32 qs, .int .u64 qkey, .int .u8 qk, .bool qf, .int .u64 qv, .int .u8 qg] := ⟨_, rfl⟩
    rw [← hX] at hs1
    refine ⟨rfl, ?_⟩
    generalize (((((((w1.setCell ⟨gD, p * 7, none⟩ (.int .u8 qc)).setCell ⟨gD, p * 7 + 1, none⟩ (.int .u32 qs)).setCell ⟨gD, p * 7 + 2, none⟩ (.int .u64 qkey)).setCell ⟨gD, p * 7 + 3, none⟩ (.int .u8 qk)).setCell ⟨gD, p * 7 + 4, none⟩ (.bool qf)).setCell ⟨gD, p * 7 + 5, none⟩ (.int .u64 qv)).setCell ⟨gD, p * 7 + 6, none⟩ (.int .u8 qg)) = w2 at hs1 hs2 ⊢
    have hs3 : Only gD w1 w2.drew := hs2.trans (Only.drew _ _)
    refine ⟨.slice (some ⟨gD, 0, none⟩) D.length cap, ?_, (Mod.later (later_trans HWL.out hb1)).trans (Mod.only hs3 hbg (hlD gD rfl) (HG.out w1 hb1) kdD), .inl rfl⟩
    rw [show remD D (Rep.mk qc qs qkey qk qf qv qg) = D.set p (Rep.mk qc qs qkey qk qf qv qg) by simp [remD, hh, HP.out]]
    have hB1 := HB.out w1 hb1
    have hD1 := own_keepJ HH.out.oD hb1
    have hT1 := own_keepJ HH.out.oT hb1
    have hbD : b ≠ gD := fun e => shd_off hB1 (by decide) hD1 (by rw [e]; rfl)
    have hlen : (D.set p (Rep.mk qc qs qkey qk qf qv qg)).length = D.length := List.length_set
    refine ⟨(hs2.block b hbD).trans hB1, (hT1.kept (grown_onlyJ hs3) (own_apartJ hT1 hD1 (by decide))), ⟨flat_len' rep_k _, .inr ⟨gD, cap, _, by rw [hlen], hbg, hs1, by rw [hlen]; exact hnc, hcm, ?_, ?_⟩⟩, HH.out.b1⟩
    · rw [List.size_toArray, hX, length_splice _ _ _ hfit, hcl]
    · rw [hX, hlen, flat_set rep_k D p _ hxl]
      exact splice_take cur.toList _ _ (D.length * 7) (p * 7) htake (by omega) (by show p * 7 + 7 ≤ _; omega))

theorem remember_any (w : World) (base lim b : Nat) (g n : Int) (vT vM vD vO vI : Value) (T : List Row) (D : List Rep) (qc qs qkey qk : Int) (qf : Bool) (qv qg : Int) (h : Shd w base b g n vT vM vD vO vI T D) (hs : SortD D) (hb : base ≤ w.heap.size) (hbl : b < lim) (hlD : ∀ k, vD.ownBlock = some k → k < lim) (hn : D.length < 1000000) :
    Calls Try.prog 147 #[.pointer (some ⟨b, 0, none⟩), .agg #[.int .u8 qc, .int .u32 qs, .int .u64 qkey, .int .u8 qk, .bool qf, .int .u64 qv, .int .u8 qg]] w fun e w' => e = .returned (.tuple #[]) ∧ OutD base lim b g n vT vM vD vO vI T (remD D (Rep.mk qc qs qkey qk qf qv qg)) w w' := by
  cases hh : hasD D (Rep.mk qc qs qkey qk qf qv qg) with
  | true => exact remember_old w base lim b g n vT vM vD vO vI T D qc qs qkey qk qf qv qg h hs hbl hlD hh
  | false => exact remember_new w base lim b g n vT vM vD vO vI T D qc qs qkey qk qf qv qg h hs hb hbl hlD hn hh

end Go.Proofs.Ytignemioillaiaa
