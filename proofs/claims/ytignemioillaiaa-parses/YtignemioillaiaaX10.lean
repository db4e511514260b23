/- The book: all its lists read as their marks. -/
import Derived.Test.YtignemioillaiaaX9
namespace Go.Proofs.Ytignemioillaiaa
open Go.RowKit

set_option maxHeartbeats 8000000 in
set_option maxRecDepth 100000 in
theorem book_still (K n : Nat) (vR vP vV m0 m1 m3 : Value) (R P V : List (Sl × Int)) (w : World) (hB : Bk w K n vR vP vV m0 m1 m3 R P V) :
    Calls Try.prog 17 #[.pointer (some ⟨K, 0, none⟩)] w fun e w' => e = .returned (.bool true) ∧ Below w.heap.size w w' := by
  have HB := hideU hB
  have hcK := blk_cell hB.blk
  clear hB
  go_enter Try.func17, Try.ntmps17
  obtain ⟨Sa, Sc, hSe⟩ := HB.out.cR.len
  subst hSe
  go_wp2_with fail
  go_loopw [3] (fun i wr => ∃ k : Nat, k ≤ R.length ∧ i = .int .i64 k ∧ Below w.heap.size w wr) (fun i _ => R.length - (intOf i).toNat)
  case atStart => exact ⟨0, Nat.zero_le _, rfl, Below.refl _ w⟩
  case round =>
    obtain ⟨k, hk, rfl, hT⟩ := hrel
    have hcK := blk_cell (HB.out.later hT).blk
    by_cases hlt : k < R.length
    · have hdk : decide ((k : Int) < (R.length : Int)) = true := by simp; omega
      obtain ⟨⟨⟨ta, tl, tc⟩, m⟩, hkm⟩ : ∃ x, R[k]? = some x := ⟨R[k]'hlt, by simp⟩
      have hbm := HB.out.cR.bnd k _ m hkm
      have hw1 : IntKind.i64.wrap (77 + m) = 77 + m := by rw [IntKind.wrap_i64]; omega
      have hw2 : IntKind.u64.wrap (77 + m) = 77 + m := by have e : IntKind.u64.wrap (77 + m) = (77 + m) % 18446744073709551616 := rfl; rw [e]; omega
      have HMk : Hid (∀ wx : World, Below w.heap.size w wx → Marked wx _ 2 ⟨ta, tl, tc⟩ (rowMk m)) := fun wx hx => (HB.out.cR.below hx).all k _ m hkm
      have hmax := (HMk.out _ (Below.refl _ w)).max
      unfold maxLen at hmax
      have hi1 : (0 : Int) ≤ (k : Int) := by omega
      have hi2 : (k : Int) < (R.length : Int) := by omega
      have hEm : R.length ≤ maxLen := by obtain ⟨_, _, _, _, _, _, h, _⟩ := HB.out.cR.at hkm; exact h
      unfold maxLen at hEm
      have HAt : Hid (∃ g c g' c', Value.slice Sa R.length Sc = .slice (some ⟨g, 0, none⟩) R.length c ∧ m0 = .slice (some ⟨g', 0, none⟩) R.length c' ∧ ∀ wx : World, Below w.heap.size w wx → wx.cell? ⟨g, k, none⟩ = some (.slice ta tl tc) ∧ wx.cell? ⟨g', k, none⟩ = some (.int .i64 m)) := by
        obtain ⟨g, c, g', c', e1, e2, _, h3, h4⟩ := HB.out.cR.at hkm
        refine ⟨g, c, g', c', e1, e2, fun wx hx => ?_⟩
        obtain ⟨g2, c2, g2', c2', e3, e4, _, h5, h6⟩ := (HB.out.cR.below hx).at hkm
        rw [e1] at e3
        rw [e2] at e4
        cases e3
        cases e4
        exact ⟨h5, h6⟩
      obtain ⟨g, c, g', c', hSe, hMe, hAt⟩ := HAt.out
      cases hSe
      subst hMe
      clear HAt hkm
      have HAt := hideU hAt
      have hc1 := (HAt.out _ hT).1
      go_wp2_with fail
      go_loopw [4] (fun i wx => ∃ q : Nat, q ≤ tl ∧ i = .int .i64 q ∧ Below w.heap.size w wx) (fun i _ => tl - (intOf i).toNat)
      case atStart => exact ⟨0, Nat.zero_le _, rfl, hT⟩
      case round =>
        clear hcK hc1 hT
        obtain ⟨q, hq, rfl, hT⟩ := hrel
        have hcK := blk_cell (HB.out.later hT).blk
        have hc1 := (HAt.out _ hT).1
        have hc2 := (HAt.out _ hT).2
        by_cases hlt2 : q < tl
        · have hdq : decide ((q : Int) < (tl : Int)) = true := by simp; omega
          obtain ⟨gt, rfl, _, hcm⟩ := (HMk.out _ hT).at rfl hlt2
          unfold rowMk at hcm
          have hi3 : (0 : Int) ≤ (q : Int) := by omega
          have hi4 : (q : Int) < (tl : Int) := by omega
          have hcm0 := hcm 0 _ rfl
          have hcm1 := hcm 1 _ rfl
          simp only [Nat.add_zero] at hcm0
          clear hcm
          go_upto_region 7 with fail
          go_quiet (fail)
          go_wp2_with fail
          go_roundw
          case rel => exact ⟨q + 1, by omega, by go_num, below_drewN hT _⟩
          case measure => simp [intOf]; omega
        · have hdq : decide ((q : Int) < (tl : Int)) = false := by simp; omega
          go_wp2_with fail
          go_roundw
          case rel => exact ⟨k + 1, by omega, by go_num, hT⟩
          case measure => simp [intOf]; omega
    · have hdk : decide ((k : Int) < (R.length : Int)) = false := by simp; omega
      clear hcK
      have hcK := blk_cell (HB.out.later hT).blk
      obtain ⟨Sa, Sc, hSe⟩ := HB.out.cP.len
      subst hSe
      go_wp2_with fail
      go_loopw [5] (fun i wr => ∃ k : Nat, k ≤ P.length ∧ i = .int .i64 k ∧ Below w.heap.size w wr) (fun i _ => P.length - (intOf i).toNat)
      case atStart => exact ⟨0, Nat.zero_le _, rfl, hT⟩
      case round =>
        obtain ⟨k, hk, rfl, hT⟩ := hrel
        have hcK := blk_cell (HB.out.later hT).blk
        by_cases hlt : k < P.length
        · have hdk : decide ((k : Int) < (P.length : Int)) = true := by simp; omega
          obtain ⟨⟨⟨ta, tl, tc⟩, m⟩, hkm⟩ : ∃ x, P[k]? = some x := ⟨P[k]'hlt, by simp⟩
          have hbm := HB.out.cP.bnd k _ m hkm
          have hw1 : IntKind.i64.wrap (77 + m) = 77 + m := by rw [IntKind.wrap_i64]; omega
          have hw2 : IntKind.u64.wrap (77 + m) = 77 + m := by have e : IntKind.u64.wrap (77 + m) = (77 + m) % 18446744073709551616 := rfl; rw [e]; omega
          have HMk : Hid (∀ wx : World, Below w.heap.size w wx → Marked wx _ 7 ⟨ta, tl, tc⟩ (repMk m)) := fun wx hx => (HB.out.cP.below hx).all k _ m hkm
          have hmax := (HMk.out _ (Below.refl _ w)).max
          unfold maxLen at hmax
          have hi1 : (0 : Int) ≤ (k : Int) := by omega
          have hi2 : (k : Int) < (P.length : Int) := by omega
          have hEm : P.length ≤ maxLen := by obtain ⟨_, _, _, _, _, _, h, _⟩ := HB.out.cP.at hkm; exact h
          unfold maxLen at hEm
          have HAt : Hid (∃ g c g' c', Value.slice Sa P.length Sc = .slice (some ⟨g, 0, none⟩) P.length c ∧ m1 = .slice (some ⟨g', 0, none⟩) P.length c' ∧ ∀ wx : World, Below w.heap.size w wx → wx.cell? ⟨g, k, none⟩ = some (.slice ta tl tc) ∧ wx.cell? ⟨g', k, none⟩ = some (.int .i64 m)) := by
            obtain ⟨g, c, g', c', e1, e2, _, h3, h4⟩ := HB.out.cP.at hkm
            refine ⟨g, c, g', c', e1, e2, fun wx hx => ?_⟩
            obtain ⟨g2, c2, g2', c2', e3, e4, _, h5, h6⟩ := (HB.out.cP.below hx).at hkm
            rw [e1] at e3
            rw [e2] at e4
            cases e3
            cases e4
            exact ⟨h5, h6⟩
          obtain ⟨g, c, g', c', hSe, hMe, hAt⟩ := HAt.out
          cases hSe
          subst hMe
          clear HAt hkm
          have HAt := hideU hAt
          have hc1 := (HAt.out _ hT).1
          go_wp2_with fail
          go_loopw [6] (fun i wx => ∃ q : Nat, q ≤ tl ∧ i = .int .i64 q ∧ Below w.heap.size w wx) (fun i _ => tl - (intOf i).toNat)
          case atStart => exact ⟨0, Nat.zero_le _, rfl, hT⟩
          case round =>
            clear hcK hc1 hT
            obtain ⟨q, hq, rfl, hT⟩ := hrel
            have hcK := blk_cell (HB.out.later hT).blk
            have hc1 := (HAt.out _ hT).1
            have hc2 := (HAt.out _ hT).2
            by_cases hlt2 : q < tl
            · have hdq : decide ((q : Int) < (tl : Int)) = true := by simp; omega
              obtain ⟨gt, rfl, _, hcm⟩ := (HMk.out _ hT).at rfl hlt2
              unfold repMk at hcm
              have hi3 : (0 : Int) ≤ (q : Int) := by omega
              have hi4 : (q : Int) < (tl : Int) := by omega
              have hcm0 := hcm 0 _ rfl
              have hcm1 := hcm 1 _ rfl
              have hcm2 := hcm 2 _ rfl
              have hcm3 := hcm 3 _ rfl
              have hcm4 := hcm 4 _ rfl
              have hcm5 := hcm 5 _ rfl
              have hcm6 := hcm 6 _ rfl
              simp only [Nat.add_zero] at hcm0
              clear hcm
              go_upto_region 15 with fail
              go_quiet (fail)
              go_wp2_with fail
              go_roundw
              case rel => exact ⟨q + 1, by omega, by go_num, below_drewN hT _⟩
              case measure => simp [intOf]; omega
            · have hdq : decide ((q : Int) < (tl : Int)) = false := by simp; omega
              go_wp2_with fail
              go_roundw
              case rel => exact ⟨k + 1, by omega, by go_num, hT⟩
              case measure => simp [intOf]; omega
        · have hdk : decide ((k : Int) < (P.length : Int)) = false := by simp; omega
          clear hcK
          have hcK := blk_cell (HB.out.later hT).blk
          go_wp2_with fail
          refine wp_loop_rounds 1 ?_
          rw [rounds_succ]
          go_wp2_with fail
          refine wp_loop_rounds 1 ?_
          rw [rounds_succ]
          go_wp2_with (first | (go_at_call 53; go_must (refine (book_more K n _ _ _ _ _ _ R P V _ (HB.out.later hT)).mono ?_; rintro e w8 ⟨rfl, hb8⟩)))
          go_ret
          exact ⟨rfl, hT.trans (hb8.mono hT.size)⟩

end Go.Proofs.Ytignemioillaiaa

