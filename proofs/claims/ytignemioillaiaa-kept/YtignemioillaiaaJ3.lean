/- slices.BinarySearchFunc over replies, by key and client. -/
import Derived.Test.YtignemioillaiaaJ2
namespace Go.Proofs.Ytignemioillaiaa
open Go.RowKit Go.Lib

set_option maxHeartbeats 4000000 in
set_option maxRecDepth 100000 in
theorem bsf_dup (a : Option Addr) (n c : Nat) (T : List Rep) (qc qs qkey qk : Int) (qf : Bool) (qv qg : Int) (w : World) (h : SlIn w.heap.size w ⟨a, n, c⟩ 7 (T.map Rep.cells))
    (hmono : ∀ (i j : Nat) (x y : Rep), i ≤ j → T[i]? = some x → T[j]? = some y → cmpP y (Rep.mk qc qs qkey qk qf qv qg) < 0 → cmpP x (Rep.mk qc qs qkey qk qf qv qg) < 0) :
    Calls Try.prog 138 #[.slice a n c, .agg #[.int .u8 qc, .int .u32 qs, .int .u64 qkey, .int .u8 qk, .bool qf, .int .u64 qv, .int .u8 qg], .func (.func 139) #[] #[]] w fun e w' => e = .returned (.tuple #[.int .i64 (posB (fun x => cmpP x (Rep.mk qc qs qkey qk qf qv qg)) T : Nat), .bool (hitB (fun x => cmpP x (Rep.mk qc qs qkey qk qf qv qg)) T)]) ∧ Below w.heap.size w w' := by
  obtain ⟨W, hW⟩ : ∃ W, W = w.alloc (.cells #[.int .u8 qc, .int .u32 qs, .int .u64 qkey, .int .u8 qk, .bool qf, .int .u64 qv, .int .u8 qg] 27) := ⟨_, rfl⟩
  have hWq : W.heap[w.heap.size]? = some (.cells #[.int .u8 qc, .int .u32 qs, .int .u64 qkey, .int .u8 qk, .bool qf, .int .u64 qv, .int .u8 qg] 27) := by rw [hW]; exact heap_alloc_new w _
  have hWl : Below w.heap.size w W := by rw [hW]; exact later_alloc w _
  have hl : n = T.length := by simpa using h.len
  have hlm : n ≤ maxLen := Nat.le_trans h.le h.max
  unfold maxLen at hlm
  have HL : Hid (n = T.length) := hl
  have HM : Hid (∀ (i j : Nat) (x y : Rep), i ≤ j → T[i]? = some x → T[j]? = some y → cmpP y (Rep.mk qc qs qkey qk qf qv qg) < 0 → cmpP x (Rep.mk qc qs qkey qk qf qv qg) < 0) := hmono
  have HS : Hid (SlIn W.heap.size W ⟨a, n, c⟩ 7 (T.map Rep.cells)) := h.later hWl
  obtain ⟨ps, hps⟩ : ∃ ps, ps = posB (fun x => cmpP x (Rep.mk qc qs qkey qk qf qv qg)) T := ⟨_, rfl⟩
  obtain ⟨ht, hht⟩ : ∃ ht, ht = hitB (fun x => cmpP x (Rep.mk qc qs qkey qk qf qv qg)) T := ⟨_, rfl⟩
  rw [← hps, ← hht]
  have HP : Hid (ps = posB (fun x => cmpP x (Rep.mk qc qs qkey qk qf qv qg)) T) := hps
  have HH : Hid (ht = hitB (fun x => cmpP x (Rep.mk qc qs qkey qk qf qv qg)) T) := hht
  clear hl hmono h hps hht
  go_enter Try.func138, Try.ntmps138
  go_wp2_with fail
  rw [← hW]
  clear hW
  go_loopw [9, 10] (fun s9 s10 wr => ∃ lo hi : Nat, s9 = .int .i64 lo ∧ s10 = .int .i64 hi ∧ lo ≤ hi ∧ hi ≤ n ∧ Below W.heap.size W wr ∧ Hid ((∀ (t : Nat) (x : Rep), t < lo → T[t]? = some x → cmpP x (Rep.mk qc qs qkey qk qf qv qg) < 0) ∧ (∀ (t : Nat) (x : Rep), hi ≤ t → T[t]? = some x → 0 ≤ cmpP x (Rep.mk qc qs qkey qk qf qv qg)))) (fun s9 s10 _ => (intOf s10).toNat - (intOf s9).toNat)
  case atStart => exact ⟨0, n, rfl, rfl, Nat.zero_le _, Nat.le_refl _, Below.refl _ _, (⟨fun t x ht => absurd ht (Nat.not_lt_zero _), fun t x h1 h2 => by have := (List.getElem?_eq_some_iff.1 h2).1; have := HL.out; omega⟩ : _ ∧ _)⟩
  case round =>
    obtain ⟨lo, hi, rfl, rfl, hlh, hin, hbr, HI⟩ := hrel
    by_cases hlt : lo < hi
    · obtain ⟨mid, hmid⟩ : ∃ mid : Nat, mid = (lo + hi) / 2 := ⟨_, rfl⟩
      have hm1 : lo ≤ mid := by omega
      have hm2 : mid < hi := by omega
      obtain ⟨x, hx⟩ : ∃ x, T[mid]? = some x := ⟨T[mid]'(by rw [← HL.out]; omega), by simp⟩
      obtain ⟨b, off, ha, hbB, hc0, hc1, hc2, hc3, hc4, hc5, hc6⟩ := (HS.out.later hbr).at7 hx
      dsimp only at ha
      subst ha
      have HX : Hid (T[mid]? = some x) := hx
      clear hx
      obtain ⟨xc, xs, xkey, xk, xf, xv, xg⟩ := x
      dsimp only at hc0 hc1 hc2 hc3 hc4 hc5 hc6
      have hdl : decide ((lo : Int) < (hi : Int)) = true := by simp; omega
      have hme : wrap64 (IntKind.u64.wrap (wrap64 ((lo : Int) + (hi : Int))) / 2) = (mid : Int) := mid_eq lo hi mid hmid (by omega)
      clear hmid
      have hi1 : (0 : Int) ≤ (mid : Int) := by omega
      have hi2 : (mid : Int) < (n : Int) := by omega
      have MK : Hid (∀ w', Below wr.heap.size wr w' → (Below wr.heap.size wr w' ∧ w'.cell? ⟨b, off + mid * 7, none⟩ = some (.int .u8 xc) ∧ w'.cell? ⟨b, off + mid * 7 + 1, none⟩ = some (.int .u32 xs) ∧ w'.cell? ⟨b, off + mid * 7 + 2, none⟩ = some (.int .u64 xkey) ∧ w'.cell? ⟨b, off + mid * 7 + 3, none⟩ = some (.int .u8 xk) ∧ w'.cell? ⟨b, off + mid * 7 + 4, none⟩ = some (.bool xf) ∧ w'.cell? ⟨b, off + mid * 7 + 5, none⟩ = some (.int .u64 xv) ∧ w'.cell? ⟨b, off + mid * 7 + 6, none⟩ = some (.int .u8 xg) ∧ w'.cell? ⟨w.heap.size, 0, none⟩ = some (.int .u8 qc) ∧ w'.cell? ⟨w.heap.size, 1, none⟩ = some (.int .u32 qs) ∧ w'.cell? ⟨w.heap.size, 2, none⟩ = some (.int .u64 qkey) ∧ w'.cell? ⟨w.heap.size, 3, none⟩ = some (.int .u8 qk) ∧ w'.cell? ⟨w.heap.size, 4, none⟩ = some (.bool qf) ∧ w'.cell? ⟨w.heap.size, 5, none⟩ = some (.int .u64 qv) ∧ w'.cell? ⟨w.heap.size, 6, none⟩ = some (.int .u8 qg))) := fun w' hb => ⟨hb, (later_cell hb hbB _).trans hc0, (later_cell hb hbB _).trans hc1, (later_cell hb hbB _).trans hc2, (later_cell hb hbB _).trans hc3, (later_cell hb hbB _).trans hc4, (later_cell hb hbB _).trans hc5, (later_cell hb hbB _).trans hc6, blk (later_trans hbr hb) hWq 0, blk (later_trans hbr hb) hWq 1, blk (later_trans hbr hb) hWq 2, blk (later_trans hbr hb) hWq 3, blk (later_trans hbr hb) hWq 4, blk (later_trans hbr hb) hWq 5, blk (later_trans hbr hb) hWq 6⟩
      go_wp2_with fail
      go_region_held3 (fun w' => Below wr.heap.size wr w' ∧ w'.cell? ⟨b, off + mid * 7, none⟩ = some (.int .u8 xc) ∧ w'.cell? ⟨b, off + mid * 7 + 1, none⟩ = some (.int .u32 xs) ∧ w'.cell? ⟨b, off + mid * 7 + 2, none⟩ = some (.int .u64 xkey) ∧ w'.cell? ⟨b, off + mid * 7 + 3, none⟩ = some (.int .u8 xk) ∧ w'.cell? ⟨b, off + mid * 7 + 4, none⟩ = some (.bool xf) ∧ w'.cell? ⟨b, off + mid * 7 + 5, none⟩ = some (.int .u64 xv) ∧ w'.cell? ⟨b, off + mid * 7 + 6, none⟩ = some (.int .u8 xg) ∧ w'.cell? ⟨w.heap.size, 0, none⟩ = some (.int .u8 qc) ∧ w'.cell? ⟨w.heap.size, 1, none⟩ = some (.int .u32 qs) ∧ w'.cell? ⟨w.heap.size, 2, none⟩ = some (.int .u64 qkey) ∧ w'.cell? ⟨w.heap.size, 3, none⟩ = some (.int .u8 qk) ∧ w'.cell? ⟨w.heap.size, 4, none⟩ = some (.bool qf) ∧ w'.cell? ⟨w.heap.size, 5, none⟩ = some (.int .u64 qv) ∧ w'.cell? ⟨w.heap.size, 6, none⟩ = some (.int .u8 qg)) (first | exact MK.out _ (Below.refl _ _).drew | exact MK.out _ (held_nextJ (by assumption) (by assumption)) | exact MK.out _ (held_drewJ (by assumption))) (first | (go_at_call 139; refine (dup_cmp xc xs xkey xk xf xv xg qc qs qkey qk qf qv qg _).mono ?_; rintro e w1 ⟨rfl, hbel1⟩))
      by_cases hy : cmpP (Rep.mk xc xs xkey xk xf xv xg) (Rep.mk qc qs qkey qk qf qv qg) < 0
      · have hdy : decide (cmpP (Rep.mk xc xs xkey xk xf xv xg) (Rep.mk qc qs qkey qk qf qv qg) < 0) = true := by simp [hy]
        go_wp2_with fail
        go_roundw
        case rel => exact ⟨mid + 1, hi, by go_num, rfl, by omega, hin, later_trans hbr (And.left (by assumption)), (⟨fun t x ht hx => HM.out t mid x _ (by omega) hx HX.out hy, HI.out.2⟩ : _ ∧ _)⟩
        case measure => simp [intOf]; omega
      · have hdy : decide (cmpP (Rep.mk xc xs xkey xk xf xv xg) (Rep.mk qc qs qkey qk qf qv qg) < 0) = false := by simp [hy]
        go_wp2_with fail
        go_roundw
        case rel => exact ⟨lo, mid, rfl, by go_num, by omega, by omega, later_trans hbr (And.left (by assumption)), (⟨HI.out.1, fun t x ht hx => Int.not_lt.1 fun hlt2 => absurd (HM.out mid t _ x (by omega) HX.out hx hlt2) (by simpa using hy)⟩ : _ ∧ _)⟩
        case measure => simp [intOf]; omega
    · obtain rfl : hi = lo := by omega
      have hps := posB_eq (fun x : Rep => cmpP x (Rep.mk qc qs qkey qk qf qv qg)) T hi (by rw [← HL.out]; omega) HI.out.1 HI.out.2
      obtain rfl : ps = hi := HP.out.trans hps
      clear hps
      by_cases hn : ps < n
      · obtain ⟨x, hx⟩ : ∃ x, T[ps]? = some x := ⟨T[ps]'(by rw [← HL.out]; omega), by simp⟩
        obtain ⟨b, off, ha, hbB, hc0, hc1, hc2, hc3, hc4, hc5, hc6⟩ := (HS.out.later hbr).at7 hx
        dsimp only at ha
        subst ha
        have hht : ht = (cmpP x (Rep.mk qc qs qkey qk qf qv qg) == 0) := by rw [HH.out, hitB, ← HP.out, hx]
        clear hx
        obtain ⟨xc, xs, xkey, xk, xf, xv, xg⟩ := x
        dsimp only at hc0 hc1 hc2 hc3 hc4 hc5 hc6 hht
        subst hht
        have hdn : decide ((ps : Int) < (n : Int)) = true := by simp; omega
        have hi1 : (0 : Int) ≤ (ps : Int) := by omega
        have hi2 : (ps : Int) < (n : Int) := by omega
        have MK : Hid (∀ w', Below wr.heap.size wr w' → (Below wr.heap.size wr w' ∧ w'.cell? ⟨b, off + ps * 7, none⟩ = some (.int .u8 xc) ∧ w'.cell? ⟨b, off + ps * 7 + 1, none⟩ = some (.int .u32 xs) ∧ w'.cell? ⟨b, off + ps * 7 + 2, none⟩ = some (.int .u64 xkey) ∧ w'.cell? ⟨b, off + ps * 7 + 3, none⟩ = some (.int .u8 xk) ∧ w'.cell? ⟨b, off + ps * 7 + 4, none⟩ = some (.bool xf) ∧ w'.cell? ⟨b, off + ps * 7 + 5, none⟩ = some (.int .u64 xv) ∧ w'.cell? ⟨b, off + ps * 7 + 6, none⟩ = some (.int .u8 xg) ∧ w'.cell? ⟨w.heap.size, 0, none⟩ = some (.int .u8 qc) ∧ w'.cell? ⟨w.heap.size, 1, none⟩ = some (.int .u32 qs) ∧ w'.cell? ⟨w.heap.size, 2, none⟩ = some (.int .u64 qkey) ∧ w'.cell? ⟨w.heap.size, 3, none⟩ = some (.int .u8 qk) ∧ w'.cell? ⟨w.heap.size, 4, none⟩ = some (.bool qf) ∧ w'.cell? ⟨w.heap.size, 5, none⟩ = some (.int .u64 qv) ∧ w'.cell? ⟨w.heap.size, 6, none⟩ = some (.int .u8 qg))) := fun w' hb => ⟨hb, (later_cell hb hbB _).trans hc0, (later_cell hb hbB _).trans hc1, (later_cell hb hbB _).trans hc2, (later_cell hb hbB _).trans hc3, (later_cell hb hbB _).trans hc4, (later_cell hb hbB _).trans hc5, (later_cell hb hbB _).trans hc6, blk (later_trans hbr hb) hWq 0, blk (later_trans hbr hb) hWq 1, blk (later_trans hbr hb) hWq 2, blk (later_trans hbr hb) hWq 3, blk (later_trans hbr hb) hWq 4, blk (later_trans hbr hb) hWq 5, blk (later_trans hbr hb) hWq 6⟩
        go_wp2_with fail
        go_region_held3 (fun w' => Below wr.heap.size wr w' ∧ w'.cell? ⟨b, off + ps * 7, none⟩ = some (.int .u8 xc) ∧ w'.cell? ⟨b, off + ps * 7 + 1, none⟩ = some (.int .u32 xs) ∧ w'.cell? ⟨b, off + ps * 7 + 2, none⟩ = some (.int .u64 xkey) ∧ w'.cell? ⟨b, off + ps * 7 + 3, none⟩ = some (.int .u8 xk) ∧ w'.cell? ⟨b, off + ps * 7 + 4, none⟩ = some (.bool xf) ∧ w'.cell? ⟨b, off + ps * 7 + 5, none⟩ = some (.int .u64 xv) ∧ w'.cell? ⟨b, off + ps * 7 + 6, none⟩ = some (.int .u8 xg) ∧ w'.cell? ⟨w.heap.size, 0, none⟩ = some (.int .u8 qc) ∧ w'.cell? ⟨w.heap.size, 1, none⟩ = some (.int .u32 qs) ∧ w'.cell? ⟨w.heap.size, 2, none⟩ = some (.int .u64 qkey) ∧ w'.cell? ⟨w.heap.size, 3, none⟩ = some (.int .u8 qk) ∧ w'.cell? ⟨w.heap.size, 4, none⟩ = some (.bool qf) ∧ w'.cell? ⟨w.heap.size, 5, none⟩ = some (.int .u64 qv) ∧ w'.cell? ⟨w.heap.size, 6, none⟩ = some (.int .u8 qg)) (first | exact MK.out _ (Below.refl _ _).drew | exact MK.out _ (held_nextJ (by assumption) (by assumption)) | exact MK.out _ (held_drewJ (by assumption))) (first | (go_at_call 139; refine (dup_cmp xc xs xkey xk xf xv xg qc qs qkey qk qf qv qg _).mono ?_; rintro e w1 ⟨rfl, hbel1⟩))
        go_wp2_with fail
        go_ret2
        exact ⟨rfl, later_trans hWl (later_trans hbr (And.left (by assumption)))⟩
      · have hht : ht = false := by rw [HH.out, hitB, ← HP.out, List.getElem?_eq_none (by rw [← HL.out]; omega)]
        subst hht
        have hdn : decide ((ps : Int) < (n : Int)) = false := by simp; omega
        go_wp2_with fail
        go_region
        all_goals (go_wp2; go_ret2; exact ⟨rfl, later_trans hWl (by first | exact hbr | exact hbr.drew)⟩)

end Go.Proofs.Ytignemioillaiaa
