/- slices.BinarySearchFunc over rows, by their keys. -/
import Derived.Test.YtignemioillaiaaJ1
namespace Go.Proofs.Ytignemioillaiaa
open Go.RowKit Go.Lib

/-- How many elements of a list stand ahead of what is looked for. -/
def posB {α : Type} (f : α → Int) (l : List α) : Nat := l.countP (fun x => decide (f x < 0))
def hitB {α : Type} (f : α → Int) (l : List α) : Bool := match l[posB f l]? with | some x => f x == 0 | none => false

theorem mid_eq (lo hi mid : Nat) (h : mid = (lo + hi) / 2) (hb : lo + hi < 18446744073709551616) : wrap64 (IntKind.u64.wrap (wrap64 ((lo : Int) + (hi : Int))) / 2) = (mid : Int) := by
  have e : ∀ x : Int, IntKind.u64.wrap x = x % 18446744073709551616 := fun x => rfl
  simp only [wrap64, e]
  omega

theorem posB_eq {α : Type} (f : α → Int) : ∀ (l : List α) (i : Nat), i ≤ l.length → (∀ (t : Nat) (x : α), t < i → l[t]? = some x → f x < 0) → (∀ (t : Nat) (x : α), i ≤ t → l[t]? = some x → 0 ≤ f x) → posB f l = i
  | [], i, hi, _, _ => by simp at hi; simp [posB, hi]
  | a :: r, 0, _, _, h2 => by
    unfold posB
    rw [List.countP_eq_zero]
    intro x hx
    obtain ⟨t, ht, rfl⟩ := List.getElem_of_mem hx
    have := h2 t _ (Nat.zero_le _) (List.getElem?_eq_getElem ht)
    simp; omega
  | a :: r, i + 1, hi, h1, h2 => by
    have ha : f a < 0 := h1 0 a (Nat.succ_pos _) rfl
    have := posB_eq f r i (by simpa using hi) (fun t x ht hx => h1 (t + 1) x (by omega) (by simpa using hx)) (fun t x h3 h4 => h2 (t + 1) x (by omega) (by simpa using h4))
    unfold posB at this ⊢
    rw [List.countP_cons_of_pos (by simp [ha]), this]

set_option maxHeartbeats 4000000 in
set_option maxRecDepth 100000 in
theorem bsf_row (a : Option Addr) (n c : Nat) (T : List Row) (key : Int) (w : World) (h : SlIn w.heap.size w ⟨a, n, c⟩ 2 (T.map Row.cells))
    (hmono : ∀ (i j : Nat) (x y : Row), i ≤ j → T[i]? = some x → T[j]? = some y → cmpI y.key key < 0 → cmpI x.key key < 0) :
    Calls Try.prog 162 #[.slice a n c, .int .u64 key, .func (.func 163) #[] #[]] w fun e w' => e = .returned (.tuple #[.int .i64 (posB (fun x => cmpI x.key key) T : Nat), .bool (hitB (fun x => cmpI x.key key) T)]) ∧ Below w.heap.size w w' := by
  have hl : n = T.length := by simpa using h.len
  have hlm : n ≤ maxLen := Nat.le_trans h.le h.max
  unfold maxLen at hlm
  have HL : Hid (n = T.length) := hl
  have HM : Hid (∀ (i j : Nat) (x y : Row), i ≤ j → T[i]? = some x → T[j]? = some y → cmpI y.key key < 0 → cmpI x.key key < 0) := hmono
  have HS : Hid (SlIn w.heap.size w ⟨a, n, c⟩ 2 (T.map Row.cells)) := h
  obtain ⟨ps, hps⟩ : ∃ ps, ps = posB (fun x => cmpI x.key key) T := ⟨_, rfl⟩
  obtain ⟨ht, hht⟩ : ∃ ht, ht = hitB (fun x => cmpI x.key key) T := ⟨_, rfl⟩
  rw [← hps, ← hht]
  have HP : Hid (ps = posB (fun x => cmpI x.key key) T) := hps
  have HH : Hid (ht = hitB (fun x => cmpI x.key key) T) := hht
  clear hl hmono h hps hht
  go_enter Try.func162, Try.ntmps162
  go_wp2_with fail
  go_loopw [9, 10] (fun s9 s10 wr => ∃ lo hi : Nat, s9 = .int .i64 lo ∧ s10 = .int .i64 hi ∧ lo ≤ hi ∧ hi ≤ n ∧ Below w.heap.size w wr ∧ Hid ((∀ (t : Nat) (x : Row), t < lo → T[t]? = some x → cmpI x.key key < 0) ∧ (∀ (t : Nat) (x : Row), hi ≤ t → T[t]? = some x → 0 ≤ cmpI x.key key))) (fun s9 s10 _ => (intOf s10).toNat - (intOf s9).toNat)
  case atStart => exact ⟨0, n, rfl, rfl, Nat.zero_le _, Nat.le_refl _, Below.refl _ _, (⟨fun t x ht => absurd ht (Nat.not_lt_zero _), fun t x h1 h2 => by have := (List.getElem?_eq_some_iff.1 h2).1; have := HL.out; omega⟩ : _ ∧ _)⟩
  case round =>
    obtain ⟨lo, hi, rfl, rfl, hlh, hin, hbr, HI⟩ := hrel
    by_cases hlt : lo < hi
    · obtain ⟨mid, hmid⟩ : ∃ mid : Nat, mid = (lo + hi) / 2 := ⟨_, rfl⟩
      have hm1 : lo ≤ mid := by omega
      have hm2 : mid < hi := by omega
      obtain ⟨x, hx⟩ : ∃ x, T[mid]? = some x := ⟨T[mid]'(by rw [← HL.out]; omega), by simp⟩
      obtain ⟨b, off, ha, hbB, hc0, hc1⟩ := (HS.out.later hbr).at2 hx
      dsimp only at ha
      subst ha
      have HX : Hid (T[mid]? = some x) := hx
      clear hx
      obtain ⟨xkey, xval⟩ := x
      dsimp only at hc0 hc1
      have hdl : decide ((lo : Int) < (hi : Int)) = true := by simp; omega
      have hme : wrap64 (IntKind.u64.wrap (wrap64 ((lo : Int) + (hi : Int))) / 2) = (mid : Int) := mid_eq lo hi mid hmid (by omega)
      clear hmid
      by_cases hy : cmpI xkey key < 0
      · have hdy : decide (cmpI xkey key < 0) = true := by simp [hy]
        go_wp2_with (go_at_call 163; go_must (refine (row_cmp _ _ _ _).mono ?_; rintro e w1 ⟨rfl, hb1⟩))
        go_roundw
        case rel => exact ⟨mid + 1, hi, by go_num, rfl, by omega, hin, later_trans hbr hb1, (⟨fun t x ht hx => HM.out t mid x _ (by omega) hx HX.out hy, HI.out.2⟩ : _ ∧ _)⟩
        case measure => simp [intOf]; omega
      · have hdy : decide (cmpI xkey key < 0) = false := by simp [hy]
        go_wp2_with (go_at_call 163; go_must (refine (row_cmp _ _ _ _).mono ?_; rintro e w1 ⟨rfl, hb1⟩))
        go_roundw
        case rel => exact ⟨lo, mid, rfl, by go_num, by omega, by omega, later_trans hbr hb1, (⟨HI.out.1, fun t x ht hx => Int.not_lt.1 fun hlt2 => absurd (HM.out mid t _ x (by omega) HX.out hx hlt2) (by simpa using hy)⟩ : _ ∧ _)⟩
        case measure => simp [intOf]; omega
    · obtain rfl : hi = lo := by omega
      have hps := posB_eq (fun x : Row => cmpI x.key key) T hi (by rw [← HL.out]; omega) HI.out.1 HI.out.2
      obtain rfl : ps = hi := HP.out.trans hps
      clear hps
      by_cases hn : ps < n
      · obtain ⟨x, hx⟩ : ∃ x, T[ps]? = some x := ⟨T[ps]'(by rw [← HL.out]; omega), by simp⟩
        obtain ⟨b, off, ha, hbB, hc0, hc1⟩ := (HS.out.later hbr).at2 hx
        dsimp only at ha
        subst ha
        have hht : ht = (cmpI x.key key == 0) := by rw [HH.out, hitB, ← HP.out, hx]
        clear hx
        obtain ⟨xkey, xval⟩ := x
        dsimp only at hc0 hc1 hht
        subst hht
        have hdn : decide ((ps : Int) < (n : Int)) = true := by simp; omega
        go_wp2_with (go_at_call 163; go_must (refine (row_cmp _ _ _ _).mono ?_; rintro e w1 ⟨rfl, hb1⟩))
        go_ret2
        exact ⟨rfl, later_trans hbr hb1⟩
      · have hht : ht = false := by rw [HH.out, hitB, ← HP.out, List.getElem?_eq_none (by rw [← HL.out]; omega)]
        subst hht
        have hdn : decide ((ps : Int) < (n : Int)) = false := by simp; omega
        go_wp2_with fail
        go_ret2
        exact ⟨rfl, hbr⟩

end Go.Proofs.Ytignemioillaiaa
