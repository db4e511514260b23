/- Held: the calls on a map of the forty keys. -/
import Derived.Test.YtignemioillaiaaH
namespace Go.Proofs.Ytignemioillaiaa
open Go.RowKit

theorem rise_adj (t : List Pc) : ∀ p : Pc, Rise p.f p.g t → ∀ (i : Nat) (x y : Pc), (p :: t)[i + 1]? = some x → (p :: t)[i]? = some y → x.g < 4 ∧ y.f < x.f ∧ x.g ≠ y.g := by
  induction t with
  | nil => intro p _ i x y hx _; simp at hx
  | cons q t ih =>
    intro p h i x y hx hy
    obtain ⟨a1, a2, a3, a4, a5, a6⟩ := h
    cases i with
    | zero =>
      simp at hx hy; subst hx; subst hy
      exact ⟨a5, a1, fun e => a3 e.symm⟩
    | succ i => exact ih q a6 i x y (by simpa using hx) (by simpa using hy)

theorem mapOk_of {m : List Pc} (h : Can m) (hl : m.length ≤ 1000) : mapOk m = true := by
  cases m with
  | nil => exact h.elim
  | cons p t =>
    obtain ⟨a1, a2, a3, a4⟩ := h
    rw [← a1] at a4
    refine mapOk_good (x := p) rfl a1 hl ?_
    rw [List.all_eq_true]
    intro i hi
    have hi := List.mem_range.1 hi
    cases i with
    | zero => exact mapAt_good (x := p) rfl a3 (.inl rfl)
    | succ i =>
      have hx : (p :: t)[i + 1]? = some ((p :: t)[i + 1]) := List.getElem?_eq_getElem hi
      have hy : (p :: t)[i]? = some ((p :: t)[i]'(by omega)) := List.getElem?_eq_getElem _
      obtain ⟨c1, c2, c3⟩ := rise_adj t p a4 i _ _ hx hy
      exact mapAt_good hx c1 (.inr ⟨_, hy, c2, c3⟩)

theorem pack_ok {a : Int} {o : Nat → Int} (ha : 0 ≤ a) (ha2 : a + 39 < 18446744073709551616) (ho : ∀ j, 0 ≤ o j ∧ o j < 4) : mapOk (pack a o) = true := by
  have h2 := pack_len (a := a) (o := o)
  exact mapOk_of (pack_spec ha ha2 ho).1 (by omega)

theorem give_packed (A : Int) (o : Nat → Int) (lo hi : Nat) (g : Int) (hA0 : 0 ≤ A) (hA1 : A + 39 < 18446744073709551616) (ho : ∀ j, 0 ≤ o j ∧ o j < 4) (hlh : lo ≤ hi) (hh : hi ≤ 39) (hg : 0 ≤ g ∧ g < 4) (a : Option Addr) (n c : Nat) (w : World) (h : MapIn w a n c (pack A o)) :
    Calls Try.prog 20 #[.slice a n c, .int .u64 (A + lo), .int .u64 (A + hi), .int .u8 g] w fun e w' => ∃ a' n' c', e = .returned (.tuple #[.slice a' n' c', .int .i64 0]) ∧ OwnP w.heap.size w' (.slice a' n' c') (pack A (fun j => if lo ≤ j ∧ j ≤ hi then g else o j)) ∧ Below w.heap.size w w' := by
  have hl := pack_len (a := A) (o := o)
  have hE := give_pack hA0 hA1 ho hlh hh hg
  have hl2 := pack_len (a := A) (o := fun j => if lo ≤ j ∧ j ≤ hi then g else o j)
  refine (give_yes a n c (pack A o) (A + lo) (A + hi) g w h (pack_ok hA0 hA1 ho) (pack_spec hA0 hA1 ho).1 (by omega) (by omega) (by omega) (by omega)).mono ?_
  rintro e w' ⟨v', rfl, ho', hb⟩
  rw [hE] at ho' ⊢
  have e1 : lateL (pack A (fun j => if lo ≤ j ∧ j ≤ hi then g else o j)) = pack A (fun j => if lo ≤ j ∧ j ≤ hi then g else o j) := by unfold lateL; rw [if_neg (by omega)]
  have e2 : lateE (pack A (fun j => if lo ≤ j ∧ j ≤ hi then g else o j)) = 0 := by unfold lateE; rw [if_neg (by omega)]
  rw [e1] at ho'
  obtain ⟨a', n', c', rfl, _, _⟩ := ho'.slin
  exact ⟨a', n', c', by rw [e2], ho', hb⟩

theorem find_packed (A : Int) (o : Nat → Int) (k : Nat) (hA0 : 0 ≤ A) (hA1 : A + 39 < 18446744073709551616) (ho : ∀ j, 0 ≤ o j ∧ o j < 4) (hk : k ≤ 39) (a : Option Addr) (n c : Nat) (w : World) (h : MapIn w a n c (pack A o)) :
    Calls Try.prog 18 #[.slice a n c, .int .u64 (A + k)] w fun e w' => e = .returned (.tuple #[.int .u8 (o k), .int .i64 0]) ∧ Below w.heap.size w w' := by
  refine (find_yes a n c (pack A o) (A + k) w h (pack_ok hA0 hA1 ho) (pack_spec hA0 hA1 ho).1 (by omega)).mono ?_
  rintro e w' ⟨rfl, hb⟩
  rw [pack_find hA0 hA1 ho hk]
  exact ⟨rfl, hb⟩

theorem find_packed_end (A : Int) (o : Nat → Int) (hA0 : 0 ≤ A) (hA1 : A + 39 < 18446744073709551615) (ho : ∀ j, 0 ≤ o j ∧ o j < 4) (a : Option Addr) (n c : Nat) (w : World) (h : MapIn w a n c (pack A o)) :
    Calls Try.prog 18 #[.slice a n c, .int .u64 (A + 39 + 1)] w fun e w' => e = .returned (.tuple #[.int .u8 0, .int .i64 0]) ∧ Below w.heap.size w w' := by
  rw [show A + 39 + 1 = A + 40 by omega]
  refine (find_yes a n c (pack A o) (A + 40) w h (pack_ok hA0 (by omega) ho) (pack_spec hA0 (by omega) ho).1 (by omega)).mono ?_
  rintro e w' ⟨rfl, hb⟩
  rw [pack_find_end hA0 hA1 ho]
  exact ⟨rfl, hb⟩

theorem own_whole {w : World} {base g n : Nat} {e : TypeId} {xs : List Value} (h : w.ownsRow base e 1 (.slice (some ⟨g, 0, none⟩) n n) n xs) : w.heap[g]? = some (.cells xs.toArray e) := by
  rcases h.2 with ⟨h, _⟩ | ⟨g', cap, cur, hv, hb, hg, hnc, hcm, hcs, ht⟩
  · cases h
  · simp only [Value.slice.injEq, Option.some.injEq, Addr.mk.injEq, and_true] at hv
    obtain ⟨rfl, _, rfl⟩ := hv
    rw [hg]
    have : cur.toList = xs := by rw [← ht, List.take_of_length_le (by simp; omega)]
    rw [← this]

theorem made_owners : (madeCells (Value.int .u8 0).cells (40 * 1)).toList = mkO (fun _ => 0) := by
  have hc : (Value.int .u8 0).cells = #[.int .u8 0] := rfl
  apply List.ext_getElem?
  intro i
  by_cases hi : i < 40
  · simp [madeCells, mkO, hc, hi, Nat.mod_one]
  · simp [madeCells, mkO, hc, hi]

end Go.Proofs.Ytignemioillaiaa
