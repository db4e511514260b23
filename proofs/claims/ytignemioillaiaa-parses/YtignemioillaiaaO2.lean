/- ownMessage: a message with lists of its own. -/
import Derived.Test.YtignemioillaiaaD4
import Derived.Test.YtignemioillaiaaO1
import Derived.Deep.CutRange
namespace Go.Proofs.Ytignemioillaiaa
open Go.RowKit

theorem hide' {p : Prop} (h : p) : Hid p := h

theorem vot_one (xslot xn xid : Int) (xckind : Int) (xcqc xcqs xcqk xcqkey xcqv xcqhi xcqto : Int) (jH jI jJ jK jL : Int) (jM : Option Addr) (jN jO : Nat) (jP : Option Addr) (jQ jR : Nat) (xcpeer xcsq : Int) : ∀ u ∈ ((rV xslot xn xid xckind xcqc xcqs xcqk xcqkey xcqv xcqhi xcqto jH jI jJ jK jL jM jN jO jP jQ jR xcpeer xcsq) : List Value), u.oneCell' = true := by
  intro u hu
  simp only [List.mem_cons, List.not_mem_nil, or_false] at hu
  rcases hu with rfl | rfl | rfl | rfl | rfl | rfl | rfl | rfl | rfl | rfl | rfl | rfl | rfl | rfl | rfl | rfl | rfl | rfl | rfl | rfl <;> rfl

theorem own_votes {S : Nat} {w : World} {vs : List Vot} {x : Vot} (h : ∀ (i : Nat) (y : Vot), vs[i]? = some y → y.cmd.rng.Own S w) (hx : x.cmd.rng.Own S w) : ∀ (i : Nat) (y : Vot), (vs ++ [x])[i]? = some y → y.cmd.rng.Own S w := by
  intro i y hy
  by_cases hi : i < vs.length
  · rw [List.getElem?_append_left hi] at hy; exact h i y hy
  · rw [List.getElem?_append_right (by omega)] at hy
    have := (List.getElem?_eq_some_iff.1 hy).1
    simp at this
    have h0 : i - vs.length = 0 := by omega
    rw [h0] at hy; simp at hy; subst hy; exact hx

end Go.Proofs.Ytignemioillaiaa

