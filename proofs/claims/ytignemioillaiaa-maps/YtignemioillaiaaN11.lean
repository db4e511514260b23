/- Find and Give, the program's and the document's: one answer. -/
import Derived.Test.YtignemioillaiaaN9
import Derived.Test.YtignemioillaiaaN10
namespace Go.Proofs.Ytignemioillaiaa
open Go.RowKit

def fG (m : List Pc) (key : Int) : Int := if mapOk m then own 0 m key else 0
def fE (m : List Pc) : Int := if mapOk m then 0 else 3
def gE (m : List Pc) (lo hi g : Int) : Int := if mapOk m then (if hi < lo ∨ 4 ≤ g then 4 else lateE (giveL m lo hi g)) else 3
def gL (m : List Pc) (lo hi g : Int) : List Pc := if mapOk m then (if hi < lo ∨ 4 ≤ g then [] else lateL (giveL m lo hi g)) else []

theorem gL_len {m : List Pc} {lo hi g : Int} : (gL m lo hi g).length ≤ 1000 := by
  unfold gL; split
  · split
    · simp
    · unfold lateL; split
      · simp
      · omega
  · simp

theorem mem_wf {m : List Pc} (h : ∀ (i : Nat) (x : Pc), m[i]? = some x → x.wf) : ∀ q ∈ m, q.wf := by
  intro q hq
  obtain ⟨i, hi, rfl⟩ := List.mem_iff_getElem.1 hq
  exact h i _ (List.getElem?_eq_getElem hi)

theorem find_any (a : Option Addr) (n c : Nat) (m : List Pc) (key : Int) (w : World) (h : MapIn w a n c m) (hwf : ∀ (i : Nat) (x : Pc), m[i]? = some x → x.wf) (hk : 0 ≤ key) :
    Calls Try.prog 18 #[.slice a n c, .int .u64 key] w fun e w' => e = .returned (.tuple #[.int .u8 (fG m key), .int .i64 (fE m)]) ∧ Below w.heap.size w w' := by
  unfold fG fE
  cases hy : mapOk m
  · simpa using find_no a n c m key w h hy
  · simpa using find_yes a n c m key w h hy (can_of (mem_wf hwf) hy).1 hk

theorem ref_find_any (a : Option Addr) (n c : Nat) (m : List Pc) (key : Int) (w : World) (h : MapIn w a n c m) (hwf : ∀ (i : Nat) (x : Pc), m[i]? = some x → x.wf) :
    Calls Try.prog 19 #[.slice a n c, .int .u64 key] w fun e w' => e = .returned (.tuple #[.int .u8 (fG m key), .int .i64 (fE m)]) ∧ Below w.heap.size w w' := by
  refine (ref_find a n c m key w h hwf).mono ?_
  rintro e w' ⟨rfl, hb⟩
  unfold fG fE
  cases hy : mapOk m <;> simp [hb]

theorem give_any (a : Option Addr) (n c : Nat) (m : List Pc) (lo hi g : Int) (w : World) (h : MapIn w a n c m) (hwf : ∀ (i : Nat) (x : Pc), m[i]? = some x → x.wf) (h0 : 0 ≤ hi) (h1 : hi < 18446744073709551616) :
    Calls Try.prog 20 #[.slice a n c, .int .u64 lo, .int .u64 hi, .int .u8 g] w fun e w' => ∃ a' n' c', e = .returned (.tuple #[.slice a' n' c', .int .i64 (gE m lo hi g)]) ∧ OwnP w.heap.size w' (.slice a' n' c') (gL m lo hi g) ∧ Below w.heap.size w w' := by
  unfold gE gL
  cases hy : mapOk m
  · refine (give_no a n c m lo hi g w h hy).mono ?_
    rintro e w' ⟨rfl, hb⟩
    exact ⟨none, 0, 0, by simp, by simpa using ownp_nil _ _, hb⟩
  · obtain ⟨hc, hl⟩ := can_of (mem_wf hwf) hy
    by_cases hbad : hi < lo ∨ 4 ≤ g
    · refine (give_bad a n c m lo hi g w h hy hbad).mono ?_
      rintro e w' ⟨rfl, hb⟩
      exact ⟨none, 0, 0, by simp [hbad], by simpa [hbad] using ownp_nil _ _, hb⟩
    · refine (give_yes a n c m lo hi g w h hy hc hl h0 h1 (by omega)).mono ?_
      rintro e w' ⟨v', rfl, ho, hb⟩
      obtain ⟨a', n', c', rfl, _, _⟩ := ho.slin
      exact ⟨a', n', c', by simp only [if_true, if_neg hbad], by simpa only [if_true, if_neg hbad] using ho, hb⟩

theorem ref_give_any (a : Option Addr) (n c : Nat) (m : List Pc) (lo hi g : Int) (w : World) (h : MapIn w a n c m) (hwf : ∀ (i : Nat) (x : Pc), m[i]? = some x → x.wf) (hl0 : 0 ≤ lo) (h1 : hi < 18446744073709551616) (hg0 : 0 ≤ g) :
    Calls Try.prog 21 #[.slice a n c, .int .u64 lo, .int .u64 hi, .int .u8 g] w fun e w' => ∃ a' n' c', e = .returned (.tuple #[.slice a' n' c', .int .i64 (gE m lo hi g)]) ∧ OwnP w.heap.size w' (.slice a' n' c') (gL m lo hi g) ∧ Below w.heap.size w w' := by
  unfold gE gL
  cases hy : mapOk m
  · refine (ref_give_no a n c m lo hi g w h hwf hy).mono ?_
    rintro e w' ⟨rfl, hb⟩
    exact ⟨none, 0, 0, by simp, by simpa using ownp_nil _ _, hb⟩
  · obtain ⟨hc, hl⟩ := can_of (mem_wf hwf) hy
    by_cases hbad : hi < lo ∨ 4 ≤ g
    · refine (ref_give_bad a n c m lo hi g w h hwf hy hbad).mono ?_
      rintro e w' ⟨rfl, hb⟩
      exact ⟨none, 0, 0, by simp [hbad], by simpa [hbad] using ownp_nil _ _, hb⟩
    · refine (ref_give_yes a n c m lo hi g w h hwf hy hc hl hl0 (by omega) h1 hg0 (by omega)).mono ?_
      rintro e w' ⟨v', rfl, ho, hb⟩
      obtain ⟨a', n', c', rfl, _, _⟩ := ho.slin
      exact ⟨a', n', c', by simp only [if_true, if_neg hbad], by simpa only [if_true, if_neg hbad] using ho, hb⟩

end Go.Proofs.Ytignemioillaiaa
