/- The forty keys' numbers. -/
import Derived.Test.YtignemioillaiaaN6
namespace Go.Proofs.Ytignemioillaiaa
open Go.RowKit

/-- Where the forty keys begin. -/
def atB (base : Int) : Int := if base % 3 = 0 then 0 else if base % 3 = 1 then 18446744073709551576 else base / 2

theorem atB_range {base : Int} (h0 : 0 ≤ base) (h1 : base < 18446744073709551616) : 0 ≤ atB base ∧ atB base + 39 < 18446744073709551616 := by
  unfold atB; split
  · omega
  · split <;> omega

set_option maxHeartbeats 400000 in
set_option maxRecDepth 100000 in
theorem at_any (base k : Int) (w : World) (h0 : 0 ≤ base) (h1 : base < 18446744073709551616) (k0 : 0 ≤ k) (k1 : k < 40) :
    Calls Try.prog 29 #[.int .u64 base, .int .u64 k] w fun e w' => e = .returned (.int .u64 (atB base + k)) ∧ w' = w := by
  by_cases hz : base % 3 = 0
  · have e : atB base + k = k := by unfold atB; rw [if_pos hz]; omega
    rw [e]
    go_enter Try.func29, Try.ntmps29
    go_wp2
    go_ret
    exact ⟨rfl, rfl⟩
  · by_cases ho : base % 3 = 1
    · have e : atB base + k = 18446744073709551576 + k := by unfold atB; rw [if_neg hz, if_pos ho]
      rw [e]
      go_enter Try.func29, Try.ntmps29
      go_wp2
      go_ret
      exact ⟨rfl, rfl⟩
    · have e : atB base + k = base / 2 + k := by unfold atB; rw [if_neg hz, if_neg ho]
      rw [e]
      go_enter Try.func29, Try.ntmps29
      go_wp2
      go_ret
      exact ⟨rfl, rfl⟩

/-- A gift in raw numbers, as its cells hold it. -/
structure Gf where
  (lo hi g : Int)
def Gf.cells (x : Gf) : List Value := [.int .u64 x.lo, .int .u64 x.hi, .int .u8 x.g]
def Gf.wf (x : Gf) : Prop := 0 ≤ x.lo ∧ x.lo < 18446744073709551616 ∧ 0 ≤ x.hi ∧ x.hi < 18446744073709551616 ∧ 0 ≤ x.g ∧ x.g < 256

theorem SlIn.atG {B : Nat} {w : World} {s : Sl} {m : List Gf} (h : SlIn B w s 3 (m.map Gf.cells)) {i : Nat} {x : Gf} (hx : m[i]? = some x) :
    ∃ b off, s.a = some ⟨b, off, none⟩ ∧ b < B ∧ w.cell? ⟨b, off + i * 3, none⟩ = some (.int .u64 x.lo) ∧ w.cell? ⟨b, off + i * 3 + 1, none⟩ = some (.int .u64 x.hi) ∧ w.cell? ⟨b, off + i * 3 + 2, none⟩ = some (.int .u8 x.g) := by
  have hi := (List.getElem?_eq_some_iff.1 hx).1
  obtain ⟨b, off, ha, hlt, hc⟩ := h.at' (by rw [h.len]; simp; omega)
  have := hc i (Gf.cells x) (by simp [hx])
  exact ⟨b, off, ha, hlt, this 0 _ rfl, this 1 _ rfl, this 2 _ rfl⟩

/-- The owners' cells. -/
def mkO (o : Nat → Int) : List Value := (List.range 40).map fun j => .int .u8 (o j)

theorem mkO_len (o : Nat → Int) : (mkO o).length = 40 := by simp [mkO]
theorem mkO_at {o : Nat → Int} {j : Nat} (hj : j < 40) : (mkO o).toArray[j]? = some (.int .u8 (o j)) := by simp [mkO, hj]
theorem mkO_set {o : Nat → Int} {j : Nat} {g : Int} (hj : j < 40) : (mkO o).take j ++ [.int .u8 g] ++ (mkO o).drop (j + 1) = mkO (fun i => if i = j then g else o i) := by
  apply List.ext_getElem?
  intro i
  rcases Nat.lt_trichotomy i j with h | h | h
  · rw [List.append_assoc, List.getElem?_append_left (by simp [mkO]; omega)]
    simp [mkO, h, show i < 40 by omega, show ¬ i = j by omega]
  · subst h
    rw [List.append_assoc, List.getElem?_append_right (by simp [mkO]; omega)]
    simp [mkO, hj, show min i 40 = i by omega]
  · rw [List.getElem?_append_right (by simp [mkO]; omega)]
    by_cases h4 : i < 40
    · simp [mkO, List.getElem?_drop, h4, show ¬ i = j by omega, show min j 40 = j by omega]
      rw [List.getElem?_range (by omega)]
      simp [show j + 1 + (i - (j + 1)) = i by omega]
    · simp [mkO, List.getElem?_drop, h4, show min j 40 = j by omega]; omega

end Go.Proofs.Ytignemioillaiaa
