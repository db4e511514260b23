/- The arguments opened: a slice of flat structs, as a list in memory. -/
import Derived.Test.YtignemioillaiaaRows
import Derived.Test.YtignemioillaiaaD4
import Derived.ProofKit
import Derived.Deep.Slices
import Derived.Deep.Strs
namespace Go.Proofs.Ytignemioillaiaa
open Go.ChangeShapes Go.WideShapes Go.ChangeAt Go.RowKit

theorem Try.own : ownKnob Try.prog.godebug = none := by kernel_rfl
theorem Try.laidOut : laidOutB Try.prog = true := by kernel_rfl

theorem spot_add {a : Addr} (h : a.spot = none) (n : Nat) : a.add n = ⟨a.block, a.off + n, none⟩ := by
  unfold Addr.add; split
  · subst n; cases a; simp_all
  · rfl

theorem spot_none {w : World} {a : Addr} {u : Value} (h : w.cell? a = some u) : a.spot = none := by
  unfold World.cell? at h
  split at h
  · split at h
    · cases h
    · rename_i hs; simpa using hs
  · cases h

section
variable {H : Type} {enc : TypeId × Value → H} {P : Program} {w : World}

theorem open_slin {α : Type} [Inhabited α] {t e : TypeId} {size fuel : Nat} {v : Value} {x : DataW H × List MemPlace} (f : α → List Value) (wf : α → Prop) (ht : P.underlying t = some (.slice e)) (hc : P.cellsOf e = size) (hpos : 0 < size)
    (hel : ∀ n cs x, DataW.trod enc P w 0 (fun _ => true) true n e cs = some x → ∃ a, cs = f a ∧ wf a) (h : DataW.trod enc P w 0 (fun _ => true) true fuel t [v] = some x) :
    ∃ (a : Option Addr) (len cap : Nat) (xs : List α), v = .slice a len cap ∧ SlIn w.heap.size w ⟨a, len, cap⟩ size (xs.map f) ∧ (a = none → cap = 0) ∧ ∀ (i : Nat) (x : α), xs[i]? = some x → wf x := by
  rcases Go.Deep.open_slice ht h with ⟨h1, _⟩ | ⟨a, len, cap, m, n, D, Pl, h1, _, hl, hm, hmm, _, hx⟩
  · simp only [List.cons.injEq, and_true] at h1
    subst h1
    exact ⟨none, 0, 0, [], rfl, ⟨rfl, Nat.le_refl _, Nat.zero_le _, fun h => absurd h (Nat.lt_irrefl 0)⟩, fun _ => rfl, by simp⟩
  · simp only [List.cons.injEq, and_true] at h1
    subst h1
    have hmc : m = cap := by simpa using hmm
    subst hmc
    have hex : ∀ i, i < len → ∃ y : α, wf y ∧ w.cells? 0 (a.add (i * size)) size = some (f y) := fun i hi => by
      obtain ⟨cs, h2, h3⟩ := hx i (by omega)
      obtain ⟨y, rfl, hy⟩ := hel _ _ _ h3
      rw [hc] at h2
      exact ⟨y, hy, h2⟩
    obtain ⟨g, hg⟩ := Go.Deep.choose_lt hex
    refine ⟨some a, len, m, (List.range len).map g, rfl, ⟨by simp, hl, hm, fun h0 => ?_⟩, (by intro h; cases h), fun i x hi => ?_⟩
    · have hlen0 : 0 < len := h0
      have hsp : a.spot = none := by
        obtain ⟨_, h5, h6⟩ := World.cells?_some (hg 0 hlen0).2
        have h7 := h6 0 hpos
        have h8 : a.add (0 * size) = a := by unfold Addr.add; simp
        have h9 : a.add 0 = a := by unfold Addr.add; simp
        rw [h8, h9] at h7
        have : ∃ u, (f (g 0))[0]? = some u := ⟨(f (g 0))[0]'(by omega), by simp⟩
        obtain ⟨u, hu⟩ := this
        rw [hu] at h7
        exact spot_none h7
      refine ⟨a.block, a.off, by cases a; simp only at hsp; rw [hsp], ?_, fun i y hy j u hu => ?_⟩
      · have := World.cells?_block (hg 0 hlen0).2 hpos
        have h8 : a.add (0 * size) = a := by unfold Addr.add; simp
        rw [h8] at this; exact this
      · simp only [List.map_map] at hy
        obtain ⟨hi, he⟩ := List.getElem?_eq_some_iff.1 hy
        have hi' : i < len := by simpa using hi
        simp at he
        subst he
        obtain ⟨_, h5, h6⟩ := World.cells?_some (hg i hi').2
        have hj := (List.getElem?_eq_some_iff.1 hu).1
        have h7 := h6 j (by omega)
        rw [hu, spot_add hsp] at h7
        unfold Addr.add at h7
        split at h7
        · subst j; exact h7
        · exact h7
    · obtain ⟨hi', he⟩ := List.getElem?_eq_some_iff.1 hi
      have hl' : i < len := by simpa using hi'
      simp at he
      subst he
      exact (hg i hl').1

end

theorem wf_u64 {n : Int} (h : (Lit.int .u64 n).wf = true) : 0 ≤ n ∧ n < 18446744073709551616 := by
  have h' : IntKind.min .u64 ≤ n ∧ n ≤ IntKind.max .u64 := by simpa [Lit.wf] using h
  have e1 : IntKind.min .u64 = 0 := by decide
  have e2 : IntKind.max .u64 = 18446744073709551615 := by decide
  omega
theorem wf_u8 {n : Int} (h : (Lit.int .u8 n).wf = true) : 0 ≤ n ∧ n < 256 := by
  have h' : IntKind.min .u8 ≤ n ∧ n ≤ IntKind.max .u8 := by simpa [Lit.wf] using h
  have e1 : IntKind.min .u8 = 0 := by decide
  have e2 : IntKind.max .u8 = 255 := by decide
  omega
theorem wf_u32 {n : Int} (h : (Lit.int .u32 n).wf = true) : 0 ≤ n ∧ n < 4294967296 := by
  have h' : IntKind.min .u32 ≤ n ∧ n ≤ IntKind.max .u32 := by simpa [Lit.wf] using h
  have e1 : IntKind.min .u32 = 0 := by decide
  have e2 : IntKind.max .u32 = 4294967295 := by decide
  omega

theorem Try.cells23 : Try.prog.cellsOf 23 = 1 := by kernel_rfl
theorem Try.cells5 : Try.prog.cellsOf 5 = 1 := by kernel_rfl

theorem shut_true {H : Type} {enc : TypeId × Value → H} {W : World} {base : Nat} {sp : Nat → Bool} {held : Bool} (b : Bool) : DataW.Trod enc Try.prog W base sp held 4 (.bool b) (.lit (.bool b)) [] := ⟨1, by simp [DataW.trod, Value.cells, Try.underlying4]⟩

end Go.Proofs.Ytignemioillaiaa
