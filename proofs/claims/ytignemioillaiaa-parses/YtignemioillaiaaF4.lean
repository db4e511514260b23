/- Cells in a row, and lists of equal length. A list of its own: 'append(nil, xs...)'; ownRange. ownRange: a range with lists of its own. ownRange, with what it owns. -/
import Derived.Test.YtignemioillaiaaD4
import Derived.Test.YtignemioillaiaaRows
import Derived.Test.YtignemioillaiaaP
import Derived.WalkLawsBesides
import Derived.Laws.AppendOwnNone
namespace Go.Proofs.Ytignemioillaiaa
open Go.RowKit

theorem flat_cells {size : Nat} : ∀ (xs : List (List Value)) (_ : ∀ x ∈ xs, x.length = size) (j : Nat) (u : Value), xs.flatten[j]? = some u → ∃ i x k, xs[i]? = some x ∧ x[k]? = some u ∧ j = i * size + k
  | [], _, j, u, h => by simp at h
  | x :: xs, hall, j, u, h => by
    have hx : x.length = size := hall x (by simp)
    rw [List.flatten_cons] at h
    by_cases hj : j < x.length
    · rw [List.getElem?_append_left hj] at h
      exact ⟨0, x, j, rfl, h, by omega⟩
    · rw [List.getElem?_append_right (by omega)] at h
      obtain ⟨i, y, k, h1, h2, h3⟩ := flat_cells xs (fun y hy => hall y (by simp [hy])) _ u h
      exact ⟨i + 1, y, k, by simpa using h1, h2, by rw [Nat.add_mul]; omega⟩

theorem flat_at {size : Nat} : ∀ (xs : List (List Value)) (_ : ∀ x ∈ xs, x.length = size) (i : Nat) (x : List Value) (k : Nat) (u : Value), xs[i]? = some x → x[k]? = some u → xs.flatten[i * size + k]? = some u
  | [], _, i, x, k, u, h, _ => by simp at h
  | y :: xs, hall, i, x, k, u, h, hu => by
    have hy : y.length = size := hall y (by simp)
    rw [List.flatten_cons]
    cases i with
    | zero =>
      simp at h; subst h
      have := (List.getElem?_eq_some_iff.1 hu).1
      rw [List.getElem?_append_left (by omega)]
      simpa using hu
    | succ i =>
      rw [List.getElem?_append_right (by rw [Nat.add_mul]; omega)]
      have := flat_at xs (fun z hz => hall z (by simp [hz])) i x k u (by simpa using h) hu
      rw [show (i + 1) * size + k - y.length = i * size + k by rw [Nat.add_mul]; omega]
      exact this

/-- What a slice in memory holds, cell by cell, as an append of it asks. -/
theorem SlIn.news {B : Nat} {w : World} {s : Sl} {size : Nat} {xs : List (List Value)} (h : SlIn B w s size xs) (hall : ∀ x ∈ xs, x.length = size) (ad : Addr) (ha : s.a = some ad) (hpos : 0 < s.len) :
    ∀ (j : Nat) (u : Value), xs.flatten[j]? = some u → w.cell? (ad.add j) = some u := by
  intro j u hu
  obtain ⟨b, off, ha', _, hc⟩ := h.at' hpos
  rw [ha] at ha'
  simp only [Option.some.injEq] at ha'
  subst ha'
  obtain ⟨i, x, k, h1, h2, rfl⟩ := flat_cells xs hall j u hu
  have := hc i x h1 k u h2
  have hadd : (⟨b, off, none⟩ : Addr).add (i * size + k) = ⟨b, off + (i * size + k), none⟩ := by unfold Addr.add; split <;> simp_all
  rw [hadd, ← Nat.add_assoc]; exact this

/-- What the call itself made, as a slice in memory. -/
theorem own_slin {w : World} {base : Nat} {e : TypeId} {size : Nat} {v : Value} {xs : List (List Value)} (hown : w.ownsRow base e size v xs.length xs.flatten) (hall : ∀ x ∈ xs, x.length = size) :
    ∃ a n c, v = .slice a n c ∧ SlIn w.heap.size w ⟨a, n, c⟩ size xs ∧ (a = none → c = 0) := by
  rcases hown.2 with ⟨rfl, hn⟩ | ⟨g, cap, cur, rfl, hb, hgg, hnc, hcm, hcs, htake⟩
  · exact ⟨none, 0, 0, rfl, ⟨hn.symm, Nat.le_refl _, Nat.zero_le _, fun h => absurd h (Nat.lt_irrefl 0)⟩, fun _ => rfl⟩
  · refine ⟨_, _, _, rfl, ⟨rfl, hnc, hcm, fun _ => ⟨g, 0, rfl, (Array.getElem?_eq_some_iff.1 hgg).1, fun i x hx j u hu => ?_⟩⟩, fun h => by cases h⟩
    have := hown.cells (g := g) rfl (i * size + j) u (flat_at xs hall i x j u hx hu)
    have hadd : (⟨g, 0, none⟩ : Addr).add (i * size + j) = ⟨g, 0 + i * size + j, none⟩ := by unfold Addr.add; split <;> simp_all
    rw [hadd] at this; exact this

end Go.Proofs.Ytignemioillaiaa

namespace Go.Proofs.Ytignemioillaiaa
open Go.RowKit

theorem info_row : (Try.prog.info? 82).map (fun i => (i.zero, i.size, i.bytes)) = some (some (.agg #[.int .u64 0, .int .u64 0]), 2, 16) := by kernel_rfl
theorem info_rep : (Try.prog.info? 27).map (fun i => (i.zero, i.size, i.bytes)) = some (some (.agg (List.toArray oxP)), 7, 40) := by kernel_rfl

theorem rows_all (rows : List Row) : ∀ y ∈ rows.map Row.cells, y.length = 2 := by
  intro y hy; obtain ⟨r, _, rfl⟩ := List.mem_map.1 hy; rfl
theorem dups_all (dups : List Rep) : ∀ y ∈ dups.map Rep.cells, y.length = 7 := by
  intro y hy; obtain ⟨r, _, rfl⟩ := List.mem_map.1 hy; rfl
end Go.Proofs.Ytignemioillaiaa

namespace Go.Proofs.Ytignemioillaiaa
open Go.RowKit

theorem own_shape {w : World} {base : Nat} {e : TypeId} {size : Nat} {v : Value} {n : Nat} {xs : List Value} (h : w.ownsRow base e size v n xs) : ∃ a m c, v = .slice a m c := by
  rcases h.2 with ⟨rfl, _⟩ | ⟨g, cap, cur, rfl, _⟩
  · exact ⟨_, _, _, rfl⟩
  · exact ⟨_, _, _, rfl⟩
theorem own_keep {w w' : World} {base B : Nat} {e : TypeId} {size : Nat} {v : Value} {n : Nat} {xs : List Value} (h : w.ownsRow base e size v n xs) (hO : Only B w w') (hB : B < base) : w'.ownsRow base e size v n xs :=
  h.kept ⟨hO.os, hO.tape, hO.output, Nat.le_of_eq hO.size.symm, fun k _ hk => hO.block k (fun e => hk (by rw [e]))⟩ (.inr (by intro e; have := (h.lt B e).1; omega))
theorem own_mono {w : World} {base base' : Nat} {e : TypeId} {size : Nat} {v : Value} {n : Nat} {xs : List Value} (h : w.ownsRow base e size v n xs) (hb : base' ≤ base) : w.ownsRow base' e size v n xs :=
  ⟨h.1, h.2.imp id fun ⟨g, cap, cur, h1, h2, h3⟩ => ⟨g, cap, cur, h1, Nat.le_trans hb h2, h3⟩⟩

end Go.Proofs.Ytignemioillaiaa

namespace Go.Proofs.Ytignemioillaiaa
open Go.RowKit

end Go.Proofs.Ytignemioillaiaa

