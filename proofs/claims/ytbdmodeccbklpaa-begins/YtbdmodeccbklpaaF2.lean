/- A list of its own: 'append(nil, xs...)'; ownRange. -/
import Derived.Test.YtbdmodeccbklpaaRows
import Derived.Test.YtbdmodeccbklpaaF
import Derived.Test.YtbdmodeccbklpaaP
import Derived.WalkLawsBesides
import Derived.Laws.AppendOwnNone
namespace Go.Proofs.Ytbdmodeccbklpaa
open Go.RowKit

theorem wpList_own_copy {P : Program} {w : World} {ops : Array Oper} {rest : List Oper} {o : Oper} {a : Act} {Q : Exit → Act → World → Prop} (hgd : o.guard = none) (s x : Operand) (t : TypeId)
    (ho : o.op = .call { callee := .builtin .append, args := #[s, x], argTypes := #[t, t] }) (e : TypeId) (i : TypeInfo) (z : Value) (size bytes : Nat) (ht : P.underlying t = some (.slice e)) (hi : P.info? e = some i) (hz : i.zero = some z)
    (hsize : i.size = size) (hby : i.bytes = bytes) (hzs : z.cells.size = size) (hsz : 0 < size) (hs : a.eval s = .slice none 0 0) (B : Nat) (sa : Option Addr) (n c : Nat) (hx : a.eval x = .slice sa n c) (xs : List (List Value))
    (hin : SlIn B w ⟨sa, n, c⟩ size xs) (hnil : sa = none → c = 0) (hall : ∀ y ∈ xs, y.length = size) (h1 : ∀ u ∈ xs.flatten, u.oneCell' = true) (hbytes : n * bytes ≤ 140737488355328)
    (h : ∀ v' w', w'.ownsRow w.heap.size e size v' xs.length xs.flatten → w.grownBy w' none → wpList P ops Q rest (a.put o.dst v') w') : wpList P ops Q (o :: rest) a w := by
  have hlen : n = xs.length := hin.len
  have hfl := flat_len xs hall
  cases sa with
  | none =>
    have hc : c = 0 := hnil rfl
    have hle : n ≤ c := hin.le
    have hn0 : n = 0 := by omega
    subst hc; subst hn0
    have hxs : xs = [] := List.eq_nil_of_length_eq_zero hlen.symm
    subst hxs
    exact wpList_append_own_none hgd s x t ho w.heap.size e i size ht hi _ 0 [] hs (World.ownsRow_nil w w.heap.size e size) hx (h _ _ (World.ownsRow_nil w w.heap.size e size) ⟨rfl, rfl, rfl, Nat.le_refl _, fun _ _ _ => rfl⟩)
  | some ad =>
    have hmax : n ≤ maxLen := Nat.le_trans hin.le hin.max
    refine wpList_append_own w hgd s x t ho w.heap.size e i z size bytes ht hi hz hsize hby hzs hsz _ 0 [] hs (World.ownsRow_nil w w.heap.size e size) ad n c xs.flatten hx (by rw [hfl, hlen]) ?_ h1 (by omega) (by rw [Nat.zero_add]; exact hbytes) (Nat.le_refl _) ?_
    · intro j u hu
      have hj := (List.getElem?_eq_some_iff.1 hu).1
      refine hin.news hall ad rfl ?_ j u hu
      rw [hfl] at hj
      show 0 < n
      rcases Nat.eq_zero_or_pos n with h0 | h0
      · rw [← hlen, h0] at hj; omega
      · exact h0
    · intro v' w' ho' hg' _
      rw [Nat.zero_add, List.nil_append, hlen] at ho'
      exact h v' w' ho' hg'

theorem info_row : (Try.prog.info? 82).map (fun i => (i.zero, i.size, i.bytes)) = some (some (.agg #[.int .u64 0, .int .u64 0]), 2, 16) := by kernel_rfl
theorem info_rep : (Try.prog.info? 27).map (fun i => (i.zero, i.size, i.bytes)) = some (some (.agg #[.int .u8 0, .int .u32 0, .int .u64 0, .int .u8 0, .bool false, .int .u64 0, .int .u8 0]), 7, 40) := by kernel_rfl

theorem rows_all (rows : List Row) : ∀ y ∈ rows.map Row.cells, y.length = 2 := by
  intro y hy; obtain ⟨r, _, rfl⟩ := List.mem_map.1 hy; rfl
theorem dups_all (dups : List Rep) : ∀ y ∈ dups.map Rep.cells, y.length = 7 := by
  intro y hy; obtain ⟨r, _, rfl⟩ := List.mem_map.1 hy; rfl
theorem rows_one (rows : List Row) : ∀ u ∈ (rows.map Row.cells).flatten, u.oneCell' = true := by
  intro u hu
  obtain ⟨l, hl, hu⟩ := List.mem_flatten.1 hu
  obtain ⟨r, _, rfl⟩ := List.mem_map.1 hl
  simp [Row.cells] at hu; rcases hu with rfl | rfl <;> rfl
theorem dups_one (dups : List Rep) : ∀ u ∈ (dups.map Rep.cells).flatten, u.oneCell' = true := by
  intro u hu
  obtain ⟨l, hl, hu⟩ := List.mem_flatten.1 hu
  obtain ⟨r, _, rfl⟩ := List.mem_map.1 hl
  simp [Rep.cells] at hu; rcases hu with rfl | rfl | rfl | rfl | rfl | rfl | rfl <;> rfl

end Go.Proofs.Ytbdmodeccbklpaa
