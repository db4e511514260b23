/- Pieces in memory: a slice that holds a map of keys, a list of the call's own. -/
import Derived.Test.YtignemioillaiaaRows
import Derived.Test.YtignemioillaiaaM2
import Derived.Test.YtignemioillaiaaB
import Derived.Test.YtignemioillaiaaF4
import Derived.Deep.QuietTactic
import Derived.BigQuiet
namespace Go.Proofs.Ytignemioillaiaa
open Go.RowKit

abbrev MapIn (w : World) (a : Option Addr) (n c : Nat) (m : List Pc) : Prop := SlIn w.heap.size w ⟨a, n, c⟩ 2 (m.map Pc.cells)

theorem SlIn.atP {B : Nat} {w : World} {s : Sl} {m : List Pc} (h : SlIn B w s 2 (m.map Pc.cells)) {i : Nat} {x : Pc} (hx : m[i]? = some x) :
    ∃ b off, s.a = some ⟨b, off, none⟩ ∧ b < B ∧ w.cell? ⟨b, off + i * 2, none⟩ = some (.int .u64 x.f) ∧ w.cell? ⟨b, off + i * 2 + 1, none⟩ = some (.int .u8 x.g) := by
  have hi := (List.getElem?_eq_some_iff.1 hx).1
  obtain ⟨b, off, ha, hlt, hc⟩ := h.at' (by rw [h.len]; simp; omega)
  have := hc i (Pc.cells x) (by simp [hx])
  exact ⟨b, off, ha, hlt, this 0 _ rfl, this 1 _ rfl⟩

theorem sz_pc : (Try.prog.info? 64).map (·.size) = some 2 := by kernel_rfl
theorem info_pc : (Try.prog.info? 64).map (fun i => (i.zero, i.size, i.bytes)) = some (some (.agg #[.int .u64 0, .int .u8 0]), 2, 16) := by kernel_rfl

theorem pcs_all (m : List Pc) : ∀ y ∈ m.map Pc.cells, y.length = 2 := by
  intro y hy; obtain ⟨r, _, rfl⟩ := List.mem_map.1 hy; rfl
theorem pcs_one (m : List Pc) : ∀ u ∈ (m.map Pc.cells).flatten, u.oneCell' = true := by
  intro u hu
  obtain ⟨l, hl, hu⟩ := List.mem_flatten.1 hu
  obtain ⟨r, _, rfl⟩ := List.mem_map.1 hl
  simp [Pc.cells] at hu; rcases hu with rfl | rfl <;> rfl

/-- The pieces v of the call's own, from block 'base' on, are l. -/
def OwnP (base : Nat) (w : World) (v : Value) (l : List Pc) : Prop := w.ownsRow base 64 2 v l.length (l.map Pc.cells).flatten

theorem OwnP.slin {base : Nat} {w : World} {v : Value} {l : List Pc} (h : OwnP base w v l) : ∃ a n c, v = .slice a n c ∧ MapIn w a n c l ∧ (a = none → c = 0) := by
  unfold OwnP at h
  exact own_slin (by rw [List.length_map]; exact h) (pcs_all l)

theorem OwnP.ne {base : Nat} {w : World} {v : Value} {l : List Pc} (h : OwnP base w v l) : some w.heap.size ≠ v.ownBlock := by
  intro e; have := (World.ownsRow.lt h _ e.symm).2; omega

theorem Grew.belowP {base : Nat} {w w' : World} {v v' : Value} {l : List Pc} (h : Grew w v w' v') (hown : OwnP base w v l) (hb : base ≤ w.heap.size) : Below base w w' :=
  (Below.refl base w).grown h.grown hb (fun k hk => (World.ownsRow.lt hown k hk).1)

theorem ownp_only {base B : Nat} {w w' : World} {v : Value} {l : List Pc} (h : OwnP base w v l) (hO : Only B w w') (hne : some B ≠ v.ownBlock) : OwnP base w' v l :=
  World.ownsRow.kept h ⟨hO.os, hO.tape, hO.output, Nat.le_of_eq hO.size.symm, fun k _ hk => hO.block k (fun e => hk (by rw [e]))⟩ (.inr hne.symm)

theorem ownp_alloc {base : Nat} {w : World} {v : Value} {l : List Pc} (h : OwnP base w v l) (o : Obj) : OwnP base (w.alloc o) v l := World.ownsRow.alloc h o
theorem ownp_nil (w : World) (base : Nat) : OwnP base w (.slice none 0 0) [] := World.ownsRow_nil w base _ _
theorem ownp_eq {base : Nat} {w : World} {v : Value} {l l' : List Pc} (h : OwnP base w v l) (e : l = l') : OwnP base w v l' := e ▸ h
theorem ownp_snoc {base : Nat} {w : World} {v : Value} {l : List Pc} {f g : Int} (h : w.ownsRow base 64 2 v (l.length + 1) ((l.map Pc.cells).flatten ++ [.int .u64 f, .int .u8 g])) : OwnP base w v (l ++ [⟨f, g⟩]) := by
  unfold OwnP
  rw [List.length_append, List.map_append, List.flatten_append]
  exact h
theorem ownp_below {base : Nat} {w w' : World} {v : Value} {l : List Pc} (h : OwnP base w v l) (hb : Below w.heap.size w w') : OwnP base w' v l :=
  World.ownsRow.kept h (row := none) ⟨hb.os, hb.tape, hb.output, hb.size, fun k hk _ => hb.block k hk⟩ (by cases hv : v.ownBlock <;> simp)

theorem pc_news {w : World} {f g : Int} (b : Nat) (hf : w.cell? ⟨b, 0, none⟩ = some (.int .u64 f)) (hg : w.cell? ⟨b, 1, none⟩ = some (.int .u8 g)) : ∀ (j : Nat) (u : Value), [Value.int .u64 f, .int .u8 g][j]? = some u → w.cell? ((⟨b, 0, none⟩ : Addr).add j) = some u := by
  intro j u hj
  match j, hj with
  | 0, hj => simp at hj; subst hj; simpa [Addr.add] using hf
  | 1, hj => simp at hj; subst hj; simpa [Addr.add] using hg
theorem pc_new {W : World} {b : Nat} {f g : Int} {t : TypeId} (hb : b = W.heap.size) : ∀ (j : Nat) (u : Value), [Value.int .u64 f, .int .u8 g][j]? = some u → (W.alloc (.cells #[.int .u64 f, .int .u8 g] t)).cell? ((⟨b, 0, none⟩ : Addr).add j) = some u := by
  subst hb
  exact pc_news _ ((blk_cell (heap_alloc_new W _) 0).trans rfl) ((blk_cell (heap_alloc_new W _) 1).trans rfl)
theorem pc_one1 (f g : Int) : ∀ u ∈ [Value.int .u64 f, .int .u8 g], u.oneCell' = true := by
  intro u hu; simp at hu; rcases hu with rfl | rfl <;> rfl

end Go.Proofs.Ytignemioillaiaa
