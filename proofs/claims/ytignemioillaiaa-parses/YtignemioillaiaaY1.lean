/- Small laws that the book and Parse share. -/
import Derived.Test.YtignemioillaiaaB
import Derived.Test.YtignemioillaiaaF4
import Derived.Test.YtignemioillaiaaO1
import Derived.Test.YtignemioillaiaaQ2
import Derived.Test.YtignemioillaiaaQ6
import Derived.Deep.RegionLaw
import Derived.Deep.QuietTactic
import Derived.BigQuiet
namespace Go.Proofs.Ytignemioillaiaa
open Go.RowKit

theorem hideU {p : Prop} (h : p) : Hid p := h
theorem setCell_only (w : World) (B o : Nat) (v : Value) : Only B w (w.setCell ⟨B, o, none⟩ v) :=
  ⟨rfl, rfl, rfl, by simp, fun k hk => heap_setCell_other w _ k v hk⟩
theorem one_cellsU {cs : List Value} (h : cs.all (·.oneCell') = true) : ∀ u ∈ cs, u.oneCell' = true := fun u hu => List.all_eq_true.1 h u hu
theorem step_append_new {P : Program} {ops : Array Oper} {o : Oper} {a : Act} {w : World} {K : Act → World → Prop} {Q : Exit → Act → World → Prop} {E : Prop} (hgd : o.guard = none) (s x : Operand) (t : TypeId)
    (ho : o.op = .call { callee := .builtin .append, args := #[s, x], argTypes := #[t, t] })
    (base : Nat) (e : TypeId) (i : TypeInfo) (z : Value) (size bytes : Nat) (ht : P.underlying t = some (.slice e)) (hi : P.info? e = some i) (hz : i.zero = some z)
    (hsize : i.size = size) (hby : i.bytes = bytes) (hzs : z.cells.size = size) (hsz : 0 < size) (v : Value) (n : Nat) (xs : List Value) (hs : a.eval s = v) (hown : w.ownsRow base e size v n xs)
    (ad : Addr) (m c : Nat) (news : List Value) (hx : a.eval x = .slice (some ad) m c) (hl : news.length = m * size) (hnews : ∀ j u, news[j]? = some u → w.cell? (ad.add j) = some u) (h1 : ∀ u ∈ news, u.oneCell' = true)
    (h63 : n + m ≤ maxLen) (hbytes : (n + m) * bytes ≤ 140737488355328) (hbase : base ≤ w.heap.size)
    (h : ∀ v' w', w'.ownsRow base e size v' (n + m) (xs ++ news) → Grew w v w' v' → K (a.put o.dst v') w') :
    if Region.wanted o (yielded ops a.tmps) = true then Oper.wp P o a w K Q else E := by
  have hw : Region.wanted o (yielded ops a.tmps) = true := by simp [Region.wanted, hgd]
  rw [if_pos hw]
  obtain ⟨v', w', hr, h2, h3⟩ := run_append_new (P := P) w base t o.type e i z size bytes ht hi hz hsize hby hzs hsz v n xs hown ad m c news hl hnews h1 h63 hbytes hbase
  unfold Oper.wp execOp
  simp only [ho, resolve, invoke, builtin, Sem.run_bind, Sem.run_pure, Result.andThen_ok, List.map_toArray, List.map_cons, List.map_nil, hs, hx, hr]
  exact h v' w' h2 h3
def Msg.cells (m : Msg) : List Value := [.int .u8 m.kind] ++ m.req.cells ++ m.rep.cells ++ [.int .u32 m.n, .int .u8 m.id, .int .u32 m.slot] ++ m.cmd.cells ++ [m.vs.val] ++ m.rng.cells ++ [.int .u8 m.peer, .int .u32 m.seq]
structure Msg.In (w : World) (m : Msg) : Prop where
  vs : VotesIn w.heap.size w m.vs m.votes
  cmd : m.cmd.rng.In w.heap.size w
  rng : m.rng.In w.heap.size w

theorem Msg.In.fit {w : World} {m : Msg} (h : m.In w) : m.fit :=
  ⟨⟨by simpa using h.cmd.rows.len, by simpa using h.cmd.dups.len⟩, ⟨by simpa using h.rng.rows.len, by simpa using h.rng.dups.len⟩, by simpa using h.vs.sl.len, fun i x hx => ⟨by simpa using (h.vs.all i x hx).rows.len, by simpa using (h.vs.all i x hx).dups.len⟩⟩

theorem Msg.In.later {w w' : World} {m : Msg} (h : m.In w) (hb : Below w.heap.size w w') : m.In w' :=
  ⟨h.vs.later hb, ⟨h.cmd.rows.later hb, h.cmd.dups.later hb⟩, ⟨h.rng.rows.later hb, h.rng.dups.later hb⟩⟩

theorem noRng_in (w : World) : noRng.In w.heap.size w :=
  ⟨⟨rfl, Nat.le_refl _, Nat.zero_le _, fun h => absurd h (Nat.lt_irrefl 0)⟩, ⟨rfl, Nat.le_refl _, Nat.zero_le _, fun h => absurd h (Nat.lt_irrefl 0)⟩⟩
theorem noVotes_in (w : World) : VotesIn w.heap.size w ⟨none, 0, 0⟩ [] :=
  ⟨⟨rfl, Nat.le_refl _, Nat.zero_le _, fun h => absurd h (Nat.lt_irrefl 0)⟩, by intro i v h; simp at h⟩
end Go.Proofs.Ytignemioillaiaa

