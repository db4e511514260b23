/- Messages without their addresses: what is right, and the bytes, do not hang on them. -/
import Derived.Test.YtignemioillaiaaF4
import Derived.Test.YtignemioillaiaaB5
namespace Go.Proofs.Ytignemioillaiaa
open Go.RowKit

def Rng.strip (r : Rng) : Rng := { r with rs := ⟨none, r.rows.length, r.rows.length⟩, ds := ⟨none, r.dups.length, r.dups.length⟩ }
def Cmd.strip (c : Cmd) : Cmd := { c with rng := c.rng.strip }
def Vot.strip (v : Vot) : Vot := { v with cmd := v.cmd.strip }
def Msg.strip (m : Msg) : Msg := { m with cmd := m.cmd.strip, rng := m.rng.strip, vs := ⟨Option.none, m.votes.length, m.votes.length⟩, votes := m.votes.map Vot.strip }

def Rng.fit (r : Rng) : Prop := r.rs.len = r.rows.length ∧ r.ds.len = r.dups.length

theorem Rng.no_strip {r : Rng} (h : r.fit) : r.strip.no = r.no := by
  unfold Rng.no Rng.strip; simp only [h.1, h.2]
theorem Rng.ok_strip (r : Rng) : r.strip.ok = r.ok := rfl
theorem Cmd.ok_strip {c : Cmd} (h : c.rng.fit) : c.strip.ok = c.ok := by
  have := Rng.no_strip h
  unfold Cmd.ok Cmd.strip; simp only [this, Rng.ok_strip]
theorem Cmd.bare_strip {c : Cmd} (h : c.rng.fit) : c.strip.bare = c.bare := by
  have := Rng.no_strip h
  unfold Cmd.bare Cmd.strip; simp only [this]
theorem Cmd.bytes_strip (c : Cmd) : c.strip.bytes = c.bytes := rfl
theorem Vot.bytes_strip (v : Vot) : v.strip.bytes = v.bytes := rfl

theorem voteAt_strip {votes : List Vot} (h : ∀ (i : Nat) (x : Vot), votes[i]? = some x → x.cmd.rng.fit) (i : Nat) : voteAt (votes.map Vot.strip) i = voteAt votes i := by
  unfold voteAt
  rw [List.getElem?_map, List.getElem?_map]
  cases hx : votes[i]? with
  | none => rfl
  | some x =>
    have h1 : x.strip.cmd.ok = x.cmd.ok := Cmd.ok_strip (h i x hx)
    simp only [Option.map_some, h1]
    cases hy : votes[i - 1]? with
    | none => rfl
    | some y => rfl
theorem votesOk_strip {votes : List Vot} (h : ∀ (i : Nat) (x : Vot), votes[i]? = some x → x.cmd.rng.fit) : votesOk (votes.map Vot.strip) = votesOk votes := by
  unfold votesOk
  rw [List.length_map]
  congr 1
  exact congrArg (fun f => List.all (List.range votes.length) f) (funext fun i => voteAt_strip h i)
theorem votesBytes_strip (votes : List Vot) : votesBytes (votes.map Vot.strip) = votesBytes votes := by
  unfold votesBytes; rw [List.map_map]; rfl

structure Msg.fit (m : Msg) : Prop where
  cmd : m.cmd.rng.fit
  rng : m.rng.fit
  vs : m.vs.len = m.votes.length
  votes : ∀ (i : Nat) (x : Vot), m.votes[i]? = some x → x.cmd.rng.fit

theorem Msg.ok_strip {m : Msg} (h : m.fit) : m.strip.ok = m.ok := by
  have h1 := Cmd.ok_strip h.cmd
  have h2 := Cmd.bare_strip h.cmd
  have h3 := Rng.no_strip h.rng
  have h4 := votesOk_strip h.votes
  unfold Msg.ok Msg.strip
  simp only [h1, h2, h3, h4, h.vs, Rng.ok_strip]
  rfl
theorem Msg.bytes_strip (m : Msg) : m.strip.bytes = m.bytes := by
  have h1 := votesBytes_strip m.votes
  unfold Msg.bytes Msg.tail Msg.strip
  simp only [h1, List.length_map, Cmd.bytes_strip]
  rfl

/-- A range whose lists are the call's own, from block S on. -/
structure Rng.Own (S : Nat) (w : World) (r : Rng) : Prop where
  rows : w.ownsRow S 82 2 r.rs.val r.rows.length (r.rows.map Row.cells).flatten
  dups : w.ownsRow S 27 7 r.ds.val r.dups.length (r.dups.map Rep.cells).flatten

theorem own_below {w w' : World} {base : Nat} {e : TypeId} {size : Nat} {v : Value} {n : Nat} {xs : List Value} (h : w.ownsRow base e size v n xs) (hb : Below w.heap.size w w') : w'.ownsRow base e size v n xs :=
  World.ownsRow.kept h (row := none) ⟨hb.os, hb.tape, hb.output, hb.size, fun k hk _ => hb.block k hk⟩ (by cases hv : v.ownBlock <;> simp)

theorem own_apart {w : World} {b1 b2 : Nat} {e1 e2 : TypeId} {s1 s2 : Nat} {v1 v2 : Value} {n1 n2 : Nat} {x1 x2 : List Value} (h1 : w.ownsRow b1 e1 s1 v1 n1 x1) (h2 : w.ownsRow b2 e2 s2 v2 n2 x2) (hne : e1 ≠ e2) : v1.ownBlock = none ∨ v1.ownBlock ≠ v2.ownBlock := by
  rcases h1.2 with ⟨rfl, _⟩ | ⟨g, cap, cur, rfl, _, hg, _⟩
  · exact .inl rfl
  · right
    rcases h2.2 with ⟨rfl, _⟩ | ⟨g', cap', cur', rfl, _, hg', _⟩
    · intro e; cases e
    · intro e
      simp only [Value.ownBlock, Option.some.injEq] at e
      subst e
      rw [hg] at hg'
      injection hg' with hg'
      injection hg' with _ h9 _
      exact hne h9

theorem Rng.Own.below {S : Nat} {w w' : World} {r : Rng} (h : r.Own S w) (hb : Below w.heap.size w w') : r.Own S w' := ⟨own_below h.rows hb, own_below h.dups hb⟩
theorem Rng.Own.below' {S : Nat} {w w' : World} {r : Rng} (h : r.Own S w) (hb : Below w.heap.size w w') (_ : S ≤ w.heap.size) : r.Own S w' := h.below hb
theorem Rng.Own.only {S B : Nat} {w w' : World} {r : Rng} (h : r.Own S w) (hO : Only B w w') (hB : B < S) : r.Own S w' := ⟨own_keep h.rows hO hB, own_keep h.dups hO hB⟩
theorem Rng.Own.mono {S S' : Nat} {w : World} {r : Rng} (h : r.Own S w) (hS : S' ≤ S) : r.Own S' w := ⟨own_mono h.rows hS, own_mono h.dups hS⟩
theorem Rng.Own.grew {S : Nat} {w w' : World} {r : Rng} {v v' : Value} {b n size : Nat} {xs : List Value} (h : r.Own S w) (hg : Grew w v w' v') (hv : w.ownsRow b 84 size v n xs) : r.Own S w' :=
  ⟨World.ownsRow.kept h.rows hg.grown (own_apart h.rows hv (by decide)), World.ownsRow.kept h.dups hg.grown (own_apart h.dups hv (by decide))⟩
theorem own_slin' {w : World} {base : Nat} {e : TypeId} {size : Nat} {s : Sl} {xs : List (List Value)} (hown : w.ownsRow base e size s.val xs.length xs.flatten) (hall : ∀ x ∈ xs, x.length = size) : SlIn w.heap.size w s size xs := by
  obtain ⟨a, n, c, e, hin, _⟩ := own_slin hown hall
  cases s
  unfold Sl.val at e
  cases e
  exact hin
theorem Rng.Own.In {S : Nat} {w : World} {r : Rng} (h : r.Own S w) : r.In w.heap.size w :=
  ⟨own_slin' (by rw [List.length_map]; exact h.rows) (rows_all _), own_slin' (by rw [List.length_map]; exact h.dups) (dups_all _)⟩

theorem info_vot : (Try.prog.info? 84).map (fun i => (i.zero, i.size, i.bytes)) = some (some (.agg #[.int .u32 0, .int .u32 0, .int .u8 0, .int .u8 0, .int .u8 0, .int .u32 0, .int .u8 0, .int .u64 0, .int .u64 0, .int .u64 0, .int .u8 0, .int .u8 0, .int .u8 0, .int .u32 0, .int .u64 0, .int .u64 0, .slice none 0 0, .slice none 0 0, .int .u8 0, .int .u32 0]), 20, 152) := by kernel_rfl
theorem vots_all (l : List Vot) : ∀ y ∈ l.map Vot.cells, y.length = 20 := by
  intro y hy; obtain ⟨r, _, rfl⟩ := List.mem_map.1 hy; rfl

/-- What is asked of a range that is to be copied: a nil list has no room, no list is too long. -/
def Rng.room (r : Rng) : Prop := (r.rs.a = none → r.rs.cap = 0) ∧ (r.ds.a = none → r.ds.cap = 0) ∧ r.rs.len * 16 ≤ 140737488355328 ∧ r.ds.len * 40 ≤ 140737488355328

end Go.Proofs.Ytignemioillaiaa
