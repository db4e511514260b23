/- The plain data of the program's messages, when they are right, and their bytes: no program text here. -/
import Derived.WalkKit
import Derived.WalkSpells
namespace Go.Proofs.Ytbdmodeccbklpaa
open Go.RowKit

structure Sl where
  a : Option Addr
  len : Nat
  cap : Nat

structure Req where
  (c s k key v hi to : Int)

structure Rep where
  (c s key k : Int)
  found : Bool
  (v g : Int)

structure Row where
  (key val : Int)

structure Rng where
  (src dst seq lo hi : Int)
  (rs ds : Sl)
  rows : List Row
  dups : List Rep

structure Cmd where
  kind : Int
  req : Req
  rng : Rng
  (peer seq : Int)

structure Vot where
  (slot n id : Int)
  cmd : Cmd

structure Msg where
  kind : Int
  req : Req
  rep : Rep
  (n id slot : Int)
  cmd : Cmd
  vs : Sl
  rng : Rng
  (peer seq : Int)
  votes : List Vot

def Req.ok (q : Req) : Bool :=
  decide (q.c < 4) && decide (1 ≤ q.s) &&
    (((q.k == 1 || q.k == 3) && q.v == 0 && q.hi == 0 && q.to == 0) || (q.k == 2 && q.hi == 0 && q.to == 0) ||
      (q.k == 4 && q.v == 0 && decide (q.key ≤ q.hi) && decide (q.to < 4)))

def Rep.ok (p : Rep) : Bool :=
  decide (p.c < 4) && decide (1 ≤ p.s) &&
    ((p.k == 1 && (p.found || p.v == 0) && p.g == 0) || (p.k == 3 && decide (p.g < 4) && !p.found && p.v == 0) ||
      ((p.k == 2 || p.k == 4 || p.k == 5) && !p.found && p.v == 0 && p.g == 0))

def rowAt (lo hi : Int) (rows : List Row) (i : Nat) : Bool :=
  match rows[i]? with
  | none => true
  | some x => decide (lo ≤ x.key) && decide (x.key ≤ hi) && (i == 0 || match rows[i - 1]? with
    | none => true
    | some y => decide (y.key < x.key))

def ahead (a b : Rep) : Bool := decide (a.key < b.key) || a.key == b.key && decide (a.c < b.c)

def kept (k : Int) : Bool := k == 1 || k == 2 || k == 5

def dupAt (lo hi : Int) (dups : List Rep) (i : Nat) : Bool :=
  match dups[i]? with
  | none => true
  | some x => x.ok && kept x.k && decide (lo ≤ x.key) && decide (x.key ≤ hi) && (i == 0 || match dups[i - 1]? with
    | none => true
    | some y => ahead y x)

def rowsOk (lo hi : Int) (rows : List Row) : Bool := decide (rows.length ≤ 255) && (List.range rows.length).all (rowAt lo hi rows)
def dupsOk (lo hi : Int) (dups : List Rep) : Bool := decide (dups.length ≤ 255) && (List.range dups.length).all (dupAt lo hi dups)

def Rng.ok (r : Rng) : Bool := decide (r.src < 4) && decide (r.dst < 4) && decide (1 ≤ r.seq) && decide (r.lo ≤ r.hi) && rowsOk r.lo r.hi r.rows && dupsOk r.lo r.hi r.dups

def Rng.no (r : Rng) : Bool := r.src == 0 && r.dst == 0 && r.seq == 0 && r.lo == 0 && r.hi == 0 && r.rs.len == 0 && r.ds.len == 0

def Req.no (q : Req) : Bool := q.c == 0 && q.s == 0 && q.k == 0 && q.key == 0 && q.v == 0 && q.hi == 0 && q.to == 0
def Rep.no (p : Rep) : Bool := p.c == 0 && p.s == 0 && p.key == 0 && p.k == 0 && !p.found && p.v == 0 && p.g == 0

def Cmd.bare (c : Cmd) : Bool := c.req.no && c.rng.no && c.peer == 0 && c.seq == 0

def Cmd.ok (c : Cmd) : Bool :=
  (c.kind == 0 && c.req.no && c.rng.no && c.peer == 0 && c.seq == 0) || (c.kind == 1 && c.req.ok && c.rng.no && c.peer == 0 && c.seq == 0) ||
    (c.kind == 2 && c.req.no && c.rng.ok && c.peer == 0 && c.seq == 0) || (c.kind == 3 && c.req.no && c.rng.no && decide (c.peer < 4))

/-- The slice s holds, element by element ('size' cells each), what the lists of cells say, in blocks below B. -/
structure SlIn (B : Nat) (w : World) (s : Sl) (size : Nat) (xs : List (List Value)) : Prop where
  len : s.len = xs.length
  le : s.len ≤ s.cap
  max : s.cap ≤ maxLen
  at' : 0 < s.len → ∃ b off, s.a = some ⟨b, off, none⟩ ∧ b < B ∧ ∀ i x, xs[i]? = some x → ∀ j u, x[j]? = some u → w.cell? ⟨b, off + i * size + j, none⟩ = some u

def Req.cells (q : Req) : List Value := [.int .u8 q.c, .int .u32 q.s, .int .u8 q.k, .int .u64 q.key, .int .u64 q.v, .int .u64 q.hi, .int .u8 q.to]
def Rep.cells (p : Rep) : List Value := [.int .u8 p.c, .int .u32 p.s, .int .u64 p.key, .int .u8 p.k, .bool p.found, .int .u64 p.v, .int .u8 p.g]
def Row.cells (x : Row) : List Value := [.int .u64 x.key, .int .u64 x.val]
def Sl.val (s : Sl) : Value := .slice s.a s.len s.cap
def Rng.cells (r : Rng) : List Value := [.int .u8 r.src, .int .u8 r.dst, .int .u32 r.seq, .int .u64 r.lo, .int .u64 r.hi, r.rs.val, r.ds.val]
def Cmd.cells (c : Cmd) : List Value := [.int .u8 c.kind] ++ c.req.cells ++ c.rng.cells ++ [.int .u8 c.peer, .int .u32 c.seq]
def Vot.cells (v : Vot) : List Value := [.int .u32 v.slot, .int .u32 v.n, .int .u8 v.id] ++ v.cmd.cells

structure Rng.In (B : Nat) (w : World) (r : Rng) : Prop where
  rows : SlIn B w r.rs 2 (r.rows.map Row.cells)
  dups : SlIn B w r.ds 7 (r.dups.map Rep.cells)

theorem SlIn.below {B B' : Nat} {w w' : World} {s : Sl} {size : Nat} {xs : List (List Value)} (h : SlIn B w s size xs) (hb : Below B' w w') (hB : B ≤ B') : SlIn B w' s size xs :=
  ⟨h.len, h.le, h.max, fun h0 => by
    obtain ⟨b, off, ha, hlt, hc⟩ := h.at' h0
    exact ⟨b, off, ha, hlt, fun i x hx j u hu => (hb.cell (p := ⟨b, _, none⟩) (by show b < B'; omega)).trans (hc i x hx j u hu)⟩⟩

theorem Rng.In.below {B B' : Nat} {w w' : World} {r : Rng} (h : r.In B w) (hb : Below B' w w') (hB : B ≤ B') : r.In B w' := ⟨h.rows.below hb hB, h.dups.below hb hB⟩

theorem SlIn.at2 {B : Nat} {w : World} {s : Sl} {rows : List Row} (h : SlIn B w s 2 (rows.map Row.cells)) {i : Nat} {x : Row} (hx : rows[i]? = some x) :
    ∃ b off, s.a = some ⟨b, off, none⟩ ∧ b < B ∧ w.cell? ⟨b, off + i * 2, none⟩ = some (.int .u64 x.key) ∧ w.cell? ⟨b, off + i * 2 + 1, none⟩ = some (.int .u64 x.val) := by
  have hi := (List.getElem?_eq_some_iff.1 hx).1
  obtain ⟨b, off, ha, hlt, hc⟩ := h.at' (by rw [h.len]; simp; omega)
  have := hc i (Row.cells x) (by simp [hx])
  exact ⟨b, off, ha, hlt, this 0 _ rfl, this 1 _ rfl⟩

theorem SlIn.at7 {B : Nat} {w : World} {s : Sl} {dups : List Rep} (h : SlIn B w s 7 (dups.map Rep.cells)) {i : Nat} {x : Rep} (hx : dups[i]? = some x) :
    ∃ b off, s.a = some ⟨b, off, none⟩ ∧ b < B ∧ w.cell? ⟨b, off + i * 7, none⟩ = some (.int .u8 x.c) ∧ w.cell? ⟨b, off + i * 7 + 1, none⟩ = some (.int .u32 x.s) ∧ w.cell? ⟨b, off + i * 7 + 2, none⟩ = some (.int .u64 x.key) ∧
      w.cell? ⟨b, off + i * 7 + 3, none⟩ = some (.int .u8 x.k) ∧ w.cell? ⟨b, off + i * 7 + 4, none⟩ = some (.bool x.found) ∧ w.cell? ⟨b, off + i * 7 + 5, none⟩ = some (.int .u64 x.v) ∧ w.cell? ⟨b, off + i * 7 + 6, none⟩ = some (.int .u8 x.g) := by
  have hi := (List.getElem?_eq_some_iff.1 hx).1
  obtain ⟨b, off, ha, hlt, hc⟩ := h.at' (by rw [h.len]; simp; omega)
  have := hc i (Rep.cells x) (by simp [hx])
  exact ⟨b, off, ha, hlt, this 0 _ rfl, this 1 _ rfl, this 2 _ rfl, this 3 _ rfl, this 4 _ rfl, this 5 _ rfl, this 6 _ rfl⟩

theorem all_next {f : Nat → Bool} {k : Nat} (h : (List.range k).all f = true) (hk : f k = true) : (List.range (k + 1)).all f = true := by
  rw [List.range_succ, List.all_append, h]; simp [hk]

theorem all_bad {f : Nat → Bool} {n k : Nat} (h : k < n) (hb : f k = false) : (List.range n).all f = false := by
  rw [List.all_eq_false]
  exact ⟨k, List.mem_range.2 h, by simp [hb]⟩

theorem rows_bad {lo hi : Int} {rows : List Row} {k : Nat} (h : k < rows.length) (hb : rowAt lo hi rows k = false) : rowsOk lo hi rows = false := by
  unfold rowsOk
  rw [all_bad h hb, Bool.and_false]

theorem dups_bad {lo hi : Int} {dups : List Rep} {k : Nat} (h : k < dups.length) (hb : dupAt lo hi dups k = false) : dupsOk lo hi dups = false := by
  unfold dupsOk
  rw [all_bad h hb, Bool.and_false]

theorem blk_of {B : Nat} {W w' : World} {xs : Array Value} {t : TypeId} (hW : W.heap[B]? = some (.cells xs t)) (hb : Below (B + 1) W w') : ∀ o, w'.cell? ⟨B, o, none⟩ = xs[o]? := by
  intro o
  rw [hb.cell (p := ⟨B, o, none⟩) (by show B < B + 1; omega)]
  simp [World.cell?, hW]

theorem blk {W w' : World} {B : Nat} {xs : Array Value} {t : TypeId} (hb : Below W.heap.size W w') (hW : W.heap[B]? = some (.cells xs t)) : ∀ o, w'.cell? ⟨B, o, none⟩ = xs[o]? := by
  intro o
  have hlt : B < W.heap.size := (Array.getElem?_eq_some_iff.1 hW).1
  rw [hb.cell (p := ⟨B, o, none⟩) hlt]
  simp [World.cell?, hW]

theorem blkF {W w' : World} {B : Nat} {xs : Array Value} {t : TypeId} (hb : Below W.heap.size W w') (hW : W.heap[B]? = some (.cells xs t)) : ∀ o, w'.frozen? ⟨B, o, none⟩ = false := by
  intro o
  have hlt : B < W.heap.size := (Array.getElem?_eq_some_iff.1 hW).1
  rw [hb.frozen (p := ⟨B, o, none⟩) hlt]
  simp [World.frozen?, hW]

theorem later_alloc (W : World) (o : Obj) : Below W.heap.size W (W.alloc o) := (Below.refl _ _).alloc (Nat.le_refl _) _
theorem later_trans {a b c : World} (h : Below a.heap.size a b) (k : Below b.heap.size b c) : Below a.heap.size a c := h.trans (k.mono h.size)
theorem later_cell {W w' : World} (hl : Below W.heap.size W w') {b : Nat} (hb : b < W.heap.size) (o : Nat) : w'.cell? ⟨b, o, none⟩ = W.cell? ⟨b, o, none⟩ := hl.cell (p := ⟨b, o, none⟩) hb

theorem SlIn.later {w w' : World} {s : Sl} {size : Nat} {xs : List (List Value)} (h : SlIn w.heap.size w s size xs) (hb : Below w.heap.size w w') : SlIn w'.heap.size w' s size xs := by
  have h' := h.below hb (Nat.le_refl _)
  exact ⟨h'.len, h'.le, h'.max, fun h0 => by
    obtain ⟨b, off, ha, hlt, hc⟩ := h'.at' h0
    exact ⟨b, off, ha, Nat.lt_of_lt_of_le hlt hb.size, hc⟩⟩

theorem ret_bool {a b : Bool} (h : a = b) : Ending.returned (.bool a) = .returned (.bool b) := by rw [h]

end Go.Proofs.Ytbdmodeccbklpaa
