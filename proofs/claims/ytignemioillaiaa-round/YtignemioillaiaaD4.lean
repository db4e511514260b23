/- The plain data of the program's messages, when they are right, and their bytes: no program text here. Laws for a block of the call's own that is known whole: a store of a struct (or of one cell) into it. Votes and messages: when they are right; a struct read out of a slice. The bytes of requests, replies, rows, ranges, commands, votes and messages; the numbers' bounds. -/
import Derived.WalkKit
import Derived.WalkSpells
namespace Go.Proofs.Ytignemioillaiaa
open Go.RowKit

structure Sl where
  a : Option Addr
  len : Nat
  cap : Nat

structure Req where
  (c s k key v hi to : Int)

structure Rep where
  (c s key k : Int)
  found : Bool
  (v g : Int)

structure Row where
  (key val : Int)

structure Rng where
  (src dst seq lo hi : Int)
  (rs ds : Sl)
  rows : List Row
  dups : List Rep

structure Cmd where
  kind : Int
  req : Req
  rng : Rng
  (peer seq : Int)

structure Vot where
  (slot n id : Int)
  cmd : Cmd

structure Msg where
  kind : Int
  req : Req
  rep : Rep
  (n id slot : Int)
  cmd : Cmd
  vs : Sl
  rng : Rng
  (peer seq : Int)
  votes : List Vot

def Req.ok (q : Req) : Bool :=
  decide (q.c < 4) && decide (1 ≤ q.s) &&
    (((q.k == 1 || q.k == 3) && q.v == 0 && q.hi == 0 && q.to == 0) || (q.k == 2 && q.hi == 0 && q.to == 0) ||
      (q.k == 4 && q.v == 0 && decide (q.key ≤ q.hi) && decide (q.to < 4)))

def Rep.ok (p : Rep) : Bool :=
  decide (p.c < 4) && decide (1 ≤ p.s) &&
    ((p.k == 1 && (p.found || p.v == 0) && p.g == 0) || (p.k == 3 && decide (p.g < 4) && !p.found && p.v == 0) ||
      ((p.k == 2 || p.k == 4 || p.k == 5) && !p.found && p.v == 0 && p.g == 0))

def rowAt (lo hi : Int) (rows : List Row) (i : Nat) : Bool :=
  match rows[i]? with
  | none => true
  | some x => decide (lo ≤ x.key) && decide (x.key ≤ hi) && (i == 0 || match rows[i - 1]? with
    | none => true
    | some y => decide (y.key < x.key))

def ahead (a b : Rep) : Bool := decide (a.key < b.key) || a.key == b.key && decide (a.c < b.c)

def kept (k : Int) : Bool := k == 1 || k == 2 || k == 5

def dupAt (lo hi : Int) (dups : List Rep) (i : Nat) : Bool :=
  match dups[i]? with
  | none => true
  | some x => x.ok && kept x.k && decide (lo ≤ x.key) && decide (x.key ≤ hi) && (i == 0 || match dups[i - 1]? with
    | none => true
    | some y => ahead y x)

def rowsOk (lo hi : Int) (rows : List Row) : Bool := decide (rows.length ≤ 255) && (List.range rows.length).all (rowAt lo hi rows)
def dupsOk (lo hi : Int) (dups : List Rep) : Bool := decide (dups.length ≤ 255) && (List.range dups.length).all (dupAt lo hi dups)

def Rng.ok (r : Rng) : Bool := decide (r.src < 4) && decide (r.dst < 4) && decide (1 ≤ r.seq) && decide (r.lo ≤ r.hi) && rowsOk r.lo r.hi r.rows && dupsOk r.lo r.hi r.dups

def Rng.no (r : Rng) : Bool := r.src == 0 && r.dst == 0 && r.seq == 0 && r.lo == 0 && r.hi == 0 && r.rs.len == 0 && r.ds.len == 0

def Req.no (q : Req) : Bool := q.c == 0 && q.s == 0 && q.k == 0 && q.key == 0 && q.v == 0 && q.hi == 0 && q.to == 0
def Rep.no (p : Rep) : Bool := p.c == 0 && p.s == 0 && p.key == 0 && p.k == 0 && !p.found && p.v == 0 && p.g == 0

def Cmd.bare (c : Cmd) : Bool := c.req.no && c.rng.no && c.peer == 0 && c.seq == 0

def Cmd.ok (c : Cmd) : Bool :=
  (c.kind == 0 && c.req.no && c.rng.no && c.peer == 0 && c.seq == 0) || (c.kind == 1 && c.req.ok && c.rng.no && c.peer == 0 && c.seq == 0) ||
    (c.kind == 2 && c.req.no && c.rng.ok && c.peer == 0 && c.seq == 0) || (c.kind == 3 && c.req.no && c.rng.no && decide (c.peer < 4))

/-- The slice s holds, element by element ('size' cells each), what the lists of cells say, in blocks below B. -/
structure SlIn (B : Nat) (w : World) (s : Sl) (size : Nat) (xs : List (List Value)) : Prop where
  len : s.len = xs.length
  le : s.len ≤ s.cap
  max : s.cap ≤ maxLen
  at' : 0 < s.len → ∃ b off, s.a = some ⟨b, off, none⟩ ∧ b < B ∧ ∀ i x, xs[i]? = some x → ∀ j u, x[j]? = some u → w.cell? ⟨b, off + i * size + j, none⟩ = some u

def Req.cells (q : Req) : List Value := [.int .u8 q.c, .int .u32 q.s, .int .u8 q.k, .int .u64 q.key, .int .u64 q.v, .int .u64 q.hi, .int .u8 q.to]
def Rep.cells (p : Rep) : List Value := [.int .u8 p.c, .int .u32 p.s, .int .u64 p.key, .int .u8 p.k, .bool p.found, .int .u64 p.v, .int .u8 p.g]
def Row.cells (x : Row) : List Value := [.int .u64 x.key, .int .u64 x.val]
def Sl.val (s : Sl) : Value := .slice s.a s.len s.cap
def Rng.cells (r : Rng) : List Value := [.int .u8 r.src, .int .u8 r.dst, .int .u32 r.seq, .int .u64 r.lo, .int .u64 r.hi, r.rs.val, r.ds.val]
def Cmd.cells (c : Cmd) : List Value := [.int .u8 c.kind] ++ c.req.cells ++ c.rng.cells ++ [.int .u8 c.peer, .int .u32 c.seq]
def Vot.cells (v : Vot) : List Value := [.int .u32 v.slot, .int .u32 v.n, .int .u8 v.id] ++ v.cmd.cells

structure Rng.In (B : Nat) (w : World) (r : Rng) : Prop where
  rows : SlIn B w r.rs 2 (r.rows.map Row.cells)
  dups : SlIn B w r.ds 7 (r.dups.map Rep.cells)

theorem SlIn.below {B B' : Nat} {w w' : World} {s : Sl} {size : Nat} {xs : List (List Value)} (h : SlIn B w s size xs) (hb : Below B' w w') (hB : B ≤ B') : SlIn B w' s size xs :=
  ⟨h.len, h.le, h.max, fun h0 => by
    obtain ⟨b, off, ha, hlt, hc⟩ := h.at' h0
    exact ⟨b, off, ha, hlt, fun i x hx j u hu => (hb.cell (p := ⟨b, _, none⟩) (by show b < B'; omega)).trans (hc i x hx j u hu)⟩⟩

theorem Rng.In.below {B B' : Nat} {w w' : World} {r : Rng} (h : r.In B w) (hb : Below B' w w') (hB : B ≤ B') : r.In B w' := ⟨h.rows.below hb hB, h.dups.below hb hB⟩

theorem SlIn.at2 {B : Nat} {w : World} {s : Sl} {rows : List Row} (h : SlIn B w s 2 (rows.map Row.cells)) {i : Nat} {x : Row} (hx : rows[i]? = some x) :
    ∃ b off, s.a = some ⟨b, off, none⟩ ∧ b < B ∧ w.cell? ⟨b, off + i * 2, none⟩ = some (.int .u64 x.key) ∧ w.cell? ⟨b, off + i * 2 + 1, none⟩ = some (.int .u64 x.val) := by
  have hi := (List.getElem?_eq_some_iff.1 hx).1
  obtain ⟨b, off, ha, hlt, hc⟩ := h.at' (by rw [h.len]; simp; omega)
  have := hc i (Row.cells x) (by simp [hx])
  exact ⟨b, off, ha, hlt, this 0 _ rfl, this 1 _ rfl⟩

theorem SlIn.at7 {B : Nat} {w : World} {s : Sl} {dups : List Rep} (h : SlIn B w s 7 (dups.map Rep.cells)) {i : Nat} {x : Rep} (hx : dups[i]? = some x) :
    ∃ b off, s.a = some ⟨b, off, none⟩ ∧ b < B ∧ w.cell? ⟨b, off + i * 7, none⟩ = some (.int .u8 x.c) ∧ w.cell? ⟨b, off + i * 7 + 1, none⟩ = some (.int .u32 x.s) ∧ w.cell? ⟨b, off + i * 7 + 2, none⟩ = some (.int .u64 x.key) ∧
      w.cell? ⟨b, off + i * 7 + 3, none⟩ = some (.int .u8 x.k) ∧ w.cell? ⟨b, off + i * 7 + 4, none⟩ = some (.bool x.found) ∧ w.cell? ⟨b, off + i * 7 + 5, none⟩ = some (.int .u64 x.v) ∧ w.cell? ⟨b, off + i * 7 + 6, none⟩ = some (.int .u8 x.g) := by
  have hi := (List.getElem?_eq_some_iff.1 hx).1
  obtain ⟨b, off, ha, hlt, hc⟩ := h.at' (by rw [h.len]; simp; omega)
  have := hc i (Rep.cells x) (by simp [hx])
  exact ⟨b, off, ha, hlt, this 0 _ rfl, this 1 _ rfl, this 2 _ rfl, this 3 _ rfl, this 4 _ rfl, this 5 _ rfl, this 6 _ rfl⟩

theorem all_next {f : Nat → Bool} {k : Nat} (h : (List.range k).all f = true) (hk : f k = true) : (List.range (k + 1)).all f = true := by
  rw [List.range_succ, List.all_append, h]; simp [hk]

theorem all_bad {f : Nat → Bool} {n k : Nat} (h : k < n) (hb : f k = false) : (List.range n).all f = false := by
  rw [List.all_eq_false]
  exact ⟨k, List.mem_range.2 h, by simp [hb]⟩

theorem rows_bad {lo hi : Int} {rows : List Row} {k : Nat} (h : k < rows.length) (hb : rowAt lo hi rows k = false) : rowsOk lo hi rows = false := by
  unfold rowsOk
  rw [all_bad h hb, Bool.and_false]

theorem dups_bad {lo hi : Int} {dups : List Rep} {k : Nat} (h : k < dups.length) (hb : dupAt lo hi dups k = false) : dupsOk lo hi dups = false := by
  unfold dupsOk
  rw [all_bad h hb, Bool.and_false]

theorem blk_of {B : Nat} {W w' : World} {xs : Array Value} {t : TypeId} (hW : W.heap[B]? = some (.cells xs t)) (hb : Below (B + 1) W w') : ∀ o, w'.cell? ⟨B, o, none⟩ = xs[o]? := by
  intro o
  rw [hb.cell (p := ⟨B, o, none⟩) (by show B < B + 1; omega)]
  simp [World.cell?, hW]

theorem blk {W w' : World} {B : Nat} {xs : Array Value} {t : TypeId} (hb : Below W.heap.size W w') (hW : W.heap[B]? = some (.cells xs t)) : ∀ o, w'.cell? ⟨B, o, none⟩ = xs[o]? := by
  intro o
  have hlt : B < W.heap.size := (Array.getElem?_eq_some_iff.1 hW).1
  rw [hb.cell (p := ⟨B, o, none⟩) hlt]
  simp [World.cell?, hW]

theorem blkF {W w' : World} {B : Nat} {xs : Array Value} {t : TypeId} (hb : Below W.heap.size W w') (hW : W.heap[B]? = some (.cells xs t)) : ∀ o, w'.frozen? ⟨B, o, none⟩ = false := by
  intro o
  have hlt : B < W.heap.size := (Array.getElem?_eq_some_iff.1 hW).1
  rw [hb.frozen (p := ⟨B, o, none⟩) hlt]
  simp [World.frozen?, hW]

theorem later_alloc (W : World) (o : Obj) : Below W.heap.size W (W.alloc o) := (Below.refl _ _).alloc (Nat.le_refl _) _
theorem later_trans {a b c : World} (h : Below a.heap.size a b) (k : Below b.heap.size b c) : Below a.heap.size a c := h.trans (k.mono h.size)
theorem later_cell {W w' : World} (hl : Below W.heap.size W w') {b : Nat} (hb : b < W.heap.size) (o : Nat) : w'.cell? ⟨b, o, none⟩ = W.cell? ⟨b, o, none⟩ := hl.cell (p := ⟨b, o, none⟩) hb

theorem SlIn.later {w w' : World} {s : Sl} {size : Nat} {xs : List (List Value)} (h : SlIn w.heap.size w s size xs) (hb : Below w.heap.size w w') : SlIn w'.heap.size w' s size xs := by
  have h' := h.below hb (Nat.le_refl _)
  exact ⟨h'.len, h'.le, h'.max, fun h0 => by
    obtain ⟨b, off, ha, hlt, hc⟩ := h'.at' h0
    exact ⟨b, off, ha, Nat.lt_of_lt_of_le hlt hb.size, hc⟩⟩

theorem ret_bool {a b : Bool} (h : a = b) : Ending.returned (.bool a) = .returned (.bool b) := by rw [h]

end Go.Proofs.Ytignemioillaiaa

namespace Go.Proofs.Ytignemioillaiaa
open Go.RowKit

/-- w' is w but for block B. -/
structure Only (B : Nat) (w w' : World) : Prop where
  os : w'.os = w.os
  tape : w'.tape = w.tape
  output : w'.output = w.output
  size : w'.heap.size = w.heap.size
  block : ∀ k, k ≠ B → w'.heap[k]? = w.heap[k]?

theorem Only.below {B B' : Nat} {w w' : World} (h : Only B w w') (hB : B' ≤ B) : Below B' w w' :=
  ⟨h.os, h.tape, h.output, Nat.le_of_eq h.size.symm, fun k hk => h.block k (by omega)⟩

theorem Only.setRow (w : World) (B : Nat) (cs : Array Value) : Only B w (w.setRow B cs) :=
  ⟨rfl, rfl, rfl, size_setRow _ _ _, fun k hk => setRow_other w B k cs hk⟩

theorem run_store_blk {P : Program} (w : World) (B o : Nat) (ty t : TypeId) (v : Value) (xs : Array Value) (hW : w.heap[B]? = some (.cells xs t)) (hi : (P.info? ty).map (·.size) = some v.cells.size)
    (h1 : v.cells.toList.all (·.oneCell') = true) (hfit : o + v.cells.size ≤ xs.size) :
    (Instr.storeAt ty (.pointer (some ⟨B, o, none⟩)) v).run P w = .ok () (w.setRow B (xs.toList.take o ++ v.cells.toList ++ xs.toList.drop (o + v.cells.size)).toArray) := by
  have h := run_storeCells_at (P := P) B o t v.cells.toList 0 xs w hW (by simpa using hfit) (fun u hu => List.all_eq_true.1 h1 u hu)
  simp only [Nat.add_zero, Array.length_toList] at h
  cases hq : P.info? ty with
  | none => simp [hq] at hi
  | some i =>
    have hs : v.cells.size = i.size := by simp [hq] at hi; omega
    simp only [Instr.storeAt, Instr.sureAddr, Sem.run_bind, Sem.run_pure, Result.andThen_ok, storeVar, sizeOf, typeInfo]
    simp [hq, hs]
    rw [hs] at h
    simpa using h

theorem wpList_store_blk {P : Program} {ops : Array Oper} {rest : List Oper} {op : Oper} {a : Act} {w : World} {Q : Exit → Act → World → Prop} (hgd : op.guard = none) (ty : TypeId) (x y : Operand) (ho : op.op = .store ty x y)
    (hd : op.dst = none) (B o : Nat) (hx : a.eval x = .pointer (some ⟨B, o, none⟩)) (cs : List Value) (hy : a.eval y = .agg cs.toArray) (n : Nat) (hi : (P.info? ty).map (·.size) = some n) (hn : cs.length = n)
    (h1 : cs.all (·.oneCell') = true) (xs : List Value) (t : TypeId) (hW : w.heap[B]? = some (.cells xs.toArray t)) (hfit : Nat.ble (o + n) xs.length = true) (ys : List Value) (hys : xs.take o ++ cs ++ xs.drop (o + n) = ys)
    (h : ∀ w', w'.heap[B]? = some (.cells ys.toArray t) → Only B w w' → wpList P ops Q rest a w') : wpList P ops Q (op :: rest) a w :=
  wpList_plain hgd fun _ hK => by
    subst hys; subst hn
    unfold Oper.wp execOp
    have hr := run_store_blk (P := P) w B o ty t (.agg cs.toArray) xs.toArray hW (by simpa [Value.cells] using hi) (by simpa [Value.cells] using h1) (by have := Nat.le_of_ble_eq_true hfit; simpa [Value.cells] using this)
    simp only [ho, hx, hy, Sem.run_bind, hr, Result.andThen_ok, Sem.run_pure, Oper.upon, hd, Act.put]
    refine hK _ _ (h _ ?_ (Only.setRow w B _))
    have := setRow_heap w B xs.toArray (xs.toArray.toList.take o ++ (Value.agg cs.toArray).cells.toList ++ xs.toArray.toList.drop (o + (Value.agg cs.toArray).cells.size)).toArray t (0, 0) hW
    simpa [Value.cells] using this

theorem store_blk {P : Program} (ty : TypeId) {w : World} {B : Nat} {xs : Array Value} {t : TypeId} (hW : w.heap[B]? = some (.cells xs t)) (o : Nat) (v : Value) (hi : (P.info? ty).map (·.size) = some v.cells.size)
    (h1 : v.cells.toList.all (·.oneCell') = true) (hfit : Nat.ble (o + v.cells.size) xs.size = true) (ys : List Value) (hys : xs.toList.take o ++ v.cells.toList ++ xs.toList.drop (o + v.cells.size) = ys) :
    ∃ w', (Instr.storeAt ty (.pointer (some ⟨B, o, none⟩)) v).run P w = .ok () w' ∧ w'.heap[B]? = some (.cells ys.toArray t) ∧ Only B w w' := by
  subst hys
  exact ⟨_, run_store_blk w B o ty t v xs hW hi h1 (Nat.le_of_ble_eq_true hfit), setRow_heap w B xs _ t (0, 0) hW, Only.setRow w B _⟩

theorem load_blk {P : Program} (ty : TypeId) {w : World} {B : Nat} {xs : Array Value} {t : TypeId} (hW : w.heap[B]? = some (.cells xs t)) (o n : Nat) (d : TypeDesc) (hu : P.underlying ty = some d)
    (hd : (match d with | .struct _ | .array _ _ => true | _ => false) = true) (hi : (P.info? ty).map (·.size) = some n) (hfit : Nat.ble (o + n) xs.size = true) (cs : List Value) (hcs : (xs.toList.drop o).take n = cs) :
    (Instr.loadAt ty (.pointer (some ⟨B, o, none⟩))).run P w = .ok (.agg cs.toArray) w := by
  subst hcs
  have hfit := Nat.le_of_ble_eq_true hfit
  have hlen : ((xs.toList.drop o).take n).length = n := by simp; omega
  have hl : (loadCells ⟨B, o, none⟩ ((xs.toList.drop o).take n).length).run P w = .ok ((xs.toList.drop o).take n).toArray w :=
    run_loadCells_list (P := P) w ⟨B, o, none⟩ _ (fun j v hv => by
      have hadd : (⟨B, o, none⟩ : Addr).add j = ⟨B, o + j, none⟩ := by unfold Addr.add; split <;> simp_all
      rw [hadd, cell_of_row w B (o + j) xs t (0, 0) hW]
      rw [List.getElem?_take] at hv
      split at hv
      · simpa using hv
      · cases hv)
  rw [hlen] at hl
  cases hq : P.info? ty with
  | none => simp [hq] at hi
  | some i =>
    have hs : i.size = n := by simpa [hq] using hi
    have hagg : (isAgg ty).run P w = .ok true w := by
      unfold isAgg
      rw [Sem.run_bind, run_underlying hu w]
      cases d <;> simp_all
    simp [Instr.loadAt, Instr.sureAddr, loadVar, Sem.run_bind, hagg, sizeOf, typeInfo, hq, hs, hl]

theorem wpList_store_cell {P : Program} {ops : Array Oper} {rest : List Oper} {op : Oper} {a : Act} {w : World} {Q : Exit → Act → World → Prop} (hgd : op.guard = none) (ty : TypeId) (x y : Operand) (ho : op.op = .store ty x y)
    (hd : op.dst = none) (B o : Nat) (hx : a.eval x = .pointer (some ⟨B, o, none⟩)) (v : Value) (hy : a.eval y = v) (hi : (P.info? ty).map (·.size) = some 1) (h1 : v.oneCell' = true)
    (xs : List Value) (t : TypeId) (hW : w.heap[B]? = some (.cells xs.toArray t)) (hfit : Nat.ble (o + 1) xs.length = true) (ys : List Value) (hys : xs.take o ++ [v] ++ xs.drop (o + 1) = ys)
    (h : ∀ w', w'.heap[B]? = some (.cells ys.toArray t) → Only B w w' → wpList P ops Q rest a w') : wpList P ops Q (op :: rest) a w :=
  wpList_plain hgd fun _ hK => by
    have hc : v.cells = #[v] := by cases v <;> first | rfl | cases h1
    subst hys
    unfold Oper.wp execOp
    have hr := run_store_blk (P := P) w B o ty t v xs.toArray hW (by simpa [hc] using hi) (by simpa [hc] using h1) (by have := Nat.le_of_ble_eq_true hfit; simpa [hc] using this)
    simp only [ho, hx, hy, Sem.run_bind, hr, Result.andThen_ok, Sem.run_pure, Oper.upon, hd, Act.put]
    refine hK _ _ (h _ ?_ (Only.setRow w B _))
    have := setRow_heap w B xs.toArray (xs.toArray.toList.take o ++ v.cells.toList ++ xs.toArray.toList.drop (o + v.cells.size)).toArray t (0, 0) hW
    simpa [hc] using this

theorem wpList_load_blk {P : Program} {ops : Array Oper} {rest : List Oper} {op : Oper} {a : Act} {w : World} {Q : Exit → Act → World → Prop} (hw : Region.wanted op (yielded ops a.tmps) = true) (ty : TypeId) (x : Operand) (ho : op.op = .load ty x)
    (B o : Nat) (hx : a.eval x = .pointer (some ⟨B, o, none⟩)) (n : Nat) (d : TypeDesc) (hu : P.underlying ty = some d) (hd : (match d with | .struct _ | .array _ _ => true | _ => false) = true) (hi : (P.info? ty).map (·.size) = some n)
    (xs : List Value) (t : TypeId) (hW : w.heap[B]? = some (.cells xs.toArray t)) (hfit : Nat.ble (o + n) xs.length = true) (cs : List Value) (hcs : (xs.drop o).take n = cs)
    (h : wpList P ops Q rest (a.put op.dst (.agg cs.toArray)) w) : wpList P ops Q (op :: rest) a w :=
  wpList_step fun K hK => by
    have hr := load_blk (P := P) ty hW o n d hu hd hi (by simpa using hfit) cs (by simpa using hcs)
    rw [if_pos hw]
    unfold Oper.wp execOp
    simp only [ho, hx, Sem.run_bind, hr, Result.andThen_ok, Sem.run_pure, Oper.upon]
    exact hK _ _ h

theorem blk_cell {w : World} {B : Nat} {xs : Array Value} {t : TypeId} (hW : w.heap[B]? = some (.cells xs t)) : ∀ o, w.cell? ⟨B, o, none⟩ = xs[o]? := by
  intro o; simp [World.cell?, hW]

theorem blk_later {W w' : World} {B : Nat} {xs : Array Value} {t : TypeId} (hb : Below W.heap.size W w') (hW : W.heap[B]? = some (.cells xs t)) : w'.heap[B]? = some (.cells xs t) :=
  (hb.block B (Array.getElem?_eq_some_iff.1 hW).1).trans hW

end Go.Proofs.Ytignemioillaiaa

namespace Go.Proofs.Ytignemioillaiaa
open Go.RowKit

def voteAt (votes : List Vot) (i : Nat) : Bool :=
  match votes[i]? with
  | none => true
  | some x => x.cmd.ok && (i == 0 || match votes[i - 1]? with
    | none => true
    | some y => decide (y.slot < x.slot))

def votesOk (votes : List Vot) : Bool := decide (votes.length ≤ 255) && (List.range votes.length).all (voteAt votes)

structure VotesIn (B : Nat) (w : World) (s : Sl) (votes : List Vot) : Prop where
  sl : SlIn B w s 20 (votes.map Vot.cells)
  all : ∀ (i : Nat) (v : Vot), votes[i]? = some v → v.cmd.rng.In B w

theorem VotesIn.below {B B' : Nat} {w w' : World} {s : Sl} {votes : List Vot} (h : VotesIn B w s votes) (hb : Below B' w w') (hB : B ≤ B') : VotesIn B w' s votes :=
  ⟨h.sl.below hb hB, fun i v hv => (h.all i v hv).below hb hB⟩

theorem VotesIn.later {w w' : World} {s : Sl} {votes : List Vot} (h : VotesIn w.heap.size w s votes) (hb : Below w.heap.size w w') : VotesIn w'.heap.size w' s votes :=
  ⟨h.sl.later hb, fun i v hv => ⟨(h.all i v hv).rows.later hb, (h.all i v hv).dups.later hb⟩⟩

def Msg.ok (m : Msg) : Bool :=
  let q := m.req.no; let p := m.rep.no; let b := m.n == 0 && m.id == 0; let s := m.slot == 0; let c := m.cmd.kind == 0 && m.cmd.bare; let v := m.vs.len == 0; let r := m.rng.no; let e := m.peer == 0 && m.seq == 0
  (m.kind == 1 && m.req.ok && p && b && s && c && v && r && e) || (m.kind == 2 && q && m.rep.ok && b && s && c && v && r && e) ||
  ((m.kind == 3 || m.kind == 5) && q && p && s && c && v && r && e) || (m.kind == 4 && q && p && s && c && votesOk m.votes && r && e) ||
  (m.kind == 6 && q && p && m.cmd.ok && v && r && e) || (m.kind == 7 && q && p && c && v && r && e) || (m.kind == 8 && q && p && b && m.cmd.ok && v && r && e) ||
  (m.kind == 9 && q && p && b && s && c && v && m.rng.ok && e) || (m.kind == 10 && q && p && b && s && c && v && r && decide (m.peer < 4))

theorem votes_bad {votes : List Vot} {k : Nat} (h : k < votes.length) (hb : voteAt votes k = false) : votesOk votes = false := by
  unfold votesOk
  rw [all_bad h hb, Bool.and_false]
theorem voteAt_nok {votes : List Vot} {k : Nat} {x : Vot} (hx : votes[k]? = some x) (h : ¬ x.cmd.ok = true) : voteAt votes k = false := by
  unfold voteAt; rw [hx]
  simp at h; simp [h]
theorem voteAt_prev {votes : List Vot} {k : Nat} {x y : Vot} (hx : votes[k]? = some x) (h0 : 0 < k) (hy : votes[k - 1]? = some y) (h : x.slot ≤ y.slot) : voteAt votes k = false := by
  have : (k == 0) = false := by simp; omega
  unfold voteAt; rw [hx]
  simp [hy, this]; intros; omega
theorem voteAt_good {votes : List Vot} {k : Nat} {x : Vot} (hx : votes[k]? = some x) (h : x.cmd.ok = true) (hy : k = 0 ∨ ∃ y, votes[k - 1]? = some y ∧ y.slot < x.slot) : voteAt votes k = true := by
  unfold voteAt; rw [hx]
  rcases hy with rfl | ⟨y, hy, hlt⟩
  · simp [h]
  · simp [h, hy, hlt]

theorem load_mem {P : Program} (ty : TypeId) {w : World} {b o : Nat} (n : Nat) (d : TypeDesc) (hu : P.underlying ty = some d)
    (hd : (match d with | .struct _ | .array _ _ => true | _ => false) = true) (hi : (P.info? ty).map (·.size) = some n) (cs : List Value) (hn : cs.length = n) (hc : ∀ (j : Nat) (u : Value), cs[j]? = some u → w.cell? ⟨b, o + j, none⟩ = some u) :
    (Instr.loadAt ty (.pointer (some ⟨b, o, none⟩))).run P w = .ok (.agg cs.toArray) w := by
  have hl : (loadCells ⟨b, o, none⟩ cs.length).run P w = .ok cs.toArray w :=
    run_loadCells_list (P := P) w ⟨b, o, none⟩ _ (fun j v hv => by
      have hadd : (⟨b, o, none⟩ : Addr).add j = ⟨b, o + j, none⟩ := by unfold Addr.add; split <;> simp_all
      rw [hadd]; exact hc j v hv)
  rw [hn] at hl
  cases hq : P.info? ty with
  | none => simp [hq] at hi
  | some i =>
    have hs : i.size = n := by simpa [hq] using hi
    have hagg : (isAgg ty).run P w = .ok true w := by
      unfold isAgg
      rw [Sem.run_bind, run_underlying hu w]
      cases d <;> simp_all
    simp [Instr.loadAt, Instr.sureAddr, loadVar, Sem.run_bind, hagg, sizeOf, typeInfo, hq, hs, hl]

theorem wpList_load_mem {P : Program} {ops : Array Oper} {rest : List Oper} {op : Oper} {a : Act} {w : World} {Q : Exit → Act → World → Prop} (hw : Region.wanted op (yielded ops a.tmps) = true) (ty : TypeId) (x : Operand) (ho : op.op = .load ty x)
    (b o : Nat) (hx : a.eval x = .pointer (some ⟨b, o, none⟩)) (n : Nat) (d : TypeDesc) (hu : P.underlying ty = some d) (hd : (match d with | .struct _ | .array _ _ => true | _ => false) = true) (hi : (P.info? ty).map (·.size) = some n)
    (cs : List Value) (hn : cs.length = n) (hc : ∀ (j : Nat) (u : Value), cs[j]? = some u → w.cell? ⟨b, o + j, none⟩ = some u)
    (h : wpList P ops Q rest (a.put op.dst (.agg cs.toArray)) w) : wpList P ops Q (op :: rest) a w :=
  wpList_step fun K hK => by
    have hr := load_mem (P := P) ty n d hu hd hi cs hn hc
    rw [if_pos hw]
    unfold Oper.wp execOp
    simp only [ho, hx, Sem.run_bind, hr, Result.andThen_ok, Sem.run_pure, Oper.upon]
    exact hK _ _ h

theorem SlIn.el {B : Nat} {w : World} {s : Sl} {size : Nat} {xs : List (List Value)} (h : SlIn B w s size xs) {i : Nat} {x : List Value} (hx : xs[i]? = some x) :
    ∃ b off, s.a = some ⟨b, off, none⟩ ∧ b < B ∧ ∀ (j : Nat) (u : Value), x[j]? = some u → w.cell? ⟨b, off + i * size + j, none⟩ = some u := by
  have hi := (List.getElem?_eq_some_iff.1 hx).1
  obtain ⟨b, off, ha, hlt, hc⟩ := h.at' (by rw [h.len]; omega)
  exact ⟨b, off, ha, hlt, hc i x hx⟩

end Go.Proofs.Ytignemioillaiaa

namespace Go.Proofs.Ytignemioillaiaa

def be32 (n : Int) : List Int := [n / 16777216, n / 65536 % 256, n / 256 % 256, n % 256]
def be64 (n : Int) : List Int := be32 (n / 4294967296) ++ be32 (n % 4294967296)

theorem be32_len (n : Int) : (be32 n).length = 4 := rfl
theorem be64_len (n : Int) : (be64 n).length = 8 := rfl

def U8 (n : Int) : Prop := 0 ≤ n ∧ n < 256
def U32 (n : Int) : Prop := 0 ≤ n ∧ n < 4294967296
def U64 (n : Int) : Prop := 0 ≤ n ∧ n < 18446744073709551616

structure Req.wf (q : Req) : Prop where
  c : U8 q.c
  s : U32 q.s
  k : U8 q.k
  key : U64 q.key
  v : U64 q.v
  hi : U64 q.hi
  to : U8 q.to

structure Rep.wf (p : Rep) : Prop where
  c : U8 p.c
  s : U32 p.s
  key : U64 p.key
  k : U8 p.k
  v : U64 p.v
  g : U8 p.g

structure Row.wf (x : Row) : Prop where
  key : U64 x.key
  val : U64 x.val

structure Rng.wf (r : Rng) : Prop where
  src : U8 r.src
  dst : U8 r.dst
  seq : U32 r.seq
  lo : U64 r.lo
  hi : U64 r.hi
  rows : ∀ (i : Nat) (x : Row), r.rows[i]? = some x → x.wf
  dups : ∀ (i : Nat) (x : Rep), r.dups[i]? = some x → x.wf

structure Cmd.wf (c : Cmd) : Prop where
  kind : U8 c.kind
  req : c.req.wf
  rng : c.rng.wf
  peer : U8 c.peer
  seq : U32 c.seq

structure Vot.wf (v : Vot) : Prop where
  slot : U32 v.slot
  n : U32 v.n
  id : U8 v.id
  cmd : v.cmd.wf

structure Msg.wf (m : Msg) : Prop where
  kind : U8 m.kind
  req : m.req.wf
  rep : m.rep.wf
  n : U32 m.n
  id : U8 m.id
  slot : U32 m.slot
  cmd : m.cmd.wf
  votes : ∀ (i : Nat) (x : Vot), m.votes[i]? = some x → x.wf
  rng : m.rng.wf
  peer : U8 m.peer
  seq : U32 m.seq

def Req.tail (q : Req) : List Int := if q.k = 2 then be64 q.v else if q.k = 4 then be64 q.hi ++ [q.to] else []
def Req.bytes (q : Req) : List Int := [q.c] ++ be32 q.s ++ [q.k] ++ be64 q.key ++ q.tail

def Rep.tail (p : Rep) : List Int := if p.k = 1 then (if p.found then [1] ++ be64 p.v else [0]) else if p.k = 3 then [p.g] else []
def Rep.bytes (p : Rep) : List Int := [p.c] ++ be32 p.s ++ be64 p.key ++ [p.k] ++ p.tail

def Row.bytes (x : Row) : List Int := be64 x.key ++ be64 x.val

def rowsBytes (rows : List Row) : List Int := (rows.map Row.bytes).flatten
def dupsBytes (dups : List Rep) : List Int := (dups.map Rep.bytes).flatten

def Rng.bytes (r : Rng) : List Int := [r.src] ++ [r.dst] ++ be32 r.seq ++ be64 r.lo ++ be64 r.hi ++ ([(r.rows.length : Int)] ++ rowsBytes r.rows) ++ ([(r.dups.length : Int)] ++ dupsBytes r.dups)

def Cmd.tail (c : Cmd) : List Int := if c.kind = 1 then c.req.bytes else if c.kind = 2 then c.rng.bytes else if c.kind = 3 then [c.peer] ++ be32 c.seq else []
def Cmd.bytes (c : Cmd) : List Int := [c.kind] ++ c.tail

def ballotBytes (n id : Int) : List Int := be32 n ++ [id]
def Vot.bytes (v : Vot) : List Int := be32 v.slot ++ ballotBytes v.n v.id ++ v.cmd.bytes
def votesBytes (votes : List Vot) : List Int := (votes.map Vot.bytes).flatten

def Msg.tail (m : Msg) : List Int :=
  if m.kind = 1 then m.req.bytes else if m.kind = 2 then m.rep.bytes else if m.kind = 3 ∨ m.kind = 5 then ballotBytes m.n m.id
  else if m.kind = 4 then ballotBytes m.n m.id ++ ([(m.votes.length : Int)] ++ votesBytes m.votes) else if m.kind = 6 then ballotBytes m.n m.id ++ be32 m.slot ++ m.cmd.bytes
  else if m.kind = 7 then ballotBytes m.n m.id ++ be32 m.slot else if m.kind = 8 then be32 m.slot ++ m.cmd.bytes else if m.kind = 9 then m.rng.bytes else if m.kind = 10 then [m.peer] ++ be32 m.seq else []
def Msg.bytes (m : Msg) : List Int := [m.kind] ++ m.tail

theorem Req.len (q : Req) : q.bytes.length ≤ 23 := by
  simp only [Req.bytes, Req.tail]; split <;> (try split) <;> simp [be32_len, be64_len]
theorem Rep.len (p : Rep) : p.bytes.length ≤ 23 := by
  simp only [Rep.bytes, Rep.tail]; split <;> (try split) <;> simp [be32_len, be64_len]
theorem Row.len (x : Row) : x.bytes.length = 16 := rfl

theorem rows_len (rows : List Row) : (rowsBytes rows).length = 16 * rows.length := by
  induction rows with
  | nil => rfl
  | cons x r ih => simp only [rowsBytes, List.map_cons, List.flatten_cons, List.length_append, Row.len, List.length_cons] at ih ⊢; omega
theorem dups_len (dups : List Rep) : (dupsBytes dups).length ≤ 23 * dups.length := by
  induction dups with
  | nil => simp [dupsBytes]
  | cons x r ih => have := x.len; simp only [dupsBytes, List.map_cons, List.flatten_cons, List.length_append, List.length_cons] at ih ⊢; omega
theorem Rng.len (r : Rng) (h1 : r.rows.length ≤ 255) (h2 : r.dups.length ≤ 255) : r.bytes.length ≤ 12000 := by
  have := rows_len r.rows; have := dups_len r.dups
  simp only [Rng.bytes, List.length_append, List.length_cons, List.length_nil, be32_len, be64_len]; omega
theorem Cmd.len (c : Cmd) (h1 : c.kind = 2 → c.rng.rows.length ≤ 255) (h2 : c.kind = 2 → c.rng.dups.length ≤ 255) : c.bytes.length ≤ 12001 := by
  have := c.req.len
  simp only [Cmd.bytes, Cmd.tail]
  split
  · simp; omega
  · split
    · rename_i hk; have := c.rng.len (h1 hk) (h2 hk); simp; omega
    · split <;> simp [be32_len]

theorem flat_take {α : Type} (f : α → List Int) (l : List α) (k : Nat) (x : α) (hx : l[k]? = some x) : ((l.take (k + 1)).map f).flatten = ((l.take k).map f).flatten ++ f x := by
  have hk := (List.getElem?_eq_some_iff.1 hx)
  rw [List.take_succ_eq_append_getElem hk.1, hk.2]
  simp

end Go.Proofs.Ytignemioillaiaa

