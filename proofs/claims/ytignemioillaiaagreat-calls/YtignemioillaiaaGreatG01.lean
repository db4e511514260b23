/- Short words for the cells of structs. -/
import Derived.WalkKit
import Derived.WalkSpells
import Derived.Test.YtignemioillaiaaGreatRows
import Derived.WalkLawsBesides
namespace Go.Proofs.YtignemioillaiaaGreat
set_option maxHeartbeats 8000000
set_option maxRecDepth 100000
section
open Go.RowKit
abbrev rQ (x0 : Int) (x1 : Int) (x2 : Int) (x3 : Int) (x4 : Int) (x5 : Int) (x6 : Int) : List Value := [.int .u8 x0, .int .u32 x1, .int .u8 x2, .int .u64 x3, .int .u64 x4, .int .u64 x5, .int .u8 x6]
abbrev rP (x0 : Int) (x1 : Int) (x2 : Int) (x3 : Int) (x4 : Bool) (x5 : Int) (x6 : Int) : List Value := [.int .u8 x0, .int .u32 x1, .int .u64 x2, .int .u8 x3, .bool x4, .int .u64 x5, .int .u8 x6]
abbrev rR (x0 : Int) (x1 : Int) (x2 : Int) (x3 : Int) (x4 : Int) (x5 : Option Addr) (XA XB : Nat) (x6 : Option Addr) (XC XD : Nat) : List Value := [.int .u8 x0, .int .u8 x1, .int .u32 x2, .int .u64 x3, .int .u64 x4, .slice x5 XA XB, .slice x6 XC XD]
abbrev rC (x0 : Int) (x1 : Int) (x2 : Int) (x3 : Int) (x4 : Int) (x5 : Int) (x6 : Int) (x7 : Int) (x8 : Int) (x9 : Int) (lD : Int) (lF : Int) (jv : Int) (iI : Option Addr) (Wl Wm : Nat) (jw : Option Addr) (Wn Wo : Nat) (jy : Int) (j3 : Int) : List Value := [.int .u8 x0, .int .u8 x1, .int .u32 x2, .int .u8 x3, .int .u64 x4, .int .u64 x5, .int .u64 x6, .int .u8 x7, .int .u8 x8, .int .u8 x9, .int .u32 lD, .int .u64 lF, .int .u64 jv, .slice iI Wl Wm, .slice jw Wn Wo, .int .u8 jy, .int .u32 j3]
abbrev rV (x0 : Int) (x1 : Int) (x2 : Int) (x3 : Int) (x4 : Int) (x5 : Int) (x6 : Int) (x7 : Int) (x8 : Int) (x9 : Int) (lD : Int) (lF : Int) (jv : Int) (iI : Int) (jw : Int) (jy : Int) (j3 : Option Addr) (Wp Wq : Nat) (dU : Option Addr) (Ws Wt : Nat) (gz : Int) (gL : Int) : List Value := [.int .u32 x0, .int .u32 x1, .int .u8 x2, .int .u8 x3, .int .u8 x4, .int .u32 x5, .int .u8 x6, .int .u64 x7, .int .u64 x8, .int .u64 x9, .int .u8 lD, .int .u8 lF, .int .u8 jv, .int .u32 iI, .int .u64 jw, .int .u64 jy, .slice j3 Wp Wq, .slice dU Ws Wt, .int .u8 gz, .int .u32 gL]
abbrev rM (x0 : Int) (x1 : Int) (x2 : Int) (x3 : Int) (x4 : Int) (x5 : Int) (x6 : Int) (x7 : Int) (x8 : Int) (x9 : Int) (lD : Int) (lF : Int) (jv : Bool) (iI : Int) (jw : Int) (jy : Int) (j3 : Int) (dU : Int) (gz : Int) (gL : Int) (x20 : Int) (oV : Int) (oW : Int) (oZ : Int) (x24 : Int) (x25 : Int) (XE : Int) (x27 : Int) (x28 : Int) (x29 : Int) (x30 : Int) (x31 : Option Addr) (Wu Wv : Nat) (x32 : Option Addr) (Ww Wx : Nat) (XF : Int) (x34 : Int) (XG : Option Addr) (Wy Wz : Nat) (XH : Int) (XI : Int) (x38 : Int) (x39 : Int) (x40 : Int) (x41 : Option Addr) (WA WB : Nat) (XJ : Option Addr) (WC WE : Nat) (x43 : Int) (XK : Int) : List Value := (.int .u8 x0 :: .int .u8 x1 :: .int .u32 x2 :: .int .u8 x3 :: .int .u64 x4 :: .int .u64 x5 :: .int .u64 x6 :: .int .u8 x7 :: .int .u8 x8 :: .int .u32 x9 :: .int .u64 lD :: .int .u8 lF :: .bool jv :: .int .u64 iI :: .int .u8 jw :: .int .u32 jy :: .int .u8 j3 :: .int .u32 dU :: .int .u8 gz :: .int .u8 gL :: .int .u32 x20 :: .int .u8 oV :: .int .u64 oW :: .int .u64 oZ :: .int .u64 x24 :: .int .u8 x25 :: .int .u8 XE :: .int .u8 x27 :: .int .u32 x28 :: .int .u64 x29 :: .int .u64 x30 :: .slice x31 Wu Wv :: .slice x32 Ww Wx :: .int .u8 XF :: .int .u32 x34 :: .slice XG Wy Wz :: .int .u8 XH :: .int .u8 XI :: .int .u32 x38 :: .int .u64 x39 :: .int .u64 x40 :: .slice x41 WA WB :: .slice XJ WC WE :: .int .u8 x43 :: .int .u32 XK :: [])
abbrev j4 : List Value := [.int .u8 0, .int .u32 0, .int .u8 0, .int .u64 0, .int .u64 0, .int .u64 0, .int .u8 0]
abbrev fT : List Value := [.int .u8 0, .int .u32 0, .int .u64 0, .int .u8 0, .bool false, .int .u64 0, .int .u8 0]
abbrev q9 : List Value := [.int .u8 0, .int .u8 0, .int .u32 0, .int .u64 0, .int .u64 0, .slice none 0 0, .slice none 0 0]
abbrev jd : List Value := [.int .u8 0, .int .u8 0, .int .u32 0, .int .u8 0, .int .u64 0, .int .u64 0, .int .u64 0, .int .u8 0, .int .u8 0, .int .u8 0, .int .u32 0, .int .u64 0, .int .u64 0, .slice none 0 0, .slice none 0 0, .int .u8 0, .int .u32 0]
abbrev pK : List Value := [.int .u32 0, .int .u32 0, .int .u8 0, .int .u8 0, .int .u8 0, .int .u32 0, .int .u8 0, .int .u64 0, .int .u64 0, .int .u64 0, .int .u8 0, .int .u8 0, .int .u8 0, .int .u32 0, .int .u64 0, .int .u64 0, .slice none 0 0, .slice none 0 0, .int .u8 0, .int .u32 0]
abbrev cZ : List Value := (.int .u8 0 :: .int .u8 0 :: .int .u32 0 :: .int .u8 0 :: .int .u64 0 :: .int .u64 0 :: .int .u64 0 :: .int .u8 0 :: .int .u8 0 :: .int .u32 0 :: .int .u64 0 :: .int .u8 0 :: .bool false :: .int .u64 0 :: .int .u8 0 :: .int .u32 0 :: .int .u8 0 :: .int .u32 0 :: .int .u8 0 :: .int .u8 0 :: .int .u32 0 :: .int .u8 0 :: .int .u64 0 :: .int .u64 0 :: .int .u64 0 :: .int .u8 0 :: .int .u8 0 :: .int .u8 0 :: .int .u32 0 :: .int .u64 0 :: .int .u64 0 :: .slice none 0 0 :: .slice none 0 0 :: .int .u8 0 :: .int .u32 0 :: .slice none 0 0 :: .int .u8 0 :: .int .u8 0 :: .int .u32 0 :: .int .u64 0 :: .int .u64 0 :: .slice none 0 0 :: .slice none 0 0 :: .int .u8 0 :: .int .u32 0 :: [])
abbrev dG (T : TypeId) (t : Nat) (P : Program) (ops : Array Oper) (Q : Exit → Act → World → Prop) (x : Operand) (ty : TypeId) (pos : String) (Tt : Array Edge) (rest : List Oper) (a : Act) (w : World) : Prop := wpList P ops Q ({ dst := none, op := Op.store T (Operand.tmp t) x, type := ty, pos := pos, after := Tt, guard := none } :: rest) a w
abbrev Bw (d : Nat) (T : TypeId) (P : Program) (ops : Array Oper) (Q : Exit → Act → World → Prop) (x : Operand) (ty : TypeId) (pos : String) (Tt : Array Edge) (rest : List Oper) (a : Act) (w : World) : Prop := wpList P ops Q ({ dst := some d, op := Op.load T x, type := ty, pos := pos, after := Tt, guard := none } :: rest) a w
structure Sl where
  a : Option Addr
  len : Nat
  cap : Nat
structure aD where
  (c s k key v hi to : Int)
structure ay where
  (c s key k : Int)
  found : Bool
  (v g : Int)
structure Row where
  (key val : Int)
structure ax where
  (src dst seq lo hi : Int)
  (rs ds : Sl)
  rows : List Row
  bC : List ay
structure aR where
  kind : Int
  aL : aD
  aH : ax
  (peer seq : Int)
structure bz where
  (slot n id : Int)
  cmd : aR
structure aM where
  kind : Int
  aL : aD
  rep : ay
  (n id slot : Int)
  cmd : aR
  vs : Sl
  aH : ax
  (peer seq : Int)
  aV : List bz
def aD.ok (q : aD) : Bool :=
  decide (q.c < 4) && decide (1 ≤ q.s) &&
    (((q.k == 1 || q.k == 3) && q.v == 0 && q.hi == 0 && q.to == 0) || (q.k == 2 && q.hi == 0 && q.to == 0) ||
      (q.k == 4 && q.v == 0 && decide (q.key ≤ q.hi) && decide (q.to < 4)))
def ay.ok (p : ay) : Bool :=
  decide (p.c < 4) && decide (1 ≤ p.s) &&
    ((p.k == 1 && (p.found || p.v == 0) && p.g == 0) || (p.k == 3 && decide (p.g < 4) && !p.found && p.v == 0) ||
      ((p.k == 2 || p.k == 4 || p.k == 5) && !p.found && p.v == 0 && p.g == 0))
def rowAt (lo hi : Int) (rows : List Row) (i : Nat) : Bool :=
  match rows[i]? with
  | none => true
  | some x => decide (lo ≤ x.key) && decide (x.key ≤ hi) && (i == 0 || match rows[i - 1]? with
    | none => true
    | some y => decide (y.key < x.key))
def ahead (a b : ay) : Bool := decide (a.key < b.key) || a.key == b.key && decide (a.c < b.c)
def kept (k : Int) : Bool := k == 1 || k == 2 || k == 5
def lU (lo hi : Int) (bC : List ay) (i : Nat) : Bool :=
  match bC[i]? with
  | none => true
  | some x => x.ok && kept x.k && decide (lo ≤ x.key) && decide (x.key ≤ hi) && (i == 0 || match bC[i - 1]? with
    | none => true
    | some y => ahead y x)
def pM (lo hi : Int) (rows : List Row) : Bool := decide (rows.length ≤ 255) && (List.range rows.length).all (rowAt lo hi rows)
def pO (lo hi : Int) (bC : List ay) : Bool := decide (bC.length ≤ 255) && (List.range bC.length).all (lU lo hi bC)
def ax.ok (r : ax) : Bool := decide (r.src < 4) && decide (r.dst < 4) && decide (1 ≤ r.seq) && decide (r.lo ≤ r.hi) && pM r.lo r.hi r.rows && pO r.lo r.hi r.bC
def ax.no (r : ax) : Bool := r.src == 0 && r.dst == 0 && r.seq == 0 && r.lo == 0 && r.hi == 0 && r.rs.len == 0 && r.ds.len == 0
def aD.no (q : aD) : Bool := q.c == 0 && q.s == 0 && q.k == 0 && q.key == 0 && q.v == 0 && q.hi == 0 && q.to == 0
def ay.no (p : ay) : Bool := p.c == 0 && p.s == 0 && p.key == 0 && p.k == 0 && !p.found && p.v == 0 && p.g == 0
def aR.bare (c : aR) : Bool := c.aL.no && c.aH.no && c.peer == 0 && c.seq == 0
def aR.ok (c : aR) : Bool :=
  (c.kind == 0 && c.aL.no && c.aH.no && c.peer == 0 && c.seq == 0) || (c.kind == 1 && c.aL.ok && c.aH.no && c.peer == 0 && c.seq == 0) ||
    (c.kind == 2 && c.aL.no && c.aH.ok && c.peer == 0 && c.seq == 0) || (c.kind == 3 && c.aL.no && c.aH.no && decide (c.peer < 4))
structure cz (B : Nat) (w : World) (s : Sl) (size : Nat) (xs : List (List Value)) : Prop where
  len : s.len = xs.length
  le : s.len ≤ s.cap
  max : s.cap ≤ maxLen
  at' : 0 < s.len → ∃ b off, s.a = some ⟨b, off, none⟩ ∧ b < B ∧ ∀ i x, xs[i]? = some x → ∀ j u, x[j]? = some u → w.cell? ⟨b, off + i * size + j, none⟩ = some u
def aD.cells (q : aD) : List Value := (rQ q.c q.s q.k q.key q.v q.hi q.to)
def ay.cells (p : ay) : List Value := (rP p.c p.s p.key p.k p.found p.v p.g)
def Row.cells (x : Row) : List Value := [.int .u64 x.key, .int .u64 x.val]
def Sl.val (s : Sl) : Value := .slice s.a s.len s.cap
def ax.cells (r : ax) : List Value := [.int .u8 r.src, .int .u8 r.dst, .int .u32 r.seq, .int .u64 r.lo, .int .u64 r.hi, r.rs.val, r.ds.val]
def aR.cells (c : aR) : List Value := [.int .u8 c.kind] ++ c.aL.cells ++ c.aH.cells ++ [.int .u8 c.peer, .int .u32 c.seq]
def bz.cells (v : bz) : List Value := [.int .u32 v.slot, .int .u32 v.n, .int .u8 v.id] ++ v.cmd.cells
structure ax.In (B : Nat) (w : World) (r : ax) : Prop where
  rows : cz B w r.rs 2 (r.rows.map Row.cells)
  bC : cz B w r.ds 7 (r.bC.map ay.cells)
theorem cz.below {B B' : Nat} {w w' : World} {s : Sl} {size : Nat} {xs : List (List Value)} (h : cz B w s size xs) (hb : Below B' w w') (hB : B ≤ B') : cz B w' s size xs :=
  ⟨h.len, h.le, h.max, fun h0 => by
    obtain ⟨b, off, ha, hlt, hc⟩ := h.at' h0
    exact ⟨b, off, ha, hlt, fun i x hx j u hu => (hb.cell (p := ⟨b, _, none⟩) (by show b < B'; omega)).trans (hc i x hx j u hu)⟩⟩
theorem ax.In.below {B B' : Nat} {w w' : World} {r : ax} (h : r.In B w) (hb : Below B' w w') (hB : B ≤ B') : r.In B w' := ⟨h.rows.below hb hB, h.bC.below hb hB⟩
theorem cz.at2 {B : Nat} {w : World} {s : Sl} {rows : List Row} (h : cz B w s 2 (rows.map Row.cells)) {i : Nat} {x : Row} (hx : rows[i]? = some x) :
    ∃ b off, s.a = some ⟨b, off, none⟩ ∧ b < B ∧ w.cell? ⟨b, off + i * 2, none⟩ = some (.int .u64 x.key) ∧ w.cell? ⟨b, off + i * 2 + 1, none⟩ = some (.int .u64 x.val) := by
  have hi := (List.getElem?_eq_some_iff.1 hx).1
  obtain ⟨b, off, ha, hlt, hc⟩ := h.at' (by rw [h.len]; simp; omega)
  have := hc i (Row.cells x) (by simp [hx])
  exact ⟨b, off, ha, hlt, this 0 _ rfl, this 1 _ rfl⟩
theorem cz.Vx {B : Nat} {w : World} {s : Sl} {bC : List ay} (h : cz B w s 7 (bC.map ay.cells)) {i : Nat} {x : ay} (hx : bC[i]? = some x) :
    ∃ b off, s.a = some ⟨b, off, none⟩ ∧ b < B ∧ w.cell? ⟨b, off + i * 7, none⟩ = some (.int .u8 x.c) ∧ w.cell? ⟨b, off + i * 7 + 1, none⟩ = some (.int .u32 x.s) ∧ w.cell? ⟨b, off + i * 7 + 2, none⟩ = some (.int .u64 x.key) ∧
      w.cell? ⟨b, off + i * 7 + 3, none⟩ = some (.int .u8 x.k) ∧ w.cell? ⟨b, off + i * 7 + 4, none⟩ = some (.bool x.found) ∧ w.cell? ⟨b, off + i * 7 + 5, none⟩ = some (.int .u64 x.v) ∧ w.cell? ⟨b, off + i * 7 + 6, none⟩ = some (.int .u8 x.g) := by
  have hi := (List.getElem?_eq_some_iff.1 hx).1
  obtain ⟨b, off, ha, hlt, hc⟩ := h.at' (by rw [h.len]; simp; omega)
  have := hc i (ay.cells x) (by simp [hx])
  exact ⟨b, off, ha, hlt, this 0 _ rfl, this 1 _ rfl, this 2 _ rfl, this 3 _ rfl, this 4 _ rfl, this 5 _ rfl, this 6 _ rfl⟩
theorem qw {f : Nat → Bool} {k : Nat} (h : (List.range k).all f = true) (hk : f k = true) : (List.range (k + 1)).all f = true := by
  rw [List.range_succ, List.all_append, h]; simp [hk]
theorem C9 {f : Nat → Bool} {n k : Nat} (h : k < n) (hb : f k = false) : (List.range n).all f = false := by
  rw [List.all_eq_false]
  exact ⟨k, List.mem_range.2 h, by simp [hb]⟩
theorem AA {lo hi : Int} {rows : List Row} {k : Nat} (h : k < rows.length) (hb : rowAt lo hi rows k = false) : pM lo hi rows = false := by
  unfold pM
  rw [C9 h hb, Bool.and_false]
theorem oK {lo hi : Int} {bC : List ay} {k : Nat} (h : k < bC.length) (hb : lU lo hi bC k = false) : pO lo hi bC = false := by
  unfold pO
  rw [C9 h hb, Bool.and_false]
theorem KX {B : Nat} {W w' : World} {xs : Array Value} {t : TypeId} (hW : W.heap[B]? = some (.cells xs t)) (hb : Below (B + 1) W w') : ∀ o, w'.cell? ⟨B, o, none⟩ = xs[o]? := by
  intro o
  rw [hb.cell (p := ⟨B, o, none⟩) (by show B < B + 1; omega)]
  simp [World.cell?, hW]
theorem blk {W w' : World} {B : Nat} {xs : Array Value} {t : TypeId} (hb : Below W.heap.size W w') (hW : W.heap[B]? = some (.cells xs t)) : ∀ o, w'.cell? ⟨B, o, none⟩ = xs[o]? := by
  intro o
  have hlt : B < W.heap.size := (Array.getElem?_eq_some_iff.1 hW).1
  rw [hb.cell (p := ⟨B, o, none⟩) hlt]
  simp [World.cell?, hW]
theorem av (W : World) (o : Obj) : Below W.heap.size W (W.alloc o) := (Below.refl _ _).alloc (Nat.le_refl _) _
theorem aQ {a b c : World} (h : Below a.heap.size a b) (k : Below b.heap.size b c) : Below a.heap.size a c := h.trans (k.mono h.size)
theorem eD {W w' : World} (hl : Below W.heap.size W w') {b : Nat} (hb : b < W.heap.size) (o : Nat) : w'.cell? ⟨b, o, none⟩ = W.cell? ⟨b, o, none⟩ := hl.cell (p := ⟨b, o, none⟩) hb
theorem cz.later {w w' : World} {s : Sl} {size : Nat} {xs : List (List Value)} (h : cz w.heap.size w s size xs) (hb : Below w.heap.size w w') : cz w'.heap.size w' s size xs := by
  have h' := h.below hb (Nat.le_refl _)
  exact ⟨h'.len, h'.le, h'.max, fun h0 => by
    obtain ⟨b, off, ha, hlt, hc⟩ := h'.at' h0
    exact ⟨b, off, ha, Nat.lt_of_lt_of_le hlt hb.size, hc⟩⟩
theorem bG {a b : Bool} (h : a = b) : Ending.returned (.bool a) = .returned (.bool b) := by rw [h]
structure Only (B : Nat) (w w' : World) : Prop where
  os : w'.os = w.os
  tape : w'.tape = w.tape
  output : w'.output = w.output
  size : w'.heap.size = w.heap.size
  block : ∀ k, k ≠ B → w'.heap[k]? = w.heap[k]?
theorem Only.below {B B' : Nat} {w w' : World} (h : Only B w w') (hB : B' ≤ B) : Below B' w w' :=
  ⟨h.os, h.tape, h.output, Nat.le_of_eq h.size.symm, fun k hk => h.block k (by omega)⟩
theorem Only.setRow (w : World) (B : Nat) (cs : Array Value) : Only B w (w.setRow B cs) :=
  ⟨rfl, rfl, rfl, size_setRow _ _ _, fun k hk => setRow_other w B k cs hk⟩
theorem mE {P : Program} (w : World) (B o : Nat) (ty t : TypeId) (v : Value) (xs : Array Value) (hW : w.heap[B]? = some (.cells xs t)) (hi : (P.info? ty).map (·.size) = some v.cells.size)
    (h1 : v.cells.toList.all (·.oneCell') = true) (hfit : o + v.cells.size ≤ xs.size) :
    (Instr.storeAt ty (.pointer (some ⟨B, o, none⟩)) v).run P w = .ok () (w.setRow B (xs.toList.take o ++ v.cells.toList ++ xs.toList.drop (o + v.cells.size)).toArray) := by
  have h := run_storeCells_at (P := P) B o t v.cells.toList 0 xs w hW (by simpa using hfit) (fun u hu => List.all_eq_true.1 h1 u hu)
  simp only [Nat.add_zero, Array.length_toList] at h
  cases hq : P.info? ty with
  | none => simp [hq] at hi
  | some i =>
    have hs : v.cells.size = i.size := by simp [hq] at hi; omega
    simp only [Instr.storeAt, Instr.sureAddr, Sem.run_bind, Sem.run_pure, Result.andThen_ok, storeVar, sizeOf, typeInfo]
    simp [hq, hs]
    rw [hs] at h
    simpa using h
theorem ae {P : Program} {ops : Array Oper} {rest : List Oper} {op : Oper} {a : Act} {w : World} {Q : Exit → Act → World → Prop} (hgd : op.guard = none) (ty : TypeId) (x y : Operand) (ho : op.op = .store ty x y)
    (hd : op.dst = none) (B o : Nat) (hx : a.eval x = .pointer (some ⟨B, o, none⟩)) (cs : List Value) (hy : a.eval y = .agg cs.toArray) (n : Nat) (hi : (P.info? ty).map (·.size) = some n) (hn : cs.length = n)
    (h1 : cs.all (·.oneCell') = true) (xs : List Value) (t : TypeId) (hW : w.heap[B]? = some (.cells xs.toArray t)) (hfit : Nat.ble (o + n) xs.length = true) (ys : List Value) (hys : xs.take o ++ cs ++ xs.drop (o + n) = ys)
    (h : ∀ w', w'.heap[B]? = some (.cells ys.toArray t) → Only B w w' → wpList P ops Q rest a w') : wpList P ops Q (op :: rest) a w :=
  wpList_plain hgd fun _ hK => by
    subst hys; subst hn
    unfold Oper.wp execOp
    have hr := mE (P := P) w B o ty t (.agg cs.toArray) xs.toArray hW (by simpa [Value.cells] using hi) (by simpa [Value.cells] using h1) (by have := Nat.le_of_ble_eq_true hfit; simpa [Value.cells] using this)
    simp only [ho, hx, hy, Sem.run_bind, hr, Result.andThen_ok, Sem.run_pure, Oper.upon, hd, Act.put]
    refine hK _ _ (h _ ?_ (Only.setRow w B _))
    have := setRow_heap w B xs.toArray (xs.toArray.toList.take o ++ (Value.agg cs.toArray).cells.toList ++ xs.toArray.toList.drop (o + (Value.agg cs.toArray).cells.size)).toArray t (0, 0) hW
    simpa [Value.cells] using this
theorem vw {P : Program} (ty : TypeId) {w : World} {B : Nat} {xs : Array Value} {t : TypeId} (hW : w.heap[B]? = some (.cells xs t)) (o n : Nat) (d : TypeDesc) (hu : P.underlying ty = some d)
    (hd : (match d with | .struct _ | .array _ _ => true | _ => false) = true) (hi : (P.info? ty).map (·.size) = some n) (hfit : Nat.ble (o + n) xs.size = true) (cs : List Value) (hcs : (xs.toList.drop o).take n = cs) :
    (Instr.loadAt ty (.pointer (some ⟨B, o, none⟩))).run P w = .ok (.agg cs.toArray) w := by
  subst hcs
  have hfit := Nat.le_of_ble_eq_true hfit
  have hlen : ((xs.toList.drop o).take n).length = n := by simp; omega
  have hl : (loadCells ⟨B, o, none⟩ ((xs.toList.drop o).take n).length).run P w = .ok ((xs.toList.drop o).take n).toArray w :=
    run_loadCells_list (P := P) w ⟨B, o, none⟩ _ (fun j v hv => by
      have hadd : (⟨B, o, none⟩ : Addr).add j = ⟨B, o + j, none⟩ := by unfold Addr.add; split <;> simp_all
      rw [hadd, cell_of_row w B (o + j) xs t (0, 0) hW]
      rw [List.getElem?_take] at hv
      split at hv
      · simpa using hv
      · cases hv)
  rw [hlen] at hl
  cases hq : P.info? ty with
  | none => simp [hq] at hi
  | some i =>
    have hs : i.size = n := by simpa [hq] using hi
    have hagg : (isAgg ty).run P w = .ok true w := by
      unfold isAgg
      rw [Sem.run_bind, run_underlying hu w]
      cases d <;> simp_all
    simp [Instr.loadAt, Instr.sureAddr, loadVar, Sem.run_bind, hagg, sizeOf, typeInfo, hq, hs, hl]
theorem ah {P : Program} {ops : Array Oper} {rest : List Oper} {op : Oper} {a : Act} {w : World} {Q : Exit → Act → World → Prop} (hgd : op.guard = none) (ty : TypeId) (x y : Operand) (ho : op.op = .store ty x y)
    (hd : op.dst = none) (B o : Nat) (hx : a.eval x = .pointer (some ⟨B, o, none⟩)) (v : Value) (hy : a.eval y = v) (hi : (P.info? ty).map (·.size) = some 1) (h1 : v.oneCell' = true)
    (xs : List Value) (t : TypeId) (hW : w.heap[B]? = some (.cells xs.toArray t)) (hfit : Nat.ble (o + 1) xs.length = true) (ys : List Value) (hys : xs.take o ++ [v] ++ xs.drop (o + 1) = ys)
    (h : ∀ w', w'.heap[B]? = some (.cells ys.toArray t) → Only B w w' → wpList P ops Q rest a w') : wpList P ops Q (op :: rest) a w :=
  wpList_plain hgd fun _ hK => by
    have hc : v.cells = #[v] := by cases v <;> first | rfl | cases h1
    subst hys
    unfold Oper.wp execOp
    have hr := mE (P := P) w B o ty t v xs.toArray hW (by simpa [hc] using hi) (by simpa [hc] using h1) (by have := Nat.le_of_ble_eq_true hfit; simpa [hc] using this)
    simp only [ho, hx, hy, Sem.run_bind, hr, Result.andThen_ok, Sem.run_pure, Oper.upon, hd, Act.put]
    refine hK _ _ (h _ ?_ (Only.setRow w B _))
    have := setRow_heap w B xs.toArray (xs.toArray.toList.take o ++ v.cells.toList ++ xs.toArray.toList.drop (o + v.cells.size)).toArray t (0, 0) hW
    simpa [hc] using this
theorem ak {P : Program} {ops : Array Oper} {rest : List Oper} {op : Oper} {a : Act} {w : World} {Q : Exit → Act → World → Prop} (hw : Region.wanted op (yielded ops a.tmps) = true) (ty : TypeId) (x : Operand) (ho : op.op = .load ty x)
    (B o : Nat) (hx : a.eval x = .pointer (some ⟨B, o, none⟩)) (n : Nat) (d : TypeDesc) (hu : P.underlying ty = some d) (hd : (match d with | .struct _ | .array _ _ => true | _ => false) = true) (hi : (P.info? ty).map (·.size) = some n)
    (xs : List Value) (t : TypeId) (hW : w.heap[B]? = some (.cells xs.toArray t)) (hfit : Nat.ble (o + n) xs.length = true) (cs : List Value) (hcs : (xs.drop o).take n = cs)
    (h : wpList P ops Q rest (a.put op.dst (.agg cs.toArray)) w) : wpList P ops Q (op :: rest) a w :=
  wpList_step fun K hK => by
    have hr := vw (P := P) ty hW o n d hu hd hi (by simpa using hfit) cs (by simpa using hcs)
    rw [if_pos hw]
    unfold Oper.wp execOp
    simp only [ho, hx, Sem.run_bind, hr, Result.andThen_ok, Sem.run_pure, Oper.upon]
    exact hK _ _ h
theorem af {w : World} {B : Nat} {xs : Array Value} {t : TypeId} (hW : w.heap[B]? = some (.cells xs t)) : ∀ o, w.cell? ⟨B, o, none⟩ = xs[o]? := by
  intro o; simp [World.cell?, hW]
theorem bF {W w' : World} {B : Nat} {xs : Array Value} {t : TypeId} (hb : Below W.heap.size W w') (hW : W.heap[B]? = some (.cells xs t)) : w'.heap[B]? = some (.cells xs t) :=
  (hb.block B (Array.getElem?_eq_some_iff.1 hW).1).trans hW
def kJ (aV : List bz) (i : Nat) : Bool :=
  match aV[i]? with
  | none => true
  | some x => x.cmd.ok && (i == 0 || match aV[i - 1]? with
    | none => true
    | some y => decide (y.slot < x.slot))
def iP (aV : List bz) : Bool := decide (aV.length ≤ 255) && (List.range aV.length).all (kJ aV)
structure gq (B : Nat) (w : World) (s : Sl) (aV : List bz) : Prop where
  sl : cz B w s 20 (aV.map bz.cells)
  all : ∀ (i : Nat) (v : bz), aV[i]? = some v → v.cmd.aH.In B w
theorem gq.below {B B' : Nat} {w w' : World} {s : Sl} {aV : List bz} (h : gq B w s aV) (hb : Below B' w w') (hB : B ≤ B') : gq B w' s aV :=
  ⟨h.sl.below hb hB, fun i v hv => (h.all i v hv).below hb hB⟩
theorem gq.later {w w' : World} {s : Sl} {aV : List bz} (h : gq w.heap.size w s aV) (hb : Below w.heap.size w w') : gq w'.heap.size w' s aV :=
  ⟨h.sl.later hb, fun i v hv => ⟨(h.all i v hv).rows.later hb, (h.all i v hv).bC.later hb⟩⟩
def aM.ok (m : aM) : Bool :=
  let q := m.aL.no; let p := m.rep.no; let b := m.n == 0 && m.id == 0; let s := m.slot == 0; let c := m.cmd.kind == 0 && m.cmd.bare; let v := m.vs.len == 0; let r := m.aH.no; let e := m.peer == 0 && m.seq == 0
  (m.kind == 1 && m.aL.ok && p && b && s && c && v && r && e) || (m.kind == 2 && q && m.rep.ok && b && s && c && v && r && e) ||
  ((m.kind == 3 || m.kind == 5) && q && p && s && c && v && r && e) || (m.kind == 4 && q && p && s && c && iP m.aV && r && e) ||
  (m.kind == 6 && q && p && m.cmd.ok && v && r && e) || (m.kind == 7 && q && p && c && v && r && e) || (m.kind == 8 && q && p && b && m.cmd.ok && v && r && e) ||
  (m.kind == 9 && q && p && b && s && c && v && m.aH.ok && e) || (m.kind == 10 && q && p && b && s && c && v && r && decide (m.peer < 4))
theorem wy {aV : List bz} {k : Nat} (h : k < aV.length) (hb : kJ aV k = false) : iP aV = false := by
  unfold iP
  rw [C9 h hb, Bool.and_false]
theorem Bz {aV : List bz} {k : Nat} {x : bz} (hx : aV[k]? = some x) (h : ¬ x.cmd.ok = true) : kJ aV k = false := by
  unfold kJ; rw [hx]
  simp at h; simp [h]
theorem G9 {aV : List bz} {k : Nat} {x y : bz} (hx : aV[k]? = some x) (h0 : 0 < k) (hy : aV[k - 1]? = some y) (h : x.slot ≤ y.slot) : kJ aV k = false := by
  have : (k == 0) = false := by simp; omega
  unfold kJ; rw [hx]
  simp [hy, this]; intros; omega
theorem zu {aV : List bz} {k : Nat} {x : bz} (hx : aV[k]? = some x) (h : x.cmd.ok = true) (hy : k = 0 ∨ ∃ y, aV[k - 1]? = some y ∧ y.slot < x.slot) : kJ aV k = true := by
  unfold kJ; rw [hx]
  rcases hy with rfl | ⟨y, hy, hlt⟩
  · simp [h]
  · simp [h, hy, hlt]
theorem NL {P : Program} (ty : TypeId) {w : World} {b o : Nat} (n : Nat) (d : TypeDesc) (hu : P.underlying ty = some d)
    (hd : (match d with | .struct _ | .array _ _ => true | _ => false) = true) (hi : (P.info? ty).map (·.size) = some n) (cs : List Value) (hn : cs.length = n) (hc : ∀ (j : Nat) (u : Value), cs[j]? = some u → w.cell? ⟨b, o + j, none⟩ = some u) :
    (Instr.loadAt ty (.pointer (some ⟨b, o, none⟩))).run P w = .ok (.agg cs.toArray) w := by
  have hl : (loadCells ⟨b, o, none⟩ cs.length).run P w = .ok cs.toArray w :=
    run_loadCells_list (P := P) w ⟨b, o, none⟩ _ (fun j v hv => by
      have hadd : (⟨b, o, none⟩ : Addr).add j = ⟨b, o + j, none⟩ := by unfold Addr.add; split <;> simp_all
      rw [hadd]; exact hc j v hv)
  rw [hn] at hl
  cases hq : P.info? ty with
  | none => simp [hq] at hi
  | some i =>
    have hs : i.size = n := by simpa [hq] using hi
    have hagg : (isAgg ty).run P w = .ok true w := by
      unfold isAgg
      rw [Sem.run_bind, run_underlying hu w]
      cases d <;> simp_all
    simp [Instr.loadAt, Instr.sureAddr, loadVar, Sem.run_bind, hagg, sizeOf, typeInfo, hq, hs, hl]
theorem kS {P : Program} {ops : Array Oper} {rest : List Oper} {op : Oper} {a : Act} {w : World} {Q : Exit → Act → World → Prop} (hw : Region.wanted op (yielded ops a.tmps) = true) (ty : TypeId) (x : Operand) (ho : op.op = .load ty x)
    (b o : Nat) (hx : a.eval x = .pointer (some ⟨b, o, none⟩)) (n : Nat) (d : TypeDesc) (hu : P.underlying ty = some d) (hd : (match d with | .struct _ | .array _ _ => true | _ => false) = true) (hi : (P.info? ty).map (·.size) = some n)
    (cs : List Value) (hn : cs.length = n) (hc : ∀ (j : Nat) (u : Value), cs[j]? = some u → w.cell? ⟨b, o + j, none⟩ = some u)
    (h : wpList P ops Q rest (a.put op.dst (.agg cs.toArray)) w) : wpList P ops Q (op :: rest) a w :=
  wpList_step fun K hK => by
    have hr := NL (P := P) ty n d hu hd hi cs hn hc
    rw [if_pos hw]
    unfold Oper.wp execOp
    simp only [ho, hx, Sem.run_bind, hr, Result.andThen_ok, Sem.run_pure, Oper.upon]
    exact hK _ _ h
theorem cz.el {B : Nat} {w : World} {s : Sl} {size : Nat} {xs : List (List Value)} (h : cz B w s size xs) {i : Nat} {x : List Value} (hx : xs[i]? = some x) :
    ∃ b off, s.a = some ⟨b, off, none⟩ ∧ b < B ∧ ∀ (j : Nat) (u : Value), x[j]? = some u → w.cell? ⟨b, off + i * size + j, none⟩ = some u := by
  have hi := (List.getElem?_eq_some_iff.1 hx).1
  obtain ⟨b, off, ha, hlt, hc⟩ := h.at' (by rw [h.len]; omega)
  exact ⟨b, off, ha, hlt, hc i x hx⟩
end
section
def fM (n : Int) : List Int := [n / 16777216, n / 65536 % 256, n / 256 % 256, n % 256]
def lq (n : Int) : List Int := fM (n / 4294967296) ++ fM (n % 4294967296)
theorem aT (n : Int) : (fM n).length = 4 := rfl
theorem aU (n : Int) : (lq n).length = 8 := rfl
def U8 (n : Int) : Prop := 0 ≤ n ∧ n < 256
def gm (n : Int) : Prop := 0 ≤ n ∧ n < 4294967296
def gp (n : Int) : Prop := 0 ≤ n ∧ n < 18446744073709551616
structure aD.wf (q : aD) : Prop where
  c : U8 q.c
  s : gm q.s
  k : U8 q.k
  key : gp q.key
  v : gp q.v
  hi : gp q.hi
  to : U8 q.to
structure ay.wf (p : ay) : Prop where
  c : U8 p.c
  s : gm p.s
  key : gp p.key
  k : U8 p.k
  v : gp p.v
  g : U8 p.g
structure Row.wf (x : Row) : Prop where
  key : gp x.key
  val : gp x.val
structure ax.wf (r : ax) : Prop where
  src : U8 r.src
  dst : U8 r.dst
  seq : gm r.seq
  lo : gp r.lo
  hi : gp r.hi
  rows : ∀ (i : Nat) (x : Row), r.rows[i]? = some x → x.wf
  bC : ∀ (i : Nat) (x : ay), r.bC[i]? = some x → x.wf
structure aR.wf (c : aR) : Prop where
  kind : U8 c.kind
  aL : c.aL.wf
  aH : c.aH.wf
  peer : U8 c.peer
  seq : gm c.seq
structure bz.wf (v : bz) : Prop where
  slot : gm v.slot
  n : gm v.n
  id : U8 v.id
  cmd : v.cmd.wf
structure aM.wf (m : aM) : Prop where
  kind : U8 m.kind
  aL : m.aL.wf
  rep : m.rep.wf
  n : gm m.n
  id : U8 m.id
  slot : gm m.slot
  cmd : m.cmd.wf
  aV : ∀ (i : Nat) (x : bz), m.aV[i]? = some x → x.wf
  aH : m.aH.wf
  peer : U8 m.peer
  seq : gm m.seq
def aD.tail (q : aD) : List Int := if q.k = 2 then lq q.v else if q.k = 4 then lq q.hi ++ [q.to] else []
def aD.bytes (q : aD) : List Int := [q.c] ++ fM q.s ++ [q.k] ++ lq q.key ++ q.tail
def ay.tail (p : ay) : List Int := if p.k = 1 then (if p.found then [1] ++ lq p.v else [0]) else if p.k = 3 then [p.g] else []
def ay.bytes (p : ay) : List Int := [p.c] ++ fM p.s ++ lq p.key ++ [p.k] ++ p.tail
def Row.bytes (x : Row) : List Int := lq x.key ++ lq x.val
def ni (rows : List Row) : List Int := (rows.map Row.bytes).flatten
def lN (bC : List ay) : List Int := (bC.map ay.bytes).flatten
def ax.bytes (r : ax) : List Int := [r.src] ++ [r.dst] ++ fM r.seq ++ lq r.lo ++ lq r.hi ++ ([(r.rows.length : Int)] ++ ni r.rows) ++ ([(r.bC.length : Int)] ++ lN r.bC)
def aR.tail (c : aR) : List Int := if c.kind = 1 then c.aL.bytes else if c.kind = 2 then c.aH.bytes else if c.kind = 3 then [c.peer] ++ fM c.seq else []
def aR.bytes (c : aR) : List Int := [c.kind] ++ c.tail
def bJ (n id : Int) : List Int := fM n ++ [id]
def bz.bytes (v : bz) : List Int := fM v.slot ++ bJ v.n v.id ++ v.cmd.bytes
def kT (aV : List bz) : List Int := (aV.map bz.bytes).flatten
def aM.tail (m : aM) : List Int :=
  if m.kind = 1 then m.aL.bytes else if m.kind = 2 then m.rep.bytes else if m.kind = 3 ∨ m.kind = 5 then bJ m.n m.id
  else if m.kind = 4 then bJ m.n m.id ++ ([(m.aV.length : Int)] ++ kT m.aV) else if m.kind = 6 then bJ m.n m.id ++ fM m.slot ++ m.cmd.bytes
  else if m.kind = 7 then bJ m.n m.id ++ fM m.slot else if m.kind = 8 then fM m.slot ++ m.cmd.bytes else if m.kind = 9 then m.aH.bytes else if m.kind = 10 then [m.peer] ++ fM m.seq else []
def aM.bytes (m : aM) : List Int := [m.kind] ++ m.tail
theorem aD.len (q : aD) : q.bytes.length ≤ 23 := by
  simp only [aD.bytes, aD.tail]; split <;> (try split) <;> simp [aT, aU]
theorem ay.len (p : ay) : p.bytes.length ≤ 23 := by
  simp only [ay.bytes, ay.tail]; split <;> (try split) <;> simp [aT, aU]
theorem Row.len (x : Row) : x.bytes.length = 16 := rfl
theorem AB (rows : List Row) : (ni rows).length = 16 * rows.length := by
  induction rows with
  | nil => rfl
  | cons x r ih => simp only [ni, List.map_cons, List.flatten_cons, List.length_append, Row.len, List.length_cons] at ih ⊢; omega
theorem ET (bC : List ay) : (lN bC).length ≤ 23 * bC.length := by
  induction bC with
  | nil => simp [lN]
  | cons x r ih => have := x.len; simp only [lN, List.map_cons, List.flatten_cons, List.length_append, List.length_cons] at ih ⊢; omega
theorem ax.len (r : ax) (h1 : r.rows.length ≤ 255) (h2 : r.bC.length ≤ 255) : r.bytes.length ≤ 12000 := by
  have := AB r.rows; have := ET r.bC
  simp only [ax.bytes, List.length_append, List.length_cons, List.length_nil, aT, aU]; omega
theorem aR.len (c : aR) (h1 : c.kind = 2 → c.aH.rows.length ≤ 255) (h2 : c.kind = 2 → c.aH.bC.length ≤ 255) : c.bytes.length ≤ 12001 := by
  have := c.aL.len
  simp only [aR.bytes, aR.tail]
  split
  · simp; omega
  · split
    · rename_i hk; have := c.aH.len (h1 hk) (h2 hk); simp; omega
    · split <;> simp [aT]
theorem sU {α : Type} (f : α → List Int) (l : List α) (k : Nat) (x : α) (hx : l[k]? = some x) : ((l.take (k + 1)).map f).flatten = ((l.take k).map f).flatten ++ f x := by
  have hk := (List.getElem?_eq_some_iff.1 hx)
  rw [List.take_succ_eq_append_getElem hk.1, hk.2]
  simp
theorem jm : (Tryz.prog.info? 50).map (·.size) = some 7 := by kernel_rfl
theorem iJ : (Tryz.prog.info? 57).map (·.size) = some 7 := by kernel_rfl
theorem uB : (Tryz.prog.info? 128).map (·.size) = some 2 := by kernel_rfl
theorem nk : (Tryz.prog.info? 52).map (·.size) = some 7 := by kernel_rfl
theorem dS : (Tryz.prog.info? 54).map (·.size) = some 17 := by kernel_rfl
theorem gU : (Tryz.prog.info? 143).map (·.size) = some 2 := by kernel_rfl
theorem nV : (Tryz.prog.info? 196).map (·.size) = some 20 := by kernel_rfl
theorem bX : (Tryz.prog.info? 203).map (·.size) = some 45 := by kernel_rfl
theorem iC : (Tryz.prog.info? 5).map (·.size) = some 1 := by kernel_rfl
theorem fK : (Tryz.prog.info? 47).map (·.size) = some 1 := by kernel_rfl
theorem kU : (Tryz.prog.info? 48).map (·.size) = some 1 := by kernel_rfl
theorem RB : (Tryz.prog.info? 25).map (·.size) = some 1 := by kernel_rfl
theorem RD : (Tryz.prog.info? 27).map (·.size) = some 1 := by kernel_rfl
theorem AJ : (Tryz.prog.info? 194).map (·.size) = some 1 := by kernel_rfl
end
section
open Go.RowKit
def lG (n : Int) : Value := .int .u8 n
theorem Ig : (Tryz.prog.info? 5).map (fun i => (i.zero, i.size, i.bytes)) = some (some (.int .u8 0), 1, 1) := by kernel_rfl
def aY (base : Nat) (w : World) (v : Value) (l : List Int) : Prop := w.ownsRow base 5 1 v l.length (l.map lG)
theorem RF (l : List Int) : ∀ u ∈ l.map lG, u.oneCell' = true := by
  intro u hu
  obtain ⟨n, _, rfl⟩ := List.mem_map.1 hu
  rfl
structure bD (w : World) (v : Value) (w' : World) (v' : Value) : Prop where
  grown : w.grownBy w' v.ownBlock
  own : v'.ownBlock = v.ownBlock ∨ ∀ k, v'.ownBlock = some k → w.heap.size ≤ k
theorem bD.trans {a b c : World} {v u t : Value} (h : bD a v b u) (k : bD b u c t) : bD a v c t := by
  refine ⟨⟨k.grown.os.trans h.grown.os, k.grown.tape.trans h.grown.tape, k.grown.output.trans h.grown.output, Nat.le_trans h.grown.size k.grown.size, fun i hi hne => ?_⟩, ?_⟩
  · refine (k.grown.block i (Nat.lt_of_lt_of_le hi h.grown.size) ?_).trans (h.grown.block i hi hne)
    rcases h.own with ho | ho
    · rw [ho]; exact hne
    · intro e; have := ho i e.symm; omega
  · rcases k.own with ho | ho
    · rw [ho]; exact h.own
    · exact .inr fun i hi => Nat.le_trans h.grown.size (ho i hi)
theorem bD.alloc (w : World) (v : Value) (o : Obj) : bD w v (w.alloc o) v := ⟨World.grownBy_alloc w o _, .inl rfl⟩
theorem bD.drewN (w : World) (v : Value) (n : Nat) : bD w v (w.drewN n) v := ⟨⟨rfl, rfl, rfl, Nat.le_refl _, fun _ _ _ => rfl⟩, .inl rfl⟩
theorem bD.below {base : Nat} {w w' : World} {v v' : Value} {l : List Int} (h : bD w v w' v') (hown : aY base w v l) (hb : base ≤ w.heap.size) : Below base w w' :=
  (Below.refl base w).grown h.grown hb (fun k hk => (hown.lt k hk).1)
theorem bD.blk {W w' : World} {v v' : Value} {B : Nat} {o : Obj} (h : bD W v w' v') (hW : W.heap[B]? = some o) (hne : some B ≠ v.ownBlock) : w'.heap[B]? = some o :=
  (h.grown.block B (Array.getElem?_eq_some_iff.1 hW).1 hne).trans hW
theorem aY.ne {base : Nat} {w : World} {v : Value} {l : List Int} (h : aY base w v l) : some w.heap.size ≠ v.ownBlock := by
  intro e; have := (h.lt _ e.symm).2; omega
section
variable {P : Program} (w : World)
theorem qx (base : Nat) (t ty e : TypeId) (i : TypeInfo) (z : Value) (size bytes : Nat) (ht : P.underlying t = some (.slice e)) (hi : P.info? e = some i) (hz : i.zero = some z)
    (hsize : i.size = size) (hby : i.bytes = bytes) (hzs : z.cells.size = size) (hsz : 0 < size) (v : Value) (n : Nat) (xs : List Value) (hown : w.ownsRow base e size v n xs)
    (a : Addr) (m c : Nat) (news : List Value) (hl : news.length = m * size) (hnews : ∀ j u, news[j]? = some u → w.cell? (a.add j) = some u) (h1 : ∀ u ∈ news, u.oneCell' = true)
    (h63 : n + m ≤ maxLen) (hbytes : (n + m) * bytes ≤ 140737488355328) (hbase : base ≤ w.heap.size) :
    ∃ v' w', (Builtin.append_ #[t, t] ty #[v, .slice (some a) m c]).run P w = .ok v' w' ∧ w'.ownsRow base e size v' (n + m) (xs ++ news) ∧ bD w v w' v' := by
  obtain ⟨v', w', hr, ho, hg, _⟩ := run_append_own (P := P) w base t ty e i z size bytes ht hi hz hsize hby hzs hsz v n xs hown a m c news hl hnews h1 h63 hbytes hbase
  refine ⟨v', w', hr, ho, hg, ?_⟩
  rcases hown.2 with ⟨rfl, rfl⟩ | ⟨g, cap, cur, rfl, hbg, hgg, hnc, hcm, hcs, htake⟩
  · right
    have hx : xs = [] := List.eq_nil_of_length_eq_zero (by simpa using hown.1)
    subst hx
    obtain ⟨v2, w2, hr2, ho2, _, _⟩ := run_append_own (P := P) w w.heap.size t ty e i z size bytes ht hi hz hsize hby hzs hsz _ 0 [] (World.ownsRow_nil w w.heap.size e size) a m c news hl hnews h1 h63 hbytes (Nat.le_refl _)
    rw [hr2] at hr
    injection hr with e1 e2
    subst e1
    exact fun k hk => (ho2.lt k hk).1
  · have hsmall : n + m ≤ 9223372036854775807 := by simp only [maxLen] at h63; omega
    subst hsize; subst hby
    by_cases hroom : n + m ≤ cap
    · have hfit : n * i.size + news.length ≤ cur.size := by rw [hl, hcs, ← Nat.add_mul]; exact Nat.mul_le_mul_right _ hroom
      rw [run_append_room (P := P) w t ty e i ht hi g n cap cur hgg a m c news hl hnews h1 hroom hfit] at hr
      injection hr with e1 e2
      subst e1
      exact .inl rfl
    · rw [run_append_grow (P := P) w t ty e i z ht hi hz ⟨g, 0, none⟩ n cap xs hown.1 (hown.cells (g := g) rfl) a m c news hl hnews (by omega) (by omega) (growslice_fits (by omega) hbytes)] at hr
      injection hr with e1 e2
      subst e1
      exact .inr fun k hk => by simp [Value.ownBlock] at hk; omega
theorem ku {ops : Array Oper} {rest : List Oper} {o : Oper} {a : Act} {Q : Exit → Act → World → Prop} (hgd : o.guard = none) (s x : Operand) (t : TypeId)
    (ho : o.op = .call { callee := .builtin .append, args := #[s, x], argTypes := #[t, t] })
    (base : Nat) (e : TypeId) (i : TypeInfo) (z : Value) (size bytes : Nat) (ht : P.underlying t = some (.slice e)) (hi : P.info? e = some i) (hz : i.zero = some z)
    (hsize : i.size = size) (hby : i.bytes = bytes) (hzs : z.cells.size = size) (hsz : 0 < size) (v : Value) (n : Nat) (xs : List Value) (hs : a.eval s = v) (hown : w.ownsRow base e size v n xs)
    (ad : Addr) (m c : Nat) (news : List Value) (hx : a.eval x = .slice (some ad) m c) (hl : news.length = m * size) (hnews : ∀ j u, news[j]? = some u → w.cell? (ad.add j) = some u) (h1 : ∀ u ∈ news, u.oneCell' = true)
    (h63 : n + m ≤ maxLen) (hbytes : (n + m) * bytes ≤ 140737488355328) (hbase : base ≤ w.heap.size)
    (h : ∀ v' w', w'.ownsRow base e size v' (n + m) (xs ++ news) → bD w v w' v' → wpList P ops Q rest (a.put o.dst v') w') : wpList P ops Q (o :: rest) a w :=
  wpList_plain hgd fun _ hK => by
    obtain ⟨v', w', hr, h2, h3⟩ := qx (P := P) w base t o.type e i z size bytes ht hi hz hsize hby hzs hsz v n xs hown ad m c news hl hnews h1 h63 hbytes hbase
    unfold Oper.wp execOp
    simp only [ho, resolve, invoke, builtin, Sem.run_bind, Sem.run_pure, Result.andThen_ok, List.map_toArray, List.map_cons, List.map_nil, hs, hx, hr]
    exact hK _ _ (h v' w' h2 h3)
end
theorem dK (base : Nat) (v : Value) (l : List Int) (n : Int) (w : World) (hown : aY base w v l) (hb : base ≤ w.heap.size) (hl : l.length < 2147483648) :
    Calls Tryz.prog 214 #[v, .int .u8 n] w fun e w' => ∃ v', e = .returned v' ∧ aY base w' v' (l ++ [n]) ∧ bD w v w' v' := by
  obtain ⟨i0, hi, hz0, hz1, hz2⟩ := info_parts Ig
  go_enter Tryz.func214, Tryz.ntmps214
  go_wp2_with (first | (at_builtin; go_must (refine ku _ rfl _ _ 277 rfl base 5 i0 (.int .u8 0) 1 1 Tryz.underlying277 hi hz0 hz1 hz2 rfl (by decide) v l.length (l.map lG) rfl (World.ownsRow.alloc hown _) ⟨w.heap.size, 0, none⟩ 1 1 [.int .u8 n] rfl rfl ?_ ?_ ?_ ?_ ?_ ?_)))
  case refine_1 =>
    intro j u hj
    match j, hj with
    | 0, hj => simp at hj; subst hj; simp [Addr.add]
  case refine_2 => intro u hu; simp at hu; subst hu; rfl
  case refine_3 => unfold maxLen; omega
  case refine_4 => omega
  case refine_5 => simp; omega
  intro v' w1 hown' hgrow
  go_wp2
  go_ret
  refine ⟨v', rfl, ?_, ?_⟩
  · show w1.ownsRow base 5 1 v' (l ++ [n]).length ((l ++ [n]).map lG)
    rw [List.length_append, List.map_append]; exact hown'
  · exact (bD.alloc w v _).trans hgrow
theorem fB (base : Nat) (v : Value) (l : List Int) (n : Int) (w : World) (hown : aY base w v l) (hb : base ≤ w.heap.size) (hl : l.length < 2147483648) (h0 : 0 ≤ n) (h1 : n < 4294967296) :
    Calls Tryz.prog 220 #[v, .int .u32 n] w fun e w' => ∃ v', e = .returned v' ∧ aY base w' v' (l ++ fM n) ∧ bD w v w' v' := by
  obtain ⟨i0, hi, hz0, hz1, hz2⟩ := info_parts Ig
  go_enter Tryz.func220, Tryz.ntmps220
  go_wp2_with (first | (at_builtin; go_must (refine ku _ rfl _ _ 277 rfl base 5 i0 (.int .u8 0) 1 1 Tryz.underlying277 hi hz0 hz1 hz2 rfl (by decide) v l.length (l.map lG) rfl (World.ownsRow.alloc hown _) ⟨w.heap.size, 0, none⟩ 4 4 ((fM n).map lG) rfl rfl ?_ ?_ ?_ ?_ ?_ ?_)))
  case refine_1 =>
    intro j u hj
    match j, hj with
    | 0, hj => simp [fM, lG] at hj; subst hj; simp [Addr.add]
    | 1, hj => simp [fM, lG] at hj; subst hj; simp [Addr.add]
    | 2, hj => simp [fM, lG] at hj; subst hj; simp [Addr.add]
    | 3, hj => simp [fM, lG] at hj; subst hj; simp [Addr.add]
  case refine_2 => exact RF _
  case refine_3 => unfold maxLen; omega
  case refine_4 => omega
  case refine_5 => simp; omega
  intro v' w1 hown' hgrow
  go_wp2
  go_ret
  refine ⟨v', rfl, ?_, ?_⟩
  · show w1.ownsRow base 5 1 v' (l ++ fM n).length ((l ++ fM n).map lG)
    rw [List.length_append, List.map_append]; exact hown'
  · exact (bD.alloc w v _).trans hgrow
theorem kV (base : Nat) (v : Value) (l : List Int) (n : Int) (w : World) (hown : aY base w v l) (hb : base ≤ w.heap.size) (hl : l.length < 2147483600) (h0 : 0 ≤ n) (h1 : n < 18446744073709551616) :
    Calls Tryz.prog 234 #[v, .int .u64 n] w fun e w' => ∃ v', e = .returned v' ∧ aY base w' v' (l ++ lq n) ∧ bD w v w' v' := by
  go_enter Tryz.func234, Tryz.ntmps234
  go_wp2_with (go_at_call 220; go_must (first | (refine (fB base _ l _ _ (by assumption) (by assumption) (by omega) (by omega) (by omega)).mono ?_; rintro e w1 ⟨v1, rfl, hown1, nL⟩; have hb1 := Nat.le_trans hb nL.grown.size; clear hown) | (refine (fB base _ _ _ _ hown1 hb1 (by simp [fM]; omega) (by omega) (by omega)).mono ?_; rintro e w2 ⟨v2, rfl, hown2, pQ⟩)))
  go_ret
  exact ⟨v2, rfl, by rw [lq, ← List.append_assoc]; exact hown2, nL.trans pQ⟩
theorem zw (base : Nat) (v : Value) (l : List Int) (f : Bool) (w : World) (hown : aY base w v l) (hb : base ≤ w.heap.size) (hl : l.length < 2147483648) :
    Calls Tryz.prog 235 #[v, .bool f] w fun e w' => ∃ v', e = .returned v' ∧ aY base w' v' (l ++ [if f then 1 else 0]) ∧ bD w v w' v' := by
  cases f
  all_goals
    go_enter Tryz.func235, Tryz.ntmps235
    go_wp2_with (go_at_call 214; go_must (refine (dK base _ l _ _ hown hb hl).mono ?_; rintro e w1 ⟨v1, rfl, hown1, nL⟩))
    go_ret
    exact ⟨v1, rfl, hown1, nL⟩
end
end Go.Proofs.YtignemioillaiaaGreat
