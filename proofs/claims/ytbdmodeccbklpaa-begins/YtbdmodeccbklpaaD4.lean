/- The bytes of requests, replies, rows, ranges, commands, votes and messages; the numbers' bounds. -/
import Derived.Test.YtbdmodeccbklpaaD3
namespace Go.Proofs.Ytbdmodeccbklpaa

def be32 (n : Int) : List Int := [n / 16777216, n / 65536 % 256, n / 256 % 256, n % 256]
def be64 (n : Int) : List Int := be32 (n / 4294967296) ++ be32 (n % 4294967296)

theorem be32_len (n : Int) : (be32 n).length = 4 := rfl
theorem be64_len (n : Int) : (be64 n).length = 8 := rfl

def U8 (n : Int) : Prop := 0 ≤ n ∧ n < 256
def U32 (n : Int) : Prop := 0 ≤ n ∧ n < 4294967296
def U64 (n : Int) : Prop := 0 ≤ n ∧ n < 18446744073709551616

structure Req.wf (q : Req) : Prop where
  c : U8 q.c
  s : U32 q.s
  k : U8 q.k
  key : U64 q.key
  v : U64 q.v
  hi : U64 q.hi
  to : U8 q.to

structure Rep.wf (p : Rep) : Prop where
  c : U8 p.c
  s : U32 p.s
  key : U64 p.key
  k : U8 p.k
  v : U64 p.v
  g : U8 p.g

structure Row.wf (x : Row) : Prop where
  key : U64 x.key
  val : U64 x.val

structure Rng.wf (r : Rng) : Prop where
  src : U8 r.src
  dst : U8 r.dst
  seq : U32 r.seq
  lo : U64 r.lo
  hi : U64 r.hi
  rows : ∀ (i : Nat) (x : Row), r.rows[i]? = some x → x.wf
  dups : ∀ (i : Nat) (x : Rep), r.dups[i]? = some x → x.wf

structure Cmd.wf (c : Cmd) : Prop where
  kind : U8 c.kind
  req : c.req.wf
  rng : c.rng.wf
  peer : U8 c.peer
  seq : U32 c.seq

structure Vot.wf (v : Vot) : Prop where
  slot : U32 v.slot
  n : U32 v.n
  id : U8 v.id
  cmd : v.cmd.wf

structure Msg.wf (m : Msg) : Prop where
  kind : U8 m.kind
  req : m.req.wf
  rep : m.rep.wf
  n : U32 m.n
  id : U8 m.id
  slot : U32 m.slot
  cmd : m.cmd.wf
  votes : ∀ (i : Nat) (x : Vot), m.votes[i]? = some x → x.wf
  rng : m.rng.wf
  peer : U8 m.peer
  seq : U32 m.seq

def Req.tail (q : Req) : List Int := if q.k = 2 then be64 q.v else if q.k = 4 then be64 q.hi ++ [q.to] else []
def Req.bytes (q : Req) : List Int := [q.c] ++ be32 q.s ++ [q.k] ++ be64 q.key ++ q.tail

def Rep.tail (p : Rep) : List Int := if p.k = 1 then (if p.found then [1] ++ be64 p.v else [0]) else if p.k = 3 then [p.g] else []
def Rep.bytes (p : Rep) : List Int := [p.c] ++ be32 p.s ++ be64 p.key ++ [p.k] ++ p.tail

def Row.bytes (x : Row) : List Int := be64 x.key ++ be64 x.val

def rowsBytes (rows : List Row) : List Int := (rows.map Row.bytes).flatten
def dupsBytes (dups : List Rep) : List Int := (dups.map Rep.bytes).flatten

def Rng.bytes (r : Rng) : List Int := [r.src] ++ [r.dst] ++ be32 r.seq ++ be64 r.lo ++ be64 r.hi ++ ([(r.rows.length : Int)] ++ rowsBytes r.rows) ++ ([(r.dups.length : Int)] ++ dupsBytes r.dups)

def Cmd.tail (c : Cmd) : List Int := if c.kind = 1 then c.req.bytes else if c.kind = 2 then c.rng.bytes else if c.kind = 3 then [c.peer] ++ be32 c.seq else []
def Cmd.bytes (c : Cmd) : List Int := [c.kind] ++ c.tail

def ballotBytes (n id : Int) : List Int := be32 n ++ [id]
def Vot.bytes (v : Vot) : List Int := be32 v.slot ++ ballotBytes v.n v.id ++ v.cmd.bytes
def votesBytes (votes : List Vot) : List Int := (votes.map Vot.bytes).flatten

def Msg.tail (m : Msg) : List Int :=
  if m.kind = 1 then m.req.bytes else if m.kind = 2 then m.rep.bytes else if m.kind = 3 ∨ m.kind = 5 then ballotBytes m.n m.id
  else if m.kind = 4 then ballotBytes m.n m.id ++ ([(m.votes.length : Int)] ++ votesBytes m.votes) else if m.kind = 6 then ballotBytes m.n m.id ++ be32 m.slot ++ m.cmd.bytes
  else if m.kind = 7 then ballotBytes m.n m.id ++ be32 m.slot else if m.kind = 8 then be32 m.slot ++ m.cmd.bytes else if m.kind = 9 then m.rng.bytes else if m.kind = 10 then [m.peer] ++ be32 m.seq else []
def Msg.bytes (m : Msg) : List Int := [m.kind] ++ m.tail

theorem Req.len (q : Req) : q.bytes.length ≤ 23 := by
  simp only [Req.bytes, Req.tail]; split <;> (try split) <;> simp [be32_len, be64_len]
theorem Rep.len (p : Rep) : p.bytes.length ≤ 23 := by
  simp only [Rep.bytes, Rep.tail]; split <;> (try split) <;> simp [be32_len, be64_len]
theorem Row.len (x : Row) : x.bytes.length = 16 := rfl

theorem rows_len (rows : List Row) : (rowsBytes rows).length = 16 * rows.length := by
  induction rows with
  | nil => rfl
  | cons x r ih => simp only [rowsBytes, List.map_cons, List.flatten_cons, List.length_append, Row.len, List.length_cons] at ih ⊢; omega
theorem dups_len (dups : List Rep) : (dupsBytes dups).length ≤ 23 * dups.length := by
  induction dups with
  | nil => simp [dupsBytes]
  | cons x r ih => have := x.len; simp only [dupsBytes, List.map_cons, List.flatten_cons, List.length_append, List.length_cons] at ih ⊢; omega
theorem Rng.len (r : Rng) (h1 : r.rows.length ≤ 255) (h2 : r.dups.length ≤ 255) : r.bytes.length ≤ 12000 := by
  have := rows_len r.rows; have := dups_len r.dups
  simp only [Rng.bytes, List.length_append, List.length_cons, List.length_nil, be32_len, be64_len]; omega
theorem Cmd.len (c : Cmd) (h1 : c.kind = 2 → c.rng.rows.length ≤ 255) (h2 : c.kind = 2 → c.rng.dups.length ≤ 255) : c.bytes.length ≤ 12001 := by
  have := c.req.len
  simp only [Cmd.bytes, Cmd.tail]
  split
  · simp; omega
  · split
    · rename_i hk; have := c.rng.len (h1 hk) (h2 hk); simp; omega
    · split <;> simp [be32_len]

theorem flat_take {α : Type} (f : α → List Int) (l : List α) (k : Nat) (x : α) (hx : l[k]? = some x) : ((l.take (k + 1)).map f).flatten = ((l.take k).map f).flatten ++ f x := by
  have hk := (List.getElem?_eq_some_iff.1 hx)
  rw [List.take_succ_eq_append_getElem hk.1, hk.2]
  simp

end Go.Proofs.Ytbdmodeccbklpaa
