/- Reading bytes, as plain lists: numbers from the front (where they are cut short: 0, and nothing is left), requests, replies, ranges, commands, votes, messages; what was written is read: no program text here. Reading a message: what was written is read. The document's reader, which minds where the bytes are broken: no program text here. -/
import Derived.Test.YtignemioillaiaaO1
import Derived.Test.YtignemioillaiaaD4
namespace Go.Proofs.Ytignemioillaiaa
open Go.RowKit

def be (l : List Int) : Int := l.foldl (fun n b => n * 256 + b) 0
def num (n : Nat) (l : List Int) : Int × List Int := if l.length < n then (0, []) else (be (l.take n), l.drop n)

theorem num_1 (x : Int) (r : List Int) : num 1 (x :: r) = (x, r) := by
  unfold num; rw [if_neg (by simp)]; simp [be]
theorem num_4 {v : Int} (_h : U32 v) (r : List Int) : num 4 (be32 v ++ r) = (v, r) := by
  unfold U32 at _h
  unfold num; rw [if_neg (by simp [be32_len])]
  have h1 : (be32 v ++ r).take 4 = be32 v := by rw [← be32_len v]; exact List.take_left
  have h2 : (be32 v ++ r).drop 4 = r := by rw [← be32_len v]; exact List.drop_left
  rw [h1, h2]
  simp only [be, be32, List.foldl_cons, List.foldl_nil]
  congr 1; omega
theorem num_8 {v : Int} (_h : U64 v) (r : List Int) : num 8 (be64 v ++ r) = (v, r) := by
  unfold U64 at _h
  unfold num; rw [if_neg (by simp [be64_len])]
  have h1 : (be64 v ++ r).take 8 = be64 v := by rw [← be64_len v]; exact List.take_left
  have h2 : (be64 v ++ r).drop 8 = r := by rw [← be64_len v]; exact List.drop_left
  rw [h1, h2]
  simp only [be, be64, be32, List.cons_append, List.nil_append, List.foldl_cons, List.foldl_nil]
  congr 1; omega

/-- Reading: what is read, and what is left. -/
abbrev Rd (α : Type) := List Int → α × List Int

def rdReq : Rd Req := fun l =>
  let c := num 1 l; let s := num 4 c.2; let k := num 1 s.2; let key := num 8 k.2
  if k.1 = 2 then let v := num 8 key.2; (⟨c.1, s.1, k.1, key.1, v.1, 0, 0⟩, v.2)
  else if k.1 = 4 then let hi := num 8 key.2; let to := num 1 hi.2; (⟨c.1, s.1, k.1, key.1, 0, hi.1, to.1⟩, to.2)
  else (⟨c.1, s.1, k.1, key.1, 0, 0, 0⟩, key.2)

def rdRep : Rd Rep := fun l =>
  let c := num 1 l; let s := num 4 c.2; let key := num 8 s.2; let k := num 1 key.2
  if k.1 = 1 then
    let f := num 1 k.2
    if f.1 = 0 then (⟨c.1, s.1, key.1, k.1, false, 0, 0⟩, f.2) else let v := num 8 f.2; (⟨c.1, s.1, key.1, k.1, true, v.1, 0⟩, v.2)
  else if k.1 = 3 then let g := num 1 k.2; (⟨c.1, s.1, key.1, k.1, false, 0, g.1⟩, g.2)
  else (⟨c.1, s.1, key.1, k.1, false, 0, 0⟩, k.2)

def rdRow : Rd Row := fun l => let k := num 8 l; let v := num 8 k.2; (⟨k.1, v.1⟩, v.2)

/-- n things, or fewer where the bytes end. -/
def rdList {α : Type} (f : Rd α) : Nat → Rd (List α)
  | 0, l => ([], l)
  | n + 1, l => if l = [] then ([], []) else let x := f l; let r := rdList f n x.2; (x.1 :: r.1, r.2)

def rdRng : Rd Rng := fun l =>
  let src := num 1 l; let dst := num 1 src.2; let seq := num 4 dst.2; let lo := num 8 seq.2; let hi := num 8 lo.2
  let n := num 1 hi.2; let rows := rdList rdRow n.1.toNat n.2; let k := num 1 rows.2; let dups := rdList rdRep k.1.toNat k.2
  (⟨src.1, dst.1, seq.1, lo.1, hi.1, ⟨none, rows.1.length, rows.1.length⟩, ⟨none, dups.1.length, dups.1.length⟩, rows.1, dups.1⟩, dups.2)

def noReq : Req := ⟨0, 0, 0, 0, 0, 0, 0⟩
def noRep : Rep := ⟨0, 0, 0, 0, false, 0, 0⟩
def noRng : Rng := ⟨0, 0, 0, 0, 0, ⟨none, 0, 0⟩, ⟨none, 0, 0⟩, [], []⟩
def noCmd : Cmd := ⟨0, noReq, noRng, 0, 0⟩

def rdCmd : Rd Cmd := fun l =>
  let k := num 1 l
  if k.1 = 1 then let q := rdReq k.2; (⟨k.1, q.1, noRng, 0, 0⟩, q.2)
  else if k.1 = 2 then let r := rdRng k.2; (⟨k.1, noReq, r.1, 0, 0⟩, r.2)
  else if k.1 = 3 then let p := num 1 k.2; let s := num 4 p.2; (⟨k.1, noReq, noRng, p.1, s.1⟩, s.2)
  else (⟨k.1, noReq, noRng, 0, 0⟩, k.2)

def rdVot : Rd Vot := fun l =>
  let s := num 4 l; let n := num 4 s.2; let i := num 1 n.2; let c := rdCmd i.2
  (⟨s.1, n.1, i.1, c.1⟩, c.2)

theorem no_req {q : Req} (h : q.no = true) : q = noReq := by
  obtain ⟨c, s, k, key, v, hi, to⟩ := q
  simp only [Req.no, Bool.and_eq_true, beq_iff_eq] at h
  obtain ⟨⟨⟨⟨⟨⟨rfl, rfl⟩, rfl⟩, rfl⟩, rfl⟩, rfl⟩, rfl⟩ := h
  rfl
theorem no_rep {p : Rep} (h : p.no = true) : p = noRep := by
  obtain ⟨c, s, key, k, f, v, g⟩ := p
  simp only [Rep.no, Bool.and_eq_true, beq_iff_eq, Bool.not_eq_true'] at h
  obtain ⟨⟨⟨⟨⟨⟨rfl, rfl⟩, rfl⟩, rfl⟩, rfl⟩, rfl⟩, rfl⟩ := h
  rfl
theorem no_rng {r : Rng} (h : r.no = true) (hf : r.fit) : r.strip = noRng := by
  obtain ⟨src, dst, seq, lo, hi, ⟨ra, rn, rc⟩, ⟨da, dn, dc⟩, rows, dups⟩ := r
  obtain ⟨h1, h2⟩ := hf
  simp only [Rng.no, Bool.and_eq_true, beq_iff_eq] at h
  obtain ⟨⟨⟨⟨⟨⟨rfl, rfl⟩, rfl⟩, rfl⟩, rfl⟩, h3⟩, h4⟩ := h
  simp only at h1 h2 h3 h4
  have e1 : rows = [] := List.eq_nil_of_length_eq_zero (by omega)
  have e2 : dups = [] := List.eq_nil_of_length_eq_zero (by omega)
  subst e1; subst e2
  rfl

/-- A message of a kind, with nothing else in it. -/
def bareMsg (k : Int) : Msg := ⟨k, noReq, noRep, 0, 0, 0, noCmd, ⟨none, 0, 0⟩, noRng, 0, 0, []⟩

def rdMsg : Rd Msg := fun l =>
  let k := num 1 l
  if k.1 = 1 then let q := rdReq k.2; ({ bareMsg k.1 with req := q.1 }, q.2)
  else if k.1 = 2 then let p := rdRep k.2; ({ bareMsg k.1 with rep := p.1 }, p.2)
  else if k.1 = 3 ∨ k.1 = 5 then let n := num 4 k.2; let i := num 1 n.2; ({ bareMsg k.1 with n := n.1, id := i.1 }, i.2)
  else if k.1 = 4 then let n := num 4 k.2; let i := num 1 n.2; let c := num 1 i.2; let vs := rdList rdVot c.1.toNat c.2
    ({ bareMsg k.1 with n := n.1, id := i.1, vs := ⟨none, vs.1.length, vs.1.length⟩, votes := vs.1 }, vs.2)
  else if k.1 = 6 then let n := num 4 k.2; let i := num 1 n.2; let s := num 4 i.2; let c := rdCmd s.2; ({ bareMsg k.1 with n := n.1, id := i.1, slot := s.1, cmd := c.1 }, c.2)
  else if k.1 = 7 then let n := num 4 k.2; let i := num 1 n.2; let s := num 4 i.2; ({ bareMsg k.1 with n := n.1, id := i.1, slot := s.1 }, s.2)
  else if k.1 = 8 then let s := num 4 k.2; let c := rdCmd s.2; ({ bareMsg k.1 with slot := s.1, cmd := c.1 }, c.2)
  else if k.1 = 9 then let r := rdRng k.2; ({ bareMsg k.1 with rng := r.1 }, r.2)
  else if k.1 = 10 then let p := num 1 k.2; let s := num 4 p.2; ({ bareMsg k.1 with peer := p.1, seq := s.1 }, s.2)
  else (bareMsg k.1, k.2)

end Go.Proofs.Ytignemioillaiaa

namespace Go.Proofs.Ytignemioillaiaa
open Go.RowKit

theorem no_cmd {c : Cmd} (hk : c.kind = 0) (h : c.bare = true) (hf : c.rng.fit) : c.strip = noCmd := by
  obtain ⟨kind, req, rng, peer, seq⟩ := c
  simp only at hk hf
  subst hk
  simp only [Cmd.bare, Bool.and_eq_true, beq_iff_eq] at h
  obtain ⟨⟨⟨h1, h2⟩, rfl⟩, rfl⟩ := h
  simp [Cmd.strip, no_req h1, no_rng h2 hf, noCmd]

theorem no_votes {vs : Sl} {votes : List Vot} (h : vs.len = 0) (hf : vs.len = votes.length) : votes = [] := List.eq_nil_of_length_eq_zero (by omega)

end Go.Proofs.Ytignemioillaiaa

