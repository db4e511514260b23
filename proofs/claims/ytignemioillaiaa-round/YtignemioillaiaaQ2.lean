/- Reading bytes, as plain lists: numbers from the front (where they are cut short: 0, and nothing is left), requests, replies, ranges, commands, votes, messages; what was written is read: no program text here. Reading a message: what was written is read. The document's reader, which minds where the bytes are broken: no program text here. -/
import Derived.Test.YtignemioillaiaaO1
import Derived.Test.YtignemioillaiaaD4
namespace Go.Proofs.Ytignemioillaiaa
open Go.RowKit

def be (l : List Int) : Int := l.foldl (fun n b => n * 256 + b) 0
def num (n : Nat) (l : List Int) : Int × List Int := if l.length < n then (0, []) else (be (l.take n), l.drop n)

theorem num_1 (x : Int) (r : List Int) : num 1 (x :: r) = (x, r) := by
  unfold num; rw [if_neg (by simp)]; simp [be]
theorem num_4 {v : Int} (_h : U32 v) (r : List Int) : num 4 (be32 v ++ r) = (v, r) := by
  unfold U32 at _h
  unfold num; rw [if_neg (by simp [be32_len])]
  have h1 : (be32 v ++ r).take 4 = be32 v := by rw [← be32_len v]; exact List.take_left
  have h2 : (be32 v ++ r).drop 4 = r := by rw [← be32_len v]; exact List.drop_left
  rw [h1, h2]
  simp only [be, be32, List.foldl_cons, List.foldl_nil]
  congr 1; omega
theorem num_8 {v : Int} (_h : U64 v) (r : List Int) : num 8 (be64 v ++ r) = (v, r) := by
  unfold U64 at _h
  unfold num; rw [if_neg (by simp [be64_len])]
  have h1 : (be64 v ++ r).take 8 = be64 v := by rw [← be64_len v]; exact List.take_left
  have h2 : (be64 v ++ r).drop 8 = r := by rw [← be64_len v]; exact List.drop_left
  rw [h1, h2]
  simp only [be, be64, be32, List.cons_append, List.nil_append, List.foldl_cons, List.foldl_nil]
  congr 1; omega

/-- Reading: what is read, and what is left. -/
abbrev Rd (α : Type) := List Int → α × List Int

def rdReq : Rd Req := fun l =>
  let c := num 1 l; let s := num 4 c.2; let k := num 1 s.2; let key := num 8 k.2
  if k.1 = 2 then let v := num 8 key.2; (⟨c.1, s.1, k.1, key.1, v.1, 0, 0⟩, v.2)
  else if k.1 = 4 then let hi := num 8 key.2; let to := num 1 hi.2; (⟨c.1, s.1, k.1, key.1, 0, hi.1, to.1⟩, to.2)
  else (⟨c.1, s.1, k.1, key.1, 0, 0, 0⟩, key.2)

def rdRep : Rd Rep := fun l =>
  let c := num 1 l; let s := num 4 c.2; let key := num 8 s.2; let k := num 1 key.2
  if k.1 = 1 then
    let f := num 1 k.2
    if f.1 = 0 then (⟨c.1, s.1, key.1, k.1, false, 0, 0⟩, f.2) else let v := num 8 f.2; (⟨c.1, s.1, key.1, k.1, true, v.1, 0⟩, v.2)
  else if k.1 = 3 then let g := num 1 k.2; (⟨c.1, s.1, key.1, k.1, false, 0, g.1⟩, g.2)
  else (⟨c.1, s.1, key.1, k.1, false, 0, 0⟩, k.2)

def rdRow : Rd Row := fun l => let k := num 8 l; let v := num 8 k.2; (⟨k.1, v.1⟩, v.2)

/-- n things, or fewer where the bytes end. -/
def rdList {α : Type} (f : Rd α) : Nat → Rd (List α)
  | 0, l => ([], l)
  | n + 1, l => if l = [] then ([], []) else let x := f l; let r := rdList f n x.2; (x.1 :: r.1, r.2)

def rdRng : Rd Rng := fun l =>
  let src := num 1 l; let dst := num 1 src.2; let seq := num 4 dst.2; let lo := num 8 seq.2; let hi := num 8 lo.2
  let n := num 1 hi.2; let rows := rdList rdRow n.1.toNat n.2; let k := num 1 rows.2; let dups := rdList rdRep k.1.toNat k.2
  (⟨src.1, dst.1, seq.1, lo.1, hi.1, ⟨none, rows.1.length, rows.1.length⟩, ⟨none, dups.1.length, dups.1.length⟩, rows.1, dups.1⟩, dups.2)

def noReq : Req := ⟨0, 0, 0, 0, 0, 0, 0⟩
def noRep : Rep := ⟨0, 0, 0, 0, false, 0, 0⟩
def noRng : Rng := ⟨0, 0, 0, 0, 0, ⟨none, 0, 0⟩, ⟨none, 0, 0⟩, [], []⟩
def noCmd : Cmd := ⟨0, noReq, noRng, 0, 0⟩

def rdCmd : Rd Cmd := fun l =>
  let k := num 1 l
  if k.1 = 1 then let q := rdReq k.2; (⟨k.1, q.1, noRng, 0, 0⟩, q.2)
  else if k.1 = 2 then let r := rdRng k.2; (⟨k.1, noReq, r.1, 0, 0⟩, r.2)
  else if k.1 = 3 then let p := num 1 k.2; let s := num 4 p.2; (⟨k.1, noReq, noRng, p.1, s.1⟩, s.2)
  else (⟨k.1, noReq, noRng, 0, 0⟩, k.2)

def rdVot : Rd Vot := fun l =>
  let s := num 4 l; let n := num 4 s.2; let i := num 1 n.2; let c := rdCmd i.2
  (⟨s.1, n.1, i.1, c.1⟩, c.2)

theorem rd_req {q : Req} (h : q.ok = true) (hw : q.wf) (r : List Int) : rdReq (q.bytes ++ r) = (q, r) := by
  obtain ⟨c, s, k, key, v, hi, to⟩ := q
  obtain ⟨h1, h2, h3, h4, h5, h6, h7⟩ := hw
  simp only [Req.ok, Bool.and_eq_true, Bool.or_eq_true, decide_eq_true_eq, beq_iff_eq] at h
  have e : (Req.mk c s k key v hi to).bytes ++ r = c :: (be32 s ++ (k :: (be64 key ++ ((Req.mk c s k key v hi to).tail ++ r)))) := by simp [Req.bytes]
  rw [e]
  unfold rdReq
  simp only [num_1, num_4 h2, num_8 h4, Req.tail]
  by_cases k2 : k = 2
  · subst k2
    simp only [if_true, num_8 h5]
    simp at h
    simp [h]
  · simp only [k2, if_false]
    by_cases k4 : k = 4
    · subst k4
      simp only [if_true, List.append_assoc, num_8 h6]
      simp only [List.cons_append, List.nil_append, num_1]
      simp at h
      simp [h]
    · simp only [k4, if_false, List.nil_append]
      simp [k2, k4] at h
      simp [h]

theorem rd_rep {p : Rep} (h : p.ok = true) (hw : p.wf) (r : List Int) : rdRep (p.bytes ++ r) = (p, r) := by
  obtain ⟨c, s, key, k, f, v, g⟩ := p
  obtain ⟨h1, h2, h3, h4, h5, h6⟩ := hw
  simp only [Rep.ok, Bool.and_eq_true, Bool.or_eq_true, decide_eq_true_eq, beq_iff_eq] at h
  have e : (Rep.mk c s key k f v g).bytes ++ r = c :: (be32 s ++ (be64 key ++ (k :: ((Rep.mk c s key k f v g).tail ++ r)))) := by simp [Rep.bytes]
  rw [e]
  unfold rdRep
  simp only [num_1, num_4 h2, num_8 h3, Rep.tail]
  by_cases k1 : k = 1
  · subst k1
    cases f
    · simp only [if_true, Bool.false_eq_true, if_false, List.cons_append, List.nil_append, num_1]
      simp at h
      simp [h]
    · simp only [if_true, List.cons_append, List.nil_append, num_1, num_8 h5]
      simp at h
      simp [h]
  · simp only [k1, if_false]
    by_cases k3 : k = 3
    · subst k3
      simp only [if_true, List.cons_append, List.nil_append, num_1]
      simp at h
      simp [h]
    · simp only [k3, if_false, List.nil_append]
      simp [k1, k3] at h
      simp [h]

theorem rd_row {x : Row} (hw : x.wf) (r : List Int) : rdRow (x.bytes ++ r) = (x, r) := by
  obtain ⟨k, v⟩ := x
  obtain ⟨h1, h2⟩ := hw
  unfold rdRow Row.bytes
  simp only [List.append_assoc, num_8 h1, num_8 h2]

theorem rd_list {α : Type} (f : Rd α) (b : α → List Int) (xs : List α) (hx : ∀ x ∈ xs, b x ≠ [] ∧ ∀ r, f (b x ++ r) = (x, r)) (r : List Int) : rdList f xs.length ((xs.map b).flatten ++ r) = (xs, r) := by
  induction xs with
  | nil => rfl
  | cons x t ih =>
    have h1 := hx x (by simp)
    simp only [List.length_cons, rdList, List.map_cons, List.flatten_cons, List.append_assoc]
    rw [if_neg (by simp [h1.1])]
    rw [h1.2, ih (fun y hy => hx y (by simp [hy]))]

theorem rd_rng {x : Rng} (h : x.ok = true) (hw : x.wf) (r : List Int) : rdRng (x.bytes ++ r) = (x.strip, r) := by
  obtain ⟨src, dst, seq, lo, hi, rs, ds, rows, dups⟩ := x
  obtain ⟨h1, h2, h3, h4, h5, h6, h7⟩ := hw
  simp only [Rng.ok, rowsOk, dupsOk, Bool.and_eq_true, decide_eq_true_eq, List.all_eq_true] at h
  obtain ⟨⟨⟨⟨⟨_, _⟩, _⟩, _⟩, ⟨hr, _⟩⟩, ⟨hd, hda⟩⟩ := h
  have e : (Rng.mk src dst seq lo hi rs ds rows dups).bytes ++ r = src :: dst :: (be32 seq ++ (be64 lo ++ (be64 hi ++ ((rows.length : Int) :: ((rows.map Row.bytes).flatten ++ ((dups.length : Int) :: ((dups.map Rep.bytes).flatten ++ r))))))) := by
    simp [Rng.bytes, rowsBytes, dupsBytes]
  rw [e]
  have hlr := rd_list rdRow Row.bytes rows (fun x hx => ⟨by intro h0; have := x.len; rw [h0] at this; simp at this, fun r => by
    obtain ⟨i, hi', rfl⟩ := List.mem_iff_getElem.1 hx
    exact rd_row (h6 i _ (List.getElem?_eq_getElem hi')) r⟩) ((dups.length : Int) :: ((dups.map Rep.bytes).flatten ++ r))
  have hld := rd_list rdRep Rep.bytes dups (fun x hx => ⟨by simp [Rep.bytes], fun r => by
    obtain ⟨i, hi', rfl⟩ := List.mem_iff_getElem.1 hx
    have h8 := hda i (List.mem_range.2 hi')
    unfold dupAt at h8
    rw [List.getElem?_eq_getElem hi'] at h8
    simp only [Bool.and_eq_true] at h8
    exact rd_rep h8.1.1.1.1 (h7 i _ (List.getElem?_eq_getElem hi')) r⟩) r
  unfold rdRng
  simp only [num_1, num_4 h3, num_8 h4, num_8 h5, Int.toNat_natCast, hlr, hld]
  rfl

theorem no_req {q : Req} (h : q.no = true) : q = noReq := by
  obtain ⟨c, s, k, key, v, hi, to⟩ := q
  simp only [Req.no, Bool.and_eq_true, beq_iff_eq] at h
  obtain ⟨⟨⟨⟨⟨⟨rfl, rfl⟩, rfl⟩, rfl⟩, rfl⟩, rfl⟩, rfl⟩ := h
  rfl
theorem no_rep {p : Rep} (h : p.no = true) : p = noRep := by
  obtain ⟨c, s, key, k, f, v, g⟩ := p
  simp only [Rep.no, Bool.and_eq_true, beq_iff_eq, Bool.not_eq_true'] at h
  obtain ⟨⟨⟨⟨⟨⟨rfl, rfl⟩, rfl⟩, rfl⟩, rfl⟩, rfl⟩, rfl⟩ := h
  rfl
theorem no_rng {r : Rng} (h : r.no = true) (hf : r.fit) : r.strip = noRng := by
  obtain ⟨src, dst, seq, lo, hi, ⟨ra, rn, rc⟩, ⟨da, dn, dc⟩, rows, dups⟩ := r
  obtain ⟨h1, h2⟩ := hf
  simp only [Rng.no, Bool.and_eq_true, beq_iff_eq] at h
  obtain ⟨⟨⟨⟨⟨⟨rfl, rfl⟩, rfl⟩, rfl⟩, rfl⟩, h3⟩, h4⟩ := h
  simp only at h1 h2 h3 h4
  have e1 : rows = [] := List.eq_nil_of_length_eq_zero (by omega)
  have e2 : dups = [] := List.eq_nil_of_length_eq_zero (by omega)
  subst e1; subst e2
  rfl

theorem rd_cmd {c : Cmd} (h : c.ok = true) (hw : c.wf) (hf : c.rng.fit) (r : List Int) : rdCmd (c.bytes ++ r) = (c.strip, r) := by
  obtain ⟨kind, req, rng, peer, seq⟩ := c
  obtain ⟨h1, h2, h3, h4, h5⟩ := hw
  have e : (Cmd.mk kind req rng peer seq).bytes ++ r = kind :: ((Cmd.mk kind req rng peer seq).tail ++ r) := by simp [Cmd.bytes]
  rw [e]
  unfold rdCmd
  simp only [num_1, Cmd.tail]
  simp only [Cmd.ok, Bool.or_eq_true, Bool.and_eq_true, beq_iff_eq, decide_eq_true_eq] at h
  rcases h with ((h | h) | h) | h
  · obtain ⟨⟨⟨⟨rfl, g1⟩, g2⟩, rfl⟩, rfl⟩ := h
    simp [Cmd.strip, no_req g1, no_rng g2 hf]
  · obtain ⟨⟨⟨⟨rfl, g1⟩, g2⟩, rfl⟩, rfl⟩ := h
    simp [Cmd.strip, rd_req g1 h2, no_rng g2 hf]
  · obtain ⟨⟨⟨⟨rfl, g1⟩, g2⟩, rfl⟩, rfl⟩ := h
    simp [Cmd.strip, no_req g1, rd_rng g2 h3]
  · obtain ⟨⟨⟨rfl, g1⟩, g2⟩, _⟩ := h
    simp [Cmd.strip, no_req g1, no_rng g2 hf, num_1, num_4 h5]

theorem rd_vot {v : Vot} (h : v.cmd.ok = true) (hw : v.wf) (hf : v.cmd.rng.fit) (r : List Int) : rdVot (v.bytes ++ r) = (v.strip, r) := by
  obtain ⟨slot, n, id, cmd⟩ := v
  obtain ⟨h1, h2, h3, h4⟩ := hw
  have e : (Vot.mk slot n id cmd).bytes ++ r = be32 slot ++ (be32 n ++ (id :: (cmd.bytes ++ r))) := by simp [Vot.bytes, ballotBytes]
  rw [e]
  unfold rdVot
  simp only [num_4 h1, num_4 h2, num_1, rd_cmd h h4 hf]
  rfl

/-- A message of a kind, with nothing else in it. -/
def bareMsg (k : Int) : Msg := ⟨k, noReq, noRep, 0, 0, 0, noCmd, ⟨none, 0, 0⟩, noRng, 0, 0, []⟩

def rdMsg : Rd Msg := fun l =>
  let k := num 1 l
  if k.1 = 1 then let q := rdReq k.2; ({ bareMsg k.1 with req := q.1 }, q.2)
  else if k.1 = 2 then let p := rdRep k.2; ({ bareMsg k.1 with rep := p.1 }, p.2)
  else if k.1 = 3 ∨ k.1 = 5 then let n := num 4 k.2; let i := num 1 n.2; ({ bareMsg k.1 with n := n.1, id := i.1 }, i.2)
  else if k.1 = 4 then let n := num 4 k.2; let i := num 1 n.2; let c := num 1 i.2; let vs := rdList rdVot c.1.toNat c.2
    ({ bareMsg k.1 with n := n.1, id := i.1, vs := ⟨none, vs.1.length, vs.1.length⟩, votes := vs.1 }, vs.2)
  else if k.1 = 6 then let n := num 4 k.2; let i := num 1 n.2; let s := num 4 i.2; let c := rdCmd s.2; ({ bareMsg k.1 with n := n.1, id := i.1, slot := s.1, cmd := c.1 }, c.2)
  else if k.1 = 7 then let n := num 4 k.2; let i := num 1 n.2; let s := num 4 i.2; ({ bareMsg k.1 with n := n.1, id := i.1, slot := s.1 }, s.2)
  else if k.1 = 8 then let s := num 4 k.2; let c := rdCmd s.2; ({ bareMsg k.1 with slot := s.1, cmd := c.1 }, c.2)
  else if k.1 = 9 then let r := rdRng k.2; ({ bareMsg k.1 with rng := r.1 }, r.2)
  else if k.1 = 10 then let p := num 1 k.2; let s := num 4 p.2; ({ bareMsg k.1 with peer := p.1, seq := s.1 }, s.2)
  else (bareMsg k.1, k.2)

end Go.Proofs.Ytignemioillaiaa

namespace Go.Proofs.Ytignemioillaiaa
open Go.RowKit

theorem no_cmd {c : Cmd} (hk : c.kind = 0) (h : c.bare = true) (hf : c.rng.fit) : c.strip = noCmd := by
  obtain ⟨kind, req, rng, peer, seq⟩ := c
  simp only at hk hf
  subst hk
  simp only [Cmd.bare, Bool.and_eq_true, beq_iff_eq] at h
  obtain ⟨⟨⟨h1, h2⟩, rfl⟩, rfl⟩ := h
  simp [Cmd.strip, no_req h1, no_rng h2 hf, noCmd]

theorem no_votes {vs : Sl} {votes : List Vot} (h : vs.len = 0) (hf : vs.len = votes.length) : votes = [] := List.eq_nil_of_length_eq_zero (by omega)

theorem rd_msg {m : Msg} (h : m.ok = true) (hw : m.wf) (hf : m.fit) : rdMsg m.bytes = (m.strip, []) := by
  obtain ⟨kind, req, rep, n, id, slot, cmd, vs, rng, peer, seq, votes⟩ := m
  obtain ⟨w1, w2, w3, w4, w5, w6, w7, w8, w9, w10, w11⟩ := hw
  obtain ⟨f1, f2, f3, f4⟩ := hf
  have e : (Msg.mk kind req rep n id slot cmd vs rng peer seq votes).bytes = kind :: (Msg.mk kind req rep n id slot cmd vs rng peer seq votes).tail := rfl
  rw [e]
  unfold rdMsg
  simp only [num_1, Msg.tail]
  simp only [Msg.ok, Bool.or_eq_true, Bool.and_eq_true, beq_iff_eq, decide_eq_true_eq] at h
  rcases h with (((((((h | h) | h) | h) | h) | h) | h) | h) | h
  · obtain ⟨⟨⟨⟨⟨⟨⟨⟨rfl, a⟩, p⟩, b⟩, rfl⟩, c⟩, v⟩, r⟩, d⟩ := h
    obtain ⟨rfl, rfl⟩ := b
    obtain ⟨rfl, rfl⟩ := d
    have hr := rd_req a w2 []
    rw [List.append_nil] at hr
    obtain rfl := no_votes v f3
    simp [hr, Msg.strip, bareMsg, no_rep p, no_cmd c.1 c.2 f1, no_rng r f2]
  · obtain ⟨⟨⟨⟨⟨⟨⟨⟨rfl, q⟩, a⟩, b⟩, rfl⟩, c⟩, v⟩, r⟩, d⟩ := h
    obtain ⟨rfl, rfl⟩ := b
    obtain ⟨rfl, rfl⟩ := d
    have hr := rd_rep a w3 []
    rw [List.append_nil] at hr
    obtain rfl := no_votes v f3
    simp [hr, Msg.strip, bareMsg, no_req q, no_cmd c.1 c.2 f1, no_rng r f2]
  · obtain ⟨⟨⟨⟨⟨⟨⟨k, q⟩, p⟩, rfl⟩, c⟩, v⟩, r⟩, d⟩ := h
    obtain ⟨rfl, rfl⟩ := d
    have h4 := num_4 w4 [id]
    obtain rfl := no_votes v f3
    rcases k with rfl | rfl <;> simp [ballotBytes, h4, num_1, Msg.strip, bareMsg, no_req q, no_rep p, no_cmd c.1 c.2 f1, no_rng r f2]
  · obtain ⟨⟨⟨⟨⟨⟨⟨rfl, q⟩, p⟩, rfl⟩, c⟩, v⟩, r⟩, d⟩ := h
    obtain ⟨rfl, rfl⟩ := d
    simp only [votesOk, Bool.and_eq_true, decide_eq_true_eq, List.all_eq_true] at v
    have hl := rd_list rdVot Vot.bytes (votes.map Vot.strip) (fun x hx => by
      obtain ⟨y, hy, rfl⟩ := List.mem_map.1 hx
      obtain ⟨i, hi, rfl⟩ := List.mem_iff_getElem.1 hy
      have g := List.getElem?_eq_getElem hi
      have h8 := v.2 i (List.mem_range.2 hi)
      unfold voteAt at h8
      rw [g] at h8
      simp only [Bool.and_eq_true] at h8
      refine ⟨by simp [Vot.bytes, be32], fun r => ?_⟩
      rw [Vot.bytes_strip]
      exact rd_vot h8.1 (w8 i _ g) (f4 i _ g) r) []
    rw [List.append_nil, List.length_map] at hl
    have e2 : ((votes.map Vot.strip).map Vot.bytes).flatten = votesBytes votes := votesBytes_strip votes
    rw [e2] at hl
    have h4 := num_4 w4 (id :: (votes.length : Int) :: votesBytes votes)
    simp [ballotBytes, h4, num_1, hl, Msg.strip, bareMsg, no_req q, no_rep p, no_cmd c.1 c.2 f1, no_rng r f2]
  · obtain ⟨⟨⟨⟨⟨⟨rfl, q⟩, p⟩, c⟩, v⟩, r⟩, d⟩ := h
    obtain ⟨rfl, rfl⟩ := d
    have h4 := num_4 w4 (id :: (be32 slot ++ cmd.bytes))
    have h5 := num_4 w6 cmd.bytes
    have hc := rd_cmd c w7 f1 []
    rw [List.append_nil] at hc
    obtain rfl := no_votes v f3
    simp [ballotBytes, h4, h5, hc, num_1, Msg.strip, bareMsg, no_req q, no_rep p, no_rng r f2]
  · obtain ⟨⟨⟨⟨⟨⟨rfl, q⟩, p⟩, c⟩, v⟩, r⟩, d⟩ := h
    obtain ⟨rfl, rfl⟩ := d
    have h4 := num_4 w4 (id :: be32 slot)
    have h5 := num_4 w6 []
    rw [List.append_nil] at h5
    obtain rfl := no_votes v f3
    simp [ballotBytes, h4, h5, num_1, Msg.strip, bareMsg, no_req q, no_rep p, no_cmd c.1 c.2 f1, no_rng r f2]
  · obtain ⟨⟨⟨⟨⟨⟨⟨rfl, q⟩, p⟩, b⟩, c⟩, v⟩, r⟩, d⟩ := h
    obtain ⟨rfl, rfl⟩ := b
    obtain ⟨rfl, rfl⟩ := d
    have h5 := num_4 w6 cmd.bytes
    have hc := rd_cmd c w7 f1 []
    rw [List.append_nil] at hc
    obtain rfl := no_votes v f3
    simp [h5, hc, Msg.strip, bareMsg, no_req q, no_rep p, no_rng r f2]
  · obtain ⟨⟨⟨⟨⟨⟨⟨⟨rfl, q⟩, p⟩, b⟩, rfl⟩, c⟩, v⟩, r⟩, d⟩ := h
    obtain ⟨rfl, rfl⟩ := b
    obtain ⟨rfl, rfl⟩ := d
    have hr := rd_rng r w9 []
    rw [List.append_nil] at hr
    obtain rfl := no_votes v f3
    simp [hr, Msg.strip, bareMsg, no_req q, no_rep p, no_cmd c.1 c.2 f1]
  · obtain ⟨⟨⟨⟨⟨⟨⟨⟨rfl, q⟩, p⟩, b⟩, rfl⟩, c⟩, v⟩, r⟩, d⟩ := h
    obtain ⟨rfl, rfl⟩ := b
    have h5 := num_4 w11 []
    rw [List.append_nil] at h5
    obtain rfl := no_votes v f3
    simp [h5, num_1, Msg.strip, bareMsg, no_req q, no_rep p, no_cmd c.1 c.2 f1, no_rng r f2]

end Go.Proofs.Ytignemioillaiaa

