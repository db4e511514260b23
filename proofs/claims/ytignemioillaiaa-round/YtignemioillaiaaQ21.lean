/- A right message's bytes are bytes; a string of bytes is what it was made of: no program text here. The document's reader: as the other one, but that it minds where the bytes are broken, and reads no list beyond; what was written is read; where nothing is broken both read the same: no program text here. Where nothing is broken, both readers read the same: no program text here. Where nothing is broken, both readers read the same ranges, commands and votes: no program text here. Where nothing is broken, both readers read the same commands, votes and messages: no program text here. What wire's Parse accepts the document's reader reads, unbroken; what it does not accept the document's reader breaks at, or reads the same: no program text here. -/
import Derived.Test.YtignemioillaiaaQ14
namespace Go.Proofs.Ytignemioillaiaa
open Go.RowKit

theorem bstr_inj {a b : List Int} (ha : Byt a) (hb : Byt b) (h : bstr a = bstr b) : a = b := by
  have h1 : (a.map fun n => UInt8.ofNat n.toNat) = b.map fun n => UInt8.ofNat n.toNat := by
    have := congrArg ByteArray.data h
    rw [bstr_data, bstr_data] at this
    simpa using this
  have back : ∀ (l : List Int), Byt l → (l.map fun n => UInt8.ofNat n.toNat).map (fun u => (u.toNat : Int)) = l := by
    intro l hl
    rw [List.map_map]
    refine (List.map_congr_left (g := id) fun x hx => ?_).trans (List.map_id l)
    have := hl x hx
    simp only [Function.comp_apply, UInt8.toNat_ofNat', id_eq]
    omega
  rw [← back a ha, h1, back b hb]

theorem byt_nil : Byt [] := by intro x hx; simp at hx
theorem byt_sing {x : Int} (h : U8 x) : Byt [x] := by intro y hy; simp at hy; subst hy; exact h
theorem byt_app {a b : List Int} (ha : Byt a) (hb : Byt b) : Byt (a ++ b) := by
  intro x hx
  rcases List.mem_append.1 hx with h | h
  · exact ha x h
  · exact hb x h
theorem byt_be32 {v : Int} (h : U32 v) : Byt (be32 v) := by
  unfold U32 at h
  intro x hx
  simp only [be32, List.mem_cons, List.not_mem_nil, or_false] at hx
  rcases hx with rfl | rfl | rfl | rfl <;> omega
theorem byt_be64 {v : Int} (h : U64 v) : Byt (be64 v) := by
  unfold U64 at h
  exact byt_app (byt_be32 (by unfold U32; omega)) (byt_be32 (by unfold U32; omega))
theorem byt_flat {α : Type} {f : α → List Int} {xs : List α} (h : ∀ (i : Nat) (x : α), xs[i]? = some x → Byt (f x)) : Byt ((xs.map f).flatten) := by
  intro y hy
  obtain ⟨l, hl, hy⟩ := List.mem_flatten.1 hy
  obtain ⟨x, hx, rfl⟩ := List.mem_map.1 hl
  obtain ⟨i, hi⟩ := List.mem_iff_getElem?.1 hx
  exact h i x hi y hy

theorem byt_req {q : Req} (h : q.wf) : Byt q.bytes := by
  unfold Req.bytes Req.tail
  refine byt_app (byt_app (byt_app (byt_app (byt_sing h.c) (byt_be32 h.s)) (byt_sing h.k)) (byt_be64 h.key)) ?_
  split
  · exact byt_be64 h.v
  · split
    · exact byt_app (byt_be64 h.hi) (byt_sing h.to)
    · exact byt_nil
theorem byt_rep {p : Rep} (h : p.wf) : Byt p.bytes := by
  unfold Rep.bytes Rep.tail
  refine byt_app (byt_app (byt_app (byt_app (byt_sing h.c) (byt_be32 h.s)) (byt_be64 h.key)) (byt_sing h.k)) ?_
  split
  · split
    · exact byt_app (byt_sing (by unfold U8; decide)) (byt_be64 h.v)
    · exact byt_sing (by unfold U8; decide)
  · split
    · exact byt_sing h.g
    · exact byt_nil
theorem byt_row {x : Row} (h : x.wf) : Byt x.bytes := byt_app (byt_be64 h.key) (byt_be64 h.val)

theorem byt_rng {r : Rng} (h : r.wf) (hok : r.ok = true) : Byt r.bytes := by
  simp only [Rng.ok, rowsOk, dupsOk, Bool.and_eq_true, decide_eq_true_eq] at hok
  obtain ⟨⟨⟨⟨⟨_, _⟩, _⟩, _⟩, ⟨hr, _⟩⟩, ⟨hd, _⟩⟩ := hok
  unfold Rng.bytes rowsBytes dupsBytes
  exact byt_app (byt_app (byt_app (byt_app (byt_app (byt_app (byt_sing h.src) (byt_sing h.dst)) (byt_be32 h.seq)) (byt_be64 h.lo)) (byt_be64 h.hi)) (byt_app (byt_sing (by unfold U8; omega)) (byt_flat fun i x hx => byt_row (h.rows i x hx)))) (byt_app (byt_sing (by unfold U8; omega)) (byt_flat fun i x hx => byt_rep (h.dups i x hx)))

theorem byt_cmd {c : Cmd} (h : c.wf) (hok : c.ok = true ∨ c.kind = 0) : Byt c.bytes := by
  unfold Cmd.bytes Cmd.tail
  refine byt_app (byt_sing h.kind) ?_
  split
  · exact byt_req h.req
  · split
    · rename_i h1 h2
      refine byt_rng h.rng ?_
      rcases hok with hok | hok
      · simp only [Cmd.ok, h2, Bool.or_eq_true, Bool.and_eq_true, beq_iff_eq, decide_eq_true_eq] at hok
        simp at hok
        exact hok.1.1.2
      · omega
    · split
      · exact byt_app (byt_sing h.peer) (byt_be32 h.seq)
      · exact byt_nil

theorem byt_vot {v : Vot} (h : v.wf) (hok : v.cmd.ok = true) : Byt v.bytes := by
  unfold Vot.bytes ballotBytes
  exact byt_app (byt_app (byt_be32 h.slot) (byt_app (byt_be32 h.n) (byt_sing h.id))) (byt_cmd h.cmd (.inl hok))

theorem byt_msg {m : Msg} (h : m.wf) (hok : m.ok = true) : Byt m.bytes := by
  unfold Msg.bytes
  refine byt_app (byt_sing h.kind) ?_
  simp only [Msg.ok, Bool.or_eq_true, Bool.and_eq_true, beq_iff_eq, decide_eq_true_eq] at hok
  rcases hok with (((((((g | g) | g) | g) | g) | g) | g) | g) | g
  · have e : m.tail = m.req.bytes := by unfold Msg.tail; simp [g.1.1.1.1.1.1.1.1]
    rw [e]; exact byt_req h.req
  · have e : m.tail = m.rep.bytes := by unfold Msg.tail; simp [g.1.1.1.1.1.1.1.1]
    rw [e]; exact byt_rep h.rep
  · have e : m.tail = ballotBytes m.n m.id := by unfold Msg.tail; rcases g.1.1.1.1.1.1.1 with k | k <;> simp [k]
    rw [e]; exact byt_app (byt_be32 h.n) (byt_sing h.id)
  · have e : m.tail = ballotBytes m.n m.id ++ ([(m.votes.length : Int)] ++ votesBytes m.votes) := by unfold Msg.tail; simp [g.1.1.1.1.1.1.1]
    have v := g.1.1.2
    simp only [votesOk, Bool.and_eq_true, decide_eq_true_eq, List.all_eq_true] at v
    rw [e]; refine byt_app (byt_app (byt_be32 h.n) (byt_sing h.id)) (byt_app (byt_sing (by unfold U8; omega)) (byt_flat fun i x hx => byt_vot (h.votes i x hx) ?_))
    have hi := (List.getElem?_eq_some_iff.1 hx).1
    have h8 := v.2 i (List.mem_range.2 hi)
    unfold voteAt at h8
    rw [hx] at h8
    simp only [Bool.and_eq_true] at h8
    exact h8.1
  · have e : m.tail = ballotBytes m.n m.id ++ be32 m.slot ++ m.cmd.bytes := by unfold Msg.tail; simp [g.1.1.1.1.1.1]
    rw [e]; exact byt_app (byt_app (byt_app (byt_be32 h.n) (byt_sing h.id)) (byt_be32 h.slot)) (byt_cmd h.cmd (.inl g.1.1.1.2))
  · have e : m.tail = ballotBytes m.n m.id ++ be32 m.slot := by unfold Msg.tail; simp [g.1.1.1.1.1.1]
    rw [e]; exact byt_app (byt_app (byt_be32 h.n) (byt_sing h.id)) (byt_be32 h.slot)
  · have e : m.tail = be32 m.slot ++ m.cmd.bytes := by unfold Msg.tail; simp [g.1.1.1.1.1.1.1]
    rw [e]; exact byt_app (byt_be32 h.slot) (byt_cmd h.cmd (.inl g.1.1.1.2))
  · have e : m.tail = m.rng.bytes := by unfold Msg.tail; simp [g.1.1.1.1.1.1.1.1]
    rw [e]; exact byt_rng h.rng g.1.2
  · have e : m.tail = [m.peer] ++ be32 m.seq := by unfold Msg.tail; simp [g.1.1.1.1.1.1.1.1]
    rw [e]; exact byt_app (byt_sing h.peer) (byt_be32 h.seq)

end Go.Proofs.Ytignemioillaiaa

namespace Go.Proofs.Ytignemioillaiaa
open Go.RowKit

abbrev Rb (α : Type) := List Int × Bool → α × (List Int × Bool)
def bnum (n : Nat) : Rb Int := fun s => ((num n s.1).1, ((num n s.1).2, s.2 || decide (s.1.length < n)))

theorem bnum_1 (x : Int) (r : List Int) : bnum 1 (x :: r, false) = (x, (r, false)) := by unfold bnum; simp [num_1]
theorem bnum_4 {v : Int} (h : U32 v) (r : List Int) : bnum 4 (be32 v ++ r, false) = (v, (r, false)) := by unfold bnum; simp only [num_4 h]; simp [be32_len]
theorem bnum_8 {v : Int} (h : U64 v) (r : List Int) : bnum 8 (be64 v ++ r, false) = (v, (r, false)) := by unfold bnum; simp only [num_8 h]; simp [be64_len]

def rbReq : Rb Req := fun l =>
  let c := bnum 1 l; let s := bnum 4 c.2; let k := bnum 1 s.2; let key := bnum 8 k.2
  if k.1 = 2 then let v := bnum 8 key.2; (⟨c.1, s.1, k.1, key.1, v.1, 0, 0⟩, v.2)
  else if k.1 = 4 then let hi := bnum 8 key.2; let t9 := bnum 1 hi.2; (⟨c.1, s.1, k.1, key.1, 0, hi.1, t9.1⟩, t9.2)
  else (⟨c.1, s.1, k.1, key.1, 0, 0, 0⟩, key.2)

def rbRep : Rb Rep := fun l =>
  let c := bnum 1 l; let s := bnum 4 c.2; let key := bnum 8 s.2; let k := bnum 1 key.2
  if k.1 = 1 then
    let f := bnum 1 k.2
    if f.1 = 1 then let v := bnum 8 (f.2.1, f.2.2 || decide (1 < f.1)); (⟨c.1, s.1, key.1, k.1, true, v.1, 0⟩, v.2) else (⟨c.1, s.1, key.1, k.1, false, 0, 0⟩, (f.2.1, f.2.2 || decide (1 < f.1)))
  else if k.1 = 3 then let g := bnum 1 k.2; (⟨c.1, s.1, key.1, k.1, false, 0, g.1⟩, g.2)
  else (⟨c.1, s.1, key.1, k.1, false, 0, 0⟩, k.2)

def rbRow : Rb Row := fun l => let k := bnum 8 l; let v := bnum 8 k.2; (⟨k.1, v.1⟩, v.2)

/-- n things, or fewer where the bytes are broken. -/
def rbList {α : Type} (f : Rb α) : Nat → Rb (List α)
  | 0, l => ([], l)
  | n + 1, l => if l.2 = true then ([], l) else let x := f l; let r := rbList f n x.2; (x.1 :: r.1, r.2)

def rbRng : Rb Rng := fun l =>
  let src := bnum 1 l; let dst := bnum 1 src.2; let seq := bnum 4 dst.2; let lo := bnum 8 seq.2; let hi := bnum 8 lo.2
  let n := bnum 1 hi.2; let rows := rbList rbRow n.1.toNat n.2; let k := bnum 1 rows.2; let dups := rbList rbRep k.1.toNat k.2
  (⟨src.1, dst.1, seq.1, lo.1, hi.1, ⟨none, rows.1.length, rows.1.length⟩, ⟨none, dups.1.length, dups.1.length⟩, rows.1, dups.1⟩, dups.2)

def rbCmd : Rb Cmd := fun l =>
  let k := bnum 1 l
  if k.1 = 1 then let q := rbReq k.2; (⟨k.1, q.1, noRng, 0, 0⟩, q.2)
  else if k.1 = 2 then let r := rbRng k.2; (⟨k.1, noReq, r.1, 0, 0⟩, r.2)
  else if k.1 = 3 then let p := bnum 1 k.2; let s := bnum 4 p.2; (⟨k.1, noReq, noRng, p.1, s.1⟩, s.2)
  else (⟨k.1, noReq, noRng, 0, 0⟩, k.2)

def rbVot : Rb Vot := fun l =>
  let s := bnum 4 l; let n := bnum 4 s.2; let i := bnum 1 n.2; let c := rbCmd i.2
  (⟨s.1, n.1, i.1, c.1⟩, c.2)

def rbMsg : Rb Msg := fun l =>
  let k := bnum 1 l
  if k.1 = 1 then let q := rbReq k.2; ({ bareMsg k.1 with req := q.1 }, q.2)
  else if k.1 = 2 then let p := rbRep k.2; ({ bareMsg k.1 with rep := p.1 }, p.2)
  else if k.1 = 3 ∨ k.1 = 5 then let n := bnum 4 k.2; let i := bnum 1 n.2; ({ bareMsg k.1 with n := n.1, id := i.1 }, i.2)
  else if k.1 = 4 then let n := bnum 4 k.2; let i := bnum 1 n.2; let c := bnum 1 i.2; let vs := rbList rbVot c.1.toNat c.2
    ({ bareMsg k.1 with n := n.1, id := i.1, vs := ⟨none, vs.1.length, vs.1.length⟩, votes := vs.1 }, vs.2)
  else if k.1 = 6 then let n := bnum 4 k.2; let i := bnum 1 n.2; let s := bnum 4 i.2; let c := rbCmd s.2; ({ bareMsg k.1 with n := n.1, id := i.1, slot := s.1, cmd := c.1 }, c.2)
  else if k.1 = 7 then let n := bnum 4 k.2; let i := bnum 1 n.2; let s := bnum 4 i.2; ({ bareMsg k.1 with n := n.1, id := i.1, slot := s.1 }, s.2)
  else if k.1 = 8 then let s := bnum 4 k.2; let c := rbCmd s.2; ({ bareMsg k.1 with slot := s.1, cmd := c.1 }, c.2)
  else if k.1 = 9 then let r := rbRng k.2; ({ bareMsg k.1 with rng := r.1 }, r.2)
  else if k.1 = 10 then let p := bnum 1 k.2; let s := bnum 4 p.2; ({ bareMsg k.1 with peer := p.1, seq := s.1 }, s.2)
  else (bareMsg k.1, k.2)

theorem rb_req {q : Req} (h : q.ok = true) (hw : q.wf) (r : List Int) : rbReq (q.bytes ++ r, false) = (q, (r, false)) := by
  obtain ⟨c, s, k, key, v, hi, t9⟩ := q
  obtain ⟨h1, h2, h3, h4, h5, h6, h7⟩ := hw
  simp only [Req.ok, Bool.and_eq_true, Bool.or_eq_true, decide_eq_true_eq, beq_iff_eq] at h
  have e : (Req.mk c s k key v hi t9).bytes ++ r = c :: (be32 s ++ (k :: (be64 key ++ ((Req.mk c s k key v hi t9).tail ++ r)))) := by simp [Req.bytes]
  rw [e]
  unfold rbReq
  simp only [bnum_1, bnum_4 h2, bnum_8 h4, Req.tail]
  by_cases k2 : k = 2
  · subst k2
    simp only [if_true, bnum_8 h5]
    simp at h
    simp [h]
  · simp only [k2, if_false]
    by_cases k4 : k = 4
    · subst k4
      simp only [if_true, List.append_assoc, bnum_8 h6]
      simp only [List.cons_append, List.nil_append, bnum_1]
      simp at h
      simp [h]
    · simp only [k4, if_false, List.nil_append]
      simp [k2, k4] at h
      simp [h]

theorem rb_rep {p : Rep} (h : p.ok = true) (hw : p.wf) (r : List Int) : rbRep (p.bytes ++ r, false) = (p, (r, false)) := by
  obtain ⟨c, s, key, k, f, v, g⟩ := p
  obtain ⟨h1, h2, h3, h4, h5, h6⟩ := hw
  simp only [Rep.ok, Bool.and_eq_true, Bool.or_eq_true, decide_eq_true_eq, beq_iff_eq] at h
  have e : (Rep.mk c s key k f v g).bytes ++ r = c :: (be32 s ++ (be64 key ++ (k :: ((Rep.mk c s key k f v g).tail ++ r)))) := by simp [Rep.bytes]
  rw [e]
  unfold rbRep
  simp only [bnum_1, bnum_4 h2, bnum_8 h3, Rep.tail]
  by_cases k1 : k = 1
  · subst k1
    cases f
    · simp only [if_true, Bool.false_eq_true, if_false, List.cons_append, List.nil_append, bnum_1]
      simp at h
      simp [h]
    · simp only [if_true, List.cons_append, List.nil_append, bnum_1]
      have d : (false || decide ((1 : Int) < 1)) = false := rfl
      rw [d, bnum_8 h5]
      simp at h
      simp [h]
  · simp only [k1, if_false]
    by_cases k3 : k = 3
    · subst k3
      simp only [if_true, List.cons_append, List.nil_append, bnum_1]
      simp at h
      simp [h]
    · simp only [k3, if_false, List.nil_append]
      simp [k1, k3] at h
      simp [h]

theorem rb_row {x : Row} (hw : x.wf) (r : List Int) : rbRow (x.bytes ++ r, false) = (x, (r, false)) := by
  obtain ⟨k, v⟩ := x
  obtain ⟨h1, h2⟩ := hw
  unfold rbRow Row.bytes
  simp only [List.append_assoc, bnum_8 h1, bnum_8 h2]

theorem rb_list {α : Type} (f : Rb α) (b : α → List Int) (xs : List α) (hx : ∀ x ∈ xs, ∀ r, f (b x ++ r, false) = (x, (r, false))) (r : List Int) : rbList f xs.length ((xs.map b).flatten ++ r, false) = (xs, (r, false)) := by
  induction xs with
  | nil => rfl
  | cons x t ih =>
    have h1 := hx x (by simp)
    simp only [List.length_cons, rbList, List.map_cons, List.flatten_cons, List.append_assoc]
    rw [if_neg (by simp)]
    rw [h1, ih (fun y hy => hx y (by simp [hy]))]

theorem rb_rng {x : Rng} (h : x.ok = true) (hw : x.wf) (r : List Int) : rbRng (x.bytes ++ r, false) = (x.strip, (r, false)) := by
  obtain ⟨src, dst, seq, lo, hi, rs, ds, rows, dups⟩ := x
  obtain ⟨h1, h2, h3, h4, h5, h6, h7⟩ := hw
  simp only [Rng.ok, rowsOk, dupsOk, Bool.and_eq_true, decide_eq_true_eq, List.all_eq_true] at h
  obtain ⟨⟨⟨⟨⟨_, _⟩, _⟩, _⟩, ⟨hr, _⟩⟩, ⟨hd, hda⟩⟩ := h
  have e : (Rng.mk src dst seq lo hi rs ds rows dups).bytes ++ r = src :: dst :: (be32 seq ++ (be64 lo ++ (be64 hi ++ ((rows.length : Int) :: ((rows.map Row.bytes).flatten ++ ((dups.length : Int) :: ((dups.map Rep.bytes).flatten ++ r))))))) := by
    simp [Rng.bytes, rowsBytes, dupsBytes]
  rw [e]
  have hlr := rb_list rbRow Row.bytes rows (fun x hx r => by
    obtain ⟨i, hi', rfl⟩ := List.mem_iff_getElem.1 hx
    exact rb_row (h6 i _ (List.getElem?_eq_getElem hi')) r) ((dups.length : Int) :: ((dups.map Rep.bytes).flatten ++ r))
  have hld := rb_list rbRep Rep.bytes dups (fun x hx r => by
    obtain ⟨i, hi', rfl⟩ := List.mem_iff_getElem.1 hx
    have h8 := hda i (List.mem_range.2 hi')
    unfold dupAt at h8
    rw [List.getElem?_eq_getElem hi'] at h8
    simp only [Bool.and_eq_true] at h8
    exact rb_rep h8.1.1.1.1 (h7 i _ (List.getElem?_eq_getElem hi')) r) r
  unfold rbRng
  simp only [bnum_1, bnum_4 h3, bnum_8 h4, bnum_8 h5, Int.toNat_natCast, hlr, hld]
  rfl

theorem rb_cmd {c : Cmd} (h : c.ok = true) (hw : c.wf) (hf : c.rng.fit) (r : List Int) : rbCmd (c.bytes ++ r, false) = (c.strip, (r, false)) := by
  obtain ⟨kind, req, rng, peer, seq⟩ := c
  obtain ⟨h1, h2, h3, h4, h5⟩ := hw
  have e : (Cmd.mk kind req rng peer seq).bytes ++ r = kind :: ((Cmd.mk kind req rng peer seq).tail ++ r) := by simp [Cmd.bytes]
  rw [e]
  unfold rbCmd
  simp only [bnum_1, Cmd.tail]
  simp only [Cmd.ok, Bool.or_eq_true, Bool.and_eq_true, beq_iff_eq, decide_eq_true_eq] at h
  rcases h with ((h | h) | h) | h
  · obtain ⟨⟨⟨⟨rfl, g1⟩, g2⟩, rfl⟩, rfl⟩ := h
    simp [Cmd.strip, no_req g1, no_rng g2 hf]
  · obtain ⟨⟨⟨⟨rfl, g1⟩, g2⟩, rfl⟩, rfl⟩ := h
    simp [Cmd.strip, rb_req g1 h2, no_rng g2 hf]
  · obtain ⟨⟨⟨⟨rfl, g1⟩, g2⟩, rfl⟩, rfl⟩ := h
    simp [Cmd.strip, no_req g1, rb_rng g2 h3]
  · obtain ⟨⟨⟨rfl, g1⟩, g2⟩, _⟩ := h
    simp [Cmd.strip, no_req g1, no_rng g2 hf, bnum_1, bnum_4 h5]

theorem rb_vot {v : Vot} (h : v.cmd.ok = true) (hw : v.wf) (hf : v.cmd.rng.fit) (r : List Int) : rbVot (v.bytes ++ r, false) = (v.strip, (r, false)) := by
  obtain ⟨slot, n, id, cmd⟩ := v
  obtain ⟨h1, h2, h3, h4⟩ := hw
  have e : (Vot.mk slot n id cmd).bytes ++ r = be32 slot ++ (be32 n ++ (id :: (cmd.bytes ++ r))) := by simp [Vot.bytes, ballotBytes]
  rw [e]
  unfold rbVot
  simp only [bnum_4 h1, bnum_4 h2, bnum_1, rb_cmd h h4 hf]
  rfl

theorem rb_msg {m : Msg} (h : m.ok = true) (hw : m.wf) (hf : m.fit) : rbMsg (m.bytes, false) = (m.strip, ([], false)) := by
  obtain ⟨kind, req, rep, n, id, slot, cmd, vs, rng, peer, seq, votes⟩ := m
  obtain ⟨w1, w2, w3, w4, w5, w6, w7, w8, w9, w10, w11⟩ := hw
  obtain ⟨f1, f2, f3, f4⟩ := hf
  have e : (Msg.mk kind req rep n id slot cmd vs rng peer seq votes).bytes = kind :: (Msg.mk kind req rep n id slot cmd vs rng peer seq votes).tail := rfl
  rw [e]
  unfold rbMsg
  simp only [bnum_1, Msg.tail]
  simp only [Msg.ok, Bool.or_eq_true, Bool.and_eq_true, beq_iff_eq, decide_eq_true_eq] at h
  rcases h with (((((((h | h) | h) | h) | h) | h) | h) | h) | h
  · obtain ⟨⟨⟨⟨⟨⟨⟨⟨rfl, a⟩, p⟩, b⟩, rfl⟩, c⟩, v⟩, r⟩, d⟩ := h
    obtain ⟨rfl, rfl⟩ := b
    obtain ⟨rfl, rfl⟩ := d
    have hr := rb_req a w2 []
    rw [List.append_nil] at hr
    obtain rfl := no_votes v f3
    simp [hr, Msg.strip, bareMsg, no_rep p, no_cmd c.1 c.2 f1, no_rng r f2]
  · obtain ⟨⟨⟨⟨⟨⟨⟨⟨rfl, q⟩, a⟩, b⟩, rfl⟩, c⟩, v⟩, r⟩, d⟩ := h
    obtain ⟨rfl, rfl⟩ := b
    obtain ⟨rfl, rfl⟩ := d
    have hr := rb_rep a w3 []
    rw [List.append_nil] at hr
    obtain rfl := no_votes v f3
    simp [hr, Msg.strip, bareMsg, no_req q, no_cmd c.1 c.2 f1, no_rng r f2]
  · obtain ⟨⟨⟨⟨⟨⟨⟨k, q⟩, p⟩, rfl⟩, c⟩, v⟩, r⟩, d⟩ := h
    obtain ⟨rfl, rfl⟩ := d
    have h4 := bnum_4 w4 [id]
    obtain rfl := no_votes v f3
    rcases k with rfl | rfl <;> simp [ballotBytes, h4, bnum_1, Msg.strip, bareMsg, no_req q, no_rep p, no_cmd c.1 c.2 f1, no_rng r f2]
  · obtain ⟨⟨⟨⟨⟨⟨⟨rfl, q⟩, p⟩, rfl⟩, c⟩, v⟩, r⟩, d⟩ := h
    obtain ⟨rfl, rfl⟩ := d
    simp only [votesOk, Bool.and_eq_true, decide_eq_true_eq, List.all_eq_true] at v
    have hl := rb_list rbVot Vot.bytes (votes.map Vot.strip) (fun x hx => by
      obtain ⟨y, hy, rfl⟩ := List.mem_map.1 hx
      obtain ⟨i, hi, rfl⟩ := List.mem_iff_getElem.1 hy
      have g := List.getElem?_eq_getElem hi
      have h8 := v.2 i (List.mem_range.2 hi)
      unfold voteAt at h8
      rw [g] at h8
      simp only [Bool.and_eq_true] at h8
      intro r
      rw [Vot.bytes_strip]
      exact rb_vot h8.1 (w8 i _ g) (f4 i _ g) r) []
    rw [List.append_nil, List.length_map] at hl
    have e2 : ((votes.map Vot.strip).map Vot.bytes).flatten = votesBytes votes := votesBytes_strip votes
    rw [e2] at hl
    have h4 := bnum_4 w4 (id :: (votes.length : Int) :: votesBytes votes)
    simp [ballotBytes, h4, bnum_1, hl, Msg.strip, bareMsg, no_req q, no_rep p, no_cmd c.1 c.2 f1, no_rng r f2]
  · obtain ⟨⟨⟨⟨⟨⟨rfl, q⟩, p⟩, c⟩, v⟩, r⟩, d⟩ := h
    obtain ⟨rfl, rfl⟩ := d
    have h4 := bnum_4 w4 (id :: (be32 slot ++ cmd.bytes))
    have h5 := bnum_4 w6 cmd.bytes
    have hc := rb_cmd c w7 f1 []
    rw [List.append_nil] at hc
    obtain rfl := no_votes v f3
    simp [ballotBytes, h4, h5, hc, bnum_1, Msg.strip, bareMsg, no_req q, no_rep p, no_rng r f2]
  · obtain ⟨⟨⟨⟨⟨⟨rfl, q⟩, p⟩, c⟩, v⟩, r⟩, d⟩ := h
    obtain ⟨rfl, rfl⟩ := d
    have h4 := bnum_4 w4 (id :: be32 slot)
    have h5 := bnum_4 w6 []
    rw [List.append_nil] at h5
    obtain rfl := no_votes v f3
    simp [ballotBytes, h4, h5, bnum_1, Msg.strip, bareMsg, no_req q, no_rep p, no_cmd c.1 c.2 f1, no_rng r f2]
  · obtain ⟨⟨⟨⟨⟨⟨⟨rfl, q⟩, p⟩, b⟩, c⟩, v⟩, r⟩, d⟩ := h
    obtain ⟨rfl, rfl⟩ := b
    obtain ⟨rfl, rfl⟩ := d
    have h5 := bnum_4 w6 cmd.bytes
    have hc := rb_cmd c w7 f1 []
    rw [List.append_nil] at hc
    obtain rfl := no_votes v f3
    simp [h5, hc, Msg.strip, bareMsg, no_req q, no_rep p, no_rng r f2]
  · obtain ⟨⟨⟨⟨⟨⟨⟨⟨rfl, q⟩, p⟩, b⟩, rfl⟩, c⟩, v⟩, r⟩, d⟩ := h
    obtain ⟨rfl, rfl⟩ := b
    obtain ⟨rfl, rfl⟩ := d
    have hr := rb_rng r w9 []
    rw [List.append_nil] at hr
    obtain rfl := no_votes v f3
    simp [hr, Msg.strip, bareMsg, no_req q, no_rep p, no_cmd c.1 c.2 f1]
  · obtain ⟨⟨⟨⟨⟨⟨⟨⟨rfl, q⟩, p⟩, b⟩, rfl⟩, c⟩, v⟩, r⟩, d⟩ := h
    obtain ⟨rfl, rfl⟩ := b
    have h5 := bnum_4 w11 []
    rw [List.append_nil] at h5
    obtain rfl := no_votes v f3
    simp [h5, bnum_1, Msg.strip, bareMsg, no_req q, no_rep p, no_cmd c.1 c.2 f1, no_rng r f2]


end Go.Proofs.Ytignemioillaiaa

namespace Go.Proofs.Ytignemioillaiaa
open Go.RowKit

/-- Where g breaks nothing, nothing was broken ahead of it, there was something to read, and f reads the same. -/
def Agr {α : Type} (f : Rd α) (g : Rb α) : Prop := ∀ s : List Int × Bool, Byt s.1 → (g s).2.2 = false → s.2 = false ∧ s.1 ≠ [] ∧ (g s).1 = (f s.1).1 ∧ (g s).2.1 = (f s.1).2
def AgrL {α : Type} (f : Rd α) (g : Rb α) : Prop := ∀ s : List Int × Bool, Byt s.1 → (g s).2.2 = false → s.2 = false ∧ (g s).1 = (f s.1).1 ∧ (g s).2.1 = (f s.1).2

theorem bnum_flag {n : Nat} {s : List Int × Bool} (h : (bnum n s).2.2 = false) : s.2 = false := by
  unfold bnum at h
  simp only [Bool.or_eq_false_iff] at h
  exact h.1
theorem bnum_some {n : Nat} {s : List Int × Bool} (hn : 0 < n) (h : (bnum n s).2.2 = false) : s.1 ≠ [] := by
  unfold bnum at h
  simp only [Bool.or_eq_false_iff, decide_eq_false_iff_not] at h
  intro e
  rw [e] at h
  exact h.2 (by simpa using hn)

theorem ne_short {l : List Int} (h : ¬ l.length < 1) : l ≠ [] := by intro e; subst e; exact h (by decide)

theorem agr_req : Agr rdReq rbReq := by
  intro s _ h
  simp only [rbReq, rdReq, bnum] at h ⊢
  by_cases k2 : (num 1 (num 4 (num 1 s.1).2).2).1 = 2
  · simp only [k2, if_true] at h ⊢
    simp only [Bool.or_eq_false_iff, decide_eq_false_iff_not] at h
    exact ⟨h.1.1.1.1.1, ne_short h.1.1.1.1.2, trivial, trivial⟩
  · simp only [k2, if_false] at h ⊢
    by_cases k4 : (num 1 (num 4 (num 1 s.1).2).2).1 = 4
    · simp only [k4, if_true] at h ⊢
      simp only [Bool.or_eq_false_iff, decide_eq_false_iff_not] at h
      exact ⟨h.1.1.1.1.1.1, ne_short h.1.1.1.1.1.2, trivial, trivial⟩
    · simp only [k4, if_false] at h ⊢
      simp only [Bool.or_eq_false_iff, decide_eq_false_iff_not] at h
      exact ⟨h.1.1.1.1, ne_short h.1.1.1.2, trivial, trivial⟩

theorem agr_row : Agr rdRow rbRow := by
  intro s _ h
  have h1 := bnum_flag (s := (bnum 8 s).2) h
  exact ⟨bnum_flag h1, bnum_some (by decide) h1, rfl, rfl⟩

theorem agr_rep : Agr rdRep rbRep := by
  intro s hb h
  have b4 : Byt (num 1 (num 8 (num 4 (num 1 s.1).2).2).2).2 := byt_num (byt_num (byt_num (byt_num hb)))
  have g1 := num1_in b4
  simp only [rbRep, rdRep, bnum] at h ⊢
  by_cases k1 : (num 1 (num 8 (num 4 (num 1 s.1).2).2).2).1 = 1
  · simp only [k1, if_true] at h ⊢
    by_cases f1 : (num 1 (num 1 (num 8 (num 4 (num 1 s.1).2).2).2).2).1 = 1
    · have f9 : ((1 : Int) = 0) = False := by simp
      simp only [f1, if_true, f9, if_false] at h ⊢
      simp only [Bool.or_eq_false_iff, decide_eq_false_iff_not] at h
      exact ⟨h.1.1.1.1.1.1.1, ne_short h.1.1.1.1.1.1.2, trivial, trivial⟩
    · simp only [f1, if_false] at h
      simp only [Bool.or_eq_false_iff, decide_eq_false_iff_not] at h
      have f0 : (num 1 (num 1 (num 8 (num 4 (num 1 s.1).2).2).2).2).1 = 0 := by
        by_cases g2 : (1 : Int) < (num 1 (num 1 (num 8 (num 4 (num 1 s.1).2).2).2).2).1
        · have h2 := h.2
          simp only [g2, decide_true] at h2
          cases h2
        · omega
      simp only [f1, if_false]
      simp only [f0, if_true]
      exact ⟨h.1.1.1.1.1.1, ne_short h.1.1.1.1.1.2, trivial, trivial⟩
  · simp only [k1, if_false] at h ⊢
    by_cases k3 : (num 1 (num 8 (num 4 (num 1 s.1).2).2).2).1 = 3
    · simp only [k3, if_true] at h ⊢
      simp only [Bool.or_eq_false_iff, decide_eq_false_iff_not] at h
      exact ⟨h.1.1.1.1.1, ne_short h.1.1.1.1.2, trivial, trivial⟩
    · simp only [k3, if_false] at h ⊢
      simp only [Bool.or_eq_false_iff, decide_eq_false_iff_not] at h
      exact ⟨h.1.1.1.1, ne_short h.1.1.1.2, trivial, trivial⟩

theorem agr_list {α : Type} {f : Rd α} {g : Rb α} (hf : ∀ l, Byt l → Byt (f l).2) (h : Agr f g) : ∀ n, AgrL (rdList f n) (rbList g n) := by
  intro n
  induction n with
  | zero => intro s _ h0; exact ⟨h0, rfl, rfl⟩
  | succ n ih =>
    intro s hb h0
    unfold rbList at h0 ⊢
    unfold rdList
    by_cases hs : s.2 = true
    · rw [if_pos hs] at h0
      rw [hs] at h0
      cases h0
    · rw [if_neg hs] at h0 ⊢
      dsimp only at h0 ⊢
      have hbx : Byt (g s).2.1 ∨ (g s).2.2 = true := by
        cases hg : (g s).2.2
        · exact .inl (by rw [(h s hb hg).2.2.2]; exact hf _ hb)
        · exact .inr rfl
      have hbr : (g s).2.2 = false := by
        cases n with
        | zero => exact h0
        | succ n =>
          cases hg : (g s).2.2
          · rfl
          · unfold rbList at h0
            rw [if_pos hg] at h0
            rw [← hg]; exact h0
      obtain ⟨a, b, c, d⟩ := h s hb hbr
      have hbx : Byt (g s).2.1 := by rw [d]; exact hf _ hb
      obtain ⟨a', c', d'⟩ := ih (g s).2 hbx h0
      rw [if_neg b]
      dsimp only
      refine ⟨a, ?_, ?_⟩
      · rw [c', c, d]
      · rw [d', d]

end Go.Proofs.Ytignemioillaiaa

namespace Go.Proofs.Ytignemioillaiaa
open Go.RowKit

theorem mono_list {α : Type} {g : Rb α} {n : Nat} {s : List Int × Bool} (h : (rbList g n s).2.2 = false) : s.2 = false := by
  cases n with
  | zero => exact h
  | succ n =>
    cases hs : s.2
    · rfl
    · unfold rbList at h
      rw [if_pos hs] at h
      rw [← hs]; exact h

theorem agr_rng : Agr rdRng rbRng := by
  intro s hb h
  obtain ⟨S, hS⟩ : ∃ S, S = (bnum 8 (bnum 8 (bnum 4 (bnum 1 (bnum 1 s).2).2).2).2).2 := ⟨_, rfl⟩
  obtain ⟨N, hN⟩ : ∃ N, N = bnum 1 S := ⟨_, rfl⟩
  obtain ⟨R, hR⟩ : ∃ R, R = rbList rbRow N.1.toNat N.2 := ⟨_, rfl⟩
  obtain ⟨K, hK⟩ : ∃ K, K = bnum 1 R.2 := ⟨_, rfl⟩
  obtain ⟨D, hD⟩ : ∃ D, D = rbList rbRep K.1.toNat K.2 := ⟨_, rfl⟩
  have e : rbRng s = (⟨(bnum 1 s).1, (bnum 1 (bnum 1 s).2).1, (bnum 4 (bnum 1 (bnum 1 s).2).2).1, (bnum 8 (bnum 4 (bnum 1 (bnum 1 s).2).2).2).1, (bnum 8 (bnum 8 (bnum 4 (bnum 1 (bnum 1 s).2).2).2).2).1, ⟨none, R.1.length, R.1.length⟩, ⟨none, D.1.length, D.1.length⟩, R.1, D.1⟩, D.2) := by
    unfold rbRng; dsimp only; rw [← hS, ← hN, ← hR, ← hK, ← hD]
  rw [e] at h ⊢
  dsimp only at h ⊢
  have h9 := h
  rw [hD] at h
  have hK2 : K.2.2 = false := mono_list h
  have hR2 : R.2.2 = false := bnum_flag (n := 1) (s := R.2) (by rw [← hK]; exact hK2)
  have hN2 : N.2.2 = false := mono_list (g := rbRow) (n := N.1.toNat) (by rw [← hR]; exact hR2)
  have hS2 : S.2 = false := bnum_flag (n := 1) (s := S) (by rw [← hN]; exact hN2)
  have hs : s.2 = false ∧ s.1 ≠ [] := by
    rw [hS] at hS2
    simp only [bnum, Bool.or_eq_false_iff, decide_eq_false_iff_not] at hS2
    exact ⟨hS2.1.1.1.1.1, ne_short hS2.1.1.1.1.2⟩
  have eS : S.1 = (num 8 (num 8 (num 4 (num 1 (num 1 s.1).2).2).2).2).2 := by rw [hS]; simp only [bnum]
  have hSb : Byt S.1 := by rw [eS]; exact byt_num (byt_num (byt_num (byt_num (byt_num hb))))
  have eN1 : N.1 = (num 1 S.1).1 := by rw [hN]; simp only [bnum]
  have eN2 : N.2.1 = (num 1 S.1).2 := by rw [hN]; simp only [bnum]
  have hNb : Byt N.2.1 := by rw [eN2]; exact byt_num hSb
  obtain ⟨_, r1, r2⟩ := agr_list (fun l h => (wf_row h).b) agr_row N.1.toNat N.2 hNb (by rw [← hR]; exact hR2)
  rw [← hR] at r1 r2
  have hRb : Byt R.2.1 := by rw [r2]; exact (wf_list (f := rdRow) (P := Row.wf) (fun l h => wf_row h) _ _ hNb).b
  have eK1 : K.1 = (num 1 R.2.1).1 := by rw [hK]; simp only [bnum]
  have eK2 : K.2.1 = (num 1 R.2.1).2 := by rw [hK]; simp only [bnum]
  have hKb : Byt K.2.1 := by rw [eK2]; exact byt_num hRb
  obtain ⟨_, d1, d2⟩ := agr_list (fun l h => (wf_rep h).b) agr_rep K.1.toNat K.2 hKb h
  rw [← hD] at d1 d2
  rw [eN1, eN2, eS] at r1 r2
  rw [eK1, eK2, r2] at d1 d2
  have e' : rdRng s.1 = (⟨(num 1 s.1).1, (num 1 (num 1 s.1).2).1, (num 4 (num 1 (num 1 s.1).2).2).1, (num 8 (num 4 (num 1 (num 1 s.1).2).2).2).1, (num 8 (num 8 (num 4 (num 1 (num 1 s.1).2).2).2).2).1, ⟨none, R.1.length, R.1.length⟩, ⟨none, D.1.length, D.1.length⟩, R.1, D.1⟩, D.2.1) := by
    unfold rdRng; dsimp only; rw [← r1, ← d1, ← d2]
  rw [e']
  refine ⟨hs.1, hs.2, ?_, rfl⟩
  simp only [bnum]

end Go.Proofs.Ytignemioillaiaa

namespace Go.Proofs.Ytignemioillaiaa
open Go.RowKit

theorem agr_cmd : Agr rdCmd rbCmd := by
  intro s hb h
  obtain ⟨K, hK⟩ : ∃ K, K = bnum 1 s := ⟨_, rfl⟩
  have eK1 : K.1 = (num 1 s.1).1 := by rw [hK]; simp only [bnum]
  have eK2 : K.2.1 = (num 1 s.1).2 := by rw [hK]; simp only [bnum]
  have hKb : Byt K.2.1 := by rw [eK2]; exact byt_num hb
  have first : K.2.2 = false → s.2 = false ∧ s.1 ≠ [] := by
    rw [hK]; intro h
    simp only [bnum, Bool.or_eq_false_iff, decide_eq_false_iff_not] at h
    exact ⟨h.1, ne_short h.2⟩
  unfold rbCmd at h ⊢
  unfold rdCmd
  dsimp only at h ⊢
  rw [← hK] at h ⊢
  rw [← eK1, ← eK2]
  by_cases k1 : K.1 = 1
  · rw [if_pos k1] at h
    rw [if_pos k1, if_pos k1]
    dsimp only at h ⊢
    obtain ⟨a, _, c, d⟩ := agr_req K.2 hKb h
    exact ⟨(first a).1, (first a).2, by rw [c], d⟩
  rw [if_neg k1] at h
  rw [if_neg k1, if_neg k1]
  by_cases k2 : K.1 = 2
  · rw [if_pos k2] at h
    rw [if_pos k2, if_pos k2]
    dsimp only at h ⊢
    obtain ⟨a, _, c, d⟩ := agr_rng K.2 hKb h
    exact ⟨(first a).1, (first a).2, by rw [c], d⟩
  rw [if_neg k2] at h
  rw [if_neg k2, if_neg k2]
  by_cases k3 : K.1 = 3
  · rw [if_pos k3] at h
    rw [if_pos k3, if_pos k3]
    dsimp only at h ⊢
    simp only [bnum, Bool.or_eq_false_iff, decide_eq_false_iff_not] at h
    exact ⟨(first h.1.1).1, (first h.1.1).2, by simp only [bnum], by simp only [bnum]⟩
  rw [if_neg k3] at h
  rw [if_neg k3, if_neg k3]
  exact ⟨(first h).1, (first h).2, rfl, rfl⟩

theorem agr_vot : Agr rdVot rbVot := by
  intro s hb h
  obtain ⟨K, hK⟩ : ∃ K, K = (bnum 1 (bnum 4 (bnum 4 s).2).2).2 := ⟨_, rfl⟩
  have eK : K.1 = (num 1 (num 4 (num 4 s.1).2).2).2 := by rw [hK]; simp only [bnum]
  have hKb : Byt K.1 := by rw [eK]; exact byt_num (byt_num (byt_num hb))
  unfold rbVot at h ⊢
  unfold rdVot
  dsimp only at h ⊢
  rw [← hK] at h ⊢
  rw [← eK]
  obtain ⟨a, _, c, d⟩ := agr_cmd K hKb h
  rw [hK] at a
  simp only [bnum, Bool.or_eq_false_iff, decide_eq_false_iff_not] at a
  refine ⟨a.1.1.1, ?_, ?_, d⟩
  · intro e
    have := a.1.1.2
    rw [e] at this
    exact this (by decide)
  · rw [c]; simp only [bnum]

theorem agr_msg : Agr rdMsg rbMsg := by
  intro s hb h
  obtain ⟨K, hK⟩ : ∃ K, K = bnum 1 s := ⟨_, rfl⟩
  have eK1 : K.1 = (num 1 s.1).1 := by rw [hK]; simp only [bnum]
  have eK2 : K.2.1 = (num 1 s.1).2 := by rw [hK]; simp only [bnum]
  have hKb : Byt K.2.1 := by rw [eK2]; exact byt_num hb
  have first : K.2.2 = false → s.2 = false ∧ s.1 ≠ [] := by
    rw [hK]; intro h
    simp only [bnum, Bool.or_eq_false_iff, decide_eq_false_iff_not] at h
    exact ⟨h.1, ne_short h.2⟩
  unfold rbMsg at h ⊢
  unfold rdMsg
  dsimp only at h ⊢
  rw [← hK] at h ⊢
  rw [← eK1, ← eK2]
  by_cases k1 : K.1 = 1
  · rw [if_pos k1] at h
    rw [if_pos k1, if_pos k1]
    dsimp only at h ⊢
    obtain ⟨a, _, c, d⟩ := agr_req K.2 hKb h
    exact ⟨(first a).1, (first a).2, by rw [c], d⟩
  rw [if_neg k1] at h
  rw [if_neg k1, if_neg k1]
  by_cases k2 : K.1 = 2
  · rw [if_pos k2] at h
    rw [if_pos k2, if_pos k2]
    dsimp only at h ⊢
    obtain ⟨a, _, c, d⟩ := agr_rep K.2 hKb h
    exact ⟨(first a).1, (first a).2, by rw [c], d⟩
  rw [if_neg k2] at h
  rw [if_neg k2, if_neg k2]
  by_cases k3 : K.1 = 3 ∨ K.1 = 5
  · rw [if_pos k3] at h
    rw [if_pos k3, if_pos k3]
    dsimp only at h ⊢
    simp only [bnum, Bool.or_eq_false_iff, decide_eq_false_iff_not] at h
    exact ⟨(first h.1.1).1, (first h.1.1).2, by simp only [bnum], by simp only [bnum]⟩
  rw [if_neg k3] at h
  rw [if_neg k3, if_neg k3]
  by_cases k4 : K.1 = 4
  · rw [if_pos k4] at h
    rw [if_pos k4, if_pos k4]
    dsimp only at h ⊢
    obtain ⟨C, hC⟩ : ∃ C, C = bnum 1 (bnum 1 (bnum 4 K.2).2).2 := ⟨_, rfl⟩
    have eC1 : C.1 = (num 1 (num 1 (num 4 K.2.1).2).2).1 := by rw [hC]; simp only [bnum]
    have eC2 : C.2.1 = (num 1 (num 1 (num 4 K.2.1).2).2).2 := by rw [hC]; simp only [bnum]
    rw [← hC] at h ⊢
    rw [← eC1, ← eC2]
    have hCb : Byt C.2.1 := by rw [eC2]; exact byt_num (byt_num (byt_num hKb))
    obtain ⟨a, c, d⟩ := agr_list (fun l h => (wf_vot h).b) agr_vot C.1.toNat C.2 hCb h
    rw [hC] at a
    simp only [bnum, Bool.or_eq_false_iff, decide_eq_false_iff_not] at a
    refine ⟨(first a.1.1.1).1, (first a.1.1.1).2, ?_, d⟩
    rw [c]; simp only [bnum]
  rw [if_neg k4] at h
  rw [if_neg k4, if_neg k4]
  by_cases k6 : K.1 = 6
  · rw [if_pos k6] at h
    rw [if_pos k6, if_pos k6]
    dsimp only at h ⊢
    obtain ⟨C, hC⟩ : ∃ C, C = (bnum 4 (bnum 1 (bnum 4 K.2).2).2).2 := ⟨_, rfl⟩
    have eC : C.1 = (num 4 (num 1 (num 4 K.2.1).2).2).2 := by rw [hC]; simp only [bnum]
    rw [← hC] at h ⊢
    rw [← eC]
    have hCb : Byt C.1 := by rw [eC]; exact byt_num (byt_num (byt_num hKb))
    obtain ⟨a, _, c, d⟩ := agr_cmd C hCb h
    rw [hC] at a
    simp only [bnum, Bool.or_eq_false_iff, decide_eq_false_iff_not] at a
    refine ⟨(first a.1.1.1).1, (first a.1.1.1).2, ?_, d⟩
    rw [c]; simp only [bnum]
  rw [if_neg k6] at h
  rw [if_neg k6, if_neg k6]
  by_cases k7 : K.1 = 7
  · rw [if_pos k7] at h
    rw [if_pos k7, if_pos k7]
    dsimp only at h ⊢
    simp only [bnum, Bool.or_eq_false_iff, decide_eq_false_iff_not] at h
    exact ⟨(first h.1.1.1).1, (first h.1.1.1).2, by simp only [bnum], by simp only [bnum]⟩
  rw [if_neg k7] at h
  rw [if_neg k7, if_neg k7]
  by_cases k8 : K.1 = 8
  · rw [if_pos k8] at h
    rw [if_pos k8, if_pos k8]
    dsimp only at h ⊢
    obtain ⟨C, hC⟩ : ∃ C, C = (bnum 4 K.2).2 := ⟨_, rfl⟩
    have eC : C.1 = (num 4 K.2.1).2 := by rw [hC]; simp only [bnum]
    rw [← hC] at h ⊢
    rw [← eC]
    have hCb : Byt C.1 := by rw [eC]; exact byt_num hKb
    obtain ⟨a, _, c, d⟩ := agr_cmd C hCb h
    rw [hC] at a
    simp only [bnum, Bool.or_eq_false_iff, decide_eq_false_iff_not] at a
    refine ⟨(first a.1).1, (first a.1).2, ?_, d⟩
    rw [c]; simp only [bnum]
  rw [if_neg k8] at h
  rw [if_neg k8, if_neg k8]
  by_cases k9 : K.1 = 9
  · rw [if_pos k9] at h
    rw [if_pos k9, if_pos k9]
    dsimp only at h ⊢
    obtain ⟨a, _, c, d⟩ := agr_rng K.2 hKb h
    exact ⟨(first a).1, (first a).2, by rw [c], d⟩
  rw [if_neg k9] at h
  rw [if_neg k9, if_neg k9]
  by_cases k10 : K.1 = 10
  · rw [if_pos k10] at h
    rw [if_pos k10, if_pos k10]
    dsimp only at h ⊢
    simp only [bnum, Bool.or_eq_false_iff, decide_eq_false_iff_not] at h
    exact ⟨(first h.1.1).1, (first h.1.1).2, by simp only [bnum], by simp only [bnum]⟩
  rw [if_neg k10] at h
  rw [if_neg k10, if_neg k10]
  exact ⟨(first h).1, (first h).2, rfl, rfl⟩

end Go.Proofs.Ytignemioillaiaa

namespace Go.Proofs.Ytignemioillaiaa
open Go.RowKit

theorem strip_fit (m : Msg) : m.strip.fit := by
  refine ⟨⟨rfl, rfl⟩, ⟨rfl, rfl⟩, ?_, ?_⟩
  · simp [Msg.strip]
  · intro i x hx
    simp only [Msg.strip, List.getElem?_map, Option.map_eq_some_iff] at hx
    obtain ⟨y, _, rfl⟩ := hx
    exact ⟨rfl, rfl⟩

theorem good_bytes {l : List Int} (hb : Byt l) (h1 : (rdMsg l).1.ok = true) (h2 : bstr (rdMsg l).1.bytes = bstr l) : (rdMsg l).1.bytes = l :=
  bstr_inj (byt_msg (wf_msg hb).a h1) hb h2

theorem good_rb {l : List Int} (hb : Byt l) (h1 : (rdMsg l).1.ok = true) (h2 : bstr (rdMsg l).1.bytes = bstr l) : rbMsg (l, false) = ((rdMsg l).1, ([], false)) := by
  have hf := strip_fit (rdMsg l).1
  rw [msg_strip] at hf
  have h := rb_msg h1 (wf_msg hb).a hf
  rw [good_bytes hb h1 h2, msg_strip] at h
  exact h

theorem bad_rb {l : List Int} (hb : Byt l) : (rbMsg (l, false)).2.2 = true ∨ (rbMsg (l, false)).1 = (rdMsg l).1 := by
  cases h : (rbMsg (l, false)).2.2
  · exact .inr (agr_msg (l, false) hb h).2.2.1
  · exact .inl rfl

end Go.Proofs.Ytignemioillaiaa

