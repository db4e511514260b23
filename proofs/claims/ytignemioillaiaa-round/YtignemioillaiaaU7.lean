/- Round: the eight messages, as plain data: each is right, within bounds, and lies in memory. Round: what Parse and Marshal give of a right message's bytes, of these and one byte more, and of these and one byte less. -/
import Derived.Test.YtignemioillaiaaU4
import Derived.Test.YtignemioillaiaaB8
import Derived.Test.YtignemioillaiaaQ21
import Derived.Deep.MidRow
namespace Go.Proofs.Ytignemioillaiaa
open Go.RowKit

def Msg.cells (m : Msg) : List Value := [.int .u8 m.kind] ++ m.req.cells ++ m.rep.cells ++ [.int .u32 m.n, .int .u8 m.id, .int .u32 m.slot] ++ m.cmd.cells ++ [m.vs.val] ++ m.rng.cells ++ [.int .u8 m.peer, .int .u32 m.seq]

structure Msg.In (w : World) (m : Msg) : Prop where
  vs : VotesIn w.heap.size w m.vs m.votes
  cmd : m.cmd.rng.In w.heap.size w
  rng : m.rng.In w.heap.size w

theorem Msg.In.fit {w : World} {m : Msg} (h : m.In w) : m.fit :=
  ⟨⟨by simpa using h.cmd.rows.len, by simpa using h.cmd.dups.len⟩, ⟨by simpa using h.rng.rows.len, by simpa using h.rng.dups.len⟩, by simpa using h.vs.sl.len, fun i x hx => ⟨by simpa using (h.vs.all i x hx).rows.len, by simpa using (h.vs.all i x hx).dups.len⟩⟩

theorem Msg.In.later {w w' : World} {m : Msg} (h : m.In w) (hb : Below w.heap.size w w') : m.In w' :=
  ⟨h.vs.later hb, ⟨h.cmd.rows.later hb, h.cmd.dups.later hb⟩, ⟨h.rng.rows.later hb, h.rng.dups.later hb⟩⟩

theorem noRng_in (w : World) : noRng.In w.heap.size w :=
  ⟨⟨rfl, Nat.le_refl _, Nat.zero_le _, fun h => absurd h (Nat.lt_irrefl 0)⟩, ⟨rfl, Nat.le_refl _, Nat.zero_le _, fun h => absurd h (Nat.lt_irrefl 0)⟩⟩

theorem noVotes_in (w : World) : VotesIn w.heap.size w ⟨none, 0, 0⟩ [] :=
  ⟨⟨rfl, Nat.le_refl _, Nat.zero_le _, fun h => absurd h (Nat.lt_irrefl 0)⟩, by intro i v h; simp at h⟩

def cmd1 (r : Req) : Cmd := ⟨1, r, noRng, 0, 0⟩
def cmd2 (x : Rng) : Cmd := ⟨2, noReq, x, 0, 0⟩
def cmd3 (p s : Int) : Cmd := ⟨3, noReq, noRng, p, s⟩
def votes2 (slot bn bid : Int) (r : Req) (x : Rng) : List Vot := [⟨slot / 2, 0, 0, cmd1 r⟩, ⟨slot / 2 + 1, bn, bid, cmd2 x⟩]

def eight (r : Req) (x : Rng) (bn bid slot : Int) (bV : Nat) (p s : Int) : List Msg :=
  [⟨1, r, noRep, 0, 0, 0, noCmd, ⟨none, 0, 0⟩, noRng, 0, 0, []⟩, ⟨9, noReq, noRep, 0, 0, 0, noCmd, ⟨none, 0, 0⟩, x, 0, 0, []⟩, ⟨3, noReq, noRep, bn, bid, 0, noCmd, ⟨none, 0, 0⟩, noRng, 0, 0, []⟩,
    ⟨6, noReq, noRep, bn, bid, slot, cmd2 x, ⟨none, 0, 0⟩, noRng, 0, 0, []⟩, ⟨8, noReq, noRep, 0, 0, slot, cmd3 p s, ⟨none, 0, 0⟩, noRng, 0, 0, []⟩,
    ⟨4, noReq, noRep, bn, bid, 0, noCmd, ⟨some ⟨bV, 0, none⟩, 2, 2⟩, noRng, 0, 0, votes2 slot bn bid r x⟩, ⟨7, noReq, noRep, bn, bid, slot, noCmd, ⟨none, 0, 0⟩, noRng, 0, 0, []⟩,
    ⟨10, noReq, noRep, 0, 0, 0, noCmd, ⟨none, 0, 0⟩, noRng, p, s, []⟩]

/-- One of eight. -/
theorem of_eight {P : Msg → Prop} {r : Req} {x : Rng} {bn bid slot : Int} {bV : Nat} {p s : Int}
    (h : ∀ m ∈ eight r x bn bid slot bV p s, P m) (i : Nat) (m : Msg) (hm : (eight r x bn bid slot bV p s)[i]? = some m) : P m := h m (List.mem_of_getElem? hm)

theorem eight_ok {r : Req} {x : Rng} {bn bid slot : Int} {bV : Nat} {p s : Int} (hr : r.ok = true) (hx : x.ok = true) (hp : p < 4) : ∀ m ∈ eight r x bn bid slot bV p s, m.ok = true := by
  have hv : votesOk (votes2 slot bn bid r x) = true := by
    unfold votesOk votes2
    have h1 : (cmd1 r).ok = true := by simp [cmd1, Cmd.ok, hr, noRng, Rng.no]
    have h2 : (cmd2 x).ok = true := by simp [cmd2, Cmd.ok, hx, noReq, Req.no]
    simp [List.range_succ, voteAt, h1, h2]
    omega
  intro m hm
  simp only [eight, List.mem_cons, List.not_mem_nil, or_false] at hm
  rcases hm with rfl | rfl | rfl | rfl | rfl | rfl | rfl | rfl
  · simp [Msg.ok, hr, noRep, Rep.no, noCmd, Cmd.bare, noReq, Req.no, noRng, Rng.no]
  · simp [Msg.ok, hx, noRep, Rep.no, noCmd, Cmd.bare, noReq, Req.no, noRng, Rng.no]
  · simp [Msg.ok, noRep, Rep.no, noCmd, Cmd.bare, noReq, Req.no, noRng, Rng.no]
  · simp [Msg.ok, hx, noRep, Rep.no, Cmd.bare, noReq, Req.no, noRng, Rng.no, cmd2, Cmd.ok]
  · simp [Msg.ok, noRep, Rep.no, Cmd.bare, noReq, Req.no, noRng, Rng.no, cmd3, Cmd.ok, hp]
  · simp [Msg.ok, hv, noRep, Rep.no, noCmd, Cmd.bare, noReq, Req.no, noRng, Rng.no]
  · simp [Msg.ok, noRep, Rep.no, noCmd, Cmd.bare, noReq, Req.no, noRng, Rng.no]
  · simp [Msg.ok, noRep, Rep.no, noCmd, Cmd.bare, noReq, Req.no, noRng, Rng.no, hp]

theorem eight_wf {r : Req} {x : Rng} {bn bid slot : Int} {bV : Nat} {p s : Int} (hr : r.wf) (hx : x.wf) (hb : U32 bn) (hi : U8 bid) (hsl : U32 slot) (hp : U8 p) (hs : U32 s) : ∀ m ∈ eight r x bn bid slot bV p s, m.wf := by
  have hc1 : (cmd1 r).wf := cmd_wf (by unfold U8; omega) hr noRng_wf u8_0 u32_0
  have hc2 : (cmd2 x).wf := cmd_wf (by unfold U8; omega) noReq_wf hx u8_0 u32_0
  have hc3 : (cmd3 p s).wf := cmd_wf (by unfold U8; omega) noReq_wf noRng_wf hp hs
  have hn : Each Vot.wf [] := each_nil
  have hv : Each Vot.wf (votes2 slot bn bid r x) := by
    unfold U32 at hsl
    intro i y hy
    have := List.mem_of_getElem? hy
    simp only [votes2, List.mem_cons, List.not_mem_nil, or_false] at this
    rcases this with rfl | rfl
    · exact vot_wf (by unfold U32; omega) u32_0 u8_0 hc1
    · exact vot_wf (by unfold U32; omega) hb hi hc2
  intro m hm
  simp only [eight, List.mem_cons, List.not_mem_nil, or_false] at hm
  rcases hm with rfl | rfl | rfl | rfl | rfl | rfl | rfl | rfl
  · exact msg_wf (by unfold U8; omega) hr noRep_wf u32_0 u8_0 u32_0 noCmd_wf hn noRng_wf u8_0 u32_0
  · exact msg_wf (by unfold U8; omega) noReq_wf noRep_wf u32_0 u8_0 u32_0 noCmd_wf hn hx u8_0 u32_0
  · exact msg_wf (by unfold U8; omega) noReq_wf noRep_wf hb hi u32_0 noCmd_wf hn noRng_wf u8_0 u32_0
  · exact msg_wf (by unfold U8; omega) noReq_wf noRep_wf hb hi hsl hc2 hn noRng_wf u8_0 u32_0
  · exact msg_wf (by unfold U8; omega) noReq_wf noRep_wf u32_0 u8_0 hsl hc3 hn noRng_wf u8_0 u32_0
  · exact msg_wf (by unfold U8; omega) noReq_wf noRep_wf hb hi u32_0 noCmd_wf hv noRng_wf u8_0 u32_0
  · exact msg_wf (by unfold U8; omega) noReq_wf noRep_wf hb hi hsl noCmd_wf hn noRng_wf u8_0 u32_0
  · exact msg_wf (by unfold U8; omega) noReq_wf noRep_wf u32_0 u8_0 u32_0 noCmd_wf hn noRng_wf hp hs

theorem eight_in {w : World} {r : Req} {x : Rng} {bn bid slot : Int} {bV : Nat} {p s : Int} {t : TypeId} (hx : x.In w.heap.size w)
    (hV : w.heap[bV]? = some (.cells ((votes2 slot bn bid r x).map Vot.cells).flatten.toArray t)) : ∀ m ∈ eight r x bn bid slot bV p s, m.In w := by
  have hn := noRng_in w
  have h0 := noVotes_in w
  have hv : VotesIn w.heap.size w ⟨some ⟨bV, 0, none⟩, 2, 2⟩ (votes2 slot bn bid r x) := by
    refine ⟨⟨rfl, Nat.le_refl _, by show 2 ≤ maxLen; unfold maxLen; omega, fun _ => ⟨bV, 0, rfl, (Array.getElem?_eq_some_iff.1 hV).1, fun i y hy j u hu => ?_⟩⟩, fun i y hy => ?_⟩
    · rw [blk_cell hV, Nat.zero_add]
      simpa using flat_at _ (vots_all _) i y j u hy hu
    · have := List.mem_of_getElem? hy
      simp only [votes2, List.mem_cons, List.not_mem_nil, or_false] at this
      rcases this with rfl | rfl
      · exact hn
      · exact hx
  intro m hm
  simp only [eight, List.mem_cons, List.not_mem_nil, or_false] at hm
  rcases hm with rfl | rfl | rfl | rfl | rfl | rfl | rfl | rfl
  · exact ⟨h0, hn, hn⟩
  · exact ⟨h0, hn, hx⟩
  · exact ⟨h0, hn, hn⟩
  · exact ⟨h0, hx, hn⟩
  · exact ⟨h0, hn, hn⟩
  · exact ⟨hv, hn, hn⟩
  · exact ⟨h0, hn, hn⟩
  · exact ⟨h0, hn, hn⟩

theorem msgs_all (l : List Msg) : ∀ y ∈ l.map Msg.cells, y.length = 45 := by
  intro y hy; obtain ⟨m, _, rfl⟩ := List.mem_map.1 hy; rfl

/-- Messages in memory, side by side in block b: each is right. -/
structure MsIn (w : World) (b : Nat) (L : List Msg) : Prop where
  cells : w.heap[b]? = some (.cells (L.map Msg.cells).flatten.toArray 38)
  ok : ∀ (i : Nat) (m : Msg), L[i]? = some m → m.ok = true
  wf : ∀ (i : Nat) (m : Msg), L[i]? = some m → m.wf
  inn : ∀ (i : Nat) (m : Msg), L[i]? = some m → m.In w

theorem MsIn.later {w w' : World} {b : Nat} {L : List Msg} (h : MsIn w b L) (hb : Below w.heap.size w w') : MsIn w' b L :=
  ⟨blk_later hb h.cells, h.ok, h.wf, fun i m hm => (h.inn i m hm).later hb⟩

theorem MsIn.at {w : World} {b : Nat} {L : List Msg} (h : MsIn w b L) {i : Nat} {m : Msg} (hm : L[i]? = some m) : ∀ (j : Nat) (u : Value), m.cells[j]? = some u → w.cell? ⟨b, i * 45 + j, none⟩ = some u := by
  intro j u hu
  rw [blk_cell h.cells]
  simpa using flat_at _ (msgs_all L) i m.cells j u (by simp [hm]) hu

end Go.Proofs.Ytignemioillaiaa

namespace Go.Proofs.Ytignemioillaiaa
open Go.RowKit

theorem strip_atU {a b : List Vot} (h : a.map Vot.strip = b.map Vot.strip) {k : Nat} {x : Vot} (hx : b[k]? = some x) : ∃ y, a[k]? = some y ∧ y.strip = x.strip := by
  have h1 : (a.map Vot.strip)[k]? = some x.strip := by rw [h]; simp [hx]
  rw [List.getElem?_map] at h1
  cases hy : a[k]? with
  | none => rw [hy] at h1; cases h1
  | some y => rw [hy] at h1; exact ⟨y, rfl, by simpa using h1⟩

theorem Vot.wf_stripU {x : Vot} : x.strip.wf ↔ x.wf := by
  constructor
  all_goals
    rintro ⟨a, b, c, ⟨d, e, ⟨r1, r2, r3, r4, r5, r6, r7⟩, p, q⟩⟩
    exact ⟨a, b, c, ⟨d, e, ⟨r1, r2, r3, r4, r5, r6, r7⟩, p, q⟩⟩

theorem votes_wfU {a b : List Vot} (h : a.map Vot.strip = b.map Vot.strip) (hb : ∀ (i : Nat) (x : Vot), b[i]? = some x → x.wf) : ∀ (i : Nat) (x : Vot), a[i]? = some x → x.wf := by
  intro i x hx
  obtain ⟨y, hy, e⟩ := strip_atU h.symm hx
  have := Vot.wf_stripU.2 (hb i y hy)
  rw [e] at this
  exact Vot.wf_stripU.1 this

theorem in_fitU {B : Nat} {w : World} {r : Rng} (h1 : SlIn B w r.rs 2 (r.rows.map Row.cells)) (h2 : SlIn B w r.ds 7 (r.dups.map Rep.cells)) : r.fit := ⟨by simpa using h1.len, by simpa using h2.len⟩
theorem votes_fitU {B : Nat} {w : World} {s : Sl} {votes : List Vot} (h : VotesIn B w s votes) : ∀ (i : Nat) (x : Vot), votes[i]? = some x → x.cmd.rng.fit := fun i x hx => in_fitU (h.all i x hx).rows (h.all i x hx).dups

theorem msg_short {m : Msg} (h : m.ok = true) : m.bytes.length ≤ 100000000 := by
  have e : m.bytes.length = 1 + m.tail.length := by simp [Msg.bytes]; omega
  rw [e]
  have hq := m.req.len
  have hp := m.rep.len
  have hb : ∀ n i, (ballotBytes n i).length = 5 := fun n i => rfl
  have h4 : ∀ n, (be32 n).length = 4 := fun n => rfl
  simp only [Msg.ok, Bool.or_eq_true, Bool.and_eq_true, beq_iff_eq] at h
  unfold Msg.tail
  rcases h with (((((((h | h) | h) | h) | h) | h) | h) | h) | h
  · have hk : m.kind = 1 := by simp [h]
    simp only [hk, if_true]; omega
  · have hk : m.kind = 2 := by simp [h]
    simp [hk]; omega
  · obtain hk | hk : m.kind = 3 ∨ m.kind = 5 := by simp [h]
    all_goals (simp [hk, hb])
  · have hk : m.kind = 4 := by simp [h]
    have hv : votesOk m.votes = true := by simp [h]
    have h1 := votesOk_all hv
    have h2 := votes_len m.votes h1.2 m.votes.length
    rw [List.take_length] at h2
    have h3 : (votesBytes m.votes).length ≤ 12100 * m.votes.length := h2
    simp [hk, hb]
    have := h1.1
    omega
  · have hk : m.kind = 6 := by simp [h]
    have hc : m.cmd.ok = true := by simp [h]
    have h1 := m.cmd.len (fun e => (Cmd.ok_short hc e).1) (fun e => (Cmd.ok_short hc e).2)
    simp [hk, hb, h4]; omega
  · have hk : m.kind = 7 := by simp [h]
    simp [hk, hb, h4]
  · have hk : m.kind = 8 := by simp [h]
    have hc : m.cmd.ok = true := by simp [h]
    have h1 := m.cmd.len (fun e => (Cmd.ok_short hc e).1) (fun e => (Cmd.ok_short hc e).2)
    simp [hk, h4]; omega
  · have hk : m.kind = 9 := by simp [h]
    have hc : m.rng.ok = true := by simp [h]
    have h1 := m.rng.len (Rng.ok_len hc).1 (Rng.ok_len hc).2
    simp [hk]; omega
  · have hk : m.kind = 10 := by simp [h]
    simp [hk, h4]

/-- Bytes that are no message. -/
theorem parse_none (l : List Int) (w : World) (hb : Byt l) (hl : l.length ≤ 1000000000000000) (h : (rdMsg l).1.ok = true → (rdMsg l).1.bytes ≠ l) :
    Calls Try.prog 14 #[.string (bstr l)] w fun e w' => e = .returned (.tuple #[.agg (List.toArray (α := Value) (.int .u8 0 :: .int .u8 0 :: .int .u32 0 :: .int .u8 0 :: .int .u64 0 :: .int .u64 0 :: .int .u64 0 :: .int .u8 0 :: .int .u8 0 :: .int .u32 0 :: .int .u64 0 :: .int .u8 0 :: .bool false :: .int .u64 0 :: .int .u8 0 :: .int .u32 0 :: .int .u8 0 :: .int .u32 0 :: .int .u8 0 :: .int .u8 0 :: .int .u32 0 :: .int .u8 0 :: .int .u64 0 :: .int .u64 0 :: .int .u64 0 :: .int .u8 0 :: .int .u8 0 :: .int .u8 0 :: .int .u32 0 :: .int .u64 0 :: .int .u64 0 :: .slice none 0 0 :: .slice none 0 0 :: .int .u8 0 :: .int .u32 0 :: .slice none 0 0 :: .int .u8 0 :: .int .u8 0 :: .int .u32 0 :: .int .u64 0 :: .int .u64 0 :: .slice none 0 0 :: .slice none 0 0 :: .int .u8 0 :: .int .u32 0 :: [])), .int .i64 2]) ∧ Below w.heap.size w w' := by
  obtain ⟨m, hm⟩ : ∃ m, (rdMsg l).1 = m := ⟨_, rfl⟩
  rw [hm] at h
  have hwf := (wf_msg hb).1
  rw [hm] at hwf
  obtain ⟨mkind, ⟨mqc, mqs, mqk, mqkey, mqv, mqhi, mqto⟩, ⟨mpc, mps, mpkey, mpk, mpf, mpv, mpg⟩, mn, mid, mslot, ⟨mckind, ⟨mcqc, mcqs, mcqk, mcqkey, mcqv, mcqhi, mcqto⟩, ⟨mcrsrc, mcrdst, mcrseq, mcrlo, mcrhi, ⟨mcrra, mcrrn, mcrrc⟩, ⟨mcrda, mcrdn, mcrdc⟩, mcrrows, mcrdups⟩, mcpeer, mcsq⟩, ⟨mva, mvn, mvc⟩, ⟨mrsrc, mrdst, mrseq, mrlo, mrhi, ⟨mrra, mrrn, mrrc⟩, ⟨mrda, mrdn, mrdc⟩, mrrows, mrdups⟩, mpeer, msq, mvotes⟩ := m
  cases hok : Msg.ok _ with
  | false => exact parse_f1 _ _ _ _ _ _ _ _ _ _ _ _ _ _ _ _ _ _ _ _ _ _ _ _ _ _ _ _ _ _ _ _ _ _ _ _ _ _ _ _ _ _ _ _ _ _ _ _ _ _ _ _ _ _ _ mcrrows mrrows mcrdups mrdups mvotes l w hb hl hm hok
  | true => exact parse_f2 _ _ _ _ _ _ _ _ _ _ _ _ _ _ _ _ _ _ _ _ _ _ _ _ _ _ _ _ _ _ _ _ _ _ _ _ _ _ _ _ _ _ _ _ _ _ _ _ _ _ _ _ _ _ _ mcrrows mrrows mcrdups mrdups mvotes l w hb hl hm hok (fun e => h hok (bstr_inj (byt_msg hwf hok) hb e))

theorem range_blk {w : World} {b o n : Nat} {xs cs : List Value} {t : TypeId} (hW : w.heap[b]? = some (.cells xs.toArray t)) (hcs : (xs.drop o).take n = cs) : w.rangeAt b o cs := by
  intro j v hv
  subst hcs
  rw [blk_cell hW]
  rw [List.getElem?_take] at hv
  split at hv
  · simpa using hv
  · cases hv
theorem range_at {w : World} {b base o n : Nat} {xs cs : List Value} (hW : ∀ (j : Nat) (u : Value), xs[j]? = some u → w.cell? ⟨b, base + j, none⟩ = some u) (hcs : (xs.drop o).take n = cs) : w.rangeAt b (base + o) cs := by
  intro j v hv
  subst hcs
  rw [List.getElem?_take] at hv
  split at hv
  · rw [Nat.add_assoc]; exact hW _ _ (by simpa using hv)
  · cases hv

theorem bstr_more (l : List Int) : bstr l ++ { data := #[0] } = bstr (l ++ [0]) := by
  rw [← bstr_append]; rfl
theorem bstr_less (l : List Int) (z : Int) : (bstr (l ++ [z])).extract 0 l.length = bstr l := by
  apply ByteArray.ext
  rw [ByteArray.data_extract, bstr_data, bstr_data]
  simp

theorem byt_less {l : List Int} {z : Int} (h : Byt (l ++ [z])) : Byt l := fun x hx => h x (by simp [hx])
theorem byt_more {l : List Int} (h : Byt l) : Byt (l ++ [0]) := by
  intro x hx; simp at hx; rcases hx with hx | rfl
  · exact h x hx
  · decide

/-- What Parse makes of a right message's bytes: the message, with lists of its own. -/
theorem parse_back (mkind : Int) (mqc mqs mqk mqkey mqv mqhi mqto : Int) (mpc mps mpkey mpk : Int) (mpf : Bool) (mpv mpg : Int) (mn mid mslot : Int) (mckind : Int) (mcqc mcqs mcqk mcqkey mcqv mcqhi mcqto : Int) (mcrsrc mcrdst mcrseq mcrlo mcrhi : Int) (mcrra : Option Addr) (mcrrn mcrrc : Nat) (mcrda : Option Addr) (mcrdn mcrdc : Nat) (mcpeer mcsq : Int) (mva : Option Addr) (mvn mvc : Nat) (mrsrc mrdst mrseq mrlo mrhi : Int) (mrra : Option Addr) (mrrn mrrc : Nat) (mrda : Option Addr) (mrdn mrdc : Nat) (mpeer msq : Int) (mcrrows mrrows : List Row) (mcrdups mrdups : List Rep) (mvotes : List Vot) (w : World) (hok : (Msg.mk mkind (Req.mk mqc mqs mqk mqkey mqv mqhi mqto) (Rep.mk mpc mps mpkey mpk mpf mpv mpg) mn mid mslot (Cmd.mk mckind (Req.mk mcqc mcqs mcqk mcqkey mcqv mcqhi mcqto) (Rng.mk mcrsrc mcrdst mcrseq mcrlo mcrhi ⟨mcrra, mcrrn, mcrrc⟩ ⟨mcrda, mcrdn, mcrdc⟩ mcrrows mcrdups) mcpeer mcsq) ⟨mva, mvn, mvc⟩ (Rng.mk mrsrc mrdst mrseq mrlo mrhi ⟨mrra, mrrn, mrrc⟩ ⟨mrda, mrdn, mrdc⟩ mrrows mrdups) mpeer msq mvotes).ok = true) (hwf : (Msg.mk mkind (Req.mk mqc mqs mqk mqkey mqv mqhi mqto) (Rep.mk mpc mps mpkey mpk mpf mpv mpg) mn mid mslot (Cmd.mk mckind (Req.mk mcqc mcqs mcqk mcqkey mcqv mcqhi mcqto) (Rng.mk mcrsrc mcrdst mcrseq mcrlo mcrhi ⟨mcrra, mcrrn, mcrrc⟩ ⟨mcrda, mcrdn, mcrdc⟩ mcrrows mcrdups) mcpeer mcsq) ⟨mva, mvn, mvc⟩ (Rng.mk mrsrc mrdst mrseq mrlo mrhi ⟨mrra, mrrn, mrrc⟩ ⟨mrda, mrdn, mrdc⟩ mrrows mrdups) mpeer msq mvotes).wf) (hfit : (Msg.mk mkind (Req.mk mqc mqs mqk mqkey mqv mqhi mqto) (Rep.mk mpc mps mpkey mpk mpf mpv mpg) mn mid mslot (Cmd.mk mckind (Req.mk mcqc mcqs mcqk mcqkey mcqv mcqhi mcqto) (Rng.mk mcrsrc mcrdst mcrseq mcrlo mcrhi ⟨mcrra, mcrrn, mcrrc⟩ ⟨mcrda, mcrdn, mcrdc⟩ mcrrows mcrdups) mcpeer mcsq) ⟨mva, mvn, mvc⟩ (Rng.mk mrsrc mrdst mrseq mrlo mrhi ⟨mrra, mrrn, mrrc⟩ ⟨mrda, mrdn, mrdc⟩ mrrows mrdups) mpeer msq mvotes).fit) :
    Calls Try.prog 14 #[.string (bstr (Msg.mk mkind (Req.mk mqc mqs mqk mqkey mqv mqhi mqto) (Rep.mk mpc mps mpkey mpk mpf mpv mpg) mn mid mslot (Cmd.mk mckind (Req.mk mcqc mcqs mcqk mcqkey mcqv mcqhi mcqto) (Rng.mk mcrsrc mcrdst mcrseq mcrlo mcrhi ⟨mcrra, mcrrn, mcrrc⟩ ⟨mcrda, mcrdn, mcrdc⟩ mcrrows mcrdups) mcpeer mcsq) ⟨mva, mvn, mvc⟩ (Rng.mk mrsrc mrdst mrseq mrlo mrhi ⟨mrra, mrrn, mrrc⟩ ⟨mrda, mrdn, mrdc⟩ mrrows mrdups) mpeer msq mvotes).bytes)] w fun e w' => ∃ (r1a : Option Addr) (r1c : Nat) (r2a : Option Addr) (r2c : Nat) (c1a : Option Addr) (c1c : Nat) (c2a : Option Addr) (c2c : Nat) (va : Option Addr) (vc : Nat) (ovs : List Vot), e = .returned (.tuple #[.agg (List.toArray (α := Value) (.int .u8 mkind :: .int .u8 mqc :: .int .u32 mqs :: .int .u8 mqk :: .int .u64 mqkey :: .int .u64 mqv :: .int .u64 mqhi :: .int .u8 mqto :: .int .u8 mpc :: .int .u32 mps :: .int .u64 mpkey :: .int .u8 mpk :: .bool mpf :: .int .u64 mpv :: .int .u8 mpg :: .int .u32 mn :: .int .u8 mid :: .int .u32 mslot :: .int .u8 mckind :: .int .u8 mcqc :: .int .u32 mcqs :: .int .u8 mcqk :: .int .u64 mcqkey :: .int .u64 mcqv :: .int .u64 mcqhi :: .int .u8 mcqto :: .int .u8 mcrsrc :: .int .u8 mcrdst :: .int .u32 mcrseq :: .int .u64 mcrlo :: .int .u64 mcrhi :: .slice c1a mcrrn c1c :: .slice c2a mcrdn c2c :: .int .u8 mcpeer :: .int .u32 mcsq :: .slice va mvn vc :: .int .u8 mrsrc :: .int .u8 mrdst :: .int .u32 mrseq :: .int .u64 mrlo :: .int .u64 mrhi :: .slice r1a mrrn r1c :: .slice r2a mrdn r2c :: .int .u8 mpeer :: .int .u32 msq :: [])), .int .i64 0]) ∧
      SlIn w'.heap.size w' ⟨r1a, mrrn, r1c⟩ 2 (mrrows.map Row.cells) ∧ SlIn w'.heap.size w' ⟨r2a, mrdn, r2c⟩ 7 (mrdups.map Rep.cells) ∧ SlIn w'.heap.size w' ⟨c1a, mcrrn, c1c⟩ 2 (mcrrows.map Row.cells) ∧ SlIn w'.heap.size w' ⟨c2a, mcrdn, c2c⟩ 7 (mcrdups.map Rep.cells) ∧
      VotesIn w'.heap.size w' ⟨va, mvn, vc⟩ ovs ∧ ovs.map Vot.strip = mvotes.map Vot.strip ∧ Below w.heap.size w w' := by
  have hrd := rd_msg hok hwf hfit
  have hs := Msg.ok_strip hfit
  rw [hok] at hs
  have hb := byt_msg hwf hok
  have hl := msg_short hok
  have hby := Msg.bytes_strip (Msg.mk mkind (Req.mk mqc mqs mqk mqkey mqv mqhi mqto) (Rep.mk mpc mps mpkey mpk mpf mpv mpg) mn mid mslot (Cmd.mk mckind (Req.mk mcqc mcqs mcqk mcqkey mcqv mcqhi mcqto) (Rng.mk mcrsrc mcrdst mcrseq mcrlo mcrhi ⟨mcrra, mcrrn, mcrrc⟩ ⟨mcrda, mcrdn, mcrdc⟩ mcrrows mcrdups) mcpeer mcsq) ⟨mva, mvn, mvc⟩ (Rng.mk mrsrc mrdst mrseq mrlo mrhi ⟨mrra, mrrn, mrrc⟩ ⟨mrda, mrdn, mrdc⟩ mrrows mrdups) mpeer msq mvotes)
  obtain ⟨⟨f1, f2⟩, ⟨f3, f4⟩, f5, f6⟩ := hfit
  dsimp only at f1 f2 f3 f4 f5
  subst f1 f2 f3 f4 f5
  refine (parse_t mkind mqc mqs mqk mqkey mqv mqhi mqto mpc mps mpkey mpk mpf mpv mpg mn mid mslot mckind mcqc mcqs mcqk mcqkey mcqv mcqhi mcqto mcrsrc mcrdst mcrseq mcrlo mcrhi none mcrrows.length mcrrows.length none mcrdups.length mcrdups.length mcpeer mcsq none mvotes.length mvotes.length mrsrc mrdst mrseq mrlo mrhi none mrrows.length mrrows.length none mrdups.length mrdups.length mpeer msq mcrrows mrrows mcrdups mrdups (mvotes.map Vot.strip) _ w hb (by omega) (by rw [hrd]; rfl) hs (congrArg bstr hby)).mono ?_
  rintro e w' ⟨r1a, r1n, r1c, r2a, r2n, r2c, c1a, c1n, c1c, c2a, c2n, c2c, va, vn, vc, ovs, rfl, o1, o2, o3, o4, ov, ⟨ovI, _⟩, hov, hbel⟩
  have s1 := own_slin' (s := ⟨r1a, r1n, r1c⟩) (xs := mrrows.map Row.cells) (by rw [List.length_map]; exact o1) (rows_all _)
  have s2 := own_slin' (s := ⟨r2a, r2n, r2c⟩) (xs := mrdups.map Rep.cells) (by rw [List.length_map]; exact o2) (dups_all _)
  have s3 := own_slin' (s := ⟨c1a, c1n, c1c⟩) (xs := mcrrows.map Row.cells) (by rw [List.length_map]; exact o3) (rows_all _)
  have s4 := own_slin' (s := ⟨c2a, c2n, c2c⟩) (xs := mcrdups.map Rep.cells) (by rw [List.length_map]; exact o4) (dups_all _)
  have s5 := own_slin' (s := ⟨va, vn, vc⟩) (xs := ovs.map Vot.cells) (by rw [List.length_map]; exact ov) (vots_all _)
  obtain rfl : r1n = mrrows.length := by simpa using s1.len
  obtain rfl : r2n = mrdups.length := by simpa using s2.len
  obtain rfl : c1n = mcrrows.length := by simpa using s3.len
  obtain rfl : c2n = mcrdups.length := by simpa using s4.len
  have hvl : ovs.length = mvotes.length := by have := congrArg List.length hov; simpa using this
  obtain rfl : vn = mvotes.length := by have := s5.len; simp at this; omega
  exact ⟨r1a, r1c, r2a, r2c, c1a, c1c, c2a, c2c, va, vc, ovs, rfl, s1, s2, s3, s4, ⟨s5, fun i x hx => (ovI.all i x hx).In⟩, hov, hbel⟩

/-- Marshal of what was read gives the bytes that were read. -/
theorem marshal_back (mkind : Int) (mqc mqs mqk mqkey mqv mqhi mqto : Int) (mpc mps mpkey mpk : Int) (mpf : Bool) (mpv mpg : Int) (mn mid mslot : Int) (mckind : Int) (mcqc mcqs mcqk mcqkey mcqv mcqhi mcqto : Int) (mcrsrc mcrdst mcrseq mcrlo mcrhi : Int) (mcrra : Option Addr) (mcrrn mcrrc : Nat) (mcrda : Option Addr) (mcrdn mcrdc : Nat) (mcpeer mcsq : Int) (mva : Option Addr) (mvn mvc : Nat) (mrsrc mrdst mrseq mrlo mrhi : Int) (mrra : Option Addr) (mrrn mrrc : Nat) (mrda : Option Addr) (mrdn mrdc : Nat) (mpeer msq : Int) (mcrrows mrrows : List Row) (mcrdups mrdups : List Rep) (mvotes : List Vot) (r1a : Option Addr) (r1c : Nat) (r2a : Option Addr) (r2c : Nat) (c1a : Option Addr) (c1c : Nat) (c2a : Option Addr) (c2c : Nat) (va : Option Addr) (vc : Nat) (ovs : List Vot) (w : World) (hok : (Msg.mk mkind (Req.mk mqc mqs mqk mqkey mqv mqhi mqto) (Rep.mk mpc mps mpkey mpk mpf mpv mpg) mn mid mslot (Cmd.mk mckind (Req.mk mcqc mcqs mcqk mcqkey mcqv mcqhi mcqto) (Rng.mk mcrsrc mcrdst mcrseq mcrlo mcrhi ⟨mcrra, mcrrn, mcrrc⟩ ⟨mcrda, mcrdn, mcrdc⟩ mcrrows mcrdups) mcpeer mcsq) ⟨mva, mvn, mvc⟩ (Rng.mk mrsrc mrdst mrseq mrlo mrhi ⟨mrra, mrrn, mrrc⟩ ⟨mrda, mrdn, mrdc⟩ mrrows mrdups) mpeer msq mvotes).ok = true) (hwf : (Msg.mk mkind (Req.mk mqc mqs mqk mqkey mqv mqhi mqto) (Rep.mk mpc mps mpkey mpk mpf mpv mpg) mn mid mslot (Cmd.mk mckind (Req.mk mcqc mcqs mcqk mcqkey mcqv mcqhi mcqto) (Rng.mk mcrsrc mcrdst mcrseq mcrlo mcrhi ⟨mcrra, mcrrn, mcrrc⟩ ⟨mcrda, mcrdn, mcrdc⟩ mcrrows mcrdups) mcpeer mcsq) ⟨mva, mvn, mvc⟩ (Rng.mk mrsrc mrdst mrseq mrlo mrhi ⟨mrra, mrrn, mrrc⟩ ⟨mrda, mrdn, mrdc⟩ mrrows mrdups) mpeer msq mvotes).wf) (hfit : (Msg.mk mkind (Req.mk mqc mqs mqk mqkey mqv mqhi mqto) (Rep.mk mpc mps mpkey mpk mpf mpv mpg) mn mid mslot (Cmd.mk mckind (Req.mk mcqc mcqs mcqk mcqkey mcqv mcqhi mcqto) (Rng.mk mcrsrc mcrdst mcrseq mcrlo mcrhi ⟨mcrra, mcrrn, mcrrc⟩ ⟨mcrda, mcrdn, mcrdc⟩ mcrrows mcrdups) mcpeer mcsq) ⟨mva, mvn, mvc⟩ (Rng.mk mrsrc mrdst mrseq mrlo mrhi ⟨mrra, mrrn, mrrc⟩ ⟨mrda, mrdn, mrdc⟩ mrrows mrdups) mpeer msq mvotes).fit)
    (s1 : SlIn w.heap.size w ⟨r1a, mrrn, r1c⟩ 2 (mrrows.map Row.cells)) (s2 : SlIn w.heap.size w ⟨r2a, mrdn, r2c⟩ 7 (mrdups.map Rep.cells)) (s3 : SlIn w.heap.size w ⟨c1a, mcrrn, c1c⟩ 2 (mcrrows.map Row.cells)) (s4 : SlIn w.heap.size w ⟨c2a, mcrdn, c2c⟩ 7 (mcrdups.map Rep.cells))
    (s5 : VotesIn w.heap.size w ⟨va, mvn, vc⟩ ovs) (hov : ovs.map Vot.strip = mvotes.map Vot.strip) :
    Calls Try.prog 11 #[.agg (List.toArray (α := Value) (.int .u8 mkind :: .int .u8 mqc :: .int .u32 mqs :: .int .u8 mqk :: .int .u64 mqkey :: .int .u64 mqv :: .int .u64 mqhi :: .int .u8 mqto :: .int .u8 mpc :: .int .u32 mps :: .int .u64 mpkey :: .int .u8 mpk :: .bool mpf :: .int .u64 mpv :: .int .u8 mpg :: .int .u32 mn :: .int .u8 mid :: .int .u32 mslot :: .int .u8 mckind :: .int .u8 mcqc :: .int .u32 mcqs :: .int .u8 mcqk :: .int .u64 mcqkey :: .int .u64 mcqv :: .int .u64 mcqhi :: .int .u8 mcqto :: .int .u8 mcrsrc :: .int .u8 mcrdst :: .int .u32 mcrseq :: .int .u64 mcrlo :: .int .u64 mcrhi :: .slice c1a mcrrn c1c :: .slice c2a mcrdn c2c :: .int .u8 mcpeer :: .int .u32 mcsq :: .slice va mvn vc :: .int .u8 mrsrc :: .int .u8 mrdst :: .int .u32 mrseq :: .int .u64 mrlo :: .int .u64 mrhi :: .slice r1a mrrn r1c :: .slice r2a mrdn r2c :: .int .u8 mpeer :: .int .u32 msq :: []))] w fun e w' => e = .returned (.tuple #[.string (bstr (Msg.mk mkind (Req.mk mqc mqs mqk mqkey mqv mqhi mqto) (Rep.mk mpc mps mpkey mpk mpf mpv mpg) mn mid mslot (Cmd.mk mckind (Req.mk mcqc mcqs mcqk mcqkey mcqv mcqhi mcqto) (Rng.mk mcrsrc mcrdst mcrseq mcrlo mcrhi ⟨mcrra, mcrrn, mcrrc⟩ ⟨mcrda, mcrdn, mcrdc⟩ mcrrows mcrdups) mcpeer mcsq) ⟨mva, mvn, mvc⟩ (Rng.mk mrsrc mrdst mrseq mrlo mrhi ⟨mrra, mrrn, mrrc⟩ ⟨mrda, mrdn, mrdc⟩ mrrows mrdups) mpeer msq mvotes).bytes), .int .i64 0]) ∧ Below w.heap.size w w' := by
  have hfit' : Msg.fit (Msg.mk mkind (Req.mk mqc mqs mqk mqkey mqv mqhi mqto) (Rep.mk mpc mps mpkey mpk mpf mpv mpg) mn mid mslot (Cmd.mk mckind (Req.mk mcqc mcqs mcqk mcqkey mcqv mcqhi mcqto) (Rng.mk mcrsrc mcrdst mcrseq mcrlo mcrhi ⟨c1a, mcrrn, c1c⟩ ⟨c2a, mcrdn, c2c⟩ mcrrows mcrdups) mcpeer mcsq) ⟨va, mvn, vc⟩ (Rng.mk mrsrc mrdst mrseq mrlo mrhi ⟨r1a, mrrn, r1c⟩ ⟨r2a, mrdn, r2c⟩ mrrows mrdups) mpeer msq ovs) :=
    ⟨in_fitU s3 s4, in_fitU s1 s2, by simpa using s5.sl.len, votes_fitU s5⟩
  have hst : Msg.strip (Msg.mk mkind (Req.mk mqc mqs mqk mqkey mqv mqhi mqto) (Rep.mk mpc mps mpkey mpk mpf mpv mpg) mn mid mslot (Cmd.mk mckind (Req.mk mcqc mcqs mcqk mcqkey mcqv mcqhi mcqto) (Rng.mk mcrsrc mcrdst mcrseq mcrlo mcrhi ⟨c1a, mcrrn, c1c⟩ ⟨c2a, mcrdn, c2c⟩ mcrrows mcrdups) mcpeer mcsq) ⟨va, mvn, vc⟩ (Rng.mk mrsrc mrdst mrseq mrlo mrhi ⟨r1a, mrrn, r1c⟩ ⟨r2a, mrdn, r2c⟩ mrrows mrdups) mpeer msq ovs) = Msg.strip (Msg.mk mkind (Req.mk mqc mqs mqk mqkey mqv mqhi mqto) (Rep.mk mpc mps mpkey mpk mpf mpv mpg) mn mid mslot (Cmd.mk mckind (Req.mk mcqc mcqs mcqk mcqkey mcqv mcqhi mcqto) (Rng.mk mcrsrc mcrdst mcrseq mcrlo mcrhi ⟨mcrra, mcrrn, mcrrc⟩ ⟨mcrda, mcrdn, mcrdc⟩ mcrrows mcrdups) mcpeer mcsq) ⟨mva, mvn, mvc⟩ (Rng.mk mrsrc mrdst mrseq mrlo mrhi ⟨mrra, mrrn, mrrc⟩ ⟨mrda, mrdn, mrdc⟩ mrrows mrdups) mpeer msq mvotes) := by
    have hl : ovs.length = mvotes.length := by have := congrArg List.length hov; simpa using this
    simp only [Msg.strip, Cmd.strip, Rng.strip, hov, hl]
  have hok' := Msg.ok_strip hfit'
  rw [hst, Msg.ok_strip hfit, hok] at hok'
  have hby := Msg.bytes_strip (Msg.mk mkind (Req.mk mqc mqs mqk mqkey mqv mqhi mqto) (Rep.mk mpc mps mpkey mpk mpf mpv mpg) mn mid mslot (Cmd.mk mckind (Req.mk mcqc mcqs mcqk mcqkey mcqv mcqhi mcqto) (Rng.mk mcrsrc mcrdst mcrseq mcrlo mcrhi ⟨c1a, mcrrn, c1c⟩ ⟨c2a, mcrdn, c2c⟩ mcrrows mcrdups) mcpeer mcsq) ⟨va, mvn, vc⟩ (Rng.mk mrsrc mrdst mrseq mrlo mrhi ⟨r1a, mrrn, r1c⟩ ⟨r2a, mrdn, r2c⟩ mrrows mrdups) mpeer msq ovs)
  rw [hst, Msg.bytes_strip] at hby
  obtain ⟨w1, w2, w3, w4, w5, w6, w7, w8, w9, w10, w11⟩ := hwf
  obtain ⟨u1, u2, ⟨a1, a2, a3, a4, a5, a6, a7⟩, u4, u5⟩ := w7
  obtain ⟨b1, b2, b3, b4, b5, b6, b7⟩ := w9
  have := marshal_t mkind mqc mqs mqk mqkey mqv mqhi mqto mpc mps mpkey mpk mpf mpv mpg mn mid mslot mckind mcqc mcqs mcqk mcqkey mcqv mcqhi mcqto mcrsrc mcrdst mcrseq mcrlo mcrhi c1a mcrrn c1c c2a mcrdn c2c mcpeer mcsq va mvn vc mrsrc mrdst mrseq mrlo mrhi r1a mrrn r1c r2a mrdn r2c mpeer msq mcrrows mrrows mcrdups mrdups ovs w s5 s3 s4 s1 s2 ⟨w1, w2, w3, w4, w5, w6, ⟨u1, u2, ⟨a1, a2, a3, a4, a5, a6, a7⟩, u4, u5⟩, votes_wfU hov w8, ⟨b1, b2, b3, b4, b5, b6, b7⟩, w10, w11⟩ hok'.symm
  rw [hby]
  exact this

end Go.Proofs.Ytignemioillaiaa

