/- What was written is read, whatever stands behind it; so no message's bytes are the beginning of another's: no program text here. -/
import Derived.Test.YtignemioillaiaaQ14
import Derived.Test.YtignemioillaiaaQ21
namespace Go.Proofs.Ytignemioillaiaa
open Go.RowKit

theorem strip_fitU (m : Msg) : m.strip.fit := by
  refine ⟨⟨rfl, rfl⟩, ⟨rfl, rfl⟩, ?_, ?_⟩
  · simp [Msg.strip]
  · intro i x hx
    simp only [Msg.strip, List.getElem?_map, Option.map_eq_some_iff] at hx
    obtain ⟨y, _, rfl⟩ := hx
    exact ⟨rfl, rfl⟩

theorem rd_msg_more {m : Msg} (h : m.ok = true) (hw : m.wf) (hf : m.fit) (t : List Int) : rdMsg (m.bytes ++ t) = (m.strip, t) := by
  obtain ⟨kind, req, rep, n, id, slot, cmd, vs, rng, peer, seq, votes⟩ := m
  obtain ⟨w1, w2, w3, w4, w5, w6, w7, w8, w9, w10, w11⟩ := hw
  obtain ⟨f1, f2, f3, f4⟩ := hf
  have e : (Msg.mk kind req rep n id slot cmd vs rng peer seq votes).bytes ++ t = kind :: ((Msg.mk kind req rep n id slot cmd vs rng peer seq votes).tail ++ t) := rfl
  rw [e]
  unfold rdMsg
  simp only [num_1, Msg.tail]
  simp only [Msg.ok, Bool.or_eq_true, Bool.and_eq_true, beq_iff_eq, decide_eq_true_eq] at h
  rcases h with (((((((h | h) | h) | h) | h) | h) | h) | h) | h
  · obtain ⟨⟨⟨⟨⟨⟨⟨⟨rfl, a⟩, p⟩, b⟩, rfl⟩, c⟩, v⟩, r⟩, d⟩ := h
    obtain ⟨rfl, rfl⟩ := b
    obtain ⟨rfl, rfl⟩ := d
    have hr := rd_req a w2 t
    obtain rfl := no_votes v f3
    simp [hr, Msg.strip, bareMsg, no_rep p, no_cmd c.1 c.2 f1, no_rng r f2]
  · obtain ⟨⟨⟨⟨⟨⟨⟨⟨rfl, q⟩, a⟩, b⟩, rfl⟩, c⟩, v⟩, r⟩, d⟩ := h
    obtain ⟨rfl, rfl⟩ := b
    obtain ⟨rfl, rfl⟩ := d
    have hr := rd_rep a w3 t
    obtain rfl := no_votes v f3
    simp [hr, Msg.strip, bareMsg, no_req q, no_cmd c.1 c.2 f1, no_rng r f2]
  · obtain ⟨⟨⟨⟨⟨⟨⟨k, q⟩, p⟩, rfl⟩, c⟩, v⟩, r⟩, d⟩ := h
    obtain ⟨rfl, rfl⟩ := d
    have h4 := num_4 w4 (id :: t)
    obtain rfl := no_votes v f3
    rcases k with rfl | rfl <;> simp [ballotBytes, h4, num_1, Msg.strip, bareMsg, no_req q, no_rep p, no_cmd c.1 c.2 f1, no_rng r f2]
  · obtain ⟨⟨⟨⟨⟨⟨⟨rfl, q⟩, p⟩, rfl⟩, c⟩, v⟩, r⟩, d⟩ := h
    obtain ⟨rfl, rfl⟩ := d
    simp only [votesOk, Bool.and_eq_true, decide_eq_true_eq, List.all_eq_true] at v
    have hl := rd_list rdVot Vot.bytes (votes.map Vot.strip) (fun x hx => by
      obtain ⟨y, hy, rfl⟩ := List.mem_map.1 hx
      obtain ⟨i, hi, rfl⟩ := List.mem_iff_getElem.1 hy
      have g := List.getElem?_eq_getElem hi
      have h8 := v.2 i (List.mem_range.2 hi)
      unfold voteAt at h8
      rw [g] at h8
      simp only [Bool.and_eq_true] at h8
      refine ⟨by simp [Vot.bytes, be32], fun r => ?_⟩
      rw [Vot.bytes_strip]
      exact rd_vot h8.1 (w8 i _ g) (f4 i _ g) r) t
    rw [List.length_map] at hl
    have e2 : ((votes.map Vot.strip).map Vot.bytes).flatten = votesBytes votes := votesBytes_strip votes
    rw [e2] at hl
    have h4 := num_4 w4 (id :: (votes.length : Int) :: (votesBytes votes ++ t))
    simp [ballotBytes, h4, num_1, hl, Msg.strip, bareMsg, no_req q, no_rep p, no_cmd c.1 c.2 f1, no_rng r f2]
  · obtain ⟨⟨⟨⟨⟨⟨rfl, q⟩, p⟩, c⟩, v⟩, r⟩, d⟩ := h
    obtain ⟨rfl, rfl⟩ := d
    have h4 := num_4 w4 (id :: (be32 slot ++ (cmd.bytes ++ t)))
    have h5 := num_4 w6 (cmd.bytes ++ t)
    have hc := rd_cmd c w7 f1 t
    obtain rfl := no_votes v f3
    simp [ballotBytes, h4, h5, hc, num_1, Msg.strip, bareMsg, no_req q, no_rep p, no_rng r f2]
  · obtain ⟨⟨⟨⟨⟨⟨rfl, q⟩, p⟩, c⟩, v⟩, r⟩, d⟩ := h
    obtain ⟨rfl, rfl⟩ := d
    have h4 := num_4 w4 (id :: (be32 slot ++ t))
    have h5 := num_4 w6 t
    obtain rfl := no_votes v f3
    simp [ballotBytes, h4, h5, num_1, Msg.strip, bareMsg, no_req q, no_rep p, no_cmd c.1 c.2 f1, no_rng r f2]
  · obtain ⟨⟨⟨⟨⟨⟨⟨rfl, q⟩, p⟩, b⟩, c⟩, v⟩, r⟩, d⟩ := h
    obtain ⟨rfl, rfl⟩ := b
    obtain ⟨rfl, rfl⟩ := d
    have h5 := num_4 w6 (cmd.bytes ++ t)
    have hc := rd_cmd c w7 f1 t
    obtain rfl := no_votes v f3
    simp [h5, hc, Msg.strip, bareMsg, no_req q, no_rep p, no_rng r f2]
  · obtain ⟨⟨⟨⟨⟨⟨⟨⟨rfl, q⟩, p⟩, b⟩, rfl⟩, c⟩, v⟩, r⟩, d⟩ := h
    obtain ⟨rfl, rfl⟩ := b
    obtain ⟨rfl, rfl⟩ := d
    have hr := rd_rng r w9 t
    obtain rfl := no_votes v f3
    simp [hr, Msg.strip, bareMsg, no_req q, no_rep p, no_cmd c.1 c.2 f1]
  · obtain ⟨⟨⟨⟨⟨⟨⟨⟨rfl, q⟩, p⟩, b⟩, rfl⟩, c⟩, v⟩, r⟩, d⟩ := h
    obtain ⟨rfl, rfl⟩ := b
    have h5 := num_4 w11 t
    obtain rfl := no_votes v f3
    simp [h5, num_1, Msg.strip, bareMsg, no_req q, no_rep p, no_cmd c.1 c.2 f1, no_rng r f2]

theorem ok_strip (m : Msg) (hf : m.fit) : m.strip.ok = m.ok := Msg.ok_strip hf

/-- A byte more: what is read is right, but is written otherwise. -/
theorem one_more {m : Msg} (h : m.ok = true) (hw : m.wf) (hf : m.fit) (z : Int) : (rdMsg (m.bytes ++ [z])).1.bytes ≠ m.bytes ++ [z] := by
  rw [rd_msg_more h hw hf]
  dsimp only
  rw [Msg.bytes_strip]
  intro e
  have := congrArg List.length e
  simp at this

/-- A byte less: there is no such message. -/
theorem one_less {m : Msg} (h : m.ok = true) (hw : m.wf) (hf : m.fit) {l : List Int} {z : Int} (he : m.bytes = l ++ [z]) (hb : Byt l) (h1 : (rdMsg l).1.ok = true) : (rdMsg l).1.bytes ≠ l := by
  intro e
  have hx := rd_msg h hw hf
  have hfit : (rdMsg l).1.fit := by rw [← msg_strip l]; exact strip_fitU _
  have hy := rd_msg_more h1 (wf_msg hb).1 hfit [z]
  rw [e, ← he, hx] at hy
  have := congrArg (fun x : Msg × List Int => x.2) hy
  simp at this

end Go.Proofs.Ytignemioillaiaa
