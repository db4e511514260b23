/- Parse, of the code and of the document: one answer; their messages' lists are their own. Parse of the code: its answer, with lists of its own; sameMessage of two that hold the same. The book takes a message whose lists are ready. -/
import Derived.Test.YtignemioillaiaaV12
import Derived.Test.YtignemioillaiaaX10
import Derived.Test.YtignemioillaiaaO3
import Derived.Test.YtignemioillaiaaD4
namespace Go.Proofs.Ytignemioillaiaa
open Go.RowKit

theorem rng_ok_len {r : Rng} (h : r.ok = true) : r.rows.length ≤ 255 ∧ r.dups.length ≤ 255 := by
  simp [Rng.ok, rowsOk, dupsOk] at h
  exact ⟨h.1.2.1, h.2.1⟩
theorem rng_no_len {r : Rng} (h : r.no = true) (hf : r.fit) : r.rows.length ≤ 255 ∧ r.dups.length ≤ 255 := by
  simp [Rng.no] at h
  obtain ⟨h1, h2⟩ := hf
  omega
theorem cmd_ok_len {c : Cmd} (h : c.ok = true) (hf : c.rng.fit) : c.rng.rows.length ≤ 255 ∧ c.rng.dups.length ≤ 255 := by
  unfold Cmd.ok at h
  simp only [Bool.or_eq_true, Bool.and_eq_true] at h
  rcases h with ((h | h) | h) | h
  · exact rng_no_len h.1.1.2 hf
  · exact rng_no_len h.1.1.2 hf
  · exact rng_ok_len h.1.1.2
  · exact rng_no_len h.1.2 hf
theorem bare_len {c : Cmd} (h : c.bare = true) (hf : c.rng.fit) : c.rng.rows.length ≤ 255 ∧ c.rng.dups.length ≤ 255 := by
  unfold Cmd.bare at h
  simp only [Bool.and_eq_true] at h
  exact rng_no_len h.1.1.2 hf
theorem votes_ok_len {vs : List Vot} (h : votesOk vs = true) (hf : ∀ (i : Nat) (x : Vot), vs[i]? = some x → x.cmd.rng.fit) : vs.length ≤ 255 ∧ ∀ (i : Nat) (x : Vot), vs[i]? = some x → x.cmd.rng.rows.length ≤ 255 ∧ x.cmd.rng.dups.length ≤ 255 := by
  simp only [votesOk, Bool.and_eq_true, decide_eq_true_eq, List.all_eq_true, List.mem_range] at h
  refine ⟨h.1, fun i x hx => ?_⟩
  have h1 := h.2 i (List.getElem?_eq_some_iff.1 hx).1
  unfold voteAt at h1
  rw [hx] at h1
  simp only [Bool.and_eq_true] at h1
  exact cmd_ok_len h1.1 (hf i x hx)
/-- All lists of a right message are short. -/
theorem msg_ok_len {m : Msg} (h : m.ok = true) (hf : m.fit) : (m.rng.rows.length ≤ 255 ∧ m.rng.dups.length ≤ 255) ∧ (m.cmd.rng.rows.length ≤ 255 ∧ m.cmd.rng.dups.length ≤ 255) ∧ m.votes.length ≤ 255 ∧ ∀ (i : Nat) (x : Vot), m.votes[i]? = some x → x.cmd.rng.rows.length ≤ 255 ∧ x.cmd.rng.dups.length ≤ 255 := by
  obtain ⟨f1, f2, f3, f4⟩ := hf
  have nov : (m.vs.len == 0) = true → m.votes.length ≤ 255 ∧ ∀ (i : Nat) (x : Vot), m.votes[i]? = some x → x.cmd.rng.rows.length ≤ 255 ∧ x.cmd.rng.dups.length ≤ 255 := fun h0 => by
    have : m.votes = [] := List.eq_nil_of_length_eq_zero (by simp at h0; omega)
    rw [this]
    exact ⟨by simp, fun i x hx => by simp at hx⟩
  unfold Msg.ok at h
  simp only [Bool.or_eq_true, Bool.and_eq_true] at h
  rcases h with ((((((((h | h) | h) | h) | h) | h) | h) | h) | h)
  · exact ⟨rng_no_len h.1.2 f2, bare_len h.1.1.1.2.2 f1, nov h.1.1.2⟩
  · exact ⟨rng_no_len h.1.2 f2, bare_len h.1.1.1.2.2 f1, nov h.1.1.2⟩
  · exact ⟨rng_no_len h.1.2 f2, bare_len h.1.1.1.2.2 f1, nov h.1.1.2⟩
  · exact ⟨rng_no_len h.1.2 f2, bare_len h.1.1.1.2.2 f1, votes_ok_len h.1.1.2 f4⟩
  · exact ⟨rng_no_len h.1.2 f2, cmd_ok_len h.1.1.1.2 f1, nov h.1.1.2⟩
  · exact ⟨rng_no_len h.1.2 f2, bare_len h.1.1.1.2.2 f1, nov h.1.1.2⟩
  · exact ⟨rng_no_len h.1.2 f2, cmd_ok_len h.1.1.1.2 f1, nov h.1.1.2⟩
  · exact ⟨rng_ok_len h.1.2, bare_len h.1.1.1.2.2 f1, nov h.1.1.2⟩
  · exact ⟨rng_no_len h.1.2 f2, bare_len h.1.1.1.2.2 f1, nov h.1.1.2⟩

/-- The lists of a message, in the order in which the book takes them. -/
def Msg.rngs (m : Msg) : List Rng := m.rng :: m.cmd.rng :: m.votes.map fun v => v.cmd.rng
/-- A message whose lists are its own, short, and no two of them in one block. -/
structure MsgA (S : Nat) (w : World) (m : Msg) : Prop where
  own : m.Own S w
  ap : m.rngs.Pairwise (fun x y => (y.rs.val.ownBlock = none ∨ y.rs.val.ownBlock ≠ x.rs.val.ownBlock) ∧ (y.ds.val.ownBlock = none ∨ y.ds.val.ownBlock ≠ x.ds.val.ownBlock))
  lens : ∀ x ∈ m.rngs, x.rs.len ≤ 255 ∧ x.ds.len ≤ 255
  vl : m.votes.length ≤ 255

/-- What Parse answers: the message (without addresses), the error. -/
def Ans (l : List Int) (M : Msg) (E : Int) : Prop := (((rdMsg l).1.ok = true ∧ bstr (rdMsg l).1.bytes = bstr l) ∧ M = (rdMsg l).1 ∧ E = 0) ∨ (¬ ((rdMsg l).1.ok = true ∧ bstr (rdMsg l).1.bytes = bstr l) ∧ M = (bareMsg 0).strip ∧ E = 2)
theorem Ans.one {l : List Int} {M M' : Msg} {E E' : Int} (h : Ans l M E) (h' : Ans l M' E') : M = M' ∧ E = E' := by
  rcases h with ⟨h1, h2, h3⟩ | ⟨h1, h2, h3⟩ <;> rcases h' with ⟨h1', h2', h3'⟩ | ⟨h1', h2', h3'⟩
  · exact ⟨h2.trans h2'.symm, h3.trans h3'.symm⟩
  · exact absurd h1 h1'
  · exact absurd h1' h1
  · exact ⟨h2.trans h2'.symm, h3.trans h3'.symm⟩

theorem bare_own (S : Nat) (w : World) : MsgA S w (bareMsg 0) := by
  refine ⟨⟨World.ownsRow_nil _ _ _ _, fun i x hx => by simp [bareMsg] at hx, ⟨World.ownsRow_nil _ _ _ _, World.ownsRow_nil _ _ _ _⟩, ⟨World.ownsRow_nil _ _ _ _, World.ownsRow_nil _ _ _ _⟩⟩, ?_, ?_, by simp [bareMsg]⟩
  · simp [Msg.rngs, bareMsg, noRng, noCmd, Sl.val, Value.ownBlock]
  · simp [Msg.rngs, bareMsg, noRng, noCmd]

/-- The document's answer. -/
theorem ref_ansP (l : List Int) (w : World) (hb : Byt l) (hl : l.length ≤ 1000000000000000) :
    Calls Try.prog 15 #[.string (bstr l)] w fun e w' => ∃ (m M : Msg) (E : Int), Ans l M E ∧ m.strip = M ∧ e = .returned (.tuple #[.agg m.cells.toArray, .int .i64 E]) ∧ m.Own w.heap.size w' ∧ Below w.heap.size w w' := by
  refine (ref_parse l w hb hl).mono ?_
  rintro e w' ⟨hbel, ⟨⟨h1, h2, h3⟩, m, hs, _, ho, he⟩ | ⟨hn, he⟩⟩
  · have hM : (rbMsg (l, false)).1 = (rdMsg l).1 := by
      rcases bad_rb hb with h4 | h4
      · rw [h1] at h4; cases h4
      · exact h4
    rw [hM] at h2 h3 hs
    exact ⟨m, (rdMsg l).1, 0, .inl ⟨⟨h2, by rw [h3]⟩, rfl, rfl⟩, hs.trans (msg_strip l), he, ho, hbel⟩
  · refine ⟨bareMsg 0, (bareMsg 0).strip, 2, .inr ⟨fun hg => ?_, rfl, rfl⟩, rfl, he, (bare_own _ _).own, hbel⟩
    have hr := good_rb hb hg.1 hg.2
    rw [hr] at hn
    exact hn ⟨rfl, hg.1, bstr_inj (byt_msg (wf_msg hb).1 hg.1) hb hg.2⟩
end Go.Proofs.Ytignemioillaiaa

namespace Go.Proofs.Ytignemioillaiaa
open Go.RowKit

theorem apart_none {u v : Value} (h : v.ownBlock = none) : u.ownBlock = none ∨ u.ownBlock ≠ v.ownBlock := by
  rw [h]
  cases u.ownBlock with
  | none => exact .inl rfl
  | some c => exact .inr (by simp)
theorem own_len0 {w : World} {b : Nat} {e : TypeId} {size n : Nat} {a : Option Addr} {m c : Nat} {xs : List Value} (h : w.ownsRow b e size (.slice a m c) n xs) : m = n := by
  rcases h.2 with ⟨h1, h2⟩ | ⟨_, _, _, h1, _⟩
  · cases h1; exact h2.symm
  · cases h1; rfl

set_option maxHeartbeats 2000000 in
set_option maxRecDepth 100000 in
theorem wire_ansP (l : List Int) (w : World) (hb : Byt l) (hl : l.length ≤ 1000000000000000) :
    Calls Try.prog 14 #[.string (bstr l)] w fun e w' => ∃ (m M : Msg) (E : Int), Ans l M E ∧ m.strip = M ∧ e = .returned (.tuple #[.agg m.cells.toArray, .int .i64 E]) ∧ MsgA w.heap.size w' m ∧ Below w.heap.size w w' := by
  have hstr := msg_strip l
  obtain ⟨M0, hM⟩ : ∃ M, (rdMsg l).1 = M := ⟨_, rfl⟩
  rw [hM] at hstr
  have hfit : M0.fit := by rw [← hstr]; exact strip_fit M0
  by_cases hok : M0.ok = true
  · by_cases hy : bstr M0.bytes = bstr l
    · have hlens := msg_ok_len hok hfit
      have hAns : Ans l M0 0 := .inl ⟨⟨by rw [hM]; exact hok, by rw [hM]; exact hy⟩, hM.symm, rfl⟩
      obtain ⟨zY, ⟨zH, zI, zJ, zK, zL, zM, zN⟩, ⟨zO, zP, zQ, zR, zS, zT, zU⟩, mn, zZ, jA, ⟨zV, ⟨zA, zB, zC, zD, zE, zF, zG⟩, ⟨yA, yB, yC, yD, yE, ⟨yF, yG, yH⟩, ⟨yI, yJ, yK⟩, yL, yM⟩, zW, zX⟩, ⟨jE, jF, jG⟩, ⟨yN, yO, yP, yQ, yR, ⟨yS, yT, yU⟩, ⟨yV, yW, yX⟩, yY, yZ⟩, jB, jC, jD⟩ := M0
      refine (parse_t _ _ _ _ _ _ _ _ _ _ _ _ _ _ _ _ _ _ _ _ _ _ _ _ _ _ _ _ _ _ _ _ _ _ _ _ _ _ _ _ _ _ _ _ _ _ _ _ _ _ _ _ _ _ _ yL yY yM yZ jD l w hb hl hM hok hy).mono ?_
      rintro e w' ⟨r1a, r1n, r1c, r2a, r2n, r2c, c1a, c1n, c1c, c2a, c2n, c2c, va, vn, vc, ovs, he, ho1, ho2, ho3, ho4, hov, ⟨hoI, hone⟩, hT, hbel⟩
      have hv9 : jD.map Vot.strip = jD := congrArg Msg.votes hstr
      have hlen : ovs.length = jD.length := by have := congrArg List.length hT; simpa using this
      have e1 := own_len0 ho1
      have e2 := own_len0 ho2
      have e3 := own_len0 ho3
      have e4 := own_len0 ho4
      dsimp only at hlens
      refine ⟨(Msg.mk zY (Req.mk zH zI zJ zK zL zM zN) (Rep.mk zO zP zQ zR zS zT zU) mn zZ jA (Cmd.mk zV (Req.mk zA zB zC zD zE zF zG) (Rng.mk yA yB yC yD yE ⟨c1a, c1n, c1c⟩ ⟨c2a, c2n, c2c⟩ yL yM) zW zX) ⟨va, vn, vc⟩ (Rng.mk yN yO yP yQ yR ⟨r1a, r1n, r1c⟩ ⟨r2a, r2n, r2c⟩ yY yZ) jB jC ovs), _, 0, hAns, ?_, he, ⟨⟨hov, hoI.all, ⟨ho3, ho4⟩, ⟨ho1, ho2⟩⟩, ?_, ?_, ?_⟩, hbel⟩
      · rw [← hstr]
        simp only [Msg.strip, Cmd.strip, Rng.strip, hT, hv9, hlen]
      · have hmap : (ovs.map fun v => v.cmd.rng).Pairwise (fun x y => (y.rs.val.ownBlock = none ∨ y.rs.val.ownBlock ≠ x.rs.val.ownBlock) ∧ (y.ds.val.ownBlock = none ∨ y.ds.val.ownBlock ≠ x.ds.val.ownBlock)) := by
          rw [List.pairwise_map]; exact hoI.ap
        have hv0 : va = none → ovs = [] := fun h => by
          subst h
          rcases hov.2 with ⟨_, h0⟩ | ⟨_, _, _, h0, _⟩
          · exact List.eq_nil_of_length_eq_zero h0
          · cases h0
        simp only [Msg.rngs]
        rw [List.pairwise_cons, List.pairwise_cons]
        rcases hone with ⟨rfl, rfl, rfl, rfl⟩ | ⟨rfl, rfl, hv⟩ | ⟨rfl, rfl, hv⟩
        · exact ⟨fun y _ => ⟨apart_none rfl, apart_none rfl⟩, fun y _ => ⟨apart_none rfl, apart_none rfl⟩, hmap⟩
        · rw [hv0 hv]
          exact ⟨fun y _ => ⟨apart_none rfl, apart_none rfl⟩, fun y hy => by simp at hy, List.Pairwise.nil⟩
        · rw [hv0 hv]
          exact ⟨fun y hy => by simp at hy; subst hy; exact ⟨.inl rfl, .inl rfl⟩, fun y hy => by simp at hy, List.Pairwise.nil⟩
      · intro x hx
        simp only [Msg.rngs, List.mem_cons, List.mem_map] at hx
        rcases hx with rfl | rfl | ⟨v, hv, rfl⟩
        · dsimp only; omega
        · dsimp only; omega
        · obtain ⟨i, hi, rfl⟩ := List.getElem_of_mem hv
          have ho := hoI.all i _ (List.getElem?_eq_getElem hi)
          have h5 := hlens.2.2.2 i (ovs[i].strip) (by rw [← hT]; simp [hi])
          have h6 : ovs[i].cmd.rng.rs.len = ovs[i].cmd.rng.rows.length := own_len0 ho.rows
          have h7 : ovs[i].cmd.rng.ds.len = ovs[i].cmd.rng.dups.length := own_len0 ho.dups
          rw [h6, h7]
          exact h5
      · show ovs.length ≤ 255
        omega
    · have hAns : Ans l (bareMsg 0).strip 2 := .inr ⟨fun h => hy (by rw [hM] at h; exact h.2), rfl, rfl⟩
      obtain ⟨zY, ⟨zH, zI, zJ, zK, zL, zM, zN⟩, ⟨zO, zP, zQ, zR, zS, zT, zU⟩, mn, zZ, jA, ⟨zV, ⟨zA, zB, zC, zD, zE, zF, zG⟩, ⟨yA, yB, yC, yD, yE, ⟨yF, yG, yH⟩, ⟨yI, yJ, yK⟩, yL, yM⟩, zW, zX⟩, ⟨jE, jF, jG⟩, ⟨yN, yO, yP, yQ, yR, ⟨yS, yT, yU⟩, ⟨yV, yW, yX⟩, yY, yZ⟩, jB, jC, jD⟩ := M0
      refine (parse_f2 _ _ _ _ _ _ _ _ _ _ _ _ _ _ _ _ _ _ _ _ _ _ _ _ _ _ _ _ _ _ _ _ _ _ _ _ _ _ _ _ _ _ _ _ _ _ _ _ _ _ _ _ _ _ _ yL yY yM yZ jD l w hb hl hM hok hy).mono ?_
      rintro e w' ⟨he, hbel⟩
      exact ⟨bareMsg 0, _, 2, hAns, rfl, he, bare_own _ _, hbel⟩
  · have hAns : Ans l (bareMsg 0).strip 2 := .inr ⟨fun h => hok (by rw [hM] at h; exact h.1), rfl, rfl⟩
    obtain ⟨zY, ⟨zH, zI, zJ, zK, zL, zM, zN⟩, ⟨zO, zP, zQ, zR, zS, zT, zU⟩, mn, zZ, jA, ⟨zV, ⟨zA, zB, zC, zD, zE, zF, zG⟩, ⟨yA, yB, yC, yD, yE, ⟨yF, yG, yH⟩, ⟨yI, yJ, yK⟩, yL, yM⟩, zW, zX⟩, ⟨jE, jF, jG⟩, ⟨yN, yO, yP, yQ, yR, ⟨yS, yT, yU⟩, ⟨yV, yW, yX⟩, yY, yZ⟩, jB, jC, jD⟩ := M0
    refine (parse_f1 _ _ _ _ _ _ _ _ _ _ _ _ _ _ _ _ _ _ _ _ _ _ _ _ _ _ _ _ _ _ _ _ _ _ _ _ _ _ _ _ _ _ _ _ _ _ _ _ _ _ _ _ _ _ _ yL yY yM yZ jD l w hb hl hM (by simpa using hok)).mono ?_
    rintro e w' ⟨he, hbel⟩
    exact ⟨bareMsg 0, _, 2, hAns, rfl, he, bare_own _ _, hbel⟩

set_option maxHeartbeats 2000000 in
set_option maxRecDepth 100000 in
theorem same_msg (a b : Msg) (w : World) (ha : a.In w) (hb : b.In w) (h : a.strip = b.strip) :
    Calls Try.prog 13 #[.agg a.cells.toArray, .agg b.cells.toArray] w fun e w' => e = .returned (.bool true) ∧ Below w.heap.size w w' := by
  obtain ⟨hav, ⟨hac1, hac2⟩, ⟨har1, har2⟩⟩ := ha
  obtain ⟨hbv, ⟨hbc1, hbc2⟩, ⟨hbr1, hbr2⟩⟩ := hb
  obtain ⟨akind, ⟨aqc, aqs, aqk, aqkey, aqv, aqhi, aqto⟩, ⟨apc, aps, apkey, apk, apf, apv, apg⟩, an, aid, aslot, ⟨ackind, ⟨acqc, acqs, acqk, acqkey, acqv, acqhi, acqto⟩, ⟨acrsrc, acrdst, acrseq, acrlo, acrhi, ⟨acrra, acrrn, acrrc⟩, ⟨acrda, acrdn, acrdc⟩, acrrows, acrdups⟩, acpeer, acsq⟩, ⟨ava, avn, avc⟩, ⟨arsrc, ardst, arseq, arlo, arhi, ⟨arra, arrn, arrc⟩, ⟨arda, ardn, ardc⟩, arrows, ardups⟩, apeer, asq, avotes⟩ := a
  obtain ⟨zY, ⟨zH, zI, zJ, zK, zL, zM, zN⟩, ⟨zO, zP, zQ, zR, zS, zT, zU⟩, mn, zZ, jA, ⟨zV, ⟨zA, zB, zC, zD, zE, zF, zG⟩, ⟨yA, yB, yC, yD, yE, ⟨yF, yG, yH⟩, ⟨yI, yJ, yK⟩, yL, yM⟩, zW, zX⟩, ⟨jE, jF, jG⟩, ⟨yN, yO, yP, yQ, yR, ⟨yS, yT, yU⟩, ⟨yV, yW, yX⟩, yY, yZ⟩, jB, jC, jD⟩ := b
  simp only [Msg.strip, Cmd.strip, Rng.strip, Msg.mk.injEq, Cmd.mk.injEq, Rng.mk.injEq, Req.mk.injEq, Rep.mk.injEq] at h
  obtain ⟨rfl, ⟨rfl, rfl, rfl, rfl, rfl, rfl, rfl⟩, ⟨rfl, rfl, rfl, rfl, rfl, rfl, rfl⟩, rfl, rfl, rfl, ⟨rfl, ⟨rfl, rfl, rfl, rfl, rfl, rfl, rfl⟩, ⟨rfl, rfl, rfl, rfl, rfl, _, _, rfl, rfl⟩, rfl, rfl⟩, _, ⟨rfl, rfl, rfl, rfl, rfl, _, _, rfl, rfl⟩, rfl, rfl, hv⟩ := h
  have e1 : avn = avotes.length := by simpa using hav.sl.len
  have e2 : jF = jD.length := by simpa using hbv.sl.len
  have e3 : avotes.length = jD.length := by have := congrArg List.length hv; simpa using this
  have e4 : avn = jF := by omega
  subst e4
  apply samemessage_any <;> assumption
end Go.Proofs.Ytignemioillaiaa

namespace Go.Proofs.Ytignemioillaiaa
open Go.RowKit

/-- A block that a list of the message lies in. -/
def Has (m : Msg) (k : Nat) : Prop := some k = m.vs.val.ownBlock ∨ ∃ x ∈ m.rngs, some k = x.rs.val.ownBlock ∨ some k = x.ds.val.ownBlock
theorem Msg.Own.rng' {S : Nat} {w : World} {m : Msg} (h : m.Own S w) : ∀ x ∈ m.rngs, x.Own S w := by
  intro x hx
  simp only [Msg.rngs, List.mem_cons, List.mem_map] at hx
  rcases hx with rfl | rfl | ⟨v, hv, rfl⟩
  · exact h.rng
  · exact h.cmd
  · obtain ⟨i, hi, rfl⟩ := List.getElem_of_mem hv
    exact h.all i _ (List.getElem?_eq_getElem hi)
theorem Msg.Own.of {S : Nat} {w : World} {m : Msg} (hv : w.ownsRow S 84 20 m.vs.val m.votes.length (m.votes.map Vot.cells).flatten) (h : ∀ x ∈ m.rngs, x.Own S w) : m.Own S w :=
  ⟨hv, fun i x hx => h _ (by simp only [Msg.rngs, List.mem_cons, List.mem_map]; exact .inr (.inr ⟨x, List.mem_of_getElem? hx, rfl⟩)), h _ (by simp [Msg.rngs]), h _ (by simp [Msg.rngs])⟩
theorem Msg.Own.below {S : Nat} {w w' : World} {m : Msg} (h : m.Own S w) (hb : Below w.heap.size w w') : m.Own S w' := ⟨own_below h.vs hb, fun i x hx => (h.all i x hx).below hb, h.cmd.below hb, h.rng.below hb⟩
theorem Msg.Own.mono {S S' : Nat} {w : World} {m : Msg} (h : m.Own S w) (hS : S' ≤ S) : m.Own S' w := ⟨own_mono h.vs hS, fun i x hx => (h.all i x hx).mono hS, h.cmd.mono hS, h.rng.mono hS⟩
/-- Where the lists of a message lie. -/
theorem Msg.Own.has {S : Nat} {w : World} {m : Msg} (h : m.Own S w) {k : Nat} (hk : Has m k) : S ≤ k ∧ k < w.heap.size := by
  rcases hk with hk | ⟨x, hx, hk | hk⟩
  · exact World.ownsRow.lt h.vs k hk.symm
  · exact World.ownsRow.lt (h.rng' x hx).rows k hk.symm
  · exact World.ownsRow.lt (h.rng' x hx).dups k hk.symm

/-- The lists of a message wait for the book. -/
structure Ready (w : World) (R P V : List (Sl × Int)) (m : Msg) : Prop where
  own : m.Own 0 w
  ap : m.rngs.Pairwise (fun x y => (y.rs.val.ownBlock = none ∨ y.rs.val.ownBlock ≠ x.rs.val.ownBlock) ∧ (y.ds.val.ownBlock = none ∨ y.ds.val.ownBlock ≠ x.ds.val.ownBlock))
  lens : ∀ x ∈ m.rngs, x.rs.len ≤ 255 ∧ x.ds.len ≤ 255
  vl : m.votes.length ≤ 255
  oR : ∀ x ∈ m.rngs, OffB x.rs.val.ownBlock R ∧ OffB x.ds.val.ownBlock P
  oV : OffB m.vs.val.ownBlock V
theorem Ready.later {w w' : World} {R P V : List (Sl × Int)} {m : Msg} (h : Ready w R P V m) (hb : Below w.heap.size w w') : Ready w' R P V m := ⟨h.own.below hb, h.ap, h.lens, h.vl, h.oR, h.oV⟩

/-- A row of a list's kind that no list of m lies in is none that m's way into the book turns. -/
theorem not_amsg {w : World} {K n : Nat} {vR vP vV m0 m1 m3 : Value} {R P V : List (Sl × Int)} {m : Msg} {b : Nat} {e : TypeId} {size n1 : Nat} {v : Value} {xs : List Value} (hB : Bk w K n vR vP vV m0 m1 m3 R P V) (h : w.ownsRow b e size v n1 xs) (h0 : e ≠ 58) (h1 : e ≠ 30) (h2 : e ≠ 31) (h3 : e ≠ 36) (h4 : e ≠ 3) (hd : ∀ k, v.ownBlock = some k → ¬ Has m k) : ∀ k, v.ownBlock = some k → ¬ Amsg K vR vP vV m0 m1 m3 m.vs.val m.rngs k := by
  intro k hk hA
  have no : ∀ {u : Value}, (v.ownBlock = none ∨ v.ownBlock ≠ u.ownBlock) → some k ≠ u.ownBlock := fun h7 e => by
    rcases h7 with h8 | h8
    · rw [hk] at h8; cases h8
    · exact h8 (hk.trans e)
  rcases hA with rfl | hA | hA | hA | hA | hA | hA | hA | hA
  · exact own_notin h hB.blk h0 hk
  · exact no (own_apartX h hB.cR.own h1) hA
  · exact no (own_apartX h hB.cP.own h2) hA
  · exact no (own_apartX h hB.cV.own h3) hA
  · exact no (own_apartX h hB.cR.marks h4) hA
  · exact no (own_apartX h hB.cP.marks h4) hA
  · exact no (own_apartX h hB.cV.marks h4) hA
  · exact hd k hk (.inl hA)
  · exact hd k hk (.inr hA)

theorem Msg.Own.fr {w w' : World} {K n S : Nat} {vR vP vV m0 m1 m3 : Value} {R P V : List (Sl × Int)} {m m2 : Msg} (hB : Bk w K n vR vP vV m0 m1 m3 R P V) (h : m2.Own S w) (hF : Fr (Amsg K vR vP vV m0 m1 m3 m.vs.val m.rngs) w w') (hd : ∀ k, Has m2 k → ¬ Has m k) : m2.Own S w' := by
  refine .of (own_fr h.vs hF (not_amsg hB h.vs (by decide) (by decide) (by decide) (by decide) (by decide) fun k hk => hd k (.inl hk.symm))) fun x hx => ?_
  have ho := h.rng' x hx
  exact ⟨own_fr ho.rows hF (not_amsg hB ho.rows (by decide) (by decide) (by decide) (by decide) (by decide) fun k hk => hd k (.inr ⟨x, hx, .inl hk.symm⟩)), own_fr ho.dups hF (not_amsg hB ho.dups (by decide) (by decide) (by decide) (by decide) (by decide) fun k hk => hd k (.inr ⟨x, hx, .inr hk.symm⟩))⟩

/-- A block of another kind. -/
theorem amsg_blk {w : World} {K n B : Nat} {vR vP vV m0 m1 m3 : Value} {R P V : List (Sl × Int)} {m : Msg} {cur : Array Value} {fz : Nat × Nat} (hB : Bk w K n vR vP vV m0 m1 m3 R P V) (hm : m.Own 0 w) (hX : w.heap[B]? = some (.cells cur 38 fz)) : ¬ Amsg K vR vP vV m0 m1 m3 m.vs.val m.rngs B := by
  rintro (hA | hA | hA | hA | hA | hA | hA | hA | ⟨x, hx, hA | hA⟩)
  · subst hA
    have h6 := hB.blk
    rw [hX] at h6
    cases h6
  · exact own_notin hB.cR.own hX (by decide) hA.symm
  · exact own_notin hB.cP.own hX (by decide) hA.symm
  · exact own_notin hB.cV.own hX (by decide) hA.symm
  · exact own_notin hB.cR.marks hX (by decide) hA.symm
  · exact own_notin hB.cP.marks hX (by decide) hA.symm
  · exact own_notin hB.cV.marks hX (by decide) hA.symm
  · exact own_notin hm.vs hX (by decide) hA.symm
  · exact own_notin (hm.rng' x hx).rows hX (by decide) hA.symm
  · exact own_notin (hm.rng' x hx).dups hX (by decide) hA.symm

/-- What the book does with a message. -/
structure Took (w w' : World) (K : Nat) (m : Msg) (N : Nat) (R P V R' P' V' : List (Sl × Int)) : Prop where
  keep : ∀ (m2 : Msg) (S : Nat), m2.Own S w → (∀ k, Has m2 k → ¬ Has m k) → m2.Own S w'
  ready : ∀ m2 : Msg, Ready w R P V m2 → (∀ k, Has m2 k → ¬ Has m k) → Ready w' R' P' V' m2
  blk : ∀ (B : Nat) (cur : Array Value), w.heap[B]? = some (.cells cur 38) → w'.heap[B]? = some (.cells cur 38)
  bel : Below N w w'
  lR : R'.length ≤ R.length + 1028
  lP : P'.length ≤ P.length + 1028
  lV : V'.length = V.length + 4

set_option maxHeartbeats 2000000 in
set_option maxRecDepth 100000 in
theorem book_msg (K n N : Nat) (vR vP vV m0 m1 m3 : Value) (R P V : List (Sl × Int)) (m : Msg) (w : World) (hB : Bk w K n vR vP vV m0 m1 m3 R P V) (hm : Ready w R P V m) (hN : N ≤ K) (hNm : ∀ k, Has m k → N ≤ k) (hNb : ∀ k, vR.ownBlock = some k ∨ vP.ownBlock = some k ∨ vV.ownBlock = some k ∨ m0.ownBlock = some k ∨ m1.ownBlock = some k ∨ m3.ownBlock = some k → N ≤ k) (hNw : N ≤ w.heap.size)
    (hn : n ≤ 5000) (h1 : R.length ≤ 5000) (h2 : P.length ≤ 5000) (h3 : V.length ≤ 5000) :
    Calls Try.prog 16 #[.pointer (some ⟨K, 0, none⟩), .agg m.cells.toArray] w fun e w' => e = .returned (.tuple #[]) ∧ ∃ (vR' vP' vV' m0' m1' m3' : Value) (R' P' V' : List (Sl × Int)) (n' : Nat), Bk w' K n' vR' vP' vV' m0' m1' m3' R' P' V' ∧ n' ≤ n + 515 ∧ Took w w' K m N R P V R' P' V' ∧
      (∀ k, vR'.ownBlock = some k ∨ vP'.ownBlock = some k ∨ vV'.ownBlock = some k ∨ m0'.ownBlock = some k ∨ m1'.ownBlock = some k ∨ m3'.ownBlock = some k → N ≤ k) := by
  have hP : Pend w R P m.rngs := ⟨fun x hx => ⟨hm.own.rng' x hx, (hm.oR x hx).1, (hm.oR x hx).2, hm.lens x hx⟩, hm.ap⟩
  have hvs := hm.own.vs
  have hvl := hm.vl
  have hoV := hm.oV
  obtain ⟨M, hM⟩ : ∃ M, M = m := ⟨_, rfl⟩
  have hNA : ∀ k, Amsg K vR vP vV m0 m1 m3 M.vs.val M.rngs k → N ≤ k := by
    rw [hM]
    rintro k (rfl | hk | hk | hk | hk | hk | hk | hk)
    · exact hN
    · exact hNb k (.inl hk.symm)
    · exact hNb k (.inr (.inl hk.symm))
    · exact hNb k (.inr (.inr (.inl hk.symm)))
    · exact hNb k (.inr (.inr (.inr (.inl hk.symm))))
    · exact hNb k (.inr (.inr (.inr (.inr (.inl hk.symm)))))
    · exact hNb k (.inr (.inr (.inr (.inr (.inr hk.symm)))))
    · exact hNm k hk
  obtain ⟨zY, ⟨zH, zI, zJ, zK, zL, zM, zN⟩, ⟨zO, zP, zQ, zR, zS, zT, zU⟩, mn, zZ, jA, ⟨zV, ⟨zA, zB, zC, zD, zE, zF, zG⟩, ⟨yA, yB, yC, yD, yE, ⟨yF, yG, yH⟩, ⟨yI, yJ, yK⟩, yL, yM⟩, zW, zX⟩, ⟨jE, jF, jG⟩, ⟨yN, yO, yP, yQ, yR, ⟨yS, yT, yU⟩, ⟨yV, yW, yX⟩, yY, yZ⟩, jB, jC, jD⟩ := m
  have hsn : jD.length = jF := (own_len0 hvs).symm
  dsimp only at hvl hoV
  refine (book_message K n vR vP vV m0 m1 m3 R P V zY zH zI zJ zK zL zM zN zO zP zQ zR zS zT zU mn zZ jA zV zA zB zC zD zE zF zG yA yB yC yD yE yF yG yH yI yJ yK zW zX jE jF jG yN yO yP yQ yR yS yT yU yV yW yX jB jC yL yY yM yZ jD w _ rfl hB hP (by have := hvs; dsimp only [Sl.val] at this; rw [hsn] at this; exact this) hsn hoV hn (by omega) h1 h2 h3).mono ?_
  rintro e w' ⟨he, vR', vP', vV', m0', m1', m3', R', P', V', N', hB', hN', hl1, hl2, hl3, hF, f1, f2, f3, hor⟩
  have hF2 : Fr (Amsg K vR vP vV m0 m1 m3 M.vs.val M.rngs) w w' := by rw [hM]; exact hF
  have g1 : ∀ c, c < w.heap.size → ¬ Amsg K vR vP vV m0 m1 m3 M.vs.val M.rngs c → OffB (some c) R → OffB (some c) R' := by rw [hM]; exact f1
  have g2 : ∀ c, c < w.heap.size → ¬ Amsg K vR vP vV m0 m1 m3 M.vs.val M.rngs c → OffB (some c) P → OffB (some c) P' := by rw [hM]; exact f2
  have g3 : ∀ c, c < w.heap.size → ¬ Amsg K vR vP vV m0 m1 m3 M.vs.val M.rngs c → OffB (some c) V → OffB (some c) V' := by rw [hM]; exact f3
  have hor2 : ∀ k, vR'.ownBlock = some k ∨ vP'.ownBlock = some k ∨ vV'.ownBlock = some k ∨ m0'.ownBlock = some k ∨ m1'.ownBlock = some k ∨ m3'.ownBlock = some k → N ≤ k := fun k hk => by
    rcases hor k hk with h5 | h5
    · exact hNA k (by rw [hM]; exact h5)
    · exact Nat.le_trans hNw h5
  rw [← hM] at hm ⊢
  clear hM hF f1 f2 f3 hor
  refine ⟨he, vR', vP', vV', m0', m1', m3', R', P', V', N' + 1, hB', by omega, ⟨fun m2 S ho hd => ho.fr hB hF2 hd, fun m2 h4 hd => ?_, fun B cur hX => blk_fr hX hF2 (amsg_blk hB hm.own hX), ⟨hF2.os, hF2.tape, hF2.output, hF2.size, fun b hb => ?_⟩, by omega, by omega, hl3⟩, hor2⟩
  · refine ⟨h4.own.fr hB hF2 hd, h4.ap, h4.lens, h4.vl, fun x hx => ?_, ?_⟩
    · have ho := h4.own.rng' x hx
      have n1 := not_amsg (m := M) hB ho.rows (by decide) (by decide) (by decide) (by decide) (by decide) fun k hk => hd k (.inr ⟨x, hx, .inl hk.symm⟩)
      have n2 := not_amsg (m := M) hB ho.dups (by decide) (by decide) (by decide) (by decide) (by decide) fun k hk => hd k (.inr ⟨x, hx, .inr hk.symm⟩)
      constructor
      · cases hb : x.rs.val.ownBlock with
        | none => exact OffB.none _
        | some c => exact g1 c (World.ownsRow.lt ho.rows c hb).2 (n1 c hb) (hb ▸ (h4.oR x hx).1)
      · cases hb : x.ds.val.ownBlock with
        | none => exact OffB.none _
        | some c => exact g2 c (World.ownsRow.lt ho.dups c hb).2 (n2 c hb) (hb ▸ (h4.oR x hx).2)
    · have n3 := not_amsg (m := M) hB h4.own.vs (by decide) (by decide) (by decide) (by decide) (by decide) fun k hk => hd k (.inl hk.symm)
      cases hb : m2.vs.val.ownBlock with
      | none => exact OffB.none _
      | some c => exact g3 c (World.ownsRow.lt h4.own.vs c hb).2 (n3 c hb) (hb ▸ h4.oV)
  · exact hF2.block b (Nat.lt_of_lt_of_le hb hNw) (fun h5 => by have := hNA b h5; omega)
end Go.Proofs.Ytignemioillaiaa

