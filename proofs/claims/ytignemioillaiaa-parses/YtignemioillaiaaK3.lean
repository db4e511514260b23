/- The document's answer: when a message of the fourth kind is right. The document's answer: when a message of the fourth kind is right. The document's answer: when a message is right, every one. -/
import Derived.Test.YtignemioillaiaaD4
import Derived.Test.YtignemioillaiaaK1
import Derived.Test.YtignemioillaiaaC9
import Derived.Test.YtignemioillaiaaC6
import Derived.Deep.CutRange
import Derived.Test.YtignemioillaiaaK2
namespace Go.Proofs.Ytignemioillaiaa
open Go.RowKit

theorem vote_cmd {w : World} {b o : Nat} (xslot xn xid : Int) (xckind : Int) (xcqc xcqs xcqk xcqkey xcqv xcqhi xcqto : Int) (jH jI jJ jK jL : Int) (jM : Option Addr) (jN jO : Nat) (jP : Option Addr) (jQ jR : Nat) (xcpeer xcsq : Int) (hc : ∀ (j : Nat) (u : Value), (rV xslot xn xid xckind xcqc xcqs xcqk xcqkey xcqv xcqhi xcqto jH jI jJ jK jL jM jN jO jP jQ jR xcpeer xcsq)[j]? = some u → w.cell? ⟨b, o + j, none⟩ = some u) : ∀ (j : Nat) (u : Value), (rC xckind xcqc xcqs xcqk xcqkey xcqv xcqhi xcqto jH jI jJ jK jL jM jN jO jP jQ jR xcpeer xcsq)[j]? = some u → w.cell? ⟨b, o + 3 + j, none⟩ = some u := by
  intro j u hu
  rw [Nat.add_assoc]
  refine hc (3 + j) u ?_
  rw [Nat.add_comm]
  exact hu

theorem votes_at {votes : List Vot} {k : Nat} {x : Vot} (_hx : votes[k]? = some x) {b : Bool} (h : b = (List.range k).all (voteAt votes)) {c : Bool} (hc : voteAt votes k = c) (hb : b = true) : c = (List.range (k + 1)).all (voteAt votes) := by
  rw [List.range_succ, List.all_append, ← h, hb]; simp [hc]

theorem votes_no {votes : List Vot} {k : Nat} (hk : k ≤ votes.length) (h : false = (List.range k).all (voteAt votes)) : votesOk votes = false := by
  unfold votesOk
  have : (List.range votes.length).all (voteAt votes) = false := by
    rw [List.all_eq_false]
    obtain ⟨i, hi, hb⟩ := List.all_eq_false.1 h.symm
    exact ⟨i, List.mem_range.2 (by have := List.mem_range.1 hi; omega), hb⟩
  rw [this, Bool.and_false]

theorem hidden {p : Prop} (h : p) : Hid p := h

set_option maxHeartbeats 4000000 in
set_option maxRecDepth 100000 in
theorem ref_message_4g (zY : Int) (zH zI zJ zK zL zM zN : Int) (zO zP zQ zR : Int) (zS : Bool) (zT zU : Int) (mn zZ jA : Int) (zV : Int) (zA zB zC zD zE zF zG : Int) (yA yB yC yD yE : Int) (yF : Option Addr) (yG yH : Nat) (yI : Option Addr) (yJ yK : Nat) (zW zX : Int) (jE : Option Addr) (jF jG : Nat) (yN yO yP yQ yR : Int) (yS : Option Addr) (yT yU : Nat) (yV : Option Addr) (yW yX : Nat) (jB jC : Int) (yL yY : List Row) (yM yZ : List Rep) (jD : List Vot) (w : World) (hv : VotesIn w.heap.size w ⟨jE, jF, jG⟩ jD) (hc1 : SlIn w.heap.size w ⟨yF, yG, yH⟩ 2 (yL.map Row.cells)) (hc2 : SlIn w.heap.size w ⟨yI, yJ, yK⟩ 7 (yM.map Rep.cells)) (_hr1 : SlIn w.heap.size w ⟨yS, yT, yU⟩ 2 (yY.map Row.cells)) (_hr2 : SlIn w.heap.size w ⟨yV, yW, yX⟩ 7 (yZ.map Rep.cells)) (hwf : (Msg.mk zY (Req.mk zH zI zJ zK zL zM zN) (Rep.mk zO zP zQ zR zS zT zU) mn zZ jA (Cmd.mk zV (Req.mk zA zB zC zD zE zF zG) (Rng.mk yA yB yC yD yE ⟨yF, yG, yH⟩ ⟨yI, yJ, yK⟩ yL yM) zW zX) ⟨jE, jF, jG⟩ (Rng.mk yN yO yP yQ yR ⟨yS, yT, yU⟩ ⟨yV, yW, yX⟩ yY yZ) jB jC jD).wf) (hk : zY = 4) (hgt : 255 < jF) :
    Calls Try.prog 35 #[.agg (List.toArray (rM zY zH zI zJ zK zL zM zN zO zP zQ zR zS zT zU mn zZ jA zV zA zB zC zD zE zF zG yA yB yC yD yE yF yG yH yI yJ yK zW zX jE jF jG yN yO yP yQ yR yS yT yU yV yW yX jB jC))] w fun e w' => e = .returned (.bool (Msg.mk zY (Req.mk zH zI zJ zK zL zM zN) (Rep.mk zO zP zQ zR zS zT zU) mn zZ jA (Cmd.mk zV (Req.mk zA zB zC zD zE zF zG) (Rng.mk yA yB yC yD yE ⟨yF, yG, yH⟩ ⟨yI, yJ, yK⟩ yL yM) zW zX) ⟨jE, jF, jG⟩ (Rng.mk yN yO yP yQ yR ⟨yS, yT, yU⟩ ⟨yV, yW, yX⟩ yY yZ) jB jC jD).ok) ∧ Below w.heap.size w w' := by
  subst hk
  have HWC : Hid (Cmd.mk zV (Req.mk zA zB zC zD zE zF zG) (Rng.mk yA yB yC yD yE ⟨yF, yG, yH⟩ ⟨yI, yJ, yK⟩ yL yM) zW zX).wf := hwf.cmd
  have HWV : Hid (∀ (i : Nat) (x : Vot), jD[i]? = some x → x.wf) := hwf.votes
  clear hwf
  have ha113 : among [98, 118] 113 = false := by decide
  have ha114 : among [98, 118] 114 = false := by decide
  have ha98 : among [98, 118] 98 = true := by decide
  have ha115 : among [98, 118] 115 = false := by decide
  have ha99 : among [98, 118] 99 = false := by decide
  have ha118 : among [98, 118] 118 = true := by decide
  have ha109 : among [98, 118] 109 = false := by decide
  have ha112 : among [98, 118] 112 = false := by decide
  have hne : (bstr [98, 118]).toList.isEmpty = false := bstr_ne _ (by decide)
  have hmn : jF ≤ maxLen := Nat.le_trans hv.sl.le hv.sl.max
  unfold maxLen at hmn
  have hlv : jF = jD.length := by simpa using hv.sl.len
  have HL : Hid (jF = jD.length) := hlv
  clear hlv
  have hT := later_alloc w (.cells (List.toArray (rM 4 zH zI zJ zK zL zM zN zO zP zQ zR zS zT zU mn zZ jA zV zA zB zC zD zE zF zG yA yB yC yD yE yF yG yH yI yJ yK zW zX jE jF jG yN yO yP yQ yR yS yT yU yV yW yX jB jC)) 38)
  have hW := heap_alloc_new w (.cells (List.toArray (rM 4 zH zI zJ zK zL zM zN zO zP zQ zR zS zT zU mn zZ jA zV zA zB zC zD zE zF zG yA yB yC yD yE yF yG yH yI yJ yK zW zX jE jF jG yN yO yP yQ yR yS yT yU yV yW yX jB jC)) 38)
  have hd255 : decide ((jF : Int) ≤ 255) = false := by simp; omega
  have hno : votesOk jD = false := by unfold votesOk; rw [decide_eq_false (by have := HL.out; omega), Bool.false_and]
  have hpos : decide ((0 : Int) < (jF : Int)) = true := by simp; omega
  go_enter Try.func35, Try.ntmps35
  go_upto_if 57 with (first | (go_at_call 36; go_must (refine (ref_letters_4 _).mono ?_; rintro e w1 ⟨rfl, hbel⟩; have hT := later_trans hT hbel; have hW := blk_later hbel hW; have hB := blk_cell hW)) | (with_reducible show wpList _ _ _ ({ dst := some 20, op := Op.load 25 _, type := _, pos := _, after := _, guard := _ } :: _) _ _; (refine wpList_load_blk rfl _ _ rfl w.heap.size 1 rfl 7 _ Try.underlying25 rfl sz_req _ _ (by assumption) rfl (rQ zH zI zJ zK zL zM zN) rfl ?_)) | (with_reducible show wpList _ _ _ ({ dst := some 29, op := Op.load 27 _, type := _, pos := _, after := _, guard := _ } :: _) _ _; (refine wpList_load_blk rfl _ _ rfl w.heap.size 8 rfl 7 _ Try.underlying27 rfl sz_rep _ _ (by assumption) rfl (rP zO zP zQ zR zS zT zU) rfl ?_)) | (with_reducible show wpList _ _ _ ({ dst := some 53, op := Op.load 35 _, type := _, pos := _, after := _, guard := _ } :: _) _ _; (refine wpList_load_blk rfl _ _ rfl w.heap.size 18 rfl 17 _ Try.underlying35 rfl sz_cmd _ _ (by assumption) rfl (rC zV zA zB zC zD zE zF zG yA yB yC yD yE yF yG yH yI yJ yK zW zX) rfl ?_)) | (with_reducible show wpList _ _ _ ({ dst := some 118, op := Op.load 33 _, type := _, pos := _, after := _, guard := _ } :: _) _ _; (refine wpList_load_blk rfl _ _ rfl w.heap.size 36 rfl 7 _ Try.underlying33 rfl sz_rng _ _ (by assumption) rfl (rR yN yO yP yQ yR yS yT yU yV yW yX) rfl ?_)) | (with_reducible show wpList _ _ _ ({ dst := some 22, op := Op.binOp BinOp.eql 25 _ _ 25, type := _, pos := _, after := _, guard := _ } :: _) _ _; (refine wpList_val rfl (.bool ((Req.mk zH zI zJ zK zL zM zN).no)) (run_eql _ _ _ 25 _ _ rfl _ _ _ rfl rfl gd_req (eql_req _ _ _ _ _ _ _ _)) ?_)) | (with_reducible show wpList _ _ _ ({ dst := some 31, op := Op.binOp BinOp.eql 27 _ _ 27, type := _, pos := _, after := _, guard := _ } :: _) _ _; (refine wpList_val rfl (.bool ((Rep.mk zO zP zQ zR zS zT zU).no)) (run_eql _ _ _ 27 _ _ rfl _ _ _ rfl rfl gd_rep (eql_rep _ _ _ _ _ _ _ _)) ?_)) | (go_at_call 85; go_must (refine (ref_has [98, 118] _ _ (by decide) (by decide)).mono ?_; rintro e w1 ⟨rfl, he⟩; rw [he]; clear he w1)) | (go_at_call 88; go_must (refine (ref_command _ _ _ _ _ _ _ _ _ _ _ _ _ _ _ _ _ _ _ _ _ yL yM _ (hc1.later hT) (hc2.later hT) HWC.out).mono ?_; rintro e w1 ⟨rfl, hbel⟩; have hT := later_trans hT hbel; have hW := blk_later hbel hW; have hB := blk_cell hW)) | (go_at_call 89; go_must (refine (ref_norange _ _ _ _ _ _ _ _ _ _ _ yY yZ _).mono ?_; rintro e w1 ⟨rfl, hbel⟩; have hT := later_trans hT hbel; have hW := blk_later hbel hW; have hB := blk_cell hW)))
  go_cut [8] from 14 (fun s wx => s = .bool ((Cmd.mk zV (Req.mk zA zB zC zD zE zF zG) (Rng.mk yA yB yC yD yE ⟨yF, yG, yH⟩ ⟨yI, yJ, yK⟩ yL yM) zW zX).ok && zV == 0) ∧ Below w.heap.size w wx ∧ Hid (wx.heap[w.heap.size]? = some (.cells (List.toArray (rM 4 zH zI zJ zK zL zM zN zO zP zQ zR zS zT zU mn zZ jA zV zA zB zC zD zE zF zG yA yB yC yD yE yF yG yH yI yJ yK zW zX jE jF jG yN yO yP yQ yR yS yT yU yV yW yX jB jC)) 38)))
  case first =>
    have HW := hidden hW
    cases hco : (Cmd.mk zV (Req.mk zA zB zC zD zE zF zG) (Rng.mk yA yB yC yD yE ⟨yF, yG, yH⟩ ⟨yI, yJ, yK⟩ yL yM) zW zX).ok
    · go_wp2_with fail
      go_meet
      exact ⟨by rw [hco]; rfl, hT, HW⟩
    · go_wp2_with fail
      go_meet
      exact ⟨by rw [hco, Bool.true_and], hT, HW⟩
  case rest =>
    clear hW hT
    obtain ⟨rfl, hT, HW⟩ := hcut
    have hW := HW.out
    have hB := blk_cell hW
    go_wp2_with (first | (go_at_call 36; go_must (refine (ref_letters_4 _).mono ?_; rintro e w1 ⟨rfl, hbel⟩; have hT := later_trans hT hbel; have hW := blk_later hbel hW; have hB := blk_cell hW)) | (with_reducible show wpList _ _ _ ({ dst := some 20, op := Op.load 25 _, type := _, pos := _, after := _, guard := _ } :: _) _ _; (refine wpList_load_blk rfl _ _ rfl w.heap.size 1 rfl 7 _ Try.underlying25 rfl sz_req _ _ (by assumption) rfl (rQ zH zI zJ zK zL zM zN) rfl ?_)) | (with_reducible show wpList _ _ _ ({ dst := some 29, op := Op.load 27 _, type := _, pos := _, after := _, guard := _ } :: _) _ _; (refine wpList_load_blk rfl _ _ rfl w.heap.size 8 rfl 7 _ Try.underlying27 rfl sz_rep _ _ (by assumption) rfl (rP zO zP zQ zR zS zT zU) rfl ?_)) | (with_reducible show wpList _ _ _ ({ dst := some 53, op := Op.load 35 _, type := _, pos := _, after := _, guard := _ } :: _) _ _; (refine wpList_load_blk rfl _ _ rfl w.heap.size 18 rfl 17 _ Try.underlying35 rfl sz_cmd _ _ (by assumption) rfl (rC zV zA zB zC zD zE zF zG yA yB yC yD yE yF yG yH yI yJ yK zW zX) rfl ?_)) | (with_reducible show wpList _ _ _ ({ dst := some 118, op := Op.load 33 _, type := _, pos := _, after := _, guard := _ } :: _) _ _; (refine wpList_load_blk rfl _ _ rfl w.heap.size 36 rfl 7 _ Try.underlying33 rfl sz_rng _ _ (by assumption) rfl (rR yN yO yP yQ yR yS yT yU yV yW yX) rfl ?_)) | (with_reducible show wpList _ _ _ ({ dst := some 22, op := Op.binOp BinOp.eql 25 _ _ 25, type := _, pos := _, after := _, guard := _ } :: _) _ _; (refine wpList_val rfl (.bool ((Req.mk zH zI zJ zK zL zM zN).no)) (run_eql _ _ _ 25 _ _ rfl _ _ _ rfl rfl gd_req (eql_req _ _ _ _ _ _ _ _)) ?_)) | (with_reducible show wpList _ _ _ ({ dst := some 31, op := Op.binOp BinOp.eql 27 _ _ 27, type := _, pos := _, after := _, guard := _ } :: _) _ _; (refine wpList_val rfl (.bool ((Rep.mk zO zP zQ zR zS zT zU).no)) (run_eql _ _ _ 27 _ _ rfl _ _ _ rfl rfl gd_rep (eql_rep _ _ _ _ _ _ _ _)) ?_)) | (go_at_call 85; go_must (refine (ref_has [98, 118] _ _ (by decide) (by decide)).mono ?_; rintro e w1 ⟨rfl, he⟩; rw [he]; clear he w1)) | (go_at_call 88; go_must (refine (ref_command _ _ _ _ _ _ _ _ _ _ _ _ _ _ _ _ _ _ _ _ _ yL yM _ (hc1.later hT) (hc2.later hT) HWC.out).mono ?_; rintro e w1 ⟨rfl, hbel⟩; have hT := later_trans hT hbel; have hW := blk_later hbel hW; have hB := blk_cell hW)) | (go_at_call 89; go_must (refine (ref_norange _ _ _ _ _ _ _ _ _ _ _ yY yZ _).mono ?_; rintro e w1 ⟨rfl, hbel⟩; have hT := later_trans hT hbel; have hW := blk_later hbel hW; have hB := blk_cell hW)))
    refine wp_loop_rounds 1 ?_
    rw [rounds_succ]
    go_wp2_with (first | (go_at_call 36; go_must (refine (ref_letters_4 _).mono ?_; rintro e w1 ⟨rfl, hbel⟩; have hT := later_trans hT hbel; have hW := blk_later hbel hW; have hB := blk_cell hW)) | (with_reducible show wpList _ _ _ ({ dst := some 20, op := Op.load 25 _, type := _, pos := _, after := _, guard := _ } :: _) _ _; (refine wpList_load_blk rfl _ _ rfl w.heap.size 1 rfl 7 _ Try.underlying25 rfl sz_req _ _ (by assumption) rfl (rQ zH zI zJ zK zL zM zN) rfl ?_)) | (with_reducible show wpList _ _ _ ({ dst := some 29, op := Op.load 27 _, type := _, pos := _, after := _, guard := _ } :: _) _ _; (refine wpList_load_blk rfl _ _ rfl w.heap.size 8 rfl 7 _ Try.underlying27 rfl sz_rep _ _ (by assumption) rfl (rP zO zP zQ zR zS zT zU) rfl ?_)) | (with_reducible show wpList _ _ _ ({ dst := some 53, op := Op.load 35 _, type := _, pos := _, after := _, guard := _ } :: _) _ _; (refine wpList_load_blk rfl _ _ rfl w.heap.size 18 rfl 17 _ Try.underlying35 rfl sz_cmd _ _ (by assumption) rfl (rC zV zA zB zC zD zE zF zG yA yB yC yD yE yF yG yH yI yJ yK zW zX) rfl ?_)) | (with_reducible show wpList _ _ _ ({ dst := some 118, op := Op.load 33 _, type := _, pos := _, after := _, guard := _ } :: _) _ _; (refine wpList_load_blk rfl _ _ rfl w.heap.size 36 rfl 7 _ Try.underlying33 rfl sz_rng _ _ (by assumption) rfl (rR yN yO yP yQ yR yS yT yU yV yW yX) rfl ?_)) | (with_reducible show wpList _ _ _ ({ dst := some 22, op := Op.binOp BinOp.eql 25 _ _ 25, type := _, pos := _, after := _, guard := _ } :: _) _ _; (refine wpList_val rfl (.bool ((Req.mk zH zI zJ zK zL zM zN).no)) (run_eql _ _ _ 25 _ _ rfl _ _ _ rfl rfl gd_req (eql_req _ _ _ _ _ _ _ _)) ?_)) | (with_reducible show wpList _ _ _ ({ dst := some 31, op := Op.binOp BinOp.eql 27 _ _ 27, type := _, pos := _, after := _, guard := _ } :: _) _ _; (refine wpList_val rfl (.bool ((Rep.mk zO zP zQ zR zS zT zU).no)) (run_eql _ _ _ 27 _ _ rfl _ _ _ rfl rfl gd_rep (eql_rep _ _ _ _ _ _ _ _)) ?_)) | (go_at_call 85; go_must (refine (ref_has [98, 118] _ _ (by decide) (by decide)).mono ?_; rintro e w1 ⟨rfl, he⟩; rw [he]; clear he w1)) | (go_at_call 88; go_must (refine (ref_command _ _ _ _ _ _ _ _ _ _ _ _ _ _ _ _ _ _ _ _ _ yL yM _ (hc1.later hT) (hc2.later hT) HWC.out).mono ?_; rintro e w1 ⟨rfl, hbel⟩; have hT := later_trans hT hbel; have hW := blk_later hbel hW; have hB := blk_cell hW)) | (go_at_call 89; go_must (refine (ref_norange _ _ _ _ _ _ _ _ _ _ _ yY yZ _).mono ?_; rintro e w1 ⟨rfl, hbel⟩; have hT := later_trans hT hbel; have hW := blk_later hbel hW; have hB := blk_cell hW)))
    all_goals go_ret
    all_goals refine ⟨ret_bool ?_, by assumption⟩
    all_goals (have hcb : zV = 0 → (Cmd.mk zV (Req.mk zA zB zC zD zE zF zG) (Rng.mk yA yB yC yD yE ⟨yF, yG, yH⟩ ⟨yI, yJ, yK⟩ yL yM) zW zX).ok = (Cmd.mk zV (Req.mk zA zB zC zD zE zF zG) (Rng.mk yA yB yC yD yE ⟨yF, yG, yH⟩ ⟨yI, yJ, yK⟩ yL yM) zW zX).bare := fun e => (by subst e; simp [Cmd.ok, Cmd.bare, Bool.and_assoc]))
    all_goals clear hT hW hB hne hmn hv hc1 hc2 _hr1 _hr2 HWC HWV HL
    all_goals simp_all [Msg.ok]
    all_goals (intro e; subst e; simp_all)

end Go.Proofs.Ytignemioillaiaa

namespace Go.Proofs.Ytignemioillaiaa
open Go.RowKit

set_option maxHeartbeats 4000000 in
set_option maxRecDepth 100000 in
theorem ref_message_4l (zY : Int) (zH zI zJ zK zL zM zN : Int) (zO zP zQ zR : Int) (zS : Bool) (zT zU : Int) (mn zZ jA : Int) (zV : Int) (zA zB zC zD zE zF zG : Int) (yA yB yC yD yE : Int) (yF : Option Addr) (yG yH : Nat) (yI : Option Addr) (yJ yK : Nat) (zW zX : Int) (jE : Option Addr) (jF jG : Nat) (yN yO yP yQ yR : Int) (yS : Option Addr) (yT yU : Nat) (yV : Option Addr) (yW yX : Nat) (jB jC : Int) (yL yY : List Row) (yM yZ : List Rep) (jD : List Vot) (w : World) (hv : VotesIn w.heap.size w ⟨jE, jF, jG⟩ jD) (hc1 : SlIn w.heap.size w ⟨yF, yG, yH⟩ 2 (yL.map Row.cells)) (hc2 : SlIn w.heap.size w ⟨yI, yJ, yK⟩ 7 (yM.map Rep.cells)) (_hr1 : SlIn w.heap.size w ⟨yS, yT, yU⟩ 2 (yY.map Row.cells)) (_hr2 : SlIn w.heap.size w ⟨yV, yW, yX⟩ 7 (yZ.map Rep.cells)) (hwf : (Msg.mk zY (Req.mk zH zI zJ zK zL zM zN) (Rep.mk zO zP zQ zR zS zT zU) mn zZ jA (Cmd.mk zV (Req.mk zA zB zC zD zE zF zG) (Rng.mk yA yB yC yD yE ⟨yF, yG, yH⟩ ⟨yI, yJ, yK⟩ yL yM) zW zX) ⟨jE, jF, jG⟩ (Rng.mk yN yO yP yQ yR ⟨yS, yT, yU⟩ ⟨yV, yW, yX⟩ yY yZ) jB jC jD).wf) (hk : zY = 4) (hle : jF ≤ 255) :
    Calls Try.prog 35 #[.agg (List.toArray (rM zY zH zI zJ zK zL zM zN zO zP zQ zR zS zT zU mn zZ jA zV zA zB zC zD zE zF zG yA yB yC yD yE yF yG yH yI yJ yK zW zX jE jF jG yN yO yP yQ yR yS yT yU yV yW yX jB jC))] w fun e w' => e = .returned (.bool (Msg.mk zY (Req.mk zH zI zJ zK zL zM zN) (Rep.mk zO zP zQ zR zS zT zU) mn zZ jA (Cmd.mk zV (Req.mk zA zB zC zD zE zF zG) (Rng.mk yA yB yC yD yE ⟨yF, yG, yH⟩ ⟨yI, yJ, yK⟩ yL yM) zW zX) ⟨jE, jF, jG⟩ (Rng.mk yN yO yP yQ yR ⟨yS, yT, yU⟩ ⟨yV, yW, yX⟩ yY yZ) jB jC jD).ok) ∧ Below w.heap.size w w' := by
  subst hk
  have HWC : Hid (Cmd.mk zV (Req.mk zA zB zC zD zE zF zG) (Rng.mk yA yB yC yD yE ⟨yF, yG, yH⟩ ⟨yI, yJ, yK⟩ yL yM) zW zX).wf := hwf.cmd
  have HWV : Hid (∀ (i : Nat) (x : Vot), jD[i]? = some x → x.wf) := hwf.votes
  clear hwf
  have ha113 : among [98, 118] 113 = false := by decide
  have ha114 : among [98, 118] 114 = false := by decide
  have ha98 : among [98, 118] 98 = true := by decide
  have ha115 : among [98, 118] 115 = false := by decide
  have ha99 : among [98, 118] 99 = false := by decide
  have ha118 : among [98, 118] 118 = true := by decide
  have ha109 : among [98, 118] 109 = false := by decide
  have ha112 : among [98, 118] 112 = false := by decide
  have hne : (bstr [98, 118]).toList.isEmpty = false := bstr_ne _ (by decide)
  have hmn : jF ≤ maxLen := Nat.le_trans hv.sl.le hv.sl.max
  unfold maxLen at hmn
  have hlv : jF = jD.length := by simpa using hv.sl.len
  have HL : Hid (jF = jD.length) := hlv
  clear hlv
  have hT := later_alloc w (.cells (List.toArray (rM 4 zH zI zJ zK zL zM zN zO zP zQ zR zS zT zU mn zZ jA zV zA zB zC zD zE zF zG yA yB yC yD yE yF yG yH yI yJ yK zW zX jE jF jG yN yO yP yQ yR yS yT yU yV yW yX jB jC)) 38)
  have hW := heap_alloc_new w (.cells (List.toArray (rM 4 zH zI zJ zK zL zM zN zO zP zQ zR zS zT zU mn zZ jA zV zA zB zC zD zE zF zG yA yB yC yD yE yF yG yH yI yJ yK zW zX jE jF jG yN yO yP yQ yR yS yT yU yV yW yX jB jC)) 38)
  have hd255 : decide ((jF : Int) ≤ 255) = true := by simp; omega
  go_enter Try.func35, Try.ntmps35
  go_upto_if 57 with (first | (go_at_call 36; go_must (refine (ref_letters_4 _).mono ?_; rintro e w1 ⟨rfl, hbel⟩; have hT := later_trans hT hbel; have hW := blk_later hbel hW; have hB := blk_cell hW)) | (with_reducible show wpList _ _ _ ({ dst := some 20, op := Op.load 25 _, type := _, pos := _, after := _, guard := _ } :: _) _ _; (refine wpList_load_blk rfl _ _ rfl w.heap.size 1 rfl 7 _ Try.underlying25 rfl sz_req _ _ (by assumption) rfl (rQ zH zI zJ zK zL zM zN) rfl ?_)) | (with_reducible show wpList _ _ _ ({ dst := some 29, op := Op.load 27 _, type := _, pos := _, after := _, guard := _ } :: _) _ _; (refine wpList_load_blk rfl _ _ rfl w.heap.size 8 rfl 7 _ Try.underlying27 rfl sz_rep _ _ (by assumption) rfl (rP zO zP zQ zR zS zT zU) rfl ?_)) | (with_reducible show wpList _ _ _ ({ dst := some 53, op := Op.load 35 _, type := _, pos := _, after := _, guard := _ } :: _) _ _; (refine wpList_load_blk rfl _ _ rfl w.heap.size 18 rfl 17 _ Try.underlying35 rfl sz_cmd _ _ (by assumption) rfl (rC zV zA zB zC zD zE zF zG yA yB yC yD yE yF yG yH yI yJ yK zW zX) rfl ?_)) | (with_reducible show wpList _ _ _ ({ dst := some 118, op := Op.load 33 _, type := _, pos := _, after := _, guard := _ } :: _) _ _; (refine wpList_load_blk rfl _ _ rfl w.heap.size 36 rfl 7 _ Try.underlying33 rfl sz_rng _ _ (by assumption) rfl (rR yN yO yP yQ yR yS yT yU yV yW yX) rfl ?_)) | (with_reducible show wpList _ _ _ ({ dst := some 22, op := Op.binOp BinOp.eql 25 _ _ 25, type := _, pos := _, after := _, guard := _ } :: _) _ _; (refine wpList_val rfl (.bool ((Req.mk zH zI zJ zK zL zM zN).no)) (run_eql _ _ _ 25 _ _ rfl _ _ _ rfl rfl gd_req (eql_req _ _ _ _ _ _ _ _)) ?_)) | (with_reducible show wpList _ _ _ ({ dst := some 31, op := Op.binOp BinOp.eql 27 _ _ 27, type := _, pos := _, after := _, guard := _ } :: _) _ _; (refine wpList_val rfl (.bool ((Rep.mk zO zP zQ zR zS zT zU).no)) (run_eql _ _ _ 27 _ _ rfl _ _ _ rfl rfl gd_rep (eql_rep _ _ _ _ _ _ _ _)) ?_)) | (go_at_call 85; go_must (refine (ref_has [98, 118] _ _ (by decide) (by decide)).mono ?_; rintro e w1 ⟨rfl, he⟩; rw [he]; clear he w1)) | (go_at_call 88; go_must (refine (ref_command _ _ _ _ _ _ _ _ _ _ _ _ _ _ _ _ _ _ _ _ _ yL yM _ (hc1.later hT) (hc2.later hT) HWC.out).mono ?_; rintro e w1 ⟨rfl, hbel⟩; have hT := later_trans hT hbel; have hW := blk_later hbel hW; have hB := blk_cell hW)) | (go_at_call 89; go_must (refine (ref_norange _ _ _ _ _ _ _ _ _ _ _ yY yZ _).mono ?_; rintro e w1 ⟨rfl, hbel⟩; have hT := later_trans hT hbel; have hW := blk_later hbel hW; have hB := blk_cell hW)))
  go_cut [8] from 14 (fun s wx => s = .bool ((Cmd.mk zV (Req.mk zA zB zC zD zE zF zG) (Rng.mk yA yB yC yD yE ⟨yF, yG, yH⟩ ⟨yI, yJ, yK⟩ yL yM) zW zX).ok && zV == 0) ∧ Below w.heap.size w wx ∧ Hid (wx.heap[w.heap.size]? = some (.cells (List.toArray (rM 4 zH zI zJ zK zL zM zN zO zP zQ zR zS zT zU mn zZ jA zV zA zB zC zD zE zF zG yA yB yC yD yE yF yG yH yI yJ yK zW zX jE jF jG yN yO yP yQ yR yS yT yU yV yW yX jB jC)) 38)))
  case first =>
    have HW := hidden hW
    cases hco : (Cmd.mk zV (Req.mk zA zB zC zD zE zF zG) (Rng.mk yA yB yC yD yE ⟨yF, yG, yH⟩ ⟨yI, yJ, yK⟩ yL yM) zW zX).ok
    · go_wp2_with fail
      go_meet
      exact ⟨by rw [hco]; rfl, hT, HW⟩
    · go_wp2_with fail
      go_meet
      exact ⟨by rw [hco, Bool.true_and], hT, HW⟩
  case rest =>
    clear hW hT
    obtain ⟨rfl, hT, HW⟩ := hcut
    have hW := HW.out
    have hB := blk_cell hW
    go_wp2_with (first | (go_at_call 36; go_must (refine (ref_letters_4 _).mono ?_; rintro e w1 ⟨rfl, hbel⟩; have hT := later_trans hT hbel; have hW := blk_later hbel hW; have hB := blk_cell hW)) | (with_reducible show wpList _ _ _ ({ dst := some 20, op := Op.load 25 _, type := _, pos := _, after := _, guard := _ } :: _) _ _; (refine wpList_load_blk rfl _ _ rfl w.heap.size 1 rfl 7 _ Try.underlying25 rfl sz_req _ _ (by assumption) rfl (rQ zH zI zJ zK zL zM zN) rfl ?_)) | (with_reducible show wpList _ _ _ ({ dst := some 29, op := Op.load 27 _, type := _, pos := _, after := _, guard := _ } :: _) _ _; (refine wpList_load_blk rfl _ _ rfl w.heap.size 8 rfl 7 _ Try.underlying27 rfl sz_rep _ _ (by assumption) rfl (rP zO zP zQ zR zS zT zU) rfl ?_)) | (with_reducible show wpList _ _ _ ({ dst := some 53, op := Op.load 35 _, type := _, pos := _, after := _, guard := _ } :: _) _ _; (refine wpList_load_blk rfl _ _ rfl w.heap.size 18 rfl 17 _ Try.underlying35 rfl sz_cmd _ _ (by assumption) rfl (rC zV zA zB zC zD zE zF zG yA yB yC yD yE yF yG yH yI yJ yK zW zX) rfl ?_)) | (with_reducible show wpList _ _ _ ({ dst := some 118, op := Op.load 33 _, type := _, pos := _, after := _, guard := _ } :: _) _ _; (refine wpList_load_blk rfl _ _ rfl w.heap.size 36 rfl 7 _ Try.underlying33 rfl sz_rng _ _ (by assumption) rfl (rR yN yO yP yQ yR yS yT yU yV yW yX) rfl ?_)) | (with_reducible show wpList _ _ _ ({ dst := some 22, op := Op.binOp BinOp.eql 25 _ _ 25, type := _, pos := _, after := _, guard := _ } :: _) _ _; (refine wpList_val rfl (.bool ((Req.mk zH zI zJ zK zL zM zN).no)) (run_eql _ _ _ 25 _ _ rfl _ _ _ rfl rfl gd_req (eql_req _ _ _ _ _ _ _ _)) ?_)) | (with_reducible show wpList _ _ _ ({ dst := some 31, op := Op.binOp BinOp.eql 27 _ _ 27, type := _, pos := _, after := _, guard := _ } :: _) _ _; (refine wpList_val rfl (.bool ((Rep.mk zO zP zQ zR zS zT zU).no)) (run_eql _ _ _ 27 _ _ rfl _ _ _ rfl rfl gd_rep (eql_rep _ _ _ _ _ _ _ _)) ?_)) | (go_at_call 85; go_must (refine (ref_has [98, 118] _ _ (by decide) (by decide)).mono ?_; rintro e w1 ⟨rfl, he⟩; rw [he]; clear he w1)) | (go_at_call 88; go_must (refine (ref_command _ _ _ _ _ _ _ _ _ _ _ _ _ _ _ _ _ _ _ _ _ yL yM _ (hc1.later hT) (hc2.later hT) HWC.out).mono ?_; rintro e w1 ⟨rfl, hbel⟩; have hT := later_trans hT hbel; have hW := blk_later hbel hW; have hB := blk_cell hW)) | (go_at_call 89; go_must (refine (ref_norange _ _ _ _ _ _ _ _ _ _ _ yY yZ _).mono ?_; rintro e w1 ⟨rfl, hbel⟩; have hT := later_trans hT hbel; have hW := blk_later hbel hW; have hB := blk_cell hW)))
    go_loopw [9, 10] (fun vv i wr => ∃ (k : Nat) (b : Bool), k ≤ jF ∧ i = .int .i64 k ∧ vv = .bool b ∧ Hid (b = (List.range k).all (voteAt jD)) ∧ Hid (wr.heap[w.heap.size]? = some (.cells (List.toArray (rM 4 zH zI zJ zK zL zM zN zO zP zQ zR zS zT zU mn zZ jA zV zA zB zC zD zE zF zG yA yB yC yD yE yF yG yH yI yJ yK zW zX jE jF jG yN yO yP yQ yR yS yT yU yV yW yX jB jC)) 38)) ∧ Below w.heap.size w wr) (fun _ i _ => jF - (intOf i).toNat)
    case atStart => exact ⟨0, true, Nat.zero_le _, rfl, rfl, (by show true = _; simp), HW, hT⟩
    case round =>
      clear hT HW hW hB
      obtain ⟨k, bb, hk, rfl, rfl, HB, HWr, hnx⟩ := hrel
      have hWr := HWr.out
      have hBr := blk_cell hWr
      cases bb with
      | false =>
        have hno : votesOk jD = false := votes_no (by have := HL.out; omega) HB.out
        have hT := hnx
        have hW := hWr
        have hB := hBr
        by_cases hlt : k < jF
        · have hdk : decide ((k : Int) < (jF : Int)) = true := by simp; omega
          go_wp2_with (first | (go_at_call 36; go_must (refine (ref_letters_4 _).mono ?_; rintro e w1 ⟨rfl, hbel⟩; have hT := later_trans hT hbel; have hW := blk_later hbel hW; have hB := blk_cell hW)) | (with_reducible show wpList _ _ _ ({ dst := some 20, op := Op.load 25 _, type := _, pos := _, after := _, guard := _ } :: _) _ _; (refine wpList_load_blk rfl _ _ rfl w.heap.size 1 rfl 7 _ Try.underlying25 rfl sz_req _ _ (by assumption) rfl (rQ zH zI zJ zK zL zM zN) rfl ?_)) | (with_reducible show wpList _ _ _ ({ dst := some 29, op := Op.load 27 _, type := _, pos := _, after := _, guard := _ } :: _) _ _; (refine wpList_load_blk rfl _ _ rfl w.heap.size 8 rfl 7 _ Try.underlying27 rfl sz_rep _ _ (by assumption) rfl (rP zO zP zQ zR zS zT zU) rfl ?_)) | (with_reducible show wpList _ _ _ ({ dst := some 53, op := Op.load 35 _, type := _, pos := _, after := _, guard := _ } :: _) _ _; (refine wpList_load_blk rfl _ _ rfl w.heap.size 18 rfl 17 _ Try.underlying35 rfl sz_cmd _ _ (by assumption) rfl (rC zV zA zB zC zD zE zF zG yA yB yC yD yE yF yG yH yI yJ yK zW zX) rfl ?_)) | (with_reducible show wpList _ _ _ ({ dst := some 118, op := Op.load 33 _, type := _, pos := _, after := _, guard := _ } :: _) _ _; (refine wpList_load_blk rfl _ _ rfl w.heap.size 36 rfl 7 _ Try.underlying33 rfl sz_rng _ _ (by assumption) rfl (rR yN yO yP yQ yR yS yT yU yV yW yX) rfl ?_)) | (with_reducible show wpList _ _ _ ({ dst := some 22, op := Op.binOp BinOp.eql 25 _ _ 25, type := _, pos := _, after := _, guard := _ } :: _) _ _; (refine wpList_val rfl (.bool ((Req.mk zH zI zJ zK zL zM zN).no)) (run_eql _ _ _ 25 _ _ rfl _ _ _ rfl rfl gd_req (eql_req _ _ _ _ _ _ _ _)) ?_)) | (with_reducible show wpList _ _ _ ({ dst := some 31, op := Op.binOp BinOp.eql 27 _ _ 27, type := _, pos := _, after := _, guard := _ } :: _) _ _; (refine wpList_val rfl (.bool ((Rep.mk zO zP zQ zR zS zT zU).no)) (run_eql _ _ _ 27 _ _ rfl _ _ _ rfl rfl gd_rep (eql_rep _ _ _ _ _ _ _ _)) ?_)) | (go_at_call 85; go_must (refine (ref_has [98, 118] _ _ (by decide) (by decide)).mono ?_; rintro e w1 ⟨rfl, he⟩; rw [he]; clear he w1)) | (go_at_call 88; go_must (refine (ref_command _ _ _ _ _ _ _ _ _ _ _ _ _ _ _ _ _ _ _ _ _ yL yM _ (hc1.later hT) (hc2.later hT) HWC.out).mono ?_; rintro e w1 ⟨rfl, hbel⟩; have hT := later_trans hT hbel; have hW := blk_later hbel hW; have hB := blk_cell hW)) | (go_at_call 89; go_must (refine (ref_norange _ _ _ _ _ _ _ _ _ _ _ yY yZ _).mono ?_; rintro e w1 ⟨rfl, hbel⟩; have hT := later_trans hT hbel; have hW := blk_later hbel hW; have hB := blk_cell hW)))
          all_goals go_ret
          all_goals refine ⟨ret_bool ?_, by assumption⟩
          all_goals (have hcb : zV = 0 → (Cmd.mk zV (Req.mk zA zB zC zD zE zF zG) (Rng.mk yA yB yC yD yE ⟨yF, yG, yH⟩ ⟨yI, yJ, yK⟩ yL yM) zW zX).ok = (Cmd.mk zV (Req.mk zA zB zC zD zE zF zG) (Rng.mk yA yB yC yD yE ⟨yF, yG, yH⟩ ⟨yI, yJ, yK⟩ yL yM) zW zX).bare := fun e => (by subst e; simp [Cmd.ok, Cmd.bare, Bool.and_assoc]))
          all_goals clear hT hW hB hne hmn hv hc1 hc2 _hr1 _hr2 HWC HWV HL
          all_goals simp_all [Msg.ok]
          all_goals (intro e; subst e; simp_all)
        · have hdk : decide ((k : Int) < (jF : Int)) = false := by simp; omega
          go_wp2_with (first | (go_at_call 36; go_must (refine (ref_letters_4 _).mono ?_; rintro e w1 ⟨rfl, hbel⟩; have hT := later_trans hT hbel; have hW := blk_later hbel hW; have hB := blk_cell hW)) | (with_reducible show wpList _ _ _ ({ dst := some 20, op := Op.load 25 _, type := _, pos := _, after := _, guard := _ } :: _) _ _; (refine wpList_load_blk rfl _ _ rfl w.heap.size 1 rfl 7 _ Try.underlying25 rfl sz_req _ _ (by assumption) rfl (rQ zH zI zJ zK zL zM zN) rfl ?_)) | (with_reducible show wpList _ _ _ ({ dst := some 29, op := Op.load 27 _, type := _, pos := _, after := _, guard := _ } :: _) _ _; (refine wpList_load_blk rfl _ _ rfl w.heap.size 8 rfl 7 _ Try.underlying27 rfl sz_rep _ _ (by assumption) rfl (rP zO zP zQ zR zS zT zU) rfl ?_)) | (with_reducible show wpList _ _ _ ({ dst := some 53, op := Op.load 35 _, type := _, pos := _, after := _, guard := _ } :: _) _ _; (refine wpList_load_blk rfl _ _ rfl w.heap.size 18 rfl 17 _ Try.underlying35 rfl sz_cmd _ _ (by assumption) rfl (rC zV zA zB zC zD zE zF zG yA yB yC yD yE yF yG yH yI yJ yK zW zX) rfl ?_)) | (with_reducible show wpList _ _ _ ({ dst := some 118, op := Op.load 33 _, type := _, pos := _, after := _, guard := _ } :: _) _ _; (refine wpList_load_blk rfl _ _ rfl w.heap.size 36 rfl 7 _ Try.underlying33 rfl sz_rng _ _ (by assumption) rfl (rR yN yO yP yQ yR yS yT yU yV yW yX) rfl ?_)) | (with_reducible show wpList _ _ _ ({ dst := some 22, op := Op.binOp BinOp.eql 25 _ _ 25, type := _, pos := _, after := _, guard := _ } :: _) _ _; (refine wpList_val rfl (.bool ((Req.mk zH zI zJ zK zL zM zN).no)) (run_eql _ _ _ 25 _ _ rfl _ _ _ rfl rfl gd_req (eql_req _ _ _ _ _ _ _ _)) ?_)) | (with_reducible show wpList _ _ _ ({ dst := some 31, op := Op.binOp BinOp.eql 27 _ _ 27, type := _, pos := _, after := _, guard := _ } :: _) _ _; (refine wpList_val rfl (.bool ((Rep.mk zO zP zQ zR zS zT zU).no)) (run_eql _ _ _ 27 _ _ rfl _ _ _ rfl rfl gd_rep (eql_rep _ _ _ _ _ _ _ _)) ?_)) | (go_at_call 85; go_must (refine (ref_has [98, 118] _ _ (by decide) (by decide)).mono ?_; rintro e w1 ⟨rfl, he⟩; rw [he]; clear he w1)) | (go_at_call 88; go_must (refine (ref_command _ _ _ _ _ _ _ _ _ _ _ _ _ _ _ _ _ _ _ _ _ yL yM _ (hc1.later hT) (hc2.later hT) HWC.out).mono ?_; rintro e w1 ⟨rfl, hbel⟩; have hT := later_trans hT hbel; have hW := blk_later hbel hW; have hB := blk_cell hW)) | (go_at_call 89; go_must (refine (ref_norange _ _ _ _ _ _ _ _ _ _ _ yY yZ _).mono ?_; rintro e w1 ⟨rfl, hbel⟩; have hT := later_trans hT hbel; have hW := blk_later hbel hW; have hB := blk_cell hW)))
          all_goals go_ret
          all_goals refine ⟨ret_bool ?_, by assumption⟩
          all_goals (have hcb : zV = 0 → (Cmd.mk zV (Req.mk zA zB zC zD zE zF zG) (Rng.mk yA yB yC yD yE ⟨yF, yG, yH⟩ ⟨yI, yJ, yK⟩ yL yM) zW zX).ok = (Cmd.mk zV (Req.mk zA zB zC zD zE zF zG) (Rng.mk yA yB yC yD yE ⟨yF, yG, yH⟩ ⟨yI, yJ, yK⟩ yL yM) zW zX).bare := fun e => (by subst e; simp [Cmd.ok, Cmd.bare, Bool.and_assoc]))
          all_goals clear hT hW hB hne hmn hv hc1 hc2 _hr1 _hr2 HWC HWV HL
          all_goals simp_all [Msg.ok]
          all_goals (intro e; subst e; simp_all)
      | true =>
        by_cases hlt : k < jF
        · have hdk : decide ((k : Int) < (jF : Int)) = true := by simp; omega
          have hi1 : (0 : Int) ≤ (k : Int) := by omega
          have hi2 : (k : Int) < (jF : Int) := by omega
          obtain ⟨x, hx⟩ : ∃ x, jD[k]? = some x := ⟨jD[k]'(by rw [← HL.out]; exact hlt), by simp⟩
          have hS := hv.later hnx
          obtain ⟨b, off, ha, hbB, hc⟩ := hS.sl.el (i := k) (x := x.cells) (by simp [hx])
          have hR := hS.all k x hx
          have HXW : Hid x.cmd.wf := (HWV.out k x hx).cmd
          obtain rfl : jE = some ⟨b, off, none⟩ := ha
          have HX : Hid (jD[k]? = some x) := hx
          clear hx
          obtain ⟨xslot, xn, xid, ⟨xckind, ⟨xcqc, xcqs, xcqk, xcqkey, xcqv, xcqhi, xcqto⟩, ⟨jH, jI, jJ, jK, jL, ⟨jM, jN, jO⟩, ⟨jP, jQ, jR⟩, jS, jT⟩, xcpeer, xcsq⟩⟩ := x
          simp only [Vot.cells, Cmd.cells, Req.cells, Rng.cells, Sl.val, List.cons_append, List.nil_append] at hc
          have hc3 := vote_cmd _ _ _ _ _ _ _ _ _ _ _ _ _ _ _ _ _ _ _ _ _ _ _ _ hc
          have hs0 := hc 0 (.int .u32 xslot) rfl
          simp only [Nat.add_zero] at hs0
          clear hc
          cases hco : (Cmd.mk xckind (Req.mk xcqc xcqs xcqk xcqkey xcqv xcqhi xcqto) (Rng.mk jH jI jJ jK jL ⟨jM, jN, jO⟩ ⟨jP, jQ, jR⟩ jS jT) xcpeer xcsq).ok
          · go_wp2_with (first | (with_reducible show wpList _ _ _ ({ dst := some 94, op := Op.load 35 _, type := _, pos := _, after := _, guard := _ } :: _) _ _; (refine wpList_load_mem rfl _ _ rfl b (off + k * 20 + 3) rfl 17 _ Try.underlying35 rfl sz_cmd (rC xckind xcqc xcqs xcqk xcqkey xcqv xcqhi xcqto jH jI jJ jK jL jM jN jO jP jQ jR xcpeer xcsq) rfl hc3 ?_)) | (go_at_call 88; go_must (refine (ref_command _ _ _ _ _ _ _ _ _ _ _ _ _ _ _ _ _ _ _ _ _ jS jT _ hR.rows hR.dups HXW.out).mono ?_; rintro e w1 ⟨rfl, hbel⟩; rw [hco]; have hW1 := blk_later hbel hWr; have hB1 := blk_cell hW1; have he0 := (later_cell hbel hbB _).trans hs0)))
            go_quiet (fail)
            go_wp2
            go_roundw
            case rel => exact ⟨k + 1, false, by omega, by go_num, rfl, votes_at HX.out HB.out (by unfold voteAt; rw [HX.out]; simp [hco]) rfl, blk_drewN hW1 _, below_drewN (hnx.trans (hbel.mono hnx.size)) _⟩
            case measure => simp [intOf]; omega
          · by_cases hk0 : k = 0
            · have hkb : ((k : Int) == 0) = true := by simp [hk0]
              have HK0 : Hid (k = 0) := hk0
              clear hk0
              go_wp2_with (first | (with_reducible show wpList _ _ _ ({ dst := some 94, op := Op.load 35 _, type := _, pos := _, after := _, guard := _ } :: _) _ _; (refine wpList_load_mem rfl _ _ rfl b (off + k * 20 + 3) rfl 17 _ Try.underlying35 rfl sz_cmd (rC xckind xcqc xcqs xcqk xcqkey xcqv xcqhi xcqto jH jI jJ jK jL jM jN jO jP jQ jR xcpeer xcsq) rfl hc3 ?_)) | (go_at_call 88; go_must (refine (ref_command _ _ _ _ _ _ _ _ _ _ _ _ _ _ _ _ _ _ _ _ _ jS jT _ hR.rows hR.dups HXW.out).mono ?_; rintro e w1 ⟨rfl, hbel⟩; rw [hco]; have hW1 := blk_later hbel hWr; have hB1 := blk_cell hW1; have he0 := (later_cell hbel hbB _).trans hs0)))
              go_quiet (fail)
              go_wp2
              go_roundw
              case rel => exact ⟨k + 1, true, by omega, by go_num, rfl, votes_at HX.out HB.out (by unfold voteAt; rw [HX.out, HK0.out]; simp [hco]) rfl, blk_drewN hW1 _, below_drewN (hnx.trans (hbel.mono hnx.size)) _⟩
              case measure => simp [intOf]; omega
            · have hkb : ((k : Int) == 0) = false := by simp; omega
              have hk0' : 0 < k := by omega
              obtain ⟨y, hy⟩ : ∃ y, jD[k - 1]? = some y := ⟨jD[k - 1]'(by rw [← HL.out]; omega), by simp⟩
              obtain ⟨b', off', ha', _, hd⟩ := hS.sl.el (i := k - 1) (x := y.cells) (by simp [hy])
              simp only [Option.some.injEq, Addr.mk.injEq, and_true] at ha'
              obtain ⟨rfl, rfl⟩ := ha'
              have hd0 := hd 0 (.int .u32 y.slot) rfl
              have HY : Hid (jD[k - 1]? = some y) := hy
              clear hy hd
              simp only [Nat.add_zero] at hd0
              have hj0 : (0 : Int) ≤ (k : Int) - 1 := by omega
              have hj1 : (k : Int) - 1 < (jF : Int) := by omega
              have hkn : (k == 0) = false := by simp; omega
              obtain ⟨ys, hys⟩ : ∃ z, z = y.slot := ⟨_, rfl⟩
              rw [← hys] at hd0
              have HYS : Hid (ys = y.slot) := hys
              clear hys
              by_cases hsl : ys < xslot
              · have hsd : decide (ys < xslot) = true := by simp [hsl]
                go_wp2_with (first | (with_reducible show wpList _ _ _ ({ dst := some 94, op := Op.load 35 _, type := _, pos := _, after := _, guard := _ } :: _) _ _; (refine wpList_load_mem rfl _ _ rfl b (off + k * 20 + 3) rfl 17 _ Try.underlying35 rfl sz_cmd (rC xckind xcqc xcqs xcqk xcqkey xcqv xcqhi xcqto jH jI jJ jK jL jM jN jO jP jQ jR xcpeer xcsq) rfl hc3 ?_)) | (go_at_call 88; go_must (refine (ref_command _ _ _ _ _ _ _ _ _ _ _ _ _ _ _ _ _ _ _ _ _ jS jT _ hR.rows hR.dups HXW.out).mono ?_; rintro e w1 ⟨rfl, hbel⟩; rw [hco]; have hW1 := blk_later hbel hWr; have hB1 := blk_cell hW1; have he0 := (later_cell hbel hbB _).trans hs0; have he1 := (later_cell hbel hbB _).trans hd0)))
                go_quiet (fail)
                go_wp2
                go_roundw
                case rel => exact ⟨k + 1, true, by omega, by go_num, rfl, votes_at HX.out HB.out (by unfold voteAt; rw [HX.out]; simp only [hco, hkn, HY.out]; rw [← HYS.out]; simp [hsl]) rfl, blk_drewN hW1 _, below_drewN (hnx.trans (hbel.mono hnx.size)) _⟩
                case measure => simp [intOf]; omega
              · have hsd : decide (ys < xslot) = false := by simp; omega
                go_wp2_with (first | (with_reducible show wpList _ _ _ ({ dst := some 94, op := Op.load 35 _, type := _, pos := _, after := _, guard := _ } :: _) _ _; (refine wpList_load_mem rfl _ _ rfl b (off + k * 20 + 3) rfl 17 _ Try.underlying35 rfl sz_cmd (rC xckind xcqc xcqs xcqk xcqkey xcqv xcqhi xcqto jH jI jJ jK jL jM jN jO jP jQ jR xcpeer xcsq) rfl hc3 ?_)) | (go_at_call 88; go_must (refine (ref_command _ _ _ _ _ _ _ _ _ _ _ _ _ _ _ _ _ _ _ _ _ jS jT _ hR.rows hR.dups HXW.out).mono ?_; rintro e w1 ⟨rfl, hbel⟩; rw [hco]; have hW1 := blk_later hbel hWr; have hB1 := blk_cell hW1; have he0 := (later_cell hbel hbB _).trans hs0; have he1 := (later_cell hbel hbB _).trans hd0)))
                go_quiet (fail)
                go_wp2
                go_roundw
                case rel => exact ⟨k + 1, false, by omega, by go_num, rfl, votes_at HX.out HB.out (by unfold voteAt; rw [HX.out]; simp only [hco, hkn, HY.out]; rw [← HYS.out]; simp; omega) rfl, blk_drewN hW1 _, below_drewN (hnx.trans (hbel.mono hnx.size)) _⟩
                case measure => simp [intOf]; omega
        · have hdk : decide ((k : Int) < (jF : Int)) = false := by simp; omega
          have hyes : votesOk jD = true := by
            unfold votesOk
            have h9 : k = jD.length := by have := HL.out; omega
            rw [← h9, ← HB.out, decide_eq_true (by omega)]; rfl
          have hT := hnx
          have hW := hWr
          have hB := hBr
          go_wp2_with (first | (go_at_call 36; go_must (refine (ref_letters_4 _).mono ?_; rintro e w1 ⟨rfl, hbel⟩; have hT := later_trans hT hbel; have hW := blk_later hbel hW; have hB := blk_cell hW)) | (with_reducible show wpList _ _ _ ({ dst := some 20, op := Op.load 25 _, type := _, pos := _, after := _, guard := _ } :: _) _ _; (refine wpList_load_blk rfl _ _ rfl w.heap.size 1 rfl 7 _ Try.underlying25 rfl sz_req _ _ (by assumption) rfl (rQ zH zI zJ zK zL zM zN) rfl ?_)) | (with_reducible show wpList _ _ _ ({ dst := some 29, op := Op.load 27 _, type := _, pos := _, after := _, guard := _ } :: _) _ _; (refine wpList_load_blk rfl _ _ rfl w.heap.size 8 rfl 7 _ Try.underlying27 rfl sz_rep _ _ (by assumption) rfl (rP zO zP zQ zR zS zT zU) rfl ?_)) | (with_reducible show wpList _ _ _ ({ dst := some 53, op := Op.load 35 _, type := _, pos := _, after := _, guard := _ } :: _) _ _; (refine wpList_load_blk rfl _ _ rfl w.heap.size 18 rfl 17 _ Try.underlying35 rfl sz_cmd _ _ (by assumption) rfl (rC zV zA zB zC zD zE zF zG yA yB yC yD yE yF yG yH yI yJ yK zW zX) rfl ?_)) | (with_reducible show wpList _ _ _ ({ dst := some 118, op := Op.load 33 _, type := _, pos := _, after := _, guard := _ } :: _) _ _; (refine wpList_load_blk rfl _ _ rfl w.heap.size 36 rfl 7 _ Try.underlying33 rfl sz_rng _ _ (by assumption) rfl (rR yN yO yP yQ yR yS yT yU yV yW yX) rfl ?_)) | (with_reducible show wpList _ _ _ ({ dst := some 22, op := Op.binOp BinOp.eql 25 _ _ 25, type := _, pos := _, after := _, guard := _ } :: _) _ _; (refine wpList_val rfl (.bool ((Req.mk zH zI zJ zK zL zM zN).no)) (run_eql _ _ _ 25 _ _ rfl _ _ _ rfl rfl gd_req (eql_req _ _ _ _ _ _ _ _)) ?_)) | (with_reducible show wpList _ _ _ ({ dst := some 31, op := Op.binOp BinOp.eql 27 _ _ 27, type := _, pos := _, after := _, guard := _ } :: _) _ _; (refine wpList_val rfl (.bool ((Rep.mk zO zP zQ zR zS zT zU).no)) (run_eql _ _ _ 27 _ _ rfl _ _ _ rfl rfl gd_rep (eql_rep _ _ _ _ _ _ _ _)) ?_)) | (go_at_call 85; go_must (refine (ref_has [98, 118] _ _ (by decide) (by decide)).mono ?_; rintro e w1 ⟨rfl, he⟩; rw [he]; clear he w1)) | (go_at_call 88; go_must (refine (ref_command _ _ _ _ _ _ _ _ _ _ _ _ _ _ _ _ _ _ _ _ _ yL yM _ (hc1.later hT) (hc2.later hT) HWC.out).mono ?_; rintro e w1 ⟨rfl, hbel⟩; have hT := later_trans hT hbel; have hW := blk_later hbel hW; have hB := blk_cell hW)) | (go_at_call 89; go_must (refine (ref_norange _ _ _ _ _ _ _ _ _ _ _ yY yZ _).mono ?_; rintro e w1 ⟨rfl, hbel⟩; have hT := later_trans hT hbel; have hW := blk_later hbel hW; have hB := blk_cell hW)))
          all_goals go_ret
          all_goals refine ⟨ret_bool ?_, by assumption⟩
          all_goals (have hcb : zV = 0 → (Cmd.mk zV (Req.mk zA zB zC zD zE zF zG) (Rng.mk yA yB yC yD yE ⟨yF, yG, yH⟩ ⟨yI, yJ, yK⟩ yL yM) zW zX).ok = (Cmd.mk zV (Req.mk zA zB zC zD zE zF zG) (Rng.mk yA yB yC yD yE ⟨yF, yG, yH⟩ ⟨yI, yJ, yK⟩ yL yM) zW zX).bare := fun e => (by subst e; simp [Cmd.ok, Cmd.bare, Bool.and_assoc]))
          all_goals clear hT hW hB hne hmn hv hc1 hc2 _hr1 _hr2 HWC HWV HL
          all_goals simp_all [Msg.ok]
          all_goals (intro e; subst e; simp_all)

end Go.Proofs.Ytignemioillaiaa

namespace Go.Proofs.Ytignemioillaiaa
open Go.RowKit

set_option maxHeartbeats 1000000 in
set_option maxRecDepth 100000 in
theorem ref_message_e (zY : Int) (zH zI zJ zK zL zM zN : Int) (zO zP zQ zR : Int) (zS : Bool) (zT zU : Int) (mn zZ jA : Int) (zV : Int) (zA zB zC zD zE zF zG : Int) (yA yB yC yD yE : Int) (yF : Option Addr) (yG yH : Nat) (yI : Option Addr) (yJ yK : Nat) (zW zX : Int) (jE : Option Addr) (jF jG : Nat) (yN yO yP yQ yR : Int) (yS : Option Addr) (yT yU : Nat) (yV : Option Addr) (yW yX : Nat) (jB jC : Int) (yL yY : List Row) (yM yZ : List Rep) (jD : List Vot) (w : World) (h : (zY == 0) = true ∨ 10 < zY) :
    Calls Try.prog 35 #[.agg (List.toArray (rM zY zH zI zJ zK zL zM zN zO zP zQ zR zS zT zU mn zZ jA zV zA zB zC zD zE zF zG yA yB yC yD yE yF yG yH yI yJ yK zW zX jE jF jG yN yO yP yQ yR yS yT yU yV yW yX jB jC))] w fun e w' => e = .returned (.bool (Msg.mk zY (Req.mk zH zI zJ zK zL zM zN) (Rep.mk zO zP zQ zR zS zT zU) mn zZ jA (Cmd.mk zV (Req.mk zA zB zC zD zE zF zG) (Rng.mk yA yB yC yD yE ⟨yF, yG, yH⟩ ⟨yI, yJ, yK⟩ yL yM) zW zX) ⟨jE, jF, jG⟩ (Rng.mk yN yO yP yQ yR ⟨yS, yT, yU⟩ ⟨yV, yW, yX⟩ yY yZ) jB jC jD).ok) ∧ Below w.heap.size w w' := by
  have hz : zY = 0 ∨ 10 < zY := by
    rcases h with h | h
    · exact .inl (by simpa using h)
    · exact .inr h
  have hno : (Msg.mk zY (Req.mk zH zI zJ zK zL zM zN) (Rep.mk zO zP zQ zR zS zT zU) mn zZ jA (Cmd.mk zV (Req.mk zA zB zC zD zE zF zG) (Rng.mk yA yB yC yD yE ⟨yF, yG, yH⟩ ⟨yI, yJ, yK⟩ yL yM) zW zX) ⟨jE, jF, jG⟩ (Rng.mk yN yO yP yQ yR ⟨yS, yT, yU⟩ ⟨yV, yW, yX⟩ yY yZ) jB jC jD).ok = false := by
    have h1 : (zY == 1) = false := by simp; omega
    have h2 : (zY == 2) = false := by simp; omega
    have h3 : (zY == 3) = false := by simp; omega
    have h4 : (zY == 4) = false := by simp; omega
    have h5 : (zY == 5) = false := by simp; omega
    have h6 : (zY == 6) = false := by simp; omega
    have h7 : (zY == 7) = false := by simp; omega
    have h8 : (zY == 8) = false := by simp; omega
    have h9 : (zY == 9) = false := by simp; omega
    have h10 : (zY == 10) = false := by simp; omega
    simp [Msg.ok, h1, h2, h3, h4, h5, h6, h7, h8, h9, h10]
  rw [hno]
  have hT := later_alloc w (.cells (List.toArray (rM zY zH zI zJ zK zL zM zN zO zP zQ zR zS zT zU mn zZ jA zV zA zB zC zD zE zF zG yA yB yC yD yE yF yG yH yI yJ yK zW zX jE jF jG yN yO yP yQ yR yS yT yU yV yW yX jB jC)) 38)
  go_enter Try.func35, Try.ntmps35
  go_wp2_with (go_at_call 36; go_must (refine (ref_letters_e _ _ h).mono ?_; rintro e w1 ⟨rfl, hbel⟩))
  go_ret
  exact ⟨rfl, later_trans hT hbel⟩

set_option maxHeartbeats 1000000 in
set_option maxRecDepth 100000 in
theorem ref_message_r (zY : Int) (zH zI zJ zK zL zM zN : Int) (zO zP zQ zR : Int) (zS : Bool) (zT zU : Int) (mn zZ jA : Int) (zV : Int) (zA zB zC zD zE zF zG : Int) (yA yB yC yD yE : Int) (yF : Option Addr) (yG yH : Nat) (yI : Option Addr) (yJ yK : Nat) (zW zX : Int) (jE : Option Addr) (jF jG : Nat) (yN yO yP yQ yR : Int) (yS : Option Addr) (yT yU : Nat) (yV : Option Addr) (yW yX : Nat) (jB jC : Int) (yL yY : List Row) (yM yZ : List Rep) (jD : List Vot) (w : World) (hv : VotesIn w.heap.size w ⟨jE, jF, jG⟩ jD) (hc1 : SlIn w.heap.size w ⟨yF, yG, yH⟩ 2 (yL.map Row.cells)) (hc2 : SlIn w.heap.size w ⟨yI, yJ, yK⟩ 7 (yM.map Rep.cells)) (hr1 : SlIn w.heap.size w ⟨yS, yT, yU⟩ 2 (yY.map Row.cells)) (hr2 : SlIn w.heap.size w ⟨yV, yW, yX⟩ 7 (yZ.map Rep.cells)) (hwf : (Msg.mk zY (Req.mk zH zI zJ zK zL zM zN) (Rep.mk zO zP zQ zR zS zT zU) mn zZ jA (Cmd.mk zV (Req.mk zA zB zC zD zE zF zG) (Rng.mk yA yB yC yD yE ⟨yF, yG, yH⟩ ⟨yI, yJ, yK⟩ yL yM) zW zX) ⟨jE, jF, jG⟩ (Rng.mk yN yO yP yQ yR ⟨yS, yT, yU⟩ ⟨yV, yW, yX⟩ yY yZ) jB jC jD).wf) (h4 : zY = 4 ∨ jF = 0) :
    Calls Try.prog 35 #[.agg (List.toArray (rM zY zH zI zJ zK zL zM zN zO zP zQ zR zS zT zU mn zZ jA zV zA zB zC zD zE zF zG yA yB yC yD yE yF yG yH yI yJ yK zW zX jE jF jG yN yO yP yQ yR yS yT yU yV yW yX jB jC))] w fun e w' => e = .returned (.bool (Msg.mk zY (Req.mk zH zI zJ zK zL zM zN) (Rep.mk zO zP zQ zR zS zT zU) mn zZ jA (Cmd.mk zV (Req.mk zA zB zC zD zE zF zG) (Rng.mk yA yB yC yD yE ⟨yF, yG, yH⟩ ⟨yI, yJ, yK⟩ yL yM) zW zX) ⟨jE, jF, jG⟩ (Rng.mk yN yO yP yQ yR ⟨yS, yT, yU⟩ ⟨yV, yW, yX⟩ yY yZ) jB jC jD).ok) ∧ Below w.heap.size w w' := by
  by_cases k1 : zY = 1
  · have h0 : jF = 0 := by omega
    apply ref_message_1z <;> assumption
  by_cases k2 : zY = 2
  · have h0 : jF = 0 := by omega
    apply ref_message_2z <;> assumption
  by_cases k3 : zY = 3
  · have h0 : jF = 0 := by omega
    apply ref_message_3z <;> assumption
  by_cases k4 : zY = 4
  · by_cases h0 : jF ≤ 255
    · apply ref_message_4l <;> assumption
    · have h0' : 255 < jF := by omega
      apply ref_message_4g <;> assumption
  by_cases k5 : zY = 5
  · have h0 : jF = 0 := by omega
    apply ref_message_5z <;> assumption
  by_cases k6 : zY = 6
  · have h0 : jF = 0 := by omega
    apply ref_message_6z <;> assumption
  by_cases k7 : zY = 7
  · have h0 : jF = 0 := by omega
    apply ref_message_7z <;> assumption
  by_cases k8 : zY = 8
  · have h0 : jF = 0 := by omega
    apply ref_message_8z <;> assumption
  by_cases k9 : zY = 9
  · have h0 : jF = 0 := by omega
    apply ref_message_9z <;> assumption
  by_cases k10 : zY = 10
  · have h0 : jF = 0 := by omega
    apply ref_message_10z <;> assumption
  have hkd := hwf.kind
  simp only [U8] at hkd
  have h9 : (zY == 0) = true ∨ 10 < zY := by
    by_cases h0 : zY = 0
    · exact .inl (by simp [h0])
    · exact .inr (by omega)
  apply ref_message_e
  exact h9

end Go.Proofs.Ytignemioillaiaa

