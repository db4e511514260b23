/- The document's answer: when a message is right. -/
import Derived.Test.YtignemioillaiaaD4
import Derived.Test.YtignemioillaiaaC9
import Derived.Test.YtignemioillaiaaC6
namespace Go.Proofs.Ytignemioillaiaa
open Go.RowKit

theorem bstr_ne (l : List Int) (h : 0 < l.length) : (bstr l).toList.isEmpty = false := by
  rw [ByteArray.toList_eq, bstr_data]
  cases l with
  | nil => simp at h
  | cons a b => simp

set_option maxHeartbeats 1000000 in
set_option maxRecDepth 100000 in
theorem ref_message_1z (zY : Int) (zH zI zJ zK zL zM zN : Int) (zO zP zQ zR : Int) (zS : Bool) (zT zU : Int) (mn zZ jA : Int) (zV : Int) (zA zB zC zD zE zF zG : Int) (yA yB yC yD yE : Int) (yF : Option Addr) (yG yH : Nat) (yI : Option Addr) (yJ yK : Nat) (zW zX : Int) (jE : Option Addr) (jF jG : Nat) (yN yO yP yQ yR : Int) (yS : Option Addr) (yT yU : Nat) (yV : Option Addr) (yW yX : Nat) (jB jC : Int) (yL yY : List Row) (yM yZ : List Rep) (jD : List Vot) (w : World) (hv : VotesIn w.heap.size w ⟨jE, jF, jG⟩ jD) (hc1 : SlIn w.heap.size w ⟨yF, yG, yH⟩ 2 (yL.map Row.cells)) (hc2 : SlIn w.heap.size w ⟨yI, yJ, yK⟩ 7 (yM.map Rep.cells)) (_hr1 : SlIn w.heap.size w ⟨yS, yT, yU⟩ 2 (yY.map Row.cells)) (_hr2 : SlIn w.heap.size w ⟨yV, yW, yX⟩ 7 (yZ.map Rep.cells)) (hwf : (Msg.mk zY (Req.mk zH zI zJ zK zL zM zN) (Rep.mk zO zP zQ zR zS zT zU) mn zZ jA (Cmd.mk zV (Req.mk zA zB zC zD zE zF zG) (Rng.mk yA yB yC yD yE ⟨yF, yG, yH⟩ ⟨yI, yJ, yK⟩ yL yM) zW zX) ⟨jE, jF, jG⟩ (Rng.mk yN yO yP yQ yR ⟨yS, yT, yU⟩ ⟨yV, yW, yX⟩ yY yZ) jB jC jD).wf) (hk : zY = 1) (hv0 : jF = 0) :
    Calls Try.prog 35 #[.agg (List.toArray (rM zY zH zI zJ zK zL zM zN zO zP zQ zR zS zT zU mn zZ jA zV zA zB zC zD zE zF zG yA yB yC yD yE yF yG yH yI yJ yK zW zX jE jF jG yN yO yP yQ yR yS yT yU yV yW yX jB jC))] w fun e w' => e = .returned (.bool (Msg.mk zY (Req.mk zH zI zJ zK zL zM zN) (Rep.mk zO zP zQ zR zS zT zU) mn zZ jA (Cmd.mk zV (Req.mk zA zB zC zD zE zF zG) (Rng.mk yA yB yC yD yE ⟨yF, yG, yH⟩ ⟨yI, yJ, yK⟩ yL yM) zW zX) ⟨jE, jF, jG⟩ (Rng.mk yN yO yP yQ yR ⟨yS, yT, yU⟩ ⟨yV, yW, yX⟩ yY yZ) jB jC jD).ok) ∧ Below w.heap.size w w' := by
  subst hk
  have hqs := hwf.req.s
  have hps := hwf.rep.s
  have hpk := hwf.rep.k
  have HWC : Hid (Cmd.mk zV (Req.mk zA zB zC zD zE zF zG) (Rng.mk yA yB yC yD yE ⟨yF, yG, yH⟩ ⟨yI, yJ, yK⟩ yL yM) zW zX).wf := hwf.cmd
  have HWR : Hid (Rng.mk yN yO yP yQ yR ⟨yS, yT, yU⟩ ⟨yV, yW, yX⟩ yY yZ).wf := hwf.rng
  simp only [U8, U32] at hqs hps hpk
  clear hwf
  have ha113 : among [113] 113 = true := by decide
  have ha114 : among [113] 114 = false := by decide
  have ha98 : among [113] 98 = false := by decide
  have ha115 : among [113] 115 = false := by decide
  have ha99 : among [113] 99 = false := by decide
  have ha118 : among [113] 118 = false := by decide
  have ha109 : among [113] 109 = false := by decide
  have ha112 : among [113] 112 = false := by decide
  have hne : (bstr [113]).toList.isEmpty = false := bstr_ne _ (by decide)
  have hmn : jF ≤ maxLen := Nat.le_trans hv.sl.le hv.sl.max
  unfold maxLen at hmn
  have hT := later_alloc w (.cells (List.toArray (rM 1 zH zI zJ zK zL zM zN zO zP zQ zR zS zT zU mn zZ jA zV zA zB zC zD zE zF zG yA yB yC yD yE yF yG yH yI yJ yK zW zX jE jF jG yN yO yP yQ yR yS yT yU yV yW yX jB jC)) 38)
  have hW := heap_alloc_new w (.cells (List.toArray (rM 1 zH zI zJ zK zL zM zN zO zP zQ zR zS zT zU mn zZ jA zV zA zB zC zD zE zF zG yA yB yC yD yE yF yG yH yI yJ yK zW zX jE jF jG yN yO yP yQ yR yS yT yU yV yW yX jB jC)) 38)
  subst hv0
  go_enter Try.func35, Try.ntmps35
  go_wp2_with (first | (go_at_call 36; go_must (refine (ref_letters_1 _).mono ?_; rintro e w1 ⟨rfl, hbel⟩; have hT := later_trans hT hbel; have hW := blk_later hbel hW; have hB := blk_cell hW)) | (with_reducible show wpList _ _ _ ({ dst := some 20, op := Op.load 25 _, type := _, pos := _, after := _, guard := _ } :: _) _ _; (refine wpList_load_blk rfl _ _ rfl w.heap.size 1 rfl 7 _ Try.underlying25 rfl sz_req _ _ (by assumption) rfl (rQ zH zI zJ zK zL zM zN) rfl ?_)) | (with_reducible show wpList _ _ _ ({ dst := some 26, op := Op.load 25 _, type := _, pos := _, after := _, guard := _ } :: _) _ _; (refine wpList_load_blk rfl _ _ rfl w.heap.size 1 rfl 7 _ Try.underlying25 rfl sz_req _ _ (by assumption) rfl (rQ zH zI zJ zK zL zM zN) rfl ?_)) | (with_reducible show wpList _ _ _ ({ dst := some 29, op := Op.load 27 _, type := _, pos := _, after := _, guard := _ } :: _) _ _; (refine wpList_load_blk rfl _ _ rfl w.heap.size 8 rfl 7 _ Try.underlying27 rfl sz_rep _ _ (by assumption) rfl (rP zO zP zQ zR zS zT zU) rfl ?_)) | (with_reducible show wpList _ _ _ ({ dst := some 35, op := Op.load 27 _, type := _, pos := _, after := _, guard := _ } :: _) _ _; (refine wpList_load_blk rfl _ _ rfl w.heap.size 8 rfl 7 _ Try.underlying27 rfl sz_rep _ _ (by assumption) rfl (rP zO zP zQ zR zS zT zU) rfl ?_)) | (with_reducible show wpList _ _ _ ({ dst := some 41, op := Op.load 29 _, type := _, pos := _, after := _, guard := _ } :: _) _ _; (refine wpList_load_blk rfl _ _ rfl w.heap.size 15 rfl 2 _ Try.underlying29 rfl sz_bal _ _ (by assumption) rfl [.int .u32 mn, .int .u8 zZ] rfl ?_)) | (with_reducible show wpList _ _ _ ({ dst := some 53, op := Op.load 35 _, type := _, pos := _, after := _, guard := _ } :: _) _ _; (refine wpList_load_blk rfl _ _ rfl w.heap.size 18 rfl 17 _ Try.underlying35 rfl sz_cmd _ _ (by assumption) rfl (rC zV zA zB zC zD zE zF zG yA yB yC yD yE yF yG yH yI yJ yK zW zX) rfl ?_)) | (with_reducible show wpList _ _ _ ({ dst := some 22, op := Op.binOp BinOp.eql 25 _ _ 25, type := _, pos := _, after := _, guard := _ } :: _) _ _; (refine wpList_val rfl (.bool ((Req.mk zH zI zJ zK zL zM zN).no)) (run_eql _ _ _ 25 _ _ rfl _ _ _ rfl rfl gd_req (eql_req _ _ _ _ _ _ _ _)) ?_)) | (with_reducible show wpList _ _ _ ({ dst := some 31, op := Op.binOp BinOp.eql 27 _ _ 27, type := _, pos := _, after := _, guard := _ } :: _) _ _; (refine wpList_val rfl (.bool ((Rep.mk zO zP zQ zR zS zT zU).no)) (run_eql _ _ _ 27 _ _ rfl _ _ _ rfl rfl gd_rep (eql_rep _ _ _ _ _ _ _ _)) ?_)) | (with_reducible show wpList _ _ _ ({ dst := some 43, op := Op.binOp BinOp.eql 29 _ _ 29, type := _, pos := _, after := _, guard := _ } :: _) _ _; (refine wpList_val rfl (.bool (mn == 0 && zZ == 0)) (run_eql _ _ _ 29 _ _ rfl _ _ _ rfl rfl gd_bal (eql_bal _ _ _)) ?_)) | (go_at_call 85; go_must (refine (ref_has [113] _ _ (by decide) (by decide)).mono ?_; rintro e w1 ⟨rfl, rfl⟩)) | (go_at_call 86; go_must (refine (ref_request _ _ _ _ _ _ _ _ (by omega)).mono ?_; rintro e w1 ⟨rfl, hbel⟩; have hT := later_trans hT hbel; have hW := blk_later hbel hW; have hB := blk_cell hW)) | (go_at_call 87; go_must (refine (ref_reply _ _ _ _ _ _ _ _ (by omega) (by omega)).mono ?_; rintro e w1 ⟨rfl, hbel⟩; have hT := later_trans hT hbel; have hW := blk_later hbel hW; have hB := blk_cell hW)) | (go_at_call 88; go_must (refine (ref_command _ _ _ _ _ _ _ _ _ _ _ _ _ _ _ _ _ _ _ _ _ yL yM _ (hc1.later hT) (hc2.later hT) HWC.out).mono ?_; rintro e w1 ⟨rfl, hbel⟩; have hT := later_trans hT hbel; have hW := blk_later hbel hW; have hB := blk_cell hW)))
  all_goals (refine wp_loop_rounds 1 ?_; rw [rounds_succ])
  all_goals go_wp2_with (first | (with_reducible show wpList _ _ _ ({ dst := some 118, op := Op.load 33 _, type := _, pos := _, after := _, guard := _ } :: _) _ _; (refine wpList_load_blk rfl _ _ rfl w.heap.size 36 rfl 7 _ Try.underlying33 rfl sz_rng _ _ (by assumption) rfl (rR yN yO yP yQ yR yS yT yU yV yW yX) rfl ?_)) | (go_at_call 85; go_must (refine (ref_has [113] _ _ (by decide) (by decide)).mono ?_; rintro e w1 ⟨rfl, rfl⟩)) | (go_at_call 89; go_must (refine (ref_norange _ _ _ _ _ _ _ _ _ _ _ yY yZ _).mono ?_; rintro e w1 ⟨rfl, hbel⟩; have hT := later_trans hT hbel; have hW := blk_later hbel hW; have hB := blk_cell hW)))
  all_goals go_ret
  all_goals refine ⟨ret_bool ?_, by assumption⟩
  all_goals clear hT hW hne hmn hv hc1 hc2 _hr1 _hr2 HWC HWR
  all_goals (have hcb : zV = 0 → (Cmd.mk zV (Req.mk zA zB zC zD zE zF zG) (Rng.mk yA yB yC yD yE ⟨yF, yG, yH⟩ ⟨yI, yJ, yK⟩ yL yM) zW zX).ok = (Cmd.mk zV (Req.mk zA zB zC zD zE zF zG) (Rng.mk yA yB yC yD yE ⟨yF, yG, yH⟩ ⟨yI, yJ, yK⟩ yL yM) zW zX).bare := fun e => (by subst e; simp [Cmd.ok, Cmd.bare, Bool.and_assoc]))
  all_goals simp_all [Msg.ok]
  all_goals (intro e; subst e; simp_all)

set_option maxHeartbeats 1000000 in
set_option maxRecDepth 100000 in
theorem ref_message_2z (zY : Int) (zH zI zJ zK zL zM zN : Int) (zO zP zQ zR : Int) (zS : Bool) (zT zU : Int) (mn zZ jA : Int) (zV : Int) (zA zB zC zD zE zF zG : Int) (yA yB yC yD yE : Int) (yF : Option Addr) (yG yH : Nat) (yI : Option Addr) (yJ yK : Nat) (zW zX : Int) (jE : Option Addr) (jF jG : Nat) (yN yO yP yQ yR : Int) (yS : Option Addr) (yT yU : Nat) (yV : Option Addr) (yW yX : Nat) (jB jC : Int) (yL yY : List Row) (yM yZ : List Rep) (jD : List Vot) (w : World) (hv : VotesIn w.heap.size w ⟨jE, jF, jG⟩ jD) (hc1 : SlIn w.heap.size w ⟨yF, yG, yH⟩ 2 (yL.map Row.cells)) (hc2 : SlIn w.heap.size w ⟨yI, yJ, yK⟩ 7 (yM.map Rep.cells)) (_hr1 : SlIn w.heap.size w ⟨yS, yT, yU⟩ 2 (yY.map Row.cells)) (_hr2 : SlIn w.heap.size w ⟨yV, yW, yX⟩ 7 (yZ.map Rep.cells)) (hwf : (Msg.mk zY (Req.mk zH zI zJ zK zL zM zN) (Rep.mk zO zP zQ zR zS zT zU) mn zZ jA (Cmd.mk zV (Req.mk zA zB zC zD zE zF zG) (Rng.mk yA yB yC yD yE ⟨yF, yG, yH⟩ ⟨yI, yJ, yK⟩ yL yM) zW zX) ⟨jE, jF, jG⟩ (Rng.mk yN yO yP yQ yR ⟨yS, yT, yU⟩ ⟨yV, yW, yX⟩ yY yZ) jB jC jD).wf) (hk : zY = 2) (hv0 : jF = 0) :
    Calls Try.prog 35 #[.agg (List.toArray (rM zY zH zI zJ zK zL zM zN zO zP zQ zR zS zT zU mn zZ jA zV zA zB zC zD zE zF zG yA yB yC yD yE yF yG yH yI yJ yK zW zX jE jF jG yN yO yP yQ yR yS yT yU yV yW yX jB jC))] w fun e w' => e = .returned (.bool (Msg.mk zY (Req.mk zH zI zJ zK zL zM zN) (Rep.mk zO zP zQ zR zS zT zU) mn zZ jA (Cmd.mk zV (Req.mk zA zB zC zD zE zF zG) (Rng.mk yA yB yC yD yE ⟨yF, yG, yH⟩ ⟨yI, yJ, yK⟩ yL yM) zW zX) ⟨jE, jF, jG⟩ (Rng.mk yN yO yP yQ yR ⟨yS, yT, yU⟩ ⟨yV, yW, yX⟩ yY yZ) jB jC jD).ok) ∧ Below w.heap.size w w' := by
  subst hk
  have hqs := hwf.req.s
  have hps := hwf.rep.s
  have hpk := hwf.rep.k
  have HWC : Hid (Cmd.mk zV (Req.mk zA zB zC zD zE zF zG) (Rng.mk yA yB yC yD yE ⟨yF, yG, yH⟩ ⟨yI, yJ, yK⟩ yL yM) zW zX).wf := hwf.cmd
  have HWR : Hid (Rng.mk yN yO yP yQ yR ⟨yS, yT, yU⟩ ⟨yV, yW, yX⟩ yY yZ).wf := hwf.rng
  simp only [U8, U32] at hqs hps hpk
  clear hwf
  have ha113 : among [114] 113 = false := by decide
  have ha114 : among [114] 114 = true := by decide
  have ha98 : among [114] 98 = false := by decide
  have ha115 : among [114] 115 = false := by decide
  have ha99 : among [114] 99 = false := by decide
  have ha118 : among [114] 118 = false := by decide
  have ha109 : among [114] 109 = false := by decide
  have ha112 : among [114] 112 = false := by decide
  have hne : (bstr [114]).toList.isEmpty = false := bstr_ne _ (by decide)
  have hmn : jF ≤ maxLen := Nat.le_trans hv.sl.le hv.sl.max
  unfold maxLen at hmn
  have hT := later_alloc w (.cells (List.toArray (rM 2 zH zI zJ zK zL zM zN zO zP zQ zR zS zT zU mn zZ jA zV zA zB zC zD zE zF zG yA yB yC yD yE yF yG yH yI yJ yK zW zX jE jF jG yN yO yP yQ yR yS yT yU yV yW yX jB jC)) 38)
  have hW := heap_alloc_new w (.cells (List.toArray (rM 2 zH zI zJ zK zL zM zN zO zP zQ zR zS zT zU mn zZ jA zV zA zB zC zD zE zF zG yA yB yC yD yE yF yG yH yI yJ yK zW zX jE jF jG yN yO yP yQ yR yS yT yU yV yW yX jB jC)) 38)
  subst hv0
  go_enter Try.func35, Try.ntmps35
  go_wp2_with (first | (go_at_call 36; go_must (refine (ref_letters_2 _).mono ?_; rintro e w1 ⟨rfl, hbel⟩; have hT := later_trans hT hbel; have hW := blk_later hbel hW; have hB := blk_cell hW)) | (with_reducible show wpList _ _ _ ({ dst := some 20, op := Op.load 25 _, type := _, pos := _, after := _, guard := _ } :: _) _ _; (refine wpList_load_blk rfl _ _ rfl w.heap.size 1 rfl 7 _ Try.underlying25 rfl sz_req _ _ (by assumption) rfl (rQ zH zI zJ zK zL zM zN) rfl ?_)) | (with_reducible show wpList _ _ _ ({ dst := some 26, op := Op.load 25 _, type := _, pos := _, after := _, guard := _ } :: _) _ _; (refine wpList_load_blk rfl _ _ rfl w.heap.size 1 rfl 7 _ Try.underlying25 rfl sz_req _ _ (by assumption) rfl (rQ zH zI zJ zK zL zM zN) rfl ?_)) | (with_reducible show wpList _ _ _ ({ dst := some 29, op := Op.load 27 _, type := _, pos := _, after := _, guard := _ } :: _) _ _; (refine wpList_load_blk rfl _ _ rfl w.heap.size 8 rfl 7 _ Try.underlying27 rfl sz_rep _ _ (by assumption) rfl (rP zO zP zQ zR zS zT zU) rfl ?_)) | (with_reducible show wpList _ _ _ ({ dst := some 35, op := Op.load 27 _, type := _, pos := _, after := _, guard := _ } :: _) _ _; (refine wpList_load_blk rfl _ _ rfl w.heap.size 8 rfl 7 _ Try.underlying27 rfl sz_rep _ _ (by assumption) rfl (rP zO zP zQ zR zS zT zU) rfl ?_)) | (with_reducible show wpList _ _ _ ({ dst := some 41, op := Op.load 29 _, type := _, pos := _, after := _, guard := _ } :: _) _ _; (refine wpList_load_blk rfl _ _ rfl w.heap.size 15 rfl 2 _ Try.underlying29 rfl sz_bal _ _ (by assumption) rfl [.int .u32 mn, .int .u8 zZ] rfl ?_)) | (with_reducible show wpList _ _ _ ({ dst := some 53, op := Op.load 35 _, type := _, pos := _, after := _, guard := _ } :: _) _ _; (refine wpList_load_blk rfl _ _ rfl w.heap.size 18 rfl 17 _ Try.underlying35 rfl sz_cmd _ _ (by assumption) rfl (rC zV zA zB zC zD zE zF zG yA yB yC yD yE yF yG yH yI yJ yK zW zX) rfl ?_)) | (with_reducible show wpList _ _ _ ({ dst := some 22, op := Op.binOp BinOp.eql 25 _ _ 25, type := _, pos := _, after := _, guard := _ } :: _) _ _; (refine wpList_val rfl (.bool ((Req.mk zH zI zJ zK zL zM zN).no)) (run_eql _ _ _ 25 _ _ rfl _ _ _ rfl rfl gd_req (eql_req _ _ _ _ _ _ _ _)) ?_)) | (with_reducible show wpList _ _ _ ({ dst := some 31, op := Op.binOp BinOp.eql 27 _ _ 27, type := _, pos := _, after := _, guard := _ } :: _) _ _; (refine wpList_val rfl (.bool ((Rep.mk zO zP zQ zR zS zT zU).no)) (run_eql _ _ _ 27 _ _ rfl _ _ _ rfl rfl gd_rep (eql_rep _ _ _ _ _ _ _ _)) ?_)) | (with_reducible show wpList _ _ _ ({ dst := some 43, op := Op.binOp BinOp.eql 29 _ _ 29, type := _, pos := _, after := _, guard := _ } :: _) _ _; (refine wpList_val rfl (.bool (mn == 0 && zZ == 0)) (run_eql _ _ _ 29 _ _ rfl _ _ _ rfl rfl gd_bal (eql_bal _ _ _)) ?_)) | (go_at_call 85; go_must (refine (ref_has [114] _ _ (by decide) (by decide)).mono ?_; rintro e w1 ⟨rfl, rfl⟩)) | (go_at_call 86; go_must (refine (ref_request _ _ _ _ _ _ _ _ (by omega)).mono ?_; rintro e w1 ⟨rfl, hbel⟩; have hT := later_trans hT hbel; have hW := blk_later hbel hW; have hB := blk_cell hW)) | (go_at_call 87; go_must (refine (ref_reply _ _ _ _ _ _ _ _ (by omega) (by omega)).mono ?_; rintro e w1 ⟨rfl, hbel⟩; have hT := later_trans hT hbel; have hW := blk_later hbel hW; have hB := blk_cell hW)) | (go_at_call 88; go_must (refine (ref_command _ _ _ _ _ _ _ _ _ _ _ _ _ _ _ _ _ _ _ _ _ yL yM _ (hc1.later hT) (hc2.later hT) HWC.out).mono ?_; rintro e w1 ⟨rfl, hbel⟩; have hT := later_trans hT hbel; have hW := blk_later hbel hW; have hB := blk_cell hW)))
  all_goals (refine wp_loop_rounds 1 ?_; rw [rounds_succ])
  all_goals go_wp2_with (first | (with_reducible show wpList _ _ _ ({ dst := some 118, op := Op.load 33 _, type := _, pos := _, after := _, guard := _ } :: _) _ _; (refine wpList_load_blk rfl _ _ rfl w.heap.size 36 rfl 7 _ Try.underlying33 rfl sz_rng _ _ (by assumption) rfl (rR yN yO yP yQ yR yS yT yU yV yW yX) rfl ?_)) | (go_at_call 85; go_must (refine (ref_has [114] _ _ (by decide) (by decide)).mono ?_; rintro e w1 ⟨rfl, rfl⟩)) | (go_at_call 89; go_must (refine (ref_norange _ _ _ _ _ _ _ _ _ _ _ yY yZ _).mono ?_; rintro e w1 ⟨rfl, hbel⟩; have hT := later_trans hT hbel; have hW := blk_later hbel hW; have hB := blk_cell hW)))
  all_goals go_ret
  all_goals refine ⟨ret_bool ?_, by assumption⟩
  all_goals clear hT hW hne hmn hv hc1 hc2 _hr1 _hr2 HWC HWR
  all_goals (have hcb : zV = 0 → (Cmd.mk zV (Req.mk zA zB zC zD zE zF zG) (Rng.mk yA yB yC yD yE ⟨yF, yG, yH⟩ ⟨yI, yJ, yK⟩ yL yM) zW zX).ok = (Cmd.mk zV (Req.mk zA zB zC zD zE zF zG) (Rng.mk yA yB yC yD yE ⟨yF, yG, yH⟩ ⟨yI, yJ, yK⟩ yL yM) zW zX).bare := fun e => (by subst e; simp [Cmd.ok, Cmd.bare, Bool.and_assoc]))
  all_goals simp_all [Msg.ok]
  all_goals (intro e; subst e; simp_all)

set_option maxHeartbeats 1000000 in
set_option maxRecDepth 100000 in
theorem ref_message_3z (zY : Int) (zH zI zJ zK zL zM zN : Int) (zO zP zQ zR : Int) (zS : Bool) (zT zU : Int) (mn zZ jA : Int) (zV : Int) (zA zB zC zD zE zF zG : Int) (yA yB yC yD yE : Int) (yF : Option Addr) (yG yH : Nat) (yI : Option Addr) (yJ yK : Nat) (zW zX : Int) (jE : Option Addr) (jF jG : Nat) (yN yO yP yQ yR : Int) (yS : Option Addr) (yT yU : Nat) (yV : Option Addr) (yW yX : Nat) (jB jC : Int) (yL yY : List Row) (yM yZ : List Rep) (jD : List Vot) (w : World) (hv : VotesIn w.heap.size w ⟨jE, jF, jG⟩ jD) (hc1 : SlIn w.heap.size w ⟨yF, yG, yH⟩ 2 (yL.map Row.cells)) (hc2 : SlIn w.heap.size w ⟨yI, yJ, yK⟩ 7 (yM.map Rep.cells)) (_hr1 : SlIn w.heap.size w ⟨yS, yT, yU⟩ 2 (yY.map Row.cells)) (_hr2 : SlIn w.heap.size w ⟨yV, yW, yX⟩ 7 (yZ.map Rep.cells)) (hwf : (Msg.mk zY (Req.mk zH zI zJ zK zL zM zN) (Rep.mk zO zP zQ zR zS zT zU) mn zZ jA (Cmd.mk zV (Req.mk zA zB zC zD zE zF zG) (Rng.mk yA yB yC yD yE ⟨yF, yG, yH⟩ ⟨yI, yJ, yK⟩ yL yM) zW zX) ⟨jE, jF, jG⟩ (Rng.mk yN yO yP yQ yR ⟨yS, yT, yU⟩ ⟨yV, yW, yX⟩ yY yZ) jB jC jD).wf) (hk : zY = 3) (hv0 : jF = 0) :
    Calls Try.prog 35 #[.agg (List.toArray (rM zY zH zI zJ zK zL zM zN zO zP zQ zR zS zT zU mn zZ jA zV zA zB zC zD zE zF zG yA yB yC yD yE yF yG yH yI yJ yK zW zX jE jF jG yN yO yP yQ yR yS yT yU yV yW yX jB jC))] w fun e w' => e = .returned (.bool (Msg.mk zY (Req.mk zH zI zJ zK zL zM zN) (Rep.mk zO zP zQ zR zS zT zU) mn zZ jA (Cmd.mk zV (Req.mk zA zB zC zD zE zF zG) (Rng.mk yA yB yC yD yE ⟨yF, yG, yH⟩ ⟨yI, yJ, yK⟩ yL yM) zW zX) ⟨jE, jF, jG⟩ (Rng.mk yN yO yP yQ yR ⟨yS, yT, yU⟩ ⟨yV, yW, yX⟩ yY yZ) jB jC jD).ok) ∧ Below w.heap.size w w' := by
  subst hk
  have hqs := hwf.req.s
  have hps := hwf.rep.s
  have hpk := hwf.rep.k
  have HWC : Hid (Cmd.mk zV (Req.mk zA zB zC zD zE zF zG) (Rng.mk yA yB yC yD yE ⟨yF, yG, yH⟩ ⟨yI, yJ, yK⟩ yL yM) zW zX).wf := hwf.cmd
  have HWR : Hid (Rng.mk yN yO yP yQ yR ⟨yS, yT, yU⟩ ⟨yV, yW, yX⟩ yY yZ).wf := hwf.rng
  simp only [U8, U32] at hqs hps hpk
  clear hwf
  have ha113 : among [98] 113 = false := by decide
  have ha114 : among [98] 114 = false := by decide
  have ha98 : among [98] 98 = true := by decide
  have ha115 : among [98] 115 = false := by decide
  have ha99 : among [98] 99 = false := by decide
  have ha118 : among [98] 118 = false := by decide
  have ha109 : among [98] 109 = false := by decide
  have ha112 : among [98] 112 = false := by decide
  have hne : (bstr [98]).toList.isEmpty = false := bstr_ne _ (by decide)
  have hmn : jF ≤ maxLen := Nat.le_trans hv.sl.le hv.sl.max
  unfold maxLen at hmn
  have hT := later_alloc w (.cells (List.toArray (rM 3 zH zI zJ zK zL zM zN zO zP zQ zR zS zT zU mn zZ jA zV zA zB zC zD zE zF zG yA yB yC yD yE yF yG yH yI yJ yK zW zX jE jF jG yN yO yP yQ yR yS yT yU yV yW yX jB jC)) 38)
  have hW := heap_alloc_new w (.cells (List.toArray (rM 3 zH zI zJ zK zL zM zN zO zP zQ zR zS zT zU mn zZ jA zV zA zB zC zD zE zF zG yA yB yC yD yE yF yG yH yI yJ yK zW zX jE jF jG yN yO yP yQ yR yS yT yU yV yW yX jB jC)) 38)
  subst hv0
  go_enter Try.func35, Try.ntmps35
  go_wp2_with (first | (go_at_call 36; go_must (refine (ref_letters_3 _).mono ?_; rintro e w1 ⟨rfl, hbel⟩; have hT := later_trans hT hbel; have hW := blk_later hbel hW; have hB := blk_cell hW)) | (with_reducible show wpList _ _ _ ({ dst := some 20, op := Op.load 25 _, type := _, pos := _, after := _, guard := _ } :: _) _ _; (refine wpList_load_blk rfl _ _ rfl w.heap.size 1 rfl 7 _ Try.underlying25 rfl sz_req _ _ (by assumption) rfl (rQ zH zI zJ zK zL zM zN) rfl ?_)) | (with_reducible show wpList _ _ _ ({ dst := some 26, op := Op.load 25 _, type := _, pos := _, after := _, guard := _ } :: _) _ _; (refine wpList_load_blk rfl _ _ rfl w.heap.size 1 rfl 7 _ Try.underlying25 rfl sz_req _ _ (by assumption) rfl (rQ zH zI zJ zK zL zM zN) rfl ?_)) | (with_reducible show wpList _ _ _ ({ dst := some 29, op := Op.load 27 _, type := _, pos := _, after := _, guard := _ } :: _) _ _; (refine wpList_load_blk rfl _ _ rfl w.heap.size 8 rfl 7 _ Try.underlying27 rfl sz_rep _ _ (by assumption) rfl (rP zO zP zQ zR zS zT zU) rfl ?_)) | (with_reducible show wpList _ _ _ ({ dst := some 35, op := Op.load 27 _, type := _, pos := _, after := _, guard := _ } :: _) _ _; (refine wpList_load_blk rfl _ _ rfl w.heap.size 8 rfl 7 _ Try.underlying27 rfl sz_rep _ _ (by assumption) rfl (rP zO zP zQ zR zS zT zU) rfl ?_)) | (with_reducible show wpList _ _ _ ({ dst := some 41, op := Op.load 29 _, type := _, pos := _, after := _, guard := _ } :: _) _ _; (refine wpList_load_blk rfl _ _ rfl w.heap.size 15 rfl 2 _ Try.underlying29 rfl sz_bal _ _ (by assumption) rfl [.int .u32 mn, .int .u8 zZ] rfl ?_)) | (with_reducible show wpList _ _ _ ({ dst := some 53, op := Op.load 35 _, type := _, pos := _, after := _, guard := _ } :: _) _ _; (refine wpList_load_blk rfl _ _ rfl w.heap.size 18 rfl 17 _ Try.underlying35 rfl sz_cmd _ _ (by assumption) rfl (rC zV zA zB zC zD zE zF zG yA yB yC yD yE yF yG yH yI yJ yK zW zX) rfl ?_)) | (with_reducible show wpList _ _ _ ({ dst := some 22, op := Op.binOp BinOp.eql 25 _ _ 25, type := _, pos := _, after := _, guard := _ } :: _) _ _; (refine wpList_val rfl (.bool ((Req.mk zH zI zJ zK zL zM zN).no)) (run_eql _ _ _ 25 _ _ rfl _ _ _ rfl rfl gd_req (eql_req _ _ _ _ _ _ _ _)) ?_)) | (with_reducible show wpList _ _ _ ({ dst := some 31, op := Op.binOp BinOp.eql 27 _ _ 27, type := _, pos := _, after := _, guard := _ } :: _) _ _; (refine wpList_val rfl (.bool ((Rep.mk zO zP zQ zR zS zT zU).no)) (run_eql _ _ _ 27 _ _ rfl _ _ _ rfl rfl gd_rep (eql_rep _ _ _ _ _ _ _ _)) ?_)) | (with_reducible show wpList _ _ _ ({ dst := some 43, op := Op.binOp BinOp.eql 29 _ _ 29, type := _, pos := _, after := _, guard := _ } :: _) _ _; (refine wpList_val rfl (.bool (mn == 0 && zZ == 0)) (run_eql _ _ _ 29 _ _ rfl _ _ _ rfl rfl gd_bal (eql_bal _ _ _)) ?_)) | (go_at_call 85; go_must (refine (ref_has [98] _ _ (by decide) (by decide)).mono ?_; rintro e w1 ⟨rfl, rfl⟩)) | (go_at_call 86; go_must (refine (ref_request _ _ _ _ _ _ _ _ (by omega)).mono ?_; rintro e w1 ⟨rfl, hbel⟩; have hT := later_trans hT hbel; have hW := blk_later hbel hW; have hB := blk_cell hW)) | (go_at_call 87; go_must (refine (ref_reply _ _ _ _ _ _ _ _ (by omega) (by omega)).mono ?_; rintro e w1 ⟨rfl, hbel⟩; have hT := later_trans hT hbel; have hW := blk_later hbel hW; have hB := blk_cell hW)) | (go_at_call 88; go_must (refine (ref_command _ _ _ _ _ _ _ _ _ _ _ _ _ _ _ _ _ _ _ _ _ yL yM _ (hc1.later hT) (hc2.later hT) HWC.out).mono ?_; rintro e w1 ⟨rfl, hbel⟩; have hT := later_trans hT hbel; have hW := blk_later hbel hW; have hB := blk_cell hW)))
  all_goals (refine wp_loop_rounds 1 ?_; rw [rounds_succ])
  all_goals go_wp2_with (first | (with_reducible show wpList _ _ _ ({ dst := some 118, op := Op.load 33 _, type := _, pos := _, after := _, guard := _ } :: _) _ _; (refine wpList_load_blk rfl _ _ rfl w.heap.size 36 rfl 7 _ Try.underlying33 rfl sz_rng _ _ (by assumption) rfl (rR yN yO yP yQ yR yS yT yU yV yW yX) rfl ?_)) | (go_at_call 85; go_must (refine (ref_has [98] _ _ (by decide) (by decide)).mono ?_; rintro e w1 ⟨rfl, rfl⟩)) | (go_at_call 89; go_must (refine (ref_norange _ _ _ _ _ _ _ _ _ _ _ yY yZ _).mono ?_; rintro e w1 ⟨rfl, hbel⟩; have hT := later_trans hT hbel; have hW := blk_later hbel hW; have hB := blk_cell hW)))
  all_goals go_ret
  all_goals refine ⟨ret_bool ?_, by assumption⟩
  all_goals clear hT hW hne hmn hv hc1 hc2 _hr1 _hr2 HWC HWR
  all_goals (have hcb : zV = 0 → (Cmd.mk zV (Req.mk zA zB zC zD zE zF zG) (Rng.mk yA yB yC yD yE ⟨yF, yG, yH⟩ ⟨yI, yJ, yK⟩ yL yM) zW zX).ok = (Cmd.mk zV (Req.mk zA zB zC zD zE zF zG) (Rng.mk yA yB yC yD yE ⟨yF, yG, yH⟩ ⟨yI, yJ, yK⟩ yL yM) zW zX).bare := fun e => (by subst e; simp [Cmd.ok, Cmd.bare, Bool.and_assoc]))
  all_goals simp_all [Msg.ok]
  all_goals (intro e; subst e; simp_all)

set_option maxHeartbeats 1000000 in
set_option maxRecDepth 100000 in
theorem ref_message_5z (zY : Int) (zH zI zJ zK zL zM zN : Int) (zO zP zQ zR : Int) (zS : Bool) (zT zU : Int) (mn zZ jA : Int) (zV : Int) (zA zB zC zD zE zF zG : Int) (yA yB yC yD yE : Int) (yF : Option Addr) (yG yH : Nat) (yI : Option Addr) (yJ yK : Nat) (zW zX : Int) (jE : Option Addr) (jF jG : Nat) (yN yO yP yQ yR : Int) (yS : Option Addr) (yT yU : Nat) (yV : Option Addr) (yW yX : Nat) (jB jC : Int) (yL yY : List Row) (yM yZ : List Rep) (jD : List Vot) (w : World) (hv : VotesIn w.heap.size w ⟨jE, jF, jG⟩ jD) (hc1 : SlIn w.heap.size w ⟨yF, yG, yH⟩ 2 (yL.map Row.cells)) (hc2 : SlIn w.heap.size w ⟨yI, yJ, yK⟩ 7 (yM.map Rep.cells)) (_hr1 : SlIn w.heap.size w ⟨yS, yT, yU⟩ 2 (yY.map Row.cells)) (_hr2 : SlIn w.heap.size w ⟨yV, yW, yX⟩ 7 (yZ.map Rep.cells)) (hwf : (Msg.mk zY (Req.mk zH zI zJ zK zL zM zN) (Rep.mk zO zP zQ zR zS zT zU) mn zZ jA (Cmd.mk zV (Req.mk zA zB zC zD zE zF zG) (Rng.mk yA yB yC yD yE ⟨yF, yG, yH⟩ ⟨yI, yJ, yK⟩ yL yM) zW zX) ⟨jE, jF, jG⟩ (Rng.mk yN yO yP yQ yR ⟨yS, yT, yU⟩ ⟨yV, yW, yX⟩ yY yZ) jB jC jD).wf) (hk : zY = 5) (hv0 : jF = 0) :
    Calls Try.prog 35 #[.agg (List.toArray (rM zY zH zI zJ zK zL zM zN zO zP zQ zR zS zT zU mn zZ jA zV zA zB zC zD zE zF zG yA yB yC yD yE yF yG yH yI yJ yK zW zX jE jF jG yN yO yP yQ yR yS yT yU yV yW yX jB jC))] w fun e w' => e = .returned (.bool (Msg.mk zY (Req.mk zH zI zJ zK zL zM zN) (Rep.mk zO zP zQ zR zS zT zU) mn zZ jA (Cmd.mk zV (Req.mk zA zB zC zD zE zF zG) (Rng.mk yA yB yC yD yE ⟨yF, yG, yH⟩ ⟨yI, yJ, yK⟩ yL yM) zW zX) ⟨jE, jF, jG⟩ (Rng.mk yN yO yP yQ yR ⟨yS, yT, yU⟩ ⟨yV, yW, yX⟩ yY yZ) jB jC jD).ok) ∧ Below w.heap.size w w' := by
  subst hk
  have hqs := hwf.req.s
  have hps := hwf.rep.s
  have hpk := hwf.rep.k
  have HWC : Hid (Cmd.mk zV (Req.mk zA zB zC zD zE zF zG) (Rng.mk yA yB yC yD yE ⟨yF, yG, yH⟩ ⟨yI, yJ, yK⟩ yL yM) zW zX).wf := hwf.cmd
  have HWR : Hid (Rng.mk yN yO yP yQ yR ⟨yS, yT, yU⟩ ⟨yV, yW, yX⟩ yY yZ).wf := hwf.rng
  simp only [U8, U32] at hqs hps hpk
  clear hwf
  have ha113 : among [98] 113 = false := by decide
  have ha114 : among [98] 114 = false := by decide
  have ha98 : among [98] 98 = true := by decide
  have ha115 : among [98] 115 = false := by decide
  have ha99 : among [98] 99 = false := by decide
  have ha118 : among [98] 118 = false := by decide
  have ha109 : among [98] 109 = false := by decide
  have ha112 : among [98] 112 = false := by decide
  have hne : (bstr [98]).toList.isEmpty = false := bstr_ne _ (by decide)
  have hmn : jF ≤ maxLen := Nat.le_trans hv.sl.le hv.sl.max
  unfold maxLen at hmn
  have hT := later_alloc w (.cells (List.toArray (rM 5 zH zI zJ zK zL zM zN zO zP zQ zR zS zT zU mn zZ jA zV zA zB zC zD zE zF zG yA yB yC yD yE yF yG yH yI yJ yK zW zX jE jF jG yN yO yP yQ yR yS yT yU yV yW yX jB jC)) 38)
  have hW := heap_alloc_new w (.cells (List.toArray (rM 5 zH zI zJ zK zL zM zN zO zP zQ zR zS zT zU mn zZ jA zV zA zB zC zD zE zF zG yA yB yC yD yE yF yG yH yI yJ yK zW zX jE jF jG yN yO yP yQ yR yS yT yU yV yW yX jB jC)) 38)
  subst hv0
  go_enter Try.func35, Try.ntmps35
  go_wp2_with (first | (go_at_call 36; go_must (refine (ref_letters_5 _).mono ?_; rintro e w1 ⟨rfl, hbel⟩; have hT := later_trans hT hbel; have hW := blk_later hbel hW; have hB := blk_cell hW)) | (with_reducible show wpList _ _ _ ({ dst := some 20, op := Op.load 25 _, type := _, pos := _, after := _, guard := _ } :: _) _ _; (refine wpList_load_blk rfl _ _ rfl w.heap.size 1 rfl 7 _ Try.underlying25 rfl sz_req _ _ (by assumption) rfl (rQ zH zI zJ zK zL zM zN) rfl ?_)) | (with_reducible show wpList _ _ _ ({ dst := some 26, op := Op.load 25 _, type := _, pos := _, after := _, guard := _ } :: _) _ _; (refine wpList_load_blk rfl _ _ rfl w.heap.size 1 rfl 7 _ Try.underlying25 rfl sz_req _ _ (by assumption) rfl (rQ zH zI zJ zK zL zM zN) rfl ?_)) | (with_reducible show wpList _ _ _ ({ dst := some 29, op := Op.load 27 _, type := _, pos := _, after := _, guard := _ } :: _) _ _; (refine wpList_load_blk rfl _ _ rfl w.heap.size 8 rfl 7 _ Try.underlying27 rfl sz_rep _ _ (by assumption) rfl (rP zO zP zQ zR zS zT zU) rfl ?_)) | (with_reducible show wpList _ _ _ ({ dst := some 35, op := Op.load 27 _, type := _, pos := _, after := _, guard := _ } :: _) _ _; (refine wpList_load_blk rfl _ _ rfl w.heap.size 8 rfl 7 _ Try.underlying27 rfl sz_rep _ _ (by assumption) rfl (rP zO zP zQ zR zS zT zU) rfl ?_)) | (with_reducible show wpList _ _ _ ({ dst := some 41, op := Op.load 29 _, type := _, pos := _, after := _, guard := _ } :: _) _ _; (refine wpList_load_blk rfl _ _ rfl w.heap.size 15 rfl 2 _ Try.underlying29 rfl sz_bal _ _ (by assumption) rfl [.int .u32 mn, .int .u8 zZ] rfl ?_)) | (with_reducible show wpList _ _ _ ({ dst := some 53, op := Op.load 35 _, type := _, pos := _, after := _, guard := _ } :: _) _ _; (refine wpList_load_blk rfl _ _ rfl w.heap.size 18 rfl 17 _ Try.underlying35 rfl sz_cmd _ _ (by assumption) rfl (rC zV zA zB zC zD zE zF zG yA yB yC yD yE yF yG yH yI yJ yK zW zX) rfl ?_)) | (with_reducible show wpList _ _ _ ({ dst := some 22, op := Op.binOp BinOp.eql 25 _ _ 25, type := _, pos := _, after := _, guard := _ } :: _) _ _; (refine wpList_val rfl (.bool ((Req.mk zH zI zJ zK zL zM zN).no)) (run_eql _ _ _ 25 _ _ rfl _ _ _ rfl rfl gd_req (eql_req _ _ _ _ _ _ _ _)) ?_)) | (with_reducible show wpList _ _ _ ({ dst := some 31, op := Op.binOp BinOp.eql 27 _ _ 27, type := _, pos := _, after := _, guard := _ } :: _) _ _; (refine wpList_val rfl (.bool ((Rep.mk zO zP zQ zR zS zT zU).no)) (run_eql _ _ _ 27 _ _ rfl _ _ _ rfl rfl gd_rep (eql_rep _ _ _ _ _ _ _ _)) ?_)) | (with_reducible show wpList _ _ _ ({ dst := some 43, op := Op.binOp BinOp.eql 29 _ _ 29, type := _, pos := _, after := _, guard := _ } :: _) _ _; (refine wpList_val rfl (.bool (mn == 0 && zZ == 0)) (run_eql _ _ _ 29 _ _ rfl _ _ _ rfl rfl gd_bal (eql_bal _ _ _)) ?_)) | (go_at_call 85; go_must (refine (ref_has [98] _ _ (by decide) (by decide)).mono ?_; rintro e w1 ⟨rfl, rfl⟩)) | (go_at_call 86; go_must (refine (ref_request _ _ _ _ _ _ _ _ (by omega)).mono ?_; rintro e w1 ⟨rfl, hbel⟩; have hT := later_trans hT hbel; have hW := blk_later hbel hW; have hB := blk_cell hW)) | (go_at_call 87; go_must (refine (ref_reply _ _ _ _ _ _ _ _ (by omega) (by omega)).mono ?_; rintro e w1 ⟨rfl, hbel⟩; have hT := later_trans hT hbel; have hW := blk_later hbel hW; have hB := blk_cell hW)) | (go_at_call 88; go_must (refine (ref_command _ _ _ _ _ _ _ _ _ _ _ _ _ _ _ _ _ _ _ _ _ yL yM _ (hc1.later hT) (hc2.later hT) HWC.out).mono ?_; rintro e w1 ⟨rfl, hbel⟩; have hT := later_trans hT hbel; have hW := blk_later hbel hW; have hB := blk_cell hW)))
  all_goals (refine wp_loop_rounds 1 ?_; rw [rounds_succ])
  all_goals go_wp2_with (first | (with_reducible show wpList _ _ _ ({ dst := some 118, op := Op.load 33 _, type := _, pos := _, after := _, guard := _ } :: _) _ _; (refine wpList_load_blk rfl _ _ rfl w.heap.size 36 rfl 7 _ Try.underlying33 rfl sz_rng _ _ (by assumption) rfl (rR yN yO yP yQ yR yS yT yU yV yW yX) rfl ?_)) | (go_at_call 85; go_must (refine (ref_has [98] _ _ (by decide) (by decide)).mono ?_; rintro e w1 ⟨rfl, rfl⟩)) | (go_at_call 89; go_must (refine (ref_norange _ _ _ _ _ _ _ _ _ _ _ yY yZ _).mono ?_; rintro e w1 ⟨rfl, hbel⟩; have hT := later_trans hT hbel; have hW := blk_later hbel hW; have hB := blk_cell hW)))
  all_goals go_ret
  all_goals refine ⟨ret_bool ?_, by assumption⟩
  all_goals clear hT hW hne hmn hv hc1 hc2 _hr1 _hr2 HWC HWR
  all_goals (have hcb : zV = 0 → (Cmd.mk zV (Req.mk zA zB zC zD zE zF zG) (Rng.mk yA yB yC yD yE ⟨yF, yG, yH⟩ ⟨yI, yJ, yK⟩ yL yM) zW zX).ok = (Cmd.mk zV (Req.mk zA zB zC zD zE zF zG) (Rng.mk yA yB yC yD yE ⟨yF, yG, yH⟩ ⟨yI, yJ, yK⟩ yL yM) zW zX).bare := fun e => (by subst e; simp [Cmd.ok, Cmd.bare, Bool.and_assoc]))
  all_goals simp_all [Msg.ok]
  all_goals (intro e; subst e; simp_all)

end Go.Proofs.Ytignemioillaiaa

