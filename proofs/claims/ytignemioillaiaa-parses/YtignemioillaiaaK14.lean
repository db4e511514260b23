/- The document's answer: the bytes of a message. -/
import Derived.Test.YtignemioillaiaaD4
import Derived.Test.YtignemioillaiaaK3
import Derived.Test.YtignemioillaiaaC4
namespace Go.Proofs.Ytignemioillaiaa
open Go.RowKit

theorem ret_str2 {a b : ByteArray} {n : Int} (h : a = b) : Ending.returned (.tuple #[.string a, .int .i64 n]) = .returned (.tuple #[.string b, .int .i64 n]) := by rw [h]
theorem bal_len (n i : Int) : (ballotBytes n i).length = 5 := rfl

set_option maxHeartbeats 2000000 in
set_option maxRecDepth 100000 in
theorem ref_marshal_1 (zY : Int) (zH zI zJ zK zL zM zN : Int) (zO zP zQ zR : Int) (zS : Bool) (zT zU : Int) (mn zZ jA : Int) (zV : Int) (zA zB zC zD zE zF zG : Int) (yA yB yC yD yE : Int) (yF : Option Addr) (yG yH : Nat) (yI : Option Addr) (yJ yK : Nat) (zW zX : Int) (jE : Option Addr) (jF jG : Nat) (yN yO yP yQ yR : Int) (yS : Option Addr) (yT yU : Nat) (yV : Option Addr) (yW yX : Nat) (jB jC : Int) (yL yY : List Row) (yM yZ : List Rep) (jD : List Vot) (w : World) (hv : VotesIn w.heap.size w ⟨jE, jF, jG⟩ jD) (hc1 : SlIn w.heap.size w ⟨yF, yG, yH⟩ 2 (yL.map Row.cells)) (hc2 : SlIn w.heap.size w ⟨yI, yJ, yK⟩ 7 (yM.map Rep.cells)) (hr1 : SlIn w.heap.size w ⟨yS, yT, yU⟩ 2 (yY.map Row.cells)) (hr2 : SlIn w.heap.size w ⟨yV, yW, yX⟩ 7 (yZ.map Rep.cells)) (hwf : (Msg.mk zY (Req.mk zH zI zJ zK zL zM zN) (Rep.mk zO zP zQ zR zS zT zU) mn zZ jA (Cmd.mk zV (Req.mk zA zB zC zD zE zF zG) (Rng.mk yA yB yC yD yE ⟨yF, yG, yH⟩ ⟨yI, yJ, yK⟩ yL yM) zW zX) ⟨jE, jF, jG⟩ (Rng.mk yN yO yP yQ yR ⟨yS, yT, yU⟩ ⟨yV, yW, yX⟩ yY yZ) jB jC jD).wf) (hk : zY = 1) (hok : (Msg.mk zY (Req.mk zH zI zJ zK zL zM zN) (Rep.mk zO zP zQ zR zS zT zU) mn zZ jA (Cmd.mk zV (Req.mk zA zB zC zD zE zF zG) (Rng.mk yA yB yC yD yE ⟨yF, yG, yH⟩ ⟨yI, yJ, yK⟩ yL yM) zW zX) ⟨jE, jF, jG⟩ (Rng.mk yN yO yP yQ yR ⟨yS, yT, yU⟩ ⟨yV, yW, yX⟩ yY yZ) jB jC jD).ok = true) :
    Calls Try.prog 12 #[.agg (List.toArray (rM zY zH zI zJ zK zL zM zN zO zP zQ zR zS zT zU mn zZ jA zV zA zB zC zD zE zF zG yA yB yC yD yE yF yG yH yI yJ yK zW zX jE jF jG yN yO yP yQ yR yS yT yU yV yW yX jB jC))] w fun e w' => e = .returned (.tuple #[.string (bstr (Msg.mk zY (Req.mk zH zI zJ zK zL zM zN) (Rep.mk zO zP zQ zR zS zT zU) mn zZ jA (Cmd.mk zV (Req.mk zA zB zC zD zE zF zG) (Rng.mk yA yB yC yD yE ⟨yF, yG, yH⟩ ⟨yI, yJ, yK⟩ yL yM) zW zX) ⟨jE, jF, jG⟩ (Rng.mk yN yO yP yQ yR ⟨yS, yT, yU⟩ ⟨yV, yW, yX⟩ yY yZ) jB jC jD).bytes), .int .i64 0]) ∧ Below w.heap.size w w' := by
  subst hk
  have HWF : Hid (Msg.wf (Msg.mk 1 (Req.mk zH zI zJ zK zL zM zN) (Rep.mk zO zP zQ zR zS zT zU) mn zZ jA (Cmd.mk zV (Req.mk zA zB zC zD zE zF zG) (Rng.mk yA yB yC yD yE ⟨yF, yG, yH⟩ ⟨yI, yJ, yK⟩ yL yM) zW zX) ⟨jE, jF, jG⟩ (Rng.mk yN yO yP yQ yR ⟨yS, yT, yU⟩ ⟨yV, yW, yX⟩ yY yZ) jB jC jD)) := hwf
  have HV0 : Hid ((1 : Int) = 4 ∨ jF = 0) := .inr (by have := hok; simp [Msg.ok] at this; simp [this])
  have hw1 := hwf.slot
  have hw2 := hwf.peer
  have hw3 := hwf.seq
  simp only [U8, U32] at hw1 hw2 hw3
  clear hwf
  obtain ⟨s, hs⟩ : ∃ s, s = bstr [113] := ⟨_, rfl⟩
  have hsz : s.size = 1 := by rw [hs, bstr_size]; rfl
  have hl0 : ((s[0]'(by rw [hsz]; decide)).toNat : Int) = 113 := str_at hs rfl (by decide) _
  have hap := bstr_append
  have hu0 := u64_in 1 (by omega)
  have hu1 := u64_in jA (by omega)
  have hu2 := u64_in jB (by omega)
  have hu3 := u64_in jC (by omega)
  have hz0 := sz_fit (numB 1 1) ((Req.mk zH zI zJ zK zL zM zN).bytes) (by (try simp only [List.length_append]); have := numB_len 1 1; have := (Req.mk zH zI zJ zK zL zM zN).len; omega)
  have hT := later_alloc w (.cells (List.toArray (rM 1 zH zI zJ zK zL zM zN zO zP zQ zR zS zT zU mn zZ jA zV zA zB zC zD zE zF zG yA yB yC yD yE yF yG yH yI yJ yK zW zX jE jF jG yN yO yP yQ yR yS yT yU yV yW yX jB jC)) 38)
  have hW := heap_alloc_new w (.cells (List.toArray (rM 1 zH zI zJ zK zL zM zN zO zP zQ zR zS zT zU mn zZ jA zV zA zB zC zD zE zF zG yA yB yC yD yE yF yG yH yI yJ yK zW zX jE jF jG yN yO yP yQ yR yS yT yU yV yW yX jB jC)) 38)
  go_enter Try.func12, Try.ntmps12
  go_wp2_with (first | (with_reducible show wpList _ _ _ ({ dst := some 10, op := Op.load 38 _, type := _, pos := _, after := _, guard := _ } :: _) _ _; (refine wpList_load_blk rfl _ _ rfl w.heap.size 0 rfl 45 _ Try.underlying38 rfl sz_msg _ _ (by assumption) rfl (rM 1 zH zI zJ zK zL zM zN zO zP zQ zR zS zT zU mn zZ jA zV zA zB zC zD zE zF zG yA yB yC yD yE yF yG yH yI yJ yK zW zX jE jF jG yN yO yP yQ yR yS yT yU yV yW yX jB jC) rfl ?_)) | (go_at_call 35; go_must (refine (ref_message_r _ _ _ _ _ _ _ _ _ _ _ _ _ _ _ _ _ _ _ _ _ _ _ _ _ _ _ _ _ _ _ _ _ _ _ _ _ _ _ _ _ _ _ _ _ _ _ _ _ _ _ _ _ _ _ yL yY yM yZ jD _ (hv.later hT) (hc1.later hT) (hc2.later hT) (hr1.later hT) (hr2.later hT) HWF.out HV0.out).mono ?_; rintro e w1 ⟨rfl, hbel⟩; rw [hok]; have hT := later_trans hT hbel; have hW := blk_later hbel hW; have hB := blk_cell hW)) | (go_at_call 36; go_must (refine (ref_letters_1 _).mono ?_; rintro e w1 ⟨rfl, hbel⟩; rw [← hs]; have hT := later_trans hT hbel; have hW := blk_later hbel hW; have hB := blk_cell hW)) | (go_at_call 37; go_must (refine (number_c _ _ _ (by omega)).mono ?_; rintro e w1 ⟨rfl, hbel⟩; have hT := later_trans hT hbel; have hW := blk_later hbel hW; have hB := blk_cell hW)))
  refine wp_loop_rounds 2 ?_
  rw [rounds_succ]
  go_wp2_with (first | (with_reducible show wpList _ _ _ ({ dst := some 34, op := Op.load 25 _, type := _, pos := _, after := _, guard := _ } :: _) _ _; (refine wpList_load_blk rfl _ _ rfl w.heap.size 1 rfl 7 _ Try.underlying25 rfl sz_req _ _ (by assumption) rfl (rQ zH zI zJ zK zL zM zN) rfl ?_)) | (go_at_call 38; go_must (refine (ref_requestBytes _ _ _ _ _ _ _ _ HWF.out.req).mono ?_; rintro e w1 ⟨rfl, hbel⟩; have hT := later_trans hT hbel; have hW := blk_later hbel hW; have hB := blk_cell hW)))
  rw [rounds_succ]
  go_wp2_with fail
  go_ret2
  exact ⟨ret_str2 (bstr_eq (by simp [Msg.bytes, Msg.tail, numB])), by assumption⟩

set_option maxHeartbeats 2000000 in
set_option maxRecDepth 100000 in
theorem ref_marshal_2 (zY : Int) (zH zI zJ zK zL zM zN : Int) (zO zP zQ zR : Int) (zS : Bool) (zT zU : Int) (mn zZ jA : Int) (zV : Int) (zA zB zC zD zE zF zG : Int) (yA yB yC yD yE : Int) (yF : Option Addr) (yG yH : Nat) (yI : Option Addr) (yJ yK : Nat) (zW zX : Int) (jE : Option Addr) (jF jG : Nat) (yN yO yP yQ yR : Int) (yS : Option Addr) (yT yU : Nat) (yV : Option Addr) (yW yX : Nat) (jB jC : Int) (yL yY : List Row) (yM yZ : List Rep) (jD : List Vot) (w : World) (hv : VotesIn w.heap.size w ⟨jE, jF, jG⟩ jD) (hc1 : SlIn w.heap.size w ⟨yF, yG, yH⟩ 2 (yL.map Row.cells)) (hc2 : SlIn w.heap.size w ⟨yI, yJ, yK⟩ 7 (yM.map Rep.cells)) (hr1 : SlIn w.heap.size w ⟨yS, yT, yU⟩ 2 (yY.map Row.cells)) (hr2 : SlIn w.heap.size w ⟨yV, yW, yX⟩ 7 (yZ.map Rep.cells)) (hwf : (Msg.mk zY (Req.mk zH zI zJ zK zL zM zN) (Rep.mk zO zP zQ zR zS zT zU) mn zZ jA (Cmd.mk zV (Req.mk zA zB zC zD zE zF zG) (Rng.mk yA yB yC yD yE ⟨yF, yG, yH⟩ ⟨yI, yJ, yK⟩ yL yM) zW zX) ⟨jE, jF, jG⟩ (Rng.mk yN yO yP yQ yR ⟨yS, yT, yU⟩ ⟨yV, yW, yX⟩ yY yZ) jB jC jD).wf) (hk : zY = 2) (hok : (Msg.mk zY (Req.mk zH zI zJ zK zL zM zN) (Rep.mk zO zP zQ zR zS zT zU) mn zZ jA (Cmd.mk zV (Req.mk zA zB zC zD zE zF zG) (Rng.mk yA yB yC yD yE ⟨yF, yG, yH⟩ ⟨yI, yJ, yK⟩ yL yM) zW zX) ⟨jE, jF, jG⟩ (Rng.mk yN yO yP yQ yR ⟨yS, yT, yU⟩ ⟨yV, yW, yX⟩ yY yZ) jB jC jD).ok = true) :
    Calls Try.prog 12 #[.agg (List.toArray (rM zY zH zI zJ zK zL zM zN zO zP zQ zR zS zT zU mn zZ jA zV zA zB zC zD zE zF zG yA yB yC yD yE yF yG yH yI yJ yK zW zX jE jF jG yN yO yP yQ yR yS yT yU yV yW yX jB jC))] w fun e w' => e = .returned (.tuple #[.string (bstr (Msg.mk zY (Req.mk zH zI zJ zK zL zM zN) (Rep.mk zO zP zQ zR zS zT zU) mn zZ jA (Cmd.mk zV (Req.mk zA zB zC zD zE zF zG) (Rng.mk yA yB yC yD yE ⟨yF, yG, yH⟩ ⟨yI, yJ, yK⟩ yL yM) zW zX) ⟨jE, jF, jG⟩ (Rng.mk yN yO yP yQ yR ⟨yS, yT, yU⟩ ⟨yV, yW, yX⟩ yY yZ) jB jC jD).bytes), .int .i64 0]) ∧ Below w.heap.size w w' := by
  subst hk
  have HWF : Hid (Msg.wf (Msg.mk 2 (Req.mk zH zI zJ zK zL zM zN) (Rep.mk zO zP zQ zR zS zT zU) mn zZ jA (Cmd.mk zV (Req.mk zA zB zC zD zE zF zG) (Rng.mk yA yB yC yD yE ⟨yF, yG, yH⟩ ⟨yI, yJ, yK⟩ yL yM) zW zX) ⟨jE, jF, jG⟩ (Rng.mk yN yO yP yQ yR ⟨yS, yT, yU⟩ ⟨yV, yW, yX⟩ yY yZ) jB jC jD)) := hwf
  have HV0 : Hid ((2 : Int) = 4 ∨ jF = 0) := .inr (by have := hok; simp [Msg.ok] at this; simp [this])
  have hw1 := hwf.slot
  have hw2 := hwf.peer
  have hw3 := hwf.seq
  simp only [U8, U32] at hw1 hw2 hw3
  clear hwf
  obtain ⟨s, hs⟩ : ∃ s, s = bstr [114] := ⟨_, rfl⟩
  have hsz : s.size = 1 := by rw [hs, bstr_size]; rfl
  have hl0 : ((s[0]'(by rw [hsz]; decide)).toNat : Int) = 114 := str_at hs rfl (by decide) _
  have hap := bstr_append
  have hu0 := u64_in 2 (by omega)
  have hu1 := u64_in jA (by omega)
  have hu2 := u64_in jB (by omega)
  have hu3 := u64_in jC (by omega)
  have hz0 := sz_fit (numB 1 2) ((Rep.mk zO zP zQ zR zS zT zU).bytes) (by (try simp only [List.length_append]); have := numB_len 1 2; have := (Rep.mk zO zP zQ zR zS zT zU).len; omega)
  have hT := later_alloc w (.cells (List.toArray (rM 2 zH zI zJ zK zL zM zN zO zP zQ zR zS zT zU mn zZ jA zV zA zB zC zD zE zF zG yA yB yC yD yE yF yG yH yI yJ yK zW zX jE jF jG yN yO yP yQ yR yS yT yU yV yW yX jB jC)) 38)
  have hW := heap_alloc_new w (.cells (List.toArray (rM 2 zH zI zJ zK zL zM zN zO zP zQ zR zS zT zU mn zZ jA zV zA zB zC zD zE zF zG yA yB yC yD yE yF yG yH yI yJ yK zW zX jE jF jG yN yO yP yQ yR yS yT yU yV yW yX jB jC)) 38)
  go_enter Try.func12, Try.ntmps12
  go_wp2_with (first | (with_reducible show wpList _ _ _ ({ dst := some 10, op := Op.load 38 _, type := _, pos := _, after := _, guard := _ } :: _) _ _; (refine wpList_load_blk rfl _ _ rfl w.heap.size 0 rfl 45 _ Try.underlying38 rfl sz_msg _ _ (by assumption) rfl (rM 2 zH zI zJ zK zL zM zN zO zP zQ zR zS zT zU mn zZ jA zV zA zB zC zD zE zF zG yA yB yC yD yE yF yG yH yI yJ yK zW zX jE jF jG yN yO yP yQ yR yS yT yU yV yW yX jB jC) rfl ?_)) | (go_at_call 35; go_must (refine (ref_message_r _ _ _ _ _ _ _ _ _ _ _ _ _ _ _ _ _ _ _ _ _ _ _ _ _ _ _ _ _ _ _ _ _ _ _ _ _ _ _ _ _ _ _ _ _ _ _ _ _ _ _ _ _ _ _ yL yY yM yZ jD _ (hv.later hT) (hc1.later hT) (hc2.later hT) (hr1.later hT) (hr2.later hT) HWF.out HV0.out).mono ?_; rintro e w1 ⟨rfl, hbel⟩; rw [hok]; have hT := later_trans hT hbel; have hW := blk_later hbel hW; have hB := blk_cell hW)) | (go_at_call 36; go_must (refine (ref_letters_2 _).mono ?_; rintro e w1 ⟨rfl, hbel⟩; rw [← hs]; have hT := later_trans hT hbel; have hW := blk_later hbel hW; have hB := blk_cell hW)) | (go_at_call 37; go_must (refine (number_c _ _ _ (by omega)).mono ?_; rintro e w1 ⟨rfl, hbel⟩; have hT := later_trans hT hbel; have hW := blk_later hbel hW; have hB := blk_cell hW)))
  refine wp_loop_rounds 2 ?_
  rw [rounds_succ]
  go_wp2_with (first | (with_reducible show wpList _ _ _ ({ dst := some 41, op := Op.load 27 _, type := _, pos := _, after := _, guard := _ } :: _) _ _; (refine wpList_load_blk rfl _ _ rfl w.heap.size 8 rfl 7 _ Try.underlying27 rfl sz_rep _ _ (by assumption) rfl (rP zO zP zQ zR zS zT zU) rfl ?_)) | (go_at_call 39; go_must (refine (ref_replyBytes _ _ _ _ _ _ _ _ HWF.out.rep).mono ?_; rintro e w1 ⟨rfl, hbel⟩; have hT := later_trans hT hbel; have hW := blk_later hbel hW; have hB := blk_cell hW)))
  rw [rounds_succ]
  go_wp2_with fail
  go_ret2
  exact ⟨ret_str2 (bstr_eq (by simp [Msg.bytes, Msg.tail, numB])), by assumption⟩

set_option maxHeartbeats 2000000 in
set_option maxRecDepth 100000 in
theorem ref_marshal_3 (zY : Int) (zH zI zJ zK zL zM zN : Int) (zO zP zQ zR : Int) (zS : Bool) (zT zU : Int) (mn zZ jA : Int) (zV : Int) (zA zB zC zD zE zF zG : Int) (yA yB yC yD yE : Int) (yF : Option Addr) (yG yH : Nat) (yI : Option Addr) (yJ yK : Nat) (zW zX : Int) (jE : Option Addr) (jF jG : Nat) (yN yO yP yQ yR : Int) (yS : Option Addr) (yT yU : Nat) (yV : Option Addr) (yW yX : Nat) (jB jC : Int) (yL yY : List Row) (yM yZ : List Rep) (jD : List Vot) (w : World) (hv : VotesIn w.heap.size w ⟨jE, jF, jG⟩ jD) (hc1 : SlIn w.heap.size w ⟨yF, yG, yH⟩ 2 (yL.map Row.cells)) (hc2 : SlIn w.heap.size w ⟨yI, yJ, yK⟩ 7 (yM.map Rep.cells)) (hr1 : SlIn w.heap.size w ⟨yS, yT, yU⟩ 2 (yY.map Row.cells)) (hr2 : SlIn w.heap.size w ⟨yV, yW, yX⟩ 7 (yZ.map Rep.cells)) (hwf : (Msg.mk zY (Req.mk zH zI zJ zK zL zM zN) (Rep.mk zO zP zQ zR zS zT zU) mn zZ jA (Cmd.mk zV (Req.mk zA zB zC zD zE zF zG) (Rng.mk yA yB yC yD yE ⟨yF, yG, yH⟩ ⟨yI, yJ, yK⟩ yL yM) zW zX) ⟨jE, jF, jG⟩ (Rng.mk yN yO yP yQ yR ⟨yS, yT, yU⟩ ⟨yV, yW, yX⟩ yY yZ) jB jC jD).wf) (hk : zY = 3) (hok : (Msg.mk zY (Req.mk zH zI zJ zK zL zM zN) (Rep.mk zO zP zQ zR zS zT zU) mn zZ jA (Cmd.mk zV (Req.mk zA zB zC zD zE zF zG) (Rng.mk yA yB yC yD yE ⟨yF, yG, yH⟩ ⟨yI, yJ, yK⟩ yL yM) zW zX) ⟨jE, jF, jG⟩ (Rng.mk yN yO yP yQ yR ⟨yS, yT, yU⟩ ⟨yV, yW, yX⟩ yY yZ) jB jC jD).ok = true) :
    Calls Try.prog 12 #[.agg (List.toArray (rM zY zH zI zJ zK zL zM zN zO zP zQ zR zS zT zU mn zZ jA zV zA zB zC zD zE zF zG yA yB yC yD yE yF yG yH yI yJ yK zW zX jE jF jG yN yO yP yQ yR yS yT yU yV yW yX jB jC))] w fun e w' => e = .returned (.tuple #[.string (bstr (Msg.mk zY (Req.mk zH zI zJ zK zL zM zN) (Rep.mk zO zP zQ zR zS zT zU) mn zZ jA (Cmd.mk zV (Req.mk zA zB zC zD zE zF zG) (Rng.mk yA yB yC yD yE ⟨yF, yG, yH⟩ ⟨yI, yJ, yK⟩ yL yM) zW zX) ⟨jE, jF, jG⟩ (Rng.mk yN yO yP yQ yR ⟨yS, yT, yU⟩ ⟨yV, yW, yX⟩ yY yZ) jB jC jD).bytes), .int .i64 0]) ∧ Below w.heap.size w w' := by
  subst hk
  have HWF : Hid (Msg.wf (Msg.mk 3 (Req.mk zH zI zJ zK zL zM zN) (Rep.mk zO zP zQ zR zS zT zU) mn zZ jA (Cmd.mk zV (Req.mk zA zB zC zD zE zF zG) (Rng.mk yA yB yC yD yE ⟨yF, yG, yH⟩ ⟨yI, yJ, yK⟩ yL yM) zW zX) ⟨jE, jF, jG⟩ (Rng.mk yN yO yP yQ yR ⟨yS, yT, yU⟩ ⟨yV, yW, yX⟩ yY yZ) jB jC jD)) := hwf
  have HV0 : Hid ((3 : Int) = 4 ∨ jF = 0) := .inr (by have := hok; simp [Msg.ok] at this; simp [this])
  have hw1 := hwf.slot
  have hw2 := hwf.peer
  have hw3 := hwf.seq
  simp only [U8, U32] at hw1 hw2 hw3
  clear hwf
  obtain ⟨s, hs⟩ : ∃ s, s = bstr [98] := ⟨_, rfl⟩
  have hsz : s.size = 1 := by rw [hs, bstr_size]; rfl
  have hl0 : ((s[0]'(by rw [hsz]; decide)).toNat : Int) = 98 := str_at hs rfl (by decide) _
  have hap := bstr_append
  have hu0 := u64_in 3 (by omega)
  have hu1 := u64_in jA (by omega)
  have hu2 := u64_in jB (by omega)
  have hu3 := u64_in jC (by omega)
  have hz0 := sz_fit (numB 1 3) (ballotBytes mn zZ) (by (try simp only [List.length_append]); have := numB_len 1 3; have := bal_len mn zZ; omega)
  have hT := later_alloc w (.cells (List.toArray (rM 3 zH zI zJ zK zL zM zN zO zP zQ zR zS zT zU mn zZ jA zV zA zB zC zD zE zF zG yA yB yC yD yE yF yG yH yI yJ yK zW zX jE jF jG yN yO yP yQ yR yS yT yU yV yW yX jB jC)) 38)
  have hW := heap_alloc_new w (.cells (List.toArray (rM 3 zH zI zJ zK zL zM zN zO zP zQ zR zS zT zU mn zZ jA zV zA zB zC zD zE zF zG yA yB yC yD yE yF yG yH yI yJ yK zW zX jE jF jG yN yO yP yQ yR yS yT yU yV yW yX jB jC)) 38)
  go_enter Try.func12, Try.ntmps12
  go_wp2_with (first | (with_reducible show wpList _ _ _ ({ dst := some 10, op := Op.load 38 _, type := _, pos := _, after := _, guard := _ } :: _) _ _; (refine wpList_load_blk rfl _ _ rfl w.heap.size 0 rfl 45 _ Try.underlying38 rfl sz_msg _ _ (by assumption) rfl (rM 3 zH zI zJ zK zL zM zN zO zP zQ zR zS zT zU mn zZ jA zV zA zB zC zD zE zF zG yA yB yC yD yE yF yG yH yI yJ yK zW zX jE jF jG yN yO yP yQ yR yS yT yU yV yW yX jB jC) rfl ?_)) | (go_at_call 35; go_must (refine (ref_message_r _ _ _ _ _ _ _ _ _ _ _ _ _ _ _ _ _ _ _ _ _ _ _ _ _ _ _ _ _ _ _ _ _ _ _ _ _ _ _ _ _ _ _ _ _ _ _ _ _ _ _ _ _ _ _ yL yY yM yZ jD _ (hv.later hT) (hc1.later hT) (hc2.later hT) (hr1.later hT) (hr2.later hT) HWF.out HV0.out).mono ?_; rintro e w1 ⟨rfl, hbel⟩; rw [hok]; have hT := later_trans hT hbel; have hW := blk_later hbel hW; have hB := blk_cell hW)) | (go_at_call 36; go_must (refine (ref_letters_3 _).mono ?_; rintro e w1 ⟨rfl, hbel⟩; rw [← hs]; have hT := later_trans hT hbel; have hW := blk_later hbel hW; have hB := blk_cell hW)) | (go_at_call 37; go_must (refine (number_c _ _ _ (by omega)).mono ?_; rintro e w1 ⟨rfl, hbel⟩; have hT := later_trans hT hbel; have hW := blk_later hbel hW; have hB := blk_cell hW)))
  refine wp_loop_rounds 2 ?_
  rw [rounds_succ]
  go_wp2_with (first | (with_reducible show wpList _ _ _ ({ dst := some 48, op := Op.load 29 _, type := _, pos := _, after := _, guard := _ } :: _) _ _; (refine wpList_load_blk rfl _ _ rfl w.heap.size 15 rfl 2 _ Try.underlying29 rfl sz_bal _ _ (by assumption) rfl [.int .u32 mn, .int .u8 zZ] rfl ?_)) | (go_at_call 40; go_must (refine (ref_ballot _ _ _ HWF.out.n HWF.out.id).mono ?_; rintro e w1 ⟨rfl, hbel⟩; have hT := later_trans hT hbel; have hW := blk_later hbel hW; have hB := blk_cell hW)))
  rw [rounds_succ]
  go_wp2_with fail
  go_ret2
  exact ⟨ret_str2 (bstr_eq (by simp [Msg.bytes, Msg.tail, numB])), by assumption⟩

set_option maxHeartbeats 2000000 in
set_option maxRecDepth 100000 in
theorem ref_marshal_5 (zY : Int) (zH zI zJ zK zL zM zN : Int) (zO zP zQ zR : Int) (zS : Bool) (zT zU : Int) (mn zZ jA : Int) (zV : Int) (zA zB zC zD zE zF zG : Int) (yA yB yC yD yE : Int) (yF : Option Addr) (yG yH : Nat) (yI : Option Addr) (yJ yK : Nat) (zW zX : Int) (jE : Option Addr) (jF jG : Nat) (yN yO yP yQ yR : Int) (yS : Option Addr) (yT yU : Nat) (yV : Option Addr) (yW yX : Nat) (jB jC : Int) (yL yY : List Row) (yM yZ : List Rep) (jD : List Vot) (w : World) (hv : VotesIn w.heap.size w ⟨jE, jF, jG⟩ jD) (hc1 : SlIn w.heap.size w ⟨yF, yG, yH⟩ 2 (yL.map Row.cells)) (hc2 : SlIn w.heap.size w ⟨yI, yJ, yK⟩ 7 (yM.map Rep.cells)) (hr1 : SlIn w.heap.size w ⟨yS, yT, yU⟩ 2 (yY.map Row.cells)) (hr2 : SlIn w.heap.size w ⟨yV, yW, yX⟩ 7 (yZ.map Rep.cells)) (hwf : (Msg.mk zY (Req.mk zH zI zJ zK zL zM zN) (Rep.mk zO zP zQ zR zS zT zU) mn zZ jA (Cmd.mk zV (Req.mk zA zB zC zD zE zF zG) (Rng.mk yA yB yC yD yE ⟨yF, yG, yH⟩ ⟨yI, yJ, yK⟩ yL yM) zW zX) ⟨jE, jF, jG⟩ (Rng.mk yN yO yP yQ yR ⟨yS, yT, yU⟩ ⟨yV, yW, yX⟩ yY yZ) jB jC jD).wf) (hk : zY = 5) (hok : (Msg.mk zY (Req.mk zH zI zJ zK zL zM zN) (Rep.mk zO zP zQ zR zS zT zU) mn zZ jA (Cmd.mk zV (Req.mk zA zB zC zD zE zF zG) (Rng.mk yA yB yC yD yE ⟨yF, yG, yH⟩ ⟨yI, yJ, yK⟩ yL yM) zW zX) ⟨jE, jF, jG⟩ (Rng.mk yN yO yP yQ yR ⟨yS, yT, yU⟩ ⟨yV, yW, yX⟩ yY yZ) jB jC jD).ok = true) :
    Calls Try.prog 12 #[.agg (List.toArray (rM zY zH zI zJ zK zL zM zN zO zP zQ zR zS zT zU mn zZ jA zV zA zB zC zD zE zF zG yA yB yC yD yE yF yG yH yI yJ yK zW zX jE jF jG yN yO yP yQ yR yS yT yU yV yW yX jB jC))] w fun e w' => e = .returned (.tuple #[.string (bstr (Msg.mk zY (Req.mk zH zI zJ zK zL zM zN) (Rep.mk zO zP zQ zR zS zT zU) mn zZ jA (Cmd.mk zV (Req.mk zA zB zC zD zE zF zG) (Rng.mk yA yB yC yD yE ⟨yF, yG, yH⟩ ⟨yI, yJ, yK⟩ yL yM) zW zX) ⟨jE, jF, jG⟩ (Rng.mk yN yO yP yQ yR ⟨yS, yT, yU⟩ ⟨yV, yW, yX⟩ yY yZ) jB jC jD).bytes), .int .i64 0]) ∧ Below w.heap.size w w' := by
  subst hk
  have HWF : Hid (Msg.wf (Msg.mk 5 (Req.mk zH zI zJ zK zL zM zN) (Rep.mk zO zP zQ zR zS zT zU) mn zZ jA (Cmd.mk zV (Req.mk zA zB zC zD zE zF zG) (Rng.mk yA yB yC yD yE ⟨yF, yG, yH⟩ ⟨yI, yJ, yK⟩ yL yM) zW zX) ⟨jE, jF, jG⟩ (Rng.mk yN yO yP yQ yR ⟨yS, yT, yU⟩ ⟨yV, yW, yX⟩ yY yZ) jB jC jD)) := hwf
  have HV0 : Hid ((5 : Int) = 4 ∨ jF = 0) := .inr (by have := hok; simp [Msg.ok] at this; simp [this])
  have hw1 := hwf.slot
  have hw2 := hwf.peer
  have hw3 := hwf.seq
  simp only [U8, U32] at hw1 hw2 hw3
  clear hwf
  obtain ⟨s, hs⟩ : ∃ s, s = bstr [98] := ⟨_, rfl⟩
  have hsz : s.size = 1 := by rw [hs, bstr_size]; rfl
  have hl0 : ((s[0]'(by rw [hsz]; decide)).toNat : Int) = 98 := str_at hs rfl (by decide) _
  have hap := bstr_append
  have hu0 := u64_in 5 (by omega)
  have hu1 := u64_in jA (by omega)
  have hu2 := u64_in jB (by omega)
  have hu3 := u64_in jC (by omega)
  have hz0 := sz_fit (numB 1 5) (ballotBytes mn zZ) (by (try simp only [List.length_append]); have := numB_len 1 5; have := bal_len mn zZ; omega)
  have hT := later_alloc w (.cells (List.toArray (rM 5 zH zI zJ zK zL zM zN zO zP zQ zR zS zT zU mn zZ jA zV zA zB zC zD zE zF zG yA yB yC yD yE yF yG yH yI yJ yK zW zX jE jF jG yN yO yP yQ yR yS yT yU yV yW yX jB jC)) 38)
  have hW := heap_alloc_new w (.cells (List.toArray (rM 5 zH zI zJ zK zL zM zN zO zP zQ zR zS zT zU mn zZ jA zV zA zB zC zD zE zF zG yA yB yC yD yE yF yG yH yI yJ yK zW zX jE jF jG yN yO yP yQ yR yS yT yU yV yW yX jB jC)) 38)
  go_enter Try.func12, Try.ntmps12
  go_wp2_with (first | (with_reducible show wpList _ _ _ ({ dst := some 10, op := Op.load 38 _, type := _, pos := _, after := _, guard := _ } :: _) _ _; (refine wpList_load_blk rfl _ _ rfl w.heap.size 0 rfl 45 _ Try.underlying38 rfl sz_msg _ _ (by assumption) rfl (rM 5 zH zI zJ zK zL zM zN zO zP zQ zR zS zT zU mn zZ jA zV zA zB zC zD zE zF zG yA yB yC yD yE yF yG yH yI yJ yK zW zX jE jF jG yN yO yP yQ yR yS yT yU yV yW yX jB jC) rfl ?_)) | (go_at_call 35; go_must (refine (ref_message_r _ _ _ _ _ _ _ _ _ _ _ _ _ _ _ _ _ _ _ _ _ _ _ _ _ _ _ _ _ _ _ _ _ _ _ _ _ _ _ _ _ _ _ _ _ _ _ _ _ _ _ _ _ _ _ yL yY yM yZ jD _ (hv.later hT) (hc1.later hT) (hc2.later hT) (hr1.later hT) (hr2.later hT) HWF.out HV0.out).mono ?_; rintro e w1 ⟨rfl, hbel⟩; rw [hok]; have hT := later_trans hT hbel; have hW := blk_later hbel hW; have hB := blk_cell hW)) | (go_at_call 36; go_must (refine (ref_letters_5 _).mono ?_; rintro e w1 ⟨rfl, hbel⟩; rw [← hs]; have hT := later_trans hT hbel; have hW := blk_later hbel hW; have hB := blk_cell hW)) | (go_at_call 37; go_must (refine (number_c _ _ _ (by omega)).mono ?_; rintro e w1 ⟨rfl, hbel⟩; have hT := later_trans hT hbel; have hW := blk_later hbel hW; have hB := blk_cell hW)))
  refine wp_loop_rounds 2 ?_
  rw [rounds_succ]
  go_wp2_with (first | (with_reducible show wpList _ _ _ ({ dst := some 48, op := Op.load 29 _, type := _, pos := _, after := _, guard := _ } :: _) _ _; (refine wpList_load_blk rfl _ _ rfl w.heap.size 15 rfl 2 _ Try.underlying29 rfl sz_bal _ _ (by assumption) rfl [.int .u32 mn, .int .u8 zZ] rfl ?_)) | (go_at_call 40; go_must (refine (ref_ballot _ _ _ HWF.out.n HWF.out.id).mono ?_; rintro e w1 ⟨rfl, hbel⟩; have hT := later_trans hT hbel; have hW := blk_later hbel hW; have hB := blk_cell hW)))
  rw [rounds_succ]
  go_wp2_with fail
  go_ret2
  exact ⟨ret_str2 (bstr_eq (by simp [Msg.bytes, Msg.tail, numB])), by assumption⟩

set_option maxHeartbeats 2000000 in
set_option maxRecDepth 100000 in
theorem ref_marshal_6 (zY : Int) (zH zI zJ zK zL zM zN : Int) (zO zP zQ zR : Int) (zS : Bool) (zT zU : Int) (mn zZ jA : Int) (zV : Int) (zA zB zC zD zE zF zG : Int) (yA yB yC yD yE : Int) (yF : Option Addr) (yG yH : Nat) (yI : Option Addr) (yJ yK : Nat) (zW zX : Int) (jE : Option Addr) (jF jG : Nat) (yN yO yP yQ yR : Int) (yS : Option Addr) (yT yU : Nat) (yV : Option Addr) (yW yX : Nat) (jB jC : Int) (yL yY : List Row) (yM yZ : List Rep) (jD : List Vot) (w : World) (hv : VotesIn w.heap.size w ⟨jE, jF, jG⟩ jD) (hc1 : SlIn w.heap.size w ⟨yF, yG, yH⟩ 2 (yL.map Row.cells)) (hc2 : SlIn w.heap.size w ⟨yI, yJ, yK⟩ 7 (yM.map Rep.cells)) (hr1 : SlIn w.heap.size w ⟨yS, yT, yU⟩ 2 (yY.map Row.cells)) (hr2 : SlIn w.heap.size w ⟨yV, yW, yX⟩ 7 (yZ.map Rep.cells)) (hwf : (Msg.mk zY (Req.mk zH zI zJ zK zL zM zN) (Rep.mk zO zP zQ zR zS zT zU) mn zZ jA (Cmd.mk zV (Req.mk zA zB zC zD zE zF zG) (Rng.mk yA yB yC yD yE ⟨yF, yG, yH⟩ ⟨yI, yJ, yK⟩ yL yM) zW zX) ⟨jE, jF, jG⟩ (Rng.mk yN yO yP yQ yR ⟨yS, yT, yU⟩ ⟨yV, yW, yX⟩ yY yZ) jB jC jD).wf) (hk : zY = 6) (hok : (Msg.mk zY (Req.mk zH zI zJ zK zL zM zN) (Rep.mk zO zP zQ zR zS zT zU) mn zZ jA (Cmd.mk zV (Req.mk zA zB zC zD zE zF zG) (Rng.mk yA yB yC yD yE ⟨yF, yG, yH⟩ ⟨yI, yJ, yK⟩ yL yM) zW zX) ⟨jE, jF, jG⟩ (Rng.mk yN yO yP yQ yR ⟨yS, yT, yU⟩ ⟨yV, yW, yX⟩ yY yZ) jB jC jD).ok = true) :
    Calls Try.prog 12 #[.agg (List.toArray (rM zY zH zI zJ zK zL zM zN zO zP zQ zR zS zT zU mn zZ jA zV zA zB zC zD zE zF zG yA yB yC yD yE yF yG yH yI yJ yK zW zX jE jF jG yN yO yP yQ yR yS yT yU yV yW yX jB jC))] w fun e w' => e = .returned (.tuple #[.string (bstr (Msg.mk zY (Req.mk zH zI zJ zK zL zM zN) (Rep.mk zO zP zQ zR zS zT zU) mn zZ jA (Cmd.mk zV (Req.mk zA zB zC zD zE zF zG) (Rng.mk yA yB yC yD yE ⟨yF, yG, yH⟩ ⟨yI, yJ, yK⟩ yL yM) zW zX) ⟨jE, jF, jG⟩ (Rng.mk yN yO yP yQ yR ⟨yS, yT, yU⟩ ⟨yV, yW, yX⟩ yY yZ) jB jC jD).bytes), .int .i64 0]) ∧ Below w.heap.size w w' := by
  subst hk
  have HWF : Hid (Msg.wf (Msg.mk 6 (Req.mk zH zI zJ zK zL zM zN) (Rep.mk zO zP zQ zR zS zT zU) mn zZ jA (Cmd.mk zV (Req.mk zA zB zC zD zE zF zG) (Rng.mk yA yB yC yD yE ⟨yF, yG, yH⟩ ⟨yI, yJ, yK⟩ yL yM) zW zX) ⟨jE, jF, jG⟩ (Rng.mk yN yO yP yQ yR ⟨yS, yT, yU⟩ ⟨yV, yW, yX⟩ yY yZ) jB jC jD)) := hwf
  have HV0 : Hid ((6 : Int) = 4 ∨ jF = 0) := .inr (by have := hok; simp [Msg.ok] at this; simp [this])
  have hw1 := hwf.slot
  have hw2 := hwf.peer
  have hw3 := hwf.seq
  simp only [U8, U32] at hw1 hw2 hw3
  clear hwf
  have HCS : Hid (Cmd.short (Cmd.mk zV (Req.mk zA zB zC zD zE zF zG) (Rng.mk yA yB yC yD yE ⟨yF, yG, yH⟩ ⟨yI, yJ, yK⟩ yL yM) zW zX)) := Cmd.ok_short (by have := hok; simp [Msg.ok] at this; simp [this])
  have HCL : Hid ((Cmd.mk zV (Req.mk zA zB zC zD zE zF zG) (Rng.mk yA yB yC yD yE ⟨yF, yG, yH⟩ ⟨yI, yJ, yK⟩ yL yM) zW zX).bytes.length ≤ 12001) := (Cmd.mk zV (Req.mk zA zB zC zD zE zF zG) (Rng.mk yA yB yC yD yE ⟨yF, yG, yH⟩ ⟨yI, yJ, yK⟩ yL yM) zW zX).len (fun e => (HCS.out e).1) (fun e => (HCS.out e).2)
  obtain ⟨s, hs⟩ : ∃ s, s = bstr [98, 115, 99] := ⟨_, rfl⟩
  have hsz : s.size = 3 := by rw [hs, bstr_size]; rfl
  have hl0 : ((s[0]'(by rw [hsz]; decide)).toNat : Int) = 98 := str_at hs rfl (by decide) _
  have hl1 : ((s[1]'(by rw [hsz]; decide)).toNat : Int) = 115 := str_at hs rfl (by decide) _
  have hl2 : ((s[2]'(by rw [hsz]; decide)).toNat : Int) = 99 := str_at hs rfl (by decide) _
  have hap := bstr_append
  have hu0 := u64_in 6 (by omega)
  have hu1 := u64_in jA (by omega)
  have hu2 := u64_in jB (by omega)
  have hu3 := u64_in jC (by omega)
  have hz0 := sz_fit (numB 1 6) (ballotBytes mn zZ) (by (try simp only [List.length_append]); have := numB_len 1 6; have := bal_len mn zZ; omega)
  have hz1 := sz_fit (numB 1 6 ++ ballotBytes mn zZ) (numB 4 jA) (by (try simp only [List.length_append]); have := numB_len 1 6; have := bal_len mn zZ; have := numB_len 4 jA; omega)
  have hz2 := sz_fit (numB 1 6 ++ (ballotBytes mn zZ ++ numB 4 jA)) ((Cmd.mk zV (Req.mk zA zB zC zD zE zF zG) (Rng.mk yA yB yC yD yE ⟨yF, yG, yH⟩ ⟨yI, yJ, yK⟩ yL yM) zW zX).bytes) (by (try simp only [List.length_append]); have := numB_len 1 6; have := bal_len mn zZ; have := numB_len 4 jA; have := HCL.out; omega)
  have hT := later_alloc w (.cells (List.toArray (rM 6 zH zI zJ zK zL zM zN zO zP zQ zR zS zT zU mn zZ jA zV zA zB zC zD zE zF zG yA yB yC yD yE yF yG yH yI yJ yK zW zX jE jF jG yN yO yP yQ yR yS yT yU yV yW yX jB jC)) 38)
  have hW := heap_alloc_new w (.cells (List.toArray (rM 6 zH zI zJ zK zL zM zN zO zP zQ zR zS zT zU mn zZ jA zV zA zB zC zD zE zF zG yA yB yC yD yE yF yG yH yI yJ yK zW zX jE jF jG yN yO yP yQ yR yS yT yU yV yW yX jB jC)) 38)
  go_enter Try.func12, Try.ntmps12
  go_wp2_with (first | (with_reducible show wpList _ _ _ ({ dst := some 10, op := Op.load 38 _, type := _, pos := _, after := _, guard := _ } :: _) _ _; (refine wpList_load_blk rfl _ _ rfl w.heap.size 0 rfl 45 _ Try.underlying38 rfl sz_msg _ _ (by assumption) rfl (rM 6 zH zI zJ zK zL zM zN zO zP zQ zR zS zT zU mn zZ jA zV zA zB zC zD zE zF zG yA yB yC yD yE yF yG yH yI yJ yK zW zX jE jF jG yN yO yP yQ yR yS yT yU yV yW yX jB jC) rfl ?_)) | (go_at_call 35; go_must (refine (ref_message_r _ _ _ _ _ _ _ _ _ _ _ _ _ _ _ _ _ _ _ _ _ _ _ _ _ _ _ _ _ _ _ _ _ _ _ _ _ _ _ _ _ _ _ _ _ _ _ _ _ _ _ _ _ _ _ yL yY yM yZ jD _ (hv.later hT) (hc1.later hT) (hc2.later hT) (hr1.later hT) (hr2.later hT) HWF.out HV0.out).mono ?_; rintro e w1 ⟨rfl, hbel⟩; rw [hok]; have hT := later_trans hT hbel; have hW := blk_later hbel hW; have hB := blk_cell hW)) | (go_at_call 36; go_must (refine (ref_letters_6 _).mono ?_; rintro e w1 ⟨rfl, hbel⟩; rw [← hs]; have hT := later_trans hT hbel; have hW := blk_later hbel hW; have hB := blk_cell hW)) | (go_at_call 37; go_must (refine (number_c _ _ _ (by omega)).mono ?_; rintro e w1 ⟨rfl, hbel⟩; have hT := later_trans hT hbel; have hW := blk_later hbel hW; have hB := blk_cell hW)))
  refine wp_loop_rounds 4 ?_
  rw [rounds_succ]
  go_wp2_with (first | (with_reducible show wpList _ _ _ ({ dst := some 48, op := Op.load 29 _, type := _, pos := _, after := _, guard := _ } :: _) _ _; (refine wpList_load_blk rfl _ _ rfl w.heap.size 15 rfl 2 _ Try.underlying29 rfl sz_bal _ _ (by assumption) rfl [.int .u32 mn, .int .u8 zZ] rfl ?_)) | (go_at_call 40; go_must (refine (ref_ballot _ _ _ HWF.out.n HWF.out.id).mono ?_; rintro e w1 ⟨rfl, hbel⟩; have hT := later_trans hT hbel; have hW := blk_later hbel hW; have hB := blk_cell hW)))
  rw [rounds_succ]
  go_wp2_with (first | (go_at_call 37; go_must (refine (number_c _ _ _ (by omega)).mono ?_; rintro e w1 ⟨rfl, hbel⟩; have hT := later_trans hT hbel; have hW := blk_later hbel hW; have hB := blk_cell hW)))
  rw [rounds_succ]
  go_wp2_with (first | (with_reducible show wpList _ _ _ ({ dst := some 63, op := Op.load 35 _, type := _, pos := _, after := _, guard := _ } :: _) _ _; (refine wpList_load_blk rfl _ _ rfl w.heap.size 18 rfl 17 _ Try.underlying35 rfl sz_cmd _ _ (by assumption) rfl (rC zV zA zB zC zD zE zF zG yA yB yC yD yE yF yG yH yI yJ yK zW zX) rfl ?_)) | (go_at_call 41; go_must (refine (ref_commandBytes _ _ _ _ _ _ _ _ _ _ _ _ _ _ _ _ _ _ _ _ _ yL yM _ (hc1.later hT) (hc2.later hT) HCS.out HWF.out.cmd).mono ?_; rintro e w1 ⟨rfl, hbel⟩; have hT := later_trans hT hbel; have hW := blk_later hbel hW; have hB := blk_cell hW)))
  rw [rounds_succ]
  go_wp2_with fail
  go_ret2
  exact ⟨ret_str2 (bstr_eq (by simp [Msg.bytes, Msg.tail, numB])), by assumption⟩

set_option maxHeartbeats 2000000 in
set_option maxRecDepth 100000 in
theorem ref_marshal_7 (zY : Int) (zH zI zJ zK zL zM zN : Int) (zO zP zQ zR : Int) (zS : Bool) (zT zU : Int) (mn zZ jA : Int) (zV : Int) (zA zB zC zD zE zF zG : Int) (yA yB yC yD yE : Int) (yF : Option Addr) (yG yH : Nat) (yI : Option Addr) (yJ yK : Nat) (zW zX : Int) (jE : Option Addr) (jF jG : Nat) (yN yO yP yQ yR : Int) (yS : Option Addr) (yT yU : Nat) (yV : Option Addr) (yW yX : Nat) (jB jC : Int) (yL yY : List Row) (yM yZ : List Rep) (jD : List Vot) (w : World) (hv : VotesIn w.heap.size w ⟨jE, jF, jG⟩ jD) (hc1 : SlIn w.heap.size w ⟨yF, yG, yH⟩ 2 (yL.map Row.cells)) (hc2 : SlIn w.heap.size w ⟨yI, yJ, yK⟩ 7 (yM.map Rep.cells)) (hr1 : SlIn w.heap.size w ⟨yS, yT, yU⟩ 2 (yY.map Row.cells)) (hr2 : SlIn w.heap.size w ⟨yV, yW, yX⟩ 7 (yZ.map Rep.cells)) (hwf : (Msg.mk zY (Req.mk zH zI zJ zK zL zM zN) (Rep.mk zO zP zQ zR zS zT zU) mn zZ jA (Cmd.mk zV (Req.mk zA zB zC zD zE zF zG) (Rng.mk yA yB yC yD yE ⟨yF, yG, yH⟩ ⟨yI, yJ, yK⟩ yL yM) zW zX) ⟨jE, jF, jG⟩ (Rng.mk yN yO yP yQ yR ⟨yS, yT, yU⟩ ⟨yV, yW, yX⟩ yY yZ) jB jC jD).wf) (hk : zY = 7) (hok : (Msg.mk zY (Req.mk zH zI zJ zK zL zM zN) (Rep.mk zO zP zQ zR zS zT zU) mn zZ jA (Cmd.mk zV (Req.mk zA zB zC zD zE zF zG) (Rng.mk yA yB yC yD yE ⟨yF, yG, yH⟩ ⟨yI, yJ, yK⟩ yL yM) zW zX) ⟨jE, jF, jG⟩ (Rng.mk yN yO yP yQ yR ⟨yS, yT, yU⟩ ⟨yV, yW, yX⟩ yY yZ) jB jC jD).ok = true) :
    Calls Try.prog 12 #[.agg (List.toArray (rM zY zH zI zJ zK zL zM zN zO zP zQ zR zS zT zU mn zZ jA zV zA zB zC zD zE zF zG yA yB yC yD yE yF yG yH yI yJ yK zW zX jE jF jG yN yO yP yQ yR yS yT yU yV yW yX jB jC))] w fun e w' => e = .returned (.tuple #[.string (bstr (Msg.mk zY (Req.mk zH zI zJ zK zL zM zN) (Rep.mk zO zP zQ zR zS zT zU) mn zZ jA (Cmd.mk zV (Req.mk zA zB zC zD zE zF zG) (Rng.mk yA yB yC yD yE ⟨yF, yG, yH⟩ ⟨yI, yJ, yK⟩ yL yM) zW zX) ⟨jE, jF, jG⟩ (Rng.mk yN yO yP yQ yR ⟨yS, yT, yU⟩ ⟨yV, yW, yX⟩ yY yZ) jB jC jD).bytes), .int .i64 0]) ∧ Below w.heap.size w w' := by
  subst hk
  have HWF : Hid (Msg.wf (Msg.mk 7 (Req.mk zH zI zJ zK zL zM zN) (Rep.mk zO zP zQ zR zS zT zU) mn zZ jA (Cmd.mk zV (Req.mk zA zB zC zD zE zF zG) (Rng.mk yA yB yC yD yE ⟨yF, yG, yH⟩ ⟨yI, yJ, yK⟩ yL yM) zW zX) ⟨jE, jF, jG⟩ (Rng.mk yN yO yP yQ yR ⟨yS, yT, yU⟩ ⟨yV, yW, yX⟩ yY yZ) jB jC jD)) := hwf
  have HV0 : Hid ((7 : Int) = 4 ∨ jF = 0) := .inr (by have := hok; simp [Msg.ok] at this; simp [this])
  have hw1 := hwf.slot
  have hw2 := hwf.peer
  have hw3 := hwf.seq
  simp only [U8, U32] at hw1 hw2 hw3
  clear hwf
  obtain ⟨s, hs⟩ : ∃ s, s = bstr [98, 115] := ⟨_, rfl⟩
  have hsz : s.size = 2 := by rw [hs, bstr_size]; rfl
  have hl0 : ((s[0]'(by rw [hsz]; decide)).toNat : Int) = 98 := str_at hs rfl (by decide) _
  have hl1 : ((s[1]'(by rw [hsz]; decide)).toNat : Int) = 115 := str_at hs rfl (by decide) _
  have hap := bstr_append
  have hu0 := u64_in 7 (by omega)
  have hu1 := u64_in jA (by omega)
  have hu2 := u64_in jB (by omega)
  have hu3 := u64_in jC (by omega)
  have hz0 := sz_fit (numB 1 7) (ballotBytes mn zZ) (by (try simp only [List.length_append]); have := numB_len 1 7; have := bal_len mn zZ; omega)
  have hz1 := sz_fit (numB 1 7 ++ ballotBytes mn zZ) (numB 4 jA) (by (try simp only [List.length_append]); have := numB_len 1 7; have := bal_len mn zZ; have := numB_len 4 jA; omega)
  have hT := later_alloc w (.cells (List.toArray (rM 7 zH zI zJ zK zL zM zN zO zP zQ zR zS zT zU mn zZ jA zV zA zB zC zD zE zF zG yA yB yC yD yE yF yG yH yI yJ yK zW zX jE jF jG yN yO yP yQ yR yS yT yU yV yW yX jB jC)) 38)
  have hW := heap_alloc_new w (.cells (List.toArray (rM 7 zH zI zJ zK zL zM zN zO zP zQ zR zS zT zU mn zZ jA zV zA zB zC zD zE zF zG yA yB yC yD yE yF yG yH yI yJ yK zW zX jE jF jG yN yO yP yQ yR yS yT yU yV yW yX jB jC)) 38)
  go_enter Try.func12, Try.ntmps12
  go_wp2_with (first | (with_reducible show wpList _ _ _ ({ dst := some 10, op := Op.load 38 _, type := _, pos := _, after := _, guard := _ } :: _) _ _; (refine wpList_load_blk rfl _ _ rfl w.heap.size 0 rfl 45 _ Try.underlying38 rfl sz_msg _ _ (by assumption) rfl (rM 7 zH zI zJ zK zL zM zN zO zP zQ zR zS zT zU mn zZ jA zV zA zB zC zD zE zF zG yA yB yC yD yE yF yG yH yI yJ yK zW zX jE jF jG yN yO yP yQ yR yS yT yU yV yW yX jB jC) rfl ?_)) | (go_at_call 35; go_must (refine (ref_message_r _ _ _ _ _ _ _ _ _ _ _ _ _ _ _ _ _ _ _ _ _ _ _ _ _ _ _ _ _ _ _ _ _ _ _ _ _ _ _ _ _ _ _ _ _ _ _ _ _ _ _ _ _ _ _ yL yY yM yZ jD _ (hv.later hT) (hc1.later hT) (hc2.later hT) (hr1.later hT) (hr2.later hT) HWF.out HV0.out).mono ?_; rintro e w1 ⟨rfl, hbel⟩; rw [hok]; have hT := later_trans hT hbel; have hW := blk_later hbel hW; have hB := blk_cell hW)) | (go_at_call 36; go_must (refine (ref_letters_7 _).mono ?_; rintro e w1 ⟨rfl, hbel⟩; rw [← hs]; have hT := later_trans hT hbel; have hW := blk_later hbel hW; have hB := blk_cell hW)) | (go_at_call 37; go_must (refine (number_c _ _ _ (by omega)).mono ?_; rintro e w1 ⟨rfl, hbel⟩; have hT := later_trans hT hbel; have hW := blk_later hbel hW; have hB := blk_cell hW)))
  refine wp_loop_rounds 3 ?_
  rw [rounds_succ]
  go_wp2_with (first | (with_reducible show wpList _ _ _ ({ dst := some 48, op := Op.load 29 _, type := _, pos := _, after := _, guard := _ } :: _) _ _; (refine wpList_load_blk rfl _ _ rfl w.heap.size 15 rfl 2 _ Try.underlying29 rfl sz_bal _ _ (by assumption) rfl [.int .u32 mn, .int .u8 zZ] rfl ?_)) | (go_at_call 40; go_must (refine (ref_ballot _ _ _ HWF.out.n HWF.out.id).mono ?_; rintro e w1 ⟨rfl, hbel⟩; have hT := later_trans hT hbel; have hW := blk_later hbel hW; have hB := blk_cell hW)))
  rw [rounds_succ]
  go_wp2_with (first | (go_at_call 37; go_must (refine (number_c _ _ _ (by omega)).mono ?_; rintro e w1 ⟨rfl, hbel⟩; have hT := later_trans hT hbel; have hW := blk_later hbel hW; have hB := blk_cell hW)))
  rw [rounds_succ]
  go_wp2_with fail
  go_ret2
  exact ⟨ret_str2 (bstr_eq (by simp [Msg.bytes, Msg.tail, numB])), by assumption⟩

set_option maxHeartbeats 2000000 in
set_option maxRecDepth 100000 in
theorem ref_marshal_8 (zY : Int) (zH zI zJ zK zL zM zN : Int) (zO zP zQ zR : Int) (zS : Bool) (zT zU : Int) (mn zZ jA : Int) (zV : Int) (zA zB zC zD zE zF zG : Int) (yA yB yC yD yE : Int) (yF : Option Addr) (yG yH : Nat) (yI : Option Addr) (yJ yK : Nat) (zW zX : Int) (jE : Option Addr) (jF jG : Nat) (yN yO yP yQ yR : Int) (yS : Option Addr) (yT yU : Nat) (yV : Option Addr) (yW yX : Nat) (jB jC : Int) (yL yY : List Row) (yM yZ : List Rep) (jD : List Vot) (w : World) (hv : VotesIn w.heap.size w ⟨jE, jF, jG⟩ jD) (hc1 : SlIn w.heap.size w ⟨yF, yG, yH⟩ 2 (yL.map Row.cells)) (hc2 : SlIn w.heap.size w ⟨yI, yJ, yK⟩ 7 (yM.map Rep.cells)) (hr1 : SlIn w.heap.size w ⟨yS, yT, yU⟩ 2 (yY.map Row.cells)) (hr2 : SlIn w.heap.size w ⟨yV, yW, yX⟩ 7 (yZ.map Rep.cells)) (hwf : (Msg.mk zY (Req.mk zH zI zJ zK zL zM zN) (Rep.mk zO zP zQ zR zS zT zU) mn zZ jA (Cmd.mk zV (Req.mk zA zB zC zD zE zF zG) (Rng.mk yA yB yC yD yE ⟨yF, yG, yH⟩ ⟨yI, yJ, yK⟩ yL yM) zW zX) ⟨jE, jF, jG⟩ (Rng.mk yN yO yP yQ yR ⟨yS, yT, yU⟩ ⟨yV, yW, yX⟩ yY yZ) jB jC jD).wf) (hk : zY = 8) (hok : (Msg.mk zY (Req.mk zH zI zJ zK zL zM zN) (Rep.mk zO zP zQ zR zS zT zU) mn zZ jA (Cmd.mk zV (Req.mk zA zB zC zD zE zF zG) (Rng.mk yA yB yC yD yE ⟨yF, yG, yH⟩ ⟨yI, yJ, yK⟩ yL yM) zW zX) ⟨jE, jF, jG⟩ (Rng.mk yN yO yP yQ yR ⟨yS, yT, yU⟩ ⟨yV, yW, yX⟩ yY yZ) jB jC jD).ok = true) :
    Calls Try.prog 12 #[.agg (List.toArray (rM zY zH zI zJ zK zL zM zN zO zP zQ zR zS zT zU mn zZ jA zV zA zB zC zD zE zF zG yA yB yC yD yE yF yG yH yI yJ yK zW zX jE jF jG yN yO yP yQ yR yS yT yU yV yW yX jB jC))] w fun e w' => e = .returned (.tuple #[.string (bstr (Msg.mk zY (Req.mk zH zI zJ zK zL zM zN) (Rep.mk zO zP zQ zR zS zT zU) mn zZ jA (Cmd.mk zV (Req.mk zA zB zC zD zE zF zG) (Rng.mk yA yB yC yD yE ⟨yF, yG, yH⟩ ⟨yI, yJ, yK⟩ yL yM) zW zX) ⟨jE, jF, jG⟩ (Rng.mk yN yO yP yQ yR ⟨yS, yT, yU⟩ ⟨yV, yW, yX⟩ yY yZ) jB jC jD).bytes), .int .i64 0]) ∧ Below w.heap.size w w' := by
  subst hk
  have HWF : Hid (Msg.wf (Msg.mk 8 (Req.mk zH zI zJ zK zL zM zN) (Rep.mk zO zP zQ zR zS zT zU) mn zZ jA (Cmd.mk zV (Req.mk zA zB zC zD zE zF zG) (Rng.mk yA yB yC yD yE ⟨yF, yG, yH⟩ ⟨yI, yJ, yK⟩ yL yM) zW zX) ⟨jE, jF, jG⟩ (Rng.mk yN yO yP yQ yR ⟨yS, yT, yU⟩ ⟨yV, yW, yX⟩ yY yZ) jB jC jD)) := hwf
  have HV0 : Hid ((8 : Int) = 4 ∨ jF = 0) := .inr (by have := hok; simp [Msg.ok] at this; simp [this])
  have hw1 := hwf.slot
  have hw2 := hwf.peer
  have hw3 := hwf.seq
  simp only [U8, U32] at hw1 hw2 hw3
  clear hwf
  have HCS : Hid (Cmd.short (Cmd.mk zV (Req.mk zA zB zC zD zE zF zG) (Rng.mk yA yB yC yD yE ⟨yF, yG, yH⟩ ⟨yI, yJ, yK⟩ yL yM) zW zX)) := Cmd.ok_short (by have := hok; simp [Msg.ok] at this; simp [this])
  have HCL : Hid ((Cmd.mk zV (Req.mk zA zB zC zD zE zF zG) (Rng.mk yA yB yC yD yE ⟨yF, yG, yH⟩ ⟨yI, yJ, yK⟩ yL yM) zW zX).bytes.length ≤ 12001) := (Cmd.mk zV (Req.mk zA zB zC zD zE zF zG) (Rng.mk yA yB yC yD yE ⟨yF, yG, yH⟩ ⟨yI, yJ, yK⟩ yL yM) zW zX).len (fun e => (HCS.out e).1) (fun e => (HCS.out e).2)
  obtain ⟨s, hs⟩ : ∃ s, s = bstr [115, 99] := ⟨_, rfl⟩
  have hsz : s.size = 2 := by rw [hs, bstr_size]; rfl
  have hl0 : ((s[0]'(by rw [hsz]; decide)).toNat : Int) = 115 := str_at hs rfl (by decide) _
  have hl1 : ((s[1]'(by rw [hsz]; decide)).toNat : Int) = 99 := str_at hs rfl (by decide) _
  have hap := bstr_append
  have hu0 := u64_in 8 (by omega)
  have hu1 := u64_in jA (by omega)
  have hu2 := u64_in jB (by omega)
  have hu3 := u64_in jC (by omega)
  have hz0 := sz_fit (numB 1 8) (numB 4 jA) (by (try simp only [List.length_append]); have := numB_len 1 8; have := numB_len 4 jA; omega)
  have hz1 := sz_fit (numB 1 8 ++ numB 4 jA) ((Cmd.mk zV (Req.mk zA zB zC zD zE zF zG) (Rng.mk yA yB yC yD yE ⟨yF, yG, yH⟩ ⟨yI, yJ, yK⟩ yL yM) zW zX).bytes) (by (try simp only [List.length_append]); have := numB_len 1 8; have := numB_len 4 jA; have := HCL.out; omega)
  have hT := later_alloc w (.cells (List.toArray (rM 8 zH zI zJ zK zL zM zN zO zP zQ zR zS zT zU mn zZ jA zV zA zB zC zD zE zF zG yA yB yC yD yE yF yG yH yI yJ yK zW zX jE jF jG yN yO yP yQ yR yS yT yU yV yW yX jB jC)) 38)
  have hW := heap_alloc_new w (.cells (List.toArray (rM 8 zH zI zJ zK zL zM zN zO zP zQ zR zS zT zU mn zZ jA zV zA zB zC zD zE zF zG yA yB yC yD yE yF yG yH yI yJ yK zW zX jE jF jG yN yO yP yQ yR yS yT yU yV yW yX jB jC)) 38)
  go_enter Try.func12, Try.ntmps12
  go_wp2_with (first | (with_reducible show wpList _ _ _ ({ dst := some 10, op := Op.load 38 _, type := _, pos := _, after := _, guard := _ } :: _) _ _; (refine wpList_load_blk rfl _ _ rfl w.heap.size 0 rfl 45 _ Try.underlying38 rfl sz_msg _ _ (by assumption) rfl (rM 8 zH zI zJ zK zL zM zN zO zP zQ zR zS zT zU mn zZ jA zV zA zB zC zD zE zF zG yA yB yC yD yE yF yG yH yI yJ yK zW zX jE jF jG yN yO yP yQ yR yS yT yU yV yW yX jB jC) rfl ?_)) | (go_at_call 35; go_must (refine (ref_message_r _ _ _ _ _ _ _ _ _ _ _ _ _ _ _ _ _ _ _ _ _ _ _ _ _ _ _ _ _ _ _ _ _ _ _ _ _ _ _ _ _ _ _ _ _ _ _ _ _ _ _ _ _ _ _ yL yY yM yZ jD _ (hv.later hT) (hc1.later hT) (hc2.later hT) (hr1.later hT) (hr2.later hT) HWF.out HV0.out).mono ?_; rintro e w1 ⟨rfl, hbel⟩; rw [hok]; have hT := later_trans hT hbel; have hW := blk_later hbel hW; have hB := blk_cell hW)) | (go_at_call 36; go_must (refine (ref_letters_8 _).mono ?_; rintro e w1 ⟨rfl, hbel⟩; rw [← hs]; have hT := later_trans hT hbel; have hW := blk_later hbel hW; have hB := blk_cell hW)) | (go_at_call 37; go_must (refine (number_c _ _ _ (by omega)).mono ?_; rintro e w1 ⟨rfl, hbel⟩; have hT := later_trans hT hbel; have hW := blk_later hbel hW; have hB := blk_cell hW)))
  refine wp_loop_rounds 3 ?_
  rw [rounds_succ]
  go_wp2_with (first | (go_at_call 37; go_must (refine (number_c _ _ _ (by omega)).mono ?_; rintro e w1 ⟨rfl, hbel⟩; have hT := later_trans hT hbel; have hW := blk_later hbel hW; have hB := blk_cell hW)))
  rw [rounds_succ]
  go_wp2_with (first | (with_reducible show wpList _ _ _ ({ dst := some 63, op := Op.load 35 _, type := _, pos := _, after := _, guard := _ } :: _) _ _; (refine wpList_load_blk rfl _ _ rfl w.heap.size 18 rfl 17 _ Try.underlying35 rfl sz_cmd _ _ (by assumption) rfl (rC zV zA zB zC zD zE zF zG yA yB yC yD yE yF yG yH yI yJ yK zW zX) rfl ?_)) | (go_at_call 41; go_must (refine (ref_commandBytes _ _ _ _ _ _ _ _ _ _ _ _ _ _ _ _ _ _ _ _ _ yL yM _ (hc1.later hT) (hc2.later hT) HCS.out HWF.out.cmd).mono ?_; rintro e w1 ⟨rfl, hbel⟩; have hT := later_trans hT hbel; have hW := blk_later hbel hW; have hB := blk_cell hW)))
  rw [rounds_succ]
  go_wp2_with fail
  go_ret2
  exact ⟨ret_str2 (bstr_eq (by simp [Msg.bytes, Msg.tail, numB])), by assumption⟩

set_option maxHeartbeats 2000000 in
set_option maxRecDepth 100000 in
theorem ref_marshal_9 (zY : Int) (zH zI zJ zK zL zM zN : Int) (zO zP zQ zR : Int) (zS : Bool) (zT zU : Int) (mn zZ jA : Int) (zV : Int) (zA zB zC zD zE zF zG : Int) (yA yB yC yD yE : Int) (yF : Option Addr) (yG yH : Nat) (yI : Option Addr) (yJ yK : Nat) (zW zX : Int) (jE : Option Addr) (jF jG : Nat) (yN yO yP yQ yR : Int) (yS : Option Addr) (yT yU : Nat) (yV : Option Addr) (yW yX : Nat) (jB jC : Int) (yL yY : List Row) (yM yZ : List Rep) (jD : List Vot) (w : World) (hv : VotesIn w.heap.size w ⟨jE, jF, jG⟩ jD) (hc1 : SlIn w.heap.size w ⟨yF, yG, yH⟩ 2 (yL.map Row.cells)) (hc2 : SlIn w.heap.size w ⟨yI, yJ, yK⟩ 7 (yM.map Rep.cells)) (hr1 : SlIn w.heap.size w ⟨yS, yT, yU⟩ 2 (yY.map Row.cells)) (hr2 : SlIn w.heap.size w ⟨yV, yW, yX⟩ 7 (yZ.map Rep.cells)) (hwf : (Msg.mk zY (Req.mk zH zI zJ zK zL zM zN) (Rep.mk zO zP zQ zR zS zT zU) mn zZ jA (Cmd.mk zV (Req.mk zA zB zC zD zE zF zG) (Rng.mk yA yB yC yD yE ⟨yF, yG, yH⟩ ⟨yI, yJ, yK⟩ yL yM) zW zX) ⟨jE, jF, jG⟩ (Rng.mk yN yO yP yQ yR ⟨yS, yT, yU⟩ ⟨yV, yW, yX⟩ yY yZ) jB jC jD).wf) (hk : zY = 9) (hok : (Msg.mk zY (Req.mk zH zI zJ zK zL zM zN) (Rep.mk zO zP zQ zR zS zT zU) mn zZ jA (Cmd.mk zV (Req.mk zA zB zC zD zE zF zG) (Rng.mk yA yB yC yD yE ⟨yF, yG, yH⟩ ⟨yI, yJ, yK⟩ yL yM) zW zX) ⟨jE, jF, jG⟩ (Rng.mk yN yO yP yQ yR ⟨yS, yT, yU⟩ ⟨yV, yW, yX⟩ yY yZ) jB jC jD).ok = true) :
    Calls Try.prog 12 #[.agg (List.toArray (rM zY zH zI zJ zK zL zM zN zO zP zQ zR zS zT zU mn zZ jA zV zA zB zC zD zE zF zG yA yB yC yD yE yF yG yH yI yJ yK zW zX jE jF jG yN yO yP yQ yR yS yT yU yV yW yX jB jC))] w fun e w' => e = .returned (.tuple #[.string (bstr (Msg.mk zY (Req.mk zH zI zJ zK zL zM zN) (Rep.mk zO zP zQ zR zS zT zU) mn zZ jA (Cmd.mk zV (Req.mk zA zB zC zD zE zF zG) (Rng.mk yA yB yC yD yE ⟨yF, yG, yH⟩ ⟨yI, yJ, yK⟩ yL yM) zW zX) ⟨jE, jF, jG⟩ (Rng.mk yN yO yP yQ yR ⟨yS, yT, yU⟩ ⟨yV, yW, yX⟩ yY yZ) jB jC jD).bytes), .int .i64 0]) ∧ Below w.heap.size w w' := by
  subst hk
  have HWF : Hid (Msg.wf (Msg.mk 9 (Req.mk zH zI zJ zK zL zM zN) (Rep.mk zO zP zQ zR zS zT zU) mn zZ jA (Cmd.mk zV (Req.mk zA zB zC zD zE zF zG) (Rng.mk yA yB yC yD yE ⟨yF, yG, yH⟩ ⟨yI, yJ, yK⟩ yL yM) zW zX) ⟨jE, jF, jG⟩ (Rng.mk yN yO yP yQ yR ⟨yS, yT, yU⟩ ⟨yV, yW, yX⟩ yY yZ) jB jC jD)) := hwf
  have HV0 : Hid ((9 : Int) = 4 ∨ jF = 0) := .inr (by have := hok; simp [Msg.ok] at this; simp [this])
  have hw1 := hwf.slot
  have hw2 := hwf.peer
  have hw3 := hwf.seq
  simp only [U8, U32] at hw1 hw2 hw3
  clear hwf
  have hro : (Rng.mk yN yO yP yQ yR ⟨yS, yT, yU⟩ ⟨yV, yW, yX⟩ yY yZ).ok = true := by have := hok; simp [Msg.ok] at this; simp [this]
  have HRS : Hid (yY.length ≤ 255 ∧ yZ.length ≤ 255) := by have := hro; simp [Rng.ok, rowsOk, dupsOk] at this; exact ⟨this.1.2.1, this.2.1⟩
  have HRL : Hid ((Rng.mk yN yO yP yQ yR ⟨yS, yT, yU⟩ ⟨yV, yW, yX⟩ yY yZ).bytes.length ≤ 12000) := (Rng.mk yN yO yP yQ yR ⟨yS, yT, yU⟩ ⟨yV, yW, yX⟩ yY yZ).len HRS.out.1 HRS.out.2
  clear hro
  obtain ⟨s, hs⟩ : ∃ s, s = bstr [109] := ⟨_, rfl⟩
  have hsz : s.size = 1 := by rw [hs, bstr_size]; rfl
  have hl0 : ((s[0]'(by rw [hsz]; decide)).toNat : Int) = 109 := str_at hs rfl (by decide) _
  have hap := bstr_append
  have hu0 := u64_in 9 (by omega)
  have hu1 := u64_in jA (by omega)
  have hu2 := u64_in jB (by omega)
  have hu3 := u64_in jC (by omega)
  have hz0 := sz_fit (numB 1 9) ((Rng.mk yN yO yP yQ yR ⟨yS, yT, yU⟩ ⟨yV, yW, yX⟩ yY yZ).bytes) (by (try simp only [List.length_append]); have := numB_len 1 9; have := HRL.out; omega)
  have hT := later_alloc w (.cells (List.toArray (rM 9 zH zI zJ zK zL zM zN zO zP zQ zR zS zT zU mn zZ jA zV zA zB zC zD zE zF zG yA yB yC yD yE yF yG yH yI yJ yK zW zX jE jF jG yN yO yP yQ yR yS yT yU yV yW yX jB jC)) 38)
  have hW := heap_alloc_new w (.cells (List.toArray (rM 9 zH zI zJ zK zL zM zN zO zP zQ zR zS zT zU mn zZ jA zV zA zB zC zD zE zF zG yA yB yC yD yE yF yG yH yI yJ yK zW zX jE jF jG yN yO yP yQ yR yS yT yU yV yW yX jB jC)) 38)
  go_enter Try.func12, Try.ntmps12
  go_wp2_with (first | (with_reducible show wpList _ _ _ ({ dst := some 10, op := Op.load 38 _, type := _, pos := _, after := _, guard := _ } :: _) _ _; (refine wpList_load_blk rfl _ _ rfl w.heap.size 0 rfl 45 _ Try.underlying38 rfl sz_msg _ _ (by assumption) rfl (rM 9 zH zI zJ zK zL zM zN zO zP zQ zR zS zT zU mn zZ jA zV zA zB zC zD zE zF zG yA yB yC yD yE yF yG yH yI yJ yK zW zX jE jF jG yN yO yP yQ yR yS yT yU yV yW yX jB jC) rfl ?_)) | (go_at_call 35; go_must (refine (ref_message_r _ _ _ _ _ _ _ _ _ _ _ _ _ _ _ _ _ _ _ _ _ _ _ _ _ _ _ _ _ _ _ _ _ _ _ _ _ _ _ _ _ _ _ _ _ _ _ _ _ _ _ _ _ _ _ yL yY yM yZ jD _ (hv.later hT) (hc1.later hT) (hc2.later hT) (hr1.later hT) (hr2.later hT) HWF.out HV0.out).mono ?_; rintro e w1 ⟨rfl, hbel⟩; rw [hok]; have hT := later_trans hT hbel; have hW := blk_later hbel hW; have hB := blk_cell hW)) | (go_at_call 36; go_must (refine (ref_letters_9 _).mono ?_; rintro e w1 ⟨rfl, hbel⟩; rw [← hs]; have hT := later_trans hT hbel; have hW := blk_later hbel hW; have hB := blk_cell hW)) | (go_at_call 37; go_must (refine (number_c _ _ _ (by omega)).mono ?_; rintro e w1 ⟨rfl, hbel⟩; have hT := later_trans hT hbel; have hW := blk_later hbel hW; have hB := blk_cell hW)))
  refine wp_loop_rounds 2 ?_
  rw [rounds_succ]
  go_wp2_with (first | (with_reducible show wpList _ _ _ ({ dst := some 105, op := Op.load 33 _, type := _, pos := _, after := _, guard := _ } :: _) _ _; (refine wpList_load_blk rfl _ _ rfl w.heap.size 36 rfl 7 _ Try.underlying33 rfl sz_rng _ _ (by assumption) rfl (rR yN yO yP yQ yR yS yT yU yV yW yX) rfl ?_)) | (go_at_call 42; go_must (refine (ref_rangeBytes _ _ _ _ _ _ _ _ _ _ _ yY yZ _ (hr1.later hT) (hr2.later hT) HRS.out.1 HRS.out.2 HWF.out.rng).mono ?_; rintro e w1 ⟨rfl, hbel⟩; have hT := later_trans hT hbel; have hW := blk_later hbel hW; have hB := blk_cell hW)))
  rw [rounds_succ]
  go_wp2_with fail
  go_ret2
  exact ⟨ret_str2 (bstr_eq (by simp [Msg.bytes, Msg.tail, numB])), by assumption⟩

end Go.Proofs.Ytignemioillaiaa

