/- The document's answer: the bytes of a message. The document's answer: the bytes of a message. The document's answer: Marshal, every message. The document's Marshal of a message that is a Promise or has no votes. -/
import Derived.Test.YtignemioillaiaaD4
import Derived.Test.YtignemioillaiaaK14
import Derived.Test.YtignemioillaiaaC4
import Derived.Test.YtignemioillaiaaO1
namespace Go.Proofs.Ytignemioillaiaa
open Go.RowKit

set_option maxHeartbeats 2000000 in
set_option maxRecDepth 100000 in
theorem ref_marshal_10 (zY : Int) (zH zI zJ zK zL zM zN : Int) (zO zP zQ zR : Int) (zS : Bool) (zT zU : Int) (mn zZ jA : Int) (zV : Int) (zA zB zC zD zE zF zG : Int) (yA yB yC yD yE : Int) (yF : Option Addr) (yG yH : Nat) (yI : Option Addr) (yJ yK : Nat) (zW zX : Int) (jE : Option Addr) (jF jG : Nat) (yN yO yP yQ yR : Int) (yS : Option Addr) (yT yU : Nat) (yV : Option Addr) (yW yX : Nat) (jB jC : Int) (yL yY : List Row) (yM yZ : List Rep) (jD : List Vot) (w : World) (hv : VotesIn w.heap.size w ⟨jE, jF, jG⟩ jD) (hc1 : SlIn w.heap.size w ⟨yF, yG, yH⟩ 2 (yL.map Row.cells)) (hc2 : SlIn w.heap.size w ⟨yI, yJ, yK⟩ 7 (yM.map Rep.cells)) (hr1 : SlIn w.heap.size w ⟨yS, yT, yU⟩ 2 (yY.map Row.cells)) (hr2 : SlIn w.heap.size w ⟨yV, yW, yX⟩ 7 (yZ.map Rep.cells)) (hwf : (Msg.mk zY (Req.mk zH zI zJ zK zL zM zN) (Rep.mk zO zP zQ zR zS zT zU) mn zZ jA (Cmd.mk zV (Req.mk zA zB zC zD zE zF zG) (Rng.mk yA yB yC yD yE ⟨yF, yG, yH⟩ ⟨yI, yJ, yK⟩ yL yM) zW zX) ⟨jE, jF, jG⟩ (Rng.mk yN yO yP yQ yR ⟨yS, yT, yU⟩ ⟨yV, yW, yX⟩ yY yZ) jB jC jD).wf) (hk : zY = 10) (hok : (Msg.mk zY (Req.mk zH zI zJ zK zL zM zN) (Rep.mk zO zP zQ zR zS zT zU) mn zZ jA (Cmd.mk zV (Req.mk zA zB zC zD zE zF zG) (Rng.mk yA yB yC yD yE ⟨yF, yG, yH⟩ ⟨yI, yJ, yK⟩ yL yM) zW zX) ⟨jE, jF, jG⟩ (Rng.mk yN yO yP yQ yR ⟨yS, yT, yU⟩ ⟨yV, yW, yX⟩ yY yZ) jB jC jD).ok = true) :
    Calls Try.prog 12 #[.agg (List.toArray (rM zY zH zI zJ zK zL zM zN zO zP zQ zR zS zT zU mn zZ jA zV zA zB zC zD zE zF zG yA yB yC yD yE yF yG yH yI yJ yK zW zX jE jF jG yN yO yP yQ yR yS yT yU yV yW yX jB jC))] w fun e w' => e = .returned (.tuple #[.string (bstr (Msg.mk zY (Req.mk zH zI zJ zK zL zM zN) (Rep.mk zO zP zQ zR zS zT zU) mn zZ jA (Cmd.mk zV (Req.mk zA zB zC zD zE zF zG) (Rng.mk yA yB yC yD yE ⟨yF, yG, yH⟩ ⟨yI, yJ, yK⟩ yL yM) zW zX) ⟨jE, jF, jG⟩ (Rng.mk yN yO yP yQ yR ⟨yS, yT, yU⟩ ⟨yV, yW, yX⟩ yY yZ) jB jC jD).bytes), .int .i64 0]) ∧ Below w.heap.size w w' := by
  subst hk
  have HWF : Hid (Msg.wf (Msg.mk 10 (Req.mk zH zI zJ zK zL zM zN) (Rep.mk zO zP zQ zR zS zT zU) mn zZ jA (Cmd.mk zV (Req.mk zA zB zC zD zE zF zG) (Rng.mk yA yB yC yD yE ⟨yF, yG, yH⟩ ⟨yI, yJ, yK⟩ yL yM) zW zX) ⟨jE, jF, jG⟩ (Rng.mk yN yO yP yQ yR ⟨yS, yT, yU⟩ ⟨yV, yW, yX⟩ yY yZ) jB jC jD)) := hwf
  have hw1 := hwf.slot
  have hw2 := hwf.peer
  have hw3 := hwf.seq
  simp only [U8, U32] at hw1 hw2 hw3
  have HV0 : Hid ((10 : Int) = 4 ∨ jF = 0) := .inr (by have := hok; simp [Msg.ok] at this; simp [this])
  clear hwf
  obtain ⟨s, hs⟩ : ∃ s, s = bstr [112] := ⟨_, rfl⟩
  have hsz : s.size = 1 := by rw [hs, bstr_size]; rfl
  have hl0 : ((s[0]'(by rw [hsz]; decide)).toNat : Int) = 112 := str_at hs rfl (by decide) _
  have hap := bstr_append
  have hu0 := u64_in 10 (by omega)
  have hu1 := u64_in jA (by omega)
  have hu2 := u64_in jB (by omega)
  have hu3 := u64_in jC (by omega)
  have hz0 := fun k0 k1 => sz_fit (numB k0 10) (numB k1 jB) (by have := numB_len k0 10; have := numB_len k1 jB; omega)
  have hz1 := fun k0 k1 k2 => sz_fit (numB k0 10 ++ numB k1 jB) (numB k2 jC) (by simp only [List.length_append]; have := numB_len k0 10; have := numB_len k1 jB; have := numB_len k2 jC; omega)
  have hT := later_alloc w (.cells (List.toArray (rM 10 zH zI zJ zK zL zM zN zO zP zQ zR zS zT zU mn zZ jA zV zA zB zC zD zE zF zG yA yB yC yD yE yF yG yH yI yJ yK zW zX jE jF jG yN yO yP yQ yR yS yT yU yV yW yX jB jC)) 38)
  have hW := heap_alloc_new w (.cells (List.toArray (rM 10 zH zI zJ zK zL zM zN zO zP zQ zR zS zT zU mn zZ jA zV zA zB zC zD zE zF zG yA yB yC yD yE yF yG yH yI yJ yK zW zX jE jF jG yN yO yP yQ yR yS yT yU yV yW yX jB jC)) 38)
  go_enter Try.func12, Try.ntmps12
  go_wp2_with (first | (with_reducible show wpList _ _ _ ({ dst := some 10, op := Op.load 38 _, type := _, pos := _, after := _, guard := _ } :: _) _ _; (refine wpList_load_blk rfl _ _ rfl w.heap.size 0 rfl 45 _ Try.underlying38 rfl sz_msg _ _ (by assumption) rfl (rM 10 zH zI zJ zK zL zM zN zO zP zQ zR zS zT zU mn zZ jA zV zA zB zC zD zE zF zG yA yB yC yD yE yF yG yH yI yJ yK zW zX jE jF jG yN yO yP yQ yR yS yT yU yV yW yX jB jC) rfl ?_)) | (go_at_call 35; go_must (refine (ref_message_r _ _ _ _ _ _ _ _ _ _ _ _ _ _ _ _ _ _ _ _ _ _ _ _ _ _ _ _ _ _ _ _ _ _ _ _ _ _ _ _ _ _ _ _ _ _ _ _ _ _ _ _ _ _ _ yL yY yM yZ jD _ (hv.later hT) (hc1.later hT) (hc2.later hT) (hr1.later hT) (hr2.later hT) HWF.out HV0.out).mono ?_; rintro e w1 ⟨rfl, hbel⟩; rw [hok]; have hT := later_trans hT hbel; have hW := blk_later hbel hW; have hB := blk_cell hW)) | (go_at_call 36; go_must (refine (ref_letters_10 _).mono ?_; rintro e w1 ⟨rfl, hbel⟩; rw [← hs]; have hT := later_trans hT hbel; have hW := blk_later hbel hW; have hB := blk_cell hW)) | (go_at_call 37; go_must (refine (number_c _ _ _ (by omega)).mono ?_; rintro e w1 ⟨rfl, hbel⟩; have hT := later_trans hT hbel; have hW := blk_later hbel hW; have hB := blk_cell hW)))
  refine wp_loop_rounds 2 ?_
  rw [rounds_succ]
  go_wp2_with (first | (with_reducible show wpList _ _ _ ({ dst := some 10, op := Op.load 38 _, type := _, pos := _, after := _, guard := _ } :: _) _ _; (refine wpList_load_blk rfl _ _ rfl w.heap.size 0 rfl 45 _ Try.underlying38 rfl sz_msg _ _ (by assumption) rfl (rM 10 zH zI zJ zK zL zM zN zO zP zQ zR zS zT zU mn zZ jA zV zA zB zC zD zE zF zG yA yB yC yD yE yF yG yH yI yJ yK zW zX jE jF jG yN yO yP yQ yR yS yT yU yV yW yX jB jC) rfl ?_)) | (go_at_call 35; go_must (refine (ref_message_r _ _ _ _ _ _ _ _ _ _ _ _ _ _ _ _ _ _ _ _ _ _ _ _ _ _ _ _ _ _ _ _ _ _ _ _ _ _ _ _ _ _ _ _ _ _ _ _ _ _ _ _ _ _ _ yL yY yM yZ jD _ (hv.later hT) (hc1.later hT) (hc2.later hT) (hr1.later hT) (hr2.later hT) HWF.out HV0.out).mono ?_; rintro e w1 ⟨rfl, hbel⟩; rw [hok]; have hT := later_trans hT hbel; have hW := blk_later hbel hW; have hB := blk_cell hW)) | (go_at_call 36; go_must (refine (ref_letters_10 _).mono ?_; rintro e w1 ⟨rfl, hbel⟩; rw [← hs]; have hT := later_trans hT hbel; have hW := blk_later hbel hW; have hB := blk_cell hW)) | (go_at_call 37; go_must (refine (number_c _ _ _ (by omega)).mono ?_; rintro e w1 ⟨rfl, hbel⟩; have hT := later_trans hT hbel; have hW := blk_later hbel hW; have hB := blk_cell hW)))
  have MK : Hid (∀ w', Below w1.heap.size w1 w' → (Below w1.heap.size w1 w' ∧ w'.cell? ⟨w.heap.size, 43, none⟩ = some (.int .u8 jB) ∧ w'.cell? ⟨w.heap.size, 44, none⟩ = some (.int .u32 jC))) := fun w' hb => ⟨hb, blk hb hW 43, blk hb hW 44⟩
  go_region_held3 (fun w' => Below w1.heap.size w1 w' ∧ w'.cell? ⟨w.heap.size, 43, none⟩ = some (.int .u8 jB) ∧ w'.cell? ⟨w.heap.size, 44, none⟩ = some (.int .u32 jC)) (first | exact MK.out _ (Below.refl _ _).drew | exact MK.out _ (held_next (by assumption) (by assumption)) | exact MK.out _ (held_drew (by assumption))) (first | (go_at_call 37; refine (number_c _ _ _ (by omega)).mono ?_; rintro e w2 ⟨rfl, hbel1⟩))
  go_wp2_with fail
  rw [rounds_succ]
  go_wp2_with fail
  go_ret2
  exact ⟨ret_str2 (bstr_eq (by simp [Msg.bytes, Msg.tail, numB])), later_trans hT (And.left (by assumption))⟩

end Go.Proofs.Ytignemioillaiaa

namespace Go.Proofs.Ytignemioillaiaa
open Go.RowKit

set_option maxHeartbeats 2000000 in
set_option maxRecDepth 100000 in
theorem ref_marshal_4 (zY : Int) (zH zI zJ zK zL zM zN : Int) (zO zP zQ zR : Int) (zS : Bool) (zT zU : Int) (mn zZ jA : Int) (zV : Int) (zA zB zC zD zE zF zG : Int) (yA yB yC yD yE : Int) (yF : Option Addr) (yG yH : Nat) (yI : Option Addr) (yJ yK : Nat) (zW zX : Int) (jE : Option Addr) (jF jG : Nat) (yN yO yP yQ yR : Int) (yS : Option Addr) (yT yU : Nat) (yV : Option Addr) (yW yX : Nat) (jB jC : Int) (yL yY : List Row) (yM yZ : List Rep) (jD : List Vot) (w : World) (hv : VotesIn w.heap.size w ⟨jE, jF, jG⟩ jD) (hc1 : SlIn w.heap.size w ⟨yF, yG, yH⟩ 2 (yL.map Row.cells)) (hc2 : SlIn w.heap.size w ⟨yI, yJ, yK⟩ 7 (yM.map Rep.cells)) (hr1 : SlIn w.heap.size w ⟨yS, yT, yU⟩ 2 (yY.map Row.cells)) (hr2 : SlIn w.heap.size w ⟨yV, yW, yX⟩ 7 (yZ.map Rep.cells)) (hwf : (Msg.mk zY (Req.mk zH zI zJ zK zL zM zN) (Rep.mk zO zP zQ zR zS zT zU) mn zZ jA (Cmd.mk zV (Req.mk zA zB zC zD zE zF zG) (Rng.mk yA yB yC yD yE ⟨yF, yG, yH⟩ ⟨yI, yJ, yK⟩ yL yM) zW zX) ⟨jE, jF, jG⟩ (Rng.mk yN yO yP yQ yR ⟨yS, yT, yU⟩ ⟨yV, yW, yX⟩ yY yZ) jB jC jD).wf) (hk : zY = 4) (hok : (Msg.mk zY (Req.mk zH zI zJ zK zL zM zN) (Rep.mk zO zP zQ zR zS zT zU) mn zZ jA (Cmd.mk zV (Req.mk zA zB zC zD zE zF zG) (Rng.mk yA yB yC yD yE ⟨yF, yG, yH⟩ ⟨yI, yJ, yK⟩ yL yM) zW zX) ⟨jE, jF, jG⟩ (Rng.mk yN yO yP yQ yR ⟨yS, yT, yU⟩ ⟨yV, yW, yX⟩ yY yZ) jB jC jD).ok = true) :
    Calls Try.prog 12 #[.agg (List.toArray (rM zY zH zI zJ zK zL zM zN zO zP zQ zR zS zT zU mn zZ jA zV zA zB zC zD zE zF zG yA yB yC yD yE yF yG yH yI yJ yK zW zX jE jF jG yN yO yP yQ yR yS yT yU yV yW yX jB jC))] w fun e w' => e = .returned (.tuple #[.string (bstr (Msg.mk zY (Req.mk zH zI zJ zK zL zM zN) (Rep.mk zO zP zQ zR zS zT zU) mn zZ jA (Cmd.mk zV (Req.mk zA zB zC zD zE zF zG) (Rng.mk yA yB yC yD yE ⟨yF, yG, yH⟩ ⟨yI, yJ, yK⟩ yL yM) zW zX) ⟨jE, jF, jG⟩ (Rng.mk yN yO yP yQ yR ⟨yS, yT, yU⟩ ⟨yV, yW, yX⟩ yY yZ) jB jC jD).bytes), .int .i64 0]) ∧ Below w.heap.size w w' := by
  subst hk
  have HWF : Hid (Msg.wf (Msg.mk 4 (Req.mk zH zI zJ zK zL zM zN) (Rep.mk zO zP zQ zR zS zT zU) mn zZ jA (Cmd.mk zV (Req.mk zA zB zC zD zE zF zG) (Rng.mk yA yB yC yD yE ⟨yF, yG, yH⟩ ⟨yI, yJ, yK⟩ yL yM) zW zX) ⟨jE, jF, jG⟩ (Rng.mk yN yO yP yQ yR ⟨yS, yT, yU⟩ ⟨yV, yW, yX⟩ yY yZ) jB jC jD)) := hwf
  have hw1 := hwf.slot
  have hw2 := hwf.peer
  have hw3 := hwf.seq
  simp only [U8, U32] at hw1 hw2 hw3
  have HV0 : Hid ((4 : Int) = 4 ∨ jF = 0) := .inl rfl
  clear hwf
  obtain ⟨s, hs⟩ : ∃ s, s = bstr [98, 118] := ⟨_, rfl⟩
  have hsz : s.size = 2 := by rw [hs, bstr_size]; rfl
  have hl0 : ((s[0]'(by rw [hsz]; decide)).toNat : Int) = 98 := str_at hs rfl (by decide) _
  have hl1 : ((s[1]'(by rw [hsz]; decide)).toNat : Int) = 118 := str_at hs rfl (by decide) _
  have hap := bstr_append
  have hu0 := u64_in 4 (by omega)
  have hu1 := u64_in jA (by omega)
  have hu2 := u64_in jB (by omega)
  have hu3 := u64_in jC (by omega)
  have hz0 := sz_fit (numB 1 4) (ballotBytes mn zZ) (by (try simp only [List.length_append]); have := numB_len 1 4; have := bal_len mn zZ; omega)
  have hvo : votesOk jD = true := by have := hok; simp [Msg.ok] at this; simp [this]
  have HVS : Hid (∀ (i : Nat) (x : Vot), jD[i]? = some x → x.cmd.short) := (votesOk_all hvo).2
  have hv255 : jD.length ≤ 255 := (votesOk_all hvo).1
  have hlv : jF = jD.length := by simpa using hv.sl.len
  have hm255 : jF ≤ 255 := by omega
  have HL : Hid (jF = jD.length) := hlv
  clear hlv hv255 hvo
  have hu9 := u64_in (jF : Int) (by omega)
  have hz9 := sz_fit (numB 1 4 ++ ballotBytes mn zZ) (numB 1 (jF : Int)) (by simp only [List.length_append]; have := numB_len 1 4; have := bal_len mn zZ; have := numB_len 1 (jF : Int); omega)
  have hT := later_alloc w (.cells (List.toArray (rM 4 zH zI zJ zK zL zM zN zO zP zQ zR zS zT zU mn zZ jA zV zA zB zC zD zE zF zG yA yB yC yD yE yF yG yH yI yJ yK zW zX jE jF jG yN yO yP yQ yR yS yT yU yV yW yX jB jC)) 38)
  have hW := heap_alloc_new w (.cells (List.toArray (rM 4 zH zI zJ zK zL zM zN zO zP zQ zR zS zT zU mn zZ jA zV zA zB zC zD zE zF zG yA yB yC yD yE yF yG yH yI yJ yK zW zX jE jF jG yN yO yP yQ yR yS yT yU yV yW yX jB jC)) 38)
  go_enter Try.func12, Try.ntmps12
  go_wp2_with (first | (with_reducible show wpList _ _ _ ({ dst := some 10, op := Op.load 38 _, type := _, pos := _, after := _, guard := _ } :: _) _ _; (refine wpList_load_blk rfl _ _ rfl w.heap.size 0 rfl 45 _ Try.underlying38 rfl sz_msg _ _ (by assumption) rfl (rM 4 zH zI zJ zK zL zM zN zO zP zQ zR zS zT zU mn zZ jA zV zA zB zC zD zE zF zG yA yB yC yD yE yF yG yH yI yJ yK zW zX jE jF jG yN yO yP yQ yR yS yT yU yV yW yX jB jC) rfl ?_)) | (go_at_call 35; go_must (refine (ref_message_r _ _ _ _ _ _ _ _ _ _ _ _ _ _ _ _ _ _ _ _ _ _ _ _ _ _ _ _ _ _ _ _ _ _ _ _ _ _ _ _ _ _ _ _ _ _ _ _ _ _ _ _ _ _ _ yL yY yM yZ jD _ (hv.later hT) (hc1.later hT) (hc2.later hT) (hr1.later hT) (hr2.later hT) HWF.out HV0.out).mono ?_; rintro e w1 ⟨rfl, hbel⟩; rw [hok]; have hT := later_trans hT hbel; have hW := blk_later hbel hW; have hB := blk_cell hW)) | (go_at_call 36; go_must (refine (ref_letters_4 _).mono ?_; rintro e w1 ⟨rfl, hbel⟩; rw [← hs]; have hT := later_trans hT hbel; have hW := blk_later hbel hW; have hB := blk_cell hW)) | (go_at_call 37; go_must (refine (number_c _ _ _ (by omega)).mono ?_; rintro e w1 ⟨rfl, hbel⟩; have hT := later_trans hT hbel; have hW := blk_later hbel hW; have hB := blk_cell hW)) | (with_reducible show wpList _ _ _ ({ dst := some 48, op := Op.load 29 _, type := _, pos := _, after := _, guard := _ } :: _) _ _; (refine wpList_load_blk rfl _ _ rfl w.heap.size 15 rfl 2 _ Try.underlying29 rfl sz_bal _ _ (by assumption) rfl [.int .u32 mn, .int .u8 zZ] rfl ?_)) | (go_at_call 40; go_must (refine (ref_ballot _ _ _ HWF.out.n HWF.out.id).mono ?_; rintro e w1 ⟨rfl, hbel⟩; have hT := later_trans hT hbel; have hW := blk_later hbel hW; have hB := blk_cell hW)))
  refine wp_loop_rounds 3 ?_
  rw [rounds_succ]
  go_wp2_with (first | (with_reducible show wpList _ _ _ ({ dst := some 10, op := Op.load 38 _, type := _, pos := _, after := _, guard := _ } :: _) _ _; (refine wpList_load_blk rfl _ _ rfl w.heap.size 0 rfl 45 _ Try.underlying38 rfl sz_msg _ _ (by assumption) rfl (rM 4 zH zI zJ zK zL zM zN zO zP zQ zR zS zT zU mn zZ jA zV zA zB zC zD zE zF zG yA yB yC yD yE yF yG yH yI yJ yK zW zX jE jF jG yN yO yP yQ yR yS yT yU yV yW yX jB jC) rfl ?_)) | (go_at_call 35; go_must (refine (ref_message_r _ _ _ _ _ _ _ _ _ _ _ _ _ _ _ _ _ _ _ _ _ _ _ _ _ _ _ _ _ _ _ _ _ _ _ _ _ _ _ _ _ _ _ _ _ _ _ _ _ _ _ _ _ _ _ yL yY yM yZ jD _ (hv.later hT) (hc1.later hT) (hc2.later hT) (hr1.later hT) (hr2.later hT) HWF.out HV0.out).mono ?_; rintro e w1 ⟨rfl, hbel⟩; rw [hok]; have hT := later_trans hT hbel; have hW := blk_later hbel hW; have hB := blk_cell hW)) | (go_at_call 36; go_must (refine (ref_letters_4 _).mono ?_; rintro e w1 ⟨rfl, hbel⟩; rw [← hs]; have hT := later_trans hT hbel; have hW := blk_later hbel hW; have hB := blk_cell hW)) | (go_at_call 37; go_must (refine (number_c _ _ _ (by omega)).mono ?_; rintro e w1 ⟨rfl, hbel⟩; have hT := later_trans hT hbel; have hW := blk_later hbel hW; have hB := blk_cell hW)) | (with_reducible show wpList _ _ _ ({ dst := some 48, op := Op.load 29 _, type := _, pos := _, after := _, guard := _ } :: _) _ _; (refine wpList_load_blk rfl _ _ rfl w.heap.size 15 rfl 2 _ Try.underlying29 rfl sz_bal _ _ (by assumption) rfl [.int .u32 mn, .int .u8 zZ] rfl ?_)) | (go_at_call 40; go_must (refine (ref_ballot _ _ _ HWF.out.n HWF.out.id).mono ?_; rintro e w1 ⟨rfl, hbel⟩; have hT := later_trans hT hbel; have hW := blk_later hbel hW; have hB := blk_cell hW)))
  rw [rounds_succ]
  go_wp2_with (first | (with_reducible show wpList _ _ _ ({ dst := some 10, op := Op.load 38 _, type := _, pos := _, after := _, guard := _ } :: _) _ _; (refine wpList_load_blk rfl _ _ rfl w.heap.size 0 rfl 45 _ Try.underlying38 rfl sz_msg _ _ (by assumption) rfl (rM 4 zH zI zJ zK zL zM zN zO zP zQ zR zS zT zU mn zZ jA zV zA zB zC zD zE zF zG yA yB yC yD yE yF yG yH yI yJ yK zW zX jE jF jG yN yO yP yQ yR yS yT yU yV yW yX jB jC) rfl ?_)) | (go_at_call 35; go_must (refine (ref_message_r _ _ _ _ _ _ _ _ _ _ _ _ _ _ _ _ _ _ _ _ _ _ _ _ _ _ _ _ _ _ _ _ _ _ _ _ _ _ _ _ _ _ _ _ _ _ _ _ _ _ _ _ _ _ _ yL yY yM yZ jD _ (hv.later hT) (hc1.later hT) (hc2.later hT) (hr1.later hT) (hr2.later hT) HWF.out HV0.out).mono ?_; rintro e w1 ⟨rfl, hbel⟩; rw [hok]; have hT := later_trans hT hbel; have hW := blk_later hbel hW; have hB := blk_cell hW)) | (go_at_call 36; go_must (refine (ref_letters_4 _).mono ?_; rintro e w1 ⟨rfl, hbel⟩; rw [← hs]; have hT := later_trans hT hbel; have hW := blk_later hbel hW; have hB := blk_cell hW)) | (go_at_call 37; go_must (refine (number_c _ _ _ (by omega)).mono ?_; rintro e w1 ⟨rfl, hbel⟩; have hT := later_trans hT hbel; have hW := blk_later hbel hW; have hB := blk_cell hW)) | (with_reducible show wpList _ _ _ ({ dst := some 48, op := Op.load 29 _, type := _, pos := _, after := _, guard := _ } :: _) _ _; (refine wpList_load_blk rfl _ _ rfl w.heap.size 15 rfl 2 _ Try.underlying29 rfl sz_bal _ _ (by assumption) rfl [.int .u32 mn, .int .u8 zZ] rfl ?_)) | (go_at_call 40; go_must (refine (ref_ballot _ _ _ HWF.out.n HWF.out.id).mono ?_; rintro e w1 ⟨rfl, hbel⟩; have hT := later_trans hT hbel; have hW := blk_later hbel hW; have hB := blk_cell hW)))
  go_loopw [6, 8] (fun vs i wr => ∃ k : Nat, k ≤ jF ∧ i = .int .i64 k ∧ vs = .string (bstr ((numB 1 4 ++ (ballotBytes mn zZ ++ numB 1 (jF : Int))) ++ ((jD.take k).map Vot.bytes).flatten)) ∧ Hid (wr.heap[w.heap.size]? = some (.cells (List.toArray (rM 4 zH zI zJ zK zL zM zN zO zP zQ zR zS zT zU mn zZ jA zV zA zB zC zD zE zF zG yA yB yC yD yE yF yG yH yI yJ yK zW zX jE jF jG yN yO yP yQ yR yS yT yU yV yW yX jB jC)) 38)) ∧ Below w.heap.size w wr) (fun _ i _ => jF - (intOf i).toNat)
  case atStart => exact ⟨0, Nat.zero_le _, rfl, by simp, hidden hW, hT⟩
  case round =>
    clear hT hW hB hz0 hz9
    obtain ⟨k, hk, rfl, rfl, HW, hnx⟩ := hrel
    have hWr := HW.out
    have hBr := blk_cell hWr
    by_cases hlt : k < jF
    · have hdk : decide ((k : Int) < (jF : Int)) = true := by simp; omega
      have hi1 : (0 : Int) ≤ (k : Int) := by omega
      have hi2 : (k : Int) < (jF : Int) := by omega
      obtain ⟨x, hx⟩ : ∃ x, jD[k]? = some x := ⟨jD[k]'(by rw [← HL.out]; exact hlt), by simp⟩
      have hS := hv.later hnx
      obtain ⟨b, off, ha, hbB, hc⟩ := hS.sl.el (i := k) (x := x.cells) (by simp [hx])
      have hR := hS.all k x hx
      have hxw := HWF.out.votes k x hx
      have hxs := HVS.out k x hx
      have hxl := Cmd.len x.cmd (fun e => (hxs e).1) (fun e => (hxs e).2)
      obtain rfl : jE = some ⟨b, off, none⟩ := ha
      have HX : Hid (jD[k]? = some x) := hx
      have hvl := votes_len jD HVS.out k
      obtain ⟨X, hXe⟩ : ∃ X, X = (numB 1 4 ++ (ballotBytes mn zZ ++ numB 1 (jF : Int))) ++ ((jD.take k).map Vot.bytes).flatten := ⟨_, rfl⟩
      have hXl : X.length ≤ 4000000 := by
        rw [hXe]; simp only [List.length_append]; have := numB_len 1 4; have := bal_len mn zZ; have := numB_len 1 (jF : Int); omega
      rw [← hXe]
      have HXE : Hid (X = (numB 1 4 ++ (ballotBytes mn zZ ++ numB 1 (jF : Int))) ++ ((jD.take k).map Vot.bytes).flatten) := hXe
      clear hx hXe hvl
      obtain ⟨xslot, xn, xid, ⟨xckind, ⟨xcqc, xcqs, xcqk, xcqkey, xcqv, xcqhi, xcqto⟩, ⟨jH, jI, jJ, jK, jL, ⟨jM, jN, jO⟩, ⟨jP, jQ, jR⟩, jS, jT⟩, xcpeer, xcsq⟩⟩ := x
      dsimp only at hxl
      obtain ⟨w4, w5, w6, w7⟩ := hxw
      have HXW : Hid (Cmd.mk xckind (Req.mk xcqc xcqs xcqk xcqkey xcqv xcqhi xcqto) (Rng.mk jH jI jJ jK jL ⟨jM, jN, jO⟩ ⟨jP, jQ, jR⟩ jS jT) xcpeer xcsq).wf := w7
      have HXS : Hid (Cmd.short (Cmd.mk xckind (Req.mk xcqc xcqs xcqk xcqkey xcqv xcqhi xcqto) (Rng.mk jH jI jJ jK jL ⟨jM, jN, jO⟩ ⟨jP, jQ, jR⟩ jS jT) xcpeer xcsq)) := hxs
      have HXB : Hid (0 ≤ xn ∧ xn < 4294967296) := w5
      have HXI : Hid (0 ≤ xid ∧ xid < 256) := w6
      simp only [U32] at w4
      clear w5 w6 w7 hxs
      simp only [Vot.cells, Cmd.cells, Req.cells, Rng.cells, Sl.val, List.cons_append, List.nil_append] at hc
      have hA := heap_alloc_new wr (.cells (List.toArray oxV) 84)
      have hTA := later_alloc wr (.cells (List.toArray oxV) 84)
      have hu10 := u64_in xslot (by omega)
      have hz20 := fun k0 => sz_fit X (numB k0 xslot) (by have := numB_len k0 xslot; omega)
      have hz21 := fun k0 => sz_fit (X ++ numB k0 xslot) (ballotBytes xn xid) (by simp only [List.length_append]; have := numB_len k0 xslot; have := bal_len xn xid; omega)
      have hz22 := fun k0 => sz_fit (X ++ (numB k0 xslot ++ ballotBytes xn xid)) (Cmd.mk xckind (Req.mk xcqc xcqs xcqk xcqkey xcqv xcqhi xcqto) (Rng.mk jH jI jJ jK jL ⟨jM, jN, jO⟩ ⟨jP, jQ, jR⟩ jS jT) xcpeer xcsq).bytes (by simp only [List.length_append]; have := numB_len k0 xslot; have := bal_len xn xid; omega)
      go_wp2_with (first | (with_reducible show AtL 86 84 ..; go_must (refine wpList_load_mem rfl _ _ rfl b (off + k * 20) rfl 20 _ Try.underlying84 rfl sz_vot (rV xslot xn xid xckind xcqc xcqs xcqk xcqkey xcqv xcqhi xcqto jH jI jJ jK jL jM jN jO jP jQ jR xcpeer xcsq) rfl hc ?_)) | (with_reducible show wpList _ _ _ ({ dst := _, op := Op.store 84 _ _, type := _, pos := _, after := _, guard := none } :: _) _ _; go_must (refine wpList_store_blk rfl _ _ _ rfl rfl wr.heap.size 0 rfl (rV xslot xn xid xckind xcqc xcqs xcqk xcqkey xcqv xcqhi xcqto jH jI jJ jK jL jM jN jO jP jQ jR xcpeer xcsq) rfl _ sz_vot rfl rfl _ _ hA rfl (rV xslot xn xid xckind xcqc xcqs xcqk xcqkey xcqv xcqhi xcqto jH jI jJ jK jL jM jN jO jP jQ jR xcpeer xcsq) rfl ?_; intro w2 hW2 hO2)))
      have hT2 : Below wr.heap.size wr w2 := hTA.trans (hO2.below (Nat.le_refl _))
      have MK : Hid (∀ w', Below w2.heap.size w2 w' → (Below w2.heap.size w2 w' ∧ w'.cell? ⟨wr.heap.size, 0, none⟩ = some (.int .u32 xslot) ∧ w'.cell? ⟨wr.heap.size, 1, none⟩ = some (.int .u32 xn) ∧ w'.cell? ⟨wr.heap.size, 2, none⟩ = some (.int .u8 xid) ∧ w'.cell? ⟨wr.heap.size, 3, none⟩ = some (.int .u8 xckind) ∧ w'.cell? ⟨wr.heap.size, 4, none⟩ = some (.int .u8 xcqc) ∧ w'.cell? ⟨wr.heap.size, 5, none⟩ = some (.int .u32 xcqs) ∧ w'.cell? ⟨wr.heap.size, 6, none⟩ = some (.int .u8 xcqk) ∧ w'.cell? ⟨wr.heap.size, 7, none⟩ = some (.int .u64 xcqkey) ∧ w'.cell? ⟨wr.heap.size, 8, none⟩ = some (.int .u64 xcqv) ∧ w'.cell? ⟨wr.heap.size, 9, none⟩ = some (.int .u64 xcqhi) ∧ w'.cell? ⟨wr.heap.size, 10, none⟩ = some (.int .u8 xcqto) ∧ w'.cell? ⟨wr.heap.size, 11, none⟩ = some (.int .u8 jH) ∧ w'.cell? ⟨wr.heap.size, 12, none⟩ = some (.int .u8 jI) ∧ w'.cell? ⟨wr.heap.size, 13, none⟩ = some (.int .u32 jJ) ∧ w'.cell? ⟨wr.heap.size, 14, none⟩ = some (.int .u64 jK) ∧ w'.cell? ⟨wr.heap.size, 15, none⟩ = some (.int .u64 jL) ∧ w'.cell? ⟨wr.heap.size, 16, none⟩ = some (.slice jM jN jO) ∧ w'.cell? ⟨wr.heap.size, 17, none⟩ = some (.slice jP jQ jR) ∧ w'.cell? ⟨wr.heap.size, 18, none⟩ = some (.int .u8 xcpeer) ∧ w'.cell? ⟨wr.heap.size, 19, none⟩ = some (.int .u32 xcsq))) := fun w' hb => ⟨hb, blk hb hW2 0, blk hb hW2 1, blk hb hW2 2, blk hb hW2 3, blk hb hW2 4, blk hb hW2 5, blk hb hW2 6, blk hb hW2 7, blk hb hW2 8, blk hb hW2 9, blk hb hW2 10, blk hb hW2 11, blk hb hW2 12, blk hb hW2 13, blk hb hW2 14, blk hb hW2 15, blk hb hW2 16, blk hb hW2 17, blk hb hW2 18, blk hb hW2 19⟩
      go_region_held3 (fun w' => Below w2.heap.size w2 w' ∧ w'.cell? ⟨wr.heap.size, 0, none⟩ = some (.int .u32 xslot) ∧ w'.cell? ⟨wr.heap.size, 1, none⟩ = some (.int .u32 xn) ∧ w'.cell? ⟨wr.heap.size, 2, none⟩ = some (.int .u8 xid) ∧ w'.cell? ⟨wr.heap.size, 3, none⟩ = some (.int .u8 xckind) ∧ w'.cell? ⟨wr.heap.size, 4, none⟩ = some (.int .u8 xcqc) ∧ w'.cell? ⟨wr.heap.size, 5, none⟩ = some (.int .u32 xcqs) ∧ w'.cell? ⟨wr.heap.size, 6, none⟩ = some (.int .u8 xcqk) ∧ w'.cell? ⟨wr.heap.size, 7, none⟩ = some (.int .u64 xcqkey) ∧ w'.cell? ⟨wr.heap.size, 8, none⟩ = some (.int .u64 xcqv) ∧ w'.cell? ⟨wr.heap.size, 9, none⟩ = some (.int .u64 xcqhi) ∧ w'.cell? ⟨wr.heap.size, 10, none⟩ = some (.int .u8 xcqto) ∧ w'.cell? ⟨wr.heap.size, 11, none⟩ = some (.int .u8 jH) ∧ w'.cell? ⟨wr.heap.size, 12, none⟩ = some (.int .u8 jI) ∧ w'.cell? ⟨wr.heap.size, 13, none⟩ = some (.int .u32 jJ) ∧ w'.cell? ⟨wr.heap.size, 14, none⟩ = some (.int .u64 jK) ∧ w'.cell? ⟨wr.heap.size, 15, none⟩ = some (.int .u64 jL) ∧ w'.cell? ⟨wr.heap.size, 16, none⟩ = some (.slice jM jN jO) ∧ w'.cell? ⟨wr.heap.size, 17, none⟩ = some (.slice jP jQ jR) ∧ w'.cell? ⟨wr.heap.size, 18, none⟩ = some (.int .u8 xcpeer) ∧ w'.cell? ⟨wr.heap.size, 19, none⟩ = some (.int .u32 xcsq)) (first | exact MK.out _ (Below.refl _ _).drew | exact MK.out _ (held_next (by assumption) (by assumption)) | exact MK.out _ (held_drew (by assumption))) (first | (go_at_call 37; refine (number_c _ _ _ (by omega)).mono ?_; rintro e w3 ⟨rfl, hbel1⟩) | (go_at_call 40; refine (ref_ballot _ _ _ HXB.out HXI.out).mono ?_; rintro e w3 ⟨rfl, hbel1⟩) | (go_at_call 41; refine (ref_commandBytes _ _ _ _ _ _ _ _ _ _ _ _ _ _ _ _ _ _ _ _ _ jS jT _ (hR.rows.later (later_trans hT2 (And.left (by assumption)))) (hR.dups.later (later_trans hT2 (And.left (by assumption)))) HXS.out HXW.out).mono ?_; rintro e w3 ⟨rfl, hbel1⟩))
      go_wp2_with fail
      go_roundw
      case rel => exact ⟨k + 1, by omega, by go_num, str_eq (by rw [flat_take Vot.bytes jD k _ HX.out, HXE.out]; simp [numB, Vot.bytes]), blk_later (later_trans hT2 (And.left (by assumption))) hWr, later_trans hnx (later_trans hT2 (And.left (by assumption)))⟩
      case measure => simp [intOf]; omega
    · have hdk : decide ((k : Int) < (jF : Int)) = false := by simp; omega
      have hk' : k = jF := by omega
      have hfl : ((jD.take k).map Vot.bytes).flatten = votesBytes jD := by rw [hk', HL.out, List.take_length]; rfl
      rw [hfl]
      clear hfl hk'
      go_wp2_with fail
      rw [rounds_succ]
      go_wp2_with fail
      go_ret2
      exact ⟨ret_str2 (bstr_eq (by have := HL.out; simp [Msg.bytes, Msg.tail, numB, this])), by assumption⟩

end Go.Proofs.Ytignemioillaiaa

namespace Go.Proofs.Ytignemioillaiaa
open Go.RowKit

set_option maxHeartbeats 1000000 in
set_option maxRecDepth 100000 in
theorem ref_marshal_f (zY : Int) (zH zI zJ zK zL zM zN : Int) (zO zP zQ zR : Int) (zS : Bool) (zT zU : Int) (mn zZ jA : Int) (zV : Int) (zA zB zC zD zE zF zG : Int) (yA yB yC yD yE : Int) (yF : Option Addr) (yG yH : Nat) (yI : Option Addr) (yJ yK : Nat) (zW zX : Int) (jE : Option Addr) (jF jG : Nat) (yN yO yP yQ yR : Int) (yS : Option Addr) (yT yU : Nat) (yV : Option Addr) (yW yX : Nat) (jB jC : Int) (yL yY : List Row) (yM yZ : List Rep) (jD : List Vot) (w : World) (hv : VotesIn w.heap.size w ⟨jE, jF, jG⟩ jD) (hc1 : SlIn w.heap.size w ⟨yF, yG, yH⟩ 2 (yL.map Row.cells)) (hc2 : SlIn w.heap.size w ⟨yI, yJ, yK⟩ 7 (yM.map Rep.cells)) (hr1 : SlIn w.heap.size w ⟨yS, yT, yU⟩ 2 (yY.map Row.cells)) (hr2 : SlIn w.heap.size w ⟨yV, yW, yX⟩ 7 (yZ.map Rep.cells)) (hwf : (Msg.mk zY (Req.mk zH zI zJ zK zL zM zN) (Rep.mk zO zP zQ zR zS zT zU) mn zZ jA (Cmd.mk zV (Req.mk zA zB zC zD zE zF zG) (Rng.mk yA yB yC yD yE ⟨yF, yG, yH⟩ ⟨yI, yJ, yK⟩ yL yM) zW zX) ⟨jE, jF, jG⟩ (Rng.mk yN yO yP yQ yR ⟨yS, yT, yU⟩ ⟨yV, yW, yX⟩ yY yZ) jB jC jD).wf) (hok : (Msg.mk zY (Req.mk zH zI zJ zK zL zM zN) (Rep.mk zO zP zQ zR zS zT zU) mn zZ jA (Cmd.mk zV (Req.mk zA zB zC zD zE zF zG) (Rng.mk yA yB yC yD yE ⟨yF, yG, yH⟩ ⟨yI, yJ, yK⟩ yL yM) zW zX) ⟨jE, jF, jG⟩ (Rng.mk yN yO yP yQ yR ⟨yS, yT, yU⟩ ⟨yV, yW, yX⟩ yY yZ) jB jC jD).ok = false) (h4 : zY = 4 ∨ jF = 0) :
    Calls Try.prog 12 #[.agg (List.toArray (rM zY zH zI zJ zK zL zM zN zO zP zQ zR zS zT zU mn zZ jA zV zA zB zC zD zE zF zG yA yB yC yD yE yF yG yH yI yJ yK zW zX jE jF jG yN yO yP yQ yR yS yT yU yV yW yX jB jC))] w fun e w' => e = .returned (.tuple #[.string ByteArray.empty, .int .i64 1]) ∧ Below w.heap.size w w' := by
  have HWF : Hid (Msg.mk zY (Req.mk zH zI zJ zK zL zM zN) (Rep.mk zO zP zQ zR zS zT zU) mn zZ jA (Cmd.mk zV (Req.mk zA zB zC zD zE zF zG) (Rng.mk yA yB yC yD yE ⟨yF, yG, yH⟩ ⟨yI, yJ, yK⟩ yL yM) zW zX) ⟨jE, jF, jG⟩ (Rng.mk yN yO yP yQ yR ⟨yS, yT, yU⟩ ⟨yV, yW, yX⟩ yY yZ) jB jC jD).wf := hwf
  have HV0 : Hid (zY = 4 ∨ jF = 0) := h4
  clear hwf
  have hT := later_alloc w (.cells (List.toArray (rM zY zH zI zJ zK zL zM zN zO zP zQ zR zS zT zU mn zZ jA zV zA zB zC zD zE zF zG yA yB yC yD yE yF yG yH yI yJ yK zW zX jE jF jG yN yO yP yQ yR yS yT yU yV yW yX jB jC)) 38)
  have hW := heap_alloc_new w (.cells (List.toArray (rM zY zH zI zJ zK zL zM zN zO zP zQ zR zS zT zU mn zZ jA zV zA zB zC zD zE zF zG yA yB yC yD yE yF yG yH yI yJ yK zW zX jE jF jG yN yO yP yQ yR yS yT yU yV yW yX jB jC)) 38)
  go_enter Try.func12, Try.ntmps12
  go_wp2_with (first | (with_reducible show wpList _ _ _ ({ dst := some 10, op := Op.load 38 _, type := _, pos := _, after := _, guard := _ } :: _) _ _; (refine wpList_load_blk rfl _ _ rfl w.heap.size 0 rfl 45 _ Try.underlying38 rfl sz_msg _ _ (by assumption) rfl (rM zY zH zI zJ zK zL zM zN zO zP zQ zR zS zT zU mn zZ jA zV zA zB zC zD zE zF zG yA yB yC yD yE yF yG yH yI yJ yK zW zX jE jF jG yN yO yP yQ yR yS yT yU yV yW yX jB jC) rfl ?_)) | (go_at_call 35; go_must (refine (ref_message_r _ _ _ _ _ _ _ _ _ _ _ _ _ _ _ _ _ _ _ _ _ _ _ _ _ _ _ _ _ _ _ _ _ _ _ _ _ _ _ _ _ _ _ _ _ _ _ _ _ _ _ _ _ _ _ yL yY yM yZ jD _ (hv.later hT) (hc1.later hT) (hc2.later hT) (hr1.later hT) (hr2.later hT) HWF.out HV0.out).mono ?_; rintro e w1 ⟨rfl, hbel⟩; rw [hok])))
  go_ret2
  exact ⟨rfl, later_trans hT hbel⟩

set_option maxHeartbeats 1000000 in
set_option maxRecDepth 100000 in
theorem ref_marshal_t (zY : Int) (zH zI zJ zK zL zM zN : Int) (zO zP zQ zR : Int) (zS : Bool) (zT zU : Int) (mn zZ jA : Int) (zV : Int) (zA zB zC zD zE zF zG : Int) (yA yB yC yD yE : Int) (yF : Option Addr) (yG yH : Nat) (yI : Option Addr) (yJ yK : Nat) (zW zX : Int) (jE : Option Addr) (jF jG : Nat) (yN yO yP yQ yR : Int) (yS : Option Addr) (yT yU : Nat) (yV : Option Addr) (yW yX : Nat) (jB jC : Int) (yL yY : List Row) (yM yZ : List Rep) (jD : List Vot) (w : World) (hv : VotesIn w.heap.size w ⟨jE, jF, jG⟩ jD) (hc1 : SlIn w.heap.size w ⟨yF, yG, yH⟩ 2 (yL.map Row.cells)) (hc2 : SlIn w.heap.size w ⟨yI, yJ, yK⟩ 7 (yM.map Rep.cells)) (hr1 : SlIn w.heap.size w ⟨yS, yT, yU⟩ 2 (yY.map Row.cells)) (hr2 : SlIn w.heap.size w ⟨yV, yW, yX⟩ 7 (yZ.map Rep.cells)) (hwf : (Msg.mk zY (Req.mk zH zI zJ zK zL zM zN) (Rep.mk zO zP zQ zR zS zT zU) mn zZ jA (Cmd.mk zV (Req.mk zA zB zC zD zE zF zG) (Rng.mk yA yB yC yD yE ⟨yF, yG, yH⟩ ⟨yI, yJ, yK⟩ yL yM) zW zX) ⟨jE, jF, jG⟩ (Rng.mk yN yO yP yQ yR ⟨yS, yT, yU⟩ ⟨yV, yW, yX⟩ yY yZ) jB jC jD).wf) (hok : (Msg.mk zY (Req.mk zH zI zJ zK zL zM zN) (Rep.mk zO zP zQ zR zS zT zU) mn zZ jA (Cmd.mk zV (Req.mk zA zB zC zD zE zF zG) (Rng.mk yA yB yC yD yE ⟨yF, yG, yH⟩ ⟨yI, yJ, yK⟩ yL yM) zW zX) ⟨jE, jF, jG⟩ (Rng.mk yN yO yP yQ yR ⟨yS, yT, yU⟩ ⟨yV, yW, yX⟩ yY yZ) jB jC jD).ok = true) :
    Calls Try.prog 12 #[.agg (List.toArray (rM zY zH zI zJ zK zL zM zN zO zP zQ zR zS zT zU mn zZ jA zV zA zB zC zD zE zF zG yA yB yC yD yE yF yG yH yI yJ yK zW zX jE jF jG yN yO yP yQ yR yS yT yU yV yW yX jB jC))] w fun e w' => e = .returned (.tuple #[.string (bstr (Msg.mk zY (Req.mk zH zI zJ zK zL zM zN) (Rep.mk zO zP zQ zR zS zT zU) mn zZ jA (Cmd.mk zV (Req.mk zA zB zC zD zE zF zG) (Rng.mk yA yB yC yD yE ⟨yF, yG, yH⟩ ⟨yI, yJ, yK⟩ yL yM) zW zX) ⟨jE, jF, jG⟩ (Rng.mk yN yO yP yQ yR ⟨yS, yT, yU⟩ ⟨yV, yW, yX⟩ yY yZ) jB jC jD).bytes), .int .i64 0]) ∧ Below w.heap.size w w' := by
  by_cases k1 : zY = 1
  · apply ref_marshal_1 <;> assumption
  by_cases k2 : zY = 2
  · apply ref_marshal_2 <;> assumption
  by_cases k3 : zY = 3
  · apply ref_marshal_3 <;> assumption
  by_cases k4 : zY = 4
  · apply ref_marshal_4 <;> assumption
  by_cases k5 : zY = 5
  · apply ref_marshal_5 <;> assumption
  by_cases k6 : zY = 6
  · apply ref_marshal_6 <;> assumption
  by_cases k7 : zY = 7
  · apply ref_marshal_7 <;> assumption
  by_cases k8 : zY = 8
  · apply ref_marshal_8 <;> assumption
  by_cases k9 : zY = 9
  · apply ref_marshal_9 <;> assumption
  by_cases k10 : zY = 10
  · apply ref_marshal_10 <;> assumption
  exfalso
  have h1 : (zY == 1) = false := by simp [k1]
  have h2 : (zY == 2) = false := by simp [k2]
  have h3 : (zY == 3) = false := by simp [k3]
  have h4 : (zY == 4) = false := by simp [k4]
  have h5 : (zY == 5) = false := by simp [k5]
  have h6 : (zY == 6) = false := by simp [k6]
  have h7 : (zY == 7) = false := by simp [k7]
  have h8 : (zY == 8) = false := by simp [k8]
  have h9 : (zY == 9) = false := by simp [k9]
  have h10 : (zY == 10) = false := by simp [k10]
  simp [Msg.ok, h1, h2, h3, h4, h5, h6, h7, h8, h9, h10] at hok

end Go.Proofs.Ytignemioillaiaa

namespace Go.Proofs.Ytignemioillaiaa
open Go.RowKit

def mS (m : Msg) : ByteArray := if m.ok then bstr m.bytes else ByteArray.empty
def mE (m : Msg) : Int := if m.ok then 0 else 1

theorem msg_twin {a b : Msg} (h : a.strip = b.strip) (ha : a.fit) (hb : b.fit) : mS a = mS b ∧ mE a = mE b := by
  have h1 : a.ok = b.ok := by rw [← Msg.ok_strip ha, h, Msg.ok_strip hb]
  have h2 : a.bytes = b.bytes := by rw [← Msg.bytes_strip a, h, Msg.bytes_strip b]
  unfold mS mE; rw [h1, h2]; exact ⟨rfl, rfl⟩

theorem ref_any (zY : Int) (zH zI zJ zK zL zM zN : Int) (zO zP zQ zR : Int) (zS : Bool) (zT zU : Int) (mn zZ jA : Int) (zV : Int) (zA zB zC zD zE zF zG : Int) (yA yB yC yD yE : Int) (yF : Option Addr) (yG yH : Nat) (yI : Option Addr) (yJ yK : Nat) (zW zX : Int) (jE : Option Addr) (jF jG : Nat) (yN yO yP yQ yR : Int) (yS : Option Addr) (yT yU : Nat) (yV : Option Addr) (yW yX : Nat) (jB jC : Int) (yL yY : List Row) (yM yZ : List Rep) (jD : List Vot) (w : World) (hv : VotesIn w.heap.size w ⟨jE, jF, jG⟩ jD) (hc1 : SlIn w.heap.size w ⟨yF, yG, yH⟩ 2 (yL.map Row.cells)) (hc2 : SlIn w.heap.size w ⟨yI, yJ, yK⟩ 7 (yM.map Rep.cells)) (hr1 : SlIn w.heap.size w ⟨yS, yT, yU⟩ 2 (yY.map Row.cells)) (hr2 : SlIn w.heap.size w ⟨yV, yW, yX⟩ 7 (yZ.map Rep.cells)) (hwf : (Msg.mk zY (Req.mk zH zI zJ zK zL zM zN) (Rep.mk zO zP zQ zR zS zT zU) mn zZ jA (Cmd.mk zV (Req.mk zA zB zC zD zE zF zG) (Rng.mk yA yB yC yD yE ⟨yF, yG, yH⟩ ⟨yI, yJ, yK⟩ yL yM) zW zX) ⟨jE, jF, jG⟩ (Rng.mk yN yO yP yQ yR ⟨yS, yT, yU⟩ ⟨yV, yW, yX⟩ yY yZ) jB jC jD).wf) (h4 : zY = 4 ∨ jF = 0) :
    Calls Try.prog 12 #[.agg (List.toArray (rM zY zH zI zJ zK zL zM zN zO zP zQ zR zS zT zU mn zZ jA zV zA zB zC zD zE zF zG yA yB yC yD yE yF yG yH yI yJ yK zW zX jE jF jG yN yO yP yQ yR yS yT yU yV yW yX jB jC))] w fun e w' => e = .returned (.tuple #[.string (mS (Msg.mk zY (Req.mk zH zI zJ zK zL zM zN) (Rep.mk zO zP zQ zR zS zT zU) mn zZ jA (Cmd.mk zV (Req.mk zA zB zC zD zE zF zG) (Rng.mk yA yB yC yD yE ⟨yF, yG, yH⟩ ⟨yI, yJ, yK⟩ yL yM) zW zX) ⟨jE, jF, jG⟩ (Rng.mk yN yO yP yQ yR ⟨yS, yT, yU⟩ ⟨yV, yW, yX⟩ yY yZ) jB jC jD)), .int .i64 (mE (Msg.mk zY (Req.mk zH zI zJ zK zL zM zN) (Rep.mk zO zP zQ zR zS zT zU) mn zZ jA (Cmd.mk zV (Req.mk zA zB zC zD zE zF zG) (Rng.mk yA yB yC yD yE ⟨yF, yG, yH⟩ ⟨yI, yJ, yK⟩ yL yM) zW zX) ⟨jE, jF, jG⟩ (Rng.mk yN yO yP yQ yR ⟨yS, yT, yU⟩ ⟨yV, yW, yX⟩ yY yZ) jB jC jD))]) ∧ Below w.heap.size w w' := by
  cases hok : (Msg.mk zY (Req.mk zH zI zJ zK zL zM zN) (Rep.mk zO zP zQ zR zS zT zU) mn zZ jA (Cmd.mk zV (Req.mk zA zB zC zD zE zF zG) (Rng.mk yA yB yC yD yE ⟨yF, yG, yH⟩ ⟨yI, yJ, yK⟩ yL yM) zW zX) ⟨jE, jF, jG⟩ (Rng.mk yN yO yP yQ yR ⟨yS, yT, yU⟩ ⟨yV, yW, yX⟩ yY yZ) jB jC jD).ok
  · have e1 : mS (Msg.mk zY (Req.mk zH zI zJ zK zL zM zN) (Rep.mk zO zP zQ zR zS zT zU) mn zZ jA (Cmd.mk zV (Req.mk zA zB zC zD zE zF zG) (Rng.mk yA yB yC yD yE ⟨yF, yG, yH⟩ ⟨yI, yJ, yK⟩ yL yM) zW zX) ⟨jE, jF, jG⟩ (Rng.mk yN yO yP yQ yR ⟨yS, yT, yU⟩ ⟨yV, yW, yX⟩ yY yZ) jB jC jD) = ByteArray.empty := by unfold mS; rw [hok]; rfl
    have e2 : mE (Msg.mk zY (Req.mk zH zI zJ zK zL zM zN) (Rep.mk zO zP zQ zR zS zT zU) mn zZ jA (Cmd.mk zV (Req.mk zA zB zC zD zE zF zG) (Rng.mk yA yB yC yD yE ⟨yF, yG, yH⟩ ⟨yI, yJ, yK⟩ yL yM) zW zX) ⟨jE, jF, jG⟩ (Rng.mk yN yO yP yQ yR ⟨yS, yT, yU⟩ ⟨yV, yW, yX⟩ yY yZ) jB jC jD) = 1 := by unfold mE; rw [hok]; rfl
    rw [e1, e2]
    apply ref_marshal_f <;> assumption
  · have e1 : mS (Msg.mk zY (Req.mk zH zI zJ zK zL zM zN) (Rep.mk zO zP zQ zR zS zT zU) mn zZ jA (Cmd.mk zV (Req.mk zA zB zC zD zE zF zG) (Rng.mk yA yB yC yD yE ⟨yF, yG, yH⟩ ⟨yI, yJ, yK⟩ yL yM) zW zX) ⟨jE, jF, jG⟩ (Rng.mk yN yO yP yQ yR ⟨yS, yT, yU⟩ ⟨yV, yW, yX⟩ yY yZ) jB jC jD) = bstr (Msg.mk zY (Req.mk zH zI zJ zK zL zM zN) (Rep.mk zO zP zQ zR zS zT zU) mn zZ jA (Cmd.mk zV (Req.mk zA zB zC zD zE zF zG) (Rng.mk yA yB yC yD yE ⟨yF, yG, yH⟩ ⟨yI, yJ, yK⟩ yL yM) zW zX) ⟨jE, jF, jG⟩ (Rng.mk yN yO yP yQ yR ⟨yS, yT, yU⟩ ⟨yV, yW, yX⟩ yY yZ) jB jC jD).bytes := by unfold mS; rw [hok]; rfl
    have e2 : mE (Msg.mk zY (Req.mk zH zI zJ zK zL zM zN) (Rep.mk zO zP zQ zR zS zT zU) mn zZ jA (Cmd.mk zV (Req.mk zA zB zC zD zE zF zG) (Rng.mk yA yB yC yD yE ⟨yF, yG, yH⟩ ⟨yI, yJ, yK⟩ yL yM) zW zX) ⟨jE, jF, jG⟩ (Rng.mk yN yO yP yQ yR ⟨yS, yT, yU⟩ ⟨yV, yW, yX⟩ yY yZ) jB jC jD) = 0 := by unfold mE; rw [hok]; rfl
    rw [e1, e2]
    apply ref_marshal_t <;> assumption

end Go.Proofs.Ytignemioillaiaa

