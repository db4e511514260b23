/- Package right: a message without fields. -/
import Derived.Test.YtignemioillaiaaD4
import Derived.Test.YtignemioillaiaaA4
import Derived.Test.YtignemioillaiaaP
namespace Go.Proofs.Ytignemioillaiaa
open Go.RowKit

def Msg.none (m : Msg) : Bool := m.req.no && m.rep.no && (m.n == 0 && m.id == 0) && m.slot == 0 && m.cmd.kind == 0 && m.cmd.bare && m.vs.len == 0 && m.rng.no && m.peer == 0 && m.seq == 0

set_option maxHeartbeats 1000000 in
set_option maxRecDepth 100000 in
theorem nofields_any (zY : Int) (zH zI zJ zK zL zM zN : Int) (zO zP zQ zR : Int) (zS : Bool) (zT zU : Int) (mn zZ jA : Int) (zV : Int) (zA zB zC zD zE zF zG : Int) (yA yB yC yD yE : Int) (yF : Option Addr) (yG yH : Nat) (yI : Option Addr) (yJ yK : Nat) (zW zX : Int) (jE : Option Addr) (jF jG : Nat) (yN yO yP yQ yR : Int) (yS : Option Addr) (yT yU : Nat) (yV : Option Addr) (yW yX : Nat) (jB jC : Int) (yL yY : List Row) (yM yZ : List Rep) (jD : List Vot) (w : World) :
    Calls Try.prog 75 #[.agg (List.toArray (rM zY zH zI zJ zK zL zM zN zO zP zQ zR zS zT zU mn zZ jA zV zA zB zC zD zE zF zG yA yB yC yD yE yF yG yH yI yJ yK zW zX jE jF jG yN yO yP yQ yR yS yT yU yV yW yX jB jC))] w fun e w' => e = .returned (.bool (Msg.mk zY (Req.mk zH zI zJ zK zL zM zN) (Rep.mk zO zP zQ zR zS zT zU) mn zZ jA (Cmd.mk zV (Req.mk zA zB zC zD zE zF zG) (Rng.mk yA yB yC yD yE ⟨yF, yG, yH⟩ ⟨yI, yJ, yK⟩ yL yM) zW zX) ⟨jE, jF, jG⟩ (Rng.mk yN yO yP yQ yR ⟨yS, yT, yU⟩ ⟨yV, yW, yX⟩ yY yZ) jB jC jD).none) ∧ Below w.heap.size w w' := by
  go_enter Try.func75, Try.ntmps75
  go_wp2_with (first | (with_reducible show wpList _ _ _ ({ dst := _, op := Op.load 35 _, type := _, pos := _, after := _, guard := _ } :: _) _ _; refine wpList_load_blk rfl _ _ rfl w.heap.size 18 rfl 17 _ Try.underlying35 rfl sz_cmd _ _ (heap_alloc_new w _) rfl _ rfl ?_) | (go_at_call 122; go_must (refine (nocmd_any _ _ _ _ _ _ _ _ _ _ _ _ _ _ _ _ _ _ _ _ _ yL yM _).mono ?_; rintro e w1 ⟨rfl, hbel1⟩; have hW1 := blk_later hbel1 (heap_alloc_new w _); have hB1 := blk_cell hW1; have hT1 := later_trans (later_alloc w _) hbel1)) | (go_at_call 125; go_must (refine (norange_any _ _ _ _ _ _ _ _ _ _ _ yY yZ _).mono ?_; rintro e w2 ⟨rfl, hbel2⟩; have hW2 := blk_later hbel2 hW1; have hB2 := blk_cell hW2; have hT2 := later_trans hT1 hbel2)))
  all_goals go_ret
  all_goals refine ⟨ret_bool ?_, ?_⟩
  all_goals first | exact later_alloc _ _ | assumption | skip
  all_goals simp_all [Msg.none, Req.no, Rep.no]

end Go.Proofs.Ytignemioillaiaa

