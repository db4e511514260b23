/- Package right: a message without fields. -/
import Derived.Test.YtignemioillaiaaA2
import Derived.Test.YtignemioillaiaaD4
import Derived.Test.YtignemioillaiaaP
namespace Go.Proofs.Ytignemioillaiaa
open Go.RowKit

def Msg.none (m : Msg) : Bool := m.req.no && m.rep.no && (m.n == 0 && m.id == 0) && m.slot == 0 && m.cmd.kind == 0 && m.cmd.bare && m.vs.len == 0 && m.rng.no && m.peer == 0 && m.seq == 0

set_option maxHeartbeats 1000000 in
set_option maxRecDepth 100000 in
theorem nofields_any (mkind : Int) (mqc mqs mqk mqkey mqv mqhi mqto : Int) (mpc mps mpkey mpk : Int) (mpf : Bool) (mpv mpg : Int) (mn mid mslot : Int) (mckind : Int) (mcqc mcqs mcqk mcqkey mcqv mcqhi mcqto : Int) (mcrsrc mcrdst mcrseq mcrlo mcrhi : Int) (mcrra : Option Addr) (mcrrn mcrrc : Nat) (mcrda : Option Addr) (mcrdn mcrdc : Nat) (mcpeer mcsq : Int) (mva : Option Addr) (mvn mvc : Nat) (mrsrc mrdst mrseq mrlo mrhi : Int) (mrra : Option Addr) (mrrn mrrc : Nat) (mrda : Option Addr) (mrdn mrdc : Nat) (mpeer msq : Int) (mcrrows mrrows : List Row) (mcrdups mrdups : List Rep) (mvotes : List Vot) (w : World) :
    Calls Try.prog 75 #[.agg (List.toArray (α := Value) (.int .u8 mkind :: .int .u8 mqc :: .int .u32 mqs :: .int .u8 mqk :: .int .u64 mqkey :: .int .u64 mqv :: .int .u64 mqhi :: .int .u8 mqto :: .int .u8 mpc :: .int .u32 mps :: .int .u64 mpkey :: .int .u8 mpk :: .bool mpf :: .int .u64 mpv :: .int .u8 mpg :: .int .u32 mn :: .int .u8 mid :: .int .u32 mslot :: .int .u8 mckind :: .int .u8 mcqc :: .int .u32 mcqs :: .int .u8 mcqk :: .int .u64 mcqkey :: .int .u64 mcqv :: .int .u64 mcqhi :: .int .u8 mcqto :: .int .u8 mcrsrc :: .int .u8 mcrdst :: .int .u32 mcrseq :: .int .u64 mcrlo :: .int .u64 mcrhi :: .slice mcrra mcrrn mcrrc :: .slice mcrda mcrdn mcrdc :: .int .u8 mcpeer :: .int .u32 mcsq :: .slice mva mvn mvc :: .int .u8 mrsrc :: .int .u8 mrdst :: .int .u32 mrseq :: .int .u64 mrlo :: .int .u64 mrhi :: .slice mrra mrrn mrrc :: .slice mrda mrdn mrdc :: .int .u8 mpeer :: .int .u32 msq :: []))] w fun e w' => e = .returned (.bool (Msg.mk mkind (Req.mk mqc mqs mqk mqkey mqv mqhi mqto) (Rep.mk mpc mps mpkey mpk mpf mpv mpg) mn mid mslot (Cmd.mk mckind (Req.mk mcqc mcqs mcqk mcqkey mcqv mcqhi mcqto) (Rng.mk mcrsrc mcrdst mcrseq mcrlo mcrhi ⟨mcrra, mcrrn, mcrrc⟩ ⟨mcrda, mcrdn, mcrdc⟩ mcrrows mcrdups) mcpeer mcsq) ⟨mva, mvn, mvc⟩ (Rng.mk mrsrc mrdst mrseq mrlo mrhi ⟨mrra, mrrn, mrrc⟩ ⟨mrda, mrdn, mrdc⟩ mrrows mrdups) mpeer msq mvotes).none) ∧ Below w.heap.size w w' := by
  go_enter Try.func75, Try.ntmps75
  go_wp2_with (first | (with_reducible show wpList _ _ _ ({ dst := _, op := Op.load 35 _, type := _, pos := _, after := _, guard := _ } :: _) _ _; refine wpList_load_blk rfl _ _ rfl w.heap.size 18 rfl 17 _ Try.underlying35 rfl sz_cmd _ _ (heap_alloc_new w _) rfl _ rfl ?_) | (go_at_call 122; go_must (refine (nocmd_any _ _ _ _ _ _ _ _ _ _ _ _ _ _ _ _ _ _ _ _ _ mcrrows mcrdups _).mono ?_; rintro e w1 ⟨rfl, hbel1⟩; have hW1 := blk_later hbel1 (heap_alloc_new w _); have hB1 := blk_cell hW1; have hT1 := later_trans (later_alloc w _) hbel1)) | (go_at_call 125; go_must (refine (norange_any _ _ _ _ _ _ _ _ _ _ _ mrrows mrdups _).mono ?_; rintro e w2 ⟨rfl, hbel2⟩; have hW2 := blk_later hbel2 hW1; have hB2 := blk_cell hW2; have hT2 := later_trans hT1 hbel2)))
  all_goals go_ret
  all_goals refine ⟨ret_bool ?_, ?_⟩
  all_goals first | exact later_alloc _ _ | assumption | skip
  all_goals simp_all [Msg.none, Req.no, Rep.no]

end Go.Proofs.Ytignemioillaiaa
