/- Package right: messages, every one. -/
import Derived.Test.YtegdnihkifmepaaA9
import Derived.Test.YtegdnihkifmepaaA10
import Derived.Test.YtegdnihkifmepaaA11
namespace Go.Proofs.Ytegdnihkifmepaa
open Go.RowKit

set_option maxHeartbeats 400000 in
set_option maxRecDepth 100000 in
theorem message_e (mkind : Int) (mqc mqs mqk mqkey mqv mqhi mqto : Int) (mpc mps mpkey mpk : Int) (mpf : Bool) (mpv mpg : Int) (mn mid mslot : Int) (mckind : Int) (mcqc mcqs mcqk mcqkey mcqv mcqhi mcqto : Int) (mcrsrc mcrdst mcrseq mcrlo mcrhi : Int) (mcrra : Option Addr) (mcrrn mcrrc : Nat) (mcrda : Option Addr) (mcrdn mcrdc : Nat) (mcpeer mcsq : Int) (mva : Option Addr) (mvn mvc : Nat) (mrsrc mrdst mrseq mrlo mrhi : Int) (mrra : Option Addr) (mrrn mrrc : Nat) (mrda : Option Addr) (mrdn mrdc : Nat) (mpeer msq : Int) (mcrrows mrrows : List Row) (mcrdups mrdups : List Rep) (mvotes : List Vot) (w : World) (k1 : (mkind == 1) = false) (k2 : (mkind == 2) = false) (k3 : (mkind == 3) = false) (k4 : (mkind == 4) = false) (k5 : (mkind == 5) = false) (k6 : (mkind == 6) = false) (k7 : (mkind == 7) = false) (k8 : (mkind == 8) = false) (k9 : (mkind == 9) = false) (k10 : (mkind == 10) = false) :
    Calls Try.prog 26 #[.agg (List.toArray (α := Value) (.int .u8 mkind :: .int .u8 mqc :: .int .u32 mqs :: .int .u8 mqk :: .int .u64 mqkey :: .int .u64 mqv :: .int .u64 mqhi :: .int .u8 mqto :: .int .u8 mpc :: .int .u32 mps :: .int .u64 mpkey :: .int .u8 mpk :: .bool mpf :: .int .u64 mpv :: .int .u8 mpg :: .int .u32 mn :: .int .u8 mid :: .int .u32 mslot :: .int .u8 mckind :: .int .u8 mcqc :: .int .u32 mcqs :: .int .u8 mcqk :: .int .u64 mcqkey :: .int .u64 mcqv :: .int .u64 mcqhi :: .int .u8 mcqto :: .int .u8 mcrsrc :: .int .u8 mcrdst :: .int .u32 mcrseq :: .int .u64 mcrlo :: .int .u64 mcrhi :: .slice mcrra mcrrn mcrrc :: .slice mcrda mcrdn mcrdc :: .int .u8 mcpeer :: .int .u32 mcsq :: .slice mva mvn mvc :: .int .u8 mrsrc :: .int .u8 mrdst :: .int .u32 mrseq :: .int .u64 mrlo :: .int .u64 mrhi :: .slice mrra mrrn mrrc :: .slice mrda mrdn mrdc :: .int .u8 mpeer :: .int .u32 msq :: []))] w fun e w' => e = .returned (.bool (Msg.mk mkind (Req.mk mqc mqs mqk mqkey mqv mqhi mqto) (Rep.mk mpc mps mpkey mpk mpf mpv mpg) mn mid mslot (Cmd.mk mckind (Req.mk mcqc mcqs mcqk mcqkey mcqv mcqhi mcqto) (Rng.mk mcrsrc mcrdst mcrseq mcrlo mcrhi ⟨mcrra, mcrrn, mcrrc⟩ ⟨mcrda, mcrdn, mcrdc⟩ mcrrows mcrdups) mcpeer mcsq) ⟨mva, mvn, mvc⟩ (Rng.mk mrsrc mrdst mrseq mrlo mrhi ⟨mrra, mrrn, mrrc⟩ ⟨mrda, mrdn, mrdc⟩ mrrows mrdups) mpeer msq mvotes).ok) ∧ Below w.heap.size w w' := by
  go_enter Try.func26, Try.ntmps26
  go_wp2
  go_ret
  exact ⟨ret_bool (by simp [Msg.ok, k1, k2, k3, k4, k5, k6, k7, k8, k9, k10]), later_alloc _ _⟩

theorem message_any (mkind : Int) (mqc mqs mqk mqkey mqv mqhi mqto : Int) (mpc mps mpkey mpk : Int) (mpf : Bool) (mpv mpg : Int) (mn mid mslot : Int) (mckind : Int) (mcqc mcqs mcqk mcqkey mcqv mcqhi mcqto : Int) (mcrsrc mcrdst mcrseq mcrlo mcrhi : Int) (mcrra : Option Addr) (mcrrn mcrrc : Nat) (mcrda : Option Addr) (mcrdn mcrdc : Nat) (mcpeer mcsq : Int) (mva : Option Addr) (mvn mvc : Nat) (mrsrc mrdst mrseq mrlo mrhi : Int) (mrra : Option Addr) (mrrn mrrc : Nat) (mrda : Option Addr) (mrdn mrdc : Nat) (mpeer msq : Int) (mcrrows mrrows : List Row) (mcrdups mrdups : List Rep) (mvotes : List Vot) (w : World) (hv : VotesIn w.heap.size w ⟨mva, mvn, mvc⟩ mvotes) (hc1 : SlIn w.heap.size w ⟨mcrra, mcrrn, mcrrc⟩ 2 (mcrrows.map Row.cells)) (hc2 : SlIn w.heap.size w ⟨mcrda, mcrdn, mcrdc⟩ 7 (mcrdups.map Rep.cells)) (hr1 : SlIn w.heap.size w ⟨mrra, mrrn, mrrc⟩ 2 (mrrows.map Row.cells)) (hr2 : SlIn w.heap.size w ⟨mrda, mrdn, mrdc⟩ 7 (mrdups.map Rep.cells)) :
    Calls Try.prog 26 #[.agg (List.toArray (α := Value) (.int .u8 mkind :: .int .u8 mqc :: .int .u32 mqs :: .int .u8 mqk :: .int .u64 mqkey :: .int .u64 mqv :: .int .u64 mqhi :: .int .u8 mqto :: .int .u8 mpc :: .int .u32 mps :: .int .u64 mpkey :: .int .u8 mpk :: .bool mpf :: .int .u64 mpv :: .int .u8 mpg :: .int .u32 mn :: .int .u8 mid :: .int .u32 mslot :: .int .u8 mckind :: .int .u8 mcqc :: .int .u32 mcqs :: .int .u8 mcqk :: .int .u64 mcqkey :: .int .u64 mcqv :: .int .u64 mcqhi :: .int .u8 mcqto :: .int .u8 mcrsrc :: .int .u8 mcrdst :: .int .u32 mcrseq :: .int .u64 mcrlo :: .int .u64 mcrhi :: .slice mcrra mcrrn mcrrc :: .slice mcrda mcrdn mcrdc :: .int .u8 mcpeer :: .int .u32 mcsq :: .slice mva mvn mvc :: .int .u8 mrsrc :: .int .u8 mrdst :: .int .u32 mrseq :: .int .u64 mrlo :: .int .u64 mrhi :: .slice mrra mrrn mrrc :: .slice mrda mrdn mrdc :: .int .u8 mpeer :: .int .u32 msq :: []))] w fun e w' => e = .returned (.bool (Msg.mk mkind (Req.mk mqc mqs mqk mqkey mqv mqhi mqto) (Rep.mk mpc mps mpkey mpk mpf mpv mpg) mn mid mslot (Cmd.mk mckind (Req.mk mcqc mcqs mcqk mcqkey mcqv mcqhi mcqto) (Rng.mk mcrsrc mcrdst mcrseq mcrlo mcrhi ⟨mcrra, mcrrn, mcrrc⟩ ⟨mcrda, mcrdn, mcrdc⟩ mcrrows mcrdups) mcpeer mcsq) ⟨mva, mvn, mvc⟩ (Rng.mk mrsrc mrdst mrseq mrlo mrhi ⟨mrra, mrrn, mrrc⟩ ⟨mrda, mrdn, mrdc⟩ mrrows mrdups) mpeer msq mvotes).ok) ∧ Below w.heap.size w w' := by
  by_cases k1 : mkind = 1
  · by_cases hq : (Req.mk mqc mqs mqk mqkey mqv mqhi mqto).ok = true
    · exact message_1t _ _ _ _ _ _ _ _ _ _ _ _ _ _ _ _ _ _ _ _ _ _ _ _ _ _ _ _ _ _ _ _ _ _ _ _ _ _ _ _ _ _ _ _ _ _ _ _ _ _ _ _ _ _ _ _ _ _ _ _ _ k1 hq
    · exact message_1f _ _ _ _ _ _ _ _ _ _ _ _ _ _ _ _ _ _ _ _ _ _ _ _ _ _ _ _ _ _ _ _ _ _ _ _ _ _ _ _ _ _ _ _ _ _ _ _ _ _ _ _ _ _ _ _ _ _ _ _ _ k1 (by simpa using hq)
  by_cases k2 : mkind = 2
  · by_cases hq : (Rep.mk mpc mps mpkey mpk mpf mpv mpg).ok = true
    · exact message_2t _ _ _ _ _ _ _ _ _ _ _ _ _ _ _ _ _ _ _ _ _ _ _ _ _ _ _ _ _ _ _ _ _ _ _ _ _ _ _ _ _ _ _ _ _ _ _ _ _ _ _ _ _ _ _ _ _ _ _ _ _ k2 hq
    · exact message_2f _ _ _ _ _ _ _ _ _ _ _ _ _ _ _ _ _ _ _ _ _ _ _ _ _ _ _ _ _ _ _ _ _ _ _ _ _ _ _ _ _ _ _ _ _ _ _ _ _ _ _ _ _ _ _ _ _ _ _ _ _ k2 (by simpa using hq)
  by_cases k3 : mkind = 3
  · exact message_3 _ _ _ _ _ _ _ _ _ _ _ _ _ _ _ _ _ _ _ _ _ _ _ _ _ _ _ _ _ _ _ _ _ _ _ _ _ _ _ _ _ _ _ _ _ _ _ _ _ _ _ _ _ _ _ _ _ _ _ _ _ k3
  by_cases k4 : mkind = 4
  · by_cases hq : votesOk mvotes = true
    · exact message_4t _ _ _ _ _ _ _ _ _ _ _ _ _ _ _ _ _ _ _ _ _ _ _ _ _ _ _ _ _ _ _ _ _ _ _ _ _ _ _ _ _ _ _ _ _ _ _ _ _ _ _ _ _ _ _ _ _ _ _ _ _ k4 hv hq
    · exact message_4f _ _ _ _ _ _ _ _ _ _ _ _ _ _ _ _ _ _ _ _ _ _ _ _ _ _ _ _ _ _ _ _ _ _ _ _ _ _ _ _ _ _ _ _ _ _ _ _ _ _ _ _ _ _ _ _ _ _ _ _ _ k4 hv (by simpa using hq)
  by_cases k5 : mkind = 5
  · exact message_5 _ _ _ _ _ _ _ _ _ _ _ _ _ _ _ _ _ _ _ _ _ _ _ _ _ _ _ _ _ _ _ _ _ _ _ _ _ _ _ _ _ _ _ _ _ _ _ _ _ _ _ _ _ _ _ _ _ _ _ _ _ k5
  by_cases k6 : mkind = 6
  · by_cases hq : (Cmd.mk mckind (Req.mk mcqc mcqs mcqk mcqkey mcqv mcqhi mcqto) (Rng.mk mcrsrc mcrdst mcrseq mcrlo mcrhi ⟨mcrra, mcrrn, mcrrc⟩ ⟨mcrda, mcrdn, mcrdc⟩ mcrrows mcrdups) mcpeer mcsq).ok = true
    · exact message_6t _ _ _ _ _ _ _ _ _ _ _ _ _ _ _ _ _ _ _ _ _ _ _ _ _ _ _ _ _ _ _ _ _ _ _ _ _ _ _ _ _ _ _ _ _ _ _ _ _ _ _ _ _ _ _ _ _ _ _ _ _ k6 hc1 hc2 hq
    · exact message_6f _ _ _ _ _ _ _ _ _ _ _ _ _ _ _ _ _ _ _ _ _ _ _ _ _ _ _ _ _ _ _ _ _ _ _ _ _ _ _ _ _ _ _ _ _ _ _ _ _ _ _ _ _ _ _ _ _ _ _ _ _ k6 hc1 hc2 (by simpa using hq)
  by_cases k7 : mkind = 7
  · exact message_7 _ _ _ _ _ _ _ _ _ _ _ _ _ _ _ _ _ _ _ _ _ _ _ _ _ _ _ _ _ _ _ _ _ _ _ _ _ _ _ _ _ _ _ _ _ _ _ _ _ _ _ _ _ _ _ _ _ _ _ _ _ k7
  by_cases k8 : mkind = 8
  · by_cases hq : (Cmd.mk mckind (Req.mk mcqc mcqs mcqk mcqkey mcqv mcqhi mcqto) (Rng.mk mcrsrc mcrdst mcrseq mcrlo mcrhi ⟨mcrra, mcrrn, mcrrc⟩ ⟨mcrda, mcrdn, mcrdc⟩ mcrrows mcrdups) mcpeer mcsq).ok = true
    · exact message_8t _ _ _ _ _ _ _ _ _ _ _ _ _ _ _ _ _ _ _ _ _ _ _ _ _ _ _ _ _ _ _ _ _ _ _ _ _ _ _ _ _ _ _ _ _ _ _ _ _ _ _ _ _ _ _ _ _ _ _ _ _ k8 hc1 hc2 hq
    · exact message_8f _ _ _ _ _ _ _ _ _ _ _ _ _ _ _ _ _ _ _ _ _ _ _ _ _ _ _ _ _ _ _ _ _ _ _ _ _ _ _ _ _ _ _ _ _ _ _ _ _ _ _ _ _ _ _ _ _ _ _ _ _ k8 hc1 hc2 (by simpa using hq)
  by_cases k9 : mkind = 9
  · by_cases hq : (Rng.mk mrsrc mrdst mrseq mrlo mrhi ⟨mrra, mrrn, mrrc⟩ ⟨mrda, mrdn, mrdc⟩ mrrows mrdups).ok = true
    · exact message_9t _ _ _ _ _ _ _ _ _ _ _ _ _ _ _ _ _ _ _ _ _ _ _ _ _ _ _ _ _ _ _ _ _ _ _ _ _ _ _ _ _ _ _ _ _ _ _ _ _ _ _ _ _ _ _ _ _ _ _ _ _ k9 hr1 hr2 hq
    · exact message_9f _ _ _ _ _ _ _ _ _ _ _ _ _ _ _ _ _ _ _ _ _ _ _ _ _ _ _ _ _ _ _ _ _ _ _ _ _ _ _ _ _ _ _ _ _ _ _ _ _ _ _ _ _ _ _ _ _ _ _ _ _ k9 hr1 hr2 (by simpa using hq)
  by_cases k10 : mkind = 10
  · by_cases hq : mpeer < 4
    · exact message_10t _ _ _ _ _ _ _ _ _ _ _ _ _ _ _ _ _ _ _ _ _ _ _ _ _ _ _ _ _ _ _ _ _ _ _ _ _ _ _ _ _ _ _ _ _ _ _ _ _ _ _ _ _ _ _ _ _ _ _ _ _ k10 hq
    · exact message_10f _ _ _ _ _ _ _ _ _ _ _ _ _ _ _ _ _ _ _ _ _ _ _ _ _ _ _ _ _ _ _ _ _ _ _ _ _ _ _ _ _ _ _ _ _ _ _ _ _ _ _ _ _ _ _ _ _ _ _ _ _ k10 hq
  exact message_e _ _ _ _ _ _ _ _ _ _ _ _ _ _ _ _ _ _ _ _ _ _ _ _ _ _ _ _ _ _ _ _ _ _ _ _ _ _ _ _ _ _ _ _ _ _ _ _ _ _ _ _ _ _ _ _ _ _ _ _ _ (by simpa using k1) (by simpa using k2) (by simpa using k3) (by simpa using k4) (by simpa using k5) (by simpa using k6) (by simpa using k7) (by simpa using k8) (by simpa using k9) (by simpa using k10)

end Go.Proofs.Ytegdnihkifmepaa
