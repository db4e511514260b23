/- The document's answer: what is right, the small ones. -/
import Derived.Test.YtignemioillaiaaA
import Derived.Test.YtignemioillaiaaD4
namespace Go.Proofs.Ytignemioillaiaa
open Go.RowKit

set_option maxHeartbeats 400000 in
theorem ref_request (qc qs qk qkey qv qhi qto : Int) (w : World) (h0 : 0 ≤ qs) :
    Calls Try.prog 86 #[.agg #[.int .u8 qc, .int .u32 qs, .int .u8 qk, .int .u64 qkey, .int .u64 qv, .int .u64 qhi, .int .u8 qto]] w fun e w' => e = .returned (.bool (Req.mk qc qs qk qkey qv qhi qto).ok) ∧ Below w.heap.size w w' := by
  go_enter Try.func86, Try.ntmps86
  go_wp2
  all_goals go_ret
  all_goals refine ⟨ret_bool ?_, later_alloc _ _⟩
  all_goals simp_all [Req.ok]
  all_goals omega

set_option maxHeartbeats 400000 in
theorem ref_reply (pc ps pkey pk : Int) (pf : Bool) (pv pg : Int) (w : World) (h0 : 0 ≤ ps) (h1 : 0 ≤ pk) :
    Calls Try.prog 87 #[.agg #[.int .u8 pc, .int .u32 ps, .int .u64 pkey, .int .u8 pk, .bool pf, .int .u64 pv, .int .u8 pg]] w fun e w' => e = .returned (.bool (Rep.mk pc ps pkey pk pf pv pg).ok) ∧ Below w.heap.size w w' := by
  cases pf
  all_goals
    go_enter Try.func87, Try.ntmps87
    go_wp2
    all_goals go_ret
    all_goals refine ⟨ret_bool ?_, later_alloc _ _⟩
    all_goals (rw [Bool.eq_iff_iff]; simp_all [Rep.ok])
    all_goals omega

set_option maxHeartbeats 400000 in
theorem ref_behind (pc ps pkey pk : Int) (pf : Bool) (pv pg : Int) (qc qs qkey qk : Int) (qf : Bool) (qv qg : Int) (w : World) :
    Calls Try.prog 131 #[.agg #[.int .u8 pc, .int .u32 ps, .int .u64 pkey, .int .u8 pk, .bool pf, .int .u64 pv, .int .u8 pg], .agg #[.int .u8 qc, .int .u32 qs, .int .u64 qkey, .int .u8 qk, .bool qf, .int .u64 qv, .int .u8 qg]] w fun e w' => e = .returned (.bool (ahead (Rep.mk qc qs qkey qk qf qv qg) (Rep.mk pc ps pkey pk pf pv pg))) ∧ Below w.heap.size w w' := by
  go_enter Try.func131, Try.ntmps131
  go_wp2
  all_goals go_ret
  all_goals refine ⟨ret_bool ?_, ?_⟩
  all_goals first | exact ((((Below.refl _ _).alloc (Nat.le_refl _) _).alloc (by simp) _)) | skip
  all_goals simp_all [ahead]
  all_goals omega

set_option maxHeartbeats 400000 in
theorem ref_norange (rsrc rdst rseq rlo rhi : Int) (rra : Option Addr) (rrn rrc : Nat) (rda : Option Addr) (rdn rdc : Nat) (rrows : List Row) (rdups : List Rep) (w : World) :
    Calls Try.prog 89 #[.agg #[.int .u8 rsrc, .int .u8 rdst, .int .u32 rseq, .int .u64 rlo, .int .u64 rhi, .slice rra rrn rrc, .slice rda rdn rdc]] w fun e w' => e = .returned (.bool (Rng.mk rsrc rdst rseq rlo rhi ⟨rra, rrn, rrc⟩ ⟨rda, rdn, rdc⟩ rrows rdups).no) ∧ Below w.heap.size w w' := by
  go_enter Try.func89, Try.ntmps89
  go_wp2
  all_goals go_ret
  all_goals refine ⟨ret_bool ?_, later_alloc _ _⟩
  all_goals simp_all [Rng.no]
  all_goals (rw [Bool.eq_iff_iff]; simp)

end Go.Proofs.Ytignemioillaiaa
