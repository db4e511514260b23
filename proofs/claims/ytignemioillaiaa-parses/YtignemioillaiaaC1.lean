/- The document's answer: what is right, the small ones. -/
import Derived.Test.YtignemioillaiaaD4
import Derived.Test.YtignemioillaiaaA
namespace Go.Proofs.Ytignemioillaiaa
open Go.RowKit

set_option maxHeartbeats 400000 in
theorem ref_request (qc qs qk qkey qv qhi qto : Int) (w : World) (h0 : 0 ≤ qs) :
    Calls Try.prog 86 #[.agg (List.toArray (rQ qc qs qk qkey qv qhi qto))] w fun e w' => e = .returned (.bool (Req.mk qc qs qk qkey qv qhi qto).ok) ∧ Below w.heap.size w w' := by
  go_enter Try.func86, Try.ntmps86
  go_wp2
  all_goals go_ret
  all_goals refine ⟨ret_bool ?_, later_alloc _ _⟩
  all_goals simp_all [Req.ok]
  all_goals omega

set_option maxHeartbeats 400000 in
theorem ref_reply (pc ps pkey pk : Int) (pf : Bool) (pv pg : Int) (w : World) (h0 : 0 ≤ ps) (h1 : 0 ≤ pk) :
    Calls Try.prog 87 #[.agg (List.toArray (rP pc ps pkey pk pf pv pg))] w fun e w' => e = .returned (.bool (Rep.mk pc ps pkey pk pf pv pg).ok) ∧ Below w.heap.size w w' := by
  cases pf
  all_goals
    go_enter Try.func87, Try.ntmps87
    go_wp2
    all_goals go_ret
    all_goals refine ⟨ret_bool ?_, later_alloc _ _⟩
    all_goals (rw [Bool.eq_iff_iff]; simp_all [Rep.ok])
    all_goals omega

set_option maxHeartbeats 400000 in
theorem ref_behind (pc ps pkey pk : Int) (pf : Bool) (pv pg : Int) (qc qs qkey qk : Int) (qf : Bool) (qv qg : Int) (w : World) :
    Calls Try.prog 131 #[.agg (List.toArray (rP pc ps pkey pk pf pv pg)), .agg (List.toArray (rP qc qs qkey qk qf qv qg))] w fun e w' => e = .returned (.bool (ahead (Rep.mk qc qs qkey qk qf qv qg) (Rep.mk pc ps pkey pk pf pv pg))) ∧ Below w.heap.size w w' := by
  go_enter Try.func131, Try.ntmps131
  go_wp2
  all_goals go_ret
  all_goals refine ⟨ret_bool ?_, ?_⟩
  all_goals first | exact ((((Below.refl _ _).alloc (Nat.le_refl _) _).alloc (by simp) _)) | skip
  all_goals simp_all [ahead]
  all_goals omega

set_option maxHeartbeats 400000 in
theorem ref_norange (rsrc rdst rseq rlo rhi : Int) (rra : Option Addr) (rrn rrc : Nat) (rda : Option Addr) (rdn rdc : Nat) (rrows : List Row) (rdups : List Rep) (w : World) :
    Calls Try.prog 89 #[.agg (List.toArray (rR rsrc rdst rseq rlo rhi rra rrn rrc rda rdn rdc))] w fun e w' => e = .returned (.bool (Rng.mk rsrc rdst rseq rlo rhi ⟨rra, rrn, rrc⟩ ⟨rda, rdn, rdc⟩ rrows rdups).no) ∧ Below w.heap.size w w' := by
  go_enter Try.func89, Try.ntmps89
  go_wp2
  all_goals go_ret
  all_goals refine ⟨ret_bool ?_, later_alloc _ _⟩
  all_goals simp_all [Rng.no]
  all_goals (rw [Bool.eq_iff_iff]; simp)

end Go.Proofs.Ytignemioillaiaa

