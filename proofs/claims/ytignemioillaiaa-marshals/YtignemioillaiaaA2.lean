/- Package right: commands and messages without fields. -/
import Derived.Test.YtignemioillaiaaA
namespace Go.Proofs.Ytignemioillaiaa
open Go.RowKit

set_option maxHeartbeats 800000 in
theorem nocmd_any (ckind : Int) (cqc cqs cqk cqkey cqv cqhi cqto : Int) (crsrc crdst crseq crlo crhi : Int) (crra : Option Addr) (crrn crrc : Nat) (crda : Option Addr) (crdn crdc : Nat) (cpeer csq : Int) (crrows : List Row) (crdups : List Rep) (w : World) :
    Calls Try.prog 122 #[.agg #[.int .u8 ckind, .int .u8 cqc, .int .u32 cqs, .int .u8 cqk, .int .u64 cqkey, .int .u64 cqv, .int .u64 cqhi, .int .u8 cqto, .int .u8 crsrc, .int .u8 crdst, .int .u32 crseq, .int .u64 crlo, .int .u64 crhi, .slice crra crrn crrc, .slice crda crdn crdc, .int .u8 cpeer, .int .u32 csq]] w fun e w' => e = .returned (.bool (Cmd.mk ckind (Req.mk cqc cqs cqk cqkey cqv cqhi cqto) (Rng.mk crsrc crdst crseq crlo crhi ⟨crra, crrn, crrc⟩ ⟨crda, crdn, crdc⟩ crrows crdups) cpeer csq).bare) ∧ Below w.heap.size w w' := by
  go_enter Try.func122, Try.ntmps122
  go_wp2_with (first | (go_at_call 125; refine (norange_any _ _ _ _ _ _ _ _ _ _ _ crrows crdups _).mono ?_; rintro e w' ⟨rfl, hbel⟩; have hB := blk hbel (heap_alloc_new w _)))
  all_goals go_ret
  all_goals refine ⟨ret_bool ?_, ?_⟩
  all_goals first | exact ((Below.refl _ _).alloc (Nat.le_refl _) _) | exact ((Below.refl _ _).alloc (Nat.le_refl _) _).trans (Below.mono ‹_› (by simp)) | skip
  all_goals simp_all [Cmd.bare, Req.no]

end Go.Proofs.Ytignemioillaiaa
