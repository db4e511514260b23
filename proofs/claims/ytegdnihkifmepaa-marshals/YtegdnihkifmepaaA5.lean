/- Package right: ranges and commands. -/
import Derived.Test.YtegdnihkifmepaaA2
import Derived.Test.YtegdnihkifmepaaA3
import Derived.Test.YtegdnihkifmepaaA4
namespace Go.Proofs.Ytegdnihkifmepaa
open Go.RowKit

set_option maxHeartbeats 400000 in
theorem keyrange_any (rsrc rdst rseq rlo rhi : Int) (rra : Option Addr) (rrn rrc : Nat) (rda : Option Addr) (rdn rdc : Nat) (rrows : List Row) (rdups : List Rep) (w : World) (h1 : SlIn w.heap.size w ⟨rra, rrn, rrc⟩ 2 (rrows.map Row.cells)) (h2 : SlIn w.heap.size w ⟨rda, rdn, rdc⟩ 7 (rdups.map Rep.cells)) :
    Calls Try.prog 59 #[.agg #[.int .u8 rsrc, .int .u8 rdst, .int .u32 rseq, .int .u64 rlo, .int .u64 rhi, .slice rra rrn rrc, .slice rda rdn rdc]] w fun e w' => e = .returned (.bool (Rng.mk rsrc rdst rseq rlo rhi ⟨rra, rrn, rrc⟩ ⟨rda, rdn, rdc⟩ rrows rdups).ok) ∧ Below w.heap.size w w' := by
  have hr1 : SlIn (w.alloc (.cells #[.int .u8 rsrc, .int .u8 rdst, .int .u32 rseq, .int .u64 rlo, .int .u64 rhi, .slice rra rrn rrc, .slice rda rdn rdc] 33)).heap.size (w.alloc (.cells #[.int .u8 rsrc, .int .u8 rdst, .int .u32 rseq, .int .u64 rlo, .int .u64 rhi, .slice rra rrn rrc, .slice rda rdn rdc] 33)) ⟨rra, rrn, rrc⟩ 2 (rrows.map Row.cells) := h1.later (later_alloc _ _)
  go_enter Try.func59, Try.ntmps59
  go_wp2_with (first | (go_at_call 60; refine (group_any _ _).mono ?_; rintro e w1 ⟨rfl, rfl⟩) | (go_at_call 93; refine (rows_any _ _ _ _ _ _ _ _ _ _ _ rrows _ hr1).mono ?_; rintro e w1 ⟨rfl, hbel⟩; have hB := blk hbel (heap_alloc_new w _); have hd1 := h2.later (later_trans (later_alloc w _) hbel)) | (go_at_call 94; refine (dups_any _ _ _ _ _ _ _ _ _ _ _ rdups _ (by assumption)).mono ?_; rintro e w2 ⟨rfl, hbel2⟩))
  all_goals go_ret
  all_goals refine ⟨ret_bool ?_, ?_⟩
  all_goals first | exact later_trans (later_trans (later_alloc _ _) ‹Below (World.alloc _ _).heap.size _ _›) ‹_› | exact later_trans (later_alloc _ _) ‹_› | exact later_alloc _ _ | skip
  all_goals simp_all [Rng.ok]
  all_goals omega

end Go.Proofs.Ytegdnihkifmepaa
