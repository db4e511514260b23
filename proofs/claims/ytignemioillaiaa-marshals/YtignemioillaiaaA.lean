/- Package right: the small functions. -/
import Derived.Test.YtignemioillaiaaRows
import Derived.Test.YtignemioillaiaaD4
import Derived.WalkLawsBesides
namespace Go.Proofs.Ytignemioillaiaa
open Go.RowKit

set_option maxHeartbeats 400000 in
theorem group_any (g : Int) (w : World) :
    Calls Try.prog 74 #[.int .u8 g] w fun e w' => e = .returned (.bool (decide (g < 4))) ∧ w' = w := by
  go_enter Try.func74, Try.ntmps74
  go_wp2
  go_ret
  exact ⟨rfl, rfl⟩

set_option maxHeartbeats 400000 in
theorem asker_any (c s : Int) (w : World) :
    Calls Try.prog 121 #[.int .u8 c, .int .u32 s] w fun e w' => e = .returned (.bool (decide (c < 4) && decide (1 ≤ s))) ∧ w' = w := by
  go_enter Try.func121, Try.ntmps121
  go_wp2
  all_goals go_ret
  all_goals exact ⟨ret_bool (by simp [*] <;> omega), rfl⟩

set_option maxHeartbeats 400000 in
theorem request_any (qc qs qk qkey qv qhi qto : Int) (w : World) :
    Calls Try.prog 69 #[.agg #[.int .u8 qc, .int .u32 qs, .int .u8 qk, .int .u64 qkey, .int .u64 qv, .int .u64 qhi, .int .u8 qto]] w fun e w' => e = .returned (.bool (Req.mk qc qs qk qkey qv qhi qto).ok) ∧ Below w.heap.size w w' := by
  go_enter Try.func69, Try.ntmps69
  go_wp2_with (first | (go_at_call 121; refine (asker_any _ _ _).mono ?_; rintro e w' ⟨rfl, rfl⟩) | (go_at_call 74; refine (group_any _ _).mono ?_; rintro e w' ⟨rfl, rfl⟩))
  all_goals go_ret
  all_goals refine ⟨ret_bool ?_, ?_⟩
  all_goals first | exact ((((Below.refl _ _).alloc (Nat.le_refl _) _).setCell (Nat.le_refl _) _).setCell (Nat.le_refl _) _) | exact (((Below.refl _ _).alloc (Nat.le_refl _) _).setCell (Nat.le_refl _) _) | exact ((Below.refl _ _).alloc (Nat.le_refl _) _) | skip
  all_goals simp_all [Req.ok]
  all_goals omega

set_option maxHeartbeats 400000 in
theorem reply_any (pc ps pkey pk : Int) (pf : Bool) (pv pg : Int) (w : World) :
    Calls Try.prog 70 #[.agg #[.int .u8 pc, .int .u32 ps, .int .u64 pkey, .int .u8 pk, .bool pf, .int .u64 pv, .int .u8 pg]] w fun e w' => e = .returned (.bool (Rep.mk pc ps pkey pk pf pv pg).ok) ∧ Below w.heap.size w w' := by
  go_enter Try.func70, Try.ntmps70
  go_wp2_with (first | (go_at_call 121; refine (asker_any _ _ _).mono ?_; rintro e w' ⟨rfl, rfl⟩) | (go_at_call 74; refine (group_any _ _).mono ?_; rintro e w' ⟨rfl, rfl⟩))
  all_goals go_ret
  all_goals refine ⟨ret_bool ?_, ?_⟩
  all_goals first | exact ((((Below.refl _ _).alloc (Nat.le_refl _) _).setCell (Nat.le_refl _) _).setCell (Nat.le_refl _) _) | exact (((Below.refl _ _).alloc (Nat.le_refl _) _).setCell (Nat.le_refl _) _) | exact ((Below.refl _ _).alloc (Nat.le_refl _) _) | skip
  all_goals cases pf <;> simp_all [Rep.ok]
  all_goals omega

set_option maxHeartbeats 400000 in
theorem remembered_any (k : Int) (w : World) :
    Calls Try.prog 152 #[.int .u8 k] w fun e w' => e = .returned (.bool (kept k)) ∧ w' = w := by
  go_enter Try.func152, Try.ntmps152
  go_wp2
  all_goals go_ret
  all_goals exact ⟨ret_bool (by simp_all [kept] <;> omega), rfl⟩

set_option maxHeartbeats 400000 in
theorem ahead_any (pc ps pkey pk : Int) (pf : Bool) (pv pg : Int) (qc qs qkey qk : Int) (qf : Bool) (qv qg : Int) (w : World) :
    Calls Try.prog 153 #[.agg #[.int .u8 pc, .int .u32 ps, .int .u64 pkey, .int .u8 pk, .bool pf, .int .u64 pv, .int .u8 pg], .agg #[.int .u8 qc, .int .u32 qs, .int .u64 qkey, .int .u8 qk, .bool qf, .int .u64 qv, .int .u8 qg]] w fun e w' => e = .returned (.bool (ahead (Rep.mk pc ps pkey pk pf pv pg) (Rep.mk qc qs qkey qk qf qv qg))) ∧ Below w.heap.size w w' := by
  go_enter Try.func153, Try.ntmps153
  go_wp2
  all_goals go_ret
  all_goals refine ⟨ret_bool ?_, ?_⟩
  all_goals first | exact ((((Below.refl _ _).alloc (Nat.le_refl _) _).alloc (by simp) _)) | skip
  all_goals simp_all [ahead]
  all_goals omega

set_option maxHeartbeats 400000 in
theorem within_any (rsrc rdst rseq rlo rhi : Int) (rra : Option Addr) (rrn rrc : Nat) (rda : Option Addr) (rdn rdc : Nat) (key : Int) (w : World) :
    Calls Try.prog 151 #[.agg #[.int .u8 rsrc, .int .u8 rdst, .int .u32 rseq, .int .u64 rlo, .int .u64 rhi, .slice rra rrn rrc, .slice rda rdn rdc], .int .u64 key] w fun e w' => e = .returned (.bool (decide (rlo ≤ key) && decide (key ≤ rhi))) ∧ Below w.heap.size w w' := by
  go_enter Try.func151, Try.ntmps151
  go_wp2
  all_goals go_ret
  all_goals refine ⟨ret_bool ?_, ?_⟩
  all_goals first | exact ((Below.refl _ _).alloc (Nat.le_refl _) _) | skip
  all_goals simp [*]
  all_goals omega

set_option maxHeartbeats 400000 in
theorem norange_any (rsrc rdst rseq rlo rhi : Int) (rra : Option Addr) (rrn rrc : Nat) (rda : Option Addr) (rdn rdc : Nat) (rrows : List Row) (rdups : List Rep) (w : World) :
    Calls Try.prog 125 #[.agg #[.int .u8 rsrc, .int .u8 rdst, .int .u32 rseq, .int .u64 rlo, .int .u64 rhi, .slice rra rrn rrc, .slice rda rdn rdc]] w fun e w' => e = .returned (.bool (Rng.mk rsrc rdst rseq rlo rhi ⟨rra, rrn, rrc⟩ ⟨rda, rdn, rdc⟩ rrows rdups).no) ∧ Below w.heap.size w w' := by
  go_enter Try.func125, Try.ntmps125
  go_wp2
  all_goals go_ret
  all_goals refine ⟨ret_bool ?_, ?_⟩
  all_goals first | exact ((Below.refl _ _).alloc (Nat.le_refl _) _) | skip
  all_goals simp_all [Rng.no]
  all_goals (rw [Bool.eq_iff_iff]; simp)

end Go.Proofs.Ytignemioillaiaa
