/- Package right: the small functions. -/
import Derived.Test.YtignemioillaiaaGreatG01
import Derived.WalkLawsBesides
namespace Go.Proofs.YtignemioillaiaaGreat
set_option maxHeartbeats 8000000
set_option maxRecDepth 100000
section
open Go.RowKit
theorem Jt (g:Int) (w:World) :
 Calls Tryz.prog 133 #[.int .u8 g] w fun e w'=>e=.returned (.bool (decide (g<4)))∧w'=w:=by
 go_enter Tryz.func133,Tryz.ntmps133
 go_wp2
 go_ret
 exact ⟨rfl,rfl⟩
theorem Pn (c s:Int) (w:World) :
 Calls Tryz.prog 132 #[.int .u8 c,.int .u32 s] w fun e w'=>e=.returned (.bool (decide (c<4) && decide (1≤s)))∧w'=w:=by
 go_enter Tryz.func132,Tryz.ntmps132
 go_wp2
 all_goals go_ret
 all_goals exact ⟨dA (by simp [*] <;> omega),rfl⟩
theorem wW (qc qs qk ag qv au aA:Int) (w:World) :
 Calls Tryz.prog 82 #[.agg (rQ qc qs qk ag qv au aA).toArray] w fun e w'=>e=.returned (.bool (bH.mk qc qs qk ag qv au aA).ok)∧Below w.heap.size w w':=by
 go_enter Tryz.func82,Tryz.ntmps82
 go_wp2_with (first | (go_at_call 132;refine (Pn _ _ _).mono ?_;rintro e w' ⟨rfl,rfl⟩) | (go_at_call 133;refine (Jt _ _).mono ?_;rintro e w' ⟨rfl,rfl⟩))
 all_goals go_ret
 all_goals refine ⟨dA ?_,?_⟩
 all_goals first | exact ((((Below.refl _ _).alloc (Nat.le_refl _) _).setCell (Nat.le_refl _) _).setCell (Nat.le_refl _) _) | exact (((Below.refl _ _).alloc (Nat.le_refl _) _).setCell (Nat.le_refl _) _) | exact ((Below.refl _ _).alloc (Nat.le_refl _) _) | skip
 all_goals simp_all [bH.ok]
 all_goals omega
theorem Po (pc ps eZ pk:Int) (pf:Bool) (pv pg:Int) (w:World) :
 Calls Tryz.prog 183 #[.agg (rP pc ps eZ pk pf pv pg).toArray] w fun e w'=>e=.returned (.bool (ak.mk pc ps eZ pk pf pv pg).ok)∧Below w.heap.size w w':=by
 go_enter Tryz.func183,Tryz.ntmps183
 go_wp2_with (first | (go_at_call 132;refine (Pn _ _ _).mono ?_;rintro e w' ⟨rfl,rfl⟩) | (go_at_call 133;refine (Jt _ _).mono ?_;rintro e w' ⟨rfl,rfl⟩))
 all_goals go_ret
 all_goals refine ⟨dA ?_,?_⟩
 all_goals first | exact ((((Below.refl _ _).alloc (Nat.le_refl _) _).setCell (Nat.le_refl _) _).setCell (Nat.le_refl _) _) | exact (((Below.refl _ _).alloc (Nat.le_refl _) _).setCell (Nat.le_refl _) _) | exact ((Below.refl _ _).alloc (Nat.le_refl _) _) | skip
 all_goals cases pf <;> simp_all [ak.ok]
 all_goals omega
theorem GL (k:Int) (w:World) :
 Calls Tryz.prog 184 #[.int .u8 k] w fun e w'=>e=.returned (.bool (kept k))∧w'=w:=by
 go_enter Tryz.func184,Tryz.ntmps184
 go_wp2
 all_goals go_ret
 all_goals exact ⟨dA (by simp_all [kept] <;> omega),rfl⟩
theorem Xo (pc ps eZ pk:Int) (pf:Bool) (pv pg:Int) (qc qs ag qk:Int) (qf:Bool) (qv qg:Int) (w:World) :
 Calls Tryz.prog 185 #[.agg (rP pc ps eZ pk pf pv pg).toArray,.agg (rP qc qs ag qk qf qv qg).toArray] w fun e w'=>e=.returned (.bool (ahead (ak.mk pc ps eZ pk pf pv pg) (ak.mk qc qs ag qk qf qv qg)))∧Below w.heap.size w w':=by
 go_enter Tryz.func185,Tryz.ntmps185
 go_wp2
 all_goals go_ret
 all_goals refine ⟨dA ?_,?_⟩
 all_goals first | exact ((((Below.refl _ _).alloc (Nat.le_refl _) _).alloc (by simp) _)) | skip
 all_goals simp_all [ahead]
 all_goals omega
theorem Dk (aM bG aV aP bg:Int) (bZ:Option Addr) (bR cK:Nat) (bX:Option Addr) (bN bY:Nat) (key:Int) (w:World) :
 Calls Tryz.prog 182 #[.agg (rR aM bG aV aP bg bZ bR cK bX bN bY).toArray,.int .u64 key] w fun e w'=>e=.returned (.bool (decide (aP≤key) && decide (key≤bg)))∧Below w.heap.size w w':=by
 go_enter Tryz.func182,Tryz.ntmps182
 go_wp2
 all_goals go_ret
 all_goals refine ⟨dA ?_,?_⟩
 all_goals first | exact ((Below.refl _ _).alloc (Nat.le_refl _) _) | skip
 all_goals simp [*]
 all_goals omega
theorem K7 (qc qs qk ag qv au aA:Int) (w:World) (h0:0≤qs) :
 Calls Tryz.prog 47 #[.agg (rQ qc qs qk ag qv au aA).toArray] w fun e w'=>e=.returned (.bool (bH.mk qc qs qk ag qv au aA).ok)∧Below w.heap.size w w':=by
 go_enter Tryz.func47,Tryz.ntmps47
 go_wp2
 all_goals go_ret
 all_goals refine ⟨dA ?_,aj _ _⟩
 all_goals simp_all [bH.ok]
 all_goals omega
theorem qN (pc ps eZ pk:Int) (pf:Bool) (pv pg:Int) (w:World) (h0:0≤ps) (h1:0≤pk) :
 Calls Tryz.prog 102 #[.agg (rP pc ps eZ pk pf pv pg).toArray] w fun e w'=>e=.returned (.bool (ak.mk pc ps eZ pk pf pv pg).ok)∧Below w.heap.size w w':=by
 cases pf
 all_goals
  go_enter Tryz.func102,Tryz.ntmps102
  go_wp2
  all_goals go_ret
  all_goals refine ⟨dA ?_,aj _ _⟩
  all_goals (rw [Bool.eq_iff_iff];simp_all [ak.ok])
  all_goals omega
theorem rU (pc ps eZ pk:Int) (pf:Bool) (pv pg:Int) (qc qs ag qk:Int) (qf:Bool) (qv qg:Int) (w:World) :
 Calls Tryz.prog 103 #[.agg (rP pc ps eZ pk pf pv pg).toArray,.agg (rP qc qs ag qk qf qv qg).toArray] w fun e w'=>e=.returned (.bool (ahead (ak.mk qc qs ag qk qf qv qg) (ak.mk pc ps eZ pk pf pv pg)))∧Below w.heap.size w w':=by
 go_enter Tryz.func103,Tryz.ntmps103
 go_wp2
 all_goals go_ret
 all_goals refine ⟨dA ?_,?_⟩
 all_goals first | exact ((((Below.refl _ _).alloc (Nat.le_refl _) _).alloc (by simp) _)) | skip
 all_goals simp_all [ahead]
 all_goals omega
end
end Go.Proofs.YtignemioillaiaaGreat
