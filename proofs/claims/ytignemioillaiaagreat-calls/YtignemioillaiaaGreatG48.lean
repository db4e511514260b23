/- The law Calls: its end. -/
import Derived.Test.YtignemioillaiaaGreatG46
namespace Go.Proofs.YtignemioillaiaaGreat
set_option maxHeartbeats 8000000
set_option maxRecDepth 100000
section
open Go Go.Conc Go.RowKit
noncomputable def UU : Code := cr (cr (cr (cr (cr (cr (cr (cr (cr Jw))))))))
section
variable {K : Machine → Trace → Prop} {W w : World} {bc n sz : Nat} {gv sv : Value} {q : List cB} {B : Nat → Nat → Nat} {F : Nat → Nat → Rp} {a : Act} {cs : List Frame}
theorem yz (hL : GB none W w) (h7 : CS w bc gv sv q n sz B F) (hk : ∀ fr w', fr.fn = 4 → fr.leaving Tryz.prog w' (.returned (.bool true)) → GB none W w' → XR Tryz.prog K (G fr cs) w') (ha : ∃ ys : Nat → Value, a = ⟨#[ys 0, ys 1, ys 2, ys 3, ys 4, ys 5, ys 6, ys 7, ys 8, ys 9, ys 10, .pointer (some ⟨bc, 0, none⟩), ys 12, ys 13, ys 14, ys 15, ys 16, ys 17, ys 18, ys 19, ys 20, ys 21, ys 22, ys 23, ys 24, ys 25, ys 26, ys 27, ys 28, ys 29, ys 30, ys 31, ys 32, ys 33, ys 34, ys 35, ys 36, ys 37, ys 38, ys 39, ys 40, ys 41, ys 42, ys 43, ys 44, ys 45, ys 46, ys 47, ys 48, ys 49, ys 50, ys 51, ys 52, ys 53, ys 54, ys 55, ys 56, ys 57, ys 58, ys 59, ys 60, ys 61, ys 62, ys 63, ys 64, ys 65, ys 66, ys 67, ys 68, ys 69, ys 70, ys 71, ys 72, ys 73, ys 74, ys 75, ys 76, ys 77, ys 78, ys 79, ys 80, ys 81, ys 82, ys 83, ys 84, ys 85, ys 86, ys 87, ys 88, ys 89, ys 90, ys 91, ys 92, ys 93, ys 94, ys 95, ys 96, ys 97, ys 98, ys 99, ys 100, ys 101, ys 102, ys 103, ys 104, ys 105, ys 106, ys 107, ys 108, ys 109, ys 110, ys 111, ys 112, ys 113, ys 114, ys 115, ys 116, ys 117, ys 118, ys 119, ys 120, ys 121, ys 122, ys 123, ys 124, ys 125, ys 126, ys 127, ys 128, ys 129, ys 130, ys 131, ys 132, ys 133, ys 134, ys 135, ys 136, ys 137, ys 138, ys 139, ys 140, ys 141, ys 142, ys 143, ys 144, ys 145, ys 146, ys 147, ys 148, ys 149, ys 150, ys 151, ys 152, ys 153, ys 154, ys 155, ys 156, ys 157, ys 158, ys 159, ys 160, ys 161, ys 162, ys 163, ys 164, ys 165, ys 166, ys 167, ys 168, ys 169, ys 170, ys 171, ys 172, ys 173, ys 174, ys 175, ys 176, ys 177, ys 178, ys 179, ys 180, ys 181, ys 182, ys 183, ys 184, ys 185, ys 186, ys 187, ys 188, ys 189, ys 190, ys 191, ys 192, ys 193, ys 194, ys 195, ys 196, ys 197, ys 198, ys 199, ys 200, ys 201, ys 202, ys 203, ys 204, ys 205, .bool true, .pointer (some ⟨bc, 0, none⟩), ys 208, ys 209, ys 210, ys 211, ys 212, ys 213, ys 214, ys 215, ys 216, ys 217, ys 218, ys 219, ys 220], []⟩) :
    XR Tryz.prog K (G ((Go.Conc.base 4).at a [.inRegion (co (cl UU)) [19, 20, 21, 22, 23, 24, 25, 26, 27, 28, 29, 30, 31, 32], .code (cr UU)]) cs) w := by
  obtain ⟨ys, rfl⟩ := ha
  have hX : Shut Tryz.prog true qd (XR Tryz.prog K) := jc
  simp only [UU, Jw, Ev, CY, c4, Tryz.f4, cl, cr, co, Option.getD]
  refine Shut.bQ hX rfl rfl xB rfl Tryz.func22 (by kernel_rfl) (by rw [qp]; rfl) (kG w bc gv sv q h7.fJ h7.row h7.len (-5) 0 (YI _)) xk ?_
  rintro v8 w8 ⟨⟨a8, c8, rfl⟩, g8⟩
  have h8 := h7.ek g8
  refine xm ?_
  refine xw ?_
  refine Shut.bQ hX rfl rfl xB rfl Tryz.func22 (by kernel_rfl) (by rw [qp]; rfl) (kG w8 bc gv sv q h8.fJ h8.row h8.len 0 0 (VR _)) xk ?_
  rintro v9 w9 ⟨⟨a9, c9, rfl⟩, g9⟩
  have h9 := h8.ek g9
  refine xm ?_
  refine xw ?_
  refine Shut.bQ hX rfl rfl xB rfl Tryz.func22 (by kernel_rfl) (by rw [qp]; rfl) (kG w9 bc gv sv q h9.fJ h9.row h9.len 1099511627776 q.length (YJ h9.len)) xk ?_
  rintro Zc Io ⟨⟨Zd, c10, rfl⟩, g10⟩
  refine xm ?_
  rw [Nat.sub_self]
  refine xw ?_
  refine xg ?_
  refine aj.ret hX.c ?_
  exact hk _ _ rfl (cu rfl Tryz.func4 rfl) (((hL.trans g8).trans g9).trans g10)
end
end
end Go.Proofs.YtignemioillaiaaGreat
