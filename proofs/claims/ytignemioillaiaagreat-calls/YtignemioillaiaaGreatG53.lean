/- The law Calls, from its start. -/
import Derived.Test.YtignemioillaiaaGreatG52
namespace Go.Proofs.YtignemioillaiaaGreat
set_option maxHeartbeats 8000000
set_option maxRecDepth 100000
section
open Go Go.Conc Go.RowKit
def cy : Code → Code
  | .cond _ x _ => x
  | _ => .skip
noncomputable def UZ : Code := cy (cr (cl (cr (cr c4))))
section
variable {K : Machine → Trace → Prop} {pb pq : Int → Int → ByteArray} {W : World} {z0 z1 pk : Int} {g i : Nat} {d : ByteArray} {cs : List Frame}
theorem rW {w : World} {b7 : Nat} {a : Act} (mK : uA pb pq) (hL : GB none W w) (hz0 : -9223372036854775808 ≤ z0) (hz1 : z0 < 9223372036854775808) (hy0 : -9223372036854775808 ≤ z1) (hy1 : z1 < 9223372036854775808) (ll : g < 256) (ng : i < 256) (hb : w.heap[b7]? = some (.cells #[.int .u8 g, .int .u8 i] 66))
    (hk : ∀ fr w', fr.fn = 4 → fr.leaving Tryz.prog w' (.returned (.bool true)) → GB none W w' → XR Tryz.prog K (G fr cs) w') (ha : ∃ ys : Nat → Value, a = ⟨#[.int .i64 z0, .int .i64 z1, ys 2, .int .i64 pk, .string d, ys 5, ys 6, .pointer (some ⟨b7, 0, none⟩), ys 8, ys 9, .bool false, ys 11, ys 12, ys 13, ys 14, ys 15, ys 16, ys 17, ys 18, ys 19, ys 20, ys 21, ys 22, ys 23, ys 24, ys 25, ys 26, ys 27, ys 28, ys 29, ys 30, ys 31, ys 32, ys 33, ys 34, ys 35, ys 36, ys 37, ys 38, ys 39, ys 40, ys 41, ys 42, ys 43, ys 44, ys 45, ys 46, ys 47, ys 48, ys 49, .int .i64 z0, ys 51, ys 52, ys 53, ys 54, ys 55, ys 56, ys 57, ys 58, ys 59, ys 60, ys 61, ys 62, ys 63, ys 64, ys 65, ys 66, ys 67, ys 68, ys 69, ys 70, ys 71, ys 72, ys 73, ys 74, ys 75, ys 76, ys 77, ys 78, ys 79, ys 80, ys 81, ys 82, ys 83, ys 84, ys 85, ys 86, ys 87, ys 88, ys 89, ys 90, ys 91, ys 92, ys 93, ys 94, ys 95, ys 96, ys 97, ys 98, ys 99, ys 100, ys 101, ys 102, ys 103, ys 104, ys 105, ys 106, ys 107, ys 108, ys 109, ys 110, ys 111, ys 112, ys 113, ys 114, ys 115, ys 116, ys 117, ys 118, ys 119, ys 120, ys 121, ys 122, ys 123, ys 124, ys 125, ys 126, ys 127, ys 128, ys 129, ys 130, ys 131, ys 132, ys 133, ys 134, ys 135, ys 136, ys 137, ys 138, ys 139, ys 140, ys 141, ys 142, ys 143, ys 144, ys 145, ys 146, ys 147, ys 148, ys 149, ys 150, ys 151, ys 152, ys 153, ys 154, ys 155, ys 156, ys 157, ys 158, ys 159, ys 160, ys 161, ys 162, ys 163, ys 164, ys 165, ys 166, ys 167, ys 168, ys 169, ys 170, ys 171, ys 172, ys 173, ys 174, ys 175, ys 176, ys 177, ys 178, ys 179, ys 180, ys 181, ys 182, ys 183, ys 184, ys 185, ys 186, ys 187, ys 188, ys 189, ys 190, ys 191, ys 192, ys 193, ys 194, ys 195, ys 196, ys 197, ys 198, ys 199, ys 200, ys 201, ys 202, ys 203, ys 204, ys 205, ys 206, ys 207, ys 208, ys 209, ys 210, ys 211, ys 212, ys 213, ys 214, ys 215, ys 216, ys 217, ys 218, ys 219, ys 220], []⟩) :
    XR Tryz.prog K (G ((Go.Conc.base 4).at a [.inRegion (co (cl (cr UZ))) [1, 2, 3], .code (cr (cr UZ)), .code (cr (cr (cr c4)))]) cs) w := by
  obtain ⟨ys, rfl⟩ := ha
  have hX : Shut Tryz.prog true qd (XR Tryz.prog K) := jc
  simp only [UZ, c4, Tryz.f4, cl, cr, co, cy, Option.getD]
  refine Shut.bQ hX rfl rfl xB rfl Tryz.func19 (by kernel_rfl) (by rw [GZ]; rfl) (G5 w z0 4 (.inr rfl) hz0 hz1) xk ?_
  rintro v w1 ⟨⟨m, rfl, hm⟩, g1⟩
  refine xm ?_
  have hm1 : IntKind.i64.wrap (1 + (m : Int)) = ((m + 1 : Nat) : Int) := by rw [IntKind.wrap_i64]; omega
  refine xw ?_
  refine Shut.bQ hX rfl rfl xB rfl Tryz.func19 (by kernel_rfl) (by rw [GZ]; rfl) (G5 w1 z1 3 (.inl rfl) hy0 hy1) xk ?_
  rintro v w2 ⟨⟨f, rfl, hf⟩, g2⟩
  refine xm ?_
  refine xw ?_
  refine Shut.bQ hX rfl rfl xB rfl Tryz.func18 (by kernel_rfl) (by rw [CP]; rfl) (Ez w2 (m + 1) f (2 * f + 1) (by omega) (by omega) (by omega) rfl) xk ?_
  rintro v w3 ⟨bc, gv, rfl, Nv, hcm, g3⟩
  refine xm ?_
  refine xw ?_
  have pJ := (hL.trans g1).trans g2
  exact CZ mK (pJ.trans g3) (by have := pJ.size; omega) (by have := pJ.size; omega) hcm (by omega) (by omega) (by omega) rfl ll ng (((g1.trans g2).trans g3).get hb nofun) hk (dM rfl)
theorem NA {w : World} {b7 : Nat} {a : Act} (mK : uA pb pq) (hL : GB none W w) (hz0 : -9223372036854775808 ≤ z0) (hz1 : z0 < 9223372036854775808) (hy0 : -9223372036854775808 ≤ z1) (hy1 : z1 < 9223372036854775808) (_hbad : ¬(1 ≤ z0 ∧ z0 ≤ 4 ∧ 0 ≤ z1 ∧ z1 ≤ 2)) (ll : g < 256) (ng : i < 256) (hb : w.heap[b7]? = some (.cells #[.int .u8 g, .int .u8 i] 66))
    (hk : ∀ fr w', fr.fn = 4 → fr.leaving Tryz.prog w' (.returned (.bool true)) → GB none W w' → XR Tryz.prog K (G fr cs) w') (ha : ∃ ys : Nat → Value, a = ⟨#[.int .i64 z0, .int .i64 z1, ys 2, .int .i64 pk, .string d, ys 5, ys 6, .pointer (some ⟨b7, 0, none⟩), ys 8, ys 9, .bool false, ys 11, ys 12, ys 13, ys 14, ys 15, ys 16, ys 17, ys 18, ys 19, ys 20, ys 21, ys 22, ys 23, ys 24, ys 25, ys 26, .tuple #[.pointer none, .int .i64 5], ys 28, ys 29, ys 30, ys 31, ys 32, ys 33, ys 34, ys 35, ys 36, ys 37, ys 38, ys 39, ys 40, ys 41, ys 42, ys 43, ys 44, ys 45, ys 46, ys 47, ys 48, ys 49, ys 50, ys 51, ys 52, ys 53, ys 54, ys 55, ys 56, ys 57, ys 58, ys 59, ys 60, ys 61, ys 62, ys 63, ys 64, ys 65, ys 66, ys 67, ys 68, ys 69, ys 70, ys 71, ys 72, ys 73, ys 74, ys 75, ys 76, ys 77, ys 78, ys 79, ys 80, ys 81, ys 82, ys 83, ys 84, ys 85, ys 86, ys 87, ys 88, ys 89, ys 90, ys 91, ys 92, ys 93, ys 94, ys 95, ys 96, ys 97, ys 98, ys 99, ys 100, ys 101, ys 102, ys 103, ys 104, ys 105, ys 106, ys 107, ys 108, ys 109, ys 110, ys 111, ys 112, ys 113, ys 114, ys 115, ys 116, ys 117, ys 118, ys 119, ys 120, ys 121, ys 122, ys 123, ys 124, ys 125, ys 126, ys 127, ys 128, ys 129, ys 130, ys 131, ys 132, ys 133, ys 134, ys 135, ys 136, ys 137, ys 138, ys 139, ys 140, ys 141, ys 142, ys 143, ys 144, ys 145, ys 146, ys 147, ys 148, ys 149, ys 150, ys 151, ys 152, ys 153, ys 154, ys 155, ys 156, ys 157, ys 158, ys 159, ys 160, ys 161, ys 162, ys 163, ys 164, ys 165, ys 166, ys 167, ys 168, ys 169, ys 170, ys 171, ys 172, ys 173, ys 174, ys 175, ys 176, ys 177, ys 178, ys 179, ys 180, ys 181, ys 182, ys 183, ys 184, ys 185, ys 186, ys 187, ys 188, ys 189, ys 190, ys 191, ys 192, ys 193, ys 194, ys 195, ys 196, ys 197, ys 198, ys 199, ys 200, ys 201, ys 202, ys 203, ys 204, ys 205, ys 206, ys 207, ys 208, ys 209, ys 210, ys 211, ys 212, ys 213, ys 214, ys 215, ys 216, ys 217, ys 218, ys 219, ys 220], []⟩) :
    XR Tryz.prog K (G ((Go.Conc.base 4).at a [.inRegion (co (cl (cr c4))) [3, 4, 5, 6, 7], .code (cr (cr c4))]) cs) w := by
  obtain ⟨ys, rfl⟩ := ha
  have hX : Shut Tryz.prog true qd (XR Tryz.prog K) := jc
  simp only [c4, Tryz.f4, cl, cr, co, Option.getD]
  by_cases h1 : z0 < 1
  · refine xw ?_
    exact rW mK hL hz0 hz1 hy0 hy1 ll ng hb hk (dM rfl)
  by_cases h2 : 4 < z0
  · refine xw ?_
    exact rW mK hL hz0 hz1 hy0 hy1 ll ng hb hk (dM rfl)
  by_cases h3 : z1 < 0
  · refine xw ?_
    exact rW mK hL hz0 hz1 hy0 hy1 ll ng hb hk (dM rfl)
  have h4 : 2 < z1 := by omega
  refine xw ?_
  exact rW mK hL hz0 hz1 hy0 hy1 ll ng hb hk (dM rfl)
theorem Ie (mK : uA pb pq) (hz0 : -9223372036854775808 ≤ z0) (hz1 : z0 < 9223372036854775808) (hy0 : -9223372036854775808 ≤ z1) (hy1 : z1 < 9223372036854775808) (ll : g < 256) (ng : i < 256)
    (hk : ∀ fr w', fr.fn = 4 → fr.leaving Tryz.prog w' (.returned (.bool true)) → GB none W w' → XR Tryz.prog K (G fr cs) w') :
    XR Tryz.prog K (G (Frame.enter Tryz.prog 4 #[.int .i64 z0, .int .i64 z1, .agg #[.int .u8 g, .int .u8 i], .int .i64 pk, .string d] .normal) cs) W := by
  have hX : Shut Tryz.prog true qd (XR Tryz.prog K) := jc
  rw [UO]
  simp only [c4, Tryz.f4, Option.getD]
  refine xw ?_
  refine Shut.cK hX rfl rfl xB xO (ob := .cells #[.int .u8 g, .int .u8 i] 66) (v := fun b => .pointer (some ⟨b, 0, none⟩)) (fun w1 _ => by go_simp <;> rfl) (fun w1 b7 hb1 g1 l1 => ?_)
  refine xn ?_
  refine xw ?_
  by_cases hgood : 1 ≤ z0 ∧ z0 ≤ 4 ∧ 0 ≤ z1 ∧ z1 ≤ 2
  · obtain ⟨n, rfl⟩ : ∃ n : Nat, z0 = n := ⟨z0.toNat, by omega⟩
    obtain ⟨f, rfl⟩ : ∃ f : Nat, z1 = f := ⟨z1.toNat, by omega⟩
    have c1 : ¬ (n : Int) < 1 := by omega
    have c2 : ¬ 4 < (n : Int) := by omega
    have c3 : ¬ (f : Int) < 0 := by omega
    have Zh : ¬ 2 < (f : Int) := by omega
    refine Shut.bQ hX rfl rfl xB rfl Tryz.func18 (by kernel_rfl) (by rw [CP]; rfl) (Ez w1 n f (2 * f + 1) (by omega) (by omega) (by omega) rfl) xk ?_
    rintro v w2 ⟨bc, gv, rfl, Nv, hcm, g2⟩
    refine xm ?_
    refine xw ?_
    exact CZ mK (g1.trans g2) (by have := g1.size; omega) (by have := g1.size; omega) hcm (by omega) (by omega) (by omega) rfl ll ng (g2.get hb1 nofun) hk (dM rfl)
  · refine Shut.bQ hX rfl rfl xB rfl Tryz.func18 (by kernel_rfl) (by rw [CP]; rfl) (Sq w1 z0 z1 hgood) xk ?_
    rintro v w2 ⟨rfl, g2⟩
    refine xm ?_
    refine NA mK (g1.trans g2) hz0 hz1 hy0 hy1 hgood ll ng (g2.get hb1 nofun) hk (dM rfl)
end
end
end Go.Proofs.YtignemioillaiaaGreat
