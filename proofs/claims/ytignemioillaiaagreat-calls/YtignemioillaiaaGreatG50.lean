/- The law Calls, where there is such a replica: its tick and its crash. -/
import Derived.Test.YtignemioillaiaaGreatG47
import Derived.Test.YtignemioillaiaaGreatG49
namespace Go.Proofs.YtignemioillaiaaGreat
set_option maxHeartbeats 8000000
set_option maxRecDepth 100000
section
open Go Go.Conc Go.RowKit
section
variable {K : Machine → Trace → Prop} {pb pq : Int → Int → ByteArray} {W w : World} {bc b7 n f sz g i : Nat} {gv sv : Value} {B : Nat → Nat → Nat} {F : Nat → Nat → Rp} {pk : Int} {d : ByteArray} {a : Act} {cs : List Frame}
theorem Qj (mK : uA pb pq) (hL : Lw W w bc n sz B sv) (h : CS w bc gv sv [] n sz B F) (hn : n ≤ 4) (hs : sz ≤ 5) (hg : g < n) (hi : i < sz) (hF : ∀ j, j < sz → Fr (F g j)) (hb : w.heap[b7]? = some (.cells #[.int .u8 g, .int .u8 i] 66))
    (hk : ∀ fr w', fr.fn = 4 → fr.leaving Tryz.prog w' (.returned (.bool true)) → GB none W w' → XR Tryz.prog K (G fr cs) w') (ha : ∃ ys : Nat → Value, a = ⟨#[.int .i64 n, .int .i64 f, ys 2, .int .i64 pk, .string d, ys 5, ys 6, .pointer (some ⟨b7, 0, none⟩), ys 8, ys 9, .bool false, .pointer (some ⟨bc, 0, none⟩), ys 12, .bool true, ys 14, ys 15, ys 16, ys 17, ys 18, ys 19, ys 20, ys 21, ys 22, ys 23, ys 24, ys 25, ys 26, ys 27, ys 28, ys 29, ys 30, ys 31, ys 32, ys 33, ys 34, ys 35, ys 36, ys 37, ys 38, ys 39, ys 40, ys 41, ys 42, ys 43, ys 44, ys 45, ys 46, ys 47, ys 48, ys 49, ys 50, ys 51, ys 52, ys 53, ys 54, ys 55, ys 56, ys 57, ys 58, ys 59, ys 60, ys 61, ys 62, ys 63, ys 64, ys 65, ys 66, ys 67, ys 68, ys 69, ys 70, ys 71, ys 72, ys 73, ys 74, ys 75, ys 76, ys 77, ys 78, ys 79, ys 80, ys 81, ys 82, ys 83, ys 84, ys 85, ys 86, ys 87, ys 88, ys 89, ys 90, ys 91, ys 92, ys 93, ys 94, ys 95, ys 96, ys 97, ys 98, ys 99, ys 100, ys 101, ys 102, ys 103, ys 104, ys 105, ys 106, ys 107, ys 108, ys 109, ys 110, ys 111, ys 112, ys 113, ys 114, ys 115, ys 116, ys 117, ys 118, ys 119, ys 120, ys 121, ys 122, ys 123, ys 124, ys 125, ys 126, ys 127, ys 128, ys 129, ys 130, ys 131, ys 132, ys 133, ys 134, ys 135, ys 136, ys 137, ys 138, ys 139, ys 140, ys 141, ys 142, ys 143, ys 144, ys 145, ys 146, ys 147, ys 148, ys 149, ys 150, ys 151, ys 152, ys 153, ys 154, ys 155, ys 156, ys 157, ys 158, ys 159, ys 160, ys 161, ys 162, ys 163, ys 164, ys 165, ys 166, ys 167, ys 168, ys 169, ys 170, ys 171, ys 172, ys 173, ys 174, ys 175, ys 176, ys 177, ys 178, ys 179, ys 180, ys 181, ys 182, ys 183, ys 184, ys 185, ys 186, ys 187, ys 188, ys 189, ys 190, ys 191, ys 192, ys 193, ys 194, ys 195, ys 196, ys 197, ys 198, ys 199, ys 200, ys 201, ys 202, ys 203, ys 204, ys 205, ys 206, ys 207, ys 208, ys 209, ys 210, ys 211, ys 212, ys 213, ys 214, ys 215, ys 216, ys 217, ys 218, ys 219, ys 220], []⟩) :
    XR Tryz.prog K (G ((Go.Conc.base 4).at a [.code Ev]) cs) w := by
  obtain ⟨ys, rfl⟩ := ha
  have hX : Shut Tryz.prog true qd (XR Tryz.prog K) := jc
  simp only [Ev, CY, c4, Tryz.f4, cr, Option.getD]
  refine xw ?_
  refine Shut.dF hX rfl rfl xB rfl rfl hb (by kernel_rfl) [.int .u8 g, .int .u8 i] (by kernel_rfl) (Nat.le_of_ble_eq_true rfl) rfl ?_
  refine xn ?_
  refine xw ?_
  refine aj.call hX.c rfl rfl (by decide) rfl Tryz.func20 (by kernel_rfl) (by rw [GX]; rfl) ?_
  refine xm ?_
  refine SE mK h hn hs hg hi (hF i hi) (fun w1 Nz m ob h1 hG1 hV1 => ?_)
  rw [Frame.finish_at]
  refine xm ?_
  have hb1 := hG1.ty h.QS hb (by decide)
  have hL1 := hL.step hG1 hV1
  generalize hq : List.take 20000 ([] ++ (lT g i g sz).map (lL (F g i) (pb ((F g i).jr sz m).bn ((F g i).jr sz m).bi))) = q at h1
  have VT : q.length < 10 := by
    have := zm g i g sz
    rw [← hq, List.length_take]
    simp only [List.nil_append, List.length_map]
    omega
  have hpk : ∀ r2, ∀ p ∈ q, GY pb (upd (upd F g i { (F g i).jr sz m with wn := ((F g i).jr sz m).bn, wi := ((F g i).jr sz m).bi, ob := ob }) g i r2) n sz p := by
    intro r2 p hp
    rw [← hq] at hp
    have hp := List.mem_of_mem_take hp
    rw [List.nil_append] at hp
    obtain ⟨x, hx, rfl⟩ := List.mem_map.1 hp
    obtain ⟨j, hj, rfl, hji⟩ := Jy hx
    have UW : ¬(g = g ∧ j = i) := fun e => hji ⟨rfl, by rw [e.2]⟩
    have hR := h.rep g i hg hi
    have hj1 : sz ≠ 1 := fun e => by
      have : j = i := by omega
      exact hji ⟨rfl, by rw [this]⟩
    have UX := hF j hj
    refine .inl ⟨g, i, j, ((F g i).jr sz m).bn, ((F g i).jr sz m).bi, ?_, hg, hj, ?_⟩
    · unfold lL
      rw [hR.g, hR.i]
    · rw [tY _ _ UW, tY _ _ UW, UX.bn, UX.bi, UX.sn]
      unfold Rp.jr
      rw [if_neg hj1]
      dsimp only
      rw [hR.i]
      refine ⟨by unfold uz; simp, by omega, rfl, by omega, by omega, by omega, by omega⟩
  refine xw ?_
  refine Shut.dF hX rfl rfl xB rfl rfl hb1 (by kernel_rfl) [.int .u8 g, .int .u8 i] (by kernel_rfl) (Nat.le_of_ble_eq_true rfl) rfl ?_
  refine xn ?_
  refine xw ?_
  have dZ := h1.rep g i hg hi
  refine Shut.bQ hX rfl rfl xB rfl Tryz.func21 (by kernel_rfl) (by rw [GQ]; rfl) (MN w1 bc n sz g i gv Nz h1.fJ (by omega) hn hs hg hi (B g i) _ (h1.ptr g i hg hi) dZ) xk ?_
  rintro v w2 ⟨rfl, g2, r2, hR2, _, _, _, _, _, hro⟩
  have h2 := h1.Xw hg hi g2 hR2
  have hL2 := hL1.step (dR := Nz) ((GS.refl _ w1).gb g2 fun x hx => by cases hx; exact .inl (.inr (.inl ⟨g, i, hg, hi, rfl⟩))) (fun x hx => .inl hx)
  have hb2 : w2.heap[b7]? = some (.cells #[.int .u8 g, .int .u8 i] 66) := (g2.kp (T := [152]) fun b hb => by cases hb; exact ⟨_, _, _, dZ.mem, by decide⟩).blk hb1 (by decide)
  refine xm ?_
  refine xw ?_
  refine Shut.bQ hX rfl rfl xB rfl Tryz.func22 (by kernel_rfl) (by rw [qp]; rfl) (kG w2 bc gv Nz q h2.fJ h2.row h2.len 0 0 (VR _)) xk ?_
  rintro v w3 ⟨⟨pa, pc, rfl⟩, g3⟩
  refine xm ?_
  rw [Nat.sub_zero]
  refine Shut.still hX rfl rfl xB (nJ rfl rfl) _ (fun _ _ => by go_simp <;> with_reducible rfl) ?_
  refine xn ?_
  refine Shut.still hX rfl rfl xB xO _ (fun _ _ => by go_simp <;> with_reducible rfl) ?_
  refine xn ?_
  refine aj.regionEnd hX.c ?_
  have h3 := h2.ek g3
  have hL3 := hL2.ek g3
  have hb3 := g3.get hb2 nofun
  by_cases hd : 1000 < d.size
  · exact Nw mK hL3 h3 hn hs hg hi hb3 (hpk r2) hd hk (dM rfl)
  · exact Qi mK hL3 h3 hn hs hg hi hb3 (hpk r2) (by omega) (by rw [upd_same]; exact hro) VT hk (dM rfl)
end
end
end Go.Proofs.YtignemioillaiaaGreat
