/- The law Calls, where there is no such replica. -/
import Derived.Test.YtignemioillaiaaGreatG46
namespace Go.Proofs.YtignemioillaiaaGreat
set_option maxHeartbeats 8000000
set_option maxRecDepth 100000
section
open Go Go.Conc Go.RowKit
section
variable {K : Machine → Trace → Prop} {W w : World} {bc b7 n f sz g i : Nat} {gv sv : Value} {B : Nat → Nat → Nat} {F : Nat → Nat → Rp} {pk : Int} {d : ByteArray} {a : Act} {cs : List Frame}
theorem Ew (hL : GB none W w) (h : CS w bc gv sv [] n sz B F) (hn1 : 1 ≤ n) (hn : n ≤ 4) (_hf : f ≤ 2) (_hsz : sz = 2 * f + 1) (ll : g < 256) (ng : i < 256) (hb : w.heap[b7]? = some (.cells #[.int .u8 g, .int .u8 i] 66)) (hcase : n ≤ g ∨ (g < n ∧ sz ≤ i))
    (hk : ∀ fr w', fr.fn = 4 → fr.leaving Tryz.prog w' (.returned (.bool true)) → GB none W w' → XR Tryz.prog K (G fr cs) w') (ha : ∃ ys : Nat → Value, a = ⟨#[.int .i64 n, .int .i64 f, ys 2, .int .i64 pk, .string d, ys 5, ys 6, .pointer (some ⟨b7, 0, none⟩), ys 8, ys 9, .bool false, .pointer (some ⟨bc, 0, none⟩), ys 12, .bool false, ys 14, ys 15, ys 16, ys 17, ys 18, ys 19, ys 20, ys 21, ys 22, ys 23, ys 24, ys 25, ys 26, ys 27, ys 28, ys 29, ys 30, ys 31, ys 32, ys 33, ys 34, ys 35, ys 36, ys 37, ys 38, ys 39, ys 40, ys 41, ys 42, ys 43, ys 44, ys 45, ys 46, ys 47, ys 48, ys 49, ys 50, ys 51, ys 52, ys 53, ys 54, ys 55, ys 56, ys 57, ys 58, ys 59, ys 60, ys 61, ys 62, ys 63, ys 64, ys 65, ys 66, ys 67, ys 68, ys 69, ys 70, ys 71, ys 72, ys 73, ys 74, ys 75, ys 76, ys 77, ys 78, ys 79, ys 80, ys 81, ys 82, ys 83, ys 84, ys 85, ys 86, ys 87, ys 88, ys 89, ys 90, ys 91, ys 92, ys 93, ys 94, ys 95, ys 96, ys 97, ys 98, ys 99, ys 100, ys 101, ys 102, ys 103, ys 104, ys 105, ys 106, ys 107, ys 108, ys 109, ys 110, ys 111, ys 112, ys 113, ys 114, ys 115, ys 116, ys 117, ys 118, ys 119, ys 120, ys 121, ys 122, ys 123, ys 124, ys 125, ys 126, ys 127, ys 128, ys 129, ys 130, ys 131, ys 132, ys 133, ys 134, ys 135, ys 136, ys 137, ys 138, ys 139, ys 140, ys 141, ys 142, ys 143, ys 144, ys 145, ys 146, ys 147, ys 148, ys 149, ys 150, ys 151, ys 152, ys 153, ys 154, ys 155, ys 156, ys 157, ys 158, ys 159, ys 160, ys 161, ys 162, ys 163, ys 164, ys 165, ys 166, ys 167, ys 168, ys 169, ys 170, ys 171, ys 172, ys 173, ys 174, ys 175, ys 176, ys 177, ys 178, ys 179, ys 180, ys 181, ys 182, ys 183, ys 184, ys 185, ys 186, ys 187, ys 188, ys 189, ys 190, ys 191, ys 192, ys 193, ys 194, ys 195, ys 196, ys 197, ys 198, ys 199, ys 200, ys 201, ys 202, ys 203, ys 204, ys 205, ys 206, ys 207, ys 208, ys 209, ys 210, ys 211, ys 212, ys 213, ys 214, ys 215, ys 216, ys 217, ys 218, ys 219, ys 220], []⟩) :
    XR Tryz.prog K (G ((Go.Conc.base 4).at a [.code Ev]) cs) w := by
  obtain ⟨ys, rfl⟩ := ha
  have hX : Shut Tryz.prog true qd (XR Tryz.prog K) := jc
  simp only [Ev, CY, c4, Tryz.f4, cr, Option.getD]
  have hgv := h.gv hn1 (by omega)
  have G6 : ∀ {w' : World}, GB none w w' → (n ≤ g ∨ (g < n ∧ sz ≤ i ∧ ∃ br, Ptr w' gv n sz g 0 br)) := fun k => hcase.imp id fun hc => ⟨hc.1, hc.2, B g 0, (h.ptr g 0 hc.1 (by omega)).gb k⟩
  refine xw ?_
  refine Shut.dF hX rfl rfl xB rfl rfl hb (by kernel_rfl) [.int .u8 g, .int .u8 i] (by kernel_rfl) (Nat.le_of_ble_eq_true rfl) rfl ?_
  refine xn ?_
  refine xw ?_
  refine Shut.bQ hX rfl rfl xB rfl Tryz.func20 (by kernel_rfl) (by rw [GX]; rfl) (SF w bc n sz g i gv sv h.fJ hgv hn (by omega) ll ng (G6 (GB.refl _ _))) xk ?_
  rintro v w1 ⟨rfl, g1⟩
  refine xm ?_
  refine xw ?_
  refine Shut.dF hX rfl rfl xB rfl rfl (g1.get hb nofun) (by kernel_rfl) [.int .u8 g, .int .u8 i] (by kernel_rfl) (Nat.le_of_ble_eq_true rfl) rfl ?_
  refine xn ?_
  refine xw ?_
  refine Shut.bQ hX rfl rfl xB rfl Tryz.func21 (by kernel_rfl) (by rw [GQ]; rfl) (Ph w1 bc n sz g i gv sv (g1.get h.fJ nofun) hgv hn (by omega) ll ng (G6 g1)) xk ?_
  rintro v w2 ⟨rfl, g2⟩
  have pJ := g1.trans g2
  refine xm ?_
  refine xw ?_
  refine Shut.bQ hX rfl rfl xB rfl Tryz.func22 (by kernel_rfl) (by rw [qp]; rfl) (kG w2 bc gv sv [] (pJ.get h.fJ nofun) (h.ek pJ).row (by simp) 0 0 rfl) xk ?_
  rintro v w3 ⟨⟨pa, pc, rfl⟩, g3⟩
  have vW := pJ.trans g3
  refine xm ?_
  refine xw ?_
  refine Shut.dF hX rfl rfl xB rfl rfl (vW.get hb nofun) (by kernel_rfl) [.int .u8 g, .int .u8 i] (by kernel_rfl) (Nat.le_of_ble_eq_true rfl) rfl ?_
  refine xn ?_
  refine xw ?_
  refine Shut.bQ hX rfl rfl xB rfl Tryz.func23 (by kernel_rfl) (by rw [CQ]; rfl) (SI w3 bc n sz g i gv sv (vW.get h.fJ nofun) hgv hn (by omega) ll ng (G6 vW) d) xk ?_
  rintro v w4 ⟨rfl, g4⟩
  have Et := vW.trans g4
  refine xm ?_
  refine xw ?_
  refine Shut.bQ hX rfl rfl xB rfl Tryz.func22 (by kernel_rfl) (by rw [qp]; rfl) (kG w4 bc gv sv [] (Et.get h.fJ nofun) (h.ek Et).row (by simp) 0 0 rfl) xk ?_
  rintro v w5 ⟨⟨pa, pc, rfl⟩, g5⟩
  have UQ := Et.trans g5
  refine xm ?_
  refine xw ?_
  refine Shut.bQ hX rfl rfl xB rfl Tryz.func24 (by kernel_rfl) (by rw [CR]; rfl) (CV w5 bc gv sv [] (UQ.get h.fJ nofun) (h.ek UQ).row pk (by simp; omega)) xk ?_
  rintro v w6 ⟨rfl, g6⟩
  have Q9 := UQ.trans g6
  refine xm ?_
  refine xw ?_
  refine Shut.dF hX rfl rfl xB rfl rfl (Q9.get hb nofun) (by kernel_rfl) [.int .u8 g, .int .u8 i] (by kernel_rfl) (Nat.le_of_ble_eq_true rfl) rfl ?_
  refine xn ?_
  refine xw ?_
  refine Shut.bQ hX rfl rfl xB rfl Tryz.func25 (by kernel_rfl) (by rw [CX]; rfl) (UL w6 bc n sz g i gv sv (Q9.get h.fJ nofun) hgv hn (by omega) ll ng (G6 Q9)) xk ?_
  rintro v w7 ⟨rfl, g7⟩
  have Ra := Q9.trans g7
  refine xm ?_
  refine xw ?_
  refine Shut.dF hX rfl rfl xB rfl rfl (Ra.get hb nofun) (by kernel_rfl) [.int .u8 g, .int .u8 i] (by kernel_rfl) (Nat.le_of_ble_eq_true rfl) rfl ?_
  refine xn ?_
  refine xw ?_
  refine Shut.bQ hX rfl rfl xB rfl Tryz.func26 (by kernel_rfl) (by rw [CW]; rfl) (Qh w7 bc n sz g i gv sv (Ra.get h.fJ nofun) hgv hn (by omega) ll ng (G6 Ra)) xk ?_
  rintro v w8 ⟨rfl, g8⟩
  refine xm ?_
  refine xw ?_
  refine Shut.cK hX rfl rfl xB xO (ob := .cells (eT 0 0 (.slice none 0 0) (.slice none 0 0) (.slice none 0 0)).toArray 31) (v := fun b => .pointer (some ⟨b, 0, none⟩)) (fun w1 _ => by go_simp <;> rfl) (fun w9 b9 GM g9 l9 => ?_)
  refine xn ?_
  refine xw ?_
  refine Shut.df hX rfl rfl xB _ rfl rfl (v := .agg (eT 0 0 (.slice none 0 0) (.slice none 0 0) (.slice none 0 0)).toArray) rfl GM (by kernel_rfl) rfl (Nat.le_of_ble_eq_true rfl) (eT 0 0 (.slice none 0 0) (.slice none 0 0) (.slice none 0 0)) rfl (fun Io UR Js => ?_)
  refine xn ?_
  refine xw ?_
  refine Shut.bY hX rfl rfl xB rfl rfl UR (by kernel_rfl) (v := .int .u8 0) rfl ?_
  refine xn ?_
  refine xw ?_
  refine Shut.bY hX rfl rfl xB rfl rfl UR (by kernel_rfl) (v := .slice none 0 0) rfl ?_
  refine xn ?_
  refine xw ?_
  refine xg ?_
  refine aj.ret hX.c ?_
  exact hk _ _ rfl (cu rfl Tryz.func4 rfl) ((hL.trans Ra).trans (g8.trans (g9.fresh (GB.only Js) l9)))
end
section
variable {K : Machine → Trace → Prop} {pb pq : Int → Int → ByteArray} {W w : World} {bc b7 n f sz g i : Nat} {gv sv : Value} {q : List cB} {B : Nat → Nat → Nat} {F : Nat → Nat → Rp} {pk : Int} {d : ByteArray} {a : Act} {cs : List Frame}
theorem Nw (mK : uA pb pq) (hL : Lw W w bc n sz B sv) (h : CS w bc gv sv q n sz B F) (hn : n ≤ 4) (hs : sz ≤ 5) (hg : g < n) (hi : i < sz) (hb : w.heap[b7]? = some (.cells #[.int .u8 g, .int .u8 i] 66)) (hq : ∀ p ∈ q, GY pb F n sz p) (hd : 1000 < d.size)
    (hk : ∀ fr w', fr.fn = 4 → fr.leaving Tryz.prog w' (.returned (.bool true)) → GB none W w' → XR Tryz.prog K (G fr cs) w') (ha : ∃ ys : Nat → Value, a = ⟨#[.int .i64 n, .int .i64 f, ys 2, .int .i64 pk, .string d, ys 5, ys 6, .pointer (some ⟨b7, 0, none⟩), ys 8, ys 9, .bool false, .pointer (some ⟨bc, 0, none⟩), ys 12, .bool true, .int .i64 0, .int .i64 0, .int .i64 (q.length : Nat), ys 17, ys 18, ys 19, ys 20, ys 21, ys 22, ys 23, ys 24, ys 25, ys 26, ys 27, ys 28, ys 29, ys 30, ys 31, ys 32, ys 33, ys 34, ys 35, ys 36, ys 37, ys 38, ys 39, ys 40, ys 41, ys 42, ys 43, ys 44, ys 45, ys 46, ys 47, ys 48, ys 49, ys 50, ys 51, ys 52, ys 53, ys 54, ys 55, ys 56, ys 57, ys 58, ys 59, ys 60, ys 61, ys 62, ys 63, ys 64, ys 65, ys 66, ys 67, ys 68, ys 69, ys 70, ys 71, ys 72, ys 73, ys 74, ys 75, ys 76, ys 77, ys 78, ys 79, ys 80, ys 81, ys 82, ys 83, ys 84, ys 85, ys 86, ys 87, ys 88, ys 89, ys 90, ys 91, ys 92, ys 93, ys 94, ys 95, ys 96, ys 97, ys 98, ys 99, ys 100, ys 101, ys 102, ys 103, ys 104, ys 105, ys 106, ys 107, ys 108, ys 109, ys 110, ys 111, ys 112, ys 113, ys 114, ys 115, ys 116, ys 117, ys 118, ys 119, ys 120, ys 121, ys 122, ys 123, ys 124, ys 125, ys 126, ys 127, ys 128, ys 129, ys 130, ys 131, ys 132, ys 133, ys 134, ys 135, ys 136, ys 137, ys 138, ys 139, ys 140, ys 141, ys 142, ys 143, ys 144, ys 145, ys 146, ys 147, ys 148, ys 149, ys 150, ys 151, ys 152, ys 153, ys 154, ys 155, ys 156, ys 157, ys 158, ys 159, ys 160, ys 161, ys 162, ys 163, ys 164, ys 165, ys 166, ys 167, ys 168, ys 169, ys 170, ys 171, ys 172, ys 173, ys 174, ys 175, ys 176, ys 177, ys 178, ys 179, ys 180, ys 181, ys 182, ys 183, ys 184, ys 185, ys 186, ys 187, ys 188, ys 189, ys 190, ys 191, ys 192, ys 193, ys 194, ys 195, ys 196, ys 197, ys 198, ys 199, ys 200, ys 201, ys 202, ys 203, ys 204, ys 205, ys 206, ys 207, ys 208, ys 209, ys 210, ys 211, ys 212, ys 213, ys 214, ys 215, ys 216, ys 217, ys 218, ys 219, ys 220], []⟩) :
    XR Tryz.prog K (G ((Go.Conc.base 4).at a [.code Jw]) cs) w := by
  obtain ⟨ys, rfl⟩ := ha
  have hX : Shut Tryz.prog true qd (XR Tryz.prog K) := jc
  simp only [Jw, Ev, CY, c4, Tryz.f4, cr, Option.getD]
  have hgv := h.gv (by omega) (by omega)
  have hd' : (1000 : Int) < d.size := by omega
  have hwn : IntKind.i64.wrap (n : Int) = n := kF _ (by omega) (by omega)
  refine xw ?_
  refine Shut.dF hX rfl rfl xB rfl rfl hb (by kernel_rfl) [.int .u8 g, .int .u8 i] (by kernel_rfl) (Nat.le_of_ble_eq_true rfl) rfl ?_
  refine xn ?_
  refine xw ?_
  refine Shut.bQ hX rfl rfl xB rfl Tryz.func23 (by kernel_rfl) (by rw [CQ]; rfl) (PW h hn hs hg hi d hd) xk ?_
  rintro v w1 ⟨rfl, g1⟩
  have h1 := h.ek g1
  refine xm ?_
  refine xw ?_
  refine Shut.bQ hX rfl rfl xB rfl Tryz.func22 (by kernel_rfl) (by rw [qp]; rfl) (kG w1 bc gv sv q h1.fJ h1.row h1.len q.length q.length (VS (Nat.le_refl _))) xk ?_
  rintro v w2 ⟨⟨pa, pc, rfl⟩, g2⟩
  have h2 := h1.ek g2
  have hL2 := hL.ek (g1.trans g2)
  have hb2 := (g1.trans g2).get hb nofun
  refine xm ?_
  rw [Nat.sub_self]
  refine xw ?_
  refine aj.call hX.c rfl rfl (by decide) rfl Tryz.func24 (by kernel_rfl) (by rw [CR]; rfl) ?_
  refine xm ?_
  refine Az mK h2 hn hs hq pk (fun w3 Ny q3 F3 v h3 hv hG3 UT => ?_)
  rw [Frame.finish_at]
  refine xm ?_
  have hb3 := hG3.ty h2.QS hb2 (by decide)
  have hL3 := hL2.step hG3 UT
  refine xw ?_
  refine Shut.dF hX rfl rfl xB rfl rfl hb3 (by kernel_rfl) [.int .u8 g, .int .u8 i] (by kernel_rfl) (Nat.le_of_ble_eq_true rfl) rfl ?_
  refine xn ?_
  refine xw ?_
  refine Shut.bQ hX rfl rfl xB rfl Tryz.func25 (by kernel_rfl) (by rw [CX]; rfl) (Jv w3 bc n sz g i gv Ny h3.fJ hgv hn hs hg hi (B g i) (F3 g i) (h3.ptr g i hg hi) (h3.rep g i hg hi)) xk ?_
  rintro v4 w4 ⟨rfl, g4⟩
  have h4 := h3.ek g4
  refine xm ?_
  refine xw ?_
  refine Shut.dF hX rfl rfl xB rfl rfl (g4.get hb3 nofun) (by kernel_rfl) [.int .u8 g, .int .u8 i] (by kernel_rfl) (Nat.le_of_ble_eq_true rfl) rfl ?_
  refine xn ?_
  refine xw ?_
  refine Shut.bQ hX rfl rfl xB rfl Tryz.func26 (by kernel_rfl) (by rw [CW]; rfl) (Eu w4 bc n sz g i gv Ny h4.fJ hgv hn hs hg hi (B g i) (F3 g i) (h4.ptr g i hg hi) (h4.rep g i hg hi)) xk ?_
  rintro v5 w5 ⟨⟨sm, so, si, rfl, hone⟩, g5⟩
  refine xm ?_
  refine xw ?_
  refine Shut.cK hX rfl rfl xB xO (ob := .cells (eT 0 0 (.slice none 0 0) (.slice none 0 0) (.slice none 0 0)).toArray 31) (v := fun b => .pointer (some ⟨b, 0, none⟩)) (fun w1 _ => by go_simp <;> rfl) (fun w6 b6 hb6 g6 l6 => ?_)
  refine xn ?_
  refine xw ?_
  refine Shut.df hX rfl rfl (by decide) _ rfl rfl (v := .agg (eT g n sm so si).toArray) rfl hb6 (by kernel_rfl) hone (Nat.le_of_ble_eq_true rfl) (eT g n sm so si) rfl (fun w7 vV o7 => ?_)
  have g47 : GB none w4 w7 := g5.trans (g6.fresh (GB.only o7) l6)
  refine xw ?_
  refine Shut.bY hX rfl rfl xB rfl rfl vV (by kernel_rfl) (v := .int .u8 n) rfl ?_
  refine xn ?_
  refine xw ?_
  refine Shut.bY hX rfl rfl xB rfl rfl vV (by kernel_rfl) (v := .int .u8 g) rfl ?_
  refine xn ?_
  refine xw ?_
  refine Shut.bY hX rfl rfl xB rfl rfl ((g4.trans g47).get hb3 nofun) (by kernel_rfl) (v := .int .u8 g) rfl ?_
  refine xn ?_
  refine xw ?_
  refine xg ?_
  refine aj.ret hX.c ?_
  exact hk _ _ rfl (cu rfl Tryz.func4 rfl) (hL3.gb.trans (g4.trans g47))
end
end
end Go.Proofs.YtignemioillaiaaGreat
