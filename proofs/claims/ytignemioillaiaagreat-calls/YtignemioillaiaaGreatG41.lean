/- Deliver. -/
import Derived.Test.YtignemioillaiaaGreatG38
import Derived.Test.YtignemioillaiaaGreatG40
namespace Go.Proofs.YtignemioillaiaaGreat
set_option maxHeartbeats 8000000
set_option maxRecDepth 100000
section
open Go Go.Conc Go.RowKit
theorem Vs {q : List cB} {k : Nat} {p : cB} (h : q[k]? = some p) : ((flat q).drop (k * 5)).take 5 = p.cells := by
  rw [Er]
  have hd : q.drop k = p :: q.drop (k + 1) := by
    obtain ⟨hl, he⟩ := List.getElem?_eq_some_iff.1 h
    rw [List.drop_eq_getElem_cons hl, he]
  rw [hd]
  simp [flat, cB.cells]
noncomputable def c24 : Code := Tryz.f24.body.getD .skip
theorem CR : Tryz.f24.body = some c24 := by
  unfold c24
  rfl
theorem Jo (x0 x1 : Value) : Frame.enter Tryz.prog 24 #[x0, x1] .normal = (Go.Conc.base 24).at ⟨#[x0, x1, undef, undef, undef, undef, undef, undef, undef, undef, undef, undef, undef, undef, undef, undef, undef, undef, undef, undef, undef, undef, undef, undef, undef, undef, undef, undef, undef, undef, undef, undef, undef, undef, undef], []⟩ [.code c24] := by
  have h := enter_at (P := Tryz.prog) #[x0, x1] Tryz.func24 CR
  rw [show Tryz.f24.ntmps = 35 from rfl] at h
  rw [h]
  walk_nrm
theorem CU {K : Machine → Trace → Prop} {w : World} {bc : Nat} {gv sv : Value} {q : List cB} {n sz : Nat} {B : Nat → Nat → Nat} {F : Nat → Nat → Rp} (h : CS w bc gv sv q n sz B F) (hn : n ≤ 4) (hs : sz ≤ 5) {k : Nat} {fg fr : Int} {d : ByteArray} {g i : Nat} (hq : q[k]? = some ⟨fg, fr, g, i, d⟩) (hg : g < n) (hi : i < sz) {cF : Frame} {cs : List Frame} {Q : Rp → List cB → Prop}
    (CL : ∀ w1, GB none w w1 → aX Tryz.prog 65 #[.pointer (some ⟨B g i, 0, none⟩), cB.val ⟨fg, fr, g, i, d⟩] w1 (fun v w' => v = .tuple #[] ∧ ∃ r3 ps, WS (· = B g i) w1 w' (B g i) r3 ps ∧ oJ (F g i) r3 ∧ ps.length < 1000000 ∧ Q r3 ps))
    (hk : ∀ w4 dR r3 ps, Q r3 ps → CS w4 bc gv dR ((q ++ ps).take 20000) n sz B (upd F g i { r3 with wn := r3.bn, wi := r3.bi, ob := .slice none 0 0 }) → GS (CA n sz bc B sv) w w4 → Ay w sv dR → XR Tryz.prog K (G (cF.finish (.int .i64 0)) cs) w4) :
    XR Tryz.prog K (G (Frame.enter Tryz.prog 24 #[.pointer (some ⟨bc, 0, none⟩), .int .i64 k] .normal) (cF :: cs)) w := by
  have hX : Shut Tryz.prog true qd (XR Tryz.prog K) := jc
  have hkl : k < q.length := (List.getElem?_eq_some_iff.1 hq).1
  obtain ⟨bs, cap, cur, hsv, kN, htk, hcs⟩ := u7 h.row (by omega)
  have hlen := h.len
  rw [Jo]
  simp only [c24, Tryz.f24, Option.getD]
  have c1 : ¬ (k : Int) < 0 := by omega
  have c2 : ¬ (q.length : Int) ≤ k := by omega
  refine xw ?_
  refine Shut.bY hX rfl rfl xB rfl rfl h.fJ (by kernel_rfl) (v := sv) rfl ?_
  refine xn ?_
  rw [hsv]
  refine xw ?_
  refine Shut.bY hX rfl rfl xB rfl rfl h.fJ (by kernel_rfl) (v := sv) rfl ?_
  refine xn ?_
  rw [hsv]
  have c3 : (k : Int) < q.length := by omega
  refine xw ?_
  refine Shut.dF hX rfl rfl (by decide) rfl rfl kN (by kernel_rfl) (cB.cells ⟨fg, fr, g, i, d⟩) (by kernel_rfl) (by show k * 5 + 5 ≤ cur.size; omega) ((DJ htk hkl).trans (Vs hq)) ?_
  refine xm ?_
  refine xw ?_
  refine Shut.cK hX rfl rfl xB xO (ob := .cells (cB.cells ⟨0, 0, 0, 0, ByteArray.empty⟩).toArray 139) (v := fun b => .pointer (some ⟨b, 0, none⟩)) (fun w1 _ => by go_simp <;> rfl) (fun w1 b1 hb1 g1 l1 => ?_)
  refine xn ?_
  refine xw ?_
  refine Shut.df hX rfl rfl xB _ rfl rfl (v := cB.val ⟨fg, fr, g, i, d⟩) rfl hb1 (by kernel_rfl) rfl (Nat.le_of_ble_eq_true rfl) (cB.cells ⟨fg, fr, g, i, d⟩) rfl (fun w2 hb2 o2 => ?_)
  refine xn ?_
  refine xw ?_
  refine Shut.dF hX rfl rfl xB rfl rfl hb2 (by kernel_rfl) [.int .u8 g, .int .u8 i] (by kernel_rfl) (Nat.le_of_ble_eq_true rfl) rfl ?_
  refine xn ?_
  refine xw ?_
  have pJ : GB none w w2 := g1.fresh (GB.only o2) l1
  have h2 := h.ek pJ
  refine Shut.bQ hX rfl rfl xB rfl Tryz.func58 (by kernel_rfl) (by rw [lK]; rfl) (fZ w2 bc n sz g i gv sv (.pointer (some ⟨B g i, 0, none⟩)) h2.fJ (h2.gv (by omega) (by omega)) hn hs (by omega) (by omega) (.inr (.inr ⟨hg, hi, B g i, rfl, h2.ptr g i hg hi⟩))) xk ?_
  rintro v w3 ⟨rfl, g3⟩
  refine xm ?_
  refine xw ?_
  refine Shut.cK hX rfl rfl xB xO (ob := .cells #[.pointer none] 133) (v := fun b => .pointer (some ⟨b, 0, none⟩)) (fun w1 _ => by go_simp <;> rfl) (fun w4 b4 hb4 g4 l4 => ?_)
  refine xn ?_
  refine xw ?_
  refine Shut.df hX rfl rfl xB _ rfl rfl (v := .pointer (some ⟨B g i, 0, none⟩)) rfl hb4 (by kernel_rfl) rfl (Nat.le_of_ble_eq_true rfl) [.pointer (some ⟨B g i, 0, none⟩)] rfl (fun w5 hb5 o5 => ?_)
  refine xn ?_
  refine xw ?_
  refine Shut.bY hX rfl rfl xB rfl rfl hb5 (by kernel_rfl) (v := .pointer (some ⟨B g i, 0, none⟩)) rfl ?_
  refine xn ?_
  refine xw ?_
  refine Shut.bY hX rfl rfl xB rfl rfl hb5 (by kernel_rfl) (v := .pointer (some ⟨B g i, 0, none⟩)) rfl ?_
  refine xn ?_
  refine xw ?_
  have M9 : GB none w2 w5 := g3.trans (g4.fresh (GB.only o5) l4)
  have h5 := h2.ek M9
  have Xh := M9.get hb2 nofun
  refine aj.call hX.c rfl rfl (by decide) rfl Tryz.func59 (by kernel_rfl) (by rw [Gv]; rfl) ?_
  refine xm ?_
  refine Jm h5 hg hi Tryz.func64 (by kernel_rfl) (by rw [M5]; rfl) (Q := Q) (fun w6 g6 => ?_) (fun w7 dR r3 ps hQ hc hG hV => ?_)
  · refine aX.mono (M6 w6 b4 b1 (B g i) ⟨fg, fr, g, i, d⟩ (g6.get hb5 nofun) (g6.get Xh nofun) (CL w6 ((pJ.trans M9).trans g6))) ?_
    rintro v w8 ⟨_, hp⟩
    exact hp
  · rw [Frame.finish_at]
    refine xm ?_
    refine xw ?_
    refine xg ?_
    refine aj.ret hX.c ?_
    exact Shut.back hX (cu rfl Tryz.func24 rfl) (hk w7 dR r3 ps hQ hc (((GS.refl _ w).ek (pJ.trans M9)).trans hG) (hV.later (pJ.trans M9)))
theorem CV (w : World) (bc : Nat) (gv sv : Value) (q : List cB) (hc : w.heap[bc]? = some (.cells #[gv, sv] 131)) (ho : w.ownsRow 0 139 5 sv q.length (flat q)) (k : Int) (_hk : k < 0 ∨ (q.length : Int) ≤ k) :
    aX Tryz.prog 24 #[.pointer (some ⟨bc, 0, none⟩), .int .i64 k] w (fun v w' => v = .int .i64 7 ∧ GB none w w') := by
  intro main D X cs hX hk'
  rw [Jo]
  simp only [c24, Tryz.f24, Option.getD]
  by_cases c1 : k < 0
  · refine xw ?_
    refine xg ?_
    refine aj.ret hX.c ?_
    exact hk' _ _ _ rfl (cu rfl Tryz.func24 rfl) ⟨rfl, GB.refl _ _⟩
  · have c2 : (q.length : Int) ≤ k := by omega
    obtain ⟨sa, sc, rfl⟩ := iU ho
    refine xw ?_
    refine Shut.bY hX rfl rfl xB rfl rfl hc (by kernel_rfl) (v := .slice sa q.length sc) rfl ?_
    refine xn ?_
    refine xw ?_
    refine xg ?_
    refine aj.ret hX.c ?_
    exact hk' _ _ _ rfl (cu rfl Tryz.func24 rfl) ⟨rfl, GB.refl _ _⟩
end
end Go.Proofs.YtignemioillaiaaGreat
