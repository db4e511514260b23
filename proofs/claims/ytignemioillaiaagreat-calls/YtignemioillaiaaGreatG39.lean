/- join, Send. -/
import Derived.Test.YtignemioillaiaaGreatG38
namespace Go.Proofs.YtignemioillaiaaGreat
set_option maxHeartbeats 8000000
set_option maxRecDepth 100000
section
open Go Go.Conc Go.RowKit
theorem UB (F : Nat → Nat → Rp) (g i : Nat) : upd F g i (F g i) = F := by
  funext g' i'
  unfold upd
  split
  · rename_i h; rw [h.1, h.2]
  · rfl
theorem SG {w : World} {bc : Nat} {gv sv : Value} {q : List cB} {n sz : Nat} {B : Nat → Nat → Nat} {F : Nat → Nat → Rp} (h : CS w bc gv sv q n sz B F) (hn : 0 < n) (hs : 0 < sz) (_hq : q.length < 20000) (p : cB) :
    aX Tryz.prog 63 #[.pointer (some ⟨bc, 0, none⟩), p.val] w (fun v w' => v = .tuple #[] ∧ ∃ dR, CS w' bc gv dR (q ++ [p]) n sz B F ∧ GS (fun x => x = bc ∨ some x = sv.ownBlock) w w' ∧ Ay w sv dR) := by
  intro main D X cs hX hk
  rw [IM]
  simp only [CJ, Tryz.f63, Option.getD]
  have hq' : (q.length : Int) < 20000 := by omega
  unfold cB.val
  refine xw ?_
  refine Shut.cK hX rfl rfl xB xO (ob := .cells p.cells.toArray 139) (v := fun b => .pointer (some ⟨b, 0, none⟩)) (fun w1 _ => by go_simp <;> rfl) (fun w1 b1 hb1 g1 l1 => ?_)
  refine xn ?_
  refine xw ?_
  have h1 := h.ek g1
  obtain ⟨sa, sc, hsv⟩ := iU h.row
  refine Shut.bY hX rfl rfl xB rfl rfl h1.fJ (by kernel_rfl) (v := sv) rfl ?_
  refine xn ?_
  rw [hsv]
  refine xw ?_
  rw [← hsv]
  have hS : bE bc (.cells #[gv, sv] 131) b1 (.cells p.cells.toArray 139) w1 := ⟨h1.fJ, hb1⟩
  refine xg ?_
  refine Shut.drawn hX xB (by kernel_rfl) (bE bc (.cells #[gv, sv] 131) b1 (.cells p.cells.toArray 139)) 10 ?_ bE.same
  show AnyX _ _ _ _ _ _ _ _ 11 #[false, false, false, false, false, false, false, false, false, false, false] _ _
  refine AnyX.take hX bE.same 0 rfl (by decide) xK xK xK xY hS ?_
  refine xn ?_
  refine AnyX.take hX bE.same 1 rfl (by decide) xK xK xK xY hS ?_
  refine xn ?_
  refine AnyX.take hX bE.same 2 rfl (by decide) xK xK xK xY hS ?_
  refine xn ?_
  refine AnyX.take hX bE.same 3 rfl (by decide) xK xK xK xY hS ?_
  refine xn ?_
  refine AnyX.fu hX bE.same 4 rfl rfl xK xK xK (by kernel_rfl) (.inl ⟨rfl, bZ rfl, fun _ h => fe rfl rfl h.1 (by kernel_rfl) (v := sv) rfl⟩) hS ?_
  refine xn ?_
  refine AnyX.fu hX bE.same 5 rfl rfl xK xK xK (by kernel_rfl) (.inl ⟨rfl, bZ rfl, fun _ h => iA rfl rfl h.2 (by kernel_rfl) p.cells (by kernel_rfl) (Nat.le_of_ble_eq_true rfl) rfl⟩) hS ?_
  refine xn ?_
  refine AnyX.one 6 (by kernel_rfl) ?_
  refine dL.cK rfl rfl xO (ob := .cells p.cells.toArray 139) (v := fun b => .slice (some ⟨b, 0, none⟩) 1 1) (fun w1 _ => by go_simp <;> rfl) (fun w2 b2 hb2 g2 l2 => ?_)
  refine xn ?_
  have h2 := h1.ek g2
  have hS2 : bE bc (.cells #[gv, sv] 131) b1 (.cells p.cells.toArray 139) w2 := ⟨h2.fJ, g2.get hb1 nofun⟩
  refine ⟨fun _ => hS2, ?_⟩
  refine AnyX.one 7 (by kernel_rfl) ?_
  obtain ⟨ii, hii, hz, hs, hb⟩ := nQ vL
  refine dL.mQ rfl rfl rfl 139 ii _ _ _ (by kernel_rfl) hii hz hs hb rfl (by decide) rfl h2.row rfl hb2 (news := p.cells) rfl rfl (by first | assumption | simp [Value.oneCell', cB.cells]) (by unfold maxLen; omega) (by omega) (fun dR w3 ho3 g3 l3 => ?_)
  clear hb hs hz hii ii
  refine xn ?_
  have hne : ∀ x, Value.ownBlock sv = some x → x ≠ bc ∧ x ≠ b1 ∧ x < w.heap.size := fun x hx => by
    obtain ⟨c, hc⟩ := kI h.row hx
    have := dz hc
    refine ⟨?_, by omega, this⟩
    rintro rfl
    have := h.fJ.symm.trans hc
    cases this
  have vU : bE bc (.cells #[gv, sv] 131) b1 (.cells p.cells.toArray 139) w3 := ⟨g3.get hS2.1 fun e => (hne _ e.symm).1 rfl, g3.get hS2.2 fun e => (hne _ e.symm).2.1 rfl⟩
  refine ⟨fun _ => vU, ?_⟩
  refine AnyX.take hX bE.same 8 rfl (by decide) xK xK xK xY vU ?_
  refine xn ?_
  refine AnyX.take hX bE.same 9 rfl (by decide) xK xK xK xY vU ?_
  refine xn ?_
  refine AnyX.one 10 (by kernel_rfl) ?_
  obtain ⟨ta, tc, rfl⟩ := iU ho3
  refine dL.df rfl rfl _ rfl rfl (v := .slice ta (q.length + 1) tc) rfl vU.1 (by kernel_rfl) rfl (Nat.le_of_ble_eq_true rfl) [gv, .slice ta (q.length + 1) tc] rfl (fun w4 w5 hs5 qX o5 => ?_)
  refine xn ?_
  refine ⟨fun h => (by cases h), AnyX.done (by kernel_rfl) ?_⟩
  refine xw ?_
  refine xg ?_
  refine aj.fin hX.c ?_
  have k5 : GB (some bc) w3 w5 := ((GB.refl _ w3).same hs5).trans (GB.only o5)
  have hG : GS (fun x => x = bc ∨ some x = sv.ownBlock) w w5 := (((GS.refl _ w).ek (g1.trans g2)).gb g3 (fun x hx => .inl (.inr hx.symm))).gb k5 fun x hx => by cases hx; exact .inl (.inl rfl)
  refine hk _ _ _ rfl (fA rfl Tryz.func63 rfl) ⟨rfl, .slice ta (q.length + 1) tc, ?_, hG, fun x hx => (l3 x hx).imp id fun e => by have := (g1.trans g2).size; omega⟩
  have hR := h.rep 0 0 hn hs
  have hnb : B 0 0 ≠ bc := fun e => by
    have := hR.mem
    rw [Rp.At, e, h.fJ] at this
    cases this
  have hnx : some (B 0 0) ≠ sv.ownBlock := fun e => by
    obtain ⟨c, hc⟩ := kI h.row e.symm
    have := hR.mem.symm.trans hc
    cases this
  have key := h.next (dR := .slice ta (q.length + 1) tc) (q' := q ++ [p]) hn hs (A := fun x => x = bc ∨ some x = sv.ownBlock) (r' := F 0 0) ?_ (fun x hx => hx.elim .inl fun e => .inr (.inr e)) hG qX ?_ (by simp; omega) (hG.get hR.mem (fun e => e.elim hnb hnx)) (oJ.refl _) hR.ob
  · rw [UB] at key
    exact key
  · rintro x (rfl | e)
    · exact ⟨_, _, h.fJ, .inl rfl⟩
    · obtain ⟨c, hc⟩ := kI h.row e.symm
      exact ⟨_, _, hc, .inr (.inl rfl)⟩
  · exact GR ((k5.kp (T := [131]) (fun b hb => by cases hb; exact ⟨_, _, _, vU.1, by decide⟩)).own ho3 (by decide))
noncomputable def c23 : Code := Tryz.f23.body.getD .skip
theorem CQ : Tryz.f23.body = some c23 := by
  unfold c23
  rfl
theorem DN (x0 x1 x2 : Value) : Frame.enter Tryz.prog 23 #[x0, x1, x2] .normal = (Go.Conc.base 23).at ⟨#[x0, x1, x2, undef, undef, undef, undef, undef, undef, undef, undef, undef, undef, undef, undef, undef, undef, undef, undef, undef, undef, undef, undef, undef, undef, undef, undef, undef, undef, undef], []⟩ [.code c23] := by
  have h := enter_at (P := Tryz.prog) #[x0, x1, x2] Tryz.func23 CQ
  rw [show Tryz.f23.ntmps = 30 from rfl] at h
  rw [h]
  walk_nrm
theorem SH {w : World} {bc : Nat} {gv sv : Value} {q : List cB} {n sz : Nat} {B : Nat → Nat → Nat} {F : Nat → Nat → Rp} (h : CS w bc gv sv q n sz B F) (hn : n ≤ 4) (hs : sz ≤ 5) (hq : q.length < 20000) {g i : Nat} (hg : g < n) (hi : i < sz) (d : ByteArray) (_hd : d.size ≤ 1000) :
    aX Tryz.prog 23 #[.pointer (some ⟨bc, 0, none⟩), .agg #[.int .u8 g, .int .u8 i], .string d] w (fun v w' => v = .tuple #[.int .i64 q.length, .int .i64 0] ∧ ∃ dR, CS w' bc gv dR (q ++ [⟨255, 255, g, i, d⟩]) n sz B F ∧ GS (fun x => x = bc ∨ some x = sv.ownBlock) w w' ∧ Ay w sv dR) := by
  intro main D X cs hX hk
  rw [DN]
  simp only [c23, Tryz.f23, Option.getD]
  have hd' : ¬ (1000 : Int) < d.size := by omega
  refine xw ?_
  refine Shut.cK hX rfl rfl xB xO (ob := .cells #[.int .u8 g, .int .u8 i] 66) (v := fun b => .pointer (some ⟨b, 0, none⟩)) (fun w1 _ => by go_simp <;> rfl) (fun w1 b1 hb1 g1 l1 => ?_)
  refine xn ?_
  refine xw ?_
  refine Shut.dF hX rfl rfl xB rfl rfl hb1 (by kernel_rfl) [.int .u8 g, .int .u8 i] (by kernel_rfl) (Nat.le_of_ble_eq_true rfl) rfl ?_
  refine xn ?_
  refine xw ?_
  have h1 := h.ek g1
  refine Shut.bQ hX rfl rfl xB rfl Tryz.func58 (by kernel_rfl) (by rw [lK]; rfl) (fZ w1 bc n sz g i gv sv (.pointer (some ⟨B g i, 0, none⟩)) h1.fJ (h1.gv (by omega) (by omega)) hn hs (by omega) (by omega) (.inr (.inr ⟨hg, hi, B g i, rfl, h1.ptr g i hg hi⟩))) xk ?_
  rintro v w2 ⟨rfl, g2⟩
  refine xm ?_
  have h2 := h1.ek g2
  refine xw ?_
  obtain ⟨sa, sc, hsv⟩ := iU h.row
  refine Shut.bY hX rfl rfl xB rfl rfl h2.fJ (by kernel_rfl) (v := sv) rfl ?_
  refine xn ?_
  rw [hsv]
  refine xw ?_
  refine Shut.cK hX rfl rfl xB xO (ob := .cells #[.int .u8 0, .int .u8 0] 66) (v := fun b => .pointer (some ⟨b, 0, none⟩)) (fun w1 _ => by go_simp <;> rfl) (fun w3 b3 hb3 g3 l3 => ?_)
  refine xn ?_
  refine xw ?_
  refine Shut.df hX rfl rfl xB _ rfl rfl (v := .agg #[.int .u8 255, .int .u8 255]) rfl hb3 (by kernel_rfl) rfl (Nat.le_of_ble_eq_true rfl) [.int .u8 255, .int .u8 255] rfl (fun w4 hb4 o4 => ?_)
  refine xn ?_
  have g24 : GB none w2 w4 := g3.fresh (GB.only o4) l3
  have h4 := h2.ek g24
  refine xw ?_
  refine Shut.dF hX rfl rfl xB rfl rfl hb4 (by kernel_rfl) [.int .u8 255, .int .u8 255] (by kernel_rfl) (Nat.le_of_ble_eq_true rfl) rfl ?_
  refine xn ?_
  refine xw ?_
  refine Shut.dF hX rfl rfl xB rfl rfl ((g2.trans g24).get hb1 nofun) (by kernel_rfl) [.int .u8 g, .int .u8 i] (by kernel_rfl) (Nat.le_of_ble_eq_true rfl) rfl ?_
  refine xn ?_
  refine xw ?_
  refine Shut.bQ hX rfl rfl xB rfl Tryz.func63 (by kernel_rfl) (by rw [Gz]; rfl) (SG h4 (by omega) (by omega) hq ⟨255, 255, g, i, d⟩) xk ?_
  rintro v w5 ⟨rfl, dR, h5, g5, v5⟩
  refine xm ?_
  refine xw ?_
  refine xg ?_
  refine aj.ret hX.c ?_
  exact hk _ _ _ rfl (mD rfl Tryz.func23 rfl) ⟨rfl, dR, h5, (((GS.refl _ w).ek ((g1.trans g2).trans g24)).trans g5), v5.later ((g1.trans g2).trans g24)⟩
theorem PW {w : World} {bc : Nat} {gv sv : Value} {q : List cB} {n sz : Nat} {B : Nat → Nat → Nat} {F : Nat → Nat → Rp} (h : CS w bc gv sv q n sz B F) (hn : n ≤ 4) (hs : sz ≤ 5) {g i : Nat} (hg : g < n) (hi : i < sz) (d : ByteArray) (_hd : 1000 < d.size) :
    aX Tryz.prog 23 #[.pointer (some ⟨bc, 0, none⟩), .agg #[.int .u8 g, .int .u8 i], .string d] w (fun v w' => v = .tuple #[.int .i64 0, .int .i64 2] ∧ GB none w w') := by
  intro main D X cs hX hk
  rw [DN]
  simp only [c23, Tryz.f23, Option.getD]
  have hd' : (1000 : Int) < d.size := by omega
  refine xw ?_
  refine Shut.cK hX rfl rfl xB xO (ob := .cells #[.int .u8 g, .int .u8 i] 66) (v := fun b => .pointer (some ⟨b, 0, none⟩)) (fun w1 _ => by go_simp <;> rfl) (fun w1 b1 hb1 g1 l1 => ?_)
  refine xn ?_
  refine xw ?_
  refine Shut.dF hX rfl rfl xB rfl rfl hb1 (by kernel_rfl) [.int .u8 g, .int .u8 i] (by kernel_rfl) (Nat.le_of_ble_eq_true rfl) rfl ?_
  refine xn ?_
  refine xw ?_
  have h1 := h.ek g1
  refine Shut.bQ hX rfl rfl xB rfl Tryz.func58 (by kernel_rfl) (by rw [lK]; rfl) (fZ w1 bc n sz g i gv sv (.pointer (some ⟨B g i, 0, none⟩)) h1.fJ (h1.gv (by omega) (by omega)) hn hs (by omega) (by omega) (.inr (.inr ⟨hg, hi, B g i, rfl, h1.ptr g i hg hi⟩))) xk ?_
  rintro v w2 ⟨rfl, g2⟩
  refine xm ?_
  refine xw ?_
  refine xg ?_
  refine aj.ret hX.c ?_
  exact hk _ _ _ rfl (mD rfl Tryz.func23 rfl) ⟨rfl, g1.trans g2⟩
theorem SI (w : World) (bc n sz g i : Nat) (gv sv : Value) (hc : w.heap[bc]? = some (.cells #[gv, sv] 131)) (hgv : ∃ a c, gv = .slice a n c) (hn : n ≤ 4) (hs : sz ≤ 5) (_hg8 : g < 256) (_hi8 : i < 256) (hcase : n ≤ g ∨ (g < n ∧ sz ≤ i ∧ ∃ br, Ptr w gv n sz g 0 br)) (d : ByteArray) :
    aX Tryz.prog 23 #[.pointer (some ⟨bc, 0, none⟩), .agg #[.int .u8 g, .int .u8 i], .string d] w (fun v w' => v = .tuple #[.int .i64 0, .int .i64 6] ∧ GB none w w') := by
  intro main D X cs hX hk
  rw [DN]
  simp only [c23, Tryz.f23, Option.getD]
  refine xw ?_
  refine Shut.cK hX rfl rfl xB xO (ob := .cells #[.int .u8 g, .int .u8 i] 66) (v := fun b => .pointer (some ⟨b, 0, none⟩)) (fun w1 _ => by go_simp <;> rfl) (fun w1 b1 hb1 g1 l1 => ?_)
  refine xn ?_
  refine xw ?_
  refine Shut.dF hX rfl rfl xB rfl rfl hb1 (by kernel_rfl) [.int .u8 g, .int .u8 i] (by kernel_rfl) (Nat.le_of_ble_eq_true rfl) rfl ?_
  refine xn ?_
  refine xw ?_
  refine Shut.bQ hX rfl rfl xB rfl Tryz.func58 (by kernel_rfl) (by rw [lK]; rfl) (fZ w1 bc n sz g i gv sv (.pointer none) (g1.get hc nofun) hgv hn hs (by omega) (by omega) (hcase.elim (fun h => .inl ⟨h, rfl⟩) fun ⟨h1, h2, br, h3⟩ => .inr (.inl ⟨h1, h2, rfl, br, h3.gb g1⟩))) xk ?_
  rintro v w2 ⟨rfl, g2⟩
  refine xm ?_
  refine xw ?_
  refine xg ?_
  refine aj.ret hX.c ?_
  exact hk _ _ _ rfl (mD rfl Tryz.func23 rfl) ⟨rfl, g1.trans g2⟩
end
end Go.Proofs.YtignemioillaiaaGreat
