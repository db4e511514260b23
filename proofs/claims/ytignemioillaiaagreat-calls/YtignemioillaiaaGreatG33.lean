/- replica, Crash, Clone, Packets, join, Send. -/
import Derived.Test.YtignemioillaiaaGreatG32
namespace Go.Proofs.YtignemioillaiaaGreat
set_option maxHeartbeats 8000000
set_option maxRecDepth 100000
section
open Go Go.Conc Go.RowKit
section
variable {P : Program} {main : Bool} {D : World → World → Array Event → Prop} {X : Goroutine → World → Prop} {b : Frame} {k : List Item} {cs : List Frame} {ops : Array Oper} {S : World → Prop} {z : Nat}
theorem AnyX.fin (hX : Shut P main D X) {n : Nat} {l : Array Bool} {a : Act} {w : World} (i : Nat) {o : Oper} (ho : ops[i]? = some o) (hw : Region.wanted o (yielded ops a.tmps) = true) (hr : Region.ready .any ops l = [i]) (hr' : Region.ready .any ops (l.setIfInBounds i true) = []) (hz : (l.setIfInBounds i true).getD z true = true) (hp : Plain [] (execOp a.eval o)) (v : Value) (hv : ∀ w, (execOp a.eval o).run P w = .ok (.value v) w)
    (h : X (G (b.at (a.put o.dst v) k) cs) w) : AnyX P X b k cs ops S z (n + 1) l a w :=
  AnyX.one i hr (dL.op ho hw hp fun w₁ hs => ⟨v, w₁, .inl (hv w₁), fun e => (by rw [hz] at e; cases e), AnyX.done hr' (hX.rely hs h)⟩)
end
structure Ptr (w : World) (gv : Value) (n sz g i br : Nat) : Prop where
  out : ∃ bg cg cur bs ct cur', gv = .slice (some ⟨bg, 0, none⟩) n cg ∧ w.heap[bg]? = some (.cells cur 132) ∧ cur[g]? = some (.slice (some ⟨bs, 0, none⟩) sz ct) ∧ w.heap[bs]? = some (.cells cur' 133) ∧ cur'[i]? = some (.pointer (some ⟨br, 0, none⟩))
theorem Ptr.gb {w w' : World} {gv : Value} {n sz g i br : Nat} (h : Ptr w gv n sz g i br) (k : GB none w w') : Ptr w' gv n sz g i br := by
  obtain ⟨bg, cg, cur, bs, ct, cur', e, h1, h2, h3, h4⟩ := h.out
  exact ⟨bg, cg, cur, bs, ct, cur', e, k.get h1 nofun, h2, k.get h3 nofun, h4⟩
noncomputable def QM : Code := Tryz.f58.body.getD .skip
theorem lK : Tryz.f58.body = some QM := by
  unfold QM
  rfl
theorem Su (x0 x1 : Value) : Frame.enter Tryz.prog 58 #[x0, x1] .normal = (Go.Conc.base 58).at ⟨#[x0, x1, undef, undef, undef, undef, undef, undef, undef, undef, undef, undef, undef, undef, undef, undef, undef, undef, undef, undef, undef, undef, undef, undef, undef, undef, undef, undef, undef, undef, undef, undef, undef, undef, undef, undef, undef, undef, undef, undef, undef, undef], []⟩ [.code QM] := by
  have h := enter_at (P := Tryz.prog) #[x0, x1] Tryz.func58 lK
  rw [show Tryz.f58.ntmps = 42 from rfl] at h
  rw [h]
  walk_nrm
theorem fZ (w : World) (bc n sz g i : Nat) (gv sv res : Value) (hc : w.heap[bc]? = some (.cells #[gv, sv] 131)) (hgv : ∃ a c, gv = .slice a n c) (_hn : n ≤ 4) (_hs : sz ≤ 5) (_hg8 : g < 256) (_hi8 : i < 256)
    (hcase : (n ≤ g ∧ res = .pointer none) ∨ (g < n ∧ sz ≤ i ∧ res = .pointer none ∧ ∃ br, Ptr w gv n sz g 0 br) ∨ (g < n ∧ i < sz ∧ ∃ br, res = .pointer (some ⟨br, 0, none⟩) ∧ Ptr w gv n sz g i br)) :
    aX Tryz.prog 58 #[.pointer (some ⟨bc, 0, none⟩), .agg #[.int .u8 g, .int .u8 i]] w (fun v w' => v = res ∧ GB none w w') := by
  intro main D X cs hX hk
  rw [Su]
  simp only [QM, Tryz.f58, Option.getD]
  refine xw ?_
  refine Shut.cK hX rfl rfl xB xO (ob := .cells #[.int .u8 g, .int .u8 i] 66) (v := fun b => .pointer (some ⟨b, 0, none⟩)) (fun w1 _ => by go_simp <;> rfl) (fun w1 b1 hb1 g1 l1 => ?_)
  refine xn ?_
  refine xw ?_
  refine xg ?_
  refine Shut.drawn hX xB (by kernel_rfl) (bR b1 (.cells #[.int .u8 g, .int .u8 i] 66)) 7 ?_ bR.same
  show AnyX _ _ _ _ _ _ _ _ 8 #[false, false, false, false, false, false, false, false] _ _
  refine AnyX.take hX bR.same 0 rfl (by decide) xK xK xK xY hb1 ?_
  refine xn ?_
  refine AnyX.fu hX bR.same 1 rfl rfl xK xK xK (by kernel_rfl) (.inl ⟨rfl, bZ rfl, fun _ h => fe rfl rfl h (by kernel_rfl) (v := .int .u8 g) rfl⟩) hb1 ?_
  refine xn ?_
  refine AnyX.take hX bR.same 2 rfl (by decide) xK xK xK xY hb1 ?_
  refine xn ?_
  rw [show IntKind.i64.wrap (g : Int) = g from kF _ (by omega) (by omega)]
  refine AnyX.take hX bR.same 6 rfl (by decide) xK xK xK xY hb1 ?_
  refine xn ?_
  refine AnyX.take hX bR.same 3 rfl (by decide) xK xK xK xY hb1 ?_
  refine xn ?_
  refine AnyX.fu hX bR.same 4 rfl rfl xK xK xK (by kernel_rfl) (.inl ⟨rfl, bZ rfl, fun _ h => fe rfl rfl h (by kernel_rfl) (v := .int .u8 i) rfl⟩) hb1 ?_
  refine xn ?_
  refine AnyX.take hX bR.same 5 rfl (by decide) xK xK xK xY hb1 ?_
  refine xn ?_
  rw [show IntKind.i64.wrap (i : Int) = i from kF _ (by omega) (by omega)]
  refine AnyX.fin hX 7 rfl rfl xK xK xK xO _ (fun _ => by go_simp <;> rfl) ?_
  refine xn ?_
  have hc1 := g1.get hc nofun
  refine xw ?_
  refine Shut.bY hX rfl rfl xB rfl rfl hc1 (by kernel_rfl) (v := gv) rfl ?_
  refine xn ?_
  rcases hcase with ⟨Mc, rfl⟩ | ⟨Mc, hsi, rfl, br, hp⟩ | ⟨Mc, hsi, br, rfl, hp⟩
  · obtain ⟨ga, gc, rfl⟩ := hgv
    have Ut : (n : Int) ≤ g := by omega
    refine xw ?_
    refine xg ?_
    refine aj.ret hX.c ?_
    exact hk _ _ _ rfl (cu rfl Tryz.func58 rfl) ⟨rfl, g1⟩
  · obtain ⟨bg, cg, cur, bs, ct, cur', rfl, h1, h2, h3, h4⟩ := hp.out
    have Ut : ¬ (n : Int) ≤ g := by omega
    have WZ : (sz : Int) ≤ i := by omega
    refine xw ?_
    refine Shut.bY hX rfl rfl xB rfl rfl hc1 (by kernel_rfl) (v := .slice (some ⟨bg, 0, none⟩) n cg) rfl ?_
    refine xn ?_
    refine xw ?_
    refine Shut.bY hX rfl rfl xB rfl rfl (g1.get h1 nofun) (by kernel_rfl) (v := .slice (some ⟨bs, 0, none⟩) sz ct) h2 ?_
    refine xn ?_
    refine xw ?_
    refine xg ?_
    refine aj.ret hX.c ?_
    exact hk _ _ _ rfl (cu rfl Tryz.func58 rfl) ⟨rfl, g1⟩
  · obtain ⟨bg, cg, cur, bs, ct, cur', rfl, h1, h2, h3, h4⟩ := hp.out
    have Ut : ¬ (n : Int) ≤ g := by omega
    have WZ : ¬ (sz : Int) ≤ i := by omega
    refine xw ?_
    refine Shut.bY hX rfl rfl xB rfl rfl hc1 (by kernel_rfl) (v := .slice (some ⟨bg, 0, none⟩) n cg) rfl ?_
    refine xn ?_
    refine xw ?_
    refine Shut.bY hX rfl rfl xB rfl rfl (g1.get h1 nofun) (by kernel_rfl) (v := .slice (some ⟨bs, 0, none⟩) sz ct) h2 ?_
    refine xn ?_
    refine xw ?_
    refine Shut.bY hX rfl rfl xB rfl rfl hc1 (by kernel_rfl) (v := .slice (some ⟨bg, 0, none⟩) n cg) rfl ?_
    refine xn ?_
    refine xw ?_
    refine Shut.bY hX rfl rfl xB rfl rfl (g1.get h1 nofun) (by kernel_rfl) (v := .slice (some ⟨bs, 0, none⟩) sz ct) h2 ?_
    refine xn ?_
    refine xw ?_
    refine Shut.bY hX rfl rfl xB rfl rfl (g1.get h3 nofun) (by kernel_rfl) (v := .pointer (some ⟨br, 0, none⟩)) h4 ?_
    refine xn ?_
    refine xw ?_
    refine xg ?_
    refine aj.ret hX.c ?_
    exact hk _ _ _ rfl (cu rfl Tryz.func58 rfl) ⟨rfl, g1⟩
noncomputable def c21 : Code := Tryz.f21.body.getD .skip
theorem GQ : Tryz.f21.body = some c21 := by
  unfold c21
  rfl
theorem IY (x0 x1 : Value) : Frame.enter Tryz.prog 21 #[x0, x1] .normal = (Go.Conc.base 21).at ⟨#[x0, x1, undef, undef, undef, undef, undef, undef, undef, undef, undef, undef, undef], []⟩ [.code c21] := by
  have h := enter_at (P := Tryz.prog) #[x0, x1] Tryz.func21 GQ
  rw [show Tryz.f21.ntmps = 13 from rfl] at h
  rw [h]
  walk_nrm
theorem MN (w : World) (bc n sz g i : Nat) (gv sv : Value) (hc : w.heap[bc]? = some (.cells #[gv, sv] 131)) (hn1 : 1 ≤ n) (hn : n ≤ 4) (hs : sz ≤ 5) (hg : g < n) (hi : i < sz) (br : Nat) (r : Rp) (hp : Ptr w gv n sz g i br) (hR : RS w br r g i n sz) :
    aX Tryz.prog 21 #[.pointer (some ⟨bc, 0, none⟩), .agg #[.int .u8 g, .int .u8 i]] w (fun v w' => v = .int .i64 0 ∧ GB (some br) w w' ∧ ∃ r', RS w' br r' g i n sz ∧ r'.bn = r.wn ∧ r'.bi = r.wi ∧ r'.wn = r.wn ∧ r'.wi = r.wi ∧ r'.sn = r.wn ∧ r'.ro = 0) := by
  intro main D X cs hX hk
  rw [IY]
  simp only [c21, Tryz.f21, Option.getD]
  refine xw ?_
  refine Shut.cK hX rfl rfl xB xO (ob := .cells #[.int .u8 g, .int .u8 i] 66) (v := fun b => .pointer (some ⟨b, 0, none⟩)) (fun w1 _ => by go_simp <;> rfl) (fun w1 b1 hb1 g1 l1 => ?_)
  refine xn ?_
  refine xw ?_
  refine Shut.dF hX rfl rfl xB rfl rfl hb1 (by kernel_rfl) [.int .u8 g, .int .u8 i] (by kernel_rfl) (Nat.le_of_ble_eq_true rfl) rfl ?_
  refine xn ?_
  have hp1 : Ptr w1 gv n sz g i br := by
    obtain ⟨bg, cg, cur, bs, ct, cur', e, h1, h2, h3, h4⟩ := hp.out
    exact ⟨bg, cg, cur, bs, ct, cur', e, g1.get h1 nofun, h2, g1.get h3 nofun, h4⟩
  refine Shut.bQ hX rfl rfl xB rfl Tryz.func58 (by kernel_rfl) (by rw [lK]; rfl) (fZ w1 bc n sz g i gv sv (.pointer (some ⟨br, 0, none⟩)) (g1.get hc nofun) (by obtain ⟨bg, cg, _, _, _, _, e, _⟩ := hp.out; exact ⟨_, _, e⟩) hn hs (by omega) (by omega) (.inr (.inr ⟨hg, hi, br, rfl, hp1⟩))) xk ?_
  rintro v w2 ⟨rfl, g2⟩
  refine xm ?_
  refine xw ?_
  have hR2 : RS w2 br r g i n sz := (hR.kp (g1.oF []) pI).kp (g2.oF []) pI
  refine Shut.bQ hX rfl rfl xB rfl Tryz.func61 (by kernel_rfl) (by rw [GK]; rfl) (MK r w2 br hR2.mem hR2.es hR2.gs hn1 hn (by rw [hR.g]; omega) (by rw [hR.g]; omega)) xk ?_
  rintro v w3 ⟨rfl, r', GM, g9, Us, Pe, h1, h2, h3, h4, h5, h6, h7, h8, h9, h10, h11, h12, MM⟩
  refine xm ?_
  refine xw ?_
  refine xg ?_
  refine aj.ret hX.c ?_
  exact hk _ _ _ rfl (cu rfl Tryz.func21 rfl) ⟨rfl, ((g1.trans g2).weak).trans g9, r', ⟨GM, Us, Pe, h1.trans hR.g, h2.trans hR.i, h3.trans hR.gs, h4.trans hR.sz, h10.trans hR.ob⟩, h5, h6, h7, h8, h9, h11⟩
theorem Ph (w : World) (bc n sz g i : Nat) (gv sv : Value) (hc : w.heap[bc]? = some (.cells #[gv, sv] 131)) (hgv : ∃ a c, gv = .slice a n c) (hn : n ≤ 4) (hs : sz ≤ 5) (_hg8 : g < 256) (_hi8 : i < 256) (hcase : n ≤ g ∨ (g < n ∧ sz ≤ i ∧ ∃ br, Ptr w gv n sz g 0 br)) :
    aX Tryz.prog 21 #[.pointer (some ⟨bc, 0, none⟩), .agg #[.int .u8 g, .int .u8 i]] w (fun v w' => v = .int .i64 6 ∧ GB none w w') := by
  intro main D X cs hX hk
  rw [IY]
  simp only [c21, Tryz.f21, Option.getD]
  refine xw ?_
  refine Shut.cK hX rfl rfl xB xO (ob := .cells #[.int .u8 g, .int .u8 i] 66) (v := fun b => .pointer (some ⟨b, 0, none⟩)) (fun w1 _ => by go_simp <;> rfl) (fun w1 b1 hb1 g1 l1 => ?_)
  refine xn ?_
  refine xw ?_
  refine Shut.dF hX rfl rfl xB rfl rfl hb1 (by kernel_rfl) [.int .u8 g, .int .u8 i] (by kernel_rfl) (Nat.le_of_ble_eq_true rfl) rfl ?_
  refine xn ?_
  refine Shut.bQ hX rfl rfl xB rfl Tryz.func58 (by kernel_rfl) (by rw [lK]; rfl) (fZ w1 bc n sz g i gv sv (.pointer none) (g1.get hc nofun) hgv hn hs (by omega) (by omega) (hcase.elim (fun h => .inl ⟨h, rfl⟩) fun ⟨h1, h2, br, h3⟩ => .inr (.inl ⟨h1, h2, rfl, br, h3.gb g1⟩))) xk ?_
  rintro v w2 ⟨rfl, g2⟩
  refine xm ?_
  refine xw ?_
  refine xg ?_
  refine aj.ret hX.c ?_
  exact hk _ _ _ rfl (cu rfl Tryz.func21 rfl) ⟨rfl, g1.trans g2⟩
end
end Go.Proofs.YtignemioillaiaaGreat
