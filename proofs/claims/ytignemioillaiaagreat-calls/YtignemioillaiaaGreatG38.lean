/- takePrepare. -/
import Derived.Test.YtignemioillaiaaGreatG37
namespace Go.Proofs.YtignemioillaiaaGreat
set_option maxHeartbeats 8000000
set_option maxRecDepth 100000
section
open Go Go.Conc Go.RowKit
theorem WS.oF {A : Nat → Prop} {w0 w w' : World} {br : Nat} {r : Rp} {ps : List cB} (_h : WS A w0 w br r ps) (k : GB none w w') : Kp [139, 152] w w' := k.oF _
theorem yu {w : World} {b : Nat} {x y : Int} (h : w.heap[b]? = some (.cells #[.int .u8 x, .int .u8 y] 66)) : w.ownsRow 0 66 2 (.slice (some ⟨b, 0, none⟩) 1 1) [(x, y)].length (yo [(x, y)]) :=
  ⟨rfl, .inr ⟨b, 1, _, rfl, Nat.zero_le _, h, Nat.le_refl 1, by first | decide | exact Nat.le_refl _ | rfl, rfl, rfl⟩⟩
noncomputable def KM : Code := Tryz.f115.body.getD .skip
theorem Ji : Tryz.f115.body = some KM := by
  unfold KM
  rfl
theorem PO (x0 x1 x2 : Value) : Frame.enter Tryz.prog 115 #[x0, x1, x2] .normal = (Go.Conc.base 115).at ⟨#[x0, x1, x2, undef, undef, undef, undef, undef, undef, undef, undef, undef, undef, undef, undef, undef, undef, undef], []⟩ [.code KM] := by
  have h := enter_at (P := Tryz.prog) #[x0, x1, x2] Tryz.func115 Ji
  rw [show Tryz.f115.ntmps = 18 from rfl] at h
  rw [h]
  walk_nrm
theorem SB (pq : Int → Int → ByteArray) {A : Nat → Prop} {w0 : World} (r : Rp) (w : World) (br : Nat) (ps : List cB) (h : WS A w0 w br r ps) (e : r.Es w) (_hps : ps.length < 1000) (fg fi bn bi : Int) (hnb : uz bn bi r.bn r.bi = false) (hne : ¬(bn = r.bn ∧ bi = r.bi))
    (QQ : ∀ w1, aX Tryz.prog 158 #[.agg (mC 4 bn bi (.slice none 0 0)).toArray] w1 (fun v w' => (∃ e, v = .tuple #[.string (pq bn bi), .int .i64 e]) ∧ GB none w1 w')) :
    aX Tryz.prog 115 #[.pointer (some ⟨br, 0, none⟩), .agg #[.int .u8 fg, .int .u8 fi], .agg #[.int .u32 bn, .int .u8 bi]] w (fun v w' => v = .tuple #[] ∧ ∃ ob, WS A w0 w' br { r with bn := bn, bi := bi, ro := 0, pr := 0, ob := ob } (ps ++ [lL r (pq bn bi) (fg, fi)])) := by
  intro main D X cs hX hk
  rw [PO]
  simp only [KM, Tryz.f115, Option.getD]
  refine xw ?_
  refine Shut.cK hX rfl rfl xB xO (ob := .cells #[.int .u8 fg, .int .u8 fi] 66) (v := fun b => .pointer (some ⟨b, 0, none⟩)) (fun w1 _ => by go_simp <;> rfl) (fun w1 b1 hb1 g1 l1 => ?_)
  refine xn ?_
  refine xw ?_
  refine Shut.cK hX rfl rfl xB xO (ob := .cells #[.int .u32 bn, .int .u8 bi] 143) (v := fun b => .pointer (some ⟨b, 0, none⟩)) (fun w1 _ => by go_simp <;> rfl) (fun w2 b2 hb2 g2 l2 => ?_)
  refine xn ?_
  refine xw ?_
  refine Shut.dF hX rfl rfl xB rfl rfl (g2.get hb1 nofun) (by kernel_rfl) [.int .u8 fg, .int .u8 fi] (by kernel_rfl) (Nat.le_of_ble_eq_true rfl) rfl ?_
  refine xn ?_
  refine xw ?_
  refine Shut.dF hX rfl rfl xB rfl rfl hb2 (by kernel_rfl) [.int .u32 bn, .int .u8 bi] (by kernel_rfl) (Nat.le_of_ble_eq_true rfl) rfl ?_
  refine xn ?_
  refine xw ?_
  have h2 := (h.ek g1).ek g2
  refine Shut.bQ hX rfl rfl xB rfl Tryz.func165 (by kernel_rfl) (by rw [Jh]; rfl) (MZ r w2 br h2.mem ((e.ek g1).ek g2) fg fi bn bi hnb hne) xk ?_
  rintro v w3 ⟨rfl, hB3, g3⟩
  refine xm ?_
  have h3 : WS A w0 w3 br { r with bn := bn, bi := bi, ro := 0, pr := 0 } ps := h2.put g3 hB3 rfl
  have e3 : Rp.Es { r with bn := bn, bi := bi, ro := 0, pr := 0 } w3 := ((e.ek g1).ek g2).gb g3 h2.mem
  have n1 : b1 ≠ br := fun q => by have := dz h.mem; omega
  have n2 : b2 ≠ br := fun q => by have := dz (g1.get h.mem nofun); omega
  have DL : w3.heap[b1]? = some (.cells #[.int .u8 fg, .int .u8 fi] 66) := g3.get (g2.get hb1 nofun) fun q => n1 (by injection q)
  have PQ : w3.heap[b2]? = some (.cells #[.int .u32 bn, .int .u8 bi] 143) := g3.get hb2 fun q => n2 (by injection q)
  have hS : bE b1 (.cells #[.int .u8 fg, .int .u8 fi] 66) b2 (.cells #[.int .u32 bn, .int .u8 bi] 143) w3 := ⟨DL, PQ⟩
  refine xw ?_
  refine xg ?_
  refine Shut.drawn hX xB (by kernel_rfl) (bE b1 (.cells #[.int .u8 fg, .int .u8 fi] 66) b2 (.cells #[.int .u32 bn, .int .u8 bi] 143)) 7 ?_ bE.same
  show AnyX _ _ _ _ _ _ _ _ 8 #[false, false, false, false, false, false, false, false] _ _
  refine AnyX.take hX bE.same 0 rfl (by decide) xK xK xK xY hS ?_
  refine xn ?_
  refine AnyX.take hX bE.same 2 rfl (by decide) xK xK xK xY hS ?_
  refine xn ?_
  refine AnyX.takeN hX bE.same 1 4 rfl rfl rfl xK xK xK (by kernel_rfl) (.inl ⟨rfl, bZ rfl, fun _ h => iA rfl rfl h.2 (by kernel_rfl) [.int .u32 bn, .int .u8 bi] (by kernel_rfl) (Nat.le_of_ble_eq_true rfl) rfl⟩) hS ?_
  refine xn ?_
  refine AnyX.takeN hX bE.same 5 6 rfl rfl rfl xK xK xK (by kernel_rfl) (.inl ⟨rfl, bZ rfl, fun _ h => iA rfl rfl h.1 (by kernel_rfl) [.int .u8 fg, .int .u8 fi] (by kernel_rfl) (Nat.le_of_ble_eq_true rfl) rfl⟩) hS ?_
  refine xn ?_
  refine AnyX.two 3 6 (by kernel_rfl) ?_ ?_
  · refine dL.bQ rfl rfl rfl Tryz.func166 (by kernel_rfl) (by rw [DK]; rfl) (Eo _ w3 br hB3 e3) xk ?_
    rintro v w4 ⟨rfl, g4⟩
    have yw : bE b1 (.cells #[.int .u8 fg, .int .u8 fi] 66) b2 (.cells #[.int .u32 bn, .int .u8 bi] 143) w4 := ⟨g4.get DL nofun, g4.get PQ nofun⟩
    refine ⟨fun _ => yw, ?_⟩
    refine AnyX.take hX bE.same 4 rfl (by decide) xK xK xK xY yw ?_
    refine xn ?_
    refine AnyX.one 6 (by kernel_rfl) ?_
    refine dL.cK rfl rfl xO (ob := .cells #[.int .u8 fg, .int .u8 fi] 66) (v := fun b => .slice (some ⟨b, 0, none⟩) 1 1) (fun w1 _ => by go_simp <;> rfl) (fun w5 b5 hb5 g5 l5 => ?_)
    refine xn ?_
    refine ⟨fun _ => ⟨g5.get yw.1 nofun, g5.get yw.2 nofun⟩, ?_⟩
    refine AnyX.one 7 (by kernel_rfl) ?_
    refine dL.bQ rfl rfl rfl Tryz.func108 (by kernel_rfl) (by rw [zn]; rfl) (Bu (mC 4 bn bi (.slice none 0 0)) rfl (pq bn bi) _ w5 br ps ((h3.ek g4).ek g5) _ [(fg, fi)] (yu hb5) (by simp; omega) (fun w3 _ => QQ w3)) xk ?_
    rintro v w6 ⟨rfl, ob, Uy, _⟩
    refine ⟨fun h => (by cases h), AnyX.done (by kernel_rfl) ?_⟩
    refine xm ?_
    refine xg ?_
    refine aj.fin hX.c ?_
    exact hk _ _ _ rfl (fA rfl Tryz.func115 rfl) ⟨rfl, ob, Uy⟩
  · refine dL.cK rfl rfl xO (ob := .cells #[.int .u8 fg, .int .u8 fi] 66) (v := fun b => .slice (some ⟨b, 0, none⟩) 1 1) (fun w1 _ => by go_simp <;> rfl) (fun w5 b5 hb5 g5 l5 => ?_)
    refine xn ?_
    have hS5 : bE b1 (.cells #[.int .u8 fg, .int .u8 fi] 66) b2 (.cells #[.int .u32 bn, .int .u8 bi] 143) w5 := ⟨g5.get DL nofun, g5.get PQ nofun⟩
    refine ⟨fun _ => hS5, ?_⟩
    refine AnyX.one 3 (by kernel_rfl) ?_
    refine dL.bQ rfl rfl rfl Tryz.func166 (by kernel_rfl) (by rw [DK]; rfl) (Eo _ w5 br (g5.get hB3 nofun) (e3.ek g5)) xk ?_
    rintro v w4 ⟨rfl, g4⟩
    have yw : bE b1 (.cells #[.int .u8 fg, .int .u8 fi] 66) b2 (.cells #[.int .u32 bn, .int .u8 bi] 143) w4 := ⟨g4.get hS5.1 nofun, g4.get hS5.2 nofun⟩
    refine ⟨fun _ => yw, ?_⟩
    refine AnyX.take hX bE.same 4 rfl (by decide) xK xK xK xY yw ?_
    refine xn ?_
    refine AnyX.one 7 (by kernel_rfl) ?_
    refine dL.bQ rfl rfl rfl Tryz.func108 (by kernel_rfl) (by rw [zn]; rfl) (Bu (mC 4 bn bi (.slice none 0 0)) rfl (pq bn bi) _ w4 br ps ((h3.ek g5).ek g4) _ [(fg, fi)] (yu (g4.get hb5 nofun)) (by simp; omega) (fun w3 _ => QQ w3)) xk ?_
    rintro v w6 ⟨rfl, ob, Uy, _⟩
    refine ⟨fun h => (by cases h), AnyX.done (by kernel_rfl) ?_⟩
    refine xm ?_
    refine xg ?_
    refine aj.fin hX.c ?_
    exact hk _ _ _ rfl (fA rfl Tryz.func115 rfl) ⟨rfl, ob, Uy⟩
noncomputable def KN : Code := Tryz.f114.body.getD .skip
theorem Jj : Tryz.f114.body = some KN := by
  unfold KN
  rfl
theorem PR (x0 x1 : Value) : Frame.enter Tryz.prog 114 #[x0, x1] .normal = (Go.Conc.base 114).at ⟨#[x0, x1, undef, undef, undef, undef, undef, undef, undef, undef, undef, undef, undef, undef, undef, undef, undef, undef, undef, undef, undef, undef, undef, undef, undef, undef, undef, undef, undef, undef, undef, undef, undef, undef, undef, undef], []⟩ [.code KN] := by
  have h := enter_at (P := Tryz.prog) #[x0, x1] Tryz.func114 Jj
  rw [show Tryz.f114.ntmps = 36 from rfl] at h
  rw [h]
  walk_nrm
theorem PS (r : Rp) (w : World) (br : Nat) (hB : r.At w br) (hro : r.ro = 0) (q : Array Value) : aX Tryz.prog 114 #[.pointer (some ⟨br, 0, none⟩), .agg q] w (fun v w' => v = .tuple #[] ∧ GB none w w') := by
  intro main D X cs hX hk
  rw [PR]
  simp only [KN, Tryz.f114, Option.getD]
  refine xw ?_
  refine Shut.cK hX rfl rfl xB xO (ob := .cells q 50) (v := fun b => .pointer (some ⟨b, 0, none⟩)) (fun w1 _ => by go_simp <;> rfl) (fun w1 b1 hb1 g1 l1 => ?_)
  refine xn ?_
  refine xw ?_
  refine Shut.bY hX rfl rfl xB rfl rfl (g1.get hB nofun) (by kernel_rfl) (v := .int .i64 r.ro) rfl ?_
  refine xn ?_
  rw [hro]
  refine xw ?_
  refine xg ?_
  refine aj.ret hX.c ?_
  exact hk _ _ _ rfl (fA rfl Tryz.func114 rfl) ⟨rfl, g1⟩
structure PT (mv : List Value) (bn bi : Int) : Prop where
  len : mv.length = 45
  one : mv.all (·.oneCell') = true
  kind : mv[0]? = some (.int .u8 3)
  Uz : mv[15]? = some (.int .u32 bn)
  Xd : (mv.drop 15).take 2 = [.int .u32 bn, .int .u8 bi]
noncomputable def UA : Code := Tryz.f113.body.getD .skip
theorem Jk : Tryz.f113.body = some UA := by
  unfold UA
  rfl
noncomputable def M0 : Code := Tryz.f65.body.getD .skip
theorem M3 : Tryz.f65.body = some M0 := by
  unfold M0
  rfl
theorem Jl (x0 x1 : Value) : Frame.enter Tryz.prog 65 #[x0, x1] .normal = (Go.Conc.base 65).at ⟨#[x0, x1, undef, undef, undef, undef, undef, undef, undef, undef, undef, undef, undef, undef, undef, undef, undef, undef, undef, undef, undef, undef, undef, undef, undef, undef, undef, undef, undef, undef, undef, undef, undef, undef, undef, undef, undef, undef, undef, undef, undef, undef, undef, undef, undef, undef, undef, undef, undef, undef, undef, undef, undef, undef, undef, undef, undef, undef, undef, undef, undef, undef, undef, undef, undef, undef, undef, undef, undef, undef, undef, undef, undef, undef, undef, undef, undef, undef, undef, undef, undef, undef, undef, undef, undef, undef, undef, undef, undef, undef, undef, undef, undef, undef, undef, undef, undef, undef, undef, undef, undef, undef, undef, undef, undef, undef], []⟩ [.code M0] := by
  have h := enter_at (P := Tryz.prog) #[x0, x1] Tryz.func65 M3
  rw [show Tryz.f65.ntmps = 106 from rfl] at h
  rw [h]
  walk_nrm
theorem M4 (pq : Int → Int → ByteArray) {A : Nat → Prop} {w0 : World} (r : Rp) (w : World) (br : Nat) (h : WS A w0 w br r []) (e : r.Es w) (p : cB) (bn bi _n0 : Int) (hnb : uz bn bi r.bn r.bi = false) (hne : ¬(bn = r.bn ∧ bi = r.bi)) (_hfg : p.fg < 255) (hsn : r.sn = 0) (_hbn : 0 < bn)
    (hP : ∀ w1, aX Tryz.prog 113 #[.string p.d] w1 (fun v w' => (∃ mv, v = .tuple #[.agg mv.toArray, .int .i64 0] ∧ PT mv bn bi) ∧ GB none w1 w'))
    (QQ : ∀ w1, aX Tryz.prog 158 #[.agg (mC 4 bn bi (.slice none 0 0)).toArray] w1 (fun v w' => (∃ e, v = .tuple #[.string (pq bn bi), .int .i64 e]) ∧ GB none w1 w')) :
    aX Tryz.prog 65 #[.pointer (some ⟨br, 0, none⟩), p.val] w (fun v w' => v = .tuple #[] ∧ ∃ ob, WS A w0 w' br { r with sn := bn, bn := bn, bi := bi, ro := 0, pr := 0, ob := ob } [lL r (pq bn bi) (p.fg, p.fr)]) := by
  intro main D X cs hX hk
  rw [Jl]
  simp only [M0, Tryz.f65, Option.getD]
  unfold cB.val
  refine xw ?_
  refine Shut.cK hX rfl rfl xB xO (ob := .cells p.cells.toArray 139) (v := fun b => .pointer (some ⟨b, 0, none⟩)) (fun w1 _ => by go_simp <;> rfl) (fun w1 b1 hb1 g1 l1 => ?_)
  refine xn ?_
  refine xw ?_
  refine Shut.bY hX rfl rfl xB rfl rfl hb1 (by kernel_rfl) (v := .string p.d) rfl ?_
  refine xn ?_
  refine xw ?_
  refine Shut.bQ hX rfl rfl xB rfl Tryz.func113 (by kernel_rfl) (by rw [Jk]; rfl) (hP w1) xk ?_
  rintro v w2 ⟨⟨mv, rfl, hm⟩, g2⟩
  refine xm ?_
  refine xw ?_
  refine Shut.cK hX rfl rfl xB xO (ob := .cells (mC 0 0 0 (.slice none 0 0)).toArray 203) (v := fun b => .pointer (some ⟨b, 0, none⟩)) (fun w1 _ => by go_simp <;> rfl) (fun w3 b3 hb3 g3 l3 => ?_)
  refine xn ?_
  refine xw ?_
  refine Shut.df hX rfl rfl (by decide) _ rfl rfl (v := .agg mv.toArray) rfl hb3 (by show _ = some mv.length; rw [hm.len]; kernel_rfl) hm.one (by show 0 + mv.length ≤ 45; rw [hm.len]; decide) mv (by show [] ++ mv ++ List.drop (0 + mv.length) _ = mv; rw [hm.len]; exact List.append_nil _) (fun w4 hb4 o4 => ?_)
  refine xm ?_
  refine xw ?_
  have g4 : GB none w w4 := ((g1.trans g2).trans g3).fresh (GB.only o4) (by have := (g1.trans g2).size; omega)
  have yx : w4.heap[b1]? = some (.cells p.cells.toArray 139) := (g2.trans (g3.fresh (GB.only o4) l3)).get hb1 nofun
  refine Shut.bY hX rfl rfl xB rfl rfl yx (by kernel_rfl) (v := .int .u8 p.fg) rfl ?_
  refine xn ?_
  have hf1 : ¬ p.fg = 255 := by omega
  have hf2 : (p.fg == 255) = false := by simp [hf1]
  refine xw ?_
  have h4 := h.ek g4
  have e4 := e.ek g4
  have hS : bE b3 (.cells mv.toArray 203) br (.cells r.cells.toArray 152) w4 := ⟨hb4, h4.mem⟩
  refine xg ?_
  refine Shut.drawn hX xB (by kernel_rfl) (bE b3 (.cells mv.toArray 203) br (.cells r.cells.toArray 152)) 11 ?_ bE.same
  show AnyX _ _ _ _ _ _ _ _ 12 #[false, false, false, false, false, false, false, false, false, false, false, false] _ _
  refine AnyX.take hX bE.same 0 rfl (by decide) xK xK xK xY hS ?_
  refine xn ?_
  refine AnyX.take hX bE.same 1 rfl (by decide) xK xK xK xY hS ?_
  refine xn ?_
  refine AnyX.take hX bE.same 2 rfl (by decide) xK xK xK xY hS ?_
  refine xn ?_
  refine AnyX.take hX bE.same 3 rfl (by decide) xK xK xK xY hS ?_
  refine xn ?_
  refine AnyX.fu hX bE.same 4 rfl rfl xK xK xK (by kernel_rfl) (.inl ⟨rfl, bZ rfl, fun _ h => fe rfl rfl h.2 (by kernel_rfl) (v := .int .u32 r.sn) rfl⟩) hS ?_
  refine xn ?_
  rw [hsn]
  refine AnyX.take hX bE.same 5 rfl (by decide) xK xK xK xY hS ?_
  refine xn ?_
  refine AnyX.take hX bE.same 6 rfl (by decide) xK xK xK xY hS ?_
  refine xn ?_
  refine AnyX.fu hX bE.same 7 rfl rfl xK xK xK (by kernel_rfl) (.inl ⟨rfl, bZ rfl, fun _ h => fe rfl rfl h.1 (by kernel_rfl) (v := .int .u32 bn) (by rw [List.getElem?_toArray]; exact hm.Uz)⟩) hS ?_
  refine xm ?_
  refine AnyX.take hX bE.same 8 rfl (by decide) xK xK xK (v := .int .u32 bn) (.inl ⟨rfl, nJ rfl rfl, fun _ _ => by go_simp⟩) hS ?_
  refine xn ?_
  refine AnyX.take hX bE.same 9 rfl (by decide) xK xK xK xY hS ?_
  refine xn ?_
  refine AnyX.take hX bE.same 10 rfl (by decide) xK xK xK xY hS ?_
  refine xn ?_
  refine AnyX.one 11 (by kernel_rfl) ?_
  refine dL.df rfl rfl _ rfl rfl (v := .int .u32 bn) rfl h4.mem (by kernel_rfl) rfl (Nat.le_of_ble_eq_true rfl) (Rp.cells { r with sn := bn }) rfl (fun w5 w6 hs6 tX o6 => ?_)
  refine xn ?_
  refine ⟨fun h => (by cases h), AnyX.done (by kernel_rfl) ?_⟩
  have GU : GB (some br) w4 w6 := ((GB.refl _ w4).same hs6).trans (GB.only o6)
  have h6 : WS A w0 w6 br { r with sn := bn } [] := h4.put GU tX rfl
  have e6 : Rp.Es { r with sn := bn } w6 := e4.gb GU h4.mem
  have n3 : b3 ≠ br := fun q => by have := dz h.mem; have := (g1.trans g2).size; omega
  have n1 : b1 ≠ br := fun q => by have := dz h.mem; omega
  have hb6 := GU.get hb4 fun q => n3 (by injection q)
  have GV := GU.get yx fun q => n1 (by injection q)
  refine xw ?_
  refine Shut.bY hX rfl rfl xB rfl rfl hb6 (by kernel_rfl) (v := .int .u8 3) (by rw [List.getElem?_toArray]; exact hm.kind) ?_
  refine xn ?_
  refine xw ?_
  refine Shut.dF hX rfl rfl xB rfl rfl GV (by kernel_rfl) [.int .u8 p.fg, .int .u8 p.fr] (by kernel_rfl) (Nat.le_of_ble_eq_true rfl) rfl ?_
  refine xn ?_
  refine xw ?_
  refine Shut.dF hX rfl rfl (by decide) rfl rfl hb6 (by kernel_rfl) [.int .u32 bn, .int .u8 bi] (by kernel_rfl) (by rw [List.size_toArray, hm.len]; show 15 + 2 ≤ 45; omega) hm.Xd ?_
  refine xm ?_
  refine xw ?_
  refine Shut.bQ hX rfl rfl xB rfl Tryz.func115 (by kernel_rfl) (by rw [Ji]; rfl) (SB pq { r with sn := bn } w6 br [] h6 e6 (by simp) p.fg p.fr bn bi hnb hne QQ) xk ?_
  rintro v w7 ⟨rfl, ob, h7⟩
  refine xm ?_
  refine xw ?_
  refine xg ?_
  refine aj.fin hX.c ?_
  exact hk _ _ _ rfl (fA rfl Tryz.func65 rfl) ⟨rfl, ob, h7⟩
structure PU (mv : List Value) (k bn : Int) : Prop where
  len : mv.length = 45
  one : mv.all (·.oneCell') = true
  kind : mv[0]? = some (.int .u8 k)
  Uz : mv[15]? = some (.int .u32 bn)
theorem PV {A : Nat → Prop} {w0 : World} (r : Rp) (w : World) (br : Nat) (h : WS A w0 w br r []) (fr tg tr : Int) (d : ByteArray) (hro : r.ro = 0)
    (hP : ∀ w1, aX Tryz.prog 113 #[.string d] w1 (fun v w' => (∃ mv e k bn, v = .tuple #[.agg mv.toArray, .int .i64 e] ∧ PU mv k bn) ∧ GB none w1 w')) :
    aX Tryz.prog 65 #[.pointer (some ⟨br, 0, none⟩), cB.val ⟨255, fr, tg, tr, d⟩] w (fun v w' => v = .tuple #[] ∧ ∃ sn, WS A w0 w' br { r with sn := sn } []) := by
  intro main D X cs hX hk
  rw [Jl]
  simp only [M0, Tryz.f65, Option.getD]
  unfold cB.val
  refine xw ?_
  refine Shut.cK hX rfl rfl xB xO (ob := .cells (cB.cells ⟨255, fr, tg, tr, d⟩).toArray 139) (v := fun b => .pointer (some ⟨b, 0, none⟩)) (fun w1 _ => by go_simp <;> rfl) (fun w1 b1 hb1 g1 l1 => ?_)
  refine xn ?_
  refine xw ?_
  refine Shut.bY hX rfl rfl xB rfl rfl hb1 (by kernel_rfl) (v := .string d) rfl ?_
  refine xn ?_
  refine xw ?_
  refine Shut.bQ hX rfl rfl xB rfl Tryz.func113 (by kernel_rfl) (by rw [Jk]; rfl) (hP w1) xk ?_
  rintro v w2 ⟨⟨mv, e, k, bn, rfl, hm⟩, g2⟩
  refine xm ?_
  refine xw ?_
  refine Shut.cK hX rfl rfl xB xO (ob := .cells (mC 0 0 0 (.slice none 0 0)).toArray 203) (v := fun b => .pointer (some ⟨b, 0, none⟩)) (fun w1 _ => by go_simp <;> rfl) (fun w3 b3 hb3 g3 l3 => ?_)
  refine xn ?_
  refine xw ?_
  refine Shut.df hX rfl rfl (by decide) _ rfl rfl (v := .agg mv.toArray) rfl hb3 (by show _ = some mv.length; rw [hm.len]; kernel_rfl) hm.one (by show 0 + mv.length ≤ 45; rw [hm.len]; decide) mv (by show [] ++ mv ++ List.drop (0 + mv.length) _ = mv; rw [hm.len]; exact List.append_nil _) (fun w4 hb4 o4 => ?_)
  refine xm ?_
  refine xw ?_
  have g4 : GB none w w4 := ((g1.trans g2).trans g3).fresh (GB.only o4) (by have := (g1.trans g2).size; omega)
  have yx : w4.heap[b1]? = some (.cells (cB.cells ⟨255, fr, tg, tr, d⟩).toArray 139) := (g2.trans (g3.fresh (GB.only o4) l3)).get hb1 nofun
  have h4 := h.ek g4
  by_cases he : e = 0
  · subst he
    refine xw ?_
    refine Shut.bY hX rfl rfl xB rfl rfl yx (by kernel_rfl) (v := .int .u8 255) rfl ?_
    refine xn ?_
    refine xw ?_
    refine Shut.bY hX rfl rfl xB rfl rfl hb4 (by kernel_rfl) (v := .int .u8 k) (by rw [List.getElem?_toArray]; exact hm.kind) ?_
    refine xn ?_
    by_cases hk1 : k = 1
    · subst hk1
      refine xw ?_
      have hS : bE b3 (.cells mv.toArray 203) br (.cells r.cells.toArray 152) w4 := ⟨hb4, h4.mem⟩
      refine xg ?_
      refine Shut.drawn hX xB (by kernel_rfl) (bE b3 (.cells mv.toArray 203) br (.cells r.cells.toArray 152)) 11 ?_ bE.same
      show AnyX _ _ _ _ _ _ _ _ 12 #[false, false, false, false, false, false, false, false, false, false, false, false] _ _
      refine AnyX.take hX bE.same 0 rfl (by decide) xK xK xK xY hS ?_
      refine xn ?_
      refine AnyX.take hX bE.same 1 rfl (by decide) xK xK xK xY hS ?_
      refine xn ?_
      refine AnyX.take hX bE.same 2 rfl (by decide) xK xK xK xY hS ?_
      refine xn ?_
      refine AnyX.take hX bE.same 3 rfl (by decide) xK xK xK xY hS ?_
      refine xn ?_
      refine AnyX.fu hX bE.same 4 rfl rfl xK xK xK (by kernel_rfl) (.inl ⟨rfl, bZ rfl, fun _ h => fe rfl rfl h.2 (by kernel_rfl) (v := .int .u32 r.sn) rfl⟩) hS ?_
      refine xn ?_
      refine AnyX.take hX bE.same 5 rfl (by decide) xK xK xK xY hS ?_
      refine xn ?_
      refine AnyX.take hX bE.same 6 rfl (by decide) xK xK xK xY hS ?_
      refine xn ?_
      refine AnyX.fu hX bE.same 7 rfl rfl xK xK xK (by kernel_rfl) (.inl ⟨rfl, bZ rfl, fun _ h => fe rfl rfl h.1 (by kernel_rfl) (v := .int .u32 bn) (by rw [List.getElem?_toArray]; exact hm.Uz)⟩) hS ?_
      refine xm ?_
      refine AnyX.take hX bE.same 8 rfl (by decide) xK xK xK (v := .int .u32 (if r.sn < bn then bn else r.sn)) (.inl ⟨rfl, nJ rfl rfl, fun _ _ => by go_simp <;> (split <;> simp_all)⟩) hS ?_
      refine xn ?_
      refine AnyX.take hX bE.same 9 rfl (by decide) xK xK xK xY hS ?_
      refine xn ?_
      refine AnyX.take hX bE.same 10 rfl (by decide) xK xK xK xY hS ?_
      refine xn ?_
      refine AnyX.one 11 (by kernel_rfl) ?_
      refine dL.df rfl rfl _ rfl rfl (v := .int .u32 (if r.sn < bn then bn else r.sn)) rfl h4.mem (by kernel_rfl) rfl (Nat.le_of_ble_eq_true rfl) (Rp.cells { r with sn := if r.sn < bn then bn else r.sn }) rfl (fun w5 w6 hs6 tX o6 => ?_)
      refine xn ?_
      refine ⟨fun h => (by cases h), AnyX.done (by kernel_rfl) ?_⟩
      have GU : GB (some br) w4 w6 := ((GB.refl _ w4).same hs6).trans (GB.only o6)
      have h6 : WS A w0 w6 br { r with sn := if r.sn < bn then bn else r.sn } [] := h4.put GU tX rfl
      have n3 : b3 ≠ br := fun q => by have := dz h.mem; have := (g1.trans g2).size; omega
      have hb6 := GU.get hb4 fun q => n3 (by injection q)
      refine xw ?_
      refine Shut.bY hX rfl rfl xB rfl rfl hb6 (by kernel_rfl) (v := .int .u8 1) (by rw [List.getElem?_toArray]; exact hm.kind) ?_
      refine xn ?_
      refine xw ?_
      refine Shut.dF hX rfl rfl (by decide) rfl rfl hb6 (by kernel_rfl) ((mv.drop 1).take 7) (by rw [List.length_take, List.length_drop, hm.len]; kernel_rfl) (by rw [List.length_take, List.length_drop, List.size_toArray, hm.len]; decide) (by rw [List.length_take, List.length_drop, hm.len]; rfl) ?_
      refine xm ?_
      refine xw ?_
      refine Shut.bQ hX rfl rfl xB rfl Tryz.func114 (by kernel_rfl) (by rw [Jj]; rfl) (PS { r with sn := if r.sn < bn then bn else r.sn } w6 br h6.mem hro _) xk ?_
      rintro v w7 ⟨rfl, g7⟩
      refine xm ?_
      refine xw ?_
      refine xg ?_
      refine aj.fin hX.c ?_
      exact hk _ _ _ rfl (fA rfl Tryz.func65 rfl) ⟨rfl, _, h6.ek g7⟩
    · have hk2 : (k != 1) = true := by simp [hk1]
      refine xw ?_
      refine xg ?_
      refine aj.ret hX.c ?_
      exact hk _ _ _ rfl (fA rfl Tryz.func65 rfl) ⟨rfl, r.sn, h4⟩
  · have he2 : (e != 0) = true := by simp [he]
    rw [he2]
    refine xw ?_
    refine xg ?_
    refine aj.ret hX.c ?_
    exact hk _ _ _ rfl (fA rfl Tryz.func65 rfl) ⟨rfl, r.sn, h4⟩
noncomputable def c64 : Code := Tryz.f64.body.getD .skip
theorem M5 : Tryz.f64.body = some c64 := by
  unfold c64
  rfl
theorem SC (x0 x1 : Value) : Frame.enter Tryz.prog 64 #[x0, x1] .normal = (Go.Conc.base 64).at ⟨#[x0, x1, undef, undef, undef], []⟩ [.code c64] := by
  have h := enter_at (P := Tryz.prog) #[x0, x1] Tryz.func64 M5
  rw [show Tryz.f64.ntmps = 5 from rfl] at h
  rw [h]
  walk_nrm
theorem M6 (w : World) (b1 b2 br : Nat) (p : cB) (h1 : w.heap[b1]? = some (.cells #[.pointer (some ⟨br, 0, none⟩)] 133)) (h2 : w.heap[b2]? = some (.cells p.cells.toArray 139)) {Post : World → Prop} (hT : aX Tryz.prog 65 #[.pointer (some ⟨br, 0, none⟩), p.val] w (fun v w' => v = .tuple #[] ∧ Post w')) :
    aX Tryz.prog 64 #[.pointer (some ⟨b1, 0, none⟩), .pointer (some ⟨b2, 0, none⟩)] w (fun v w' => v = .tuple #[] ∧ Post w') := by
  intro main D X cs hX hk
  rw [SC]
  simp only [c64, Tryz.f64, Option.getD]
  refine xw ?_
  refine Shut.bY hX rfl rfl xB rfl rfl h1 (by kernel_rfl) (v := .pointer (some ⟨br, 0, none⟩)) rfl ?_
  refine xn ?_
  refine xw ?_
  refine Shut.dF hX rfl rfl xB rfl rfl h2 (by kernel_rfl) p.cells (by kernel_rfl) (Nat.le_of_ble_eq_true rfl) rfl ?_
  refine xn ?_
  refine xw ?_
  refine Shut.bQ hX rfl rfl xB rfl Tryz.func65 (by kernel_rfl) (by rw [M3]; rfl) hT xk ?_
  rintro v w1 ⟨rfl, hp⟩
  refine xm ?_
  refine xg ?_
  refine aj.fin hX.c ?_
  exact hk _ _ _ rfl (fA rfl Tryz.func64 rfl) ⟨rfl, hp⟩
structure CS (w : World) (bc : Nat) (gv sv : Value) (q : List cB) (n sz : Nat) (B : Nat → Nat → Nat) (F : Nat → Nat → Rp) : Prop where
  fJ : w.heap[bc]? = some (.cells #[gv, sv] 131)
  row : w.ownsRow 0 139 5 sv q.length (flat q)
  len : q.length ≤ 20000
  ptr : ∀ g i, g < n → i < sz → Ptr w gv n sz g i (B g i)
  rep : ∀ g i, g < n → i < sz → RS w (B g i) (F g i) g i n sz
def upd (F : Nat → Nat → Rp) (g i : Nat) (r : Rp) : Nat → Nat → Rp := fun g' i' => if g' = g ∧ i' = i then r else F g' i'
theorem upd_same (F : Nat → Nat → Rp) (g i : Nat) (r : Rp) : upd F g i r g i = r := if_pos ⟨rfl, rfl⟩
theorem tY (F : Nat → Nat → Rp) {g i g' i' : Nat} (r : Rp) (h : ¬(g' = g ∧ i' = i)) : upd F g i r g' i' = F g' i' := if_neg h
theorem RS.inj {w : World} {b : Nat} {r r' : Rp} {g i g' i' n sz : Nat} (h : RS w b r g i n sz) (k : RS w b r' g' i' n sz) : g = g' ∧ i = i' := by
  have e : some (Obj.cells r.cells.toArray 152) = some (Obj.cells r'.cells.toArray 152) := h.mem.symm.trans k.mem
  injection e with e
  injection e with e _
  have e := congrArg Array.toList e
  simp only [Rp.cells, tV, List.cons.injEq] at e
  have e1 : r.g = r'.g := by have := e.1; injection this
  have e2 : r.i = r'.i := by have := e.2.1; injection this
  rw [h.g, k.g] at e1
  rw [h.i, k.i] at e2
  omega
def Ep (w : World) (A : Nat → Prop) : Prop := ∀ x, A x → ∃ c t, w.heap[x]? = some (.cells c t) ∧ (t = 131 ∨ t = 139 ∨ t = 152)
theorem GS.ty {A : Nat → Prop} {w w' : World} (hg : GS A w w') (hA : Ep w A) {x : Nat} {c : Array Value} {t : TypeId} (hx : w.heap[x]? = some (.cells c t)) (ht : ¬(t = 131 ∨ t = 139 ∨ t = 152)) : w'.heap[x]? = some (.cells c t) := hg.get hx fun ha => by
  obtain ⟨o, t', ho, ht'⟩ := hA x ha
  rw [hx] at ho
  injection ho with ho
  injection ho with _ ho
  subst ho
  exact ht ht'
theorem GS.emp {A : Nat → Prop} {w w' : World} (hg : GS A w w') (hA : Ep w A) {m : Nat} (hm : iT w m) : iT w' m := hg.get hm fun ha => by
  obtain ⟨o, t', ho, _⟩ := hA m ha
  rw [hm] at ho
  cases ho
theorem GS.es {A : Nat → Prop} {w w' : World} (hg : GS A w w') (hA : Ep w A) {vm wm kn mt pp ac : Nat} (e : qo w vm wm kn mt pp ac) : qo w' vm wm kn mt pp ac :=
  ⟨hg.emp hA e.1, hg.emp hA e.2.1, hg.emp hA e.2.2.1, hg.emp hA e.2.2.2.1, hg.emp hA e.2.2.2.2.1, hg.emp hA e.2.2.2.2.2⟩
structure oJ (r r' : Rp) : Prop where
  g : r'.g = r.g
  i : r'.i = r.i
  gs : r'.gs = r.gs
  sz : r'.sz = r.sz
  maps : r'.vm = r.vm ∧ r'.wm = r.wm ∧ r'.kn = r.kn ∧ r'.mt = r.mt ∧ r'.pp = r.pp ∧ r'.ac = r.ac
  QR : r'.lg = r.lg ∧ r'.sg = r.sg ∧ r'.mJ = r.mJ ∧ r'.sr = r.sr ∧ r'.sm = r.sm ∧ r'.sd = r.sd ∧ r'.so = r.so ∧ r'.si = r.si
theorem RS.turn {A : Nat → Prop} {w w' : World} {b g i n sz : Nat} {r r' : Rp} (h : RS w b r g i n sz) (hg : GS A w w') (hA : Ep w A) (hm : r'.At w' b) (hs : oJ r r') (ho : r'.ob = .slice none 0 0) : RS w' b r' g i n sz := by
  obtain ⟨bM, bO, bI, hb⟩ := h.IQ
  obtain ⟨s1, s2, s3, s4, s5, s6, s7, s8⟩ := hs.QR
  obtain ⟨m1, m2, m3, m4, m5, m6⟩ := hs.maps
  refine ⟨hm, ?_, ⟨bM, bO, bI, ⟨s1.trans hb.lg, by rw [s2, hs.g, hb.sg], s3.trans hb.mJ, s4.trans hb.sr, s5.trans hb.sm, s6.trans hb.sd, s7.trans hb.so, s8.trans hb.si, hg.ty hA hb.mp (by decide), hg.ty hA hb.out (by decide), hg.ty hA hb.MJ (by decide)⟩⟩, hs.g.trans h.g, hs.i.trans h.i, hs.gs.trans h.gs, hs.sz.trans h.sz, ho⟩
  show qo _ _ _ _ _ _ _
  rw [m1, m2, m3, m4, m5, m6]
  exact hg.es hA h.es
theorem oJ.refl (r : Rp) : oJ r r := ⟨rfl, rfl, rfl, rfl, ⟨rfl, rfl, rfl, rfl, rfl, rfl⟩, ⟨rfl, rfl, rfl, rfl, rfl, rfl, rfl, rfl⟩⟩
theorem Ptr.gs {A : Nat → Prop} {w w' : World} {gv : Value} {n sz g i br : Nat} (h : Ptr w gv n sz g i br) (hg : GS A w w') (hA : Ep w A) : Ptr w' gv n sz g i br := by
  obtain ⟨bg, cg, cur, bs, ct, cur', e, h1, h2, h3, h4⟩ := h.out
  exact ⟨bg, cg, cur, bs, ct, cur', e, hg.ty hA h1 (by decide), h2, hg.ty hA h3 (by decide), h4⟩
theorem CS.next {w w' : World} {bc : Nat} {gv sv dR : Value} {q q' : List cB} {n sz : Nat} {B : Nat → Nat → Nat} {F : Nat → Nat → Rp} (h : CS w bc gv sv q n sz B F) {g i : Nat} (hg : g < n) (hi : i < sz) {A : Nat → Prop} (hA : Ep w A) (Yv : ∀ x, A x → x = bc ∨ x = B g i ∨ some x = sv.ownBlock) (hG : GS A w w')
    (hc : w'.heap[bc]? = some (.cells #[gv, dR] 131)) (hr : w'.ownsRow 0 139 5 dR q'.length (flat q')) (hl : q'.length ≤ 20000) {r' : Rp} (hm : r'.At w' (B g i)) (hs : oJ (F g i) r') (ho : r'.ob = .slice none 0 0) : CS w' bc gv dR q' n sz B (upd F g i r') := by
  refine ⟨hc, hr, hl, fun g' i' hg' hi' => (h.ptr g' i' hg' hi').gs hG hA, fun g' i' hg' hi' => ?_⟩
  have h1 := h.rep g' i' hg' hi'
  have h0 := h.rep g i hg hi
  by_cases hgi : g' = g ∧ i' = i
  · obtain ⟨rfl, rfl⟩ := hgi
    rw [upd_same]
    exact h1.turn hG hA hm hs ho
  · rw [tY _ _ hgi]
    refine h1.turn hG hA ?_ (oJ.refl _) h1.ob
    refine hG.get h1.mem fun ha => ?_
    rcases Yv _ ha with e | e | e
    · rw [e, ] at h1
      have := h1.mem.symm.trans h.fJ
      cases this
    · rw [e] at h1
      exact hgi (h1.inj h0)
    · obtain ⟨c, hc⟩ := kI h.row e.symm
      have := h1.mem.symm.trans hc
      cases this
def CA (n sz bc : Nat) (B : Nat → Nat → Nat) (sv : Value) (x : Nat) : Prop := x = bc ∨ (∃ g i, g < n ∧ i < sz ∧ x = B g i) ∨ some x = sv.ownBlock
def Ay (w : World) (sv dR : Value) : Prop := ∀ x, dR.ownBlock = some x → sv.ownBlock = some x ∨ w.heap.size ≤ x
theorem CS.QS {w : World} {bc : Nat} {gv sv : Value} {q : List cB} {n sz : Nat} {B : Nat → Nat → Nat} {F : Nat → Nat → Rp} (h : CS w bc gv sv q n sz B F) : Ep w (CA n sz bc B sv) := by
  rintro x (rfl | ⟨g, i, hg, hi, rfl⟩ | e)
  · exact ⟨_, _, h.fJ, .inl rfl⟩
  · exact ⟨_, _, (h.rep g i hg hi).mem, .inr (.inr rfl)⟩
  · obtain ⟨c, hc⟩ := kI h.row e.symm
    exact ⟨_, _, hc, .inr (.inl rfl)⟩
theorem GS.weak {A A' : Nat → Prop} {w w' : World} (h : GS A w w') (hA : ∀ x, A x → A' x) : GS A' w w' := ⟨h.os, h.out, h.size, fun x hx hn => h.block x hx fun ha => hn (hA x ha)⟩
theorem Jm {K : Machine → Trace → Prop} {w : World} {bc : Nat} {gv sv : Value} {q : List cB} {n sz : Nat} {B : Nat → Nat → Nat} {F : Nat → Nat → Rp} (h : CS w bc gv sv q n sz B F) {g i : Nat} (hg : g < n) (hi : i < sz) {f : FuncId} {fst cap : Array Value} {fn : Func} {cF : Frame} {cs : List Frame}
    (hf : Tryz.prog.funcs[f]? = some fn) (hname : (fn.name == "runtime.NumGoroutine") = false) (hb : fn.body.isNone = false) {Q : Rp → List cB → Prop}
    (CL : ∀ w1, GB none w w1 → aX Tryz.prog f (fst ++ cap) w1 (fun _ w' => ∃ r3 ps, WS (· = B g i) w1 w' (B g i) r3 ps ∧ oJ (F g i) r3 ∧ ps.length < 1000000 ∧ Q r3 ps))
    (hk : ∀ w4 dR r3 ps, Q r3 ps → CS w4 bc gv dR ((q ++ ps).take 20000) n sz B (upd F g i { r3 with wn := r3.bn, wi := r3.bi, ob := .slice none 0 0 }) → GS (CA n sz bc B sv) w w4 → Ay w sv dR → XR Tryz.prog K (G (cF.finish (.tuple #[])) cs) w4) :
    XR Tryz.prog K (G (Frame.enter Tryz.prog 59 #[.pointer (some ⟨bc, 0, none⟩), .pointer (some ⟨B g i, 0, none⟩), .func (.func f) fst cap] .normal) (cF :: cs)) w := by
  have hR := h.rep g i hg hi
  have g0 : GB none w ((w.alloc (.chan 0 #[] false 0 0 false)).alloc (.chan 0 #[] false 0 0 false)) := (GB.alloc none w _).trans (GB.alloc none _ _)
  have Xe : ((w.alloc (.chan 0 #[] false 0 0 false)).alloc (.chan 0 #[] false 0 0 false)).heap[w.heap.size]? = some (.chan 0 #[] false 0 0 false) := by
    rw [alloc_old (by rw [jl]; omega), iR]
  have Xf : ((w.alloc (.chan 0 #[] false 0 0 false)).alloc (.chan 0 #[] false 0 0 false)).heap[w.heap.size + 1]? = some (.chan 0 #[] false 0 0 false) := by
    have := iR (w.alloc (.chan 0 #[] false 0 0 false)) (.chan 0 #[] false 0 0 false)
    rwa [jl] at this
  generalize hw0 : (w.alloc (.chan 0 #[] false 0 0 false)).alloc (.chan 0 #[] false 0 0 false) = w0 at *
  have hbr := dz hR.mem
  have YX := dz h.fJ
  have hne1 : bc ≠ B g i := fun e => by
    have := hR.mem
    rw [Rp.At, ← e, h.fJ] at this
    cases this
  have hne2 : ∀ x, sv.ownBlock = some x → x ≠ B g i ∧ x < w.heap.size ∧ x ≠ bc := fun x hx => by
    obtain ⟨c, hc⟩ := kI h.row hx
    refine ⟨?_, dz hc, ?_⟩
    · rintro rfl
      have := hR.mem.symm.trans hc
      cases this
    · rintro rfl
      have := h.fJ.symm.trans hc
      cases this
  refine Sj (bc := bc) (br := B g i) (gv := gv) (sv := sv) (q0 := q) hf hname hb h.len
    (Q1 := fun w1 => ∃ r3 ps, WS (· = B g i) w0 w1 (B g i) r3 ps ∧ oJ (F g i) r3 ∧ ps.length < 1000000 ∧ Q r3 ps)
    (R3 := fun sl ps rc tR w3 => ∃ r3, Q r3 ps ∧ oJ (F g i) r3 ∧ sl = r3.ob ∧ rc = (Rp.cells { r3 with wn := r3.bn, wi := r3.bi }).toArray ∧ tR = 152 ∧ GS (· = B g i) w0 w3 ∧ (∀ y, r3.ob.ownBlock = some y → w0.heap.size ≤ y)) ?_ ?_ ?_
  · rw [hw0]
    exact CL w0 g0
  · rintro w1 ⟨r3, ps, hW, hS, hps, hQ⟩
    have e1 : r3.Es w1 := by
      obtain ⟨m1, m2, m3, m4, m5, m6⟩ := hS.maps
      show qo _ _ _ _ _ _ _
      rw [m1, m2, m3, m4, m5, m6]
      exact hW.gs.es (fun x hx => ⟨(F g i).cells.toArray, 152, by rw [hx]; exact g0.get hR.mem nofun, .inr (.inr rfl)⟩) (hR.es.ek g0)
    refine MS r3 w1 (B g i) hW.mem e1 _ fun a w3 hB3 g3 => ?_
    have hW3 : WS (· = B g i) w0 w3 (B g i) { r3 with wn := r3.bn, wi := r3.bi } ps := hW.put g3 hB3 rfl
    refine ⟨r3.ob, ps, (Rp.cells { r3 with wn := r3.bn, wi := r3.bi }).toArray, 152, ⟨?_, ?_, hB3, rfl, hW3.own, hps, hne1, ?_, ?_, ?_, ?_, ?_⟩, r3, hQ, hS, rfl, rfl, rfl, hW3.gs, hW.new⟩
    · exact hW3.gs.get (g0.get h.fJ nofun) hne1
    · exact iy ((g0.oF []).own h.row (by decide)) fun x hx => hW3.gs.block x (by have := (hne2 x hx).2.1; have := g0.size; omega) (hne2 x hx).1
    · intro e; exact (hne2 _ e.symm).1 rfl
    · intro e; have := hW.new _ e.symm; have := g0.size; omega
    · intro x hx e; have := hW.new _ e.symm; have := (hne2 x hx).2.1; have := g0.size; omega
    · exact hW3.gs.get Xe (by intro e; omega)
    · exact hW3.gs.get Xf (by intro e; omega)
  · rintro sl ps rc tR w3 w4 hW ⟨r3, hQ, hS, rfl, rfl, rfl, hG3, hnew⟩ hA
    obtain ⟨dR, hc4, hr4, GL⟩ := hA.fJ
    have hG4 : GS (fun x => x = bc ∨ x = B g i ∨ some x = sv.ownBlock) w w4 := by
      refine ⟨hA.os.trans (hG3.os.trans g0.os), hA.out.trans (hG3.out.trans g0.out), Nat.le_trans (Nat.le_trans g0.size hG3.size) hA.size, fun x hx hn => ?_⟩
      have hx0 : x < w0.heap.size := Nat.lt_of_lt_of_le hx g0.size
      rw [hA.rest x (Nat.lt_of_lt_of_le hx0 hG3.size) (fun e => hn (.inl e)) (fun e => hn (.inr (.inl e))) (fun e => hn (.inr (.inr e))) (fun e => by have := hnew _ e.symm; omega) (by omega) (by omega)]
      rw [hG3.block x hx0 fun e => hn (.inr (.inl e))]
      exact g0.block x hx nofun
    refine hk w4 dR r3 ps hQ ?_ (hG4.weak fun x hx => hx.imp id fun hx => hx.imp (fun e => ⟨g, i, hg, hi, e⟩) id) (fun x hx => (GL x hx).imp id fun e => by have := hG3.size; have := g0.size; omega)
    refine h.next hg hi (A := fun x => x = bc ∨ x = B g i ∨ some x = sv.ownBlock) ?_ (fun x hx => hx) hG4 hc4 hr4 (by rw [List.length_take]; omega) ?_ ?_ rfl
    · rintro x (rfl | rfl | e)
      · exact ⟨_, _, h.fJ, .inl rfl⟩
      · exact ⟨_, _, hR.mem, .inr (.inr rfl)⟩
      · obtain ⟨c, hc⟩ := kI h.row e.symm
        exact ⟨_, _, hc, .inr (.inl rfl)⟩
    · exact hA.rep
    · exact ⟨hS.g, hS.i, hS.gs, hS.sz, hS.maps, hS.QR⟩
theorem aX.mono {P : Program} {f : FuncId} {args : Array Value} {w : World} {Post Post' : Value → World → Prop} (h : aX P f args w Post) (hp : ∀ v w', Post v w' → Post' v w') : aX P f args w Post' := fun main D X cs hX hk => h main D X cs hX fun fr v w' e1 e2 e3 => hk fr v w' e1 e2 (hp v w' e3)
theorem CS.ek {w w' : World} {bc : Nat} {gv sv : Value} {q : List cB} {n sz : Nat} {B : Nat → Nat → Nat} {F : Nat → Nat → Rp} (h : CS w bc gv sv q n sz B F) (k : GB none w w') : CS w' bc gv sv q n sz B F :=
  ⟨k.get h.fJ nofun, (k.oF []).own h.row (by decide), h.len, fun g i hg hi => (h.ptr g i hg hi).gb k, fun g i hg hi => (h.rep g i hg hi).kp (k.oF []) pI⟩
theorem CS.gv {w : World} {bc : Nat} {gv sv : Value} {q : List cB} {n sz : Nat} {B : Nat → Nat → Nat} {F : Nat → Nat → Rp} (h : CS w bc gv sv q n sz B F) (hn : 0 < n) (hs : 0 < sz) : ∃ a c, gv = .slice a n c := by
  obtain ⟨bg, cg, _, _, _, _, e, _⟩ := (h.ptr 0 0 hn hs).out
  exact ⟨_, _, e⟩
theorem Ay.later {w w1 : World} {sv dR : Value} (h : Ay w1 sv dR) (g : GB none w w1) : Ay w sv dR := fun x hx => (h x hx).imp id fun e => Nat.le_trans g.size e
structure uA (pb pq : Int → Int → ByteArray) : Prop where
  Xg : ∀ bn bi, 0 ≤ bn → bn < 4294967296 → 0 ≤ bi → bi < 256 → ∀ w1, aX Tryz.prog 158 #[.agg (mC 3 bn bi (.slice none 0 0)).toArray] w1 (fun v w' => (∃ e, v = .tuple #[.string (pb bn bi), .int .i64 e]) ∧ GB none w1 w')
  prom : ∀ bn bi, 0 ≤ bn → bn < 4294967296 → 0 ≤ bi → bi < 256 → ∀ w1, aX Tryz.prog 158 #[.agg (mC 4 bn bi (.slice none 0 0)).toArray] w1 (fun v w' => (∃ e, v = .tuple #[.string (pq bn bi), .int .i64 e]) ∧ GB none w1 w')
  read : ∀ bn bi, 0 ≤ bn → bn < 4294967296 → 0 ≤ bi → bi < 256 → ∀ w1, aX Tryz.prog 113 #[.string (pb bn bi)] w1 (fun v w' => (∃ mv, v = .tuple #[.agg mv.toArray, .int .i64 0] ∧ PT mv bn bi) ∧ GB none w1 w')
  any : ∀ d : ByteArray, d.size ≤ 1000 → ∀ w1, aX Tryz.prog 113 #[.string d] w1 (fun v w' => (∃ mv e k bn, v = .tuple #[.agg mv.toArray, .int .i64 e] ∧ PU mv k bn) ∧ GB none w1 w')
theorem M7 (r : Rp) (sz : Nat) (m : Int) (ob : Value) : oJ r { r.jr sz m with ob := ob } := by
  unfold Rp.jr
  split <;> exact ⟨rfl, rfl, rfl, rfl, ⟨rfl, rfl, rfl, rfl, rfl, rfl⟩, ⟨rfl, rfl, rfl, rfl, rfl, rfl, rfl, rfl⟩⟩
noncomputable def c20 : Code := Tryz.f20.body.getD .skip
theorem GX : Tryz.f20.body = some c20 := by
  unfold c20
  rfl
theorem Jn (x0 x1 : Value) : Frame.enter Tryz.prog 20 #[x0, x1] .normal = (Go.Conc.base 20).at ⟨#[x0, x1, undef, undef, undef, undef, undef, undef, undef, undef, undef, undef, undef, undef, undef, undef], []⟩ [.code c20] := by
  have h := enter_at (P := Tryz.prog) #[x0, x1] Tryz.func20 GX
  rw [show Tryz.f20.ntmps = 16 from rfl] at h
  rw [h]
  walk_nrm
theorem SE {K : Machine → Trace → Prop} {pb pq : Int → Int → ByteArray} (mK : uA pb pq) {w : World} {bc : Nat} {gv sv : Value} {q : List cB} {n sz : Nat} {B : Nat → Nat → Nat} {F : Nat → Nat → Rp} (h : CS w bc gv sv q n sz B F) (hn : n ≤ 4) (hs : sz ≤ 5) {g i : Nat} (hg : g < n) (hi : i < sz) (hf : Fr (F g i)) {cF : Frame} {cs : List Frame}
    (hk : ∀ w4 dR m ob, CS w4 bc gv dR ((q ++ (lT g i g sz).map (lL (F g i) (pb ((F g i).jr sz m).bn ((F g i).jr sz m).bi))).take 20000) n sz B (upd F g i { (F g i).jr sz m with wn := ((F g i).jr sz m).bn, wi := ((F g i).jr sz m).bi, ob := ob }) → GS (CA n sz bc B sv) w w4 → Ay w sv dR → XR Tryz.prog K (G (cF.finish (.int .i64 0)) cs) w4) :
    XR Tryz.prog K (G (Frame.enter Tryz.prog 20 #[.pointer (some ⟨bc, 0, none⟩), .agg #[.int .u8 g, .int .u8 i]] .normal) (cF :: cs)) w := by
  have hX : Shut Tryz.prog true qd (XR Tryz.prog K) := jc
  rw [Jn]
  simp only [c20, Tryz.f20, Option.getD]
  refine xw ?_
  refine Shut.cK hX rfl rfl xB xO (ob := .cells #[.int .u8 g, .int .u8 i] 66) (v := fun b => .pointer (some ⟨b, 0, none⟩)) (fun w1 _ => by go_simp <;> rfl) (fun w1 b1 hb1 g1 l1 => ?_)
  refine xn ?_
  refine xw ?_
  refine Shut.dF hX rfl rfl xB rfl rfl hb1 (by kernel_rfl) [.int .u8 g, .int .u8 i] (by kernel_rfl) (Nat.le_of_ble_eq_true rfl) rfl ?_
  refine xn ?_
  refine xw ?_
  have h1 := h.ek g1
  refine Shut.bQ hX rfl rfl xB rfl Tryz.func58 (by kernel_rfl) (by rw [lK]; rfl) (fZ w1 bc n sz g i gv sv (.pointer (some ⟨B g i, 0, none⟩)) h1.fJ (h1.gv (by omega) (by omega)) hn hs (by omega) (by omega) (.inr (.inr ⟨hg, hi, B g i, rfl, h1.ptr g i hg hi⟩))) xk ?_
  rintro v w2 ⟨rfl, g2⟩
  refine xm ?_
  refine xw ?_
  have h2 := h1.ek g2
  have hR := h.rep g i hg hi
  have eg := hR.g
  have ei := hR.i
  refine aj.call hX.c rfl rfl (by decide) rfl Tryz.func59 (by kernel_rfl) (by rw [Gv]; rfl) ?_
  refine xm ?_
  refine Jm h2 hg hi Tryz.func60 (by kernel_rfl) (by rw [MW]; rfl) (Q := fun r3 ps => ∃ m ob, r3 = { (F g i).jr sz m with ob := ob } ∧ ps = (lT g i g sz).map (lL (F g i) (pb ((F g i).jr sz m).bn ((F g i).jr sz m).bi))) (fun w3 g3 => ?_) (fun w4 dR r3 ps hQ hc hG hV => ?_)
  · refine aX.mono (KI pb mK.Xg (F g i) w3 (B g i) g i n sz ((h2.ek g3).rep g i hg hi) hf hn hg hi hs) ?_
    rintro v w4 ⟨rfl, r', m, ob, rfl, hW⟩
    rw [eg, ei] at hW
    refine ⟨_, _, hW, M7 _ _ _ _, ?_, m, ob, rfl, rfl⟩
    have := zm g i g sz
    rw [List.length_map]
    omega
  · obtain ⟨m, ob, rfl, rfl⟩ := hQ
    rw [Frame.finish_at]
    refine xm ?_
    refine xw ?_
    refine xg ?_
    refine aj.ret hX.c ?_
    refine Shut.back hX (cu rfl Tryz.func20 rfl) (hk w4 dR m _ hc (((GS.refl _ w).ek (g1.trans g2)).trans hG) (hV.later (g1.trans g2)))
theorem SF (w : World) (bc n sz g i : Nat) (gv sv : Value) (hc : w.heap[bc]? = some (.cells #[gv, sv] 131)) (hgv : ∃ a c, gv = .slice a n c) (hn : n ≤ 4) (hs : sz ≤ 5) (_hg8 : g < 256) (_hi8 : i < 256) (hcase : n ≤ g ∨ (g < n ∧ sz ≤ i ∧ ∃ br, Ptr w gv n sz g 0 br)) :
    aX Tryz.prog 20 #[.pointer (some ⟨bc, 0, none⟩), .agg #[.int .u8 g, .int .u8 i]] w (fun v w' => v = .int .i64 6 ∧ GB none w w') := by
  intro main D X cs hX hk
  rw [Jn]
  simp only [c20, Tryz.f20, Option.getD]
  refine xw ?_
  refine Shut.cK hX rfl rfl xB xO (ob := .cells #[.int .u8 g, .int .u8 i] 66) (v := fun b => .pointer (some ⟨b, 0, none⟩)) (fun w1 _ => by go_simp <;> rfl) (fun w1 b1 hb1 g1 l1 => ?_)
  refine xn ?_
  refine xw ?_
  refine Shut.dF hX rfl rfl xB rfl rfl hb1 (by kernel_rfl) [.int .u8 g, .int .u8 i] (by kernel_rfl) (Nat.le_of_ble_eq_true rfl) rfl ?_
  refine xn ?_
  refine xw ?_
  refine Shut.bQ hX rfl rfl xB rfl Tryz.func58 (by kernel_rfl) (by rw [lK]; rfl) (fZ w1 bc n sz g i gv sv (.pointer none) (g1.get hc nofun) hgv hn hs (by omega) (by omega) (hcase.elim (fun h => .inl ⟨h, rfl⟩) fun ⟨h1, h2, br, h3⟩ => .inr (.inl ⟨h1, h2, rfl, br, h3.gb g1⟩))) xk ?_
  rintro v w2 ⟨rfl, g2⟩
  refine xm ?_
  refine xw ?_
  refine xg ?_
  refine aj.ret hX.c ?_
  exact hk _ _ _ rfl (cu rfl Tryz.func20 rfl) ⟨rfl, g1.trans g2⟩
end
end Go.Proofs.YtignemioillaiaaGreat
