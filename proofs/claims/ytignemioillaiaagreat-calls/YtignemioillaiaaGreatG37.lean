/- below, refuse, voteList, takePrepare. -/
import Derived.Test.YtignemioillaiaaGreatG36
namespace Go.Proofs.YtignemioillaiaaGreat
set_option maxHeartbeats 8000000
set_option maxRecDepth 100000
section
open Go Go.Conc Go.RowKit
section
variable {P : Program} {X : Goroutine → World → Prop} {b : Frame} {k : List Item} {cs : List Frame} {ops : Array Oper} {S : World → Prop} {z : Nat}
theorem AnyX.two {n : Nat} {l : Array Bool} {a : Act} {w : World} (i j : Nat) (hr : Region.ready .any ops l = [i, j]) (h1 : dL P ops i (fun a' w' => ((l.setIfInBounds i true).getD z true = false → S w') ∧ AnyX P X b k cs ops S z n (l.setIfInBounds i true) a' w') a w) (h2 : dL P ops j (fun a' w' => ((l.setIfInBounds j true).getD z true = false → S w') ∧ AnyX P X b k cs ops S z n (l.setIfInBounds j true) a' w') a w) : AnyX P X b k cs ops S z (n + 1) l a w :=
  ⟨fun e => (by rw [hr] at e; cases e), fun q hq => (by
    rw [hr] at hq
    simp only [List.mem_cons, List.not_mem_nil, or_false] at hq
    rcases hq with rfl | rfl
    · exact h1
    · exact h2)⟩
end
def uz (an ai bn bi : Int) : Bool := decide (an < bn) || (decide (an = bn) && decide (ai < bi))
noncomputable def c167 : Code := Tryz.f167.body.getD .skip
theorem Jg : Tryz.f167.body = some c167 := by
  unfold c167
  rfl
theorem PK (x0 x1 : Value) : Frame.enter Tryz.prog 167 #[x0, x1] .normal = (Go.Conc.base 167).at ⟨#[x0, x1, undef, undef, undef, undef, undef, undef, undef, undef, undef, undef, undef, undef, undef, undef, undef, undef, undef, undef, undef, undef, undef, undef], []⟩ [.code c167] := by
  have h := enter_at (P := Tryz.prog) #[x0, x1] Tryz.func167 Jg
  rw [show Tryz.f167.ntmps = 24 from rfl] at h
  rw [h]
  walk_nrm
theorem MX (an ai bn bi : Int) (w : World) : aX Tryz.prog 167 #[.agg #[.int .u32 an, .int .u8 ai], .agg #[.int .u32 bn, .int .u8 bi]] w (fun v w' => v = .bool (uz an ai bn bi) ∧ GB none w w') := by
  intro main D X cs hX hk
  rw [PK]
  simp only [c167, Tryz.f167, Option.getD]
  refine xw ?_
  refine Shut.cK hX rfl rfl xB xO (ob := .cells #[.int .u32 an, .int .u8 ai] 143) (v := fun b => .pointer (some ⟨b, 0, none⟩)) (fun w1 _ => by go_simp <;> rfl) (fun w1 b1 hb1 g1 l1 => ?_)
  refine xn ?_
  refine xw ?_
  refine Shut.cK hX rfl rfl xB xO (ob := .cells #[.int .u32 bn, .int .u8 bi] 143) (v := fun b => .pointer (some ⟨b, 0, none⟩)) (fun w1 _ => by go_simp <;> rfl) (fun w2 b2 hb2 g2 l2 => ?_)
  refine xn ?_
  have hb1' := g2.get hb1 nofun
  refine xw ?_
  refine Shut.bY hX rfl rfl xB rfl rfl hb1' (by kernel_rfl) (v := .int .u32 an) rfl ?_
  refine xn ?_
  refine xw ?_
  refine Shut.bY hX rfl rfl xB rfl rfl hb2 (by kernel_rfl) (v := .int .u32 bn) rfl ?_
  refine xn ?_
  by_cases h1 : an < bn
  · refine xw ?_
    refine xg ?_
    refine aj.ret hX.c ?_
    exact hk _ _ _ rfl (cu rfl Tryz.func167 rfl) ⟨by unfold uz; simp [h1], g1.trans g2⟩
  by_cases h2 : an = bn
  · subst h2
    refine xw ?_
    refine Shut.bY hX rfl rfl xB rfl rfl hb1' (by kernel_rfl) (v := .int .u32 an) rfl ?_
    refine xn ?_
    refine xw ?_
    refine Shut.bY hX rfl rfl xB rfl rfl hb2 (by kernel_rfl) (v := .int .u32 an) rfl ?_
    refine xn ?_
    refine xw ?_
    refine Shut.bY hX rfl rfl xB rfl rfl hb1' (by kernel_rfl) (v := .int .u8 ai) rfl ?_
    refine xn ?_
    refine xw ?_
    refine Shut.bY hX rfl rfl xB rfl rfl hb2 (by kernel_rfl) (v := .int .u8 bi) rfl ?_
    refine xn ?_
    by_cases h3 : ai < bi
    · refine xw ?_
      refine xg ?_
      refine aj.ret hX.c ?_
      exact hk _ _ _ rfl (cu rfl Tryz.func167 rfl) ⟨by unfold uz; simp [h3], g1.trans g2⟩
    · refine xw ?_
      refine xg ?_
      refine aj.ret hX.c ?_
      exact hk _ _ _ rfl (cu rfl Tryz.func167 rfl) ⟨by unfold uz; simp [h3], g1.trans g2⟩
  · have h2' : (an == bn) = false := by simp [h2]
    refine xw ?_
    refine Shut.bY hX rfl rfl xB rfl rfl hb1' (by kernel_rfl) (v := .int .u32 an) rfl ?_
    refine xn ?_
    refine xw ?_
    refine Shut.bY hX rfl rfl xB rfl rfl hb2 (by kernel_rfl) (v := .int .u32 bn) rfl ?_
    refine xn ?_
    refine xw ?_
    refine xg ?_
    refine aj.ret hX.c ?_
    exact hk _ _ _ rfl (cu rfl Tryz.func167 rfl) ⟨by unfold uz; simp [h1, h2], g1.trans g2⟩
noncomputable def KJ : Code := Tryz.f165.body.getD .skip
theorem Jh : Tryz.f165.body = some KJ := by
  unfold KJ
  rfl
theorem PL (x0 x1 x2 : Value) : Frame.enter Tryz.prog 165 #[x0, x1, x2] .normal = (Go.Conc.base 165).at ⟨#[x0, x1, x2, undef, undef, undef, undef, undef, undef, undef, undef, undef, undef, undef, undef, undef, undef, undef, undef, undef, undef, undef, undef, undef, undef, undef, undef, undef, undef, undef, undef, undef, undef, undef, undef, undef, undef, undef], []⟩ [.code KJ] := by
  have h := enter_at (P := Tryz.prog) #[x0, x1, x2] Tryz.func165 Jh
  rw [show Tryz.f165.ntmps = 38 from rfl] at h
  rw [h]
  walk_nrm
theorem MZ (r : Rp) (w : World) (br : Nat) (hB : r.At w br) (e : r.Es w) (fg fi bn bi : Int) (hnb : uz bn bi r.bn r.bi = false) (hne : ¬(bn = r.bn ∧ bi = r.bi)) :
    aX Tryz.prog 165 #[.pointer (some ⟨br, 0, none⟩), .agg #[.int .u8 fg, .int .u8 fi], .agg #[.int .u32 bn, .int .u8 bi]] w (fun v w' => v = .bool false ∧ Rp.At { r with bn := bn, bi := bi, ro := 0, pr := 0 } w' br ∧ GB (some br) w w') := by
  intro main D X cs hX hk
  rw [PL]
  simp only [KJ, Tryz.f165, Option.getD]
  refine xw ?_
  refine Shut.cK hX rfl rfl xB xO (ob := .cells #[.int .u8 fg, .int .u8 fi] 66) (v := fun b => .pointer (some ⟨b, 0, none⟩)) (fun w1 _ => by go_simp <;> rfl) (fun w1 b1 hb1 g1 l1 => ?_)
  refine xn ?_
  refine xw ?_
  refine Shut.cK hX rfl rfl xB xO (ob := .cells #[.int .u32 bn, .int .u8 bi] 143) (v := fun b => .pointer (some ⟨b, 0, none⟩)) (fun w1 _ => by go_simp <;> rfl) (fun w2 b2 hb2 g2 l2 => ?_)
  refine xn ?_
  have hB2 := (g1.trans g2).get hB nofun
  have hS : bE b2 (.cells #[.int .u32 bn, .int .u8 bi] 143) br (.cells r.cells.toArray 152) w2 := ⟨hb2, hB2⟩
  refine xw ?_
  refine xg ?_
  refine Shut.drawn hX xB (by kernel_rfl) (bE b2 (.cells #[.int .u32 bn, .int .u8 bi] 143) br (.cells r.cells.toArray 152)) 6 ?_ bE.same
  show AnyX _ _ _ _ _ _ _ _ 7 #[false, false, false, false, false, false, false] _ _
  refine AnyX.fu hX bE.same 0 rfl rfl xK xK xK (by kernel_rfl) (.inl ⟨rfl, bZ rfl, fun _ h => iA rfl rfl h.1 (by kernel_rfl) [.int .u32 bn, .int .u8 bi] (by kernel_rfl) (Nat.le_of_ble_eq_true rfl) rfl⟩) hS ?_
  refine xn ?_
  refine AnyX.take hX bE.same 1 rfl (by decide) xK xK xK xY hS ?_
  refine xn ?_
  refine AnyX.take hX bE.same 2 rfl (by decide) xK xK xK xY hS ?_
  refine xn ?_
  refine AnyX.take hX bE.same 3 rfl (by decide) xK xK xK xY hS ?_
  refine xn ?_
  refine AnyX.take hX bE.same 4 rfl (by decide) xK xK xK xY hS ?_
  refine xn ?_
  refine AnyX.fu hX bE.same 5 rfl rfl xK xK xK (by kernel_rfl) (.inl ⟨rfl, bZ rfl, fun _ h => iA rfl rfl h.2 (by kernel_rfl) [.int .u32 r.bn, .int .u8 r.bi] (by kernel_rfl) (Nat.le_of_ble_eq_true rfl) rfl⟩) hS ?_
  refine xn ?_
  refine AnyX.one 6 (by kernel_rfl) ?_
  refine dL.bQ rfl rfl rfl Tryz.func167 (by kernel_rfl) (by rw [Jg]; rfl) (MX bn bi r.bn r.bi w2) xk ?_
  rintro v w3 ⟨rfl, g3⟩
  refine ⟨fun h => (by cases h), AnyX.done (by kernel_rfl) ?_⟩
  refine xm ?_
  rw [hnb]
  have hb3 := g3.get hb2 nofun
  have hB3 := g3.get hB2 nofun
  have vU : bE b2 (.cells #[.int .u32 bn, .int .u8 bi] 143) br (.cells r.cells.toArray 152) w3 := ⟨hb3, hB3⟩
  refine xw ?_
  refine xg ?_
  refine Shut.drawn hX xB (by kernel_rfl) (bE b2 (.cells #[.int .u32 bn, .int .u8 bi] 143) br (.cells r.cells.toArray 152)) 6 ?_ bE.same
  show AnyX _ _ _ _ _ _ _ _ 7 #[false, false, false, false, false, false, false] _ _
  refine AnyX.fu hX bE.same 0 rfl rfl xK xK xK (by kernel_rfl) (.inl ⟨rfl, bZ rfl, fun _ h => iA rfl rfl h.1 (by kernel_rfl) [.int .u32 bn, .int .u8 bi] (by kernel_rfl) (Nat.le_of_ble_eq_true rfl) rfl⟩) vU ?_
  refine xn ?_
  refine AnyX.take hX bE.same 1 rfl (by decide) xK xK xK xY vU ?_
  refine xn ?_
  refine AnyX.take hX bE.same 2 rfl (by decide) xK xK xK xY vU ?_
  refine xn ?_
  refine AnyX.take hX bE.same 3 rfl (by decide) xK xK xK xY vU ?_
  refine xn ?_
  refine AnyX.take hX bE.same 4 rfl (by decide) xK xK xK xY vU ?_
  refine xn ?_
  refine AnyX.fu hX bE.same 5 rfl rfl xK xK xK (by kernel_rfl) (.inl ⟨rfl, bZ rfl, fun _ h => iA rfl rfl h.2 (by kernel_rfl) [.int .u32 r.bn, .int .u8 r.bi] (by kernel_rfl) (Nat.le_of_ble_eq_true rfl) rfl⟩) vU ?_
  refine xn ?_
  refine AnyX.fin hX 6 rfl rfl xK xK xK xO (.bool true) (fun w => ?_) ?_
  · go_simp
    by_cases e1 : bn = r.bn <;> by_cases e2 : bi = r.bi <;> simp [e1, e2]
    exact hne ⟨e1, e2⟩
  refine xm ?_
  refine xw ?_
  refine Shut.dF hX rfl rfl xB rfl rfl hb3 (by kernel_rfl) [.int .u32 bn, .int .u8 bi] (by kernel_rfl) (Nat.le_of_ble_eq_true rfl) rfl ?_
  refine xn ?_
  refine xw ?_
  refine Shut.df hX rfl rfl xB _ rfl rfl (v := .agg #[.int .u32 bn, .int .u8 bi]) rfl hB3 (by kernel_rfl) rfl (Nat.le_of_ble_eq_true rfl) (Rp.cells { r with bn := bn, bi := bi }) rfl (fun w4 hB4 o4 => ?_)
  refine xn ?_
  refine xw ?_
  have g4 : GB (some br) w w4 := (((g1.trans g2).trans g3).weak).trans (GB.only o4)
  refine Shut.bQ hX rfl rfl xB rfl Tryz.func111 (by kernel_rfl) (by rw [DI]; rfl) (Ur { r with bn := bn, bi := bi } w4 br hB4 (e.gb g4 hB)) xk ?_
  rintro v w5 ⟨rfl, qX, g5⟩
  refine xm ?_
  refine xw ?_
  refine xg ?_
  refine aj.ret hX.c ?_
  exact hk _ _ _ rfl (cu rfl Tryz.func165 rfl) ⟨rfl, qX, g4.trans g5⟩
theorem SA : ∀ w, (zeroValue 196).run Tryz.prog w = .ok (.agg #[.int .u32 0, .int .u32 0, .int .u8 0, .int .u8 0, .int .u8 0, .int .u32 0, .int .u8 0, .int .u64 0, .int .u64 0, .int .u64 0, .int .u8 0, .int .u8 0, .int .u8 0, .int .u32 0, .int .u64 0, .int .u64 0, .slice none 0 0, .slice none 0 0, .int .u8 0, .int .u32 0]) w := by
  intro w
  kernel_rfl
theorem PM (i : Nat) (_h : i < 1000000) : IntKind.u32.wrap ((i : Int) + 1) = ((i + 1 : Nat) : Int) := by simp [IntKind.wrap, IntKind.bits, IntKind.signed]; omega
noncomputable def KL : Code := Tryz.f166.body.getD .skip
theorem DK : Tryz.f166.body = some KL := by
  unfold KL
  rfl
theorem PN (x0 : Value) : Frame.enter Tryz.prog 166 #[x0] .normal = (Go.Conc.base 166).at ⟨#[x0, undef, undef, undef, undef, undef, undef, undef, undef, undef, undef, undef, undef, undef, undef, undef, undef, undef, undef, undef, undef, undef, undef, undef, undef, undef, undef], []⟩ [.code KL] := by
  have h := enter_at (P := Tryz.prog) #[x0] Tryz.func166 DK
  rw [show Tryz.f166.ntmps = 27 from rfl] at h
  rw [h]
  walk_nrm
theorem Eo (r : Rp) (w : World) (br : Nat) (hB : r.At w br) (e : r.Es w) : aX Tryz.prog 166 #[.pointer (some ⟨br, 0, none⟩)] w (fun v w' => v = .slice none 0 0 ∧ GB none w w') := by
  intro main D X cs hX hk
  rw [PN]
  simp only [KL, Tryz.f166, Option.getD]
  refine xw ?_
  refine hX.vN (fun q a w' => ∃ (k : Nat), q = 60 - k ∧ k ≤ 60 ∧ (∃ ys : Nat → Value, a = ⟨#[.pointer (some ⟨br, 0, none⟩), ys 1, ys 2, .slice none 0 0, ys 4, ys 5, ys 6, .int .u32 (k : Nat), ys 8, ys 9, ys 10, ys 11, ys 12, ys 13, ys 14, ys 15, ys 16, ys 17, ys 18, ys 19, ys 20, ys 21, ys 22, ys 23, ys 24, ys 25, ys 26], []⟩) ∧  GB none w w') ?_ ⟨0, rfl, Nat.zero_le _, dM rfl, GB.refl _ _⟩
  rintro q a w1 ⟨k, rfl, hkn, ⟨ys, rfl⟩, g1⟩ hback
  have hB1 := g1.get hB nofun
  refine xg ?_
  by_cases hlt : k < 60
  · have hlt' : (k : Int) < 60 := by omega
    refine xw ?_
    refine Shut.bY hX rfl rfl xB rfl rfl hB1 (by kernel_rfl) (v := .map (some r.vm)) rfl ?_
    refine xn ?_
    refine xw ?_
    refine hX.Sk rfl rfl (by decide) rfl rfl rfl Tryz.underlying144 Tryz.underlying47 SA (e.ek g1).1 ?_
    refine xm ?_
    refine xw ?_
    refine Shut.cK hX rfl rfl xB xO (ob := .cells #[.int .u32 0, .int .u32 0, .int .u8 0, .int .u8 0, .int .u8 0, .int .u32 0, .int .u8 0, .int .u64 0, .int .u64 0, .int .u64 0, .int .u8 0, .int .u8 0, .int .u8 0, .int .u32 0, .int .u64 0, .int .u64 0, .slice none 0 0, .slice none 0 0, .int .u8 0, .int .u32 0] 196) (v := fun b => .pointer (some ⟨b, 0, none⟩)) (fun w1 _ => by go_simp <;> rfl) (fun w2 b2 hb2 g2 l2 => ?_)
    refine xn ?_
    refine xw ?_
    refine Shut.df hX rfl rfl xB _ rfl rfl (v := .agg #[.int .u32 0, .int .u32 0, .int .u8 0, .int .u8 0, .int .u8 0, .int .u32 0, .int .u8 0, .int .u64 0, .int .u64 0, .int .u64 0, .int .u8 0, .int .u8 0, .int .u8 0, .int .u32 0, .int .u64 0, .int .u64 0, .slice none 0 0, .slice none 0 0, .int .u8 0, .int .u32 0]) rfl hb2 (by kernel_rfl) rfl (Nat.le_of_ble_eq_true rfl) [.int .u32 0, .int .u32 0, .int .u8 0, .int .u8 0, .int .u8 0, .int .u32 0, .int .u8 0, .int .u64 0, .int .u64 0, .int .u64 0, .int .u8 0, .int .u8 0, .int .u8 0, .int .u32 0, .int .u64 0, .int .u64 0, .slice none 0 0, .slice none 0 0, .int .u8 0, .int .u32 0] rfl (fun w3 hb3 o3 => ?_)
    refine xn ?_
    refine xw ?_
    rw [PM k (by omega)]
    refine hback _ _ _ ?_ ⟨k + 1, rfl, by omega, dM rfl, g1.trans (g2.fresh (GB.only o3) l2)⟩
    omega
  · have hlt' : ¬ (k : Int) < 60 := by omega
    refine xw ?_
    refine xg ?_
    refine aj.ret hX.c ?_
    exact hk _ _ _ rfl (cu rfl Tryz.func166 rfl) ⟨rfl, g1⟩
end
end Go.Proofs.YtignemioillaiaaGreat
