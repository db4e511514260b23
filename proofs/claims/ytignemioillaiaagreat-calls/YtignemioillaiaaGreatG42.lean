/- ranges.Find, shard.sound: of a group that is begun. -/
import Derived.Test.YtignemioillaiaaGreatG36
namespace Go.Proofs.YtignemioillaiaaGreat
set_option maxHeartbeats 8000000
set_option maxRecDepth 100000
section
open Go Go.Conc Go.RowKit
def AnyS (_ : World) : Prop := True
theorem AnyS.same : ∀ w w', di w w' → AnyS w → AnyS w' := fun _ _ _ _ => trivial
noncomputable def KO : Code := Tryz.f129.body.getD .skip
theorem Jp : Tryz.f129.body = some KO := by
  unfold KO
  rfl
theorem PZ (x0 : Value) : Frame.enter Tryz.prog 129 #[x0] .normal = (Go.Conc.base 129).at ⟨#[x0, undef, undef, undef, undef, undef, undef, undef, undef, undef, undef, undef, undef, undef, undef, undef, undef, undef, undef, undef, undef, undef, undef, undef, undef, undef, undef, undef, undef, undef, undef, undef, undef, undef, undef, undef, undef, undef, undef, undef, undef, undef, undef, undef, undef, undef, undef, undef, undef, undef, undef, undef, undef, undef, undef], []⟩ [.code KO] := by
  have h := enter_at (P := Tryz.prog) #[x0] Tryz.func129 Jp
  rw [show Tryz.f129.ntmps = 55 from rfl] at h
  rw [h]
  walk_nrm
noncomputable def c130 : Code := Tryz.f130.body.getD .skip
theorem Jq : Tryz.f130.body = some c130 := by
  unfold c130
  rfl
theorem P5 (x0 x1 : Value) : Frame.enter Tryz.prog 130 #[x0, x1] .normal = (Go.Conc.base 130).at ⟨#[x0, x1, undef, undef, undef, undef, undef, undef, undef, undef, undef, undef, undef, undef, undef, undef, undef, undef, undef, undef, undef, undef, undef, undef, undef, undef], []⟩ [.code c130] := by
  have h := enter_at (P := Tryz.prog) #[x0, x1] Tryz.func130 Jq
  rw [show Tryz.f130.ntmps = 26 from rfl] at h
  rw [h]
  walk_nrm
noncomputable def c75 : Code := Tryz.f75.body.getD .skip
theorem Na : Tryz.f75.body = some c75 := by
  unfold c75
  rfl
theorem SN (x0 x1 : Value) : Frame.enter Tryz.prog 75 #[x0, x1] .normal = (Go.Conc.base 75).at ⟨#[x0, x1, undef, undef, undef, undef, undef, undef, undef, undef, undef, undef], []⟩ [.code c75] := by
  have h := enter_at (P := Tryz.prog) #[x0, x1] Tryz.func75 Na
  rw [show Tryz.f75.ntmps = 12 from rfl] at h
  rw [h]
  walk_nrm
section
variable {w : World} {bM c : Nat} {cur : Array Value}
theorem Nb (hM : w.heap[bM]? = some (.cells cur 107)) (ht : cur.toList.take 2 = [.int .u64 0, .int .u8 0]) (_hs : 2 ≤ cur.size) :
    aX Tryz.prog 129 #[.slice (some ⟨bM, 0, none⟩) 1 c] w (fun v w' => v = .bool true ∧ GB none w w') := by
  intro main D X cs hX hk
  rw [PZ]
  simp only [KO, Tryz.f129, Option.getD]
  have h0 : cur[0]? = some (.int .u64 0) := by
    have := congrArg (fun l : List Value => l[0]?) ht
    simpa using this
  refine xw ?_
  refine Shut.bY hX rfl rfl xB rfl rfl hM (by kernel_rfl) (v := .int .u64 0) h0 ?_
  refine xn ?_
  refine xw ?_
  refine xg ?_
  refine xw ?_
  refine Shut.dF hX rfl rfl (by decide) rfl rfl hM (by kernel_rfl) [.int .u64 0, .int .u8 0] (by kernel_rfl) (by show 0 + 2 ≤ cur.size; omega) (by rw [List.drop_zero]; exact ht) ?_
  refine xm ?_
  refine xw ?_
  refine Shut.cK hX rfl rfl xB xO (ob := .cells #[.int .u64 0, .int .u8 0] 107) (v := fun b => .pointer (some ⟨b, 0, none⟩)) (fun w1 _ => by go_simp <;> rfl) (fun w1 b1 hb1 g1 l1 => ?_)
  refine xn ?_
  refine xw ?_
  refine Shut.df hX rfl rfl xB _ rfl rfl (v := .agg #[.int .u64 0, .int .u8 0]) rfl hb1 (by kernel_rfl) rfl (Nat.le_of_ble_eq_true rfl) [.int .u64 0, .int .u8 0] rfl (fun w2 hb2 o2 => ?_)
  refine xn ?_
  refine xw ?_
  refine Shut.bY hX rfl rfl xB rfl rfl hb2 (by kernel_rfl) (v := .int .u8 0) rfl ?_
  refine xn ?_
  refine xw ?_
  have hS : AnyS w2 := trivial
  refine xg ?_
  refine Shut.drawn hX xB (by kernel_rfl) AnyS 23 ?_ AnyS.same
  show AnyX _ _ _ _ _ _ _ _ 24 #[false, false, false, false, false, false, false, false, false, false, false, false, false, false, false, false, false, false, false, false, false, false, false, false] _ _
  refine AnyX.take hX AnyS.same 0 rfl (by decide) xK xK xK xY hS ?_
  refine xn ?_
  refine AnyX.take hX AnyS.same 1 rfl (by decide) xK xK xK xY hS ?_
  refine xn ?_
  refine AnyX.take hX AnyS.same 2 rfl (by decide) xK xK xK xY hS ?_
  refine xn ?_
  refine AnyX.take hX AnyS.same 3 rfl (by decide) xK xK xK (v := undef) (.inr ⟨rfl, rfl⟩) hS ?_
  refine xn ?_
  refine AnyX.take hX AnyS.same 4 rfl (by decide) xK xK xK (v := undef) (.inr ⟨rfl, rfl⟩) hS ?_
  refine xn ?_
  refine AnyX.take hX AnyS.same 5 rfl (by decide) xK xK xK (v := undef) (.inr ⟨rfl, rfl⟩) hS ?_
  refine xn ?_
  refine AnyX.take hX AnyS.same 6 rfl (by decide) xK xK xK (v := undef) (.inr ⟨rfl, rfl⟩) hS ?_
  refine xn ?_
  refine AnyX.take hX AnyS.same 7 rfl (by decide) xK xK xK (v := undef) (.inr ⟨rfl, rfl⟩) hS ?_
  refine xn ?_
  refine AnyX.take hX AnyS.same 8 rfl (by decide) xK xK xK (v := undef) (.inr ⟨rfl, rfl⟩) hS ?_
  refine xn ?_
  refine AnyX.take hX AnyS.same 9 rfl (by decide) xK xK xK (v := undef) (.inr ⟨rfl, rfl⟩) hS ?_
  refine xn ?_
  refine AnyX.take hX AnyS.same 10 rfl (by decide) xK xK xK (v := undef) (.inr ⟨rfl, rfl⟩) hS ?_
  refine xn ?_
  refine AnyX.take hX AnyS.same 11 rfl (by decide) xK xK xK (v := undef) (.inr ⟨rfl, rfl⟩) hS ?_
  refine xn ?_
  refine AnyX.take hX AnyS.same 12 rfl (by decide) xK xK xK (v := undef) (.inr ⟨rfl, rfl⟩) hS ?_
  refine xn ?_
  refine AnyX.take hX AnyS.same 13 rfl (by decide) xK xK xK (v := undef) (.inr ⟨rfl, rfl⟩) hS ?_
  refine xn ?_
  refine AnyX.take hX AnyS.same 14 rfl (by decide) xK xK xK (v := undef) (.inr ⟨rfl, rfl⟩) hS ?_
  refine xn ?_
  refine AnyX.take hX AnyS.same 15 rfl (by decide) xK xK xK (v := undef) (.inr ⟨rfl, rfl⟩) hS ?_
  refine xn ?_
  refine AnyX.take hX AnyS.same 16 rfl (by decide) xK xK xK (v := undef) (.inr ⟨rfl, rfl⟩) hS ?_
  refine xn ?_
  refine AnyX.take hX AnyS.same 17 rfl (by decide) xK xK xK (v := undef) (.inr ⟨rfl, rfl⟩) hS ?_
  refine xn ?_
  refine AnyX.take hX AnyS.same 18 rfl (by decide) xK xK xK (v := undef) (.inr ⟨rfl, rfl⟩) hS ?_
  refine xn ?_
  refine AnyX.take hX AnyS.same 19 rfl (by decide) xK xK xK (v := undef) (.inr ⟨rfl, rfl⟩) hS ?_
  refine xn ?_
  refine AnyX.take hX AnyS.same 20 rfl (by decide) xK xK xK (v := undef) (.inr ⟨rfl, rfl⟩) hS ?_
  refine xn ?_
  refine AnyX.take hX AnyS.same 21 rfl (by decide) xK xK xK (v := undef) (.inr ⟨rfl, rfl⟩) hS ?_
  refine xn ?_
  refine AnyX.take hX AnyS.same 22 rfl (by decide) xK xK xK (v := undef) (.inr ⟨rfl, rfl⟩) hS ?_
  refine xn ?_
  refine AnyX.fin hX 23 rfl rfl xK xK xK xO _ (fun _ => by go_simp <;> rfl) ?_
  refine xn ?_
  refine xw ?_
  refine xg ?_
  refine xw ?_
  refine xg ?_
  refine aj.ret hX.c ?_
  exact hk _ _ _ rfl (cu rfl Tryz.func129 rfl) ⟨rfl, g1.fresh (GB.only o2) l1⟩
end
end
end Go.Proofs.YtignemioillaiaaGreat
