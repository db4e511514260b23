/- writeDown, crowds, raise, countPromise, lead, campaign. -/
import Derived.Test.YtignemioillaiaaGreatG33
namespace Go.Proofs.YtignemioillaiaaGreat
set_option maxHeartbeats 8000000
set_option maxRecDepth 100000
section
open Go Go.Conc Go.RowKit
theorem Sw (x : Value) : (#[x] ++ Array.replicate (Tryz.f155.ntmps - (#[x] : Array Value).size) undef : Array Value) = #[x, undef, undef, undef, undef, undef, undef, undef, undef, undef, undef, undef, undef, undef, undef, undef, undef, undef, undef, undef, undef, undef] := by
  rw [show Tryz.f155.ntmps = 22 from rfl]
  walk_nrm
theorem MS (r : Rp) (w : World) (br : Nat) (hB : r.At w br) (e : r.Es w) (Post : Act → World → Prop) (hP : ∀ a w', Rp.At { r with wn := r.bn, wi := r.bi } w' br → GB (some br) w w' → Post a w') :
    QD Tryz.prog 155 (Tryz.f155.body.getD .skip) { tmps := #[.pointer (some ⟨br, 0, none⟩)] ++ Array.replicate (Tryz.f155.ntmps - (#[.pointer (some ⟨br, 0, none⟩)] : Array Value).size) undef, defers := [] } w Post := by
  intro main D X b cs hX hf hkd hk
  rw [Sw]
  simp only [Tryz.f155, Option.getD]
  refine xw ?_
  refine Shut.dF hX rfl rfl xB rfl rfl hB (by kernel_rfl) [.int .u32 r.bn, .int .u8 r.bi] (by kernel_rfl) (Nat.le_of_ble_eq_true rfl) rfl ?_
  refine xn ?_
  refine xw ?_
  refine Shut.df hX rfl rfl xB _ rfl rfl (v := .agg #[.int .u32 r.bn, .int .u8 r.bi]) rfl hB (by kernel_rfl) rfl (Nat.le_of_ble_eq_true rfl) (Rp.cells { r with wn := r.bn, wi := r.bi }) rfl (fun w1 hB1 o1 => ?_)
  refine xn ?_
  refine xw ?_
  refine xg ?_
  refine Shut.drawn hX xB (by kernel_rfl) (bR br (.cells (Rp.cells { r with wn := r.bn, wi := r.bi }).toArray 152)) 10 ?_ bR.same
  show AnyX _ _ _ _ _ _ _ _ 11 #[false, false, false, false, false, false, false, false, false, false, false] _ _
  refine AnyX.take hX bR.same 0 rfl (by decide) xK xK xK xY hB1 ?_
  refine xn ?_
  refine AnyX.take hX bR.same 1 rfl (by decide) xK xK xK xY hB1 ?_
  refine xn ?_
  refine AnyX.take hX bR.same 2 rfl (by decide) xK xK xK xY hB1 ?_
  refine xn ?_
  refine AnyX.take hX bR.same 3 rfl (by decide) xK xK xK xY hB1 ?_
  refine xn ?_
  refine AnyX.fu hX bR.same 4 rfl rfl xK xK xK (by kernel_rfl) (.inl ⟨rfl, bZ rfl, fun _ h => fe rfl rfl h (by kernel_rfl) (v := .map (some r.wm)) rfl⟩) hB1 ?_
  refine xn ?_
  refine AnyX.take hX bR.same 5 rfl (by decide) xK xK xK xY hB1 ?_
  refine xn ?_
  refine AnyX.take hX bR.same 6 rfl (by decide) xK xK xK xY hB1 ?_
  refine xn ?_
  refine AnyX.take hX bR.same 7 rfl (by decide) xK xK xK xY hB1 ?_
  refine xn ?_
  refine AnyX.take hX bR.same 8 rfl (by decide) xK xK xK xY hB1 ?_
  refine xn ?_
  refine AnyX.fu hX bR.same 9 rfl rfl xK xK xK (by kernel_rfl) (.inl ⟨rfl, bZ rfl, fun _ h => fe rfl rfl h (by kernel_rfl) (v := .map (some r.vm)) rfl⟩) hB1 ?_
  refine xn ?_
  refine AnyX.one 10 (by kernel_rfl) ?_
  refine dL.bQ rfl rfl rfl Tryz.func112 (by kernel_rfl) (by rw [zi]; rfl) (Br w1 r.wm r.vm (e.1.gb (GB.only o1) hB)) xk ?_
  rintro v w2 ⟨rfl, g2⟩
  refine ⟨fun h => (by cases h), AnyX.done (by kernel_rfl) ?_⟩
  refine xm ?_
  refine xg ?_
  refine aj.fin hX.c ?_
  exact hk _ _ _ rfl (hP _ _ (g2.get hB1 nofun) ((GB.only o1).trans g2.weak))
noncomputable def KE : Code := Tryz.f186.body.getD .skip
theorem I6 : Tryz.f186.body = some KE := by
  unfold KE
  rfl
theorem Pp (x0 x1 : Value) : Frame.enter Tryz.prog 186 #[x0, x1] .normal = (Go.Conc.base 186).at ⟨#[x0, x1, undef, undef, undef, undef, undef, undef, undef], []⟩ [.code KE] := by
  have h := enter_at (P := Tryz.prog) #[x0, x1] Tryz.func186 I6
  rw [show Tryz.f186.ntmps = 9 from rfl] at h
  rw [h]
  walk_nrm
noncomputable def KF : Code := Tryz.f187.body.getD .skip
theorem I7 : Tryz.f187.body = some KF := by
  unfold KF
  rfl
theorem Pq (x0 x1 : Value) : Frame.enter Tryz.prog 187 #[x0, x1] .normal = (Go.Conc.base 187).at ⟨#[x0, x1, undef, undef, undef, undef, undef, undef, undef, undef], []⟩ [.code KF] := by
  have h := enter_at (P := Tryz.prog) #[x0, x1] Tryz.func187 I7
  rw [show Tryz.f187.ntmps = 10 from rfl] at h
  rw [h]
  walk_nrm
noncomputable def c210 : Code := Tryz.f210.body.getD .skip
theorem I8 : Tryz.f210.body = some c210 := by
  unfold c210
  rfl
theorem Ps (x0 : Value) : Frame.enter Tryz.prog 210 #[x0] .normal = (Go.Conc.base 210).at ⟨#[x0, undef, undef, undef, undef, undef], []⟩ [.code c210] := by
  have h := enter_at (P := Tryz.prog) #[x0] Tryz.func210 I8
  rw [show Tryz.f210.ntmps = 6 from rfl] at h
  rw [h]
  walk_nrm
def QO (m : Int) : Prop := m = 1 ∨ m = 2 ∨ m = 4 ∨ m = 8 ∨ m = 16
theorem Pt (w : World) (i : Nat) (_hi : i < 5) : aX Tryz.prog 186 #[.int .u8 0, .int .u8 i] w (fun v w' => (∃ m, v = .int .u8 m ∧ QO m) ∧ GB none w w') := by
  intro main D X cs hX hk
  rw [Pp]
  simp only [KE, Tryz.f186, Option.getD]
  obtain rfl | rfl | rfl | rfl | rfl : i = 0 ∨ i = 1 ∨ i = 2 ∨ i = 3 ∨ i = 4 := by omega
  all_goals
    refine xw ?_
    refine xg ?_
    refine aj.ret hX.c ?_
    exact hk _ _ _ rfl (cu rfl Tryz.func186 rfl) ⟨⟨_, rfl, by unfold QO; decide⟩, GB.refl _ _⟩
theorem Pv (w : World) (m : Int) (hm : QO m) : aX Tryz.prog 210 #[.int .u8 m] w (fun v w' => v = .int .i64 1 ∧ GB none w w') := by
  intro main D X cs hX hk
  rw [Ps]
  simp only [c210, Tryz.f210, Option.getD]
  rcases hm with rfl | rfl | rfl | rfl | rfl
  all_goals
    refine xg ?_
    refine aj.region hX.c _ rfl ?_
    refine xr ?_
    refine aj.quiet hX.c rfl rfl xB _ (fun _ => by go_simp <;> rfl) (fun _ => by simp [go_sem, *]) ?_
    refine xm ?_
    refine xg ?_
    refine aj.region hX.c _ rfl ?_
    refine xr ?_
    refine aj.quiet hX.c rfl rfl xB _ (fun _ => by go_simp <;> rfl) (fun _ => by simp [go_sem, *]) ?_
    refine xm ?_
    refine Shut.still hX rfl rfl (by decide) xO (.int .u8 1) (fun _ _ => by kernel_rfl) ?_
    refine xm ?_
    refine xw ?_
    refine xg ?_
    refine aj.ret hX.c ?_
    exact hk _ _ _ rfl (cu rfl Tryz.func210 rfl) ⟨rfl, GB.refl _ _⟩
theorem Pw (w : World) (m : Int) (sz : Nat) (hm : QO m) : aX Tryz.prog 187 #[.int .u8 m, .int .i64 sz] w (fun v w' => v = .bool (decide (sz < 2)) ∧ GB none w w') := by
  intro main D X cs hX hk
  rw [Pq]
  simp only [KF, Tryz.f187, Option.getD]
  refine xw ?_
  refine Shut.bQ hX rfl rfl xB rfl Tryz.func210 (by kernel_rfl) (by rw [I8]; rfl) (Pv w m hm) xk ?_
  rintro v w1 ⟨rfl, g1⟩
  refine xm ?_
  refine xw ?_
  refine xg ?_
  refine aj.ret hX.c ?_
  refine hk _ _ _ rfl (cu rfl Tryz.func187 rfl) ⟨?_, g1⟩
  show Value.bool _ = _
  congr 1
  simp only [decide_eq_decide]
  rw [IntKind.wrap_i64]
  omega
noncomputable def c156 : Code := Tryz.f156.body.getD .skip
theorem I9 : Tryz.f156.body = some c156 := by
  unfold c156
  rfl
theorem Px (x0 : Value) : Frame.enter Tryz.prog 156 #[x0] .normal = (Go.Conc.base 156).at ⟨#[x0, undef, undef, undef, undef, undef, undef, undef, undef, undef, undef, undef, undef, undef, undef, undef, undef, undef, undef, undef, undef, undef, undef, undef, undef, undef, undef, undef, undef, undef, undef, undef, undef, undef], []⟩ [.code c156] := by
  have h := enter_at (P := Tryz.prog) #[x0] Tryz.func156 I9
  rw [show Tryz.f156.ntmps = 34 from rfl] at h
  rw [h]
  walk_nrm
theorem MU (r : Rp) (w : World) (br : Nat) (hB : r.At w br) (sz : Nat) (hsz : r.sz = sz) (hsn : r.sn = 0) :
    aX Tryz.prog 156 #[.pointer (some ⟨br, 0, none⟩)] w (fun v w' => v = .bool true ∧ GB (some br) w w' ∧ Rp.At (if sz = 1 then r else { r with sn := 1, bn := 1, bi := r.i }) w' br) := by
  intro main D X cs hX hk
  rw [Px]
  simp only [c156, Tryz.f156, Option.getD]
  refine xw ?_
  refine Shut.bY hX rfl rfl xB rfl rfl hB (by kernel_rfl) (v := .int .i64 r.sz) rfl ?_
  refine xn ?_
  rw [hsz]
  by_cases h1 : sz = 1
  · subst h1
    refine xw ?_
    refine xg ?_
    refine aj.ret hX.c ?_
    exact hk _ _ _ rfl (cu rfl Tryz.func156 rfl) ⟨rfl, GB.refl _ _, hB⟩
  · have h1' : ¬ (sz : Int) = 1 := by omega
    have YV : ((sz : Int) == 1) = false := by simp [h1']
    refine xw ?_
    trace_state
    refine Shut.bY hX rfl rfl xB rfl rfl hB (by kernel_rfl) (v := .int .u32 r.sn) rfl ?_
    refine xn ?_
    rw [hsn]
    refine xw ?_
    refine Shut.bY hX rfl rfl xB rfl rfl hB (by kernel_rfl) (v := .int .u32 r.sn) rfl ?_
    refine xn ?_
    rw [hsn]
    refine xw ?_
    refine Shut.df hX rfl rfl xB _ rfl rfl (v := .int .u32 1) rfl hB (by kernel_rfl) rfl (Nat.le_of_ble_eq_true rfl) (Rp.cells { r with sn := 1 }) rfl (fun w1 hB1 o1 => ?_)
    refine xn ?_
    refine xw ?_
    refine xg ?_
    refine Shut.drawn hX xB (by kernel_rfl) (bR br (.cells (Rp.cells { r with sn := 1 }).toArray 152)) 14 ?_ bR.same
    show AnyX _ _ _ _ _ _ _ _ 15 #[false, false, false, false, false, false, false, false, false, false, false, false, false, false, false] _ _
    refine AnyX.take hX bR.same 0 rfl (by decide) xK xK xK xY hB1 ?_
    refine xn ?_
    refine AnyX.take hX bR.same 1 rfl (by decide) xK xK xK xY hB1 ?_
    refine xn ?_
    refine AnyX.take hX bR.same 2 rfl (by decide) xK xK xK xY hB1 ?_
    refine xn ?_
    refine AnyX.take hX bR.same 3 rfl (by decide) xK xK xK xY hB1 ?_
    refine xn ?_
    refine AnyX.fu hX bR.same 4 rfl rfl xK xK xK (by kernel_rfl) (.inl ⟨rfl, bZ rfl, fun _ h => fe rfl rfl h (by kernel_rfl) (v := .int .u32 1) rfl⟩) hB1 ?_
    refine xn ?_
    refine AnyX.take hX bR.same 5 rfl (by decide) xK xK xK xY hB1 ?_
    refine xn ?_
    refine AnyX.take hX bR.same 6 rfl (by decide) xK xK xK xY hB1 ?_
    refine xn ?_
    refine AnyX.take hX bR.same 7 rfl (by decide) xK xK xK xY hB1 ?_
    refine xn ?_
    refine AnyX.take hX bR.same 8 rfl (by decide) xK xK xK xY hB1 ?_
    refine xn ?_
    refine AnyX.fu hX bR.same 9 rfl rfl xK xK xK (by kernel_rfl) (.inl ⟨rfl, bZ rfl, fun _ h => fe rfl rfl h (by kernel_rfl) (v := .int .u8 r.i) rfl⟩) hB1 ?_
    refine xn ?_
    refine AnyX.take hX bR.same 10 rfl (by decide) xK xK xK xY hB1 ?_
    refine xn ?_
    refine AnyX.take hX bR.same 11 rfl (by decide) xK xK xK xY hB1 ?_
    refine xn ?_
    refine AnyX.take hX bR.same 12 rfl (by decide) xK xK xK xY hB1 ?_
    refine xn ?_
    refine AnyX.take hX bR.same 13 rfl (by decide) xK xK xK xY hB1 ?_
    refine xn ?_
    refine AnyX.one 14 (by kernel_rfl) ?_
    refine dL.df rfl rfl _ rfl rfl (v := .agg #[.int .u32 1, .int .u8 r.i]) rfl hB1 (by kernel_rfl) rfl (Nat.le_of_ble_eq_true rfl) (Rp.cells { r with sn := 1, bn := 1, bi := r.i }) rfl (fun w2 w3 hs hB3 o3 => ?_)
    refine xn ?_
    refine ⟨fun h => (by cases h), AnyX.done (by kernel_rfl) ?_⟩
    refine xw ?_
    refine xg ?_
    refine aj.ret hX.c ?_
    refine hk _ _ _ rfl (cu rfl Tryz.func156 rfl) ⟨rfl, ((GB.only o1).same hs).trans (GB.only o3), ?_⟩
    rw [if_neg h1]
    exact hB3
noncomputable def KG : Code := Tryz.f188.body.getD .skip
theorem Ja : Tryz.f188.body = some KG := by
  unfold KG
  rfl
theorem Py (x0 : Value) : Frame.enter Tryz.prog 188 #[x0] .normal = (Go.Conc.base 188).at ⟨#[x0, undef, undef, undef, undef, undef, undef, undef, undef, undef, undef, undef, undef, undef, undef, undef, undef, undef, undef, undef, undef, undef, undef, undef, undef, undef, undef, undef, undef, undef, undef, undef, undef, undef, undef, undef, undef, undef, undef, undef, undef, undef, undef, undef, undef, undef, undef, undef, undef, undef, undef, undef, undef, undef, undef, undef, undef, undef, undef, undef, undef, undef, undef, undef, undef, undef, undef, undef, undef, undef, undef, undef, undef, undef, undef, undef], []⟩ [.code KG] := by
  have h := enter_at (P := Tryz.prog) #[x0] Tryz.func188 Ja
  rw [show Tryz.f188.ntmps = 76 from rfl] at h
  rw [h]
  walk_nrm
theorem Pz (r : Rp) (w : World) (br : Nat) (hB : r.At w br) (e : r.Es w) (Jb : r.lg = .slice none 0 0) :
    aX Tryz.prog 188 #[.pointer (some ⟨br, 0, none⟩)] w (fun v w' => v = .tuple #[] ∧ GB (some br) w w' ∧ Rp.At { r with ro := 2, nx := 0 } w' br) := by
  intro main D X cs hX hk
  rw [Py]
  simp only [KG, Tryz.f188, Option.getD]
  refine xw ?_
  refine Shut.df hX rfl rfl xB _ rfl rfl (v := .int .i64 2) rfl hB (by kernel_rfl) rfl (Nat.le_of_ble_eq_true rfl) (Rp.cells { r with ro := 2 }) rfl (fun w1 hB1 o1 => ?_)
  refine xn ?_
  refine xw ?_
  refine Shut.bY hX rfl rfl xB rfl rfl hB1 (by kernel_rfl) (v := r.lg) rfl ?_
  refine xn ?_
  rw [Jb]
  refine xw ?_
  refine Shut.df hX rfl rfl xB _ rfl rfl (v := .int .u32 0) rfl hB1 (by kernel_rfl) rfl (Nat.le_of_ble_eq_true rfl) (Rp.cells { r with ro := 2, nx := 0 }) rfl (fun w2 hB2 o2 => ?_)
  refine xn ?_
  have g2 : GB (some br) w w2 := (GB.only o1).trans (GB.only o2)
  have e2 := e.gb g2 hB
  refine xw ?_
  refine Shut.bY hX rfl rfl xB rfl rfl hB2 (by kernel_rfl) (v := .map (some r.mt)) rfl ?_
  refine xn ?_
  refine hX.MH rfl rfl (by decide) rfl rfl Tryz.underlying144 e2.2.2.2.1 ?_
  refine xm ?_
  have hmt : iT (w2.alloc (.mapIter (some r.mt) 0 #[] 0)) r.mt := by unfold iT; rw [alloc_old (dz e2.2.2.2.1)]; exact e2.2.2.2.1
  have hB3 : Rp.At { r with ro := 2, nx := 0 } (w2.alloc (.mapIter (some r.mt) 0 #[] 0)) br := by
    show (w2.alloc _).heap[br]? = _
    rw [alloc_old (dz hB2)]
    exact hB2
  have g3 : GB (some br) w (w2.alloc (.mapIter (some r.mt) 0 #[] 0)) := g2.trans (GB.alloc _ _ _)
  refine xg ?_
  refine aj.region hX.c _ rfl ?_
  refine xr ?_
  refine hX.QI rfl rfl (by decide) rfl rfl (iR _ _) hmt ?_
  refine xm ?_
  refine xw ?_
  refine Shut.bY hX rfl rfl xB rfl rfl hB3 (by kernel_rfl) (v := r.lg) rfl ?_
  refine xn ?_
  rw [Jb]
  refine xw ?_
  refine xg ?_
  refine xw ?_
  refine Shut.bY hX rfl rfl xB rfl rfl hB3 (by kernel_rfl) (v := .int .u32 0) rfl ?_
  refine xn ?_
  refine xw ?_
  refine Shut.bY hX rfl rfl xB rfl rfl hB3 (by kernel_rfl) (v := .map (some r.mt)) rfl ?_
  refine xn ?_
  refine hX.uY rfl rfl (by decide) rfl rfl Tryz.underlying144 hmt ?_
  refine xm ?_
  refine xg ?_
  refine aj.fin hX.c ?_
  exact hk _ _ _ rfl (fA rfl Tryz.func188 rfl) ⟨rfl, g3, hB3⟩
noncomputable def c157 : Code := Tryz.f157.body.getD .skip
theorem Jc : Tryz.f157.body = some c157 := by
  unfold c157
  rfl
theorem PD (x0 x1 : Value) : Frame.enter Tryz.prog 157 #[x0, x1] .normal = (Go.Conc.base 157).at ⟨#[x0, x1, undef, undef, undef, undef, undef, undef, undef, undef, undef, undef, undef, undef, undef, undef, undef, undef, undef, undef, undef, undef, undef, undef], []⟩ [.code c157] := by
  have h := enter_at (P := Tryz.prog) #[x0, x1] Tryz.func157 Jc
  rw [show Tryz.f157.ntmps = 24 from rfl] at h
  rw [h]
  walk_nrm
theorem MV (r : Rp) (w : World) (br : Nat) (hB : r.At w br) (e : r.Es w) (Jb : r.lg = .slice none 0 0) (hpr : r.pr = 0) (i sz : Nat) (hi : i < 5) (hsz : r.sz = sz) :
    aX Tryz.prog 157 #[.pointer (some ⟨br, 0, none⟩), .int .u8 i] w (fun v w' => v = .tuple #[] ∧ GB (some br) w w' ∧ ∃ m, Rp.At (if sz < 2 then { r with pr := m, ro := 2, nx := 0 } else { r with pr := m }) w' br) := by
  intro main D X cs hX hk
  rw [PD]
  simp only [c157, Tryz.f157, Option.getD]
  refine xw ?_
  refine Shut.bY hX rfl rfl xB rfl rfl hB (by kernel_rfl) (v := .int .u8 r.pr) rfl ?_
  refine xn ?_
  rw [hpr]
  refine xw ?_
  refine Shut.bQ hX rfl rfl xB rfl Tryz.func186 (by kernel_rfl) (by rw [I6]; rfl) (Pt w i hi) xk ?_
  rintro v w1 ⟨⟨m, rfl, hm⟩, g1⟩
  refine xm ?_
  refine xw ?_
  refine Shut.df hX rfl rfl xB _ rfl rfl (v := .int .u8 m) rfl (g1.get hB nofun) (by kernel_rfl) rfl (Nat.le_of_ble_eq_true rfl) (Rp.cells { r with pr := m }) rfl (fun w2 hB2 o2 => ?_)
  refine xn ?_
  have g2 : GB (some br) w w2 := g1.weak.trans (GB.only o2)
  refine xw ?_
  refine xg ?_
  refine Shut.drawn hX xB (by kernel_rfl) (bR br (.cells (Rp.cells { r with pr := m }).toArray 152)) 8 ?_ bR.same
  show AnyX _ _ _ _ _ _ _ _ 9 #[false, false, false, false, false, false, false, false, false] _ _
  refine AnyX.take hX bR.same 0 rfl (by decide) xK xK xK xY hB2 ?_
  refine xn ?_
  refine AnyX.take hX bR.same 1 rfl (by decide) xK xK xK xY hB2 ?_
  refine xn ?_
  refine AnyX.take hX bR.same 2 rfl (by decide) xK xK xK xY hB2 ?_
  refine xn ?_
  refine AnyX.fu hX bR.same 3 rfl rfl xK xK xK (by kernel_rfl) (.inl ⟨rfl, bZ rfl, fun _ h => fe rfl rfl h (by kernel_rfl) (v := .int .u8 m) rfl⟩) hB2 ?_
  refine xn ?_
  refine AnyX.take hX bR.same 4 rfl (by decide) xK xK xK xY hB2 ?_
  refine xn ?_
  refine AnyX.take hX bR.same 5 rfl (by decide) xK xK xK xY hB2 ?_
  refine xn ?_
  refine AnyX.take hX bR.same 6 rfl (by decide) xK xK xK xY hB2 ?_
  refine xn ?_
  refine AnyX.fu hX bR.same 7 rfl rfl xK xK xK (by kernel_rfl) (.inl ⟨rfl, bZ rfl, fun _ h => fe rfl rfl h (by kernel_rfl) (v := .int .i64 r.sz) rfl⟩) hB2 ?_
  refine xn ?_
  rw [hsz]
  refine AnyX.one 8 (by kernel_rfl) ?_
  refine dL.bQ rfl rfl rfl Tryz.func187 (by kernel_rfl) (by rw [I7]; rfl) (Pw w2 m sz hm) xk ?_
  rintro v w3 ⟨rfl, g3⟩
  refine ⟨fun h => (by cases h), AnyX.done (by kernel_rfl) ?_⟩
  refine xm ?_
  have hB3 := g3.get hB2 nofun
  have g3' : GB (some br) w w3 := g2.trans g3.weak
  by_cases h2 : sz < 2
  · rw [show decide (sz < 2) = true from decide_eq_true h2]
    refine xw ?_
    refine Shut.bQ hX rfl rfl xB rfl Tryz.func188 (by kernel_rfl) (by rw [Ja]; rfl) (Pz { r with pr := m } w3 br hB3 (e.gb g3' hB) Jb) xk ?_
    rintro v w4 ⟨rfl, g4, hB4⟩
    refine xm ?_
    refine xg ?_
    refine aj.fin hX.c ?_
    refine hk _ _ _ rfl (fA rfl Tryz.func157 rfl) ⟨rfl, g3'.trans g4, m, ?_⟩
    rw [if_pos h2]
    exact hB4
  · rw [show decide (sz < 2) = false from decide_eq_false h2]
    refine xw ?_
    refine xg ?_
    refine aj.fin hX.c ?_
    refine hk _ _ _ rfl (fA rfl Tryz.func157 rfl) ⟨rfl, g3', m, ?_⟩
    rw [if_neg h2]
    exact hB3
noncomputable def c107 : Code := Tryz.f107.body.getD .skip
theorem Jd : Tryz.f107.body = some c107 := by
  unfold c107
  rfl
theorem PE (x0 : Value) : Frame.enter Tryz.prog 107 #[x0] .normal = (Go.Conc.base 107).at ⟨#[x0, undef, undef, undef, undef, undef, undef, undef, undef, undef, undef, undef, undef, undef, undef, undef, undef, undef, undef, undef, undef, undef, undef, undef, undef], []⟩ [.code c107] := by
  have h := enter_at (P := Tryz.prog) #[x0] Tryz.func107 Jd
  rw [show Tryz.f107.ntmps = 25 from rfl] at h
  rw [h]
  walk_nrm
def Rp.jr (r : Rp) (sz : Nat) (m : Int) : Rp := if sz = 1 then { r with ro := 2, pr := m, nx := 0 } else { r with sn := 1, bn := 1, bi := r.i, ro := 1, pr := m }
theorem PG (r : Rp) (w : World) (br : Nat) (hB : r.At w br) (e : r.Es w) (Jb : r.lg = .slice none 0 0) (hpr : r.pr = 0) (hsn : r.sn = 0) (i sz : Nat) (hi : i < 5) (Yr : r.i = i) (hsz : r.sz = sz) (_hs1 : 1 ≤ sz) :
    aX Tryz.prog 107 #[.pointer (some ⟨br, 0, none⟩)] w (fun v w' => v = .tuple #[] ∧ GB (some br) w w' ∧ ∃ m, Rp.At (r.jr sz m) w' br) := by
  intro main D X cs hX hk
  rw [PE]
  simp only [c107, Tryz.f107, Option.getD]
  refine xw ?_
  refine Shut.bQ hX rfl rfl xB rfl Tryz.func156 (by kernel_rfl) (by rw [I9]; rfl) (MU r w br hB sz hsz hsn) xk ?_
  rintro v w1 ⟨rfl, g1, hB1⟩
  refine xm ?_
  refine xw ?_
  obtain ⟨r1, hr1⟩ : ∃ r1 : Rp, r1 = (if sz = 1 then r else { r with sn := 1, bn := 1, bi := r.i }) := ⟨_, rfl⟩
  rw [← hr1] at hB1
  have f1 : r1.lg = .slice none 0 0 ∧ r1.pr = 0 ∧ r1.i = i ∧ r1.sz = sz ∧ r1.mt = r.mt ∧ r1.vm = r.vm ∧ r1.wm = r.wm ∧ r1.kn = r.kn ∧ r1.pp = r.pp ∧ r1.ac = r.ac := by
    subst hr1
    split <;> exact ⟨Jb, hpr, Yr, hsz, rfl, rfl, rfl, rfl, rfl, rfl⟩
  have e1 : r1.Es w1 := by
    show qo _ _ _ _ _ _ _
    rw [f1.2.2.2.2.1, f1.2.2.2.2.2.1, f1.2.2.2.2.2.2.1, f1.2.2.2.2.2.2.2.1, f1.2.2.2.2.2.2.2.2.1, f1.2.2.2.2.2.2.2.2.2]
    exact e.gb g1 hB
  refine Shut.df hX rfl rfl xB _ rfl rfl (v := .int .i64 1) rfl hB1 (by kernel_rfl) rfl (Nat.le_of_ble_eq_true rfl) (Rp.cells { r1 with ro := 1 }) rfl (fun w2 hB2 o2 => ?_)
  refine xn ?_
  refine xw ?_
  have e2 : r1.Es w2 := e1.gb (GB.only o2) hB1
  refine xg ?_
  refine Shut.drawn hX xB (by kernel_rfl) (bR br (.cells (Rp.cells { r1 with ro := 1 }).toArray 152)) 9 ?_ bR.same
  show AnyX _ _ _ _ _ _ _ _ 10 #[false, false, false, false, false, false, false, false, false, false] _ _
  refine AnyX.take hX bR.same 0 rfl (by decide) xK xK xK xY hB2 ?_
  refine xn ?_
  refine AnyX.take hX bR.same 1 rfl (by decide) xK xK xK xY hB2 ?_
  refine xn ?_
  refine AnyX.take hX bR.same 2 rfl (by decide) xK xK xK xY hB2 ?_
  refine xn ?_
  refine AnyX.fu hX bR.same 3 rfl rfl xK xK xK (by kernel_rfl) (.inl ⟨rfl, bZ rfl, fun _ h => fe rfl rfl h (by kernel_rfl) (v := .map (some r1.mt)) rfl⟩) hB2 ?_
  refine xn ?_
  refine AnyX.take hX bR.same 4 rfl (by decide) xK xK xK xY hB2 ?_
  refine xn ?_
  refine AnyX.take hX bR.same 5 rfl (by decide) xK xK xK xY hB2 ?_
  refine xn ?_
  refine AnyX.take hX bR.same 6 rfl (by decide) xK xK xK xY hB2 ?_
  refine xn ?_
  refine AnyX.take hX bR.same 7 rfl (by decide) xK xK xK xY hB2 ?_
  refine xn ?_
  refine AnyX.fu hX bR.same 8 rfl rfl xK xK xK (by kernel_rfl) (.inl ⟨rfl, bZ rfl, fun _ h => fe rfl rfl h (by kernel_rfl) (v := .map (some r1.vm)) rfl⟩) hB2 ?_
  refine xn ?_
  refine AnyX.one 9 (by kernel_rfl) ?_
  refine dL.bQ rfl rfl rfl Tryz.func112 (by kernel_rfl) (by rw [zi]; rfl) (Br w2 r1.mt r1.vm e2.1) xk ?_
  rintro v w3 ⟨rfl, g3⟩
  refine ⟨fun h => (by cases h), AnyX.done (by kernel_rfl) ?_⟩
  refine xm ?_
  have hB3 := g3.get hB2 nofun
  refine xw ?_
  refine Shut.bY hX rfl rfl xB rfl rfl hB3 (by kernel_rfl) (v := .int .u8 r1.i) rfl ?_
  refine xn ?_
  rw [f1.2.2.1]
  refine xw ?_
  refine Shut.bQ hX rfl rfl xB rfl Tryz.func157 (by kernel_rfl) (by rw [Jc]; rfl) (MV { r1 with ro := 1 } w3 br hB3 (e2.ek g3) f1.1 f1.2.1 i sz hi f1.2.2.2.1) xk ?_
  rintro v w4 ⟨rfl, g4, m, hB4⟩
  refine xm ?_
  refine xg ?_
  refine aj.fin hX.c ?_
  refine hk _ _ _ rfl (fA rfl Tryz.func107 rfl) ⟨rfl, ((g1.trans (GB.only o2)).trans g3.weak).trans g4, m, ?_⟩
  subst hr1
  unfold Rp.jr
  by_cases h1 : sz = 1
  · rw [if_pos (by omega : sz < 2)] at hB4
    rw [if_pos h1] at hB4 ⊢
    exact hB4
  · rw [if_neg (by omega : ¬ sz < 2)] at hB4
    rw [if_neg h1] at hB4 ⊢
    exact hB4
end
end Go.Proofs.YtignemioillaiaaGreat
