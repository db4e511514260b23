/- shard.Apply of a Nop, State, Log: of a group that is begun. -/
import Derived.Test.YtignemioillaiaaGreatG44
import Derived.Test.YtignemioillaiaaGreatG40
namespace Go.Proofs.YtignemioillaiaaGreat
set_option maxHeartbeats 8000000
set_option maxRecDepth 100000
section
open Go Go.Conc Go.RowKit
theorem Nq {P : Program} {f : FuncId} {fn : Func} {a : Act} {todo : List Item} {w : World} {p q : Tmp} {ty t ty' t' : TypeId} {g g' : Nat} {cs cs' : Array Value} {d d' : TypeDesc} (hd : a.defers = []) (hf : P.funcs[f]? = some fn) (hr : fn.results = #[.cell p ty, .cell q ty'])
    (hp : a.tmps.getD p undef = .pointer (some ⟨g, 0, none⟩)) (hg : w.heap[g]? = some (.cells cs t)) (hu : P.underlying ty = some d) (hdd : (match d with | .struct _ | .array _ _ => true | _ => false) = true) (hi : (P.info? ty).map (·.size) = some cs.size)
    (hp' : a.tmps.getD q undef = .pointer (some ⟨g', 0, none⟩)) (hg' : w.heap[g']? = some (.cells cs' t')) (hu' : P.underlying ty' = some d') (Xp : (match d' with | .struct _ | .array _ _ => true | _ => false) = true) (hi' : (P.info? ty').map (·.size) = some cs'.size) :
    ({ (Go.Conc.base f).at a todo with mode := .returning } : Frame).leaving P w (.returned (.tuple #[.agg cs, .agg cs'])) := by
  refine ⟨rfl, hd, rfl, fn, hf, ?_⟩
  have e1 : a.tmps[p]?.getD undef = .pointer (some ⟨g, 0, none⟩) := by simpa using hp
  have e2 : a.tmps[q]?.getD undef = .pointer (some ⟨g', 0, none⟩) := by simpa using hp'
  simp [results, hr, e1, e2, asAddr, Frame.at, run_loadVar_row w g t ty cs (0, 0) d hg hu hdd hi, run_loadVar_row w g' t' ty' cs' (0, 0) d' hg' hu' Xp hi']
def VP : List Value := [.int .u8 0, .int .u8 0, .int .u32 0, .int .u8 0, .int .u64 0, .int .u64 0, .int .u64 0, .int .u8 0, .int .u8 0, .int .u8 0, .int .u32 0, .int .u64 0, .int .u64 0, .slice none 0 0, .slice none 0 0, .int .u8 0, .int .u32 0]
def vg : List Value := [.int .u8 0, .int .u32 0, .int .u64 0, .int .u8 0, .bool false, .int .u64 0, .int .u8 0]
noncomputable def c12 : Code := Tryz.f12.body.getD .skip
theorem Nr : Tryz.f12.body = some c12 := by
  unfold c12
  rfl
theorem Te (x0 x1 : Value) : Frame.enter Tryz.prog 12 #[x0, x1] .normal = (Go.Conc.base 12).at ⟨#[x0, x1, undef, undef, undef, undef, undef, undef, undef, undef, undef, undef, undef, undef, undef, undef, undef, undef, undef, undef, undef, undef, undef, undef, undef, undef, undef, undef, undef, undef, undef, undef, undef, undef, undef, undef], []⟩ [.code c12] := by
  have h := enter_at (P := Tryz.prog) #[x0, x1] Tryz.func12 Nr
  rw [show Tryz.f12.ntmps = 36 from rfl] at h
  rw [h]
  walk_nrm
theorem KT (w : World) (g n bM bO bI : Nat) (hg : g < n) (hn : n ≤ 4) (hM : w.heap[bM]? = some (.cells #[.int .u64 0, .int .u8 0] 107)) (hO : w.heap[bO]? = some (.cells (dQ n n).toArray 103)) (hI : w.heap[bI]? = some (.cells (List.replicate n (Value.int .u32 0)).toArray 47)) :
    aX Tryz.prog 12 #[.agg (eT g n (.slice (some ⟨bM, 0, none⟩) 1 1) (.slice (some ⟨bO, 0, none⟩) n n) (.slice (some ⟨bI, 0, none⟩) n n)).toArray, .agg VP.toArray] w (fun v w' => (∃ sm so si, v = .tuple #[.agg (eT g n sm so si).toArray, .agg vg.toArray] ∧ (eT g n sm so si).all (·.oneCell') = true) ∧ GB none w w') := by
  intro main D X cs hX hk
  rw [Te]
  simp only [c12, Tryz.f12, Option.getD]
  refine xw ?_
  refine Shut.cK hX rfl rfl xB xO (ob := .cells (eT g n (.slice (some ⟨bM, 0, none⟩) 1 1) (.slice (some ⟨bO, 0, none⟩) n n) (.slice (some ⟨bI, 0, none⟩) n n)).toArray 31) (v := fun b => .pointer (some ⟨b, 0, none⟩)) (fun w1 _ => by go_simp <;> rfl) (fun w1 b1 hb1 g1 l1 => ?_)
  refine xn ?_
  refine xw ?_
  refine Shut.cK hX rfl rfl xB xO (ob := .cells VP.toArray 54) (v := fun b => .pointer (some ⟨b, 0, none⟩)) (fun w1 _ => by go_simp <;> rfl) (fun w2 b2 hb2 g2 l2 => ?_)
  refine xn ?_
  refine xw ?_
  refine Shut.cK hX rfl rfl xB xO (ob := .cells (eT 0 0 (.slice none 0 0) (.slice none 0 0) (.slice none 0 0)).toArray 31) (v := fun b => .pointer (some ⟨b, 0, none⟩)) (fun w1 _ => by go_simp <;> rfl) (fun w3 b3 hb3 g3 l3 => ?_)
  refine xn ?_
  refine xw ?_
  refine Shut.cK hX rfl rfl xB xO (ob := .cells vg.toArray 57) (v := fun b => .pointer (some ⟨b, 0, none⟩)) (fun w1 _ => by go_simp <;> rfl) (fun w4 b4 hb4 g4 l4 => ?_)
  refine xn ?_
  refine xw ?_
  refine Shut.dF hX rfl rfl xB rfl rfl (((g2.trans g3).trans g4).get hb1 nofun) (by kernel_rfl) (eT g n (.slice (some ⟨bM, 0, none⟩) 1 1) (.slice (some ⟨bO, 0, none⟩) n n) (.slice (some ⟨bI, 0, none⟩) n n)) (by kernel_rfl) (Nat.le_of_ble_eq_true rfl) rfl ?_
  refine xn ?_
  refine xw ?_
  have Et : GB none w w4 := ((g1.trans g2).trans g3).trans g4
  refine Shut.bQ hX rfl rfl xB rfl Tryz.func42 (by kernel_rfl) (by rw [Nn]; rfl) (Ic w4 g n bM bO bI hn (by omega) (Et.get hM nofun) (Et.get hO nofun) (Et.get hI nofun)) xk ?_
  rintro v w5 ⟨sm, so, si, rfl, hV, g5⟩
  refine xm ?_
  refine xw ?_
  refine Shut.cK hX rfl rfl xB xO (ob := .cells (eT 0 0 (.slice none 0 0) (.slice none 0 0) (.slice none 0 0)).toArray 31) (v := fun b => .pointer (some ⟨b, 0, none⟩)) (fun w1 _ => by go_simp <;> rfl) (fun w6 b6 hb6 g6 l6 => ?_)
  refine xn ?_
  refine xw ?_
  obtain ⟨bN, mc, cur, rfl, kN, htk, hcs⟩ := u7 hV.m (by omega)
  obtain ⟨oa, oc, rfl⟩ := hV.o
  obtain ⟨ia, ic, rfl⟩ := hV.i
  refine Shut.df hX rfl rfl xB _ rfl rfl (v := .agg (eT g n (.slice (some ⟨bN, 0, none⟩) 1 mc) (.slice oa n oc) (.slice ia n ic)).toArray) rfl hb6 (by kernel_rfl) rfl (Nat.le_of_ble_eq_true rfl) (eT g n (.slice (some ⟨bN, 0, none⟩) 1 mc) (.slice oa n oc) (.slice ia n ic)) rfl (fun w7 vV o7 => ?_)
  refine xn ?_
  have UH : GB none w5 w7 := g6.fresh (GB.only o7) l6
  refine xw ?_
  refine Shut.cK hX rfl rfl xB xO (ob := .cells vg.toArray 57) (v := fun b => .pointer (some ⟨b, 0, none⟩)) (fun w1 _ => by go_simp <;> rfl) (fun w8 b8 QL g8 l8 => ?_)
  refine xn ?_
  refine xw ?_
  have KU := g8.get vV nofun
  refine Shut.dF hX rfl rfl xB rfl rfl KU (by kernel_rfl) (eT g n (.slice (some ⟨bN, 0, none⟩) 1 mc) (.slice oa n oc) (.slice ia n ic)) (by kernel_rfl) (Nat.le_of_ble_eq_true rfl) rfl ?_
  refine xn ?_
  refine xw ?_
  refine Shut.bQ hX rfl rfl xB rfl Tryz.func43 (by kernel_rfl) (by rw [Nc]; rfl) (Nf ((UH.trans g8).get kN nofun) htk (by omega) g n hg hn oa ia oc ic) xk ?_
  rintro v w9 ⟨rfl, g9⟩
  refine xm ?_
  refine xw ?_
  have Q6 : GB none w4 w9 := ((g5.trans UH).trans g8).trans g9
  refine Shut.bY hX rfl rfl xB rfl rfl (((g3.trans g4).trans Q6).get hb2 nofun) (by kernel_rfl) (v := .int .u8 0) rfl ?_
  refine xn ?_
  refine xw ?_
  have UI := g9.get KU nofun
  have UJ := g9.get QL nofun
  have Xq := (g4.trans Q6).get hb3 nofun
  have Xr := Q6.get hb4 nofun
  have hS : bE b6 (.cells (eT g n (.slice (some ⟨bN, 0, none⟩) 1 mc) (.slice oa n oc) (.slice ia n ic)).toArray 31) b8 (.cells vg.toArray 57) w9 := ⟨UI, UJ⟩
  refine xg ?_
  refine Shut.drawn hX xB (by kernel_rfl) (bE b6 (.cells (eT g n (.slice (some ⟨bN, 0, none⟩) 1 mc) (.slice oa n oc) (.slice ia n ic)).toArray 31) b8 (.cells vg.toArray 57)) 3 ?_ bE.same
  show AnyX _ _ _ _ _ _ _ _ 4 #[false, false, false, false] _ _
  refine AnyX.fu hX bE.same 0 rfl rfl xK xK xK (by kernel_rfl) (.inl ⟨rfl, bZ rfl, fun _ h => iA rfl rfl h.1 (by kernel_rfl) (eT g n (.slice (some ⟨bN, 0, none⟩) 1 mc) (.slice oa n oc) (.slice ia n ic)) (by kernel_rfl) (Nat.le_of_ble_eq_true rfl) rfl⟩) hS ?_
  refine xn ?_
  refine AnyX.fu hX bE.same 1 rfl rfl xK xK xK (by kernel_rfl) (.inl ⟨rfl, bZ rfl, fun _ h => iA rfl rfl h.2 (by kernel_rfl) vg (by kernel_rfl) (Nat.le_of_ble_eq_true rfl) rfl⟩) hS ?_
  refine xn ?_
  refine AnyX.one 2 (by kernel_rfl) ?_
  refine dL.df rfl rfl _ rfl rfl (v := .agg (eT g n (.slice (some ⟨bN, 0, none⟩) 1 mc) (.slice oa n oc) (.slice ia n ic)).toArray) rfl Xq (by kernel_rfl) rfl (Nat.le_of_ble_eq_true rfl) (eT g n (.slice (some ⟨bN, 0, none⟩) 1 mc) (.slice oa n oc) (.slice ia n ic)) rfl (fun Io Le KV Xt Q7 => ?_)
  refine xn ?_
  refine ⟨fun _ => ⟨(Q7.block _ (fun e => by have := dz (g4.get hb3 nofun); have := g5.size; omega)).trans (by rw [KV.heap]; exact UI), (Q7.block _ (fun e => by have := dz (g4.get hb3 nofun); have := (g5.trans UH).size; omega)).trans (by rw [KV.heap]; exact UJ)⟩, ?_⟩
  refine AnyX.one 3 (by kernel_rfl) ?_
  have hne : b4 ≠ b3 := fun e => by have := dz hb3; omega
  have Vu : Le.heap[b4]? = some (.cells vg.toArray 57) := by
    rw [Q7.block _ hne, KV.heap]
    exact Xr
  refine dL.df rfl rfl _ rfl rfl (v := .agg vg.toArray) rfl Vu (by kernel_rfl) rfl (Nat.le_of_ble_eq_true rfl) vg rfl (fun Np Yz UK Xu VQ => ?_)
  refine xn ?_
  refine ⟨fun h => (by cases h), AnyX.done (by kernel_rfl) ?_⟩
  have Vv : Yz.heap[b3]? = some (.cells (eT g n (.slice (some ⟨bN, 0, none⟩) 1 mc) (.slice oa n oc) (.slice ia n ic)).toArray 31) := by
    rw [VQ.block _ (fun e => hne e.symm), UK.heap]
    exact Xt
  refine xw ?_
  refine xg ?_
  refine aj.ret hX.c ?_
  refine hk _ _ _ rfl (Nq rfl Tryz.func12 rfl rfl Vv Tryz.underlying31 rfl (by kernel_rfl) rfl Xu Tryz.underlying57 rfl (by kernel_rfl)) ⟨⟨_, _, _, rfl, rfl⟩, ?_⟩
  have YA : w.heap.size ≤ b3 := by have := (g1.trans g2).size; omega
  have YB : w.heap.size ≤ b4 := by have := ((g1.trans g2).trans g3).size; omega
  exact ((((Et.trans Q6).same KV).fresh (GB.only Q7) YA).same UK).fresh (GB.only VQ) YB
noncomputable def Ns : Code := Tryz.f26.body.getD .skip
theorem CW : Tryz.f26.body = some Ns := by
  unfold Ns
  rfl
theorem Jt (x0 x1 : Value) : Frame.enter Tryz.prog 26 #[x0, x1] .normal = (Go.Conc.base 26).at ⟨#[x0, x1, undef, undef, undef, undef, undef, undef, undef, undef, undef, undef, undef, undef, undef, undef, undef, undef, undef, undef, undef, undef, undef, undef], []⟩ [.code Ns] := by
  have h := enter_at (P := Tryz.prog) #[x0, x1] Tryz.func26 CW
  rw [show Tryz.f26.ntmps = 24 from rfl] at h
  rw [h]
  walk_nrm
theorem Eu (w : World) (bc n sz g i : Nat) (gv sv : Value) (hc : w.heap[bc]? = some (.cells #[gv, sv] 131)) (hgv : ∃ a c, gv = .slice a n c) (hn : n ≤ 4) (hs : sz ≤ 5) (hg : g < n) (hi : i < sz) (br : Nat) (r : Rp) (hp : Ptr w gv n sz g i br) (hR : RS w br r g i n sz) :
    aX Tryz.prog 26 #[.pointer (some ⟨bc, 0, none⟩), .agg #[.int .u8 g, .int .u8 i]] w (fun v w' => (∃ sm so si, v = .agg (eT g n sm so si).toArray ∧ (eT g n sm so si).all (·.oneCell') = true) ∧ GB none w w') := by
  intro main D X cs hX hk
  rw [Jt]
  simp only [Ns, Tryz.f26, Option.getD]
  obtain ⟨bM, bO, bI, hb⟩ := hR.IQ
  refine xw ?_
  refine Shut.cK hX rfl rfl xB xO (ob := .cells #[.int .u8 g, .int .u8 i] 66) (v := fun b => .pointer (some ⟨b, 0, none⟩)) (fun w1 _ => by go_simp <;> rfl) (fun w1 b1 hb1 g1 l1 => ?_)
  refine xn ?_
  refine xw ?_
  refine Shut.cK hX rfl rfl xB xO (ob := .cells (eT 0 0 (.slice none 0 0) (.slice none 0 0) (.slice none 0 0)).toArray 31) (v := fun b => .pointer (some ⟨b, 0, none⟩)) (fun w1 _ => by go_simp <;> rfl) (fun w2 b2 hb2 g2 l2 => ?_)
  refine xn ?_
  refine xw ?_
  refine Shut.dF hX rfl rfl xB rfl rfl (g2.get hb1 nofun) (by kernel_rfl) [.int .u8 g, .int .u8 i] (by kernel_rfl) (Nat.le_of_ble_eq_true rfl) rfl ?_
  refine xn ?_
  refine xw ?_
  have pJ := g1.trans g2
  refine Shut.bQ hX rfl rfl xB rfl Tryz.func58 (by kernel_rfl) (by rw [lK]; rfl) (fZ w2 bc n sz g i gv sv (.pointer (some ⟨br, 0, none⟩)) (pJ.get hc nofun) hgv hn hs (by omega) (by omega) (.inr (.inr ⟨hg, hi, br, rfl, hp.gb pJ⟩))) xk ?_
  rintro v w3 ⟨rfl, g3⟩
  refine xm ?_
  refine xw ?_
  have vW := pJ.trans g3
  refine Shut.dF hX rfl rfl xB rfl rfl (vW.get hR.mem nofun) (by kernel_rfl) [.int .u8 r.sg, .int .u8 r.mJ, r.sr, r.sm, r.sd, r.so, r.si] (by kernel_rfl) (Nat.le_of_ble_eq_true rfl) rfl ?_
  refine xn ?_
  rw [hb.sg, hR.g, hb.mJ, hb.sr, hb.sm, hb.sd, hb.so, hb.si]
  refine xw ?_
  refine Shut.bQ hX rfl rfl xB rfl Tryz.func12 (by kernel_rfl) (by rw [Nr]; rfl) (KT w3 g n bM bO bI hg hn (vW.get hb.mp nofun) (vW.get hb.out nofun) (vW.get hb.MJ nofun)) xk ?_
  rintro v w4 ⟨⟨sm, so, si, rfl, hone⟩, g4⟩
  refine xm ?_
  refine xw ?_
  refine Shut.cK hX rfl rfl xB xO (ob := .cells (eT 0 0 (.slice none 0 0) (.slice none 0 0) (.slice none 0 0)).toArray 31) (v := fun b => .pointer (some ⟨b, 0, none⟩)) (fun w1 _ => by go_simp <;> rfl) (fun w5 b5 hb5 g5 l5 => ?_)
  refine xn ?_
  refine xw ?_
  refine Shut.cK hX rfl rfl xB xO (ob := .cells vg.toArray 57) (v := fun b => .pointer (some ⟨b, 0, none⟩)) (fun w1 _ => by go_simp <;> rfl) (fun w6 b6 hb6 g6 l6 => ?_)
  refine xn ?_
  refine xw ?_
  refine Shut.df hX rfl rfl (by decide) _ rfl rfl (v := .agg (eT g n sm so si).toArray) rfl (g6.get hb5 nofun) (by kernel_rfl) hone (Nat.le_of_ble_eq_true rfl) (eT g n sm so si) rfl (fun w7 vV o7 => ?_)
  refine xm ?_
  refine xw ?_
  have n65 : b6 ≠ b5 := fun e => by have := dz hb5; omega
  have O5 : w7.heap[b6]? = some (.cells vg.toArray 57) := (o7.block _ n65).trans hb6
  refine Shut.df hX rfl rfl xB _ rfl rfl (v := .agg vg.toArray) rfl O5 (by kernel_rfl) rfl (Nat.le_of_ble_eq_true rfl) vg rfl (fun w8 QL o8 => ?_)
  refine xn ?_
  refine xw ?_
  have KU : w8.heap[b5]? = some (.cells (eT g n sm so si).toArray 31) := (o8.block _ (fun e => n65 e.symm)).trans vV
  refine Shut.dF hX rfl rfl xB rfl rfl KU (by kernel_rfl) (eT g n sm so si) (by kernel_rfl) (Nat.le_of_ble_eq_true rfl) rfl ?_
  refine xn ?_
  refine xw ?_
  have YC : w.heap.size ≤ b5 := by have := (vW.trans g4).size; omega
  have YD : w.heap.size ≤ b6 := by have := ((vW.trans g4).trans g5).size; omega
  have YE : GB none w w8 := (((((vW.trans g4).trans g5).trans g6).fresh (GB.only o7) YC).fresh (GB.only o8) YD)
  have Xv : w8.heap[b2]? = some (.cells (eT 0 0 (.slice none 0 0) (.slice none 0 0) (.slice none 0 0)).toArray 31) := by
    have YF := (((g3.trans g4).trans g5).trans g6).get hb2 nofun
    have hlt := dz ((g3.trans g4).get hb2 nofun)
    rw [o8.block _ (fun e => by have := g5.size; omega), o7.block _ (fun e => by omega)]
    exact YF
  refine Shut.df hX rfl rfl (by decide) _ rfl rfl (v := .agg (eT g n sm so si).toArray) rfl Xv (by kernel_rfl) hone (Nat.le_of_ble_eq_true rfl) (eT g n sm so si) rfl (fun w9 GM o9 => ?_)
  refine xw ?_
  refine xg ?_
  refine aj.ret hX.c ?_
  refine hk _ _ _ rfl (Bv rfl Tryz.func26 rfl rfl GM Tryz.underlying31 rfl (by kernel_rfl)) ⟨⟨_, _, _, rfl, hone⟩, YE.fresh (GB.only o9) (by have := g1.size; omega)⟩
theorem Qh (w : World) (bc n sz g i : Nat) (gv sv : Value) (hc : w.heap[bc]? = some (.cells #[gv, sv] 131)) (hgv : ∃ a c, gv = .slice a n c) (hn : n ≤ 4) (hs : sz ≤ 5) (_hg8 : g < 256) (_hi8 : i < 256) (hcase : n ≤ g ∨ (g < n ∧ sz ≤ i ∧ ∃ br, Ptr w gv n sz g 0 br)) :
    aX Tryz.prog 26 #[.pointer (some ⟨bc, 0, none⟩), .agg #[.int .u8 g, .int .u8 i]] w (fun v w' => v = .agg (eT 0 0 (.slice none 0 0) (.slice none 0 0) (.slice none 0 0)).toArray ∧ GB none w w') := by
  intro main D X cs hX hk
  rw [Jt]
  simp only [Ns, Tryz.f26, Option.getD]
  refine xw ?_
  refine Shut.cK hX rfl rfl xB xO (ob := .cells #[.int .u8 g, .int .u8 i] 66) (v := fun b => .pointer (some ⟨b, 0, none⟩)) (fun w1 _ => by go_simp <;> rfl) (fun w1 b1 hb1 g1 l1 => ?_)
  refine xn ?_
  refine xw ?_
  refine Shut.cK hX rfl rfl xB xO (ob := .cells (eT 0 0 (.slice none 0 0) (.slice none 0 0) (.slice none 0 0)).toArray 31) (v := fun b => .pointer (some ⟨b, 0, none⟩)) (fun w1 _ => by go_simp <;> rfl) (fun w2 b2 hb2 g2 l2 => ?_)
  refine xn ?_
  refine xw ?_
  refine Shut.dF hX rfl rfl xB rfl rfl (g2.get hb1 nofun) (by kernel_rfl) [.int .u8 g, .int .u8 i] (by kernel_rfl) (Nat.le_of_ble_eq_true rfl) rfl ?_
  refine xn ?_
  refine xw ?_
  have pJ := g1.trans g2
  refine Shut.bQ hX rfl rfl xB rfl Tryz.func58 (by kernel_rfl) (by rw [lK]; rfl) (fZ w2 bc n sz g i gv sv (.pointer none) (pJ.get hc nofun) hgv hn hs (by omega) (by omega) (hcase.elim (fun h => .inl ⟨h, rfl⟩) fun ⟨h1, h2, br, h3⟩ => .inr (.inl ⟨h1, h2, rfl, br, h3.gb pJ⟩))) xk ?_
  rintro v w3 ⟨rfl, g3⟩
  refine xm ?_
  refine xw ?_
  refine Shut.df hX rfl rfl xB _ rfl rfl (v := .agg (eT 0 0 (.slice none 0 0) (.slice none 0 0) (.slice none 0 0)).toArray) rfl (g3.get hb2 nofun) (by kernel_rfl) rfl (Nat.le_of_ble_eq_true rfl) (eT 0 0 (.slice none 0 0) (.slice none 0 0) (.slice none 0 0)) rfl (fun w4 hb4 o4 => ?_)
  refine xn ?_
  refine xw ?_
  refine xg ?_
  refine aj.ret hX.c ?_
  exact hk _ _ _ rfl (Bv rfl Tryz.func26 rfl rfl hb4 Tryz.underlying31 rfl (by kernel_rfl)) ⟨rfl, (pJ.trans g3).fresh (GB.only o4) (by have := g1.size; omega)⟩
noncomputable def Q8 : Code := Tryz.f66.body.getD .skip
theorem Nt : Tryz.f66.body = some Q8 := by
  unfold Q8
  rfl
theorem Tf (x0 : Value) : Frame.enter Tryz.prog 66 #[x0] .normal = (Go.Conc.base 66).at ⟨#[x0, undef, undef, undef, undef, undef, undef, undef], []⟩ [.code Q8] := by
  have h := enter_at (P := Tryz.prog) #[x0] Tryz.func66 Nt
  rw [show Tryz.f66.ntmps = 8 from rfl] at h
  rw [h]
  walk_nrm
theorem Tg (w : World) : aX Tryz.prog 66 #[.slice none 0 0] w (fun v w' => v = .slice none 0 0 ∧ GB none w w') := by
  intro main D X cs hX hk
  rw [Tf]
  simp only [Q8, Tryz.f66, Option.getD]
  have hu := nil_eq Tryz.underlying22
  refine xw ?_
  refine xg ?_
  refine aj.ret hX.c ?_
  exact hk _ _ _ rfl (cu rfl Tryz.func66 rfl) ⟨rfl, GB.refl _ _⟩
noncomputable def Nu : Code := Tryz.f25.body.getD .skip
theorem CX : Tryz.f25.body = some Nu := by
  unfold Nu
  rfl
theorem Ju (x0 x1 : Value) : Frame.enter Tryz.prog 25 #[x0, x1] .normal = (Go.Conc.base 25).at ⟨#[x0, x1, undef, undef, undef, undef, undef, undef, undef, undef, undef, undef, undef, undef, undef, undef, undef, undef, undef, undef, undef, undef, undef, undef, undef, undef, undef, undef, undef, undef, undef, undef, undef, undef, undef, undef, undef, undef, undef, undef, undef, undef, undef, undef, undef, undef], []⟩ [.code Nu] := by
  have h := enter_at (P := Tryz.prog) #[x0, x1] Tryz.func25 CX
  rw [show Tryz.f25.ntmps = 46 from rfl] at h
  rw [h]
  walk_nrm
theorem Jv (w : World) (bc n sz g i : Nat) (gv sv : Value) (hc : w.heap[bc]? = some (.cells #[gv, sv] 131)) (hgv : ∃ a c, gv = .slice a n c) (hn : n ≤ 4) (hs : sz ≤ 5) (hg : g < n) (hi : i < sz) (br : Nat) (r : Rp) (hp : Ptr w gv n sz g i br) (hR : RS w br r g i n sz) :
    aX Tryz.prog 25 #[.pointer (some ⟨bc, 0, none⟩), .agg #[.int .u8 g, .int .u8 i]] w (fun v w' => v = .slice none 0 0 ∧ GB none w w') := by
  intro main D X cs hX hk
  rw [Ju]
  simp only [Nu, Tryz.f25, Option.getD]
  obtain ⟨bM, bO, bI, hb⟩ := hR.IQ
  refine xw ?_
  refine Shut.cK hX rfl rfl xB xO (ob := .cells #[.int .u8 g, .int .u8 i] 66) (v := fun b => .pointer (some ⟨b, 0, none⟩)) (fun w1 _ => by go_simp <;> rfl) (fun w1 b1 hb1 g1 l1 => ?_)
  refine xn ?_
  refine xw ?_
  refine Shut.dF hX rfl rfl xB rfl rfl hb1 (by kernel_rfl) [.int .u8 g, .int .u8 i] (by kernel_rfl) (Nat.le_of_ble_eq_true rfl) rfl ?_
  refine xn ?_
  refine xw ?_
  refine Shut.bQ hX rfl rfl xB rfl Tryz.func58 (by kernel_rfl) (by rw [lK]; rfl) (fZ w1 bc n sz g i gv sv (.pointer (some ⟨br, 0, none⟩)) (g1.get hc nofun) hgv hn hs (by omega) (by omega) (.inr (.inr ⟨hg, hi, br, rfl, hp.gb g1⟩))) xk ?_
  rintro v w2 ⟨rfl, g2⟩
  refine xm ?_
  refine xw ?_
  refine Shut.bY hX rfl rfl xB rfl rfl ((g1.trans g2).get hR.mem nofun) (by kernel_rfl) (v := r.lg) rfl ?_
  refine xn ?_
  rw [hb.lg]
  refine xw ?_
  refine Shut.bQ hX rfl rfl xB rfl Tryz.func66 (by kernel_rfl) (by rw [Nt]; rfl) (Tg w2) xk ?_
  rintro v w3 ⟨rfl, g3⟩
  refine xm ?_
  refine xw ?_
  refine xg ?_
  refine xw ?_
  refine xg ?_
  refine aj.ret hX.c ?_
  exact hk _ _ _ rfl (cu rfl Tryz.func25 rfl) ⟨rfl, (g1.trans g2).trans g3⟩
theorem UL (w : World) (bc n sz g i : Nat) (gv sv : Value) (hc : w.heap[bc]? = some (.cells #[gv, sv] 131)) (hgv : ∃ a c, gv = .slice a n c) (hn : n ≤ 4) (hs : sz ≤ 5) (_hg8 : g < 256) (_hi8 : i < 256) (hcase : n ≤ g ∨ (g < n ∧ sz ≤ i ∧ ∃ br, Ptr w gv n sz g 0 br)) :
    aX Tryz.prog 25 #[.pointer (some ⟨bc, 0, none⟩), .agg #[.int .u8 g, .int .u8 i]] w (fun v w' => v = .slice none 0 0 ∧ GB none w w') := by
  intro main D X cs hX hk
  rw [Ju]
  simp only [Nu, Tryz.f25, Option.getD]
  refine xw ?_
  refine Shut.cK hX rfl rfl xB xO (ob := .cells #[.int .u8 g, .int .u8 i] 66) (v := fun b => .pointer (some ⟨b, 0, none⟩)) (fun w1 _ => by go_simp <;> rfl) (fun w1 b1 hb1 g1 l1 => ?_)
  refine xn ?_
  refine xw ?_
  refine Shut.dF hX rfl rfl xB rfl rfl hb1 (by kernel_rfl) [.int .u8 g, .int .u8 i] (by kernel_rfl) (Nat.le_of_ble_eq_true rfl) rfl ?_
  refine xn ?_
  refine xw ?_
  refine Shut.bQ hX rfl rfl xB rfl Tryz.func58 (by kernel_rfl) (by rw [lK]; rfl) (fZ w1 bc n sz g i gv sv (.pointer none) (g1.get hc nofun) hgv hn hs (by omega) (by omega) (hcase.elim (fun h => .inl ⟨h, rfl⟩) fun ⟨h1, h2, br, h3⟩ => .inr (.inl ⟨h1, h2, rfl, br, h3.gb g1⟩))) xk ?_
  rintro v w2 ⟨rfl, g2⟩
  refine xm ?_
  refine xw ?_
  refine xg ?_
  refine aj.ret hX.c ?_
  exact hk _ _ _ rfl (cu rfl Tryz.func25 rfl) ⟨rfl, g1.trans g2⟩
end
end Go.Proofs.YtignemioillaiaaGreat
