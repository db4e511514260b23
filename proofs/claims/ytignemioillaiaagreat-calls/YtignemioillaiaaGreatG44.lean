/- shard.fresh: of a group that is begun. -/
import Derived.Test.YtignemioillaiaaGreatG43
namespace Go.Proofs.YtignemioillaiaaGreat
set_option maxHeartbeats 8000000
set_option maxRecDepth 100000
section
open Go Go.Conc Go.RowKit
def eT (g n : Nat) (sm so si : Value) : List Value := [.int .u8 g, .int .u8 n, .slice none 0 0, sm, .slice none 0 0, so, si]
structure Yw (w : World) (n : Nat) (sm so si : Value) : Prop where
  m : w.ownsRow 0 107 2 sm 1 [.int .u64 0, .int .u8 0]
  o : ∃ a c, so = .slice a n c
  i : ∃ a c, si = .slice a n c
theorem Qb {l : List Value} {off : Nat} {v : Value} (h : l[off]? = some v) : l.take off ++ [v] ++ l.drop (off + 1) = l := by
  obtain ⟨hl, he⟩ := List.getElem?_eq_some_iff.1 h
  rw [List.append_assoc, ← he, List.singleton_append, ← List.drop_eq_getElem_cons hl, List.take_append_drop]
theorem Bv {P : Program} {f : FuncId} {fn : Func} {a : Act} {todo : List Item} {w : World} {p : Tmp} {ty t : TypeId} {g : Nat} {cs : Array Value} {d : TypeDesc} (hd : a.defers = []) (hf : P.funcs[f]? = some fn) (hr : fn.results = #[.cell p ty]) (hp : a.tmps.getD p undef = .pointer (some ⟨g, 0, none⟩)) (hg : w.heap[g]? = some (.cells cs t)) (hu : P.underlying ty = some d) (hdd : (match d with | .struct _ | .array _ _ => true | _ => false) = true) (hi : (P.info? ty).map (·.size) = some cs.size) :
    ({ (Go.Conc.base f).at a todo with mode := .returning } : Frame).leaving P w (.returned (.agg cs)) := ⟨rfl, hd, rfl, fn, hf, results_cell_row hr _ w g t cs (0, 0) d hp hg hu hdd hi⟩
noncomputable def Q3 : Code := Tryz.f42.body.getD .skip
theorem Nn : Tryz.f42.body = some Q3 := by
  unfold Q3
  rfl
theorem Td (x0 : Value) : Frame.enter Tryz.prog 42 #[x0] .normal = (Go.Conc.base 42).at ⟨#[x0, undef, undef, undef, undef, undef, undef, undef, undef, undef, undef, undef, undef, undef, undef, undef, undef, undef, undef, undef, undef, undef, undef, undef, undef, undef, undef, undef, undef, undef, undef, undef, undef, undef, undef, undef, undef, undef, undef, undef, undef, undef, undef], []⟩ [.code Q3] := by
  have h := enter_at (P := Tryz.prog) #[x0] Tryz.func42 Nn
  rw [show Tryz.f42.ntmps = 43 from rfl] at h
  rw [h]
  walk_nrm
theorem Ic (w : World) (g n bM bO bI : Nat) (hn : n ≤ 4) (_hn1 : 1 ≤ n) (hM : w.heap[bM]? = some (.cells #[.int .u64 0, .int .u8 0] 107)) (hO : w.heap[bO]? = some (.cells (dQ n n).toArray 103)) (hI : w.heap[bI]? = some (.cells (List.replicate n (Value.int .u32 0)).toArray 47)) :
    aX Tryz.prog 42 #[.agg (eT g n (.slice (some ⟨bM, 0, none⟩) 1 1) (.slice (some ⟨bO, 0, none⟩) n n) (.slice (some ⟨bI, 0, none⟩) n n)).toArray] w (fun v w' => ∃ sm so si, v = .agg (eT g n sm so si).toArray ∧ Yw w' n sm so si ∧ GB none w w') := by
  intro main D X cs hX hk
  rw [Td]
  simp only [Q3, Tryz.f42, Option.getD]
  refine xw ?_
  refine Shut.cK hX rfl rfl xB xO (ob := .cells (eT g n (.slice (some ⟨bM, 0, none⟩) 1 1) (.slice (some ⟨bO, 0, none⟩) n n) (.slice (some ⟨bI, 0, none⟩) n n)).toArray 31) (v := fun b => .pointer (some ⟨b, 0, none⟩)) (fun w1 _ => by go_simp <;> rfl) (fun w1 b1 hb1 g1 l1 => ?_)
  refine xn ?_
  refine xw ?_
  refine Shut.cK hX rfl rfl xB xO (ob := .cells (eT 0 0 (.slice none 0 0) (.slice none 0 0) (.slice none 0 0)).toArray 31) (v := fun b => .pointer (some ⟨b, 0, none⟩)) (fun w1 _ => by go_simp <;> rfl) (fun w2 b2 hb2 g2 l2 => ?_)
  refine xn ?_
  have Qc := g2.get hb1 nofun
  refine xw ?_
  refine Shut.bY hX rfl rfl xB rfl rfl Qc (by kernel_rfl) (v := .slice none 0 0) rfl ?_
  refine xn ?_
  refine xw ?_
  refine Shut.bQ hX rfl rfl xB rfl Tryz.func76 (by kernel_rfl) (by rw [Ng]; rfl) (Xi w2) xk ?_
  rintro v w3 ⟨rfl, g3⟩
  refine xm ?_
  have DL := g3.get Qc nofun
  refine xw ?_
  refine Shut.df hX rfl rfl xB _ rfl rfl (v := .slice none 0 0) rfl DL (by kernel_rfl) rfl (Nat.le_of_ble_eq_true rfl) (eT g n (.slice (some ⟨bM, 0, none⟩) 1 1) (.slice (some ⟨bO, 0, none⟩) n n) (.slice (some ⟨bI, 0, none⟩) n n)) rfl (fun w4 yx o4 => ?_)
  refine xn ?_
  have g4 : GB none w w4 := ((g1.trans g2).trans g3).fresh (GB.only o4) l1
  refine xw ?_
  refine Shut.bY hX rfl rfl xB rfl rfl yx (by kernel_rfl) (v := .slice (some ⟨bM, 0, none⟩) 1 1) rfl ?_
  refine xn ?_
  refine xw ?_
  refine Shut.bQ hX rfl rfl xB rfl Tryz.func77 (by kernel_rfl) (by rw [Nh]; rfl) (Xj w4 bM 1 (g4.get hM nofun)) xk ?_
  rintro v w5 ⟨hv5, Za, g5⟩
  refine xm ?_
  obtain ⟨ma, mc, rfl⟩ := iU hv5
  have Qd := g5.get yx nofun
  refine xw ?_
  refine Shut.df hX rfl rfl xB _ rfl rfl (v := .slice ma 1 mc) rfl Qd (by kernel_rfl) rfl (Nat.le_of_ble_eq_true rfl) (eT g n (.slice ma 1 mc) (.slice (some ⟨bO, 0, none⟩) n n) (.slice (some ⟨bI, 0, none⟩) n n)) rfl (fun w6 GV o6 => ?_)
  refine xn ?_
  have g6 : GB none w w6 := (g4.trans g5).fresh (GB.only o6) l1
  have hv6 := ((GB.only o6).kp (T := [31]) (fun b hb => by cases hb; exact ⟨_, _, _, Qd, by decide⟩)).own hv5 (by decide)
  refine xw ?_
  refine Shut.bY hX rfl rfl xB rfl rfl GV (by kernel_rfl) (v := .slice none 0 0) rfl ?_
  refine xn ?_
  refine xw ?_
  refine Shut.bQ hX rfl rfl xB rfl Tryz.func78 (by kernel_rfl) (by rw [Ni]; rfl) (Xk w6) xk ?_
  rintro v w7 ⟨rfl, g7⟩
  refine xm ?_
  have Qe := g7.get GV nofun
  refine xw ?_
  refine Shut.df hX rfl rfl xB _ rfl rfl (v := .slice none 0 0) rfl Qe (by kernel_rfl) rfl (Nat.le_of_ble_eq_true rfl) (eT g n (.slice ma 1 mc) (.slice (some ⟨bO, 0, none⟩) n n) (.slice (some ⟨bI, 0, none⟩) n n)) rfl (fun w8 Qf o8 => ?_)
  refine xn ?_
  have g8 : GB none w w8 := (g6.trans g7).fresh (GB.only o8) l1
  have VO := ((GB.only o8).kp (T := [31]) (fun b hb => by cases hb; exact ⟨_, _, _, Qe, by decide⟩)).own ((g7.oF []).own hv6 (by decide)) (by decide)
  refine xw ?_
  refine Shut.bY hX rfl rfl xB rfl rfl Qf (by kernel_rfl) (v := .slice (some ⟨bI, 0, none⟩) n n) rfl ?_
  refine xn ?_
  refine xw ?_
  refine Shut.bQ hX rfl rfl xB rfl Tryz.func79 (by kernel_rfl) (by rw [Nj]; rfl) (Xl w8 bI n hn (g8.get hI nofun)) xk ?_
  rintro v w9 ⟨hi9, Zb, g9⟩
  refine xm ?_
  obtain ⟨ia, ic, rfl⟩ := iU hi9
  have Qg := g9.get Qf nofun
  refine xw ?_
  refine Shut.df hX rfl rfl xB _ rfl rfl (v := .slice ia n ic) rfl Qg (by kernel_rfl) rfl (Nat.le_of_ble_eq_true rfl) (eT g n (.slice ma 1 mc) (.slice (some ⟨bO, 0, none⟩) n n) (.slice ia n ic)) rfl (fun Io KQ Js => ?_)
  refine xn ?_
  have g10 : GB none w Io := (g8.trans g9).fresh (GB.only Js) l1
  have UD := ((GB.only Js).kp (T := [31]) (fun b hb => by cases hb; exact ⟨_, _, _, Qg, by decide⟩)).own ((g9.oF []).own VO (by decide)) (by decide)
  refine xw ?_
  refine Shut.bY hX rfl rfl xB rfl rfl KQ (by kernel_rfl) (v := .slice (some ⟨bO, 0, none⟩) n n) rfl ?_
  refine xn ?_
  refine xw ?_
  refine Shut.bQ hX rfl rfl xB rfl Tryz.func80 (by kernel_rfl) (by rw [Nk]; rfl) (Xm Io bO n hn (g10.get hO nofun)) xk ?_
  rintro v Le ⟨UE, Xo, g11⟩
  refine xm ?_
  obtain ⟨bP, oc, cur, rfl, kN, htk, hcs⟩ := u7 UE (by omega)
  have KR := g11.get KQ nofun
  refine xw ?_
  refine Shut.df hX rfl rfl xB _ rfl rfl (v := .slice (some ⟨bP, 0, none⟩) n oc) rfl KR (by kernel_rfl) rfl (Nat.le_of_ble_eq_true rfl) (eT g n (.slice ma 1 mc) (.slice (some ⟨bP, 0, none⟩) n oc) (.slice ia n ic)) rfl (fun Np ES Q4 => ?_)
  refine xn ?_
  have g12 : GB none w Np := (g10.trans g11).fresh (GB.only Q4) l1
  have k12 : Kp [31] Le Np := (GB.only Q4).kp (fun b hb => by cases hb; exact ⟨_, _, _, KR, by decide⟩)
  have UF := k12.own ((g11.oF []).own UD (by decide)) (by decide)
  have ve := k12.blk kN (by decide)
  have KS : Np.heap[b2]? = some (.cells (eT 0 0 (.slice none 0 0) (.slice none 0 0) (.slice none 0 0)).toArray 31) := by
    have gB : GB (some b1) w2 Np := ((((((((((g3.weak).trans (GB.only o4)).trans g5.weak).trans (GB.only o6)).trans g7.weak).trans (GB.only o8)).trans g9.weak).trans (GB.only Js)).trans g11.weak).trans (GB.only Q4))
    exact gB.get hb2 fun e => by injection e with e; have := dz hb1; omega
  have Yx : w.heap.size ≤ b2 := by have := g1.size; omega
  have lP : w.heap.size ≤ bP := by have := Xo bP rfl; have := g10.size; omega
  refine xw ?_
  refine Shut.bY hX rfl rfl xB rfl rfl ES (by kernel_rfl) (v := .slice (some ⟨bP, 0, none⟩) n oc) rfl ?_
  refine xn ?_
  refine xw ?_
  clear hb1 hb2 Qc DL yx Qd GV Qe Qf Qg KQ KR g1 g2 g3 g4 g5 g6 g7 g8 g9 g10 g11 hv5 hv6 VO UD o4 o6 o8 Js Q4 kN k12 hi9 UE
  have hne1 : bP ≠ b1 := fun e => by rw [e, ES] at ve; cases ve
  have hne2 : bP ≠ b2 := fun e => by rw [e, KS] at ve; cases ve
  refine hX.vN (fun q a w' => ∃ (k : Nat), q = n - k ∧ k ≤ n ∧ (∃ ys : Nat → Value, a = ⟨#[ys 0, .pointer (some ⟨b1, 0, none⟩), .pointer (some ⟨b2, 0, none⟩), ys 3, ys 4, ys 5, ys 6, ys 7, ys 8, ys 9, ys 10, ys 11, ys 12, ys 13, ys 14, ys 15, ys 16, ys 17, ys 18, ys 19, ys 20, ys 21, ys 22, ys 23, ys 24, ys 25, .slice (some ⟨bP, 0, none⟩) n oc, .int .i64 n, .int .i64 (k : Nat), ys 29, ys 30, ys 31, ys 32, ys 33, ys 34, ys 35, ys 36, ys 37, ys 38, ys 39, ys 40, ys 41, ys 42], []⟩) ∧  w'.heap[b1]? = some (.cells (eT g n (.slice ma 1 mc) (.slice (some ⟨bP, 0, none⟩) n oc) (.slice ia n ic)).toArray 31) ∧ w'.heap[b2]? = some (.cells (eT 0 0 (.slice none 0 0) (.slice none 0 0) (.slice none 0 0)).toArray 31) ∧ w'.heap[bP]? = some (.cells cur 103) ∧ w'.ownsRow 0 107 2 (.slice ma 1 mc) 1 [.int .u64 0, .int .u8 0] ∧ GB none w w') ?_ ⟨0, rfl, Nat.zero_le _, dM rfl, ES, KS, ve, UF, g12⟩
  clear ES KS ve UF g12
  rintro q a u1 ⟨k, rfl, hkn, ⟨ys, rfl⟩, h1, h2, h3, h4, h5⟩ hback
  refine xg ?_
  by_cases hlt : k < n
  · have hlt' : (k : Int) < n := by omega
    have Q5 := (DJ htk hlt).trans (Je hlt)
    refine xw ?_
    refine Shut.dF hX rfl rfl (by decide) rfl rfl h3 (by kernel_rfl) [.int .u32 1, .slice none 0 0] (by kernel_rfl) (by show k * 2 + 2 ≤ cur.size; omega) Q5 ?_
    refine xm ?_
    refine xw ?_
    refine Shut.cK hX rfl rfl xB xO (ob := .cells #[.int .u32 0, .slice none 0 0] 103) (v := fun b => .pointer (some ⟨b, 0, none⟩)) (fun w1 _ => by go_simp <;> rfl) (fun u2 b4 hb4 k2 l4 => ?_)
    refine xn ?_
    refine xw ?_
    refine Shut.df hX rfl rfl xB _ rfl rfl (v := .agg #[.int .u32 1, .slice none 0 0]) rfl hb4 (by kernel_rfl) rfl (Nat.le_of_ble_eq_true rfl) [.int .u32 1, .slice none 0 0] rfl (fun u3 UG q3 => ?_)
    refine xn ?_
    have k3 : GB none u1 u3 := k2.fresh (GB.only q3) l4
    have MM := k3.get h1 nofun
    have hS : bE b1 (.cells (eT g n (.slice ma 1 mc) (.slice (some ⟨bP, 0, none⟩) n oc) (.slice ia n ic)).toArray 31) b4 (.cells #[.int .u32 1, .slice none 0 0] 103) u3 := ⟨MM, UG⟩
    refine xw ?_
    refine xg ?_
    refine Shut.drawn hX xB (by kernel_rfl) (bE b1 (.cells (eT g n (.slice ma 1 mc) (.slice (some ⟨bP, 0, none⟩) n oc) (.slice ia n ic)).toArray 31) b4 (.cells #[.int .u32 1, .slice none 0 0] 103)) 8 ?_ bE.same
    show AnyX _ _ _ _ _ _ _ _ 9 #[false, false, false, false, false, false, false, false, false] _ _
    refine AnyX.take hX bE.same 0 rfl (by decide) xK xK xK xY hS ?_
    refine xn ?_
    refine AnyX.fu hX bE.same 1 rfl rfl xK xK xK (by kernel_rfl) (.inl ⟨rfl, bZ rfl, fun _ h => fe rfl rfl h.1 (by kernel_rfl) (v := .slice (some ⟨bP, 0, none⟩) n oc) rfl⟩) hS ?_
    refine xn ?_
    refine AnyX.take hX bE.same 2 rfl (by decide) xK xK xK xY hS ?_
    refine xn ?_
    refine AnyX.take hX bE.same 3 rfl (by decide) xK xK xK xY hS ?_
    refine xn ?_
    refine AnyX.fu hX bE.same 4 rfl rfl xK xK xK (by kernel_rfl) (.inl ⟨rfl, bZ rfl, fun _ h => fe rfl rfl h.2 (by kernel_rfl) (v := .slice none 0 0) rfl⟩) hS ?_
    refine xn ?_
    refine AnyX.one 5 (by kernel_rfl) ?_
    refine dL.bQ rfl rfl rfl Tryz.func81 (by kernel_rfl) (by rw [Nl]; rfl) (Xn u3) xk ?_
    rintro v u4 ⟨rfl, k4⟩
    have yw : bE b1 (.cells (eT g n (.slice ma 1 mc) (.slice (some ⟨bP, 0, none⟩) n oc) (.slice ia n ic)).toArray 31) b4 (.cells #[.int .u32 1, .slice none 0 0] 103) u4 := ⟨k4.get MM nofun, k4.get UG nofun⟩
    refine ⟨fun _ => yw, ?_⟩
    refine AnyX.take hX bE.same 6 rfl (by decide) xK xK xK xY yw ?_
    refine xn ?_
    refine AnyX.take hX bE.same 7 rfl (by decide) xK xK xK xY yw ?_
    refine xn ?_
    refine AnyX.one 8 (by kernel_rfl) ?_
    have Yy := (k3.trans k4).get h3 nofun
    have hat : cur.toList[k * 2 + 1]? = some (.slice none 0 0) := by
      have := congrArg (fun l : List Value => l[1]?) Q5
      simpa [List.getElem?_take, List.getElem?_drop] using this
    refine dL.df rfl rfl _ rfl rfl (v := .slice none 0 0) rfl Yy (by kernel_rfl) rfl (by show k * 2 + 1 + 1 ≤ cur.size; omega) cur.toList (Qb hat) (fun u5 u6 hs6 tX o6 => ?_)
    refine ⟨fun h => (by cases h), AnyX.done (by kernel_rfl) ?_⟩
    have k6 : GB (some bP) u1 u6 := (((k3.trans k4).weak).same hs6).trans (GB.only o6)
    rw [Array.toArray_toList] at tX
    refine xw ?_
    rw [oU k (by omega)]
    refine hback _ _ _ ?_ ⟨k + 1, rfl, by omega, dM rfl, k6.get h1 (fun e => hne1 (by injection e with e; exact e.symm)), k6.get h2 (fun e => hne2 (by injection e with e; exact e.symm)), tX, ?_, h5.fresh k6 lP⟩
    · omega
    · exact (k6.kp (T := [103]) (fun b hb => by cases hb; exact ⟨_, _, _, h3, by decide⟩)).own h4 (by decide)
  · have hlt' : ¬ (k : Int) < n := by omega
    refine xw ?_
    refine Shut.dF hX rfl rfl xB rfl rfl h1 (by kernel_rfl) (eT g n (.slice ma 1 mc) (.slice (some ⟨bP, 0, none⟩) n oc) (.slice ia n ic)) (by kernel_rfl) (Nat.le_of_ble_eq_true rfl) rfl ?_
    refine xn ?_
    refine xw ?_
    refine Shut.df hX rfl rfl xB _ rfl rfl (v := .agg (eT g n (.slice ma 1 mc) (.slice (some ⟨bP, 0, none⟩) n oc) (.slice ia n ic)).toArray) rfl h2 (by kernel_rfl) rfl (Nat.le_of_ble_eq_true rfl) (eT g n (.slice ma 1 mc) (.slice (some ⟨bP, 0, none⟩) n oc) (.slice ia n ic)) rfl (fun u2 hu2 q2 => ?_)
    refine xn ?_
    refine xw ?_
    refine xg ?_
    refine aj.ret hX.c ?_
    refine hk _ _ _ rfl (Bv rfl Tryz.func42 rfl rfl hu2 Tryz.underlying31 rfl (by kernel_rfl)) ⟨_, _, _, rfl, ⟨?_, ⟨_, _, rfl⟩, ⟨_, _, rfl⟩⟩, h5.fresh (GB.only q2) Yx⟩
    exact ((GB.only q2).kp (T := [31]) (fun b hb => by cases hb; exact ⟨_, _, _, h2, by decide⟩)).own h4 (by decide)
end
end Go.Proofs.YtignemioillaiaaGreat
