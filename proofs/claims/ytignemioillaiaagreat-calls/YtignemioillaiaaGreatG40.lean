/- Clone, Packets, join, Send. -/
import Derived.Test.YtignemioillaiaaGreatG33
namespace Go.Proofs.YtignemioillaiaaGreat
set_option maxHeartbeats 8000000
set_option maxRecDepth 100000
section
open Go Go.Conc Go.RowKit
theorem nil_eq {P : Program} {t e : TypeId} (h : P.underlying t = some (.slice e)) (w : World) (a : Option Addr) (l c : Nat) : (binOp .eql t (.slice a l c) (.slice none 0 0)).run P w = .ok (.bool a.isNone) w := by
  have h1 : ∀ d, (Op.equalIn (d + 1) t (.slice a l c) (.slice none 0 0)).run P w = .ok a.isNone w := fun d => by cases a <;> simp [Op.equalIn, run_underlying h]
  have h2 : (Op.equal t (.slice a l c) (.slice none 0 0)).run P w = .ok a.isNone w := h1 9999
  simp [binOp, h2]
noncomputable def QT : Code := Tryz.f62.body.getD .skip
theorem M8 : Tryz.f62.body = some QT := by
  unfold QT
  rfl
theorem SK (x0 : Value) : Frame.enter Tryz.prog 62 #[x0] .normal = (Go.Conc.base 62).at ⟨#[x0, undef, undef, undef, undef, undef, undef, undef], []⟩ [.code QT] := by
  have h := enter_at (P := Tryz.prog) #[x0] Tryz.func62 M8
  rw [show Tryz.f62.ntmps = 8 from rfl] at h
  rw [h]
  walk_nrm
theorem PX {q : List cB} : ∀ u ∈ flat q, u.oneCell' = true := by
  intro u hu
  unfold flat at hu
  obtain ⟨p, _, hp⟩ := List.mem_flatMap.1 hu
  simp only [cB.cells, List.mem_cons, List.not_mem_nil, or_false] at hp
  rcases hp with rfl | rfl | rfl | rfl | rfl <;> rfl
theorem Er (q : List cB) (t : Nat) : (flat q).drop (t * 5) = flat (q.drop t) := by
  induction q generalizing t with
  | nil => simp [flat]
  | cons p q ih =>
    cases t with
    | zero => simp
    | succ t =>
      rw [show flat (p :: q) = p.cells ++ flat q by simp [flat], List.drop_append, show p.cells.length = 5 from rfl, show (t + 1) * 5 - 5 = t * 5 by omega, ih]
      rw [List.drop_eq_nil_of_le (by show 5 ≤ _; omega)]
      simp
theorem PY (w : World) (q : List cB) (t : Nat) (sv : Value) (ho : w.ownsRow 0 139 5 sv q.length (flat q)) (_ht : t ≤ q.length) (_hq : q.length ≤ 20000) (s : Value) (hs : (sv = .slice none 0 0 ∧ s = .slice none 0 0) ∨ ∃ g cap o, sv = .slice (some ⟨g, 0, none⟩) q.length cap ∧ s = .slice (some ⟨g, o, none⟩) (q.length - t) (cap - t) ∧ (o = t * 5 ∨ q.length = t)) :
    aX Tryz.prog 62 #[s] w (fun v w' => (∃ a c, v = .slice a (q.length - t) c) ∧ GB none w w') := by
  intro main D X cs hX hk
  have hu := nil_eq Tryz.underlying72
  rw [SK]
  simp only [QT, Tryz.f62, Option.getD]
  rcases hs with ⟨rfl, rfl⟩ | ⟨g, cap, o, rfl, rfl, hot⟩
  · have hq0 : q.length = 0 := by
      rcases ho.2 with ⟨_, h⟩ | ⟨g, cap, cur, h, _⟩
      · exact h
      · cases h
    refine xw ?_
    refine xg ?_
    refine aj.ret hX.c ?_
    exact hk _ _ _ rfl (cu rfl Tryz.func62 rfl) ⟨⟨none, 0, by show Value.slice none 0 0 = _; rw [hq0]; simp⟩, GB.refl _ _⟩
  · refine xw ?_
    refine Shut.cK hX rfl rfl xB xO (ob := .cells #[] 139) (v := fun b => .slice (some ⟨b, 0, none⟩) 0 0) (fun w1 _ => by go_simp <;> rfl) (fun w1 b1 hb1 g1 l1 => ?_)
    refine xn ?_
    refine xw ?_
    have ho1 := (g1.oF []).own ho (by decide)
    obtain ⟨cur, kN, hnb⟩ : ∃ cur, w1.heap[g]? = some (.cells cur 139) ∧ (cur.toList.drop o).take ((q.length - t) * 5) = flat (q.drop t) := by
      rcases ho1.2 with ⟨h, _⟩ | ⟨g', cap', cur, h, _, h1, _, _, _, h2⟩
      · cases h
      · injection h with h3 h4 h5
        injection h3 with h3
        injection h3 with h3 _ _
        subst h3
        refine ⟨cur, h1, ?_⟩
        rcases hot with rfl | hot
        · rw [← Er, ← h2, List.drop_take, Nat.sub_mul]
        · rw [hot, List.drop_eq_nil_of_le (by omega : q.length ≤ t)]; simp [flat]
    obtain ⟨ii, hii, hz, hs, hb⟩ := nQ vL
    refine Shut.mQ hX rfl rfl (by decide) rfl 139 ii _ 5 24 Tryz.underlying72 hii hz hs hb rfl (by decide) (n := 0) (xs := []) rfl ⟨rfl, .inr ⟨b1, 0, #[], rfl, Nat.zero_le _, hb1, Nat.zero_le _, Nat.zero_le _, rfl, rfl⟩⟩ rfl kN hnb (by rw [T9, List.length_drop]) PX (by unfold maxLen; omega) (by omega) (fun v' w2 ho2 g2 l2 => ?_)
    refine xm ?_
    refine xw ?_
    refine xg ?_
    refine aj.ret hX.c ?_
    obtain ⟨va, vc, rfl⟩ := iU ho2
    refine hk _ _ _ rfl (cu rfl Tryz.func62 rfl) ⟨⟨va, vc, ?_⟩, g1.fresh g2 l1⟩
    show Value.slice _ _ _ = _
    rw [Nat.zero_add]
noncomputable def QU : Code := Tryz.f22.body.getD .skip
theorem qp : Tryz.f22.body = some QU := by
  unfold QU
  rfl
theorem SL (x0 x1 : Value) : Frame.enter Tryz.prog 22 #[x0, x1] .normal = (Go.Conc.base 22).at ⟨#[x0, x1, undef, undef, undef, undef, undef, undef, undef, undef, undef, undef, undef, undef, undef, undef, undef, undef, undef, undef], []⟩ [.code QU] := by
  have h := enter_at (P := Tryz.prog) #[x0, x1] Tryz.func22 qp
  rw [show Tryz.f22.ntmps = 20 from rfl] at h
  rw [h]
  walk_nrm
theorem kG (w : World) (bc : Nat) (gv sv : Value) (q : List cB) (hc : w.heap[bc]? = some (.cells #[gv, sv] 131)) (ho : w.ownsRow 0 139 5 sv q.length (flat q)) (hq : q.length ≤ 20000) (fr : Int) (t : Nat) (ht : (if (q.length : Int) < if fr < 0 then 0 else fr then (q.length : Int) else if fr < 0 then 0 else fr) = (t : Int)) :
    aX Tryz.prog 22 #[.pointer (some ⟨bc, 0, none⟩), .int .i64 fr] w (fun v w' => (∃ a c, v = .slice a (q.length - t) c) ∧ GB none w w') := by
  intro main D X cs hX hk
  rw [SL]
  simp only [QU, Tryz.f22, Option.getD]
  refine xw ?_
  refine Shut.bY hX rfl rfl xB rfl rfl hc (by kernel_rfl) (v := sv) rfl ?_
  refine xn ?_
  obtain ⟨sa, sc, rfl⟩ := iU ho
  refine xw ?_
  have VN : t ≤ q.length := by
    split at ht
    · omega
    · split at ht <;> omega
  have hu := Tryz.underlying72
  refine Shut.bY hX rfl rfl xB rfl rfl hc (by kernel_rfl) (v := .slice sa q.length sc) rfl ?_
  refine xn ?_
  refine xw ?_
  have hsl : (Value.slice sa q.length sc = .slice none 0 0 ∧ Value.slice (if sc = t then sa else Option.map (fun x => x.add (t * 5)) sa) (q.length - t) (sc - t) = .slice none 0 0) ∨ ∃ g cap o, Value.slice sa q.length sc = .slice (some ⟨g, 0, none⟩) q.length cap ∧ Value.slice (if sc = t then sa else Option.map (fun x => x.add (t * 5)) sa) (q.length - t) (sc - t) = .slice (some ⟨g, o, none⟩) (q.length - t) (cap - t) ∧ (o = t * 5 ∨ q.length = t) := by
    rcases ho.2 with ⟨h, h0⟩ | ⟨g, cap, cur, h, _, _, h1, _⟩
    · injection h with h1 h2 h3
      subst h1 h3
      rw [h0] at VN
      obtain rfl : t = 0 := by omega
      left
      simp [h0]
    · injection h with h1 h2 h3
      subst h1 h3
      right
      by_cases he : sc = t
      · exact ⟨g, sc, 0, rfl, by rw [if_pos he], .inr (by omega)⟩
      · exact ⟨g, sc, t * 5, rfl, by rw [if_neg he]; simp [Addr.add]; omega, .inl rfl⟩
  refine Shut.bQ hX rfl rfl xB rfl Tryz.func62 (by kernel_rfl) (by rw [M8]; rfl) (PY w q t _ ho VN hq _ hsl) xk ?_
  rintro v w2 ⟨⟨va, vc, rfl⟩, g2⟩
  refine xm ?_
  refine xw ?_
  refine xg ?_
  refine aj.ret hX.c ?_
  exact hk _ _ _ rfl (cu rfl Tryz.func22 rfl) ⟨⟨va, vc, rfl⟩, g2⟩
end
end Go.Proofs.YtignemioillaiaaGreat
