/- New: all that it makes is new. -/
import Derived.Test.YtignemioillaiaaGreatG32
namespace Go.Proofs.YtignemioillaiaaGreat
set_option maxHeartbeats 8000000
set_option maxRecDepth 100000
section
open Go Go.Conc Go.RowKit
def Ex (L : Nat) (w : World) (s : Value) (g i n sz : Nat) : Prop := ∃ pl, w.ownsRow 0 133 1 s i pl ∧ ∀ t, t < i → ∃ br r, pl[t]? = some (.pointer (some ⟨br, 0, none⟩)) ∧ RS w br r g t n sz ∧ Fr r ∧ L ≤ br
theorem Ex.kp {L : Nat} {T : List TypeId} {w w' : World} {s : Value} {g i n sz : Nat} (h : Ex L w s g i n sz) (k : Kp T w w') (hT : uZ T) (h3 : 133 ∉ T) : Ex L w' s g i n sz := by
  obtain ⟨pl, h1, h2⟩ := h
  exact ⟨pl, k.own h1 h3, fun t ht => by obtain ⟨br, r, e1, e2, e3, e4⟩ := h2 t ht; exact ⟨br, r, e1, e2.kp k hT, e3, e4⟩⟩
def Ey (L : Nat) (w : World) (bc : Nat) (gv : Value) (j n sz : Nat) : Prop := w.heap[bc]? = some (.cells #[gv, .slice none 0 0] 131) ∧ ∃ gl, w.ownsRow 0 132 1 gv j gl ∧ ∀ t, t < j → ∃ s, gl[t]? = some s ∧ Ex L w s t sz n sz
theorem Ey.kp {L : Nat} {T : List TypeId} {w w' : World} {bc j n sz : Nat} {gv : Value} (h : Ey L w bc gv j n sz) (k : Kp T w w') (hT : uZ T) (h1 : 131 ∉ T) (h2 : 132 ∉ T) (h3 : 133 ∉ T) : Ey L w' bc gv j n sz := by
  obtain ⟨e1, gl, e2, e3⟩ := h
  exact ⟨k.blk e1 h1, gl, k.own e2 h2, fun t ht => by obtain ⟨s, e4, e5⟩ := e3 t ht; exact ⟨s, e4, e5.kp k hT h3⟩⟩
theorem Ez (w : World) (n f sz : Nat) (h1 : 1 ≤ n) (h2 : n ≤ 4) (_h3 : f ≤ 2) (_hsz : sz = 2 * f + 1) : aX Tryz.prog 18 #[.int .i64 n, .int .i64 f] w (fun v w' => ∃ bc gv, v = .tuple #[.pointer (some ⟨bc, 0, none⟩), .int .i64 0] ∧ w.heap.size ≤ bc ∧ Ey w.heap.size w' bc gv n n sz ∧ GB none w w') := by
  intro main D X cs hX hk
  rw [IU]
  simp only [c18, Tryz.f18, Option.getD]
  have c1 : ¬ (n : Int) < 1 := by omega
  have c2 : ¬ 4 < (n : Int) := by omega
  have c3 : ¬ (f : Int) < 0 := by omega
  have c4 : ¬ 2 < (f : Int) := by omega
  have Ze : IntKind.i64.wrap (2 * (f : Int)) = 2 * f := kF _ (by omega) (by omega)
  have Zf : IntKind.i64.wrap (2 * (f : Int) + 1) = 2 * f + 1 := kF _ (by omega) (by omega)
  refine xw ?_
  refine Shut.cK hX rfl rfl xB xO (ob := .cells #[.slice none 0 0, .slice none 0 0] 131) (v := fun b => .pointer (some ⟨b, 0, none⟩)) (fun w1 _ => by go_simp <;> rfl) (fun w1 bc hc1 g1 l1 => ?_)
  refine xn ?_
  refine xw ?_
  refine hX.vN (fun m a w' => ∃ (j : Nat) (gv : Value), m = n - j ∧ j ≤ n ∧ (∃ ys : Nat → Value, a = ⟨#[.int .i64 n, .int .i64 f, ys 2, ys 3, ys 4, ys 5, .pointer (some ⟨bc, 0, none⟩), ys 7, ys 8, ys 9, ys 10, ys 11, ys 12, ys 13, ys 14, ys 15, ys 16, ys 17, ys 18, ys 19, ys 20, ys 21, ys 22, ys 23, ys 24, ys 25, ys 26, .int .i64 n, .int .i64 (j : Nat), ys 29, ys 30, ys 31, ys 32, ys 33, ys 34, ys 35, ys 36, ys 37, ys 38, ys 39, ys 40, ys 41, ys 42, ys 43, ys 44, ys 45, ys 46, ys 47, ys 48, ys 49, ys 50, ys 51, ys 52, ys 53, ys 54, ys 55, ys 56, ys 57, ys 58, ys 59, ys 60, ys 61, ys 62, ys 63], []⟩) ∧  Ey w.heap.size w' bc gv j n sz ∧ (∀ b, gv.ownBlock = some b → w.heap.size ≤ b) ∧ GB none w w') ?_ ⟨0, .slice none 0 0, rfl, Nat.zero_le _, dM rfl, ⟨hc1, _, qj _ _ _, fun t ht => absurd ht (by omega)⟩, nofun, g1⟩
  clear g1 hc1 w1
  rintro m a w2 ⟨j, gv, rfl, hj, ⟨ys, rfl⟩, hcm, hgv, g2⟩ hback
  refine xg ?_
  by_cases hlt : j < n
  · have hlt' : (j : Int) < n := by omega
    refine xw ?_
    refine hX.vN (fun m a w' => ∃ (i : Nat) (s : Value), m = sz - i ∧ i ≤ sz ∧ (∃ ys : Nat → Value, a = ⟨#[.int .i64 n, .int .i64 f, ys 2, ys 3, ys 4, ys 5, .pointer (some ⟨bc, 0, none⟩), .int .i64 j, s, ys 9, ys 10, ys 11, ys 12, ys 13, ys 14, ys 15, ys 16, ys 17, ys 18, ys 19, ys 20, ys 21, ys 22, ys 23, ys 24, ys 25, ys 26, .int .i64 n, .int .i64 j, ys 29, ys 30, ys 31, ys 32, .int .i64 (2 * (f : Int) + 1), .int .i64 (i : Nat), ys 35, ys 36, ys 37, ys 38, ys 39, ys 40, ys 41, ys 42, ys 43, ys 44, ys 45, ys 46, ys 47, ys 48, ys 49, ys 50, ys 51, ys 52, ys 53, ys 54, ys 55, ys 56, ys 57, ys 58, ys 59, ys 60, ys 61, ys 62, ys 63], []⟩) ∧  Ex w.heap.size w' s j i n sz ∧ (∀ b, s.ownBlock = some b → w2.heap.size ≤ b) ∧ GB none w2 w') ?_ ⟨0, .slice none 0 0, rfl, Nat.zero_le _, dM rfl, ⟨_, qj _ _ _, fun t ht => absurd ht (by omega)⟩, nofun, GB.refl _ _⟩
    rintro m a u2 ⟨i, s, rfl, hi, ⟨ys, rfl⟩, hrw, hs0, g20⟩ hin
    refine xg ?_
    by_cases QH : i < sz
    · have Xx : (i : Int) < 2 * (f : Int) + 1 := by omega
      refine xw ?_
      rw [Bt j (by omega), Bt i (by omega)]
      refine Shut.cK hX rfl rfl xB xO (ob := .cells #[.int .u8 0, .int .u8 0] 66) (v := fun b => .pointer (some ⟨b, 0, none⟩)) (fun w1 _ => by go_simp <;> rfl) (fun w3 b3 hb3 g3 l3 => ?_)
      refine xn ?_
      refine xw ?_
      refine Shut.df hX rfl rfl xB _ rfl rfl (v := .agg #[.int .u8 j, .int .u8 i]) rfl hb3 (by kernel_rfl) rfl (Nat.le_of_ble_eq_true rfl) [.int .u8 j, .int .u8 i] rfl (fun w4 hb4 o4 => ?_)
      refine xn ?_
      refine xw ?_
      refine Shut.dF hX rfl rfl xB rfl rfl hb4 (by kernel_rfl) [.int .u8 j, .int .u8 i] (by kernel_rfl) (Nat.le_of_ble_eq_true rfl) rfl ?_
      refine xn ?_
      refine xw ?_
      have hnr := H9 w4 j i n sz h1 h2 hlt
      rw [show ((sz : Nat) : Int) = 2 * (f : Int) + 1 by omega] at hnr
      refine Shut.bQ hX rfl rfl xB rfl Tryz.func57 (by kernel_rfl) (by rw [ML]; rfl) hnr xk ?_
      rintro v w5 ⟨br, r, rfl, lr, YK, YL, g5⟩
      refine xm ?_
      refine xw ?_
      refine Shut.cK hX rfl rfl xB xO (ob := .cells #[.pointer (some ⟨br, 0, none⟩)] 133) (v := fun b => .slice (some ⟨b, 0, none⟩) 1 1) (fun w1 _ => by go_simp <;> rfl) (fun w6 b6 hb6 g6 l6 => ?_)
      refine xn ?_
      refine xw ?_
      have UY : GB none u2 w6 := ((g3.fresh (GB.only o4) l3).trans g5).trans g6
      obtain ⟨pl, hpl, hrs⟩ := hrw.kp (UY.oF []) pI (by decide)
      have Xy : pl.length = i := by have := hpl.1; omega
      obtain ⟨ii, hii, hz, hs, hb⟩ := nQ Pf
      refine Shut.mQ hX rfl rfl xB rfl 133 ii _ _ _ (by kernel_rfl) hii hz hs hb rfl (by decide) rfl hpl rfl hb6 (news := [.pointer (some ⟨br, 0, none⟩)]) rfl rfl (by first | assumption | simp [Value.oneCell']) (by unfold maxLen; omega) (by omega) (fun v' w7 QN g7 l7 => ?_)
      clear hb hs hz hii ii
      refine xn ?_
      refine xw ?_
      have VU : Kp [133] w6 w7 := GN hpl g7 (by decide)
      rw [oU i (by omega)]
      refine hin _ _ _ ?_ ⟨i + 1, v', rfl, by omega, dM rfl, ⟨_, QN, fun t ht => ?_⟩, ?_, ?_⟩
      · omega
      · by_cases hti : t < i
        · obtain ⟨YM, r', e1, e2, e3, e4⟩ := hrs t hti
          exact ⟨YM, r', by rw [List.getElem?_append_left (by omega)]; exact e1, e2.kp VU IX, e3, e4⟩
        · obtain rfl : t = i := by omega
          exact ⟨br, r, by rw [List.getElem?_append_right (by omega), Xy]; simp, (YK.kp (g6.oF []) pI).kp VU IX, YL, by have := g2.size; have := g20.size; have := (g3.fresh (GB.only o4) l3).size; omega⟩
      · intro b hb
        rcases l7 b hb with h | h
        · exact hs0 b h
        · have := g20.size; have := UY.size; omega
      · exact (g20.trans UY).newer g7 hs0
    · have Xx : ¬ (i : Int) < 2 * (f : Int) + 1 := by omega
      obtain rfl : i = sz := by omega
      refine xw ?_
      obtain ⟨e1, gl, e2, e3⟩ := hcm.kp (g20.oF []) pI (by decide) (by decide) (by decide)
      obtain ⟨pl, hpl, hrs⟩ := hrw
      obtain ⟨sa, sc, rfl⟩ := iU hpl
      have hone := Sr hpl
      refine Shut.bY hX rfl rfl xB rfl rfl e1 (by kernel_rfl) (v := gv) rfl ?_
      refine xn ?_
      refine xw ?_
      refine Shut.cK hX rfl rfl xB xO (ob := .cells #[.slice sa i sc] 132) (v := fun b => .slice (some ⟨b, 0, none⟩) 1 1) (fun w1 _ => by go_simp <;> rfl) (fun w3 b3 hb3 g3 l3 => ?_)
      refine xn ?_
      refine xw ?_
      have k3 : Kp [] u2 w3 := g3.oF []
      obtain ⟨ii, hii, hz, hs, hb⟩ := nQ Pg
      refine Shut.mQ hX rfl rfl xB rfl 132 ii _ _ _ (by kernel_rfl) hii hz hs hb rfl (by decide) rfl (k3.own e2 (by decide)) rfl hb3 (news := [.slice sa i sc]) rfl rfl (by first | assumption | simp [Value.oneCell', cB.cells]) (by unfold maxLen; omega) (by omega) (fun v' w4 wU g4 l4 => ?_)
      clear hb hs hz hii ii
      refine xn ?_
      obtain ⟨va, vc, rfl⟩ := iU wU
      have k4 : Kp [132] w3 w4 := GN (k3.own e2 (by decide)) g4 (by decide)
      refine xw ?_
      refine Shut.df hX rfl rfl xB _ rfl rfl (v := .slice va (j + 1) vc) rfl (k4.blk (k3.blk e1 (by decide)) (by decide)) (by kernel_rfl) rfl (Nat.le_of_ble_eq_true rfl) [.slice va (j + 1) vc, .slice none 0 0] rfl (fun w5 hb5 o5 => ?_)
      refine xn ?_
      refine xw ?_
      have k5 : Kp [131] w4 w5 := (GB.only o5).kp fun b hb => by cases hb; exact ⟨_, _, _, k4.blk (k3.blk e1 (by decide)) (by decide), by decide⟩
      have Xz : gl.length = j := by have := e2.1; omega
      rw [oU j (by omega)]
      refine hback _ _ _ ?_ ⟨j + 1, .slice va (j + 1) vc, rfl, by omega, dM rfl, ⟨hb5, _, k5.own wU (by decide), fun t ht => ?_⟩, ?_, ?_⟩
      · omega
      · by_cases htj : t < j
        · obtain ⟨s, e4, e5⟩ := e3 t htj
          exact ⟨s, by rw [List.getElem?_append_left (by omega)]; exact e4, ((e5.kp k3 pI (by decide)).kp k4 IW (by decide)).kp k5 IV (by decide)⟩
        · obtain rfl : t = j := by omega
          refine ⟨.slice sa i sc, by rw [List.getElem?_append_right (by omega), Xz]; simp, Ex.kp (Ex.kp (Ex.kp ⟨pl, hpl, hrs⟩ k3 pI (by decide)) k4 IW (by decide)) k5 IV (by decide)⟩
      · intro b hb
        rcases l4 b hb with h | h
        · exact hgv b h
        · have := g2.size; have := g20.size; have := g3.size; omega
      · exact (((g2.trans g20).trans g3).newer g4 hgv).fresh (GB.only o5) l1
  · have hlt' : ¬ (j : Int) < n := by omega
    refine xw ?_
    refine xg ?_
    refine aj.ret hX.c ?_
    obtain rfl : j = n := by omega
    exact hk _ _ _ rfl (mD rfl Tryz.func18 rfl) ⟨bc, gv, rfl, l1, hcm, g2⟩
end
end Go.Proofs.YtignemioillaiaaGreat
