/- Crash in a cluster; any Deliver of the law Calls; pick. -/
import Derived.Test.YtignemioillaiaaGreatG39
import Derived.Test.YtignemioillaiaaGreatG41
import Derived.Test.YtignemioillaiaaGreatG45
namespace Go.Proofs.YtignemioillaiaaGreat
set_option maxHeartbeats 8000000
set_option maxRecDepth 100000
section
open Go Go.Conc Go.RowKit
theorem CS.Xw {w w' : World} {bc : Nat} {gv sv : Value} {q : List cB} {n sz : Nat} {B : Nat → Nat → Nat} {F : Nat → Nat → Rp} (h : CS w bc gv sv q n sz B F) {g i : Nat} (hg : g < n) (hi : i < sz) (hG : GB (some (B g i)) w w') {r' : Rp} (hr : RS w' (B g i) r' g i n sz) : CS w' bc gv sv q n sz B (upd F g i r') := by
  have h0 := h.rep g i hg hi
  have UM : GS (fun x => x = B g i) w w' := ⟨hG.os, hG.out, hG.size, fun x hx hn => hG.block x hx fun e => hn (by cases e; rfl)⟩
  have hA : Ep w (fun x => x = B g i) := fun x hx => by cases hx; exact ⟨_, _, h0.mem, .inr (.inr rfl)⟩
  have hnb : bc ≠ B g i := fun e => by
    have := h0.mem
    rw [Rp.At, ← e, h.fJ] at this
    cases this
  refine ⟨hG.get h.fJ fun e => hnb (by injection e), (hG.kp (T := [152]) fun b hb => by cases hb; exact ⟨_, _, _, h0.mem, by decide⟩).own h.row (by decide), h.len, fun g' i' hg' hi' => (h.ptr g' i' hg' hi').gs UM hA, fun g' i' hg' hi' => ?_⟩
  have h1 := h.rep g' i' hg' hi'
  by_cases hgi : g' = g ∧ i' = i
  · obtain ⟨rfl, rfl⟩ := hgi
    rw [upd_same]
    exact hr
  · rw [tY _ _ hgi]
    refine h1.turn UM hA ?_ (oJ.refl _) h1.ob
    refine UM.get h1.mem fun e => ?_
    rw [e] at h1
    exact hgi (h1.inj h0)
def GY (pb : Int → Int → ByteArray) (F : Nat → Nat → Rp) (n sz : Nat) (p : cB) : Prop :=
  (∃ (g i j : Nat) (bn bi : Int), p = ⟨g, i, g, j, pb bn bi⟩ ∧ g < n ∧ j < sz ∧ uz bn bi (F g j).bn (F g j).bi = false ∧ ¬(bn = (F g j).bn ∧ bi = (F g j).bi) ∧ (F g j).sn = 0 ∧ 0 < bn ∧ bn < 4294967296 ∧ 0 ≤ bi ∧ bi < 256) ∨
  (∃ (fr : Int) (g j : Nat) (d : ByteArray), p = ⟨255, fr, g, j, d⟩ ∧ g < n ∧ j < sz ∧ (F g j).ro = 0 ∧ d.size ≤ 1000)
theorem Az {K : Machine → Trace → Prop} {pb pq : Int → Int → ByteArray} (mK : uA pb pq) {w : World} {bc : Nat} {gv sv : Value} {q : List cB} {n sz : Nat} {B : Nat → Nat → Nat} {F : Nat → Nat → Rp} (h : CS w bc gv sv q n sz B F) (hn : n ≤ 4) (hs : sz ≤ 5) (hq : ∀ p ∈ q, GY pb F n sz p) (k : Int) {cF : Frame} {cs : List Frame}
    (hk : ∀ w4 dR q4 F4 v, CS w4 bc gv dR q4 n sz B F4 → ((v = 0 ∧ 0 ≤ k ∧ k < q.length) ∨ (v = 7 ∧ ¬(0 ≤ k ∧ k < q.length))) → GS (CA n sz bc B sv) w w4 → Ay w sv dR → XR Tryz.prog K (G (cF.finish (.int .i64 v)) cs) w4) :
    XR Tryz.prog K (G (Frame.enter Tryz.prog 24 #[.pointer (some ⟨bc, 0, none⟩), .int .i64 k] .normal) (cF :: cs)) w := by
  by_cases hin : 0 ≤ k ∧ k < q.length
  · obtain ⟨m, rfl⟩ : ∃ m : Nat, k = m := ⟨k.toNat, by omega⟩
    have hm : m < q.length := by omega
    have hqm : q[m]? = some q[m] := List.getElem?_eq_getElem hm
    rcases hq q[m] (List.getElem_mem hm) with ⟨g, i, j, bn, bi, hp, hg, hj, hb1, hb2, hb3, hb4, hb5, hb6, vV⟩ | ⟨fr, g, j, d, hp, hg, hj, hro, hd⟩
    · rw [hp] at hqm
      refine CU h hn hs hqm hg hj (Q := fun _ _ => True) (fun w1 g1 => ?_) (fun w4 dR r3 ps _ hc hG hV => hk w4 dR _ _ 0 hc (.inl ⟨rfl, hin⟩) hG hV)
      have hR := (h.ek g1).rep g j hg hj
      refine aX.mono (M4 pq (A := (· = B g j)) (w0 := w1) (F g j) w1 (B g j) ⟨hR.mem, rfl, GS.refl _ _, by rw [hR.ob]; exact qj _ _ _, by rw [hR.ob]; nofun⟩ hR.es ⟨g, i, g, j, pb bn bi⟩ bn bi 0 hb1 hb2 (by show (g : Int) < 255; omega) hb3 hb4 (mK.read bn bi (by omega) hb5 hb6 vV) (mK.prom bn bi (by omega) hb5 hb6 vV)) ?_
      rintro v w' ⟨rfl, ob, hW⟩
      exact ⟨rfl, _, _, hW, ⟨rfl, rfl, rfl, rfl, ⟨rfl, rfl, rfl, rfl, rfl, rfl⟩, ⟨rfl, rfl, rfl, rfl, rfl, rfl, rfl, rfl⟩⟩, by simp, trivial⟩
    · rw [hp] at hqm
      refine CU h hn hs hqm hg hj (Q := fun _ _ => True) (fun w1 g1 => ?_) (fun w4 dR r3 ps _ hc hG hV => hk w4 dR _ _ 0 hc (.inl ⟨rfl, hin⟩) hG hV)
      have hR := (h.ek g1).rep g j hg hj
      refine aX.mono (PV (A := (· = B g j)) (w0 := w1) (F g j) w1 (B g j) ⟨hR.mem, rfl, GS.refl _ _, by rw [hR.ob]; exact qj _ _ _, by rw [hR.ob]; nofun⟩ fr g j d hro (mK.any d hd)) ?_
      rintro v w' ⟨rfl, sn, hW⟩
      exact ⟨rfl, _, _, hW, ⟨rfl, rfl, rfl, rfl, ⟨rfl, rfl, rfl, rfl, rfl, rfl⟩, ⟨rfl, rfl, rfl, rfl, rfl, rfl, rfl, rfl⟩⟩, by simp, trivial⟩
  · refine CV w bc gv sv q h.fJ h.row k (by omega) true qd (XR Tryz.prog K) (cF :: cs) jc fun fr v w' _ hl hp => ?_
    obtain ⟨rfl, g1⟩ := hp
    exact jc.back hl (hk w' sv q F 7 (h.ek g1) (.inr ⟨rfl, hin⟩) ((GS.refl _ w).ek g1) fun x hx => .inl hx)
structure Lw (W w : World) (bc n sz : Nat) (B : Nat → Nat → Nat) (sv : Value) : Prop where
  gb : GB none W w
  Nv : W.heap.size ≤ bc
  lB : ∀ g i, g < n → i < sz → W.heap.size ≤ B g i
  UN : ∀ x, sv.ownBlock = some x → W.heap.size ≤ x
theorem Lw.ek {W w w' : World} {bc n sz : Nat} {B : Nat → Nat → Nat} {sv : Value} (h : Lw W w bc n sz B sv) (k : GB none w w') : Lw W w' bc n sz B sv := ⟨h.gb.trans k, h.Nv, h.lB, h.UN⟩
theorem Lw.step {W w w' : World} {bc n sz : Nat} {B : Nat → Nat → Nat} {sv dR : Value} (h : Lw W w bc n sz B sv) (k : GS (CA n sz bc B sv) w w') (v : Ay w sv dR) : Lw W w' bc n sz B dR := by
  refine ⟨⟨k.os.trans h.gb.os, k.out.trans h.gb.out, Nat.le_trans h.gb.size k.size, fun x hx _ => (k.block x (Nat.lt_of_lt_of_le hx h.gb.size) ?_).trans (h.gb.block x hx nofun)⟩, h.Nv, h.lB, fun x hx => (v x hx).elim (h.UN x) fun e => Nat.le_trans h.gb.size e⟩
  rintro (rfl | ⟨g, i, hg, hi, rfl⟩ | e)
  · have := h.Nv; omega
  · have := h.lB g i hg hi; omega
  · have := h.UN x e.symm; omega
noncomputable def c19 : Code := Tryz.f19.body.getD .skip
theorem GZ : Tryz.f19.body = some c19 := by
  unfold c19
  rfl
theorem Ti (x0 x1 : Value) : Frame.enter Tryz.prog 19 #[x0, x1] .normal = (Go.Conc.base 19).at ⟨#[x0, x1, undef, undef, undef, undef, undef, undef, undef, undef, undef, undef, undef], []⟩ [.code c19] := by
  have h := enter_at (P := Tryz.prog) #[x0, x1] Tryz.func19 GZ
  rw [show Tryz.f19.ntmps = 13 from rfl] at h
  rw [h]
  walk_nrm
theorem G5 (w : World) (c : Int) (n : Nat) (hn : n = 3 ∨ n = 4) (_h0 : -9223372036854775808 ≤ c) (_h1 : c < 9223372036854775808) : aX Tryz.prog 19 #[.int .i64 c, .int .i64 n] w (fun v w' => (∃ m : Nat, v = .int .i64 m ∧ m < n) ∧ GB none w w') := by
  intro main D X cs hX hk
  rw [Ti]
  simp only [c19, Tryz.f19, Option.getD]
  obtain ⟨a, ha0, ha⟩ : ∃ a : Int, 0 ≤ a ∧ ((c < 0 ∧ IntKind.i64.wrap (-IntKind.i64.wrap (c + 1)) = a) ∨ (¬ c < 0 ∧ c = a)) := by
    by_cases hc : c < 0
    · refine ⟨_, ?_, .inl ⟨hc, rfl⟩⟩
      rw [IntKind.wrap_i64, IntKind.wrap_i64]
      omega
    · exact ⟨c, by omega, .inr ⟨hc, rfl⟩⟩
  have YG : ∃ m : Nat, a.tmod 3 = m ∧ m < 3 := ⟨(a.tmod 3).toNat, by rw [Int.tmod_eq_emod_of_nonneg ha0]; omega, by rw [Int.tmod_eq_emod_of_nonneg ha0]; omega⟩
  have YH : ∃ m : Nat, a.tmod 4 = m ∧ m < 4 := ⟨(a.tmod 4).toNat, by rw [Int.tmod_eq_emod_of_nonneg ha0]; omega, by rw [Int.tmod_eq_emod_of_nonneg ha0]; omega⟩
  obtain ⟨m3, e3, l3⟩ := YG
  obtain ⟨m4, e4, l4⟩ := YH
  rcases hn with rfl | rfl
  · rcases ha with ⟨hc, ha⟩ | ⟨hc, rfl⟩
    · refine xw ?_
      refine xg ?_
      refine aj.ret hX.c ?_
      exact hk _ _ _ rfl (cu rfl Tryz.func19 rfl) ⟨⟨m3, rfl, l3⟩, GB.refl _ _⟩
    · refine xw ?_
      refine xg ?_
      refine aj.ret hX.c ?_
      exact hk _ _ _ rfl (cu rfl Tryz.func19 rfl) ⟨⟨m3, rfl, l3⟩, GB.refl _ _⟩
  · rcases ha with ⟨hc, ha⟩ | ⟨hc, rfl⟩
    · refine xw ?_
      refine xg ?_
      refine aj.ret hX.c ?_
      exact hk _ _ _ rfl (cu rfl Tryz.func19 rfl) ⟨⟨m4, rfl, l4⟩, GB.refl _ _⟩
    · refine xw ?_
      refine xg ?_
      refine aj.ret hX.c ?_
      exact hk _ _ _ rfl (cu rfl Tryz.func19 rfl) ⟨⟨m4, rfl, l4⟩, GB.refl _ _⟩
noncomputable def c4 : Code := Tryz.f4.body.getD .skip
theorem Vw : Tryz.f4.body = some c4 := by
  unfold c4
  rfl
theorem UO (x0 x1 x2 x3 x4 : Value) : Frame.enter Tryz.prog 4 #[x0, x1, x2, x3, x4] .normal = (Go.Conc.base 4).at ⟨#[x0, x1, x2, x3, x4, undef, undef, undef, undef, undef, undef, undef, undef, undef, undef, undef, undef, undef, undef, undef, undef, undef, undef, undef, undef, undef, undef, undef, undef, undef, undef, undef, undef, undef, undef, undef, undef, undef, undef, undef, undef, undef, undef, undef, undef, undef, undef, undef, undef, undef, undef, undef, undef, undef, undef, undef, undef, undef, undef, undef, undef, undef, undef, undef, undef, undef, undef, undef, undef, undef, undef, undef, undef, undef, undef, undef, undef, undef, undef, undef, undef, undef, undef, undef, undef, undef, undef, undef, undef, undef, undef, undef, undef, undef, undef, undef, undef, undef, undef, undef, undef, undef, undef, undef, undef, undef, undef, undef, undef, undef, undef, undef, undef, undef, undef, undef, undef, undef, undef, undef, undef, undef, undef, undef, undef, undef, undef, undef, undef, undef, undef, undef, undef, undef, undef, undef, undef, undef, undef, undef, undef, undef, undef, undef, undef, undef, undef, undef, undef, undef, undef, undef, undef, undef, undef, undef, undef, undef, undef, undef, undef, undef, undef, undef, undef, undef, undef, undef, undef, undef, undef, undef, undef, undef, undef, undef, undef, undef, undef, undef, undef, undef, undef, undef, undef, undef, undef, undef, undef, undef, undef, undef, undef, undef, undef, undef, undef, undef, undef, undef, undef, undef, undef, undef, undef, undef, undef, undef, undef, undef, undef, undef, undef, undef, undef, undef, undef, undef, undef, undef, undef], []⟩ [.code c4] := by
  have h := enter_at (P := Tryz.prog) #[x0, x1, x2, x3, x4] Tryz.func4 Vw
  rw [show Tryz.f4.ntmps = 221 from rfl] at h
  rw [h]
  walk_nrm
noncomputable def CY : Code := cr (cr (cr (cr c4)))
noncomputable def Ev : Code := cr CY
noncomputable def Jw : Code := cr (cr (cr Ev))
theorem VR (l : Nat) : (if (l : Int) < if (0 : Int) < 0 then 0 else 0 then (l : Int) else if (0 : Int) < 0 then 0 else 0) = ((0 : Nat) : Int) := by
  rw [if_neg (by simp)]
  simp
theorem YI (l : Nat) : (if (l : Int) < if (-5 : Int) < 0 then 0 else -5 then (l : Int) else if (-5 : Int) < 0 then 0 else -5) = ((0 : Nat) : Int) := by
  rw [if_neg (by simp)]
  simp
theorem VS {l m : Nat} (_h : m ≤ l) : (if (l : Int) < if (m : Int) < 0 then 0 else (m : Int) then (l : Int) else if (m : Int) < 0 then 0 else (m : Int)) = ((m : Nat) : Int) := by
  rw [if_neg (show ¬ (m : Int) < 0 by omega), if_neg (by omega)]
theorem YJ {l : Nat} (_h : l ≤ 20000) : (if (l : Int) < if (1099511627776 : Int) < 0 then 0 else 1099511627776 then (l : Int) else if (1099511627776 : Int) < 0 then 0 else 1099511627776) = ((l : Nat) : Int) := by
  rw [if_neg (show ¬ (1099511627776 : Int) < 0 by decide), if_pos (by omega)]
theorem Jy {rg ri g : Int} : ∀ {k : Nat} {a : Int × Int}, a ∈ lT rg ri g k → ∃ j : Nat, j < k ∧ a = (g, (j : Int)) ∧ ¬(rg = g ∧ ri = (j : Int))
  | 0, _, h => by cases h
  | k + 1, a, h => by
    have h' : a ∈ lT rg ri g k ++ if rg = g ∧ ri = (k : Int) then [] else [(g, (k : Int))] := h
    rcases List.mem_append.1 h' with h1 | h1
    · obtain ⟨j, hj, e⟩ := Jy h1
      exact ⟨j, by omega, e⟩
    · by_cases hc : rg = g ∧ ri = (k : Int)
      · rw [if_pos hc] at h1
        cases h1
      · rw [if_neg hc] at h1
        exact ⟨k, by omega, by simpa using h1, hc⟩
end
end Go.Proofs.YtignemioillaiaaGreat
