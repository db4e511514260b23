/- The end of a run beside leavers. -/
import Derived.Conc.Holds
import Derived.Test.YtignemioillaiaaGreatG16
import Derived.Test.YtignemioillaiaaGreatG38
import Derived.ProofKit
import Derived.Deep.Slices
import Derived.Deep.Strs
namespace Go.Proofs.YtignemioillaiaaGreat
set_option maxHeartbeats 8000000
set_option maxRecDepth 100000
section
open Go Go.Conc
def G7 (P : Program) (Post : Value → World → Prop) (m : Machine) (t : Trace) : Prop := ∃ N last o w' t', runNT P (N + 1) m t = (.ended o w', t') ∧ runN P N m = .next last ∧ Go.step P last = .ended o w' ∧ Go.Conc.Good P Post last o w' t'
theorem Tj {P : Program} {i k : Nat} {m m' last : Machine} {t t' : Trace} (h : runNT P i m t = (.next m', t')) (h2 : runN P k m' = .next last) : runN P (i + k) m = .next last := by
  rw [← runNT_fst _ _ _ t, rT i k h, runNT_fst, h2]
theorem Tk {P : Program} {Post : Value → World → Prop} {m : Machine} {t : Trace} (h : Reaches P (G7 P Post) m t) : G7 P Post m t := by
  obtain ⟨i, m', t', h1, N, last, o, w', t2, h2, h3, h4, h5⟩ := h
  exact ⟨i + N, last, o, w', t2, (rT i (N + 1) h1).trans h2, Tj h1 h3, h4, h5⟩
theorem Tm {P : Program} {Post : Value → World → Prop} {g : Goroutine} {w : World} (hr : g.status = .running) {v : Value} (hs : ∀ w, stepG P true g w = .ended (.done v) w #[]) (hp : ∀ w₁, di w w₁ → Post v w₁) : XR P (G7 P Post) g w := by
  intro w₁ h1 gs sl t q h0 hL hP
  obtain ⟨B, hP⟩ := hP
  refine Reaches.here (beside_ends (n := 0) (D := fun _ _ _ => False) (fun _ _ _ h => h.elim) h0 hL.leavers hP (Goes.stop fun w₂ h2 => ⟨hr, v, #[], hs w₂, by simp, hp w₂ (ji _ _ _ h1 (vF h2))⟩))
theorem Qk {P : Program} {Post : Value → World → Prop} {g : Goroutine} {w : World} (h : XR P (G7 P Post) g w) : G7 P Post (crowd #[g] w none) #[] :=
  Tk (h w (iF w) #[g] none #[] (fun _ => 0) rfl ⟨fun i x hi hx => absurd ((Array.getElem?_eq_some_iff.1 hx).1) (by simp; omega), fun _ _ => rfl⟩ ⟨0, past_nil⟩)
theorem NB {P : Program} {fr : Frame} {w : World} {v : Value} {t : Tmp} {fn : Func} (hfn : P.funcs[fr.fn]? = some fn) (hin : P.inits.idxOf? fr.fn = none) (hres : fn.results = #[.tmp t]) (hl : fr.leaving P w (.returned v)) (w₁ : World) : stepG P true (G fr []) w₁ = .ended (.done v) w₁ #[] := by
  obtain ⟨hm, hd, hk, fn', hfn', hr⟩ := hl
  obtain rfl : fn' = fn := Option.some.inj (hfn'.symm.trans hfn)
  generalize hu : fr.tmps.getD t undef = u
  have e : results fn' fr.tmps = (pure u : Sem Value) := by rw [← hu]; simp [results, hres]
  rw [e] at hr
  have hr2 : (Result.ok u w : Result Value) = .ok v w := hr
  injection hr2 with hv _
  subst hv
  have e2 : Sem.runT P (pure u : Sem Value) w₁ #[] = (.ok u w₁, #[]) := rfl
  simp only [G, stepG, unwind, doReturn, hm, hd, hk, hfn, e, e2, hin, seen_none]
  rfl
end
section
open Go Go.Conc Go.RowKit
def mM (k bn bi : Int) : aM := ⟨k, iq, lY, bn, bi, 0, lJ, ⟨none, 0, 0⟩, fH, 0, 0, []⟩
theorem C8 (B : Nat) (w : World) (size : Nat) : cz B w ⟨none, 0, 0⟩ size [] := ⟨rfl, Nat.le_refl _, by decide, fun h => absurd h (by decide)⟩
theorem U0 (B : Nat) (w : World) : gq B w ⟨none, 0, 0⟩ [] := ⟨C8 B w 20, fun i v h => by simp at h⟩
theorem Rb {k bn bi : Int} (hk : k = 3 ∨ k = 4) (h0 : 0 ≤ bn) (h1 : bn < 4294967296) (h2 : 0 ≤ bi) (h3 : bi < 256) : (mM k bn bi).wf := by
  have hr : iq.wf := ⟨eF, eG, eF, jg, jg, jg, eF⟩
  have hg : fH.wf := ⟨eF, eF, eG, jg, jg, fun i x h => by simp [fH] at h, fun i x h => by simp [fH] at h⟩
  refine ⟨?_, hr, ⟨eF, eG, jg, eF, jg, eF⟩, ⟨h0, h1⟩, ⟨h2, h3⟩, eG, ⟨eF, hr, hg, eF, eG⟩, fun i x h => by simp [mM] at h, hg, eF, eG⟩
  rcases hk with rfl | rfl
  · show U8 3
    unfold U8; decide
  · show U8 4
    unfold U8; decide
theorem Rc {k bn bi : Int} (hk : k = 3 ∨ k = 4) : (mM k bn bi).ok = true := by
  rcases hk with rfl | rfl <;> rfl
theorem U1 (k bn bi : Int) : (mM k bn bi).fit := ⟨⟨rfl, rfl⟩, ⟨rfl, rfl⟩, rfl, fun i x h => by simp [mM] at h⟩
theorem GB.of_below {w w' : World} (h : Below w.heap.size w w') : GB none w w' := ⟨h.os, h.output, h.size, fun x hx _ => h.block x hx⟩
theorem Re (k bn bi : Int) (hk : k = 3 ∨ k = 4) (h0 : 0 ≤ bn) (h1 : bn < 4294967296) (h2 : 0 ≤ bi) (h3 : bi < 256) (w1 : World) : aX Tryz.prog 158 #[.agg (mC k bn bi (.slice none 0 0)).toArray] w1 (fun v w' => (∃ e, v = .tuple #[.string (dI (mM k bn bi).bytes), .int .i64 e]) ∧ GB none w1 w') := by
  refine tT xK xK xK (fun w₁ hs => (wK k 0 0 0 0 0 0 0 0 0 0 0 false 0 0 bn bi 0 0 0 0 0 0 0 0 0 0 0 0 0 0 none 0 0 none 0 0 0 0 none 0 0 0 0 0 0 0 none 0 0 none 0 0 0 0 [] [] [] [] [] w₁ (U0 _ _) (C8 _ _ _) (C8 _ _ _) (C8 _ _ _) (C8 _ _ _) (Rb hk h0 h1 h2 h3) (Rc hk)).mono ?_) ?_
  · rintro e w' ⟨rfl, hb⟩
    exact ⟨⟨0, rfl⟩, ((GB.refl none w1).same hs).trans (GB.of_below hb)⟩
  · rintro v w w' hs ⟨⟨e, rfl⟩, hg⟩
    exact ⟨⟨e, rfl⟩, hg.same hs⟩
theorem Tn (s : ByteArray) : ∃ l : List Int, dI l = s ∧ fU l ∧ l.length = s.data.toList.length := by
  refine ⟨s.data.toList.map (fun b => (b.toNat : Int)), ?_, ?_, by simp⟩
  · apply ByteArray.ext
    rw [kX, List.map_map]
    have : (fun b : UInt8 => (fun n : Int => UInt8.ofNat n.toNat) (b.toNat : Int)) = id := by
      funext b; simp
    have e : ((fun n : Int => UInt8.ofNat n.toNat) ∘ fun b : UInt8 => (b.toNat : Int)) = id := this
    rw [e, List.map_id]
  · intro x hx
    obtain ⟨b, _, rfl⟩ := List.mem_map.1 hx
    have := b.toNat_lt
    omega
theorem U2 (d : ByteArray) (_hd : d.size ≤ 1000000) (w1 : World) : aX Tryz.prog 113 #[.string d] w1 (fun v w' => (∃ mv e k bn, v = .tuple #[.agg mv.toArray, .int .i64 e] ∧ PU mv k bn) ∧ GB none w1 w') := by
  obtain ⟨l, rfl, hb, hl⟩ := Tn d
  have hl' : l.length ≤ 1000000000000000 := by
    rw [hl]
    have : (dI l).size = (dI l).data.toList.length := Array.length_toList.symm
    omega
  refine tT xK xK xK (fun w₁ hs => ?_) ?_
  · obtain ⟨m, hm⟩ : ∃ m, (bT l).1 = m := ⟨_, rfl⟩
    obtain ⟨Rf, ⟨VV, VW, VX, Rh, VY, U3, U4⟩, ⟨VZ, V3, Ri, V4, V5, V6, V7⟩, mn, mid, Rj, ⟨NC, ⟨U5, U6, U7, ND, U9, Rk, Rl⟩, ⟨NF, NG, NH, Rm, Rn, ⟨Ro, Rq, Rs⟩, ⟨Rt, Ru, Rv⟩, vk, vo⟩, NI, Va⟩, ⟨V8, V9, Wd⟩, ⟨Rx, Ry, Rz, Vb, Vd, ⟨Ve, Vf, Vg⟩, ⟨Vh, Vi, Vj⟩, y5, y7⟩, RA, We, y9⟩ := m
    by_cases hg : (aM.mk Rf (aD.mk VV VW VX Rh VY U3 U4) (ay.mk VZ V3 Ri V4 V5 V6 V7) mn mid Rj (aR.mk NC (aD.mk U5 U6 U7 ND U9 Rk Rl) (ax.mk NF NG NH Rm Rn ⟨Ro, Rq, Rs⟩ ⟨Rt, Ru, Rv⟩ vk vo) NI Va) ⟨V8, V9, Wd⟩ (ax.mk Rx Ry Rz Vb Vd ⟨Ve, Vf, Vg⟩ ⟨Vh, Vi, Vj⟩ y5 y7) RA We y9).ok = true
    · by_cases hy : dI ((aM.mk Rf (aD.mk VV VW VX Rh VY U3 U4) (ay.mk VZ V3 Ri V4 V5 V6 V7) mn mid Rj (aR.mk NC (aD.mk U5 U6 U7 ND U9 Rk Rl) (ax.mk NF NG NH Rm Rn ⟨Ro, Rq, Rs⟩ ⟨Rt, Ru, Rv⟩ vk vo) NI Va) ⟨V8, V9, Wd⟩ (ax.mk Rx Ry Rz Vb Vd ⟨Ve, Vf, Vg⟩ ⟨Vh, Vi, Vj⟩ y5 y7) RA We y9).bytes) = dI l
      · refine (IA _ _ _ _ _ _ _ _ _ _ _ _ _ _ _ _ _ _ _ _ _ _ _ _ _ _ _ _ _ _ _ _ _ _ _ _ _ _ _ _ _ _ _ _ _ _ _ _ _ _ _ _ _ _ _ vk y5 vo y7 y9 l w₁ hb hl' hm hg hy).mono ?_
        rintro e w' ⟨fO, gV, gX, fP, gY, gZ, c1a, ib, ig, fQ, ik, il, va, vn, vc, eQ, rfl, _, _, _, _, _, _, _, hb⟩
        exact ⟨⟨_, _, _, _, rfl, ⟨rfl, rfl, rfl, rfl⟩⟩, ((GB.refl none w1).same hs).trans (GB.of_below hb)⟩
      · refine (OA _ _ _ _ _ _ _ _ _ _ _ _ _ _ _ _ _ _ _ _ _ _ _ _ _ _ _ _ _ _ _ _ _ _ _ _ _ _ _ _ _ _ _ _ _ _ _ _ _ _ _ _ _ _ _ vk y5 vo y7 y9 l w₁ hb hl' hm hg hy).mono ?_
        rintro e w' ⟨rfl, hb⟩
        exact ⟨⟨_, _, _, _, rfl, ⟨rfl, rfl, rfl, rfl⟩⟩, ((GB.refl none w1).same hs).trans (GB.of_below hb)⟩
    · refine (Oz _ _ _ _ _ _ _ _ _ _ _ _ _ _ _ _ _ _ _ _ _ _ _ _ _ _ _ _ _ _ _ _ _ _ _ _ _ _ _ _ _ _ _ _ _ _ _ _ _ _ _ _ _ _ _ vk y5 vo y7 y9 l w₁ hb hl' hm (by simpa using hg)).mono ?_
      rintro e w' ⟨rfl, hb⟩
      exact ⟨⟨_, _, _, _, rfl, ⟨rfl, rfl, rfl, rfl⟩⟩, ((GB.refl none w1).same hs).trans (GB.of_below hb)⟩
  · rintro v w w' hs ⟨hx, hg⟩
    exact ⟨hx, hg.same hs⟩
theorem Ql {bn bi : Int} (_h0 : 0 ≤ bn) (_h1 : bn < 4294967296) (_h2 : 0 ≤ bi) (_h3 : bi < 256) : fU (mM 3 bn bi).bytes := by
  have e : (mM 3 bn bi).bytes = [3, bn / 16777216, bn / 65536 % 256, bn / 256 % 256, bn % 256, bi] := rfl
  rw [e]
  intro x hx
  simp only [List.mem_cons, List.not_mem_nil, or_false] at hx
  rcases hx with rfl | rfl | rfl | rfl | rfl | rfl <;> omega
theorem Vk (bn bi : Int) (h0 : 0 ≤ bn) (h1 : bn < 4294967296) (h2 : 0 ≤ bi) (h3 : bi < 256) (w1 : World) : aX Tryz.prog 113 #[.string (dI (mM 3 bn bi).bytes)] w1 (fun v w' => (∃ mv, v = .tuple #[.agg mv.toArray, .int .i64 0] ∧ PT mv bn bi) ∧ GB none w1 w') := by
  refine tT xK xK xK (fun w₁ hs => ?_) ?_
  · have hm : (bT (mM 3 bn bi).bytes).1 = (mM 3 bn bi).strip := by rw [Tx (Rc (.inl rfl)) (Rb (.inl rfl) h0 h1 h2 h3) (U1 _ _ _)]
    refine (IA 3 0 0 0 0 0 0 0 0 0 0 0 false 0 0 bn bi 0 0 0 0 0 0 0 0 0 0 0 0 0 0 none 0 0 none 0 0 0 0 none 0 0 0 0 0 0 0 none 0 0 none 0 0 0 0 [] [] [] [] [] _ w₁ (Ql h0 h1 h2 h3) (by show 6 ≤ 1000000000000000; decide) hm rfl rfl).mono ?_
    rintro e w' ⟨fO, gV, gX, fP, gY, gZ, c1a, ib, ig, fQ, ik, il, va, vn, vc, eQ, rfl, _, _, _, _, _, _, _, hb⟩
    exact ⟨⟨_, rfl, ⟨rfl, rfl, rfl, rfl, rfl⟩⟩, ((GB.refl none w1).same hs).trans (GB.of_below hb)⟩
  · rintro v w w' hs ⟨hx, hg⟩
    exact ⟨hx, hg.same hs⟩
end
section
open Go.ChangeShapes Go.WideShapes Go.ChangeAt Go.RowKit
theorem Tryz.own : ownKnob Tryz.prog.godebug = none := by kernel_rfl
theorem Tryz.laidOut : laidOutB Tryz.prog = true := by kernel_rfl
section
variable {H : Type} {enc : TypeId × Value → H} {P : Program} {w : World}
end
theorem wf_u8 {n : Int} (h : (Lit.int .u8 n).wf = true) : 0 ≤ n ∧ n < 256 := by
  have h' : IntKind.min .u8 ≤ n ∧ n ≤ IntKind.max .u8 := by simpa [Lit.wf] using h
  have e1 : IntKind.min .u8 = 0 := by decide
  have e2 : IntKind.max .u8 = 255 := by decide
  omega
theorem NJ {H : Type} {enc : TypeId × Value → H} {W : World} {base : Nat} {sp : Nat → Bool} {held : Bool} (b : Bool) : DataW.Trod enc Tryz.prog W base sp held 4 (.bool b) (.lit (.bool b)) [] := ⟨1, by simp [DataW.trod, Value.cells, Tryz.underlying4]⟩
end
end Go.Proofs.YtignemioillaiaaGreat
