/- What is read is within bounds, and fits: no program text here. -/
import Derived.Test.YtignemioillaiaaGreatG14
namespace Go.Proofs.YtignemioillaiaaGreat
set_option maxHeartbeats 8000000
set_option maxRecDepth 100000
section
open Go.RowKit
theorem n1 {l : List Int} (h : fU l) : U8 (num 1 l).1 := uG h
theorem n4 {l : List Int} (h : fU l) : gm (num 4 l).1 := Iq h
theorem n8 {l : List Int} (h : fU l) : gp (num 8 l).1 := RI h
theorem eF : U8 0 := by unfold U8; decide
theorem eG : gm 0 := by unfold gm; decide
theorem jg : gp 0 := by unfold gp; decide
structure eY {α : Type} (P : α → Prop) (x : α × List Int) : Prop where
  a : P x.1
  b : fU x.2
theorem eY.ite {α : Type} {P : α → Prop} {p : Prop} [Decidable p] {x y : α × List Int} (h1 : eY P x) (h2 : eY P y) : eY P (if p then x else y) := by
  by_cases h : p
  · rw [if_pos h]; exact h1
  · rw [if_neg h]; exact h2
theorem eY.of {α : Type} {P : α → Prop} {x : α} {r : List Int} (h1 : P x) (h2 : fU r) : eY P (x, r) := ⟨h1, h2⟩
theorem FJ {c s k key v hi t : Int} (h1 : U8 c) (h2 : gm s) (h3 : U8 k) (h4 : gp key) (h5 : gp v) (h6 : gp hi) (h7 : U8 t) : aD.wf ⟨c, s, k, key, v, hi, t⟩ := ⟨h1, h2, h3, h4, h5, h6, h7⟩
theorem BP {c s key k v g : Int} {f : Bool} (h1 : U8 c) (h2 : gm s) (h3 : gp key) (h4 : U8 k) (h5 : gp v) (h6 : U8 g) : ay.wf ⟨c, s, key, k, f, v, g⟩ := ⟨h1, h2, h3, h4, h5, h6⟩
theorem Tz {k v : Int} (h1 : gp k) (h2 : gp v) : Row.wf ⟨k, v⟩ := ⟨h1, h2⟩
theorem BQ {k p s : Int} {q : aD} {r : ax} (h1 : U8 k) (h2 : q.wf) (h3 : r.wf) (h4 : U8 p) (h5 : gm s) : aR.wf ⟨k, q, r, p, s⟩ := ⟨h1, h2, h3, h4, h5⟩
theorem TA {s n i : Int} {c : aR} (h1 : gm s) (h2 : gm n) (h3 : U8 i) (h4 : c.wf) : bz.wf ⟨s, n, i, c⟩ := ⟨h1, h2, h3, h4⟩
theorem BR {l : List Int} (h : fU l) : eY aD.wf (aS l) := by
  unfold aS
  exact eY.ite (eY.of (FJ (n1 h) (n4 (aZ h)) (n1 (aZ (aZ h))) (n8 (aZ (aZ (aZ h)))) (n8 (aZ (aZ (aZ (aZ h))))) jg eF) (aZ (aZ (aZ (aZ (aZ h))))))
    (eY.ite (eY.of (FJ (n1 h) (n4 (aZ h)) (n1 (aZ (aZ h))) (n8 (aZ (aZ (aZ h)))) jg (n8 (aZ (aZ (aZ (aZ h))))) (n1 (aZ (aZ (aZ (aZ (aZ h))))))) (aZ (aZ (aZ (aZ (aZ (aZ h)))))))
      (eY.of (FJ (n1 h) (n4 (aZ h)) (n1 (aZ (aZ h))) (n8 (aZ (aZ (aZ h)))) jg jg eF) (aZ (aZ (aZ (aZ h))))))
theorem FK {l : List Int} (h : fU l) : eY ay.wf (aW l) := by
  have b1 : fU (num 1 l).2 := aZ h
  have b2 : fU (num 4 (num 1 l).2).2 := aZ b1
  have b3 : fU (num 8 (num 4 (num 1 l).2).2).2 := aZ b2
  have b4 : fU (num 1 (num 8 (num 4 (num 1 l).2).2).2).2 := aZ b3
  have b5 : fU (num 1 (num 1 (num 8 (num 4 (num 1 l).2).2).2).2).2 := aZ b4
  unfold aW
  exact eY.ite (eY.ite (eY.of (BP (n1 h) (n4 b1) (n8 b2) (n1 b3) jg eF) b5) (eY.of (BP (n1 h) (n4 b1) (n8 b2) (n1 b3) (n8 b5) eF) (aZ b5)))
    (eY.ite (eY.of (BP (n1 h) (n4 b1) (n8 b2) (n1 b3) jg (n1 b4)) b5) (eY.of (BP (n1 h) (n4 b1) (n8 b2) (n1 b3) jg eF) b4))
theorem TB {l : List Int} (h : fU l) : eY Row.wf (dE l) := by
  unfold dE
  exact eY.of (Tz (n8 h) (n8 (aZ h))) (aZ (aZ h))
def Each {α : Type} (P : α → Prop) (xs : List α) : Prop := ∀ (i : Nat) (x : α), xs[i]? = some x → P x
theorem De {α : Type} {f : Rd α} {P : α → Prop} (hf : ∀ l, fU l → eY P (f l)) : ∀ (n : Nat) (l : List Int), fU l → eY (Each P) (bB f n l) := by
  intro n
  induction n with
  | zero => intro l h; exact ⟨by intro i x hx; simp [bB] at hx, h⟩
  | succ n ih =>
    intro l h
    unfold bB
    by_cases hl : l = []
    · rw [if_pos hl]
      exact ⟨by intro i x hx; simp at hx, by intro x hx; simp at hx⟩
    · rw [if_neg hl]
      dsimp only
      obtain ⟨h1, h2⟩ := hf l h
      obtain ⟨h3, h4⟩ := ih _ h2
      refine ⟨?_, h4⟩
      intro i x hx
      cases i with
      | zero => simp at hx; subst hx; exact h1
      | succ i => exact h3 i x (by simpa using hx)
theorem TC {a b s lo hi : Int} {rs ds : Sl} {rows : List Row} {bC : List ay} (h1 : U8 a) (h2 : U8 b) (h3 : gm s) (h4 : gp lo) (h5 : gp hi) (h6 : Each Row.wf rows) (h7 : Each ay.wf bC) : ax.wf ⟨a, b, s, lo, hi, rs, ds, rows, bC⟩ := ⟨h1, h2, h3, h4, h5, h6, h7⟩
theorem BS {l : List Int} (h : fU l) : eY ax.wf (bf l) := by
  have b1 : fU (num 1 l).2 := aZ h
  have b2 : fU (num 1 (num 1 l).2).2 := aZ b1
  have b3 : fU (num 4 (num 1 (num 1 l).2).2).2 := aZ b2
  have b4 : fU (num 8 (num 4 (num 1 (num 1 l).2).2).2).2 := aZ b3
  have b5 : fU (num 8 (num 8 (num 4 (num 1 (num 1 l).2).2).2).2).2 := aZ b4
  have w1 := De (f := dE) (P := Row.wf) (fun l h => TB h) (num 1 (num 8 (num 8 (num 4 (num 1 (num 1 l).2).2).2).2).2).1.toNat _ (aZ (n := 1) b5)
  have w2 := De (f := aW) (P := ay.wf) (fun l h => FK h) (num 1 (bB dE (num 1 (num 8 (num 8 (num 4 (num 1 (num 1 l).2).2).2).2).2).1.toNat (num 1 (num 8 (num 8 (num 4 (num 1 (num 1 l).2).2).2).2).2).2).2).1.toNat _ (aZ (n := 1) w1.2)
  unfold bf
  exact eY.of (TC (n1 h) (n1 b1) (n4 b2) (n8 b3) (n8 b4) w1.1 w2.1) w2.2
theorem iZ : iq.wf := ⟨eF, eG, eF, jg, jg, jg, eF⟩
theorem mf : lY.wf := ⟨eF, eG, jg, eF, jg, eF⟩
theorem ja : fH.wf := ⟨eF, eF, eG, jg, jg, by intro i x hx; simp [fH] at hx, by intro i x hx; simp [fH] at hx⟩
theorem nC : lJ.wf := ⟨eF, iZ, ja, eF, eG⟩
theorem uI {l : List Int} (h : fU l) : eY aR.wf (aa l) := by
  have b1 : fU (num 1 l).2 := aZ h
  unfold aa
  exact eY.ite (eY.of (BQ (n1 h) (BR b1).1 ja eF eG) (BR b1).2)
    (eY.ite (eY.of (BQ (n1 h) iZ (BS b1).1 eF eG) (BS b1).2)
      (eY.ite (eY.of (BQ (n1 h) iZ ja (n1 b1) (n4 (aZ b1))) (aZ (aZ b1)))
        (eY.of (BQ (n1 h) iZ ja eF eG) b1)))
theorem TD {l : List Int} (h : fU l) : eY bz.wf (aP l) := by
  have b1 : fU (num 4 l).2 := aZ h
  have b2 : fU (num 4 (num 4 l).2).2 := aZ b1
  have b3 : fU (num 1 (num 4 (num 4 l).2).2).2 := aZ b2
  unfold aP
  exact eY.of (TA (n4 h) (n4 b1) (n1 b2) (uI b3).1) (uI b3).2
theorem oC {k n i s p q : Int} {a : aD} {b : ay} {c : aR} {r : ax} {vs : Sl} {aV : List bz} (h1 : U8 k) (h2 : a.wf) (h3 : b.wf) (h4 : gm n) (h5 : U8 i) (h6 : gm s) (h7 : c.wf) (h8 : Each bz.wf aV) (h9 : r.wf) (h10 : U8 p) (h11 : gm q) : aM.wf ⟨k, a, b, n, i, s, c, vs, r, p, q, aV⟩ := ⟨h1, h2, h3, h4, h5, h6, h7, h8, h9, h10, h11⟩
theorem mg : Each bz.wf [] := by intro i x hx; simp at hx
theorem FL {l : List Int} (h : fU l) : eY aM.wf (bT l) := by
  have b1 : fU (num 1 l).2 := aZ h
  have b2 : fU (num 4 (num 1 l).2).2 := aZ b1
  have b3 : fU (num 1 (num 4 (num 1 l).2).2).2 := aZ b2
  have b4 : fU (num 4 (num 1 (num 4 (num 1 l).2).2).2).2 := aZ b3
  have w1 := De (f := aP) (P := bz.wf) (fun l h => TD h) (num 1 (num 1 (num 4 (num 1 l).2).2).2).1.toNat _ (aZ (n := 1) b3)
  unfold bT
  refine eY.ite ?_ (eY.ite ?_ (eY.ite ?_ (eY.ite ?_ (eY.ite ?_ (eY.ite ?_ (eY.ite ?_ (eY.ite ?_ (eY.ite ?_ ?_))))))))
  · exact eY.of (oC (n1 h) (BR b1).1 mf eG eF eG nC mg ja eF eG) (BR b1).2
  · exact eY.of (oC (n1 h) iZ (FK b1).1 eG eF eG nC mg ja eF eG) (FK b1).2
  · exact eY.of (oC (n1 h) iZ mf (n4 b1) (n1 b2) eG nC mg ja eF eG) b3
  · exact eY.of (oC (n1 h) iZ mf (n4 b1) (n1 b2) eG nC w1.1 ja eF eG) w1.2
  · exact eY.of (oC (n1 h) iZ mf (n4 b1) (n1 b2) (n4 b3) (uI b4).1 mg ja eF eG) (uI b4).2
  · exact eY.of (oC (n1 h) iZ mf (n4 b1) (n1 b2) (n4 b3) nC mg ja eF eG) b4
  · exact eY.of (oC (n1 h) iZ mf eG eF (n4 b1) (uI b2).1 mg ja eF eG) (uI b2).2
  · exact eY.of (oC (n1 h) iZ mf eG eF eG nC mg (BS b1).1 eF eG) (BS b1).2
  · exact eY.of (oC (n1 h) iZ mf eG eF eG nC mg ja (n1 b1) (n4 (aZ b1))) (aZ (aZ b1))
  · exact eY.of (oC (n1 h) iZ mf eG eF eG nC mg ja eF eG) b1
theorem wS (l : List Int) : (bT l).1.strip = (bT l).1 := by
  have hv : ∀ (n : Nat) (l : List Int), ((bB aP n l).1.map bz.strip) = (bB aP n l).1 := by
    intro n
    induction n with
    | zero => intro l; rfl
    | succ n ih =>
      intro l
      unfold bB
      by_cases hl : l = []
      · rw [if_pos hl]; rfl
      · rw [if_neg hl]; dsimp only
        rw [List.map_cons, Ea, ih]
  have hm : ∀ (k n i s p q : Int) (a : aD) (b : ay) (c : aR) (r : ax) (aV : List bz), c.strip = c → r.strip = r → aV.map bz.strip = aV → (aM.mk k a b n i s c ⟨none, aV.length, aV.length⟩ r p q aV).strip = aM.mk k a b n i s c ⟨none, aV.length, aV.length⟩ r p q aV := by
    intro k n i s p q a b c r aV h1 h2 h3
    simp only [aM.strip, h1, h2, h3]
  have vB : ∀ {p : Prop} [Decidable p] {x y : aM × List Int}, x.1.strip = x.1 → y.1.strip = y.1 → (if p then x else y).1.strip = (if p then x else y).1 := by
    intro p _ x y h1 h2
    by_cases h : p
    · rw [if_pos h]; exact h1
    · rw [if_neg h]; exact h2
  unfold bT
  refine vB ?_ (vB ?_ (vB ?_ (vB ?_ (vB ?_ (vB ?_ (vB ?_ (vB ?_ (vB ?_ ?_))))))))
  · exact hm _ _ _ _ _ _ _ _ _ _ [] rfl rfl rfl
  · exact hm _ _ _ _ _ _ _ _ _ _ [] rfl rfl rfl
  · exact hm _ _ _ _ _ _ _ _ _ _ [] rfl rfl rfl
  · exact hm _ _ _ _ _ _ _ _ _ _ _ rfl rfl (hv _ _)
  · exact hm _ _ _ _ _ _ _ _ _ _ [] (wR _) rfl rfl
  · exact hm _ _ _ _ _ _ _ _ _ _ [] rfl rfl rfl
  · exact hm _ _ _ _ _ _ _ _ _ _ [] (wR _) rfl rfl
  · exact hm _ _ _ _ _ _ _ _ _ _ [] rfl (D9 _) rfl
  · exact hm _ _ _ _ _ _ _ _ _ _ [] rfl rfl rfl
  · exact hm _ _ _ _ _ _ _ _ _ _ [] rfl rfl rfl
end
end Go.Proofs.YtignemioillaiaaGreat
