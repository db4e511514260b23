/- Package wire: reading messages. -/
import Derived.Test.YtignemioillaiaaGreatG13
namespace Go.Proofs.YtignemioillaiaaGreat
set_option maxHeartbeats 8000000
set_option maxRecDepth 100000
section
open Go.RowKit
theorem RU (B : Nat) (l : List Int) (w : World) (h : Src B w l) :
    Calls Tryz.prog 161 #[.pointer (some ⟨B, 0, none⟩)] w fun e w' => ∃ (fO : Option Addr) (gV gX : Nat) (fP : Option Addr) (gY gZ : Nat) (c1a : Option Addr) (ib ig : Nat) (fQ : Option Addr) (ik il : Nat) (va : Option Addr) (vn vc : Nat) (eQ : List bz), e = .returned (.agg (List.toArray (rM (bT l).1.kind (bT l).1.aL.c (bT l).1.aL.s (bT l).1.aL.k (bT l).1.aL.key (bT l).1.aL.v (bT l).1.aL.hi (bT l).1.aL.to (bT l).1.rep.c (bT l).1.rep.s (bT l).1.rep.key (bT l).1.rep.k (bT l).1.rep.found (bT l).1.rep.v (bT l).1.rep.g (bT l).1.n (bT l).1.id (bT l).1.slot (bT l).1.cmd.kind (bT l).1.cmd.aL.c (bT l).1.cmd.aL.s (bT l).1.cmd.aL.k (bT l).1.cmd.aL.key (bT l).1.cmd.aL.v (bT l).1.cmd.aL.hi (bT l).1.cmd.aL.to (bT l).1.cmd.aH.src (bT l).1.cmd.aH.dst (bT l).1.cmd.aH.seq (bT l).1.cmd.aH.lo (bT l).1.cmd.aH.hi c1a ib ig fQ ik il (bT l).1.cmd.peer (bT l).1.cmd.seq va vn vc (bT l).1.aH.src (bT l).1.aH.dst (bT l).1.aH.seq (bT l).1.aH.lo (bT l).1.aH.hi fO gV gX fP gY gZ (bT l).1.peer (bT l).1.seq))) ∧ w'.ownsRow w.heap.size 128 2 (.slice fO gV gX) ((bT l).1).aH.rows.length (((bT l).1).aH.rows.map Row.cells).flatten ∧ w'.ownsRow w.heap.size 57 7 (.slice fP gY gZ) ((bT l).1).aH.bC.length (((bT l).1).aH.bC.map ay.cells).flatten ∧ w'.ownsRow w.heap.size 128 2 (.slice c1a ib ig) ((bT l).1).cmd.aH.rows.length (((bT l).1).cmd.aH.rows.map Row.cells).flatten ∧ w'.ownsRow w.heap.size 57 7 (.slice fQ ik il) ((bT l).1).cmd.aH.bC.length (((bT l).1).cmd.aH.bC.map ay.cells).flatten ∧ w'.ownsRow w.heap.size 196 20 (.slice va vn vc) eQ.length (eQ.map bz.cells).flatten ∧ (kz w.heap.size w' eQ ∧ One fO fP c1a fQ va) ∧ eQ.map bz.strip = ((bT l).1).aV ∧ Src B w' (bT l).2 ∧ fD B w w' := by
  by_cases h1 : (num 1 l).1 = 1
  · skip
    have e : bT l = ({ dx (num 1 l).1 with aL := (aS (num 1 l).2).1 }, (aS (num 1 l).2).2) := by unfold bT; dsimp only; rw [if_pos h1]
    rw [e]; dsimp only [dx, iq, lY, lJ, fH]
    refine (Oj B l w h (by simp [h1]) (by simp [h1]) (by simp [h1]) (by simp [h1]) (by simp [h1]) (by simp [h1]) (by simp [h1]) (by simp [h1]) (by simp [h1]) (by simp [h1])).mono ?_
    rintro e w' ⟨he, hS, hU⟩
    exact ⟨none, 0, 0, none, 0, 0, none, 0, 0, none, 0, 0, none, 0, 0, [], he, World.ownsRow_nil _ _ _ _, World.ownsRow_nil _ _ _ _, World.ownsRow_nil _ _ _ _, World.ownsRow_nil _ _ _ _, World.ownsRow_nil _ _ _ _, ⟨kz.nil _ _, by simp [One]⟩, rfl, hS, hU⟩
  by_cases h2 : (num 1 l).1 = 2
  · skip
    have h1 : ¬ (num 1 l).1 = 1 := by rw [h2]; decide
    have e : bT l = ({ dx (num 1 l).1 with rep := (aW (num 1 l).2).1 }, (aW (num 1 l).2).2) := by unfold bT; dsimp only; rw [if_neg h1, if_pos h2]
    rw [e]; dsimp only [dx, iq, lY, lJ, fH]
    refine (Ol B l w h (by simp [h2]) (by simp [h2]) (by simp [h2]) (by simp [h2]) (by simp [h2]) (by simp [h2]) (by simp [h2]) (by simp [h2]) (by simp [h2]) (by simp [h2])).mono ?_
    rintro e w' ⟨he, hS, hU⟩
    exact ⟨none, 0, 0, none, 0, 0, none, 0, 0, none, 0, 0, none, 0, 0, [], he, World.ownsRow_nil _ _ _ _, World.ownsRow_nil _ _ _ _, World.ownsRow_nil _ _ _ _, World.ownsRow_nil _ _ _ _, World.ownsRow_nil _ _ _ _, ⟨kz.nil _ _, by simp [One]⟩, rfl, hS, hU⟩
  by_cases h3 : (num 1 l).1 = 3
  · skip
    have h1 : ¬ (num 1 l).1 = 1 := by rw [h3]; decide
    have h2 : ¬ (num 1 l).1 = 2 := by rw [h3]; decide
    have e : bT l = ({ dx (num 1 l).1 with n := (num 4 (num 1 l).2).1, id := (num 1 (num 4 (num 1 l).2).2).1 }, (num 1 (num 4 (num 1 l).2).2).2) := by unfold bT; dsimp only; rw [if_neg h1, if_neg h2, if_pos (.inl h3)]
    rw [e]; dsimp only [dx, iq, lY, lJ, fH]
    refine (Om B l w h (by simp [h3]) (by simp [h3]) (by simp [h3]) (by simp [h3]) (by simp [h3]) (by simp [h3]) (by simp [h3]) (by simp [h3]) (by simp [h3]) (by simp [h3])).mono ?_
    rintro e w' ⟨he, hS, hU⟩
    exact ⟨none, 0, 0, none, 0, 0, none, 0, 0, none, 0, 0, none, 0, 0, [], he, World.ownsRow_nil _ _ _ _, World.ownsRow_nil _ _ _ _, World.ownsRow_nil _ _ _ _, World.ownsRow_nil _ _ _ _, World.ownsRow_nil _ _ _ _, ⟨kz.nil _ _, by simp [One]⟩, rfl, hS, hU⟩
  by_cases h4 : (num 1 l).1 = 4
  · skip
    have h1 : ¬ (num 1 l).1 = 1 := by rw [h4]; decide
    have h2 : ¬ (num 1 l).1 = 2 := by rw [h4]; decide
    have uH : ¬ ((num 1 l).1 = 3 ∨ (num 1 l).1 = 5) := by rw [h4]; decide
    have e : bT l = ({ dx (num 1 l).1 with n := (num 4 (num 1 l).2).1, id := (num 1 (num 4 (num 1 l).2).2).1, vs := ⟨none, (bB aP (num 1 (num 1 (num 4 (num 1 l).2).2).2).1.toNat (num 1 (num 1 (num 4 (num 1 l).2).2).2).2).1.length, (bB aP (num 1 (num 1 (num 4 (num 1 l).2).2).2).1.toNat (num 1 (num 1 (num 4 (num 1 l).2).2).2).2).1.length⟩, aV := (bB aP (num 1 (num 1 (num 4 (num 1 l).2).2).2).1.toNat (num 1 (num 1 (num 4 (num 1 l).2).2).2).2).1 }, (bB aP (num 1 (num 1 (num 4 (num 1 l).2).2).2).1.toNat (num 1 (num 1 (num 4 (num 1 l).2).2).2).2).2) := by unfold bT; dsimp only; rw [if_neg h1, if_neg h2, if_neg uH, if_pos h4]
    rw [e]; dsimp only [dx, iq, lY, lJ, fH]
    refine (Oo B l w h (by simp [h4]) (by simp [h4]) (by simp [h4]) (by simp [h4]) (by simp [h4]) (by simp [h4]) (by simp [h4]) (by simp [h4]) (by simp [h4]) (by simp [h4])).mono ?_
    rintro e w' ⟨va, vn, vc, eQ, he, hV, hI, hT, hS, hU⟩
    exact ⟨none, 0, 0, none, 0, 0, none, 0, 0, none, 0, 0, va, vn, vc, eQ, he, World.ownsRow_nil _ _ _ _, World.ownsRow_nil _ _ _ _, World.ownsRow_nil _ _ _ _, World.ownsRow_nil _ _ _ _, dA hV (by omega), ⟨FI hI (by omega), .inl ⟨rfl, rfl, rfl, rfl⟩⟩, hT, hS, hU⟩
  by_cases h5 : (num 1 l).1 = 5
  · skip
    have h1 : ¬ (num 1 l).1 = 1 := by rw [h5]; decide
    have h2 : ¬ (num 1 l).1 = 2 := by rw [h5]; decide
    have e : bT l = ({ dx (num 1 l).1 with n := (num 4 (num 1 l).2).1, id := (num 1 (num 4 (num 1 l).2).2).1 }, (num 1 (num 4 (num 1 l).2).2).2) := by unfold bT; dsimp only; rw [if_neg h1, if_neg h2, if_pos (.inr h5)]
    rw [e]; dsimp only [dx, iq, lY, lJ, fH]
    refine (Oq B l w h (by simp [h5]) (by simp [h5]) (by simp [h5]) (by simp [h5]) (by simp [h5]) (by simp [h5]) (by simp [h5]) (by simp [h5]) (by simp [h5]) (by simp [h5])).mono ?_
    rintro e w' ⟨he, hS, hU⟩
    exact ⟨none, 0, 0, none, 0, 0, none, 0, 0, none, 0, 0, none, 0, 0, [], he, World.ownsRow_nil _ _ _ _, World.ownsRow_nil _ _ _ _, World.ownsRow_nil _ _ _ _, World.ownsRow_nil _ _ _ _, World.ownsRow_nil _ _ _ _, ⟨kz.nil _ _, by simp [One]⟩, rfl, hS, hU⟩
  by_cases h6 : (num 1 l).1 = 6
  · skip
    have h1 : ¬ (num 1 l).1 = 1 := by rw [h6]; decide
    have h2 : ¬ (num 1 l).1 = 2 := by rw [h6]; decide
    have h4 : ¬ (num 1 l).1 = 4 := by rw [h6]; decide
    have uH : ¬ ((num 1 l).1 = 3 ∨ (num 1 l).1 = 5) := by rw [h6]; decide
    have e : bT l = ({ dx (num 1 l).1 with n := (num 4 (num 1 l).2).1, id := (num 1 (num 4 (num 1 l).2).2).1, slot := (num 4 (num 1 (num 4 (num 1 l).2).2).2).1, cmd := (aa (num 4 (num 1 (num 4 (num 1 l).2).2).2).2).1 }, (aa (num 4 (num 1 (num 4 (num 1 l).2).2).2).2).2) := by unfold bT; dsimp only; rw [if_neg h1, if_neg h2, if_neg uH, if_neg h4, if_pos h6]
    rw [e]; dsimp only [dx, iq, lY, lJ, fH]
    refine (Ot B l w h (by simp [h6]) (by simp [h6]) (by simp [h6]) (by simp [h6]) (by simp [h6]) (by simp [h6]) (by simp [h6]) (by simp [h6]) (by simp [h6]) (by simp [h6])).mono ?_
    rintro e w' ⟨a1, n1, c1, a2, n2, c2, he, hA, hB, hS, hU⟩
    exact ⟨none, 0, 0, none, 0, 0, a1, n1, c1, a2, n2, c2, none, 0, 0, [], he, World.ownsRow_nil _ _ _ _, World.ownsRow_nil _ _ _ _, dA hA (by omega), dA hB (by omega), World.ownsRow_nil _ _ _ _, ⟨kz.nil _ _, by simp [One]⟩, rfl, hS, hU⟩
  by_cases h7 : (num 1 l).1 = 7
  · skip
    have h1 : ¬ (num 1 l).1 = 1 := by rw [h7]; decide
    have h2 : ¬ (num 1 l).1 = 2 := by rw [h7]; decide
    have h4 : ¬ (num 1 l).1 = 4 := by rw [h7]; decide
    have h6 : ¬ (num 1 l).1 = 6 := by rw [h7]; decide
    have uH : ¬ ((num 1 l).1 = 3 ∨ (num 1 l).1 = 5) := by rw [h7]; decide
    have e : bT l = ({ dx (num 1 l).1 with n := (num 4 (num 1 l).2).1, id := (num 1 (num 4 (num 1 l).2).2).1, slot := (num 4 (num 1 (num 4 (num 1 l).2).2).2).1 }, (num 4 (num 1 (num 4 (num 1 l).2).2).2).2) := by unfold bT; dsimp only; rw [if_neg h1, if_neg h2, if_neg uH, if_neg h4, if_neg h6, if_pos h7]
    rw [e]; dsimp only [dx, iq, lY, lJ, fH]
    refine (Ou B l w h (by simp [h7]) (by simp [h7]) (by simp [h7]) (by simp [h7]) (by simp [h7]) (by simp [h7]) (by simp [h7]) (by simp [h7]) (by simp [h7]) (by simp [h7])).mono ?_
    rintro e w' ⟨he, hS, hU⟩
    exact ⟨none, 0, 0, none, 0, 0, none, 0, 0, none, 0, 0, none, 0, 0, [], he, World.ownsRow_nil _ _ _ _, World.ownsRow_nil _ _ _ _, World.ownsRow_nil _ _ _ _, World.ownsRow_nil _ _ _ _, World.ownsRow_nil _ _ _ _, ⟨kz.nil _ _, by simp [One]⟩, rfl, hS, hU⟩
  by_cases h8 : (num 1 l).1 = 8
  · skip
    have h1 : ¬ (num 1 l).1 = 1 := by rw [h8]; decide
    have h2 : ¬ (num 1 l).1 = 2 := by rw [h8]; decide
    have h4 : ¬ (num 1 l).1 = 4 := by rw [h8]; decide
    have h6 : ¬ (num 1 l).1 = 6 := by rw [h8]; decide
    have h7 : ¬ (num 1 l).1 = 7 := by rw [h8]; decide
    have uH : ¬ ((num 1 l).1 = 3 ∨ (num 1 l).1 = 5) := by rw [h8]; decide
    have e : bT l = ({ dx (num 1 l).1 with slot := (num 4 (num 1 l).2).1, cmd := (aa (num 4 (num 1 l).2).2).1 }, (aa (num 4 (num 1 l).2).2).2) := by unfold bT; dsimp only; rw [if_neg h1, if_neg h2, if_neg uH, if_neg h4, if_neg h6, if_neg h7, if_pos h8]
    rw [e]; dsimp only [dx, iq, lY, lJ, fH]
    refine (Ov B l w h (by simp [h8]) (by simp [h8]) (by simp [h8]) (by simp [h8]) (by simp [h8]) (by simp [h8]) (by simp [h8]) (by simp [h8]) (by simp [h8]) (by simp [h8])).mono ?_
    rintro e w' ⟨a1, n1, c1, a2, n2, c2, he, hA, hB, hS, hU⟩
    exact ⟨none, 0, 0, none, 0, 0, a1, n1, c1, a2, n2, c2, none, 0, 0, [], he, World.ownsRow_nil _ _ _ _, World.ownsRow_nil _ _ _ _, dA hA (by omega), dA hB (by omega), World.ownsRow_nil _ _ _ _, ⟨kz.nil _ _, by simp [One]⟩, rfl, hS, hU⟩
  by_cases h9 : (num 1 l).1 = 9
  · skip
    have h1 : ¬ (num 1 l).1 = 1 := by rw [h9]; decide
    have h2 : ¬ (num 1 l).1 = 2 := by rw [h9]; decide
    have h4 : ¬ (num 1 l).1 = 4 := by rw [h9]; decide
    have h6 : ¬ (num 1 l).1 = 6 := by rw [h9]; decide
    have h7 : ¬ (num 1 l).1 = 7 := by rw [h9]; decide
    have h8 : ¬ (num 1 l).1 = 8 := by rw [h9]; decide
    have uH : ¬ ((num 1 l).1 = 3 ∨ (num 1 l).1 = 5) := by rw [h9]; decide
    have e : bT l = ({ dx (num 1 l).1 with aH := (bf (num 1 l).2).1 }, (bf (num 1 l).2).2) := by unfold bT; dsimp only; rw [if_neg h1, if_neg h2, if_neg uH, if_neg h4, if_neg h6, if_neg h7, if_neg h8, if_pos h9]
    rw [e]; dsimp only [dx, iq, lY, lJ, fH]
    refine (Ow B l w h (by simp [h9]) (by simp [h9]) (by simp [h9]) (by simp [h9]) (by simp [h9]) (by simp [h9]) (by simp [h9]) (by simp [h9]) (by simp [h9]) (by simp [h9])).mono ?_
    rintro e w' ⟨a1, n1, c1, a2, n2, c2, he, hA, hB, hS, hU⟩
    exact ⟨a1, n1, c1, a2, n2, c2, none, 0, 0, none, 0, 0, none, 0, 0, [], he, dA hA (by omega), dA hB (by omega), World.ownsRow_nil _ _ _ _, World.ownsRow_nil _ _ _ _, World.ownsRow_nil _ _ _ _, ⟨kz.nil _ _, by simp [One]⟩, rfl, hS, hU⟩
  by_cases h10 : (num 1 l).1 = 10
  · skip
    have h1 : ¬ (num 1 l).1 = 1 := by rw [h10]; decide
    have h2 : ¬ (num 1 l).1 = 2 := by rw [h10]; decide
    have h4 : ¬ (num 1 l).1 = 4 := by rw [h10]; decide
    have h6 : ¬ (num 1 l).1 = 6 := by rw [h10]; decide
    have h7 : ¬ (num 1 l).1 = 7 := by rw [h10]; decide
    have h8 : ¬ (num 1 l).1 = 8 := by rw [h10]; decide
    have h9 : ¬ (num 1 l).1 = 9 := by rw [h10]; decide
    have uH : ¬ ((num 1 l).1 = 3 ∨ (num 1 l).1 = 5) := by rw [h10]; decide
    have e : bT l = ({ dx (num 1 l).1 with peer := (num 1 (num 1 l).2).1, seq := (num 4 (num 1 (num 1 l).2).2).1 }, (num 4 (num 1 (num 1 l).2).2).2) := by unfold bT; dsimp only; rw [if_neg h1, if_neg h2, if_neg uH, if_neg h4, if_neg h6, if_neg h7, if_neg h8, if_neg h9, if_pos h10]
    rw [e]; dsimp only [dx, iq, lY, lJ, fH]
    refine (Ls B l w h (by simp [h10]) (by simp [h10]) (by simp [h10]) (by simp [h10]) (by simp [h10]) (by simp [h10]) (by simp [h10]) (by simp [h10]) (by simp [h10]) (by simp [h10])).mono ?_
    rintro e w' ⟨he, hS, hU⟩
    exact ⟨none, 0, 0, none, 0, 0, none, 0, 0, none, 0, 0, none, 0, 0, [], he, World.ownsRow_nil _ _ _ _, World.ownsRow_nil _ _ _ _, World.ownsRow_nil _ _ _ _, World.ownsRow_nil _ _ _ _, World.ownsRow_nil _ _ _ _, ⟨kz.nil _ _, by simp [One]⟩, rfl, hS, hU⟩
  · skip
    have uH : ¬ ((num 1 l).1 = 3 ∨ (num 1 l).1 = 5) := fun h => h.elim h3 h5
    have e : bT l = (dx (num 1 l).1, (num 1 l).2) := by unfold bT; dsimp only; rw [if_neg h1, if_neg h2, if_neg uH, if_neg h4, if_neg h6, if_neg h7, if_neg h8, if_neg h9, if_neg h10]
    rw [e]; dsimp only [dx, iq, lY, lJ, fH]
    refine (Ox B l w h (by simp [h1]) (by simp [h2]) (by simp [h3]) (by simp [h4]) (by simp [h5]) (by simp [h6]) (by simp [h7]) (by simp [h8]) (by simp [h9]) (by simp [h10])).mono ?_
    rintro e w' ⟨he, hS, hU⟩
    exact ⟨none, 0, 0, none, 0, 0, none, 0, 0, none, 0, 0, none, 0, 0, [], he, World.ownsRow_nil _ _ _ _, World.ownsRow_nil _ _ _ _, World.ownsRow_nil _ _ _ _, World.ownsRow_nil _ _ _ _, World.ownsRow_nil _ _ _ _, ⟨kz.nil _ _, by simp [One]⟩, rfl, hS, hU⟩
end
end Go.Proofs.YtignemioillaiaaGreat
