/- Package wire: reading commands and votes. -/
import Derived.Test.YtignemioillaiaaGreatG11
namespace Go.Proofs.YtignemioillaiaaGreat
set_option maxHeartbeats 8000000
set_option maxRecDepth 100000
section
open Go.RowKit
theorem Dc (B : Nat) (l : List Int) (w : World) (h : Src B w l) :
    Calls Tryz.prog 198 #[.pointer (some ⟨B, 0, none⟩)] w fun e w' => ∃ a1 n1 c1 a2 n2 c2, e = .returned (.agg (List.toArray (rC (aa l).1.kind ((aa l).1).aL.c ((aa l).1).aL.s ((aa l).1).aL.k ((aa l).1).aL.key ((aa l).1).aL.v ((aa l).1).aL.hi ((aa l).1).aL.to ((aa l).1).aH.src ((aa l).1).aH.dst ((aa l).1).aH.seq ((aa l).1).aH.lo ((aa l).1).aH.hi a1 n1 c1 a2 n2 c2 (aa l).1.peer (aa l).1.seq))) ∧ w'.ownsRow w.heap.size 128 2 (.slice a1 n1 c1) ((aa l).1).aH.rows.length (((aa l).1).aH.rows.map Row.cells).flatten ∧ w'.ownsRow w.heap.size 57 7 (.slice a2 n2 c2) ((aa l).1).aH.bC.length (((aa l).1).aH.bC.map ay.cells).flatten ∧ Src B w' (aa l).2 ∧ fD B w w' := by
  by_cases h1 : (num 1 l).1 = 1
  · have e : aa l = (⟨(num 1 l).1, (aS (num 1 l).2).1, fH, 0, 0⟩, (aS (num 1 l).2).2) := by unfold aa; dsimp only; rw [if_pos h1]
    rw [e]; dsimp only [fH]
    refine (Oc B l w h (by simp [h1])).mono ?_
    rintro e w' ⟨he, hS, hU⟩
    exact ⟨none, 0, 0, none, 0, 0, he, World.ownsRow_nil _ _ _ _, World.ownsRow_nil _ _ _ _, hS, hU⟩
  by_cases h2 : (num 1 l).1 = 2
  · have e : aa l = (⟨(num 1 l).1, iq, (bf (num 1 l).2).1, 0, 0⟩, (bf (num 1 l).2).2) := by unfold aa; dsimp only; rw [if_neg h1, if_pos h2]
    rw [e]; dsimp only [iq]
    refine (Od B l w h (by simp [h1]) (by simp [h2])).mono ?_
    rintro e w' ⟨a1, n1, c1, a2, n2, c2, he, hA, hB, hS, hU⟩
    exact ⟨a1, n1, c1, a2, n2, c2, he, dA hA (by omega), dA hB (by omega), hS, hU⟩
  by_cases h3 : (num 1 l).1 = 3
  · have e : aa l = (⟨(num 1 l).1, iq, fH, (num 1 (num 1 l).2).1, (num 4 (num 1 (num 1 l).2).2).1⟩, (num 4 (num 1 (num 1 l).2).2).2) := by unfold aa; dsimp only; rw [if_neg h1, if_neg h2, if_pos h3]
    rw [e]; dsimp only [iq, fH]
    refine (Oe B l w h (by simp [h1]) (by simp [h2]) (by simp [h3])).mono ?_
    rintro e w' ⟨he, hS, hU⟩
    exact ⟨none, 0, 0, none, 0, 0, he, World.ownsRow_nil _ _ _ _, World.ownsRow_nil _ _ _ _, hS, hU⟩
  · have e : aa l = (⟨(num 1 l).1, iq, fH, 0, 0⟩, (num 1 l).2) := by unfold aa; dsimp only; rw [if_neg h1, if_neg h2, if_neg h3]
    rw [e]; dsimp only [iq, fH]
    refine (Og B l w h (by simp [h1]) (by simp [h2]) (by simp [h3])).mono ?_
    rintro e w' ⟨he, hS, hU⟩
    exact ⟨none, 0, 0, none, 0, 0, he, World.ownsRow_nil _ _ _ _, World.ownsRow_nil _ _ _ _, hS, hU⟩
theorem Oh (B : Nat) (l : List Int) (w : World) (h : Src B w l) :
    Calls Tryz.prog 196 #[.pointer (some ⟨B, 0, none⟩)] w fun e w' => ∃ a1 n1 c1 a2 n2 c2, e = .returned (.agg (List.toArray (rV (num 4 l).1 (num 4 (num 4 l).2).1 (num 1 (num 4 (num 4 l).2).2).1 (aa (num 1 (num 4 (num 4 l).2).2).2).1.kind ((aa (num 1 (num 4 (num 4 l).2).2).2).1).aL.c ((aa (num 1 (num 4 (num 4 l).2).2).2).1).aL.s ((aa (num 1 (num 4 (num 4 l).2).2).2).1).aL.k ((aa (num 1 (num 4 (num 4 l).2).2).2).1).aL.key ((aa (num 1 (num 4 (num 4 l).2).2).2).1).aL.v ((aa (num 1 (num 4 (num 4 l).2).2).2).1).aL.hi ((aa (num 1 (num 4 (num 4 l).2).2).2).1).aL.to ((aa (num 1 (num 4 (num 4 l).2).2).2).1).aH.src ((aa (num 1 (num 4 (num 4 l).2).2).2).1).aH.dst ((aa (num 1 (num 4 (num 4 l).2).2).2).1).aH.seq ((aa (num 1 (num 4 (num 4 l).2).2).2).1).aH.lo ((aa (num 1 (num 4 (num 4 l).2).2).2).1).aH.hi a1 n1 c1 a2 n2 c2 (aa (num 1 (num 4 (num 4 l).2).2).2).1.peer (aa (num 1 (num 4 (num 4 l).2).2).2).1.seq))) ∧ w'.ownsRow (w.heap.size + 2) 128 2 (.slice a1 n1 c1) ((aa (num 1 (num 4 (num 4 l).2).2).2).1).aH.rows.length (((aa (num 1 (num 4 (num 4 l).2).2).2).1).aH.rows.map Row.cells).flatten ∧ w'.ownsRow (w.heap.size + 2) 57 7 (.slice a2 n2 c2) ((aa (num 1 (num 4 (num 4 l).2).2).2).1).aH.bC.length (((aa (num 1 (num 4 (num 4 l).2).2).2).1).aH.bC.map ay.cells).flatten ∧ Src B w' (aa (num 1 (num 4 (num 4 l).2).2).2).2 ∧ fD B w w' := by
  have hlt := h.lt
  have dH : w.heap.size + 1 ≠ B := by omega
  have dh : w.heap.size ≠ B := by omega
  have bK : B ≠ w.heap.size + 1 := by omega
  have dC : B ≠ w.heap.size := by omega
  have bL : w.heap.size ≠ w.heap.size + 1 := by omega
  have eU : w.heap.size + 1 < w.heap.size + 2 := by omega
  have eX : w.heap.size < w.heap.size + 2 := by omega
  have fq : some (w.heap.size + 1) ≠ some B := by simp; omega
  have dW : some w.heap.size ≠ some B := by simp; omega
  have hS := h.nA (.cells (List.toArray pK) 196) (.cells (List.toArray pK) 196)
  have hU := iM B w (.cells (List.toArray pK) 196) (.cells (List.toArray pK) 196)
  have hZ : w.heap.size + 2 ≤ ((w.alloc (.cells (List.toArray pK) 196)).alloc (.cells (List.toArray pK) 196)).heap.size := by simp
  have hR : ((w.alloc (.cells (List.toArray pK) 196)).alloc (.cells (List.toArray pK) 196)).heap[w.heap.size]? = some (.cells (List.toArray pK) 196) := heap_alloc2_old w _ _
  have hV : ((w.alloc (.cells (List.toArray pK) 196)).alloc (.cells (List.toArray pK) 196)).heap[w.heap.size + 1]? = some (.cells (List.toArray pK) 196) := heap_alloc2_new w _ _
  go_enter Tryz.func196, Tryz.ntmps196
  go_wp2_with (first | (go_at_call 197; go_must (refine (lZ B _ _ hS).mono ?_; rintro e w1 ⟨rfl, hS1, aJ⟩; have hU := aF hU (bV aJ); have hR := (aJ.block _ dh).trans hR; have hV := (aJ.block _ dH).trans hV; have hZ := bq hZ aJ; have hS := hS1)) | (with_reducible show dG 47 6 ..; go_must (refine ah rfl _ _ _ rfl rfl (w.heap.size + 1) 0 rfl (.int .u32 (num 4 l).1) rfl fK rfl _ _ hV rfl (rV (num 4 l).1 0 0 0 0 0 0 0 0 0 0 0 0 0 0 0 none 0 0 none 0 0 0 0) rfl ?_; intro w1 hV1 hOv; have hU := aG hU hOv (Nat.le_succ _); have hR := (hOv.block _ bL).trans hR; have hS := hS.only hOv bK; have hZ := bq hZ hOv; have hV := hV1)) | (go_at_call 194; go_must (refine (nN B _ _ hS).mono ?_; rintro e w1 ⟨rfl, hS1, dD⟩; have hV := (dD.block _ (Nat.lt_of_lt_of_le eU hZ) fq).trans hV; have hR := (dD.block _ (Nat.lt_of_lt_of_le eX hZ) dW).trans hR; have hZ := jo hZ dD; have hU := aF hU dD; have hS := hS1)) | (with_reducible show wpList _ _ _ ({ dst := none, op := Op.store 143 _ _, type := _, pos := _, after := _, guard := none } :: _) _ _; go_must (refine ae rfl _ _ _ rfl rfl (w.heap.size + 1) 1 rfl [.int .u32 (num 4 (num 4 l).2).1, .int .u8 (num 1 (num 4 (num 4 l).2).2).1] rfl _ gU rfl rfl _ _ hV rfl (rV (num 4 l).1 (num 4 (num 4 l).2).1 (num 1 (num 4 (num 4 l).2).2).1 0 0 0 0 0 0 0 0 0 0 0 0 0 none 0 0 none 0 0 0 0) rfl ?_; intro w1 hV1 hOv; have hU := aG hU hOv (Nat.le_succ _); have hR := (hOv.block _ bL).trans hR; have hS := hS.only hOv bK; have hZ := bq hZ hOv; have hV := hV1)) | (go_at_call 198; go_must (refine (Dc B _ _ hS).mono ?_; rintro e w1 ⟨a1, n1, c1, a2, n2, c2, rfl, eu, fG, hS1, dD⟩; have eu := dA eu hZ; have fG := dA fG hZ; have hV := (dD.block _ (Nat.lt_of_lt_of_le eU hZ) fq).trans hV; have hR := (dD.block _ (Nat.lt_of_lt_of_le eX hZ) dW).trans hR; have hZ := jo hZ dD; have hU := aF hU dD; have hS := hS1)) | (with_reducible show wpList _ _ _ ({ dst := none, op := Op.store 54 _ _, type := _, pos := _, after := _, guard := none } :: _) _ _; go_must (refine ae rfl _ _ _ rfl rfl (w.heap.size + 1) 3 rfl (rC (aa (num 1 (num 4 (num 4 l).2).2).2).1.kind ((aa (num 1 (num 4 (num 4 l).2).2).2).1).aL.c ((aa (num 1 (num 4 (num 4 l).2).2).2).1).aL.s ((aa (num 1 (num 4 (num 4 l).2).2).2).1).aL.k ((aa (num 1 (num 4 (num 4 l).2).2).2).1).aL.key ((aa (num 1 (num 4 (num 4 l).2).2).2).1).aL.v ((aa (num 1 (num 4 (num 4 l).2).2).2).1).aL.hi ((aa (num 1 (num 4 (num 4 l).2).2).2).1).aL.to ((aa (num 1 (num 4 (num 4 l).2).2).2).1).aH.src ((aa (num 1 (num 4 (num 4 l).2).2).2).1).aH.dst ((aa (num 1 (num 4 (num 4 l).2).2).2).1).aH.seq ((aa (num 1 (num 4 (num 4 l).2).2).2).1).aH.lo ((aa (num 1 (num 4 (num 4 l).2).2).2).1).aH.hi a1 n1 c1 a2 n2 c2 (aa (num 1 (num 4 (num 4 l).2).2).2).1.peer (aa (num 1 (num 4 (num 4 l).2).2).2).1.seq) rfl _ dS rfl rfl _ _ hV rfl (rV (num 4 l).1 (num 4 (num 4 l).2).1 (num 1 (num 4 (num 4 l).2).2).1 (aa (num 1 (num 4 (num 4 l).2).2).2).1.kind ((aa (num 1 (num 4 (num 4 l).2).2).2).1).aL.c ((aa (num 1 (num 4 (num 4 l).2).2).2).1).aL.s ((aa (num 1 (num 4 (num 4 l).2).2).2).1).aL.k ((aa (num 1 (num 4 (num 4 l).2).2).2).1).aL.key ((aa (num 1 (num 4 (num 4 l).2).2).2).1).aL.v ((aa (num 1 (num 4 (num 4 l).2).2).2).1).aL.hi ((aa (num 1 (num 4 (num 4 l).2).2).2).1).aL.to ((aa (num 1 (num 4 (num 4 l).2).2).2).1).aH.src ((aa (num 1 (num 4 (num 4 l).2).2).2).1).aH.dst ((aa (num 1 (num 4 (num 4 l).2).2).2).1).aH.seq ((aa (num 1 (num 4 (num 4 l).2).2).2).1).aH.lo ((aa (num 1 (num 4 (num 4 l).2).2).2).1).aH.hi a1 n1 c1 a2 n2 c2 (aa (num 1 (num 4 (num 4 l).2).2).2).1.peer (aa (num 1 (num 4 (num 4 l).2).2).2).1.seq) rfl ?_; intro w1 hV1 hOv; have hU := aG hU hOv (Nat.le_succ _); have hR := (hOv.block _ bL).trans hR; have hS := hS.only hOv bK; have hZ := bq hZ hOv; have hV := hV1; have eu := dB eu hOv eU; have fG := dB fG hOv eU)) | (with_reducible show wpList _ _ _ ({ dst := _, op := Op.load 196 _, type := _, pos := _, after := _, guard := none } :: _) _ _; go_must (refine ak rfl _ _ rfl (w.heap.size + 1) 0 rfl 20 _ Tryz.underlying196 rfl nV _ _ hV rfl (rV (num 4 l).1 (num 4 (num 4 l).2).1 (num 1 (num 4 (num 4 l).2).2).1 (aa (num 1 (num 4 (num 4 l).2).2).2).1.kind ((aa (num 1 (num 4 (num 4 l).2).2).2).1).aL.c ((aa (num 1 (num 4 (num 4 l).2).2).2).1).aL.s ((aa (num 1 (num 4 (num 4 l).2).2).2).1).aL.k ((aa (num 1 (num 4 (num 4 l).2).2).2).1).aL.key ((aa (num 1 (num 4 (num 4 l).2).2).2).1).aL.v ((aa (num 1 (num 4 (num 4 l).2).2).2).1).aL.hi ((aa (num 1 (num 4 (num 4 l).2).2).2).1).aL.to ((aa (num 1 (num 4 (num 4 l).2).2).2).1).aH.src ((aa (num 1 (num 4 (num 4 l).2).2).2).1).aH.dst ((aa (num 1 (num 4 (num 4 l).2).2).2).1).aH.seq ((aa (num 1 (num 4 (num 4 l).2).2).2).1).aH.lo ((aa (num 1 (num 4 (num 4 l).2).2).2).1).aH.hi a1 n1 c1 a2 n2 c2 (aa (num 1 (num 4 (num 4 l).2).2).2).1.peer (aa (num 1 (num 4 (num 4 l).2).2).2).1.seq) rfl ?_)) | (with_reducible show wpList _ _ _ ({ dst := none, op := Op.store 196 _ _, type := _, pos := _, after := _, guard := none } :: _) _ _; go_must (refine ae rfl _ _ _ rfl rfl w.heap.size 0 rfl (rV (num 4 l).1 (num 4 (num 4 l).2).1 (num 1 (num 4 (num 4 l).2).2).1 (aa (num 1 (num 4 (num 4 l).2).2).2).1.kind ((aa (num 1 (num 4 (num 4 l).2).2).2).1).aL.c ((aa (num 1 (num 4 (num 4 l).2).2).2).1).aL.s ((aa (num 1 (num 4 (num 4 l).2).2).2).1).aL.k ((aa (num 1 (num 4 (num 4 l).2).2).2).1).aL.key ((aa (num 1 (num 4 (num 4 l).2).2).2).1).aL.v ((aa (num 1 (num 4 (num 4 l).2).2).2).1).aL.hi ((aa (num 1 (num 4 (num 4 l).2).2).2).1).aL.to ((aa (num 1 (num 4 (num 4 l).2).2).2).1).aH.src ((aa (num 1 (num 4 (num 4 l).2).2).2).1).aH.dst ((aa (num 1 (num 4 (num 4 l).2).2).2).1).aH.seq ((aa (num 1 (num 4 (num 4 l).2).2).2).1).aH.lo ((aa (num 1 (num 4 (num 4 l).2).2).2).1).aH.hi a1 n1 c1 a2 n2 c2 (aa (num 1 (num 4 (num 4 l).2).2).2).1.peer (aa (num 1 (num 4 (num 4 l).2).2).2).1.seq) rfl _ nV rfl rfl _ _ hR rfl (rV (num 4 l).1 (num 4 (num 4 l).2).1 (num 1 (num 4 (num 4 l).2).2).1 (aa (num 1 (num 4 (num 4 l).2).2).2).1.kind ((aa (num 1 (num 4 (num 4 l).2).2).2).1).aL.c ((aa (num 1 (num 4 (num 4 l).2).2).2).1).aL.s ((aa (num 1 (num 4 (num 4 l).2).2).2).1).aL.k ((aa (num 1 (num 4 (num 4 l).2).2).2).1).aL.key ((aa (num 1 (num 4 (num 4 l).2).2).2).1).aL.v ((aa (num 1 (num 4 (num 4 l).2).2).2).1).aL.hi ((aa (num 1 (num 4 (num 4 l).2).2).2).1).aL.to ((aa (num 1 (num 4 (num 4 l).2).2).2).1).aH.src ((aa (num 1 (num 4 (num 4 l).2).2).2).1).aH.dst ((aa (num 1 (num 4 (num 4 l).2).2).2).1).aH.seq ((aa (num 1 (num 4 (num 4 l).2).2).2).1).aH.lo ((aa (num 1 (num 4 (num 4 l).2).2).2).1).aH.hi a1 n1 c1 a2 n2 c2 (aa (num 1 (num 4 (num 4 l).2).2).2).1.peer (aa (num 1 (num 4 (num 4 l).2).2).2).1.seq) rfl ?_; intro w1 dZ hOr; have hU := aG hU hOr (Nat.le_refl _); have hS := hS.only hOr dC; have eu := dB eu hOr eX; have fG := dB fG hOr eX)))
  exact bodyPost_ret (v := .agg (List.toArray (rV (num 4 l).1 (num 4 (num 4 l).2).1 (num 1 (num 4 (num 4 l).2).2).1 (aa (num 1 (num 4 (num 4 l).2).2).2).1.kind ((aa (num 1 (num 4 (num 4 l).2).2).2).1).aL.c ((aa (num 1 (num 4 (num 4 l).2).2).2).1).aL.s ((aa (num 1 (num 4 (num 4 l).2).2).2).1).aL.k ((aa (num 1 (num 4 (num 4 l).2).2).2).1).aL.key ((aa (num 1 (num 4 (num 4 l).2).2).2).1).aL.v ((aa (num 1 (num 4 (num 4 l).2).2).2).1).aL.hi ((aa (num 1 (num 4 (num 4 l).2).2).2).1).aL.to ((aa (num 1 (num 4 (num 4 l).2).2).2).1).aH.src ((aa (num 1 (num 4 (num 4 l).2).2).2).1).aH.dst ((aa (num 1 (num 4 (num 4 l).2).2).2).1).aH.seq ((aa (num 1 (num 4 (num 4 l).2).2).2).1).aH.lo ((aa (num 1 (num 4 (num 4 l).2).2).2).1).aH.hi a1 n1 c1 a2 n2 c2 (aa (num 1 (num 4 (num 4 l).2).2).2).1.peer (aa (num 1 (num 4 (num 4 l).2).2).2).1.seq))) (results_cell_row Tryz.results196 _ _ w.heap.size 196 _ (0, 0) _ rfl dZ Tryz.underlying196 rfl nV) rfl ⟨a1, n1, c1, a2, n2, c2, rfl, eu, fG, hS, hU⟩
theorem RO (B : Nat) (l : List Int) (w : World) (h : Src B w l) :
    Calls Tryz.prog 196 #[.pointer (some ⟨B, 0, none⟩)] w fun e w' => ∃ a1 n1 c1 a2 n2 c2, e = .returned (.agg (List.toArray (rV (aP l).1.slot (aP l).1.n (aP l).1.id ((aP l).1).cmd.kind (((aP l).1).cmd).aL.c (((aP l).1).cmd).aL.s (((aP l).1).cmd).aL.k (((aP l).1).cmd).aL.key (((aP l).1).cmd).aL.v (((aP l).1).cmd).aL.hi (((aP l).1).cmd).aL.to (((aP l).1).cmd).aH.src (((aP l).1).cmd).aH.dst (((aP l).1).cmd).aH.seq (((aP l).1).cmd).aH.lo (((aP l).1).cmd).aH.hi a1 n1 c1 a2 n2 c2 ((aP l).1).cmd.peer ((aP l).1).cmd.seq))) ∧ w'.ownsRow w.heap.size 128 2 (.slice a1 n1 c1) ((aP l).1).cmd.aH.rows.length (((aP l).1).cmd.aH.rows.map Row.cells).flatten ∧ w'.ownsRow w.heap.size 57 7 (.slice a2 n2 c2) ((aP l).1).cmd.aH.bC.length (((aP l).1).cmd.aH.bC.map ay.cells).flatten ∧ Src B w' (aP l).2 ∧ fD B w w' := by
  have e : aP l = (⟨(num 4 l).1, (num 4 (num 4 l).2).1, (num 1 (num 4 (num 4 l).2).2).1, (aa (num 1 (num 4 (num 4 l).2).2).2).1⟩, (aa (num 1 (num 4 (num 4 l).2).2).2).2) := by unfold aP; dsimp only
  rw [e]; dsimp only
  refine (Oh B l w h).mono ?_
  rintro e w' ⟨a1, n1, c1, a2, n2, c2, he, hA, hB, hS, hU⟩
  exact ⟨a1, n1, c1, a2, n2, c2, he, dA hA (by omega), dA hB (by omega), hS, hU⟩
theorem kY {p : Prop} (h : p) : Hid p := h
theorem RP (sW xn DZ : Int) (oo : Int) (uj uk um ou uo qI qJ : Int) (jH jI jJ jK jL : Int) (jM : Option Addr) (jN jO : Nat) (jP : Option Addr) (jQ jR : Nat) (ow uq : Int) : ∀ u ∈ ((rV sW xn DZ oo uj uk um ou uo qI qJ jH jI jJ jK jL jM jN jO jP jQ jR ow uq) : List Value), u.oneCell' = true := by
  intro u hu
  simp only [List.mem_cons, List.not_mem_nil, or_false] at hu
  rcases hu with rfl | rfl | rfl | rfl | rfl | rfl | rfl | rfl | rfl | rfl | rfl | rfl | rfl | rfl | rfl | rfl | rfl | rfl | rfl | rfl <;> rfl
theorem Lp {S : Nat} {w : World} {vs : List bz} {x : bz} (h : ∀ (i : Nat) (y : bz), vs[i]? = some y → y.cmd.aH.Own S w) (hx : x.cmd.aH.Own S w) : ∀ (i : Nat) (y : bz), (vs ++ [x])[i]? = some y → y.cmd.aH.Own S w := by
  intro i y hy
  by_cases hi : i < vs.length
  · rw [List.getElem?_append_left hi] at hy; exact h i y hy
  · rw [List.getElem?_append_right (by omega)] at hy
    have := (List.getElem?_eq_some_iff.1 hy).1
    simp at this
    have h0 : i - vs.length = 0 := by omega
    rw [h0] at hy; simp at hy; subst hy; exact hx
theorem D9 (l : List Int) : (bf l).1.strip = (bf l).1 := by unfold bf ax.strip; dsimp only
theorem wR (l : List Int) : (aa l).1.strip = (aa l).1 := by
  unfold aa; dsimp only
  split
  · rfl
  · split
    · unfold aR.strip; dsimp only; rw [D9]
    · split <;> rfl
theorem Ea (l : List Int) : (aP l).1.strip = (aP l).1 := by
  unfold aP; dsimp only
  unfold bz.strip; dsimp only; rw [wR]
theorem ax.Own.upd {S B : Nat} {w w' : World} {r : ax} (h : r.Own S w) (hU : fD B w w') (hB : B < S) : r.Own S w' := ⟨rX h.rows hU hB, rX h.bC hU hB⟩
theorem Oi (v : bz) (rs ds : Sl) (h : v.strip = v) : (bz.mk v.slot v.n v.id (aR.mk v.cmd.kind v.cmd.aL (ax.mk v.cmd.aH.src v.cmd.aH.dst v.cmd.aH.seq v.cmd.aH.lo v.cmd.aH.hi rs ds v.cmd.aH.rows v.cmd.aH.bC) v.cmd.peer v.cmd.seq)).strip = v := by
  conv => rhs; rw [← h]
  rfl
structure kz (S : Nat) (w : World) (vs : List bz) : Prop where
  all : ∀ (i : Nat) (x : bz), vs[i]? = some x → x.cmd.aH.Own S w
  ap : vs.Pairwise (fun x y => (y.cmd.aH.rs.val.ownBlock = none ∨ y.cmd.aH.rs.val.ownBlock ≠ x.cmd.aH.rs.val.ownBlock) ∧ (y.cmd.aH.ds.val.ownBlock = none ∨ y.cmd.aH.ds.val.ownBlock ≠ x.cmd.aH.ds.val.ownBlock))
def One (r1 r2 c1 c2 v : Option Addr) : Prop := (r1 = none ∧ r2 = none ∧ c1 = none ∧ c2 = none) ∨ (r1 = none ∧ r2 = none ∧ v = none) ∨ (c1 = none ∧ c2 = none ∧ v = none)
theorem kz.nil (S : Nat) (w : World) : kz S w [] := ⟨fun i x hx => by simp at hx, List.Pairwise.nil⟩
theorem Eb {w w' : World} {b N : Nat} {e e' : TypeId} {size size' n n' : Nat} {v u : Value} {xs ys : List Value} (hv : w.ownsRow b e size v n xs) (hN : w.heap.size ≤ N) (hu : w'.ownsRow N e' size' u n' ys) : u.ownBlock = none ∨ u.ownBlock ≠ v.ownBlock := by
  cases hb : u.ownBlock with
  | none => exact .inl rfl
  | some c =>
    refine .inr fun h => ?_
    have h1 := (World.ownsRow.lt hu c hb).1
    have h2 := (World.ownsRow.lt hv c h.symm).2
    omega
theorem RQ {S N : Nat} {w w' : World} {vs : List bz} {x : bz} (h : kz S w vs) (hN : w.heap.size ≤ N) (hx : x.cmd.aH.Own N w') : (vs ++ [x]).Pairwise (fun x y => (y.cmd.aH.rs.val.ownBlock = none ∨ y.cmd.aH.rs.val.ownBlock ≠ x.cmd.aH.rs.val.ownBlock) ∧ (y.cmd.aH.ds.val.ownBlock = none ∨ y.cmd.aH.ds.val.ownBlock ≠ x.cmd.aH.ds.val.ownBlock)) := by
  rw [List.pairwise_append]
  refine ⟨h.ap, by simp, fun y hy z hz => ?_⟩
  obtain ⟨i, hi, rfl⟩ := List.getElem_of_mem hy
  simp only [List.mem_singleton] at hz
  subst hz
  have ho := h.all i _ (List.getElem?_eq_getElem hi)
  exact ⟨Eb ho.rows hN hx.rows, Eb ho.bC hN hx.bC⟩
theorem Lr (B : Nat) (l : List Int) (w : World) (h : Src B w l) :
    Calls Tryz.prog 195 #[.pointer (some ⟨B, 0, none⟩), .func (.func 196) #[.pointer (some ⟨B, 0, none⟩)] #[]] w fun e w' => ∃ (v' : Value) (eQ : List bz), e = .returned v' ∧ w'.ownsRow w.heap.size 196 20 v' eQ.length (eQ.map bz.cells).flatten ∧ kz w.heap.size w' eQ ∧ eQ.map bz.strip = (bB aP (num 1 l).1.toNat (num 1 l).2).1 ∧ Src B w' (bB aP (num 1 l).1.toNat (num 1 l).2).2 ∧ fD B w w' := by
  obtain ⟨i0, hi0, hz0, hz1, hz2⟩ := info_parts NT
  have wO := h.lt
  have Lj := uG h.lG
  obtain ⟨n0, hn0⟩ : ∃ n : Nat, (num 1 l).1 = n := ⟨(num 1 l).1.toNat, by omega⟩
  obtain ⟨L0, hL0⟩ : ∃ L, L = (num 1 l).2 := ⟨_, rfl⟩
  have Qq : n0 ≤ 255 := by omega
  obtain ⟨XS, wP⟩ : ∃ X, X = bB aP n0 L0 := ⟨_, rfl⟩
  have e0 : bB aP (num 1 l).1.toNat (num 1 l).2 = XS := by rw [wP, hL0, hn0]; rfl
  rw [e0]
  clear e0
  have wJ := qY wP
  have D7 := qY hn0
  have D8 := qY hL0
  clear hn0 wP hL0 Lj
  go_enter Tryz.func195, Tryz.ntmps195
  go_wp2_with (first | (go_at_call 191; go_must (refine (iL B l _ h).mono ?_; rintro e w1 ⟨rfl, hS1, aJ⟩; rw [D7.out])))
  rw [← D8.out] at hS1
  go_loopw [5, 8] (fun vv i wr => ∃ (k : Nat) (xs : List bz) (lk : List Int), k ≤ n0 ∧ i = .int .u8 k ∧ Hid (XS = (xs.map bz.strip ++ (bB aP (n0 - k) lk).1, (bB aP (n0 - k) lk).2)) ∧ Hid (xs.length ≤ k) ∧ Hid (wr.ownsRow w.heap.size 196 20 vv xs.length (xs.map bz.cells).flatten) ∧ Hid (kz w.heap.size wr xs) ∧ Src B wr lk ∧ fD B w wr) (fun _ i _ => n0 - (intOf i).toNat)
  case atStart => exact ⟨0, [], L0, Nat.zero_le _, rfl, (by show _ = _; rw [wJ.out]; rfl), Nat.le_refl _, World.ownsRow_nil _ _ _ _, (kz.nil _ _), hS1, bV aJ⟩
  case round =>
    clear hS1 aJ h D8 D7 wJ
    obtain ⟨k, xs, lk, hk, rfl, HX, HK, HO, HI, hS, hU⟩ := hrel
    have hsz := hU.size
    have hB := af hS.blk
    by_cases hlt : k < n0
    · by_cases hnil : lk = []
      · subst hnil
        have hemp : (dI []).toList.isEmpty = true := by rw [ByteArray.toList_eq, kX]; rfl
        have hend : XS = (xs.map bz.strip, []) := by
          have := HX.out
          obtain ⟨j, hj⟩ : ∃ j, n0 - k = j + 1 := ⟨n0 - k - 1, by omega⟩
          rw [hj] at this
          simpa [bB] using this
        go_wp2_with fail
        go_ret
        rw [hend]
        exact ⟨_, xs, rfl, HO.out, HI.out, rfl, hS, hU⟩
      · have hemp : (dI lk).toList.isEmpty = false := AR lk (by cases lk with | nil => exact (hnil rfl).elim | cons a b => simp)
        have Ll : Hid (XS = ((xs.map bz.strip ++ [(aP lk).1]) ++ (bB aP (n0 - (k + 1)) (aP lk).2).1, (bB aP (n0 - (k + 1)) (aP lk).2).2)) := by
          show _ = _
          have := HX.out
          obtain ⟨j, hj⟩ : ∃ j, n0 - k = j + 1 := ⟨n0 - k - 1, by omega⟩
          rw [hj] at this
          rw [this, show n0 - (k + 1) = j by omega]
          simp [bB, hnil]
        go_wp2_with (first | (go_at_call 196; go_must (refine (RO B lk _ hS).mono ?_; rintro e w2 ⟨a1, n1, c1, a2, n2, c2, rfl, eu, fG, hS2, iN⟩; have wQ := rX HO.out iN wO)) | (at_builtin; go_must (refine ku _ rfl _ _ 194 rfl w.heap.size 196 i0 (.agg (List.toArray pK)) 20 152 Tryz.underlying194 hi0 hz0 hz1 hz2 rfl (by decide) _ _ _ rfl (World.ownsRow.alloc wQ _) _ 1 1 (rV (aP lk).1.slot (aP lk).1.n (aP lk).1.id ((aP lk).1).cmd.kind (((aP lk).1).cmd).aL.c (((aP lk).1).cmd).aL.s (((aP lk).1).cmd).aL.k (((aP lk).1).cmd).aL.key (((aP lk).1).cmd).aL.v (((aP lk).1).cmd).aL.hi (((aP lk).1).cmd).aL.to (((aP lk).1).cmd).aH.src (((aP lk).1).cmd).aH.dst (((aP lk).1).cmd).aH.seq (((aP lk).1).cmd).aH.lo (((aP lk).1).cmd).aH.hi a1 n1 c1 a2 n2 c2 ((aP lk).1).cmd.peer ((aP lk).1).cmd.seq) rfl rfl ?_ ?_ ?_ ?_ ?_ ?_)))
        case refine_1 => exact wN rfl
        case refine_2 => exact RP _ _ _ _ _ _ _ _ _ _ _ _ _ _ _ _ _ _ _ _ _ _ _ _
        case refine_3 => unfold maxLen; have := HK.out; omega
        case refine_4 => have := HK.out; omega
        case refine_5 => have := iN.size; simp; omega
        intro VA w3 ho3 hg3
        go_wp2
        go_roundw
        case rel =>
          have qK := World.ownsRow.alloc wQ (.cells (List.toArray (rV (aP lk).1.slot (aP lk).1.n (aP lk).1.id ((aP lk).1).cmd.kind (((aP lk).1).cmd).aL.c (((aP lk).1).cmd).aL.s (((aP lk).1).cmd).aL.k (((aP lk).1).cmd).aL.key (((aP lk).1).cmd).aL.v (((aP lk).1).cmd).aL.hi (((aP lk).1).cmd).aL.to (((aP lk).1).cmd).aH.src (((aP lk).1).cmd).aH.dst (((aP lk).1).cmd).aH.seq (((aP lk).1).cmd).aH.lo (((aP lk).1).cmd).aH.hi a1 n1 c1 a2 n2 c2 ((aP lk).1).cmd.peer ((aP lk).1).cmd.seq)) 196)
          have hnew : ax.Own w.heap.size (w2.alloc (.cells (List.toArray (rV (aP lk).1.slot (aP lk).1.n (aP lk).1.id ((aP lk).1).cmd.kind (((aP lk).1).cmd).aL.c (((aP lk).1).cmd).aL.s (((aP lk).1).cmd).aL.k (((aP lk).1).cmd).aL.key (((aP lk).1).cmd).aL.v (((aP lk).1).cmd).aL.hi (((aP lk).1).cmd).aL.to (((aP lk).1).cmd).aH.src (((aP lk).1).cmd).aH.dst (((aP lk).1).cmd).aH.seq (((aP lk).1).cmd).aH.lo (((aP lk).1).cmd).aH.hi a1 n1 c1 a2 n2 c2 ((aP lk).1).cmd.peer ((aP lk).1).cmd.seq)) 196)) (ax.mk (((aP lk).1).cmd).aH.src (((aP lk).1).cmd).aH.dst (((aP lk).1).cmd).aH.seq (((aP lk).1).cmd).aH.lo (((aP lk).1).cmd).aH.hi ⟨a1, n1, c1⟩ ⟨a2, n2, c2⟩ (((aP lk).1).cmd).aH.rows (((aP lk).1).cmd).aH.bC) := ⟨dA (World.ownsRow.alloc eu _) hsz, dA (World.ownsRow.alloc fG _) hsz⟩
          refine ⟨k + 1, xs ++ [(bz.mk (aP lk).1.slot (aP lk).1.n (aP lk).1.id (aR.mk ((aP lk).1).cmd.kind ((aP lk).1).cmd.aL (ax.mk (((aP lk).1).cmd).aH.src (((aP lk).1).cmd).aH.dst (((aP lk).1).cmd).aH.seq (((aP lk).1).cmd).aH.lo (((aP lk).1).cmd).aH.hi ⟨a1, n1, c1⟩ ⟨a2, n2, c2⟩ (((aP lk).1).cmd).aH.rows (((aP lk).1).cmd).aH.bC) ((aP lk).1).cmd.peer ((aP lk).1).cmd.seq))], (aP lk).2, by omega, by go_num, ?_, ?_, ?_, ?_, ?_, ?_⟩
          · show _ = _
            rw [List.map_append, List.map_cons, List.map_nil, Oi _ _ _ (Ea lk)]
            exact Ll.out
          · show (xs ++ _).length ≤ k + 1
            have := HK.out; simp; omega
          · show w3.ownsRow _ _ _ _ _ _
            rw [List.length_append, List.map_append, List.flatten_append]
            exact ho3
          · exact ⟨Lp (fun i y hy => ((((HI.out.all i y hy).upd iN wO)).below (av w2 _)).grew hg3 qK) (hnew.grew hg3 qK), RQ HI.out (Nat.le_refl _) ⟨eu, fG⟩⟩
          · refine ⟨?_, hS2.lG, hS2.len⟩
            rw [hg3.grown.block B (by have := hS2.lt; simp; omega) (by intro e; have := (World.ownsRow.lt qK B e.symm).1; omega)]
            exact bF (av w2 _) hS2.blk
          · exact wM (aF hU (aF iN (dm B w2 _))) hg3.grown (fun j hj => (World.ownsRow.lt qK j hj).1)
        case measure => simp [intOf]; omega
    · have hk' : k = n0 := by omega
      have hend : XS = (xs.map bz.strip, lk) := by
        have := HX.out
        rw [hk', Nat.sub_self] at this
        simpa [bB] using this
      go_wp2_with fail
      go_ret
      rw [hend]
      exact ⟨_, xs, rfl, HO.out, HI.out, rfl, hS, hU⟩
end
end Go.Proofs.YtignemioillaiaaGreat
