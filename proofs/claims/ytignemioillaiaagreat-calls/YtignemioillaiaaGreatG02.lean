/- Package wire: rows, ballots, requests and replies put behind bytes. -/
import Derived.Test.YtignemioillaiaaGreatG01
import Derived.Deep.RegionWith
namespace Go.Proofs.YtignemioillaiaaGreat
set_option maxHeartbeats 8000000
set_option maxRecDepth 100000
section
open Go.RowKit
theorem bD.drew (w : World) (v : Value) : bD w v w.drew v := ⟨⟨rfl, rfl, rfl, Nat.le_refl _, fun _ _ _ => rfl⟩, .inl rfl⟩
theorem dO {base : Nat} {w : World} {v : Value} {l l' : List Int} (h : aY base w v l) (e : l = l') : aY base w v l' := e ▸ h
theorem EU (base : Nat) (v : Value) (l : List Int) (qc qs qk fF qv je jf : Int) (w : World) (hown : aY base w v l) (hb0 : base ≤ w.heap.size) (hl : l.length < 2147000000) (hwf : (aD.mk qc qs qk fF qv je jf).wf) (hk : qk = 2) :
    Calls Tryz.prog 215 #[v, .agg (List.toArray (rQ qc qs qk fF qv je jf))] w fun e w' => ∃ v', e = .returned v' ∧ aY base w' v' (l ++ (aD.mk qc qs qk fF qv je jf).bytes) ∧ bD w v w' v' := by
  obtain ⟨hc1, hs1, hk1, nM, hv1, hhi1, EW⟩ := hwf
  simp only [U8, gm, gp] at hc1 hs1 hk1 nM hv1 hhi1 EW
  have hne := hown.ne
  have hW := heap_alloc_new w (.cells (List.toArray (rQ qc qs qk fF qv je jf)) 50)
  have hown0 : aY base (w.alloc (.cells (List.toArray (rQ qc qs qk fF qv je jf)) 50)) v l := World.ownsRow.alloc hown _
  have hA := bD.alloc w v (.cells (List.toArray (rQ qc qs qk fF qv je jf)) 50)
  have hG := hA
  have hb : base ≤ (w.alloc (.cells (List.toArray (rQ qc qs qk fF qv je jf)) 50)).heap.size := by simp; omega
  have hG : bD (w.alloc (.cells (List.toArray (rQ qc qs qk fF qv je jf)) 50)) v (w.alloc (.cells (List.toArray (rQ qc qs qk fF qv je jf)) 50)) v := ⟨⟨rfl, rfl, rfl, Nat.le_refl _, fun _ _ _ => rfl⟩, .inl rfl⟩
  clear hown hb0
  subst hk
  go_enter Tryz.func215, Tryz.ntmps215
  go_wp2_with (first | (go_at_call 214; go_must (refine (dK base _ _ _ _ (by assumption) (by assumption) (by first | omega | (simp only [List.length_append, aT, List.length_cons, List.length_nil]; omega))).mono ?_; rintro e w1 ⟨v1, rfl, hown1, hg1⟩; have hG := hG.trans hg1; have hb := Nat.le_trans hb hg1.grown.size; have hB := af (hG.blk hW hne))) | (go_at_call 220; go_must (refine (fB base _ _ _ _ (by assumption) (by assumption) (by first | omega | (simp only [List.length_append, List.length_cons, List.length_nil]; omega)) (by omega) (by omega)).mono ?_; rintro e w1 ⟨v1, rfl, hown1, hg1⟩; have hG := hG.trans hg1; have hb := Nat.le_trans hb hg1.grown.size; have hB := af (hG.blk hW hne))) | (go_at_call 234; go_must (refine (kV base _ _ _ _ (by assumption) (by assumption) (by first | omega | (simp only [List.length_append, aT, aU, List.length_cons, List.length_nil]; omega)) (by omega) (by omega)).mono ?_; rintro e w1 ⟨v1, rfl, hown1, hg1⟩; have hG := hG.trans hg1; have hb := Nat.le_trans hb hg1.grown.size; have hB := af (hG.blk hW hne))))
  go_ret
  exact ⟨_, rfl, dO ‹aY base _ _ _› (by simp [aD.bytes, aD.tail]), hA.trans hG⟩
theorem EX (base : Nat) (v : Value) (l : List Int) (qc qs qk fF qv je jf : Int) (w : World) (hown : aY base w v l) (hb0 : base ≤ w.heap.size) (hl : l.length < 2147000000) (hwf : (aD.mk qc qs qk fF qv je jf).wf) (hk : qk = 4) :
    Calls Tryz.prog 215 #[v, .agg (List.toArray (rQ qc qs qk fF qv je jf))] w fun e w' => ∃ v', e = .returned v' ∧ aY base w' v' (l ++ (aD.mk qc qs qk fF qv je jf).bytes) ∧ bD w v w' v' := by
  obtain ⟨hc1, hs1, hk1, nM, hv1, hhi1, EW⟩ := hwf
  simp only [U8, gm, gp] at hc1 hs1 hk1 nM hv1 hhi1 EW
  have hne := hown.ne
  have hW := heap_alloc_new w (.cells (List.toArray (rQ qc qs qk fF qv je jf)) 50)
  have hown0 : aY base (w.alloc (.cells (List.toArray (rQ qc qs qk fF qv je jf)) 50)) v l := World.ownsRow.alloc hown _
  have hA := bD.alloc w v (.cells (List.toArray (rQ qc qs qk fF qv je jf)) 50)
  have hG := hA
  have hb : base ≤ (w.alloc (.cells (List.toArray (rQ qc qs qk fF qv je jf)) 50)).heap.size := by simp; omega
  have hG : bD (w.alloc (.cells (List.toArray (rQ qc qs qk fF qv je jf)) 50)) v (w.alloc (.cells (List.toArray (rQ qc qs qk fF qv je jf)) 50)) v := ⟨⟨rfl, rfl, rfl, Nat.le_refl _, fun _ _ _ => rfl⟩, .inl rfl⟩
  clear hown hb0
  subst hk
  go_enter Tryz.func215, Tryz.ntmps215
  go_wp2_with (first | (go_at_call 214; go_must (refine (dK base _ _ _ _ (by assumption) (by assumption) (by first | omega | (simp only [List.length_append, aT, aU, List.length_cons, List.length_nil]; omega))).mono ?_; rintro e w1 ⟨v1, rfl, hown1, hg1⟩; have hG := hG.trans hg1; have hb := Nat.le_trans hb hg1.grown.size; have hB := af (hG.blk hW hne))) | (go_at_call 220; go_must (refine (fB base _ _ _ _ (by assumption) (by assumption) (by first | omega | (simp only [List.length_append, List.length_cons, List.length_nil]; omega)) (by omega) (by omega)).mono ?_; rintro e w1 ⟨v1, rfl, hown1, hg1⟩; have hG := hG.trans hg1; have hb := Nat.le_trans hb hg1.grown.size; have hB := af (hG.blk hW hne))) | (go_at_call 234; go_must (refine (kV base _ _ _ _ (by assumption) (by assumption) (by first | omega | (simp only [List.length_append, aT, aU, List.length_cons, List.length_nil]; omega)) (by omega) (by omega)).mono ?_; rintro e w1 ⟨v1, rfl, hown1, hg1⟩; have hG := hG.trans hg1; have hb := Nat.le_trans hb hg1.grown.size; have hB := af (hG.blk hW hne))))
  go_ret
  exact ⟨_, rfl, dO ‹aY base _ _ _› (by simp [aD.bytes, aD.tail]), hA.trans hG⟩
theorem EY (base : Nat) (v : Value) (l : List Int) (qc qs qk fF qv je jf : Int) (w : World) (hown : aY base w v l) (hb0 : base ≤ w.heap.size) (hl : l.length < 2147000000) (hwf : (aD.mk qc qs qk fF qv je jf).wf) (hk2 : (qk == 2) = false) (hk4 : (qk == 4) = false) :
    Calls Tryz.prog 215 #[v, .agg (List.toArray (rQ qc qs qk fF qv je jf))] w fun e w' => ∃ v', e = .returned v' ∧ aY base w' v' (l ++ (aD.mk qc qs qk fF qv je jf).bytes) ∧ bD w v w' v' := by
  obtain ⟨hc1, hs1, hk1, nM, hv1, hhi1, EW⟩ := hwf
  simp only [U8, gm, gp] at hc1 hs1 hk1 nM hv1 hhi1 EW
  have hne := hown.ne
  have hW := heap_alloc_new w (.cells (List.toArray (rQ qc qs qk fF qv je jf)) 50)
  have hown0 : aY base (w.alloc (.cells (List.toArray (rQ qc qs qk fF qv je jf)) 50)) v l := World.ownsRow.alloc hown _
  have hA := bD.alloc w v (.cells (List.toArray (rQ qc qs qk fF qv je jf)) 50)
  have hG := hA
  have hb : base ≤ (w.alloc (.cells (List.toArray (rQ qc qs qk fF qv je jf)) 50)).heap.size := by simp; omega
  have hG : bD (w.alloc (.cells (List.toArray (rQ qc qs qk fF qv je jf)) 50)) v (w.alloc (.cells (List.toArray (rQ qc qs qk fF qv je jf)) 50)) v := ⟨⟨rfl, rfl, rfl, Nat.le_refl _, fun _ _ _ => rfl⟩, .inl rfl⟩
  clear hown hb0
  go_enter Tryz.func215, Tryz.ntmps215
  go_wp2_with (first | (go_at_call 214; go_must (refine (dK base _ _ _ _ (by assumption) (by assumption) (by first | omega | (simp only [List.length_append, aT, List.length_cons, List.length_nil]; omega))).mono ?_; rintro e w1 ⟨v1, rfl, hown1, hg1⟩; have hG := hG.trans hg1; have hb := Nat.le_trans hb hg1.grown.size; have hB := af (hG.blk hW hne))) | (go_at_call 220; go_must (refine (fB base _ _ _ _ (by assumption) (by assumption) (by first | omega | (simp only [List.length_append, List.length_cons, List.length_nil]; omega)) (by omega) (by omega)).mono ?_; rintro e w1 ⟨v1, rfl, hown1, hg1⟩; have hG := hG.trans hg1; have hb := Nat.le_trans hb hg1.grown.size; have hB := af (hG.blk hW hne))) | (go_at_call 234; go_must (refine (kV base _ _ _ _ (by assumption) (by assumption) (by first | omega | (simp only [List.length_append, aT, List.length_cons, List.length_nil]; omega)) (by omega) (by omega)).mono ?_; rintro e w1 ⟨v1, rfl, hown1, hg1⟩; have hG := hG.trans hg1; have hb := Nat.le_trans hb hg1.grown.size; have hB := af (hG.blk hW hne))))
  go_ret
  exact ⟨_, rfl, dO ‹aY base _ _ _› (by simp [aD.bytes, aD.tail, show ¬ qk = 2 by simpa using hk2, show ¬ qk = 4 by simpa using hk4]), hA.trans hG⟩
theorem uC (base : Nat) (v : Value) (l : List Int) (qc qs qk fF qv je jf : Int) (w : World) (hown : aY base w v l) (hb0 : base ≤ w.heap.size) (hl : l.length < 2147000000) (hwf : (aD.mk qc qs qk fF qv je jf).wf) :
    Calls Tryz.prog 215 #[v, .agg (List.toArray (rQ qc qs qk fF qv je jf))] w fun e w' => ∃ v', e = .returned v' ∧ aY base w' v' (l ++ (aD.mk qc qs qk fF qv je jf).bytes) ∧ bD w v w' v' := by
  by_cases h2 : qk = 2
  · exact EU _ _ _ _ _ _ _ _ _ _ _ hown hb0 hl hwf h2
  by_cases h4 : qk = 4
  · exact EX _ _ _ _ _ _ _ _ _ _ _ hown hb0 hl hwf h4
  exact EY _ _ _ _ _ _ _ _ _ _ _ hown hb0 hl hwf (by simpa using h2) (by simpa using h4)
theorem Ha (base : Nat) (v : Value) (l : List Int) (pc ps dV pk : Int) (pf : Bool) (pv pg : Int) (w : World) (hown : aY base w v l) (hb0 : base ≤ w.heap.size) (hl : l.length < 2147000000) (hwf : (ay.mk pc ps dV pk pf pv pg).wf) (hk : pk = 1) (hf : pf = true) :
    Calls Tryz.prog 216 #[v, .agg (List.toArray (rP pc ps dV pk pf pv pg))] w fun e w' => ∃ v', e = .returned v' ∧ aY base w' v' (l ++ (ay.mk pc ps dV pk pf pv pg).bytes) ∧ bD w v w' v' := by
  obtain ⟨hc1, hs1, nM, hk1, hv1, hg1⟩ := hwf
  simp only [U8, gm, gp] at hc1 hs1 hk1 nM hv1 hg1
  have hne := hown.ne
  have hW := heap_alloc_new w (.cells (List.toArray (rP pc ps dV pk pf pv pg)) 57)
  have hown0 : aY base (w.alloc (.cells (List.toArray (rP pc ps dV pk pf pv pg)) 57)) v l := World.ownsRow.alloc hown _
  have hA := bD.alloc w v (.cells (List.toArray (rP pc ps dV pk pf pv pg)) 57)
  have hG := hA
  have hb : base ≤ (w.alloc (.cells (List.toArray (rP pc ps dV pk pf pv pg)) 57)).heap.size := by simp; omega
  have hG : bD (w.alloc (.cells (List.toArray (rP pc ps dV pk pf pv pg)) 57)) v (w.alloc (.cells (List.toArray (rP pc ps dV pk pf pv pg)) 57)) v := ⟨⟨rfl, rfl, rfl, Nat.le_refl _, fun _ _ _ => rfl⟩, .inl rfl⟩
  clear hown hb0
  subst hk; subst hf
  go_enter Tryz.func216, Tryz.ntmps216
  go_wp2_with (first | (go_at_call 214; go_must (refine (dK base _ _ _ _ (by assumption) (by assumption) (by first | omega | (simp only [List.length_append, aT, aU, List.length_cons, List.length_nil]; omega))).mono ?_; rintro e w1 ⟨v1, rfl, hown1, hg1⟩; have hG := hG.trans hg1; have hb := Nat.le_trans hb hg1.grown.size; have hB := af (hG.blk hW hne))) | (go_at_call 220; go_must (refine (fB base _ _ _ _ (by assumption) (by assumption) (by first | omega | (simp only [List.length_append, List.length_cons, List.length_nil]; omega)) (by omega) (by omega)).mono ?_; rintro e w1 ⟨v1, rfl, hown1, hg1⟩; have hG := hG.trans hg1; have hb := Nat.le_trans hb hg1.grown.size; have hB := af (hG.blk hW hne))) | (go_at_call 234; go_must (refine (kV base _ _ _ _ (by assumption) (by assumption) (by first | omega | (simp only [List.length_append, aT, aU, List.length_cons, List.length_nil]; omega)) (by omega) (by omega)).mono ?_; rintro e w1 ⟨v1, rfl, hown1, hg1⟩; have hG := hG.trans hg1; have hb := Nat.le_trans hb hg1.grown.size; have hB := af (hG.blk hW hne))) | (go_at_call 235; go_must (refine (zw base _ _ _ _ (by assumption) (by assumption) (by first | omega | (simp only [List.length_append, aT, aU, List.length_cons, List.length_nil]; omega))).mono ?_; rintro e w1 ⟨v1, rfl, hown1, hg1⟩; have hG := hG.trans hg1; have hb := Nat.le_trans hb hg1.grown.size; have hB := af (hG.blk hW hne))))
  go_ret
  exact ⟨_, rfl, dO ‹aY base _ _ _› (by simp [ay.bytes, ay.tail]), hA.trans hG⟩
theorem Hd (base : Nat) (v : Value) (l : List Int) (pc ps dV pk : Int) (pf : Bool) (pv pg : Int) (w : World) (hown : aY base w v l) (hb0 : base ≤ w.heap.size) (hl : l.length < 2147000000) (hwf : (ay.mk pc ps dV pk pf pv pg).wf) (hk : pk = 1) (hf : pf = false) :
    Calls Tryz.prog 216 #[v, .agg (List.toArray (rP pc ps dV pk pf pv pg))] w fun e w' => ∃ v', e = .returned v' ∧ aY base w' v' (l ++ (ay.mk pc ps dV pk pf pv pg).bytes) ∧ bD w v w' v' := by
  obtain ⟨hc1, hs1, nM, hk1, hv1, hg1⟩ := hwf
  simp only [U8, gm, gp] at hc1 hs1 hk1 nM hv1 hg1
  have hne := hown.ne
  have hW := heap_alloc_new w (.cells (List.toArray (rP pc ps dV pk pf pv pg)) 57)
  have hown0 : aY base (w.alloc (.cells (List.toArray (rP pc ps dV pk pf pv pg)) 57)) v l := World.ownsRow.alloc hown _
  have hA := bD.alloc w v (.cells (List.toArray (rP pc ps dV pk pf pv pg)) 57)
  have hG := hA
  have hb : base ≤ (w.alloc (.cells (List.toArray (rP pc ps dV pk pf pv pg)) 57)).heap.size := by simp; omega
  have hG : bD (w.alloc (.cells (List.toArray (rP pc ps dV pk pf pv pg)) 57)) v (w.alloc (.cells (List.toArray (rP pc ps dV pk pf pv pg)) 57)) v := ⟨⟨rfl, rfl, rfl, Nat.le_refl _, fun _ _ _ => rfl⟩, .inl rfl⟩
  clear hown hb0
  subst hk; subst hf
  go_enter Tryz.func216, Tryz.ntmps216
  go_wp2_with (first | (go_at_call 214; go_must (refine (dK base _ _ _ _ (by assumption) (by assumption) (by first | omega | (simp only [List.length_append, aT, aU, List.length_cons, List.length_nil]; omega))).mono ?_; rintro e w1 ⟨v1, rfl, hown1, hg1⟩; have hG := hG.trans hg1; have hb := Nat.le_trans hb hg1.grown.size; have hB := af (hG.blk hW hne))) | (go_at_call 220; go_must (refine (fB base _ _ _ _ (by assumption) (by assumption) (by first | omega | (simp only [List.length_append, List.length_cons, List.length_nil]; omega)) (by omega) (by omega)).mono ?_; rintro e w1 ⟨v1, rfl, hown1, hg1⟩; have hG := hG.trans hg1; have hb := Nat.le_trans hb hg1.grown.size; have hB := af (hG.blk hW hne))) | (go_at_call 234; go_must (refine (kV base _ _ _ _ (by assumption) (by assumption) (by first | omega | (simp only [List.length_append, aT, List.length_cons, List.length_nil]; omega)) (by omega) (by omega)).mono ?_; rintro e w1 ⟨v1, rfl, hown1, hg1⟩; have hG := hG.trans hg1; have hb := Nat.le_trans hb hg1.grown.size; have hB := af (hG.blk hW hne))) | (go_at_call 235; go_must (refine (zw base _ _ _ _ (by assumption) (by assumption) (by first | omega | (simp only [List.length_append, aT, aU, List.length_cons, List.length_nil]; omega))).mono ?_; rintro e w1 ⟨v1, rfl, hown1, hg1⟩; have hG := hG.trans hg1; have hb := Nat.le_trans hb hg1.grown.size; have hB := af (hG.blk hW hne))))
  go_ret
  exact ⟨_, rfl, dO ‹aY base _ _ _› (by simp [ay.bytes, ay.tail]), hA.trans hG⟩
theorem Jz (base : Nat) (v : Value) (l : List Int) (pc ps dV pk : Int) (pf : Bool) (pv pg : Int) (w : World) (hown : aY base w v l) (hb0 : base ≤ w.heap.size) (hl : l.length < 2147000000) (hwf : (ay.mk pc ps dV pk pf pv pg).wf) (hk : pk = 3) :
    Calls Tryz.prog 216 #[v, .agg (List.toArray (rP pc ps dV pk pf pv pg))] w fun e w' => ∃ v', e = .returned v' ∧ aY base w' v' (l ++ (ay.mk pc ps dV pk pf pv pg).bytes) ∧ bD w v w' v' := by
  obtain ⟨hc1, hs1, nM, hk1, hv1, hg1⟩ := hwf
  simp only [U8, gm, gp] at hc1 hs1 hk1 nM hv1 hg1
  have hne := hown.ne
  have hW := heap_alloc_new w (.cells (List.toArray (rP pc ps dV pk pf pv pg)) 57)
  have hown0 : aY base (w.alloc (.cells (List.toArray (rP pc ps dV pk pf pv pg)) 57)) v l := World.ownsRow.alloc hown _
  have hA := bD.alloc w v (.cells (List.toArray (rP pc ps dV pk pf pv pg)) 57)
  have hG := hA
  have hb : base ≤ (w.alloc (.cells (List.toArray (rP pc ps dV pk pf pv pg)) 57)).heap.size := by simp; omega
  have hG : bD (w.alloc (.cells (List.toArray (rP pc ps dV pk pf pv pg)) 57)) v (w.alloc (.cells (List.toArray (rP pc ps dV pk pf pv pg)) 57)) v := ⟨⟨rfl, rfl, rfl, Nat.le_refl _, fun _ _ _ => rfl⟩, .inl rfl⟩
  clear hown hb0
  subst hk
  go_enter Tryz.func216, Tryz.ntmps216
  go_wp2_with (first | (go_at_call 214; go_must (refine (dK base _ _ _ _ (by assumption) (by assumption) (by first | omega | (simp only [List.length_append, aT, aU, List.length_cons, List.length_nil]; omega))).mono ?_; rintro e w1 ⟨v1, rfl, hown1, hg1⟩; have hG := hG.trans hg1; have hb := Nat.le_trans hb hg1.grown.size; have hB := af (hG.blk hW hne))) | (go_at_call 220; go_must (refine (fB base _ _ _ _ (by assumption) (by assumption) (by first | omega | (simp only [List.length_append, List.length_cons, List.length_nil]; omega)) (by omega) (by omega)).mono ?_; rintro e w1 ⟨v1, rfl, hown1, hg1⟩; have hG := hG.trans hg1; have hb := Nat.le_trans hb hg1.grown.size; have hB := af (hG.blk hW hne))) | (go_at_call 234; go_must (refine (kV base _ _ _ _ (by assumption) (by assumption) (by first | omega | (simp only [List.length_append, aT, List.length_cons, List.length_nil]; omega)) (by omega) (by omega)).mono ?_; rintro e w1 ⟨v1, rfl, hown1, hg1⟩; have hG := hG.trans hg1; have hb := Nat.le_trans hb hg1.grown.size; have hB := af (hG.blk hW hne))))
  go_ret
  exact ⟨_, rfl, dO ‹aY base _ _ _› (by simp [ay.bytes, ay.tail]), hA.trans hG⟩
theorem JA (base : Nat) (v : Value) (l : List Int) (pc ps dV pk : Int) (pf : Bool) (pv pg : Int) (w : World) (hown : aY base w v l) (hb0 : base ≤ w.heap.size) (hl : l.length < 2147000000) (hwf : (ay.mk pc ps dV pk pf pv pg).wf) (hk1 : (pk == 1) = false) (hk3 : (pk == 3) = false) :
    Calls Tryz.prog 216 #[v, .agg (List.toArray (rP pc ps dV pk pf pv pg))] w fun e w' => ∃ v', e = .returned v' ∧ aY base w' v' (l ++ (ay.mk pc ps dV pk pf pv pg).bytes) ∧ bD w v w' v' := by
  obtain ⟨hc1, hs1, nM, hkk, hv1, hg1⟩ := hwf
  simp only [U8, gm, gp] at hc1 hs1 hkk nM hv1 hg1
  have hne := hown.ne
  have hW := heap_alloc_new w (.cells (List.toArray (rP pc ps dV pk pf pv pg)) 57)
  have hown0 : aY base (w.alloc (.cells (List.toArray (rP pc ps dV pk pf pv pg)) 57)) v l := World.ownsRow.alloc hown _
  have hA := bD.alloc w v (.cells (List.toArray (rP pc ps dV pk pf pv pg)) 57)
  have hG := hA
  have hb : base ≤ (w.alloc (.cells (List.toArray (rP pc ps dV pk pf pv pg)) 57)).heap.size := by simp; omega
  have hG : bD (w.alloc (.cells (List.toArray (rP pc ps dV pk pf pv pg)) 57)) v (w.alloc (.cells (List.toArray (rP pc ps dV pk pf pv pg)) 57)) v := ⟨⟨rfl, rfl, rfl, Nat.le_refl _, fun _ _ _ => rfl⟩, .inl rfl⟩
  clear hown hb0
  go_enter Tryz.func216, Tryz.ntmps216
  go_wp2_with (first | (go_at_call 214; go_must (refine (dK base _ _ _ _ (by assumption) (by assumption) (by first | omega | (simp only [List.length_append, aT, aU, List.length_cons, List.length_nil]; omega))).mono ?_; rintro e w1 ⟨v1, rfl, hown1, hg1⟩; have hG := hG.trans hg1; have hb := Nat.le_trans hb hg1.grown.size; have hB := af (hG.blk hW hne))) | (go_at_call 220; go_must (refine (fB base _ _ _ _ (by assumption) (by assumption) (by first | omega | (simp only [List.length_append, List.length_cons, List.length_nil]; omega)) (by omega) (by omega)).mono ?_; rintro e w1 ⟨v1, rfl, hown1, hg1⟩; have hG := hG.trans hg1; have hb := Nat.le_trans hb hg1.grown.size; have hB := af (hG.blk hW hne))) | (go_at_call 234; go_must (refine (kV base _ _ _ _ (by assumption) (by assumption) (by first | omega | (simp only [List.length_append, aT, List.length_cons, List.length_nil]; omega)) (by omega) (by omega)).mono ?_; rintro e w1 ⟨v1, rfl, hown1, hg1⟩; have hG := hG.trans hg1; have hb := Nat.le_trans hb hg1.grown.size; have hB := af (hG.blk hW hne))))
  go_ret
  exact ⟨_, rfl, dO ‹aY base _ _ _› (by simp [ay.bytes, ay.tail, show ¬ pk = 1 by simpa using hk1, show ¬ pk = 3 by simpa using hk3]), hA.trans hG⟩
theorem wz (base : Nat) (v : Value) (l : List Int) (pc ps dV pk : Int) (pf : Bool) (pv pg : Int) (w : World) (hown : aY base w v l) (hb0 : base ≤ w.heap.size) (hl : l.length < 2147000000) (hwf : (ay.mk pc ps dV pk pf pv pg).wf) :
    Calls Tryz.prog 216 #[v, .agg (List.toArray (rP pc ps dV pk pf pv pg))] w fun e w' => ∃ v', e = .returned v' ∧ aY base w' v' (l ++ (ay.mk pc ps dV pk pf pv pg).bytes) ∧ bD w v w' v' := by
  by_cases h1 : pk = 1
  · by_cases hf : pf = true
    · exact Ha _ _ _ _ _ _ _ _ _ _ _ hown hb0 hl hwf h1 hf
    · exact Hd _ _ _ _ _ _ _ _ _ _ _ hown hb0 hl hwf h1 (by simpa using hf)
  by_cases h3 : pk = 3
  · exact Jz _ _ _ _ _ _ _ _ _ _ _ hown hb0 hl hwf h3
  exact JA _ _ _ _ _ _ _ _ _ _ _ hown hb0 hl hwf (by simpa using h1) (by simpa using h3)
theorem JB (base : Nat) (v : Value) (l : List Int) (mR nu : Int) (w : World) (hown : aY base w v l) (hb0 : base ≤ w.heap.size) (hl : l.length < 2147000000) (h1 : 0 ≤ mR ∧ mR < 18446744073709551616) (h2 : 0 ≤ nu ∧ nu < 18446744073709551616) :
    Calls Tryz.prog 237 #[v, .agg #[.int .u64 mR, .int .u64 nu]] w fun e w' => ∃ v', e = .returned v' ∧ aY base w' v' (l ++ (Row.mk mR nu).bytes) ∧ bD w v w' v' := by
  have hne := hown.ne
  have hW : (w.alloc (.cells #[.int .u64 mR, .int .u64 nu] 128)).drew.heap[w.heap.size]? = _ := heap_alloc_new w (.cells #[.int .u64 mR, .int .u64 nu] 128)
  have hown0 : aY base (w.alloc (.cells #[.int .u64 mR, .int .u64 nu] 128)).drew v l := World.ownsRow.alloc hown _
  have hA : bD w v (w.alloc (.cells #[.int .u64 mR, .int .u64 nu] 128)).drew v := (bD.alloc w v (.cells #[.int .u64 mR, .int .u64 nu] 128)).trans (bD.drew _ v)
  have hG := hA
  have hb : base ≤ (w.alloc (.cells #[.int .u64 mR, .int .u64 nu] 128)).drew.heap.size := by simp; omega
  have hG : bD (w.alloc (.cells #[.int .u64 mR, .int .u64 nu] 128)).drew v (w.alloc (.cells #[.int .u64 mR, .int .u64 nu] 128)).drew v := ⟨⟨rfl, rfl, rfl, Nat.le_refl _, fun _ _ _ => rfl⟩, .inl rfl⟩
  clear hown hb0
  go_enter Tryz.func237, Tryz.ntmps237
  go_wp2_with fail
  go_region_with (first | (go_at_call 234; go_must (refine (kV base _ _ _ _ (by assumption) (by assumption) (by first | omega | (simp only [List.length_append, aU]; omega)) (by omega) (by omega)).mono ?_; rintro e w1 ⟨v1, rfl, hown1, hg1⟩; have hG := hG.trans hg1; have hb := Nat.le_trans hb hg1.grown.size; have hB := af (hG.blk hW hne))))
  all_goals go_wp2
  all_goals go_ret
  all_goals exact ⟨_, rfl, dO ‹aY base _ _ _› (by simp [Row.bytes]), hA.trans hG⟩
theorem kR (base : Nat) (v : Value) (l : List Int) (bn zx : Int) (w : World) (hown : aY base w v l) (hb0 : base ≤ w.heap.size) (hl : l.length < 2147000000) (h1 : 0 ≤ bn ∧ bn < 4294967296) :
    Calls Tryz.prog 217 #[v, .agg #[.int .u32 bn, .int .u8 zx]] w fun e w' => ∃ v', e = .returned v' ∧ aY base w' v' (l ++ bJ bn zx) ∧ bD w v w' v' := by
  have hne := hown.ne
  have hW : (w.alloc (.cells #[.int .u32 bn, .int .u8 zx] 143)).drew.heap[w.heap.size]? = _ := heap_alloc_new w (.cells #[.int .u32 bn, .int .u8 zx] 143)
  have hown0 : aY base (w.alloc (.cells #[.int .u32 bn, .int .u8 zx] 143)).drew v l := World.ownsRow.alloc hown _
  have hA : bD w v (w.alloc (.cells #[.int .u32 bn, .int .u8 zx] 143)).drew v := (bD.alloc w v (.cells #[.int .u32 bn, .int .u8 zx] 143)).trans (bD.drew _ v)
  have hG := hA
  have hb : base ≤ (w.alloc (.cells #[.int .u32 bn, .int .u8 zx] 143)).drew.heap.size := by simp; omega
  have hG : bD (w.alloc (.cells #[.int .u32 bn, .int .u8 zx] 143)).drew v (w.alloc (.cells #[.int .u32 bn, .int .u8 zx] 143)).drew v := ⟨⟨rfl, rfl, rfl, Nat.le_refl _, fun _ _ _ => rfl⟩, .inl rfl⟩
  clear hown hb0
  go_enter Tryz.func217, Tryz.ntmps217
  go_wp2_with fail
  go_region_with (first | (go_at_call 220; go_must (refine (fB base _ _ _ _ (by assumption) (by assumption) (by first | omega | (simp only [List.length_append, aT, aU, List.length_cons, List.length_nil]; omega)) (by omega) (by omega)).mono ?_; rintro e w1 ⟨v1, rfl, hown1, hg1⟩; have hG := hG.trans hg1; have hb := Nat.le_trans hb hg1.grown.size; have hB := af (hG.blk hW hne))) | (go_at_call 214; go_must (refine (dK base _ _ _ _ (by assumption) (by assumption) (by first | omega | (simp only [List.length_append, aT]; omega))).mono ?_; rintro e w1 ⟨v1, rfl, hown1, hg1⟩; have hG := hG.trans hg1; have hb := Nat.le_trans hb hg1.grown.size; have hB := af (hG.blk hW hne))))
  all_goals go_wp2
  all_goals go_ret
  all_goals exact ⟨_, rfl, dO ‹aY base _ _ _› (by simp [bJ]), hA.trans hG⟩
theorem AL {base B : Nat} {w w' : World} {v : Value} {l : List Int} (h : aY base w v l) (hO : Only B w w') (hne : some B ≠ v.ownBlock) : aY base w' v l :=
  World.ownsRow.kept h ⟨hO.os, hO.tape, hO.output, Nat.le_of_eq hO.size.symm, fun k _ hk => hO.block k (fun e => hk (by rw [e]))⟩ (.inr hne.symm)
theorem wB {B : Nat} {w W w' : World} {v : Value} (h : bD w v W v) (hO : Only B W w') (hB : w.heap.size ≤ B) : bD w v w' v :=
  ⟨⟨hO.os.trans h.grown.os, hO.tape.trans h.grown.tape, hO.output.trans h.grown.output, Nat.le_trans h.grown.size (Nat.le_of_eq hO.size.symm), fun k hk hne => (hO.block k (by omega)).trans (h.grown.block k hk hne)⟩, .inl rfl⟩
theorem He (base : Nat) (v : Value) (l : List Int) (ra : Option Addr) (rn rc : Nat) (xs : List Row) (w : World) (hown : aY base w v l) (hb0 : base ≤ w.heap.size) (hl : l.length < 2000000000)
    (hin : cz base w ⟨ra, rn, rc⟩ 2 (xs.map Row.cells)) (AO : xs.length ≤ 255) (hwf : ∀ (i : Nat) (x : Row), xs[i]? = some x → x.wf) :
    Calls Tryz.prog 236 #[v, .slice ra rn rc, .func (.func 237) #[] #[]] w fun e w' => ∃ v', e = .returned v' ∧ aY base w' v' (l ++ ([(xs.length : Int)] ++ ni xs)) ∧ bD w v w' v' := by
  have hlen : rn = xs.length := by simpa using hin.len
  have Qn : rn ≤ 255 := by omega
  have HL : Hid (rn = xs.length) := hlen
  have HW : Hid (∀ (i : Nat) (x : Row), xs[i]? = some x → x.wf) := hwf
  clear hlen hwf AO
  go_enter Tryz.func236, Tryz.ntmps236
  go_wp2_with (go_at_call 214; go_must (refine (dK base _ _ _ _ hown hb0 (by omega)).mono ?_; rintro e w0 ⟨v0, rfl, hown0, hg0⟩))
  have hb1 : base ≤ w0.heap.size := Nat.le_trans hb0 hg0.grown.size
  go_loopw [0, 16] (fun vb i wr => ∃ k : Nat, k ≤ rn ∧ i = .int .i64 k ∧ aY base wr vb (l ++ [(rn : Int)] ++ ((xs.take k).map Row.bytes).flatten) ∧ bD w v wr vb ∧ base ≤ wr.heap.size) (fun _ i _ => rn - (intOf i).toNat)
  case atStart => exact ⟨0, Nat.zero_le _, rfl, dO hown0 (by simp), hg0, hb1⟩
  case round =>
    obtain ⟨k, hk, rfl, hor, hgr, hbr⟩ := hrel
    by_cases hlt : k < rn
    · obtain ⟨x, hx⟩ : ∃ x, xs[k]? = some x := ⟨xs[k]'(by rw [← HL.out]; exact hlt), by simp⟩
      have hS := hin.below (hgr.below hown hb0) (Nat.le_refl _)
      obtain ⟨b, off, ha, Ih, hc⟩ := hS.el (i := k) (x := x.cells) (by simp [hx])
      obtain rfl : ra = some ⟨b, off, none⟩ := ha
      have Ii := HW.out k x hx
      have HX : Hid (xs[k]? = some x) := hx
      have hln : (((xs.take k).map Row.bytes).flatten).length ≤ 5000000 := by have := AB (xs.take k); simp only [ni, List.length_take] at this; omega
      clear hx
      obtain ⟨mR, nu⟩ := x
      simp only [Row.cells] at hc
      have hW := heap_alloc_new wr (.cells #[.int .u64 0, .int .u64 0] 128)
      have hG := bD.alloc wr u0 (.cells #[.int .u64 0, .int .u64 0] 128)
      have eu : aY base (wr.alloc (.cells #[.int .u64 0, .int .u64 0] 128)) u0 _ := World.ownsRow.alloc hor _
      go_wp2_with (first | (with_reducible show Bw 19 128 ..; go_must (refine kS rfl _ _ rfl b (off + k * 2) rfl 2 _ Tryz.underlying128 rfl uB [.int .u64 mR, .int .u64 nu] rfl hc ?_)) | (with_reducible show wpList _ _ _ ({ dst := _, op := Op.store 128 _ _, type := _, pos := _, after := _, guard := none } :: _) _ _; go_must (refine ae rfl _ _ _ rfl rfl wr.heap.size 0 rfl [.int .u64 mR, .int .u64 nu] rfl _ uB rfl rfl _ _ hW rfl [.int .u64 mR, .int .u64 nu] rfl ?_; intro w2 hW2 hO2; have ho2 := AL eu hO2 hor.ne; have hG2 := wB hG hO2 (Nat.le_refl _); have hb2 := Nat.le_trans hbr hG2.grown.size)) | (with_reducible show Bw 22 128 ..; go_must (refine ak rfl _ _ rfl wr.heap.size 0 rfl 2 _ Tryz.underlying128 rfl uB _ _ hW2 rfl [.int .u64 mR, .int .u64 nu] rfl ?_)) | (go_at_call 237; go_must (refine (JB base _ _ _ _ _ ho2 hb2 (by simp only [List.length_append, List.length_cons, List.length_nil]; omega) Ii.key Ii.val).mono ?_; rintro e w3 ⟨v3, rfl, ho3, hg3⟩)))
      go_roundw
      case rel => exact ⟨k + 1, by omega, by go_num, dO ho3 (by rw [sU Row.bytes xs k _ HX.out]; simp only [List.append_assoc]), hgr.trans (hG2.trans hg3), Nat.le_trans hb2 hg3.grown.size⟩
      case measure => simp [intOf]; omega
    · go_wp2
      go_ret
      obtain rfl : k = rn := by omega
      refine ⟨_, rfl, dO hor ?_, hgr⟩
      have := HL.out
      rw [this, List.take_length]; simp [ni]
theorem Hf (base : Nat) (v : Value) (l : List Int) (ra : Option Addr) (rn rc : Nat) (xs : List ay) (w : World) (hown : aY base w v l) (hb0 : base ≤ w.heap.size) (hl : l.length < 2000000000)
    (hin : cz base w ⟨ra, rn, rc⟩ 7 (xs.map ay.cells)) (AO : xs.length ≤ 255) (hwf : ∀ (i : Nat) (x : ay), xs[i]? = some x → x.wf) :
    Calls Tryz.prog 238 #[v, .slice ra rn rc, .func (.func 216) #[] #[]] w fun e w' => ∃ v', e = .returned v' ∧ aY base w' v' (l ++ ([(xs.length : Int)] ++ lN xs)) ∧ bD w v w' v' := by
  have hlen : rn = xs.length := by simpa using hin.len
  have Qn : rn ≤ 255 := by omega
  have HL : Hid (rn = xs.length) := hlen
  have HW : Hid (∀ (i : Nat) (x : ay), xs[i]? = some x → x.wf) := hwf
  clear hlen hwf AO
  go_enter Tryz.func238, Tryz.ntmps238
  go_wp2_with (go_at_call 214; go_must (refine (dK base _ _ _ _ hown hb0 (by omega)).mono ?_; rintro e w0 ⟨v0, rfl, hown0, hg0⟩))
  have hb1 : base ≤ w0.heap.size := Nat.le_trans hb0 hg0.grown.size
  go_loopw [0, 16] (fun vb i wr => ∃ k : Nat, k ≤ rn ∧ i = .int .i64 k ∧ aY base wr vb (l ++ [(rn : Int)] ++ ((xs.take k).map ay.bytes).flatten) ∧ bD w v wr vb ∧ base ≤ wr.heap.size) (fun _ i _ => rn - (intOf i).toNat)
  case atStart => exact ⟨0, Nat.zero_le _, rfl, dO hown0 (by simp), hg0, hb1⟩
  case round =>
    obtain ⟨k, hk, rfl, hor, hgr, hbr⟩ := hrel
    by_cases hlt : k < rn
    · obtain ⟨x, hx⟩ : ∃ x, xs[k]? = some x := ⟨xs[k]'(by rw [← HL.out]; exact hlt), by simp⟩
      have hS := hin.below (hgr.below hown hb0) (Nat.le_refl _)
      obtain ⟨b, off, ha, Ih, hc⟩ := hS.el (i := k) (x := x.cells) (by simp [hx])
      obtain rfl : ra = some ⟨b, off, none⟩ := ha
      have Ii := HW.out k x hx
      have HX : Hid (xs[k]? = some x) := hx
      have hln : (((xs.take k).map ay.bytes).flatten).length ≤ 5000000 := by have := ET (xs.take k); simp only [lN, List.length_take] at this; omega
      clear hx
      obtain ⟨yc, ys, EZ, yk, yf, yv, yg⟩ := x
      simp only [ay.cells] at hc
      have hW := heap_alloc_new wr (.cells (List.toArray fT) 57)
      have hG := bD.alloc wr u0 (.cells (List.toArray fT) 57)
      have eu : aY base (wr.alloc (.cells (List.toArray fT) 57)) u0 _ := World.ownsRow.alloc hor _
      go_wp2_with (first | (with_reducible show Bw 19 57 ..; go_must (refine kS rfl _ _ rfl b (off + k * 7) rfl 7 _ Tryz.underlying57 rfl iJ (rP yc ys EZ yk yf yv yg) rfl hc ?_)) | (with_reducible show wpList _ _ _ ({ dst := _, op := Op.store 57 _ _, type := _, pos := _, after := _, guard := none } :: _) _ _; go_must (refine ae rfl _ _ _ rfl rfl wr.heap.size 0 rfl (rP yc ys EZ yk yf yv yg) rfl _ iJ rfl rfl _ _ hW rfl (rP yc ys EZ yk yf yv yg) rfl ?_; intro w2 hW2 hO2; have ho2 := AL eu hO2 hor.ne; have hG2 := wB hG hO2 (Nat.le_refl _); have hb2 := Nat.le_trans hbr hG2.grown.size)) | (with_reducible show Bw 22 57 ..; go_must (refine ak rfl _ _ rfl wr.heap.size 0 rfl 7 _ Tryz.underlying57 rfl iJ _ _ hW2 rfl (rP yc ys EZ yk yf yv yg) rfl ?_)) | (go_at_call 216; go_must (refine (wz base _ _ _ _ _ _ _ _ _ _ ho2 hb2 (by simp only [List.length_append, List.length_cons, List.length_nil]; omega) Ii).mono ?_; rintro e w3 ⟨v3, rfl, ho3, hg3⟩)))
      go_roundw
      case rel => exact ⟨k + 1, by omega, by go_num, dO ho3 (by rw [sU ay.bytes xs k _ HX.out]; simp only [List.append_assoc]), hgr.trans (hG2.trans hg3), Nat.le_trans hb2 hg3.grown.size⟩
      case measure => simp [intOf]; omega
    · go_wp2
      go_ret
      obtain rfl : k = rn := by omega
      refine ⟨_, rfl, dO hor ?_, hgr⟩
      have := HL.out
      rw [this, List.take_length]; simp [lN]
end
end Go.Proofs.YtignemioillaiaaGreat
