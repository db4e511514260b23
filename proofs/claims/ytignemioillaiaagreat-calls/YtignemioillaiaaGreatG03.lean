/- Package wire: ranges, commands and votes put behind bytes. -/
import Derived.Test.YtignemioillaiaaGreatG02
namespace Go.Proofs.YtignemioillaiaaGreat
set_option maxHeartbeats 8000000
set_option maxRecDepth 100000
section
open Go.RowKit
theorem wC (base : Nat) (v : Value) (l : List Int) (iW iX iY j5 j6 : Int) (kE : Option Addr) (iQ kK : Nat) (kL : Option Addr) (iK kP : Nat) (gu : List Row) (iD : List ay) (w : World) (hown : aY base w v l) (hb0 : base ≤ w.heap.size) (hl : l.length < 1900000000) (h1 : cz base w ⟨kE, iQ, kK⟩ 2 (gu.map Row.cells)) (h2 : cz base w ⟨kL, iK, kP⟩ 7 (iD.map ay.cells)) (hr : gu.length ≤ 255) (hd : iD.length ≤ 255) (hwf : (ax.mk iW iX iY j5 j6 ⟨kE, iQ, kK⟩ ⟨kL, iK, kP⟩ gu iD).wf) :
    Calls Tryz.prog 222 #[v, .agg (List.toArray (rR iW iX iY j5 j6 kE iQ kK kL iK kP))] w fun e w' => ∃ v', e = .returned v' ∧ aY base w' v' (l ++ (ax.mk iW iX iY j5 j6 ⟨kE, iQ, kK⟩ ⟨kL, iK, kP⟩ gu iD).bytes) ∧ bD w v w' v' := by
  obtain ⟨hs1, hs2, hs3, hs4, hs5, hs6, hs7⟩ := hwf
  simp only [U8, gm, gp] at hs1 hs2 hs3 hs4 hs5
  have XL : Hid (∀ (i : Nat) (x : Row), gu[i]? = some x → x.wf) := hs6
  have XM : Hid (∀ (i : Nat) (x : ay), iD[i]? = some x → x.wf) := hs7
  clear hs6 hs7
  have hne := hown.ne
  have hW := heap_alloc_new w (.cells (List.toArray (rR iW iX iY j5 j6 kE iQ kK kL iK kP)) 52)
  have hown0 : aY base (w.alloc (.cells (List.toArray (rR iW iX iY j5 j6 kE iQ kK kL iK kP)) 52)) v l := World.ownsRow.alloc hown _
  have hA := bD.alloc w v (.cells (List.toArray (rR iW iX iY j5 j6 kE iQ kK kL iK kP)) 52)
  have hb : base ≤ (w.alloc (.cells (List.toArray (rR iW iX iY j5 j6 kE iQ kK kL iK kP)) 52)).heap.size := by simp; omega
  have hG : bD (w.alloc (.cells (List.toArray (rR iW iX iY j5 j6 kE iQ kK kL iK kP)) 52)) v (w.alloc (.cells (List.toArray (rR iW iX iY j5 j6 kE iQ kK kL iK kP)) 52)) v := ⟨⟨rfl, rfl, rfl, Nat.le_refl _, fun _ _ _ => rfl⟩, .inl rfl⟩
  go_enter Tryz.func222, Tryz.ntmps222
  go_wp2_with (first | (go_at_call 214; go_must (refine (dK base _ _ _ _ (by assumption) (by assumption) (by first | omega | (simp only [List.length_append, List.length_cons, List.length_nil]; omega))).mono ?_; rintro e w1 ⟨v1, rfl, hown1, hg1⟩; have hG := hG.trans hg1; have hb := Nat.le_trans hb hg1.grown.size; have hB := af (hG.blk hW hne))) | (go_at_call 220; go_must (refine (fB base _ _ _ _ (by assumption) (by assumption) (by first | omega | (simp only [List.length_append, List.length_cons, List.length_nil]; omega)) (by omega) (by omega)).mono ?_; rintro e w1 ⟨v1, rfl, hown1, hg1⟩; have hG := hG.trans hg1; have hb := Nat.le_trans hb hg1.grown.size; have hB := af (hG.blk hW hne))) | (go_at_call 234; go_must (refine (kV base _ _ _ _ (by assumption) (by assumption) (by first | omega | (simp only [List.length_append, aT, aU, List.length_cons, List.length_nil]; omega)) (by omega) (by omega)).mono ?_; rintro e w1 ⟨v1, rfl, hown1, hg1⟩; have hG := hG.trans hg1; have hb := Nat.le_trans hb hg1.grown.size; have hB := af (hG.blk hW hne))) | (go_at_call 236; go_must (refine (He base _ _ _ _ _ gu _ (by assumption) (by assumption) (by first | omega | (simp only [List.length_append, aT, aU, List.length_cons, List.length_nil]; omega)) (h1.below ((hA.trans hG).below hown hb0) (Nat.le_refl _)) hr XL.out).mono ?_; have hln := AB gu; rintro e w1 ⟨v1, rfl, hown1, hg1⟩; have hG := hG.trans hg1; have hb := Nat.le_trans hb hg1.grown.size; have hB := af (hG.blk hW hne))) | (go_at_call 238; go_must (refine (Hf base _ _ _ _ _ iD _ (by assumption) (by assumption) (by first | omega | (simp only [List.length_append, aT, aU, List.length_cons, List.length_nil]; omega)) (h2.below ((hA.trans hG).below hown hb0) (Nat.le_refl _)) hd XM.out).mono ?_; rintro e w1 ⟨v1, rfl, hown1, hg1⟩; have hG := hG.trans hg1; have hb := Nat.le_trans hb hg1.grown.size; have hB := af (hG.blk hW hne))))
  go_ret
  exact ⟨_, rfl, dO ‹aY base _ _ _› (by simp [ax.bytes]), hA.trans hG⟩
theorem E5 (base : Nat) (v : Value) (l : List Int) (gR : Int) (gI gJ gK gM gN gP gQ : Int) (jU jV jW jX jY : Int) (jZ : Option Addr) (gA gB : Nat) (gC : Option Addr) (gD gF : Nat) (gS gT : Int) (gG : List Row) (gH : List ay) (w : World) (hown : aY base w v l) (hb0 : base ≤ w.heap.size) (hl : l.length < 1800000000) (_h1 : cz base w ⟨jZ, gA, gB⟩ 2 (gG.map Row.cells)) (_h2 : cz base w ⟨gC, gD, gF⟩ 7 (gH.map ay.cells)) (hr : gR = 2 → gG.length ≤ 255) (hd : gR = 2 → gH.length ≤ 255) (hwf : (aR.mk gR (aD.mk gI gJ gK gM gN gP gQ) (ax.mk jU jV jW jX jY ⟨jZ, gA, gB⟩ ⟨gC, gD, gF⟩ gG gH) gS gT).wf) (hk : gR = 1) :
    Calls Tryz.prog 221 #[v, .agg (List.toArray (rC gR gI gJ gK gM gN gP gQ jU jV jW jX jY jZ gA gB gC gD gF gS gT))] w fun e w' => ∃ v', e = .returned v' ∧ aY base w' v' (l ++ (aR.mk gR (aD.mk gI gJ gK gM gN gP gQ) (ax.mk jU jV jW jX jY ⟨jZ, gA, gB⟩ ⟨gC, gD, gF⟩ gG gH) gS gT).bytes) ∧ bD w v w' v' := by
  obtain ⟨hk1, hq1, hr1, hp1, hs1⟩ := hwf
  simp only [U8, gm] at hk1 hp1 hs1
  have hne := hown.ne
  have hW := heap_alloc_new w (.cells (List.toArray (rC gR gI gJ gK gM gN gP gQ jU jV jW jX jY jZ gA gB gC gD gF gS gT)) 54)
  have hown0 : aY base (w.alloc (.cells (List.toArray (rC gR gI gJ gK gM gN gP gQ jU jV jW jX jY jZ gA gB gC gD gF gS gT)) 54)) v l := World.ownsRow.alloc hown _
  have hA := bD.alloc w v (.cells (List.toArray (rC gR gI gJ gK gM gN gP gQ jU jV jW jX jY jZ gA gB gC gD gF gS gT)) 54)
  have hb : base ≤ (w.alloc (.cells (List.toArray (rC gR gI gJ gK gM gN gP gQ jU jV jW jX jY jZ gA gB gC gD gF gS gT)) 54)).heap.size := by simp; omega
  have hG : bD (w.alloc (.cells (List.toArray (rC gR gI gJ gK gM gN gP gQ jU jV jW jX jY jZ gA gB gC gD gF gS gT)) 54)) v (w.alloc (.cells (List.toArray (rC gR gI gJ gK gM gN gP gQ jU jV jW jX jY jZ gA gB gC gD gF gS gT)) 54)) v := ⟨⟨rfl, rfl, rfl, Nat.le_refl _, fun _ _ _ => rfl⟩, .inl rfl⟩
  subst hk
  go_enter Tryz.func221, Tryz.ntmps221
  go_wp2_with (first | (go_at_call 214; go_must (refine (dK base _ _ _ _ (by assumption) (by assumption) (by first | omega | (simp only [List.length_append, aT, aU, List.length_cons, List.length_nil]; omega))).mono ?_; rintro e w1 ⟨v1, rfl, hown1, hg1⟩; have hG := hG.trans hg1; have hb := Nat.le_trans hb hg1.grown.size; have hB := af (hG.blk hW hne))) | (with_reducible show wpList _ _ _ ({ dst := _, op := Op.load 50 _, type := _, pos := _, after := _, guard := none } :: _) _ _; go_must (refine ak rfl _ _ rfl w.heap.size 1 rfl 7 _ Tryz.underlying50 rfl jm _ _ (hG.blk hW hne) rfl (rQ gI gJ gK gM gN gP gQ) rfl ?_)) | (go_at_call 215; go_must (refine (uC base _ _ _ _ _ _ _ _ _ _ (by assumption) (by assumption) (by first | omega | (simp only [List.length_append, List.length_cons, List.length_nil]; omega)) hq1).mono ?_; rintro e w1 ⟨v1, rfl, hown1, hg1⟩; have hG := hG.trans hg1; have hb := Nat.le_trans hb hg1.grown.size; have hB := af (hG.blk hW hne))))
  go_ret
  exact ⟨_, rfl, dO ‹aY base _ _ _› (by simp [aR.bytes, aR.tail]), hA.trans hG⟩
theorem E8 (base : Nat) (v : Value) (l : List Int) (gR : Int) (gI gJ gK gM gN gP gQ : Int) (jU jV jW jX jY : Int) (jZ : Option Addr) (gA gB : Nat) (gC : Option Addr) (gD gF : Nat) (gS gT : Int) (gG : List Row) (gH : List ay) (w : World) (hown : aY base w v l) (hb0 : base ≤ w.heap.size) (hl : l.length < 1800000000) (h1 : cz base w ⟨jZ, gA, gB⟩ 2 (gG.map Row.cells)) (h2 : cz base w ⟨gC, gD, gF⟩ 7 (gH.map ay.cells)) (hr : gR = 2 → gG.length ≤ 255) (hd : gR = 2 → gH.length ≤ 255) (hwf : (aR.mk gR (aD.mk gI gJ gK gM gN gP gQ) (ax.mk jU jV jW jX jY ⟨jZ, gA, gB⟩ ⟨gC, gD, gF⟩ gG gH) gS gT).wf) (hk : gR = 2) :
    Calls Tryz.prog 221 #[v, .agg (List.toArray (rC gR gI gJ gK gM gN gP gQ jU jV jW jX jY jZ gA gB gC gD gF gS gT))] w fun e w' => ∃ v', e = .returned v' ∧ aY base w' v' (l ++ (aR.mk gR (aD.mk gI gJ gK gM gN gP gQ) (ax.mk jU jV jW jX jY ⟨jZ, gA, gB⟩ ⟨gC, gD, gF⟩ gG gH) gS gT).bytes) ∧ bD w v w' v' := by
  obtain ⟨hk1, hq1, hr1, hp1, hs1⟩ := hwf
  simp only [U8, gm] at hk1 hp1 hs1
  have hne := hown.ne
  have hW := heap_alloc_new w (.cells (List.toArray (rC gR gI gJ gK gM gN gP gQ jU jV jW jX jY jZ gA gB gC gD gF gS gT)) 54)
  have hown0 : aY base (w.alloc (.cells (List.toArray (rC gR gI gJ gK gM gN gP gQ jU jV jW jX jY jZ gA gB gC gD gF gS gT)) 54)) v l := World.ownsRow.alloc hown _
  have hA := bD.alloc w v (.cells (List.toArray (rC gR gI gJ gK gM gN gP gQ jU jV jW jX jY jZ gA gB gC gD gF gS gT)) 54)
  have hb : base ≤ (w.alloc (.cells (List.toArray (rC gR gI gJ gK gM gN gP gQ jU jV jW jX jY jZ gA gB gC gD gF gS gT)) 54)).heap.size := by simp; omega
  have hG : bD (w.alloc (.cells (List.toArray (rC gR gI gJ gK gM gN gP gQ jU jV jW jX jY jZ gA gB gC gD gF gS gT)) 54)) v (w.alloc (.cells (List.toArray (rC gR gI gJ gK gM gN gP gQ jU jV jW jX jY jZ gA gB gC gD gF gS gT)) 54)) v := ⟨⟨rfl, rfl, rfl, Nat.le_refl _, fun _ _ _ => rfl⟩, .inl rfl⟩
  subst hk
  go_enter Tryz.func221, Tryz.ntmps221
  go_wp2_with (first | (go_at_call 214; go_must (refine (dK base _ _ _ _ (by assumption) (by assumption) (by first | omega | (simp only [List.length_append, aT, aU, List.length_cons, List.length_nil]; omega))).mono ?_; rintro e w1 ⟨v1, rfl, hown1, hg1⟩; have hG := hG.trans hg1; have hb := Nat.le_trans hb hg1.grown.size; have hB := af (hG.blk hW hne))) | (with_reducible show wpList _ _ _ ({ dst := _, op := Op.load 52 _, type := _, pos := _, after := _, guard := none } :: _) _ _; go_must (refine ak rfl _ _ rfl w.heap.size 8 rfl 7 _ Tryz.underlying52 rfl nk _ _ (hG.blk hW hne) rfl (rR jU jV jW jX jY jZ gA gB gC gD gF) rfl ?_)) | (go_at_call 222; go_must (refine (wC base _ _ _ _ _ _ _ _ _ _ _ _ _ gG gH _ (by assumption) (by assumption) (by first | omega | (simp only [List.length_append, List.length_cons, List.length_nil]; omega)) (h1.below ((hA.trans hG).below hown hb0) (Nat.le_refl _)) (h2.below ((hA.trans hG).below hown hb0) (Nat.le_refl _)) (hr (by trivial)) (hd (by trivial)) hr1).mono ?_; rintro e w1 ⟨v1, rfl, hown1, hg1⟩; have hG := hG.trans hg1; have hb := Nat.le_trans hb hg1.grown.size; have hB := af (hG.blk hW hne))))
  go_ret
  exact ⟨_, rfl, dO ‹aY base _ _ _› (by simp [aR.bytes, aR.tail]), hA.trans hG⟩
theorem E9 (base : Nat) (v : Value) (l : List Int) (gR : Int) (gI gJ gK gM gN gP gQ : Int) (jU jV jW jX jY : Int) (jZ : Option Addr) (gA gB : Nat) (gC : Option Addr) (gD gF : Nat) (gS gT : Int) (gG : List Row) (gH : List ay) (w : World) (hown : aY base w v l) (hb0 : base ≤ w.heap.size) (hl : l.length < 1800000000) (_h1 : cz base w ⟨jZ, gA, gB⟩ 2 (gG.map Row.cells)) (_h2 : cz base w ⟨gC, gD, gF⟩ 7 (gH.map ay.cells)) (hr : gR = 2 → gG.length ≤ 255) (hd : gR = 2 → gH.length ≤ 255) (hwf : (aR.mk gR (aD.mk gI gJ gK gM gN gP gQ) (ax.mk jU jV jW jX jY ⟨jZ, gA, gB⟩ ⟨gC, gD, gF⟩ gG gH) gS gT).wf) (hk : gR = 3) :
    Calls Tryz.prog 221 #[v, .agg (List.toArray (rC gR gI gJ gK gM gN gP gQ jU jV jW jX jY jZ gA gB gC gD gF gS gT))] w fun e w' => ∃ v', e = .returned v' ∧ aY base w' v' (l ++ (aR.mk gR (aD.mk gI gJ gK gM gN gP gQ) (ax.mk jU jV jW jX jY ⟨jZ, gA, gB⟩ ⟨gC, gD, gF⟩ gG gH) gS gT).bytes) ∧ bD w v w' v' := by
  obtain ⟨hk1, hq1, hr1, hp1, hs1⟩ := hwf
  simp only [U8, gm] at hk1 hp1 hs1
  have hne := hown.ne
  have hW := heap_alloc_new w (.cells (List.toArray (rC gR gI gJ gK gM gN gP gQ jU jV jW jX jY jZ gA gB gC gD gF gS gT)) 54)
  have hown0 : aY base (w.alloc (.cells (List.toArray (rC gR gI gJ gK gM gN gP gQ jU jV jW jX jY jZ gA gB gC gD gF gS gT)) 54)) v l := World.ownsRow.alloc hown _
  have hA := bD.alloc w v (.cells (List.toArray (rC gR gI gJ gK gM gN gP gQ jU jV jW jX jY jZ gA gB gC gD gF gS gT)) 54)
  have hb : base ≤ (w.alloc (.cells (List.toArray (rC gR gI gJ gK gM gN gP gQ jU jV jW jX jY jZ gA gB gC gD gF gS gT)) 54)).heap.size := by simp; omega
  have hG : bD (w.alloc (.cells (List.toArray (rC gR gI gJ gK gM gN gP gQ jU jV jW jX jY jZ gA gB gC gD gF gS gT)) 54)) v (w.alloc (.cells (List.toArray (rC gR gI gJ gK gM gN gP gQ jU jV jW jX jY jZ gA gB gC gD gF gS gT)) 54)) v := ⟨⟨rfl, rfl, rfl, Nat.le_refl _, fun _ _ _ => rfl⟩, .inl rfl⟩
  subst hk
  go_enter Tryz.func221, Tryz.ntmps221
  go_wp2_with (first | (go_at_call 214; go_must (refine (dK base _ _ _ _ (by assumption) (by assumption) (by first | omega | (simp only [List.length_append, List.length_cons, List.length_nil]; omega))).mono ?_; rintro e w1 ⟨v1, rfl, hown1, hg1⟩; have hG := hG.trans hg1; have hb := Nat.le_trans hb hg1.grown.size; have hB := af (hG.blk hW hne))) | (go_at_call 220; go_must (refine (fB base _ _ _ _ (by assumption) (by assumption) (by first | omega | (simp only [List.length_append, List.length_cons, List.length_nil]; omega)) (by omega) (by omega)).mono ?_; rintro e w1 ⟨v1, rfl, hown1, hg1⟩; have hG := hG.trans hg1; have hb := Nat.le_trans hb hg1.grown.size; have hB := af (hG.blk hW hne))))
  go_ret
  exact ⟨_, rfl, dO ‹aY base _ _ _› (by simp [aR.bytes, aR.tail]), hA.trans hG⟩
theorem Fa (base : Nat) (v : Value) (l : List Int) (gR : Int) (gI gJ gK gM gN gP gQ : Int) (jU jV jW jX jY : Int) (jZ : Option Addr) (gA gB : Nat) (gC : Option Addr) (gD gF : Nat) (gS gT : Int) (gG : List Row) (gH : List ay) (w : World) (hown : aY base w v l) (hb0 : base ≤ w.heap.size) (hl : l.length < 1800000000) (_h1 : cz base w ⟨jZ, gA, gB⟩ 2 (gG.map Row.cells)) (_h2 : cz base w ⟨gC, gD, gF⟩ 7 (gH.map ay.cells)) (_hr : gR = 2 → gG.length ≤ 255) (_hd : gR = 2 → gH.length ≤ 255) (hwf : (aR.mk gR (aD.mk gI gJ gK gM gN gP gQ) (ax.mk jU jV jW jX jY ⟨jZ, gA, gB⟩ ⟨gC, gD, gF⟩ gG gH) gS gT).wf) (k1 : (gR == 1) = false) (k2 : (gR == 2) = false) (k3 : (gR == 3) = false) :
    Calls Tryz.prog 221 #[v, .agg (List.toArray (rC gR gI gJ gK gM gN gP gQ jU jV jW jX jY jZ gA gB gC gD gF gS gT))] w fun e w' => ∃ v', e = .returned v' ∧ aY base w' v' (l ++ (aR.mk gR (aD.mk gI gJ gK gM gN gP gQ) (ax.mk jU jV jW jX jY ⟨jZ, gA, gB⟩ ⟨gC, gD, gF⟩ gG gH) gS gT).bytes) ∧ bD w v w' v' := by
  obtain ⟨hk1, hq1, hr1, hp1, hs1⟩ := hwf
  simp only [U8, gm] at hk1 hp1 hs1
  have hne := hown.ne
  have hW := heap_alloc_new w (.cells (List.toArray (rC gR gI gJ gK gM gN gP gQ jU jV jW jX jY jZ gA gB gC gD gF gS gT)) 54)
  have hown0 : aY base (w.alloc (.cells (List.toArray (rC gR gI gJ gK gM gN gP gQ jU jV jW jX jY jZ gA gB gC gD gF gS gT)) 54)) v l := World.ownsRow.alloc hown _
  have hA := bD.alloc w v (.cells (List.toArray (rC gR gI gJ gK gM gN gP gQ jU jV jW jX jY jZ gA gB gC gD gF gS gT)) 54)
  have hb : base ≤ (w.alloc (.cells (List.toArray (rC gR gI gJ gK gM gN gP gQ jU jV jW jX jY jZ gA gB gC gD gF gS gT)) 54)).heap.size := by simp; omega
  have hG : bD (w.alloc (.cells (List.toArray (rC gR gI gJ gK gM gN gP gQ jU jV jW jX jY jZ gA gB gC gD gF gS gT)) 54)) v (w.alloc (.cells (List.toArray (rC gR gI gJ gK gM gN gP gQ jU jV jW jX jY jZ gA gB gC gD gF gS gT)) 54)) v := ⟨⟨rfl, rfl, rfl, Nat.le_refl _, fun _ _ _ => rfl⟩, .inl rfl⟩
  go_enter Tryz.func221, Tryz.ntmps221
  go_wp2_with (first | (go_at_call 214; go_must (refine (dK base _ _ _ _ (by assumption) (by assumption) (by first | omega | (simp only [List.length_append, aT, aU, List.length_cons, List.length_nil]; omega))).mono ?_; rintro e w1 ⟨v1, rfl, hown1, hg1⟩; have hG := hG.trans hg1; have hb := Nat.le_trans hb hg1.grown.size; have hB := af (hG.blk hW hne))))
  go_ret
  exact ⟨_, rfl, dO ‹aY base _ _ _› (by simp [aR.bytes, aR.tail, show ¬ gR = 1 by simpa using k1, show ¬ gR = 2 by simpa using k2, show ¬ gR = 3 by simpa using k3]), hA.trans hG⟩
theorem qy (base : Nat) (v : Value) (l : List Int) (gR : Int) (gI gJ gK gM gN gP gQ : Int) (jU jV jW jX jY : Int) (jZ : Option Addr) (gA gB : Nat) (gC : Option Addr) (gD gF : Nat) (gS gT : Int) (gG : List Row) (gH : List ay) (w : World) (hown : aY base w v l) (hb0 : base ≤ w.heap.size) (hl : l.length < 1800000000) (h1 : cz base w ⟨jZ, gA, gB⟩ 2 (gG.map Row.cells)) (h2 : cz base w ⟨gC, gD, gF⟩ 7 (gH.map ay.cells)) (hr : gR = 2 → gG.length ≤ 255) (hd : gR = 2 → gH.length ≤ 255) (hwf : (aR.mk gR (aD.mk gI gJ gK gM gN gP gQ) (ax.mk jU jV jW jX jY ⟨jZ, gA, gB⟩ ⟨gC, gD, gF⟩ gG gH) gS gT).wf) :
    Calls Tryz.prog 221 #[v, .agg (List.toArray (rC gR gI gJ gK gM gN gP gQ jU jV jW jX jY jZ gA gB gC gD gF gS gT))] w fun e w' => ∃ v', e = .returned v' ∧ aY base w' v' (l ++ (aR.mk gR (aD.mk gI gJ gK gM gN gP gQ) (ax.mk jU jV jW jX jY ⟨jZ, gA, gB⟩ ⟨gC, gD, gF⟩ gG gH) gS gT).bytes) ∧ bD w v w' v' := by
  by_cases k1 : gR = 1
  · exact E5 _ _ _ _ _ _ _ _ _ _ _ _ _ _ _ _ _ _ _ _ _ _ _ _ _ _ _ hown hb0 hl h1 h2 hr hd hwf k1
  by_cases k2 : gR = 2
  · exact E8 _ _ _ _ _ _ _ _ _ _ _ _ _ _ _ _ _ _ _ _ _ _ _ _ _ _ _ hown hb0 hl h1 h2 hr hd hwf k2
  by_cases k3 : gR = 3
  · exact E9 _ _ _ _ _ _ _ _ _ _ _ _ _ _ _ _ _ _ _ _ _ _ _ _ _ _ _ hown hb0 hl h1 h2 hr hd hwf k3
  exact Fa _ _ _ _ _ _ _ _ _ _ _ _ _ _ _ _ _ _ _ _ _ _ _ _ _ _ _ hown hb0 hl h1 h2 hr hd hwf (by simpa using k1) (by simpa using k2) (by simpa using k3)
theorem Hg (base : Nat) (v : Value) (l : List Int) (rz vn zy : Int) (mF : Int) (tZ uf ug nW uh qD qE : Int) (nX nY nZ qF qG : Int) (pR : Option Addr) (pU pV : Nat) (pW : Option Addr) (pX pY : Nat) (og ui : Int) (uD : List Row) (uE : List ay) (w : World) (hown : aY base w v l) (hb0 : base ≤ w.heap.size) (hl : l.length < 1700000000) (h1 : cz base w ⟨pR, pU, pV⟩ 2 (uD.map Row.cells)) (h2 : cz base w ⟨pW, pX, pY⟩ 7 (uE.map ay.cells)) (hr : mF = 2 → uD.length ≤ 255) (hd : mF = 2 → uE.length ≤ 255) (hwf : (bz.mk rz vn zy (aR.mk mF (aD.mk tZ uf ug nW uh qD qE) (ax.mk nX nY nZ qF qG ⟨pR, pU, pV⟩ ⟨pW, pX, pY⟩ uD uE) og ui)).wf) :
    Calls Tryz.prog 219 #[v, .agg (List.toArray (rV rz vn zy mF tZ uf ug nW uh qD qE nX nY nZ qF qG pR pU pV pW pX pY og ui))] w fun e w' => ∃ v', e = .returned v' ∧ aY base w' v' (l ++ (bz.mk rz vn zy (aR.mk mF (aD.mk tZ uf ug nW uh qD qE) (ax.mk nX nY nZ qF qG ⟨pR, pU, pV⟩ ⟨pW, pX, pY⟩ uD uE) og ui)).bytes) ∧ bD w v w' v' := by
  obtain ⟨hs1, hn1, hi1, hc1⟩ := hwf
  simp only [U8, gm] at hs1 hn1 hi1
  have hne := hown.ne
  have hW := heap_alloc_new w (.cells (List.toArray (rV rz vn zy mF tZ uf ug nW uh qD qE nX nY nZ qF qG pR pU pV pW pX pY og ui)) 196)
  have hown0 : aY base (w.alloc (.cells (List.toArray (rV rz vn zy mF tZ uf ug nW uh qD qE nX nY nZ qF qG pR pU pV pW pX pY og ui)) 196)) v l := World.ownsRow.alloc hown _
  have hA := bD.alloc w v (.cells (List.toArray (rV rz vn zy mF tZ uf ug nW uh qD qE nX nY nZ qF qG pR pU pV pW pX pY og ui)) 196)
  have hb : base ≤ (w.alloc (.cells (List.toArray (rV rz vn zy mF tZ uf ug nW uh qD qE nX nY nZ qF qG pR pU pV pW pX pY og ui)) 196)).heap.size := by simp; omega
  have hG : bD (w.alloc (.cells (List.toArray (rV rz vn zy mF tZ uf ug nW uh qD qE nX nY nZ qF qG pR pU pV pW pX pY og ui)) 196)) v (w.alloc (.cells (List.toArray (rV rz vn zy mF tZ uf ug nW uh qD qE nX nY nZ qF qG pR pU pV pW pX pY og ui)) 196)) v := ⟨⟨rfl, rfl, rfl, Nat.le_refl _, fun _ _ _ => rfl⟩, .inl rfl⟩
  go_enter Tryz.func219, Tryz.ntmps219
  go_wp2_with (first | (go_at_call 220; go_must (refine (fB base _ _ _ _ (by assumption) (by assumption) (by first | omega | (simp only [List.length_append, aT, aU, List.length_cons, List.length_nil]; omega)) (by omega) (by omega)).mono ?_; rintro e w1 ⟨v1, rfl, hown1, hg1⟩; have hG := hG.trans hg1; have hb := Nat.le_trans hb hg1.grown.size; have hB := af (hG.blk hW hne))) | (with_reducible show wpList _ _ _ ({ dst := _, op := Op.load 143 _, type := _, pos := _, after := _, guard := none } :: _) _ _; go_must (refine ak rfl _ _ rfl w.heap.size 1 rfl 2 _ Tryz.underlying143 rfl gU _ _ (hG.blk hW hne) rfl [.int .u32 vn, .int .u8 zy] rfl ?_)) | (with_reducible show wpList _ _ _ ({ dst := _, op := Op.load 54 _, type := _, pos := _, after := _, guard := none } :: _) _ _; go_must (refine ak rfl _ _ rfl w.heap.size 3 rfl 17 _ Tryz.underlying54 rfl dS _ _ (hG.blk hW hne) rfl (rC mF tZ uf ug nW uh qD qE nX nY nZ qF qG pR pU pV pW pX pY og ui) rfl ?_)) | (go_at_call 217; go_must (refine (kR base _ _ _ _ _ (by assumption) (by assumption) (by first | omega | (simp only [List.length_append, aT]; omega)) hn1).mono ?_; rintro e w1 ⟨v1, rfl, hown1, hg1⟩; have hG := hG.trans hg1; have hb := Nat.le_trans hb hg1.grown.size; have hB := af (hG.blk hW hne))) | (go_at_call 221; go_must (refine (qy base _ _ _ _ _ _ _ _ _ _ _ _ _ _ _ _ _ _ _ _ _ _ _ uD uE _ (by assumption) (by assumption) (by simp only [bJ, List.length_append, aT, List.length_cons, List.length_nil]; omega) (h1.below ((hA.trans hG).below hown hb0) (Nat.le_refl _)) (h2.below ((hA.trans hG).below hown hb0) (Nat.le_refl _)) hr hd hc1).mono ?_; rintro e w1 ⟨v1, rfl, hown1, hg1⟩; have hG := hG.trans hg1; have hb := Nat.le_trans hb hg1.grown.size; have hB := af (hG.blk hW hne))))
  go_ret
  exact ⟨_, rfl, dO ‹aY base _ _ _› (by simp [bz.bytes]), hA.trans hG⟩
end
end Go.Proofs.YtignemioillaiaaGreat
