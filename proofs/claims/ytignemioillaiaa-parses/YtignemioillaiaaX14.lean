/- Parses. -/
import Derived.Test.YtignemioillaiaaD4
import Derived.Test.YtignemioillaiaaX13
namespace Go.Proofs.Ytignemioillaiaa
open Go.RowKit

theorem bk_new {w : World} {K : Nat} (hK : w.heap[K]? = some (.cells #[.int .i64 0, .slice none 0 0, .slice none 0 0, .slice none 0 0, .slice none 0 0, .slice none 0 0, .slice none 0 0, .slice none 0 0, .slice none 0 0, .slice none 0 0, .slice none 0 0, .slice none 0 0, .slice none 0 0, .slice none 0 0, .slice none 0 0] 58)) : Bk w K 0 (.slice none 0 0) (.slice none 0 0) (.slice none 0 0) (.slice none 0 0) (.slice none 0 0) (.slice none 0 0) [] [] [] :=
  ⟨hK, ⟨World.ownsRow_nil _ _ _ _, World.ownsRow_nil _ _ _ _, fun i s m hi => by simp at hi, fun i s m hi => by simp at hi⟩, ⟨World.ownsRow_nil _ _ _ _, World.ownsRow_nil _ _ _ _, fun i s m hi => by simp at hi, fun i s m hi => by simp at hi⟩, ⟨World.ownsRow_nil _ _ _ _, World.ownsRow_nil _ _ _ _, fun i s m hi => by simp at hi, fun i s m hi => by simp at hi⟩, .inl rfl, .inl rfl, .inl rfl⟩
theorem Col.off_new {w : World} {ts te : TypeId} {size : Nat} {mk : Int → List Value} {S M : Value} {E : List (Sl × Int)} (h : Col w ts te size mk S M E) {v : Value} (hv : ∀ c, v.ownBlock = some c → w.heap.size ≤ c) : OffB v.ownBlock E := by
  intro i s m hi c hc e
  have h1 := (World.ownsRow.lt (h.all i s m hi) c hc).2
  have h2 := hv c e
  omega
theorem ready_new {w w' : World} {K n : Nat} {vR vP vV m0 m1 m3 : Value} {R P V : List (Sl × Int)} {m : Msg} (hB : Bk w K n vR vP vV m0 m1 m3 R P V) (hm : MsgA w.heap.size w' m) : Ready w' R P V m :=
  ⟨hm.own.mono (Nat.zero_le _), hm.ap, hm.lens, hm.vl, fun x hx => ⟨hB.cR.off_new fun c hc => (World.ownsRow.lt (hm.own.rng' x hx).rows c hc).1, hB.cP.off_new fun c hc => (World.ownsRow.lt (hm.own.rng' x hx).dups c hc).1⟩, hB.cV.off_new fun c hc => (World.ownsRow.lt hm.own.vs c hc).1⟩

set_option maxHeartbeats 8000000 in
set_option maxRecDepth 100000 in
theorem parses_any (l t : List Int) (w : World) (hb : Byt l) (hl : l.length ≤ 1000000000000000) (hb2 : Byt t) (hl2 : t.length ≤ 1000000000000000) :
    Calls Try.prog 4 #[.string (bstr l), .string (bstr t)] w fun e w' => e = .returned (.bool true) ∧ Below w.heap.size w w' := by
  have hBel : Below w.heap.size w w := Below.refl _ w
  have hKw : w.heap.size ≤ w.heap.size := Nat.le_refl _
  go_enter Try.func4, Try.ntmps4
  have hNA := hBel.size
  go_upto_region 2 with (first | (go_at_call 14; go_must (refine (wire_ansP l _ hb hl).mono ?_; rintro e W1 ⟨mA, MA, EA, hAnA, hSA, rfl, hAA, hbA⟩)) | (with_reducible show AtS 38 5 ..; go_must (refine wpList_store_blk rfl _ _ _ rfl rfl W1.heap.size 0 rfl mA.cells rfl _ sz_msg rfl rfl _ _ (heap_alloc_new W1 (.cells (List.toArray oxM) 38)) rfl mA.cells rfl ?_; intro W2 hXn hOn)))
  replace hBel := hBel.trans (hbA.mono hBel.size)
  have OA := hideU hAA.own
  have AA := hideU hAA
  have hiA : ∀ k, Has mA k → w.heap.size ≤ k ∧ k < W1.heap.size := fun k hk => OA.out.has hk
  have hszA := hbA.size
  have hbn := (later_alloc W1 (.cells (List.toArray oxM) 38)).trans (hOn.below (Nat.le_refl _))
  replace OA := hideU (OA.out.below hbn)
  replace hBel := hBel.trans (hbn.mono hBel.size)
  have hsyA : W1.heap.size < W2.heap.size := (Array.getElem?_eq_some_iff.1 hXn).1
  obtain ⟨bA, hbAe⟩ : ∃ b, b = W1.heap.size := ⟨_, rfl⟩
  rw [← hbAe] at hXn ⊢
  have hXA := hXn
  clear hXn hOn hbn hbA hAA hbAe
  have hNB := hBel.size
  go_upto_region 3 with (first | (go_at_call 15; go_must (refine (ref_ansP l _ hb hl).mono ?_; rintro e W3 ⟨mB, MB, EB, hAnB, hSB, rfl, hOB, hbB⟩)) | (with_reducible show AtS 38 7 ..; go_must (refine wpList_store_blk rfl _ _ _ rfl rfl W3.heap.size 0 rfl mB.cells rfl _ sz_msg rfl rfl _ _ (heap_alloc_new W3 (.cells (List.toArray oxM) 38)) rfl mB.cells rfl ?_; intro W4 hXn hOn)))
  replace OA := hideU (OA.out.below hbB)
  replace hXA := blk_later hbB hXA
  replace hBel := hBel.trans (hbB.mono hBel.size)
  have OB := hideU hOB
  have hiB : ∀ k, Has mB k → W2.heap.size ≤ k ∧ k < W3.heap.size := fun k hk => OB.out.has hk
  have hszB := hbB.size
  have hbn := (later_alloc W3 (.cells (List.toArray oxM) 38)).trans (hOn.below (Nat.le_refl _))
  replace OA := hideU (OA.out.below hbn)
  replace hXA := blk_later hbn hXA
  replace OB := hideU (OB.out.below hbn)
  replace hBel := hBel.trans (hbn.mono hBel.size)
  have hsyB : W3.heap.size < W4.heap.size := (Array.getElem?_eq_some_iff.1 hXn).1
  obtain ⟨bB, hbBe⟩ : ∃ b, b = W3.heap.size := ⟨_, rfl⟩
  rw [← hbBe] at hXn ⊢
  have hXB := hXn
  clear hXn hOn hbn hbB hOB hbBe
  obtain ⟨hMe, hEe⟩ := hAnA.one hAnB
  subst hMe
  subst hEe
  go_upto_region 4 with (first | (with_reducible show AtL 32 38 ..; go_must (refine wpList_load_blk rfl _ _ rfl bA 0 rfl 45 _ Try.underlying38 rfl sz_msg _ _ hXA rfl mA.cells rfl ?_)) | (with_reducible show AtL 33 38 ..; go_must (refine wpList_load_blk rfl _ _ rfl bB 0 rfl 45 _ Try.underlying38 rfl sz_msg _ _ hXB rfl mB.cells rfl ?_)) | (go_at_call 13; go_must (refine (same_msg mA mB _ OA.out.In OB.out.In (hSA.trans hSB.symm)).mono ?_; rintro e W5 ⟨rfl, hbn⟩)))
  have hszW5 := hbn.size
  replace OA := hideU (OA.out.below hbn)
  replace hXA := blk_later hbn hXA
  replace OB := hideU (OB.out.below hbn)
  replace hXB := blk_later hbn hXB
  replace hBel := hBel.trans (hbn.mono hBel.size)
  clear hbn
  have hNC := hBel.size
  go_upto_region 7 with (first | (go_at_call 14; go_must (refine (wire_ansP t _ hb2 hl2).mono ?_; rintro e W6 ⟨mC, MC, EC, hAnC, hSC, rfl, hAC, hbC⟩)) | (with_reducible show AtS 38 10 ..; go_must (refine wpList_store_blk rfl _ _ _ rfl rfl W6.heap.size 0 rfl mC.cells rfl _ sz_msg rfl rfl _ _ (heap_alloc_new W6 (.cells (List.toArray oxM) 38)) rfl mC.cells rfl ?_; intro W7 hXn hOn)))
  replace OA := hideU (OA.out.below hbC)
  replace hXA := blk_later hbC hXA
  replace OB := hideU (OB.out.below hbC)
  replace hXB := blk_later hbC hXB
  replace hBel := hBel.trans (hbC.mono hBel.size)
  have OC := hideU hAC.own
  have AC := hideU hAC
  have hiC : ∀ k, Has mC k → W5.heap.size ≤ k ∧ k < W6.heap.size := fun k hk => OC.out.has hk
  have hszC := hbC.size
  have hbn := (later_alloc W6 (.cells (List.toArray oxM) 38)).trans (hOn.below (Nat.le_refl _))
  replace OA := hideU (OA.out.below hbn)
  replace hXA := blk_later hbn hXA
  replace OB := hideU (OB.out.below hbn)
  replace hXB := blk_later hbn hXB
  replace OC := hideU (OC.out.below hbn)
  replace hBel := hBel.trans (hbn.mono hBel.size)
  have hsyC : W6.heap.size < W7.heap.size := (Array.getElem?_eq_some_iff.1 hXn).1
  obtain ⟨bC, hbCe⟩ : ∃ b, b = W6.heap.size := ⟨_, rfl⟩
  rw [← hbCe] at hXn ⊢
  have hXC := hXn
  clear hXn hOn hbn hbC hAC hbCe
  have hND := hBel.size
  go_upto_region 8 with (first | (go_at_call 15; go_must (refine (ref_ansP t _ hb2 hl2).mono ?_; rintro e W8 ⟨mD, MD, ED, hAnD, hSD, rfl, hOD, hbD⟩)) | (with_reducible show AtS 38 12 ..; go_must (refine wpList_store_blk rfl _ _ _ rfl rfl W8.heap.size 0 rfl mD.cells rfl _ sz_msg rfl rfl _ _ (heap_alloc_new W8 (.cells (List.toArray oxM) 38)) rfl mD.cells rfl ?_; intro W9 hXn hOn)))
  replace OA := hideU (OA.out.below hbD)
  replace hXA := blk_later hbD hXA
  replace OB := hideU (OB.out.below hbD)
  replace hXB := blk_later hbD hXB
  replace OC := hideU (OC.out.below hbD)
  replace hXC := blk_later hbD hXC
  replace hBel := hBel.trans (hbD.mono hBel.size)
  have OD := hideU hOD
  have hiD : ∀ k, Has mD k → W7.heap.size ≤ k ∧ k < W8.heap.size := fun k hk => OD.out.has hk
  have hszD := hbD.size
  have hbn := (later_alloc W8 (.cells (List.toArray oxM) 38)).trans (hOn.below (Nat.le_refl _))
  replace OA := hideU (OA.out.below hbn)
  replace hXA := blk_later hbn hXA
  replace OB := hideU (OB.out.below hbn)
  replace hXB := blk_later hbn hXB
  replace OC := hideU (OC.out.below hbn)
  replace hXC := blk_later hbn hXC
  replace OD := hideU (OD.out.below hbn)
  replace hBel := hBel.trans (hbn.mono hBel.size)
  have hsyD : W8.heap.size < W9.heap.size := (Array.getElem?_eq_some_iff.1 hXn).1
  obtain ⟨bD, hbDe⟩ : ∃ b, b = W8.heap.size := ⟨_, rfl⟩
  rw [← hbDe] at hXn ⊢
  have hXD := hXn
  clear hXn hOn hbn hbD hOD hbDe
  obtain ⟨hMe, hEe⟩ := hAnC.one hAnD
  subst hMe
  subst hEe
  go_upto_region 9 with fail
  obtain ⟨WB, hWB⟩ : ∃ x, x = W9.alloc (.cells #[.int .i64 0, .slice none 0 0, .slice none 0 0, .slice none 0 0, .slice none 0 0, .slice none 0 0, .slice none 0 0, .slice none 0 0, .slice none 0 0, .slice none 0 0, .slice none 0 0, .slice none 0 0, .slice none 0 0, .slice none 0 0, .slice none 0 0] 58) := ⟨_, rfl⟩
  have hbn : Below W9.heap.size W9 WB := by rw [hWB]; exact later_alloc _ _
  have hKb : WB.heap[W9.heap.size]? = some (.cells #[.int .i64 0, .slice none 0 0, .slice none 0 0, .slice none 0 0, .slice none 0 0, .slice none 0 0, .slice none 0 0, .slice none 0 0, .slice none 0 0, .slice none 0 0, .slice none 0 0, .slice none 0 0, .slice none 0 0, .slice none 0 0, .slice none 0 0] 58) := by rw [hWB]; exact heap_alloc_new _ _
  rw [← hWB]
  replace OA := hideU (OA.out.below hbn)
  replace hXA := blk_later hbn hXA
  replace OB := hideU (OB.out.below hbn)
  replace hXB := blk_later hbn hXB
  replace OC := hideU (OC.out.below hbn)
  replace hXC := blk_later hbn hXC
  replace OD := hideU (OD.out.below hbn)
  replace hXD := blk_later hbn hXD
  replace hBel := hBel.trans (hbn.mono hBel.size)
  have hszK : W9.heap.size < WB.heap.size := (Array.getElem?_eq_some_iff.1 hKb).1
  have hKN := hBel.size
  have hKN : w.heap.size ≤ W9.heap.size := Nat.le_trans hND (Nat.le_trans hszD (Nat.le_of_lt hsyD))
  obtain ⟨K, hKe⟩ : ∃ k, k = W9.heap.size := ⟨_, rfl⟩
  rw [← hKe] at hKb hKN hszK hsyD ⊢
  have HKe := hideU hKe
  have RA := hideU (Ready.mk (OA.out.mono (Nat.zero_le _)) AA.out.ap AA.out.lens AA.out.vl (fun x hx => ⟨OffB.nil _, OffB.nil _⟩) (OffB.nil _) : Ready WB [] [] [] mA)
  have RC := hideU (Ready.mk (OC.out.mono (Nat.zero_le _)) AC.out.ap AC.out.lens AC.out.vl (fun x hx => ⟨OffB.nil _, OffB.nil _⟩) (OffB.nil _) : Ready WB [] [] [] mC)
  have HB := hideU (bk_new hKb)
  have hOB : ∀ k, Value.ownBlock (.slice none 0 0) = some k ∨ Value.ownBlock (.slice none 0 0) = some k ∨ Value.ownBlock (.slice none 0 0) = some k ∨ Value.ownBlock (.slice none 0 0) = some k ∨ Value.ownBlock (.slice none 0 0) = some k ∨ Value.ownBlock (.slice none 0 0) = some k → w.heap.size ≤ k := by rintro k (h | h | h | h | h | h) <;> cases h
  obtain ⟨vR_0, vP_0, vV_0, m0_0, m1_0, m3_0, R_0, P_0, V_0, n_0, HB, hOB, RA, RC, hn_0, l1_0, l2_0, l3_0⟩ : ∃ (vR vP vV m0 m1 m3 : Value) (R P V : List (Sl × Int)) (n : Nat), Hid (Bk WB K n vR vP vV m0 m1 m3 R P V) ∧ (∀ k, vR.ownBlock = some k ∨ vP.ownBlock = some k ∨ vV.ownBlock = some k ∨ m0.ownBlock = some k ∨ m1.ownBlock = some k ∨ m3.ownBlock = some k → w.heap.size ≤ k) ∧ Hid (Ready WB R P V mA) ∧ Hid (Ready WB R P V mC) ∧ n ≤ 0 ∧ R.length ≤ 0 ∧ P.length ≤ 0 ∧ V.length ≤ 0 := ⟨_, _, _, _, _, _, [], [], [], 0, HB, hOB, RA, RC, Nat.le_refl _, Nat.le_refl _, Nat.le_refl _, Nat.le_refl _⟩
  clear hWB hKe hbn hKb
  go_upto_region 10 with (first | (with_reducible show AtL 55 38 ..; go_must (refine wpList_load_blk rfl _ _ rfl bA 0 rfl 45 _ Try.underlying38 rfl sz_msg _ _ hXA rfl mA.cells rfl ?_)) | (go_at_call 16; go_must (refine (book_msg K n_0 w.heap.size vR_0 vP_0 vV_0 m0_0 m1_0 m3_0 R_0 P_0 V_0 mA _ HB.out RA.out hKN (fun k hk => Nat.le_trans hNA (hiA k hk).1) hOB hBel.size (by omega) (by omega) (by omega) (by omega)).mono ?_; rintro e W10 ⟨rfl, vR_1, vP_1, vV_1, m0_1, m1_1, m3_1, R_1, P_1, V_1, n_1, hB1, hn_1, hT1, hOB1⟩)))
  replace OB := hideU (hT1.keep _ _ OB.out (fun k h1 h2 => by have := hiB k h1; have := hiA k h2; omega))
  replace OC := hideU (hT1.keep _ _ OC.out (fun k h1 h2 => by have := hiC k h1; have := hiA k h2; omega))
  replace OD := hideU (hT1.keep _ _ OD.out (fun k h1 h2 => by have := hiD k h1; have := hiA k h2; omega))
  replace RC := hideU (hT1.ready _ RC.out (fun k h1 h2 => by have := hiC k h1; have := hiA k h2; omega))
  clear OA
  clear RA
  replace hXA := hT1.blk _ _ hXA
  replace hXB := hT1.blk _ _ hXB
  replace hXC := hT1.blk _ _ hXC
  replace hXD := hT1.blk _ _ hXD
  replace hBel := hBel.trans hT1.bel
  replace HB := hideU hB1
  replace hOB := hOB1
  have l1_1 := hT1.lR
  have l2_1 := hT1.lP
  have l3_1 := hT1.lV
  have hszW10 := hT1.bel.size
  clear hT1 hB1 hOB1
  go_upto_region 11 with (first | (go_at_call 17; go_must (refine (book_still K n_1 _ _ _ _ _ _ R_1 P_1 V_1 _ HB.out).mono ?_; rintro e W11 ⟨rfl, hbn⟩)))
  have hszW11 := hbn.size
  replace hXA := blk_later hbn hXA
  replace OB := hideU (OB.out.below hbn)
  replace hXB := blk_later hbn hXB
  replace OC := hideU (OC.out.below hbn)
  replace hXC := blk_later hbn hXC
  replace OD := hideU (OD.out.below hbn)
  replace hXD := blk_later hbn hXD
  replace HB := hideU (HB.out.later hbn)
  replace RC := hideU (RC.out.later hbn)
  replace hBel := hBel.trans (hbn.mono hBel.size)
  clear hbn
  go_upto_region 12 with (first | (with_reducible show AtL 59 38 ..; go_must (refine wpList_load_blk rfl _ _ rfl bC 0 rfl 45 _ Try.underlying38 rfl sz_msg _ _ hXC rfl mC.cells rfl ?_)) | (with_reducible show AtL 60 38 ..; go_must (refine wpList_load_blk rfl _ _ rfl bD 0 rfl 45 _ Try.underlying38 rfl sz_msg _ _ hXD rfl mD.cells rfl ?_)) | (go_at_call 13; go_must (refine (same_msg mC mD _ OC.out.In OD.out.In (hSC.trans hSD.symm)).mono ?_; rintro e W12 ⟨rfl, hbn⟩)))
  have hszW12 := hbn.size
  replace hXA := blk_later hbn hXA
  replace OB := hideU (OB.out.below hbn)
  replace hXB := blk_later hbn hXB
  replace OC := hideU (OC.out.below hbn)
  replace hXC := blk_later hbn hXC
  replace OD := hideU (OD.out.below hbn)
  replace hXD := blk_later hbn hXD
  replace HB := hideU (HB.out.later hbn)
  replace RC := hideU (RC.out.later hbn)
  replace hBel := hBel.trans (hbn.mono hBel.size)
  clear hbn
  have hNX := hBel.size
  go_upto_region 13 with (first | (go_at_call 14; go_must (refine (wire_ansP l _ hb hl).mono ?_; rintro e W13 ⟨mX, MX, EX, hAnX, hSX, rfl, hAX, hbX⟩)) | (with_reducible show AtS 38 16 ..; go_must (refine wpList_store_blk rfl _ _ _ rfl rfl W13.heap.size 0 rfl mX.cells rfl _ sz_msg rfl rfl _ _ (heap_alloc_new W13 (.cells (List.toArray oxM) 38)) rfl mX.cells rfl ?_; intro W14 hXn hOn)))
  have RX := hideU (ready_new HB.out hAX)
  replace hXA := blk_later hbX hXA
  replace OB := hideU (OB.out.below hbX)
  replace hXB := blk_later hbX hXB
  replace OC := hideU (OC.out.below hbX)
  replace hXC := blk_later hbX hXC
  replace OD := hideU (OD.out.below hbX)
  replace hXD := blk_later hbX hXD
  replace HB := hideU (HB.out.later hbX)
  replace RC := hideU (RC.out.later hbX)
  replace hBel := hBel.trans (hbX.mono hBel.size)
  have OX := hideU hAX.own
  have AX := hideU hAX
  have hiX : ∀ k, Has mX k → W12.heap.size ≤ k ∧ k < W13.heap.size := fun k hk => OX.out.has hk
  have hszX := hbX.size
  have hbn := (later_alloc W13 (.cells (List.toArray oxM) 38)).trans (hOn.below (Nat.le_refl _))
  replace hXA := blk_later hbn hXA
  replace OB := hideU (OB.out.below hbn)
  replace hXB := blk_later hbn hXB
  replace OC := hideU (OC.out.below hbn)
  replace hXC := blk_later hbn hXC
  replace OD := hideU (OD.out.below hbn)
  replace hXD := blk_later hbn hXD
  replace HB := hideU (HB.out.later hbn)
  replace RC := hideU (RC.out.later hbn)
  replace OX := hideU (OX.out.below hbn)
  replace RX := hideU (RX.out.later hbn)
  replace hBel := hBel.trans (hbn.mono hBel.size)
  have hsyX : W13.heap.size < W14.heap.size := (Array.getElem?_eq_some_iff.1 hXn).1
  obtain ⟨bX, hbXe⟩ : ∃ b, b = W13.heap.size := ⟨_, rfl⟩
  rw [← hbXe] at hXn ⊢
  have hXX := hXn
  clear hXn hOn hbn hbX hAX hbXe
  obtain ⟨hMe, _⟩ := hAnX.one hAnB
  subst hMe
  go_upto_region 14 with (first | (with_reducible show AtL 67 38 ..; go_must (refine wpList_load_blk rfl _ _ rfl bX 0 rfl 45 _ Try.underlying38 rfl sz_msg _ _ hXX rfl mX.cells rfl ?_)) | (with_reducible show AtL 68 38 ..; go_must (refine wpList_load_blk rfl _ _ rfl bB 0 rfl 45 _ Try.underlying38 rfl sz_msg _ _ hXB rfl mB.cells rfl ?_)) | (go_at_call 13; go_must (refine (same_msg mX mB _ OX.out.In OB.out.In (hSX.trans hSB.symm)).mono ?_; rintro e W15 ⟨rfl, hbn⟩)))
  have hszW15 := hbn.size
  replace hXA := blk_later hbn hXA
  replace OB := hideU (OB.out.below hbn)
  replace hXB := blk_later hbn hXB
  replace OC := hideU (OC.out.below hbn)
  replace hXC := blk_later hbn hXC
  replace OD := hideU (OD.out.below hbn)
  replace hXD := blk_later hbn hXD
  replace HB := hideU (HB.out.later hbn)
  replace RC := hideU (RC.out.later hbn)
  replace OX := hideU (OX.out.below hbn)
  replace RX := hideU (RX.out.later hbn)
  replace hXX := blk_later hbn hXX
  replace hBel := hBel.trans (hbn.mono hBel.size)
  clear hbn
  go_upto_region 15 with (first | (with_reducible show AtL 71 38 ..; go_must (refine wpList_load_blk rfl _ _ rfl bC 0 rfl 45 _ Try.underlying38 rfl sz_msg _ _ hXC rfl mC.cells rfl ?_)) | (go_at_call 16; go_must (refine (book_msg K n_1 w.heap.size vR_1 vP_1 vV_1 m0_1 m1_1 m3_1 R_1 P_1 V_1 mC _ HB.out RC.out hKN (fun k hk => Nat.le_trans hNC (hiC k hk).1) hOB hBel.size (by omega) (by omega) (by omega) (by omega)).mono ?_; rintro e W16 ⟨rfl, vR_2, vP_2, vV_2, m0_2, m1_2, m3_2, R_2, P_2, V_2, n_2, hB1, hn_2, hT1, hOB1⟩)))
  replace OB := hideU (hT1.keep _ _ OB.out (fun k h1 h2 => by have := hiB k h1; have := hiC k h2; omega))
  replace OX := hideU (hT1.keep _ _ OX.out (fun k h1 h2 => by have := hiX k h1; have := hiC k h2; omega))
  replace RX := hideU (hT1.ready _ RX.out (fun k h1 h2 => by have := hiX k h1; have := hiC k h2; omega))
  clear OC
  clear RC
  clear OD
  replace hXA := hT1.blk _ _ hXA
  replace hXB := hT1.blk _ _ hXB
  replace hXC := hT1.blk _ _ hXC
  replace hXD := hT1.blk _ _ hXD
  replace hXX := hT1.blk _ _ hXX
  replace hBel := hBel.trans hT1.bel
  replace HB := hideU hB1
  replace hOB := hOB1
  have l1_2 := hT1.lR
  have l2_2 := hT1.lP
  have l3_2 := hT1.lV
  have hszW16 := hT1.bel.size
  clear hT1 hB1 hOB1
  go_upto_region 16 with (first | (go_at_call 17; go_must (refine (book_still K n_2 _ _ _ _ _ _ R_2 P_2 V_2 _ HB.out).mono ?_; rintro e W17 ⟨rfl, hbn⟩)))
  have hszW17 := hbn.size
  replace hXA := blk_later hbn hXA
  replace OB := hideU (OB.out.below hbn)
  replace hXB := blk_later hbn hXB
  replace hXC := blk_later hbn hXC
  replace hXD := blk_later hbn hXD
  replace HB := hideU (HB.out.later hbn)
  replace OX := hideU (OX.out.below hbn)
  replace RX := hideU (RX.out.later hbn)
  replace hXX := blk_later hbn hXX
  replace hBel := hBel.trans (hbn.mono hBel.size)
  clear hbn
  go_upto_region 17 with (first | (with_reducible show AtL 75 38 ..; go_must (refine wpList_load_blk rfl _ _ rfl bX 0 rfl 45 _ Try.underlying38 rfl sz_msg _ _ hXX rfl mX.cells rfl ?_)) | (with_reducible show AtL 76 38 ..; go_must (refine wpList_load_blk rfl _ _ rfl bB 0 rfl 45 _ Try.underlying38 rfl sz_msg _ _ hXB rfl mB.cells rfl ?_)) | (go_at_call 13; go_must (refine (same_msg mX mB _ OX.out.In OB.out.In (hSX.trans hSB.symm)).mono ?_; rintro e W18 ⟨rfl, hbn⟩)))
  have hszW18 := hbn.size
  replace hXA := blk_later hbn hXA
  replace OB := hideU (OB.out.below hbn)
  replace hXB := blk_later hbn hXB
  replace hXC := blk_later hbn hXC
  replace hXD := blk_later hbn hXD
  replace HB := hideU (HB.out.later hbn)
  replace OX := hideU (OX.out.below hbn)
  replace RX := hideU (RX.out.later hbn)
  replace hXX := blk_later hbn hXX
  replace hBel := hBel.trans (hbn.mono hBel.size)
  clear hbn
  go_upto_region 18 with (first | (with_reducible show AtL 79 38 ..; go_must (refine wpList_load_blk rfl _ _ rfl bX 0 rfl 45 _ Try.underlying38 rfl sz_msg _ _ hXX rfl mX.cells rfl ?_)) | (go_at_call 16; go_must (refine (book_msg K n_2 w.heap.size vR_2 vP_2 vV_2 m0_2 m1_2 m3_2 R_2 P_2 V_2 mX _ HB.out RX.out hKN (fun k hk => Nat.le_trans hNX (hiX k hk).1) hOB hBel.size (by omega) (by omega) (by omega) (by omega)).mono ?_; rintro e W19 ⟨rfl, vR_3, vP_3, vV_3, m0_3, m1_3, m3_3, R_3, P_3, V_3, n_3, hB1, hn_3, hT1, hOB1⟩)))
  clear OX
  clear RX
  clear OB
  replace hXA := hT1.blk _ _ hXA
  replace hXB := hT1.blk _ _ hXB
  replace hXC := hT1.blk _ _ hXC
  replace hXD := hT1.blk _ _ hXD
  replace hXX := hT1.blk _ _ hXX
  replace hBel := hBel.trans hT1.bel
  replace HB := hideU hB1
  replace hOB := hOB1
  have l1_3 := hT1.lR
  have l2_3 := hT1.lP
  have l3_3 := hT1.lV
  have hszW19 := hT1.bel.size
  clear hT1 hB1 hOB1
  go_upto_region 19 with (first | (go_at_call 17; go_must (refine (book_still K n_3 _ _ _ _ _ _ R_3 P_3 V_3 _ HB.out).mono ?_; rintro e W20 ⟨rfl, hbn⟩)))
  have hszW20 := hbn.size
  replace hXA := blk_later hbn hXA
  replace hXB := blk_later hbn hXB
  replace hXC := blk_later hbn hXC
  replace hXD := blk_later hbn hXD
  replace HB := hideU (HB.out.later hbn)
  replace hXX := blk_later hbn hXX
  replace hBel := hBel.trans (hbn.mono hBel.size)
  clear hbn
  go_wp2_with fail
  go_ret
  exact ⟨rfl, hBel⟩
end Go.Proofs.Ytignemioillaiaa

