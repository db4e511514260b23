/- shard.ask of a request to whose key and client a reply is known. -/
import Derived.Test.YtignemioillaiaaJ16
namespace Go.Proofs.Ytignemioillaiaa
open Go.RowKit Go.Lib

set_option maxHeartbeats 1000000 in
set_option maxRecDepth 100000 in
theorem ask_old (w : World) (base lim b : Nat) (g n : Int) (vT vD vO vI : Value) (ma : Option Addr) (mn mc : Nat) (m : List Pc) (T : List Row) (D : List Rep) (qc qs qk qkey qv qhi qto : Int) (h : Shd w base b g n vT (.slice ma mn mc) vD vO vI T D) (hM : MapIn w ma mn mc m) (hmok : mapOk m = true) (hcan : Can m) (hk0 : 0 ≤ qkey) (hok : (Req.mk qc qs qk qkey qv qhi qto).ok = true) (mx : Int) (hmx : qkey < qhi ∧ mx = qhi ∨ qhi ≤ qkey ∧ mx = qkey) (hst : strB m g qkey mx = false) (hsD : SortD D) (hlw : lim ≤ w.heap.size) (hbl : b < lim) (hlT : ∀ k, vT.ownBlock = some k → k < lim) (hlD : ∀ k, vD.ownBlock = some k → k < lim) (hsT : SortT T) (hb : base ≤ w.heap.size) (hnT : T.length < 1000000) (hnD : D.length < 1000000) (hkind : qk = 1 ∨ qk = 2 ∨ qk = 3 ∨ qk = 4) (hto : qk = 4 → qto = g ∨ n ≤ qto) (hhas : hasD D (Rep.mk qc qs qkey 0 false 0 0) = true) (xc xs xkey xk : Int) (xf : Bool) (xv xg : Int) (hx : D[atD D (Rep.mk qc qs qkey 0 false 0 0)]? = some ⟨xc, xs, xkey, xk, xf, xv, xg⟩) (hold : xs < qs) :
    Calls Try.prog 66 #[.pointer (some ⟨b, 0, none⟩), .agg #[.int .u8 qc, .int .u32 qs, .int .u8 qk, .int .u64 qkey, .int .u64 qv, .int .u64 qhi, .int .u8 qto]] w fun e w' => ∃ pk pf pv, e = .returned (.agg #[.int .u8 qc, .int .u32 qs, .int .u64 qkey, .int .u8 pk, .bool pf, .int .u64 pv, .int .u8 0]) ∧ Done T qk qkey false 0 pk pf pv ∧ OutS base lim b g n vT (.slice ma mn mc) vD vO vI (doT T qk qkey qv) (remD D ⟨qc, qs, qkey, pk, pf, pv, 0⟩) w w' := by
  rcases hmx with ⟨hlt, hmx⟩ | ⟨hlt, hmx⟩
  all_goals (
    rw [hmx] at hst
    clear hmx
    obtain ⟨p, hp⟩ : ∃ p, p = atD D (Rep.mk qc qs qkey 0 false 0 0) := ⟨_, rfl⟩
    have HP : Hid (atD D (Rep.mk qc qs qkey 0 false 0 0) = p) := hp.symm
    rw [HP.out] at hx
    clear hp
    obtain ⟨da, dn, dc, hvD, hdn, hdin⟩ := own_slinJ h.oD (fun y => rfl)
    obtain ⟨bb, off, hda, hbB, hx0, hx1, hx2, hx3, hx4, hx5, hx6⟩ := hdin.at7 hx
    dsimp only at hda hx0 hx1 hx2 hx3 hx4 hx5 hx6
    subst hda
    have hxl := (List.getElem?_eq_some_iff.1 hx).1
    have hlm : dn ≤ maxLen := Nat.le_trans hdin.le hdin.max
    unfold maxLen at hlm
    have hi1 : (0 : Int) ≤ (p : Int) := by omega
    have hi2 : (p : Int) < (dn : Int) := by omega
    have HVD : Hid (vD = .slice (some ⟨bb, off, none⟩) dn dc) := hvD
    have HXC : Hid (∀ w', Below w.heap.size w w' → ∀ j, w'.cell? ⟨bb, j, none⟩ = w.cell? ⟨bb, j, none⟩) := fun w' hb j => later_cell hb hbB j
    have HX : Hid (w.cell? ⟨bb, off + p * 7, none⟩ = some (.int .u8 xc) ∧ w.cell? ⟨bb, off + p * 7 + 1, none⟩ = some (.int .u32 xs) ∧ w.cell? ⟨bb, off + p * 7 + 2, none⟩ = some (.int .u64 xkey) ∧ w.cell? ⟨bb, off + p * 7 + 3, none⟩ = some (.int .u8 xk) ∧ w.cell? ⟨bb, off + p * 7 + 4, none⟩ = some (.bool xf) ∧ w.cell? ⟨bb, off + p * 7 + 5, none⟩ = some (.int .u64 xv) ∧ w.cell? ⟨bb, off + p * 7 + 6, none⟩ = some (.int .u8 xg)) := (⟨hx0, hx1, hx2, hx3, hx4, hx5, hx6⟩ : _ ∧ _ ∧ _ ∧ _ ∧ _ ∧ _ ∧ _)
    clear hx hdn hdin hvD hx0 hx1 hx2 hx3 hx4 hx5 hx6
    have HST : Hid (SortT T) := hsT
    have hd9 : decide (qs ≤ xs) = false := by simp; omega
    clear hsT
    obtain ⟨W, hW⟩ : ∃ W, W = (w.alloc (.cells #[.int .u8 qc, .int .u32 qs, .int .u8 qk, .int .u64 qkey, .int .u64 qv, .int .u64 qhi, .int .u8 qto] 25)).alloc (.cells #[.int .u8 0, .int .u32 0, .int .u64 0, .int .u8 0, .bool false, .int .u64 0, .int .u8 0] 27) := ⟨_, rfl⟩
    obtain ⟨hQ, hZ, hWl, hWs⟩ := two w (.cells #[.int .u8 qc, .int .u32 qs, .int .u8 qk, .int .u64 qkey, .int .u64 qv, .int .u64 qhi, .int .u8 qto] 25) (.cells #[.int .u8 0, .int .u32 0, .int .u64 0, .int .u8 0, .bool false, .int .u64 0, .int .u8 0] 27)
    rw [← hW] at hQ hZ hWl hWs
    have HSW : Hid (Shd W base b g n vT (.slice ma mn mc) vD vO vI T D) := h.later hWl
    have HMW : Hid (MapIn W ma mn mc m) := hM.later hWl
    have HMO : Hid (mapOk m = true ∧ Can m) := (⟨hmok, hcan⟩ : _ ∧ _)
    have HSD : Hid (SortD D) := hsD
    have HWL : Hid (Below w.heap.size w W) := hWl
    have HWS : Hid (W.heap.size = w.heap.size + 2) := hWs
    have HQ : Hid (W.heap[w.heap.size]? = some (.cells #[.int .u8 qc, .int .u32 qs, .int .u8 qk, .int .u64 qkey, .int .u64 qv, .int .u64 qhi, .int .u8 qto] 25)) := hQ
    have HZ : Hid (W.heap[w.heap.size + 1]? = some (.cells #[.int .u8 0, .int .u32 0, .int .u64 0, .int .u8 0, .bool false, .int .u64 0, .int .u8 0] 27)) := hZ
    clear h hM hmok hcan hsD hWl hQ hZ hWs
    go_enter Try.func66, Try.ntmps66
    go_upto_region 1 with fail
    rw [← hW]
    clear hW
    go_wp2_with (first
      | (with_reducible show wpList _ _ _ ({ dst := some 10, op := Op.load 25 _, type := _, pos := _, after := _, guard := none } :: _) _ _; go_must (refine wpList_load_blk rfl _ _ rfl w.heap.size 0 rfl 7 _ Try.underlying25 rfl (by kernel_rfl) [.int .u8 qc, .int .u32 qs, .int .u8 qk, .int .u64 qkey, .int .u64 qv, .int .u64 qhi, .int .u8 qto] 25 HQ.out rfl [.int .u8 qc, .int .u32 qs, .int .u8 qk, .int .u64 qkey, .int .u64 qv, .int .u64 qhi, .int .u8 qto] rfl ?_))
      | (go_at_call 69; go_must (refine (request_any _ _ _ _ _ _ _ _).mono ?_; rintro e w1 ⟨rfl, hb1⟩; rw [hok]; have HB1 : Hid (Below W.heap.size W w1) := hideJ hb1; have HQ1 : Hid (w1.heap[w.heap.size]? = some (.cells #[.int .u8 qc, .int .u32 qs, .int .u8 qk, .int .u64 qkey, .int .u64 qv, .int .u64 qhi, .int .u8 qto] 25)) := hideJ (blk_later hb1 HQ.out); have hq0w1 : w1.cell? ⟨w.heap.size, 0, none⟩ = some (.int .u8 qc) := (by with_unfolding_all exact blk_cell HQ1.out 0); have hq1w1 : w1.cell? ⟨w.heap.size, 1, none⟩ = some (.int .u32 qs) := (by with_unfolding_all exact blk_cell HQ1.out 1); have hq3w1 : w1.cell? ⟨w.heap.size, 3, none⟩ = some (.int .u64 qkey) := (by with_unfolding_all exact blk_cell HQ1.out 3); have hq5w1 : w1.cell? ⟨w.heap.size, 5, none⟩ = some (.int .u64 qhi) := (by with_unfolding_all exact blk_cell HQ1.out 5); clear hb1))
      | (with_reducible show wpList _ _ _ ({ dst := none, op := Op.store 27 (Operand.tmp 5) _, type := _, pos := _, after := _, guard := none } :: _) _ _; go_must (refine wpList_store_blk rfl _ _ _ rfl rfl w1.heap.size 0 rfl [.int .u8 qc, .int .u32 qs, .int .u64 qkey, .int .u8 0, .bool false, .int .u64 0, .int .u8 0] rfl _ (by kernel_rfl) rfl rfl [.int .u8 0, .int .u32 0, .int .u64 0, .int .u8 0, .bool false, .int .u64 0, .int .u8 0] 27 (heap_alloc_new w1 _) rfl [.int .u8 qc, .int .u32 qs, .int .u64 qkey, .int .u8 0, .bool false, .int .u64 0, .int .u8 0] rfl ?_; intro w2 hw ho; have HR2 : Hid (w2.heap[w1.heap.size]? = some (.cells #[.int .u8 qc, .int .u32 qs, .int .u64 qkey, .int .u8 0, .bool false, .int .u64 0, .int .u8 0] 27)) := hideJ (hw); have HB2 : Hid (Below w1.heap.size w1 w2) := hideJ ((later_alloc w1 _).trans (ho.below (Nat.le_refl _))); clear hw ho; have HQ2 : Hid (w2.heap[w.heap.size]? = some (.cells #[.int .u8 qc, .int .u32 qs, .int .u8 qk, .int .u64 qkey, .int .u64 qv, .int .u64 qhi, .int .u8 qto] 25)) := hideJ (blk_later HB2.out HQ1.out); have HBW : Hid (Below W.heap.size W w2) := hideJ (later_trans HB1.out HB2.out); have hq0w2 : w2.cell? ⟨w.heap.size, 0, none⟩ = some (.int .u8 qc) := (by with_unfolding_all exact blk_cell HQ2.out 0); have hq1w2 : w2.cell? ⟨w.heap.size, 1, none⟩ = some (.int .u32 qs) := (by with_unfolding_all exact blk_cell HQ2.out 1); have hq3w2 : w2.cell? ⟨w.heap.size, 3, none⟩ = some (.int .u64 qkey) := (by with_unfolding_all exact blk_cell HQ2.out 3); have hq5w2 : w2.cell? ⟨w.heap.size, 5, none⟩ = some (.int .u64 qhi) := (by with_unfolding_all exact blk_cell HQ2.out 5)))
      | (go_at_call 109; go_must (refine (stranger_any _ b g n vT vD vO vI ma mn mc m qkey _ (HSW.out.later HBW.out).cell (HMW.out.later HBW.out) HMO.out.1 HMO.out.2 hk0).mono ?_; rintro e w3 ⟨rfl, hb3⟩; rw [hst]; have HB3 : Hid (Below W.heap.size W w3) := hideJ (later_trans HBW.out hb3); have HR3 : Hid (w3.heap[w1.heap.size]? = some (.cells #[.int .u8 qc, .int .u32 qs, .int .u64 qkey, .int .u8 0, .bool false, .int .u64 0, .int .u8 0] 27)) := hideJ (blk_later hb3 HR2.out); clear hb3))
      | (with_reducible show wpList _ _ _ ({ dst := some 40, op := Op.load 27 _, type := _, pos := _, after := _, guard := none } :: _) _ _; go_must (refine wpList_load_blk rfl _ _ rfl w1.heap.size 0 rfl 7 _ Try.underlying27 rfl (by kernel_rfl) [.int .u8 qc, .int .u32 qs, .int .u64 qkey, .int .u8 0, .bool false, .int .u64 0, .int .u8 0] 27 HR3.out rfl [.int .u8 qc, .int .u32 qs, .int .u64 qkey, .int .u8 0, .bool false, .int .u64 0, .int .u8 0] rfl ?_))
      | (go_at_call 110; go_must (refine (dup_any _ base b g n vT (.slice ma mn mc) vD vO vI T D qc qs qkey 0 false 0 0 (HSW.out.later HB3.out) HSD.out).mono ?_; rintro e w4 ⟨rfl, hb4⟩; rw [hhas, HP.out]; have HB4 : Hid (Below W.heap.size W w4) := hideJ (later_trans HB3.out hb4); have HR4 : Hid (w4.heap[w1.heap.size]? = some (.cells #[.int .u8 qc, .int .u32 qs, .int .u64 qkey, .int .u8 0, .bool false, .int .u64 0, .int .u8 0] 27)) := hideJ (blk_later hb4 HR3.out); clear hb4)))
    have HBw4 : Hid (Below w.heap.size w w4) := later_trans HWL.out HB4.out
    have hc44 : w4.cell? ⟨b, 4, none⟩ = some (.slice (some ⟨bb, off, none⟩) dn dc) := by rw [← HVD.out]; exact blk_cell (HSW.out.later HB4.out).cell 4
    have hcx1 : w4.cell? ⟨bb, off + p * 7 + 1, none⟩ = some (.int .u32 xs) := (HXC.out w4 HBw4.out _).trans HX.out.2.1
    have hcq1 : w4.cell? ⟨w.heap.size, 1, none⟩ = some (.int .u32 qs) := blk_cell (blk_later HB4.out HQ.out) 1
    go_quiet (fail)
    have HB5 : Hid (Below W.heap.size W (w4.drewN nq)) := below_drewN HB4.out _
    have HR5 : Hid ((w4.drewN nq).heap[w1.heap.size]? = some (.cells #[.int .u8 qc, .int .u32 qs, .int .u64 qkey, .int .u8 0, .bool false, .int .u64 0, .int .u8 0] 27)) := HR4.out
    generalize w4.drewN nq = w5 at HB5 HR5
    have HQ5 : Hid (w5.heap[w.heap.size]? = some (.cells #[.int .u8 qc, .int .u32 qs, .int .u8 qk, .int .u64 qkey, .int .u64 qv, .int .u64 qhi, .int .u8 qto] 25)) := blk_later HB5.out HQ.out
    have HZ5 : Hid (w5.heap[w.heap.size + 1]? = some (.cells #[.int .u8 0, .int .u32 0, .int .u64 0, .int .u8 0, .bool false, .int .u64 0, .int .u8 0] 27)) := blk_later HB5.out HZ.out
    have HL5 : Hid (w.heap.size + 2 ≤ w5.heap.size) := by rw [← HWS.out]; exact HB5.out.size
    go_wp2_with (first
      | (with_reducible show wpList _ _ _ ({ dst := some 79, op := Op.load 25 _, type := _, pos := _, after := _, guard := none } :: _) _ _; go_must (refine wpList_load_blk rfl _ _ rfl w.heap.size 0 rfl 7 _ Try.underlying25 rfl (by kernel_rfl) [.int .u8 qc, .int .u32 qs, .int .u8 qk, .int .u64 qkey, .int .u64 qv, .int .u64 qhi, .int .u8 qto] 25 HQ5.out rfl [.int .u8 qc, .int .u32 qs, .int .u8 qk, .int .u64 qkey, .int .u64 qv, .int .u64 qhi, .int .u8 qto] rfl ?_))
      | (with_reducible show wpList _ _ _ ({ dst := some 80, op := Op.load 27 _, type := _, pos := _, after := _, guard := none } :: _) _ _; go_must (refine wpList_load_blk rfl _ _ rfl w1.heap.size 0 rfl 7 _ Try.underlying27 rfl (by kernel_rfl) [.int .u8 qc, .int .u32 qs, .int .u64 qkey, .int .u8 0, .bool false, .int .u64 0, .int .u8 0] 27 HR5.out rfl [.int .u8 qc, .int .u32 qs, .int .u64 qkey, .int .u8 0, .bool false, .int .u64 0, .int .u8 0] rfl ?_))
      | (go_at_call 111; go_must (refine (do_any _ base lim b g n vT (.slice ma mn mc) vD vO vI T D qc qs qk qkey qv qhi qto qc qs qkey 0 false 0 0 (HSW.out.later HB5.out) HST.out HSD.out (by have := HL5.out; omega) (by have := HL5.out; omega) hbl hlT hlD hnT hnD hkind hto).mono ?_; rintro e w6 ⟨pk, pf, pv, rfl, hdn, hout⟩; have HDN : Hid (Done T qk qkey false 0 pk pf pv) := hideJ (hdn); have HOUT : Hid (OutS base lim b g n vT (.slice ma mn mc) vD vO vI (doT T qk qkey qv) (remD D ⟨qc, qs, qkey, pk, pf, pv, 0⟩) w5 w6) := hideJ (hout); have HMD : Hid (Mod base lim w5 w6) := hideJ (by obtain ⟨_, _, _, h, _⟩ := hout; exact h); have HZ6 : Hid (w6.heap[w.heap.size + 1]? = some (.cells #[.int .u8 0, .int .u32 0, .int .u64 0, .int .u8 0, .bool false, .int .u64 0, .int .u8 0] 27)) := hideJ (HMD.out.blk HZ5.out (by omega)); clear hdn hout))
      | (with_reducible show wpList _ _ _ ({ dst := none, op := Op.store 27 (Operand.tmp 4) _, type := _, pos := _, after := _, guard := none } :: _) _ _; go_must (refine wpList_store_blk rfl _ _ _ rfl rfl (w.heap.size + 1) 0 rfl [.int .u8 qc, .int .u32 qs, .int .u64 qkey, .int .u8 pk, .bool pf, .int .u64 pv, .int .u8 0] rfl _ (by kernel_rfl) rfl rfl [.int .u8 0, .int .u32 0, .int .u64 0, .int .u8 0, .bool false, .int .u64 0, .int .u8 0] 27 HZ6.out rfl [.int .u8 qc, .int .u32 qs, .int .u64 qkey, .int .u8 pk, .bool pf, .int .u64 pv, .int .u8 0] rfl ?_; intro w7 hw ho; have HZ9 : Hid (w7.heap[w.heap.size + 1]? = some (.cells #[.int .u8 qc, .int .u32 qs, .int .u64 qkey, .int .u8 pk, .bool pf, .int .u64 pv, .int .u8 0] 27)) := hideJ (hw); have HO9 : Hid (Only (w.heap.size + 1) w6 w7) := hideJ (ho); clear hw ho)))
    refine bodyPost_ret (v := .agg #[.int .u8 qc, .int .u32 qs, .int .u64 qkey, .int .u8 pk, .bool pf, .int .u64 pv, .int .u8 0]) (results_cell_row Try.results66 _ _ (w.heap.size + 1) 27 _ (0, 0) _ rfl HZ9.out Try.underlying27 rfl (by kernel_rfl)) rfl ?_
    refine ⟨pk, pf, pv, rfl, HDN.out, ?_⟩
    obtain ⟨vT', vD', hS, hM, hF1, hF⟩ := HOUT.out
    have hl5 := HL5.out
    exact ⟨vT', vD', hS.only_off HO9.out (by omega) (hF1.ne hlT (by omega) (by omega)) (hF.ne hlD (by omega) (by omega)), ((Mod.later (later_trans HWL.out HB5.out)).trans hM).box HO9.out (by omega), hF1.mono (by omega), hF.mono (by omega)⟩
  )
set_option maxHeartbeats 1000000 in
set_option maxRecDepth 100000 in
theorem ask_same (w : World) (base lim b : Nat) (g n : Int) (vT vD vO vI : Value) (ma : Option Addr) (mn mc : Nat) (m : List Pc) (T : List Row) (D : List Rep) (qc qs qk qkey qv qhi qto : Int) (h : Shd w base b g n vT (.slice ma mn mc) vD vO vI T D) (hM : MapIn w ma mn mc m) (hmok : mapOk m = true) (hcan : Can m) (hk0 : 0 ≤ qkey) (hok : (Req.mk qc qs qk qkey qv qhi qto).ok = true) (mx : Int) (hmx : qkey < qhi ∧ mx = qhi ∨ qhi ≤ qkey ∧ mx = qkey) (hst : strB m g qkey mx = false) (hsD : SortD D) (hlw : lim ≤ w.heap.size) (hbl : b < lim) (hlT : ∀ k, vT.ownBlock = some k → k < lim) (hlD : ∀ k, vD.ownBlock = some k → k < lim) (hhas : hasD D (Rep.mk qc qs qkey 0 false 0 0) = true) (xc xs xkey xk : Int) (xf : Bool) (xv xg : Int) (hx : D[atD D (Rep.mk qc qs qkey 0 false 0 0)]? = some ⟨xc, xs, xkey, xk, xf, xv, xg⟩) (hold : xs = qs) :
    Calls Try.prog 66 #[.pointer (some ⟨b, 0, none⟩), .agg #[.int .u8 qc, .int .u32 qs, .int .u8 qk, .int .u64 qkey, .int .u64 qv, .int .u64 qhi, .int .u8 qto]] w fun e w' => e = .returned (.agg #[.int .u8 xc, .int .u32 xs, .int .u64 xkey, .int .u8 xk, .bool xf, .int .u64 xv, .int .u8 xg]) ∧ OutS base lim b g n vT (.slice ma mn mc) vD vO vI T D w w' := by
  rcases hmx with ⟨hlt, hmx⟩ | ⟨hlt, hmx⟩
  all_goals (
    rw [hmx] at hst
    clear hmx
    obtain ⟨p, hp⟩ : ∃ p, p = atD D (Rep.mk qc qs qkey 0 false 0 0) := ⟨_, rfl⟩
    have HP : Hid (atD D (Rep.mk qc qs qkey 0 false 0 0) = p) := hp.symm
    rw [HP.out] at hx
    clear hp
    obtain ⟨da, dn, dc, hvD, hdn, hdin⟩ := own_slinJ h.oD (fun y => rfl)
    obtain ⟨bb, off, hda, hbB, hx0, hx1, hx2, hx3, hx4, hx5, hx6⟩ := hdin.at7 hx
    dsimp only at hda hx0 hx1 hx2 hx3 hx4 hx5 hx6
    subst hda
    have hxl := (List.getElem?_eq_some_iff.1 hx).1
    have hlm : dn ≤ maxLen := Nat.le_trans hdin.le hdin.max
    unfold maxLen at hlm
    have hi1 : (0 : Int) ≤ (p : Int) := by omega
    have hi2 : (p : Int) < (dn : Int) := by omega
    have HVD : Hid (vD = .slice (some ⟨bb, off, none⟩) dn dc) := hvD
    have HXC : Hid (∀ w', Below w.heap.size w w' → ∀ j, w'.cell? ⟨bb, j, none⟩ = w.cell? ⟨bb, j, none⟩) := fun w' hb j => later_cell hb hbB j
    have HX : Hid (w.cell? ⟨bb, off + p * 7, none⟩ = some (.int .u8 xc) ∧ w.cell? ⟨bb, off + p * 7 + 1, none⟩ = some (.int .u32 xs) ∧ w.cell? ⟨bb, off + p * 7 + 2, none⟩ = some (.int .u64 xkey) ∧ w.cell? ⟨bb, off + p * 7 + 3, none⟩ = some (.int .u8 xk) ∧ w.cell? ⟨bb, off + p * 7 + 4, none⟩ = some (.bool xf) ∧ w.cell? ⟨bb, off + p * 7 + 5, none⟩ = some (.int .u64 xv) ∧ w.cell? ⟨bb, off + p * 7 + 6, none⟩ = some (.int .u8 xg)) := (⟨hx0, hx1, hx2, hx3, hx4, hx5, hx6⟩ : _ ∧ _ ∧ _ ∧ _ ∧ _ ∧ _ ∧ _)
    clear hx hdn hdin hvD hx0 hx1 hx2 hx3 hx4 hx5 hx6
    have hd9 : decide (qs ≤ xs) = true := by simp; omega
    have hd10 : (xs == qs) = true := by simp [hold]
    clear hold
    obtain ⟨W, hW⟩ : ∃ W, W = (w.alloc (.cells #[.int .u8 qc, .int .u32 qs, .int .u8 qk, .int .u64 qkey, .int .u64 qv, .int .u64 qhi, .int .u8 qto] 25)).alloc (.cells #[.int .u8 0, .int .u32 0, .int .u64 0, .int .u8 0, .bool false, .int .u64 0, .int .u8 0] 27) := ⟨_, rfl⟩
    obtain ⟨hQ, hZ, hWl, hWs⟩ := two w (.cells #[.int .u8 qc, .int .u32 qs, .int .u8 qk, .int .u64 qkey, .int .u64 qv, .int .u64 qhi, .int .u8 qto] 25) (.cells #[.int .u8 0, .int .u32 0, .int .u64 0, .int .u8 0, .bool false, .int .u64 0, .int .u8 0] 27)
    rw [← hW] at hQ hZ hWl hWs
    have HSW : Hid (Shd W base b g n vT (.slice ma mn mc) vD vO vI T D) := h.later hWl
    have HMW : Hid (MapIn W ma mn mc m) := hM.later hWl
    have HMO : Hid (mapOk m = true ∧ Can m) := (⟨hmok, hcan⟩ : _ ∧ _)
    have HSD : Hid (SortD D) := hsD
    have HWL : Hid (Below w.heap.size w W) := hWl
    have HWS : Hid (W.heap.size = w.heap.size + 2) := hWs
    have HQ : Hid (W.heap[w.heap.size]? = some (.cells #[.int .u8 qc, .int .u32 qs, .int .u8 qk, .int .u64 qkey, .int .u64 qv, .int .u64 qhi, .int .u8 qto] 25)) := hQ
    have HZ : Hid (W.heap[w.heap.size + 1]? = some (.cells #[.int .u8 0, .int .u32 0, .int .u64 0, .int .u8 0, .bool false, .int .u64 0, .int .u8 0] 27)) := hZ
    clear h hM hmok hcan hsD hWl hQ hZ hWs
    go_enter Try.func66, Try.ntmps66
    go_upto_region 1 with fail
    rw [← hW]
    clear hW
    go_wp2_with (first
      | (with_reducible show wpList _ _ _ ({ dst := some 10, op := Op.load 25 _, type := _, pos := _, after := _, guard := none } :: _) _ _; go_must (refine wpList_load_blk rfl _ _ rfl w.heap.size 0 rfl 7 _ Try.underlying25 rfl (by kernel_rfl) [.int .u8 qc, .int .u32 qs, .int .u8 qk, .int .u64 qkey, .int .u64 qv, .int .u64 qhi, .int .u8 qto] 25 HQ.out rfl [.int .u8 qc, .int .u32 qs, .int .u8 qk, .int .u64 qkey, .int .u64 qv, .int .u64 qhi, .int .u8 qto] rfl ?_))
      | (go_at_call 69; go_must (refine (request_any _ _ _ _ _ _ _ _).mono ?_; rintro e w1 ⟨rfl, hb1⟩; rw [hok]; have HB1 : Hid (Below W.heap.size W w1) := hideJ hb1; have HQ1 : Hid (w1.heap[w.heap.size]? = some (.cells #[.int .u8 qc, .int .u32 qs, .int .u8 qk, .int .u64 qkey, .int .u64 qv, .int .u64 qhi, .int .u8 qto] 25)) := hideJ (blk_later hb1 HQ.out); have hq0w1 : w1.cell? ⟨w.heap.size, 0, none⟩ = some (.int .u8 qc) := (by with_unfolding_all exact blk_cell HQ1.out 0); have hq1w1 : w1.cell? ⟨w.heap.size, 1, none⟩ = some (.int .u32 qs) := (by with_unfolding_all exact blk_cell HQ1.out 1); have hq3w1 : w1.cell? ⟨w.heap.size, 3, none⟩ = some (.int .u64 qkey) := (by with_unfolding_all exact blk_cell HQ1.out 3); have hq5w1 : w1.cell? ⟨w.heap.size, 5, none⟩ = some (.int .u64 qhi) := (by with_unfolding_all exact blk_cell HQ1.out 5); clear hb1))
      | (with_reducible show wpList _ _ _ ({ dst := none, op := Op.store 27 (Operand.tmp 5) _, type := _, pos := _, after := _, guard := none } :: _) _ _; go_must (refine wpList_store_blk rfl _ _ _ rfl rfl w1.heap.size 0 rfl [.int .u8 qc, .int .u32 qs, .int .u64 qkey, .int .u8 0, .bool false, .int .u64 0, .int .u8 0] rfl _ (by kernel_rfl) rfl rfl [.int .u8 0, .int .u32 0, .int .u64 0, .int .u8 0, .bool false, .int .u64 0, .int .u8 0] 27 (heap_alloc_new w1 _) rfl [.int .u8 qc, .int .u32 qs, .int .u64 qkey, .int .u8 0, .bool false, .int .u64 0, .int .u8 0] rfl ?_; intro w2 hw ho; have HR2 : Hid (w2.heap[w1.heap.size]? = some (.cells #[.int .u8 qc, .int .u32 qs, .int .u64 qkey, .int .u8 0, .bool false, .int .u64 0, .int .u8 0] 27)) := hideJ (hw); have HB2 : Hid (Below w1.heap.size w1 w2) := hideJ ((later_alloc w1 _).trans (ho.below (Nat.le_refl _))); clear hw ho; have HQ2 : Hid (w2.heap[w.heap.size]? = some (.cells #[.int .u8 qc, .int .u32 qs, .int .u8 qk, .int .u64 qkey, .int .u64 qv, .int .u64 qhi, .int .u8 qto] 25)) := hideJ (blk_later HB2.out HQ1.out); have HBW : Hid (Below W.heap.size W w2) := hideJ (later_trans HB1.out HB2.out); have hq0w2 : w2.cell? ⟨w.heap.size, 0, none⟩ = some (.int .u8 qc) := (by with_unfolding_all exact blk_cell HQ2.out 0); have hq1w2 : w2.cell? ⟨w.heap.size, 1, none⟩ = some (.int .u32 qs) := (by with_unfolding_all exact blk_cell HQ2.out 1); have hq3w2 : w2.cell? ⟨w.heap.size, 3, none⟩ = some (.int .u64 qkey) := (by with_unfolding_all exact blk_cell HQ2.out 3); have hq5w2 : w2.cell? ⟨w.heap.size, 5, none⟩ = some (.int .u64 qhi) := (by with_unfolding_all exact blk_cell HQ2.out 5)))
      | (go_at_call 109; go_must (refine (stranger_any _ b g n vT vD vO vI ma mn mc m qkey _ (HSW.out.later HBW.out).cell (HMW.out.later HBW.out) HMO.out.1 HMO.out.2 hk0).mono ?_; rintro e w3 ⟨rfl, hb3⟩; rw [hst]; have HB3 : Hid (Below W.heap.size W w3) := hideJ (later_trans HBW.out hb3); have HR3 : Hid (w3.heap[w1.heap.size]? = some (.cells #[.int .u8 qc, .int .u32 qs, .int .u64 qkey, .int .u8 0, .bool false, .int .u64 0, .int .u8 0] 27)) := hideJ (blk_later hb3 HR2.out); clear hb3))
      | (with_reducible show wpList _ _ _ ({ dst := some 40, op := Op.load 27 _, type := _, pos := _, after := _, guard := none } :: _) _ _; go_must (refine wpList_load_blk rfl _ _ rfl w1.heap.size 0 rfl 7 _ Try.underlying27 rfl (by kernel_rfl) [.int .u8 qc, .int .u32 qs, .int .u64 qkey, .int .u8 0, .bool false, .int .u64 0, .int .u8 0] 27 HR3.out rfl [.int .u8 qc, .int .u32 qs, .int .u64 qkey, .int .u8 0, .bool false, .int .u64 0, .int .u8 0] rfl ?_))
      | (go_at_call 110; go_must (refine (dup_any _ base b g n vT (.slice ma mn mc) vD vO vI T D qc qs qkey 0 false 0 0 (HSW.out.later HB3.out) HSD.out).mono ?_; rintro e w4 ⟨rfl, hb4⟩; rw [hhas, HP.out]; have HB4 : Hid (Below W.heap.size W w4) := hideJ (later_trans HB3.out hb4); have HR4 : Hid (w4.heap[w1.heap.size]? = some (.cells #[.int .u8 qc, .int .u32 qs, .int .u64 qkey, .int .u8 0, .bool false, .int .u64 0, .int .u8 0] 27)) := hideJ (blk_later hb4 HR3.out); clear hb4)))
    have HBw4 : Hid (Below w.heap.size w w4) := later_trans HWL.out HB4.out
    have hc44 : w4.cell? ⟨b, 4, none⟩ = some (.slice (some ⟨bb, off, none⟩) dn dc) := by rw [← HVD.out]; exact blk_cell (HSW.out.later HB4.out).cell 4
    have hcx1 : w4.cell? ⟨bb, off + p * 7 + 1, none⟩ = some (.int .u32 xs) := (HXC.out w4 HBw4.out _).trans HX.out.2.1
    have hcq1 : w4.cell? ⟨w.heap.size, 1, none⟩ = some (.int .u32 qs) := blk_cell (blk_later HB4.out HQ.out) 1
    go_quiet (fail)
    have HB5 : Hid (Below W.heap.size W (w4.drewN nq)) := below_drewN HB4.out _
    have HR5 : Hid ((w4.drewN nq).heap[w1.heap.size]? = some (.cells #[.int .u8 qc, .int .u32 qs, .int .u64 qkey, .int .u8 0, .bool false, .int .u64 0, .int .u8 0] 27)) := HR4.out
    generalize w4.drewN nq = w5 at HB5 HR5
    have HQ5 : Hid (w5.heap[w.heap.size]? = some (.cells #[.int .u8 qc, .int .u32 qs, .int .u8 qk, .int .u64 qkey, .int .u64 qv, .int .u64 qhi, .int .u8 qto] 25)) := blk_later HB5.out HQ.out
    have HZ5 : Hid (w5.heap[w.heap.size + 1]? = some (.cells #[.int .u8 0, .int .u32 0, .int .u64 0, .int .u8 0, .bool false, .int .u64 0, .int .u8 0] 27)) := blk_later HB5.out HZ.out
    have HL5 : Hid (w.heap.size + 2 ≤ w5.heap.size) := by rw [← HWS.out]; exact HB5.out.size
    have HBww5 : Hid (Below w.heap.size w w5) := later_trans HWL.out HB5.out
    have hc4w5 : w5.cell? ⟨b, 4, none⟩ = some (.slice (some ⟨bb, off, none⟩) dn dc) := by rw [← HVD.out]; exact blk_cell (HSW.out.later HB5.out).cell 4
    have hy0w5 : w5.cell? ⟨bb, off + p * 7, none⟩ = some (.int .u8 xc) := (HXC.out w5 HBww5.out _).trans HX.out.1
    have hy1w5 : w5.cell? ⟨bb, off + p * 7 + 1, none⟩ = some (.int .u32 xs) := (HXC.out w5 HBww5.out _).trans HX.out.2.1
    have hy2w5 : w5.cell? ⟨bb, off + p * 7 + 2, none⟩ = some (.int .u64 xkey) := (HXC.out w5 HBww5.out _).trans HX.out.2.2.1
    have hy3w5 : w5.cell? ⟨bb, off + p * 7 + 3, none⟩ = some (.int .u8 xk) := (HXC.out w5 HBww5.out _).trans HX.out.2.2.2.1
    have hy4w5 : w5.cell? ⟨bb, off + p * 7 + 4, none⟩ = some (.bool xf) := (HXC.out w5 HBww5.out _).trans HX.out.2.2.2.2.1
    have hy5w5 : w5.cell? ⟨bb, off + p * 7 + 5, none⟩ = some (.int .u64 xv) := (HXC.out w5 HBww5.out _).trans HX.out.2.2.2.2.2.1
    have hy6w5 : w5.cell? ⟨bb, off + p * 7 + 6, none⟩ = some (.int .u8 xg) := (HXC.out w5 HBww5.out _).trans HX.out.2.2.2.2.2.2
    have hcq1w5 : w5.cell? ⟨w.heap.size, 1, none⟩ = some (.int .u32 qs) := blk_cell HQ5.out 1
    go_wp2_with fail
    go_quiet (fail)
    have HB6 : Hid (Below W.heap.size W (w5.drewN nq)) := below_drewN HB5.out _
    generalize w5.drewN nq = w6 at HB6
    clear hc4w5 hcq1w5
    have HZ6 : Hid (w6.heap[w.heap.size + 1]? = some (.cells #[.int .u8 0, .int .u32 0, .int .u64 0, .int .u8 0, .bool false, .int .u64 0, .int .u8 0] 27)) := blk_later HB6.out HZ.out
    have HBww6 : Hid (Below w.heap.size w w6) := later_trans HWL.out HB6.out
    have hc4w6 : w6.cell? ⟨b, 4, none⟩ = some (.slice (some ⟨bb, off, none⟩) dn dc) := by rw [← HVD.out]; exact blk_cell (HSW.out.later HB6.out).cell 4
    have hy0w6 : w6.cell? ⟨bb, off + p * 7, none⟩ = some (.int .u8 xc) := (HXC.out w6 HBww6.out _).trans HX.out.1
    have hy1w6 : w6.cell? ⟨bb, off + p * 7 + 1, none⟩ = some (.int .u32 xs) := (HXC.out w6 HBww6.out _).trans HX.out.2.1
    have hy2w6 : w6.cell? ⟨bb, off + p * 7 + 2, none⟩ = some (.int .u64 xkey) := (HXC.out w6 HBww6.out _).trans HX.out.2.2.1
    have hy3w6 : w6.cell? ⟨bb, off + p * 7 + 3, none⟩ = some (.int .u8 xk) := (HXC.out w6 HBww6.out _).trans HX.out.2.2.2.1
    have hy4w6 : w6.cell? ⟨bb, off + p * 7 + 4, none⟩ = some (.bool xf) := (HXC.out w6 HBww6.out _).trans HX.out.2.2.2.2.1
    have hy5w6 : w6.cell? ⟨bb, off + p * 7 + 5, none⟩ = some (.int .u64 xv) := (HXC.out w6 HBww6.out _).trans HX.out.2.2.2.2.2.1
    have hy6w6 : w6.cell? ⟨bb, off + p * 7 + 6, none⟩ = some (.int .u8 xg) := (HXC.out w6 HBww6.out _).trans HX.out.2.2.2.2.2.2
    go_wp2_with (with_reducible show wpList _ _ _ ({ dst := none, op := Op.store 27 (Operand.tmp 4) _, type := _, pos := _, after := _, guard := none } :: _) _ _; go_must (refine wpList_store_blk rfl _ _ _ rfl rfl (w.heap.size + 1) 0 rfl [.int .u8 xc, .int .u32 xs, .int .u64 xkey, .int .u8 xk, .bool xf, .int .u64 xv, .int .u8 xg] rfl _ (by kernel_rfl) rfl rfl [.int .u8 0, .int .u32 0, .int .u64 0, .int .u8 0, .bool false, .int .u64 0, .int .u8 0] 27 HZ6.out rfl [.int .u8 xc, .int .u32 xs, .int .u64 xkey, .int .u8 xk, .bool xf, .int .u64 xv, .int .u8 xg] rfl ?_; intro w7 hw ho; have HZ9 : Hid (w7.heap[w.heap.size + 1]? = some (.cells #[.int .u8 xc, .int .u32 xs, .int .u64 xkey, .int .u8 xk, .bool xf, .int .u64 xv, .int .u8 xg] 27)) := hideJ (hw); have HO9 : Hid (Only (w.heap.size + 1) w6 w7) := hideJ (ho); clear hw ho))
    refine bodyPost_ret (v := .agg #[.int .u8 xc, .int .u32 xs, .int .u64 xkey, .int .u8 xk, .bool xf, .int .u64 xv, .int .u8 xg]) (results_cell_row Try.results66 _ _ (w.heap.size + 1) 27 _ (0, 0) _ rfl HZ9.out Try.underlying27 rfl (by kernel_rfl)) rfl ?_
    refine ⟨rfl, vT, vD, ?_, (Mod.later (later_trans HWL.out HB6.out)).box HO9.out (by omega), .inl rfl, .inl rfl⟩
    exact (HSW.out.later HB6.out).box HO9.out (by omega) hbl hlT hlD
  )
set_option maxHeartbeats 1000000 in
set_option maxRecDepth 100000 in
theorem ask_stale (w : World) (base lim b : Nat) (g n : Int) (vT vD vO vI : Value) (ma : Option Addr) (mn mc : Nat) (m : List Pc) (T : List Row) (D : List Rep) (qc qs qk qkey qv qhi qto : Int) (h : Shd w base b g n vT (.slice ma mn mc) vD vO vI T D) (hM : MapIn w ma mn mc m) (hmok : mapOk m = true) (hcan : Can m) (hk0 : 0 ≤ qkey) (hok : (Req.mk qc qs qk qkey qv qhi qto).ok = true) (mx : Int) (hmx : qkey < qhi ∧ mx = qhi ∨ qhi ≤ qkey ∧ mx = qkey) (hst : strB m g qkey mx = false) (hsD : SortD D) (hlw : lim ≤ w.heap.size) (hbl : b < lim) (hlT : ∀ k, vT.ownBlock = some k → k < lim) (hlD : ∀ k, vD.ownBlock = some k → k < lim) (hhas : hasD D (Rep.mk qc qs qkey 0 false 0 0) = true) (xc xs xkey xk : Int) (xf : Bool) (xv xg : Int) (hx : D[atD D (Rep.mk qc qs qkey 0 false 0 0)]? = some ⟨xc, xs, xkey, xk, xf, xv, xg⟩) (hold : qs < xs) :
    Calls Try.prog 66 #[.pointer (some ⟨b, 0, none⟩), .agg #[.int .u8 qc, .int .u32 qs, .int .u8 qk, .int .u64 qkey, .int .u64 qv, .int .u64 qhi, .int .u8 qto]] w fun e w' => e = .returned (.agg #[.int .u8 qc, .int .u32 qs, .int .u64 qkey, .int .u8 4, .bool false, .int .u64 0, .int .u8 0]) ∧ OutS base lim b g n vT (.slice ma mn mc) vD vO vI T D w w' := by
  rcases hmx with ⟨hlt, hmx⟩ | ⟨hlt, hmx⟩
  all_goals (
    rw [hmx] at hst
    clear hmx
    obtain ⟨p, hp⟩ : ∃ p, p = atD D (Rep.mk qc qs qkey 0 false 0 0) := ⟨_, rfl⟩
    have HP : Hid (atD D (Rep.mk qc qs qkey 0 false 0 0) = p) := hp.symm
    rw [HP.out] at hx
    clear hp
    obtain ⟨da, dn, dc, hvD, hdn, hdin⟩ := own_slinJ h.oD (fun y => rfl)
    obtain ⟨bb, off, hda, hbB, hx0, hx1, hx2, hx3, hx4, hx5, hx6⟩ := hdin.at7 hx
    dsimp only at hda hx0 hx1 hx2 hx3 hx4 hx5 hx6
    subst hda
    have hxl := (List.getElem?_eq_some_iff.1 hx).1
    have hlm : dn ≤ maxLen := Nat.le_trans hdin.le hdin.max
    unfold maxLen at hlm
    have hi1 : (0 : Int) ≤ (p : Int) := by omega
    have hi2 : (p : Int) < (dn : Int) := by omega
    have HVD : Hid (vD = .slice (some ⟨bb, off, none⟩) dn dc) := hvD
    have HXC : Hid (∀ w', Below w.heap.size w w' → ∀ j, w'.cell? ⟨bb, j, none⟩ = w.cell? ⟨bb, j, none⟩) := fun w' hb j => later_cell hb hbB j
    have HX : Hid (w.cell? ⟨bb, off + p * 7, none⟩ = some (.int .u8 xc) ∧ w.cell? ⟨bb, off + p * 7 + 1, none⟩ = some (.int .u32 xs) ∧ w.cell? ⟨bb, off + p * 7 + 2, none⟩ = some (.int .u64 xkey) ∧ w.cell? ⟨bb, off + p * 7 + 3, none⟩ = some (.int .u8 xk) ∧ w.cell? ⟨bb, off + p * 7 + 4, none⟩ = some (.bool xf) ∧ w.cell? ⟨bb, off + p * 7 + 5, none⟩ = some (.int .u64 xv) ∧ w.cell? ⟨bb, off + p * 7 + 6, none⟩ = some (.int .u8 xg)) := (⟨hx0, hx1, hx2, hx3, hx4, hx5, hx6⟩ : _ ∧ _ ∧ _ ∧ _ ∧ _ ∧ _ ∧ _)
    clear hx hdn hdin hvD hx0 hx1 hx2 hx3 hx4 hx5 hx6
    have hd9 : decide (qs ≤ xs) = true := by simp; omega
    have hd10 : (xs == qs) = false := by simp; omega
    obtain ⟨W, hW⟩ : ∃ W, W = (w.alloc (.cells #[.int .u8 qc, .int .u32 qs, .int .u8 qk, .int .u64 qkey, .int .u64 qv, .int .u64 qhi, .int .u8 qto] 25)).alloc (.cells #[.int .u8 0, .int .u32 0, .int .u64 0, .int .u8 0, .bool false, .int .u64 0, .int .u8 0] 27) := ⟨_, rfl⟩
    obtain ⟨hQ, hZ, hWl, hWs⟩ := two w (.cells #[.int .u8 qc, .int .u32 qs, .int .u8 qk, .int .u64 qkey, .int .u64 qv, .int .u64 qhi, .int .u8 qto] 25) (.cells #[.int .u8 0, .int .u32 0, .int .u64 0, .int .u8 0, .bool false, .int .u64 0, .int .u8 0] 27)
    rw [← hW] at hQ hZ hWl hWs
    have HSW : Hid (Shd W base b g n vT (.slice ma mn mc) vD vO vI T D) := h.later hWl
    have HMW : Hid (MapIn W ma mn mc m) := hM.later hWl
    have HMO : Hid (mapOk m = true ∧ Can m) := (⟨hmok, hcan⟩ : _ ∧ _)
    have HSD : Hid (SortD D) := hsD
    have HWL : Hid (Below w.heap.size w W) := hWl
    have HWS : Hid (W.heap.size = w.heap.size + 2) := hWs
    have HQ : Hid (W.heap[w.heap.size]? = some (.cells #[.int .u8 qc, .int .u32 qs, .int .u8 qk, .int .u64 qkey, .int .u64 qv, .int .u64 qhi, .int .u8 qto] 25)) := hQ
    have HZ : Hid (W.heap[w.heap.size + 1]? = some (.cells #[.int .u8 0, .int .u32 0, .int .u64 0, .int .u8 0, .bool false, .int .u64 0, .int .u8 0] 27)) := hZ
    clear h hM hmok hcan hsD hWl hQ hZ hWs
    go_enter Try.func66, Try.ntmps66
    go_upto_region 1 with fail
    rw [← hW]
    clear hW
    go_wp2_with (first
      | (with_reducible show wpList _ _ _ ({ dst := some 10, op := Op.load 25 _, type := _, pos := _, after := _, guard := none } :: _) _ _; go_must (refine wpList_load_blk rfl _ _ rfl w.heap.size 0 rfl 7 _ Try.underlying25 rfl (by kernel_rfl) [.int .u8 qc, .int .u32 qs, .int .u8 qk, .int .u64 qkey, .int .u64 qv, .int .u64 qhi, .int .u8 qto] 25 HQ.out rfl [.int .u8 qc, .int .u32 qs, .int .u8 qk, .int .u64 qkey, .int .u64 qv, .int .u64 qhi, .int .u8 qto] rfl ?_))
      | (go_at_call 69; go_must (refine (request_any _ _ _ _ _ _ _ _).mono ?_; rintro e w1 ⟨rfl, hb1⟩; rw [hok]; have HB1 : Hid (Below W.heap.size W w1) := hideJ hb1; have HQ1 : Hid (w1.heap[w.heap.size]? = some (.cells #[.int .u8 qc, .int .u32 qs, .int .u8 qk, .int .u64 qkey, .int .u64 qv, .int .u64 qhi, .int .u8 qto] 25)) := hideJ (blk_later hb1 HQ.out); have hq0w1 : w1.cell? ⟨w.heap.size, 0, none⟩ = some (.int .u8 qc) := (by with_unfolding_all exact blk_cell HQ1.out 0); have hq1w1 : w1.cell? ⟨w.heap.size, 1, none⟩ = some (.int .u32 qs) := (by with_unfolding_all exact blk_cell HQ1.out 1); have hq3w1 : w1.cell? ⟨w.heap.size, 3, none⟩ = some (.int .u64 qkey) := (by with_unfolding_all exact blk_cell HQ1.out 3); have hq5w1 : w1.cell? ⟨w.heap.size, 5, none⟩ = some (.int .u64 qhi) := (by with_unfolding_all exact blk_cell HQ1.out 5); clear hb1))
      | (with_reducible show wpList _ _ _ ({ dst := none, op := Op.store 27 (Operand.tmp 5) _, type := _, pos := _, after := _, guard := none } :: _) _ _; go_must (refine wpList_store_blk rfl _ _ _ rfl rfl w1.heap.size 0 rfl [.int .u8 qc, .int .u32 qs, .int .u64 qkey, .int .u8 0, .bool false, .int .u64 0, .int .u8 0] rfl _ (by kernel_rfl) rfl rfl [.int .u8 0, .int .u32 0, .int .u64 0, .int .u8 0, .bool false, .int .u64 0, .int .u8 0] 27 (heap_alloc_new w1 _) rfl [.int .u8 qc, .int .u32 qs, .int .u64 qkey, .int .u8 0, .bool false, .int .u64 0, .int .u8 0] rfl ?_; intro w2 hw ho; have HR2 : Hid (w2.heap[w1.heap.size]? = some (.cells #[.int .u8 qc, .int .u32 qs, .int .u64 qkey, .int .u8 0, .bool false, .int .u64 0, .int .u8 0] 27)) := hideJ (hw); have HB2 : Hid (Below w1.heap.size w1 w2) := hideJ ((later_alloc w1 _).trans (ho.below (Nat.le_refl _))); clear hw ho; have HQ2 : Hid (w2.heap[w.heap.size]? = some (.cells #[.int .u8 qc, .int .u32 qs, .int .u8 qk, .int .u64 qkey, .int .u64 qv, .int .u64 qhi, .int .u8 qto] 25)) := hideJ (blk_later HB2.out HQ1.out); have HBW : Hid (Below W.heap.size W w2) := hideJ (later_trans HB1.out HB2.out); have hq0w2 : w2.cell? ⟨w.heap.size, 0, none⟩ = some (.int .u8 qc) := (by with_unfolding_all exact blk_cell HQ2.out 0); have hq1w2 : w2.cell? ⟨w.heap.size, 1, none⟩ = some (.int .u32 qs) := (by with_unfolding_all exact blk_cell HQ2.out 1); have hq3w2 : w2.cell? ⟨w.heap.size, 3, none⟩ = some (.int .u64 qkey) := (by with_unfolding_all exact blk_cell HQ2.out 3); have hq5w2 : w2.cell? ⟨w.heap.size, 5, none⟩ = some (.int .u64 qhi) := (by with_unfolding_all exact blk_cell HQ2.out 5)))
      | (go_at_call 109; go_must (refine (stranger_any _ b g n vT vD vO vI ma mn mc m qkey _ (HSW.out.later HBW.out).cell (HMW.out.later HBW.out) HMO.out.1 HMO.out.2 hk0).mono ?_; rintro e w3 ⟨rfl, hb3⟩; rw [hst]; have HB3 : Hid (Below W.heap.size W w3) := hideJ (later_trans HBW.out hb3); have HR3 : Hid (w3.heap[w1.heap.size]? = some (.cells #[.int .u8 qc, .int .u32 qs, .int .u64 qkey, .int .u8 0, .bool false, .int .u64 0, .int .u8 0] 27)) := hideJ (blk_later hb3 HR2.out); clear hb3))
      | (with_reducible show wpList _ _ _ ({ dst := some 40, op := Op.load 27 _, type := _, pos := _, after := _, guard := none } :: _) _ _; go_must (refine wpList_load_blk rfl _ _ rfl w1.heap.size 0 rfl 7 _ Try.underlying27 rfl (by kernel_rfl) [.int .u8 qc, .int .u32 qs, .int .u64 qkey, .int .u8 0, .bool false, .int .u64 0, .int .u8 0] 27 HR3.out rfl [.int .u8 qc, .int .u32 qs, .int .u64 qkey, .int .u8 0, .bool false, .int .u64 0, .int .u8 0] rfl ?_))
      | (go_at_call 110; go_must (refine (dup_any _ base b g n vT (.slice ma mn mc) vD vO vI T D qc qs qkey 0 false 0 0 (HSW.out.later HB3.out) HSD.out).mono ?_; rintro e w4 ⟨rfl, hb4⟩; rw [hhas, HP.out]; have HB4 : Hid (Below W.heap.size W w4) := hideJ (later_trans HB3.out hb4); have HR4 : Hid (w4.heap[w1.heap.size]? = some (.cells #[.int .u8 qc, .int .u32 qs, .int .u64 qkey, .int .u8 0, .bool false, .int .u64 0, .int .u8 0] 27)) := hideJ (blk_later hb4 HR3.out); clear hb4)))
    have HBw4 : Hid (Below w.heap.size w w4) := later_trans HWL.out HB4.out
    have hc44 : w4.cell? ⟨b, 4, none⟩ = some (.slice (some ⟨bb, off, none⟩) dn dc) := by rw [← HVD.out]; exact blk_cell (HSW.out.later HB4.out).cell 4
    have hcx1 : w4.cell? ⟨bb, off + p * 7 + 1, none⟩ = some (.int .u32 xs) := (HXC.out w4 HBw4.out _).trans HX.out.2.1
    have hcq1 : w4.cell? ⟨w.heap.size, 1, none⟩ = some (.int .u32 qs) := blk_cell (blk_later HB4.out HQ.out) 1
    go_quiet (fail)
    have HB5 : Hid (Below W.heap.size W (w4.drewN nq)) := below_drewN HB4.out _
    have HR5 : Hid ((w4.drewN nq).heap[w1.heap.size]? = some (.cells #[.int .u8 qc, .int .u32 qs, .int .u64 qkey, .int .u8 0, .bool false, .int .u64 0, .int .u8 0] 27)) := HR4.out
    generalize w4.drewN nq = w5 at HB5 HR5
    have HQ5 : Hid (w5.heap[w.heap.size]? = some (.cells #[.int .u8 qc, .int .u32 qs, .int .u8 qk, .int .u64 qkey, .int .u64 qv, .int .u64 qhi, .int .u8 qto] 25)) := blk_later HB5.out HQ.out
    have HZ5 : Hid (w5.heap[w.heap.size + 1]? = some (.cells #[.int .u8 0, .int .u32 0, .int .u64 0, .int .u8 0, .bool false, .int .u64 0, .int .u8 0] 27)) := blk_later HB5.out HZ.out
    have HL5 : Hid (w.heap.size + 2 ≤ w5.heap.size) := by rw [← HWS.out]; exact HB5.out.size
    have HW1 : Hid (W.heap.size ≤ w1.heap.size) := HB1.out.size
    have HBww5 : Hid (Below w.heap.size w w5) := later_trans HWL.out HB5.out
    have hc4w5 : w5.cell? ⟨b, 4, none⟩ = some (.slice (some ⟨bb, off, none⟩) dn dc) := by rw [← HVD.out]; exact blk_cell (HSW.out.later HB5.out).cell 4
    have hy0w5 : w5.cell? ⟨bb, off + p * 7, none⟩ = some (.int .u8 xc) := (HXC.out w5 HBww5.out _).trans HX.out.1
    have hy1w5 : w5.cell? ⟨bb, off + p * 7 + 1, none⟩ = some (.int .u32 xs) := (HXC.out w5 HBww5.out _).trans HX.out.2.1
    have hy2w5 : w5.cell? ⟨bb, off + p * 7 + 2, none⟩ = some (.int .u64 xkey) := (HXC.out w5 HBww5.out _).trans HX.out.2.2.1
    have hy3w5 : w5.cell? ⟨bb, off + p * 7 + 3, none⟩ = some (.int .u8 xk) := (HXC.out w5 HBww5.out _).trans HX.out.2.2.2.1
    have hy4w5 : w5.cell? ⟨bb, off + p * 7 + 4, none⟩ = some (.bool xf) := (HXC.out w5 HBww5.out _).trans HX.out.2.2.2.2.1
    have hy5w5 : w5.cell? ⟨bb, off + p * 7 + 5, none⟩ = some (.int .u64 xv) := (HXC.out w5 HBww5.out _).trans HX.out.2.2.2.2.2.1
    have hy6w5 : w5.cell? ⟨bb, off + p * 7 + 6, none⟩ = some (.int .u8 xg) := (HXC.out w5 HBww5.out _).trans HX.out.2.2.2.2.2.2
    have hcq1w5 : w5.cell? ⟨w.heap.size, 1, none⟩ = some (.int .u32 qs) := blk_cell HQ5.out 1
    go_wp2_with fail
    go_quiet (fail)
    have HB6 : Hid (Below W.heap.size W (w5.drewN nq)) := below_drewN HB5.out _
    have HR6' : Hid ((w5.drewN nq).heap[w1.heap.size]? = some (.cells #[.int .u8 qc, .int .u32 qs, .int .u64 qkey, .int .u8 0, .bool false, .int .u64 0, .int .u8 0] 27)) := HR5.out
    generalize w5.drewN nq = w6 at HB6 HR6'
    clear hc4w5 hcq1w5
    have HZ6 : Hid (w6.heap[w.heap.size + 1]? = some (.cells #[.int .u8 0, .int .u32 0, .int .u64 0, .int .u8 0, .bool false, .int .u64 0, .int .u8 0] 27)) := blk_later HB6.out HZ.out
    have HR6 : Hid (w6.heap[w1.heap.size]? = some (.cells #[.int .u8 qc, .int .u32 qs, .int .u64 qkey, .int .u8 0, .bool false, .int .u64 0, .int .u8 0] 27)) := HR6'
    go_wp2_with (first
      | (with_reducible show wpList _ _ _ ({ dst := _, op := Op.store 5 (Operand.tmp 76) _, type := _, pos := _, after := _, guard := none } :: _) _ _; go_must (refine wpList_store_cell rfl _ _ _ rfl rfl w1.heap.size 3 rfl (.int .u8 4) rfl (by kernel_rfl) rfl [.int .u8 qc, .int .u32 qs, .int .u64 qkey, .int .u8 0, .bool false, .int .u64 0, .int .u8 0] 27 HR6.out rfl [.int .u8 qc, .int .u32 qs, .int .u64 qkey, .int .u8 4, .bool false, .int .u64 0, .int .u8 0] rfl ?_; intro w7 hw ho; have HR7 : Hid (w7.heap[w1.heap.size]? = some (.cells #[.int .u8 qc, .int .u32 qs, .int .u64 qkey, .int .u8 4, .bool false, .int .u64 0, .int .u8 0] 27)) := hideJ (hw); have HO7 : Hid (Only w1.heap.size w6 w7) := hideJ (ho); clear hw ho; have HZ7 : Hid (w7.heap[w.heap.size + 1]? = some (.cells #[.int .u8 0, .int .u32 0, .int .u64 0, .int .u8 0, .bool false, .int .u64 0, .int .u8 0] 27)) := hideJ ((HO7.out.block _ (by have := HW1.out; have := HWS.out; omega)).trans HZ6.out)))
      | (with_reducible show wpList _ _ _ ({ dst := some 77, op := Op.load 27 _, type := _, pos := _, after := _, guard := none } :: _) _ _; go_must (refine wpList_load_blk rfl _ _ rfl w1.heap.size 0 rfl 7 _ Try.underlying27 rfl (by kernel_rfl) [.int .u8 qc, .int .u32 qs, .int .u64 qkey, .int .u8 4, .bool false, .int .u64 0, .int .u8 0] 27 HR7.out rfl [.int .u8 qc, .int .u32 qs, .int .u64 qkey, .int .u8 4, .bool false, .int .u64 0, .int .u8 0] rfl ?_))
      | (with_reducible show wpList _ _ _ ({ dst := none, op := Op.store 27 (Operand.tmp 4) _, type := _, pos := _, after := _, guard := none } :: _) _ _; go_must (refine wpList_store_blk rfl _ _ _ rfl rfl (w.heap.size + 1) 0 rfl [.int .u8 qc, .int .u32 qs, .int .u64 qkey, .int .u8 4, .bool false, .int .u64 0, .int .u8 0] rfl _ (by kernel_rfl) rfl rfl [.int .u8 0, .int .u32 0, .int .u64 0, .int .u8 0, .bool false, .int .u64 0, .int .u8 0] 27 HZ7.out rfl [.int .u8 qc, .int .u32 qs, .int .u64 qkey, .int .u8 4, .bool false, .int .u64 0, .int .u8 0] rfl ?_; intro w8 hw ho; have HZ9 : Hid (w8.heap[w.heap.size + 1]? = some (.cells #[.int .u8 qc, .int .u32 qs, .int .u64 qkey, .int .u8 4, .bool false, .int .u64 0, .int .u8 0] 27)) := hideJ (hw); have HO9 : Hid (Only (w.heap.size + 1) w7 w8) := hideJ (ho); clear hw ho)))
    refine bodyPost_ret (v := .agg #[.int .u8 qc, .int .u32 qs, .int .u64 qkey, .int .u8 4, .bool false, .int .u64 0, .int .u8 0]) (results_cell_row Try.results66 _ _ (w.heap.size + 1) 27 _ (0, 0) _ rfl HZ9.out Try.underlying27 rfl (by kernel_rfl)) rfl ?_
    have hw1 := HW1.out
    have hws := HWS.out
    refine ⟨rfl, vT, vD, ?_, ((Mod.later (later_trans HWL.out HB6.out)).box HO7.out (by omega)).box HO9.out (by omega), .inl rfl, .inl rfl⟩
    exact ((HSW.out.later HB6.out).box HO7.out (by omega) hbl hlT hlD).box HO9.out (by omega) hbl hlT hlD
  )
end Go.Proofs.Ytignemioillaiaa
