/- A Delegate for which there is nobody: shard.parted, shard.delegate, shard.do. -/
import Derived.Test.YtignemioillaiaaJ14
import Derived.Deep.QuietTactic
import Derived.BigQuiet
namespace Go.Proofs.Ytignemioillaiaa
open Go.RowKit Go.Lib

set_option maxHeartbeats 400000 in
set_option maxRecDepth 100000 in
theorem parted_self (w : World) (b : Nat) (g n : Int) (vT vM vD vO vI : Value) (qc qs qk qkey qv qhi qto : Int) (hc : w.heap[b]? = some (.cells #[.int .u8 g, .int .u8 n, vT, vM, vD, vO, vI] 74)) (hto : (qto == g) = true) :
    Calls Try.prog 159 #[.pointer (some ⟨b, 0, none⟩), .agg #[.int .u8 qc, .int .u32 qs, .int .u8 qk, .int .u64 qkey, .int .u64 qv, .int .u64 qhi, .int .u8 qto]] w fun e w' => e = .returned (.tuple #[.slice none 0 0, .bool false]) ∧ Below w.heap.size w w' := by
  obtain ⟨W, hW⟩ : ∃ W, W = w.alloc (.cells #[.int .u8 qc, .int .u32 qs, .int .u8 qk, .int .u64 qkey, .int .u64 qv, .int .u64 qhi, .int .u8 qto] 25) := ⟨_, rfl⟩
  have hWq : W.heap[w.heap.size]? = some (.cells #[.int .u8 qc, .int .u32 qs, .int .u8 qk, .int .u64 qkey, .int .u64 qv, .int .u64 qhi, .int .u8 qto] 25) := by rw [hW]; exact heap_alloc_new w _
  have hWl : Below w.heap.size w W := by rw [hW]; exact later_alloc w _
  have hq6 : W.cell? ⟨w.heap.size, 6, none⟩ = some (.int .u8 qto) := blk_cell hWq 6
  have hs0 : W.cell? ⟨b, 0, none⟩ = some (.int .u8 g) := blk_cell (blk_later hWl hc) 0
  have hs1 : W.cell? ⟨b, 1, none⟩ = some (.int .u8 n) := blk_cell (blk_later hWl hc) 1
  clear hc hWq
  go_enter Try.func159, Try.ntmps159
  go_wp2_with fail
  rw [← hW]
  clear hW
  go_quiet (fail)
  go_wp2
  go_ret2
  exact ⟨rfl, below_drewN hWl _⟩

set_option maxHeartbeats 400000 in
set_option maxRecDepth 100000 in
theorem parted_far (w : World) (b : Nat) (g n : Int) (vT vM vD vO vI : Value) (qc qs qk qkey qv qhi qto : Int) (hc : w.heap[b]? = some (.cells #[.int .u8 g, .int .u8 n, vT, vM, vD, vO, vI] 74)) (hto : (qto == g) = false) (hfar : decide (n ≤ qto) = true) :
    Calls Try.prog 159 #[.pointer (some ⟨b, 0, none⟩), .agg #[.int .u8 qc, .int .u32 qs, .int .u8 qk, .int .u64 qkey, .int .u64 qv, .int .u64 qhi, .int .u8 qto]] w fun e w' => e = .returned (.tuple #[.slice none 0 0, .bool false]) ∧ Below w.heap.size w w' := by
  obtain ⟨W, hW⟩ : ∃ W, W = w.alloc (.cells #[.int .u8 qc, .int .u32 qs, .int .u8 qk, .int .u64 qkey, .int .u64 qv, .int .u64 qhi, .int .u8 qto] 25) := ⟨_, rfl⟩
  have hWq : W.heap[w.heap.size]? = some (.cells #[.int .u8 qc, .int .u32 qs, .int .u8 qk, .int .u64 qkey, .int .u64 qv, .int .u64 qhi, .int .u8 qto] 25) := by rw [hW]; exact heap_alloc_new w _
  have hWl : Below w.heap.size w W := by rw [hW]; exact later_alloc w _
  have hq6 : W.cell? ⟨w.heap.size, 6, none⟩ = some (.int .u8 qto) := blk_cell hWq 6
  have hs0 : W.cell? ⟨b, 0, none⟩ = some (.int .u8 g) := blk_cell (blk_later hWl hc) 0
  have hs1 : W.cell? ⟨b, 1, none⟩ = some (.int .u8 n) := blk_cell (blk_later hWl hc) 1
  clear hc hWq
  go_enter Try.func159, Try.ntmps159
  go_wp2_with fail
  rw [← hW]
  clear hW
  go_quiet (fail)
  go_wp2
  go_ret2
  exact ⟨rfl, below_drewN hWl _⟩

theorem parted_any (w : World) (b : Nat) (g n : Int) (vT vM vD vO vI : Value) (qc qs qk qkey qv qhi qto : Int) (hc : w.heap[b]? = some (.cells #[.int .u8 g, .int .u8 n, vT, vM, vD, vO, vI] 74)) (hto : qto = g ∨ n ≤ qto) :
    Calls Try.prog 159 #[.pointer (some ⟨b, 0, none⟩), .agg #[.int .u8 qc, .int .u32 qs, .int .u8 qk, .int .u64 qkey, .int .u64 qv, .int .u64 qhi, .int .u8 qto]] w fun e w' => e = .returned (.tuple #[.slice none 0 0, .bool false]) ∧ Below w.heap.size w w' := by
  by_cases h : qto = g
  · exact parted_self w b g n vT vM vD vO vI qc qs qk qkey qv qhi qto hc (by simp [h])
  · exact parted_far w b g n vT vM vD vO vI qc qs qk qkey qv qhi qto hc (by simp [h]) (by simp; omega)

set_option maxHeartbeats 1000000 in
set_option maxRecDepth 100000 in
theorem delegate_no (w : World) (base lim b : Nat) (g n : Int) (vT vM vD vO vI : Value) (T : List Row) (D : List Rep) (qc qs qk qkey qv qhi qto : Int) (rc rs rkey rk : Int) (rf : Bool) (rv rg : Int) (h : Shd w base b g n vT vM vD vO vI T D) (hsD : SortD D) (hb : base ≤ w.heap.size) (hlw : lim ≤ w.heap.size) (hbl : b < lim) (hlT : ∀ k, vT.ownBlock = some k → k < lim) (hlD : ∀ k, vD.ownBlock = some k → k < lim) (hnD : D.length < 1000000) (hto : qto = g ∨ n ≤ qto) :
    Calls Try.prog 146 #[.pointer (some ⟨b, 0, none⟩), .agg #[.int .u8 qc, .int .u32 qs, .int .u8 qk, .int .u64 qkey, .int .u64 qv, .int .u64 qhi, .int .u8 qto], .agg #[.int .u8 rc, .int .u32 rs, .int .u64 rkey, .int .u8 rk, .bool rf, .int .u64 rv, .int .u8 rg]] w fun e w' => e = .returned (.agg #[.int .u8 rc, .int .u32 rs, .int .u64 rkey, .int .u8 5, .bool rf, .int .u64 rv, .int .u8 rg]) ∧ OutS base lim b g n vT vM vD vO vI T (remD D (Rep.mk rc rs rkey 5 rf rv rg)) w w' := by
  obtain ⟨W, hW⟩ : ∃ W, W = ((w.alloc (.cells #[.int .u8 qc, .int .u32 qs, .int .u8 qk, .int .u64 qkey, .int .u64 qv, .int .u64 qhi, .int .u8 qto] 25)).alloc (.cells #[.int .u8 rc, .int .u32 rs, .int .u64 rkey, .int .u8 rk, .bool rf, .int .u64 rv, .int .u8 rg] 27)).alloc (.cells #[.int .u8 0, .int .u32 0, .int .u64 0, .int .u8 0, .bool false, .int .u64 0, .int .u8 0] 27) := ⟨_, rfl⟩
  obtain ⟨hQ, hR, hZ, hWl, hWs⟩ := three w (.cells #[.int .u8 qc, .int .u32 qs, .int .u8 qk, .int .u64 qkey, .int .u64 qv, .int .u64 qhi, .int .u8 qto] 25) (.cells #[.int .u8 rc, .int .u32 rs, .int .u64 rkey, .int .u8 rk, .bool rf, .int .u64 rv, .int .u8 rg] 27) (.cells #[.int .u8 0, .int .u32 0, .int .u64 0, .int .u8 0, .bool false, .int .u64 0, .int .u8 0] 27)
  rw [← hW] at hQ hR hZ hWl hWs
  have HH : Hid (Shd w base b g n vT vM vD vO vI T D) := h
  have HSD : Hid (SortD D) := hsD
  have HWL : Hid (Below w.heap.size w W) := hWl
  have HQ : Hid (W.heap[w.heap.size]? = some (.cells #[.int .u8 qc, .int .u32 qs, .int .u8 qk, .int .u64 qkey, .int .u64 qv, .int .u64 qhi, .int .u8 qto] 25)) := hQ
  have HR : Hid (W.heap[w.heap.size + 1]? = some (.cells #[.int .u8 rc, .int .u32 rs, .int .u64 rkey, .int .u8 rk, .bool rf, .int .u64 rv, .int .u8 rg] 27)) := hR
  have HZ : Hid (W.heap[w.heap.size + 1 + 1]? = some (.cells #[.int .u8 0, .int .u32 0, .int .u64 0, .int .u8 0, .bool false, .int .u64 0, .int .u8 0] 27)) := hZ
  have hcq0 := blk_cell hQ
  clear h hsD hWl hQ hR hZ hcq0
  go_enter Try.func146, Try.ntmps146
  go_upto_region 1 with fail
  rw [← hW]
  clear hW
  have hcq2 : W.cell? ⟨w.heap.size, 2, none⟩ = some (.int .u8 qk) := blk_cell HQ.out 2
  have hcq3 : W.cell? ⟨w.heap.size, 3, none⟩ = some (.int .u64 qkey) := blk_cell HQ.out 3
  have hcq4 : W.cell? ⟨w.heap.size, 4, none⟩ = some (.int .u64 qv) := blk_cell HQ.out 4
  have HWS : Hid (W.heap.size = w.heap.size + 3) := hWs
  have HSW : Hid (Shd W base b g n vT vM vD vO vI T D) := HH.out.later HWL.out
  go_wp2_with (first
    | (with_reducible show wpList _ _ _ ({ dst := some 11, op := Op.load 25 _, type := _, pos := _, after := _, guard := none } :: _) _ _; go_must (refine wpList_load_blk rfl _ _ rfl w.heap.size 0 rfl 7 _ Try.underlying25 rfl (by kernel_rfl) [.int .u8 qc, .int .u32 qs, .int .u8 qk, .int .u64 qkey, .int .u64 qv, .int .u64 qhi, .int .u8 qto] 25 HQ.out rfl [.int .u8 qc, .int .u32 qs, .int .u8 qk, .int .u64 qkey, .int .u64 qv, .int .u64 qhi, .int .u8 qto] rfl ?_))
    | (go_at_call 159; go_must (refine (parted_any _ b g n vT vM vD vO vI qc qs qk qkey qv qhi qto HSW.out.cell hto).mono ?_; rintro e w1 ⟨rfl, hb1⟩; have HB1 : Hid (Below W.heap.size W w1) := hideJ hb1; have HR1 : Hid (w1.heap[w.heap.size + 1]? = some (.cells #[.int .u8 rc, .int .u32 rs, .int .u64 rkey, .int .u8 rk, .bool rf, .int .u64 rv, .int .u8 rg] 27)) := hideJ (blk_later hb1 HR.out); have HZ1 : Hid (w1.heap[w.heap.size + 1 + 1]? = some (.cells #[.int .u8 0, .int .u32 0, .int .u64 0, .int .u8 0, .bool false, .int .u64 0, .int .u8 0] 27)) := hideJ (blk_later hb1 HZ.out)))
    | (with_reducible show wpList _ _ _ ({ dst := _, op := Op.store 5 (Operand.tmp 17) _, type := _, pos := _, after := _, guard := none } :: _) _ _; go_must (refine wpList_store_cell rfl _ _ _ rfl rfl (w.heap.size + 1) 3 rfl (.int .u8 5) rfl (by kernel_rfl) rfl [.int .u8 rc, .int .u32 rs, .int .u64 rkey, .int .u8 rk, .bool rf, .int .u64 rv, .int .u8 rg] 27 HR1.out rfl [.int .u8 rc, .int .u32 rs, .int .u64 rkey, .int .u8 5, .bool rf, .int .u64 rv, .int .u8 rg] rfl ?_; intro w2 hw ho; have HR2 : Hid (w2.heap[w.heap.size + 1]? = some (.cells #[.int .u8 rc, .int .u32 rs, .int .u64 rkey, .int .u8 5, .bool rf, .int .u64 rv, .int .u8 rg] 27)) := hideJ (hw); have HO2 : Hid (Only (w.heap.size + 1) w1 w2) := hideJ (ho); clear hw ho; have HS2 : Hid (Shd w2 base b g n vT vM vD vO vI T D) := hideJ ((HSW.out.later HB1.out).box HO2.out (by omega) hbl hlT hlD); have HZ2 : Hid (w2.heap[w.heap.size + 1 + 1]? = some (.cells #[.int .u8 0, .int .u32 0, .int .u64 0, .int .u8 0, .bool false, .int .u64 0, .int .u8 0] 27)) := hideJ ((HO2.out.block _ (by omega)).trans HZ1.out); have HM2 : Hid (w.heap.size + 3 ≤ w2.heap.size) := hideJ (by rw [HO2.out.size, ← HWS.out]; exact HB1.out.size); have HL2 : Hid (Mod base lim w w2) := hideJ ((Mod.later (later_trans HWL.out HB1.out)).box HO2.out (by omega))))
    | (with_reducible show wpList _ _ _ ({ dst := some 19, op := Op.load 27 _, type := _, pos := _, after := _, guard := none } :: _) _ _; go_must (refine wpList_load_blk rfl _ _ rfl (w.heap.size + 1) 0 rfl 7 _ Try.underlying27 rfl (by kernel_rfl) [.int .u8 rc, .int .u32 rs, .int .u64 rkey, .int .u8 5, .bool rf, .int .u64 rv, .int .u8 rg] 27 HR2.out rfl [.int .u8 rc, .int .u32 rs, .int .u64 rkey, .int .u8 5, .bool rf, .int .u64 rv, .int .u8 rg] rfl ?_))
    | (go_at_call 147; go_must (refine (remember_any _ base lim b g n vT vM vD vO vI T D rc rs rkey 5 rf rv rg HS2.out HSD.out (by have := HM2.out; omega) hbl hlD hnD).mono ?_; rintro e w3 ⟨rfl, hout⟩; have HOUT : Hid (OutD base lim b g n vT vM vD vO vI T (remD D (Rep.mk rc rs rkey 5 rf rv rg)) w2 w3) := hideJ (hout); have HMD : Hid (Mod base lim w2 w3) := hideJ (by obtain ⟨_, _, h, _⟩ := hout; exact h); have HR3 : Hid (w3.heap[w.heap.size + 1]? = some (.cells #[.int .u8 rc, .int .u32 rs, .int .u64 rkey, .int .u8 5, .bool rf, .int .u64 rv, .int .u8 rg] 27)) := hideJ (HMD.out.blk HR2.out (by omega)); have HZ3 : Hid (w3.heap[w.heap.size + 1 + 1]? = some (.cells #[.int .u8 0, .int .u32 0, .int .u64 0, .int .u8 0, .bool false, .int .u64 0, .int .u8 0] 27)) := hideJ (HMD.out.blk HZ2.out (by omega)); clear hout))
    | (with_reducible show wpList _ _ _ ({ dst := some 21, op := Op.load 27 _, type := _, pos := _, after := _, guard := none } :: _) _ _; go_must (refine wpList_load_blk rfl _ _ rfl (w.heap.size + 1) 0 rfl 7 _ Try.underlying27 rfl (by kernel_rfl) [.int .u8 rc, .int .u32 rs, .int .u64 rkey, .int .u8 5, .bool rf, .int .u64 rv, .int .u8 rg] 27 HR3.out rfl [.int .u8 rc, .int .u32 rs, .int .u64 rkey, .int .u8 5, .bool rf, .int .u64 rv, .int .u8 rg] rfl ?_))
    | (with_reducible show wpList _ _ _ ({ dst := none, op := Op.store 27 _ _, type := _, pos := _, after := _, guard := none } :: _) _ _; go_must (refine wpList_store_blk rfl _ _ _ rfl rfl (w.heap.size + 1 + 1) 0 rfl [.int .u8 rc, .int .u32 rs, .int .u64 rkey, .int .u8 5, .bool rf, .int .u64 rv, .int .u8 rg] rfl _ (by kernel_rfl) rfl rfl [.int .u8 0, .int .u32 0, .int .u64 0, .int .u8 0, .bool false, .int .u64 0, .int .u8 0] 27 HZ3.out rfl [.int .u8 rc, .int .u32 rs, .int .u64 rkey, .int .u8 5, .bool rf, .int .u64 rv, .int .u8 rg] rfl ?_; intro w4 hw ho; have HZ9 : Hid (w4.heap[w.heap.size + 1 + 1]? = some (.cells #[.int .u8 rc, .int .u32 rs, .int .u64 rkey, .int .u8 5, .bool rf, .int .u64 rv, .int .u8 rg] 27)) := hideJ (hw); have HO9 : Hid (Only (w.heap.size + 1 + 1) w3 w4) := hideJ (ho); clear hw ho)))
  refine bodyPost_ret (v := .agg #[.int .u8 rc, .int .u32 rs, .int .u64 rkey, .int .u8 5, .bool rf, .int .u64 rv, .int .u8 rg]) (results_cell_row Try.results146 _ _ (w.heap.size + 1 + 1) 27 _ (0, 0) _ rfl HZ9.out Try.underlying27 rfl (by kernel_rfl)) rfl ⟨rfl, ?_⟩
  obtain ⟨vD', hS, hM, hF⟩ := HOUT.out
  have hm2 := HM2.out
  exact ⟨vT, vD', hS.only_off HO9.out (by omega) (fun e => by have := hlT _ e; omega) (hF.ne hlD (by omega) (by omega)), (HL2.out.trans hM).box HO9.out (by omega), .inl rfl, hF.mono (by omega)⟩

set_option maxHeartbeats 1000000 in
set_option maxRecDepth 100000 in
theorem do_dlg (w : World) (base lim b : Nat) (g n : Int) (vT vM vD vO vI : Value) (T : List Row) (D : List Rep) (qc qs qk qkey qv qhi qto : Int) (rc rs rkey rk : Int) (rf : Bool) (rv rg : Int) (h : Shd w base b g n vT vM vD vO vI T D) (hsD : SortD D) (hb : base ≤ w.heap.size) (hlw : lim ≤ w.heap.size) (hbl : b < lim) (hlT : ∀ k, vT.ownBlock = some k → k < lim) (hlD : ∀ k, vD.ownBlock = some k → k < lim) (hnD : D.length < 1000000) (hto : qto = g ∨ n ≤ qto) (hk1 : (qk == 1) = false) (hk2 : (qk == 2) = false) (hk3 : (qk == 3) = false) (hk : (qk == 4) = true) :
    Calls Try.prog 111 #[.pointer (some ⟨b, 0, none⟩), .agg #[.int .u8 qc, .int .u32 qs, .int .u8 qk, .int .u64 qkey, .int .u64 qv, .int .u64 qhi, .int .u8 qto], .agg #[.int .u8 rc, .int .u32 rs, .int .u64 rkey, .int .u8 rk, .bool rf, .int .u64 rv, .int .u8 rg]] w fun e w' => e = .returned (.agg #[.int .u8 rc, .int .u32 rs, .int .u64 rkey, .int .u8 5, .bool rf, .int .u64 rv, .int .u8 rg]) ∧ OutS base lim b g n vT vM vD vO vI T (remD D (Rep.mk rc rs rkey 5 rf rv rg)) w w' := by
  obtain ⟨W, hW⟩ : ∃ W, W = ((w.alloc (.cells #[.int .u8 qc, .int .u32 qs, .int .u8 qk, .int .u64 qkey, .int .u64 qv, .int .u64 qhi, .int .u8 qto] 25)).alloc (.cells #[.int .u8 rc, .int .u32 rs, .int .u64 rkey, .int .u8 rk, .bool rf, .int .u64 rv, .int .u8 rg] 27)).alloc (.cells #[.int .u8 0, .int .u32 0, .int .u64 0, .int .u8 0, .bool false, .int .u64 0, .int .u8 0] 27) := ⟨_, rfl⟩
  obtain ⟨hQ, hR, hZ, hWl, hWs⟩ := three w (.cells #[.int .u8 qc, .int .u32 qs, .int .u8 qk, .int .u64 qkey, .int .u64 qv, .int .u64 qhi, .int .u8 qto] 25) (.cells #[.int .u8 rc, .int .u32 rs, .int .u64 rkey, .int .u8 rk, .bool rf, .int .u64 rv, .int .u8 rg] 27) (.cells #[.int .u8 0, .int .u32 0, .int .u64 0, .int .u8 0, .bool false, .int .u64 0, .int .u8 0] 27)
  rw [← hW] at hQ hR hZ hWl hWs
  have HH : Hid (Shd w base b g n vT vM vD vO vI T D) := h
  have HSD : Hid (SortD D) := hsD
  have HWL : Hid (Below w.heap.size w W) := hWl
  have HQ : Hid (W.heap[w.heap.size]? = some (.cells #[.int .u8 qc, .int .u32 qs, .int .u8 qk, .int .u64 qkey, .int .u64 qv, .int .u64 qhi, .int .u8 qto] 25)) := hQ
  have HR : Hid (W.heap[w.heap.size + 1]? = some (.cells #[.int .u8 rc, .int .u32 rs, .int .u64 rkey, .int .u8 rk, .bool rf, .int .u64 rv, .int .u8 rg] 27)) := hR
  have HZ : Hid (W.heap[w.heap.size + 1 + 1]? = some (.cells #[.int .u8 0, .int .u32 0, .int .u64 0, .int .u8 0, .bool false, .int .u64 0, .int .u8 0] 27)) := hZ
  have hcq0 := blk_cell hQ
  clear h hsD hWl hQ hR hZ hcq0
  go_enter Try.func111, Try.ntmps111
  go_upto_region 1 with fail
  rw [← hW]
  clear hW
  have hcq2 : W.cell? ⟨w.heap.size, 2, none⟩ = some (.int .u8 qk) := blk_cell HQ.out 2
  have hcq3 : W.cell? ⟨w.heap.size, 3, none⟩ = some (.int .u64 qkey) := blk_cell HQ.out 3
  have hcq4 : W.cell? ⟨w.heap.size, 4, none⟩ = some (.int .u64 qv) := blk_cell HQ.out 4
  have HWS : Hid (W.heap.size = w.heap.size + 3) := hWs
  have HSW : Hid (Shd W base b g n vT vM vD vO vI T D) := HH.out.later HWL.out
  go_wp2_with (first
    | (with_reducible show wpList _ _ _ ({ dst := some 40, op := Op.load 25 _, type := _, pos := _, after := _, guard := none } :: _) _ _; go_must (refine wpList_load_blk rfl _ _ rfl w.heap.size 0 rfl 7 _ Try.underlying25 rfl (by kernel_rfl) [.int .u8 qc, .int .u32 qs, .int .u8 qk, .int .u64 qkey, .int .u64 qv, .int .u64 qhi, .int .u8 qto] 25 HQ.out rfl [.int .u8 qc, .int .u32 qs, .int .u8 qk, .int .u64 qkey, .int .u64 qv, .int .u64 qhi, .int .u8 qto] rfl ?_))
    | (with_reducible show wpList _ _ _ ({ dst := some 41, op := Op.load 27 _, type := _, pos := _, after := _, guard := none } :: _) _ _; go_must (refine wpList_load_blk rfl _ _ rfl (w.heap.size + 1) 0 rfl 7 _ Try.underlying27 rfl (by kernel_rfl) [.int .u8 rc, .int .u32 rs, .int .u64 rkey, .int .u8 rk, .bool rf, .int .u64 rv, .int .u8 rg] 27 HR.out rfl [.int .u8 rc, .int .u32 rs, .int .u64 rkey, .int .u8 rk, .bool rf, .int .u64 rv, .int .u8 rg] rfl ?_))
    | (go_at_call 146; go_must (refine (delegate_no _ base lim b g n vT vM vD vO vI T D qc qs qk qkey qv qhi qto rc rs rkey rk rf rv rg HSW.out HSD.out (by rw [HWS.out]; omega) (by rw [HWS.out]; omega) hbl hlT hlD hnD hto).mono ?_; rintro e w3 ⟨rfl, hout⟩; have HOUT : Hid (OutS base lim b g n vT vM vD vO vI T (remD D (Rep.mk rc rs rkey 5 rf rv rg)) W w3) := hideJ (hout); have HMD : Hid (Mod base lim W w3) := hideJ (by obtain ⟨_, _, _, h, _⟩ := hout; exact h); have HZ3 : Hid (w3.heap[w.heap.size + 1 + 1]? = some (.cells #[.int .u8 0, .int .u32 0, .int .u64 0, .int .u8 0, .bool false, .int .u64 0, .int .u8 0] 27)) := hideJ (HMD.out.blk HZ.out (by omega)); clear hout))
    | (with_reducible show wpList _ _ _ ({ dst := none, op := Op.store 27 _ _, type := _, pos := _, after := _, guard := none } :: _) _ _; go_must (refine wpList_store_blk rfl _ _ _ rfl rfl (w.heap.size + 1 + 1) 0 rfl [.int .u8 rc, .int .u32 rs, .int .u64 rkey, .int .u8 5, .bool rf, .int .u64 rv, .int .u8 rg] rfl _ (by kernel_rfl) rfl rfl [.int .u8 0, .int .u32 0, .int .u64 0, .int .u8 0, .bool false, .int .u64 0, .int .u8 0] 27 HZ3.out rfl [.int .u8 rc, .int .u32 rs, .int .u64 rkey, .int .u8 5, .bool rf, .int .u64 rv, .int .u8 rg] rfl ?_; intro w4 hw ho; have HZ9 : Hid (w4.heap[w.heap.size + 1 + 1]? = some (.cells #[.int .u8 rc, .int .u32 rs, .int .u64 rkey, .int .u8 5, .bool rf, .int .u64 rv, .int .u8 rg] 27)) := hideJ (hw); have HO9 : Hid (Only (w.heap.size + 1 + 1) w3 w4) := hideJ (ho); clear hw ho)))
  refine bodyPost_ret (v := .agg #[.int .u8 rc, .int .u32 rs, .int .u64 rkey, .int .u8 5, .bool rf, .int .u64 rv, .int .u8 rg]) (results_cell_row Try.results111 _ _ (w.heap.size + 1 + 1) 27 _ (0, 0) _ rfl HZ9.out Try.underlying27 rfl (by kernel_rfl)) rfl ⟨rfl, ?_⟩
  obtain ⟨vT', vD', hS, hM, hF1, hF⟩ := HOUT.out
  have hws := HWS.out
  exact ⟨vT', vD', hS.only_off HO9.out (by omega) (hF1.ne hlT (by omega) (by omega)) (hF.ne hlD (by omega) (by omega)), ((Mod.later HWL.out).trans hM).box HO9.out (by omega), hF1.mono (by omega), hF.mono (by omega)⟩

end Go.Proofs.Ytignemioillaiaa
