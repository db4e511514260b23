/- Kept. -/
import Derived.Test.YtignemioillaiaaJ27
namespace Go.Proofs.Ytignemioillaiaa
open Go.RowKit Go.Lib

theorem key_found {w : World} {bK n : Nat} {K : List Mem} {m : Mem} {t : TypeId} (hk : w.heap[bK]? = some (.cells ((K.map Mem.cells).flatten).toArray t)) (hm : K[n]? = some m) (hn : n ≤ K.length) : w.cell? ⟨bK, n * 34, none⟩ = some (.bool m.found) := by
  rw [keys_split hm] at hk
  have := cell_mid hk 0 _ (show m.cells[0]? = some (.bool m.found) from rfl)
  rw [keys_len hn] at this
  exact this

theorem ans_off (w : World) (bK off : Nat) (A B : List Value) (t : TypeId) (T : List Row) (D : List Rep) (K : List Mem) (n c : Nat) (m : Mem) (qs qk qv qhi qto : Int) (T' : List Row) (D' : List Rep) (pc ps pkey pk : Int) (pf : Bool) (pv pg : Int)
    (h : KInv T D K) (hn : n < 11) (hm : K[n]? = some m) (hc : c < 3) (hbK : w.heap[bK]? = some (.cells (A ++ (m.cells ++ B)).toArray t)) (hqs : 1 ≤ qs) (hkind : qk = 1 ∨ qk = 2 ∨ qk = 3 ∨ qk = 4)
    (haw : AskOut T D ⟨c, qs, qk, keyN n, qv, qhi, qto⟩ T' D' (Rep.mk pc ps pkey pk pf pv pg)) (ho : off = A.length) :
    Calls Try.prog 31 #[.pointer (some ⟨bK, off, none⟩), .agg #[.int .u8 (c : Int), .int .u32 qs, .int .u8 qk, .int .u64 (keyN n), .int .u64 qv, .int .u64 qhi, .int .u8 qto, .int .u8 pc, .int .u32 ps, .int .u64 pkey, .int .u8 pk, .bool pf, .int .u64 pv, .int .u8 pg]] w fun e w' =>
      ∃ fr m', e = .returned (.tuple #[.bool true, .bool fr]) ∧ AW w w' bK A B m' t ∧ KStep T K n m qk pk fr T' D' m' := by
  subst ho
  exact ans_any w bK A B t T D K n c m qs qk qv qhi qto T' D' pc ps pkey pk pf pv pg h hn hm hc hbK hqs hkind haw

/-- What the law has in memory while it runs. -/
structure KS (w wr : World) (bS bK : Nat) (vT vM vD vO vI : Value) (T : List Row) (D : List Rep) (K : List Mem) : Prop where
  cell : wr.heap[bS]? = some (.cells #[.int .u8 0, .int .u8 1, vT, vM, vD, vO, vI] 74)
  one : One wr 0 vT vM vD vO vI T D
  keys : wr.heap[bK]? = some (.cells ((K.map Mem.cells).flatten).toArray 100)
  inv : KInv T D K
  bel : Below w.heap.size w wr
  lS : w.heap.size ≤ bS
  lK : w.heap.size ≤ bK

set_option maxHeartbeats 4000000 in
set_option maxRecDepth 100000 in
theorem kept_any (a : Option Addr) (n c : Nat) (rs : List Req) (w : World) (hin : SlIn w.heap.size w ⟨a, n, c⟩ 7 (rs.map Req.cells)) (hwf : ∀ (i : Nat) (x : Req), rs[i]? = some x → x.wf) :
    Calls Try.prog 9 #[.slice a n c] w fun e w' => e = .returned (.bool true) ∧ Below w.heap.size w w' := by
  have hl0 : n = rs.length := by simpa using hin.len
  have HL : Hid (n = rs.length) := hl0
  have hlm : n ≤ maxLen := Nat.le_trans hin.le hin.max
  unfold maxLen at hlm
  have HI : Hid (SlIn w.heap.size w ⟨a, n, c⟩ 7 (rs.map Req.cells)) := hin
  have HWF : Hid (∀ (i : Nat) (x : Req), rs[i]? = some x → x.wf) := hwf
  clear hin hwf hl0
  go_enter Try.func9, Try.ntmps9
  go_upto_region 4 with (first
    | (go_at_call 23; go_must (refine (begin_one _).mono ?_; rintro e w1 ⟨vM, vO, vI, rfl, hone, hb1⟩; have HO1 : Hid (One w1 w.heap.size (.slice none 0 0) vM (.slice none 0 0) vO vI [] []) := hideJ hone; have HB1 : Hid (Below w.heap.size w w1) := hideJ hb1; have h7 : [.int .u8 0, .int .u8 1, .slice none 0 0, vM, .slice none 0 0, vO, vI].all (·.oneCell') = true := (by rw [List.all_eq_true]; intro u hu; simp only [List.mem_cons, List.not_mem_nil, or_false] at hu; rcases hu with rfl | rfl | rfl | rfl | rfl | rfl | rfl <;> first | rfl | exact own_oneJ hone.oM | exact own_oneJ hone.oO | exact own_oneJ hone.oI); clear hone hb1))
    | (with_reducible show wpList _ _ _ ({ dst := none, op := Op.store 74 (Operand.tmp 3) _, type := _, pos := _, after := _, guard := none } :: _) _ _; go_must (refine wpList_store_blk rfl _ _ _ rfl rfl w1.heap.size 0 rfl [.int .u8 0, .int .u8 1, .slice none 0 0, vM, .slice none 0 0, vO, vI] rfl _ (by kernel_rfl) rfl h7 [.int .u8 0, .int .u8 0, .slice none 0 0, .slice none 0 0, .slice none 0 0, .slice none 0 0, .slice none 0 0] 74 (heap_alloc_new w1 _) rfl [.int .u8 0, .int .u8 1, .slice none 0 0, vM, .slice none 0 0, vO, vI] rfl ?_; intro w2 hw ho; have HN2 : Hid (w2.heap[w1.heap.size]? = some (.cells #[.int .u8 0, .int .u8 1, .slice none 0 0, vM, .slice none 0 0, vO, vI] 74)) := hideJ hw; have HB2 : Hid (Below w1.heap.size w1 w2) := hideJ ((later_alloc w1 _).trans (ho.below (Nat.le_refl _))); have hs2 : w2.heap.size = w1.heap.size + 1 := (by rw [ho.size]; simp); clear hw ho)))
  go_upto_region 5 with fail
  generalize hG : World.alloc w2 _ = W3
  have HK3 : Hid (W3.heap[w1.heap.size + 1]? = some (.cells (((List.replicate 11 mem0).map Mem.cells).flatten).toArray 100)) := by
    show _ = _
    rw [← hG, ← hs2]
    refine (heap_alloc_new w2 _).trans ?_
    kernel_rfl
  have HB3 : Hid (Below w2.heap.size w2 W3) := by
    show Below _ _ _
    rw [← hG]; exact later_alloc _ _
  clear hG
  have HS : Hid (KS w W3 w1.heap.size (w1.heap.size + 1) (.slice none 0 0) vM (.slice none 0 0) vO vI [] [] (List.replicate 11 mem0)) := by
    refine ⟨blk_later HB3.out HN2.out, ?_, HK3.out, KInv.start, HB1.out.trans ((HB2.out.mono HB1.out.size).trans (HB3.out.mono (Nat.le_trans HB1.out.size HB2.out.size))), HB1.out.size, Nat.le_succ_of_le HB1.out.size⟩
    exact ⟨World.ownsRow_nil _ _ _ _, own_base (own_keepJ (own_keepJ HO1.out.oM HB2.out) HB3.out) (Nat.zero_le _), World.ownsRow_nil _ _ _ _, own_base (own_keepJ (own_keepJ HO1.out.oO HB2.out) HB3.out) (Nat.zero_le _), own_base (own_keepJ (own_keepJ HO1.out.oI HB2.out) HB3.out) (Nat.zero_le _)⟩
  clear HO1 HB1 HN2 HB2 HK3 HB3 hs2 h7
  obtain ⟨bS, hbS⟩ : ∃ bS, bS = w1.heap.size := ⟨_, rfl⟩
  obtain ⟨bK, hbK⟩ : ∃ bK, bK = w1.heap.size + 1 := ⟨_, rfl⟩
  rw [← hbK, ← hbS] at HS
  rw [← hbK, ← hbS]
  have hSK : bS ≠ bK := by omega
  clear hbS hbK
  go_wp2_with fail
  go_loopw [6, 7] (fun s6 s7 wr => ∃ i : Nat, i ≤ n ∧ s7 = .int .i64 i ∧ ∃ (vT vM vD vO vI : Value) (T : List Row) (D : List Rep) (K : List Mem), s6 = .int .i64 (T.length : Nat) ∧ Hid (KS w wr bS bK vT vM vD vO vI T D K)) (fun _ s7 _ => n - (intOf s7).toNat)
  case atStart => exact ⟨0, Nat.zero_le _, rfl, _, _, _, _, _, [], [], _, rfl, HS⟩
  case round =>
    clear HS
    obtain ⟨i, hi, rfl, vT, vM, vD, vO, vI, T, D, K, rfl, HS⟩ := hrel
    by_cases hlt : i < n
    · obtain ⟨x, hx⟩ : ∃ x, rs[i]? = some x := ⟨rs[i]'(by rw [← HL.out]; omega), by simp⟩
      have hxw := HWF.out i x hx
      obtain ⟨b, off, ha, hbB, hel⟩ := (HI.out.below HS.out.bel (Nat.le_refl _)).el (i := i) (x := x.cells) (by simp [hx])
      dsimp only at ha
      subst ha
      obtain ⟨cc, nn, hcc, hnn, e1, e2, e3, e4, e5, e6⟩ := right_spec hxw
      obtain ⟨⟨qc, qs, qk, qkey, qv, qhi, qto⟩, hr⟩ : ∃ r, r = rightOf x := ⟨_, rfl⟩
      rw [← hr] at e1 e2 e3 e4 e5 e6
      dsimp only at e1 e2 e3 e4 e5
      subst e1 e2
      obtain ⟨xc, xs, xk, xkey, xv, xhi, xto⟩ := x
      have hx0 := hel 0 _ rfl
      have hx1 := hel 1 _ rfl
      have hx2 := hel 2 _ rfl
      have hx3 := hel 3 _ rfl
      have hx4 := hel 4 _ rfl
      have hx5 := hel 5 _ rfl
      have hx6 := hel 6 _ rfl
      dsimp only at hx0 hx1 hx2 hx3 hx4 hx5 hx6
      rw [Nat.add_zero] at hx0
      have HR : Hid (rightOf ⟨xc, xs, xk, xkey, xv, xhi, xto⟩ = ⟨cc, qs, qk, keyN nn, qv, qhi, qto⟩) := hr.symm
      have HXW : Hid ((⟨xc, xs, xk, xkey, xv, xhi, xto⟩ : Req).wf) := hxw
      have HOK : Hid ((⟨cc, qs, qk, keyN nn, qv, qhi, qto⟩ : Req).ok = true) := e6
      have hdk : decide ((i : Int) < (n : Int)) = true := by simp; omega
      obtain ⟨m, hm⟩ : ∃ m, K[nn]? = some m := ⟨K[nn]'(by rw [HS.out.inv.lK]; exact hnn), by simp⟩
      have HM : Hid (K[nn]? = some m) := hm
      have hknn : 0 ≤ keyN nn := by unfold keyN; split <;> omega
      clear hm hel hxw hr e6 hx
      by_cases h10 : nn = 10
      · have hgt : decide (10 < keyN nn) = true := by subst h10; decide
        have H10 : Hid (nn = 10) := h10
        clear h10
        go_upto_region 16 with (first
          | (go_at_call 26; go_must (refine (right_raw xc xs xk xkey xv xhi xto cc qs qk (keyN nn) qv qhi qto _ HXW.out HR.out).mono ?_; rintro e wa ⟨rfl, hba⟩; have HBa : Hid (Below wr.heap.size wr wa) := hideJ hba; have HB0 : Hid (Below wr.heap.size wr (wa.alloc (.cells #[.int .u8 (cc : Int), .int .u32 qs, .int .u8 qk, .int .u64 (keyN nn), .int .u64 qv, .int .u64 qhi, .int .u8 qto] 25))) := hideJ (later_trans hba (later_alloc wa _)); have HO0 : Hid (One (wa.alloc (.cells #[.int .u8 (cc : Int), .int .u32 qs, .int .u8 qk, .int .u64 (keyN nn), .int .u64 qv, .int .u64 qhi, .int .u8 qto] 25)) 0 vT vM vD vO vI T D) := hideJ ⟨own_keepJ HS.out.one.oT HB0.out, own_keepJ HS.out.one.oM HB0.out, own_keepJ HS.out.one.oD HB0.out, own_keepJ HS.out.one.oO HB0.out, own_keepJ HS.out.one.oI HB0.out⟩; have HN0 : Hid ((wa.alloc (.cells #[.int .u8 (cc : Int), .int .u32 qs, .int .u8 qk, .int .u64 (keyN nn), .int .u64 qv, .int .u64 qhi, .int .u8 qto] 25)).heap[bS]? = some (.cells #[.int .u8 0, .int .u8 1, vT, vM, vD, vO, vI] 74)) := hideJ (blk_later HB0.out HS.out.cell); have HK0 : Hid ((wa.alloc (.cells #[.int .u8 (cc : Int), .int .u32 qs, .int .u8 qk, .int .u64 (keyN nn), .int .u64 qv, .int .u64 qhi, .int .u8 qto] 25)).heap[bK]? = some (.cells ((K.map Mem.cells).flatten).toArray 100)) := hideJ (blk_later HB0.out HS.out.keys); clear hba))
          | (with_reducible show wpList _ _ _ ({ dst := some 34, op := Op.load 74 _, type := _, pos := _, after := _, guard := none } :: _) _ _; go_must (refine wpList_load_blk rfl _ _ rfl bS 0 rfl 7 _ Try.underlying74 rfl (by kernel_rfl) [.int .u8 0, .int .u8 1, vT, vM, vD, vO, vI] 74 HN0.out rfl [.int .u8 0, .int .u8 1, vT, vM, vD, vO, vI] rfl ?_))
          | (with_reducible show wpList _ _ _ ({ dst := some 35, op := Op.load 25 _, type := _, pos := _, after := _, guard := none } :: _) _ _; go_must (refine wpList_load_blk rfl _ _ rfl wa.heap.size 0 rfl 7 _ Try.underlying25 rfl (by kernel_rfl) [.int .u8 (cc : Int), .int .u32 qs, .int .u8 qk, .int .u64 (keyN nn), .int .u64 qv, .int .u64 qhi, .int .u8 qto] 25 (heap_alloc_new wa _) rfl [.int .u8 (cc : Int), .int .u32 qs, .int .u8 qk, .int .u64 (keyN nn), .int .u64 qv, .int .u64 qhi, .int .u8 qto] rfl ?_))
          | (go_at_call 30; go_must (refine (apply_one _ vT vM vD vO vI T D cc qs qk (keyN nn) qv qhi qto HO0.out hknn HOK.out HS.out.inv.sT HS.out.inv.sD (by have := HS.out.inv.lT; omega) (by have := HS.out.inv.lD; omega) e4 e5).mono ?_; rintro e w4 ⟨vT', vM', vD', vO', vI', pc, ps, pkey, pk, pf, pv, pg, T', D', rfl, haw, hone, hb4⟩; have HAW : Hid (AskOut T D ⟨cc, qs, qk, keyN nn, qv, qhi, qto⟩ T' D' ⟨pc, ps, pkey, pk, pf, pv, pg⟩) := hideJ haw; have HO4 : Hid (One w4 (wa.alloc (.cells #[.int .u8 (cc : Int), .int .u32 qs, .int .u8 qk, .int .u64 (keyN nn), .int .u64 qv, .int .u64 qhi, .int .u8 qto] 25)).heap.size vT' vM' vD' vO' vI' T' D') := hideJ hone; have HB4 : Hid (Below (wa.alloc (.cells #[.int .u8 (cc : Int), .int .u32 qs, .int .u8 qk, .int .u64 (keyN nn), .int .u64 qv, .int .u64 qhi, .int .u8 qto] 25)).heap.size (wa.alloc (.cells #[.int .u8 (cc : Int), .int .u32 qs, .int .u8 qk, .int .u64 (keyN nn), .int .u64 qv, .int .u64 qhi, .int .u8 qto] 25)) w4) := hideJ hb4; have h7' : [.int .u8 0, .int .u8 1, vT', vM', vD', vO', vI'].all (·.oneCell') = true := (by rw [List.all_eq_true]; intro u hu; simp only [List.mem_cons, List.not_mem_nil, or_false] at hu; rcases hu with rfl | rfl | rfl | rfl | rfl | rfl | rfl <;> first | rfl | exact own_oneJ hone.oT | exact own_oneJ hone.oM | exact own_oneJ hone.oD | exact own_oneJ hone.oO | exact own_oneJ hone.oI); clear haw hone hb4))
          | (with_reducible show wpList _ _ _ ({ dst := none, op := Op.store 74 (Operand.tmp 9) _, type := _, pos := _, after := _, guard := none } :: _) _ _; go_must (refine wpList_store_blk rfl _ _ _ rfl rfl w4.heap.size 0 rfl [.int .u8 0, .int .u8 1, vT', vM', vD', vO', vI'] rfl _ (by kernel_rfl) rfl h7' [.int .u8 0, .int .u8 0, .slice none 0 0, .slice none 0 0, .slice none 0 0, .slice none 0 0, .slice none 0 0] 74 (two w4 _ _).1 rfl [.int .u8 0, .int .u8 1, vT', vM', vD', vO', vI'] rfl ?_; intro w5 hw ho; have HN5 : Hid (w5.heap[w4.heap.size]? = some (.cells #[.int .u8 0, .int .u8 1, vT', vM', vD', vO', vI'] 74)) := hideJ hw; have HR5 : Hid (w5.heap[w4.heap.size + 1]? = some (.cells #[.int .u8 0, .int .u32 0, .int .u64 0, .int .u8 0, .bool false, .int .u64 0, .int .u8 0] 27)) := hideJ ((ho.block _ (by omega)).trans (two w4 _ _).2.1); have HB5 : Hid (Below w4.heap.size w4 w5) := hideJ ((two w4 _ _).2.2.1.trans (ho.below (Nat.le_refl _))); clear hw ho))
          | (with_reducible show wpList _ _ _ ({ dst := none, op := Op.store 27 (Operand.tmp 10) _, type := _, pos := _, after := _, guard := none } :: _) _ _; go_must (refine wpList_store_blk rfl _ _ _ rfl rfl (w4.heap.size + 1) 0 rfl [.int .u8 pc, .int .u32 ps, .int .u64 pkey, .int .u8 pk, .bool pf, .int .u64 pv, .int .u8 pg] rfl _ (by kernel_rfl) rfl rfl [.int .u8 0, .int .u32 0, .int .u64 0, .int .u8 0, .bool false, .int .u64 0, .int .u8 0] 27 HR5.out rfl [.int .u8 pc, .int .u32 ps, .int .u64 pkey, .int .u8 pk, .bool pf, .int .u64 pv, .int .u8 pg] rfl ?_; intro w6 hw ho; have HP6 : Hid (w6.heap[w4.heap.size + 1]? = some (.cells #[.int .u8 pc, .int .u32 ps, .int .u64 pkey, .int .u8 pk, .bool pf, .int .u64 pv, .int .u8 pg] 27)) := hideJ hw; have HN6 : Hid (w6.heap[w4.heap.size]? = some (.cells #[.int .u8 0, .int .u8 1, vT', vM', vD', vO', vI'] 74)) := hideJ ((ho.block _ (by omega)).trans HN5.out); have HB6 : Hid (Below w4.heap.size w4 w6) := hideJ (HB5.out.trans (ho.below (Nat.le_succ _))); clear hw ho; have HX6 : Hid (Below (wa.alloc (.cells #[.int .u8 (cc : Int), .int .u32 qs, .int .u8 qk, .int .u64 (keyN nn), .int .u64 qv, .int .u64 qhi, .int .u8 qto] 25)).heap.size (wa.alloc (.cells #[.int .u8 (cc : Int), .int .u32 qs, .int .u8 qk, .int .u64 (keyN nn), .int .u64 qv, .int .u64 qhi, .int .u8 qto] 25)) w6) := hideJ (later_trans HB4.out HB6.out); have hlt4 : wa.heap.size + 1 ≤ w4.heap.size := (by have := HB4.out.size; simp at this; omega)))
          | (with_reducible show wpList _ _ _ ({ dst := some 40, op := Op.load 74 _, type := _, pos := _, after := _, guard := none } :: _) _ _; go_must (refine wpList_load_blk rfl _ _ rfl w4.heap.size 0 rfl 7 _ Try.underlying74 rfl (by kernel_rfl) [.int .u8 0, .int .u8 1, vT', vM', vD', vO', vI'] 74 HN6.out rfl [.int .u8 0, .int .u8 1, vT', vM', vD', vO', vI'] rfl ?_))
          | (with_reducible show wpList _ _ _ ({ dst := none, op := Op.store 74 (Operand.tmp 3) _, type := _, pos := _, after := _, guard := none } :: _) _ _; go_must (refine wpList_store_blk rfl _ _ _ rfl rfl bS 0 rfl [.int .u8 0, .int .u8 1, vT', vM', vD', vO', vI'] rfl _ (by kernel_rfl) rfl h7' [.int .u8 0, .int .u8 1, vT, vM, vD, vO, vI] 74 (blk_later HX6.out HN0.out) rfl [.int .u8 0, .int .u8 1, vT', vM', vD', vO', vI'] rfl ?_; intro w7 hw ho; have HN7 : Hid (w7.heap[bS]? = some (.cells #[.int .u8 0, .int .u8 1, vT', vM', vD', vO', vI'] 74)) := hideJ hw; have HOS : Hid (Only bS w6 w7) := hideJ ho; clear hw ho; have hbS : bS < wa.heap.size := Nat.lt_of_lt_of_le (Array.getElem?_eq_some_iff.1 HS.out.cell).1 HBa.out.size; have hbK : bK < wa.heap.size := Nat.lt_of_lt_of_le (Array.getElem?_eq_some_iff.1 HS.out.keys).1 HBa.out.size; have HQ7 : Hid (w7.heap[wa.heap.size]? = some (.cells #[.int .u8 (cc : Int), .int .u32 qs, .int .u8 qk, .int .u64 (keyN nn), .int .u64 qv, .int .u64 qhi, .int .u8 qto] 25)) := hideJ ((HOS.out.block _ (by omega)).trans (blk_later HX6.out (heap_alloc_new wa _))); have HP7 : Hid (w7.heap[w4.heap.size + 1]? = some (.cells #[.int .u8 pc, .int .u32 ps, .int .u64 pkey, .int .u8 pk, .bool pf, .int .u64 pv, .int .u8 pg] 27)) := hideJ ((HOS.out.block _ (by omega)).trans HP6.out); have HK7 : Hid (w7.heap[bK]? = some (.cells ((K.map Mem.cells).flatten).toArray 100)) := hideJ ((HOS.out.block _ (Ne.symm hSK)).trans (blk_later HX6.out HK0.out)); have hq3 : w7.cell? ⟨wa.heap.size, 3, none⟩ = some (.int .u64 (keyN nn)) := (by with_unfolding_all exact blk_cell HQ7.out 3); have hkf : w7.cell? ⟨bK, 340, none⟩ = some (.bool m.found) := (by have := key_found HK7.out HM.out (Nat.le_of_lt (by rw [HS.out.inv.lK]; exact hnn)); rw [H10.out] at this; with_unfolding_all exact this))))
        have hi1 : (0 : Int) ≤ (nn : Int) := by omega
        have hi2 : (nn : Int) < 11 := by omega
        have hcq7 := blk_cell HQ7.out
        have hcp7 := blk_cell HP7.out
        obtain ⟨A, hA⟩ : ∃ A, A = ((K.take nn).map Mem.cells).flatten := ⟨_, rfl⟩
        obtain ⟨B, hB⟩ : ∃ B, B = ((K.drop (nn + 1)).map Mem.cells).flatten := ⟨_, rfl⟩
        have HAB : Hid (A = ((K.take nn).map Mem.cells).flatten ∧ B = ((K.drop (nn + 1)).map Mem.cells).flatten) := (⟨hA, hB⟩ : _ ∧ _)
        have HKA : Hid (w7.drew.heap[bK]? = some (.cells (A ++ (m.cells ++ B)).toArray 100)) := by
          show _ = _
          rw [hA, hB, ← keys_split HM.out]; exact HK7.out
        have HOF : Hid (340 = A.length) := by
          show _ = _
          rw [hA, keys_len (by rw [HS.out.inv.lK]; omega), H10.out]
        clear hA hB
        go_cut [13, 14] from 51 to 123 (fun s13 s14 wx => ∃ fr m', s13 = .bool true ∧ s14 = .bool fr ∧ Hid (AW w7.drew wx bK A B m' 100) ∧ Hid (KStep T K nn m qk pk fr T' D' m'))
        case first =>
          go_region_with (go_at_call 31; refine (ans_off w7.drew bK 340 A B 100 T D K nn cc m qs qk qv qhi qto T' D' pc ps pkey pk pf pv pg HS.out.inv hnn HM.out hcc HKA.out e3 e4 HAW.out HOF.out).mono ?_; rintro e w8 ⟨fr, m', rfl, ha8, hst⟩; have HA8 : Hid (AW w7.drew w8 bK A B m' 100) := hideJ ha8; have HST : Hid (KStep T K nn m qk pk fr T' D' m') := hideJ hst; clear ha8 hst)
          all_goals (go_wp2_with fail; go_meet; exact ⟨fr, m', rfl, rfl, HA8, HST⟩)
        case rest =>
          obtain ⟨fr, m', rfl, rfl, HA8, HST⟩ := hcut
          have h5 : bS < w7.heap.size := (Array.getElem?_eq_some_iff.1 HN7.out).1
          have hl7 : w4.heap.size + 1 < w7.heap.size := (Array.getElem?_eq_some_iff.1 HP7.out).1
          have HQ8 : Hid (wc.heap[wa.heap.size]? = some (.cells #[.int .u8 (cc : Int), .int .u32 qs, .int .u8 qk, .int .u64 (keyN nn), .int .u64 qv, .int .u64 qhi, .int .u8 qto] 25)) := (HA8.out.o _ (by omega) (by show wa.heap.size < w7.heap.size; omega)).trans HQ7.out
          have HP8 : Hid (wc.heap[w4.heap.size + 1]? = some (.cells #[.int .u8 pc, .int .u32 ps, .int .u64 pkey, .int .u8 pk, .bool pf, .int .u64 pv, .int .u8 pg] 27)) := (HA8.out.o _ (by omega) (by show w4.heap.size + 1 < w7.heap.size; omega)).trans HP7.out
          have HN8 : Hid (wc.heap[bS]? = some (.cells #[.int .u8 0, .int .u8 1, vT', vM', vD', vO', vI'] 74)) := (HA8.out.o _ hSK h5).trans HN7.out
          have HK8 : Hid (wc.heap[bK]? = some (.cells (((K.set nn m').map Mem.cells).flatten).toArray 100)) := by
            show _ = _
            rw [keys_set (by rw [HS.out.inv.lK]; exact hnn), ← HAB.out.1, ← HAB.out.2]; exact HA8.out.k
          have hkf8 : wc.cell? ⟨bK, 340, none⟩ = some (.bool m'.found) := by have := key_found HK8.out (n := nn) (by rw [List.getElem?_set_self (by rw [HS.out.inv.lK]; exact hnn)]) (by rw [List.length_set, HS.out.inv.lK]; omega); rw [H10.out] at this; exact this
          have hcp8 : wc.cell? ⟨w4.heap.size + 1, 3, none⟩ = some (.int .u8 pk) := blk_cell HP8.out 3
          have hcq8 : wc.cell? ⟨wa.heap.size, 2, none⟩ = some (.int .u8 qk) := blk_cell HQ8.out 2
          have hpk3 : (pk == 3) = false := by simpa using HST.out.k3
          have HS8 : Hid (KS w wc bS bK vT' vM' vD' vO' vI' T' D' (K.set nn m')) := by
            have hb8 : ∀ k, k ≠ bK → k < w7.heap.size → wc.heap[k]? = w7.heap[k]? := fun k h1 h2 => HA8.out.o k h1 h2
            have keep : ∀ {e : TypeId} {k l : Nat} {v : Value} {xs : List Value}, e ≠ 74 → e ≠ 100 → w4.ownsRow (wa.alloc (.cells #[.int .u8 (cc : Int), .int .u32 qs, .int .u8 qk, .int .u64 (keyN nn), .int .u64 qv, .int .u64 qhi, .int .u8 qto] 25)).heap.size e k v l xs → wc.ownsRow 0 e k v l xs := by
              intro e k l v xs h1 h2 hown
              have ho6 := own_keepJ hown HB6.out
              refine own_base (base := (wa.alloc (.cells #[.int .u8 (cc : Int), .int .u32 qs, .int .u8 qk, .int .u64 (keyN nn), .int .u64 qv, .int .u64 qhi, .int .u8 qto] 25)).heap.size) ⟨ho6.1, ho6.2.imp id ?_⟩ (Nat.zero_le _)
              rintro ⟨gg, cap, cur, f1, f2, f3, f4⟩
              refine ⟨gg, cap, cur, f1, f2, ?_, f4⟩
              have g1 : gg ≠ bS := fun eq => by
                subst eq
                rw [blk_later HX6.out HN0.out] at f3
                simp at f3
                exact h1 f3.2.symm
              have g2 : gg ≠ bK := fun eq => by
                subst eq
                rw [blk_later HX6.out HK0.out] at f3
                simp at f3
                exact h2 f3.2.symm
              have g3 : gg < w6.heap.size := (Array.getElem?_eq_some_iff.1 f3).1
              exact (hb8 gg g2 (by rw [HOS.out.size]; exact g3)).trans ((HOS.out.block gg g1).trans f3)
            refine ⟨HN8.out, ⟨keep (by decide) (by decide) HO4.out.oT, keep (by decide) (by decide) HO4.out.oM, keep (by decide) (by decide) HO4.out.oD, keep (by decide) (by decide) HO4.out.oO, keep (by decide) (by decide) HO4.out.oI⟩, HK8.out, HST.out.inv, ?_, HS.out.lS, HS.out.lK⟩
            have b6 : Below w.heap.size w w6 := HS.out.bel.trans ((later_trans HB0.out HX6.out).mono HS.out.bel.size)
            have b7 : Below w.heap.size w w7 := b6.trans (HOS.out.below HS.out.lS)
            exact b7.trans ⟨HA8.out.os, HA8.out.tape, HA8.out.output, HA8.out.size, fun k hk => HA8.out.o k (by have := HS.out.lK; omega) (Nat.lt_of_lt_of_le hk b7.size)⟩
          have hlT8 := HS.out.inv.lT
          clear HN7 HQ7 HP7 HK7 hcq7 hcp7 HKA HA8 hq3 hkf HN8 HK8 HQ8 HP8 HAB HOF
          have hhow := HST.out.how
          clear HST HO4 HB4 HN0 HK0 HX6 HB6 HP6 HN6 HOS HR HXW HOK HAW HS hx0 hx1 hx2 hx3 hx4 hx5 hx6 HO0 HB0 HBa HN5 HR5 HB5 HM h7' hgt hknn hi1 hi2 hlt4 hl7 h5 hbS hbK hcc e3 e4 e5 HI HL HWF
          have hA : (fr = false) ∨ (fr = true ∧ (qk == 2) = false) ∨ (fr = true ∧ (qk == 2) = true ∧ m.found = true ∧ (pk == 5) = false) ∨ (fr = true ∧ (qk == 2) = true ∧ m.found = false ∧ (pk == 5) = decide ((8 : Int) ≤ (T.length : Int))) := by
            rcases hhow with ⟨rfl, h1, h2⟩ | ⟨rfl, rfl, h1, h2⟩ | ⟨rfl, rfl, rfl, h5, h1, h2⟩ | ⟨rfl, rfl, rfl, h5, h1, h6, h2⟩ | ⟨rfl, rfl, rfl, h5, h1, h6, h2⟩ | ⟨rfl, rfl, h5, h1, h6, h2⟩ | ⟨rfl, rfl, h5, h1, h2⟩ | ⟨rfl, rfl, rfl, h1, h2⟩
            · exact .inl rfl
            · exact .inr (.inl ⟨rfl, rfl⟩)
            · exact .inr (.inr (.inl ⟨rfl, rfl, h5, rfl⟩))
            · exact .inr (.inr (.inr ⟨rfl, rfl, h5, by simp; omega⟩))
            · exact .inr (.inr (.inr ⟨rfl, rfl, h5, by simp; omega⟩))
            · exact .inr (.inl ⟨rfl, rfl⟩)
            · exact .inr (.inl ⟨rfl, rfl⟩)
            · exact .inr (.inl ⟨rfl, rfl⟩)
          have hC : (fr = false) ∨ (fr = true ∧ (qk == 4) = false) ∨ (fr = true ∧ (qk == 4) = true ∧ pk = 5) := by
            rcases hhow with ⟨rfl, h1, h2⟩ | ⟨rfl, rfl, h1, h2⟩ | ⟨rfl, rfl, rfl, h5, h1, h2⟩ | ⟨rfl, rfl, rfl, h5, h1, h6, h2⟩ | ⟨rfl, rfl, rfl, h5, h1, h6, h2⟩ | ⟨rfl, rfl, h5, h1, h6, h2⟩ | ⟨rfl, rfl, h5, h1, h2⟩ | ⟨rfl, rfl, rfl, h1, h2⟩
            · exact .inl rfl
            · exact .inr (.inl ⟨rfl, rfl⟩)
            · exact .inr (.inl ⟨rfl, rfl⟩)
            · exact .inr (.inl ⟨rfl, rfl⟩)
            · exact .inr (.inl ⟨rfl, rfl⟩)
            · exact .inr (.inl ⟨rfl, rfl⟩)
            · exact .inr (.inl ⟨rfl, rfl⟩)
            · exact .inr (.inr ⟨rfl, rfl, rfl⟩)
          have hD : (m'.found = m.found ∧ T'.length = T.length) ∨ (m.found = false ∧ m'.found = true ∧ T'.length = T.length + 1) ∨ (m.found = true ∧ m'.found = false ∧ 1 ≤ T.length ∧ T'.length = T.length - 1) := by
            rcases hhow with ⟨rfl, h1, h2⟩ | ⟨rfl, rfl, h1, h2⟩ | ⟨rfl, rfl, rfl, h5, h1, h2⟩ | ⟨rfl, rfl, rfl, h5, h1, h6, h2⟩ | ⟨rfl, rfl, rfl, h5, h1, h6, h2⟩ | ⟨rfl, rfl, h5, h1, h6, h2⟩ | ⟨rfl, rfl, h5, h1, h2⟩ | ⟨rfl, rfl, rfl, h1, h2⟩
            · exact .inl ⟨h1, h2⟩
            · exact .inl ⟨h1, h2⟩
            · exact .inl ⟨h1.trans h5.symm, h2⟩
            · exact .inr (.inl ⟨h5, h1, h2⟩)
            · exact .inl ⟨h1.trans h5.symm, h2⟩
            · exact .inr (.inr ⟨h5, h1, h6, h2⟩)
            · exact .inl ⟨h1.trans h5.symm, h2⟩
            · exact .inl ⟨h1, h2⟩
          clear hhow
          have HA' := hideJ hA
          have HC' := hideJ hC
          have HD' := hideJ hD
          clear hA hC hD
          obtain ⟨wf, hwf'⟩ : ∃ wf, wf = m.found := ⟨_, rfl⟩
          obtain ⟨wg, hwg⟩ : ∃ wg, wg = m'.found := ⟨_, rfl⟩
          rw [← hwg] at hkf8 HD'
          rw [← hwf'] at HA' HD'
          rw [← hwf']
          clear hwg hwf'
          obtain ⟨w8, hw8⟩ : ∃ w8, w8 = wc := ⟨_, rfl⟩
          subst hw8
          go_upto_region 17 with fail
          go_cut [15] from 60 to 123 (fun s15 wx => wx = w8 ∧ ∃ fb, s15 = .bool fb ∧ Hid (fb = ((pk == 5) && (qk == 2))))
          case first =>
            cases hp5 : (pk == 5)
            all_goals (go_wp2_with fail; go_meet; exact ⟨rfl, _, rfl, by show _ = _; rw [hp5]; rfl⟩)
          case rest =>
            obtain ⟨hwx, fb, rfl, HFB⟩ := hcut
            obtain rfl : w8 = wc := hwx.symm
            go_upto_region 18 with fail
            go_cut [92] from 68 to 123 (fun s92 wx => wx = w8 ∧ s92 = .bool false)
            case first =>
              rcases HA'.out with h1 | ⟨h1, h2⟩ | ⟨h1, h2, h3, h4⟩ | ⟨h1, h2, h3, h4⟩
              · subst h1
                go_wp2_with fail
                go_meet
                exact ⟨rfl, rfl⟩
              · have hfb := HFB.out
                rw [h2, Bool.and_false] at hfb
                clear HFB
                subst h1 hfb
                go_wp2_with fail
                go_meet
                exact ⟨rfl, rfl⟩
              · have hfb := HFB.out
                rw [h4, Bool.false_and] at hfb
                clear HFB h4
                subst h1 h3 hfb
                go_wp2_with fail
                go_meet
                exact ⟨rfl, rfl⟩
              · have hfb := HFB.out
                rw [h4, h2, Bool.and_true] at hfb
                clear HFB h4
                subst h1 h3 hfb
                go_wp2_with fail
                go_meet
                exact ⟨rfl, by first | rfl | simp⟩
            case rest =>
              obtain ⟨hwx, rfl⟩ := hcut
              obtain rfl : w8 = wc := hwx.symm
              clear HA' HFB
              go_upto_region 20 with fail
              go_cut [103] from 93 to 123 (fun s103 wx => wx = w8 ∧ s103 = .bool false)
              case first =>
                rcases HC'.out with h1 | ⟨h1, h2⟩ | ⟨h1, h2, h3⟩
                · subst h1
                  go_wp2_with fail
                  go_meet
                  exact ⟨rfl, rfl⟩
                · subst h1
                  go_wp2_with fail
                  go_meet
                  exact ⟨rfl, by first | rfl | simp⟩
                · subst h1 h3
                  go_wp2_with fail
                  go_meet
                  exact ⟨rfl, by first | rfl | simp⟩
              case rest =>
                obtain ⟨hwx, rfl⟩ := hcut
                obtain rfl : w8 = wc := hwx.symm
                clear HC'
                rcases HD'.out with ⟨h1, h2⟩ | ⟨h0, h1, h2⟩ | ⟨h0, h1, h3, h2⟩
                · subst h1
                  cases wg
                  all_goals (
                    go_wp2_with fail
                    go_roundw
                    case rel => exact ⟨i + 1, by omega, by go_num, vT', vM', vD', vO', vI', T', D', K.set nn m', by first | (rw [h2]; done) | (rw [h2]; go_num), HS8⟩
                    case measure => simp [intOf]; omega)
                · subst h0 h1
                  go_wp2_with fail
                  go_roundw
                  case rel => exact ⟨i + 1, by omega, by go_num, vT', vM', vD', vO', vI', T', D', K.set nn m', by first | (rw [h2]; go_num) | (rw [h2]; simp), HS8⟩
                  case measure => simp [intOf]; omega
                · subst h0 h1
                  go_wp2_with fail
                  go_roundw
                  case rel => exact ⟨i + 1, by omega, by go_num, vT', vM', vD', vO', vI', T', D', K.set nn m', by first | (rw [h2]; go_num) | (rw [h2]; simp; omega) | (rw [h2, Int.natCast_sub h3]; rfl), HS8⟩
                  case measure => simp [intOf]; omega
      · have hgt : decide (10 < keyN nn) = false := by simp; unfold keyN; rw [if_neg h10]; omega
        have hcv : wrap64 (keyN nn) = (nn : Int) := by unfold keyN wrap64; rw [if_neg h10]; omega
        have hcv2 : IntKind.i64.wrap (keyN nn) = (nn : Int) := by rw [IntKind.wrap_i64]; unfold keyN; rw [if_neg h10]; omega
        go_upto_region 16 with (first
          | (go_at_call 26; go_must (refine (right_raw xc xs xk xkey xv xhi xto cc qs qk (keyN nn) qv qhi qto _ HXW.out HR.out).mono ?_; rintro e wa ⟨rfl, hba⟩; have HBa : Hid (Below wr.heap.size wr wa) := hideJ hba; have HB0 : Hid (Below wr.heap.size wr (wa.alloc (.cells #[.int .u8 (cc : Int), .int .u32 qs, .int .u8 qk, .int .u64 (keyN nn), .int .u64 qv, .int .u64 qhi, .int .u8 qto] 25))) := hideJ (later_trans hba (later_alloc wa _)); have HO0 : Hid (One (wa.alloc (.cells #[.int .u8 (cc : Int), .int .u32 qs, .int .u8 qk, .int .u64 (keyN nn), .int .u64 qv, .int .u64 qhi, .int .u8 qto] 25)) 0 vT vM vD vO vI T D) := hideJ ⟨own_keepJ HS.out.one.oT HB0.out, own_keepJ HS.out.one.oM HB0.out, own_keepJ HS.out.one.oD HB0.out, own_keepJ HS.out.one.oO HB0.out, own_keepJ HS.out.one.oI HB0.out⟩; have HN0 : Hid ((wa.alloc (.cells #[.int .u8 (cc : Int), .int .u32 qs, .int .u8 qk, .int .u64 (keyN nn), .int .u64 qv, .int .u64 qhi, .int .u8 qto] 25)).heap[bS]? = some (.cells #[.int .u8 0, .int .u8 1, vT, vM, vD, vO, vI] 74)) := hideJ (blk_later HB0.out HS.out.cell); have HK0 : Hid ((wa.alloc (.cells #[.int .u8 (cc : Int), .int .u32 qs, .int .u8 qk, .int .u64 (keyN nn), .int .u64 qv, .int .u64 qhi, .int .u8 qto] 25)).heap[bK]? = some (.cells ((K.map Mem.cells).flatten).toArray 100)) := hideJ (blk_later HB0.out HS.out.keys); clear hba))
          | (with_reducible show wpList _ _ _ ({ dst := some 34, op := Op.load 74 _, type := _, pos := _, after := _, guard := none } :: _) _ _; go_must (refine wpList_load_blk rfl _ _ rfl bS 0 rfl 7 _ Try.underlying74 rfl (by kernel_rfl) [.int .u8 0, .int .u8 1, vT, vM, vD, vO, vI] 74 HN0.out rfl [.int .u8 0, .int .u8 1, vT, vM, vD, vO, vI] rfl ?_))
          | (with_reducible show wpList _ _ _ ({ dst := some 35, op := Op.load 25 _, type := _, pos := _, after := _, guard := none } :: _) _ _; go_must (refine wpList_load_blk rfl _ _ rfl wa.heap.size 0 rfl 7 _ Try.underlying25 rfl (by kernel_rfl) [.int .u8 (cc : Int), .int .u32 qs, .int .u8 qk, .int .u64 (keyN nn), .int .u64 qv, .int .u64 qhi, .int .u8 qto] 25 (heap_alloc_new wa _) rfl [.int .u8 (cc : Int), .int .u32 qs, .int .u8 qk, .int .u64 (keyN nn), .int .u64 qv, .int .u64 qhi, .int .u8 qto] rfl ?_))
          | (go_at_call 30; go_must (refine (apply_one _ vT vM vD vO vI T D cc qs qk (keyN nn) qv qhi qto HO0.out hknn HOK.out HS.out.inv.sT HS.out.inv.sD (by have := HS.out.inv.lT; omega) (by have := HS.out.inv.lD; omega) e4 e5).mono ?_; rintro e w4 ⟨vT', vM', vD', vO', vI', pc, ps, pkey, pk, pf, pv, pg, T', D', rfl, haw, hone, hb4⟩; have HAW : Hid (AskOut T D ⟨cc, qs, qk, keyN nn, qv, qhi, qto⟩ T' D' ⟨pc, ps, pkey, pk, pf, pv, pg⟩) := hideJ haw; have HO4 : Hid (One w4 (wa.alloc (.cells #[.int .u8 (cc : Int), .int .u32 qs, .int .u8 qk, .int .u64 (keyN nn), .int .u64 qv, .int .u64 qhi, .int .u8 qto] 25)).heap.size vT' vM' vD' vO' vI' T' D') := hideJ hone; have HB4 : Hid (Below (wa.alloc (.cells #[.int .u8 (cc : Int), .int .u32 qs, .int .u8 qk, .int .u64 (keyN nn), .int .u64 qv, .int .u64 qhi, .int .u8 qto] 25)).heap.size (wa.alloc (.cells #[.int .u8 (cc : Int), .int .u32 qs, .int .u8 qk, .int .u64 (keyN nn), .int .u64 qv, .int .u64 qhi, .int .u8 qto] 25)) w4) := hideJ hb4; have h7' : [.int .u8 0, .int .u8 1, vT', vM', vD', vO', vI'].all (·.oneCell') = true := (by rw [List.all_eq_true]; intro u hu; simp only [List.mem_cons, List.not_mem_nil, or_false] at hu; rcases hu with rfl | rfl | rfl | rfl | rfl | rfl | rfl <;> first | rfl | exact own_oneJ hone.oT | exact own_oneJ hone.oM | exact own_oneJ hone.oD | exact own_oneJ hone.oO | exact own_oneJ hone.oI); clear haw hone hb4))
          | (with_reducible show wpList _ _ _ ({ dst := none, op := Op.store 74 (Operand.tmp 9) _, type := _, pos := _, after := _, guard := none } :: _) _ _; go_must (refine wpList_store_blk rfl _ _ _ rfl rfl w4.heap.size 0 rfl [.int .u8 0, .int .u8 1, vT', vM', vD', vO', vI'] rfl _ (by kernel_rfl) rfl h7' [.int .u8 0, .int .u8 0, .slice none 0 0, .slice none 0 0, .slice none 0 0, .slice none 0 0, .slice none 0 0] 74 (two w4 _ _).1 rfl [.int .u8 0, .int .u8 1, vT', vM', vD', vO', vI'] rfl ?_; intro w5 hw ho; have HN5 : Hid (w5.heap[w4.heap.size]? = some (.cells #[.int .u8 0, .int .u8 1, vT', vM', vD', vO', vI'] 74)) := hideJ hw; have HR5 : Hid (w5.heap[w4.heap.size + 1]? = some (.cells #[.int .u8 0, .int .u32 0, .int .u64 0, .int .u8 0, .bool false, .int .u64 0, .int .u8 0] 27)) := hideJ ((ho.block _ (by omega)).trans (two w4 _ _).2.1); have HB5 : Hid (Below w4.heap.size w4 w5) := hideJ ((two w4 _ _).2.2.1.trans (ho.below (Nat.le_refl _))); clear hw ho))
          | (with_reducible show wpList _ _ _ ({ dst := none, op := Op.store 27 (Operand.tmp 10) _, type := _, pos := _, after := _, guard := none } :: _) _ _; go_must (refine wpList_store_blk rfl _ _ _ rfl rfl (w4.heap.size + 1) 0 rfl [.int .u8 pc, .int .u32 ps, .int .u64 pkey, .int .u8 pk, .bool pf, .int .u64 pv, .int .u8 pg] rfl _ (by kernel_rfl) rfl rfl [.int .u8 0, .int .u32 0, .int .u64 0, .int .u8 0, .bool false, .int .u64 0, .int .u8 0] 27 HR5.out rfl [.int .u8 pc, .int .u32 ps, .int .u64 pkey, .int .u8 pk, .bool pf, .int .u64 pv, .int .u8 pg] rfl ?_; intro w6 hw ho; have HP6 : Hid (w6.heap[w4.heap.size + 1]? = some (.cells #[.int .u8 pc, .int .u32 ps, .int .u64 pkey, .int .u8 pk, .bool pf, .int .u64 pv, .int .u8 pg] 27)) := hideJ hw; have HN6 : Hid (w6.heap[w4.heap.size]? = some (.cells #[.int .u8 0, .int .u8 1, vT', vM', vD', vO', vI'] 74)) := hideJ ((ho.block _ (by omega)).trans HN5.out); have HB6 : Hid (Below w4.heap.size w4 w6) := hideJ (HB5.out.trans (ho.below (Nat.le_succ _))); clear hw ho; have HX6 : Hid (Below (wa.alloc (.cells #[.int .u8 (cc : Int), .int .u32 qs, .int .u8 qk, .int .u64 (keyN nn), .int .u64 qv, .int .u64 qhi, .int .u8 qto] 25)).heap.size (wa.alloc (.cells #[.int .u8 (cc : Int), .int .u32 qs, .int .u8 qk, .int .u64 (keyN nn), .int .u64 qv, .int .u64 qhi, .int .u8 qto] 25)) w6) := hideJ (later_trans HB4.out HB6.out); have hlt4 : wa.heap.size + 1 ≤ w4.heap.size := (by have := HB4.out.size; simp at this; omega)))
          | (with_reducible show wpList _ _ _ ({ dst := some 40, op := Op.load 74 _, type := _, pos := _, after := _, guard := none } :: _) _ _; go_must (refine wpList_load_blk rfl _ _ rfl w4.heap.size 0 rfl 7 _ Try.underlying74 rfl (by kernel_rfl) [.int .u8 0, .int .u8 1, vT', vM', vD', vO', vI'] 74 HN6.out rfl [.int .u8 0, .int .u8 1, vT', vM', vD', vO', vI'] rfl ?_))
          | (with_reducible show wpList _ _ _ ({ dst := none, op := Op.store 74 (Operand.tmp 3) _, type := _, pos := _, after := _, guard := none } :: _) _ _; go_must (refine wpList_store_blk rfl _ _ _ rfl rfl bS 0 rfl [.int .u8 0, .int .u8 1, vT', vM', vD', vO', vI'] rfl _ (by kernel_rfl) rfl h7' [.int .u8 0, .int .u8 1, vT, vM, vD, vO, vI] 74 (blk_later HX6.out HN0.out) rfl [.int .u8 0, .int .u8 1, vT', vM', vD', vO', vI'] rfl ?_; intro w7 hw ho; have HN7 : Hid (w7.heap[bS]? = some (.cells #[.int .u8 0, .int .u8 1, vT', vM', vD', vO', vI'] 74)) := hideJ hw; have HOS : Hid (Only bS w6 w7) := hideJ ho; clear hw ho; have hbS : bS < wa.heap.size := Nat.lt_of_lt_of_le (Array.getElem?_eq_some_iff.1 HS.out.cell).1 HBa.out.size; have hbK : bK < wa.heap.size := Nat.lt_of_lt_of_le (Array.getElem?_eq_some_iff.1 HS.out.keys).1 HBa.out.size; have HQ7 : Hid (w7.heap[wa.heap.size]? = some (.cells #[.int .u8 (cc : Int), .int .u32 qs, .int .u8 qk, .int .u64 (keyN nn), .int .u64 qv, .int .u64 qhi, .int .u8 qto] 25)) := hideJ ((HOS.out.block _ (by omega)).trans (blk_later HX6.out (heap_alloc_new wa _))); have HP7 : Hid (w7.heap[w4.heap.size + 1]? = some (.cells #[.int .u8 pc, .int .u32 ps, .int .u64 pkey, .int .u8 pk, .bool pf, .int .u64 pv, .int .u8 pg] 27)) := hideJ ((HOS.out.block _ (by omega)).trans HP6.out); have HK7 : Hid (w7.heap[bK]? = some (.cells ((K.map Mem.cells).flatten).toArray 100)) := hideJ ((HOS.out.block _ (Ne.symm hSK)).trans (blk_later HX6.out HK0.out)); have hq3 : w7.cell? ⟨wa.heap.size, 3, none⟩ = some (.int .u64 (keyN nn)) := (by with_unfolding_all exact blk_cell HQ7.out 3); have hkf : w7.cell? ⟨bK, nn * 34, none⟩ = some (.bool m.found) := key_found HK7.out HM.out (Nat.le_of_lt (by rw [HS.out.inv.lK]; exact hnn)))))
        have hi1 : (0 : Int) ≤ (nn : Int) := by omega
        have hi2 : (nn : Int) < 11 := by omega
        have hcq7 := blk_cell HQ7.out
        have hcp7 := blk_cell HP7.out
        obtain ⟨A, hA⟩ : ∃ A, A = ((K.take nn).map Mem.cells).flatten := ⟨_, rfl⟩
        obtain ⟨B, hB⟩ : ∃ B, B = ((K.drop (nn + 1)).map Mem.cells).flatten := ⟨_, rfl⟩
        have HAB : Hid (A = ((K.take nn).map Mem.cells).flatten ∧ B = ((K.drop (nn + 1)).map Mem.cells).flatten) := (⟨hA, hB⟩ : _ ∧ _)
        have HKA : Hid (w7.drew.heap[bK]? = some (.cells (A ++ (m.cells ++ B)).toArray 100)) := by
          show _ = _
          rw [hA, hB, ← keys_split HM.out]; exact HK7.out
        have HOF : Hid (nn * 34 = A.length) := by
          show _ = _
          rw [hA, keys_len (by rw [HS.out.inv.lK]; omega)]
        clear hA hB
        go_cut [13, 14] from 51 to 123 (fun s13 s14 wx => ∃ fr m', s13 = .bool true ∧ s14 = .bool fr ∧ Hid (AW w7.drew wx bK A B m' 100) ∧ Hid (KStep T K nn m qk pk fr T' D' m'))
        case first =>
          go_region_with (go_at_call 31; refine (ans_off w7.drew bK (nn * 34) A B 100 T D K nn cc m qs qk qv qhi qto T' D' pc ps pkey pk pf pv pg HS.out.inv hnn HM.out hcc HKA.out e3 e4 HAW.out HOF.out).mono ?_; rintro e w8 ⟨fr, m', rfl, ha8, hst⟩; have HA8 : Hid (AW w7.drew w8 bK A B m' 100) := hideJ ha8; have HST : Hid (KStep T K nn m qk pk fr T' D' m') := hideJ hst; clear ha8 hst)
          all_goals (go_wp2_with fail; go_meet; exact ⟨fr, m', rfl, rfl, HA8, HST⟩)
        case rest =>
          obtain ⟨fr, m', rfl, rfl, HA8, HST⟩ := hcut
          have h5 : bS < w7.heap.size := (Array.getElem?_eq_some_iff.1 HN7.out).1
          have hl7 : w4.heap.size + 1 < w7.heap.size := (Array.getElem?_eq_some_iff.1 HP7.out).1
          have HQ8 : Hid (wc.heap[wa.heap.size]? = some (.cells #[.int .u8 (cc : Int), .int .u32 qs, .int .u8 qk, .int .u64 (keyN nn), .int .u64 qv, .int .u64 qhi, .int .u8 qto] 25)) := (HA8.out.o _ (by omega) (by show wa.heap.size < w7.heap.size; omega)).trans HQ7.out
          have HP8 : Hid (wc.heap[w4.heap.size + 1]? = some (.cells #[.int .u8 pc, .int .u32 ps, .int .u64 pkey, .int .u8 pk, .bool pf, .int .u64 pv, .int .u8 pg] 27)) := (HA8.out.o _ (by omega) (by show w4.heap.size + 1 < w7.heap.size; omega)).trans HP7.out
          have HN8 : Hid (wc.heap[bS]? = some (.cells #[.int .u8 0, .int .u8 1, vT', vM', vD', vO', vI'] 74)) := (HA8.out.o _ hSK h5).trans HN7.out
          have HK8 : Hid (wc.heap[bK]? = some (.cells (((K.set nn m').map Mem.cells).flatten).toArray 100)) := by
            show _ = _
            rw [keys_set (by rw [HS.out.inv.lK]; exact hnn), ← HAB.out.1, ← HAB.out.2]; exact HA8.out.k
          have hkf8 : wc.cell? ⟨bK, nn * 34, none⟩ = some (.bool m'.found) := key_found HK8.out (n := nn) (by rw [List.getElem?_set_self (by rw [HS.out.inv.lK]; exact hnn)]) (by rw [List.length_set, HS.out.inv.lK]; omega)
          have hcp8 : wc.cell? ⟨w4.heap.size + 1, 3, none⟩ = some (.int .u8 pk) := blk_cell HP8.out 3
          have hcq8 : wc.cell? ⟨wa.heap.size, 2, none⟩ = some (.int .u8 qk) := blk_cell HQ8.out 2
          have hpk3 : (pk == 3) = false := by simpa using HST.out.k3
          have HS8 : Hid (KS w wc bS bK vT' vM' vD' vO' vI' T' D' (K.set nn m')) := by
            have hb8 : ∀ k, k ≠ bK → k < w7.heap.size → wc.heap[k]? = w7.heap[k]? := fun k h1 h2 => HA8.out.o k h1 h2
            have keep : ∀ {e : TypeId} {k l : Nat} {v : Value} {xs : List Value}, e ≠ 74 → e ≠ 100 → w4.ownsRow (wa.alloc (.cells #[.int .u8 (cc : Int), .int .u32 qs, .int .u8 qk, .int .u64 (keyN nn), .int .u64 qv, .int .u64 qhi, .int .u8 qto] 25)).heap.size e k v l xs → wc.ownsRow 0 e k v l xs := by
              intro e k l v xs h1 h2 hown
              have ho6 := own_keepJ hown HB6.out
              refine own_base (base := (wa.alloc (.cells #[.int .u8 (cc : Int), .int .u32 qs, .int .u8 qk, .int .u64 (keyN nn), .int .u64 qv, .int .u64 qhi, .int .u8 qto] 25)).heap.size) ⟨ho6.1, ho6.2.imp id ?_⟩ (Nat.zero_le _)
              rintro ⟨gg, cap, cur, f1, f2, f3, f4⟩
              refine ⟨gg, cap, cur, f1, f2, ?_, f4⟩
              have g1 : gg ≠ bS := fun eq => by
                subst eq
                rw [blk_later HX6.out HN0.out] at f3
                simp at f3
                exact h1 f3.2.symm
              have g2 : gg ≠ bK := fun eq => by
                subst eq
                rw [blk_later HX6.out HK0.out] at f3
                simp at f3
                exact h2 f3.2.symm
              have g3 : gg < w6.heap.size := (Array.getElem?_eq_some_iff.1 f3).1
              exact (hb8 gg g2 (by rw [HOS.out.size]; exact g3)).trans ((HOS.out.block gg g1).trans f3)
            refine ⟨HN8.out, ⟨keep (by decide) (by decide) HO4.out.oT, keep (by decide) (by decide) HO4.out.oM, keep (by decide) (by decide) HO4.out.oD, keep (by decide) (by decide) HO4.out.oO, keep (by decide) (by decide) HO4.out.oI⟩, HK8.out, HST.out.inv, ?_, HS.out.lS, HS.out.lK⟩
            have b6 : Below w.heap.size w w6 := HS.out.bel.trans ((later_trans HB0.out HX6.out).mono HS.out.bel.size)
            have b7 : Below w.heap.size w w7 := b6.trans (HOS.out.below HS.out.lS)
            exact b7.trans ⟨HA8.out.os, HA8.out.tape, HA8.out.output, HA8.out.size, fun k hk => HA8.out.o k (by have := HS.out.lK; omega) (Nat.lt_of_lt_of_le hk b7.size)⟩
          have hlT8 := HS.out.inv.lT
          clear HN7 HQ7 HP7 HK7 hcq7 hcp7 HKA HA8 hq3 hkf HN8 HK8 HQ8 HP8 HAB HOF
          have hhow := HST.out.how
          clear HST HO4 HB4 HN0 HK0 HX6 HB6 HP6 HN6 HOS HR HXW HOK HAW HS hx0 hx1 hx2 hx3 hx4 hx5 hx6 HO0 HB0 HBa HN5 HR5 HB5 HM h7' hgt hknn hi1 hi2 hlt4 hl7 h5 hbS hbK hcc e3 e4 e5 HI HL HWF
          have hA : (fr = false) ∨ (fr = true ∧ (qk == 2) = false) ∨ (fr = true ∧ (qk == 2) = true ∧ m.found = true ∧ (pk == 5) = false) ∨ (fr = true ∧ (qk == 2) = true ∧ m.found = false ∧ (pk == 5) = decide ((8 : Int) ≤ (T.length : Int))) := by
            rcases hhow with ⟨rfl, h1, h2⟩ | ⟨rfl, rfl, h1, h2⟩ | ⟨rfl, rfl, rfl, h5, h1, h2⟩ | ⟨rfl, rfl, rfl, h5, h1, h6, h2⟩ | ⟨rfl, rfl, rfl, h5, h1, h6, h2⟩ | ⟨rfl, rfl, h5, h1, h6, h2⟩ | ⟨rfl, rfl, h5, h1, h2⟩ | ⟨rfl, rfl, rfl, h1, h2⟩
            · exact .inl rfl
            · exact .inr (.inl ⟨rfl, rfl⟩)
            · exact .inr (.inr (.inl ⟨rfl, rfl, h5, rfl⟩))
            · exact .inr (.inr (.inr ⟨rfl, rfl, h5, by simp; omega⟩))
            · exact .inr (.inr (.inr ⟨rfl, rfl, h5, by simp; omega⟩))
            · exact .inr (.inl ⟨rfl, rfl⟩)
            · exact .inr (.inl ⟨rfl, rfl⟩)
            · exact .inr (.inl ⟨rfl, rfl⟩)
          have hC : (fr = false) ∨ (fr = true ∧ (qk == 4) = false) ∨ (fr = true ∧ (qk == 4) = true ∧ pk = 5) := by
            rcases hhow with ⟨rfl, h1, h2⟩ | ⟨rfl, rfl, h1, h2⟩ | ⟨rfl, rfl, rfl, h5, h1, h2⟩ | ⟨rfl, rfl, rfl, h5, h1, h6, h2⟩ | ⟨rfl, rfl, rfl, h5, h1, h6, h2⟩ | ⟨rfl, rfl, h5, h1, h6, h2⟩ | ⟨rfl, rfl, h5, h1, h2⟩ | ⟨rfl, rfl, rfl, h1, h2⟩
            · exact .inl rfl
            · exact .inr (.inl ⟨rfl, rfl⟩)
            · exact .inr (.inl ⟨rfl, rfl⟩)
            · exact .inr (.inl ⟨rfl, rfl⟩)
            · exact .inr (.inl ⟨rfl, rfl⟩)
            · exact .inr (.inl ⟨rfl, rfl⟩)
            · exact .inr (.inl ⟨rfl, rfl⟩)
            · exact .inr (.inr ⟨rfl, rfl, rfl⟩)
          have hD : (m'.found = m.found ∧ T'.length = T.length) ∨ (m.found = false ∧ m'.found = true ∧ T'.length = T.length + 1) ∨ (m.found = true ∧ m'.found = false ∧ 1 ≤ T.length ∧ T'.length = T.length - 1) := by
            rcases hhow with ⟨rfl, h1, h2⟩ | ⟨rfl, rfl, h1, h2⟩ | ⟨rfl, rfl, rfl, h5, h1, h2⟩ | ⟨rfl, rfl, rfl, h5, h1, h6, h2⟩ | ⟨rfl, rfl, rfl, h5, h1, h6, h2⟩ | ⟨rfl, rfl, h5, h1, h6, h2⟩ | ⟨rfl, rfl, h5, h1, h2⟩ | ⟨rfl, rfl, rfl, h1, h2⟩
            · exact .inl ⟨h1, h2⟩
            · exact .inl ⟨h1, h2⟩
            · exact .inl ⟨h1.trans h5.symm, h2⟩
            · exact .inr (.inl ⟨h5, h1, h2⟩)
            · exact .inl ⟨h1.trans h5.symm, h2⟩
            · exact .inr (.inr ⟨h5, h1, h6, h2⟩)
            · exact .inl ⟨h1.trans h5.symm, h2⟩
            · exact .inl ⟨h1, h2⟩
          clear hhow
          have HA' := hideJ hA
          have HC' := hideJ hC
          have HD' := hideJ hD
          clear hA hC hD
          obtain ⟨wf, hwf'⟩ : ∃ wf, wf = m.found := ⟨_, rfl⟩
          obtain ⟨wg, hwg⟩ : ∃ wg, wg = m'.found := ⟨_, rfl⟩
          rw [← hwg] at hkf8 HD'
          rw [← hwf'] at HA' HD'
          rw [← hwf']
          clear hwg hwf'
          obtain ⟨w8, hw8⟩ : ∃ w8, w8 = wc := ⟨_, rfl⟩
          subst hw8
          go_upto_region 17 with fail
          go_cut [15] from 60 to 123 (fun s15 wx => wx = w8 ∧ ∃ fb, s15 = .bool fb ∧ Hid (fb = ((pk == 5) && (qk == 2))))
          case first =>
            cases hp5 : (pk == 5)
            all_goals (go_wp2_with fail; go_meet; exact ⟨rfl, _, rfl, by show _ = _; rw [hp5]; rfl⟩)
          case rest =>
            obtain ⟨hwx, fb, rfl, HFB⟩ := hcut
            obtain rfl : w8 = wc := hwx.symm
            go_upto_region 18 with fail
            go_cut [92] from 68 to 123 (fun s92 wx => wx = w8 ∧ s92 = .bool false)
            case first =>
              rcases HA'.out with h1 | ⟨h1, h2⟩ | ⟨h1, h2, h3, h4⟩ | ⟨h1, h2, h3, h4⟩
              · subst h1
                go_wp2_with fail
                go_meet
                exact ⟨rfl, rfl⟩
              · have hfb := HFB.out
                rw [h2, Bool.and_false] at hfb
                clear HFB
                subst h1 hfb
                go_wp2_with fail
                go_meet
                exact ⟨rfl, rfl⟩
              · have hfb := HFB.out
                rw [h4, Bool.false_and] at hfb
                clear HFB h4
                subst h1 h3 hfb
                go_wp2_with fail
                go_meet
                exact ⟨rfl, rfl⟩
              · have hfb := HFB.out
                rw [h4, h2, Bool.and_true] at hfb
                clear HFB h4
                subst h1 h3 hfb
                go_wp2_with fail
                go_meet
                exact ⟨rfl, by first | rfl | simp⟩
            case rest =>
              obtain ⟨hwx, rfl⟩ := hcut
              obtain rfl : w8 = wc := hwx.symm
              clear HA' HFB
              go_upto_region 20 with fail
              go_cut [103] from 93 to 123 (fun s103 wx => wx = w8 ∧ s103 = .bool false)
              case first =>
                rcases HC'.out with h1 | ⟨h1, h2⟩ | ⟨h1, h2, h3⟩
                · subst h1
                  go_wp2_with fail
                  go_meet
                  exact ⟨rfl, rfl⟩
                · subst h1
                  go_wp2_with fail
                  go_meet
                  exact ⟨rfl, by first | rfl | simp⟩
                · subst h1 h3
                  go_wp2_with fail
                  go_meet
                  exact ⟨rfl, by first | rfl | simp⟩
              case rest =>
                obtain ⟨hwx, rfl⟩ := hcut
                obtain rfl : w8 = wc := hwx.symm
                clear HC'
                rcases HD'.out with ⟨h1, h2⟩ | ⟨h0, h1, h2⟩ | ⟨h0, h1, h3, h2⟩
                · subst h1
                  cases wg
                  all_goals (
                    go_wp2_with fail
                    go_roundw
                    case rel => exact ⟨i + 1, by omega, by go_num, vT', vM', vD', vO', vI', T', D', K.set nn m', by first | (rw [h2]; done) | (rw [h2]; go_num), HS8⟩
                    case measure => simp [intOf]; omega)
                · subst h0 h1
                  go_wp2_with fail
                  go_roundw
                  case rel => exact ⟨i + 1, by omega, by go_num, vT', vM', vD', vO', vI', T', D', K.set nn m', by first | (rw [h2]; go_num) | (rw [h2]; simp), HS8⟩
                  case measure => simp [intOf]; omega
                · subst h0 h1
                  go_wp2_with fail
                  go_roundw
                  case rel => exact ⟨i + 1, by omega, by go_num, vT', vM', vD', vO', vI', T', D', K.set nn m', by first | (rw [h2]; go_num) | (rw [h2]; simp; omega) | (rw [h2, Int.natCast_sub h3]; rfl), HS8⟩
                  case measure => simp [intOf]; omega
    · have hdk : decide ((i : Int) < (n : Int)) = false := by simp; omega
      obtain ⟨ta, tn, tc, rfl⟩ := own_shapeJ HS.out.one.oT
      obtain ⟨xa, xn, xc, rfl⟩ := own_shapeJ HS.out.one.oM
      obtain rfl := own_num HS.out.one.oT
      obtain rfl := own_num HS.out.one.oM
      have hc0 : wr.cell? ⟨bS, 0, none⟩ = some (.int .u8 0) := blk_cell HS.out.cell 0
      have hc2 : wr.cell? ⟨bS, 2, none⟩ = some (.slice ta T.length tc) := blk_cell HS.out.cell 2
      have hc3 : wr.cell? ⟨bS, 3, none⟩ = some (.slice xa 1 xc) := blk_cell HS.out.cell 3
      have HBL : Hid (Below w.heap.size w wr) := HS.out.bel
      clear HS
      go_wp2_with fail
      go_ret
      exact ⟨rfl, HBL.out⟩

end Go.Proofs.Ytignemioillaiaa
