/- shard.Apply of a client's right request, for a group alone. -/
import Derived.Test.YtignemioillaiaaJ20
namespace Go.Proofs.Ytignemioillaiaa
open Go.RowKit Go.Lib

theorem four (w : World) (a b c d : Obj) : ((((w.alloc a).alloc b).alloc c).alloc d).heap[w.heap.size]? = some a ∧ ((((w.alloc a).alloc b).alloc c).alloc d).heap[w.heap.size + 1]? = some b ∧ ((((w.alloc a).alloc b).alloc c).alloc d).heap[w.heap.size + 1 + 1]? = some c ∧ ((((w.alloc a).alloc b).alloc c).alloc d).heap[w.heap.size + 1 + 1 + 1]? = some d ∧ Below w.heap.size w ((((w.alloc a).alloc b).alloc c).alloc d) ∧ ((((w.alloc a).alloc b).alloc c).alloc d).heap.size = w.heap.size + 4 := by
  obtain ⟨h1, h2, h3, h4, h5⟩ := three w a b c
  refine ⟨?_, ?_, ?_, ?_, later_trans h4 (later_alloc _ _), by simp⟩
  · rw [heap_alloc_old _ _ (by omega)]; exact h1
  · rw [heap_alloc_old _ _ (by omega)]; exact h2
  · rw [heap_alloc_old _ _ (by omega)]; exact h3
  · have := heap_alloc_new (((w.alloc a).alloc b).alloc c) d
    rw [h5] at this
    exact this

theorem results_two {P : Program} {fn : Func} {p u : Tmp} {ty ty' : TypeId} (h : fn.results = #[.cell p ty, .cell u ty']) (tmps : Array Value) (w : World) (g g' : Nat) (t t' : TypeId) (cs cs' : Array Value) (fr fr' : Nat × Nat) (d d' : TypeDesc)
    (hp : tmps.getD p undef = .pointer (some ⟨g, 0, none⟩)) (hg : w.heap[g]? = some (.cells cs t fr)) (hp2 : tmps.getD u undef = .pointer (some ⟨g', 0, none⟩)) (hg2 : w.heap[g']? = some (.cells cs' t' fr'))
    (hu : P.underlying ty = some d) (hd : (match d with | .struct _ | .array _ _ => true | _ => false) = true) (hi : (P.info? ty).map (·.size) = some cs.size)
    (hu2 : P.underlying ty' = some d') (hd2 : (match d' with | .struct _ | .array _ _ => true | _ => false) = true) (hi2 : (P.info? ty').map (·.size) = some cs'.size) :
    (results fn tmps).run P w = .ok (.tuple #[.agg cs, .agg cs']) w := by
  have hp' : tmps[p]?.getD undef = .pointer (some ⟨g, 0, none⟩) := by simpa using hp
  have hp2' : tmps[u]?.getD undef = .pointer (some ⟨g', 0, none⟩) := by simpa using hp2
  simp [results, h, hp', hp2', asAddr, run_loadVar_row w g t ty cs fr d hg hu hd hi, run_loadVar_row w g' t' ty' cs' fr' d' hg2 hu2 hd2 hi2]

set_option maxHeartbeats 2000000 in
set_option maxRecDepth 100000 in
theorem apply_one (w : World) (vT vM vD vO vI : Value) (T : List Row) (D : List Rep) (qc qs qk qkey qv qhi qto : Int) (h : One w 0 vT vM vD vO vI T D) (hk0 : 0 ≤ qkey) (hok : (Req.mk qc qs qk qkey qv qhi qto).ok = true) (hsT : SortT T) (hsD : SortD D) (hnT : T.length < 1000000) (hnD : D.length < 1000000)
    (hkind : qk = 1 ∨ qk = 2 ∨ qk = 3 ∨ qk = 4) (hto0 : 0 ≤ qto) :
    Calls Try.prog 30 #[.agg #[.int .u8 0, .int .u8 1, vT, vM, vD, vO, vI], .agg #[.int .u8 1, .int .u8 qc, .int .u32 qs, .int .u8 qk, .int .u64 qkey, .int .u64 qv, .int .u64 qhi, .int .u8 qto, .int .u8 0, .int .u8 0, .int .u32 0, .int .u64 0, .int .u64 0, .slice none 0 0, .slice none 0 0, .int .u8 0, .int .u32 0]] w fun e w' => ∃ vT' vM' vD' vO' vI' pc ps pkey pk pf pv pg T' D', e = .returned (.tuple #[.agg #[.int .u8 0, .int .u8 1, vT', vM', vD', vO', vI'], .agg #[.int .u8 pc, .int .u32 ps, .int .u64 pkey, .int .u8 pk, .bool pf, .int .u64 pv, .int .u8 pg]]) ∧ AskOut T D (Req.mk qc qs qk qkey qv qhi qto) T' D' (Rep.mk pc ps pkey pk pf pv pg) ∧ One w' w.heap.size vT' vM' vD' vO' vI' T' D' ∧ Below w.heap.size w w' := by
  obtain ⟨mx, hmx⟩ : ∃ mx, qkey < qhi ∧ mx = qhi ∨ qhi ≤ qkey ∧ mx = qkey := by
    rcases Int.lt_or_le qkey qhi with h | h
    · exact ⟨qhi, .inl ⟨h, rfl⟩⟩
    · exact ⟨qkey, .inr ⟨h, rfl⟩⟩
  have hst := oneMap_str qkey mx hk0
  obtain ⟨W, hW⟩ : ∃ W, W = (((w.alloc (.cells #[.int .u8 0, .int .u8 1, vT, vM, vD, vO, vI] 74)).alloc (.cells #[.int .u8 1, .int .u8 qc, .int .u32 qs, .int .u8 qk, .int .u64 qkey, .int .u64 qv, .int .u64 qhi, .int .u8 qto, .int .u8 0, .int .u8 0, .int .u32 0, .int .u64 0, .int .u64 0, .slice none 0 0, .slice none 0 0, .int .u8 0, .int .u32 0] 35)).alloc (.cells #[.int .u8 0, .int .u8 0, .slice none 0 0, .slice none 0 0, .slice none 0 0, .slice none 0 0, .slice none 0 0] 74)).alloc (.cells #[.int .u8 0, .int .u32 0, .int .u64 0, .int .u8 0, .bool false, .int .u64 0, .int .u8 0] 27) := ⟨_, rfl⟩
  obtain ⟨hS, hC, hZ, hY, hWl, hWs⟩ := four w (.cells #[.int .u8 0, .int .u8 1, vT, vM, vD, vO, vI] 74) (.cells #[.int .u8 1, .int .u8 qc, .int .u32 qs, .int .u8 qk, .int .u64 qkey, .int .u64 qv, .int .u64 qhi, .int .u8 qto, .int .u8 0, .int .u8 0, .int .u32 0, .int .u64 0, .int .u64 0, .slice none 0 0, .slice none 0 0, .int .u8 0, .int .u32 0] 35) (.cells #[.int .u8 0, .int .u8 0, .slice none 0 0, .slice none 0 0, .slice none 0 0, .slice none 0 0, .slice none 0 0] 74) (.cells #[.int .u8 0, .int .u32 0, .int .u64 0, .int .u8 0, .bool false, .int .u64 0, .int .u8 0] 27)
  rw [← hW] at hS hC hZ hY hWl hWs
  have HO : Hid (One w 0 vT vM vD vO vI T D) := h
  have HST : Hid (SortT T) := hsT
  have HSD : Hid (SortD D) := hsD
  have HWL : Hid (Below w.heap.size w W) := hWl
  have HWS : Hid (W.heap.size = w.heap.size + 4) := hWs
  have HS : Hid (W.heap[w.heap.size]? = some (.cells #[.int .u8 0, .int .u8 1, vT, vM, vD, vO, vI] 74)) := hS
  have HC : Hid (W.heap[w.heap.size + 1]? = some (.cells #[.int .u8 1, .int .u8 qc, .int .u32 qs, .int .u8 qk, .int .u64 qkey, .int .u64 qv, .int .u64 qhi, .int .u8 qto, .int .u8 0, .int .u8 0, .int .u32 0, .int .u64 0, .int .u64 0, .slice none 0 0, .slice none 0 0, .int .u8 0, .int .u32 0] 35)) := hC
  have HZ : Hid (W.heap[w.heap.size + 1 + 1]? = some (.cells #[.int .u8 0, .int .u8 0, .slice none 0 0, .slice none 0 0, .slice none 0 0, .slice none 0 0, .slice none 0 0] 74)) := hZ
  have HY : Hid (W.heap[w.heap.size + 1 + 1 + 1]? = some (.cells #[.int .u8 0, .int .u32 0, .int .u64 0, .int .u8 0, .bool false, .int .u64 0, .int .u8 0] 27)) := hY
  have HOW : Hid (One W 0 vT vM vD vO vI T D) := ⟨own_keepJ h.oT hWl, own_keepJ h.oM hWl, own_keepJ h.oD hWl, own_keepJ h.oO hWl, own_keepJ h.oI hWl⟩
  clear h hsT hsD hWl hWs hS hC hZ hY
  go_enter Try.func30, Try.ntmps30
  go_upto_region 1 with fail
  rw [← hW]
  clear hW
  go_upto_region 12 with (first
    | (with_reducible show wpList _ _ _ ({ dst := some 8, op := Op.load 74 _, type := _, pos := _, after := _, guard := none } :: _) _ _; go_must (refine wpList_load_blk rfl _ _ rfl w.heap.size 0 rfl 7 _ Try.underlying74 rfl (by kernel_rfl) [.int .u8 0, .int .u8 1, vT, vM, vD, vO, vI] 74 HS.out rfl [.int .u8 0, .int .u8 1, vT, vM, vD, vO, vI] rfl ?_))
    | (go_at_call 64; go_must (refine (fresh_one _ 0 1 vT vM vD vO vI T D HOW.out hnT hnD).mono ?_; rintro e w1 ⟨wT, wM, wD, wO, wI, rfl, hone, hb1⟩; obtain ⟨ma, mn, mc, rfl⟩ := own_shapeJ hone.oM; have HO1 : Hid (One w1 W.heap.size wT (.slice ma mn mc) wD wO wI T D) := hideJ hone; have HB1 : Hid (Below W.heap.size W w1) := hideJ hb1; have h7 : [.int .u8 0, .int .u8 1, wT, .slice ma mn mc, wD, wO, wI].all (·.oneCell') = true := (by rw [List.all_eq_true]; intro u hu; simp only [List.mem_cons, List.not_mem_nil, or_false] at hu; rcases hu with rfl | rfl | rfl | rfl | rfl | rfl | rfl <;> first | rfl | exact own_oneJ hone.oT | exact own_oneJ hone.oM | exact own_oneJ hone.oD | exact own_oneJ hone.oO | exact own_oneJ hone.oI); clear hone hb1))
    | (with_reducible show wpList _ _ _ ({ dst := none, op := Op.store 74 (Operand.tmp 6) _, type := _, pos := _, after := _, guard := none } :: _) _ _; go_must (refine wpList_store_blk rfl _ _ _ rfl rfl w1.heap.size 0 rfl [.int .u8 0, .int .u8 1, wT, .slice ma mn mc, wD, wO, wI] rfl _ (by kernel_rfl) rfl h7 [.int .u8 0, .int .u8 0, .slice none 0 0, .slice none 0 0, .slice none 0 0, .slice none 0 0, .slice none 0 0] 74 (heap_alloc_new w1 _) rfl [.int .u8 0, .int .u8 1, wT, .slice ma mn mc, wD, wO, wI] rfl ?_; intro w2 hw ho; have HN2 : Hid (w2.heap[w1.heap.size]? = some (.cells #[.int .u8 0, .int .u8 1, wT, .slice ma mn mc, wD, wO, wI] 74)) := hideJ hw; have HB2 : Hid (Below w1.heap.size w1 w2) := hideJ ((later_alloc w1 _).trans (ho.below (Nat.le_refl _))); have hs2 : w2.heap.size = w1.heap.size + 1 := (by rw [ho.size]; simp); clear hw ho; have HO2 : Hid (One (w2.alloc (.cells #[.int .u8 0, .int .u32 0, .int .u64 0, .int .u8 0, .bool false, .int .u64 0, .int .u8 0] 27)) W.heap.size wT (.slice ma mn mc) wD wO wI T D) := hideJ ⟨own_keepJ (own_keepJ HO1.out.oT HB2.out) (later_alloc _ _), own_keepJ (own_keepJ HO1.out.oM HB2.out) (later_alloc _ _), own_keepJ (own_keepJ HO1.out.oD HB2.out) (later_alloc _ _), own_keepJ (own_keepJ HO1.out.oO HB2.out) (later_alloc _ _), own_keepJ (own_keepJ HO1.out.oI HB2.out) (later_alloc _ _)⟩))
    | (with_reducible show wpList _ _ _ ({ dst := some 10, op := Op.load 74 _, type := _, pos := _, after := _, guard := none } :: _) _ _; go_must (refine wpList_load_blk rfl _ _ rfl w1.heap.size 0 rfl 7 _ Try.underlying74 rfl (by kernel_rfl) [.int .u8 0, .int .u8 1, wT, .slice ma mn mc, wD, wO, wI] 74 (blk_later (later_alloc w2 _) HN2.out) rfl [.int .u8 0, .int .u8 1, wT, .slice ma mn mc, wD, wO, wI] rfl ?_))
    | (go_at_call 65; go_must (refine (sound_one _ W.heap.size wT (.slice ma mn mc) wD wO wI T D HO2.out).mono ?_; rintro e w3 ⟨rfl, hb3⟩; have HB3 : Hid (Below w2.heap.size w2 w3) := hideJ (later_trans (later_alloc w2 _) hb3); have HR3 : Hid (w3.heap[w1.heap.size + 1]? = some (.cells #[.int .u8 0, .int .u32 0, .int .u64 0, .int .u8 0, .bool false, .int .u64 0, .int .u8 0] 27)) := hideJ (blk_later hb3 (by rw [← hs2]; exact heap_alloc_new w2 _)); have HO3 : Hid (One w3 W.heap.size wT (.slice ma mn mc) wD wO wI T D) := hideJ ⟨own_keepJ HO2.out.oT hb3, own_keepJ HO2.out.oM hb3, own_keepJ HO2.out.oD hb3, own_keepJ HO2.out.oO hb3, own_keepJ HO2.out.oI hb3⟩; have HBW : Hid (Below W.heap.size W w3) := hideJ (later_trans (later_trans HB1.out HB2.out) HB3.out); have hcm : w3.cell? ⟨w.heap.size + 1, 0, none⟩ = some (.int .u8 1) := blk HBW.out HC.out 0; clear hb3))
    | (with_reducible show wpList _ _ _ ({ dst := some 20, op := Op.load 25 _, type := _, pos := _, after := _, guard := none } :: _) _ _; go_must (refine wpList_load_blk rfl _ _ rfl (w.heap.size + 1) 1 rfl 7 _ Try.underlying25 rfl (by kernel_rfl) [.int .u8 1, .int .u8 qc, .int .u32 qs, .int .u8 qk, .int .u64 qkey, .int .u64 qv, .int .u64 qhi, .int .u8 qto, .int .u8 0, .int .u8 0, .int .u32 0, .int .u64 0, .int .u64 0, .slice none 0 0, .slice none 0 0, .int .u8 0, .int .u32 0] 35 (blk_later HBW.out HC.out) rfl [.int .u8 qc, .int .u32 qs, .int .u8 qk, .int .u64 qkey, .int .u64 qv, .int .u64 qhi, .int .u8 qto] rfl ?_))
    | (go_at_call 66; go_must (refine (ask_any _ W.heap.size (w1.heap.size + 1) w1.heap.size 0 1 wT wD wO wI ma mn mc oneMap T D qc qs qk qkey qv qhi qto ⟨blk_later HB3.out HN2.out, HO3.out.oT, HO3.out.oD, HB1.out.size⟩ (one_map HO3.out.oM) oneMap_ok oneMap_can hk0 hok mx hmx hst HST.out HSD.out HBW.out.size (by have h1 := HB3.out.size; omega) (Nat.lt_succ_self _) (fun k hk => Nat.lt_succ_of_lt (HO1.out.oT.lt k hk).2) (fun k hk => Nat.lt_succ_of_lt (HO1.out.oD.lt k hk).2) hnT hnD hkind (fun _ => by omega)).mono ?_; rintro e w4 ⟨pc, ps, pkey, pk, pf, pv, pg, T', D', rfl, haw, hout⟩; have HAW : Hid (AskOut T D (Req.mk qc qs qk qkey qv qhi qto) T' D' (Rep.mk pc ps pkey pk pf pv pg)) := hideJ haw; have HOUT : Hid (OutS W.heap.size (w1.heap.size + 1) w1.heap.size 0 1 wT (.slice ma mn mc) wD wO wI T' D' w3 w4) := hideJ hout; clear haw hout; have HMD : Hid (Mod W.heap.size (w1.heap.size + 1) w3 w4) := hideJ (by obtain ⟨_, _, _, h, _⟩ := HOUT.out; exact h); have HR4 : Hid (w4.heap[w1.heap.size + 1]? = some (.cells #[.int .u8 0, .int .u32 0, .int .u64 0, .int .u8 0, .bool false, .int .u64 0, .int .u8 0] 27)) := hideJ (HMD.out.blk HR3.out (Nat.le_refl _))))
    | (with_reducible show wpList _ _ _ ({ dst := none, op := Op.store 27 (Operand.tmp 7) _, type := _, pos := _, after := _, guard := none } :: _) _ _; go_must (refine wpList_store_blk rfl _ _ _ rfl rfl (w1.heap.size + 1) 0 rfl [.int .u8 pc, .int .u32 ps, .int .u64 pkey, .int .u8 pk, .bool pf, .int .u64 pv, .int .u8 pg] rfl _ (by kernel_rfl) rfl rfl [.int .u8 0, .int .u32 0, .int .u64 0, .int .u8 0, .bool false, .int .u64 0, .int .u8 0] 27 HR4.out rfl [.int .u8 pc, .int .u32 ps, .int .u64 pkey, .int .u8 pk, .bool pf, .int .u64 pv, .int .u8 pg] rfl ?_; intro w5 hw ho; have HR5 : Hid (w5.heap[w1.heap.size + 1]? = some (.cells #[.int .u8 pc, .int .u32 ps, .int .u64 pkey, .int .u8 pk, .bool pf, .int .u64 pv, .int .u8 pg] 27)) := hideJ hw; have HN5 : Hid (Only (w1.heap.size + 1) w4 w5) := hideJ ho; clear hw ho)))
  obtain ⟨vT', vD', hS4, hM4, hF1, hF2⟩ := HOUT.out
  have hw3 := HB3.out.size
  have hws := HWS.out
  have hw1 := HB1.out.size
  have hb7 : w1.heap.size + 1 < w3.heap.size := (Array.getElem?_eq_some_iff.1 HR3.out).1
  have hlT : ∀ k, wT.ownBlock = some k → k < w1.heap.size + 1 := fun k hk => Nat.lt_succ_of_lt (HO1.out.oT.lt k hk).2
  have hlD : ∀ k, wD.ownBlock = some k → k < w1.heap.size + 1 := fun k hk => Nat.lt_succ_of_lt (HO1.out.oD.lt k hk).2
  have hS5 : Shd w5 W.heap.size w1.heap.size 0 1 vT' (.slice ma mn mc) vD' wO wI T' D' := hS4.only_off HN5.out (by omega) (hF1.ne hlT (Nat.le_refl _) hb7) (hF2.ne hlD (Nat.le_refl _) hb7)
  have hoff : ∀ {e : TypeId} {k m : Nat} {v : Value} {xs : List Value}, e ≠ 74 → e ≠ 27 → e ≠ 82 → w3.ownsRow W.heap.size e k v m xs → w5.ownsRow W.heap.size e k v m xs := by
    intro e k m v xs h1 h2 h3 h
    refine ⟨h.1, h.2.imp id ?_⟩
    rintro ⟨gg, cap, cur, e1, e2, e3, e4⟩
    refine ⟨gg, cap, cur, e1, e2, ?_, e4⟩
    have h4 := (HMD.out.typ gg cur e e3 (fun hk => hk.elim h1 (fun hk => hk.elim h3 h2))).trans e3
    refine (HN5.out.block gg (fun eq => ?_)).trans h4
    subst eq
    rw [HR4.out] at h4
    simp at h4
    exact h2 h4.2.symm
  have hM5 := hoff (by decide) (by decide) (by decide) HO3.out.oM
  have hO5 := hoff (by decide) (by decide) (by decide) HO3.out.oO
  have hI5 := hoff (by decide) (by decide) (by decide) HO3.out.oI
  obtain ⟨ta, tn, tc, rfl⟩ := own_shapeJ hS5.oT
  obtain ⟨da, dn, dc, rfl⟩ := own_shapeJ hS5.oD
  obtain ⟨oa, on, oc, rfl⟩ := own_shapeJ hO5
  obtain ⟨ia, il, ic, rfl⟩ := own_shapeJ hI5
  have hZ5 : w5.heap[w.heap.size + 1 + 1]? = some (.cells #[.int .u8 0, .int .u8 0, .slice none 0 0, .slice none 0 0, .slice none 0 0, .slice none 0 0, .slice none 0 0] 74) := (HN5.out.block _ (by omega)).trans ((HMD.out.block _ (by omega) (.inl (by omega))).trans (blk_later HBW.out HZ.out))
  have hY5 : w5.heap[w.heap.size + 1 + 1 + 1]? = some (.cells #[.int .u8 0, .int .u32 0, .int .u64 0, .int .u8 0, .bool false, .int .u64 0, .int .u8 0] 27) := (HN5.out.block _ (by omega)).trans ((HMD.out.block _ (by omega) (.inl (by omega))).trans (blk_later HBW.out HY.out))
  have HS5 : Hid (Shd w5 W.heap.size w1.heap.size 0 1 (.slice ta tn tc) (.slice ma mn mc) (.slice da dn dc) (.slice oa on oc) (.slice ia il ic) T' D') := hS5
  have HM5 : Hid (w5.ownsRow W.heap.size 64 2 (.slice ma mn mc) 1 [[Value.int .u64 0, .int .u8 0]].flatten) := hM5
  have HL5 : Hid (w5.ownsRow W.heap.size 137 2 (.slice oa on oc) 1 [[Value.int .u32 1, .slice none 0 0]].flatten) := hO5
  have HI5 : Hid (w5.ownsRow W.heap.size 22 1 (.slice ia il ic) 1 [[Value.int .u32 0]].flatten) := hI5
  have HB5 : Hid (Below w.heap.size w w5) := by
    show Below _ _ _
    have h1 : Below w.heap.size w w3 := later_trans HWL.out HBW.out
    have h2 : Below w.heap.size w3 w4 := ⟨HMD.out.os, HMD.out.tape, HMD.out.output, HMD.out.size, fun k hk => HMD.out.block k (by omega) (.inl (by omega))⟩
    exact (h1.trans h2).trans (HN5.out.below (by omega))
  have hc6 := blk_cell hS5.cell
  have hc7 := blk_cell HR5.out
  have hc4 := blk_cell hZ5
  have hc5 := blk_cell hY5
  have hf4 := blkF (Below.refl _ w5) hZ5
  have hf5 := blkF (Below.refl _ w5) hY5
  clear HOUT hF1 hF2 hS4 hM4 hM5 hO5 hI5 hS5 hoff hlT hlD
  obtain ⟨b5, hb5⟩ : ∃ b5, b5 = w.heap.size + 1 + 1 + 1 := ⟨_, rfl⟩
  rw [← hb5] at hc5 hf5 hY5 ⊢
  obtain ⟨b4, hb4⟩ : ∃ b4, b4 = w.heap.size + 1 + 1 := ⟨_, rfl⟩
  rw [← hb4] at hc4 hf4 hZ5 ⊢
  obtain ⟨b7, hb7'⟩ : ∃ b7, b7 = w1.heap.size + 1 := ⟨_, rfl⟩
  rw [← hb7'] at hc7 ⊢
  obtain ⟨b6, hb6⟩ : ∃ b6, b6 = w1.heap.size := ⟨_, rfl⟩
  rw [← hb6] at hc6 ⊢
  have n1 : ¬ b4 = b6 := by omega
  have n2 : ¬ b4 = b7 := by omega
  have n3 : ¬ b5 = b6 := by omega
  have n4 : ¬ b5 = b7 := by omega
  have n5 : ¬ b4 = b5 := by omega
  have n6 : ¬ b6 = b4 := by omega
  have n7 : ¬ b7 = b4 := by omega
  have n8 : ¬ b6 = b5 := by omega
  have n9 : ¬ b7 = b5 := by omega
  have n10 : ¬ b5 = b4 := by omega
  have HB : Hid (b4 = w.heap.size + 1 + 1 ∧ b5 = w.heap.size + 1 + 1 + 1) := (⟨hb4, hb5⟩ : _ ∧ _)
  have HZ5 : Hid (w5.heap[b4]? = some (.cells #[.int .u8 0, .int .u8 0, .slice none 0 0, .slice none 0 0, .slice none 0 0, .slice none 0 0, .slice none 0 0] 74)) := hZ5
  have HY5 : Hid (w5.heap[b5]? = some (.cells #[.int .u8 0, .int .u32 0, .int .u64 0, .int .u8 0, .bool false, .int .u64 0, .int .u8 0] 27)) := hY5
  clear hb4 hb5 hb6 hb7' hb7 hw3 hw1 hws hZ5 hY5
  go_region
  go_wp2_with fail
  obtain ⟨k1, k2⟩ := setCells_row b4 74 [.int .u8 0, .int .u8 1, .slice ta tn tc, .slice ma mn mc, .slice da dn dc, .slice oa on oc, .slice ia il ic] 0 [.int .u8 0, .int .u8 0, .slice none 0 0, .slice none 0 0, .slice none 0 0, .slice none 0 0, .slice none 0 0] w5 HZ5.out (by simp)
  simp only [World.setCells, Nat.reduceAdd] at k1 k2
  generalize ((((((w5.setCell ⟨b4, 0, none⟩ (.int .u8 0)).setCell ⟨b4, 1, none⟩ (.int .u8 1)).setCell ⟨b4, 2, none⟩ (.slice ta tn tc)).setCell ⟨b4, 3, none⟩ (.slice ma mn mc)).setCell ⟨b4, 4, none⟩ (.slice da dn dc)).setCell ⟨b4, 5, none⟩ (.slice oa on oc)).setCell ⟨b4, 6, none⟩ (.slice ia il ic) = w6 at k1 k2 ⊢
  obtain ⟨k3, k4⟩ := setCells_row b5 27 [.int .u8 pc, .int .u32 ps, .int .u64 pkey, .int .u8 pk, .bool pf, .int .u64 pv, .int .u8 pg] 0 [.int .u8 0, .int .u32 0, .int .u64 0, .int .u8 0, .bool false, .int .u64 0, .int .u8 0] w6 ((k2.block b5 n10).trans HY5.out) (by simp)
  simp only [World.setCells, Nat.reduceAdd] at k3 k4
  generalize ((((((w6.setCell ⟨b5, 0, none⟩ (.int .u8 pc)).setCell ⟨b5, 1, none⟩ (.int .u32 ps)).setCell ⟨b5, 2, none⟩ (.int .u64 pkey)).setCell ⟨b5, 3, none⟩ (.int .u8 pk)).setCell ⟨b5, 4, none⟩ (.bool pf)).setCell ⟨b5, 5, none⟩ (.int .u64 pv)).setCell ⟨b5, 6, none⟩ (.int .u8 pg) = w7 at k3 k4 ⊢
  have hA : w7.drew.heap[b4]? = some (.cells #[.int .u8 0, .int .u8 1, .slice ta tn tc, .slice ma mn mc, .slice da dn dc, .slice oa on oc, .slice ia il ic] 74) := (k4.block b4 n5).trans k1
  have hD : w7.drew.heap[b5]? = some (.cells #[.int .u8 pc, .int .u32 ps, .int .u64 pkey, .int .u8 pk, .bool pf, .int .u64 pv, .int .u8 pg] 27) := k3
  refine bodyPost_ret (v := .tuple #[.agg #[.int .u8 0, .int .u8 1, .slice ta tn tc, .slice ma mn mc, .slice da dn dc, .slice oa on oc, .slice ia il ic], .agg #[.int .u8 pc, .int .u32 ps, .int .u64 pkey, .int .u8 pk, .bool pf, .int .u64 pv, .int .u8 pg]]) (results_two Try.results30 _ _ b4 b5 _ _ _ _ (0, 0) (0, 0) _ _ rfl hA rfl hD Try.underlying74 rfl (by kernel_rfl) Try.underlying27 rfl (by kernel_rfl)) rfl ?_
  have hB := HB.out
  have hws := HWS.out
  have o1 : Only b4 w5 w6 := k2
  have o2 : Only b5 w6 w7.drew := k4.trans (Only.drew _ _)
  refine ⟨_, _, _, _, _, pc, ps, pkey, pk, pf, pv, pg, T', D', rfl, HAW.out, ?_, (HB5.out.trans (o1.below (by omega))).trans (o2.below (by omega))⟩
  exact ⟨own_base (own_keep (own_keep HS5.out.oT o1 (by omega)) o2 (by omega)) (by omega), own_base (own_keep (own_keep HM5.out o1 (by omega)) o2 (by omega)) (by omega), own_base (own_keep (own_keep HS5.out.oD o1 (by omega)) o2 (by omega)) (by omega), own_base (own_keep (own_keep HL5.out o1 (by omega)) o2 (by omega)) (by omega), own_base (own_keep (own_keep HI5.out o1 (by omega)) o2 (by omega)) (by omega)⟩

end Go.Proofs.Ytignemioillaiaa
