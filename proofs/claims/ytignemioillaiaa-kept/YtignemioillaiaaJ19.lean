/- shard.fresh of a group alone. -/
import Derived.Test.YtignemioillaiaaJ18
import Derived.Deep.RegionWith
namespace Go.Proofs.Ytignemioillaiaa
open Go.RowKit Go.Lib

/-- The lists of a group that is alone, each in a block of its own. -/
structure One (w : World) (base : Nat) (vT vM vD vO vI : Value) (T : List Row) (D : List Rep) : Prop where
  oT : w.ownsRow base 82 2 vT T.length (T.map Row.cells).flatten
  oM : w.ownsRow base 64 2 vM 1 [[Value.int .u64 0, .int .u8 0]].flatten
  oD : w.ownsRow base 27 7 vD D.length (D.map Rep.cells).flatten
  oO : w.ownsRow base 137 2 vO 1 [[Value.int .u32 1, .slice none 0 0]].flatten
  oI : w.ownsRow base 22 1 vI 1 [[Value.int .u32 0]].flatten

theorem own_base {w : World} {base base' : Nat} {e : TypeId} {k n : Nat} {v : Value} {xs : List Value} (h : w.ownsRow base e k v n xs) (hb : base' ≤ base) : w.ownsRow base' e k v n xs :=
  ⟨h.1, h.2.imp id fun ⟨g, cap, cur, h1, h2, h3⟩ => ⟨g, cap, cur, h1, Nat.le_trans hb h2, h3⟩⟩
theorem row_allJ (T : List Row) : ∀ y ∈ T.map Row.cells, y.length = 2 := by
  intro y hy; obtain ⟨r, _, rfl⟩ := List.mem_map.1 hy; rfl
theorem rep_allJ (D : List Rep) : ∀ y ∈ D.map Rep.cells, y.length = 7 := by
  intro y hy; obtain ⟨r, _, rfl⟩ := List.mem_map.1 hy; rfl
theorem own_onlyJ {w w' : World} {base B : Nat} {e : TypeId} {k n : Nat} {v : Value} {xs : List Value} (h : w.ownsRow base e k v n xs) (ho : Only B w w') (hne : v.ownBlock ≠ some B) : w'.ownsRow base e k v n xs := h.kept (grown_onlyJ ho) (.inr hne)

theorem below_same {B : Nat} {c w : World} {g o : Nat} {cur : Array Value} {t : TypeId} {v : Value} (hb : Below B c w) (hg : w.heap[g]? = some (.cells cur t)) (hv : cur[o]? = some v) : Below B c (w.setCell ⟨g, o, none⟩ v) := by
  have hg' : w.heap[g]? = some (.cells cur.toList.toArray t) := by rw [Array.toArray_toList]; exact hg
  obtain ⟨h1, h2⟩ := setCell_row (o := o) (v := v) hg'
  have hs : cur.toList.set o v = cur.toList := by
    have h3 : cur.toList[o]? = some v := by simpa using hv
    obtain ⟨h4, h5⟩ := List.getElem?_eq_some_iff.1 h3
    rw [← h5, List.set_getElem_self]
  rw [hs, Array.toArray_toList] at h1
  refine hb.trans ⟨h2.os, h2.tape, h2.output, Nat.le_of_eq h2.size.symm, fun k _ => ?_⟩
  by_cases e : k = g
  · subst e; rw [h1, hg]
  · exact h2.block k e

set_option maxHeartbeats 2000000 in
set_option maxRecDepth 100000 in
theorem fresh_one (w : World) (g n : Int) (vT vM vD vO vI : Value) (T : List Row) (D : List Rep) (h : One w 0 vT vM vD vO vI T D) (hnT : T.length < 1000000) (hnD : D.length < 1000000) :
    Calls Try.prog 64 #[.agg #[.int .u8 g, .int .u8 n, vT, vM, vD, vO, vI]] w fun e w' => ∃ vT' vM' vD' vO' vI', e = .returned (.agg #[.int .u8 g, .int .u8 n, vT', vM', vD', vO', vI']) ∧ One w' w.heap.size vT' vM' vD' vO' vI' T D ∧ Below w.heap.size w w' := by
  obtain ⟨ta, tn, tc, rfl⟩ := own_shapeJ h.oT
  obtain ⟨xa, xn, xc, rfl⟩ := own_shapeJ h.oM
  obtain ⟨da, dn, dc, rfl⟩ := own_shapeJ h.oD
  obtain ⟨oa, on, oc, rfl⟩ := own_shapeJ h.oO
  obtain ⟨ia, il, ic, rfl⟩ := own_shapeJ h.oI
  obtain ⟨W, hW⟩ : ∃ W, W = (w.alloc (.cells #[.int .u8 g, .int .u8 n, .slice ta tn tc, .slice xa xn xc, .slice da dn dc, .slice oa on oc, .slice ia il ic] 74)).alloc (.cells #[.int .u8 0, .int .u8 0, .slice none 0 0, .slice none 0 0, .slice none 0 0, .slice none 0 0, .slice none 0 0] 74) := ⟨_, rfl⟩
  obtain ⟨hQ, hZ, hWl, hWs⟩ := two w (.cells #[.int .u8 g, .int .u8 n, .slice ta tn tc, .slice xa xn xc, .slice da dn dc, .slice oa on oc, .slice ia il ic] 74) (.cells #[.int .u8 0, .int .u8 0, .slice none 0 0, .slice none 0 0, .slice none 0 0, .slice none 0 0, .slice none 0 0] 74)
  rw [← hW] at hQ hZ hWl hWs
  have HO : Hid (One w 0 (.slice ta tn tc) (.slice xa xn xc) (.slice da dn dc) (.slice oa on oc) (.slice ia il ic) T D) := h
  have HWL : Hid (Below w.heap.size w W) := hWl
  have HWS : Hid (W.heap.size = w.heap.size + 2) := hWs
  have HQ : Hid (W.heap[w.heap.size]? = some (.cells #[.int .u8 g, .int .u8 n, .slice ta tn tc, .slice xa xn xc, .slice da dn dc, .slice oa on oc, .slice ia il ic] 74)) := hQ
  have HZ : Hid (W.heap[w.heap.size + 1]? = some (.cells #[.int .u8 0, .int .u8 0, .slice none 0 0, .slice none 0 0, .slice none 0 0, .slice none 0 0, .slice none 0 0] 74)) := hZ
  have hc := blk_cell hQ
  clear h hWl hQ hZ hWs
  go_enter Try.func64, Try.ntmps64
  go_upto_region 1 with fail
  rw [← hW]
  clear hW
  go_upto_region 6 with (first
    | (go_at_call 103; go_must (refine (fl_row _ 0 (.slice ta tn tc) T.length (T.map Row.cells) (own_keepJ HO.out.oT HWL.out) (by simp) (row_allJ T) (rows_oneJ T) hnT).mono ?_; rintro e bT ⟨vT, rfl, ho, hb⟩; have HOT : Hid (bT.ownsRow W.heap.size 82 2 vT T.length (T.map Row.cells).flatten) := hideJ ho; have HLT : Hid (Below W.heap.size W bT) := hideJ hb; have h1T := own_oneJ ho; clear ho hb; have HQT : Hid (bT.heap[w.heap.size]? = some (.cells #[.int .u8 g, .int .u8 n, .slice ta tn tc, .slice xa xn xc, .slice da dn dc, .slice oa on oc, .slice ia il ic] 74)) := hideJ (blk_later HLT.out HQ.out)))
    | (with_reducible show wpList _ _ _ ({ dst := none, op := Op.store 30 _ _, type := _, pos := _, after := _, guard := none } :: _) _ _; go_must (refine wpList_store_cell rfl _ _ _ rfl rfl w.heap.size 2 rfl vT rfl (by kernel_rfl) h1T [.int .u8 g, .int .u8 n, .slice ta tn tc, .slice xa xn xc, .slice da dn dc, .slice oa on oc, .slice ia il ic] 74 HQT.out rfl [.int .u8 g, .int .u8 n, vT, .slice xa xn xc, .slice da dn dc, .slice oa on oc, .slice ia il ic] rfl ?_; intro cT hw ho; have HRT : Hid (cT.heap[w.heap.size]? = some (.cells #[.int .u8 g, .int .u8 n, vT, .slice xa xn xc, .slice da dn dc, .slice oa on oc, .slice ia il ic] 74)) := hideJ hw; have HNT : Hid (Only w.heap.size bT cT) := hideJ ho; clear hw ho; have HBT : Hid (Below w.heap.size w cT) := hideJ ((HWL.out.trans (HLT.out.mono HWL.out.size)).trans (HNT.out.below (Nat.le_refl _))); have hcbT := blk_cell HRT.out))
    | (go_at_call 104; go_must (refine (fl_pc _ 0 (.slice xa xn xc) 1 [[Value.int .u64 0, .int .u8 0]] (own_keepJ HO.out.oM HBT.out) rfl (by simp) (by simp [Value.oneCell']) (by decide)).mono ?_; rintro e bM ⟨vM, rfl, ho, hb⟩; have HOM : Hid (bM.ownsRow cT.heap.size 64 2 vM 1 [[Value.int .u64 0, .int .u8 0]].flatten) := hideJ ho; have HLM : Hid (Below cT.heap.size cT bM) := hideJ hb; have h1M := own_oneJ ho; clear ho hb; have HQM : Hid (bM.heap[w.heap.size]? = some (.cells #[.int .u8 g, .int .u8 n, vT, .slice xa xn xc, .slice da dn dc, .slice oa on oc, .slice ia il ic] 74)) := hideJ (blk_later HLM.out HRT.out)))
    | (with_reducible show wpList _ _ _ ({ dst := none, op := Op.store 62 _ _, type := _, pos := _, after := _, guard := none } :: _) _ _; go_must (refine wpList_store_cell rfl _ _ _ rfl rfl w.heap.size 3 rfl vM rfl (by kernel_rfl) h1M [.int .u8 g, .int .u8 n, vT, .slice xa xn xc, .slice da dn dc, .slice oa on oc, .slice ia il ic] 74 HQM.out rfl [.int .u8 g, .int .u8 n, vT, vM, .slice da dn dc, .slice oa on oc, .slice ia il ic] rfl ?_; intro cM hw ho; have HRM : Hid (cM.heap[w.heap.size]? = some (.cells #[.int .u8 g, .int .u8 n, vT, vM, .slice da dn dc, .slice oa on oc, .slice ia il ic] 74)) := hideJ hw; have HNM : Hid (Only w.heap.size bM cM) := hideJ ho; clear hw ho; have HBM : Hid (Below w.heap.size w cM) := hideJ ((HBT.out.trans (HLM.out.mono HBT.out.size)).trans (HNM.out.below (Nat.le_refl _))); have hcbM := blk_cell HRM.out))
    | (go_at_call 105; go_must (refine (fl_rep _ 0 (.slice da dn dc) D.length (D.map Rep.cells) (own_keepJ HO.out.oD HBM.out) (by simp) (rep_allJ D) (reps_oneJ D) hnD).mono ?_; rintro e bD ⟨vD, rfl, ho, hb⟩; have HOD : Hid (bD.ownsRow cM.heap.size 27 7 vD D.length (D.map Rep.cells).flatten) := hideJ ho; have HLD : Hid (Below cM.heap.size cM bD) := hideJ hb; have h1D := own_oneJ ho; clear ho hb; have HQD : Hid (bD.heap[w.heap.size]? = some (.cells #[.int .u8 g, .int .u8 n, vT, vM, .slice da dn dc, .slice oa on oc, .slice ia il ic] 74)) := hideJ (blk_later HLD.out HRM.out)))
    | (with_reducible show wpList _ _ _ ({ dst := none, op := Op.store 31 _ _, type := _, pos := _, after := _, guard := none } :: _) _ _; go_must (refine wpList_store_cell rfl _ _ _ rfl rfl w.heap.size 4 rfl vD rfl (by kernel_rfl) h1D [.int .u8 g, .int .u8 n, vT, vM, .slice da dn dc, .slice oa on oc, .slice ia il ic] 74 HQD.out rfl [.int .u8 g, .int .u8 n, vT, vM, vD, .slice oa on oc, .slice ia il ic] rfl ?_; intro cD hw ho; have HRD : Hid (cD.heap[w.heap.size]? = some (.cells #[.int .u8 g, .int .u8 n, vT, vM, vD, .slice oa on oc, .slice ia il ic] 74)) := hideJ hw; have HND : Hid (Only w.heap.size bD cD) := hideJ ho; clear hw ho; have HBD : Hid (Below w.heap.size w cD) := hideJ ((HBM.out.trans (HLD.out.mono HBM.out.size)).trans (HND.out.below (Nat.le_refl _))); have hcbD := blk_cell HRD.out))
    | (go_at_call 106; go_must (refine (fl_num _ 0 (.slice ia il ic) 1 [[Value.int .u32 0]] (own_keepJ HO.out.oI HBD.out) rfl (by simp) (by simp [Value.oneCell']) (by decide)).mono ?_; rintro e bI ⟨vI, rfl, ho, hb⟩; have HOI : Hid (bI.ownsRow cD.heap.size 22 1 vI 1 [[Value.int .u32 0]].flatten) := hideJ ho; have HLI : Hid (Below cD.heap.size cD bI) := hideJ hb; have h1I := own_oneJ ho; clear ho hb; have HQI : Hid (bI.heap[w.heap.size]? = some (.cells #[.int .u8 g, .int .u8 n, vT, vM, vD, .slice oa on oc, .slice ia il ic] 74)) := hideJ (blk_later HLI.out HRD.out)))
    | (with_reducible show wpList _ _ _ ({ dst := none, op := Op.store 72 _ _, type := _, pos := _, after := _, guard := none } :: _) _ _; go_must (refine wpList_store_cell rfl _ _ _ rfl rfl w.heap.size 6 rfl vI rfl (by kernel_rfl) h1I [.int .u8 g, .int .u8 n, vT, vM, vD, .slice oa on oc, .slice ia il ic] 74 HQI.out rfl [.int .u8 g, .int .u8 n, vT, vM, vD, .slice oa on oc, vI] rfl ?_; intro cI hw ho; have HRI : Hid (cI.heap[w.heap.size]? = some (.cells #[.int .u8 g, .int .u8 n, vT, vM, vD, .slice oa on oc, vI] 74)) := hideJ hw; have HNI : Hid (Only w.heap.size bI cI) := hideJ ho; clear hw ho; have HBI : Hid (Below w.heap.size w cI) := hideJ ((HBD.out.trans (HLI.out.mono HBD.out.size)).trans (HNI.out.below (Nat.le_refl _))); have hcbI := blk_cell HRI.out))
    | (go_at_call 107; go_must (refine (fl_lane _ 0 (.slice oa on oc) 1 [[Value.int .u32 1, .slice none 0 0]] (own_keepJ HO.out.oO HBI.out) rfl (by simp) (by simp [Value.oneCell']) (by decide)).mono ?_; rintro e bO ⟨vO, rfl, ho, hb⟩; have HOO : Hid (bO.ownsRow cI.heap.size 137 2 vO 1 [[Value.int .u32 1, .slice none 0 0]].flatten) := hideJ ho; have HLO : Hid (Below cI.heap.size cI bO) := hideJ hb; have h1O := own_oneJ ho; clear ho hb; have HQO : Hid (bO.heap[w.heap.size]? = some (.cells #[.int .u8 g, .int .u8 n, vT, vM, vD, .slice oa on oc, vI] 74)) := hideJ (blk_later HLO.out HRI.out)))
    | (with_reducible show wpList _ _ _ ({ dst := none, op := Op.store 71 _ _, type := _, pos := _, after := _, guard := none } :: _) _ _; go_must (refine wpList_store_cell rfl _ _ _ rfl rfl w.heap.size 5 rfl vO rfl (by kernel_rfl) h1O [.int .u8 g, .int .u8 n, vT, vM, vD, .slice oa on oc, vI] 74 HQO.out rfl [.int .u8 g, .int .u8 n, vT, vM, vD, vO, vI] rfl ?_; intro cO hw ho; have HRO : Hid (cO.heap[w.heap.size]? = some (.cells #[.int .u8 g, .int .u8 n, vT, vM, vD, vO, vI] 74)) := hideJ hw; have HNO : Hid (Only w.heap.size bO cO) := hideJ ho; clear hw ho; have HBO : Hid (Below w.heap.size w cO) := hideJ ((HBI.out.trans (HLO.out.mono HBI.out.size)).trans (HNO.out.below (Nat.le_refl _))); have hcbO := blk_cell HRO.out)))
  rcases HOO.out.2 with ⟨_, h0⟩ | ⟨gO, cap, cur, hvO, hbg, hgO, hnc, hcm, hcs, htake⟩
  · omega
  subst hvO
  have hszI : w.heap.size < cI.heap.size := Nat.lt_of_lt_of_le (Array.getElem?_eq_some_iff.1 HRI.out).1 (Nat.le_refl _)
  have hgc : cO.heap[gO]? = some (.cells cur 137) := (HNO.out.block gO (by omega)).trans hgO
  have hct : cur.toList.take 2 = [Value.int .u32 1, .slice none 0 0] := htake
  have hcl : 2 ≤ cur.toList.length := by rw [Array.length_toList, hcs]; omega
  have hcu0 : cur[0]? = some (Value.int .u32 1) := by
    have : (cur.toList.take 2)[0]? = some (Value.int .u32 1) := by rw [hct]; rfl
    rw [List.getElem?_take] at this
    simpa using this
  have hcu1 : cur[1]? = some (Value.slice none 0 0) := by
    have : (cur.toList.take 2)[1]? = some (Value.slice none 0 0) := by rw [hct]; rfl
    rw [List.getElem?_take] at this
    simpa using this
  have HGO : Hid (∀ w', Below cO.heap.size cO w' → w'.heap[gO]? = some (.cells cur 137)) := fun w' hb => blk_later hb hgc
  have HBX : Hid (∀ w', Below cO.heap.size cO w' → w'.heap[w.heap.size]? = some (.cells #[.int .u8 g, .int .u8 n, vT, vM, vD, .slice (some ⟨gO, 0, none⟩) 1 cap, vI] 74)) := fun w' hb => blk_later hb HRO.out
  have HCU : Hid (cur[0]? = some (Value.int .u32 1) ∧ cur[1]? = some (Value.slice none 0 0)) := (⟨hcu0, hcu1⟩ : _ ∧ _)
  have h7 : [.int .u8 g, .int .u8 n, vT, vM, vD, .slice (some ⟨gO, 0, none⟩) 1 cap, vI].all (·.oneCell') = true := by
    rw [List.all_eq_true]
    intro u hu
    simp only [List.mem_cons, List.not_mem_nil, or_false] at hu
    rcases hu with rfl | rfl | rfl | rfl | rfl | rfl | rfl <;> first | rfl | assumption
  clear hcbT hcbM hcbD hcbI hgc hct hcl hcu0 hcu1 hgO htake
  go_wp2_with fail
  go_loopw [28] (fun i wr => ∃ k : Nat, k ≤ 1 ∧ i = .int .i64 k ∧ Hid (Below cO.heap.size cO wr)) (fun i _ => 1 - (intOf i).toNat)
  case atStart => exact ⟨0, by decide, rfl, Below.refl _ _⟩
  case round =>
    clear hcbO
    obtain ⟨k, hk, rfl, HB⟩ := hrel
    have hcbr := blk_cell (HBX.out wr HB.out)
    obtain rfl | rfl : k = 0 ∨ k = 1 := by omega
    · have ho0 : wr.cell? ⟨gO, 0, none⟩ = some (.int .u32 1) := (blk_cell (HGO.out wr HB.out) 0).trans HCU.out.1
      have ho1 : wr.cell? ⟨gO, 1, none⟩ = some (.slice none 0 0) := (blk_cell (HGO.out wr HB.out) 1).trans HCU.out.2
      go_wp2_with fail
      have hcb5 : wr.cell? ⟨w.heap.size, 5, none⟩ = some (.slice (some ⟨gO, 0, none⟩) 1 cap) := blk_cell (HBX.out wr HB.out) 5
      have hlt1 : gO < wr.heap.size := (Array.getElem?_eq_some_iff.1 (HGO.out wr HB.out)).1
      have hlt2 : w.heap.size < wr.heap.size := (Array.getElem?_eq_some_iff.1 (HBX.out wr HB.out)).1
      go_region_with (go_at_call 108; refine (fq_none _).mono ?_; rintro e w1 ⟨rfl, hb1⟩; have HB1 : Hid (Below cO.heap.size cO w1) := hideJ (later_trans HB.out (later_trans (later_alloc wr _).drew hb1)); have hso1 : w1.cell? ⟨gO, 1, none⟩ = some (.slice none 0 0) := (blk_cell (HGO.out w1 HB1.out) 1).trans HCU.out.2; have hsb5 : w1.cell? ⟨w.heap.size, 5, none⟩ = some (.slice (some ⟨gO, 0, none⟩) 1 cap) := blk_cell (HBX.out w1 HB1.out) 5; have hfo1 : w1.frozen? ⟨gO, 1, none⟩ = false := blkF (Below.refl _ w1) (HGO.out w1 HB1.out) 1)
      all_goals (
        go_wp2_with fail
        go_roundw
        case rel => exact ⟨1, by decide, by first | rfl | go_num, below_same HB1.out (HGO.out w1 HB1.out) HCU.out.2⟩
        case measure => simp [intOf])
    · have HZr : Hid (wr.heap[w.heap.size + 1]? = some (.cells #[.int .u8 0, .int .u8 0, .slice none 0 0, .slice none 0 0, .slice none 0 0, .slice none 0 0, .slice none 0 0] 74)) := by
        show _ = _
        have z1 := (HNT.out.block _ (by omega)).trans (blk_later HLT.out HZ.out)
        have z2 := (HNM.out.block _ (by omega)).trans (blk_later HLM.out z1)
        have z3 := (HND.out.block _ (by omega)).trans (blk_later HLD.out z2)
        have z4 := (HNI.out.block _ (by omega)).trans (blk_later HLI.out z3)
        have z5 := (HNO.out.block _ (by omega)).trans (blk_later HLO.out z4)
        exact blk_later HB.out z5
      go_wp2_with (first
        | (with_reducible show wpList _ _ _ ({ dst := some 42, op := Op.load 74 _, type := _, pos := _, after := _, guard := none } :: _) _ _; go_must (refine wpList_load_blk rfl _ _ rfl w.heap.size 0 rfl 7 _ Try.underlying74 rfl (by kernel_rfl) [.int .u8 g, .int .u8 n, vT, vM, vD, .slice (some ⟨gO, 0, none⟩) 1 cap, vI] 74 (HBX.out wr HB.out) rfl [.int .u8 g, .int .u8 n, vT, vM, vD, .slice (some ⟨gO, 0, none⟩) 1 cap, vI] rfl ?_))
        | (with_reducible show wpList _ _ _ ({ dst := none, op := Op.store 74 _ _, type := _, pos := _, after := _, guard := none } :: _) _ _; go_must (refine wpList_store_blk rfl _ _ _ rfl rfl (w.heap.size + 1) 0 rfl [.int .u8 g, .int .u8 n, vT, vM, vD, .slice (some ⟨gO, 0, none⟩) 1 cap, vI] rfl _ (by kernel_rfl) rfl h7 [.int .u8 0, .int .u8 0, .slice none 0 0, .slice none 0 0, .slice none 0 0, .slice none 0 0, .slice none 0 0] 74 HZr.out rfl [.int .u8 g, .int .u8 n, vT, vM, vD, .slice (some ⟨gO, 0, none⟩) 1 cap, vI] rfl ?_; intro w9 hw ho; have HW9 : Hid (w9.heap[w.heap.size + 1]? = some (.cells #[.int .u8 g, .int .u8 n, vT, vM, vD, .slice (some ⟨gO, 0, none⟩) 1 cap, vI] 74)) := hideJ hw; have HO9 : Hid (Only (w.heap.size + 1) wr w9) := hideJ ho; clear hw ho)))
      refine bodyPost_ret (v := .agg #[.int .u8 g, .int .u8 n, vT, vM, vD, .slice (some ⟨gO, 0, none⟩) 1 cap, vI]) (results_cell_row Try.results64 _ _ (w.heap.size + 1) 74 _ (0, 0) _ rfl HW9.out Try.underlying74 rfl (by kernel_rfl)) rfl ⟨_, _, _, _, _, rfl, ?_, (HBO.out.trans (HB.out.mono HBO.out.size)).trans (HO9.out.below (Nat.le_succ _))⟩
      have sT : w.heap.size + 2 ≤ W.heap.size := Nat.le_of_eq HWS.out.symm
      have sM : w.heap.size + 2 ≤ cT.heap.size := by rw [HNT.out.size]; exact Nat.le_trans sT HLT.out.size
      have sD : w.heap.size + 2 ≤ cM.heap.size := by rw [HNM.out.size]; exact Nat.le_trans sM HLM.out.size
      have sI : w.heap.size + 2 ≤ cD.heap.size := by rw [HND.out.size]; exact Nat.le_trans sD HLD.out.size
      have sO : w.heap.size + 2 ≤ cI.heap.size := by rw [HNI.out.size]; exact Nat.le_trans sI HLI.out.size
      have eT := own_base (base' := w.heap.size) (own_keep (own_keepJ (own_keep (own_keepJ (own_keep (own_keepJ (own_keep (own_keepJ (own_keep (own_keepJ (own_keep HOT.out HNT.out (by omega)) HLM.out) HNM.out (by omega)) HLD.out) HND.out (by omega)) HLI.out) HNI.out (by omega)) HLO.out) HNO.out (by omega)) HB.out) HO9.out (by omega)) (by omega)
      have eM := own_base (base' := w.heap.size) (own_keep (own_keepJ (own_keep (own_keepJ (own_keep (own_keepJ (own_keep (own_keepJ (own_keep HOM.out HNM.out (by omega)) HLD.out) HND.out (by omega)) HLI.out) HNI.out (by omega)) HLO.out) HNO.out (by omega)) HB.out) HO9.out (by omega)) (by omega)
      have eD := own_base (base' := w.heap.size) (own_keep (own_keepJ (own_keep (own_keepJ (own_keep (own_keepJ (own_keep HOD.out HND.out (by omega)) HLI.out) HNI.out (by omega)) HLO.out) HNO.out (by omega)) HB.out) HO9.out (by omega)) (by omega)
      have eI := own_base (base' := w.heap.size) (own_keep (own_keepJ (own_keep (own_keepJ (own_keep HOI.out HNI.out (by omega)) HLO.out) HNO.out (by omega)) HB.out) HO9.out (by omega)) (by omega)
      have eO := own_base (base' := w.heap.size) (own_keep (own_keepJ (own_keep HOO.out HNO.out (by omega)) HB.out) HO9.out (by omega)) (by omega)
      exact ⟨eT, eM, eD, eO, eI⟩

end Go.Proofs.Ytignemioillaiaa
