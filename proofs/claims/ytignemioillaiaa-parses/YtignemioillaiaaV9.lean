/- The document's Parse, kind by kind (all but a Promise). -/
import Derived.Test.YtignemioillaiaaD4
import Derived.Test.YtignemioillaiaaV8
namespace Go.Proofs.Ytignemioillaiaa
open Go.RowKit

set_option maxHeartbeats 4000000 in
set_option maxRecDepth 100000 in
theorem ref_parse_1 (l : List Int) (w : World) (hb : Byt l) (hl : l.length ≤ 1000000000000000) (zH zI zJ zK zL zM zN : Int) (s0  : List Int × Bool) (sl : List Int) (br : Bool) (h0 : bnum 1 (l, false) = (1, s0)) (hq : rbReq s0 = ((Req.mk zH zI zJ zK zL zM zN), (sl, br))) (hwf : (Msg.mk 1 (Req.mk zH zI zJ zK zL zM zN) nP 0 0 0 nC ⟨none, 0, 0⟩ nR 0 0 []).wf) (hst : (Msg.mk 1 (Req.mk zH zI zJ zK zL zM zN) nP 0 0 0 nC ⟨none, 0, 0⟩ nR 0 0 []).strip = (Msg.mk 1 (Req.mk zH zI zJ zK zL zM zN) nP 0 0 0 nC ⟨none, 0, 0⟩ nR 0 0 [])) :
    Calls Try.prog 15 #[.string (bstr l)] w fun e w' => RefOut l (Msg.mk 1 (Req.mk zH zI zJ zK zL zM zN) nP 0 0 0 nC ⟨none, 0, 0⟩ nR 0 0 []) br w w' e := by
  have H0 := hideV h0
  have HQ := hideV hq
  have HWF := hideV hwf
  have HST := hideV hst
  clear h0 hq hwf hst
  obtain ⟨s, hs⟩ : ∃ s, s = bstr [113] := ⟨_, rfl⟩
  have hsz : s.size = 1 := by rw [hs, bstr_size]; rfl
  have hl0 : ((s[0]'(by rw [hsz]; decide)).toNat : Int) = 113 := str_at hs rfl (by decide) _
  have hS : Rst (w.heap.size + 1) ((w.alloc (.cells (List.toArray oxM) 38)).alloc (.cells #[.string (bstr l), .bool false] 122)) (l, false) := ⟨heap_alloc2_new w _ _, hb, hl⟩
  have hR : ((w.alloc (.cells (List.toArray oxM) 38)).alloc (.cells #[.string (bstr l), .bool false] 122)).heap[w.heap.size]? = some (.cells (List.toArray oxM) 38) := heap_alloc2_old w _ _
  have hU := upd_alloc2 (w.heap.size + 1) w (.cells (List.toArray oxM) 38) (.cells #[.string (bstr l), .bool false] 122)
  have hle : w.heap.size + 2 ≤ ((w.alloc (.cells (List.toArray oxM) 38)).alloc (.cells #[.string (bstr l), .bool false] 122)).heap.size := by simp
  have hneR : w.heap.size ≠ w.heap.size + 1 := by omega
  go_enter Try.func15, Try.ntmps15
  go_wp2_with (first | (go_at_call 46; go_must (refine (rest_raw H0.out _ hS (by decide)).mono ?_; rintro e w1 ⟨rfl, hS1, hU1⟩; have hU := upd_trans hU hU1; have hR := upd_blk hU1 hneR hR; have hS := hS1; have hle := Nat.le_trans hle hU1.size)) | (with_reducible show AtS 38 5 ..; go_must (refine wpList_store_blk rfl _ _ _ rfl rfl w1.heap.size 0 rfl (rM 1 0 0 0 0 0 0 0 0 0 0 0 false 0 0 0 0 0 0 0 0 0 0 0 0 0 0 0 0 0 0 none 0 0 none 0 0 0 0 none 0 0 0 0 0 0 0 none 0 0 none 0 0 0 0) rfl _ sz_msg rfl rfl _ _ (heap_alloc_new w1 (.cells (List.toArray oxM) 38)) rfl (rM 1 0 0 0 0 0 0 0 0 0 0 0 false 0 0 0 0 0 0 0 0 0 0 0 0 0 0 0 0 0 0 none 0 0 none 0 0 0 0 none 0 0 0 0 0 0 0 none 0 0 none 0 0 0 0) rfl ?_; intro w2 hV hO2; have hR := (hO2.block w.heap.size (by omega)).trans (blk_later (later_alloc w1 (.cells (List.toArray oxM) 38)) hR); have hS := (hS.alloc (.cells (List.toArray oxM) 38)).only hO2 (by omega); have hU := upd_new (upd_trans hU (upd_alloc1 _ w1 (.cells (List.toArray oxM) 38))) hO2 (by omega); obtain ⟨bM, hbMe⟩ : ∃ b, b = w1.heap.size := ⟨_, rfl⟩; rw [← hbMe] at hV ⊢; have hneV : bM ≠ w.heap.size + 1 := (by omega); have hneBV : w.heap.size + 1 ≠ bM := (by omega); have hneRV : w.heap.size ≠ bM := (by omega); have hbM : w.heap.size ≤ bM := (by omega); have hB := blk_cell hV; clear hbMe)) | (go_at_call 36; go_must (refine (ref_letters_1 _).mono ?_; rintro e w1 ⟨rfl, hbel⟩; rw [← hs]; have hU := upd_trans hU (upd_of_below hbel); have hR := blk_later hbel hR; have hV := blk_later hbel hV; have hS := hS.later hbel; clear hB)))
  refine wp_loop_rounds 2 ?_
  rw [rounds_succ]
  go_wp2_with (first | (go_at_call 47; go_must (refine (req_raw HQ.out _ hS).mono ?_; rintro e w1 ⟨rfl, hS1, hU1⟩; have hU := upd_trans hU hU1; have hR := upd_blk hU1 hneR hR; have hV := upd_blk hU1 hneV hV; have hS := hS1)) | (with_reducible show AtS 25 36 ..; go_must (refine wpList_store_blk rfl _ _ _ rfl rfl bM 1 rfl (rQ zH zI zJ zK zL zM zN) rfl _ sz_req rfl rfl _ _ hV rfl (rM 1 zH zI zJ zK zL zM zN 0 0 0 0 false 0 0 0 0 0 0 0 0 0 0 0 0 0 0 0 0 0 0 none 0 0 none 0 0 0 0 none 0 0 0 0 0 0 0 none 0 0 none 0 0 0 0) rfl ?_; intro w1 hV1 hO1; have hV := hV1; have hU := upd_new hU hO1 hbM; have hR := (hO1.block _ hneRV).trans hR; have hS := hS.only hO1 hneBV)))
  rw [rounds_succ]
  go_upto_region 33 with (first | (with_reducible show AtL 107 38 ..; go_must (refine wpList_load_blk rfl _ _ rfl bM 0 rfl 45 _ Try.underlying38 rfl sz_msg _ _ hV rfl (rM 1 zH zI zJ zK zL zM zN 0 0 0 0 false 0 0 0 0 0 0 0 0 0 0 0 0 0 0 0 0 0 0 none 0 0 none 0 0 0 0 none 0 0 0 0 0 0 0 none 0 0 none 0 0 0 0) rfl ?_)) | (go_at_call 12; go_must (have HFIT : Hid (Msg.fit (Msg.mk 1 (Req.mk zH zI zJ zK zL zM zN) nP 0 0 0 nC ⟨none, 0, 0⟩ nR 0 0 [])) := ⟨⟨rfl, rfl⟩, ⟨rfl, rfl⟩, rfl, fun i x hx => by simp at hx⟩; refine (ref_any _ _ _ _ _ _ _ _ _ _ _ _ _ _ _ _ _ _ _ _ _ _ _ _ _ _ _ _ _ _ _ _ _ _ _ _ _ _ _ _ _ _ _ _ _ _ _ _ _ _ _ _ _ _ _ [] [] [] [] [] _ (noVotes_in _) (noRng_in _).rows (noRng_in _).dups (noRng_in _).rows (noRng_in _).dups (wf_strip (b := (Msg.mk 1 (Req.mk zH zI zJ zK zL zM zN) nP 0 0 0 nC ⟨none, 0, 0⟩ nR 0 0 [])) rfl HWF.out) (.inr rfl)).mono ?_; rintro e w1 ⟨rfl, hbel⟩; have hU := upd_trans hU (upd_of_below hbel); have hR := blk_later hbel hR; have hV := blk_later hbel hV; have hS := hS.later hbel)))
  have hcB := blk_cell hS.blk
  obtain ⟨hm1, hm2⟩ := ref_ans (a := (Msg.mk 1 (Req.mk zH zI zJ zK zL zM zN) nP 0 0 0 nC ⟨none, 0, 0⟩ nR 0 0 [])) (b := (Msg.mk 1 (Req.mk zH zI zJ zK zL zM zN) nP 0 0 0 nC ⟨none, 0, 0⟩ nR 0 0 [])) rfl HST.out HFIT.out
  cases br
  case true =>
    go_wp2_with (first | (with_reducible show AtS 38 2 ..; go_must (refine wpList_store_blk rfl _ _ _ rfl rfl w.heap.size 0 rfl oxM rfl _ sz_msg rfl rfl _ _ hR rfl oxM rfl ?_; intro w9 hR9 hO9; have hU := upd_new hU hO9 (Nat.le_refl _))))
    exact bodyPost_ret (v := .tuple #[.agg (List.toArray oxM), .int .i64 2]) (results_cell_row_tmp Try.results15 _ _ w.heap.size 38 _ (0, 0) _ rfl hR9 Try.underlying38 rfl sz_msg) rfl ⟨below_of_upd hU, .inr ⟨(fun h => (by cases h.1)), rfl⟩⟩

  case false =>
  by_cases hok : (Msg.mk 1 (Req.mk zH zI zJ zK zL zM zN) nP 0 0 0 nC ⟨none, 0, 0⟩ nR 0 0 []).ok = true
  case neg =>
    have hE : mE (Msg.mk 1 (Req.mk zH zI zJ zK zL zM zN) nP 0 0 0 nC ⟨none, 0, 0⟩ nR 0 0 []) = 1 := by rw [hm2]; exact mE_no hok
    rw [hE]
    go_wp2_with (first | (with_reducible show AtS 38 2 ..; go_must (refine wpList_store_blk rfl _ _ _ rfl rfl w.heap.size 0 rfl oxM rfl _ sz_msg rfl rfl _ _ hR rfl oxM rfl ?_; intro w9 hR9 hO9; have hU := upd_new hU hO9 (Nat.le_refl _))))
    exact bodyPost_ret (v := .tuple #[.agg (List.toArray oxM), .int .i64 2]) (results_cell_row_tmp Try.results15 _ _ w.heap.size 38 _ (0, 0) _ rfl hR9 Try.underlying38 rfl sz_msg) rfl ⟨below_of_upd hU, .inr ⟨(fun h => hok h.2.1), rfl⟩⟩

  case pos =>
  have hE : mE (Msg.mk 1 (Req.mk zH zI zJ zK zL zM zN) nP 0 0 0 nC ⟨none, 0, 0⟩ nR 0 0 []) = 0 := by rw [hm2]; exact mE_yes hok
  have hT : mS (Msg.mk 1 (Req.mk zH zI zJ zK zL zM zN) nP 0 0 0 nC ⟨none, 0, 0⟩ nR 0 0 []) = bstr (Msg.mk 1 (Req.mk zH zI zJ zK zL zM zN) nP 0 0 0 nC ⟨none, 0, 0⟩ nR 0 0 []).bytes := by rw [hm1]; exact mS_yes hok
  rw [hE, hT]
  by_cases hby : (Msg.mk 1 (Req.mk zH zI zJ zK zL zM zN) nP 0 0 0 nC ⟨none, 0, 0⟩ nR 0 0 []).bytes = l
  case neg =>
    have hne := str_ne (fun h => hby (bstr_inj (byt_msg HWF.out hok) hb h))
    go_wp2_with (first | (with_reducible show AtS 38 2 ..; go_must (refine wpList_store_blk rfl _ _ _ rfl rfl w.heap.size 0 rfl oxM rfl _ sz_msg rfl rfl _ _ hR rfl oxM rfl ?_; intro w9 hR9 hO9; have hU := upd_new hU hO9 (Nat.le_refl _))))
    exact bodyPost_ret (v := .tuple #[.agg (List.toArray oxM), .int .i64 2]) (results_cell_row_tmp Try.results15 _ _ w.heap.size 38 _ (0, 0) _ rfl hR9 Try.underlying38 rfl sz_msg) rfl ⟨below_of_upd hU, .inr ⟨(fun h => hby h.2.2), rfl⟩⟩

  case pos =>
    rw [hby]
    have hne := str_eqV (bstr l)
    go_wp2_with (first | (with_reducible show AtL 125 38 ..; go_must (refine wpList_load_blk rfl _ _ rfl bM 0 rfl 45 _ Try.underlying38 rfl sz_msg _ _ hV rfl (rM 1 zH zI zJ zK zL zM zN 0 0 0 0 false 0 0 0 0 0 0 0 0 0 0 0 0 0 0 0 0 0 0 none 0 0 none 0 0 0 0 none 0 0 0 0 0 0 0 none 0 0 none 0 0 0 0) rfl ?_)) | (with_reducible show AtS 38 2 ..; go_must (refine wpList_store_blk rfl _ _ _ rfl rfl w.heap.size 0 rfl (rM 1 zH zI zJ zK zL zM zN 0 0 0 0 false 0 0 0 0 0 0 0 0 0 0 0 0 0 0 0 0 0 0 none 0 0 none 0 0 0 0 none 0 0 0 0 0 0 0 none 0 0 none 0 0 0 0) rfl _ sz_msg rfl rfl _ _ hR rfl (rM 1 zH zI zJ zK zL zM zN 0 0 0 0 false 0 0 0 0 0 0 0 0 0 0 0 0 0 0 0 0 0 0 none 0 0 none 0 0 0 0 none 0 0 0 0 0 0 0 none 0 0 none 0 0 0 0) rfl ?_; intro w9 hR9 hO9; have hU := upd_new hU hO9 (Nat.le_refl _))))
    exact bodyPost_ret (v := .tuple #[.agg (List.toArray (rM 1 zH zI zJ zK zL zM zN 0 0 0 0 false 0 0 0 0 0 0 0 0 0 0 0 0 0 0 0 0 0 0 none 0 0 none 0 0 0 0 none 0 0 0 0 0 0 0 none 0 0 none 0 0 0 0)), .int .i64 0]) (results_cell_row_tmp Try.results15 _ _ w.heap.size 38 _ (0, 0) _ rfl hR9 Try.underlying38 rfl sz_msg) rfl ⟨below_of_upd hU, .inl ⟨⟨rfl, hok, hby⟩, (Msg.mk 1 (Req.mk zH zI zJ zK zL zM zN) nP 0 0 0 nC ⟨none, 0, 0⟩ nR 0 0 []), rfl, wf_strip (b := (Msg.mk 1 (Req.mk zH zI zJ zK zL zM zN) nP 0 0 0 nC ⟨none, 0, 0⟩ nR 0 0 [])) rfl HWF.out, ⟨World.ownsRow_nil _ _ _ _, (fun i x hx => by simp at hx), ⟨World.ownsRow_nil _ _ _ _, World.ownsRow_nil _ _ _ _⟩, ⟨World.ownsRow_nil _ _ _ _, World.ownsRow_nil _ _ _ _⟩⟩, rfl⟩⟩

set_option maxHeartbeats 4000000 in
set_option maxRecDepth 100000 in
theorem ref_parse_2 (l : List Int) (w : World) (hb : Byt l) (hl : l.length ≤ 1000000000000000) (zO zP zQ zR : Int) (zS : Bool) (zT zU : Int) (s0  : List Int × Bool) (sl : List Int) (br : Bool) (h0 : bnum 1 (l, false) = (2, s0)) (hq : rbRep s0 = ((Rep.mk zO zP zQ zR zS zT zU), (sl, br))) (hwf : (Msg.mk 2 nQ (Rep.mk zO zP zQ zR zS zT zU) 0 0 0 nC ⟨none, 0, 0⟩ nR 0 0 []).wf) (hst : (Msg.mk 2 nQ (Rep.mk zO zP zQ zR zS zT zU) 0 0 0 nC ⟨none, 0, 0⟩ nR 0 0 []).strip = (Msg.mk 2 nQ (Rep.mk zO zP zQ zR zS zT zU) 0 0 0 nC ⟨none, 0, 0⟩ nR 0 0 [])) :
    Calls Try.prog 15 #[.string (bstr l)] w fun e w' => RefOut l (Msg.mk 2 nQ (Rep.mk zO zP zQ zR zS zT zU) 0 0 0 nC ⟨none, 0, 0⟩ nR 0 0 []) br w w' e := by
  have H0 := hideV h0
  have HQ := hideV hq
  have HWF := hideV hwf
  have HST := hideV hst
  clear h0 hq hwf hst
  obtain ⟨s, hs⟩ : ∃ s, s = bstr [114] := ⟨_, rfl⟩
  have hsz : s.size = 1 := by rw [hs, bstr_size]; rfl
  have hl0 : ((s[0]'(by rw [hsz]; decide)).toNat : Int) = 114 := str_at hs rfl (by decide) _
  have hS : Rst (w.heap.size + 1) ((w.alloc (.cells (List.toArray oxM) 38)).alloc (.cells #[.string (bstr l), .bool false] 122)) (l, false) := ⟨heap_alloc2_new w _ _, hb, hl⟩
  have hR : ((w.alloc (.cells (List.toArray oxM) 38)).alloc (.cells #[.string (bstr l), .bool false] 122)).heap[w.heap.size]? = some (.cells (List.toArray oxM) 38) := heap_alloc2_old w _ _
  have hU := upd_alloc2 (w.heap.size + 1) w (.cells (List.toArray oxM) 38) (.cells #[.string (bstr l), .bool false] 122)
  have hle : w.heap.size + 2 ≤ ((w.alloc (.cells (List.toArray oxM) 38)).alloc (.cells #[.string (bstr l), .bool false] 122)).heap.size := by simp
  have hneR : w.heap.size ≠ w.heap.size + 1 := by omega
  go_enter Try.func15, Try.ntmps15
  go_wp2_with (first | (go_at_call 46; go_must (refine (rest_raw H0.out _ hS (by decide)).mono ?_; rintro e w1 ⟨rfl, hS1, hU1⟩; have hU := upd_trans hU hU1; have hR := upd_blk hU1 hneR hR; have hS := hS1; have hle := Nat.le_trans hle hU1.size)) | (with_reducible show AtS 38 5 ..; go_must (refine wpList_store_blk rfl _ _ _ rfl rfl w1.heap.size 0 rfl (rM 2 0 0 0 0 0 0 0 0 0 0 0 false 0 0 0 0 0 0 0 0 0 0 0 0 0 0 0 0 0 0 none 0 0 none 0 0 0 0 none 0 0 0 0 0 0 0 none 0 0 none 0 0 0 0) rfl _ sz_msg rfl rfl _ _ (heap_alloc_new w1 (.cells (List.toArray oxM) 38)) rfl (rM 2 0 0 0 0 0 0 0 0 0 0 0 false 0 0 0 0 0 0 0 0 0 0 0 0 0 0 0 0 0 0 none 0 0 none 0 0 0 0 none 0 0 0 0 0 0 0 none 0 0 none 0 0 0 0) rfl ?_; intro w2 hV hO2; have hR := (hO2.block w.heap.size (by omega)).trans (blk_later (later_alloc w1 (.cells (List.toArray oxM) 38)) hR); have hS := (hS.alloc (.cells (List.toArray oxM) 38)).only hO2 (by omega); have hU := upd_new (upd_trans hU (upd_alloc1 _ w1 (.cells (List.toArray oxM) 38))) hO2 (by omega); obtain ⟨bM, hbMe⟩ : ∃ b, b = w1.heap.size := ⟨_, rfl⟩; rw [← hbMe] at hV ⊢; have hneV : bM ≠ w.heap.size + 1 := (by omega); have hneBV : w.heap.size + 1 ≠ bM := (by omega); have hneRV : w.heap.size ≠ bM := (by omega); have hbM : w.heap.size ≤ bM := (by omega); have hB := blk_cell hV; clear hbMe)) | (go_at_call 36; go_must (refine (ref_letters_2 _).mono ?_; rintro e w1 ⟨rfl, hbel⟩; rw [← hs]; have hU := upd_trans hU (upd_of_below hbel); have hR := blk_later hbel hR; have hV := blk_later hbel hV; have hS := hS.later hbel; clear hB)))
  refine wp_loop_rounds 2 ?_
  rw [rounds_succ]
  go_wp2_with (first | (go_at_call 48; go_must (refine (rep_raw HQ.out _ hS).mono ?_; rintro e w1 ⟨rfl, hS1, hU1⟩; have hU := upd_trans hU hU1; have hR := upd_blk hU1 hneR hR; have hV := upd_blk hU1 hneV hV; have hS := hS1)) | (with_reducible show AtS 27 41 ..; go_must (refine wpList_store_blk rfl _ _ _ rfl rfl bM 8 rfl (rP zO zP zQ zR zS zT zU) rfl _ sz_rep rfl rfl _ _ hV rfl (rM 2 0 0 0 0 0 0 0 zO zP zQ zR zS zT zU 0 0 0 0 0 0 0 0 0 0 0 0 0 0 0 0 none 0 0 none 0 0 0 0 none 0 0 0 0 0 0 0 none 0 0 none 0 0 0 0) rfl ?_; intro w1 hV1 hO1; have hV := hV1; have hU := upd_new hU hO1 hbM; have hR := (hO1.block _ hneRV).trans hR; have hS := hS.only hO1 hneBV)))
  rw [rounds_succ]
  go_upto_region 33 with (first | (with_reducible show AtL 107 38 ..; go_must (refine wpList_load_blk rfl _ _ rfl bM 0 rfl 45 _ Try.underlying38 rfl sz_msg _ _ hV rfl (rM 2 0 0 0 0 0 0 0 zO zP zQ zR zS zT zU 0 0 0 0 0 0 0 0 0 0 0 0 0 0 0 0 none 0 0 none 0 0 0 0 none 0 0 0 0 0 0 0 none 0 0 none 0 0 0 0) rfl ?_)) | (go_at_call 12; go_must (have HFIT : Hid (Msg.fit (Msg.mk 2 nQ (Rep.mk zO zP zQ zR zS zT zU) 0 0 0 nC ⟨none, 0, 0⟩ nR 0 0 [])) := ⟨⟨rfl, rfl⟩, ⟨rfl, rfl⟩, rfl, fun i x hx => by simp at hx⟩; refine (ref_any _ _ _ _ _ _ _ _ _ _ _ _ _ _ _ _ _ _ _ _ _ _ _ _ _ _ _ _ _ _ _ _ _ _ _ _ _ _ _ _ _ _ _ _ _ _ _ _ _ _ _ _ _ _ _ [] [] [] [] [] _ (noVotes_in _) (noRng_in _).rows (noRng_in _).dups (noRng_in _).rows (noRng_in _).dups (wf_strip (b := (Msg.mk 2 nQ (Rep.mk zO zP zQ zR zS zT zU) 0 0 0 nC ⟨none, 0, 0⟩ nR 0 0 [])) rfl HWF.out) (.inr rfl)).mono ?_; rintro e w1 ⟨rfl, hbel⟩; have hU := upd_trans hU (upd_of_below hbel); have hR := blk_later hbel hR; have hV := blk_later hbel hV; have hS := hS.later hbel)))
  have hcB := blk_cell hS.blk
  obtain ⟨hm1, hm2⟩ := ref_ans (a := (Msg.mk 2 nQ (Rep.mk zO zP zQ zR zS zT zU) 0 0 0 nC ⟨none, 0, 0⟩ nR 0 0 [])) (b := (Msg.mk 2 nQ (Rep.mk zO zP zQ zR zS zT zU) 0 0 0 nC ⟨none, 0, 0⟩ nR 0 0 [])) rfl HST.out HFIT.out
  cases br
  case true =>
    go_wp2_with (first | (with_reducible show AtS 38 2 ..; go_must (refine wpList_store_blk rfl _ _ _ rfl rfl w.heap.size 0 rfl oxM rfl _ sz_msg rfl rfl _ _ hR rfl oxM rfl ?_; intro w9 hR9 hO9; have hU := upd_new hU hO9 (Nat.le_refl _))))
    exact bodyPost_ret (v := .tuple #[.agg (List.toArray oxM), .int .i64 2]) (results_cell_row_tmp Try.results15 _ _ w.heap.size 38 _ (0, 0) _ rfl hR9 Try.underlying38 rfl sz_msg) rfl ⟨below_of_upd hU, .inr ⟨(fun h => (by cases h.1)), rfl⟩⟩

  case false =>
  by_cases hok : (Msg.mk 2 nQ (Rep.mk zO zP zQ zR zS zT zU) 0 0 0 nC ⟨none, 0, 0⟩ nR 0 0 []).ok = true
  case neg =>
    have hE : mE (Msg.mk 2 nQ (Rep.mk zO zP zQ zR zS zT zU) 0 0 0 nC ⟨none, 0, 0⟩ nR 0 0 []) = 1 := by rw [hm2]; exact mE_no hok
    rw [hE]
    go_wp2_with (first | (with_reducible show AtS 38 2 ..; go_must (refine wpList_store_blk rfl _ _ _ rfl rfl w.heap.size 0 rfl oxM rfl _ sz_msg rfl rfl _ _ hR rfl oxM rfl ?_; intro w9 hR9 hO9; have hU := upd_new hU hO9 (Nat.le_refl _))))
    exact bodyPost_ret (v := .tuple #[.agg (List.toArray oxM), .int .i64 2]) (results_cell_row_tmp Try.results15 _ _ w.heap.size 38 _ (0, 0) _ rfl hR9 Try.underlying38 rfl sz_msg) rfl ⟨below_of_upd hU, .inr ⟨(fun h => hok h.2.1), rfl⟩⟩

  case pos =>
  have hE : mE (Msg.mk 2 nQ (Rep.mk zO zP zQ zR zS zT zU) 0 0 0 nC ⟨none, 0, 0⟩ nR 0 0 []) = 0 := by rw [hm2]; exact mE_yes hok
  have hT : mS (Msg.mk 2 nQ (Rep.mk zO zP zQ zR zS zT zU) 0 0 0 nC ⟨none, 0, 0⟩ nR 0 0 []) = bstr (Msg.mk 2 nQ (Rep.mk zO zP zQ zR zS zT zU) 0 0 0 nC ⟨none, 0, 0⟩ nR 0 0 []).bytes := by rw [hm1]; exact mS_yes hok
  rw [hE, hT]
  by_cases hby : (Msg.mk 2 nQ (Rep.mk zO zP zQ zR zS zT zU) 0 0 0 nC ⟨none, 0, 0⟩ nR 0 0 []).bytes = l
  case neg =>
    have hne := str_ne (fun h => hby (bstr_inj (byt_msg HWF.out hok) hb h))
    go_wp2_with (first | (with_reducible show AtS 38 2 ..; go_must (refine wpList_store_blk rfl _ _ _ rfl rfl w.heap.size 0 rfl oxM rfl _ sz_msg rfl rfl _ _ hR rfl oxM rfl ?_; intro w9 hR9 hO9; have hU := upd_new hU hO9 (Nat.le_refl _))))
    exact bodyPost_ret (v := .tuple #[.agg (List.toArray oxM), .int .i64 2]) (results_cell_row_tmp Try.results15 _ _ w.heap.size 38 _ (0, 0) _ rfl hR9 Try.underlying38 rfl sz_msg) rfl ⟨below_of_upd hU, .inr ⟨(fun h => hby h.2.2), rfl⟩⟩

  case pos =>
    rw [hby]
    have hne := str_eqV (bstr l)
    go_wp2_with (first | (with_reducible show AtL 125 38 ..; go_must (refine wpList_load_blk rfl _ _ rfl bM 0 rfl 45 _ Try.underlying38 rfl sz_msg _ _ hV rfl (rM 2 0 0 0 0 0 0 0 zO zP zQ zR zS zT zU 0 0 0 0 0 0 0 0 0 0 0 0 0 0 0 0 none 0 0 none 0 0 0 0 none 0 0 0 0 0 0 0 none 0 0 none 0 0 0 0) rfl ?_)) | (with_reducible show AtS 38 2 ..; go_must (refine wpList_store_blk rfl _ _ _ rfl rfl w.heap.size 0 rfl (rM 2 0 0 0 0 0 0 0 zO zP zQ zR zS zT zU 0 0 0 0 0 0 0 0 0 0 0 0 0 0 0 0 none 0 0 none 0 0 0 0 none 0 0 0 0 0 0 0 none 0 0 none 0 0 0 0) rfl _ sz_msg rfl rfl _ _ hR rfl (rM 2 0 0 0 0 0 0 0 zO zP zQ zR zS zT zU 0 0 0 0 0 0 0 0 0 0 0 0 0 0 0 0 none 0 0 none 0 0 0 0 none 0 0 0 0 0 0 0 none 0 0 none 0 0 0 0) rfl ?_; intro w9 hR9 hO9; have hU := upd_new hU hO9 (Nat.le_refl _))))
    exact bodyPost_ret (v := .tuple #[.agg (List.toArray (rM 2 0 0 0 0 0 0 0 zO zP zQ zR zS zT zU 0 0 0 0 0 0 0 0 0 0 0 0 0 0 0 0 none 0 0 none 0 0 0 0 none 0 0 0 0 0 0 0 none 0 0 none 0 0 0 0)), .int .i64 0]) (results_cell_row_tmp Try.results15 _ _ w.heap.size 38 _ (0, 0) _ rfl hR9 Try.underlying38 rfl sz_msg) rfl ⟨below_of_upd hU, .inl ⟨⟨rfl, hok, hby⟩, (Msg.mk 2 nQ (Rep.mk zO zP zQ zR zS zT zU) 0 0 0 nC ⟨none, 0, 0⟩ nR 0 0 []), rfl, wf_strip (b := (Msg.mk 2 nQ (Rep.mk zO zP zQ zR zS zT zU) 0 0 0 nC ⟨none, 0, 0⟩ nR 0 0 [])) rfl HWF.out, ⟨World.ownsRow_nil _ _ _ _, (fun i x hx => by simp at hx), ⟨World.ownsRow_nil _ _ _ _, World.ownsRow_nil _ _ _ _⟩, ⟨World.ownsRow_nil _ _ _ _, World.ownsRow_nil _ _ _ _⟩⟩, rfl⟩⟩

set_option maxHeartbeats 4000000 in
set_option maxRecDepth 100000 in
theorem ref_parse_3 (l : List Int) (w : World) (hb : Byt l) (hl : l.length ≤ 1000000000000000) (mn zZ : Int) (s0 sa : List Int × Bool) (sl : List Int) (br : Bool) (h0 : bnum 1 (l, false) = (3, s0)) (hb4 : bnum 4 s0 = (mn, sa)) (hb1 : bnum 1 sa = (zZ, (sl, br))) (hwf : (Msg.mk 3 nQ nP mn zZ 0 nC ⟨none, 0, 0⟩ nR 0 0 []).wf) (hst : (Msg.mk 3 nQ nP mn zZ 0 nC ⟨none, 0, 0⟩ nR 0 0 []).strip = (Msg.mk 3 nQ nP mn zZ 0 nC ⟨none, 0, 0⟩ nR 0 0 [])) :
    Calls Try.prog 15 #[.string (bstr l)] w fun e w' => RefOut l (Msg.mk 3 nQ nP mn zZ 0 nC ⟨none, 0, 0⟩ nR 0 0 []) br w w' e := by
  have H0 := hideV h0
  have HB4 := hideV hb4
  have HB1 := hideV hb1
  have HWF := hideV hwf
  have HST := hideV hst
  clear h0 hb4 hb1 hwf hst
  obtain ⟨s, hs⟩ : ∃ s, s = bstr [98] := ⟨_, rfl⟩
  have hsz : s.size = 1 := by rw [hs, bstr_size]; rfl
  have hl0 : ((s[0]'(by rw [hsz]; decide)).toNat : Int) = 98 := str_at hs rfl (by decide) _
  have hS : Rst (w.heap.size + 1) ((w.alloc (.cells (List.toArray oxM) 38)).alloc (.cells #[.string (bstr l), .bool false] 122)) (l, false) := ⟨heap_alloc2_new w _ _, hb, hl⟩
  have hR : ((w.alloc (.cells (List.toArray oxM) 38)).alloc (.cells #[.string (bstr l), .bool false] 122)).heap[w.heap.size]? = some (.cells (List.toArray oxM) 38) := heap_alloc2_old w _ _
  have hU := upd_alloc2 (w.heap.size + 1) w (.cells (List.toArray oxM) 38) (.cells #[.string (bstr l), .bool false] 122)
  have hle : w.heap.size + 2 ≤ ((w.alloc (.cells (List.toArray oxM) 38)).alloc (.cells #[.string (bstr l), .bool false] 122)).heap.size := by simp
  have hneR : w.heap.size ≠ w.heap.size + 1 := by omega
  go_enter Try.func15, Try.ntmps15
  go_wp2_with (first | (go_at_call 46; go_must (refine (rest_raw H0.out _ hS (by decide)).mono ?_; rintro e w1 ⟨rfl, hS1, hU1⟩; have hU := upd_trans hU hU1; have hR := upd_blk hU1 hneR hR; have hS := hS1; have hle := Nat.le_trans hle hU1.size)) | (with_reducible show AtS 38 5 ..; go_must (refine wpList_store_blk rfl _ _ _ rfl rfl w1.heap.size 0 rfl (rM 3 0 0 0 0 0 0 0 0 0 0 0 false 0 0 0 0 0 0 0 0 0 0 0 0 0 0 0 0 0 0 none 0 0 none 0 0 0 0 none 0 0 0 0 0 0 0 none 0 0 none 0 0 0 0) rfl _ sz_msg rfl rfl _ _ (heap_alloc_new w1 (.cells (List.toArray oxM) 38)) rfl (rM 3 0 0 0 0 0 0 0 0 0 0 0 false 0 0 0 0 0 0 0 0 0 0 0 0 0 0 0 0 0 0 none 0 0 none 0 0 0 0 none 0 0 0 0 0 0 0 none 0 0 none 0 0 0 0) rfl ?_; intro w2 hV hO2; have hR := (hO2.block w.heap.size (by omega)).trans (blk_later (later_alloc w1 (.cells (List.toArray oxM) 38)) hR); have hS := (hS.alloc (.cells (List.toArray oxM) 38)).only hO2 (by omega); have hU := upd_new (upd_trans hU (upd_alloc1 _ w1 (.cells (List.toArray oxM) 38))) hO2 (by omega); obtain ⟨bM, hbMe⟩ : ∃ b, b = w1.heap.size := ⟨_, rfl⟩; rw [← hbMe] at hV ⊢; have hneV : bM ≠ w.heap.size + 1 := (by omega); have hneBV : w.heap.size + 1 ≠ bM := (by omega); have hneRV : w.heap.size ≠ bM := (by omega); have hbM : w.heap.size ≤ bM := (by omega); have hB := blk_cell hV; clear hbMe)) | (go_at_call 36; go_must (refine (ref_letters_3 _).mono ?_; rintro e w1 ⟨rfl, hbel⟩; rw [← hs]; have hU := upd_trans hU (upd_of_below hbel); have hR := blk_later hbel hR; have hV := blk_later hbel hV; have hS := hS.later hbel; clear hB)))
  refine wp_loop_rounds 2 ?_
  rw [rounds_succ]
  go_wp2_with (first | (go_at_call 49; go_must (refine (bal_raw HB4.out HB1.out _ hS).mono ?_; rintro e w1 ⟨rfl, hS1, hU1⟩; have hU := upd_trans hU hU1; have hR := upd_blk hU1 hneR hR; have hV := upd_blk hU1 hneV hV; have hS := hS1)) | (with_reducible show AtS 29 46 ..; go_must (refine wpList_store_blk rfl _ _ _ rfl rfl bM 15 rfl [.int .u32 mn, .int .u8 zZ] rfl _ sz_bal rfl rfl _ _ hV rfl (rM 3 0 0 0 0 0 0 0 0 0 0 0 false 0 0 mn zZ 0 0 0 0 0 0 0 0 0 0 0 0 0 0 none 0 0 none 0 0 0 0 none 0 0 0 0 0 0 0 none 0 0 none 0 0 0 0) rfl ?_; intro w1 hV1 hO1; have hV := hV1; have hU := upd_new hU hO1 hbM; have hR := (hO1.block _ hneRV).trans hR; have hS := hS.only hO1 hneBV)))
  rw [rounds_succ]
  go_upto_region 33 with (first | (with_reducible show AtL 107 38 ..; go_must (refine wpList_load_blk rfl _ _ rfl bM 0 rfl 45 _ Try.underlying38 rfl sz_msg _ _ hV rfl (rM 3 0 0 0 0 0 0 0 0 0 0 0 false 0 0 mn zZ 0 0 0 0 0 0 0 0 0 0 0 0 0 0 none 0 0 none 0 0 0 0 none 0 0 0 0 0 0 0 none 0 0 none 0 0 0 0) rfl ?_)) | (go_at_call 12; go_must (have HFIT : Hid (Msg.fit (Msg.mk 3 nQ nP mn zZ 0 nC ⟨none, 0, 0⟩ nR 0 0 [])) := ⟨⟨rfl, rfl⟩, ⟨rfl, rfl⟩, rfl, fun i x hx => by simp at hx⟩; refine (ref_any _ _ _ _ _ _ _ _ _ _ _ _ _ _ _ _ _ _ _ _ _ _ _ _ _ _ _ _ _ _ _ _ _ _ _ _ _ _ _ _ _ _ _ _ _ _ _ _ _ _ _ _ _ _ _ [] [] [] [] [] _ (noVotes_in _) (noRng_in _).rows (noRng_in _).dups (noRng_in _).rows (noRng_in _).dups (wf_strip (b := (Msg.mk 3 nQ nP mn zZ 0 nC ⟨none, 0, 0⟩ nR 0 0 [])) rfl HWF.out) (.inr rfl)).mono ?_; rintro e w1 ⟨rfl, hbel⟩; have hU := upd_trans hU (upd_of_below hbel); have hR := blk_later hbel hR; have hV := blk_later hbel hV; have hS := hS.later hbel)))
  have hcB := blk_cell hS.blk
  obtain ⟨hm1, hm2⟩ := ref_ans (a := (Msg.mk 3 nQ nP mn zZ 0 nC ⟨none, 0, 0⟩ nR 0 0 [])) (b := (Msg.mk 3 nQ nP mn zZ 0 nC ⟨none, 0, 0⟩ nR 0 0 [])) rfl HST.out HFIT.out
  cases br
  case true =>
    go_wp2_with (first | (with_reducible show AtS 38 2 ..; go_must (refine wpList_store_blk rfl _ _ _ rfl rfl w.heap.size 0 rfl oxM rfl _ sz_msg rfl rfl _ _ hR rfl oxM rfl ?_; intro w9 hR9 hO9; have hU := upd_new hU hO9 (Nat.le_refl _))))
    exact bodyPost_ret (v := .tuple #[.agg (List.toArray oxM), .int .i64 2]) (results_cell_row_tmp Try.results15 _ _ w.heap.size 38 _ (0, 0) _ rfl hR9 Try.underlying38 rfl sz_msg) rfl ⟨below_of_upd hU, .inr ⟨(fun h => (by cases h.1)), rfl⟩⟩

  case false =>
  by_cases hok : (Msg.mk 3 nQ nP mn zZ 0 nC ⟨none, 0, 0⟩ nR 0 0 []).ok = true
  case neg =>
    have hE : mE (Msg.mk 3 nQ nP mn zZ 0 nC ⟨none, 0, 0⟩ nR 0 0 []) = 1 := by rw [hm2]; exact mE_no hok
    rw [hE]
    go_wp2_with (first | (with_reducible show AtS 38 2 ..; go_must (refine wpList_store_blk rfl _ _ _ rfl rfl w.heap.size 0 rfl oxM rfl _ sz_msg rfl rfl _ _ hR rfl oxM rfl ?_; intro w9 hR9 hO9; have hU := upd_new hU hO9 (Nat.le_refl _))))
    exact bodyPost_ret (v := .tuple #[.agg (List.toArray oxM), .int .i64 2]) (results_cell_row_tmp Try.results15 _ _ w.heap.size 38 _ (0, 0) _ rfl hR9 Try.underlying38 rfl sz_msg) rfl ⟨below_of_upd hU, .inr ⟨(fun h => hok h.2.1), rfl⟩⟩

  case pos =>
  have hE : mE (Msg.mk 3 nQ nP mn zZ 0 nC ⟨none, 0, 0⟩ nR 0 0 []) = 0 := by rw [hm2]; exact mE_yes hok
  have hT : mS (Msg.mk 3 nQ nP mn zZ 0 nC ⟨none, 0, 0⟩ nR 0 0 []) = bstr (Msg.mk 3 nQ nP mn zZ 0 nC ⟨none, 0, 0⟩ nR 0 0 []).bytes := by rw [hm1]; exact mS_yes hok
  rw [hE, hT]
  by_cases hby : (Msg.mk 3 nQ nP mn zZ 0 nC ⟨none, 0, 0⟩ nR 0 0 []).bytes = l
  case neg =>
    have hne := str_ne (fun h => hby (bstr_inj (byt_msg HWF.out hok) hb h))
    go_wp2_with (first | (with_reducible show AtS 38 2 ..; go_must (refine wpList_store_blk rfl _ _ _ rfl rfl w.heap.size 0 rfl oxM rfl _ sz_msg rfl rfl _ _ hR rfl oxM rfl ?_; intro w9 hR9 hO9; have hU := upd_new hU hO9 (Nat.le_refl _))))
    exact bodyPost_ret (v := .tuple #[.agg (List.toArray oxM), .int .i64 2]) (results_cell_row_tmp Try.results15 _ _ w.heap.size 38 _ (0, 0) _ rfl hR9 Try.underlying38 rfl sz_msg) rfl ⟨below_of_upd hU, .inr ⟨(fun h => hby h.2.2), rfl⟩⟩

  case pos =>
    rw [hby]
    have hne := str_eqV (bstr l)
    go_wp2_with (first | (with_reducible show AtL 125 38 ..; go_must (refine wpList_load_blk rfl _ _ rfl bM 0 rfl 45 _ Try.underlying38 rfl sz_msg _ _ hV rfl (rM 3 0 0 0 0 0 0 0 0 0 0 0 false 0 0 mn zZ 0 0 0 0 0 0 0 0 0 0 0 0 0 0 none 0 0 none 0 0 0 0 none 0 0 0 0 0 0 0 none 0 0 none 0 0 0 0) rfl ?_)) | (with_reducible show AtS 38 2 ..; go_must (refine wpList_store_blk rfl _ _ _ rfl rfl w.heap.size 0 rfl (rM 3 0 0 0 0 0 0 0 0 0 0 0 false 0 0 mn zZ 0 0 0 0 0 0 0 0 0 0 0 0 0 0 none 0 0 none 0 0 0 0 none 0 0 0 0 0 0 0 none 0 0 none 0 0 0 0) rfl _ sz_msg rfl rfl _ _ hR rfl (rM 3 0 0 0 0 0 0 0 0 0 0 0 false 0 0 mn zZ 0 0 0 0 0 0 0 0 0 0 0 0 0 0 none 0 0 none 0 0 0 0 none 0 0 0 0 0 0 0 none 0 0 none 0 0 0 0) rfl ?_; intro w9 hR9 hO9; have hU := upd_new hU hO9 (Nat.le_refl _))))
    exact bodyPost_ret (v := .tuple #[.agg (List.toArray (rM 3 0 0 0 0 0 0 0 0 0 0 0 false 0 0 mn zZ 0 0 0 0 0 0 0 0 0 0 0 0 0 0 none 0 0 none 0 0 0 0 none 0 0 0 0 0 0 0 none 0 0 none 0 0 0 0)), .int .i64 0]) (results_cell_row_tmp Try.results15 _ _ w.heap.size 38 _ (0, 0) _ rfl hR9 Try.underlying38 rfl sz_msg) rfl ⟨below_of_upd hU, .inl ⟨⟨rfl, hok, hby⟩, (Msg.mk 3 nQ nP mn zZ 0 nC ⟨none, 0, 0⟩ nR 0 0 []), rfl, wf_strip (b := (Msg.mk 3 nQ nP mn zZ 0 nC ⟨none, 0, 0⟩ nR 0 0 [])) rfl HWF.out, ⟨World.ownsRow_nil _ _ _ _, (fun i x hx => by simp at hx), ⟨World.ownsRow_nil _ _ _ _, World.ownsRow_nil _ _ _ _⟩, ⟨World.ownsRow_nil _ _ _ _, World.ownsRow_nil _ _ _ _⟩⟩, rfl⟩⟩

set_option maxHeartbeats 4000000 in
set_option maxRecDepth 100000 in
theorem ref_parse_5 (l : List Int) (w : World) (hb : Byt l) (hl : l.length ≤ 1000000000000000) (mn zZ : Int) (s0 sa : List Int × Bool) (sl : List Int) (br : Bool) (h0 : bnum 1 (l, false) = (5, s0)) (hb4 : bnum 4 s0 = (mn, sa)) (hb1 : bnum 1 sa = (zZ, (sl, br))) (hwf : (Msg.mk 5 nQ nP mn zZ 0 nC ⟨none, 0, 0⟩ nR 0 0 []).wf) (hst : (Msg.mk 5 nQ nP mn zZ 0 nC ⟨none, 0, 0⟩ nR 0 0 []).strip = (Msg.mk 5 nQ nP mn zZ 0 nC ⟨none, 0, 0⟩ nR 0 0 [])) :
    Calls Try.prog 15 #[.string (bstr l)] w fun e w' => RefOut l (Msg.mk 5 nQ nP mn zZ 0 nC ⟨none, 0, 0⟩ nR 0 0 []) br w w' e := by
  have H0 := hideV h0
  have HB4 := hideV hb4
  have HB1 := hideV hb1
  have HWF := hideV hwf
  have HST := hideV hst
  clear h0 hb4 hb1 hwf hst
  obtain ⟨s, hs⟩ : ∃ s, s = bstr [98] := ⟨_, rfl⟩
  have hsz : s.size = 1 := by rw [hs, bstr_size]; rfl
  have hl0 : ((s[0]'(by rw [hsz]; decide)).toNat : Int) = 98 := str_at hs rfl (by decide) _
  have hS : Rst (w.heap.size + 1) ((w.alloc (.cells (List.toArray oxM) 38)).alloc (.cells #[.string (bstr l), .bool false] 122)) (l, false) := ⟨heap_alloc2_new w _ _, hb, hl⟩
  have hR : ((w.alloc (.cells (List.toArray oxM) 38)).alloc (.cells #[.string (bstr l), .bool false] 122)).heap[w.heap.size]? = some (.cells (List.toArray oxM) 38) := heap_alloc2_old w _ _
  have hU := upd_alloc2 (w.heap.size + 1) w (.cells (List.toArray oxM) 38) (.cells #[.string (bstr l), .bool false] 122)
  have hle : w.heap.size + 2 ≤ ((w.alloc (.cells (List.toArray oxM) 38)).alloc (.cells #[.string (bstr l), .bool false] 122)).heap.size := by simp
  have hneR : w.heap.size ≠ w.heap.size + 1 := by omega
  go_enter Try.func15, Try.ntmps15
  go_wp2_with (first | (go_at_call 46; go_must (refine (rest_raw H0.out _ hS (by decide)).mono ?_; rintro e w1 ⟨rfl, hS1, hU1⟩; have hU := upd_trans hU hU1; have hR := upd_blk hU1 hneR hR; have hS := hS1; have hle := Nat.le_trans hle hU1.size)) | (with_reducible show AtS 38 5 ..; go_must (refine wpList_store_blk rfl _ _ _ rfl rfl w1.heap.size 0 rfl (rM 5 0 0 0 0 0 0 0 0 0 0 0 false 0 0 0 0 0 0 0 0 0 0 0 0 0 0 0 0 0 0 none 0 0 none 0 0 0 0 none 0 0 0 0 0 0 0 none 0 0 none 0 0 0 0) rfl _ sz_msg rfl rfl _ _ (heap_alloc_new w1 (.cells (List.toArray oxM) 38)) rfl (rM 5 0 0 0 0 0 0 0 0 0 0 0 false 0 0 0 0 0 0 0 0 0 0 0 0 0 0 0 0 0 0 none 0 0 none 0 0 0 0 none 0 0 0 0 0 0 0 none 0 0 none 0 0 0 0) rfl ?_; intro w2 hV hO2; have hR := (hO2.block w.heap.size (by omega)).trans (blk_later (later_alloc w1 (.cells (List.toArray oxM) 38)) hR); have hS := (hS.alloc (.cells (List.toArray oxM) 38)).only hO2 (by omega); have hU := upd_new (upd_trans hU (upd_alloc1 _ w1 (.cells (List.toArray oxM) 38))) hO2 (by omega); obtain ⟨bM, hbMe⟩ : ∃ b, b = w1.heap.size := ⟨_, rfl⟩; rw [← hbMe] at hV ⊢; have hneV : bM ≠ w.heap.size + 1 := (by omega); have hneBV : w.heap.size + 1 ≠ bM := (by omega); have hneRV : w.heap.size ≠ bM := (by omega); have hbM : w.heap.size ≤ bM := (by omega); have hB := blk_cell hV; clear hbMe)) | (go_at_call 36; go_must (refine (ref_letters_5 _).mono ?_; rintro e w1 ⟨rfl, hbel⟩; rw [← hs]; have hU := upd_trans hU (upd_of_below hbel); have hR := blk_later hbel hR; have hV := blk_later hbel hV; have hS := hS.later hbel; clear hB)))
  refine wp_loop_rounds 2 ?_
  rw [rounds_succ]
  go_wp2_with (first | (go_at_call 49; go_must (refine (bal_raw HB4.out HB1.out _ hS).mono ?_; rintro e w1 ⟨rfl, hS1, hU1⟩; have hU := upd_trans hU hU1; have hR := upd_blk hU1 hneR hR; have hV := upd_blk hU1 hneV hV; have hS := hS1)) | (with_reducible show AtS 29 46 ..; go_must (refine wpList_store_blk rfl _ _ _ rfl rfl bM 15 rfl [.int .u32 mn, .int .u8 zZ] rfl _ sz_bal rfl rfl _ _ hV rfl (rM 5 0 0 0 0 0 0 0 0 0 0 0 false 0 0 mn zZ 0 0 0 0 0 0 0 0 0 0 0 0 0 0 none 0 0 none 0 0 0 0 none 0 0 0 0 0 0 0 none 0 0 none 0 0 0 0) rfl ?_; intro w1 hV1 hO1; have hV := hV1; have hU := upd_new hU hO1 hbM; have hR := (hO1.block _ hneRV).trans hR; have hS := hS.only hO1 hneBV)))
  rw [rounds_succ]
  go_upto_region 33 with (first | (with_reducible show AtL 107 38 ..; go_must (refine wpList_load_blk rfl _ _ rfl bM 0 rfl 45 _ Try.underlying38 rfl sz_msg _ _ hV rfl (rM 5 0 0 0 0 0 0 0 0 0 0 0 false 0 0 mn zZ 0 0 0 0 0 0 0 0 0 0 0 0 0 0 none 0 0 none 0 0 0 0 none 0 0 0 0 0 0 0 none 0 0 none 0 0 0 0) rfl ?_)) | (go_at_call 12; go_must (have HFIT : Hid (Msg.fit (Msg.mk 5 nQ nP mn zZ 0 nC ⟨none, 0, 0⟩ nR 0 0 [])) := ⟨⟨rfl, rfl⟩, ⟨rfl, rfl⟩, rfl, fun i x hx => by simp at hx⟩; refine (ref_any _ _ _ _ _ _ _ _ _ _ _ _ _ _ _ _ _ _ _ _ _ _ _ _ _ _ _ _ _ _ _ _ _ _ _ _ _ _ _ _ _ _ _ _ _ _ _ _ _ _ _ _ _ _ _ [] [] [] [] [] _ (noVotes_in _) (noRng_in _).rows (noRng_in _).dups (noRng_in _).rows (noRng_in _).dups (wf_strip (b := (Msg.mk 5 nQ nP mn zZ 0 nC ⟨none, 0, 0⟩ nR 0 0 [])) rfl HWF.out) (.inr rfl)).mono ?_; rintro e w1 ⟨rfl, hbel⟩; have hU := upd_trans hU (upd_of_below hbel); have hR := blk_later hbel hR; have hV := blk_later hbel hV; have hS := hS.later hbel)))
  have hcB := blk_cell hS.blk
  obtain ⟨hm1, hm2⟩ := ref_ans (a := (Msg.mk 5 nQ nP mn zZ 0 nC ⟨none, 0, 0⟩ nR 0 0 [])) (b := (Msg.mk 5 nQ nP mn zZ 0 nC ⟨none, 0, 0⟩ nR 0 0 [])) rfl HST.out HFIT.out
  cases br
  case true =>
    go_wp2_with (first | (with_reducible show AtS 38 2 ..; go_must (refine wpList_store_blk rfl _ _ _ rfl rfl w.heap.size 0 rfl oxM rfl _ sz_msg rfl rfl _ _ hR rfl oxM rfl ?_; intro w9 hR9 hO9; have hU := upd_new hU hO9 (Nat.le_refl _))))
    exact bodyPost_ret (v := .tuple #[.agg (List.toArray oxM), .int .i64 2]) (results_cell_row_tmp Try.results15 _ _ w.heap.size 38 _ (0, 0) _ rfl hR9 Try.underlying38 rfl sz_msg) rfl ⟨below_of_upd hU, .inr ⟨(fun h => (by cases h.1)), rfl⟩⟩

  case false =>
  by_cases hok : (Msg.mk 5 nQ nP mn zZ 0 nC ⟨none, 0, 0⟩ nR 0 0 []).ok = true
  case neg =>
    have hE : mE (Msg.mk 5 nQ nP mn zZ 0 nC ⟨none, 0, 0⟩ nR 0 0 []) = 1 := by rw [hm2]; exact mE_no hok
    rw [hE]
    go_wp2_with (first | (with_reducible show AtS 38 2 ..; go_must (refine wpList_store_blk rfl _ _ _ rfl rfl w.heap.size 0 rfl oxM rfl _ sz_msg rfl rfl _ _ hR rfl oxM rfl ?_; intro w9 hR9 hO9; have hU := upd_new hU hO9 (Nat.le_refl _))))
    exact bodyPost_ret (v := .tuple #[.agg (List.toArray oxM), .int .i64 2]) (results_cell_row_tmp Try.results15 _ _ w.heap.size 38 _ (0, 0) _ rfl hR9 Try.underlying38 rfl sz_msg) rfl ⟨below_of_upd hU, .inr ⟨(fun h => hok h.2.1), rfl⟩⟩

  case pos =>
  have hE : mE (Msg.mk 5 nQ nP mn zZ 0 nC ⟨none, 0, 0⟩ nR 0 0 []) = 0 := by rw [hm2]; exact mE_yes hok
  have hT : mS (Msg.mk 5 nQ nP mn zZ 0 nC ⟨none, 0, 0⟩ nR 0 0 []) = bstr (Msg.mk 5 nQ nP mn zZ 0 nC ⟨none, 0, 0⟩ nR 0 0 []).bytes := by rw [hm1]; exact mS_yes hok
  rw [hE, hT]
  by_cases hby : (Msg.mk 5 nQ nP mn zZ 0 nC ⟨none, 0, 0⟩ nR 0 0 []).bytes = l
  case neg =>
    have hne := str_ne (fun h => hby (bstr_inj (byt_msg HWF.out hok) hb h))
    go_wp2_with (first | (with_reducible show AtS 38 2 ..; go_must (refine wpList_store_blk rfl _ _ _ rfl rfl w.heap.size 0 rfl oxM rfl _ sz_msg rfl rfl _ _ hR rfl oxM rfl ?_; intro w9 hR9 hO9; have hU := upd_new hU hO9 (Nat.le_refl _))))
    exact bodyPost_ret (v := .tuple #[.agg (List.toArray oxM), .int .i64 2]) (results_cell_row_tmp Try.results15 _ _ w.heap.size 38 _ (0, 0) _ rfl hR9 Try.underlying38 rfl sz_msg) rfl ⟨below_of_upd hU, .inr ⟨(fun h => hby h.2.2), rfl⟩⟩

  case pos =>
    rw [hby]
    have hne := str_eqV (bstr l)
    go_wp2_with (first | (with_reducible show AtL 125 38 ..; go_must (refine wpList_load_blk rfl _ _ rfl bM 0 rfl 45 _ Try.underlying38 rfl sz_msg _ _ hV rfl (rM 5 0 0 0 0 0 0 0 0 0 0 0 false 0 0 mn zZ 0 0 0 0 0 0 0 0 0 0 0 0 0 0 none 0 0 none 0 0 0 0 none 0 0 0 0 0 0 0 none 0 0 none 0 0 0 0) rfl ?_)) | (with_reducible show AtS 38 2 ..; go_must (refine wpList_store_blk rfl _ _ _ rfl rfl w.heap.size 0 rfl (rM 5 0 0 0 0 0 0 0 0 0 0 0 false 0 0 mn zZ 0 0 0 0 0 0 0 0 0 0 0 0 0 0 none 0 0 none 0 0 0 0 none 0 0 0 0 0 0 0 none 0 0 none 0 0 0 0) rfl _ sz_msg rfl rfl _ _ hR rfl (rM 5 0 0 0 0 0 0 0 0 0 0 0 false 0 0 mn zZ 0 0 0 0 0 0 0 0 0 0 0 0 0 0 none 0 0 none 0 0 0 0 none 0 0 0 0 0 0 0 none 0 0 none 0 0 0 0) rfl ?_; intro w9 hR9 hO9; have hU := upd_new hU hO9 (Nat.le_refl _))))
    exact bodyPost_ret (v := .tuple #[.agg (List.toArray (rM 5 0 0 0 0 0 0 0 0 0 0 0 false 0 0 mn zZ 0 0 0 0 0 0 0 0 0 0 0 0 0 0 none 0 0 none 0 0 0 0 none 0 0 0 0 0 0 0 none 0 0 none 0 0 0 0)), .int .i64 0]) (results_cell_row_tmp Try.results15 _ _ w.heap.size 38 _ (0, 0) _ rfl hR9 Try.underlying38 rfl sz_msg) rfl ⟨below_of_upd hU, .inl ⟨⟨rfl, hok, hby⟩, (Msg.mk 5 nQ nP mn zZ 0 nC ⟨none, 0, 0⟩ nR 0 0 []), rfl, wf_strip (b := (Msg.mk 5 nQ nP mn zZ 0 nC ⟨none, 0, 0⟩ nR 0 0 [])) rfl HWF.out, ⟨World.ownsRow_nil _ _ _ _, (fun i x hx => by simp at hx), ⟨World.ownsRow_nil _ _ _ _, World.ownsRow_nil _ _ _ _⟩, ⟨World.ownsRow_nil _ _ _ _, World.ownsRow_nil _ _ _ _⟩⟩, rfl⟩⟩

set_option maxHeartbeats 4000000 in
set_option maxRecDepth 100000 in
theorem ref_parse_7 (l : List Int) (w : World) (hb : Byt l) (hl : l.length ≤ 1000000000000000) (mn zZ : Int) (jA : Int) (s0 s1 sa : List Int × Bool) (sl : List Int) (br : Bool) (h0 : bnum 1 (l, false) = (7, s0)) (hb4 : bnum 4 s0 = (mn, sa)) (hb1 : bnum 1 sa = (zZ, s1)) (hs4 : bnum 4 s1 = (jA, (sl, br))) (hwf : (Msg.mk 7 nQ nP mn zZ jA nC ⟨none, 0, 0⟩ nR 0 0 []).wf) (hst : (Msg.mk 7 nQ nP mn zZ jA nC ⟨none, 0, 0⟩ nR 0 0 []).strip = (Msg.mk 7 nQ nP mn zZ jA nC ⟨none, 0, 0⟩ nR 0 0 [])) :
    Calls Try.prog 15 #[.string (bstr l)] w fun e w' => RefOut l (Msg.mk 7 nQ nP mn zZ jA nC ⟨none, 0, 0⟩ nR 0 0 []) br w w' e := by
  have H0 := hideV h0
  have HB4 := hideV hb4
  have HB1 := hideV hb1
  have HS4 := hideV hs4
  have hws : IntKind.u32.wrap jA = jA := wrap32 hwf.slot
  have HWF := hideV hwf
  have HST := hideV hst
  clear h0 hb4 hb1 hs4 hwf hst
  obtain ⟨s, hs⟩ : ∃ s, s = bstr [98, 115] := ⟨_, rfl⟩
  have hsz : s.size = 2 := by rw [hs, bstr_size]; rfl
  have hl0 : ((s[0]'(by rw [hsz]; decide)).toNat : Int) = 98 := str_at hs rfl (by decide) _
  have hl1 : ((s[1]'(by rw [hsz]; decide)).toNat : Int) = 115 := str_at hs rfl (by decide) _
  have hS : Rst (w.heap.size + 1) ((w.alloc (.cells (List.toArray oxM) 38)).alloc (.cells #[.string (bstr l), .bool false] 122)) (l, false) := ⟨heap_alloc2_new w _ _, hb, hl⟩
  have hR : ((w.alloc (.cells (List.toArray oxM) 38)).alloc (.cells #[.string (bstr l), .bool false] 122)).heap[w.heap.size]? = some (.cells (List.toArray oxM) 38) := heap_alloc2_old w _ _
  have hU := upd_alloc2 (w.heap.size + 1) w (.cells (List.toArray oxM) 38) (.cells #[.string (bstr l), .bool false] 122)
  have hle : w.heap.size + 2 ≤ ((w.alloc (.cells (List.toArray oxM) 38)).alloc (.cells #[.string (bstr l), .bool false] 122)).heap.size := by simp
  have hneR : w.heap.size ≠ w.heap.size + 1 := by omega
  go_enter Try.func15, Try.ntmps15
  go_wp2_with (first | (go_at_call 46; go_must (refine (rest_raw H0.out _ hS (by decide)).mono ?_; rintro e w1 ⟨rfl, hS1, hU1⟩; have hU := upd_trans hU hU1; have hR := upd_blk hU1 hneR hR; have hS := hS1; have hle := Nat.le_trans hle hU1.size)) | (with_reducible show AtS 38 5 ..; go_must (refine wpList_store_blk rfl _ _ _ rfl rfl w1.heap.size 0 rfl (rM 7 0 0 0 0 0 0 0 0 0 0 0 false 0 0 0 0 0 0 0 0 0 0 0 0 0 0 0 0 0 0 none 0 0 none 0 0 0 0 none 0 0 0 0 0 0 0 none 0 0 none 0 0 0 0) rfl _ sz_msg rfl rfl _ _ (heap_alloc_new w1 (.cells (List.toArray oxM) 38)) rfl (rM 7 0 0 0 0 0 0 0 0 0 0 0 false 0 0 0 0 0 0 0 0 0 0 0 0 0 0 0 0 0 0 none 0 0 none 0 0 0 0 none 0 0 0 0 0 0 0 none 0 0 none 0 0 0 0) rfl ?_; intro w2 hV hO2; have hR := (hO2.block w.heap.size (by omega)).trans (blk_later (later_alloc w1 (.cells (List.toArray oxM) 38)) hR); have hS := (hS.alloc (.cells (List.toArray oxM) 38)).only hO2 (by omega); have hU := upd_new (upd_trans hU (upd_alloc1 _ w1 (.cells (List.toArray oxM) 38))) hO2 (by omega); obtain ⟨bM, hbMe⟩ : ∃ b, b = w1.heap.size := ⟨_, rfl⟩; rw [← hbMe] at hV ⊢; have hneV : bM ≠ w.heap.size + 1 := (by omega); have hneBV : w.heap.size + 1 ≠ bM := (by omega); have hneRV : w.heap.size ≠ bM := (by omega); have hbM : w.heap.size ≤ bM := (by omega); have hB := blk_cell hV; clear hbMe)) | (go_at_call 36; go_must (refine (ref_letters_7 _).mono ?_; rintro e w1 ⟨rfl, hbel⟩; rw [← hs]; have hU := upd_trans hU (upd_of_below hbel); have hR := blk_later hbel hR; have hV := blk_later hbel hV; have hS := hS.later hbel; clear hB)))
  refine wp_loop_rounds 3 ?_
  rw [rounds_succ]
  go_wp2_with (first | (go_at_call 49; go_must (refine (bal_raw HB4.out HB1.out _ hS).mono ?_; rintro e w1 ⟨rfl, hS1, hU1⟩; have hU := upd_trans hU hU1; have hR := upd_blk hU1 hneR hR; have hV := upd_blk hU1 hneV hV; have hS := hS1)) | (with_reducible show AtS 29 46 ..; go_must (refine wpList_store_blk rfl _ _ _ rfl rfl bM 15 rfl [.int .u32 mn, .int .u8 zZ] rfl _ sz_bal rfl rfl _ _ hV rfl (rM 7 0 0 0 0 0 0 0 0 0 0 0 false 0 0 mn zZ 0 0 0 0 0 0 0 0 0 0 0 0 0 0 none 0 0 none 0 0 0 0 none 0 0 0 0 0 0 0 none 0 0 none 0 0 0 0) rfl ?_; intro w1 hV1 hO1; have hV := hV1; have hU := upd_new hU hO1 hbM; have hR := (hO1.block _ hneRV).trans hR; have hS := hS.only hO1 hneBV)))
  rw [rounds_succ]
  go_wp2_with (first | (go_at_call 46; go_must (refine (rest_raw HS4.out _ hS (by decide)).mono ?_; rintro e w1 ⟨rfl, hS1, hU1⟩; have hU := upd_trans hU hU1; have hR := upd_blk hU1 hneR hR; have hV := upd_blk hU1 hneV hV; have hS := hS1)) | (with_reducible show AtS 22 52 ..; go_must (refine wpList_store_cell rfl _ _ _ rfl rfl bM 17 rfl (.int .u32 jA) rfl sz_u32 rfl _ _ hV rfl (rM 7 0 0 0 0 0 0 0 0 0 0 0 false 0 0 mn zZ jA 0 0 0 0 0 0 0 0 0 0 0 0 0 none 0 0 none 0 0 0 0 none 0 0 0 0 0 0 0 none 0 0 none 0 0 0 0) rfl ?_; intro w1 hV1 hO1; have hV := hV1; have hU := upd_new hU hO1 hbM; have hR := (hO1.block _ hneRV).trans hR; have hS := hS.only hO1 hneBV)))
  rw [rounds_succ]
  go_upto_region 33 with (first | (with_reducible show AtL 107 38 ..; go_must (refine wpList_load_blk rfl _ _ rfl bM 0 rfl 45 _ Try.underlying38 rfl sz_msg _ _ hV rfl (rM 7 0 0 0 0 0 0 0 0 0 0 0 false 0 0 mn zZ jA 0 0 0 0 0 0 0 0 0 0 0 0 0 none 0 0 none 0 0 0 0 none 0 0 0 0 0 0 0 none 0 0 none 0 0 0 0) rfl ?_)) | (go_at_call 12; go_must (have HFIT : Hid (Msg.fit (Msg.mk 7 nQ nP mn zZ jA nC ⟨none, 0, 0⟩ nR 0 0 [])) := ⟨⟨rfl, rfl⟩, ⟨rfl, rfl⟩, rfl, fun i x hx => by simp at hx⟩; refine (ref_any _ _ _ _ _ _ _ _ _ _ _ _ _ _ _ _ _ _ _ _ _ _ _ _ _ _ _ _ _ _ _ _ _ _ _ _ _ _ _ _ _ _ _ _ _ _ _ _ _ _ _ _ _ _ _ [] [] [] [] [] _ (noVotes_in _) (noRng_in _).rows (noRng_in _).dups (noRng_in _).rows (noRng_in _).dups (wf_strip (b := (Msg.mk 7 nQ nP mn zZ jA nC ⟨none, 0, 0⟩ nR 0 0 [])) rfl HWF.out) (.inr rfl)).mono ?_; rintro e w1 ⟨rfl, hbel⟩; have hU := upd_trans hU (upd_of_below hbel); have hR := blk_later hbel hR; have hV := blk_later hbel hV; have hS := hS.later hbel)))
  have hcB := blk_cell hS.blk
  obtain ⟨hm1, hm2⟩ := ref_ans (a := (Msg.mk 7 nQ nP mn zZ jA nC ⟨none, 0, 0⟩ nR 0 0 [])) (b := (Msg.mk 7 nQ nP mn zZ jA nC ⟨none, 0, 0⟩ nR 0 0 [])) rfl HST.out HFIT.out
  cases br
  case true =>
    go_wp2_with (first | (with_reducible show AtS 38 2 ..; go_must (refine wpList_store_blk rfl _ _ _ rfl rfl w.heap.size 0 rfl oxM rfl _ sz_msg rfl rfl _ _ hR rfl oxM rfl ?_; intro w9 hR9 hO9; have hU := upd_new hU hO9 (Nat.le_refl _))))
    exact bodyPost_ret (v := .tuple #[.agg (List.toArray oxM), .int .i64 2]) (results_cell_row_tmp Try.results15 _ _ w.heap.size 38 _ (0, 0) _ rfl hR9 Try.underlying38 rfl sz_msg) rfl ⟨below_of_upd hU, .inr ⟨(fun h => (by cases h.1)), rfl⟩⟩

  case false =>
  by_cases hok : (Msg.mk 7 nQ nP mn zZ jA nC ⟨none, 0, 0⟩ nR 0 0 []).ok = true
  case neg =>
    have hE : mE (Msg.mk 7 nQ nP mn zZ jA nC ⟨none, 0, 0⟩ nR 0 0 []) = 1 := by rw [hm2]; exact mE_no hok
    rw [hE]
    go_wp2_with (first | (with_reducible show AtS 38 2 ..; go_must (refine wpList_store_blk rfl _ _ _ rfl rfl w.heap.size 0 rfl oxM rfl _ sz_msg rfl rfl _ _ hR rfl oxM rfl ?_; intro w9 hR9 hO9; have hU := upd_new hU hO9 (Nat.le_refl _))))
    exact bodyPost_ret (v := .tuple #[.agg (List.toArray oxM), .int .i64 2]) (results_cell_row_tmp Try.results15 _ _ w.heap.size 38 _ (0, 0) _ rfl hR9 Try.underlying38 rfl sz_msg) rfl ⟨below_of_upd hU, .inr ⟨(fun h => hok h.2.1), rfl⟩⟩

  case pos =>
  have hE : mE (Msg.mk 7 nQ nP mn zZ jA nC ⟨none, 0, 0⟩ nR 0 0 []) = 0 := by rw [hm2]; exact mE_yes hok
  have hT : mS (Msg.mk 7 nQ nP mn zZ jA nC ⟨none, 0, 0⟩ nR 0 0 []) = bstr (Msg.mk 7 nQ nP mn zZ jA nC ⟨none, 0, 0⟩ nR 0 0 []).bytes := by rw [hm1]; exact mS_yes hok
  rw [hE, hT]
  by_cases hby : (Msg.mk 7 nQ nP mn zZ jA nC ⟨none, 0, 0⟩ nR 0 0 []).bytes = l
  case neg =>
    have hne := str_ne (fun h => hby (bstr_inj (byt_msg HWF.out hok) hb h))
    go_wp2_with (first | (with_reducible show AtS 38 2 ..; go_must (refine wpList_store_blk rfl _ _ _ rfl rfl w.heap.size 0 rfl oxM rfl _ sz_msg rfl rfl _ _ hR rfl oxM rfl ?_; intro w9 hR9 hO9; have hU := upd_new hU hO9 (Nat.le_refl _))))
    exact bodyPost_ret (v := .tuple #[.agg (List.toArray oxM), .int .i64 2]) (results_cell_row_tmp Try.results15 _ _ w.heap.size 38 _ (0, 0) _ rfl hR9 Try.underlying38 rfl sz_msg) rfl ⟨below_of_upd hU, .inr ⟨(fun h => hby h.2.2), rfl⟩⟩

  case pos =>
    rw [hby]
    have hne := str_eqV (bstr l)
    go_wp2_with (first | (with_reducible show AtL 125 38 ..; go_must (refine wpList_load_blk rfl _ _ rfl bM 0 rfl 45 _ Try.underlying38 rfl sz_msg _ _ hV rfl (rM 7 0 0 0 0 0 0 0 0 0 0 0 false 0 0 mn zZ jA 0 0 0 0 0 0 0 0 0 0 0 0 0 none 0 0 none 0 0 0 0 none 0 0 0 0 0 0 0 none 0 0 none 0 0 0 0) rfl ?_)) | (with_reducible show AtS 38 2 ..; go_must (refine wpList_store_blk rfl _ _ _ rfl rfl w.heap.size 0 rfl (rM 7 0 0 0 0 0 0 0 0 0 0 0 false 0 0 mn zZ jA 0 0 0 0 0 0 0 0 0 0 0 0 0 none 0 0 none 0 0 0 0 none 0 0 0 0 0 0 0 none 0 0 none 0 0 0 0) rfl _ sz_msg rfl rfl _ _ hR rfl (rM 7 0 0 0 0 0 0 0 0 0 0 0 false 0 0 mn zZ jA 0 0 0 0 0 0 0 0 0 0 0 0 0 none 0 0 none 0 0 0 0 none 0 0 0 0 0 0 0 none 0 0 none 0 0 0 0) rfl ?_; intro w9 hR9 hO9; have hU := upd_new hU hO9 (Nat.le_refl _))))
    exact bodyPost_ret (v := .tuple #[.agg (List.toArray (rM 7 0 0 0 0 0 0 0 0 0 0 0 false 0 0 mn zZ jA 0 0 0 0 0 0 0 0 0 0 0 0 0 none 0 0 none 0 0 0 0 none 0 0 0 0 0 0 0 none 0 0 none 0 0 0 0)), .int .i64 0]) (results_cell_row_tmp Try.results15 _ _ w.heap.size 38 _ (0, 0) _ rfl hR9 Try.underlying38 rfl sz_msg) rfl ⟨below_of_upd hU, .inl ⟨⟨rfl, hok, hby⟩, (Msg.mk 7 nQ nP mn zZ jA nC ⟨none, 0, 0⟩ nR 0 0 []), rfl, wf_strip (b := (Msg.mk 7 nQ nP mn zZ jA nC ⟨none, 0, 0⟩ nR 0 0 [])) rfl HWF.out, ⟨World.ownsRow_nil _ _ _ _, (fun i x hx => by simp at hx), ⟨World.ownsRow_nil _ _ _ _, World.ownsRow_nil _ _ _ _⟩, ⟨World.ownsRow_nil _ _ _ _, World.ownsRow_nil _ _ _ _⟩⟩, rfl⟩⟩

end Go.Proofs.Ytignemioillaiaa

