/- The document's Parse, kind by kind (all but a Promise). The document's Parse, whatever the bytes. -/
import Derived.Test.YtignemioillaiaaD4
import Derived.Test.YtignemioillaiaaV8
import Derived.Test.YtignemioillaiaaV9
import Derived.Test.YtignemioillaiaaV10
namespace Go.Proofs.Ytignemioillaiaa
open Go.RowKit

set_option maxHeartbeats 4000000 in
set_option maxRecDepth 100000 in
theorem ref_parse_6 (l : List Int) (w : World) (hb : Byt l) (hl : l.length ≤ 1000000000000000) (mn zZ : Int) (jA : Int) (zV : Int) (zA zB zC zD zE zF zG : Int) (yA yB yC yD yE : Int) (crs cds : Sl) (yL : List Row) (yM : List Rep) (zW zX : Int) (s0 s1 sa s2 : List Int × Bool) (sl : List Int) (br : Bool) (h0 : bnum 1 (l, false) = (6, s0)) (hb4 : bnum 4 s0 = (mn, sa)) (hb1 : bnum 1 sa = (zZ, s1)) (hs4 : bnum 4 s1 = (jA, s2)) (hc : rbCmd s2 = (⟨zV, (Req.mk zA zB zC zD zE zF zG), ⟨yA, yB, yC, yD, yE, crs, cds, yL, yM⟩, zW, zX⟩, (sl, br))) (hwf : (Msg.mk 6 nQ nP mn zZ jA (Cmd.mk zV (Req.mk zA zB zC zD zE zF zG) (Rng.mk yA yB yC yD yE crs cds yL yM) zW zX) ⟨none, 0, 0⟩ nR 0 0 []).wf) (hst : (Msg.mk 6 nQ nP mn zZ jA (Cmd.mk zV (Req.mk zA zB zC zD zE zF zG) (Rng.mk yA yB yC yD yE crs cds yL yM) zW zX) ⟨none, 0, 0⟩ nR 0 0 []).strip = (Msg.mk 6 nQ nP mn zZ jA (Cmd.mk zV (Req.mk zA zB zC zD zE zF zG) (Rng.mk yA yB yC yD yE crs cds yL yM) zW zX) ⟨none, 0, 0⟩ nR 0 0 [])) :
    Calls Try.prog 15 #[.string (bstr l)] w fun e w' => RefOut l (Msg.mk 6 nQ nP mn zZ jA (Cmd.mk zV (Req.mk zA zB zC zD zE zF zG) (Rng.mk yA yB yC yD yE crs cds yL yM) zW zX) ⟨none, 0, 0⟩ nR 0 0 []) br w w' e := by
  have H0 := hideV h0
  have HB4 := hideV hb4
  have HB1 := hideV hb1
  have HS4 := hideV hs4
  have hws : IntKind.u32.wrap jA = jA := wrap32 hwf.slot
  have HC := hideV hc
  have HWF := hideV hwf
  have HST := hideV hst
  clear h0 hb4 hb1 hs4 hc hwf hst
  obtain ⟨s, hs⟩ : ∃ s, s = bstr [98, 115, 99] := ⟨_, rfl⟩
  have hsz : s.size = 3 := by rw [hs, bstr_size]; rfl
  have hl0 : ((s[0]'(by rw [hsz]; decide)).toNat : Int) = 98 := str_at hs rfl (by decide) _
  have hl1 : ((s[1]'(by rw [hsz]; decide)).toNat : Int) = 115 := str_at hs rfl (by decide) _
  have hl2 : ((s[2]'(by rw [hsz]; decide)).toNat : Int) = 99 := str_at hs rfl (by decide) _
  have hS : Rst (w.heap.size + 1) ((w.alloc (.cells (List.toArray oxM) 38)).alloc (.cells #[.string (bstr l), .bool false] 122)) (l, false) := ⟨heap_alloc2_new w _ _, hb, hl⟩
  have hR : ((w.alloc (.cells (List.toArray oxM) 38)).alloc (.cells #[.string (bstr l), .bool false] 122)).heap[w.heap.size]? = some (.cells (List.toArray oxM) 38) := heap_alloc2_old w _ _
  have hU := upd_alloc2 (w.heap.size + 1) w (.cells (List.toArray oxM) 38) (.cells #[.string (bstr l), .bool false] 122)
  have hle : w.heap.size + 2 ≤ ((w.alloc (.cells (List.toArray oxM) 38)).alloc (.cells #[.string (bstr l), .bool false] 122)).heap.size := by simp
  have hneR : w.heap.size ≠ w.heap.size + 1 := by omega
  go_enter Try.func15, Try.ntmps15
  go_wp2_with (first | (go_at_call 46; go_must (refine (rest_raw H0.out _ hS (by decide)).mono ?_; rintro e w1 ⟨rfl, hS1, hU1⟩; have hU := upd_trans hU hU1; have hR := upd_blk hU1 hneR hR; have hS := hS1; have hle := Nat.le_trans hle hU1.size)) | (with_reducible show AtS 38 5 ..; go_must (refine wpList_store_blk rfl _ _ _ rfl rfl w1.heap.size 0 rfl (rM 6 0 0 0 0 0 0 0 0 0 0 0 false 0 0 0 0 0 0 0 0 0 0 0 0 0 0 0 0 0 0 none 0 0 none 0 0 0 0 none 0 0 0 0 0 0 0 none 0 0 none 0 0 0 0) rfl _ sz_msg rfl rfl _ _ (heap_alloc_new w1 (.cells (List.toArray oxM) 38)) rfl (rM 6 0 0 0 0 0 0 0 0 0 0 0 false 0 0 0 0 0 0 0 0 0 0 0 0 0 0 0 0 0 0 none 0 0 none 0 0 0 0 none 0 0 0 0 0 0 0 none 0 0 none 0 0 0 0) rfl ?_; intro w2 hV hO2; have hR := (hO2.block w.heap.size (by omega)).trans (blk_later (later_alloc w1 (.cells (List.toArray oxM) 38)) hR); have hS := (hS.alloc (.cells (List.toArray oxM) 38)).only hO2 (by omega); have hU := upd_new (upd_trans hU (upd_alloc1 _ w1 (.cells (List.toArray oxM) 38))) hO2 (by omega); obtain ⟨bM, hbMe⟩ : ∃ b, b = w1.heap.size := ⟨_, rfl⟩; rw [← hbMe] at hV ⊢; have hneV : bM ≠ w.heap.size + 1 := (by omega); have hneBV : w.heap.size + 1 ≠ bM := (by omega); have hneRV : w.heap.size ≠ bM := (by omega); have hbM : w.heap.size ≤ bM := (by omega); have hB := blk_cell hV; clear hbMe)) | (go_at_call 36; go_must (refine (ref_letters_6 _).mono ?_; rintro e w1 ⟨rfl, hbel⟩; rw [← hs]; have hU := upd_trans hU (upd_of_below hbel); have hR := blk_later hbel hR; have hV := blk_later hbel hV; have hS := hS.later hbel; clear hB)))
  refine wp_loop_rounds 4 ?_
  rw [rounds_succ]
  go_wp2_with (first | (go_at_call 49; go_must (refine (bal_raw HB4.out HB1.out _ hS).mono ?_; rintro e w1 ⟨rfl, hS1, hU1⟩; have hU := upd_trans hU hU1; have hR := upd_blk hU1 hneR hR; have hV := upd_blk hU1 hneV hV; have hS := hS1)) | (with_reducible show AtS 29 46 ..; go_must (refine wpList_store_blk rfl _ _ _ rfl rfl bM 15 rfl [.int .u32 mn, .int .u8 zZ] rfl _ sz_bal rfl rfl _ _ hV rfl (rM 6 0 0 0 0 0 0 0 0 0 0 0 false 0 0 mn zZ 0 0 0 0 0 0 0 0 0 0 0 0 0 0 none 0 0 none 0 0 0 0 none 0 0 0 0 0 0 0 none 0 0 none 0 0 0 0) rfl ?_; intro w1 hV1 hO1; have hV := hV1; have hU := upd_new hU hO1 hbM; have hR := (hO1.block _ hneRV).trans hR; have hS := hS.only hO1 hneBV)))
  rw [rounds_succ]
  go_wp2_with (first | (go_at_call 46; go_must (refine (rest_raw HS4.out _ hS (by decide)).mono ?_; rintro e w1 ⟨rfl, hS1, hU1⟩; have hU := upd_trans hU hU1; have hR := upd_blk hU1 hneR hR; have hV := upd_blk hU1 hneV hV; have hS := hS1)) | (with_reducible show AtS 22 52 ..; go_must (refine wpList_store_cell rfl _ _ _ rfl rfl bM 17 rfl (.int .u32 jA) rfl sz_u32 rfl _ _ hV rfl (rM 6 0 0 0 0 0 0 0 0 0 0 0 false 0 0 mn zZ jA 0 0 0 0 0 0 0 0 0 0 0 0 0 none 0 0 none 0 0 0 0 none 0 0 0 0 0 0 0 none 0 0 none 0 0 0 0) rfl ?_; intro w1 hV1 hO1; have hV := hV1; have hU := upd_new hU hO1 hbM; have hR := (hO1.block _ hneRV).trans hR; have hS := hS.only hO1 hneBV)))
  rw [rounds_succ]
  go_wp2_with (first | (go_at_call 50; go_must (refine (rest_cmd _ _ _ hS _ _ _ _ _ _ _ _ _ _ _ _ _ _ _ _ _ _ _ _ HC.out).mono ?_; rintro e w1 ⟨yF, yG, yH, yI, yJ, yK, rfl, hoA, hoB, hS1, hU1⟩; have hbA := Nat.lt_of_lt_of_le (Array.getElem?_eq_some_iff.1 hV).1 (Nat.le_refl _); have hU := upd_trans hU hU1; have hR := upd_blk hU1 hneR hR; have hV := upd_blk hU1 hneV hV; have hS := hS1)) | (with_reducible show AtS 35 57 ..; go_must (refine wpList_store_blk rfl _ _ _ rfl rfl bM 18 rfl (rC zV zA zB zC zD zE zF zG yA yB yC yD yE yF yG yH yI yJ yK zW zX) rfl _ sz_cmd rfl rfl _ _ hV rfl (rM 6 0 0 0 0 0 0 0 0 0 0 0 false 0 0 mn zZ jA zV zA zB zC zD zE zF zG yA yB yC yD yE yF yG yH yI yJ yK zW zX none 0 0 0 0 0 0 0 none 0 0 none 0 0 0 0) rfl ?_; intro w1 hV1 hO1; have hV := hV1; have hU := upd_new hU hO1 hbM; have hR := (hO1.block _ hneRV).trans hR; have hS := hS.only hO1 hneBV; have hoA := own_keep hoA hO1 hbA; have hoB := own_keep hoB hO1 hbA)))
  rw [rounds_succ]
  go_upto_region 33 with (first | (with_reducible show AtL 107 38 ..; go_must (refine wpList_load_blk rfl _ _ rfl bM 0 rfl 45 _ Try.underlying38 rfl sz_msg _ _ hV rfl (rM 6 0 0 0 0 0 0 0 0 0 0 0 false 0 0 mn zZ jA zV zA zB zC zD zE zF zG yA yB yC yD yE yF yG yH yI yJ yK zW zX none 0 0 0 0 0 0 0 none 0 0 none 0 0 0 0) rfl ?_)) | (go_at_call 12; go_must (have hi1 : SlIn _ _ ⟨yF, yG, yH⟩ 2 (yL.map Row.cells) := own_slin' (by rw [List.length_map]; exact hoA) (rows_all _); have hi2 : SlIn _ _ ⟨yI, yJ, yK⟩ 7 (yM.map Rep.cells) := own_slin' (by rw [List.length_map]; exact hoB) (dups_all _); have HFIT : Hid (Msg.fit (Msg.mk 6 nQ nP mn zZ jA (Cmd.mk zV (Req.mk zA zB zC zD zE zF zG) (Rng.mk yA yB yC yD yE ⟨yF, yG, yH⟩ ⟨yI, yJ, yK⟩ yL yM) zW zX) ⟨none, 0, 0⟩ nR 0 0 [])) := ⟨⟨by simpa using hi1.len, by simpa using hi2.len⟩, ⟨rfl, rfl⟩, rfl, fun i x hx => by simp at hx⟩; refine (ref_any _ _ _ _ _ _ _ _ _ _ _ _ _ _ _ _ _ _ _ _ _ _ _ _ _ _ _ _ _ _ _ _ _ _ _ _ _ _ _ _ _ _ _ _ _ _ _ _ _ _ _ _ _ _ _ yL [] yM [] [] _ (noVotes_in _) hi1 hi2 (noRng_in _).rows (noRng_in _).dups (wf_strip (b := (Msg.mk 6 nQ nP mn zZ jA (Cmd.mk zV (Req.mk zA zB zC zD zE zF zG) (Rng.mk yA yB yC yD yE crs cds yL yM) zW zX) ⟨none, 0, 0⟩ nR 0 0 [])) rfl HWF.out) (.inr rfl)).mono ?_; rintro e w1 ⟨rfl, hbel⟩; have hU := upd_trans hU (upd_of_below hbel); have hR := blk_later hbel hR; have hV := blk_later hbel hV; have hS := hS.later hbel; have hoA := own_below hoA hbel; have hoB := own_below hoB hbel)))
  have hcB := blk_cell hS.blk
  obtain ⟨hm1, hm2⟩ := ref_ans (a := (Msg.mk 6 nQ nP mn zZ jA (Cmd.mk zV (Req.mk zA zB zC zD zE zF zG) (Rng.mk yA yB yC yD yE ⟨yF, yG, yH⟩ ⟨yI, yJ, yK⟩ yL yM) zW zX) ⟨none, 0, 0⟩ nR 0 0 [])) (b := (Msg.mk 6 nQ nP mn zZ jA (Cmd.mk zV (Req.mk zA zB zC zD zE zF zG) (Rng.mk yA yB yC yD yE crs cds yL yM) zW zX) ⟨none, 0, 0⟩ nR 0 0 [])) rfl HST.out HFIT.out
  cases br
  case true =>
    go_wp2_with (first | (with_reducible show AtS 38 2 ..; go_must (refine wpList_store_blk rfl _ _ _ rfl rfl w.heap.size 0 rfl oxM rfl _ sz_msg rfl rfl _ _ hR rfl oxM rfl ?_; intro w9 hR9 hO9; have hU := upd_new hU hO9 (Nat.le_refl _))))
    exact bodyPost_ret (v := .tuple #[.agg (List.toArray oxM), .int .i64 2]) (results_cell_row_tmp Try.results15 _ _ w.heap.size 38 _ (0, 0) _ rfl hR9 Try.underlying38 rfl sz_msg) rfl ⟨below_of_upd hU, .inr ⟨(fun h => (by cases h.1)), rfl⟩⟩

  case false =>
  by_cases hok : (Msg.mk 6 nQ nP mn zZ jA (Cmd.mk zV (Req.mk zA zB zC zD zE zF zG) (Rng.mk yA yB yC yD yE crs cds yL yM) zW zX) ⟨none, 0, 0⟩ nR 0 0 []).ok = true
  case neg =>
    have hE : mE (Msg.mk 6 nQ nP mn zZ jA (Cmd.mk zV (Req.mk zA zB zC zD zE zF zG) (Rng.mk yA yB yC yD yE ⟨yF, yG, yH⟩ ⟨yI, yJ, yK⟩ yL yM) zW zX) ⟨none, 0, 0⟩ nR 0 0 []) = 1 := by rw [hm2]; exact mE_no hok
    rw [hE]
    go_wp2_with (first | (with_reducible show AtS 38 2 ..; go_must (refine wpList_store_blk rfl _ _ _ rfl rfl w.heap.size 0 rfl oxM rfl _ sz_msg rfl rfl _ _ hR rfl oxM rfl ?_; intro w9 hR9 hO9; have hU := upd_new hU hO9 (Nat.le_refl _))))
    exact bodyPost_ret (v := .tuple #[.agg (List.toArray oxM), .int .i64 2]) (results_cell_row_tmp Try.results15 _ _ w.heap.size 38 _ (0, 0) _ rfl hR9 Try.underlying38 rfl sz_msg) rfl ⟨below_of_upd hU, .inr ⟨(fun h => hok h.2.1), rfl⟩⟩

  case pos =>
  have hE : mE (Msg.mk 6 nQ nP mn zZ jA (Cmd.mk zV (Req.mk zA zB zC zD zE zF zG) (Rng.mk yA yB yC yD yE ⟨yF, yG, yH⟩ ⟨yI, yJ, yK⟩ yL yM) zW zX) ⟨none, 0, 0⟩ nR 0 0 []) = 0 := by rw [hm2]; exact mE_yes hok
  have hT : mS (Msg.mk 6 nQ nP mn zZ jA (Cmd.mk zV (Req.mk zA zB zC zD zE zF zG) (Rng.mk yA yB yC yD yE ⟨yF, yG, yH⟩ ⟨yI, yJ, yK⟩ yL yM) zW zX) ⟨none, 0, 0⟩ nR 0 0 []) = bstr (Msg.mk 6 nQ nP mn zZ jA (Cmd.mk zV (Req.mk zA zB zC zD zE zF zG) (Rng.mk yA yB yC yD yE crs cds yL yM) zW zX) ⟨none, 0, 0⟩ nR 0 0 []).bytes := by rw [hm1]; exact mS_yes hok
  rw [hE, hT]
  by_cases hby : (Msg.mk 6 nQ nP mn zZ jA (Cmd.mk zV (Req.mk zA zB zC zD zE zF zG) (Rng.mk yA yB yC yD yE crs cds yL yM) zW zX) ⟨none, 0, 0⟩ nR 0 0 []).bytes = l
  case neg =>
    have hne := str_ne (fun h => hby (bstr_inj (byt_msg HWF.out hok) hb h))
    go_wp2_with (first | (with_reducible show AtS 38 2 ..; go_must (refine wpList_store_blk rfl _ _ _ rfl rfl w.heap.size 0 rfl oxM rfl _ sz_msg rfl rfl _ _ hR rfl oxM rfl ?_; intro w9 hR9 hO9; have hU := upd_new hU hO9 (Nat.le_refl _))))
    exact bodyPost_ret (v := .tuple #[.agg (List.toArray oxM), .int .i64 2]) (results_cell_row_tmp Try.results15 _ _ w.heap.size 38 _ (0, 0) _ rfl hR9 Try.underlying38 rfl sz_msg) rfl ⟨below_of_upd hU, .inr ⟨(fun h => hby h.2.2), rfl⟩⟩

  case pos =>
    rw [hby]
    have hne := str_eqV (bstr l)
    go_wp2_with (first | (with_reducible show AtL 125 38 ..; go_must (refine wpList_load_blk rfl _ _ rfl bM 0 rfl 45 _ Try.underlying38 rfl sz_msg _ _ hV rfl (rM 6 0 0 0 0 0 0 0 0 0 0 0 false 0 0 mn zZ jA zV zA zB zC zD zE zF zG yA yB yC yD yE yF yG yH yI yJ yK zW zX none 0 0 0 0 0 0 0 none 0 0 none 0 0 0 0) rfl ?_)) | (with_reducible show AtS 38 2 ..; go_must (refine wpList_store_blk rfl _ _ _ rfl rfl w.heap.size 0 rfl (rM 6 0 0 0 0 0 0 0 0 0 0 0 false 0 0 mn zZ jA zV zA zB zC zD zE zF zG yA yB yC yD yE yF yG yH yI yJ yK zW zX none 0 0 0 0 0 0 0 none 0 0 none 0 0 0 0) rfl _ sz_msg rfl rfl _ _ hR rfl (rM 6 0 0 0 0 0 0 0 0 0 0 0 false 0 0 mn zZ jA zV zA zB zC zD zE zF zG yA yB yC yD yE yF yG yH yI yJ yK zW zX none 0 0 0 0 0 0 0 none 0 0 none 0 0 0 0) rfl ?_; intro w9 hR9 hO9; have hU := upd_new hU hO9 (Nat.le_refl _))))
    exact bodyPost_ret (v := .tuple #[.agg (List.toArray (rM 6 0 0 0 0 0 0 0 0 0 0 0 false 0 0 mn zZ jA zV zA zB zC zD zE zF zG yA yB yC yD yE yF yG yH yI yJ yK zW zX none 0 0 0 0 0 0 0 none 0 0 none 0 0 0 0)), .int .i64 0]) (results_cell_row_tmp Try.results15 _ _ w.heap.size 38 _ (0, 0) _ rfl hR9 Try.underlying38 rfl sz_msg) rfl ⟨below_of_upd hU, .inl ⟨⟨rfl, hok, hby⟩, (Msg.mk 6 nQ nP mn zZ jA (Cmd.mk zV (Req.mk zA zB zC zD zE zF zG) (Rng.mk yA yB yC yD yE ⟨yF, yG, yH⟩ ⟨yI, yJ, yK⟩ yL yM) zW zX) ⟨none, 0, 0⟩ nR 0 0 []), rfl, wf_strip (b := (Msg.mk 6 nQ nP mn zZ jA (Cmd.mk zV (Req.mk zA zB zC zD zE zF zG) (Rng.mk yA yB yC yD yE crs cds yL yM) zW zX) ⟨none, 0, 0⟩ nR 0 0 [])) rfl HWF.out, ⟨World.ownsRow_nil _ _ _ _, (fun i x hx => by simp at hx), ⟨own_mono (own_keep hoA hO9 (by omega)) (by omega), own_mono (own_keep hoB hO9 (by omega)) (by omega)⟩, ⟨World.ownsRow_nil _ _ _ _, World.ownsRow_nil _ _ _ _⟩⟩, rfl⟩⟩

set_option maxHeartbeats 4000000 in
set_option maxRecDepth 100000 in
theorem ref_parse_8 (l : List Int) (w : World) (hb : Byt l) (hl : l.length ≤ 1000000000000000) (jA : Int) (zV : Int) (zA zB zC zD zE zF zG : Int) (yA yB yC yD yE : Int) (crs cds : Sl) (yL : List Row) (yM : List Rep) (zW zX : Int) (s0 s1 : List Int × Bool) (sl : List Int) (br : Bool) (h0 : bnum 1 (l, false) = (8, s0)) (hs4 : bnum 4 s0 = (jA, s1)) (hc : rbCmd s1 = (⟨zV, (Req.mk zA zB zC zD zE zF zG), ⟨yA, yB, yC, yD, yE, crs, cds, yL, yM⟩, zW, zX⟩, (sl, br))) (hwf : (Msg.mk 8 nQ nP 0 0 jA (Cmd.mk zV (Req.mk zA zB zC zD zE zF zG) (Rng.mk yA yB yC yD yE crs cds yL yM) zW zX) ⟨none, 0, 0⟩ nR 0 0 []).wf) (hst : (Msg.mk 8 nQ nP 0 0 jA (Cmd.mk zV (Req.mk zA zB zC zD zE zF zG) (Rng.mk yA yB yC yD yE crs cds yL yM) zW zX) ⟨none, 0, 0⟩ nR 0 0 []).strip = (Msg.mk 8 nQ nP 0 0 jA (Cmd.mk zV (Req.mk zA zB zC zD zE zF zG) (Rng.mk yA yB yC yD yE crs cds yL yM) zW zX) ⟨none, 0, 0⟩ nR 0 0 [])) :
    Calls Try.prog 15 #[.string (bstr l)] w fun e w' => RefOut l (Msg.mk 8 nQ nP 0 0 jA (Cmd.mk zV (Req.mk zA zB zC zD zE zF zG) (Rng.mk yA yB yC yD yE crs cds yL yM) zW zX) ⟨none, 0, 0⟩ nR 0 0 []) br w w' e := by
  have H0 := hideV h0
  have HS4 := hideV hs4
  have hws : IntKind.u32.wrap jA = jA := wrap32 hwf.slot
  have HC := hideV hc
  have HWF := hideV hwf
  have HST := hideV hst
  clear h0 hs4 hc hwf hst
  obtain ⟨s, hs⟩ : ∃ s, s = bstr [115, 99] := ⟨_, rfl⟩
  have hsz : s.size = 2 := by rw [hs, bstr_size]; rfl
  have hl0 : ((s[0]'(by rw [hsz]; decide)).toNat : Int) = 115 := str_at hs rfl (by decide) _
  have hl1 : ((s[1]'(by rw [hsz]; decide)).toNat : Int) = 99 := str_at hs rfl (by decide) _
  have hS : Rst (w.heap.size + 1) ((w.alloc (.cells (List.toArray oxM) 38)).alloc (.cells #[.string (bstr l), .bool false] 122)) (l, false) := ⟨heap_alloc2_new w _ _, hb, hl⟩
  have hR : ((w.alloc (.cells (List.toArray oxM) 38)).alloc (.cells #[.string (bstr l), .bool false] 122)).heap[w.heap.size]? = some (.cells (List.toArray oxM) 38) := heap_alloc2_old w _ _
  have hU := upd_alloc2 (w.heap.size + 1) w (.cells (List.toArray oxM) 38) (.cells #[.string (bstr l), .bool false] 122)
  have hle : w.heap.size + 2 ≤ ((w.alloc (.cells (List.toArray oxM) 38)).alloc (.cells #[.string (bstr l), .bool false] 122)).heap.size := by simp
  have hneR : w.heap.size ≠ w.heap.size + 1 := by omega
  go_enter Try.func15, Try.ntmps15
  go_wp2_with (first | (go_at_call 46; go_must (refine (rest_raw H0.out _ hS (by decide)).mono ?_; rintro e w1 ⟨rfl, hS1, hU1⟩; have hU := upd_trans hU hU1; have hR := upd_blk hU1 hneR hR; have hS := hS1; have hle := Nat.le_trans hle hU1.size)) | (with_reducible show AtS 38 5 ..; go_must (refine wpList_store_blk rfl _ _ _ rfl rfl w1.heap.size 0 rfl (rM 8 0 0 0 0 0 0 0 0 0 0 0 false 0 0 0 0 0 0 0 0 0 0 0 0 0 0 0 0 0 0 none 0 0 none 0 0 0 0 none 0 0 0 0 0 0 0 none 0 0 none 0 0 0 0) rfl _ sz_msg rfl rfl _ _ (heap_alloc_new w1 (.cells (List.toArray oxM) 38)) rfl (rM 8 0 0 0 0 0 0 0 0 0 0 0 false 0 0 0 0 0 0 0 0 0 0 0 0 0 0 0 0 0 0 none 0 0 none 0 0 0 0 none 0 0 0 0 0 0 0 none 0 0 none 0 0 0 0) rfl ?_; intro w2 hV hO2; have hR := (hO2.block w.heap.size (by omega)).trans (blk_later (later_alloc w1 (.cells (List.toArray oxM) 38)) hR); have hS := (hS.alloc (.cells (List.toArray oxM) 38)).only hO2 (by omega); have hU := upd_new (upd_trans hU (upd_alloc1 _ w1 (.cells (List.toArray oxM) 38))) hO2 (by omega); obtain ⟨bM, hbMe⟩ : ∃ b, b = w1.heap.size := ⟨_, rfl⟩; rw [← hbMe] at hV ⊢; have hneV : bM ≠ w.heap.size + 1 := (by omega); have hneBV : w.heap.size + 1 ≠ bM := (by omega); have hneRV : w.heap.size ≠ bM := (by omega); have hbM : w.heap.size ≤ bM := (by omega); have hB := blk_cell hV; clear hbMe)) | (go_at_call 36; go_must (refine (ref_letters_8 _).mono ?_; rintro e w1 ⟨rfl, hbel⟩; rw [← hs]; have hU := upd_trans hU (upd_of_below hbel); have hR := blk_later hbel hR; have hV := blk_later hbel hV; have hS := hS.later hbel; clear hB)))
  refine wp_loop_rounds 3 ?_
  rw [rounds_succ]
  go_wp2_with (first | (go_at_call 46; go_must (refine (rest_raw HS4.out _ hS (by decide)).mono ?_; rintro e w1 ⟨rfl, hS1, hU1⟩; have hU := upd_trans hU hU1; have hR := upd_blk hU1 hneR hR; have hV := upd_blk hU1 hneV hV; have hS := hS1)) | (with_reducible show AtS 22 52 ..; go_must (refine wpList_store_cell rfl _ _ _ rfl rfl bM 17 rfl (.int .u32 jA) rfl sz_u32 rfl _ _ hV rfl (rM 8 0 0 0 0 0 0 0 0 0 0 0 false 0 0 0 0 jA 0 0 0 0 0 0 0 0 0 0 0 0 0 none 0 0 none 0 0 0 0 none 0 0 0 0 0 0 0 none 0 0 none 0 0 0 0) rfl ?_; intro w1 hV1 hO1; have hV := hV1; have hU := upd_new hU hO1 hbM; have hR := (hO1.block _ hneRV).trans hR; have hS := hS.only hO1 hneBV)))
  rw [rounds_succ]
  go_wp2_with (first | (go_at_call 50; go_must (refine (rest_cmd _ _ _ hS _ _ _ _ _ _ _ _ _ _ _ _ _ _ _ _ _ _ _ _ HC.out).mono ?_; rintro e w1 ⟨yF, yG, yH, yI, yJ, yK, rfl, hoA, hoB, hS1, hU1⟩; have hbA := Nat.lt_of_lt_of_le (Array.getElem?_eq_some_iff.1 hV).1 (Nat.le_refl _); have hU := upd_trans hU hU1; have hR := upd_blk hU1 hneR hR; have hV := upd_blk hU1 hneV hV; have hS := hS1)) | (with_reducible show AtS 35 57 ..; go_must (refine wpList_store_blk rfl _ _ _ rfl rfl bM 18 rfl (rC zV zA zB zC zD zE zF zG yA yB yC yD yE yF yG yH yI yJ yK zW zX) rfl _ sz_cmd rfl rfl _ _ hV rfl (rM 8 0 0 0 0 0 0 0 0 0 0 0 false 0 0 0 0 jA zV zA zB zC zD zE zF zG yA yB yC yD yE yF yG yH yI yJ yK zW zX none 0 0 0 0 0 0 0 none 0 0 none 0 0 0 0) rfl ?_; intro w1 hV1 hO1; have hV := hV1; have hU := upd_new hU hO1 hbM; have hR := (hO1.block _ hneRV).trans hR; have hS := hS.only hO1 hneBV; have hoA := own_keep hoA hO1 hbA; have hoB := own_keep hoB hO1 hbA)))
  rw [rounds_succ]
  go_upto_region 33 with (first | (with_reducible show AtL 107 38 ..; go_must (refine wpList_load_blk rfl _ _ rfl bM 0 rfl 45 _ Try.underlying38 rfl sz_msg _ _ hV rfl (rM 8 0 0 0 0 0 0 0 0 0 0 0 false 0 0 0 0 jA zV zA zB zC zD zE zF zG yA yB yC yD yE yF yG yH yI yJ yK zW zX none 0 0 0 0 0 0 0 none 0 0 none 0 0 0 0) rfl ?_)) | (go_at_call 12; go_must (have hi1 : SlIn _ _ ⟨yF, yG, yH⟩ 2 (yL.map Row.cells) := own_slin' (by rw [List.length_map]; exact hoA) (rows_all _); have hi2 : SlIn _ _ ⟨yI, yJ, yK⟩ 7 (yM.map Rep.cells) := own_slin' (by rw [List.length_map]; exact hoB) (dups_all _); have HFIT : Hid (Msg.fit (Msg.mk 8 nQ nP 0 0 jA (Cmd.mk zV (Req.mk zA zB zC zD zE zF zG) (Rng.mk yA yB yC yD yE ⟨yF, yG, yH⟩ ⟨yI, yJ, yK⟩ yL yM) zW zX) ⟨none, 0, 0⟩ nR 0 0 [])) := ⟨⟨by simpa using hi1.len, by simpa using hi2.len⟩, ⟨rfl, rfl⟩, rfl, fun i x hx => by simp at hx⟩; refine (ref_any _ _ _ _ _ _ _ _ _ _ _ _ _ _ _ _ _ _ _ _ _ _ _ _ _ _ _ _ _ _ _ _ _ _ _ _ _ _ _ _ _ _ _ _ _ _ _ _ _ _ _ _ _ _ _ yL [] yM [] [] _ (noVotes_in _) hi1 hi2 (noRng_in _).rows (noRng_in _).dups (wf_strip (b := (Msg.mk 8 nQ nP 0 0 jA (Cmd.mk zV (Req.mk zA zB zC zD zE zF zG) (Rng.mk yA yB yC yD yE crs cds yL yM) zW zX) ⟨none, 0, 0⟩ nR 0 0 [])) rfl HWF.out) (.inr rfl)).mono ?_; rintro e w1 ⟨rfl, hbel⟩; have hU := upd_trans hU (upd_of_below hbel); have hR := blk_later hbel hR; have hV := blk_later hbel hV; have hS := hS.later hbel; have hoA := own_below hoA hbel; have hoB := own_below hoB hbel)))
  have hcB := blk_cell hS.blk
  obtain ⟨hm1, hm2⟩ := ref_ans (a := (Msg.mk 8 nQ nP 0 0 jA (Cmd.mk zV (Req.mk zA zB zC zD zE zF zG) (Rng.mk yA yB yC yD yE ⟨yF, yG, yH⟩ ⟨yI, yJ, yK⟩ yL yM) zW zX) ⟨none, 0, 0⟩ nR 0 0 [])) (b := (Msg.mk 8 nQ nP 0 0 jA (Cmd.mk zV (Req.mk zA zB zC zD zE zF zG) (Rng.mk yA yB yC yD yE crs cds yL yM) zW zX) ⟨none, 0, 0⟩ nR 0 0 [])) rfl HST.out HFIT.out
  cases br
  case true =>
    go_wp2_with (first | (with_reducible show AtS 38 2 ..; go_must (refine wpList_store_blk rfl _ _ _ rfl rfl w.heap.size 0 rfl oxM rfl _ sz_msg rfl rfl _ _ hR rfl oxM rfl ?_; intro w9 hR9 hO9; have hU := upd_new hU hO9 (Nat.le_refl _))))
    exact bodyPost_ret (v := .tuple #[.agg (List.toArray oxM), .int .i64 2]) (results_cell_row_tmp Try.results15 _ _ w.heap.size 38 _ (0, 0) _ rfl hR9 Try.underlying38 rfl sz_msg) rfl ⟨below_of_upd hU, .inr ⟨(fun h => (by cases h.1)), rfl⟩⟩

  case false =>
  by_cases hok : (Msg.mk 8 nQ nP 0 0 jA (Cmd.mk zV (Req.mk zA zB zC zD zE zF zG) (Rng.mk yA yB yC yD yE crs cds yL yM) zW zX) ⟨none, 0, 0⟩ nR 0 0 []).ok = true
  case neg =>
    have hE : mE (Msg.mk 8 nQ nP 0 0 jA (Cmd.mk zV (Req.mk zA zB zC zD zE zF zG) (Rng.mk yA yB yC yD yE ⟨yF, yG, yH⟩ ⟨yI, yJ, yK⟩ yL yM) zW zX) ⟨none, 0, 0⟩ nR 0 0 []) = 1 := by rw [hm2]; exact mE_no hok
    rw [hE]
    go_wp2_with (first | (with_reducible show AtS 38 2 ..; go_must (refine wpList_store_blk rfl _ _ _ rfl rfl w.heap.size 0 rfl oxM rfl _ sz_msg rfl rfl _ _ hR rfl oxM rfl ?_; intro w9 hR9 hO9; have hU := upd_new hU hO9 (Nat.le_refl _))))
    exact bodyPost_ret (v := .tuple #[.agg (List.toArray oxM), .int .i64 2]) (results_cell_row_tmp Try.results15 _ _ w.heap.size 38 _ (0, 0) _ rfl hR9 Try.underlying38 rfl sz_msg) rfl ⟨below_of_upd hU, .inr ⟨(fun h => hok h.2.1), rfl⟩⟩

  case pos =>
  have hE : mE (Msg.mk 8 nQ nP 0 0 jA (Cmd.mk zV (Req.mk zA zB zC zD zE zF zG) (Rng.mk yA yB yC yD yE ⟨yF, yG, yH⟩ ⟨yI, yJ, yK⟩ yL yM) zW zX) ⟨none, 0, 0⟩ nR 0 0 []) = 0 := by rw [hm2]; exact mE_yes hok
  have hT : mS (Msg.mk 8 nQ nP 0 0 jA (Cmd.mk zV (Req.mk zA zB zC zD zE zF zG) (Rng.mk yA yB yC yD yE ⟨yF, yG, yH⟩ ⟨yI, yJ, yK⟩ yL yM) zW zX) ⟨none, 0, 0⟩ nR 0 0 []) = bstr (Msg.mk 8 nQ nP 0 0 jA (Cmd.mk zV (Req.mk zA zB zC zD zE zF zG) (Rng.mk yA yB yC yD yE crs cds yL yM) zW zX) ⟨none, 0, 0⟩ nR 0 0 []).bytes := by rw [hm1]; exact mS_yes hok
  rw [hE, hT]
  by_cases hby : (Msg.mk 8 nQ nP 0 0 jA (Cmd.mk zV (Req.mk zA zB zC zD zE zF zG) (Rng.mk yA yB yC yD yE crs cds yL yM) zW zX) ⟨none, 0, 0⟩ nR 0 0 []).bytes = l
  case neg =>
    have hne := str_ne (fun h => hby (bstr_inj (byt_msg HWF.out hok) hb h))
    go_wp2_with (first | (with_reducible show AtS 38 2 ..; go_must (refine wpList_store_blk rfl _ _ _ rfl rfl w.heap.size 0 rfl oxM rfl _ sz_msg rfl rfl _ _ hR rfl oxM rfl ?_; intro w9 hR9 hO9; have hU := upd_new hU hO9 (Nat.le_refl _))))
    exact bodyPost_ret (v := .tuple #[.agg (List.toArray oxM), .int .i64 2]) (results_cell_row_tmp Try.results15 _ _ w.heap.size 38 _ (0, 0) _ rfl hR9 Try.underlying38 rfl sz_msg) rfl ⟨below_of_upd hU, .inr ⟨(fun h => hby h.2.2), rfl⟩⟩

  case pos =>
    rw [hby]
    have hne := str_eqV (bstr l)
    go_wp2_with (first | (with_reducible show AtL 125 38 ..; go_must (refine wpList_load_blk rfl _ _ rfl bM 0 rfl 45 _ Try.underlying38 rfl sz_msg _ _ hV rfl (rM 8 0 0 0 0 0 0 0 0 0 0 0 false 0 0 0 0 jA zV zA zB zC zD zE zF zG yA yB yC yD yE yF yG yH yI yJ yK zW zX none 0 0 0 0 0 0 0 none 0 0 none 0 0 0 0) rfl ?_)) | (with_reducible show AtS 38 2 ..; go_must (refine wpList_store_blk rfl _ _ _ rfl rfl w.heap.size 0 rfl (rM 8 0 0 0 0 0 0 0 0 0 0 0 false 0 0 0 0 jA zV zA zB zC zD zE zF zG yA yB yC yD yE yF yG yH yI yJ yK zW zX none 0 0 0 0 0 0 0 none 0 0 none 0 0 0 0) rfl _ sz_msg rfl rfl _ _ hR rfl (rM 8 0 0 0 0 0 0 0 0 0 0 0 false 0 0 0 0 jA zV zA zB zC zD zE zF zG yA yB yC yD yE yF yG yH yI yJ yK zW zX none 0 0 0 0 0 0 0 none 0 0 none 0 0 0 0) rfl ?_; intro w9 hR9 hO9; have hU := upd_new hU hO9 (Nat.le_refl _))))
    exact bodyPost_ret (v := .tuple #[.agg (List.toArray (rM 8 0 0 0 0 0 0 0 0 0 0 0 false 0 0 0 0 jA zV zA zB zC zD zE zF zG yA yB yC yD yE yF yG yH yI yJ yK zW zX none 0 0 0 0 0 0 0 none 0 0 none 0 0 0 0)), .int .i64 0]) (results_cell_row_tmp Try.results15 _ _ w.heap.size 38 _ (0, 0) _ rfl hR9 Try.underlying38 rfl sz_msg) rfl ⟨below_of_upd hU, .inl ⟨⟨rfl, hok, hby⟩, (Msg.mk 8 nQ nP 0 0 jA (Cmd.mk zV (Req.mk zA zB zC zD zE zF zG) (Rng.mk yA yB yC yD yE ⟨yF, yG, yH⟩ ⟨yI, yJ, yK⟩ yL yM) zW zX) ⟨none, 0, 0⟩ nR 0 0 []), rfl, wf_strip (b := (Msg.mk 8 nQ nP 0 0 jA (Cmd.mk zV (Req.mk zA zB zC zD zE zF zG) (Rng.mk yA yB yC yD yE crs cds yL yM) zW zX) ⟨none, 0, 0⟩ nR 0 0 [])) rfl HWF.out, ⟨World.ownsRow_nil _ _ _ _, (fun i x hx => by simp at hx), ⟨own_mono (own_keep hoA hO9 (by omega)) (by omega), own_mono (own_keep hoB hO9 (by omega)) (by omega)⟩, ⟨World.ownsRow_nil _ _ _ _, World.ownsRow_nil _ _ _ _⟩⟩, rfl⟩⟩

set_option maxHeartbeats 4000000 in
set_option maxRecDepth 100000 in
theorem ref_parse_9 (l : List Int) (w : World) (hb : Byt l) (hl : l.length ≤ 1000000000000000) (yN yO yP yQ yR : Int) (rrs rds : Sl) (yY : List Row) (yZ : List Rep) (s0  : List Int × Bool) (sl : List Int) (br : Bool) (h0 : bnum 1 (l, false) = (9, s0)) (hq : rbRng s0 = (⟨yN, yO, yP, yQ, yR, rrs, rds, yY, yZ⟩, (sl, br))) (hwf : (Msg.mk 9 nQ nP 0 0 0 nC ⟨none, 0, 0⟩ (Rng.mk yN yO yP yQ yR rrs rds yY yZ) 0 0 []).wf) (hst : (Msg.mk 9 nQ nP 0 0 0 nC ⟨none, 0, 0⟩ (Rng.mk yN yO yP yQ yR rrs rds yY yZ) 0 0 []).strip = (Msg.mk 9 nQ nP 0 0 0 nC ⟨none, 0, 0⟩ (Rng.mk yN yO yP yQ yR rrs rds yY yZ) 0 0 [])) :
    Calls Try.prog 15 #[.string (bstr l)] w fun e w' => RefOut l (Msg.mk 9 nQ nP 0 0 0 nC ⟨none, 0, 0⟩ (Rng.mk yN yO yP yQ yR rrs rds yY yZ) 0 0 []) br w w' e := by
  have H0 := hideV h0
  have HQ := hideV hq
  have HWF := hideV hwf
  have HST := hideV hst
  clear h0 hq hwf hst
  obtain ⟨s, hs⟩ : ∃ s, s = bstr [109] := ⟨_, rfl⟩
  have hsz : s.size = 1 := by rw [hs, bstr_size]; rfl
  have hl0 : ((s[0]'(by rw [hsz]; decide)).toNat : Int) = 109 := str_at hs rfl (by decide) _
  have hS : Rst (w.heap.size + 1) ((w.alloc (.cells (List.toArray oxM) 38)).alloc (.cells #[.string (bstr l), .bool false] 122)) (l, false) := ⟨heap_alloc2_new w _ _, hb, hl⟩
  have hR : ((w.alloc (.cells (List.toArray oxM) 38)).alloc (.cells #[.string (bstr l), .bool false] 122)).heap[w.heap.size]? = some (.cells (List.toArray oxM) 38) := heap_alloc2_old w _ _
  have hU := upd_alloc2 (w.heap.size + 1) w (.cells (List.toArray oxM) 38) (.cells #[.string (bstr l), .bool false] 122)
  have hle : w.heap.size + 2 ≤ ((w.alloc (.cells (List.toArray oxM) 38)).alloc (.cells #[.string (bstr l), .bool false] 122)).heap.size := by simp
  have hneR : w.heap.size ≠ w.heap.size + 1 := by omega
  go_enter Try.func15, Try.ntmps15
  go_wp2_with (first | (go_at_call 46; go_must (refine (rest_raw H0.out _ hS (by decide)).mono ?_; rintro e w1 ⟨rfl, hS1, hU1⟩; have hU := upd_trans hU hU1; have hR := upd_blk hU1 hneR hR; have hS := hS1; have hle := Nat.le_trans hle hU1.size)) | (with_reducible show AtS 38 5 ..; go_must (refine wpList_store_blk rfl _ _ _ rfl rfl w1.heap.size 0 rfl (rM 9 0 0 0 0 0 0 0 0 0 0 0 false 0 0 0 0 0 0 0 0 0 0 0 0 0 0 0 0 0 0 none 0 0 none 0 0 0 0 none 0 0 0 0 0 0 0 none 0 0 none 0 0 0 0) rfl _ sz_msg rfl rfl _ _ (heap_alloc_new w1 (.cells (List.toArray oxM) 38)) rfl (rM 9 0 0 0 0 0 0 0 0 0 0 0 false 0 0 0 0 0 0 0 0 0 0 0 0 0 0 0 0 0 0 none 0 0 none 0 0 0 0 none 0 0 0 0 0 0 0 none 0 0 none 0 0 0 0) rfl ?_; intro w2 hV hO2; have hR := (hO2.block w.heap.size (by omega)).trans (blk_later (later_alloc w1 (.cells (List.toArray oxM) 38)) hR); have hS := (hS.alloc (.cells (List.toArray oxM) 38)).only hO2 (by omega); have hU := upd_new (upd_trans hU (upd_alloc1 _ w1 (.cells (List.toArray oxM) 38))) hO2 (by omega); obtain ⟨bM, hbMe⟩ : ∃ b, b = w1.heap.size := ⟨_, rfl⟩; rw [← hbMe] at hV ⊢; have hneV : bM ≠ w.heap.size + 1 := (by omega); have hneBV : w.heap.size + 1 ≠ bM := (by omega); have hneRV : w.heap.size ≠ bM := (by omega); have hbM : w.heap.size ≤ bM := (by omega); have hB := blk_cell hV; clear hbMe)) | (go_at_call 36; go_must (refine (ref_letters_9 _).mono ?_; rintro e w1 ⟨rfl, hbel⟩; rw [← hs]; have hU := upd_trans hU (upd_of_below hbel); have hR := blk_later hbel hR; have hV := blk_later hbel hV; have hS := hS.later hbel; clear hB)))
  refine wp_loop_rounds 2 ?_
  rw [rounds_succ]
  go_wp2_with (first | (go_at_call 51; go_must (refine (rng_raw HQ.out _ hS).mono ?_; rintro e w1 ⟨yS, yT, yU, yV, yW, yX, rfl, hoA, hoB, hS1, hU1⟩; have hbA := Nat.lt_of_lt_of_le (Array.getElem?_eq_some_iff.1 hV).1 (Nat.le_refl _); have hU := upd_trans hU hU1; have hR := upd_blk hU1 hneR hR; have hV := upd_blk hU1 hneV hV; have hS := hS1)) | (with_reducible show AtS 33 95 ..; go_must (refine wpList_store_blk rfl _ _ _ rfl rfl bM 36 rfl (rR yN yO yP yQ yR yS yT yU yV yW yX) rfl _ sz_rng rfl rfl _ _ hV rfl (rM 9 0 0 0 0 0 0 0 0 0 0 0 false 0 0 0 0 0 0 0 0 0 0 0 0 0 0 0 0 0 0 none 0 0 none 0 0 0 0 none 0 0 yN yO yP yQ yR yS yT yU yV yW yX 0 0) rfl ?_; intro w1 hV1 hO1; have hV := hV1; have hU := upd_new hU hO1 hbM; have hR := (hO1.block _ hneRV).trans hR; have hS := hS.only hO1 hneBV; have hoA := own_keep hoA hO1 hbA; have hoB := own_keep hoB hO1 hbA)))
  rw [rounds_succ]
  go_upto_region 33 with (first | (with_reducible show AtL 107 38 ..; go_must (refine wpList_load_blk rfl _ _ rfl bM 0 rfl 45 _ Try.underlying38 rfl sz_msg _ _ hV rfl (rM 9 0 0 0 0 0 0 0 0 0 0 0 false 0 0 0 0 0 0 0 0 0 0 0 0 0 0 0 0 0 0 none 0 0 none 0 0 0 0 none 0 0 yN yO yP yQ yR yS yT yU yV yW yX 0 0) rfl ?_)) | (go_at_call 12; go_must (have hi1 : SlIn _ _ ⟨yS, yT, yU⟩ 2 (yY.map Row.cells) := own_slin' (by rw [List.length_map]; exact hoA) (rows_all _); have hi2 : SlIn _ _ ⟨yV, yW, yX⟩ 7 (yZ.map Rep.cells) := own_slin' (by rw [List.length_map]; exact hoB) (dups_all _); have HFIT : Hid (Msg.fit (Msg.mk 9 nQ nP 0 0 0 nC ⟨none, 0, 0⟩ (Rng.mk yN yO yP yQ yR ⟨yS, yT, yU⟩ ⟨yV, yW, yX⟩ yY yZ) 0 0 [])) := ⟨⟨rfl, rfl⟩, ⟨by simpa using hi1.len, by simpa using hi2.len⟩, rfl, fun i x hx => by simp at hx⟩; refine (ref_any _ _ _ _ _ _ _ _ _ _ _ _ _ _ _ _ _ _ _ _ _ _ _ _ _ _ _ _ _ _ _ _ _ _ _ _ _ _ _ _ _ _ _ _ _ _ _ _ _ _ _ _ _ _ _ [] yY [] yZ [] _ (noVotes_in _) (noRng_in _).rows (noRng_in _).dups hi1 hi2 (wf_strip (b := (Msg.mk 9 nQ nP 0 0 0 nC ⟨none, 0, 0⟩ (Rng.mk yN yO yP yQ yR rrs rds yY yZ) 0 0 [])) rfl HWF.out) (.inr rfl)).mono ?_; rintro e w1 ⟨rfl, hbel⟩; have hU := upd_trans hU (upd_of_below hbel); have hR := blk_later hbel hR; have hV := blk_later hbel hV; have hS := hS.later hbel; have hoA := own_below hoA hbel; have hoB := own_below hoB hbel)))
  have hcB := blk_cell hS.blk
  obtain ⟨hm1, hm2⟩ := ref_ans (a := (Msg.mk 9 nQ nP 0 0 0 nC ⟨none, 0, 0⟩ (Rng.mk yN yO yP yQ yR ⟨yS, yT, yU⟩ ⟨yV, yW, yX⟩ yY yZ) 0 0 [])) (b := (Msg.mk 9 nQ nP 0 0 0 nC ⟨none, 0, 0⟩ (Rng.mk yN yO yP yQ yR rrs rds yY yZ) 0 0 [])) rfl HST.out HFIT.out
  cases br
  case true =>
    go_wp2_with (first | (with_reducible show AtS 38 2 ..; go_must (refine wpList_store_blk rfl _ _ _ rfl rfl w.heap.size 0 rfl oxM rfl _ sz_msg rfl rfl _ _ hR rfl oxM rfl ?_; intro w9 hR9 hO9; have hU := upd_new hU hO9 (Nat.le_refl _))))
    exact bodyPost_ret (v := .tuple #[.agg (List.toArray oxM), .int .i64 2]) (results_cell_row_tmp Try.results15 _ _ w.heap.size 38 _ (0, 0) _ rfl hR9 Try.underlying38 rfl sz_msg) rfl ⟨below_of_upd hU, .inr ⟨(fun h => (by cases h.1)), rfl⟩⟩

  case false =>
  by_cases hok : (Msg.mk 9 nQ nP 0 0 0 nC ⟨none, 0, 0⟩ (Rng.mk yN yO yP yQ yR rrs rds yY yZ) 0 0 []).ok = true
  case neg =>
    have hE : mE (Msg.mk 9 nQ nP 0 0 0 nC ⟨none, 0, 0⟩ (Rng.mk yN yO yP yQ yR ⟨yS, yT, yU⟩ ⟨yV, yW, yX⟩ yY yZ) 0 0 []) = 1 := by rw [hm2]; exact mE_no hok
    rw [hE]
    go_wp2_with (first | (with_reducible show AtS 38 2 ..; go_must (refine wpList_store_blk rfl _ _ _ rfl rfl w.heap.size 0 rfl oxM rfl _ sz_msg rfl rfl _ _ hR rfl oxM rfl ?_; intro w9 hR9 hO9; have hU := upd_new hU hO9 (Nat.le_refl _))))
    exact bodyPost_ret (v := .tuple #[.agg (List.toArray oxM), .int .i64 2]) (results_cell_row_tmp Try.results15 _ _ w.heap.size 38 _ (0, 0) _ rfl hR9 Try.underlying38 rfl sz_msg) rfl ⟨below_of_upd hU, .inr ⟨(fun h => hok h.2.1), rfl⟩⟩

  case pos =>
  have hE : mE (Msg.mk 9 nQ nP 0 0 0 nC ⟨none, 0, 0⟩ (Rng.mk yN yO yP yQ yR ⟨yS, yT, yU⟩ ⟨yV, yW, yX⟩ yY yZ) 0 0 []) = 0 := by rw [hm2]; exact mE_yes hok
  have hT : mS (Msg.mk 9 nQ nP 0 0 0 nC ⟨none, 0, 0⟩ (Rng.mk yN yO yP yQ yR ⟨yS, yT, yU⟩ ⟨yV, yW, yX⟩ yY yZ) 0 0 []) = bstr (Msg.mk 9 nQ nP 0 0 0 nC ⟨none, 0, 0⟩ (Rng.mk yN yO yP yQ yR rrs rds yY yZ) 0 0 []).bytes := by rw [hm1]; exact mS_yes hok
  rw [hE, hT]
  by_cases hby : (Msg.mk 9 nQ nP 0 0 0 nC ⟨none, 0, 0⟩ (Rng.mk yN yO yP yQ yR rrs rds yY yZ) 0 0 []).bytes = l
  case neg =>
    have hne := str_ne (fun h => hby (bstr_inj (byt_msg HWF.out hok) hb h))
    go_wp2_with (first | (with_reducible show AtS 38 2 ..; go_must (refine wpList_store_blk rfl _ _ _ rfl rfl w.heap.size 0 rfl oxM rfl _ sz_msg rfl rfl _ _ hR rfl oxM rfl ?_; intro w9 hR9 hO9; have hU := upd_new hU hO9 (Nat.le_refl _))))
    exact bodyPost_ret (v := .tuple #[.agg (List.toArray oxM), .int .i64 2]) (results_cell_row_tmp Try.results15 _ _ w.heap.size 38 _ (0, 0) _ rfl hR9 Try.underlying38 rfl sz_msg) rfl ⟨below_of_upd hU, .inr ⟨(fun h => hby h.2.2), rfl⟩⟩

  case pos =>
    rw [hby]
    have hne := str_eqV (bstr l)
    go_wp2_with (first | (with_reducible show AtL 125 38 ..; go_must (refine wpList_load_blk rfl _ _ rfl bM 0 rfl 45 _ Try.underlying38 rfl sz_msg _ _ hV rfl (rM 9 0 0 0 0 0 0 0 0 0 0 0 false 0 0 0 0 0 0 0 0 0 0 0 0 0 0 0 0 0 0 none 0 0 none 0 0 0 0 none 0 0 yN yO yP yQ yR yS yT yU yV yW yX 0 0) rfl ?_)) | (with_reducible show AtS 38 2 ..; go_must (refine wpList_store_blk rfl _ _ _ rfl rfl w.heap.size 0 rfl (rM 9 0 0 0 0 0 0 0 0 0 0 0 false 0 0 0 0 0 0 0 0 0 0 0 0 0 0 0 0 0 0 none 0 0 none 0 0 0 0 none 0 0 yN yO yP yQ yR yS yT yU yV yW yX 0 0) rfl _ sz_msg rfl rfl _ _ hR rfl (rM 9 0 0 0 0 0 0 0 0 0 0 0 false 0 0 0 0 0 0 0 0 0 0 0 0 0 0 0 0 0 0 none 0 0 none 0 0 0 0 none 0 0 yN yO yP yQ yR yS yT yU yV yW yX 0 0) rfl ?_; intro w9 hR9 hO9; have hU := upd_new hU hO9 (Nat.le_refl _))))
    exact bodyPost_ret (v := .tuple #[.agg (List.toArray (rM 9 0 0 0 0 0 0 0 0 0 0 0 false 0 0 0 0 0 0 0 0 0 0 0 0 0 0 0 0 0 0 none 0 0 none 0 0 0 0 none 0 0 yN yO yP yQ yR yS yT yU yV yW yX 0 0)), .int .i64 0]) (results_cell_row_tmp Try.results15 _ _ w.heap.size 38 _ (0, 0) _ rfl hR9 Try.underlying38 rfl sz_msg) rfl ⟨below_of_upd hU, .inl ⟨⟨rfl, hok, hby⟩, (Msg.mk 9 nQ nP 0 0 0 nC ⟨none, 0, 0⟩ (Rng.mk yN yO yP yQ yR ⟨yS, yT, yU⟩ ⟨yV, yW, yX⟩ yY yZ) 0 0 []), rfl, wf_strip (b := (Msg.mk 9 nQ nP 0 0 0 nC ⟨none, 0, 0⟩ (Rng.mk yN yO yP yQ yR rrs rds yY yZ) 0 0 [])) rfl HWF.out, ⟨World.ownsRow_nil _ _ _ _, (fun i x hx => by simp at hx), ⟨World.ownsRow_nil _ _ _ _, World.ownsRow_nil _ _ _ _⟩, ⟨own_mono (own_keep hoA hO9 (by omega)) (by omega), own_mono (own_keep hoB hO9 (by omega)) (by omega)⟩⟩, rfl⟩⟩

set_option maxHeartbeats 4000000 in
set_option maxRecDepth 100000 in
theorem ref_parse_10 (l : List Int) (w : World) (hb : Byt l) (hl : l.length ≤ 1000000000000000) (jB jC : Int) (s0 sa : List Int × Bool) (sl : List Int) (br : Bool) (h0 : bnum 1 (l, false) = (10, s0)) (hp1 : bnum 1 s0 = (jB, sa)) (hp4 : bnum 4 sa = (jC, (sl, br))) (hwf : (Msg.mk 10 nQ nP 0 0 0 nC ⟨none, 0, 0⟩ nR jB jC []).wf) (hst : (Msg.mk 10 nQ nP 0 0 0 nC ⟨none, 0, 0⟩ nR jB jC []).strip = (Msg.mk 10 nQ nP 0 0 0 nC ⟨none, 0, 0⟩ nR jB jC [])) :
    Calls Try.prog 15 #[.string (bstr l)] w fun e w' => RefOut l (Msg.mk 10 nQ nP 0 0 0 nC ⟨none, 0, 0⟩ nR jB jC []) br w w' e := by
  have H0 := hideV h0
  have HP1 := hideV hp1
  have HP4 := hideV hp4
  have hwp : IntKind.u8.wrap jB = jB := wrap8 hwf.peer
  have hwq : IntKind.u32.wrap jC = jC := wrap32 hwf.seq
  have HWF := hideV hwf
  have HST := hideV hst
  clear h0 hp1 hp4 hwf hst
  obtain ⟨s, hs⟩ : ∃ s, s = bstr [112] := ⟨_, rfl⟩
  have hsz : s.size = 1 := by rw [hs, bstr_size]; rfl
  have hl0 : ((s[0]'(by rw [hsz]; decide)).toNat : Int) = 112 := str_at hs rfl (by decide) _
  have hS : Rst (w.heap.size + 1) ((w.alloc (.cells (List.toArray oxM) 38)).alloc (.cells #[.string (bstr l), .bool false] 122)) (l, false) := ⟨heap_alloc2_new w _ _, hb, hl⟩
  have hR : ((w.alloc (.cells (List.toArray oxM) 38)).alloc (.cells #[.string (bstr l), .bool false] 122)).heap[w.heap.size]? = some (.cells (List.toArray oxM) 38) := heap_alloc2_old w _ _
  have hU := upd_alloc2 (w.heap.size + 1) w (.cells (List.toArray oxM) 38) (.cells #[.string (bstr l), .bool false] 122)
  have hle : w.heap.size + 2 ≤ ((w.alloc (.cells (List.toArray oxM) 38)).alloc (.cells #[.string (bstr l), .bool false] 122)).heap.size := by simp
  have hneR : w.heap.size ≠ w.heap.size + 1 := by omega
  go_enter Try.func15, Try.ntmps15
  go_wp2_with (first | (go_at_call 46; go_must (refine (rest_raw H0.out _ hS (by decide)).mono ?_; rintro e w1 ⟨rfl, hS1, hU1⟩; have hU := upd_trans hU hU1; have hR := upd_blk hU1 hneR hR; have hS := hS1; have hle := Nat.le_trans hle hU1.size)) | (with_reducible show AtS 38 5 ..; go_must (refine wpList_store_blk rfl _ _ _ rfl rfl w1.heap.size 0 rfl (rM 10 0 0 0 0 0 0 0 0 0 0 0 false 0 0 0 0 0 0 0 0 0 0 0 0 0 0 0 0 0 0 none 0 0 none 0 0 0 0 none 0 0 0 0 0 0 0 none 0 0 none 0 0 0 0) rfl _ sz_msg rfl rfl _ _ (heap_alloc_new w1 (.cells (List.toArray oxM) 38)) rfl (rM 10 0 0 0 0 0 0 0 0 0 0 0 false 0 0 0 0 0 0 0 0 0 0 0 0 0 0 0 0 0 0 none 0 0 none 0 0 0 0 none 0 0 0 0 0 0 0 none 0 0 none 0 0 0 0) rfl ?_; intro w2 hV hO2; have hR := (hO2.block w.heap.size (by omega)).trans (blk_later (later_alloc w1 (.cells (List.toArray oxM) 38)) hR); have hS := (hS.alloc (.cells (List.toArray oxM) 38)).only hO2 (by omega); have hU := upd_new (upd_trans hU (upd_alloc1 _ w1 (.cells (List.toArray oxM) 38))) hO2 (by omega); obtain ⟨bM, hbMe⟩ : ∃ b, b = w1.heap.size := ⟨_, rfl⟩; rw [← hbMe] at hV ⊢; have hneV : bM ≠ w.heap.size + 1 := (by omega); have hneBV : w.heap.size + 1 ≠ bM := (by omega); have hneRV : w.heap.size ≠ bM := (by omega); have hbM : w.heap.size ≤ bM := (by omega); have hB := blk_cell hV; clear hbMe)) | (go_at_call 36; go_must (refine (ref_letters_10 _).mono ?_; rintro e w1 ⟨rfl, hbel⟩; rw [← hs]; have hU := upd_trans hU (upd_of_below hbel); have hR := blk_later hbel hR; have hV := blk_later hbel hV; have hS := hS.later hbel; clear hB)))
  refine wp_loop_rounds 2 ?_
  rw [rounds_succ]
  go_upto_region 31 with (first | (go_at_call 46; go_must (refine (rest_raw HP1.out _ hS (by decide)).mono ?_; rintro e w1 ⟨rfl, hS1, hU1⟩; have hU := upd_trans hU hU1; have hR := upd_blk hU1 hneR hR; have hV := upd_blk hU1 hneV hV; have hS := hS1)) | (with_reducible show AtS 5 101 ..; go_must (refine wpList_store_cell rfl _ _ _ rfl rfl bM 43 rfl (.int .u8 jB) rfl sz_u8 rfl _ _ hV rfl (rM 10 0 0 0 0 0 0 0 0 0 0 0 false 0 0 0 0 0 0 0 0 0 0 0 0 0 0 0 0 0 0 none 0 0 none 0 0 0 0 none 0 0 0 0 0 0 0 none 0 0 none 0 0 jB 0) rfl ?_; intro w1 hV1 hO1; have hV := hV1; have hU := upd_new hU hO1 hbM; have hR := (hO1.block _ hneRV).trans hR; have hS := hS.only hO1 hneBV)))
  go_wp2_with (first | (go_at_call 46; go_must (refine (rest_raw HP4.out _ hS (by decide)).mono ?_; rintro e w1 ⟨rfl, hS1, hU1⟩; have hU := upd_trans hU hU1; have hR := upd_blk hU1 hneR hR; have hV := upd_blk hU1 hneV hV; have hS := hS1)) | (with_reducible show AtS 22 105 ..; go_must (refine wpList_store_cell rfl _ _ _ rfl rfl bM 44 rfl (.int .u32 jC) rfl sz_u32 rfl _ _ hV rfl (rM 10 0 0 0 0 0 0 0 0 0 0 0 false 0 0 0 0 0 0 0 0 0 0 0 0 0 0 0 0 0 0 none 0 0 none 0 0 0 0 none 0 0 0 0 0 0 0 none 0 0 none 0 0 jB jC) rfl ?_; intro w1 hV1 hO1; have hV := hV1; have hU := upd_new hU hO1 hbM; have hR := (hO1.block _ hneRV).trans hR; have hS := hS.only hO1 hneBV)))
  rw [rounds_succ]
  go_upto_region 33 with (first | (with_reducible show AtL 107 38 ..; go_must (refine wpList_load_blk rfl _ _ rfl bM 0 rfl 45 _ Try.underlying38 rfl sz_msg _ _ hV rfl (rM 10 0 0 0 0 0 0 0 0 0 0 0 false 0 0 0 0 0 0 0 0 0 0 0 0 0 0 0 0 0 0 none 0 0 none 0 0 0 0 none 0 0 0 0 0 0 0 none 0 0 none 0 0 jB jC) rfl ?_)) | (go_at_call 12; go_must (have HFIT : Hid (Msg.fit (Msg.mk 10 nQ nP 0 0 0 nC ⟨none, 0, 0⟩ nR jB jC [])) := ⟨⟨rfl, rfl⟩, ⟨rfl, rfl⟩, rfl, fun i x hx => by simp at hx⟩; refine (ref_any _ _ _ _ _ _ _ _ _ _ _ _ _ _ _ _ _ _ _ _ _ _ _ _ _ _ _ _ _ _ _ _ _ _ _ _ _ _ _ _ _ _ _ _ _ _ _ _ _ _ _ _ _ _ _ [] [] [] [] [] _ (noVotes_in _) (noRng_in _).rows (noRng_in _).dups (noRng_in _).rows (noRng_in _).dups (wf_strip (b := (Msg.mk 10 nQ nP 0 0 0 nC ⟨none, 0, 0⟩ nR jB jC [])) rfl HWF.out) (.inr rfl)).mono ?_; rintro e w1 ⟨rfl, hbel⟩; have hU := upd_trans hU (upd_of_below hbel); have hR := blk_later hbel hR; have hV := blk_later hbel hV; have hS := hS.later hbel)))
  have hcB := blk_cell hS.blk
  obtain ⟨hm1, hm2⟩ := ref_ans (a := (Msg.mk 10 nQ nP 0 0 0 nC ⟨none, 0, 0⟩ nR jB jC [])) (b := (Msg.mk 10 nQ nP 0 0 0 nC ⟨none, 0, 0⟩ nR jB jC [])) rfl HST.out HFIT.out
  cases br
  case true =>
    go_wp2_with (first | (with_reducible show AtS 38 2 ..; go_must (refine wpList_store_blk rfl _ _ _ rfl rfl w.heap.size 0 rfl oxM rfl _ sz_msg rfl rfl _ _ hR rfl oxM rfl ?_; intro w9 hR9 hO9; have hU := upd_new hU hO9 (Nat.le_refl _))))
    exact bodyPost_ret (v := .tuple #[.agg (List.toArray oxM), .int .i64 2]) (results_cell_row_tmp Try.results15 _ _ w.heap.size 38 _ (0, 0) _ rfl hR9 Try.underlying38 rfl sz_msg) rfl ⟨below_of_upd hU, .inr ⟨(fun h => (by cases h.1)), rfl⟩⟩

  case false =>
  by_cases hok : (Msg.mk 10 nQ nP 0 0 0 nC ⟨none, 0, 0⟩ nR jB jC []).ok = true
  case neg =>
    have hE : mE (Msg.mk 10 nQ nP 0 0 0 nC ⟨none, 0, 0⟩ nR jB jC []) = 1 := by rw [hm2]; exact mE_no hok
    rw [hE]
    go_wp2_with (first | (with_reducible show AtS 38 2 ..; go_must (refine wpList_store_blk rfl _ _ _ rfl rfl w.heap.size 0 rfl oxM rfl _ sz_msg rfl rfl _ _ hR rfl oxM rfl ?_; intro w9 hR9 hO9; have hU := upd_new hU hO9 (Nat.le_refl _))))
    exact bodyPost_ret (v := .tuple #[.agg (List.toArray oxM), .int .i64 2]) (results_cell_row_tmp Try.results15 _ _ w.heap.size 38 _ (0, 0) _ rfl hR9 Try.underlying38 rfl sz_msg) rfl ⟨below_of_upd hU, .inr ⟨(fun h => hok h.2.1), rfl⟩⟩

  case pos =>
  have hE : mE (Msg.mk 10 nQ nP 0 0 0 nC ⟨none, 0, 0⟩ nR jB jC []) = 0 := by rw [hm2]; exact mE_yes hok
  have hT : mS (Msg.mk 10 nQ nP 0 0 0 nC ⟨none, 0, 0⟩ nR jB jC []) = bstr (Msg.mk 10 nQ nP 0 0 0 nC ⟨none, 0, 0⟩ nR jB jC []).bytes := by rw [hm1]; exact mS_yes hok
  rw [hE, hT]
  by_cases hby : (Msg.mk 10 nQ nP 0 0 0 nC ⟨none, 0, 0⟩ nR jB jC []).bytes = l
  case neg =>
    have hne := str_ne (fun h => hby (bstr_inj (byt_msg HWF.out hok) hb h))
    go_wp2_with (first | (with_reducible show AtS 38 2 ..; go_must (refine wpList_store_blk rfl _ _ _ rfl rfl w.heap.size 0 rfl oxM rfl _ sz_msg rfl rfl _ _ hR rfl oxM rfl ?_; intro w9 hR9 hO9; have hU := upd_new hU hO9 (Nat.le_refl _))))
    exact bodyPost_ret (v := .tuple #[.agg (List.toArray oxM), .int .i64 2]) (results_cell_row_tmp Try.results15 _ _ w.heap.size 38 _ (0, 0) _ rfl hR9 Try.underlying38 rfl sz_msg) rfl ⟨below_of_upd hU, .inr ⟨(fun h => hby h.2.2), rfl⟩⟩

  case pos =>
    rw [hby]
    have hne := str_eqV (bstr l)
    go_wp2_with (first | (with_reducible show AtL 125 38 ..; go_must (refine wpList_load_blk rfl _ _ rfl bM 0 rfl 45 _ Try.underlying38 rfl sz_msg _ _ hV rfl (rM 10 0 0 0 0 0 0 0 0 0 0 0 false 0 0 0 0 0 0 0 0 0 0 0 0 0 0 0 0 0 0 none 0 0 none 0 0 0 0 none 0 0 0 0 0 0 0 none 0 0 none 0 0 jB jC) rfl ?_)) | (with_reducible show AtS 38 2 ..; go_must (refine wpList_store_blk rfl _ _ _ rfl rfl w.heap.size 0 rfl (rM 10 0 0 0 0 0 0 0 0 0 0 0 false 0 0 0 0 0 0 0 0 0 0 0 0 0 0 0 0 0 0 none 0 0 none 0 0 0 0 none 0 0 0 0 0 0 0 none 0 0 none 0 0 jB jC) rfl _ sz_msg rfl rfl _ _ hR rfl (rM 10 0 0 0 0 0 0 0 0 0 0 0 false 0 0 0 0 0 0 0 0 0 0 0 0 0 0 0 0 0 0 none 0 0 none 0 0 0 0 none 0 0 0 0 0 0 0 none 0 0 none 0 0 jB jC) rfl ?_; intro w9 hR9 hO9; have hU := upd_new hU hO9 (Nat.le_refl _))))
    exact bodyPost_ret (v := .tuple #[.agg (List.toArray (rM 10 0 0 0 0 0 0 0 0 0 0 0 false 0 0 0 0 0 0 0 0 0 0 0 0 0 0 0 0 0 0 none 0 0 none 0 0 0 0 none 0 0 0 0 0 0 0 none 0 0 none 0 0 jB jC)), .int .i64 0]) (results_cell_row_tmp Try.results15 _ _ w.heap.size 38 _ (0, 0) _ rfl hR9 Try.underlying38 rfl sz_msg) rfl ⟨below_of_upd hU, .inl ⟨⟨rfl, hok, hby⟩, (Msg.mk 10 nQ nP 0 0 0 nC ⟨none, 0, 0⟩ nR jB jC []), rfl, wf_strip (b := (Msg.mk 10 nQ nP 0 0 0 nC ⟨none, 0, 0⟩ nR jB jC [])) rfl HWF.out, ⟨World.ownsRow_nil _ _ _ _, (fun i x hx => by simp at hx), ⟨World.ownsRow_nil _ _ _ _, World.ownsRow_nil _ _ _ _⟩, ⟨World.ownsRow_nil _ _ _ _, World.ownsRow_nil _ _ _ _⟩⟩, rfl⟩⟩

set_option maxHeartbeats 4000000 in
set_option maxRecDepth 100000 in
theorem ref_parse_0 (l : List Int) (w : World) (hb : Byt l) (hl : l.length ≤ 1000000000000000) (zY : Int) (hk0 : (zY == 0) = true ∨ 10 < zY)   (sl : List Int) (br : Bool) (h0 : bnum 1 (l, false) = (zY, (sl, br)))  (hwf : (Msg.mk zY nQ nP 0 0 0 nC ⟨none, 0, 0⟩ nR 0 0 []).wf) (hst : (Msg.mk zY nQ nP 0 0 0 nC ⟨none, 0, 0⟩ nR 0 0 []).strip = (Msg.mk zY nQ nP 0 0 0 nC ⟨none, 0, 0⟩ nR 0 0 [])) :
    Calls Try.prog 15 #[.string (bstr l)] w fun e w' => RefOut l (Msg.mk zY nQ nP 0 0 0 nC ⟨none, 0, 0⟩ nR 0 0 []) br w w' e := by
  have H0 := hideV h0
  have hwk : IntKind.u8.wrap zY = zY := wrap8 hwf.kind
  have HWF := hideV hwf
  have HST := hideV hst
  clear h0 hwf hst
  obtain ⟨s, hs⟩ : ∃ s, s = ByteArray.empty := ⟨_, rfl⟩
  have hsz : s.size = 0 := by rw [hs]; rfl
  have hS : Rst (w.heap.size + 1) ((w.alloc (.cells (List.toArray oxM) 38)).alloc (.cells #[.string (bstr l), .bool false] 122)) (l, false) := ⟨heap_alloc2_new w _ _, hb, hl⟩
  have hR : ((w.alloc (.cells (List.toArray oxM) 38)).alloc (.cells #[.string (bstr l), .bool false] 122)).heap[w.heap.size]? = some (.cells (List.toArray oxM) 38) := heap_alloc2_old w _ _
  have hU := upd_alloc2 (w.heap.size + 1) w (.cells (List.toArray oxM) 38) (.cells #[.string (bstr l), .bool false] 122)
  have hle : w.heap.size + 2 ≤ ((w.alloc (.cells (List.toArray oxM) 38)).alloc (.cells #[.string (bstr l), .bool false] 122)).heap.size := by simp
  have hneR : w.heap.size ≠ w.heap.size + 1 := by omega
  go_enter Try.func15, Try.ntmps15
  go_wp2_with (first | (go_at_call 46; go_must (refine (rest_raw H0.out _ hS (by decide)).mono ?_; rintro e w1 ⟨rfl, hS1, hU1⟩; have hU := upd_trans hU hU1; have hR := upd_blk hU1 hneR hR; have hS := hS1; have hle := Nat.le_trans hle hU1.size)) | (with_reducible show AtS 38 5 ..; go_must (refine wpList_store_blk rfl _ _ _ rfl rfl w1.heap.size 0 rfl (rM zY 0 0 0 0 0 0 0 0 0 0 0 false 0 0 0 0 0 0 0 0 0 0 0 0 0 0 0 0 0 0 none 0 0 none 0 0 0 0 none 0 0 0 0 0 0 0 none 0 0 none 0 0 0 0) rfl _ sz_msg rfl rfl _ _ (heap_alloc_new w1 (.cells (List.toArray oxM) 38)) rfl (rM zY 0 0 0 0 0 0 0 0 0 0 0 false 0 0 0 0 0 0 0 0 0 0 0 0 0 0 0 0 0 0 none 0 0 none 0 0 0 0 none 0 0 0 0 0 0 0 none 0 0 none 0 0 0 0) rfl ?_; intro w2 hV hO2; have hR := (hO2.block w.heap.size (by omega)).trans (blk_later (later_alloc w1 (.cells (List.toArray oxM) 38)) hR); have hS := (hS.alloc (.cells (List.toArray oxM) 38)).only hO2 (by omega); have hU := upd_new (upd_trans hU (upd_alloc1 _ w1 (.cells (List.toArray oxM) 38))) hO2 (by omega); obtain ⟨bM, hbMe⟩ : ∃ b, b = w1.heap.size := ⟨_, rfl⟩; rw [← hbMe] at hV ⊢; have hneV : bM ≠ w.heap.size + 1 := (by omega); have hneBV : w.heap.size + 1 ≠ bM := (by omega); have hneRV : w.heap.size ≠ bM := (by omega); have hbM : w.heap.size ≤ bM := (by omega); have hB := blk_cell hV; clear hbMe)) | (go_at_call 36; go_must (refine (ref_letters_e _ _ hk0).mono ?_; rintro e w1 ⟨rfl, hbel⟩; rw [← hs]; have hU := upd_trans hU (upd_of_below hbel); have hR := blk_later hbel hR; have hV := blk_later hbel hV; have hS := hS.later hbel; clear hB)))
  refine wp_loop_rounds 1 ?_
  rw [rounds_succ]
  go_upto_region 33 with (first | (with_reducible show AtL 107 38 ..; go_must (refine wpList_load_blk rfl _ _ rfl bM 0 rfl 45 _ Try.underlying38 rfl sz_msg _ _ hV rfl (rM zY 0 0 0 0 0 0 0 0 0 0 0 false 0 0 0 0 0 0 0 0 0 0 0 0 0 0 0 0 0 0 none 0 0 none 0 0 0 0 none 0 0 0 0 0 0 0 none 0 0 none 0 0 0 0) rfl ?_)) | (go_at_call 12; go_must (have HFIT : Hid (Msg.fit (Msg.mk zY nQ nP 0 0 0 nC ⟨none, 0, 0⟩ nR 0 0 [])) := ⟨⟨rfl, rfl⟩, ⟨rfl, rfl⟩, rfl, fun i x hx => by simp at hx⟩; refine (ref_any _ _ _ _ _ _ _ _ _ _ _ _ _ _ _ _ _ _ _ _ _ _ _ _ _ _ _ _ _ _ _ _ _ _ _ _ _ _ _ _ _ _ _ _ _ _ _ _ _ _ _ _ _ _ _ [] [] [] [] [] _ (noVotes_in _) (noRng_in _).rows (noRng_in _).dups (noRng_in _).rows (noRng_in _).dups (wf_strip (b := (Msg.mk zY nQ nP 0 0 0 nC ⟨none, 0, 0⟩ nR 0 0 [])) rfl HWF.out) (.inr rfl)).mono ?_; rintro e w1 ⟨rfl, hbel⟩; have hU := upd_trans hU (upd_of_below hbel); have hR := blk_later hbel hR; have hV := blk_later hbel hV; have hS := hS.later hbel)))
  have hcB := blk_cell hS.blk
  obtain ⟨hm1, hm2⟩ := ref_ans (a := (Msg.mk zY nQ nP 0 0 0 nC ⟨none, 0, 0⟩ nR 0 0 [])) (b := (Msg.mk zY nQ nP 0 0 0 nC ⟨none, 0, 0⟩ nR 0 0 [])) rfl HST.out HFIT.out
  cases br
  case true =>
    go_wp2_with (first | (with_reducible show AtS 38 2 ..; go_must (refine wpList_store_blk rfl _ _ _ rfl rfl w.heap.size 0 rfl oxM rfl _ sz_msg rfl rfl _ _ hR rfl oxM rfl ?_; intro w9 hR9 hO9; have hU := upd_new hU hO9 (Nat.le_refl _))))
    exact bodyPost_ret (v := .tuple #[.agg (List.toArray oxM), .int .i64 2]) (results_cell_row_tmp Try.results15 _ _ w.heap.size 38 _ (0, 0) _ rfl hR9 Try.underlying38 rfl sz_msg) rfl ⟨below_of_upd hU, .inr ⟨(fun h => (by cases h.1)), rfl⟩⟩

  case false =>
  by_cases hok : (Msg.mk zY nQ nP 0 0 0 nC ⟨none, 0, 0⟩ nR 0 0 []).ok = true
  case neg =>
    have hE : mE (Msg.mk zY nQ nP 0 0 0 nC ⟨none, 0, 0⟩ nR 0 0 []) = 1 := by rw [hm2]; exact mE_no hok
    rw [hE]
    go_wp2_with (first | (with_reducible show AtS 38 2 ..; go_must (refine wpList_store_blk rfl _ _ _ rfl rfl w.heap.size 0 rfl oxM rfl _ sz_msg rfl rfl _ _ hR rfl oxM rfl ?_; intro w9 hR9 hO9; have hU := upd_new hU hO9 (Nat.le_refl _))))
    exact bodyPost_ret (v := .tuple #[.agg (List.toArray oxM), .int .i64 2]) (results_cell_row_tmp Try.results15 _ _ w.heap.size 38 _ (0, 0) _ rfl hR9 Try.underlying38 rfl sz_msg) rfl ⟨below_of_upd hU, .inr ⟨(fun h => hok h.2.1), rfl⟩⟩

  case pos =>
  have hE : mE (Msg.mk zY nQ nP 0 0 0 nC ⟨none, 0, 0⟩ nR 0 0 []) = 0 := by rw [hm2]; exact mE_yes hok
  have hT : mS (Msg.mk zY nQ nP 0 0 0 nC ⟨none, 0, 0⟩ nR 0 0 []) = bstr (Msg.mk zY nQ nP 0 0 0 nC ⟨none, 0, 0⟩ nR 0 0 []).bytes := by rw [hm1]; exact mS_yes hok
  rw [hE, hT]
  by_cases hby : (Msg.mk zY nQ nP 0 0 0 nC ⟨none, 0, 0⟩ nR 0 0 []).bytes = l
  case neg =>
    have hne := str_ne (fun h => hby (bstr_inj (byt_msg HWF.out hok) hb h))
    go_wp2_with (first | (with_reducible show AtS 38 2 ..; go_must (refine wpList_store_blk rfl _ _ _ rfl rfl w.heap.size 0 rfl oxM rfl _ sz_msg rfl rfl _ _ hR rfl oxM rfl ?_; intro w9 hR9 hO9; have hU := upd_new hU hO9 (Nat.le_refl _))))
    exact bodyPost_ret (v := .tuple #[.agg (List.toArray oxM), .int .i64 2]) (results_cell_row_tmp Try.results15 _ _ w.heap.size 38 _ (0, 0) _ rfl hR9 Try.underlying38 rfl sz_msg) rfl ⟨below_of_upd hU, .inr ⟨(fun h => hby h.2.2), rfl⟩⟩

  case pos =>
    rw [hby]
    have hne := str_eqV (bstr l)
    go_wp2_with (first | (with_reducible show AtL 125 38 ..; go_must (refine wpList_load_blk rfl _ _ rfl bM 0 rfl 45 _ Try.underlying38 rfl sz_msg _ _ hV rfl (rM zY 0 0 0 0 0 0 0 0 0 0 0 false 0 0 0 0 0 0 0 0 0 0 0 0 0 0 0 0 0 0 none 0 0 none 0 0 0 0 none 0 0 0 0 0 0 0 none 0 0 none 0 0 0 0) rfl ?_)) | (with_reducible show AtS 38 2 ..; go_must (refine wpList_store_blk rfl _ _ _ rfl rfl w.heap.size 0 rfl (rM zY 0 0 0 0 0 0 0 0 0 0 0 false 0 0 0 0 0 0 0 0 0 0 0 0 0 0 0 0 0 0 none 0 0 none 0 0 0 0 none 0 0 0 0 0 0 0 none 0 0 none 0 0 0 0) rfl _ sz_msg rfl rfl _ _ hR rfl (rM zY 0 0 0 0 0 0 0 0 0 0 0 false 0 0 0 0 0 0 0 0 0 0 0 0 0 0 0 0 0 0 none 0 0 none 0 0 0 0 none 0 0 0 0 0 0 0 none 0 0 none 0 0 0 0) rfl ?_; intro w9 hR9 hO9; have hU := upd_new hU hO9 (Nat.le_refl _))))
    exact bodyPost_ret (v := .tuple #[.agg (List.toArray (rM zY 0 0 0 0 0 0 0 0 0 0 0 false 0 0 0 0 0 0 0 0 0 0 0 0 0 0 0 0 0 0 none 0 0 none 0 0 0 0 none 0 0 0 0 0 0 0 none 0 0 none 0 0 0 0)), .int .i64 0]) (results_cell_row_tmp Try.results15 _ _ w.heap.size 38 _ (0, 0) _ rfl hR9 Try.underlying38 rfl sz_msg) rfl ⟨below_of_upd hU, .inl ⟨⟨rfl, hok, hby⟩, (Msg.mk zY nQ nP 0 0 0 nC ⟨none, 0, 0⟩ nR 0 0 []), rfl, wf_strip (b := (Msg.mk zY nQ nP 0 0 0 nC ⟨none, 0, 0⟩ nR 0 0 [])) rfl HWF.out, ⟨World.ownsRow_nil _ _ _ _, (fun i x hx => by simp at hx), ⟨World.ownsRow_nil _ _ _ _, World.ownsRow_nil _ _ _ _⟩, ⟨World.ownsRow_nil _ _ _ _, World.ownsRow_nil _ _ _ _⟩⟩, rfl⟩⟩

end Go.Proofs.Ytignemioillaiaa

namespace Go.Proofs.Ytignemioillaiaa
open Go.RowKit

set_option maxHeartbeats 1000000 in
set_option maxRecDepth 100000 in
theorem ref_parse (l : List Int) (w : World) (hb : Byt l) (hl : l.length ≤ 1000000000000000) :
    Calls Try.prog 15 #[.string (bstr l)] w fun e w' => RefOut l (rbMsg (l, false)).1 (rbMsg (l, false)).2.2 w w' e := by
  have hwf : (rbMsg (l, false)).1.wf := (bwf_msg (l := (l, false)) hb).1
  have hst := bmsg_strip (l, false)
  have hk8 := m1 (s := (l, false)) hb
  obtain ⟨k, s0, h0⟩ : ∃ k s, bnum 1 (l, false) = (k, s) := ⟨_, _, rfl⟩
  rw [h0] at hk8
  simp only [U8] at hk8
  by_cases h1 : k = 1
  · subst h1
    obtain ⟨⟨zH, zI, zJ, zK, zL, zM, zN⟩, ⟨sl, br⟩, hq⟩ : ∃ x s, rbReq s0 = (x, s) := ⟨_, _, rfl⟩
    have e : rbMsg (l, false) = ((Msg.mk 1 (Req.mk zH zI zJ zK zL zM zN) nP 0 0 0 nC ⟨none, 0, 0⟩ nR 0 0 []), (sl, br)) := by
      simp only [rbMsg, h0, hq]
      rfl
    rw [e] at hwf hst ⊢
    exact ref_parse_1 l w hb hl zH zI zJ zK zL zM zN s0  sl br h0 hq hwf hst
  by_cases h2 : k = 2
  · subst h2
    obtain ⟨⟨zO, zP, zQ, zR, zS, zT, zU⟩, ⟨sl, br⟩, hq⟩ : ∃ x s, rbRep s0 = (x, s) := ⟨_, _, rfl⟩
    have e : rbMsg (l, false) = ((Msg.mk 2 nQ (Rep.mk zO zP zQ zR zS zT zU) 0 0 0 nC ⟨none, 0, 0⟩ nR 0 0 []), (sl, br)) := by
      simp only [rbMsg, h0, hq]
      rfl
    rw [e] at hwf hst ⊢
    exact ref_parse_2 l w hb hl zO zP zQ zR zS zT zU s0  sl br h0 hq hwf hst
  by_cases h3 : k = 3
  · subst h3
    obtain ⟨mn, sa, hb4⟩ : ∃ x s, bnum 4 s0 = (x, s) := ⟨_, _, rfl⟩
    obtain ⟨zZ, ⟨sl, br⟩, hb1⟩ : ∃ x s, bnum 1 sa = (x, s) := ⟨_, _, rfl⟩
    have e : rbMsg (l, false) = ((Msg.mk 3 nQ nP mn zZ 0 nC ⟨none, 0, 0⟩ nR 0 0 []), (sl, br)) := by
      simp only [rbMsg, h0, hb4, hb1]
      rfl
    rw [e] at hwf hst ⊢
    exact ref_parse_3 l w hb hl mn zZ s0 sa sl br h0 hb4 hb1 hwf hst
  by_cases h5 : k = 5
  · subst h5
    obtain ⟨mn, sa, hb4⟩ : ∃ x s, bnum 4 s0 = (x, s) := ⟨_, _, rfl⟩
    obtain ⟨zZ, ⟨sl, br⟩, hb1⟩ : ∃ x s, bnum 1 sa = (x, s) := ⟨_, _, rfl⟩
    have e : rbMsg (l, false) = ((Msg.mk 5 nQ nP mn zZ 0 nC ⟨none, 0, 0⟩ nR 0 0 []), (sl, br)) := by
      simp only [rbMsg, h0, hb4, hb1]
      rfl
    rw [e] at hwf hst ⊢
    exact ref_parse_5 l w hb hl mn zZ s0 sa sl br h0 hb4 hb1 hwf hst
  by_cases h6 : k = 6
  · subst h6
    obtain ⟨mn, sa, hb4⟩ : ∃ x s, bnum 4 s0 = (x, s) := ⟨_, _, rfl⟩
    obtain ⟨zZ, s1, hb1⟩ : ∃ x s, bnum 1 sa = (x, s) := ⟨_, _, rfl⟩
    obtain ⟨jA, s2, hs4⟩ : ∃ x s, bnum 4 s1 = (x, s) := ⟨_, _, rfl⟩
    obtain ⟨⟨zV, ⟨zA, zB, zC, zD, zE, zF, zG⟩, ⟨yA, yB, yC, yD, yE, crs, cds, yL, yM⟩, zW, zX⟩, ⟨sl, br⟩, hc⟩ : ∃ x s, rbCmd s2 = (x, s) := ⟨_, _, rfl⟩
    have e : rbMsg (l, false) = ((Msg.mk 6 nQ nP mn zZ jA (Cmd.mk zV (Req.mk zA zB zC zD zE zF zG) (Rng.mk yA yB yC yD yE crs cds yL yM) zW zX) ⟨none, 0, 0⟩ nR 0 0 []), (sl, br)) := by
      simp only [rbMsg, h0, hb4, hb1, hs4, hc]
      rfl
    rw [e] at hwf hst ⊢
    exact ref_parse_6 l w hb hl mn zZ jA zV zA zB zC zD zE zF zG yA yB yC yD yE crs cds yL yM zW zX s0 s1 sa s2 sl br h0 hb4 hb1 hs4 hc hwf hst
  by_cases h7 : k = 7
  · subst h7
    obtain ⟨mn, sa, hb4⟩ : ∃ x s, bnum 4 s0 = (x, s) := ⟨_, _, rfl⟩
    obtain ⟨zZ, s1, hb1⟩ : ∃ x s, bnum 1 sa = (x, s) := ⟨_, _, rfl⟩
    obtain ⟨jA, ⟨sl, br⟩, hs4⟩ : ∃ x s, bnum 4 s1 = (x, s) := ⟨_, _, rfl⟩
    have e : rbMsg (l, false) = ((Msg.mk 7 nQ nP mn zZ jA nC ⟨none, 0, 0⟩ nR 0 0 []), (sl, br)) := by
      simp only [rbMsg, h0, hb4, hb1, hs4]
      rfl
    rw [e] at hwf hst ⊢
    exact ref_parse_7 l w hb hl mn zZ jA s0 s1 sa sl br h0 hb4 hb1 hs4 hwf hst
  by_cases h8 : k = 8
  · subst h8
    obtain ⟨jA, s1, hs4⟩ : ∃ x s, bnum 4 s0 = (x, s) := ⟨_, _, rfl⟩
    obtain ⟨⟨zV, ⟨zA, zB, zC, zD, zE, zF, zG⟩, ⟨yA, yB, yC, yD, yE, crs, cds, yL, yM⟩, zW, zX⟩, ⟨sl, br⟩, hc⟩ : ∃ x s, rbCmd s1 = (x, s) := ⟨_, _, rfl⟩
    have e : rbMsg (l, false) = ((Msg.mk 8 nQ nP 0 0 jA (Cmd.mk zV (Req.mk zA zB zC zD zE zF zG) (Rng.mk yA yB yC yD yE crs cds yL yM) zW zX) ⟨none, 0, 0⟩ nR 0 0 []), (sl, br)) := by
      simp only [rbMsg, h0, hs4, hc]
      rfl
    rw [e] at hwf hst ⊢
    exact ref_parse_8 l w hb hl jA zV zA zB zC zD zE zF zG yA yB yC yD yE crs cds yL yM zW zX s0 s1 sl br h0 hs4 hc hwf hst
  by_cases h9 : k = 9
  · subst h9
    obtain ⟨⟨yN, yO, yP, yQ, yR, rrs, rds, yY, yZ⟩, ⟨sl, br⟩, hq⟩ : ∃ x s, rbRng s0 = (x, s) := ⟨_, _, rfl⟩
    have e : rbMsg (l, false) = ((Msg.mk 9 nQ nP 0 0 0 nC ⟨none, 0, 0⟩ (Rng.mk yN yO yP yQ yR rrs rds yY yZ) 0 0 []), (sl, br)) := by
      simp only [rbMsg, h0, hq]
      rfl
    rw [e] at hwf hst ⊢
    exact ref_parse_9 l w hb hl yN yO yP yQ yR rrs rds yY yZ s0  sl br h0 hq hwf hst
  by_cases h10 : k = 10
  · subst h10
    obtain ⟨jB, sa, hp1⟩ : ∃ x s, bnum 1 s0 = (x, s) := ⟨_, _, rfl⟩
    obtain ⟨jC, ⟨sl, br⟩, hp4⟩ : ∃ x s, bnum 4 sa = (x, s) := ⟨_, _, rfl⟩
    have e : rbMsg (l, false) = ((Msg.mk 10 nQ nP 0 0 0 nC ⟨none, 0, 0⟩ nR jB jC []), (sl, br)) := by
      simp only [rbMsg, h0, hp1, hp4]
      rfl
    rw [e] at hwf hst ⊢
    exact ref_parse_10 l w hb hl jB jC s0 sa sl br h0 hp1 hp4 hwf hst
  by_cases h4 : k = 4
  · subst h4
    obtain ⟨mn, sa, hb4⟩ : ∃ x s, bnum 4 s0 = (x, s) := ⟨_, _, rfl⟩
    obtain ⟨zZ, s1, hb1⟩ : ∃ x s, bnum 1 sa = (x, s) := ⟨_, _, rfl⟩
    obtain ⟨c, s2, hn⟩ : ∃ x s, bnum 1 s1 = (x, s) := ⟨_, _, rfl⟩
    have hby1 : Byt s1.1 := by
      have a0 : Byt s0.1 := by have := byt_bnum (n := 1) (s := (l, false)) hb; rw [h0] at this; exact this
      have a1 : Byt sa.1 := by have := byt_bnum (n := 4) a0; rw [hb4] at this; exact this
      have := byt_bnum (n := 1) a1; rw [hb1] at this; exact this
    obtain ⟨N1, hN1, hN⟩ := n1_of hby1
    rw [hn] at hN1
    dsimp only at hN1
    subst hN1
    obtain ⟨jD, ⟨sl, br⟩, hv⟩ : ∃ x s, rbList rbVot N1 s2 = (x, s) := ⟨_, _, rfl⟩
    have e : rbMsg (l, false) = ((Msg.mk 4 nQ nP mn zZ 0 nC ⟨none, jD.length, jD.length⟩ nR 0 0 jD), (sl, br)) := by
      simp only [rbMsg, h0, hb4, hb1, hn, Int.toNat_natCast, hv]
      rfl
    rw [e] at hwf hst ⊢
    exact ref_parse_4 l w hb hl mn zZ N1 s0 sa s1 s2 jD sl br h0 hb4 hb1 hn hN hv hwf hst
  · obtain ⟨sl, br⟩ := s0
    have e : rbMsg (l, false) = ((Msg.mk k nQ nP 0 0 0 nC ⟨none, 0, 0⟩ nR 0 0 []), (sl, br)) := by
      simp only [rbMsg, h0]
      rw [if_neg h1, if_neg h2, if_neg (by rintro (h | h); exact h3 h; exact h5 h), if_neg h4, if_neg h6, if_neg h7, if_neg h8, if_neg h9, if_neg h10]
      rfl
    rw [e] at hwf hst ⊢
    exact ref_parse_0 l w hb hl k (by by_cases hz : k = 0; exact .inl (by simp [hz]); exact .inr (by omega)) sl br h0 hwf hst

end Go.Proofs.Ytignemioillaiaa

