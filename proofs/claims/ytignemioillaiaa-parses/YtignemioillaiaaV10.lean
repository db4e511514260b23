/- The document's Parse of a Promise. -/
import Derived.Test.YtignemioillaiaaD4
import Derived.Test.YtignemioillaiaaV8
import Derived.Deep.CutRange
namespace Go.Proofs.Ytignemioillaiaa
open Go.RowKit

/-- While votes are read: what is left, the message in block bM, the votes in memory. -/
structure Vv (w wr : World) (bM : Nat) (s : List Int × Bool) (mn zZ : Int) (vV : Value) (vs : List Vot) : Prop where
  rst : Rst (w.heap.size + 1) wr s
  cR : wr.heap[w.heap.size]? = some (.cells (List.toArray oxM) 38)
  cV : wr.heap[bM]? = some (.cells (List.toArray (α := Value) (.int .u8 4 :: .int .u8 0 :: .int .u32 0 :: .int .u8 0 :: .int .u64 0 :: .int .u64 0 :: .int .u64 0 :: .int .u8 0 :: .int .u8 0 :: .int .u32 0 :: .int .u64 0 :: .int .u8 0 :: .bool false :: .int .u64 0 :: .int .u8 0 :: .int .u32 mn :: .int .u8 zZ :: .int .u32 0 :: .int .u8 0 :: .int .u8 0 :: .int .u32 0 :: .int .u8 0 :: .int .u64 0 :: .int .u64 0 :: .int .u64 0 :: .int .u8 0 :: .int .u8 0 :: .int .u8 0 :: .int .u32 0 :: .int .u64 0 :: .int .u64 0 :: .slice none 0 0 :: .slice none 0 0 :: .int .u8 0 :: .int .u32 0 :: vV :: .int .u8 0 :: .int .u8 0 :: .int .u32 0 :: .int .u64 0 :: .int .u64 0 :: .slice none 0 0 :: .slice none 0 0 :: .int .u8 0 :: .int .u32 0 :: [])) 38)
  own : wr.ownsRow (bM + 1) 84 20 vV vs.length (vs.map Vot.cells).flatten
  all : ∀ (i : Nat) (x : Vot), vs[i]? = some x → x.cmd.rng.Own (bM + 1) wr
  upd : Upd (w.heap.size + 1) w wr
  lt : w.heap.size + 1 < bM
theorem grown_onlyV {C : Nat} {w w' : World} (hO : Only C w w') : w.grownBy w' (some C) := ⟨hO.os, hO.tape, hO.output, Nat.le_of_eq hO.size.symm, fun k _ hk => hO.block k (fun e => hk (by rw [e]))⟩
section
variable {w wr : World} {bM : Nat} {s s' : List Int × Bool} {mn zZ : Int} {vV : Value} {vs : List Vot}
theorem Vv.next {w' : World} (h : Vv w wr bM s mn zZ vV vs) (hS : Rst (w.heap.size + 1) w' s') (hU : Upd (w.heap.size + 1) wr w') : Vv w w' bM s' mn zZ vV vs :=
  ⟨hS, upd_blk hU (by omega) h.cR, upd_blk hU (by have := h.lt; omega) h.cV, own_updV h.own hU (by have := h.lt; omega), fun i x hx => (h.all i x hx).upd hU (by have := h.lt; omega), upd_trans h.upd hU, h.lt⟩
theorem Vv.later {w' : World} (h : Vv w wr bM s mn zZ vV vs) (hb : Below wr.heap.size wr w') : Vv w w' bM s mn zZ vV vs :=
  ⟨h.rst.later hb, blk_later hb h.cR, blk_later hb h.cV, own_below h.own hb, fun i x hx => (h.all i x hx).below hb, upd_trans h.upd (upd_of_below hb), h.lt⟩
theorem Vv.ltM (h : Vv w wr bM s mn zZ vV vs) : bM < wr.heap.size := (Array.getElem?_eq_some_iff.1 h.cV).1
/-- A block that none of the votes' lists lies in. -/
def Free (C : Nat) (vV : Value) (vs : List Vot) : Prop := vV.ownBlock ≠ some C ∧ ∀ (i : Nat) (x : Vot), vs[i]? = some x → x.cmd.rng.rs.val.ownBlock ≠ some C ∧ x.cmd.rng.ds.val.ownBlock ≠ some C
theorem Vv.free (h : Vv w wr bM s mn zZ vV vs) : Free wr.heap.size vV vs :=
  ⟨fun e => by have := (World.ownsRow.lt h.own _ e).2; omega, fun i x hx => ⟨fun e => by have := (World.ownsRow.lt (h.all i x hx).rows _ e).2; omega, fun e => by have := (World.ownsRow.lt (h.all i x hx).dups _ e).2; omega⟩⟩
theorem Vv.only {w' : World} {C : Nat} (h : Vv w wr bM s mn zZ vV vs) (hO : Only C wr w') (hC : bM < C) (hF : Free C vV vs) : Vv w w' bM s mn zZ vV vs := by
  have hl := h.lt
  have hg : wr.grownBy w' (some C) := ⟨hO.os, hO.tape, hO.output, Nat.le_of_eq hO.size.symm, fun k _ hk => hO.block k (fun e => hk (by rw [e]))⟩
  exact ⟨h.rst.only hO (by omega), (hO.block _ (by omega)).trans h.cR, (hO.block _ (by omega)).trans h.cV, h.own.kept hg (.inr hF.1), fun i x hx => ⟨(h.all i x hx).rows.kept hg (.inr (hF.2 i x hx).1), (h.all i x hx).dups.kept hg (.inr (hF.2 i x hx).2)⟩, upd_new h.upd hO (by omega), hl⟩
/-- A vote more. -/
theorem Vv.vote {w1 w2 : World} {vV' : Value} {x : Vot} {o : Obj} (h : Vv w wr bM s mn zZ vV vs) (hx : x.cmd.rng.Own (bM + 1) wr) (ho : w1.ownsRow (bM + 1) 84 20 vV' (vs.length + 1) ((vs.map Vot.cells).flatten ++ x.cells)) (hg : Grew (wr.alloc o) vV w1 vV')
    (hW2 : w2.heap[bM]? = some (.cells (List.toArray (α := Value) (.int .u8 4 :: .int .u8 0 :: .int .u32 0 :: .int .u8 0 :: .int .u64 0 :: .int .u64 0 :: .int .u64 0 :: .int .u8 0 :: .int .u8 0 :: .int .u32 0 :: .int .u64 0 :: .int .u8 0 :: .bool false :: .int .u64 0 :: .int .u8 0 :: .int .u32 mn :: .int .u8 zZ :: .int .u32 0 :: .int .u8 0 :: .int .u8 0 :: .int .u32 0 :: .int .u8 0 :: .int .u64 0 :: .int .u64 0 :: .int .u64 0 :: .int .u8 0 :: .int .u8 0 :: .int .u8 0 :: .int .u32 0 :: .int .u64 0 :: .int .u64 0 :: .slice none 0 0 :: .slice none 0 0 :: .int .u8 0 :: .int .u32 0 :: vV' :: .int .u8 0 :: .int .u8 0 :: .int .u32 0 :: .int .u64 0 :: .int .u64 0 :: .slice none 0 0 :: .slice none 0 0 :: .int .u8 0 :: .int .u32 0 :: [])) 38)) (hO2 : Only bM w1 w2) : Vv w w2 bM s mn zZ vV' (vs ++ [x]) := by
  have hA := World.ownsRow.alloc h.own o
  have hl := h.lt
  have hM := h.ltM
  have hne : ∀ C, C < bM + 1 → some C ≠ vV.ownBlock := fun C hC e => by have := (World.ownsRow.lt hA C e.symm).1; omega
  have hlater := later_alloc wr o
  have hsz := hg.grown.size
  have hk : ∀ (r : Rng), r.Own (bM + 1) wr → r.Own (bM + 1) w2 := fun r hr => by
    have h1 := (hr.below hlater).grew hg hA
    exact ⟨own_keep h1.rows hO2 (by omega), own_keep h1.dups hO2 (by omega)⟩
  refine ⟨⟨(hO2.block _ (by omega)).trans (hg.blk (blk_later hlater h.rst.blk) (hne _ (by omega))), h.rst.byt, h.rst.len⟩, (hO2.block _ (by omega)).trans (hg.blk (blk_later hlater h.cR) (hne _ (by omega))), hW2, ?_, own_votes (fun i y hy => hk _ (h.all i y hy)) (hk _ hx), ?_, hl⟩
  · rw [List.length_append, List.map_append, List.flatten_append]
    exact own_keep (by simpa using ho) hO2 (by omega)
  · have hU1 : Upd (w.heap.size + 1) w (wr.alloc o) := upd_trans h.upd (upd_alloc1 _ wr o)
    refine upd_new ⟨hg.grown.os.trans hU1.os, hg.grown.tape.trans hU1.tape, hg.grown.output.trans hU1.output, Nat.le_trans hU1.size hg.grown.size, fun k hk hkB => ?_⟩ hO2 (by omega)
    exact (hg.grown.block k (Nat.lt_of_lt_of_le hk hU1.size) (hne k (by omega))).trans (hU1.block k hk hkB)
end

theorem strip4 (mn zZ : Int) (s : Sl) (vs : List Vot) : Msg.strip (Msg.mk 4 nQ nP mn zZ 0 nC s nR 0 0 vs) = Msg.strip (Msg.mk 4 nQ nP mn zZ 0 nC ⟨none, (vs.map Vot.strip).length, (vs.map Vot.strip).length⟩ nR 0 0 (vs.map Vot.strip)) := by
  have : (vs.map Vot.strip).map Vot.strip = vs.map Vot.strip := by rw [List.map_map]; rfl
  simp only [Msg.strip, this, List.length_map]

set_option maxHeartbeats 8000000 in
set_option maxRecDepth 100000 in
theorem ref_parse_4 (l : List Int) (w : World) (hb : Byt l) (hl : l.length ≤ 1000000000000000) (mn zZ : Int) (N1 : Nat) (s0 sa s1 s2 : List Int × Bool) (jD : List Vot) (sl : List Int) (br : Bool) (h0 : bnum 1 (l, false) = (4, s0)) (hb4 : bnum 4 s0 = (mn, sa)) (hb1 : bnum 1 sa = (zZ, s1)) (hn1 : bnum 1 s1 = ((N1 : Int), s2)) (hN : N1 ≤ 255) (hv : rbList rbVot N1 s2 = (jD, (sl, br))) (hwf : (Msg.mk 4 nQ nP mn zZ 0 nC ⟨none, jD.length, jD.length⟩ nR 0 0 jD).wf) (hst : (Msg.mk 4 nQ nP mn zZ 0 nC ⟨none, jD.length, jD.length⟩ nR 0 0 jD).strip = (Msg.mk 4 nQ nP mn zZ 0 nC ⟨none, jD.length, jD.length⟩ nR 0 0 jD)) :
    Calls Try.prog 15 #[.string (bstr l)] w fun e w' => RefOut l (Msg.mk 4 nQ nP mn zZ 0 nC ⟨none, jD.length, jD.length⟩ nR 0 0 jD) br w w' e := by
  obtain ⟨i0, hi0, hz0, hz1, hz2⟩ := info_parts info_vot
  have H0 := hideV h0
  have HB4 := hideV hb4
  have HB1 := hideV hb1
  have HN1 := hideV hn1
  have HV := hideV hv
  have HWF := hideV hwf
  have HST := hideV hst
  have hwN : IntKind.i64.wrap (N1 : Int) = (N1 : Int) := by rw [IntKind.wrap_i64]; omega
  clear h0 hb4 hb1 hn1 hv hwf hst
  obtain ⟨s, hs⟩ : ∃ s, s = bstr [98, 118] := ⟨_, rfl⟩
  have hsz : s.size = 2 := by rw [hs, bstr_size]; rfl
  have hl0 : ((s[0]'(by rw [hsz]; decide)).toNat : Int) = 98 := str_at hs rfl (by decide) _
  have hl1 : ((s[1]'(by rw [hsz]; decide)).toNat : Int) = 118 := str_at hs rfl (by decide) _
  have hS : Rst (w.heap.size + 1) ((w.alloc (.cells (List.toArray oxM) 38)).alloc (.cells #[.string (bstr l), .bool false] 122)) (l, false) := ⟨heap_alloc2_new w _ _, hb, hl⟩
  have hR : ((w.alloc (.cells (List.toArray oxM) 38)).alloc (.cells #[.string (bstr l), .bool false] 122)).heap[w.heap.size]? = some (.cells (List.toArray oxM) 38) := heap_alloc2_old w _ _
  have hU := upd_alloc2 (w.heap.size + 1) w (.cells (List.toArray oxM) 38) (.cells #[.string (bstr l), .bool false] 122)
  have hle : w.heap.size + 2 ≤ ((w.alloc (.cells (List.toArray oxM) 38)).alloc (.cells #[.string (bstr l), .bool false] 122)).heap.size := by simp
  have hneR : w.heap.size ≠ w.heap.size + 1 := by omega
  go_enter Try.func15, Try.ntmps15
  go_wp2_with (first | (go_at_call 46; go_must (refine (rest_raw H0.out _ hS (by decide)).mono ?_; rintro e w1 ⟨rfl, hS1, hU1⟩; have hU := upd_trans hU hU1; have hR := upd_blk hU1 hneR hR; have hS := hS1; have hle := Nat.le_trans hle hU1.size)) | (with_reducible show AtS 38 5 ..; go_must (refine wpList_store_blk rfl _ _ _ rfl rfl w1.heap.size 0 rfl (rM 4 0 0 0 0 0 0 0 0 0 0 0 false 0 0 0 0 0 0 0 0 0 0 0 0 0 0 0 0 0 0 none 0 0 none 0 0 0 0 none 0 0 0 0 0 0 0 none 0 0 none 0 0 0 0) rfl _ sz_msg rfl rfl _ _ (heap_alloc_new w1 (.cells (List.toArray oxM) 38)) rfl (rM 4 0 0 0 0 0 0 0 0 0 0 0 false 0 0 0 0 0 0 0 0 0 0 0 0 0 0 0 0 0 0 none 0 0 none 0 0 0 0 none 0 0 0 0 0 0 0 none 0 0 none 0 0 0 0) rfl ?_; intro w2 hV hO2; have hR := (hO2.block w.heap.size (by omega)).trans (blk_later (later_alloc w1 (.cells (List.toArray oxM) 38)) hR); have hS := (hS.alloc (.cells (List.toArray oxM) 38)).only hO2 (by omega); have hU := upd_new (upd_trans hU (upd_alloc1 _ w1 (.cells (List.toArray oxM) 38))) hO2 (by omega); obtain ⟨bM, hbMe⟩ : ∃ b, b = w1.heap.size := ⟨_, rfl⟩; rw [← hbMe] at hV ⊢; have hneV : bM ≠ w.heap.size + 1 := (by omega); have hneBV : w.heap.size + 1 ≠ bM := (by omega); have hneRV : w.heap.size ≠ bM := (by omega); have hbM : w.heap.size ≤ bM := (by omega); have hB := blk_cell hV; have hltM : w.heap.size + 1 < bM := (by omega); clear hbMe)) | (go_at_call 36; go_must (refine (ref_letters_4 _).mono ?_; rintro e w1 ⟨rfl, hbel⟩; rw [← hs]; have hU := upd_trans hU (upd_of_below hbel); have hR := blk_later hbel hR; have hV := blk_later hbel hV; have hS := hS.later hbel; clear hB)))
  refine wp_loop_rounds 3 ?_
  rw [rounds_succ]
  go_wp2_with (first | (go_at_call 49; go_must (refine (bal_raw HB4.out HB1.out _ hS).mono ?_; rintro e w1 ⟨rfl, hS1, hU1⟩; have hU := upd_trans hU hU1; have hR := upd_blk hU1 hneR hR; have hV := upd_blk hU1 hneV hV; have hS := hS1)) | (with_reducible show AtS 29 46 ..; go_must (refine wpList_store_blk rfl _ _ _ rfl rfl bM 15 rfl [.int .u32 mn, .int .u8 zZ] rfl _ sz_bal rfl rfl _ _ hV rfl (rM 4 0 0 0 0 0 0 0 0 0 0 0 false 0 0 mn zZ 0 0 0 0 0 0 0 0 0 0 0 0 0 0 none 0 0 none 0 0 0 0 none 0 0 0 0 0 0 0 none 0 0 none 0 0 0 0) rfl ?_; intro w1 hV1 hO1; have hV := hV1; have hU := upd_new hU hO1 hbM; have hR := (hO1.block _ hneRV).trans hR; have hS := hS.only hO1 hneBV)))
  rw [rounds_succ]
  go_wp2_with (first | (go_at_call 46; go_must (refine (rest_raw HN1.out _ hS (by decide)).mono ?_; rintro e w1 ⟨rfl, hS1, hU1⟩; have hU := upd_trans hU hU1; have hR := upd_blk hU1 hneR hR; have hV := upd_blk hU1 hneV hV; have hS := hS1)))
  have HM := hideV (Vv.mk (vV := .slice none 0 0) (vs := []) hS hR hV (World.ownsRow_nil _ _ _ _) (fun i x hx => by simp at hx) hU hltM)
  clear hS hR hV hU hneV hneBV hneRV hbM hneR hle
  go_loopw [9] (fun i wr => ∃ (j : Nat) (vs : List Vot) (st : List Int × Bool) (vV : Value), i = .int .i64 j ∧ Hid (Vv w wr bM st mn zZ vV vs) ∧ Hid (Gone rbVot N1 s2 j (vs.map Vot.strip) st)) (fun i _ => N1 - (intOf i).toNat)
  case atStart => exact ⟨0, [], _, _, rfl, HM, Gone.start _ _ _⟩
  case round =>
    clear HM
    obtain ⟨j, vs, st, vV, rfl, HM, HG⟩ := hrel
    have hcB := blk_cell HM.out.rst.blk
    by_cases hgo : j < N1 ∧ st.2 = false
    · obtain ⟨hj, hbf⟩ := hgo
      have hdj : decide ((j : Int) < (N1 : Int)) = true := by simp; omega
      have HVL : Hid (vs.length ≤ 255) := by have := HG.out.len; simp at this; show _ ≤ _; omega
      obtain ⟨vslot, sa, HV4⟩ : ∃ v s, Hid (bnum 4 st = (v, s)) := ⟨_, _, rfl⟩
      obtain ⟨vn, sb, HVn⟩ : ∃ v s, Hid (bnum 4 sa = (v, s)) := ⟨_, _, rfl⟩
      obtain ⟨vid, sc, HVi⟩ : ∃ v s, Hid (bnum 1 sb = (v, s)) := ⟨_, _, rfl⟩
      obtain ⟨⟨gR, ⟨gI, gJ, gK, gM, gN, gP, gQ⟩, ⟨jU, jV, jW, jX, jY, crs, cds, gG, gH⟩, gS, gT⟩, sd, HVc⟩ : ∃ c s, Hid (rbCmd sc = (c, s)) := ⟨_, _, rfl⟩
      have hws : IntKind.u32.wrap vslot = vslot := by have := m4 (s := st) HM.out.rst.byt; rw [HV4.out] at this; exact wrap32 this
      have HX : Hid (rbVot st = (⟨vslot, vn, vid, ⟨gR, (Req.mk gI gJ gK gM gN gP gQ), ⟨jU, jV, jW, jX, jY, crs, cds, gG, gH⟩, gS, gT⟩⟩, sd)) := by
        show _ = _
        unfold rbVot
        dsimp only
        rw [HV4.out]; dsimp only; rw [HVn.out]; dsimp only; rw [HVi.out]; dsimp only; rw [HVc.out]
      go_wp2_with (first | (go_at_call 46; go_must (refine (rest_raw HV4.out _ HM.out.rst (by decide)).mono ?_; rintro e w1 ⟨rfl, hS1, hU1⟩; have HM := hideV (HM.out.next hS1 hU1); clear hS1 hU1)) | (with_reducible show AtS 84 10 ..; go_must (refine wpList_store_blk rfl _ _ _ rfl rfl w1.heap.size 0 rfl (rV vslot 0 0 0 0 0 0 0 0 0 0 0 0 0 0 0 none 0 0 none 0 0 0 0) rfl _ sz_vot rfl rfl _ _ (heap_alloc_new w1 (.cells (List.toArray oxV) 84)) rfl (rV vslot 0 0 0 0 0 0 0 0 0 0 0 0 0 0 0 none 0 0 none 0 0 0 0) rfl ?_; intro w2 hT hO2; have hF := HM.out.free; have hlM := HM.out.ltM; have HM := hideV (HM.out.later ((later_alloc w1 (.cells (List.toArray oxV) 84)).trans (hO2.below (Nat.le_refl _)))); obtain ⟨bT, hbT⟩ : ∃ b, b = w1.heap.size := ⟨_, rfl⟩; rw [← hbT] at hT hF hlM ⊢; have HF := hideV hF; have hltT : w.heap.size + 1 < bT := (by have := HM.out.lt; omega); have hneT : bT ≠ w.heap.size + 1 := (by omega); clear hbT hO2 hF)) | (go_at_call 49; go_must (refine (bal_raw HVn.out HVi.out _ HM.out.rst).mono ?_; rintro e w1 ⟨rfl, hS1, hU1⟩; have HM := hideV (HM.out.next hS1 hU1); have hT := upd_blk hU1 hneT hT; clear hS1 hU1)) | (with_reducible show AtS 29 81 ..; go_must (refine wpList_store_blk rfl _ _ _ rfl rfl bT 1 rfl [.int .u32 vn, .int .u8 vid] rfl _ sz_bal rfl rfl _ _ hT rfl (rV vslot vn vid 0 0 0 0 0 0 0 0 0 0 0 0 0 none 0 0 none 0 0 0 0) rfl ?_; intro w1 hT1 hO1; have hT := hT1; have HM := hideV (HM.out.only hO1 hlM HF.out); clear hT1 hO1)) | (go_at_call 50; go_must (refine (rest_cmd _ _ _ HM.out.rst _ _ _ _ _ _ _ _ _ _ _ _ _ _ _ _ _ _ _ _ HVc.out).mono ?_; rintro e w1 ⟨jZ, gA, gB, gC, gD, gF, rfl, hoA, hoB, hS1, hU1⟩; have hlM2 := HM.out.ltM; have HO := hideV (And.intro (own_mono hoA hlM2) (own_mono hoB hlM2)); have hnA : Value.ownBlock (.slice jZ gA gB) ≠ some bT := (fun e => by have := (World.ownsRow.lt hoA _ e).1; have := (Array.getElem?_eq_some_iff.1 hT).1; omega); have hnB : Value.ownBlock (.slice gC gD gF) ≠ some bT := (fun e => by have := (World.ownsRow.lt hoB _ e).1; have := (Array.getElem?_eq_some_iff.1 hT).1; omega); have HM := hideV (HM.out.next hS1 hU1); have hT := upd_blk hU1 hneT hT; clear hS1 hU1 hoA hoB)) | (with_reducible show AtS 35 84 ..; go_must (refine wpList_store_blk rfl _ _ _ rfl rfl bT 3 rfl (rC gR gI gJ gK gM gN gP gQ jU jV jW jX jY jZ gA gB gC gD gF gS gT) rfl _ sz_cmd rfl rfl _ _ hT rfl (rV vslot vn vid gR gI gJ gK gM gN gP gQ jU jV jW jX jY jZ gA gB gC gD gF gS gT) rfl ?_; intro w1 hT1 hO1; have hT := hT1; have hg := grown_onlyV hO1; have HO := hideV (And.intro (HO.out.1.kept hg (.inr hnA)) (HO.out.2.kept hg (.inr hnB))); have HM := hideV (HM.out.only hO1 hlM HF.out); have hcV := blk_cell HM.out.cV; clear hT1 hO1 hg hnA hnB)) | (with_reducible show AtL 87 84 ..; go_must (refine wpList_load_blk rfl _ _ rfl bT 0 rfl 20 _ Try.underlying84 rfl sz_vot _ _ hT rfl (rV vslot vn vid gR gI gJ gK gM gN gP gQ jU jV jW jX jY jZ gA gB gC gD gF gS gT) rfl ?_)) | (with_reducible show wpList _ _ _ ({ dst := some 89, op := Op.call _, type := _, pos := _, after := _, guard := none } :: _) _ _; go_must (refine wpList_append_new _ rfl _ _ 36 rfl (bM + 1) 84 i0 (.agg (List.toArray oxV)) 20 152 Try.underlying36 hi0 hz0 hz1 hz2 rfl (by decide) vV vs.length (vs.map Vot.cells).flatten rfl (World.ownsRow.alloc HM.out.own _) _ 1 1 (rV vslot vn vid gR gI gJ gK gM gN gP gQ jU jV jW jX jY jZ gA gB gC gD gF gS gT) rfl rfl ?_ ?_ ?_ ?_ ?_ ?_; (· exact new_cells rfl); (· exact vot_one _ _ _ _ _ _ _ _ _ _ _ _ _ _ _ _ _ _ _ _ _ _ _ _); (· (have := HVL.out; unfold maxLen; omega)); (· (have := HVL.out; omega)); (· exact Nat.le_trans HM.out.ltM (later_alloc _ _).size); intro vV' w5 ho5 hg5; have hV5 := hg5.blk (blk_later (later_alloc _ _) HM.out.cV) (mv_ne HM.out.own (Nat.lt_succ_self bM)))) | (with_reducible show AtS 36 90 ..; go_must (refine wpList_store_cell rfl _ _ _ rfl rfl bM 35 rfl vV' rfl sz_votes (own_oneV ho5) _ _ hV5 rfl (.int .u8 4 :: .int .u8 0 :: .int .u32 0 :: .int .u8 0 :: .int .u64 0 :: .int .u64 0 :: .int .u64 0 :: .int .u8 0 :: .int .u8 0 :: .int .u32 0 :: .int .u64 0 :: .int .u8 0 :: .bool false :: .int .u64 0 :: .int .u8 0 :: .int .u32 mn :: .int .u8 zZ :: .int .u32 0 :: .int .u8 0 :: .int .u8 0 :: .int .u32 0 :: .int .u8 0 :: .int .u64 0 :: .int .u64 0 :: .int .u64 0 :: .int .u8 0 :: .int .u8 0 :: .int .u8 0 :: .int .u32 0 :: .int .u64 0 :: .int .u64 0 :: .slice none 0 0 :: .slice none 0 0 :: .int .u8 0 :: .int .u32 0 :: vV' :: .int .u8 0 :: .int .u8 0 :: .int .u32 0 :: .int .u64 0 :: .int .u64 0 :: .slice none 0 0 :: .slice none 0 0 :: .int .u8 0 :: .int .u32 0 :: []) rfl ?_; intro w6 hW6 hO6)))
      go_roundw
      case rel =>
        refine ⟨j + 1, _, sd, vV', by go_num, Vv.vote (x := (Vot.mk vslot vn vid (Cmd.mk gR (Req.mk gI gJ gK gM gN gP gQ) (Rng.mk jU jV jW jX jY ⟨jZ, gA, gB⟩ ⟨gC, gD, gF⟩ gG gH) gS gT))) HM.out ⟨HO.out.1, HO.out.2⟩ ho5 hg5 hW6 hO6, ?_⟩
        have h1 := HG.out.more hj hbf
        have h2 := bvot_strip st
        rw [HX.out] at h1 h2
        dsimp only at h1 h2
        rw [List.map_append, List.map_cons, List.map_nil]
        rw [← h2] at h1
        exact h1
      case measure => simp [intOf]; omega
    · have hdone := HG.out.done (by
        by_cases hj : j < N1
        · right
          cases hb : st.2
          · exact absurd ⟨hj, hb⟩ hgo
          · rfl
        · left; have := HG.out.le; omega)
      rw [HV.out] at hdone
      obtain ⟨hd1, hd2⟩ := Prod.mk.inj hdone
      subst hd1
      subst hd2
      clear hdone
      go_upto_region 21 with fail
      go_cut [72] from 63 to 90 (fun t wx => t = .bool false ∧ wx = wr)
      case first =>
        by_cases hj : j < N1
        · have hb : br = true := by
            cases hb : br
            · exact absurd ⟨hj, hb⟩ hgo
            · rfl
          have hdj : decide ((j : Int) < (N1 : Int)) = true := by simp; omega
          go_wp2_with fail
          go_meet
          exact ⟨rfl, rfl⟩
        · have hdj : decide ((j : Int) < (N1 : Int)) = false := by simp; omega
          go_wp2_with fail
          go_meet
          exact ⟨rfl, rfl⟩
      case rest =>
        obtain ⟨rfl, rfl⟩ := hcut
        clear hcB hgo
        obtain ⟨hS, hR, hV, hoV, hoI, hU, hltM⟩ := HM.out
        obtain ⟨jE, jF, jG, hvV⟩ := own_shape hoV
        subst hvV
        clear HM HG
        go_wp2_with fail
        rw [rounds_succ]
        go_upto_region 33 with (first | (with_reducible show AtL 107 38 ..; go_must (refine wpList_load_blk rfl _ _ rfl bM 0 rfl 45 _ Try.underlying38 rfl sz_msg _ _ hV rfl (rM 4 0 0 0 0 0 0 0 0 0 0 0 false 0 0 mn zZ 0 0 0 0 0 0 0 0 0 0 0 0 0 0 none 0 0 none 0 0 0 0 jE jF jG 0 0 0 0 0 none 0 0 none 0 0 0 0) rfl ?_)) | (go_at_call 12; go_must (have hvi : VotesIn _ _ ⟨jE, jF, jG⟩ vs := ⟨own_slin' (by rw [List.length_map]; exact hoV) (vots_all _), fun i x hx => (hoI i x hx).In⟩; have HFIT : Hid (Msg.fit (Msg.mk 4 nQ nP mn zZ 0 nC ⟨jE, jF, jG⟩ nR 0 0 vs)) := ⟨⟨rfl, rfl⟩, ⟨rfl, rfl⟩, by simpa using hvi.sl.len, fun i x hx => ⟨by simpa using (hvi.all i x hx).rows.len, by simpa using (hvi.all i x hx).dups.len⟩⟩; have HSTR : Hid (Msg.strip (Msg.mk 4 nQ nP mn zZ 0 nC ⟨jE, jF, jG⟩ nR 0 0 vs) = Msg.strip (Msg.mk 4 nQ nP mn zZ 0 nC ⟨none, (vs.map Vot.strip).length, (vs.map Vot.strip).length⟩ nR 0 0 (vs.map Vot.strip))) := strip4 _ _ _ _; have HWF1 : Hid (Msg.wf (Msg.mk 4 nQ nP mn zZ 0 nC ⟨jE, jF, jG⟩ nR 0 0 vs)) := wf_strip HSTR.out HWF.out; refine (ref_any _ _ _ _ _ _ _ _ _ _ _ _ _ _ _ _ _ _ _ _ _ _ _ _ _ _ _ _ _ _ _ _ _ _ _ _ _ _ _ _ _ _ _ _ _ _ _ _ _ _ _ _ _ _ _ [] [] [] [] vs _ hvi (noRng_in _).rows (noRng_in _).dups (noRng_in _).rows (noRng_in _).dups HWF1.out (.inl rfl)).mono ?_; rintro e w1 ⟨rfl, hbel⟩; have hU := upd_trans hU (upd_of_below hbel); have hR := blk_later hbel hR; have hV := blk_later hbel hV; have hS := hS.later hbel; have hoV := own_below hoV hbel; have hoI := (fun i x hx => (hoI i x hx).below hbel : ∀ (i : Nat) (x : Vot), vs[i]? = some x → x.cmd.rng.Own (bM + 1) w1))))
        have hcB := blk_cell hS.blk
        obtain ⟨hm1, hm2⟩ := ref_ans HSTR.out HST.out HFIT.out
        cases br
        case true =>
          go_wp2_with (first | (with_reducible show AtS 38 2 ..; go_must (refine wpList_store_blk rfl _ _ _ rfl rfl w.heap.size 0 rfl oxM rfl _ sz_msg rfl rfl _ _ hR rfl oxM rfl ?_; intro w9 hR9 hO9; have hU := upd_new hU hO9 (Nat.le_refl _))))
          exact bodyPost_ret (v := .tuple #[.agg (List.toArray oxM), .int .i64 2]) (results_cell_row_tmp Try.results15 _ _ w.heap.size 38 _ (0, 0) _ rfl hR9 Try.underlying38 rfl sz_msg) rfl ⟨below_of_upd hU, .inr ⟨(fun h => (by cases h.1)), rfl⟩⟩
        case false =>
        by_cases hok : (Msg.mk 4 nQ nP mn zZ 0 nC ⟨none, (vs.map Vot.strip).length, (vs.map Vot.strip).length⟩ nR 0 0 (vs.map Vot.strip)).ok = true
        case neg =>
          have hE : mE (Msg.mk 4 nQ nP mn zZ 0 nC ⟨jE, jF, jG⟩ nR 0 0 vs) = 1 := by rw [hm2]; exact mE_no hok
          rw [hE]
          go_wp2_with (first | (with_reducible show AtS 38 2 ..; go_must (refine wpList_store_blk rfl _ _ _ rfl rfl w.heap.size 0 rfl oxM rfl _ sz_msg rfl rfl _ _ hR rfl oxM rfl ?_; intro w9 hR9 hO9; have hU := upd_new hU hO9 (Nat.le_refl _))))
          exact bodyPost_ret (v := .tuple #[.agg (List.toArray oxM), .int .i64 2]) (results_cell_row_tmp Try.results15 _ _ w.heap.size 38 _ (0, 0) _ rfl hR9 Try.underlying38 rfl sz_msg) rfl ⟨below_of_upd hU, .inr ⟨(fun h => hok h.2.1), rfl⟩⟩
        case pos =>
        have hE : mE (Msg.mk 4 nQ nP mn zZ 0 nC ⟨jE, jF, jG⟩ nR 0 0 vs) = 0 := by rw [hm2]; exact mE_yes hok
        obtain ⟨tb, htb⟩ : ∃ t, t = (Msg.mk 4 nQ nP mn zZ 0 nC ⟨none, (vs.map Vot.strip).length, (vs.map Vot.strip).length⟩ nR 0 0 (vs.map Vot.strip)).bytes := ⟨_, rfl⟩
        have hT : mS (Msg.mk 4 nQ nP mn zZ 0 nC ⟨jE, jF, jG⟩ nR 0 0 vs) = bstr tb := by rw [hm1, htb]; exact mS_yes hok
        have htB : Byt tb := by rw [htb]; exact byt_msg HWF.out hok
        have HTB := hideV htb
        have HOK := hideV hok
        clear hm1 hm2 htb hok
        rw [hE, hT]
        by_cases hby : tb = l
        case neg =>
          have hne := str_ne (fun h => hby (bstr_inj htB hb h))
          go_wp2_with (first | (with_reducible show AtS 38 2 ..; go_must (refine wpList_store_blk rfl _ _ _ rfl rfl w.heap.size 0 rfl oxM rfl _ sz_msg rfl rfl _ _ hR rfl oxM rfl ?_; intro w9 hR9 hO9; have hU := upd_new hU hO9 (Nat.le_refl _))))
          exact bodyPost_ret (v := .tuple #[.agg (List.toArray oxM), .int .i64 2]) (results_cell_row_tmp Try.results15 _ _ w.heap.size 38 _ (0, 0) _ rfl hR9 Try.underlying38 rfl sz_msg) rfl ⟨below_of_upd hU, .inr ⟨(fun h => hby (HTB.out.trans h.2.2)), rfl⟩⟩
        case pos =>
          rw [hby]
          have hne := str_eqV (bstr l)
          go_wp2_with (first | (with_reducible show AtL 125 38 ..; go_must (refine wpList_load_blk rfl _ _ rfl bM 0 rfl 45 _ Try.underlying38 rfl sz_msg _ _ hV rfl (rM 4 0 0 0 0 0 0 0 0 0 0 0 false 0 0 mn zZ 0 0 0 0 0 0 0 0 0 0 0 0 0 0 none 0 0 none 0 0 0 0 jE jF jG 0 0 0 0 0 none 0 0 none 0 0 0 0) rfl ?_)) | (with_reducible show AtS 38 2 ..; go_must (refine wpList_store_blk rfl _ _ _ rfl rfl w.heap.size 0 rfl (rM 4 0 0 0 0 0 0 0 0 0 0 0 false 0 0 mn zZ 0 0 0 0 0 0 0 0 0 0 0 0 0 0 none 0 0 none 0 0 0 0 jE jF jG 0 0 0 0 0 none 0 0 none 0 0 0 0) rfl _ sz_msg rfl rfl _ _ hR rfl (rM 4 0 0 0 0 0 0 0 0 0 0 0 false 0 0 mn zZ 0 0 0 0 0 0 0 0 0 0 0 0 0 0 none 0 0 none 0 0 0 0 jE jF jG 0 0 0 0 0 none 0 0 none 0 0 0 0) rfl ?_; intro w9 hR9 hO9; have hU := upd_new hU hO9 (Nat.le_refl _))))
          exact bodyPost_ret (v := .tuple #[.agg (List.toArray (rM 4 0 0 0 0 0 0 0 0 0 0 0 false 0 0 mn zZ 0 0 0 0 0 0 0 0 0 0 0 0 0 0 none 0 0 none 0 0 0 0 jE jF jG 0 0 0 0 0 none 0 0 none 0 0 0 0)), .int .i64 0]) (results_cell_row_tmp Try.results15 _ _ w.heap.size 38 _ (0, 0) _ rfl hR9 Try.underlying38 rfl sz_msg) rfl ⟨below_of_upd hU, .inl ⟨⟨rfl, HOK.out, HTB.out.symm.trans hby⟩, (Msg.mk 4 nQ nP mn zZ 0 nC ⟨jE, jF, jG⟩ nR 0 0 vs), HSTR.out, HWF1.out, ⟨own_mono (own_keep hoV hO9 (by omega)) (by omega), (fun i x hx => ⟨own_mono (own_keep (hoI i x hx).rows hO9 (by omega)) (by omega), own_mono (own_keep (hoI i x hx).dups hO9 (by omega)) (by omega)⟩), ⟨World.ownsRow_nil _ _ _ _, World.ownsRow_nil _ _ _ _⟩, ⟨World.ownsRow_nil _ _ _ _, World.ownsRow_nil _ _ _ _⟩⟩, rfl⟩⟩

end Go.Proofs.Ytignemioillaiaa

