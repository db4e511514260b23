/- The document's answer: when a command is right. -/
import Derived.Test.YtignemioillaiaaD4
import Derived.Test.YtignemioillaiaaC5
namespace Go.Proofs.Ytignemioillaiaa
open Go.RowKit

set_option maxHeartbeats 1000000 in
set_option maxRecDepth 100000 in
theorem ref_cmd_0 (gR : Int) (gI gJ gK gM gN gP gQ : Int) (jU jV jW jX jY : Int) (jZ : Option Addr) (gA gB : Nat) (gC : Option Addr) (gD gF : Nat) (gS gT : Int) (gG : List Row) (gH : List Rep) (w : World) (_h1 : SlIn w.heap.size w ⟨jZ, gA, gB⟩ 2 (gG.map Row.cells)) (_h2 : SlIn w.heap.size w ⟨gC, gD, gF⟩ 7 (gH.map Rep.cells)) (hwf : (Cmd.mk gR (Req.mk gI gJ gK gM gN gP gQ) (Rng.mk jU jV jW jX jY ⟨jZ, gA, gB⟩ ⟨gC, gD, gF⟩ gG gH) gS gT).wf) (hk : gR = 0) :
    Calls Try.prog 88 #[.agg (List.toArray (rC gR gI gJ gK gM gN gP gQ jU jV jW jX jY jZ gA gB gC gD gF gS gT))] w fun e w' => e = .returned (.bool (Cmd.mk gR (Req.mk gI gJ gK gM gN gP gQ) (Rng.mk jU jV jW jX jY ⟨jZ, gA, gB⟩ ⟨gC, gD, gF⟩ gG gH) gS gT).ok) ∧ Below w.heap.size w w' := by
  obtain ⟨hk1, hq1, hr1, hp1, hs1⟩ := hwf
  have hqs := hq1.s
  simp only [U8, U32] at hk1 hp1 hs1 hqs
  have HWR : Hid (Rng.mk jU jV jW jX jY ⟨jZ, gA, gB⟩ ⟨gC, gD, gF⟩ gG gH).wf := hr1
  clear hq1 hr1
  subst hk
  go_enter Try.func88, Try.ntmps88
  go_wp2_with (first | (with_reducible show AtL 9 25 ..; go_must (refine wpList_load_blk rfl _ _ rfl w.heap.size 1 rfl 7 _ Try.underlying25 rfl sz_req _ _ (heap_alloc_new w _) rfl (rQ gI gJ gK gM gN gP gQ) rfl ?_)) | (with_reducible show AtL 13 33 ..; go_must (refine wpList_load_blk rfl _ _ rfl w.heap.size 8 rfl 7 _ Try.underlying33 rfl sz_rng _ _ (heap_alloc_new w _) rfl (rR jU jV jW jX jY jZ gA gB gC gD gF) rfl ?_)) | (go_at_call 89; go_must (refine (ref_norange _ _ _ _ _ _ _ _ _ _ _ gG gH _).mono ?_; rintro e w1 ⟨rfl, hbel1⟩; have hW1 := blk_later hbel1 (heap_alloc_new w _); have hB1 := blk_cell hW1; have hT1 := later_trans (later_alloc w _) hbel1)))
  all_goals go_ret
  all_goals refine ⟨ret_bool ?_, ?_⟩
  all_goals first | exact hT1 | skip
  all_goals simp_all [Cmd.ok, Req.no]
  all_goals (try omega)

set_option maxHeartbeats 1000000 in
set_option maxRecDepth 100000 in
theorem ref_cmd_1 (gR : Int) (gI gJ gK gM gN gP gQ : Int) (jU jV jW jX jY : Int) (jZ : Option Addr) (gA gB : Nat) (gC : Option Addr) (gD gF : Nat) (gS gT : Int) (gG : List Row) (gH : List Rep) (w : World) (_h1 : SlIn w.heap.size w ⟨jZ, gA, gB⟩ 2 (gG.map Row.cells)) (_h2 : SlIn w.heap.size w ⟨gC, gD, gF⟩ 7 (gH.map Rep.cells)) (hwf : (Cmd.mk gR (Req.mk gI gJ gK gM gN gP gQ) (Rng.mk jU jV jW jX jY ⟨jZ, gA, gB⟩ ⟨gC, gD, gF⟩ gG gH) gS gT).wf) (hk : gR = 1) :
    Calls Try.prog 88 #[.agg (List.toArray (rC gR gI gJ gK gM gN gP gQ jU jV jW jX jY jZ gA gB gC gD gF gS gT))] w fun e w' => e = .returned (.bool (Cmd.mk gR (Req.mk gI gJ gK gM gN gP gQ) (Rng.mk jU jV jW jX jY ⟨jZ, gA, gB⟩ ⟨gC, gD, gF⟩ gG gH) gS gT).ok) ∧ Below w.heap.size w w' := by
  obtain ⟨hk1, hq1, hr1, hp1, hs1⟩ := hwf
  have hqs := hq1.s
  simp only [U8, U32] at hk1 hp1 hs1 hqs
  have HWR : Hid (Rng.mk jU jV jW jX jY ⟨jZ, gA, gB⟩ ⟨gC, gD, gF⟩ gG gH).wf := hr1
  clear hq1 hr1
  subst hk
  go_enter Try.func88, Try.ntmps88
  go_wp2_with (first | (with_reducible show AtL 9 25 ..; go_must (refine wpList_load_blk rfl _ _ rfl w.heap.size 1 rfl 7 _ Try.underlying25 rfl sz_req _ _ (heap_alloc_new w _) rfl (rQ gI gJ gK gM gN gP gQ) rfl ?_)) | (with_reducible show AtL 13 33 ..; go_must (refine wpList_load_blk rfl _ _ rfl w.heap.size 8 rfl 7 _ Try.underlying33 rfl sz_rng _ _ (heap_alloc_new w _) rfl (rR jU jV jW jX jY jZ gA gB gC gD gF) rfl ?_)) | (go_at_call 89; go_must (refine (ref_norange _ _ _ _ _ _ _ _ _ _ _ gG gH _).mono ?_; rintro e w1 ⟨rfl, hbel1⟩; have hW1 := blk_later hbel1 (heap_alloc_new w _); have hB1 := blk_cell hW1; have hT1 := later_trans (later_alloc w _) hbel1)) | (with_reducible show AtL 37 25 ..; go_must (refine wpList_load_blk rfl _ _ rfl w.heap.size 1 rfl 7 _ Try.underlying25 rfl sz_req _ _ hW1 rfl _ rfl ?_)) | (go_at_call 86; go_must (refine (ref_request _ _ _ _ _ _ _ _ (by omega)).mono ?_; rintro e w2 ⟨rfl, hbel2⟩; have hT2 := later_trans hT1 hbel2)))
  all_goals go_ret
  all_goals refine ⟨ret_bool ?_, ?_⟩
  all_goals first | exact hT2 | skip
  all_goals simp_all [Cmd.ok, Req.no]
  all_goals (try omega)

set_option maxHeartbeats 1000000 in
set_option maxRecDepth 100000 in
theorem ref_cmd_2 (gR : Int) (gI gJ gK gM gN gP gQ : Int) (jU jV jW jX jY : Int) (jZ : Option Addr) (gA gB : Nat) (gC : Option Addr) (gD gF : Nat) (gS gT : Int) (gG : List Row) (gH : List Rep) (w : World) (h1 : SlIn w.heap.size w ⟨jZ, gA, gB⟩ 2 (gG.map Row.cells)) (h2 : SlIn w.heap.size w ⟨gC, gD, gF⟩ 7 (gH.map Rep.cells)) (hwf : (Cmd.mk gR (Req.mk gI gJ gK gM gN gP gQ) (Rng.mk jU jV jW jX jY ⟨jZ, gA, gB⟩ ⟨gC, gD, gF⟩ gG gH) gS gT).wf) (hk : gR = 2) :
    Calls Try.prog 88 #[.agg (List.toArray (rC gR gI gJ gK gM gN gP gQ jU jV jW jX jY jZ gA gB gC gD gF gS gT))] w fun e w' => e = .returned (.bool (Cmd.mk gR (Req.mk gI gJ gK gM gN gP gQ) (Rng.mk jU jV jW jX jY ⟨jZ, gA, gB⟩ ⟨gC, gD, gF⟩ gG gH) gS gT).ok) ∧ Below w.heap.size w w' := by
  obtain ⟨hk1, hq1, hr1, hp1, hs1⟩ := hwf
  have hqs := hq1.s
  simp only [U8, U32] at hk1 hp1 hs1 hqs
  have HWR : Hid (Rng.mk jU jV jW jX jY ⟨jZ, gA, gB⟩ ⟨gC, gD, gF⟩ gG gH).wf := hr1
  clear hq1 hr1
  subst hk
  go_enter Try.func88, Try.ntmps88
  go_wp2_with (first | (with_reducible show AtL 9 25 ..; go_must (refine wpList_load_blk rfl _ _ rfl w.heap.size 1 rfl 7 _ Try.underlying25 rfl sz_req _ _ (heap_alloc_new w _) rfl (rQ gI gJ gK gM gN gP gQ) rfl ?_)) | (with_reducible show AtL 13 33 ..; go_must (refine wpList_load_blk rfl _ _ rfl w.heap.size 8 rfl 7 _ Try.underlying33 rfl sz_rng _ _ (heap_alloc_new w _) rfl (rR jU jV jW jX jY jZ gA gB gC gD gF) rfl ?_)) | (go_at_call 89; go_must (refine (ref_norange _ _ _ _ _ _ _ _ _ _ _ gG gH _).mono ?_; rintro e w1 ⟨rfl, hbel1⟩; have hW1 := blk_later hbel1 (heap_alloc_new w _); have hB1 := blk_cell hW1; have hT1 := later_trans (later_alloc w _) hbel1)) | (with_reducible show AtL 49 33 ..; go_must (refine wpList_load_blk rfl _ _ rfl w.heap.size 8 rfl 7 _ Try.underlying33 rfl sz_rng _ _ hW1 rfl (rR jU jV jW jX jY jZ gA gB gC gD gF) rfl ?_)) | (go_at_call 90; go_must (refine (ref_range _ _ _ _ _ _ _ _ _ _ _ gG gH _ (h1.later hT1) (h2.later hT1) HWR.out).mono ?_; rintro e w2 ⟨rfl, hbel2⟩; have hT2 := later_trans hT1 hbel2)))
  all_goals go_ret
  all_goals refine ⟨ret_bool ?_, ?_⟩
  all_goals first | exact hT2 | skip
  all_goals simp_all [Cmd.ok, Req.no]
  all_goals (try omega)

set_option maxHeartbeats 1000000 in
set_option maxRecDepth 100000 in
theorem ref_cmd_3 (gR : Int) (gI gJ gK gM gN gP gQ : Int) (jU jV jW jX jY : Int) (jZ : Option Addr) (gA gB : Nat) (gC : Option Addr) (gD gF : Nat) (gS gT : Int) (gG : List Row) (gH : List Rep) (w : World) (_h1 : SlIn w.heap.size w ⟨jZ, gA, gB⟩ 2 (gG.map Row.cells)) (_h2 : SlIn w.heap.size w ⟨gC, gD, gF⟩ 7 (gH.map Rep.cells)) (hwf : (Cmd.mk gR (Req.mk gI gJ gK gM gN gP gQ) (Rng.mk jU jV jW jX jY ⟨jZ, gA, gB⟩ ⟨gC, gD, gF⟩ gG gH) gS gT).wf) (hk : gR = 3) :
    Calls Try.prog 88 #[.agg (List.toArray (rC gR gI gJ gK gM gN gP gQ jU jV jW jX jY jZ gA gB gC gD gF gS gT))] w fun e w' => e = .returned (.bool (Cmd.mk gR (Req.mk gI gJ gK gM gN gP gQ) (Rng.mk jU jV jW jX jY ⟨jZ, gA, gB⟩ ⟨gC, gD, gF⟩ gG gH) gS gT).ok) ∧ Below w.heap.size w w' := by
  obtain ⟨hk1, hq1, hr1, hp1, hs1⟩ := hwf
  have hqs := hq1.s
  simp only [U8, U32] at hk1 hp1 hs1 hqs
  have HWR : Hid (Rng.mk jU jV jW jX jY ⟨jZ, gA, gB⟩ ⟨gC, gD, gF⟩ gG gH).wf := hr1
  clear hq1 hr1
  subst hk
  go_enter Try.func88, Try.ntmps88
  go_wp2_with (first | (with_reducible show AtL 9 25 ..; go_must (refine wpList_load_blk rfl _ _ rfl w.heap.size 1 rfl 7 _ Try.underlying25 rfl sz_req _ _ (heap_alloc_new w _) rfl (rQ gI gJ gK gM gN gP gQ) rfl ?_)) | (with_reducible show AtL 13 33 ..; go_must (refine wpList_load_blk rfl _ _ rfl w.heap.size 8 rfl 7 _ Try.underlying33 rfl sz_rng _ _ (heap_alloc_new w _) rfl (rR jU jV jW jX jY jZ gA gB gC gD gF) rfl ?_)) | (go_at_call 89; go_must (refine (ref_norange _ _ _ _ _ _ _ _ _ _ _ gG gH _).mono ?_; rintro e w1 ⟨rfl, hbel1⟩; have hW1 := blk_later hbel1 (heap_alloc_new w _); have hB1 := blk_cell hW1; have hT1 := later_trans (later_alloc w _) hbel1)))
  all_goals go_ret
  all_goals refine ⟨ret_bool ?_, ?_⟩
  all_goals first | exact hT1 | skip
  all_goals simp_all [Cmd.ok, Req.no]
  all_goals (try omega)

set_option maxHeartbeats 1000000 in
set_option maxRecDepth 100000 in
theorem ref_cmd_e (gR : Int) (gI gJ gK gM gN gP gQ : Int) (jU jV jW jX jY : Int) (jZ : Option Addr) (gA gB : Nat) (gC : Option Addr) (gD gF : Nat) (gS gT : Int) (gG : List Row) (gH : List Rep) (w : World) (_h1 : SlIn w.heap.size w ⟨jZ, gA, gB⟩ 2 (gG.map Row.cells)) (_h2 : SlIn w.heap.size w ⟨gC, gD, gF⟩ 7 (gH.map Rep.cells)) (hwf : (Cmd.mk gR (Req.mk gI gJ gK gM gN gP gQ) (Rng.mk jU jV jW jX jY ⟨jZ, gA, gB⟩ ⟨gC, gD, gF⟩ gG gH) gS gT).wf) (k0 : (gR == 0) = false) (k1 : (gR == 1) = false) (k2 : (gR == 2) = false) (k3 : (gR == 3) = false) :
    Calls Try.prog 88 #[.agg (List.toArray (rC gR gI gJ gK gM gN gP gQ jU jV jW jX jY jZ gA gB gC gD gF gS gT))] w fun e w' => e = .returned (.bool (Cmd.mk gR (Req.mk gI gJ gK gM gN gP gQ) (Rng.mk jU jV jW jX jY ⟨jZ, gA, gB⟩ ⟨gC, gD, gF⟩ gG gH) gS gT).ok) ∧ Below w.heap.size w w' := by
  obtain ⟨hk1, hq1, hr1, hp1, hs1⟩ := hwf
  have hqs := hq1.s
  simp only [U8, U32] at hk1 hp1 hs1 hqs
  have HWR : Hid (Rng.mk jU jV jW jX jY ⟨jZ, gA, gB⟩ ⟨gC, gD, gF⟩ gG gH).wf := hr1
  clear hq1 hr1
  go_enter Try.func88, Try.ntmps88
  go_wp2_with (first | (with_reducible show AtL 9 25 ..; go_must (refine wpList_load_blk rfl _ _ rfl w.heap.size 1 rfl 7 _ Try.underlying25 rfl sz_req _ _ (heap_alloc_new w _) rfl (rQ gI gJ gK gM gN gP gQ) rfl ?_)) | (with_reducible show AtL 13 33 ..; go_must (refine wpList_load_blk rfl _ _ rfl w.heap.size 8 rfl 7 _ Try.underlying33 rfl sz_rng _ _ (heap_alloc_new w _) rfl (rR jU jV jW jX jY jZ gA gB gC gD gF) rfl ?_)) | (go_at_call 89; go_must (refine (ref_norange _ _ _ _ _ _ _ _ _ _ _ gG gH _).mono ?_; rintro e w1 ⟨rfl, hbel1⟩; have hW1 := blk_later hbel1 (heap_alloc_new w _); have hB1 := blk_cell hW1; have hT1 := later_trans (later_alloc w _) hbel1)))
  all_goals go_ret
  all_goals refine ⟨ret_bool ?_, ?_⟩
  all_goals first | exact hT1 | skip
  all_goals simp_all [Cmd.ok, Req.no]
  all_goals (try omega)

theorem ref_command (gR : Int) (gI gJ gK gM gN gP gQ : Int) (jU jV jW jX jY : Int) (jZ : Option Addr) (gA gB : Nat) (gC : Option Addr) (gD gF : Nat) (gS gT : Int) (gG : List Row) (gH : List Rep) (w : World) (h1 : SlIn w.heap.size w ⟨jZ, gA, gB⟩ 2 (gG.map Row.cells)) (h2 : SlIn w.heap.size w ⟨gC, gD, gF⟩ 7 (gH.map Rep.cells)) (hwf : (Cmd.mk gR (Req.mk gI gJ gK gM gN gP gQ) (Rng.mk jU jV jW jX jY ⟨jZ, gA, gB⟩ ⟨gC, gD, gF⟩ gG gH) gS gT).wf) :
    Calls Try.prog 88 #[.agg (List.toArray (rC gR gI gJ gK gM gN gP gQ jU jV jW jX jY jZ gA gB gC gD gF gS gT))] w fun e w' => e = .returned (.bool (Cmd.mk gR (Req.mk gI gJ gK gM gN gP gQ) (Rng.mk jU jV jW jX jY ⟨jZ, gA, gB⟩ ⟨gC, gD, gF⟩ gG gH) gS gT).ok) ∧ Below w.heap.size w w' := by
  by_cases k0 : gR = 0
  · exact ref_cmd_0 _ _ _ _ _ _ _ _ _ _ _ _ _ _ _ _ _ _ _ _ _ _ _ _ h1 h2 hwf k0
  by_cases k1 : gR = 1
  · exact ref_cmd_1 _ _ _ _ _ _ _ _ _ _ _ _ _ _ _ _ _ _ _ _ _ _ _ _ h1 h2 hwf k1
  by_cases k2 : gR = 2
  · exact ref_cmd_2 _ _ _ _ _ _ _ _ _ _ _ _ _ _ _ _ _ _ _ _ _ _ _ _ h1 h2 hwf k2
  by_cases k3 : gR = 3
  · exact ref_cmd_3 _ _ _ _ _ _ _ _ _ _ _ _ _ _ _ _ _ _ _ _ _ _ _ _ h1 h2 hwf k3
  exact ref_cmd_e _ _ _ _ _ _ _ _ _ _ _ _ _ _ _ _ _ _ _ _ _ _ _ _ h1 h2 hwf (by simpa using k0) (by simpa using k1) (by simpa using k2) (by simpa using k3)

end Go.Proofs.Ytignemioillaiaa

