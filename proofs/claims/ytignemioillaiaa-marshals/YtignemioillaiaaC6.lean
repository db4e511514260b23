/- The document's answer: when a command is right. -/
import Derived.Test.YtignemioillaiaaC5
namespace Go.Proofs.Ytignemioillaiaa
open Go.RowKit

set_option maxHeartbeats 1000000 in
set_option maxRecDepth 100000 in
theorem ref_cmd_0 (ckind : Int) (cqc cqs cqk cqkey cqv cqhi cqto : Int) (crsrc crdst crseq crlo crhi : Int) (crra : Option Addr) (crrn crrc : Nat) (crda : Option Addr) (crdn crdc : Nat) (cpeer csq : Int) (crrows : List Row) (crdups : List Rep) (w : World) (_h1 : SlIn w.heap.size w ⟨crra, crrn, crrc⟩ 2 (crrows.map Row.cells)) (_h2 : SlIn w.heap.size w ⟨crda, crdn, crdc⟩ 7 (crdups.map Rep.cells)) (hwf : (Cmd.mk ckind (Req.mk cqc cqs cqk cqkey cqv cqhi cqto) (Rng.mk crsrc crdst crseq crlo crhi ⟨crra, crrn, crrc⟩ ⟨crda, crdn, crdc⟩ crrows crdups) cpeer csq).wf) (hk : ckind = 0) :
    Calls Try.prog 88 #[.agg #[.int .u8 ckind, .int .u8 cqc, .int .u32 cqs, .int .u8 cqk, .int .u64 cqkey, .int .u64 cqv, .int .u64 cqhi, .int .u8 cqto, .int .u8 crsrc, .int .u8 crdst, .int .u32 crseq, .int .u64 crlo, .int .u64 crhi, .slice crra crrn crrc, .slice crda crdn crdc, .int .u8 cpeer, .int .u32 csq]] w fun e w' => e = .returned (.bool (Cmd.mk ckind (Req.mk cqc cqs cqk cqkey cqv cqhi cqto) (Rng.mk crsrc crdst crseq crlo crhi ⟨crra, crrn, crrc⟩ ⟨crda, crdn, crdc⟩ crrows crdups) cpeer csq).ok) ∧ Below w.heap.size w w' := by
  obtain ⟨hk1, hq1, hr1, hp1, hs1⟩ := hwf
  have hqs := hq1.s
  simp only [U8, U32] at hk1 hp1 hs1 hqs
  have HWR : Hid (Rng.mk crsrc crdst crseq crlo crhi ⟨crra, crrn, crrc⟩ ⟨crda, crdn, crdc⟩ crrows crdups).wf := hr1
  clear hq1 hr1
  subst hk
  go_enter Try.func88, Try.ntmps88
  go_wp2_with (first | (with_reducible show wpList _ _ _ ({ dst := some 9, op := Op.load 25 _, type := _, pos := _, after := _, guard := none } :: _) _ _; go_must (refine wpList_load_blk rfl _ _ rfl w.heap.size 1 rfl 7 _ Try.underlying25 rfl sz_req _ _ (heap_alloc_new w _) rfl [.int .u8 cqc, .int .u32 cqs, .int .u8 cqk, .int .u64 cqkey, .int .u64 cqv, .int .u64 cqhi, .int .u8 cqto] rfl ?_)) | (with_reducible show wpList _ _ _ ({ dst := some 13, op := Op.load 33 _, type := _, pos := _, after := _, guard := none } :: _) _ _; go_must (refine wpList_load_blk rfl _ _ rfl w.heap.size 8 rfl 7 _ Try.underlying33 rfl sz_rng _ _ (heap_alloc_new w _) rfl [.int .u8 crsrc, .int .u8 crdst, .int .u32 crseq, .int .u64 crlo, .int .u64 crhi, .slice crra crrn crrc, .slice crda crdn crdc] rfl ?_)) | (go_at_call 89; go_must (refine (ref_norange _ _ _ _ _ _ _ _ _ _ _ crrows crdups _).mono ?_; rintro e w1 ⟨rfl, hbel1⟩; have hW1 := blk_later hbel1 (heap_alloc_new w _); have hB1 := blk_cell hW1; have hT1 := later_trans (later_alloc w _) hbel1)))
  all_goals go_ret
  all_goals refine ⟨ret_bool ?_, ?_⟩
  all_goals first | exact hT1 | skip
  all_goals simp_all [Cmd.ok, Req.no]
  all_goals (try omega)

set_option maxHeartbeats 1000000 in
set_option maxRecDepth 100000 in
theorem ref_cmd_1 (ckind : Int) (cqc cqs cqk cqkey cqv cqhi cqto : Int) (crsrc crdst crseq crlo crhi : Int) (crra : Option Addr) (crrn crrc : Nat) (crda : Option Addr) (crdn crdc : Nat) (cpeer csq : Int) (crrows : List Row) (crdups : List Rep) (w : World) (_h1 : SlIn w.heap.size w ⟨crra, crrn, crrc⟩ 2 (crrows.map Row.cells)) (_h2 : SlIn w.heap.size w ⟨crda, crdn, crdc⟩ 7 (crdups.map Rep.cells)) (hwf : (Cmd.mk ckind (Req.mk cqc cqs cqk cqkey cqv cqhi cqto) (Rng.mk crsrc crdst crseq crlo crhi ⟨crra, crrn, crrc⟩ ⟨crda, crdn, crdc⟩ crrows crdups) cpeer csq).wf) (hk : ckind = 1) :
    Calls Try.prog 88 #[.agg #[.int .u8 ckind, .int .u8 cqc, .int .u32 cqs, .int .u8 cqk, .int .u64 cqkey, .int .u64 cqv, .int .u64 cqhi, .int .u8 cqto, .int .u8 crsrc, .int .u8 crdst, .int .u32 crseq, .int .u64 crlo, .int .u64 crhi, .slice crra crrn crrc, .slice crda crdn crdc, .int .u8 cpeer, .int .u32 csq]] w fun e w' => e = .returned (.bool (Cmd.mk ckind (Req.mk cqc cqs cqk cqkey cqv cqhi cqto) (Rng.mk crsrc crdst crseq crlo crhi ⟨crra, crrn, crrc⟩ ⟨crda, crdn, crdc⟩ crrows crdups) cpeer csq).ok) ∧ Below w.heap.size w w' := by
  obtain ⟨hk1, hq1, hr1, hp1, hs1⟩ := hwf
  have hqs := hq1.s
  simp only [U8, U32] at hk1 hp1 hs1 hqs
  have HWR : Hid (Rng.mk crsrc crdst crseq crlo crhi ⟨crra, crrn, crrc⟩ ⟨crda, crdn, crdc⟩ crrows crdups).wf := hr1
  clear hq1 hr1
  subst hk
  go_enter Try.func88, Try.ntmps88
  go_wp2_with (first | (with_reducible show wpList _ _ _ ({ dst := some 9, op := Op.load 25 _, type := _, pos := _, after := _, guard := none } :: _) _ _; go_must (refine wpList_load_blk rfl _ _ rfl w.heap.size 1 rfl 7 _ Try.underlying25 rfl sz_req _ _ (heap_alloc_new w _) rfl [.int .u8 cqc, .int .u32 cqs, .int .u8 cqk, .int .u64 cqkey, .int .u64 cqv, .int .u64 cqhi, .int .u8 cqto] rfl ?_)) | (with_reducible show wpList _ _ _ ({ dst := some 13, op := Op.load 33 _, type := _, pos := _, after := _, guard := none } :: _) _ _; go_must (refine wpList_load_blk rfl _ _ rfl w.heap.size 8 rfl 7 _ Try.underlying33 rfl sz_rng _ _ (heap_alloc_new w _) rfl [.int .u8 crsrc, .int .u8 crdst, .int .u32 crseq, .int .u64 crlo, .int .u64 crhi, .slice crra crrn crrc, .slice crda crdn crdc] rfl ?_)) | (go_at_call 89; go_must (refine (ref_norange _ _ _ _ _ _ _ _ _ _ _ crrows crdups _).mono ?_; rintro e w1 ⟨rfl, hbel1⟩; have hW1 := blk_later hbel1 (heap_alloc_new w _); have hB1 := blk_cell hW1; have hT1 := later_trans (later_alloc w _) hbel1)) | (with_reducible show wpList _ _ _ ({ dst := some 37, op := Op.load 25 _, type := _, pos := _, after := _, guard := none } :: _) _ _; go_must (refine wpList_load_blk rfl _ _ rfl w.heap.size 1 rfl 7 _ Try.underlying25 rfl sz_req _ _ hW1 rfl _ rfl ?_)) | (go_at_call 86; go_must (refine (ref_request _ _ _ _ _ _ _ _ (by omega)).mono ?_; rintro e w2 ⟨rfl, hbel2⟩; have hT2 := later_trans hT1 hbel2)))
  all_goals go_ret
  all_goals refine ⟨ret_bool ?_, ?_⟩
  all_goals first | exact hT2 | skip
  all_goals simp_all [Cmd.ok, Req.no]
  all_goals (try omega)

set_option maxHeartbeats 1000000 in
set_option maxRecDepth 100000 in
theorem ref_cmd_2 (ckind : Int) (cqc cqs cqk cqkey cqv cqhi cqto : Int) (crsrc crdst crseq crlo crhi : Int) (crra : Option Addr) (crrn crrc : Nat) (crda : Option Addr) (crdn crdc : Nat) (cpeer csq : Int) (crrows : List Row) (crdups : List Rep) (w : World) (h1 : SlIn w.heap.size w ⟨crra, crrn, crrc⟩ 2 (crrows.map Row.cells)) (h2 : SlIn w.heap.size w ⟨crda, crdn, crdc⟩ 7 (crdups.map Rep.cells)) (hwf : (Cmd.mk ckind (Req.mk cqc cqs cqk cqkey cqv cqhi cqto) (Rng.mk crsrc crdst crseq crlo crhi ⟨crra, crrn, crrc⟩ ⟨crda, crdn, crdc⟩ crrows crdups) cpeer csq).wf) (hk : ckind = 2) :
    Calls Try.prog 88 #[.agg #[.int .u8 ckind, .int .u8 cqc, .int .u32 cqs, .int .u8 cqk, .int .u64 cqkey, .int .u64 cqv, .int .u64 cqhi, .int .u8 cqto, .int .u8 crsrc, .int .u8 crdst, .int .u32 crseq, .int .u64 crlo, .int .u64 crhi, .slice crra crrn crrc, .slice crda crdn crdc, .int .u8 cpeer, .int .u32 csq]] w fun e w' => e = .returned (.bool (Cmd.mk ckind (Req.mk cqc cqs cqk cqkey cqv cqhi cqto) (Rng.mk crsrc crdst crseq crlo crhi ⟨crra, crrn, crrc⟩ ⟨crda, crdn, crdc⟩ crrows crdups) cpeer csq).ok) ∧ Below w.heap.size w w' := by
  obtain ⟨hk1, hq1, hr1, hp1, hs1⟩ := hwf
  have hqs := hq1.s
  simp only [U8, U32] at hk1 hp1 hs1 hqs
  have HWR : Hid (Rng.mk crsrc crdst crseq crlo crhi ⟨crra, crrn, crrc⟩ ⟨crda, crdn, crdc⟩ crrows crdups).wf := hr1
  clear hq1 hr1
  subst hk
  go_enter Try.func88, Try.ntmps88
  go_wp2_with (first | (with_reducible show wpList _ _ _ ({ dst := some 9, op := Op.load 25 _, type := _, pos := _, after := _, guard := none } :: _) _ _; go_must (refine wpList_load_blk rfl _ _ rfl w.heap.size 1 rfl 7 _ Try.underlying25 rfl sz_req _ _ (heap_alloc_new w _) rfl [.int .u8 cqc, .int .u32 cqs, .int .u8 cqk, .int .u64 cqkey, .int .u64 cqv, .int .u64 cqhi, .int .u8 cqto] rfl ?_)) | (with_reducible show wpList _ _ _ ({ dst := some 13, op := Op.load 33 _, type := _, pos := _, after := _, guard := none } :: _) _ _; go_must (refine wpList_load_blk rfl _ _ rfl w.heap.size 8 rfl 7 _ Try.underlying33 rfl sz_rng _ _ (heap_alloc_new w _) rfl [.int .u8 crsrc, .int .u8 crdst, .int .u32 crseq, .int .u64 crlo, .int .u64 crhi, .slice crra crrn crrc, .slice crda crdn crdc] rfl ?_)) | (go_at_call 89; go_must (refine (ref_norange _ _ _ _ _ _ _ _ _ _ _ crrows crdups _).mono ?_; rintro e w1 ⟨rfl, hbel1⟩; have hW1 := blk_later hbel1 (heap_alloc_new w _); have hB1 := blk_cell hW1; have hT1 := later_trans (later_alloc w _) hbel1)) | (with_reducible show wpList _ _ _ ({ dst := some 49, op := Op.load 33 _, type := _, pos := _, after := _, guard := none } :: _) _ _; go_must (refine wpList_load_blk rfl _ _ rfl w.heap.size 8 rfl 7 _ Try.underlying33 rfl sz_rng _ _ hW1 rfl [.int .u8 crsrc, .int .u8 crdst, .int .u32 crseq, .int .u64 crlo, .int .u64 crhi, .slice crra crrn crrc, .slice crda crdn crdc] rfl ?_)) | (go_at_call 90; go_must (refine (ref_range _ _ _ _ _ _ _ _ _ _ _ crrows crdups _ (h1.later hT1) (h2.later hT1) HWR.out).mono ?_; rintro e w2 ⟨rfl, hbel2⟩; have hT2 := later_trans hT1 hbel2)))
  all_goals go_ret
  all_goals refine ⟨ret_bool ?_, ?_⟩
  all_goals first | exact hT2 | skip
  all_goals simp_all [Cmd.ok, Req.no]
  all_goals (try omega)

set_option maxHeartbeats 1000000 in
set_option maxRecDepth 100000 in
theorem ref_cmd_3 (ckind : Int) (cqc cqs cqk cqkey cqv cqhi cqto : Int) (crsrc crdst crseq crlo crhi : Int) (crra : Option Addr) (crrn crrc : Nat) (crda : Option Addr) (crdn crdc : Nat) (cpeer csq : Int) (crrows : List Row) (crdups : List Rep) (w : World) (_h1 : SlIn w.heap.size w ⟨crra, crrn, crrc⟩ 2 (crrows.map Row.cells)) (_h2 : SlIn w.heap.size w ⟨crda, crdn, crdc⟩ 7 (crdups.map Rep.cells)) (hwf : (Cmd.mk ckind (Req.mk cqc cqs cqk cqkey cqv cqhi cqto) (Rng.mk crsrc crdst crseq crlo crhi ⟨crra, crrn, crrc⟩ ⟨crda, crdn, crdc⟩ crrows crdups) cpeer csq).wf) (hk : ckind = 3) :
    Calls Try.prog 88 #[.agg #[.int .u8 ckind, .int .u8 cqc, .int .u32 cqs, .int .u8 cqk, .int .u64 cqkey, .int .u64 cqv, .int .u64 cqhi, .int .u8 cqto, .int .u8 crsrc, .int .u8 crdst, .int .u32 crseq, .int .u64 crlo, .int .u64 crhi, .slice crra crrn crrc, .slice crda crdn crdc, .int .u8 cpeer, .int .u32 csq]] w fun e w' => e = .returned (.bool (Cmd.mk ckind (Req.mk cqc cqs cqk cqkey cqv cqhi cqto) (Rng.mk crsrc crdst crseq crlo crhi ⟨crra, crrn, crrc⟩ ⟨crda, crdn, crdc⟩ crrows crdups) cpeer csq).ok) ∧ Below w.heap.size w w' := by
  obtain ⟨hk1, hq1, hr1, hp1, hs1⟩ := hwf
  have hqs := hq1.s
  simp only [U8, U32] at hk1 hp1 hs1 hqs
  have HWR : Hid (Rng.mk crsrc crdst crseq crlo crhi ⟨crra, crrn, crrc⟩ ⟨crda, crdn, crdc⟩ crrows crdups).wf := hr1
  clear hq1 hr1
  subst hk
  go_enter Try.func88, Try.ntmps88
  go_wp2_with (first | (with_reducible show wpList _ _ _ ({ dst := some 9, op := Op.load 25 _, type := _, pos := _, after := _, guard := none } :: _) _ _; go_must (refine wpList_load_blk rfl _ _ rfl w.heap.size 1 rfl 7 _ Try.underlying25 rfl sz_req _ _ (heap_alloc_new w _) rfl [.int .u8 cqc, .int .u32 cqs, .int .u8 cqk, .int .u64 cqkey, .int .u64 cqv, .int .u64 cqhi, .int .u8 cqto] rfl ?_)) | (with_reducible show wpList _ _ _ ({ dst := some 13, op := Op.load 33 _, type := _, pos := _, after := _, guard := none } :: _) _ _; go_must (refine wpList_load_blk rfl _ _ rfl w.heap.size 8 rfl 7 _ Try.underlying33 rfl sz_rng _ _ (heap_alloc_new w _) rfl [.int .u8 crsrc, .int .u8 crdst, .int .u32 crseq, .int .u64 crlo, .int .u64 crhi, .slice crra crrn crrc, .slice crda crdn crdc] rfl ?_)) | (go_at_call 89; go_must (refine (ref_norange _ _ _ _ _ _ _ _ _ _ _ crrows crdups _).mono ?_; rintro e w1 ⟨rfl, hbel1⟩; have hW1 := blk_later hbel1 (heap_alloc_new w _); have hB1 := blk_cell hW1; have hT1 := later_trans (later_alloc w _) hbel1)))
  all_goals go_ret
  all_goals refine ⟨ret_bool ?_, ?_⟩
  all_goals first | exact hT1 | skip
  all_goals simp_all [Cmd.ok, Req.no]
  all_goals (try omega)

set_option maxHeartbeats 1000000 in
set_option maxRecDepth 100000 in
theorem ref_cmd_e (ckind : Int) (cqc cqs cqk cqkey cqv cqhi cqto : Int) (crsrc crdst crseq crlo crhi : Int) (crra : Option Addr) (crrn crrc : Nat) (crda : Option Addr) (crdn crdc : Nat) (cpeer csq : Int) (crrows : List Row) (crdups : List Rep) (w : World) (_h1 : SlIn w.heap.size w ⟨crra, crrn, crrc⟩ 2 (crrows.map Row.cells)) (_h2 : SlIn w.heap.size w ⟨crda, crdn, crdc⟩ 7 (crdups.map Rep.cells)) (hwf : (Cmd.mk ckind (Req.mk cqc cqs cqk cqkey cqv cqhi cqto) (Rng.mk crsrc crdst crseq crlo crhi ⟨crra, crrn, crrc⟩ ⟨crda, crdn, crdc⟩ crrows crdups) cpeer csq).wf) (k0 : (ckind == 0) = false) (k1 : (ckind == 1) = false) (k2 : (ckind == 2) = false) (k3 : (ckind == 3) = false) :
    Calls Try.prog 88 #[.agg #[.int .u8 ckind, .int .u8 cqc, .int .u32 cqs, .int .u8 cqk, .int .u64 cqkey, .int .u64 cqv, .int .u64 cqhi, .int .u8 cqto, .int .u8 crsrc, .int .u8 crdst, .int .u32 crseq, .int .u64 crlo, .int .u64 crhi, .slice crra crrn crrc, .slice crda crdn crdc, .int .u8 cpeer, .int .u32 csq]] w fun e w' => e = .returned (.bool (Cmd.mk ckind (Req.mk cqc cqs cqk cqkey cqv cqhi cqto) (Rng.mk crsrc crdst crseq crlo crhi ⟨crra, crrn, crrc⟩ ⟨crda, crdn, crdc⟩ crrows crdups) cpeer csq).ok) ∧ Below w.heap.size w w' := by
  obtain ⟨hk1, hq1, hr1, hp1, hs1⟩ := hwf
  have hqs := hq1.s
  simp only [U8, U32] at hk1 hp1 hs1 hqs
  have HWR : Hid (Rng.mk crsrc crdst crseq crlo crhi ⟨crra, crrn, crrc⟩ ⟨crda, crdn, crdc⟩ crrows crdups).wf := hr1
  clear hq1 hr1
  go_enter Try.func88, Try.ntmps88
  go_wp2_with (first | (with_reducible show wpList _ _ _ ({ dst := some 9, op := Op.load 25 _, type := _, pos := _, after := _, guard := none } :: _) _ _; go_must (refine wpList_load_blk rfl _ _ rfl w.heap.size 1 rfl 7 _ Try.underlying25 rfl sz_req _ _ (heap_alloc_new w _) rfl [.int .u8 cqc, .int .u32 cqs, .int .u8 cqk, .int .u64 cqkey, .int .u64 cqv, .int .u64 cqhi, .int .u8 cqto] rfl ?_)) | (with_reducible show wpList _ _ _ ({ dst := some 13, op := Op.load 33 _, type := _, pos := _, after := _, guard := none } :: _) _ _; go_must (refine wpList_load_blk rfl _ _ rfl w.heap.size 8 rfl 7 _ Try.underlying33 rfl sz_rng _ _ (heap_alloc_new w _) rfl [.int .u8 crsrc, .int .u8 crdst, .int .u32 crseq, .int .u64 crlo, .int .u64 crhi, .slice crra crrn crrc, .slice crda crdn crdc] rfl ?_)) | (go_at_call 89; go_must (refine (ref_norange _ _ _ _ _ _ _ _ _ _ _ crrows crdups _).mono ?_; rintro e w1 ⟨rfl, hbel1⟩; have hW1 := blk_later hbel1 (heap_alloc_new w _); have hB1 := blk_cell hW1; have hT1 := later_trans (later_alloc w _) hbel1)))
  all_goals go_ret
  all_goals refine ⟨ret_bool ?_, ?_⟩
  all_goals first | exact hT1 | skip
  all_goals simp_all [Cmd.ok, Req.no]
  all_goals (try omega)

theorem ref_command (ckind : Int) (cqc cqs cqk cqkey cqv cqhi cqto : Int) (crsrc crdst crseq crlo crhi : Int) (crra : Option Addr) (crrn crrc : Nat) (crda : Option Addr) (crdn crdc : Nat) (cpeer csq : Int) (crrows : List Row) (crdups : List Rep) (w : World) (h1 : SlIn w.heap.size w ⟨crra, crrn, crrc⟩ 2 (crrows.map Row.cells)) (h2 : SlIn w.heap.size w ⟨crda, crdn, crdc⟩ 7 (crdups.map Rep.cells)) (hwf : (Cmd.mk ckind (Req.mk cqc cqs cqk cqkey cqv cqhi cqto) (Rng.mk crsrc crdst crseq crlo crhi ⟨crra, crrn, crrc⟩ ⟨crda, crdn, crdc⟩ crrows crdups) cpeer csq).wf) :
    Calls Try.prog 88 #[.agg #[.int .u8 ckind, .int .u8 cqc, .int .u32 cqs, .int .u8 cqk, .int .u64 cqkey, .int .u64 cqv, .int .u64 cqhi, .int .u8 cqto, .int .u8 crsrc, .int .u8 crdst, .int .u32 crseq, .int .u64 crlo, .int .u64 crhi, .slice crra crrn crrc, .slice crda crdn crdc, .int .u8 cpeer, .int .u32 csq]] w fun e w' => e = .returned (.bool (Cmd.mk ckind (Req.mk cqc cqs cqk cqkey cqv cqhi cqto) (Rng.mk crsrc crdst crseq crlo crhi ⟨crra, crrn, crrc⟩ ⟨crda, crdn, crdc⟩ crrows crdups) cpeer csq).ok) ∧ Below w.heap.size w w' := by
  by_cases k0 : ckind = 0
  · exact ref_cmd_0 _ _ _ _ _ _ _ _ _ _ _ _ _ _ _ _ _ _ _ _ _ _ _ _ h1 h2 hwf k0
  by_cases k1 : ckind = 1
  · exact ref_cmd_1 _ _ _ _ _ _ _ _ _ _ _ _ _ _ _ _ _ _ _ _ _ _ _ _ h1 h2 hwf k1
  by_cases k2 : ckind = 2
  · exact ref_cmd_2 _ _ _ _ _ _ _ _ _ _ _ _ _ _ _ _ _ _ _ _ _ _ _ _ h1 h2 hwf k2
  by_cases k3 : ckind = 3
  · exact ref_cmd_3 _ _ _ _ _ _ _ _ _ _ _ _ _ _ _ _ _ _ _ _ _ _ _ _ h1 h2 hwf k3
  exact ref_cmd_e _ _ _ _ _ _ _ _ _ _ _ _ _ _ _ _ _ _ _ _ _ _ _ _ h1 h2 hwf (by simpa using k0) (by simpa using k1) (by simpa using k2) (by simpa using k3)

end Go.Proofs.Ytignemioillaiaa
