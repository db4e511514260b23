/- The document's answer: the bytes of a command. -/
import Derived.Test.YtignemioillaiaaC3
namespace Go.Proofs.Ytignemioillaiaa
open Go.RowKit

set_option maxHeartbeats 1000000 in
set_option maxRecDepth 100000 in
theorem ref_command_1 (ckind : Int) (cqc cqs cqk cqkey cqv cqhi cqto : Int) (crsrc crdst crseq crlo crhi : Int) (crra : Option Addr) (crrn crrc : Nat) (crda : Option Addr) (crdn crdc : Nat) (cpeer csq : Int) (crrows : List Row) (crdups : List Rep) (w : World) (_h1 : SlIn w.heap.size w ⟨crra, crrn, crrc⟩ 2 (crrows.map Row.cells)) (_h2 : SlIn w.heap.size w ⟨crda, crdn, crdc⟩ 7 (crdups.map Rep.cells)) (_hsh : Cmd.short (Cmd.mk ckind (Req.mk cqc cqs cqk cqkey cqv cqhi cqto) (Rng.mk crsrc crdst crseq crlo crhi ⟨crra, crrn, crrc⟩ ⟨crda, crdn, crdc⟩ crrows crdups) cpeer csq)) (hwf : (Cmd.mk ckind (Req.mk cqc cqs cqk cqkey cqv cqhi cqto) (Rng.mk crsrc crdst crseq crlo crhi ⟨crra, crrn, crrc⟩ ⟨crda, crdn, crdc⟩ crrows crdups) cpeer csq).wf) (hk : (ckind == 1) = true) :
    Calls Try.prog 41 #[.agg #[.int .u8 ckind, .int .u8 cqc, .int .u32 cqs, .int .u8 cqk, .int .u64 cqkey, .int .u64 cqv, .int .u64 cqhi, .int .u8 cqto, .int .u8 crsrc, .int .u8 crdst, .int .u32 crseq, .int .u64 crlo, .int .u64 crhi, .slice crra crrn crrc, .slice crda crdn crdc, .int .u8 cpeer, .int .u32 csq]] w fun e w' => e = .returned (.string (bstr (Cmd.mk ckind (Req.mk cqc cqs cqk cqkey cqv cqhi cqto) (Rng.mk crsrc crdst crseq crlo crhi ⟨crra, crrn, crrc⟩ ⟨crda, crdn, crdc⟩ crrows crdups) cpeer csq).bytes)) ∧ Below w.heap.size w w' := by
  obtain ⟨hk1, hq1, hr1, hp1, hs1⟩ := hwf
  simp only [U8, U32] at hk1 hp1 hs1
  have hWb := heap_alloc_new w (.cells #[.int .u8 ckind, .int .u8 cqc, .int .u32 cqs, .int .u8 cqk, .int .u64 cqkey, .int .u64 cqv, .int .u64 cqhi, .int .u8 cqto, .int .u8 crsrc, .int .u8 crdst, .int .u32 crseq, .int .u64 crlo, .int .u64 crhi, .slice crra crrn crrc, .slice crda crdn crdc, .int .u8 cpeer, .int .u32 csq] 35)
  have hWl := later_alloc w (.cells #[.int .u8 ckind, .int .u8 cqc, .int .u32 cqs, .int .u8 cqk, .int .u64 cqkey, .int .u64 cqv, .int .u64 cqhi, .int .u8 cqto, .int .u8 crsrc, .int .u8 crdst, .int .u32 crseq, .int .u64 crlo, .int .u64 crhi, .slice crra crrn crrc, .slice crda crdn crdc, .int .u8 cpeer, .int .u32 csq] 35)
  have hap := bstr_append
  have hu0 := u64_in ckind (by omega)
  have hu1 := u64_in cpeer (by omega)
  have hu2 := u64_in csq (by omega)
  have hz := fun k0 => sz_fit (numB k0 ckind) (Req.mk cqc cqs cqk cqkey cqv cqhi cqto).bytes (by have := numB_len k0 ckind; have := (Req.mk cqc cqs cqk cqkey cqv cqhi cqto).len; omega)
  go_enter Try.func41, Try.ntmps41
  go_wp2_with (first | (go_at_call 37; go_must (refine (number_c _ _ _ (by omega)).mono ?_; rintro e w1 ⟨rfl, hbel1⟩; have hn1 := hbel1; have hW1 := blk_later hbel1 hWb; have hB1 := blk_cell hW1)) | (with_reducible show wpList _ _ _ ({ dst := _, op := Op.load 25 _, type := _, pos := _, after := _, guard := none } :: _) _ _; go_must (refine wpList_load_blk rfl _ _ rfl w.heap.size 1 rfl 7 _ Try.underlying25 rfl sz_req _ _ hW1 rfl [.int .u8 cqc, .int .u32 cqs, .int .u8 cqk, .int .u64 cqkey, .int .u64 cqv, .int .u64 cqhi, .int .u8 cqto] rfl ?_)) | (go_at_call 38; go_must (refine (ref_requestBytes _ _ _ _ _ _ _ _ hq1).mono ?_; rintro e w5 ⟨rfl, hbel5⟩)))
  go_ret
  exact ⟨ret_str (bstr_eq (by simp [Cmd.bytes, Cmd.tail, numB, show ckind = 1 by simpa using hk])), later_trans hWl (later_trans hn1 hbel5)⟩

set_option maxHeartbeats 1000000 in
set_option maxRecDepth 100000 in
theorem ref_command_2 (ckind : Int) (cqc cqs cqk cqkey cqv cqhi cqto : Int) (crsrc crdst crseq crlo crhi : Int) (crra : Option Addr) (crrn crrc : Nat) (crda : Option Addr) (crdn crdc : Nat) (cpeer csq : Int) (crrows : List Row) (crdups : List Rep) (w : World) (h1 : SlIn w.heap.size w ⟨crra, crrn, crrc⟩ 2 (crrows.map Row.cells)) (h2 : SlIn w.heap.size w ⟨crda, crdn, crdc⟩ 7 (crdups.map Rep.cells)) (hsh : Cmd.short (Cmd.mk ckind (Req.mk cqc cqs cqk cqkey cqv cqhi cqto) (Rng.mk crsrc crdst crseq crlo crhi ⟨crra, crrn, crrc⟩ ⟨crda, crdn, crdc⟩ crrows crdups) cpeer csq)) (hwf : (Cmd.mk ckind (Req.mk cqc cqs cqk cqkey cqv cqhi cqto) (Rng.mk crsrc crdst crseq crlo crhi ⟨crra, crrn, crrc⟩ ⟨crda, crdn, crdc⟩ crrows crdups) cpeer csq).wf) (hk1' : (ckind == 1) = false) (hk : (ckind == 2) = true) :
    Calls Try.prog 41 #[.agg #[.int .u8 ckind, .int .u8 cqc, .int .u32 cqs, .int .u8 cqk, .int .u64 cqkey, .int .u64 cqv, .int .u64 cqhi, .int .u8 cqto, .int .u8 crsrc, .int .u8 crdst, .int .u32 crseq, .int .u64 crlo, .int .u64 crhi, .slice crra crrn crrc, .slice crda crdn crdc, .int .u8 cpeer, .int .u32 csq]] w fun e w' => e = .returned (.string (bstr (Cmd.mk ckind (Req.mk cqc cqs cqk cqkey cqv cqhi cqto) (Rng.mk crsrc crdst crseq crlo crhi ⟨crra, crrn, crrc⟩ ⟨crda, crdn, crdc⟩ crrows crdups) cpeer csq).bytes)) ∧ Below w.heap.size w w' := by
  obtain ⟨hk1, hq1, hr1, hp1, hs1⟩ := hwf
  simp only [U8, U32] at hk1 hp1 hs1
  have hWb := heap_alloc_new w (.cells #[.int .u8 ckind, .int .u8 cqc, .int .u32 cqs, .int .u8 cqk, .int .u64 cqkey, .int .u64 cqv, .int .u64 cqhi, .int .u8 cqto, .int .u8 crsrc, .int .u8 crdst, .int .u32 crseq, .int .u64 crlo, .int .u64 crhi, .slice crra crrn crrc, .slice crda crdn crdc, .int .u8 cpeer, .int .u32 csq] 35)
  have hWl := later_alloc w (.cells #[.int .u8 ckind, .int .u8 cqc, .int .u32 cqs, .int .u8 cqk, .int .u64 cqkey, .int .u64 cqv, .int .u64 cqhi, .int .u8 cqto, .int .u8 crsrc, .int .u8 crdst, .int .u32 crseq, .int .u64 crlo, .int .u64 crhi, .slice crra crrn crrc, .slice crda crdn crdc, .int .u8 cpeer, .int .u32 csq] 35)
  have hap := bstr_append
  have hu0 := u64_in ckind (by omega)
  have hu1 := u64_in cpeer (by omega)
  have hu2 := u64_in csq (by omega)
  have hsh2 : crrows.length ≤ 255 ∧ crdups.length ≤ 255 := hsh (by simpa using hk)
  have HSH : Hid (crrows.length ≤ 255 ∧ crdups.length ≤ 255) := hsh2
  have hz := fun k0 => sz_fit (numB k0 ckind) (Rng.mk crsrc crdst crseq crlo crhi ⟨crra, crrn, crrc⟩ ⟨crda, crdn, crdc⟩ crrows crdups).bytes (by have := numB_len k0 ckind; have := (Rng.mk crsrc crdst crseq crlo crhi ⟨crra, crrn, crrc⟩ ⟨crda, crdn, crdc⟩ crrows crdups).len hsh2.1 hsh2.2; omega)
  clear hsh2
  go_enter Try.func41, Try.ntmps41
  go_wp2_with (first | (go_at_call 37; go_must (refine (number_c _ _ _ (by omega)).mono ?_; rintro e w1 ⟨rfl, hbel1⟩; have hn1 := hbel1; have hW1 := blk_later hbel1 hWb; have hB1 := blk_cell hW1)) | (with_reducible show wpList _ _ _ ({ dst := _, op := Op.load 33 _, type := _, pos := _, after := _, guard := none } :: _) _ _; go_must (refine wpList_load_blk rfl _ _ rfl w.heap.size 8 rfl 7 _ Try.underlying33 rfl sz_rng _ _ hW1 rfl [.int .u8 crsrc, .int .u8 crdst, .int .u32 crseq, .int .u64 crlo, .int .u64 crhi, .slice crra crrn crrc, .slice crda crdn crdc] rfl ?_)) | (go_at_call 42; go_must (refine (ref_rangeBytes _ _ _ _ _ _ _ _ _ _ _ crrows crdups _ (h1.later (later_trans hWl hn1)) (h2.later (later_trans hWl hn1)) HSH.out.1 HSH.out.2 hr1).mono ?_; rintro e w5 ⟨rfl, hbel5⟩)))
  go_ret
  exact ⟨ret_str (bstr_eq (by simp [Cmd.bytes, Cmd.tail, numB, show ckind = 2 by simpa using hk])), later_trans hWl (later_trans hn1 hbel5)⟩

set_option maxHeartbeats 1000000 in
set_option maxRecDepth 100000 in
theorem ref_command_3 (ckind : Int) (cqc cqs cqk cqkey cqv cqhi cqto : Int) (crsrc crdst crseq crlo crhi : Int) (crra : Option Addr) (crrn crrc : Nat) (crda : Option Addr) (crdn crdc : Nat) (cpeer csq : Int) (crrows : List Row) (crdups : List Rep) (w : World) (_h1 : SlIn w.heap.size w ⟨crra, crrn, crrc⟩ 2 (crrows.map Row.cells)) (_h2 : SlIn w.heap.size w ⟨crda, crdn, crdc⟩ 7 (crdups.map Rep.cells)) (_hsh : Cmd.short (Cmd.mk ckind (Req.mk cqc cqs cqk cqkey cqv cqhi cqto) (Rng.mk crsrc crdst crseq crlo crhi ⟨crra, crrn, crrc⟩ ⟨crda, crdn, crdc⟩ crrows crdups) cpeer csq)) (hwf : (Cmd.mk ckind (Req.mk cqc cqs cqk cqkey cqv cqhi cqto) (Rng.mk crsrc crdst crseq crlo crhi ⟨crra, crrn, crrc⟩ ⟨crda, crdn, crdc⟩ crrows crdups) cpeer csq).wf) (hk1' : (ckind == 1) = false) (hk2' : (ckind == 2) = false) (hk : (ckind == 3) = true) :
    Calls Try.prog 41 #[.agg #[.int .u8 ckind, .int .u8 cqc, .int .u32 cqs, .int .u8 cqk, .int .u64 cqkey, .int .u64 cqv, .int .u64 cqhi, .int .u8 cqto, .int .u8 crsrc, .int .u8 crdst, .int .u32 crseq, .int .u64 crlo, .int .u64 crhi, .slice crra crrn crrc, .slice crda crdn crdc, .int .u8 cpeer, .int .u32 csq]] w fun e w' => e = .returned (.string (bstr (Cmd.mk ckind (Req.mk cqc cqs cqk cqkey cqv cqhi cqto) (Rng.mk crsrc crdst crseq crlo crhi ⟨crra, crrn, crrc⟩ ⟨crda, crdn, crdc⟩ crrows crdups) cpeer csq).bytes)) ∧ Below w.heap.size w w' := by
  obtain ⟨hk1, hq1, hr1, hp1, hs1⟩ := hwf
  simp only [U8, U32] at hk1 hp1 hs1
  have hWb := heap_alloc_new w (.cells #[.int .u8 ckind, .int .u8 cqc, .int .u32 cqs, .int .u8 cqk, .int .u64 cqkey, .int .u64 cqv, .int .u64 cqhi, .int .u8 cqto, .int .u8 crsrc, .int .u8 crdst, .int .u32 crseq, .int .u64 crlo, .int .u64 crhi, .slice crra crrn crrc, .slice crda crdn crdc, .int .u8 cpeer, .int .u32 csq] 35)
  have hWl := later_alloc w (.cells #[.int .u8 ckind, .int .u8 cqc, .int .u32 cqs, .int .u8 cqk, .int .u64 cqkey, .int .u64 cqv, .int .u64 cqhi, .int .u8 cqto, .int .u8 crsrc, .int .u8 crdst, .int .u32 crseq, .int .u64 crlo, .int .u64 crhi, .slice crra crrn crrc, .slice crda crdn crdc, .int .u8 cpeer, .int .u32 csq] 35)
  have hap := bstr_append
  have hu0 := u64_in ckind (by omega)
  have hu1 := u64_in cpeer (by omega)
  have hu2 := u64_in csq (by omega)
  have hz0 := fun k0 k1 => sz_fit (numB k0 ckind) (numB k1 cpeer) (by have := numB_len k0 ckind; have := numB_len k1 cpeer; omega)
  have hz1 := fun k0 k1 k2 => sz_fit (numB k0 ckind ++ numB k1 cpeer) (numB k2 csq) (by simp only [List.length_append]; have := numB_len k0 ckind; have := numB_len k1 cpeer; have := numB_len k2 csq; omega)
  have MK : Hid (∀ w', Below (w.alloc (.cells #[.int .u8 ckind, .int .u8 cqc, .int .u32 cqs, .int .u8 cqk, .int .u64 cqkey, .int .u64 cqv, .int .u64 cqhi, .int .u8 cqto, .int .u8 crsrc, .int .u8 crdst, .int .u32 crseq, .int .u64 crlo, .int .u64 crhi, .slice crra crrn crrc, .slice crda crdn crdc, .int .u8 cpeer, .int .u32 csq] 35)).heap.size (w.alloc (.cells #[.int .u8 ckind, .int .u8 cqc, .int .u32 cqs, .int .u8 cqk, .int .u64 cqkey, .int .u64 cqv, .int .u64 cqhi, .int .u8 cqto, .int .u8 crsrc, .int .u8 crdst, .int .u32 crseq, .int .u64 crlo, .int .u64 crhi, .slice crra crrn crrc, .slice crda crdn crdc, .int .u8 cpeer, .int .u32 csq] 35)) w' → (Below (w.alloc (.cells #[.int .u8 ckind, .int .u8 cqc, .int .u32 cqs, .int .u8 cqk, .int .u64 cqkey, .int .u64 cqv, .int .u64 cqhi, .int .u8 cqto, .int .u8 crsrc, .int .u8 crdst, .int .u32 crseq, .int .u64 crlo, .int .u64 crhi, .slice crra crrn crrc, .slice crda crdn crdc, .int .u8 cpeer, .int .u32 csq] 35)).heap.size (w.alloc (.cells #[.int .u8 ckind, .int .u8 cqc, .int .u32 cqs, .int .u8 cqk, .int .u64 cqkey, .int .u64 cqv, .int .u64 cqhi, .int .u8 cqto, .int .u8 crsrc, .int .u8 crdst, .int .u32 crseq, .int .u64 crlo, .int .u64 crhi, .slice crra crrn crrc, .slice crda crdn crdc, .int .u8 cpeer, .int .u32 csq] 35)) w' ∧ w'.cell? ⟨w.heap.size, 15, none⟩ = some (.int .u8 cpeer) ∧ w'.cell? ⟨w.heap.size, 16, none⟩ = some (.int .u32 csq))) := fun w' hb => ⟨hb, blk hb hWb 15, blk hb hWb 16⟩
  go_enter Try.func41, Try.ntmps41
  go_wp2_with (first | (go_at_call 37; go_must (refine (number_c _ _ _ (by omega)).mono ?_; rintro e w1 ⟨rfl, hbel1⟩; have hS1 := MK.out _ hbel1; have hB1 := blk hbel1 hWb)))
  go_region_held3 (fun w' => Below (w.alloc (.cells #[.int .u8 ckind, .int .u8 cqc, .int .u32 cqs, .int .u8 cqk, .int .u64 cqkey, .int .u64 cqv, .int .u64 cqhi, .int .u8 cqto, .int .u8 crsrc, .int .u8 crdst, .int .u32 crseq, .int .u64 crlo, .int .u64 crhi, .slice crra crrn crrc, .slice crda crdn crdc, .int .u8 cpeer, .int .u32 csq] 35)).heap.size (w.alloc (.cells #[.int .u8 ckind, .int .u8 cqc, .int .u32 cqs, .int .u8 cqk, .int .u64 cqkey, .int .u64 cqv, .int .u64 cqhi, .int .u8 cqto, .int .u8 crsrc, .int .u8 crdst, .int .u32 crseq, .int .u64 crlo, .int .u64 crhi, .slice crra crrn crrc, .slice crda crdn crdc, .int .u8 cpeer, .int .u32 csq] 35)) w' ∧ w'.cell? ⟨w.heap.size, 15, none⟩ = some (.int .u8 cpeer) ∧ w'.cell? ⟨w.heap.size, 16, none⟩ = some (.int .u32 csq)) (first | exact MK.out _ (Below.refl _ _).drew | exact MK.out _ (held_next (by assumption) (by assumption)) | exact MK.out _ (held_drew (by assumption))) (first | (go_at_call 37; refine (number_c _ _ _ (by omega)).mono ?_; rintro e w1 ⟨rfl, hbel1⟩))
  go_wp2
  go_ret
  exact ⟨ret_str (bstr_eq (by simp [Cmd.bytes, Cmd.tail, numB, show ckind = 3 by simpa using hk])), held_done hWl (by assumption)⟩

set_option maxHeartbeats 1000000 in
set_option maxRecDepth 100000 in
theorem ref_command_e (ckind : Int) (cqc cqs cqk cqkey cqv cqhi cqto : Int) (crsrc crdst crseq crlo crhi : Int) (crra : Option Addr) (crrn crrc : Nat) (crda : Option Addr) (crdn crdc : Nat) (cpeer csq : Int) (crrows : List Row) (crdups : List Rep) (w : World) (_h1 : SlIn w.heap.size w ⟨crra, crrn, crrc⟩ 2 (crrows.map Row.cells)) (_h2 : SlIn w.heap.size w ⟨crda, crdn, crdc⟩ 7 (crdups.map Rep.cells)) (_hsh : Cmd.short (Cmd.mk ckind (Req.mk cqc cqs cqk cqkey cqv cqhi cqto) (Rng.mk crsrc crdst crseq crlo crhi ⟨crra, crrn, crrc⟩ ⟨crda, crdn, crdc⟩ crrows crdups) cpeer csq)) (hwf : (Cmd.mk ckind (Req.mk cqc cqs cqk cqkey cqv cqhi cqto) (Rng.mk crsrc crdst crseq crlo crhi ⟨crra, crrn, crrc⟩ ⟨crda, crdn, crdc⟩ crrows crdups) cpeer csq).wf) (hk1' : (ckind == 1) = false) (hk2' : (ckind == 2) = false) (hk3' : (ckind == 3) = false) :
    Calls Try.prog 41 #[.agg #[.int .u8 ckind, .int .u8 cqc, .int .u32 cqs, .int .u8 cqk, .int .u64 cqkey, .int .u64 cqv, .int .u64 cqhi, .int .u8 cqto, .int .u8 crsrc, .int .u8 crdst, .int .u32 crseq, .int .u64 crlo, .int .u64 crhi, .slice crra crrn crrc, .slice crda crdn crdc, .int .u8 cpeer, .int .u32 csq]] w fun e w' => e = .returned (.string (bstr (Cmd.mk ckind (Req.mk cqc cqs cqk cqkey cqv cqhi cqto) (Rng.mk crsrc crdst crseq crlo crhi ⟨crra, crrn, crrc⟩ ⟨crda, crdn, crdc⟩ crrows crdups) cpeer csq).bytes)) ∧ Below w.heap.size w w' := by
  obtain ⟨hk1, hq1, hr1, hp1, hs1⟩ := hwf
  simp only [U8, U32] at hk1 hp1 hs1
  have hWb := heap_alloc_new w (.cells #[.int .u8 ckind, .int .u8 cqc, .int .u32 cqs, .int .u8 cqk, .int .u64 cqkey, .int .u64 cqv, .int .u64 cqhi, .int .u8 cqto, .int .u8 crsrc, .int .u8 crdst, .int .u32 crseq, .int .u64 crlo, .int .u64 crhi, .slice crra crrn crrc, .slice crda crdn crdc, .int .u8 cpeer, .int .u32 csq] 35)
  have hWl := later_alloc w (.cells #[.int .u8 ckind, .int .u8 cqc, .int .u32 cqs, .int .u8 cqk, .int .u64 cqkey, .int .u64 cqv, .int .u64 cqhi, .int .u8 cqto, .int .u8 crsrc, .int .u8 crdst, .int .u32 crseq, .int .u64 crlo, .int .u64 crhi, .slice crra crrn crrc, .slice crda crdn crdc, .int .u8 cpeer, .int .u32 csq] 35)
  have hap := bstr_append
  have hu0 := u64_in ckind (by omega)
  have hu1 := u64_in cpeer (by omega)
  have hu2 := u64_in csq (by omega)
  go_enter Try.func41, Try.ntmps41
  go_wp2_with (first | (go_at_call 37; go_must (refine (number_c _ _ _ (by omega)).mono ?_; rintro e w1 ⟨rfl, hbel1⟩; have hn1 := hbel1; have hW1 := blk_later hbel1 hWb; have hB1 := blk_cell hW1)))
  go_ret
  exact ⟨ret_str (bstr_eq (by simp [Cmd.bytes, Cmd.tail, numB, show ¬ ckind = 1 by simpa using hk1', show ¬ ckind = 2 by simpa using hk2', show ¬ ckind = 3 by simpa using hk3'])), later_trans hWl hn1⟩

theorem ref_commandBytes (ckind : Int) (cqc cqs cqk cqkey cqv cqhi cqto : Int) (crsrc crdst crseq crlo crhi : Int) (crra : Option Addr) (crrn crrc : Nat) (crda : Option Addr) (crdn crdc : Nat) (cpeer csq : Int) (crrows : List Row) (crdups : List Rep) (w : World) (h1 : SlIn w.heap.size w ⟨crra, crrn, crrc⟩ 2 (crrows.map Row.cells)) (h2 : SlIn w.heap.size w ⟨crda, crdn, crdc⟩ 7 (crdups.map Rep.cells)) (hsh : Cmd.short (Cmd.mk ckind (Req.mk cqc cqs cqk cqkey cqv cqhi cqto) (Rng.mk crsrc crdst crseq crlo crhi ⟨crra, crrn, crrc⟩ ⟨crda, crdn, crdc⟩ crrows crdups) cpeer csq)) (hwf : (Cmd.mk ckind (Req.mk cqc cqs cqk cqkey cqv cqhi cqto) (Rng.mk crsrc crdst crseq crlo crhi ⟨crra, crrn, crrc⟩ ⟨crda, crdn, crdc⟩ crrows crdups) cpeer csq).wf) :
    Calls Try.prog 41 #[.agg #[.int .u8 ckind, .int .u8 cqc, .int .u32 cqs, .int .u8 cqk, .int .u64 cqkey, .int .u64 cqv, .int .u64 cqhi, .int .u8 cqto, .int .u8 crsrc, .int .u8 crdst, .int .u32 crseq, .int .u64 crlo, .int .u64 crhi, .slice crra crrn crrc, .slice crda crdn crdc, .int .u8 cpeer, .int .u32 csq]] w fun e w' => e = .returned (.string (bstr (Cmd.mk ckind (Req.mk cqc cqs cqk cqkey cqv cqhi cqto) (Rng.mk crsrc crdst crseq crlo crhi ⟨crra, crrn, crrc⟩ ⟨crda, crdn, crdc⟩ crrows crdups) cpeer csq).bytes)) ∧ Below w.heap.size w w' := by
  by_cases k1 : ckind = 1
  · exact ref_command_1 _ _ _ _ _ _ _ _ _ _ _ _ _ _ _ _ _ _ _ _ _ _ _ _ h1 h2 hsh hwf (by simpa using k1)
  by_cases k2 : ckind = 2
  · exact ref_command_2 _ _ _ _ _ _ _ _ _ _ _ _ _ _ _ _ _ _ _ _ _ _ _ _ h1 h2 hsh hwf (by simpa using k1) (by simpa using k2)
  by_cases k3 : ckind = 3
  · exact ref_command_3 _ _ _ _ _ _ _ _ _ _ _ _ _ _ _ _ _ _ _ _ _ _ _ _ h1 h2 hsh hwf (by simpa using k1) (by simpa using k2) (by simpa using k3)
  exact ref_command_e _ _ _ _ _ _ _ _ _ _ _ _ _ _ _ _ _ _ _ _ _ _ _ _ h1 h2 hsh hwf (by simpa using k1) (by simpa using k2) (by simpa using k3)

end Go.Proofs.Ytignemioillaiaa
