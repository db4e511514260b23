/- The document's answer: the bytes of requests, replies and ballots. -/
import Derived.Test.YtignemioillaiaaC
import Derived.Deep.RegionHeld3
namespace Go.Proofs.Ytignemioillaiaa
open Go.RowKit

theorem u64_in (n : Int) (h : 0 ≤ n ∧ n < 18446744073709551616) : IntKind.u64.wrap n = n := by
  simp [IntKind.wrap, IntKind.bits, IntKind.signed]; omega

theorem sz_fit (a b : List Int) (h : a.length + b.length ≤ 9223372036854775807) : ¬ 9223372036854775807 < (bstr a).size + (bstr b).size := by
  rw [bstr_size, bstr_size]; omega

theorem held_next {W a b : World} {X : Prop} (h : Below W.heap.size W a ∧ X) (k : Below a.heap.size a b) : Below W.heap.size W b := later_trans h.1 k
theorem held_drew {W a : World} {X : Prop} (h : Below W.heap.size W a ∧ X) : Below W.heap.size W a.drew := h.1.drew
theorem held_done {w W b : World} {X : Prop} (hl : Below w.heap.size w W) (h : Below W.heap.size W b ∧ X) : Below w.heap.size w b := later_trans hl h.1
theorem ret_str {a b : ByteArray} (h : a = b) : Ending.returned (.string a) = .returned (.string b) := by rw [h]
theorem bstr_eq {a b : List Int} (h : a = b) : bstr a = bstr b := by rw [h]

theorem numB_len (k v : Int) : (numB k v).length ≤ 8 := by
  have := numB_size k v; rwa [bstr_size] at this

set_option maxHeartbeats 1000000 in
set_option maxRecDepth 100000 in
theorem ref_ballot (bn bid : Int) (w : World) (h1 : 0 ≤ bn ∧ bn < 4294967296) (h2 : 0 ≤ bid ∧ bid < 256) :
    Calls Try.prog 40 #[.agg #[.int .u32 bn, .int .u8 bid]] w fun e w' => e = .returned (.string (bstr (ballotBytes bn bid))) ∧ Below w.heap.size w w' := by
  obtain ⟨W, hW⟩ : ∃ W, W = w.alloc (.cells #[.int .u32 bn, .int .u8 bid] 29) := ⟨_, rfl⟩
  have hWb : W.heap[w.heap.size]? = some (.cells #[.int .u32 bn, .int .u8 bid] 29) := by rw [hW]; exact heap_alloc_new w _
  have hWl : Below w.heap.size w W := by rw [hW]; exact later_alloc w _
  have hap := bstr_append
  have hu0 := u64_in bn (by omega)
  have hu1 := u64_in bid (by omega)
  have hz0 := fun k0 k1 => sz_fit (numB k0 bn) (numB k1 bid) (by (try simp only [List.length_append]); have := numB_len k0 bn; have := numB_len k1 bid; omega)
  have MK : Hid (∀ w', Below W.heap.size W w' → (Below W.heap.size W w' ∧ w'.cell? ⟨w.heap.size, 0, none⟩ = some (.int .u32 bn) ∧ w'.cell? ⟨w.heap.size, 1, none⟩ = some (.int .u8 bid))) := fun w' hb => ⟨hb, blk hb hWb 0, blk hb hWb 1⟩
  go_enter Try.func40, Try.ntmps40
  go_wp2_with fail
  rw [← hW]
  clear hW
  go_region_held3 (fun w' => Below W.heap.size W w' ∧ w'.cell? ⟨w.heap.size, 0, none⟩ = some (.int .u32 bn) ∧ w'.cell? ⟨w.heap.size, 1, none⟩ = some (.int .u8 bid)) (first | exact MK.out _ (Below.refl _ _).drew | exact MK.out _ (held_next (by assumption) (by assumption)) | exact MK.out _ (held_drew (by assumption))) (first | (go_at_call 37; refine (number_c _ _ _ (by omega)).mono ?_; rintro e w1 ⟨rfl, hbel1⟩))
  go_wp2
  go_ret
  exact ⟨ret_str (bstr_eq rfl), held_done hWl (by assumption)⟩

set_option maxHeartbeats 1000000 in
set_option maxRecDepth 100000 in
theorem ref_request_2 (qc qs qk qkey qv qhi qto : Int) (w : World) (hwf : (Req.mk qc qs qk qkey qv qhi qto).wf) (hk2 : (qk == 2) = true) :
    Calls Try.prog 38 #[.agg #[.int .u8 qc, .int .u32 qs, .int .u8 qk, .int .u64 qkey, .int .u64 qv, .int .u64 qhi, .int .u8 qto]] w fun e w' => e = .returned (.string (bstr (Req.mk qc qs qk qkey qv qhi qto).bytes)) ∧ Below w.heap.size w w' := by
  obtain ⟨hc1, hs1, hk1, hkey1, hv1, hhi1, hto1⟩ := hwf
  simp only [U8, U32, U64] at hc1 hs1 hk1 hkey1 hv1 hhi1 hto1
  obtain ⟨W, hW⟩ : ∃ W, W = w.alloc (.cells #[.int .u8 qc, .int .u32 qs, .int .u8 qk, .int .u64 qkey, .int .u64 qv, .int .u64 qhi, .int .u8 qto] 25) := ⟨_, rfl⟩
  have hWb : W.heap[w.heap.size]? = some (.cells #[.int .u8 qc, .int .u32 qs, .int .u8 qk, .int .u64 qkey, .int .u64 qv, .int .u64 qhi, .int .u8 qto] 25) := by rw [hW]; exact heap_alloc_new w _
  have hWl : Below w.heap.size w W := by rw [hW]; exact later_alloc w _
  have hap := bstr_append
  have hu0 := u64_in qc (by omega)
  have hu1 := u64_in qs (by omega)
  have hu2 := u64_in qk (by omega)
  have hu3 := u64_in qto (by omega)
  have hz0 := fun k0 k1 => sz_fit (numB k0 qc) (numB k1 qs) (by (try simp only [List.length_append]); have := numB_len k0 qc; have := numB_len k1 qs; omega)
  have hz1 := fun k0 k1 k2 => sz_fit (numB k0 qc ++ numB k1 qs) (numB k2 qk) (by (try simp only [List.length_append]); have := numB_len k0 qc; have := numB_len k1 qs; have := numB_len k2 qk; omega)
  have hz2 := fun k0 k1 k2 k3 => sz_fit (numB k0 qc ++ (numB k1 qs ++ numB k2 qk)) (numB k3 qkey) (by (try simp only [List.length_append]); have := numB_len k0 qc; have := numB_len k1 qs; have := numB_len k2 qk; have := numB_len k3 qkey; omega)
  have hz3 := fun k0 k1 k2 k3 k4 => sz_fit (numB k0 qc ++ (numB k1 qs ++ (numB k2 qk ++ numB k3 qkey))) (numB k4 qv) (by (try simp only [List.length_append]); have := numB_len k0 qc; have := numB_len k1 qs; have := numB_len k2 qk; have := numB_len k3 qkey; have := numB_len k4 qv; omega)
  have MK : Hid (∀ w', Below W.heap.size W w' → (Below W.heap.size W w' ∧ w'.cell? ⟨w.heap.size, 0, none⟩ = some (.int .u8 qc) ∧ w'.cell? ⟨w.heap.size, 1, none⟩ = some (.int .u32 qs) ∧ w'.cell? ⟨w.heap.size, 2, none⟩ = some (.int .u8 qk) ∧ w'.cell? ⟨w.heap.size, 3, none⟩ = some (.int .u64 qkey) ∧ w'.cell? ⟨w.heap.size, 4, none⟩ = some (.int .u64 qv) ∧ w'.cell? ⟨w.heap.size, 5, none⟩ = some (.int .u64 qhi) ∧ w'.cell? ⟨w.heap.size, 6, none⟩ = some (.int .u8 qto))) := fun w' hb => ⟨hb, blk hb hWb 0, blk hb hWb 1, blk hb hWb 2, blk hb hWb 3, blk hb hWb 4, blk hb hWb 5, blk hb hWb 6⟩
  go_enter Try.func38, Try.ntmps38
  go_wp2_with fail
  rw [← hW]
  clear hW
  go_region_held3 (fun w' => Below W.heap.size W w' ∧ w'.cell? ⟨w.heap.size, 0, none⟩ = some (.int .u8 qc) ∧ w'.cell? ⟨w.heap.size, 1, none⟩ = some (.int .u32 qs) ∧ w'.cell? ⟨w.heap.size, 2, none⟩ = some (.int .u8 qk) ∧ w'.cell? ⟨w.heap.size, 3, none⟩ = some (.int .u64 qkey) ∧ w'.cell? ⟨w.heap.size, 4, none⟩ = some (.int .u64 qv) ∧ w'.cell? ⟨w.heap.size, 5, none⟩ = some (.int .u64 qhi) ∧ w'.cell? ⟨w.heap.size, 6, none⟩ = some (.int .u8 qto)) (first | exact MK.out _ (Below.refl _ _).drew | exact MK.out _ (held_next (by assumption) (by assumption)) | exact MK.out _ (held_drew (by assumption))) (first | (go_at_call 37; refine (number_c _ _ _ (by omega)).mono ?_; rintro e w1 ⟨rfl, hbel1⟩))
  go_wp2_with (first | (go_at_call 37; go_must (refine (number_c _ _ _ (by omega)).mono ?_; rintro e w1 ⟨rfl, hbel1⟩; have hS1 := MK.out _ (held_next (by assumption) hbel1))))
  go_ret
  exact ⟨ret_str (bstr_eq (by simp [Req.bytes, Req.tail, numB, show qk = 2 by simpa using hk2])), held_done hWl (by assumption)⟩

set_option maxHeartbeats 1000000 in
set_option maxRecDepth 100000 in
theorem ref_request_4 (qc qs qk qkey qv qhi qto : Int) (w : World) (hwf : (Req.mk qc qs qk qkey qv qhi qto).wf) (hk2 : (qk == 2) = false) (hk4 : (qk == 4) = true) :
    Calls Try.prog 38 #[.agg #[.int .u8 qc, .int .u32 qs, .int .u8 qk, .int .u64 qkey, .int .u64 qv, .int .u64 qhi, .int .u8 qto]] w fun e w' => e = .returned (.string (bstr (Req.mk qc qs qk qkey qv qhi qto).bytes)) ∧ Below w.heap.size w w' := by
  obtain ⟨hc1, hs1, hk1, hkey1, hv1, hhi1, hto1⟩ := hwf
  simp only [U8, U32, U64] at hc1 hs1 hk1 hkey1 hv1 hhi1 hto1
  obtain ⟨W, hW⟩ : ∃ W, W = w.alloc (.cells #[.int .u8 qc, .int .u32 qs, .int .u8 qk, .int .u64 qkey, .int .u64 qv, .int .u64 qhi, .int .u8 qto] 25) := ⟨_, rfl⟩
  have hWb : W.heap[w.heap.size]? = some (.cells #[.int .u8 qc, .int .u32 qs, .int .u8 qk, .int .u64 qkey, .int .u64 qv, .int .u64 qhi, .int .u8 qto] 25) := by rw [hW]; exact heap_alloc_new w _
  have hWl : Below w.heap.size w W := by rw [hW]; exact later_alloc w _
  have hap := bstr_append
  have hu0 := u64_in qc (by omega)
  have hu1 := u64_in qs (by omega)
  have hu2 := u64_in qk (by omega)
  have hu3 := u64_in qto (by omega)
  have hz0 := fun k0 k1 => sz_fit (numB k0 qc) (numB k1 qs) (by (try simp only [List.length_append]); have := numB_len k0 qc; have := numB_len k1 qs; omega)
  have hz1 := fun k0 k1 k2 => sz_fit (numB k0 qc ++ numB k1 qs) (numB k2 qk) (by (try simp only [List.length_append]); have := numB_len k0 qc; have := numB_len k1 qs; have := numB_len k2 qk; omega)
  have hz2 := fun k0 k1 k2 k3 => sz_fit (numB k0 qc ++ (numB k1 qs ++ numB k2 qk)) (numB k3 qkey) (by (try simp only [List.length_append]); have := numB_len k0 qc; have := numB_len k1 qs; have := numB_len k2 qk; have := numB_len k3 qkey; omega)
  have hz3 := fun k0 k1 k2 k3 k4 => sz_fit (numB k0 qc ++ (numB k1 qs ++ (numB k2 qk ++ numB k3 qkey))) (numB k4 qhi) (by (try simp only [List.length_append]); have := numB_len k0 qc; have := numB_len k1 qs; have := numB_len k2 qk; have := numB_len k3 qkey; have := numB_len k4 qhi; omega)
  have hz4 := fun k0 k1 k2 k3 k4 k5 => sz_fit (numB k0 qc ++ (numB k1 qs ++ (numB k2 qk ++ (numB k3 qkey ++ numB k4 qhi)))) (numB k5 qto) (by (try simp only [List.length_append]); have := numB_len k0 qc; have := numB_len k1 qs; have := numB_len k2 qk; have := numB_len k3 qkey; have := numB_len k4 qhi; have := numB_len k5 qto; omega)
  have MK : Hid (∀ w', Below W.heap.size W w' → (Below W.heap.size W w' ∧ w'.cell? ⟨w.heap.size, 0, none⟩ = some (.int .u8 qc) ∧ w'.cell? ⟨w.heap.size, 1, none⟩ = some (.int .u32 qs) ∧ w'.cell? ⟨w.heap.size, 2, none⟩ = some (.int .u8 qk) ∧ w'.cell? ⟨w.heap.size, 3, none⟩ = some (.int .u64 qkey) ∧ w'.cell? ⟨w.heap.size, 4, none⟩ = some (.int .u64 qv) ∧ w'.cell? ⟨w.heap.size, 5, none⟩ = some (.int .u64 qhi) ∧ w'.cell? ⟨w.heap.size, 6, none⟩ = some (.int .u8 qto))) := fun w' hb => ⟨hb, blk hb hWb 0, blk hb hWb 1, blk hb hWb 2, blk hb hWb 3, blk hb hWb 4, blk hb hWb 5, blk hb hWb 6⟩
  go_enter Try.func38, Try.ntmps38
  go_wp2_with fail
  rw [← hW]
  clear hW
  go_region_held3 (fun w' => Below W.heap.size W w' ∧ w'.cell? ⟨w.heap.size, 0, none⟩ = some (.int .u8 qc) ∧ w'.cell? ⟨w.heap.size, 1, none⟩ = some (.int .u32 qs) ∧ w'.cell? ⟨w.heap.size, 2, none⟩ = some (.int .u8 qk) ∧ w'.cell? ⟨w.heap.size, 3, none⟩ = some (.int .u64 qkey) ∧ w'.cell? ⟨w.heap.size, 4, none⟩ = some (.int .u64 qv) ∧ w'.cell? ⟨w.heap.size, 5, none⟩ = some (.int .u64 qhi) ∧ w'.cell? ⟨w.heap.size, 6, none⟩ = some (.int .u8 qto)) (first | exact MK.out _ (Below.refl _ _).drew | exact MK.out _ (held_next (by assumption) (by assumption)) | exact MK.out _ (held_drew (by assumption))) (first | (go_at_call 37; refine (number_c _ _ _ (by omega)).mono ?_; rintro e w1 ⟨rfl, hbel1⟩))
  go_wp2_with (first | (go_at_call 37; go_must (refine (number_c _ _ _ (by omega)).mono ?_; rintro e w1 ⟨rfl, hbel1⟩; have hS1 := MK.out _ (held_next (by assumption) hbel1))))
  go_region_held3 (fun w' => Below W.heap.size W w' ∧ w'.cell? ⟨w.heap.size, 0, none⟩ = some (.int .u8 qc) ∧ w'.cell? ⟨w.heap.size, 1, none⟩ = some (.int .u32 qs) ∧ w'.cell? ⟨w.heap.size, 2, none⟩ = some (.int .u8 qk) ∧ w'.cell? ⟨w.heap.size, 3, none⟩ = some (.int .u64 qkey) ∧ w'.cell? ⟨w.heap.size, 4, none⟩ = some (.int .u64 qv) ∧ w'.cell? ⟨w.heap.size, 5, none⟩ = some (.int .u64 qhi) ∧ w'.cell? ⟨w.heap.size, 6, none⟩ = some (.int .u8 qto)) (first | exact MK.out _ (Below.refl _ _).drew | exact MK.out _ (held_next (by assumption) (by assumption)) | exact MK.out _ (held_drew (by assumption))) (first | (go_at_call 37; refine (number_c _ _ _ (by omega)).mono ?_; rintro e w1 ⟨rfl, hbel1⟩))
  go_wp2
  go_ret
  exact ⟨ret_str (bstr_eq (by simp [Req.bytes, Req.tail, numB, show qk = 4 by simpa using hk4])), held_done hWl (by assumption)⟩

set_option maxHeartbeats 1000000 in
set_option maxRecDepth 100000 in
theorem ref_request_e (qc qs qk qkey qv qhi qto : Int) (w : World) (hwf : (Req.mk qc qs qk qkey qv qhi qto).wf) (hk2 : (qk == 2) = false) (hk4 : (qk == 4) = false) :
    Calls Try.prog 38 #[.agg #[.int .u8 qc, .int .u32 qs, .int .u8 qk, .int .u64 qkey, .int .u64 qv, .int .u64 qhi, .int .u8 qto]] w fun e w' => e = .returned (.string (bstr (Req.mk qc qs qk qkey qv qhi qto).bytes)) ∧ Below w.heap.size w w' := by
  obtain ⟨hc1, hs1, hk1, hkey1, hv1, hhi1, hto1⟩ := hwf
  simp only [U8, U32, U64] at hc1 hs1 hk1 hkey1 hv1 hhi1 hto1
  obtain ⟨W, hW⟩ : ∃ W, W = w.alloc (.cells #[.int .u8 qc, .int .u32 qs, .int .u8 qk, .int .u64 qkey, .int .u64 qv, .int .u64 qhi, .int .u8 qto] 25) := ⟨_, rfl⟩
  have hWb : W.heap[w.heap.size]? = some (.cells #[.int .u8 qc, .int .u32 qs, .int .u8 qk, .int .u64 qkey, .int .u64 qv, .int .u64 qhi, .int .u8 qto] 25) := by rw [hW]; exact heap_alloc_new w _
  have hWl : Below w.heap.size w W := by rw [hW]; exact later_alloc w _
  have hap := bstr_append
  have hu0 := u64_in qc (by omega)
  have hu1 := u64_in qs (by omega)
  have hu2 := u64_in qk (by omega)
  have hu3 := u64_in qto (by omega)
  have hz0 := fun k0 k1 => sz_fit (numB k0 qc) (numB k1 qs) (by (try simp only [List.length_append]); have := numB_len k0 qc; have := numB_len k1 qs; omega)
  have hz1 := fun k0 k1 k2 => sz_fit (numB k0 qc ++ numB k1 qs) (numB k2 qk) (by (try simp only [List.length_append]); have := numB_len k0 qc; have := numB_len k1 qs; have := numB_len k2 qk; omega)
  have hz2 := fun k0 k1 k2 k3 => sz_fit (numB k0 qc ++ (numB k1 qs ++ numB k2 qk)) (numB k3 qkey) (by (try simp only [List.length_append]); have := numB_len k0 qc; have := numB_len k1 qs; have := numB_len k2 qk; have := numB_len k3 qkey; omega)
  have MK : Hid (∀ w', Below W.heap.size W w' → (Below W.heap.size W w' ∧ w'.cell? ⟨w.heap.size, 0, none⟩ = some (.int .u8 qc) ∧ w'.cell? ⟨w.heap.size, 1, none⟩ = some (.int .u32 qs) ∧ w'.cell? ⟨w.heap.size, 2, none⟩ = some (.int .u8 qk) ∧ w'.cell? ⟨w.heap.size, 3, none⟩ = some (.int .u64 qkey) ∧ w'.cell? ⟨w.heap.size, 4, none⟩ = some (.int .u64 qv) ∧ w'.cell? ⟨w.heap.size, 5, none⟩ = some (.int .u64 qhi) ∧ w'.cell? ⟨w.heap.size, 6, none⟩ = some (.int .u8 qto))) := fun w' hb => ⟨hb, blk hb hWb 0, blk hb hWb 1, blk hb hWb 2, blk hb hWb 3, blk hb hWb 4, blk hb hWb 5, blk hb hWb 6⟩
  go_enter Try.func38, Try.ntmps38
  go_wp2_with fail
  rw [← hW]
  clear hW
  go_region_held3 (fun w' => Below W.heap.size W w' ∧ w'.cell? ⟨w.heap.size, 0, none⟩ = some (.int .u8 qc) ∧ w'.cell? ⟨w.heap.size, 1, none⟩ = some (.int .u32 qs) ∧ w'.cell? ⟨w.heap.size, 2, none⟩ = some (.int .u8 qk) ∧ w'.cell? ⟨w.heap.size, 3, none⟩ = some (.int .u64 qkey) ∧ w'.cell? ⟨w.heap.size, 4, none⟩ = some (.int .u64 qv) ∧ w'.cell? ⟨w.heap.size, 5, none⟩ = some (.int .u64 qhi) ∧ w'.cell? ⟨w.heap.size, 6, none⟩ = some (.int .u8 qto)) (first | exact MK.out _ (Below.refl _ _).drew | exact MK.out _ (held_next (by assumption) (by assumption)) | exact MK.out _ (held_drew (by assumption))) (first | (go_at_call 37; refine (number_c _ _ _ (by omega)).mono ?_; rintro e w1 ⟨rfl, hbel1⟩))
  go_wp2_with (first | (go_at_call 37; go_must (refine (number_c _ _ _ (by omega)).mono ?_; rintro e w1 ⟨rfl, hbel1⟩; have hS1 := MK.out _ (held_next (by assumption) hbel1))))
  go_ret
  exact ⟨ret_str (bstr_eq (by simp [Req.bytes, Req.tail, numB, show ¬ qk = 2 by simpa using hk2, show ¬ qk = 4 by simpa using hk4])), held_done hWl (by assumption)⟩

theorem ref_requestBytes (qc qs qk qkey qv qhi qto : Int) (w : World) (hwf : (Req.mk qc qs qk qkey qv qhi qto).wf) :
    Calls Try.prog 38 #[.agg #[.int .u8 qc, .int .u32 qs, .int .u8 qk, .int .u64 qkey, .int .u64 qv, .int .u64 qhi, .int .u8 qto]] w fun e w' => e = .returned (.string (bstr (Req.mk qc qs qk qkey qv qhi qto).bytes)) ∧ Below w.heap.size w w' := by
  by_cases h2 : qk = 2
  · exact ref_request_2 _ _ _ _ _ _ _ _ hwf (by simpa using h2)
  by_cases h4 : qk = 4
  · exact ref_request_4 _ _ _ _ _ _ _ _ hwf (by simpa using h2) (by simpa using h4)
  exact ref_request_e _ _ _ _ _ _ _ _ hwf (by simpa using h2) (by simpa using h4)

set_option maxHeartbeats 1000000 in
set_option maxRecDepth 100000 in
theorem ref_reply_3 (pc ps pkey pk : Int) (pf : Bool) (pv pg : Int) (w : World) (hwf : (Rep.mk pc ps pkey pk pf pv pg).wf) (hk1' : (pk == 1) = false) (hk3 : (pk == 3) = true) :
    Calls Try.prog 39 #[.agg #[.int .u8 pc, .int .u32 ps, .int .u64 pkey, .int .u8 pk, .bool pf, .int .u64 pv, .int .u8 pg]] w fun e w' => e = .returned (.string (bstr (Rep.mk pc ps pkey pk pf pv pg).bytes)) ∧ Below w.heap.size w w' := by
  obtain ⟨hc1, hs1, hkey1, hk1, hv1, hg1⟩ := hwf
  simp only [U8, U32, U64] at hc1 hs1 hk1 hkey1 hv1 hg1
  obtain ⟨W, hW⟩ : ∃ W, W = w.alloc (.cells #[.int .u8 pc, .int .u32 ps, .int .u64 pkey, .int .u8 pk, .bool pf, .int .u64 pv, .int .u8 pg] 27) := ⟨_, rfl⟩
  have hWb : W.heap[w.heap.size]? = some (.cells #[.int .u8 pc, .int .u32 ps, .int .u64 pkey, .int .u8 pk, .bool pf, .int .u64 pv, .int .u8 pg] 27) := by rw [hW]; exact heap_alloc_new w _
  have hWl : Below w.heap.size w W := by rw [hW]; exact later_alloc w _
  have hap := bstr_append
  have hu0 := u64_in pc (by omega)
  have hu1 := u64_in ps (by omega)
  have hu2 := u64_in pk (by omega)
  have hu3 := u64_in pg (by omega)
  have hz0 := fun k0 k1 => sz_fit (numB k0 pc) (numB k1 ps) (by (try simp only [List.length_append]); have := numB_len k0 pc; have := numB_len k1 ps; omega)
  have hz1 := fun k0 k1 k2 => sz_fit (numB k0 pc ++ numB k1 ps) (numB k2 pkey) (by (try simp only [List.length_append]); have := numB_len k0 pc; have := numB_len k1 ps; have := numB_len k2 pkey; omega)
  have hz2 := fun k0 k1 k2 k3 => sz_fit (numB k0 pc ++ (numB k1 ps ++ numB k2 pkey)) (numB k3 pk) (by (try simp only [List.length_append]); have := numB_len k0 pc; have := numB_len k1 ps; have := numB_len k2 pkey; have := numB_len k3 pk; omega)
  have hz3 := fun k0 k1 k2 k3 k4 => sz_fit (numB k0 pc ++ (numB k1 ps ++ (numB k2 pkey ++ numB k3 pk))) (numB k4 pg) (by (try simp only [List.length_append]); have := numB_len k0 pc; have := numB_len k1 ps; have := numB_len k2 pkey; have := numB_len k3 pk; have := numB_len k4 pg; omega)
  have MK : Hid (∀ w', Below W.heap.size W w' → (Below W.heap.size W w' ∧ w'.cell? ⟨w.heap.size, 0, none⟩ = some (.int .u8 pc) ∧ w'.cell? ⟨w.heap.size, 1, none⟩ = some (.int .u32 ps) ∧ w'.cell? ⟨w.heap.size, 2, none⟩ = some (.int .u64 pkey) ∧ w'.cell? ⟨w.heap.size, 3, none⟩ = some (.int .u8 pk) ∧ w'.cell? ⟨w.heap.size, 4, none⟩ = some (.bool pf) ∧ w'.cell? ⟨w.heap.size, 5, none⟩ = some (.int .u64 pv) ∧ w'.cell? ⟨w.heap.size, 6, none⟩ = some (.int .u8 pg))) := fun w' hb => ⟨hb, blk hb hWb 0, blk hb hWb 1, blk hb hWb 2, blk hb hWb 3, blk hb hWb 4, blk hb hWb 5, blk hb hWb 6⟩
  go_enter Try.func39, Try.ntmps39
  go_wp2_with fail
  rw [← hW]
  clear hW
  go_region_held3 (fun w' => Below W.heap.size W w' ∧ w'.cell? ⟨w.heap.size, 0, none⟩ = some (.int .u8 pc) ∧ w'.cell? ⟨w.heap.size, 1, none⟩ = some (.int .u32 ps) ∧ w'.cell? ⟨w.heap.size, 2, none⟩ = some (.int .u64 pkey) ∧ w'.cell? ⟨w.heap.size, 3, none⟩ = some (.int .u8 pk) ∧ w'.cell? ⟨w.heap.size, 4, none⟩ = some (.bool pf) ∧ w'.cell? ⟨w.heap.size, 5, none⟩ = some (.int .u64 pv) ∧ w'.cell? ⟨w.heap.size, 6, none⟩ = some (.int .u8 pg)) (first | exact MK.out _ (Below.refl _ _).drew | exact MK.out _ (held_next (by assumption) (by assumption)) | exact MK.out _ (held_drew (by assumption))) (first | (go_at_call 37; refine (number_c _ _ _ (by omega)).mono ?_; rintro e w1 ⟨rfl, hbel1⟩))
  go_wp2_with (first | (go_at_call 37; go_must (refine (number_c _ _ _ (by omega)).mono ?_; rintro e w1 ⟨rfl, hbel1⟩; have hS1 := MK.out _ (held_next (by assumption) hbel1))))
  go_ret
  exact ⟨ret_str (bstr_eq (by simp [Rep.bytes, Rep.tail, numB, show pk = 3 by simpa using hk3])), held_done hWl (by assumption)⟩

set_option maxHeartbeats 1000000 in
set_option maxRecDepth 100000 in
theorem ref_reply_e (pc ps pkey pk : Int) (pf : Bool) (pv pg : Int) (w : World) (hwf : (Rep.mk pc ps pkey pk pf pv pg).wf) (hk1' : (pk == 1) = false) (hk3 : (pk == 3) = false) :
    Calls Try.prog 39 #[.agg #[.int .u8 pc, .int .u32 ps, .int .u64 pkey, .int .u8 pk, .bool pf, .int .u64 pv, .int .u8 pg]] w fun e w' => e = .returned (.string (bstr (Rep.mk pc ps pkey pk pf pv pg).bytes)) ∧ Below w.heap.size w w' := by
  obtain ⟨hc1, hs1, hkey1, hk1, hv1, hg1⟩ := hwf
  simp only [U8, U32, U64] at hc1 hs1 hk1 hkey1 hv1 hg1
  obtain ⟨W, hW⟩ : ∃ W, W = w.alloc (.cells #[.int .u8 pc, .int .u32 ps, .int .u64 pkey, .int .u8 pk, .bool pf, .int .u64 pv, .int .u8 pg] 27) := ⟨_, rfl⟩
  have hWb : W.heap[w.heap.size]? = some (.cells #[.int .u8 pc, .int .u32 ps, .int .u64 pkey, .int .u8 pk, .bool pf, .int .u64 pv, .int .u8 pg] 27) := by rw [hW]; exact heap_alloc_new w _
  have hWl : Below w.heap.size w W := by rw [hW]; exact later_alloc w _
  have hap := bstr_append
  have hu0 := u64_in pc (by omega)
  have hu1 := u64_in ps (by omega)
  have hu2 := u64_in pk (by omega)
  have hu3 := u64_in pg (by omega)
  have hz0 := fun k0 k1 => sz_fit (numB k0 pc) (numB k1 ps) (by (try simp only [List.length_append]); have := numB_len k0 pc; have := numB_len k1 ps; omega)
  have hz1 := fun k0 k1 k2 => sz_fit (numB k0 pc ++ numB k1 ps) (numB k2 pkey) (by (try simp only [List.length_append]); have := numB_len k0 pc; have := numB_len k1 ps; have := numB_len k2 pkey; omega)
  have hz2 := fun k0 k1 k2 k3 => sz_fit (numB k0 pc ++ (numB k1 ps ++ numB k2 pkey)) (numB k3 pk) (by (try simp only [List.length_append]); have := numB_len k0 pc; have := numB_len k1 ps; have := numB_len k2 pkey; have := numB_len k3 pk; omega)
  have MK : Hid (∀ w', Below W.heap.size W w' → (Below W.heap.size W w' ∧ w'.cell? ⟨w.heap.size, 0, none⟩ = some (.int .u8 pc) ∧ w'.cell? ⟨w.heap.size, 1, none⟩ = some (.int .u32 ps) ∧ w'.cell? ⟨w.heap.size, 2, none⟩ = some (.int .u64 pkey) ∧ w'.cell? ⟨w.heap.size, 3, none⟩ = some (.int .u8 pk) ∧ w'.cell? ⟨w.heap.size, 4, none⟩ = some (.bool pf) ∧ w'.cell? ⟨w.heap.size, 5, none⟩ = some (.int .u64 pv) ∧ w'.cell? ⟨w.heap.size, 6, none⟩ = some (.int .u8 pg))) := fun w' hb => ⟨hb, blk hb hWb 0, blk hb hWb 1, blk hb hWb 2, blk hb hWb 3, blk hb hWb 4, blk hb hWb 5, blk hb hWb 6⟩
  go_enter Try.func39, Try.ntmps39
  go_wp2_with fail
  rw [← hW]
  clear hW
  go_region_held3 (fun w' => Below W.heap.size W w' ∧ w'.cell? ⟨w.heap.size, 0, none⟩ = some (.int .u8 pc) ∧ w'.cell? ⟨w.heap.size, 1, none⟩ = some (.int .u32 ps) ∧ w'.cell? ⟨w.heap.size, 2, none⟩ = some (.int .u64 pkey) ∧ w'.cell? ⟨w.heap.size, 3, none⟩ = some (.int .u8 pk) ∧ w'.cell? ⟨w.heap.size, 4, none⟩ = some (.bool pf) ∧ w'.cell? ⟨w.heap.size, 5, none⟩ = some (.int .u64 pv) ∧ w'.cell? ⟨w.heap.size, 6, none⟩ = some (.int .u8 pg)) (first | exact MK.out _ (Below.refl _ _).drew | exact MK.out _ (held_next (by assumption) (by assumption)) | exact MK.out _ (held_drew (by assumption))) (first | (go_at_call 37; refine (number_c _ _ _ (by omega)).mono ?_; rintro e w1 ⟨rfl, hbel1⟩))
  go_wp2_with (first | (go_at_call 37; go_must (refine (number_c _ _ _ (by omega)).mono ?_; rintro e w1 ⟨rfl, hbel1⟩; have hS1 := MK.out _ (held_next (by assumption) hbel1))))
  go_ret
  exact ⟨ret_str (bstr_eq (by simp [Rep.bytes, Rep.tail, numB, show ¬ pk = 1 by simpa using hk1', show ¬ pk = 3 by simpa using hk3])), held_done hWl (by assumption)⟩

set_option maxHeartbeats 1000000 in
set_option maxRecDepth 100000 in
theorem ref_reply_1t (pc ps pkey pk : Int) (pf : Bool) (pv pg : Int) (w : World) (hwf : (Rep.mk pc ps pkey pk pf pv pg).wf) (hk1' : (pk == 1) = true) (hf : pf = true) :
    Calls Try.prog 39 #[.agg #[.int .u8 pc, .int .u32 ps, .int .u64 pkey, .int .u8 pk, .bool pf, .int .u64 pv, .int .u8 pg]] w fun e w' => e = .returned (.string (bstr (Rep.mk pc ps pkey pk pf pv pg).bytes)) ∧ Below w.heap.size w w' := by
  obtain ⟨hc1, hs1, hkey1, hk1, hv1, hg1⟩ := hwf
  simp only [U8, U32, U64] at hc1 hs1 hk1 hkey1 hv1 hg1
  subst hf
  obtain ⟨W, hW⟩ : ∃ W, W = w.alloc (.cells #[.int .u8 pc, .int .u32 ps, .int .u64 pkey, .int .u8 pk, .bool true, .int .u64 pv, .int .u8 pg] 27) := ⟨_, rfl⟩
  have hWb : W.heap[w.heap.size]? = some (.cells #[.int .u8 pc, .int .u32 ps, .int .u64 pkey, .int .u8 pk, .bool true, .int .u64 pv, .int .u8 pg] 27) := by rw [hW]; exact heap_alloc_new w _
  have hWl : Below w.heap.size w W := by rw [hW]; exact later_alloc w _
  have hap := bstr_append
  have hu0 := u64_in pc (by omega)
  have hu1 := u64_in ps (by omega)
  have hu2 := u64_in pk (by omega)
  have hu3 := u64_in pg (by omega)
  have hz0 := fun k0 k1 => sz_fit (numB k0 pc) (numB k1 ps) (by (try simp only [List.length_append]); have := numB_len k0 pc; have := numB_len k1 ps; omega)
  have hz1 := fun k0 k1 k2 => sz_fit (numB k0 pc ++ numB k1 ps) (numB k2 pkey) (by (try simp only [List.length_append]); have := numB_len k0 pc; have := numB_len k1 ps; have := numB_len k2 pkey; omega)
  have hz2 := fun k0 k1 k2 k3 => sz_fit (numB k0 pc ++ (numB k1 ps ++ numB k2 pkey)) (numB k3 pk) (by (try simp only [List.length_append]); have := numB_len k0 pc; have := numB_len k1 ps; have := numB_len k2 pkey; have := numB_len k3 pk; omega)
  have MK : Hid (∀ w', Below W.heap.size W w' → (Below W.heap.size W w' ∧ w'.cell? ⟨w.heap.size, 0, none⟩ = some (.int .u8 pc) ∧ w'.cell? ⟨w.heap.size, 1, none⟩ = some (.int .u32 ps) ∧ w'.cell? ⟨w.heap.size, 2, none⟩ = some (.int .u64 pkey) ∧ w'.cell? ⟨w.heap.size, 3, none⟩ = some (.int .u8 pk) ∧ w'.cell? ⟨w.heap.size, 4, none⟩ = some (.bool true) ∧ w'.cell? ⟨w.heap.size, 5, none⟩ = some (.int .u64 pv) ∧ w'.cell? ⟨w.heap.size, 6, none⟩ = some (.int .u8 pg))) := fun w' hb => ⟨hb, blk hb hWb 0, blk hb hWb 1, blk hb hWb 2, blk hb hWb 3, blk hb hWb 4, blk hb hWb 5, blk hb hWb 6⟩
  have hy0 := fun k0 k1 k2 k3 => sz_fit (numB k0 pc ++ (numB k1 ps ++ (numB k2 pkey ++ numB k3 pk))) [1] (by simp only [List.length_append, List.length_cons, List.length_nil]; have := numB_len k0 pc; have := numB_len k1 ps; have := numB_len k2 pkey; have := numB_len k3 pk; omega)
  have hlit1 : ({ data := #[1] } : ByteArray) = bstr [1] := rfl
  have hlit0 : ({ data := #[0] } : ByteArray) = bstr [0] := rfl
  have hy1 := fun k0 k1 k2 k3 k4 => sz_fit (numB k0 pc ++ (numB k1 ps ++ (numB k2 pkey ++ (numB k3 pk ++ [1])))) (numB k4 pv) (by simp only [List.length_append, List.length_cons, List.length_nil]; have := numB_len k0 pc; have := numB_len k1 ps; have := numB_len k2 pkey; have := numB_len k3 pk; have := numB_len k4 pv; omega)
  go_enter Try.func39, Try.ntmps39
  go_wp2_with fail
  rw [← hW]
  clear hW
  go_region_held3 (fun w' => Below W.heap.size W w' ∧ w'.cell? ⟨w.heap.size, 0, none⟩ = some (.int .u8 pc) ∧ w'.cell? ⟨w.heap.size, 1, none⟩ = some (.int .u32 ps) ∧ w'.cell? ⟨w.heap.size, 2, none⟩ = some (.int .u64 pkey) ∧ w'.cell? ⟨w.heap.size, 3, none⟩ = some (.int .u8 pk) ∧ w'.cell? ⟨w.heap.size, 4, none⟩ = some (.bool true) ∧ w'.cell? ⟨w.heap.size, 5, none⟩ = some (.int .u64 pv) ∧ w'.cell? ⟨w.heap.size, 6, none⟩ = some (.int .u8 pg)) (first | exact MK.out _ (Below.refl _ _).drew | exact MK.out _ (held_next (by assumption) (by assumption)) | exact MK.out _ (held_drew (by assumption))) (first | (go_at_call 37; refine (number_c _ _ _ (by omega)).mono ?_; rintro e w1 ⟨rfl, hbel1⟩))
  go_wp2_with (first | (go_at_call 37; go_must (refine (number_c _ _ _ (by omega)).mono ?_; rintro e w1 ⟨rfl, hbel1⟩; have hS1 := MK.out _ (held_next (by assumption) hbel1))))
  go_ret
  exact ⟨ret_str (bstr_eq (by simp [Rep.bytes, Rep.tail, numB, show pk = 1 by simpa using hk1'])), held_done hWl (by assumption)⟩

set_option maxHeartbeats 1000000 in
set_option maxRecDepth 100000 in
theorem ref_reply_1f (pc ps pkey pk : Int) (pf : Bool) (pv pg : Int) (w : World) (hwf : (Rep.mk pc ps pkey pk pf pv pg).wf) (hk1' : (pk == 1) = true) (hf : pf = false) :
    Calls Try.prog 39 #[.agg #[.int .u8 pc, .int .u32 ps, .int .u64 pkey, .int .u8 pk, .bool pf, .int .u64 pv, .int .u8 pg]] w fun e w' => e = .returned (.string (bstr (Rep.mk pc ps pkey pk pf pv pg).bytes)) ∧ Below w.heap.size w w' := by
  obtain ⟨hc1, hs1, hkey1, hk1, hv1, hg1⟩ := hwf
  simp only [U8, U32, U64] at hc1 hs1 hk1 hkey1 hv1 hg1
  subst hf
  obtain ⟨W, hW⟩ : ∃ W, W = w.alloc (.cells #[.int .u8 pc, .int .u32 ps, .int .u64 pkey, .int .u8 pk, .bool false, .int .u64 pv, .int .u8 pg] 27) := ⟨_, rfl⟩
  have hWb : W.heap[w.heap.size]? = some (.cells #[.int .u8 pc, .int .u32 ps, .int .u64 pkey, .int .u8 pk, .bool false, .int .u64 pv, .int .u8 pg] 27) := by rw [hW]; exact heap_alloc_new w _
  have hWl : Below w.heap.size w W := by rw [hW]; exact later_alloc w _
  have hap := bstr_append
  have hu0 := u64_in pc (by omega)
  have hu1 := u64_in ps (by omega)
  have hu2 := u64_in pk (by omega)
  have hu3 := u64_in pg (by omega)
  have hz0 := fun k0 k1 => sz_fit (numB k0 pc) (numB k1 ps) (by (try simp only [List.length_append]); have := numB_len k0 pc; have := numB_len k1 ps; omega)
  have hz1 := fun k0 k1 k2 => sz_fit (numB k0 pc ++ numB k1 ps) (numB k2 pkey) (by (try simp only [List.length_append]); have := numB_len k0 pc; have := numB_len k1 ps; have := numB_len k2 pkey; omega)
  have hz2 := fun k0 k1 k2 k3 => sz_fit (numB k0 pc ++ (numB k1 ps ++ numB k2 pkey)) (numB k3 pk) (by (try simp only [List.length_append]); have := numB_len k0 pc; have := numB_len k1 ps; have := numB_len k2 pkey; have := numB_len k3 pk; omega)
  have MK : Hid (∀ w', Below W.heap.size W w' → (Below W.heap.size W w' ∧ w'.cell? ⟨w.heap.size, 0, none⟩ = some (.int .u8 pc) ∧ w'.cell? ⟨w.heap.size, 1, none⟩ = some (.int .u32 ps) ∧ w'.cell? ⟨w.heap.size, 2, none⟩ = some (.int .u64 pkey) ∧ w'.cell? ⟨w.heap.size, 3, none⟩ = some (.int .u8 pk) ∧ w'.cell? ⟨w.heap.size, 4, none⟩ = some (.bool false) ∧ w'.cell? ⟨w.heap.size, 5, none⟩ = some (.int .u64 pv) ∧ w'.cell? ⟨w.heap.size, 6, none⟩ = some (.int .u8 pg))) := fun w' hb => ⟨hb, blk hb hWb 0, blk hb hWb 1, blk hb hWb 2, blk hb hWb 3, blk hb hWb 4, blk hb hWb 5, blk hb hWb 6⟩
  have hy0 := fun k0 k1 k2 k3 => sz_fit (numB k0 pc ++ (numB k1 ps ++ (numB k2 pkey ++ numB k3 pk))) [0] (by simp only [List.length_append, List.length_cons, List.length_nil]; have := numB_len k0 pc; have := numB_len k1 ps; have := numB_len k2 pkey; have := numB_len k3 pk; omega)
  have hlit1 : ({ data := #[1] } : ByteArray) = bstr [1] := rfl
  have hlit0 : ({ data := #[0] } : ByteArray) = bstr [0] := rfl
  go_enter Try.func39, Try.ntmps39
  go_wp2_with fail
  rw [← hW]
  clear hW
  go_region_held3 (fun w' => Below W.heap.size W w' ∧ w'.cell? ⟨w.heap.size, 0, none⟩ = some (.int .u8 pc) ∧ w'.cell? ⟨w.heap.size, 1, none⟩ = some (.int .u32 ps) ∧ w'.cell? ⟨w.heap.size, 2, none⟩ = some (.int .u64 pkey) ∧ w'.cell? ⟨w.heap.size, 3, none⟩ = some (.int .u8 pk) ∧ w'.cell? ⟨w.heap.size, 4, none⟩ = some (.bool false) ∧ w'.cell? ⟨w.heap.size, 5, none⟩ = some (.int .u64 pv) ∧ w'.cell? ⟨w.heap.size, 6, none⟩ = some (.int .u8 pg)) (first | exact MK.out _ (Below.refl _ _).drew | exact MK.out _ (held_next (by assumption) (by assumption)) | exact MK.out _ (held_drew (by assumption))) (first | (go_at_call 37; refine (number_c _ _ _ (by omega)).mono ?_; rintro e w1 ⟨rfl, hbel1⟩))
  go_wp2_with (first | (go_at_call 37; go_must (refine (number_c _ _ _ (by omega)).mono ?_; rintro e w1 ⟨rfl, hbel1⟩; have hS1 := MK.out _ (held_next (by assumption) hbel1))))
  go_ret
  exact ⟨ret_str (bstr_eq (by simp [Rep.bytes, Rep.tail, numB, show pk = 1 by simpa using hk1'])), held_done hWl (by assumption)⟩

end Go.Proofs.Ytignemioillaiaa
