/- The document's answer: the bytes of requests, replies and ballots. The document's answer: the bytes of a range. The document's answer: the bytes of a command. -/
import Derived.Test.YtignemioillaiaaD4
import Derived.Test.YtignemioillaiaaC
import Derived.Deep.RegionHeld3
namespace Go.Proofs.Ytignemioillaiaa
open Go.RowKit

theorem u64_in (n : Int) (h : 0 ≤ n ∧ n < 18446744073709551616) : IntKind.u64.wrap n = n := by
  simp [IntKind.wrap, IntKind.bits, IntKind.signed]; omega

theorem sz_fit (a b : List Int) (h : a.length + b.length ≤ 9223372036854775807) : ¬ 9223372036854775807 < (bstr a).size + (bstr b).size := by
  rw [bstr_size, bstr_size]; omega

theorem held_next {W a b : World} {X : Prop} (h : Below W.heap.size W a ∧ X) (k : Below a.heap.size a b) : Below W.heap.size W b := later_trans h.1 k
theorem held_drew {W a : World} {X : Prop} (h : Below W.heap.size W a ∧ X) : Below W.heap.size W a.drew := h.1.drew
theorem held_done {w W b : World} {X : Prop} (hl : Below w.heap.size w W) (h : Below W.heap.size W b ∧ X) : Below w.heap.size w b := later_trans hl h.1
theorem ret_str {a b : ByteArray} (h : a = b) : Ending.returned (.string a) = .returned (.string b) := by rw [h]
theorem bstr_eq {a b : List Int} (h : a = b) : bstr a = bstr b := by rw [h]

theorem numB_len (k v : Int) : (numB k v).length ≤ 8 := by
  have := numB_size k v; rwa [bstr_size] at this

set_option maxHeartbeats 1000000 in
set_option maxRecDepth 100000 in
theorem ref_ballot (bn bid : Int) (w : World) (h1 : 0 ≤ bn ∧ bn < 4294967296) (h2 : 0 ≤ bid ∧ bid < 256) :
    Calls Try.prog 40 #[.agg #[.int .u32 bn, .int .u8 bid]] w fun e w' => e = .returned (.string (bstr (ballotBytes bn bid))) ∧ Below w.heap.size w w' := by
  obtain ⟨W, hW⟩ : ∃ W, W = w.alloc (.cells #[.int .u32 bn, .int .u8 bid] 29) := ⟨_, rfl⟩
  have hWb : W.heap[w.heap.size]? = some (.cells #[.int .u32 bn, .int .u8 bid] 29) := by rw [hW]; exact heap_alloc_new w _
  have hWl : Below w.heap.size w W := by rw [hW]; exact later_alloc w _
  have hap := bstr_append
  have hu0 := u64_in bn (by omega)
  have hu1 := u64_in bid (by omega)
  have hz0 := fun k0 k1 => sz_fit (numB k0 bn) (numB k1 bid) (by (try simp only [List.length_append]); have := numB_len k0 bn; have := numB_len k1 bid; omega)
  have MK : Hid (∀ w', Below W.heap.size W w' → (Below W.heap.size W w' ∧ w'.cell? ⟨w.heap.size, 0, none⟩ = some (.int .u32 bn) ∧ w'.cell? ⟨w.heap.size, 1, none⟩ = some (.int .u8 bid))) := fun w' hb => ⟨hb, blk hb hWb 0, blk hb hWb 1⟩
  go_enter Try.func40, Try.ntmps40
  go_wp2_with fail
  rw [← hW]
  clear hW
  go_region_held3 (fun w' => Below W.heap.size W w' ∧ w'.cell? ⟨w.heap.size, 0, none⟩ = some (.int .u32 bn) ∧ w'.cell? ⟨w.heap.size, 1, none⟩ = some (.int .u8 bid)) (first | exact MK.out _ (Below.refl _ _).drew | exact MK.out _ (held_next (by assumption) (by assumption)) | exact MK.out _ (held_drew (by assumption))) (first | (go_at_call 37; refine (number_c _ _ _ (by omega)).mono ?_; rintro e w1 ⟨rfl, hbel1⟩))
  go_wp2
  go_ret
  exact ⟨ret_str (bstr_eq rfl), held_done hWl (by assumption)⟩

set_option maxHeartbeats 1000000 in
set_option maxRecDepth 100000 in
theorem ref_request_2 (qc qs qk qkey qv qhi qto : Int) (w : World) (hwf : (Req.mk qc qs qk qkey qv qhi qto).wf) (hk2 : (qk == 2) = true) :
    Calls Try.prog 38 #[.agg (List.toArray (rQ qc qs qk qkey qv qhi qto))] w fun e w' => e = .returned (.string (bstr (Req.mk qc qs qk qkey qv qhi qto).bytes)) ∧ Below w.heap.size w w' := by
  obtain ⟨hc1, hs1, hk1, hkey1, hv1, hhi1, hto1⟩ := hwf
  simp only [U8, U32, U64] at hc1 hs1 hk1 hkey1 hv1 hhi1 hto1
  obtain ⟨W, hW⟩ : ∃ W, W = w.alloc (.cells (List.toArray (rQ qc qs qk qkey qv qhi qto)) 25) := ⟨_, rfl⟩
  have hWb : W.heap[w.heap.size]? = some (.cells (List.toArray (rQ qc qs qk qkey qv qhi qto)) 25) := by rw [hW]; exact heap_alloc_new w _
  have hWl : Below w.heap.size w W := by rw [hW]; exact later_alloc w _
  have hap := bstr_append
  have hu0 := u64_in qc (by omega)
  have hu1 := u64_in qs (by omega)
  have hu2 := u64_in qk (by omega)
  have hu3 := u64_in qto (by omega)
  have hz0 := fun k0 k1 => sz_fit (numB k0 qc) (numB k1 qs) (by (try simp only [List.length_append]); have := numB_len k0 qc; have := numB_len k1 qs; omega)
  have hz1 := fun k0 k1 k2 => sz_fit (numB k0 qc ++ numB k1 qs) (numB k2 qk) (by (try simp only [List.length_append]); have := numB_len k0 qc; have := numB_len k1 qs; have := numB_len k2 qk; omega)
  have hz2 := fun k0 k1 k2 k3 => sz_fit (numB k0 qc ++ (numB k1 qs ++ numB k2 qk)) (numB k3 qkey) (by (try simp only [List.length_append]); have := numB_len k0 qc; have := numB_len k1 qs; have := numB_len k2 qk; have := numB_len k3 qkey; omega)
  have hz3 := fun k0 k1 k2 k3 k4 => sz_fit (numB k0 qc ++ (numB k1 qs ++ (numB k2 qk ++ numB k3 qkey))) (numB k4 qv) (by (try simp only [List.length_append]); have := numB_len k0 qc; have := numB_len k1 qs; have := numB_len k2 qk; have := numB_len k3 qkey; have := numB_len k4 qv; omega)
  have MK : Hid (∀ w', Below W.heap.size W w' → (Below W.heap.size W w' ∧ w'.cell? ⟨w.heap.size, 0, none⟩ = some (.int .u8 qc) ∧ w'.cell? ⟨w.heap.size, 1, none⟩ = some (.int .u32 qs) ∧ w'.cell? ⟨w.heap.size, 2, none⟩ = some (.int .u8 qk) ∧ w'.cell? ⟨w.heap.size, 3, none⟩ = some (.int .u64 qkey) ∧ w'.cell? ⟨w.heap.size, 4, none⟩ = some (.int .u64 qv) ∧ w'.cell? ⟨w.heap.size, 5, none⟩ = some (.int .u64 qhi) ∧ w'.cell? ⟨w.heap.size, 6, none⟩ = some (.int .u8 qto))) := fun w' hb => ⟨hb, blk hb hWb 0, blk hb hWb 1, blk hb hWb 2, blk hb hWb 3, blk hb hWb 4, blk hb hWb 5, blk hb hWb 6⟩
  go_enter Try.func38, Try.ntmps38
  go_wp2_with fail
  rw [← hW]
  clear hW
  go_region_held3 (fun w' => Below W.heap.size W w' ∧ w'.cell? ⟨w.heap.size, 0, none⟩ = some (.int .u8 qc) ∧ w'.cell? ⟨w.heap.size, 1, none⟩ = some (.int .u32 qs) ∧ w'.cell? ⟨w.heap.size, 2, none⟩ = some (.int .u8 qk) ∧ w'.cell? ⟨w.heap.size, 3, none⟩ = some (.int .u64 qkey) ∧ w'.cell? ⟨w.heap.size, 4, none⟩ = some (.int .u64 qv) ∧ w'.cell? ⟨w.heap.size, 5, none⟩ = some (.int .u64 qhi) ∧ w'.cell? ⟨w.heap.size, 6, none⟩ = some (.int .u8 qto)) (first | exact MK.out _ (Below.refl _ _).drew | exact MK.out _ (held_next (by assumption) (by assumption)) | exact MK.out _ (held_drew (by assumption))) (first | (go_at_call 37; refine (number_c _ _ _ (by omega)).mono ?_; rintro e w1 ⟨rfl, hbel1⟩))
  go_wp2_with (first | (go_at_call 37; go_must (refine (number_c _ _ _ (by omega)).mono ?_; rintro e w1 ⟨rfl, hbel1⟩; have hS1 := MK.out _ (held_next (by assumption) hbel1))))
  go_ret
  exact ⟨ret_str (bstr_eq (by simp [Req.bytes, Req.tail, numB, show qk = 2 by simpa using hk2])), held_done hWl (by assumption)⟩

set_option maxHeartbeats 1000000 in
set_option maxRecDepth 100000 in
theorem ref_request_4 (qc qs qk qkey qv qhi qto : Int) (w : World) (hwf : (Req.mk qc qs qk qkey qv qhi qto).wf) (hk2 : (qk == 2) = false) (hk4 : (qk == 4) = true) :
    Calls Try.prog 38 #[.agg (List.toArray (rQ qc qs qk qkey qv qhi qto))] w fun e w' => e = .returned (.string (bstr (Req.mk qc qs qk qkey qv qhi qto).bytes)) ∧ Below w.heap.size w w' := by
  obtain ⟨hc1, hs1, hk1, hkey1, hv1, hhi1, hto1⟩ := hwf
  simp only [U8, U32, U64] at hc1 hs1 hk1 hkey1 hv1 hhi1 hto1
  obtain ⟨W, hW⟩ : ∃ W, W = w.alloc (.cells (List.toArray (rQ qc qs qk qkey qv qhi qto)) 25) := ⟨_, rfl⟩
  have hWb : W.heap[w.heap.size]? = some (.cells (List.toArray (rQ qc qs qk qkey qv qhi qto)) 25) := by rw [hW]; exact heap_alloc_new w _
  have hWl : Below w.heap.size w W := by rw [hW]; exact later_alloc w _
  have hap := bstr_append
  have hu0 := u64_in qc (by omega)
  have hu1 := u64_in qs (by omega)
  have hu2 := u64_in qk (by omega)
  have hu3 := u64_in qto (by omega)
  have hz0 := fun k0 k1 => sz_fit (numB k0 qc) (numB k1 qs) (by (try simp only [List.length_append]); have := numB_len k0 qc; have := numB_len k1 qs; omega)
  have hz1 := fun k0 k1 k2 => sz_fit (numB k0 qc ++ numB k1 qs) (numB k2 qk) (by (try simp only [List.length_append]); have := numB_len k0 qc; have := numB_len k1 qs; have := numB_len k2 qk; omega)
  have hz2 := fun k0 k1 k2 k3 => sz_fit (numB k0 qc ++ (numB k1 qs ++ numB k2 qk)) (numB k3 qkey) (by (try simp only [List.length_append]); have := numB_len k0 qc; have := numB_len k1 qs; have := numB_len k2 qk; have := numB_len k3 qkey; omega)
  have hz3 := fun k0 k1 k2 k3 k4 => sz_fit (numB k0 qc ++ (numB k1 qs ++ (numB k2 qk ++ numB k3 qkey))) (numB k4 qhi) (by (try simp only [List.length_append]); have := numB_len k0 qc; have := numB_len k1 qs; have := numB_len k2 qk; have := numB_len k3 qkey; have := numB_len k4 qhi; omega)
  have hz4 := fun k0 k1 k2 k3 k4 k5 => sz_fit (numB k0 qc ++ (numB k1 qs ++ (numB k2 qk ++ (numB k3 qkey ++ numB k4 qhi)))) (numB k5 qto) (by (try simp only [List.length_append]); have := numB_len k0 qc; have := numB_len k1 qs; have := numB_len k2 qk; have := numB_len k3 qkey; have := numB_len k4 qhi; have := numB_len k5 qto; omega)
  have MK : Hid (∀ w', Below W.heap.size W w' → (Below W.heap.size W w' ∧ w'.cell? ⟨w.heap.size, 0, none⟩ = some (.int .u8 qc) ∧ w'.cell? ⟨w.heap.size, 1, none⟩ = some (.int .u32 qs) ∧ w'.cell? ⟨w.heap.size, 2, none⟩ = some (.int .u8 qk) ∧ w'.cell? ⟨w.heap.size, 3, none⟩ = some (.int .u64 qkey) ∧ w'.cell? ⟨w.heap.size, 4, none⟩ = some (.int .u64 qv) ∧ w'.cell? ⟨w.heap.size, 5, none⟩ = some (.int .u64 qhi) ∧ w'.cell? ⟨w.heap.size, 6, none⟩ = some (.int .u8 qto))) := fun w' hb => ⟨hb, blk hb hWb 0, blk hb hWb 1, blk hb hWb 2, blk hb hWb 3, blk hb hWb 4, blk hb hWb 5, blk hb hWb 6⟩
  go_enter Try.func38, Try.ntmps38
  go_wp2_with fail
  rw [← hW]
  clear hW
  go_region_held3 (fun w' => Below W.heap.size W w' ∧ w'.cell? ⟨w.heap.size, 0, none⟩ = some (.int .u8 qc) ∧ w'.cell? ⟨w.heap.size, 1, none⟩ = some (.int .u32 qs) ∧ w'.cell? ⟨w.heap.size, 2, none⟩ = some (.int .u8 qk) ∧ w'.cell? ⟨w.heap.size, 3, none⟩ = some (.int .u64 qkey) ∧ w'.cell? ⟨w.heap.size, 4, none⟩ = some (.int .u64 qv) ∧ w'.cell? ⟨w.heap.size, 5, none⟩ = some (.int .u64 qhi) ∧ w'.cell? ⟨w.heap.size, 6, none⟩ = some (.int .u8 qto)) (first | exact MK.out _ (Below.refl _ _).drew | exact MK.out _ (held_next (by assumption) (by assumption)) | exact MK.out _ (held_drew (by assumption))) (first | (go_at_call 37; refine (number_c _ _ _ (by omega)).mono ?_; rintro e w1 ⟨rfl, hbel1⟩))
  go_wp2_with (first | (go_at_call 37; go_must (refine (number_c _ _ _ (by omega)).mono ?_; rintro e w1 ⟨rfl, hbel1⟩; have hS1 := MK.out _ (held_next (by assumption) hbel1))))
  go_region_held3 (fun w' => Below W.heap.size W w' ∧ w'.cell? ⟨w.heap.size, 0, none⟩ = some (.int .u8 qc) ∧ w'.cell? ⟨w.heap.size, 1, none⟩ = some (.int .u32 qs) ∧ w'.cell? ⟨w.heap.size, 2, none⟩ = some (.int .u8 qk) ∧ w'.cell? ⟨w.heap.size, 3, none⟩ = some (.int .u64 qkey) ∧ w'.cell? ⟨w.heap.size, 4, none⟩ = some (.int .u64 qv) ∧ w'.cell? ⟨w.heap.size, 5, none⟩ = some (.int .u64 qhi) ∧ w'.cell? ⟨w.heap.size, 6, none⟩ = some (.int .u8 qto)) (first | exact MK.out _ (Below.refl _ _).drew | exact MK.out _ (held_next (by assumption) (by assumption)) | exact MK.out _ (held_drew (by assumption))) (first | (go_at_call 37; refine (number_c _ _ _ (by omega)).mono ?_; rintro e w1 ⟨rfl, hbel1⟩))
  go_wp2
  go_ret
  exact ⟨ret_str (bstr_eq (by simp [Req.bytes, Req.tail, numB, show qk = 4 by simpa using hk4])), held_done hWl (by assumption)⟩

set_option maxHeartbeats 1000000 in
set_option maxRecDepth 100000 in
theorem ref_request_e (qc qs qk qkey qv qhi qto : Int) (w : World) (hwf : (Req.mk qc qs qk qkey qv qhi qto).wf) (hk2 : (qk == 2) = false) (hk4 : (qk == 4) = false) :
    Calls Try.prog 38 #[.agg (List.toArray (rQ qc qs qk qkey qv qhi qto))] w fun e w' => e = .returned (.string (bstr (Req.mk qc qs qk qkey qv qhi qto).bytes)) ∧ Below w.heap.size w w' := by
  obtain ⟨hc1, hs1, hk1, hkey1, hv1, hhi1, hto1⟩ := hwf
  simp only [U8, U32, U64] at hc1 hs1 hk1 hkey1 hv1 hhi1 hto1
  obtain ⟨W, hW⟩ : ∃ W, W = w.alloc (.cells (List.toArray (rQ qc qs qk qkey qv qhi qto)) 25) := ⟨_, rfl⟩
  have hWb : W.heap[w.heap.size]? = some (.cells (List.toArray (rQ qc qs qk qkey qv qhi qto)) 25) := by rw [hW]; exact heap_alloc_new w _
  have hWl : Below w.heap.size w W := by rw [hW]; exact later_alloc w _
  have hap := bstr_append
  have hu0 := u64_in qc (by omega)
  have hu1 := u64_in qs (by omega)
  have hu2 := u64_in qk (by omega)
  have hu3 := u64_in qto (by omega)
  have hz0 := fun k0 k1 => sz_fit (numB k0 qc) (numB k1 qs) (by (try simp only [List.length_append]); have := numB_len k0 qc; have := numB_len k1 qs; omega)
  have hz1 := fun k0 k1 k2 => sz_fit (numB k0 qc ++ numB k1 qs) (numB k2 qk) (by (try simp only [List.length_append]); have := numB_len k0 qc; have := numB_len k1 qs; have := numB_len k2 qk; omega)
  have hz2 := fun k0 k1 k2 k3 => sz_fit (numB k0 qc ++ (numB k1 qs ++ numB k2 qk)) (numB k3 qkey) (by (try simp only [List.length_append]); have := numB_len k0 qc; have := numB_len k1 qs; have := numB_len k2 qk; have := numB_len k3 qkey; omega)
  have MK : Hid (∀ w', Below W.heap.size W w' → (Below W.heap.size W w' ∧ w'.cell? ⟨w.heap.size, 0, none⟩ = some (.int .u8 qc) ∧ w'.cell? ⟨w.heap.size, 1, none⟩ = some (.int .u32 qs) ∧ w'.cell? ⟨w.heap.size, 2, none⟩ = some (.int .u8 qk) ∧ w'.cell? ⟨w.heap.size, 3, none⟩ = some (.int .u64 qkey) ∧ w'.cell? ⟨w.heap.size, 4, none⟩ = some (.int .u64 qv) ∧ w'.cell? ⟨w.heap.size, 5, none⟩ = some (.int .u64 qhi) ∧ w'.cell? ⟨w.heap.size, 6, none⟩ = some (.int .u8 qto))) := fun w' hb => ⟨hb, blk hb hWb 0, blk hb hWb 1, blk hb hWb 2, blk hb hWb 3, blk hb hWb 4, blk hb hWb 5, blk hb hWb 6⟩
  go_enter Try.func38, Try.ntmps38
  go_wp2_with fail
  rw [← hW]
  clear hW
  go_region_held3 (fun w' => Below W.heap.size W w' ∧ w'.cell? ⟨w.heap.size, 0, none⟩ = some (.int .u8 qc) ∧ w'.cell? ⟨w.heap.size, 1, none⟩ = some (.int .u32 qs) ∧ w'.cell? ⟨w.heap.size, 2, none⟩ = some (.int .u8 qk) ∧ w'.cell? ⟨w.heap.size, 3, none⟩ = some (.int .u64 qkey) ∧ w'.cell? ⟨w.heap.size, 4, none⟩ = some (.int .u64 qv) ∧ w'.cell? ⟨w.heap.size, 5, none⟩ = some (.int .u64 qhi) ∧ w'.cell? ⟨w.heap.size, 6, none⟩ = some (.int .u8 qto)) (first | exact MK.out _ (Below.refl _ _).drew | exact MK.out _ (held_next (by assumption) (by assumption)) | exact MK.out _ (held_drew (by assumption))) (first | (go_at_call 37; refine (number_c _ _ _ (by omega)).mono ?_; rintro e w1 ⟨rfl, hbel1⟩))
  go_wp2_with (first | (go_at_call 37; go_must (refine (number_c _ _ _ (by omega)).mono ?_; rintro e w1 ⟨rfl, hbel1⟩; have hS1 := MK.out _ (held_next (by assumption) hbel1))))
  go_ret
  exact ⟨ret_str (bstr_eq (by simp [Req.bytes, Req.tail, numB, show ¬ qk = 2 by simpa using hk2, show ¬ qk = 4 by simpa using hk4])), held_done hWl (by assumption)⟩

theorem ref_requestBytes (qc qs qk qkey qv qhi qto : Int) (w : World) (hwf : (Req.mk qc qs qk qkey qv qhi qto).wf) :
    Calls Try.prog 38 #[.agg (List.toArray (rQ qc qs qk qkey qv qhi qto))] w fun e w' => e = .returned (.string (bstr (Req.mk qc qs qk qkey qv qhi qto).bytes)) ∧ Below w.heap.size w w' := by
  by_cases h2 : qk = 2
  · exact ref_request_2 _ _ _ _ _ _ _ _ hwf (by simpa using h2)
  by_cases h4 : qk = 4
  · exact ref_request_4 _ _ _ _ _ _ _ _ hwf (by simpa using h2) (by simpa using h4)
  exact ref_request_e _ _ _ _ _ _ _ _ hwf (by simpa using h2) (by simpa using h4)

set_option maxHeartbeats 1000000 in
set_option maxRecDepth 100000 in
theorem ref_reply_3 (pc ps pkey pk : Int) (pf : Bool) (pv pg : Int) (w : World) (hwf : (Rep.mk pc ps pkey pk pf pv pg).wf) (hk1' : (pk == 1) = false) (hk3 : (pk == 3) = true) :
    Calls Try.prog 39 #[.agg (List.toArray (rP pc ps pkey pk pf pv pg))] w fun e w' => e = .returned (.string (bstr (Rep.mk pc ps pkey pk pf pv pg).bytes)) ∧ Below w.heap.size w w' := by
  obtain ⟨hc1, hs1, hkey1, hk1, hv1, hg1⟩ := hwf
  simp only [U8, U32, U64] at hc1 hs1 hk1 hkey1 hv1 hg1
  obtain ⟨W, hW⟩ : ∃ W, W = w.alloc (.cells (List.toArray (rP pc ps pkey pk pf pv pg)) 27) := ⟨_, rfl⟩
  have hWb : W.heap[w.heap.size]? = some (.cells (List.toArray (rP pc ps pkey pk pf pv pg)) 27) := by rw [hW]; exact heap_alloc_new w _
  have hWl : Below w.heap.size w W := by rw [hW]; exact later_alloc w _
  have hap := bstr_append
  have hu0 := u64_in pc (by omega)
  have hu1 := u64_in ps (by omega)
  have hu2 := u64_in pk (by omega)
  have hu3 := u64_in pg (by omega)
  have hz0 := fun k0 k1 => sz_fit (numB k0 pc) (numB k1 ps) (by (try simp only [List.length_append]); have := numB_len k0 pc; have := numB_len k1 ps; omega)
  have hz1 := fun k0 k1 k2 => sz_fit (numB k0 pc ++ numB k1 ps) (numB k2 pkey) (by (try simp only [List.length_append]); have := numB_len k0 pc; have := numB_len k1 ps; have := numB_len k2 pkey; omega)
  have hz2 := fun k0 k1 k2 k3 => sz_fit (numB k0 pc ++ (numB k1 ps ++ numB k2 pkey)) (numB k3 pk) (by (try simp only [List.length_append]); have := numB_len k0 pc; have := numB_len k1 ps; have := numB_len k2 pkey; have := numB_len k3 pk; omega)
  have hz3 := fun k0 k1 k2 k3 k4 => sz_fit (numB k0 pc ++ (numB k1 ps ++ (numB k2 pkey ++ numB k3 pk))) (numB k4 pg) (by (try simp only [List.length_append]); have := numB_len k0 pc; have := numB_len k1 ps; have := numB_len k2 pkey; have := numB_len k3 pk; have := numB_len k4 pg; omega)
  have MK : Hid (∀ w', Below W.heap.size W w' → (Below W.heap.size W w' ∧ w'.cell? ⟨w.heap.size, 0, none⟩ = some (.int .u8 pc) ∧ w'.cell? ⟨w.heap.size, 1, none⟩ = some (.int .u32 ps) ∧ w'.cell? ⟨w.heap.size, 2, none⟩ = some (.int .u64 pkey) ∧ w'.cell? ⟨w.heap.size, 3, none⟩ = some (.int .u8 pk) ∧ w'.cell? ⟨w.heap.size, 4, none⟩ = some (.bool pf) ∧ w'.cell? ⟨w.heap.size, 5, none⟩ = some (.int .u64 pv) ∧ w'.cell? ⟨w.heap.size, 6, none⟩ = some (.int .u8 pg))) := fun w' hb => ⟨hb, blk hb hWb 0, blk hb hWb 1, blk hb hWb 2, blk hb hWb 3, blk hb hWb 4, blk hb hWb 5, blk hb hWb 6⟩
  go_enter Try.func39, Try.ntmps39
  go_wp2_with fail
  rw [← hW]
  clear hW
  go_region_held3 (fun w' => Below W.heap.size W w' ∧ w'.cell? ⟨w.heap.size, 0, none⟩ = some (.int .u8 pc) ∧ w'.cell? ⟨w.heap.size, 1, none⟩ = some (.int .u32 ps) ∧ w'.cell? ⟨w.heap.size, 2, none⟩ = some (.int .u64 pkey) ∧ w'.cell? ⟨w.heap.size, 3, none⟩ = some (.int .u8 pk) ∧ w'.cell? ⟨w.heap.size, 4, none⟩ = some (.bool pf) ∧ w'.cell? ⟨w.heap.size, 5, none⟩ = some (.int .u64 pv) ∧ w'.cell? ⟨w.heap.size, 6, none⟩ = some (.int .u8 pg)) (first | exact MK.out _ (Below.refl _ _).drew | exact MK.out _ (held_next (by assumption) (by assumption)) | exact MK.out _ (held_drew (by assumption))) (first | (go_at_call 37; refine (number_c _ _ _ (by omega)).mono ?_; rintro e w1 ⟨rfl, hbel1⟩))
  go_wp2_with (first | (go_at_call 37; go_must (refine (number_c _ _ _ (by omega)).mono ?_; rintro e w1 ⟨rfl, hbel1⟩; have hS1 := MK.out _ (held_next (by assumption) hbel1))))
  go_ret
  exact ⟨ret_str (bstr_eq (by simp [Rep.bytes, Rep.tail, numB, show pk = 3 by simpa using hk3])), held_done hWl (by assumption)⟩

set_option maxHeartbeats 1000000 in
set_option maxRecDepth 100000 in
theorem ref_reply_e (pc ps pkey pk : Int) (pf : Bool) (pv pg : Int) (w : World) (hwf : (Rep.mk pc ps pkey pk pf pv pg).wf) (hk1' : (pk == 1) = false) (hk3 : (pk == 3) = false) :
    Calls Try.prog 39 #[.agg (List.toArray (rP pc ps pkey pk pf pv pg))] w fun e w' => e = .returned (.string (bstr (Rep.mk pc ps pkey pk pf pv pg).bytes)) ∧ Below w.heap.size w w' := by
  obtain ⟨hc1, hs1, hkey1, hk1, hv1, hg1⟩ := hwf
  simp only [U8, U32, U64] at hc1 hs1 hk1 hkey1 hv1 hg1
  obtain ⟨W, hW⟩ : ∃ W, W = w.alloc (.cells (List.toArray (rP pc ps pkey pk pf pv pg)) 27) := ⟨_, rfl⟩
  have hWb : W.heap[w.heap.size]? = some (.cells (List.toArray (rP pc ps pkey pk pf pv pg)) 27) := by rw [hW]; exact heap_alloc_new w _
  have hWl : Below w.heap.size w W := by rw [hW]; exact later_alloc w _
  have hap := bstr_append
  have hu0 := u64_in pc (by omega)
  have hu1 := u64_in ps (by omega)
  have hu2 := u64_in pk (by omega)
  have hu3 := u64_in pg (by omega)
  have hz0 := fun k0 k1 => sz_fit (numB k0 pc) (numB k1 ps) (by (try simp only [List.length_append]); have := numB_len k0 pc; have := numB_len k1 ps; omega)
  have hz1 := fun k0 k1 k2 => sz_fit (numB k0 pc ++ numB k1 ps) (numB k2 pkey) (by (try simp only [List.length_append]); have := numB_len k0 pc; have := numB_len k1 ps; have := numB_len k2 pkey; omega)
  have hz2 := fun k0 k1 k2 k3 => sz_fit (numB k0 pc ++ (numB k1 ps ++ numB k2 pkey)) (numB k3 pk) (by (try simp only [List.length_append]); have := numB_len k0 pc; have := numB_len k1 ps; have := numB_len k2 pkey; have := numB_len k3 pk; omega)
  have MK : Hid (∀ w', Below W.heap.size W w' → (Below W.heap.size W w' ∧ w'.cell? ⟨w.heap.size, 0, none⟩ = some (.int .u8 pc) ∧ w'.cell? ⟨w.heap.size, 1, none⟩ = some (.int .u32 ps) ∧ w'.cell? ⟨w.heap.size, 2, none⟩ = some (.int .u64 pkey) ∧ w'.cell? ⟨w.heap.size, 3, none⟩ = some (.int .u8 pk) ∧ w'.cell? ⟨w.heap.size, 4, none⟩ = some (.bool pf) ∧ w'.cell? ⟨w.heap.size, 5, none⟩ = some (.int .u64 pv) ∧ w'.cell? ⟨w.heap.size, 6, none⟩ = some (.int .u8 pg))) := fun w' hb => ⟨hb, blk hb hWb 0, blk hb hWb 1, blk hb hWb 2, blk hb hWb 3, blk hb hWb 4, blk hb hWb 5, blk hb hWb 6⟩
  go_enter Try.func39, Try.ntmps39
  go_wp2_with fail
  rw [← hW]
  clear hW
  go_region_held3 (fun w' => Below W.heap.size W w' ∧ w'.cell? ⟨w.heap.size, 0, none⟩ = some (.int .u8 pc) ∧ w'.cell? ⟨w.heap.size, 1, none⟩ = some (.int .u32 ps) ∧ w'.cell? ⟨w.heap.size, 2, none⟩ = some (.int .u64 pkey) ∧ w'.cell? ⟨w.heap.size, 3, none⟩ = some (.int .u8 pk) ∧ w'.cell? ⟨w.heap.size, 4, none⟩ = some (.bool pf) ∧ w'.cell? ⟨w.heap.size, 5, none⟩ = some (.int .u64 pv) ∧ w'.cell? ⟨w.heap.size, 6, none⟩ = some (.int .u8 pg)) (first | exact MK.out _ (Below.refl _ _).drew | exact MK.out _ (held_next (by assumption) (by assumption)) | exact MK.out _ (held_drew (by assumption))) (first | (go_at_call 37; refine (number_c _ _ _ (by omega)).mono ?_; rintro e w1 ⟨rfl, hbel1⟩))
  go_wp2_with (first | (go_at_call 37; go_must (refine (number_c _ _ _ (by omega)).mono ?_; rintro e w1 ⟨rfl, hbel1⟩; have hS1 := MK.out _ (held_next (by assumption) hbel1))))
  go_ret
  exact ⟨ret_str (bstr_eq (by simp [Rep.bytes, Rep.tail, numB, show ¬ pk = 1 by simpa using hk1', show ¬ pk = 3 by simpa using hk3])), held_done hWl (by assumption)⟩

set_option maxHeartbeats 1000000 in
set_option maxRecDepth 100000 in
theorem ref_reply_1t (pc ps pkey pk : Int) (pf : Bool) (pv pg : Int) (w : World) (hwf : (Rep.mk pc ps pkey pk pf pv pg).wf) (hk1' : (pk == 1) = true) (hf : pf = true) :
    Calls Try.prog 39 #[.agg (List.toArray (rP pc ps pkey pk pf pv pg))] w fun e w' => e = .returned (.string (bstr (Rep.mk pc ps pkey pk pf pv pg).bytes)) ∧ Below w.heap.size w w' := by
  obtain ⟨hc1, hs1, hkey1, hk1, hv1, hg1⟩ := hwf
  simp only [U8, U32, U64] at hc1 hs1 hk1 hkey1 hv1 hg1
  subst hf
  obtain ⟨W, hW⟩ : ∃ W, W = w.alloc (.cells (List.toArray (rP pc ps pkey pk true pv pg)) 27) := ⟨_, rfl⟩
  have hWb : W.heap[w.heap.size]? = some (.cells (List.toArray (rP pc ps pkey pk true pv pg)) 27) := by rw [hW]; exact heap_alloc_new w _
  have hWl : Below w.heap.size w W := by rw [hW]; exact later_alloc w _
  have hap := bstr_append
  have hu0 := u64_in pc (by omega)
  have hu1 := u64_in ps (by omega)
  have hu2 := u64_in pk (by omega)
  have hu3 := u64_in pg (by omega)
  have hz0 := fun k0 k1 => sz_fit (numB k0 pc) (numB k1 ps) (by (try simp only [List.length_append]); have := numB_len k0 pc; have := numB_len k1 ps; omega)
  have hz1 := fun k0 k1 k2 => sz_fit (numB k0 pc ++ numB k1 ps) (numB k2 pkey) (by (try simp only [List.length_append]); have := numB_len k0 pc; have := numB_len k1 ps; have := numB_len k2 pkey; omega)
  have hz2 := fun k0 k1 k2 k3 => sz_fit (numB k0 pc ++ (numB k1 ps ++ numB k2 pkey)) (numB k3 pk) (by (try simp only [List.length_append]); have := numB_len k0 pc; have := numB_len k1 ps; have := numB_len k2 pkey; have := numB_len k3 pk; omega)
  have MK : Hid (∀ w', Below W.heap.size W w' → (Below W.heap.size W w' ∧ w'.cell? ⟨w.heap.size, 0, none⟩ = some (.int .u8 pc) ∧ w'.cell? ⟨w.heap.size, 1, none⟩ = some (.int .u32 ps) ∧ w'.cell? ⟨w.heap.size, 2, none⟩ = some (.int .u64 pkey) ∧ w'.cell? ⟨w.heap.size, 3, none⟩ = some (.int .u8 pk) ∧ w'.cell? ⟨w.heap.size, 4, none⟩ = some (.bool true) ∧ w'.cell? ⟨w.heap.size, 5, none⟩ = some (.int .u64 pv) ∧ w'.cell? ⟨w.heap.size, 6, none⟩ = some (.int .u8 pg))) := fun w' hb => ⟨hb, blk hb hWb 0, blk hb hWb 1, blk hb hWb 2, blk hb hWb 3, blk hb hWb 4, blk hb hWb 5, blk hb hWb 6⟩
  have hy0 := fun k0 k1 k2 k3 => sz_fit (numB k0 pc ++ (numB k1 ps ++ (numB k2 pkey ++ numB k3 pk))) [1] (by simp only [List.length_append, List.length_cons, List.length_nil]; have := numB_len k0 pc; have := numB_len k1 ps; have := numB_len k2 pkey; have := numB_len k3 pk; omega)
  have hlit1 : ({ data := #[1] } : ByteArray) = bstr [1] := rfl
  have hlit0 : ({ data := #[0] } : ByteArray) = bstr [0] := rfl
  have hy1 := fun k0 k1 k2 k3 k4 => sz_fit (numB k0 pc ++ (numB k1 ps ++ (numB k2 pkey ++ (numB k3 pk ++ [1])))) (numB k4 pv) (by simp only [List.length_append, List.length_cons, List.length_nil]; have := numB_len k0 pc; have := numB_len k1 ps; have := numB_len k2 pkey; have := numB_len k3 pk; have := numB_len k4 pv; omega)
  go_enter Try.func39, Try.ntmps39
  go_wp2_with fail
  rw [← hW]
  clear hW
  go_region_held3 (fun w' => Below W.heap.size W w' ∧ w'.cell? ⟨w.heap.size, 0, none⟩ = some (.int .u8 pc) ∧ w'.cell? ⟨w.heap.size, 1, none⟩ = some (.int .u32 ps) ∧ w'.cell? ⟨w.heap.size, 2, none⟩ = some (.int .u64 pkey) ∧ w'.cell? ⟨w.heap.size, 3, none⟩ = some (.int .u8 pk) ∧ w'.cell? ⟨w.heap.size, 4, none⟩ = some (.bool true) ∧ w'.cell? ⟨w.heap.size, 5, none⟩ = some (.int .u64 pv) ∧ w'.cell? ⟨w.heap.size, 6, none⟩ = some (.int .u8 pg)) (first | exact MK.out _ (Below.refl _ _).drew | exact MK.out _ (held_next (by assumption) (by assumption)) | exact MK.out _ (held_drew (by assumption))) (first | (go_at_call 37; refine (number_c _ _ _ (by omega)).mono ?_; rintro e w1 ⟨rfl, hbel1⟩))
  go_wp2_with (first | (go_at_call 37; go_must (refine (number_c _ _ _ (by omega)).mono ?_; rintro e w1 ⟨rfl, hbel1⟩; have hS1 := MK.out _ (held_next (by assumption) hbel1))))
  go_ret
  exact ⟨ret_str (bstr_eq (by simp [Rep.bytes, Rep.tail, numB, show pk = 1 by simpa using hk1'])), held_done hWl (by assumption)⟩

set_option maxHeartbeats 1000000 in
set_option maxRecDepth 100000 in
theorem ref_reply_1f (pc ps pkey pk : Int) (pf : Bool) (pv pg : Int) (w : World) (hwf : (Rep.mk pc ps pkey pk pf pv pg).wf) (hk1' : (pk == 1) = true) (hf : pf = false) :
    Calls Try.prog 39 #[.agg (List.toArray (rP pc ps pkey pk pf pv pg))] w fun e w' => e = .returned (.string (bstr (Rep.mk pc ps pkey pk pf pv pg).bytes)) ∧ Below w.heap.size w w' := by
  obtain ⟨hc1, hs1, hkey1, hk1, hv1, hg1⟩ := hwf
  simp only [U8, U32, U64] at hc1 hs1 hk1 hkey1 hv1 hg1
  subst hf
  obtain ⟨W, hW⟩ : ∃ W, W = w.alloc (.cells (List.toArray (rP pc ps pkey pk false pv pg)) 27) := ⟨_, rfl⟩
  have hWb : W.heap[w.heap.size]? = some (.cells (List.toArray (rP pc ps pkey pk false pv pg)) 27) := by rw [hW]; exact heap_alloc_new w _
  have hWl : Below w.heap.size w W := by rw [hW]; exact later_alloc w _
  have hap := bstr_append
  have hu0 := u64_in pc (by omega)
  have hu1 := u64_in ps (by omega)
  have hu2 := u64_in pk (by omega)
  have hu3 := u64_in pg (by omega)
  have hz0 := fun k0 k1 => sz_fit (numB k0 pc) (numB k1 ps) (by (try simp only [List.length_append]); have := numB_len k0 pc; have := numB_len k1 ps; omega)
  have hz1 := fun k0 k1 k2 => sz_fit (numB k0 pc ++ numB k1 ps) (numB k2 pkey) (by (try simp only [List.length_append]); have := numB_len k0 pc; have := numB_len k1 ps; have := numB_len k2 pkey; omega)
  have hz2 := fun k0 k1 k2 k3 => sz_fit (numB k0 pc ++ (numB k1 ps ++ numB k2 pkey)) (numB k3 pk) (by (try simp only [List.length_append]); have := numB_len k0 pc; have := numB_len k1 ps; have := numB_len k2 pkey; have := numB_len k3 pk; omega)
  have MK : Hid (∀ w', Below W.heap.size W w' → (Below W.heap.size W w' ∧ w'.cell? ⟨w.heap.size, 0, none⟩ = some (.int .u8 pc) ∧ w'.cell? ⟨w.heap.size, 1, none⟩ = some (.int .u32 ps) ∧ w'.cell? ⟨w.heap.size, 2, none⟩ = some (.int .u64 pkey) ∧ w'.cell? ⟨w.heap.size, 3, none⟩ = some (.int .u8 pk) ∧ w'.cell? ⟨w.heap.size, 4, none⟩ = some (.bool false) ∧ w'.cell? ⟨w.heap.size, 5, none⟩ = some (.int .u64 pv) ∧ w'.cell? ⟨w.heap.size, 6, none⟩ = some (.int .u8 pg))) := fun w' hb => ⟨hb, blk hb hWb 0, blk hb hWb 1, blk hb hWb 2, blk hb hWb 3, blk hb hWb 4, blk hb hWb 5, blk hb hWb 6⟩
  have hy0 := fun k0 k1 k2 k3 => sz_fit (numB k0 pc ++ (numB k1 ps ++ (numB k2 pkey ++ numB k3 pk))) [0] (by simp only [List.length_append, List.length_cons, List.length_nil]; have := numB_len k0 pc; have := numB_len k1 ps; have := numB_len k2 pkey; have := numB_len k3 pk; omega)
  have hlit1 : ({ data := #[1] } : ByteArray) = bstr [1] := rfl
  have hlit0 : ({ data := #[0] } : ByteArray) = bstr [0] := rfl
  go_enter Try.func39, Try.ntmps39
  go_wp2_with fail
  rw [← hW]
  clear hW
  go_region_held3 (fun w' => Below W.heap.size W w' ∧ w'.cell? ⟨w.heap.size, 0, none⟩ = some (.int .u8 pc) ∧ w'.cell? ⟨w.heap.size, 1, none⟩ = some (.int .u32 ps) ∧ w'.cell? ⟨w.heap.size, 2, none⟩ = some (.int .u64 pkey) ∧ w'.cell? ⟨w.heap.size, 3, none⟩ = some (.int .u8 pk) ∧ w'.cell? ⟨w.heap.size, 4, none⟩ = some (.bool false) ∧ w'.cell? ⟨w.heap.size, 5, none⟩ = some (.int .u64 pv) ∧ w'.cell? ⟨w.heap.size, 6, none⟩ = some (.int .u8 pg)) (first | exact MK.out _ (Below.refl _ _).drew | exact MK.out _ (held_next (by assumption) (by assumption)) | exact MK.out _ (held_drew (by assumption))) (first | (go_at_call 37; refine (number_c _ _ _ (by omega)).mono ?_; rintro e w1 ⟨rfl, hbel1⟩))
  go_wp2_with (first | (go_at_call 37; go_must (refine (number_c _ _ _ (by omega)).mono ?_; rintro e w1 ⟨rfl, hbel1⟩; have hS1 := MK.out _ (held_next (by assumption) hbel1))))
  go_ret
  exact ⟨ret_str (bstr_eq (by simp [Rep.bytes, Rep.tail, numB, show pk = 1 by simpa using hk1'])), held_done hWl (by assumption)⟩

end Go.Proofs.Ytignemioillaiaa

namespace Go.Proofs.Ytignemioillaiaa
open Go.RowKit

theorem str_eq {a b : List Int} (h : a = b) : Value.string (bstr a) = Value.string (bstr b) := by rw [h]

theorem ref_replyBytes (pc ps pkey pk : Int) (pf : Bool) (pv pg : Int) (w : World) (hwf : (Rep.mk pc ps pkey pk pf pv pg).wf) :
    Calls Try.prog 39 #[.agg (List.toArray (rP pc ps pkey pk pf pv pg))] w fun e w' => e = .returned (.string (bstr (Rep.mk pc ps pkey pk pf pv pg).bytes)) ∧ Below w.heap.size w w' := by
  by_cases h1 : pk = 1
  · by_cases hf : pf = true
    · exact ref_reply_1t _ _ _ _ _ _ _ _ hwf (by simpa using h1) hf
    · exact ref_reply_1f _ _ _ _ _ _ _ _ hwf (by simpa using h1) (by simpa using hf)
  by_cases h3 : pk = 3
  · exact ref_reply_3 _ _ _ _ _ _ _ _ hwf (by simpa using h1) (by simpa using h3)
  exact ref_reply_e _ _ _ _ _ _ _ _ hwf (by simpa using h1) (by simpa using h3)

set_option maxHeartbeats 2000000 in
set_option maxRecDepth 100000 in
theorem ref_rangeBytes (rsrc rdst rseq rlo rhi : Int) (rra : Option Addr) (rrn rrc : Nat) (rda : Option Addr) (rdn rdc : Nat) (rrows : List Row) (rdups : List Rep) (w : World) (h1 : SlIn w.heap.size w ⟨rra, rrn, rrc⟩ 2 (rrows.map Row.cells)) (h2 : SlIn w.heap.size w ⟨rda, rdn, rdc⟩ 7 (rdups.map Rep.cells)) (hr : rrows.length ≤ 255) (hd : rdups.length ≤ 255) (hwf : (Rng.mk rsrc rdst rseq rlo rhi ⟨rra, rrn, rrc⟩ ⟨rda, rdn, rdc⟩ rrows rdups).wf) :
    Calls Try.prog 42 #[.agg (List.toArray (rR rsrc rdst rseq rlo rhi rra rrn rrc rda rdn rdc))] w fun e w' => e = .returned (.string (bstr (Rng.mk rsrc rdst rseq rlo rhi ⟨rra, rrn, rrc⟩ ⟨rda, rdn, rdc⟩ rrows rdups).bytes)) ∧ Below w.heap.size w w' := by
  obtain ⟨hs1, hs2, hs3, hs4, hs5, hs6, hs7⟩ := hwf
  simp only [U8, U32, U64] at hs1 hs2 hs3 hs4 hs5
  have HWR : Hid (∀ (i : Nat) (x : Row), rrows[i]? = some x → x.wf) := hs6
  have HWD : Hid (∀ (i : Nat) (x : Rep), rdups[i]? = some x → x.wf) := hs7
  have hrn : rrn = rrows.length := by simpa using h1.len
  have hdn : rdn = rdups.length := by simpa using h2.len
  have hr255 : rrn ≤ 255 := by omega
  have hd255 : rdn ≤ 255 := by omega
  have HRN : Hid (rrn = rrows.length) := hrn
  have HDN : Hid (rdn = rdups.length) := hdn
  clear hs6 hs7 hrn hdn hr hd
  obtain ⟨W, hW⟩ : ∃ W, W = w.alloc (.cells (List.toArray (rR rsrc rdst rseq rlo rhi rra rrn rrc rda rdn rdc)) 33) := ⟨_, rfl⟩
  have hWb : W.heap[w.heap.size]? = some (.cells (List.toArray (rR rsrc rdst rseq rlo rhi rra rrn rrc rda rdn rdc)) 33) := by rw [hW]; exact heap_alloc_new w _
  have hWl : Below w.heap.size w W := by rw [hW]; exact later_alloc w _
  have hap := bstr_append
  have hu0 := u64_in rsrc (by omega)
  have hu1 := u64_in rdst (by omega)
  have hu2 := u64_in rseq (by omega)
  have hu3 := u64_in (rrn : Int) (by omega)
  have hu4 := u64_in (rdn : Int) (by omega)
  have hz0 := fun k0 k1 => sz_fit (numB k0 rsrc) (numB k1 rdst) (by (try simp only [List.length_append]); have := numB_len k0 rsrc; have := numB_len k1 rdst; omega)
  have hz1 := fun k0 k1 k2 => sz_fit (numB k0 rsrc ++ numB k1 rdst) (numB k2 rseq) (by (try simp only [List.length_append]); have := numB_len k0 rsrc; have := numB_len k1 rdst; have := numB_len k2 rseq; omega)
  have hz2 := fun k0 k1 k2 k3 => sz_fit (numB k0 rsrc ++ (numB k1 rdst ++ numB k2 rseq)) (numB k3 rlo) (by (try simp only [List.length_append]); have := numB_len k0 rsrc; have := numB_len k1 rdst; have := numB_len k2 rseq; have := numB_len k3 rlo; omega)
  have hz3 := fun k0 k1 k2 k3 k4 => sz_fit (numB k0 rsrc ++ (numB k1 rdst ++ (numB k2 rseq ++ numB k3 rlo))) (numB k4 rhi) (by (try simp only [List.length_append]); have := numB_len k0 rsrc; have := numB_len k1 rdst; have := numB_len k2 rseq; have := numB_len k3 rlo; have := numB_len k4 rhi; omega)
  have hz4 := fun k0 k1 k2 k3 k4 k5 => sz_fit (numB k0 rsrc ++ (numB k1 rdst ++ (numB k2 rseq ++ (numB k3 rlo ++ numB k4 rhi)))) (numB k5 (rrn : Int)) (by (try simp only [List.length_append]); have := numB_len k0 rsrc; have := numB_len k1 rdst; have := numB_len k2 rseq; have := numB_len k3 rlo; have := numB_len k4 rhi; have := numB_len k5 (rrn : Int); omega)
  have MK : Hid (∀ w', Below W.heap.size W w' → (Below W.heap.size W w' ∧ w'.cell? ⟨w.heap.size, 0, none⟩ = some (.int .u8 rsrc) ∧ w'.cell? ⟨w.heap.size, 1, none⟩ = some (.int .u8 rdst) ∧ w'.cell? ⟨w.heap.size, 2, none⟩ = some (.int .u32 rseq) ∧ w'.cell? ⟨w.heap.size, 3, none⟩ = some (.int .u64 rlo) ∧ w'.cell? ⟨w.heap.size, 4, none⟩ = some (.int .u64 rhi) ∧ w'.cell? ⟨w.heap.size, 5, none⟩ = some (.slice rra rrn rrc) ∧ w'.cell? ⟨w.heap.size, 6, none⟩ = some (.slice rda rdn rdc))) := fun w' hb => ⟨hb, blk hb hWb 0, blk hb hWb 1, blk hb hWb 2, blk hb hWb 3, blk hb hWb 4, blk hb hWb 5, blk hb hWb 6⟩
  go_enter Try.func42, Try.ntmps42
  go_wp2_with fail
  rw [← hW]
  clear hW
  go_region_held3 (fun w' => Below W.heap.size W w' ∧ w'.cell? ⟨w.heap.size, 0, none⟩ = some (.int .u8 rsrc) ∧ w'.cell? ⟨w.heap.size, 1, none⟩ = some (.int .u8 rdst) ∧ w'.cell? ⟨w.heap.size, 2, none⟩ = some (.int .u32 rseq) ∧ w'.cell? ⟨w.heap.size, 3, none⟩ = some (.int .u64 rlo) ∧ w'.cell? ⟨w.heap.size, 4, none⟩ = some (.int .u64 rhi) ∧ w'.cell? ⟨w.heap.size, 5, none⟩ = some (.slice rra rrn rrc) ∧ w'.cell? ⟨w.heap.size, 6, none⟩ = some (.slice rda rdn rdc)) (first | exact MK.out _ (Below.refl _ _).drew | exact MK.out _ (held_next (by assumption) (by assumption)) | exact MK.out _ (held_drew (by assumption))) (first | (go_at_call 37; refine (number_c _ _ _ (by omega)).mono ?_; rintro e w1 ⟨rfl, hbel1⟩))
  go_wp2_with (first | (go_at_call 37; go_must (refine (number_c _ _ _ (by omega)).mono ?_; rintro e w1 ⟨rfl, hbel1⟩; have hS1 := MK.out _ (held_next (by assumption) hbel1))))
  go_loopw [3, 4] (fun s i wr => ∃ k : Nat, k ≤ rrn ∧ i = .int .i64 k ∧ s = .string (bstr (([rsrc] ++ [rdst] ++ be32 rseq ++ be64 rlo ++ be64 rhi ++ [(rrn : Int)]) ++ ((rrows.take k).map Row.bytes).flatten)) ∧ Below W.heap.size W wr) (fun _ i _ => rrn - (intOf i).toNat)
  case atStart => exact ⟨0, Nat.zero_le _, rfl, by simp [numB], And.left (by assumption)⟩
  case round =>
    obtain ⟨k, hk, rfl, rfl, hnx⟩ := hrel
    have hB := blk hnx hWb
    by_cases hlt : k < rrn
    · obtain ⟨x, hx⟩ : ∃ x, rrows[k]? = some x := ⟨rrows[k]'(by rw [← HRN.out]; exact hlt), by simp⟩
      have hS := (h1.later hWl).later hnx
      obtain ⟨b, off, ha, hbB, hc0, hc1⟩ := hS.at2 hx
      obtain rfl : rra = some ⟨b, off, none⟩ := ha
      have hxw := HWR.out k x hx
      have HX : Hid (rrows[k]? = some x) := hx
      have hln := rows_len (rrows.take k)
      obtain ⟨X, hXe⟩ : ∃ X, X = ([rsrc] ++ [rdst] ++ be32 rseq ++ be64 rlo ++ be64 rhi ++ [(rrn : Int)]) ++ ((rrows.take k).map Row.bytes).flatten := ⟨_, rfl⟩
      have hXl : X.length ≤ 20000 := by
        rw [hXe]; simp only [rowsBytes, List.length_take] at hln
        simp only [List.length_append, List.length_cons, List.length_nil, be32_len, be64_len]; omega
      rw [← hXe]
      have HXE : Hid (X = ([rsrc] ++ [rdst] ++ be32 rseq ++ be64 rlo ++ be64 rhi ++ [(rrn : Int)]) ++ ((rrows.take k).map Row.bytes).flatten) := hXe
      obtain ⟨xkey, xval⟩ := x
      obtain ⟨hw1, hw2⟩ := hxw
      simp only [U64] at hw1 hw2
      dsimp only at hc0 hc1
      have hWz : w.heap.size < wr.heap.size := Nat.lt_of_lt_of_le (Array.getElem?_eq_some_iff.1 hWb).1 hnx.size
      have hz20 := fun k0 => sz_fit X (numB k0 xkey) (by have := numB_len k0 xkey; omega)
      have hz21 := fun k0 k1 => sz_fit (X ++ numB k0 xkey) (numB k1 xval) (by simp only [List.length_append]; have := numB_len k0 xkey; have := numB_len k1 xval; omega)
      have hi0 : (0 : Int) ≤ (k : Int) := by omega
      have hi1 : (k : Int) < (rrn : Int) := by omega
      have MK2 : Hid (∀ w', Below wr.heap.size wr w' → (Below wr.heap.size wr w' ∧ w'.cell? ⟨w.heap.size, 5, none⟩ = some (.slice (some ⟨b, off, none⟩) rrn rrc) ∧ w'.cell? ⟨b, off + k * 2, none⟩ = some (.int .u64 xkey) ∧ w'.cell? ⟨b, off + k * 2 + 1, none⟩ = some (.int .u64 xval))) := fun w' hb => ⟨hb, (later_cell hb hWz _).trans (hB 5), (later_cell hb hbB _).trans hc0, (later_cell hb hbB _).trans hc1⟩
      clear hx hXe hln hz0 hz1 hz2 hz3 hz4
      go_wp2_with fail
      go_region_held3 (fun w' => Below wr.heap.size wr w' ∧ w'.cell? ⟨w.heap.size, 5, none⟩ = some (.slice (some ⟨b, off, none⟩) rrn rrc) ∧ w'.cell? ⟨b, off + k * 2, none⟩ = some (.int .u64 xkey) ∧ w'.cell? ⟨b, off + k * 2 + 1, none⟩ = some (.int .u64 xval)) (first | exact MK2.out _ (Below.refl _ _).drew | exact MK2.out _ (held_next (by assumption) (by assumption)) | exact MK2.out _ (held_drew (by assumption))) (first | (go_at_call 37; refine (number_c _ _ _ (by omega)).mono ?_; rintro e w1 ⟨rfl, hbel1⟩))
      go_wp2
      go_roundw
      case rel => exact ⟨k + 1, by omega, by go_num, str_eq (by rw [flat_take Row.bytes rrows k _ HX.out, HXE.out]; simp [numB, Row.bytes]), later_trans hnx (And.left (by assumption))⟩
      case measure => simp [intOf]; omega
    · have hk' : k = rrn := by omega
      have hrb : ((rrows.take k).map Row.bytes).flatten = rowsBytes rrows := by rw [hk', HRN.out, List.take_length]; rfl
      rw [hrb]
      have hln := rows_len rrows
      have hR := HRN.out
      obtain ⟨X, hXe⟩ : ∃ X, X = ([rsrc] ++ [rdst] ++ be32 rseq ++ be64 rlo ++ be64 rhi ++ [(rrn : Int)]) ++ rowsBytes rrows := ⟨_, rfl⟩
      have hXl : X.length ≤ 20000 := by
        rw [hXe]; simp only [List.length_append, List.length_cons, List.length_nil, be32_len, be64_len]; omega
      rw [← hXe]
      have HXE : Hid (X = ([rsrc] ++ [rdst] ++ be32 rseq ++ be64 rlo ++ be64 rhi ++ [(rrn : Int)]) ++ rowsBytes rrows) := hXe
      have hz30 := fun k0 => sz_fit X (numB k0 (rdn : Int)) (by have := numB_len k0 (rdn : Int); omega)
      clear hXe hrb hln hR hz0 hz1 hz2 hz3 hz4
      go_wp2_with (first | (go_at_call 37; go_must (refine (number_c _ _ _ (by omega)).mono ?_; rintro e w1 ⟨rfl, hbel1⟩; have hn1 := later_trans hnx hbel1; have hB1 := blk hn1 hWb)))
      have hn1 : Below W.heap.size W w1 := later_trans hnx ‹Below wr.heap.size wr w1›
      go_loopw [3, 5] (fun s i wq => ∃ j : Nat, j ≤ rdn ∧ i = .int .i64 j ∧ s = .string (bstr ((([rsrc] ++ [rdst] ++ be32 rseq ++ be64 rlo ++ be64 rhi ++ [(rrn : Int)]) ++ rowsBytes rrows ++ [(rdn : Int)]) ++ ((rdups.take j).map Rep.bytes).flatten)) ∧ Below W.heap.size W wq) (fun _ i _ => rdn - (intOf i).toNat)
      case atStart => exact ⟨0, Nat.zero_le _, rfl, str_eq (by rw [HXE.out]; simp [numB]), hn1⟩
      case round =>
        obtain ⟨j, hj, rfl, rfl, hnq⟩ := hrel
        have hBq := blk hnq hWb
        by_cases hlj : j < rdn
        · obtain ⟨y, hy⟩ : ∃ y, rdups[j]? = some y := ⟨rdups[j]'(by rw [← HDN.out]; exact hlj), by simp⟩
          have hSq := (h2.later hWl).later hnq
          obtain ⟨b, off, ha, hbB, hc⟩ := hSq.el (i := j) (x := y.cells) (by simp [hy])
          obtain rfl : rda = some ⟨b, off, none⟩ := ha
          have hyw := HWD.out j y hy
          have HY : Hid (rdups[j]? = some y) := hy
          have hl1 := rows_len rrows
          have hl2 := dups_len (rdups.take j)
          have hyl := y.len
          have hRN := HRN.out
          obtain ⟨Y, hYe⟩ : ∃ Y, Y = (([rsrc] ++ [rdst] ++ be32 rseq ++ be64 rlo ++ be64 rhi ++ [(rrn : Int)]) ++ rowsBytes rrows ++ [(rdn : Int)]) ++ ((rdups.take j).map Rep.bytes).flatten := ⟨_, rfl⟩
          have hYl : Y.length ≤ 20000 := by
            rw [hYe]; simp only [dupsBytes, List.length_take] at hl2
            simp only [List.length_append, List.length_cons, List.length_nil, be32_len, be64_len]; omega
          rw [← hYe]
          have HYE : Hid (Y = (([rsrc] ++ [rdst] ++ be32 rseq ++ be64 rlo ++ be64 rhi ++ [(rrn : Int)]) ++ rowsBytes rrows ++ [(rdn : Int)]) ++ ((rdups.take j).map Rep.bytes).flatten) := hYe
          have hz40 := sz_fit Y y.bytes (by omega)
          obtain ⟨yc, ys, ykey, yk, yf, yv, yg⟩ := y
          simp only [Rep.cells] at hc
          clear hy hYe hl1 hl2 hyl hRN hz30
          go_wp2_with (first | (with_reducible show wpList _ _ _ ({ dst := _, op := Op.load 27 _, type := _, pos := _, after := _, guard := none } :: _) _ _; go_must (refine wpList_load_mem rfl _ _ rfl b (off + j * 7) rfl 7 _ Try.underlying27 rfl sz_rep (rP yc ys ykey yk yf yv yg) rfl hc ?_)) | (go_at_call 39; go_must (refine (ref_replyBytes _ _ _ _ _ _ _ _ hyw).mono ?_; rintro e w5 ⟨rfl, hbel5⟩)))
          go_roundw
          case rel => exact ⟨j + 1, by omega, by go_num, str_eq (by rw [flat_take Rep.bytes rdups j _ HY.out, HYE.out]; simp), later_trans hnq hbel5⟩
          case measure => simp [intOf]; omega
        · have hj' : j = rdn := by omega
          go_wp2
          go_ret
          refine ⟨ret_str (bstr_eq ?_), later_trans hWl hnq⟩
          rw [hj', HDN.out, List.take_length, HRN.out]
          simp [Rng.bytes, dupsBytes]

end Go.Proofs.Ytignemioillaiaa

namespace Go.Proofs.Ytignemioillaiaa
open Go.RowKit

set_option maxHeartbeats 1000000 in
set_option maxRecDepth 100000 in
theorem ref_command_1 (gR : Int) (gI gJ gK gM gN gP gQ : Int) (jU jV jW jX jY : Int) (jZ : Option Addr) (gA gB : Nat) (gC : Option Addr) (gD gF : Nat) (gS gT : Int) (gG : List Row) (gH : List Rep) (w : World) (_h1 : SlIn w.heap.size w ⟨jZ, gA, gB⟩ 2 (gG.map Row.cells)) (_h2 : SlIn w.heap.size w ⟨gC, gD, gF⟩ 7 (gH.map Rep.cells)) (_hsh : Cmd.short (Cmd.mk gR (Req.mk gI gJ gK gM gN gP gQ) (Rng.mk jU jV jW jX jY ⟨jZ, gA, gB⟩ ⟨gC, gD, gF⟩ gG gH) gS gT)) (hwf : (Cmd.mk gR (Req.mk gI gJ gK gM gN gP gQ) (Rng.mk jU jV jW jX jY ⟨jZ, gA, gB⟩ ⟨gC, gD, gF⟩ gG gH) gS gT).wf) (hk : (gR == 1) = true) :
    Calls Try.prog 41 #[.agg (List.toArray (rC gR gI gJ gK gM gN gP gQ jU jV jW jX jY jZ gA gB gC gD gF gS gT))] w fun e w' => e = .returned (.string (bstr (Cmd.mk gR (Req.mk gI gJ gK gM gN gP gQ) (Rng.mk jU jV jW jX jY ⟨jZ, gA, gB⟩ ⟨gC, gD, gF⟩ gG gH) gS gT).bytes)) ∧ Below w.heap.size w w' := by
  obtain ⟨hk1, hq1, hr1, hp1, hs1⟩ := hwf
  simp only [U8, U32] at hk1 hp1 hs1
  have hWb := heap_alloc_new w (.cells (List.toArray (rC gR gI gJ gK gM gN gP gQ jU jV jW jX jY jZ gA gB gC gD gF gS gT)) 35)
  have hWl := later_alloc w (.cells (List.toArray (rC gR gI gJ gK gM gN gP gQ jU jV jW jX jY jZ gA gB gC gD gF gS gT)) 35)
  have hap := bstr_append
  have hu0 := u64_in gR (by omega)
  have hu1 := u64_in gS (by omega)
  have hu2 := u64_in gT (by omega)
  have hz := fun k0 => sz_fit (numB k0 gR) (Req.mk gI gJ gK gM gN gP gQ).bytes (by have := numB_len k0 gR; have := (Req.mk gI gJ gK gM gN gP gQ).len; omega)
  go_enter Try.func41, Try.ntmps41
  go_wp2_with (first | (go_at_call 37; go_must (refine (number_c _ _ _ (by omega)).mono ?_; rintro e w1 ⟨rfl, hbel1⟩; have hn1 := hbel1; have hW1 := blk_later hbel1 hWb; have hB1 := blk_cell hW1)) | (with_reducible show wpList _ _ _ ({ dst := _, op := Op.load 25 _, type := _, pos := _, after := _, guard := none } :: _) _ _; go_must (refine wpList_load_blk rfl _ _ rfl w.heap.size 1 rfl 7 _ Try.underlying25 rfl sz_req _ _ hW1 rfl (rQ gI gJ gK gM gN gP gQ) rfl ?_)) | (go_at_call 38; go_must (refine (ref_requestBytes _ _ _ _ _ _ _ _ hq1).mono ?_; rintro e w5 ⟨rfl, hbel5⟩)))
  go_ret
  exact ⟨ret_str (bstr_eq (by simp [Cmd.bytes, Cmd.tail, numB, show gR = 1 by simpa using hk])), later_trans hWl (later_trans hn1 hbel5)⟩

set_option maxHeartbeats 1000000 in
set_option maxRecDepth 100000 in
theorem ref_command_2 (gR : Int) (gI gJ gK gM gN gP gQ : Int) (jU jV jW jX jY : Int) (jZ : Option Addr) (gA gB : Nat) (gC : Option Addr) (gD gF : Nat) (gS gT : Int) (gG : List Row) (gH : List Rep) (w : World) (h1 : SlIn w.heap.size w ⟨jZ, gA, gB⟩ 2 (gG.map Row.cells)) (h2 : SlIn w.heap.size w ⟨gC, gD, gF⟩ 7 (gH.map Rep.cells)) (hsh : Cmd.short (Cmd.mk gR (Req.mk gI gJ gK gM gN gP gQ) (Rng.mk jU jV jW jX jY ⟨jZ, gA, gB⟩ ⟨gC, gD, gF⟩ gG gH) gS gT)) (hwf : (Cmd.mk gR (Req.mk gI gJ gK gM gN gP gQ) (Rng.mk jU jV jW jX jY ⟨jZ, gA, gB⟩ ⟨gC, gD, gF⟩ gG gH) gS gT).wf) (hk1' : (gR == 1) = false) (hk : (gR == 2) = true) :
    Calls Try.prog 41 #[.agg (List.toArray (rC gR gI gJ gK gM gN gP gQ jU jV jW jX jY jZ gA gB gC gD gF gS gT))] w fun e w' => e = .returned (.string (bstr (Cmd.mk gR (Req.mk gI gJ gK gM gN gP gQ) (Rng.mk jU jV jW jX jY ⟨jZ, gA, gB⟩ ⟨gC, gD, gF⟩ gG gH) gS gT).bytes)) ∧ Below w.heap.size w w' := by
  obtain ⟨hk1, hq1, hr1, hp1, hs1⟩ := hwf
  simp only [U8, U32] at hk1 hp1 hs1
  have hWb := heap_alloc_new w (.cells (List.toArray (rC gR gI gJ gK gM gN gP gQ jU jV jW jX jY jZ gA gB gC gD gF gS gT)) 35)
  have hWl := later_alloc w (.cells (List.toArray (rC gR gI gJ gK gM gN gP gQ jU jV jW jX jY jZ gA gB gC gD gF gS gT)) 35)
  have hap := bstr_append
  have hu0 := u64_in gR (by omega)
  have hu1 := u64_in gS (by omega)
  have hu2 := u64_in gT (by omega)
  have hsh2 : gG.length ≤ 255 ∧ gH.length ≤ 255 := hsh (by simpa using hk)
  have HSH : Hid (gG.length ≤ 255 ∧ gH.length ≤ 255) := hsh2
  have hz := fun k0 => sz_fit (numB k0 gR) (Rng.mk jU jV jW jX jY ⟨jZ, gA, gB⟩ ⟨gC, gD, gF⟩ gG gH).bytes (by have := numB_len k0 gR; have := (Rng.mk jU jV jW jX jY ⟨jZ, gA, gB⟩ ⟨gC, gD, gF⟩ gG gH).len hsh2.1 hsh2.2; omega)
  clear hsh2
  go_enter Try.func41, Try.ntmps41
  go_wp2_with (first | (go_at_call 37; go_must (refine (number_c _ _ _ (by omega)).mono ?_; rintro e w1 ⟨rfl, hbel1⟩; have hn1 := hbel1; have hW1 := blk_later hbel1 hWb; have hB1 := blk_cell hW1)) | (with_reducible show wpList _ _ _ ({ dst := _, op := Op.load 33 _, type := _, pos := _, after := _, guard := none } :: _) _ _; go_must (refine wpList_load_blk rfl _ _ rfl w.heap.size 8 rfl 7 _ Try.underlying33 rfl sz_rng _ _ hW1 rfl (rR jU jV jW jX jY jZ gA gB gC gD gF) rfl ?_)) | (go_at_call 42; go_must (refine (ref_rangeBytes _ _ _ _ _ _ _ _ _ _ _ gG gH _ (h1.later (later_trans hWl hn1)) (h2.later (later_trans hWl hn1)) HSH.out.1 HSH.out.2 hr1).mono ?_; rintro e w5 ⟨rfl, hbel5⟩)))
  go_ret
  exact ⟨ret_str (bstr_eq (by simp [Cmd.bytes, Cmd.tail, numB, show gR = 2 by simpa using hk])), later_trans hWl (later_trans hn1 hbel5)⟩

set_option maxHeartbeats 1000000 in
set_option maxRecDepth 100000 in
theorem ref_command_3 (gR : Int) (gI gJ gK gM gN gP gQ : Int) (jU jV jW jX jY : Int) (jZ : Option Addr) (gA gB : Nat) (gC : Option Addr) (gD gF : Nat) (gS gT : Int) (gG : List Row) (gH : List Rep) (w : World) (_h1 : SlIn w.heap.size w ⟨jZ, gA, gB⟩ 2 (gG.map Row.cells)) (_h2 : SlIn w.heap.size w ⟨gC, gD, gF⟩ 7 (gH.map Rep.cells)) (_hsh : Cmd.short (Cmd.mk gR (Req.mk gI gJ gK gM gN gP gQ) (Rng.mk jU jV jW jX jY ⟨jZ, gA, gB⟩ ⟨gC, gD, gF⟩ gG gH) gS gT)) (hwf : (Cmd.mk gR (Req.mk gI gJ gK gM gN gP gQ) (Rng.mk jU jV jW jX jY ⟨jZ, gA, gB⟩ ⟨gC, gD, gF⟩ gG gH) gS gT).wf) (hk1' : (gR == 1) = false) (hk2' : (gR == 2) = false) (hk : (gR == 3) = true) :
    Calls Try.prog 41 #[.agg (List.toArray (rC gR gI gJ gK gM gN gP gQ jU jV jW jX jY jZ gA gB gC gD gF gS gT))] w fun e w' => e = .returned (.string (bstr (Cmd.mk gR (Req.mk gI gJ gK gM gN gP gQ) (Rng.mk jU jV jW jX jY ⟨jZ, gA, gB⟩ ⟨gC, gD, gF⟩ gG gH) gS gT).bytes)) ∧ Below w.heap.size w w' := by
  obtain ⟨hk1, hq1, hr1, hp1, hs1⟩ := hwf
  simp only [U8, U32] at hk1 hp1 hs1
  have hWb := heap_alloc_new w (.cells (List.toArray (rC gR gI gJ gK gM gN gP gQ jU jV jW jX jY jZ gA gB gC gD gF gS gT)) 35)
  have hWl := later_alloc w (.cells (List.toArray (rC gR gI gJ gK gM gN gP gQ jU jV jW jX jY jZ gA gB gC gD gF gS gT)) 35)
  have hap := bstr_append
  have hu0 := u64_in gR (by omega)
  have hu1 := u64_in gS (by omega)
  have hu2 := u64_in gT (by omega)
  have hz0 := fun k0 k1 => sz_fit (numB k0 gR) (numB k1 gS) (by have := numB_len k0 gR; have := numB_len k1 gS; omega)
  have hz1 := fun k0 k1 k2 => sz_fit (numB k0 gR ++ numB k1 gS) (numB k2 gT) (by simp only [List.length_append]; have := numB_len k0 gR; have := numB_len k1 gS; have := numB_len k2 gT; omega)
  have MK : Hid (∀ w', Below (w.alloc (.cells (List.toArray (rC gR gI gJ gK gM gN gP gQ jU jV jW jX jY jZ gA gB gC gD gF gS gT)) 35)).heap.size (w.alloc (.cells (List.toArray (rC gR gI gJ gK gM gN gP gQ jU jV jW jX jY jZ gA gB gC gD gF gS gT)) 35)) w' → (Below (w.alloc (.cells (List.toArray (rC gR gI gJ gK gM gN gP gQ jU jV jW jX jY jZ gA gB gC gD gF gS gT)) 35)).heap.size (w.alloc (.cells (List.toArray (rC gR gI gJ gK gM gN gP gQ jU jV jW jX jY jZ gA gB gC gD gF gS gT)) 35)) w' ∧ w'.cell? ⟨w.heap.size, 15, none⟩ = some (.int .u8 gS) ∧ w'.cell? ⟨w.heap.size, 16, none⟩ = some (.int .u32 gT))) := fun w' hb => ⟨hb, blk hb hWb 15, blk hb hWb 16⟩
  go_enter Try.func41, Try.ntmps41
  go_wp2_with (first | (go_at_call 37; go_must (refine (number_c _ _ _ (by omega)).mono ?_; rintro e w1 ⟨rfl, hbel1⟩; have hS1 := MK.out _ hbel1; have hB1 := blk hbel1 hWb)))
  go_region_held3 (fun w' => Below (w.alloc (.cells (List.toArray (rC gR gI gJ gK gM gN gP gQ jU jV jW jX jY jZ gA gB gC gD gF gS gT)) 35)).heap.size (w.alloc (.cells (List.toArray (rC gR gI gJ gK gM gN gP gQ jU jV jW jX jY jZ gA gB gC gD gF gS gT)) 35)) w' ∧ w'.cell? ⟨w.heap.size, 15, none⟩ = some (.int .u8 gS) ∧ w'.cell? ⟨w.heap.size, 16, none⟩ = some (.int .u32 gT)) (first | exact MK.out _ (Below.refl _ _).drew | exact MK.out _ (held_next (by assumption) (by assumption)) | exact MK.out _ (held_drew (by assumption))) (first | (go_at_call 37; refine (number_c _ _ _ (by omega)).mono ?_; rintro e w1 ⟨rfl, hbel1⟩))
  go_wp2
  go_ret
  exact ⟨ret_str (bstr_eq (by simp [Cmd.bytes, Cmd.tail, numB, show gR = 3 by simpa using hk])), held_done hWl (by assumption)⟩

set_option maxHeartbeats 1000000 in
set_option maxRecDepth 100000 in
theorem ref_command_e (gR : Int) (gI gJ gK gM gN gP gQ : Int) (jU jV jW jX jY : Int) (jZ : Option Addr) (gA gB : Nat) (gC : Option Addr) (gD gF : Nat) (gS gT : Int) (gG : List Row) (gH : List Rep) (w : World) (_h1 : SlIn w.heap.size w ⟨jZ, gA, gB⟩ 2 (gG.map Row.cells)) (_h2 : SlIn w.heap.size w ⟨gC, gD, gF⟩ 7 (gH.map Rep.cells)) (_hsh : Cmd.short (Cmd.mk gR (Req.mk gI gJ gK gM gN gP gQ) (Rng.mk jU jV jW jX jY ⟨jZ, gA, gB⟩ ⟨gC, gD, gF⟩ gG gH) gS gT)) (hwf : (Cmd.mk gR (Req.mk gI gJ gK gM gN gP gQ) (Rng.mk jU jV jW jX jY ⟨jZ, gA, gB⟩ ⟨gC, gD, gF⟩ gG gH) gS gT).wf) (hk1' : (gR == 1) = false) (hk2' : (gR == 2) = false) (hk3' : (gR == 3) = false) :
    Calls Try.prog 41 #[.agg (List.toArray (rC gR gI gJ gK gM gN gP gQ jU jV jW jX jY jZ gA gB gC gD gF gS gT))] w fun e w' => e = .returned (.string (bstr (Cmd.mk gR (Req.mk gI gJ gK gM gN gP gQ) (Rng.mk jU jV jW jX jY ⟨jZ, gA, gB⟩ ⟨gC, gD, gF⟩ gG gH) gS gT).bytes)) ∧ Below w.heap.size w w' := by
  obtain ⟨hk1, hq1, hr1, hp1, hs1⟩ := hwf
  simp only [U8, U32] at hk1 hp1 hs1
  have hWb := heap_alloc_new w (.cells (List.toArray (rC gR gI gJ gK gM gN gP gQ jU jV jW jX jY jZ gA gB gC gD gF gS gT)) 35)
  have hWl := later_alloc w (.cells (List.toArray (rC gR gI gJ gK gM gN gP gQ jU jV jW jX jY jZ gA gB gC gD gF gS gT)) 35)
  have hap := bstr_append
  have hu0 := u64_in gR (by omega)
  have hu1 := u64_in gS (by omega)
  have hu2 := u64_in gT (by omega)
  go_enter Try.func41, Try.ntmps41
  go_wp2_with (first | (go_at_call 37; go_must (refine (number_c _ _ _ (by omega)).mono ?_; rintro e w1 ⟨rfl, hbel1⟩; have hn1 := hbel1; have hW1 := blk_later hbel1 hWb; have hB1 := blk_cell hW1)))
  go_ret
  exact ⟨ret_str (bstr_eq (by simp [Cmd.bytes, Cmd.tail, numB, show ¬ gR = 1 by simpa using hk1', show ¬ gR = 2 by simpa using hk2', show ¬ gR = 3 by simpa using hk3'])), later_trans hWl hn1⟩

theorem ref_commandBytes (gR : Int) (gI gJ gK gM gN gP gQ : Int) (jU jV jW jX jY : Int) (jZ : Option Addr) (gA gB : Nat) (gC : Option Addr) (gD gF : Nat) (gS gT : Int) (gG : List Row) (gH : List Rep) (w : World) (h1 : SlIn w.heap.size w ⟨jZ, gA, gB⟩ 2 (gG.map Row.cells)) (h2 : SlIn w.heap.size w ⟨gC, gD, gF⟩ 7 (gH.map Rep.cells)) (hsh : Cmd.short (Cmd.mk gR (Req.mk gI gJ gK gM gN gP gQ) (Rng.mk jU jV jW jX jY ⟨jZ, gA, gB⟩ ⟨gC, gD, gF⟩ gG gH) gS gT)) (hwf : (Cmd.mk gR (Req.mk gI gJ gK gM gN gP gQ) (Rng.mk jU jV jW jX jY ⟨jZ, gA, gB⟩ ⟨gC, gD, gF⟩ gG gH) gS gT).wf) :
    Calls Try.prog 41 #[.agg (List.toArray (rC gR gI gJ gK gM gN gP gQ jU jV jW jX jY jZ gA gB gC gD gF gS gT))] w fun e w' => e = .returned (.string (bstr (Cmd.mk gR (Req.mk gI gJ gK gM gN gP gQ) (Rng.mk jU jV jW jX jY ⟨jZ, gA, gB⟩ ⟨gC, gD, gF⟩ gG gH) gS gT).bytes)) ∧ Below w.heap.size w w' := by
  by_cases k1 : gR = 1
  · exact ref_command_1 _ _ _ _ _ _ _ _ _ _ _ _ _ _ _ _ _ _ _ _ _ _ _ _ h1 h2 hsh hwf (by simpa using k1)
  by_cases k2 : gR = 2
  · exact ref_command_2 _ _ _ _ _ _ _ _ _ _ _ _ _ _ _ _ _ _ _ _ _ _ _ _ h1 h2 hsh hwf (by simpa using k1) (by simpa using k2)
  by_cases k3 : gR = 3
  · exact ref_command_3 _ _ _ _ _ _ _ _ _ _ _ _ _ _ _ _ _ _ _ _ _ _ _ _ h1 h2 hsh hwf (by simpa using k1) (by simpa using k2) (by simpa using k3)
  exact ref_command_e _ _ _ _ _ _ _ _ _ _ _ _ _ _ _ _ _ _ _ _ _ _ _ _ h1 h2 hsh hwf (by simpa using k1) (by simpa using k2) (by simpa using k3)

end Go.Proofs.Ytignemioillaiaa

