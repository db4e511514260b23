/- The document's answer: the bytes of a range. -/
import Derived.Test.YtignemioillaiaaC2
namespace Go.Proofs.Ytignemioillaiaa
open Go.RowKit

theorem str_eq {a b : List Int} (h : a = b) : Value.string (bstr a) = Value.string (bstr b) := by rw [h]

theorem ref_replyBytes (pc ps pkey pk : Int) (pf : Bool) (pv pg : Int) (w : World) (hwf : (Rep.mk pc ps pkey pk pf pv pg).wf) :
    Calls Try.prog 39 #[.agg #[.int .u8 pc, .int .u32 ps, .int .u64 pkey, .int .u8 pk, .bool pf, .int .u64 pv, .int .u8 pg]] w fun e w' => e = .returned (.string (bstr (Rep.mk pc ps pkey pk pf pv pg).bytes)) ∧ Below w.heap.size w w' := by
  by_cases h1 : pk = 1
  · by_cases hf : pf = true
    · exact ref_reply_1t _ _ _ _ _ _ _ _ hwf (by simpa using h1) hf
    · exact ref_reply_1f _ _ _ _ _ _ _ _ hwf (by simpa using h1) (by simpa using hf)
  by_cases h3 : pk = 3
  · exact ref_reply_3 _ _ _ _ _ _ _ _ hwf (by simpa using h1) (by simpa using h3)
  exact ref_reply_e _ _ _ _ _ _ _ _ hwf (by simpa using h1) (by simpa using h3)

set_option maxHeartbeats 2000000 in
set_option maxRecDepth 100000 in
theorem ref_rangeBytes (rsrc rdst rseq rlo rhi : Int) (rra : Option Addr) (rrn rrc : Nat) (rda : Option Addr) (rdn rdc : Nat) (rrows : List Row) (rdups : List Rep) (w : World) (h1 : SlIn w.heap.size w ⟨rra, rrn, rrc⟩ 2 (rrows.map Row.cells)) (h2 : SlIn w.heap.size w ⟨rda, rdn, rdc⟩ 7 (rdups.map Rep.cells)) (hr : rrows.length ≤ 255) (hd : rdups.length ≤ 255) (hwf : (Rng.mk rsrc rdst rseq rlo rhi ⟨rra, rrn, rrc⟩ ⟨rda, rdn, rdc⟩ rrows rdups).wf) :
    Calls Try.prog 42 #[.agg #[.int .u8 rsrc, .int .u8 rdst, .int .u32 rseq, .int .u64 rlo, .int .u64 rhi, .slice rra rrn rrc, .slice rda rdn rdc]] w fun e w' => e = .returned (.string (bstr (Rng.mk rsrc rdst rseq rlo rhi ⟨rra, rrn, rrc⟩ ⟨rda, rdn, rdc⟩ rrows rdups).bytes)) ∧ Below w.heap.size w w' := by
  obtain ⟨hs1, hs2, hs3, hs4, hs5, hs6, hs7⟩ := hwf
  simp only [U8, U32, U64] at hs1 hs2 hs3 hs4 hs5
  have HWR : Hid (∀ (i : Nat) (x : Row), rrows[i]? = some x → x.wf) := hs6
  have HWD : Hid (∀ (i : Nat) (x : Rep), rdups[i]? = some x → x.wf) := hs7
  have hrn : rrn = rrows.length := by simpa using h1.len
  have hdn : rdn = rdups.length := by simpa using h2.len
  have hr255 : rrn ≤ 255 := by omega
  have hd255 : rdn ≤ 255 := by omega
  have HRN : Hid (rrn = rrows.length) := hrn
  have HDN : Hid (rdn = rdups.length) := hdn
  clear hs6 hs7 hrn hdn hr hd
  obtain ⟨W, hW⟩ : ∃ W, W = w.alloc (.cells #[.int .u8 rsrc, .int .u8 rdst, .int .u32 rseq, .int .u64 rlo, .int .u64 rhi, .slice rra rrn rrc, .slice rda rdn rdc] 33) := ⟨_, rfl⟩
  have hWb : W.heap[w.heap.size]? = some (.cells #[.int .u8 rsrc, .int .u8 rdst, .int .u32 rseq, .int .u64 rlo, .int .u64 rhi, .slice rra rrn rrc, .slice rda rdn rdc] 33) := by rw [hW]; exact heap_alloc_new w _
  have hWl : Below w.heap.size w W := by rw [hW]; exact later_alloc w _
  have hap := bstr_append
  have hu0 := u64_in rsrc (by omega)
  have hu1 := u64_in rdst (by omega)
  have hu2 := u64_in rseq (by omega)
  have hu3 := u64_in (rrn : Int) (by omega)
  have hu4 := u64_in (rdn : Int) (by omega)
  have hz0 := fun k0 k1 => sz_fit (numB k0 rsrc) (numB k1 rdst) (by (try simp only [List.length_append]); have := numB_len k0 rsrc; have := numB_len k1 rdst; omega)
  have hz1 := fun k0 k1 k2 => sz_fit (numB k0 rsrc ++ numB k1 rdst) (numB k2 rseq) (by (try simp only [List.length_append]); have := numB_len k0 rsrc; have := numB_len k1 rdst; have := numB_len k2 rseq; omega)
  have hz2 := fun k0 k1 k2 k3 => sz_fit (numB k0 rsrc ++ (numB k1 rdst ++ numB k2 rseq)) (numB k3 rlo) (by (try simp only [List.length_append]); have := numB_len k0 rsrc; have := numB_len k1 rdst; have := numB_len k2 rseq; have := numB_len k3 rlo; omega)
  have hz3 := fun k0 k1 k2 k3 k4 => sz_fit (numB k0 rsrc ++ (numB k1 rdst ++ (numB k2 rseq ++ numB k3 rlo))) (numB k4 rhi) (by (try simp only [List.length_append]); have := numB_len k0 rsrc; have := numB_len k1 rdst; have := numB_len k2 rseq; have := numB_len k3 rlo; have := numB_len k4 rhi; omega)
  have hz4 := fun k0 k1 k2 k3 k4 k5 => sz_fit (numB k0 rsrc ++ (numB k1 rdst ++ (numB k2 rseq ++ (numB k3 rlo ++ numB k4 rhi)))) (numB k5 (rrn : Int)) (by (try simp only [List.length_append]); have := numB_len k0 rsrc; have := numB_len k1 rdst; have := numB_len k2 rseq; have := numB_len k3 rlo; have := numB_len k4 rhi; have := numB_len k5 (rrn : Int); omega)
  have MK : Hid (∀ w', Below W.heap.size W w' → (Below W.heap.size W w' ∧ w'.cell? ⟨w.heap.size, 0, none⟩ = some (.int .u8 rsrc) ∧ w'.cell? ⟨w.heap.size, 1, none⟩ = some (.int .u8 rdst) ∧ w'.cell? ⟨w.heap.size, 2, none⟩ = some (.int .u32 rseq) ∧ w'.cell? ⟨w.heap.size, 3, none⟩ = some (.int .u64 rlo) ∧ w'.cell? ⟨w.heap.size, 4, none⟩ = some (.int .u64 rhi) ∧ w'.cell? ⟨w.heap.size, 5, none⟩ = some (.slice rra rrn rrc) ∧ w'.cell? ⟨w.heap.size, 6, none⟩ = some (.slice rda rdn rdc))) := fun w' hb => ⟨hb, blk hb hWb 0, blk hb hWb 1, blk hb hWb 2, blk hb hWb 3, blk hb hWb 4, blk hb hWb 5, blk hb hWb 6⟩
  go_enter Try.func42, Try.ntmps42
  go_wp2_with fail
  rw [← hW]
  clear hW
  go_region_held3 (fun w' => Below W.heap.size W w' ∧ w'.cell? ⟨w.heap.size, 0, none⟩ = some (.int .u8 rsrc) ∧ w'.cell? ⟨w.heap.size, 1, none⟩ = some (.int .u8 rdst) ∧ w'.cell? ⟨w.heap.size, 2, none⟩ = some (.int .u32 rseq) ∧ w'.cell? ⟨w.heap.size, 3, none⟩ = some (.int .u64 rlo) ∧ w'.cell? ⟨w.heap.size, 4, none⟩ = some (.int .u64 rhi) ∧ w'.cell? ⟨w.heap.size, 5, none⟩ = some (.slice rra rrn rrc) ∧ w'.cell? ⟨w.heap.size, 6, none⟩ = some (.slice rda rdn rdc)) (first | exact MK.out _ (Below.refl _ _).drew | exact MK.out _ (held_next (by assumption) (by assumption)) | exact MK.out _ (held_drew (by assumption))) (first | (go_at_call 37; refine (number_c _ _ _ (by omega)).mono ?_; rintro e w1 ⟨rfl, hbel1⟩))
  go_wp2_with (first | (go_at_call 37; go_must (refine (number_c _ _ _ (by omega)).mono ?_; rintro e w1 ⟨rfl, hbel1⟩; have hS1 := MK.out _ (held_next (by assumption) hbel1))))
  go_loopw [3, 4] (fun s i wr => ∃ k : Nat, k ≤ rrn ∧ i = .int .i64 k ∧ s = .string (bstr (([rsrc] ++ [rdst] ++ be32 rseq ++ be64 rlo ++ be64 rhi ++ [(rrn : Int)]) ++ ((rrows.take k).map Row.bytes).flatten)) ∧ Below W.heap.size W wr) (fun _ i _ => rrn - (intOf i).toNat)
  case atStart => exact ⟨0, Nat.zero_le _, rfl, by simp [numB], And.left (by assumption)⟩
  case round =>
    obtain ⟨k, hk, rfl, rfl, hnx⟩ := hrel
    have hB := blk hnx hWb
    by_cases hlt : k < rrn
    · obtain ⟨x, hx⟩ : ∃ x, rrows[k]? = some x := ⟨rrows[k]'(by rw [← HRN.out]; exact hlt), by simp⟩
      have hS := (h1.later hWl).later hnx
      obtain ⟨b, off, ha, hbB, hc0, hc1⟩ := hS.at2 hx
      obtain rfl : rra = some ⟨b, off, none⟩ := ha
      have hxw := HWR.out k x hx
      have HX : Hid (rrows[k]? = some x) := hx
      have hln := rows_len (rrows.take k)
      obtain ⟨X, hXe⟩ : ∃ X, X = ([rsrc] ++ [rdst] ++ be32 rseq ++ be64 rlo ++ be64 rhi ++ [(rrn : Int)]) ++ ((rrows.take k).map Row.bytes).flatten := ⟨_, rfl⟩
      have hXl : X.length ≤ 20000 := by
        rw [hXe]; simp only [rowsBytes, List.length_take] at hln
        simp only [List.length_append, List.length_cons, List.length_nil, be32_len, be64_len]; omega
      rw [← hXe]
      have HXE : Hid (X = ([rsrc] ++ [rdst] ++ be32 rseq ++ be64 rlo ++ be64 rhi ++ [(rrn : Int)]) ++ ((rrows.take k).map Row.bytes).flatten) := hXe
      obtain ⟨xkey, xval⟩ := x
      obtain ⟨hw1, hw2⟩ := hxw
      simp only [U64] at hw1 hw2
      dsimp only at hc0 hc1
      have hWz : w.heap.size < wr.heap.size := Nat.lt_of_lt_of_le (Array.getElem?_eq_some_iff.1 hWb).1 hnx.size
      have hz20 := fun k0 => sz_fit X (numB k0 xkey) (by have := numB_len k0 xkey; omega)
      have hz21 := fun k0 k1 => sz_fit (X ++ numB k0 xkey) (numB k1 xval) (by simp only [List.length_append]; have := numB_len k0 xkey; have := numB_len k1 xval; omega)
      have hi0 : (0 : Int) ≤ (k : Int) := by omega
      have hi1 : (k : Int) < (rrn : Int) := by omega
      have MK2 : Hid (∀ w', Below wr.heap.size wr w' → (Below wr.heap.size wr w' ∧ w'.cell? ⟨w.heap.size, 5, none⟩ = some (.slice (some ⟨b, off, none⟩) rrn rrc) ∧ w'.cell? ⟨b, off + k * 2, none⟩ = some (.int .u64 xkey) ∧ w'.cell? ⟨b, off + k * 2 + 1, none⟩ = some (.int .u64 xval))) := fun w' hb => ⟨hb, (later_cell hb hWz _).trans (hB 5), (later_cell hb hbB _).trans hc0, (later_cell hb hbB _).trans hc1⟩
      clear hx hXe hln hz0 hz1 hz2 hz3 hz4
      go_wp2_with fail
      go_region_held3 (fun w' => Below wr.heap.size wr w' ∧ w'.cell? ⟨w.heap.size, 5, none⟩ = some (.slice (some ⟨b, off, none⟩) rrn rrc) ∧ w'.cell? ⟨b, off + k * 2, none⟩ = some (.int .u64 xkey) ∧ w'.cell? ⟨b, off + k * 2 + 1, none⟩ = some (.int .u64 xval)) (first | exact MK2.out _ (Below.refl _ _).drew | exact MK2.out _ (held_next (by assumption) (by assumption)) | exact MK2.out _ (held_drew (by assumption))) (first | (go_at_call 37; refine (number_c _ _ _ (by omega)).mono ?_; rintro e w1 ⟨rfl, hbel1⟩))
      go_wp2
      go_roundw
      case rel => exact ⟨k + 1, by omega, by go_num, str_eq (by rw [flat_take Row.bytes rrows k _ HX.out, HXE.out]; simp [numB, Row.bytes]), later_trans hnx (And.left (by assumption))⟩
      case measure => simp [intOf]; omega
    · have hk' : k = rrn := by omega
      have hrb : ((rrows.take k).map Row.bytes).flatten = rowsBytes rrows := by rw [hk', HRN.out, List.take_length]; rfl
      rw [hrb]
      have hln := rows_len rrows
      have hR := HRN.out
      obtain ⟨X, hXe⟩ : ∃ X, X = ([rsrc] ++ [rdst] ++ be32 rseq ++ be64 rlo ++ be64 rhi ++ [(rrn : Int)]) ++ rowsBytes rrows := ⟨_, rfl⟩
      have hXl : X.length ≤ 20000 := by
        rw [hXe]; simp only [List.length_append, List.length_cons, List.length_nil, be32_len, be64_len]; omega
      rw [← hXe]
      have HXE : Hid (X = ([rsrc] ++ [rdst] ++ be32 rseq ++ be64 rlo ++ be64 rhi ++ [(rrn : Int)]) ++ rowsBytes rrows) := hXe
      have hz30 := fun k0 => sz_fit X (numB k0 (rdn : Int)) (by have := numB_len k0 (rdn : Int); omega)
      clear hXe hrb hln hR hz0 hz1 hz2 hz3 hz4
      go_wp2_with (first | (go_at_call 37; go_must (refine (number_c _ _ _ (by omega)).mono ?_; rintro e w1 ⟨rfl, hbel1⟩; have hn1 := later_trans hnx hbel1; have hB1 := blk hn1 hWb)))
      have hn1 : Below W.heap.size W w1 := later_trans hnx ‹Below wr.heap.size wr w1›
      go_loopw [3, 5] (fun s i wq => ∃ j : Nat, j ≤ rdn ∧ i = .int .i64 j ∧ s = .string (bstr ((([rsrc] ++ [rdst] ++ be32 rseq ++ be64 rlo ++ be64 rhi ++ [(rrn : Int)]) ++ rowsBytes rrows ++ [(rdn : Int)]) ++ ((rdups.take j).map Rep.bytes).flatten)) ∧ Below W.heap.size W wq) (fun _ i _ => rdn - (intOf i).toNat)
      case atStart => exact ⟨0, Nat.zero_le _, rfl, str_eq (by rw [HXE.out]; simp [numB]), hn1⟩
      case round =>
        obtain ⟨j, hj, rfl, rfl, hnq⟩ := hrel
        have hBq := blk hnq hWb
        by_cases hlj : j < rdn
        · obtain ⟨y, hy⟩ : ∃ y, rdups[j]? = some y := ⟨rdups[j]'(by rw [← HDN.out]; exact hlj), by simp⟩
          have hSq := (h2.later hWl).later hnq
          obtain ⟨b, off, ha, hbB, hc⟩ := hSq.el (i := j) (x := y.cells) (by simp [hy])
          obtain rfl : rda = some ⟨b, off, none⟩ := ha
          have hyw := HWD.out j y hy
          have HY : Hid (rdups[j]? = some y) := hy
          have hl1 := rows_len rrows
          have hl2 := dups_len (rdups.take j)
          have hyl := y.len
          have hRN := HRN.out
          obtain ⟨Y, hYe⟩ : ∃ Y, Y = (([rsrc] ++ [rdst] ++ be32 rseq ++ be64 rlo ++ be64 rhi ++ [(rrn : Int)]) ++ rowsBytes rrows ++ [(rdn : Int)]) ++ ((rdups.take j).map Rep.bytes).flatten := ⟨_, rfl⟩
          have hYl : Y.length ≤ 20000 := by
            rw [hYe]; simp only [dupsBytes, List.length_take] at hl2
            simp only [List.length_append, List.length_cons, List.length_nil, be32_len, be64_len]; omega
          rw [← hYe]
          have HYE : Hid (Y = (([rsrc] ++ [rdst] ++ be32 rseq ++ be64 rlo ++ be64 rhi ++ [(rrn : Int)]) ++ rowsBytes rrows ++ [(rdn : Int)]) ++ ((rdups.take j).map Rep.bytes).flatten) := hYe
          have hz40 := sz_fit Y y.bytes (by omega)
          obtain ⟨yc, ys, ykey, yk, yf, yv, yg⟩ := y
          simp only [Rep.cells] at hc
          clear hy hYe hl1 hl2 hyl hRN hz30
          go_wp2_with (first | (with_reducible show wpList _ _ _ ({ dst := _, op := Op.load 27 _, type := _, pos := _, after := _, guard := none } :: _) _ _; go_must (refine wpList_load_mem rfl _ _ rfl b (off + j * 7) rfl 7 _ Try.underlying27 rfl sz_rep [.int .u8 yc, .int .u32 ys, .int .u64 ykey, .int .u8 yk, .bool yf, .int .u64 yv, .int .u8 yg] rfl hc ?_)) | (go_at_call 39; go_must (refine (ref_replyBytes _ _ _ _ _ _ _ _ hyw).mono ?_; rintro e w5 ⟨rfl, hbel5⟩)))
          go_roundw
          case rel => exact ⟨j + 1, by omega, by go_num, str_eq (by rw [flat_take Rep.bytes rdups j _ HY.out, HYE.out]; simp), later_trans hnq hbel5⟩
          case measure => simp [intOf]; omega
        · have hj' : j = rdn := by omega
          go_wp2
          go_ret
          refine ⟨ret_str (bstr_eq ?_), later_trans hWl hnq⟩
          rw [hj', HDN.out, List.take_length, HRN.out]
          simp [Rng.bytes, dupsBytes]

end Go.Proofs.Ytignemioillaiaa
