/- The looks of handoverkeep: ranges and commands that hold the same are the same. -/
import Derived.Test.YtignemioillaiaaE3
import Derived.Deep.CutRange
namespace Go.Proofs.Ytignemioillaiaa
open Go.RowKit

set_option maxHeartbeats 1000000 in
set_option maxRecDepth 100000 in
theorem ksamerange_any (rsrc rdst rseq rlo rhi : Int) (rra : Option Addr) (rrn rrc : Nat) (rda : Option Addr) (rdn rdc : Nat) (ra1 : Option Addr) (rn1 rc1 : Nat) (da1 : Option Addr) (dn1 dc1 : Nat) (rrows : List Row) (rdups : List Rep) (w : World)
    (h1 : SlIn w.heap.size w ⟨rra, rrn, rrc⟩ 2 (rrows.map Row.cells)) (h2 : SlIn w.heap.size w ⟨rda, rdn, rdc⟩ 7 (rdups.map Rep.cells)) (h3 : SlIn w.heap.size w ⟨ra1, rn1, rc1⟩ 2 (rrows.map Row.cells)) (h4 : SlIn w.heap.size w ⟨da1, dn1, dc1⟩ 7 (rdups.map Rep.cells)) :
    Calls Try.prog 27 #[.agg #[.int .u8 rsrc, .int .u8 rdst, .int .u32 rseq, .int .u64 rlo, .int .u64 rhi, .slice rra rrn rrc, .slice rda rdn rdc], .agg #[.int .u8 rsrc, .int .u8 rdst, .int .u32 rseq, .int .u64 rlo, .int .u64 rhi, .slice ra1 rn1 rc1, .slice da1 dn1 dc1]] w fun e w' => e = .returned (.bool true) ∧ Below w.heap.size w w' := by
  have hl1 : rrn = rrows.length := by simpa using h1.len
  have hl2 : rdn = rdups.length := by simpa using h2.len
  obtain rfl : rrn = rn1 := by have := h3.len; simp at this; omega
  obtain rfl : rdn = dn1 := by have := h4.len; simp at this; omega
  have hlm : rrn ≤ maxLen := Nat.le_trans h1.le h1.max
  have hlm2 : rdn ≤ maxLen := Nat.le_trans h2.le h2.max
  unfold maxLen at hlm hlm2
  have HL : Hid (rrn = rrows.length) := hl1
  have HL2 : Hid (rdn = rdups.length) := hl2
  clear hl1 hl2
  have hT : Below w.heap.size w ((w.alloc (.cells #[.int .u8 rsrc, .int .u8 rdst, .int .u32 rseq, .int .u64 rlo, .int .u64 rhi, .slice rra rrn rrc, .slice rda rdn rdc] 33)).alloc (.cells #[.int .u8 rsrc, .int .u8 rdst, .int .u32 rseq, .int .u64 rlo, .int .u64 rhi, .slice ra1 rrn rc1, .slice da1 rdn dc1] 33)) := later_trans (later_alloc _ _) (later_alloc _ _)
  have hWa : ((w.alloc (.cells #[.int .u8 rsrc, .int .u8 rdst, .int .u32 rseq, .int .u64 rlo, .int .u64 rhi, .slice rra rrn rrc, .slice rda rdn rdc] 33)).alloc (.cells #[.int .u8 rsrc, .int .u8 rdst, .int .u32 rseq, .int .u64 rlo, .int .u64 rhi, .slice ra1 rrn rc1, .slice da1 rdn dc1] 33)).heap[w.heap.size]? = _ := heap_alloc2_old w _ _
  have hWb : ((w.alloc (.cells #[.int .u8 rsrc, .int .u8 rdst, .int .u32 rseq, .int .u64 rlo, .int .u64 rhi, .slice rra rrn rrc, .slice rda rdn rdc] 33)).alloc (.cells #[.int .u8 rsrc, .int .u8 rdst, .int .u32 rseq, .int .u64 rlo, .int .u64 rhi, .slice ra1 rrn rc1, .slice da1 rdn dc1] 33)).heap[w.heap.size + 1]? = _ := heap_alloc2_new w _ _
  go_enter Try.func27, Try.ntmps27
  go_upto_region 1 with fail
  generalize ((w.alloc (.cells #[.int .u8 rsrc, .int .u8 rdst, .int .u32 rseq, .int .u64 rlo, .int .u64 rhi, .slice rra rrn rrc, .slice rda rdn rdc] 33)).alloc (.cells #[.int .u8 rsrc, .int .u8 rdst, .int .u32 rseq, .int .u64 rlo, .int .u64 rhi, .slice ra1 rrn rc1, .slice da1 rdn dc1] 33)) = W at *
  have hca := blk_cell hWa
  have hcb := blk_cell hWb
  have HWa : Hid (W.heap[w.heap.size]? = _) := hWa
  have HWb : Hid (W.heap[w.heap.size + 1]? = _) := hWb
  clear hWa hWb
  go_wp2_with fail
  go_loopw [5] (fun i wr => ∃ k : Nat, k ≤ rrn ∧ i = .int .i64 k ∧ Below W.heap.size W wr) (fun i _ => rrn - (intOf i).toNat)
  case atStart => exact ⟨0, Nat.zero_le _, rfl, Below.refl _ _⟩
  case round =>
    clear hca hcb
    obtain ⟨k, hk, rfl, hnx⟩ := hrel
    have hca := blk_cell (blk_later hnx HWa.out)
    have hcb := blk_cell (blk_later hnx HWb.out)
    by_cases hlt : k < rrn
    · obtain ⟨x, hx⟩ : ∃ x, rrows[k]? = some x := ⟨rrows[k]'(by rw [← HL.out]; exact hlt), by simp⟩
      obtain ⟨b, off, ha, hbB, hc0, hc1⟩ := (h1.later (later_trans hT hnx)).at2 hx
      obtain ⟨b', off', ha', hbB', hd0, hd1⟩ := (h3.later (later_trans hT hnx)).at2 hx
      obtain rfl : rra = some ⟨b, off, none⟩ := ha
      obtain rfl : ra1 = some ⟨b', off', none⟩ := ha'
      have hi0 : (0 : Int) ≤ (k : Int) := by omega
      have hi1 : (k : Int) < (rrn : Int) := by omega
      clear hx
      obtain ⟨xkey, xval⟩ := x
      dsimp only at hc0 hc1 hd0 hd1
      go_wp2_with fail
      go_quiet (fail)
      go_wp2
      go_roundw
      case rel => exact ⟨k + 1, by omega, by go_num, below_drewN hnx _⟩
      case measure => simp [intOf]; omega
    · have hnx1 := hnx
      go_wp2_with fail
      clear hlt hk
      go_loopw [6] (fun i wr2 => ∃ q : Nat, q ≤ rdn ∧ i = .int .i64 q ∧ Below W.heap.size W wr2) (fun i _ => rdn - (intOf i).toNat)
      case atStart => exact ⟨0, Nat.zero_le _, rfl, hnx1⟩
      case round =>
        clear hca hcb hnx hnx1
        obtain ⟨q, hq, rfl, hnx⟩ := hrel
        have hca := blk_cell (blk_later hnx HWa.out)
        have hcb := blk_cell (blk_later hnx HWb.out)
        by_cases hlt : q < rdn
        · obtain ⟨x, hx⟩ : ∃ x, rdups[q]? = some x := ⟨rdups[q]'(by rw [← HL2.out]; exact hlt), by simp⟩
          obtain ⟨b, off, ha, hbB, hc0, hc1, hc2, hc3, hc4, hc5, hc6⟩ := (h2.later (later_trans hT hnx)).at7 hx
          obtain ⟨b', off', ha', hbB', hd0, hd1, hd2, hd3, hd4, hd5, hd6⟩ := (h4.later (later_trans hT hnx)).at7 hx
          obtain rfl : rda = some ⟨b, off, none⟩ := ha
          obtain rfl : da1 = some ⟨b', off', none⟩ := ha'
          have hi0 : (0 : Int) ≤ (q : Int) := by omega
          have hi1 : (q : Int) < (rdn : Int) := by omega
          clear hx
          obtain ⟨xc, xs, xkey, xk, xf, xv, xg⟩ := x
          dsimp only at hc0 hc1 hc2 hc3 hc4 hc5 hc6 hd0 hd1 hd2 hd3 hd4 hd5 hd6
          go_wp2_with fail
          go_quiet (fail)
          go_wp2
          go_roundw
          case rel => exact ⟨q + 1, by omega, by go_num, below_drewN hnx _⟩
          case measure => simp [intOf]; omega
        · go_wp2
          go_ret
          exact ⟨rfl, later_trans hT hnx⟩

set_option maxHeartbeats 1000000 in
set_option maxRecDepth 100000 in
theorem ksamecommand_any (ckind : Int) (cqc cqs cqk cqkey cqv cqhi cqto : Int) (crsrc crdst crseq crlo crhi : Int) (crra : Option Addr) (crrn crrc : Nat) (crda : Option Addr) (crdn crdc : Nat) (cpeer csq : Int) (drra : Option Addr) (drrn drrc : Nat) (drda : Option Addr) (drdn drdc : Nat) (crrows : List Row) (crdups : List Rep) (w : World)
    (h1 : SlIn w.heap.size w ⟨crra, crrn, crrc⟩ 2 (crrows.map Row.cells)) (h2 : SlIn w.heap.size w ⟨crda, crdn, crdc⟩ 7 (crdups.map Rep.cells)) (h3 : SlIn w.heap.size w ⟨drra, drrn, drrc⟩ 2 (crrows.map Row.cells)) (h4 : SlIn w.heap.size w ⟨drda, drdn, drdc⟩ 7 (crdups.map Rep.cells)) :
    Calls Try.prog 28 #[.agg #[.int .u8 ckind, .int .u8 cqc, .int .u32 cqs, .int .u8 cqk, .int .u64 cqkey, .int .u64 cqv, .int .u64 cqhi, .int .u8 cqto, .int .u8 crsrc, .int .u8 crdst, .int .u32 crseq, .int .u64 crlo, .int .u64 crhi, .slice crra crrn crrc, .slice crda crdn crdc, .int .u8 cpeer, .int .u32 csq], .agg #[.int .u8 ckind, .int .u8 cqc, .int .u32 cqs, .int .u8 cqk, .int .u64 cqkey, .int .u64 cqv, .int .u64 cqhi, .int .u8 cqto, .int .u8 crsrc, .int .u8 crdst, .int .u32 crseq, .int .u64 crlo, .int .u64 crhi, .slice drra drrn drrc, .slice drda drdn drdc, .int .u8 cpeer, .int .u32 csq]] w fun e w' => e = .returned (.bool true) ∧ Below w.heap.size w w' := by
  have hT : Below w.heap.size w ((w.alloc (.cells #[.int .u8 ckind, .int .u8 cqc, .int .u32 cqs, .int .u8 cqk, .int .u64 cqkey, .int .u64 cqv, .int .u64 cqhi, .int .u8 cqto, .int .u8 crsrc, .int .u8 crdst, .int .u32 crseq, .int .u64 crlo, .int .u64 crhi, .slice crra crrn crrc, .slice crda crdn crdc, .int .u8 cpeer, .int .u32 csq] 35)).alloc (.cells #[.int .u8 ckind, .int .u8 cqc, .int .u32 cqs, .int .u8 cqk, .int .u64 cqkey, .int .u64 cqv, .int .u64 cqhi, .int .u8 cqto, .int .u8 crsrc, .int .u8 crdst, .int .u32 crseq, .int .u64 crlo, .int .u64 crhi, .slice drra drrn drrc, .slice drda drdn drdc, .int .u8 cpeer, .int .u32 csq] 35)) := later_trans (later_alloc _ _) (later_alloc _ _)
  have hWa : ((w.alloc (.cells #[.int .u8 ckind, .int .u8 cqc, .int .u32 cqs, .int .u8 cqk, .int .u64 cqkey, .int .u64 cqv, .int .u64 cqhi, .int .u8 cqto, .int .u8 crsrc, .int .u8 crdst, .int .u32 crseq, .int .u64 crlo, .int .u64 crhi, .slice crra crrn crrc, .slice crda crdn crdc, .int .u8 cpeer, .int .u32 csq] 35)).alloc (.cells #[.int .u8 ckind, .int .u8 cqc, .int .u32 cqs, .int .u8 cqk, .int .u64 cqkey, .int .u64 cqv, .int .u64 cqhi, .int .u8 cqto, .int .u8 crsrc, .int .u8 crdst, .int .u32 crseq, .int .u64 crlo, .int .u64 crhi, .slice drra drrn drrc, .slice drda drdn drdc, .int .u8 cpeer, .int .u32 csq] 35)).heap[w.heap.size]? = _ := heap_alloc2_old w _ _
  have hWb : ((w.alloc (.cells #[.int .u8 ckind, .int .u8 cqc, .int .u32 cqs, .int .u8 cqk, .int .u64 cqkey, .int .u64 cqv, .int .u64 cqhi, .int .u8 cqto, .int .u8 crsrc, .int .u8 crdst, .int .u32 crseq, .int .u64 crlo, .int .u64 crhi, .slice crra crrn crrc, .slice crda crdn crdc, .int .u8 cpeer, .int .u32 csq] 35)).alloc (.cells #[.int .u8 ckind, .int .u8 cqc, .int .u32 cqs, .int .u8 cqk, .int .u64 cqkey, .int .u64 cqv, .int .u64 cqhi, .int .u8 cqto, .int .u8 crsrc, .int .u8 crdst, .int .u32 crseq, .int .u64 crlo, .int .u64 crhi, .slice drra drrn drrc, .slice drda drdn drdc, .int .u8 cpeer, .int .u32 csq] 35)).heap[w.heap.size + 1]? = _ := heap_alloc2_new w _ _
  go_enter Try.func28, Try.ntmps28
  go_wp2_with (first | (with_reducible show wpList _ _ _ ({ dst := some 7, op := Op.load 33 _, type := _, pos := _, after := _, guard := _ } :: _) _ _; go_must (refine wpList_load_blk rfl _ _ rfl (w.heap.size) 8 rfl 7 _ Try.underlying33 rfl sz_rng _ _ hWa rfl [.int .u8 crsrc, .int .u8 crdst, .int .u32 crseq, .int .u64 crlo, .int .u64 crhi, .slice crra crrn crrc, .slice crda crdn crdc] rfl ?_)) | (with_reducible show wpList _ _ _ ({ dst := some 9, op := Op.load 33 _, type := _, pos := _, after := _, guard := _ } :: _) _ _; go_must (refine wpList_load_blk rfl _ _ rfl (w.heap.size + 1) 8 rfl 7 _ Try.underlying33 rfl sz_rng _ _ hWb rfl [.int .u8 crsrc, .int .u8 crdst, .int .u32 crseq, .int .u64 crlo, .int .u64 crhi, .slice drra drrn drrc, .slice drda drdn drdc] rfl ?_)) | (go_at_call 27; go_must (refine (ksamerange_any _ _ _ _ _ _ _ _ _ _ _ _ _ _ _ _ _ crrows crdups _ (h1.later hT) (h2.later hT) (h3.later hT) (h4.later hT)).mono ?_; rintro e w1 ⟨rfl, hbel1⟩; have hT1 := later_trans hT hbel1; have hW1a := blk_later hbel1 hWa; have hW1b := blk_later hbel1 hWb; have hB1a := blk_cell hW1a; have hB1b := blk_cell hW1b)) | (with_reducible show wpList _ _ _ ({ dst := some 21, op := Op.load 25 _, type := _, pos := _, after := _, guard := _ } :: _) _ _; go_must (refine wpList_load_blk rfl _ _ rfl (w.heap.size) 1 rfl 7 _ Try.underlying25 rfl sz_req _ _ hW1a rfl [.int .u8 cqc, .int .u32 cqs, .int .u8 cqk, .int .u64 cqkey, .int .u64 cqv, .int .u64 cqhi, .int .u8 cqto] rfl ?_)) | (with_reducible show wpList _ _ _ ({ dst := some 23, op := Op.load 25 _, type := _, pos := _, after := _, guard := _ } :: _) _ _; go_must (refine wpList_load_blk rfl _ _ rfl (w.heap.size + 1) 1 rfl 7 _ Try.underlying25 rfl sz_req _ _ hW1b rfl [.int .u8 cqc, .int .u32 cqs, .int .u8 cqk, .int .u64 cqkey, .int .u64 cqv, .int .u64 cqhi, .int .u8 cqto] rfl ?_)))
  go_ret
  exact ⟨rfl, hT1⟩


end Go.Proofs.Ytignemioillaiaa
