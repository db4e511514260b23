/- The law's looks: two lists that hold the same are the same. The law's looks: ranges and commands that hold the same are the same. The law's looks: commands that hold the same are the same. -/
import Derived.Test.YtignemioillaiaaRows
import Derived.Test.YtignemioillaiaaD4
import Derived.Test.YtignemioillaiaaP
import Derived.WalkLawsBesides
import Derived.Deep.QuietTactic
import Derived.BigQuiet
namespace Go.Proofs.Ytignemioillaiaa
open Go.RowKit

set_option maxHeartbeats 400000 in
set_option maxRecDepth 100000 in
theorem samerows_any (a1 : Option Addr) (n1 c1 : Nat) (a2 : Option Addr) (n2 c2 : Nat) (rows : List Row) (w : World) (h1 : SlIn w.heap.size w ⟨a1, n1, c1⟩ 2 (rows.map Row.cells)) (h2 : SlIn w.heap.size w ⟨a2, n2, c2⟩ 2 (rows.map Row.cells)) :
    Calls Try.prog 61 #[.slice a1 n1 c1, .slice a2 n2 c2] w fun e w' => e = .returned (.bool true) ∧ Below w.heap.size w w' := by
  have hl1 : n1 = rows.length := by simpa using h1.len
  have hl2 : n2 = rows.length := by simpa using h2.len
  obtain rfl : n2 = n1 := by omega
  have hlm : n2 ≤ maxLen := Nat.le_trans h1.le h1.max
  unfold maxLen at hlm
  have HL : Hid (n2 = rows.length) := hl1
  clear hl1 hl2
  go_enter Try.func61, Try.ntmps61
  go_wp2_with fail
  go_loopw [5] (fun i wr => ∃ k : Nat, k ≤ n2 ∧ i = .int .i64 k ∧ Below w.heap.size w wr) (fun i _ => n2 - (intOf i).toNat)
  case atStart => exact ⟨0, Nat.zero_le _, rfl, Below.refl _ _⟩
  case round =>
    obtain ⟨k, hk, rfl, hnx⟩ := hrel
    by_cases hlt : k < n2
    · obtain ⟨x, hx⟩ : ∃ x, rows[k]? = some x := ⟨rows[k]'(by rw [← HL.out]; exact hlt), by simp⟩
      obtain ⟨b, off, ha, hbB, hc0, hc1⟩ := (h1.later hnx).at2 hx
      obtain ⟨b', off', ha', hbB', hd0, hd1⟩ := (h2.later hnx).at2 hx
      obtain rfl : a1 = some ⟨b, off, none⟩ := ha
      obtain rfl : a2 = some ⟨b', off', none⟩ := ha'
      have hi0 : (0 : Int) ≤ (k : Int) := by omega
      have hi1 : (k : Int) < (n2 : Int) := by omega
      clear hx
      obtain ⟨xkey, xval⟩ := x
      dsimp only at hc0 hc1 hd0 hd1
      go_wp2_with fail
      go_quiet (fail)
      go_wp2
      go_roundw
      case rel => exact ⟨k + 1, by omega, by go_num, below_drewN hnx _⟩
      case measure => simp [intOf]; omega
    · go_wp2
      go_ret
      exact ⟨rfl, hnx⟩

set_option maxHeartbeats 400000 in
set_option maxRecDepth 100000 in
theorem samedups_any (a1 : Option Addr) (n1 c1 : Nat) (a2 : Option Addr) (n2 c2 : Nat) (dups : List Rep) (w : World) (h1 : SlIn w.heap.size w ⟨a1, n1, c1⟩ 7 (dups.map Rep.cells)) (h2 : SlIn w.heap.size w ⟨a2, n2, c2⟩ 7 (dups.map Rep.cells)) :
    Calls Try.prog 62 #[.slice a1 n1 c1, .slice a2 n2 c2] w fun e w' => e = .returned (.bool true) ∧ Below w.heap.size w w' := by
  have hl1 : n1 = dups.length := by simpa using h1.len
  have hl2 : n2 = dups.length := by simpa using h2.len
  obtain rfl : n2 = n1 := by omega
  have hlm : n2 ≤ maxLen := Nat.le_trans h1.le h1.max
  unfold maxLen at hlm
  have HL : Hid (n2 = dups.length) := hl1
  clear hl1 hl2
  go_enter Try.func62, Try.ntmps62
  go_wp2_with fail
  go_loopw [5] (fun i wr => ∃ k : Nat, k ≤ n2 ∧ i = .int .i64 k ∧ Below w.heap.size w wr) (fun i _ => n2 - (intOf i).toNat)
  case atStart => exact ⟨0, Nat.zero_le _, rfl, Below.refl _ _⟩
  case round =>
    obtain ⟨k, hk, rfl, hnx⟩ := hrel
    by_cases hlt : k < n2
    · obtain ⟨x, hx⟩ : ∃ x, dups[k]? = some x := ⟨dups[k]'(by rw [← HL.out]; exact hlt), by simp⟩
      obtain ⟨b, off, ha, hbB, hc0, hc1, hc2, hc3, hc4, hc5, hc6⟩ := (h1.later hnx).at7 hx
      obtain ⟨b', off', ha', hbB', hd0, hd1, hd2, hd3, hd4, hd5, hd6⟩ := (h2.later hnx).at7 hx
      obtain rfl : a1 = some ⟨b, off, none⟩ := ha
      obtain rfl : a2 = some ⟨b', off', none⟩ := ha'
      have hi0 : (0 : Int) ≤ (k : Int) := by omega
      have hi1 : (k : Int) < (n2 : Int) := by omega
      clear hx
      obtain ⟨xc, xs, xkey, xk, xf, xv, xg⟩ := x
      dsimp only at hc0 hc1 hc2 hc3 hc4 hc5 hc6 hd0 hd1 hd2 hd3 hd4 hd5 hd6
      go_wp2_with fail
      go_quiet (fail)
      go_wp2
      go_roundw
      case rel => exact ⟨k + 1, by omega, by go_num, below_drewN hnx _⟩
      case measure => simp [intOf]; omega
    · go_wp2
      go_ret
      exact ⟨rfl, hnx⟩

end Go.Proofs.Ytignemioillaiaa

namespace Go.Proofs.Ytignemioillaiaa
open Go.RowKit

set_option maxHeartbeats 1000000 in
set_option maxRecDepth 100000 in
theorem samerange_any (rsrc rdst rseq rlo rhi : Int) (rra : Option Addr) (rrn rrc : Nat) (rda : Option Addr) (rdn rdc : Nat) (ra1 : Option Addr) (rn1 rc1 : Nat) (da1 : Option Addr) (dn1 dc1 : Nat) (rrows : List Row) (rdups : List Rep) (w : World)
    (h1 : SlIn w.heap.size w ⟨rra, rrn, rrc⟩ 2 (rrows.map Row.cells)) (h2 : SlIn w.heap.size w ⟨rda, rdn, rdc⟩ 7 (rdups.map Rep.cells)) (h3 : SlIn w.heap.size w ⟨ra1, rn1, rc1⟩ 2 (rrows.map Row.cells)) (h4 : SlIn w.heap.size w ⟨da1, dn1, dc1⟩ 7 (rdups.map Rep.cells)) :
    Calls Try.prog 44 #[.agg #[.int .u8 rsrc, .int .u8 rdst, .int .u32 rseq, .int .u64 rlo, .int .u64 rhi, .slice rra rrn rrc, .slice rda rdn rdc], .agg #[.int .u8 rsrc, .int .u8 rdst, .int .u32 rseq, .int .u64 rlo, .int .u64 rhi, .slice ra1 rn1 rc1, .slice da1 dn1 dc1]] w fun e w' => e = .returned (.bool true) ∧ Below w.heap.size w w' := by
  have hT : Below w.heap.size w ((w.alloc (.cells #[.int .u8 rsrc, .int .u8 rdst, .int .u32 rseq, .int .u64 rlo, .int .u64 rhi, .slice rra rrn rrc, .slice rda rdn rdc] 33)).alloc (.cells #[.int .u8 rsrc, .int .u8 rdst, .int .u32 rseq, .int .u64 rlo, .int .u64 rhi, .slice ra1 rn1 rc1, .slice da1 dn1 dc1] 33)) := later_trans (later_alloc _ _) (later_alloc _ _)
  have hWa : ((w.alloc (.cells #[.int .u8 rsrc, .int .u8 rdst, .int .u32 rseq, .int .u64 rlo, .int .u64 rhi, .slice rra rrn rrc, .slice rda rdn rdc] 33)).alloc (.cells #[.int .u8 rsrc, .int .u8 rdst, .int .u32 rseq, .int .u64 rlo, .int .u64 rhi, .slice ra1 rn1 rc1, .slice da1 dn1 dc1] 33)).heap[w.heap.size]? = _ := heap_alloc2_old w _ _
  have hWb : ((w.alloc (.cells #[.int .u8 rsrc, .int .u8 rdst, .int .u32 rseq, .int .u64 rlo, .int .u64 rhi, .slice rra rrn rrc, .slice rda rdn rdc] 33)).alloc (.cells #[.int .u8 rsrc, .int .u8 rdst, .int .u32 rseq, .int .u64 rlo, .int .u64 rhi, .slice ra1 rn1 rc1, .slice da1 dn1 dc1] 33)).heap[w.heap.size + 1]? = _ := heap_alloc2_new w _ _
  go_enter Try.func44, Try.ntmps44
  go_wp2_with (first | (go_at_call 61; go_must (refine (samerows_any _ _ _ _ _ _ rrows _ (h1.later hT) (h3.later hT)).mono ?_; rintro e w1 ⟨rfl, hbel1⟩; have hT1 := later_trans hT hbel1; have hW1a := blk_later hbel1 hWa; have hW1b := blk_later hbel1 hWb; have hB1a := blk_cell hW1a; have hB1b := blk_cell hW1b)) | (go_at_call 62; go_must (refine (samedups_any _ _ _ _ _ _ rdups _ (h2.later hT1) (h4.later hT1)).mono ?_; rintro e w2 ⟨rfl, hbel2⟩; have hT2 := later_trans hT1 hbel2; have hB2a := blk_cell (blk_later hbel2 hW1a); have hB2b := blk_cell (blk_later hbel2 hW1b))))
  go_ret
  exact ⟨rfl, hT2⟩

end Go.Proofs.Ytignemioillaiaa

namespace Go.Proofs.Ytignemioillaiaa
open Go.RowKit

set_option maxHeartbeats 1000000 in
set_option maxRecDepth 100000 in
theorem samecommand_any (ckind : Int) (cqc cqs cqk cqkey cqv cqhi cqto : Int) (crsrc crdst crseq crlo crhi : Int) (crra : Option Addr) (crrn crrc : Nat) (crda : Option Addr) (crdn crdc : Nat) (cpeer csq : Int) (drra : Option Addr) (drrn drrc : Nat) (drda : Option Addr) (drdn drdc : Nat) (crrows : List Row) (crdups : List Rep) (w : World)
    (h1 : SlIn w.heap.size w ⟨crra, crrn, crrc⟩ 2 (crrows.map Row.cells)) (h2 : SlIn w.heap.size w ⟨crda, crdn, crdc⟩ 7 (crdups.map Rep.cells)) (h3 : SlIn w.heap.size w ⟨drra, drrn, drrc⟩ 2 (crrows.map Row.cells)) (h4 : SlIn w.heap.size w ⟨drda, drdn, drdc⟩ 7 (crdups.map Rep.cells)) :
    Calls Try.prog 43 #[.agg #[.int .u8 ckind, .int .u8 cqc, .int .u32 cqs, .int .u8 cqk, .int .u64 cqkey, .int .u64 cqv, .int .u64 cqhi, .int .u8 cqto, .int .u8 crsrc, .int .u8 crdst, .int .u32 crseq, .int .u64 crlo, .int .u64 crhi, .slice crra crrn crrc, .slice crda crdn crdc, .int .u8 cpeer, .int .u32 csq], .agg #[.int .u8 ckind, .int .u8 cqc, .int .u32 cqs, .int .u8 cqk, .int .u64 cqkey, .int .u64 cqv, .int .u64 cqhi, .int .u8 cqto, .int .u8 crsrc, .int .u8 crdst, .int .u32 crseq, .int .u64 crlo, .int .u64 crhi, .slice drra drrn drrc, .slice drda drdn drdc, .int .u8 cpeer, .int .u32 csq]] w fun e w' => e = .returned (.bool true) ∧ Below w.heap.size w w' := by
  have hT : Below w.heap.size w ((w.alloc (.cells #[.int .u8 ckind, .int .u8 cqc, .int .u32 cqs, .int .u8 cqk, .int .u64 cqkey, .int .u64 cqv, .int .u64 cqhi, .int .u8 cqto, .int .u8 crsrc, .int .u8 crdst, .int .u32 crseq, .int .u64 crlo, .int .u64 crhi, .slice crra crrn crrc, .slice crda crdn crdc, .int .u8 cpeer, .int .u32 csq] 35)).alloc (.cells #[.int .u8 ckind, .int .u8 cqc, .int .u32 cqs, .int .u8 cqk, .int .u64 cqkey, .int .u64 cqv, .int .u64 cqhi, .int .u8 cqto, .int .u8 crsrc, .int .u8 crdst, .int .u32 crseq, .int .u64 crlo, .int .u64 crhi, .slice drra drrn drrc, .slice drda drdn drdc, .int .u8 cpeer, .int .u32 csq] 35)) := later_trans (later_alloc _ _) (later_alloc _ _)
  have hWa : ((w.alloc (.cells #[.int .u8 ckind, .int .u8 cqc, .int .u32 cqs, .int .u8 cqk, .int .u64 cqkey, .int .u64 cqv, .int .u64 cqhi, .int .u8 cqto, .int .u8 crsrc, .int .u8 crdst, .int .u32 crseq, .int .u64 crlo, .int .u64 crhi, .slice crra crrn crrc, .slice crda crdn crdc, .int .u8 cpeer, .int .u32 csq] 35)).alloc (.cells #[.int .u8 ckind, .int .u8 cqc, .int .u32 cqs, .int .u8 cqk, .int .u64 cqkey, .int .u64 cqv, .int .u64 cqhi, .int .u8 cqto, .int .u8 crsrc, .int .u8 crdst, .int .u32 crseq, .int .u64 crlo, .int .u64 crhi, .slice drra drrn drrc, .slice drda drdn drdc, .int .u8 cpeer, .int .u32 csq] 35)).heap[w.heap.size]? = _ := heap_alloc2_old w _ _
  have hWb : ((w.alloc (.cells #[.int .u8 ckind, .int .u8 cqc, .int .u32 cqs, .int .u8 cqk, .int .u64 cqkey, .int .u64 cqv, .int .u64 cqhi, .int .u8 cqto, .int .u8 crsrc, .int .u8 crdst, .int .u32 crseq, .int .u64 crlo, .int .u64 crhi, .slice crra crrn crrc, .slice crda crdn crdc, .int .u8 cpeer, .int .u32 csq] 35)).alloc (.cells #[.int .u8 ckind, .int .u8 cqc, .int .u32 cqs, .int .u8 cqk, .int .u64 cqkey, .int .u64 cqv, .int .u64 cqhi, .int .u8 cqto, .int .u8 crsrc, .int .u8 crdst, .int .u32 crseq, .int .u64 crlo, .int .u64 crhi, .slice drra drrn drrc, .slice drda drdn drdc, .int .u8 cpeer, .int .u32 csq] 35)).heap[w.heap.size + 1]? = _ := heap_alloc2_new w _ _
  go_enter Try.func43, Try.ntmps43
  go_wp2_with (first | (with_reducible show wpList _ _ _ ({ dst := some 7, op := Op.load 33 _, type := _, pos := _, after := _, guard := _ } :: _) _ _; go_must (refine wpList_load_blk rfl _ _ rfl (w.heap.size) 8 rfl 7 _ Try.underlying33 rfl sz_rng _ _ hWa rfl [.int .u8 crsrc, .int .u8 crdst, .int .u32 crseq, .int .u64 crlo, .int .u64 crhi, .slice crra crrn crrc, .slice crda crdn crdc] rfl ?_)) | (with_reducible show wpList _ _ _ ({ dst := some 9, op := Op.load 33 _, type := _, pos := _, after := _, guard := _ } :: _) _ _; go_must (refine wpList_load_blk rfl _ _ rfl (w.heap.size + 1) 8 rfl 7 _ Try.underlying33 rfl sz_rng _ _ hWb rfl [.int .u8 crsrc, .int .u8 crdst, .int .u32 crseq, .int .u64 crlo, .int .u64 crhi, .slice drra drrn drrc, .slice drda drdn drdc] rfl ?_)) | (go_at_call 44; go_must (refine (samerange_any _ _ _ _ _ _ _ _ _ _ _ _ _ _ _ _ _ crrows crdups _ (h1.later hT) (h2.later hT) (h3.later hT) (h4.later hT)).mono ?_; rintro e w1 ⟨rfl, hbel1⟩; have hT1 := later_trans hT hbel1; have hW1a := blk_later hbel1 hWa; have hW1b := blk_later hbel1 hWb; have hB1a := blk_cell hW1a; have hB1b := blk_cell hW1b)) | (with_reducible show wpList _ _ _ ({ dst := some 21, op := Op.load 25 _, type := _, pos := _, after := _, guard := _ } :: _) _ _; go_must (refine wpList_load_blk rfl _ _ rfl (w.heap.size) 1 rfl 7 _ Try.underlying25 rfl sz_req _ _ hW1a rfl [.int .u8 cqc, .int .u32 cqs, .int .u8 cqk, .int .u64 cqkey, .int .u64 cqv, .int .u64 cqhi, .int .u8 cqto] rfl ?_)) | (with_reducible show wpList _ _ _ ({ dst := some 23, op := Op.load 25 _, type := _, pos := _, after := _, guard := _ } :: _) _ _; go_must (refine wpList_load_blk rfl _ _ rfl (w.heap.size + 1) 1 rfl 7 _ Try.underlying25 rfl sz_req _ _ hW1b rfl [.int .u8 cqc, .int .u32 cqs, .int .u8 cqk, .int .u64 cqkey, .int .u64 cqv, .int .u64 cqhi, .int .u8 cqto] rfl ?_)))
  go_ret
  exact ⟨rfl, hT1⟩

end Go.Proofs.Ytignemioillaiaa

