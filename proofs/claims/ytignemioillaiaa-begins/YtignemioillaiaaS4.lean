/- sameShard of two shards that are begun. -/
import Derived.Test.YtignemioillaiaaS3
import Derived.Test.YtignemioillaiaaN10
import Derived.Test.YtignemioillaiaaE3
namespace Go.Proofs.Ytignemioillaiaa
open Go.RowKit

theorem nil_in (w : World) (size : Nat) : SlIn w.heap.size w ⟨none, 0, 0⟩ size [] := ⟨rfl, Nat.le_refl _, Nat.zero_le _, fun h => absurd h (Nat.lt_irrefl 0)⟩

theorem SlIn.atL {B : Nat} {w : World} {s : Sl} {k i : Nat} {n : Int} (h : SlIn B w s 2 (List.replicate k [Value.int .u32 n, .slice none 0 0])) (hi : i < k) :
    ∃ b off, s.a = some ⟨b, off, none⟩ ∧ b < B ∧ w.cell? ⟨b, off + i * 2, none⟩ = some (.int .u32 n) ∧ w.cell? ⟨b, off + i * 2 + 1, none⟩ = some (.slice none 0 0) := by
  obtain ⟨b, off, ha, hlt, hc⟩ := h.at' (by rw [h.len]; simp; omega)
  have := hc i [Value.int .u32 n, .slice none 0 0] (by simp [hi])
  exact ⟨b, off, ha, hlt, this 0 _ rfl, this 1 _ rfl⟩
theorem SlIn.at1 {B : Nat} {w : World} {s : Sl} {k i : Nat} {v : Value} (h : SlIn B w s 1 (List.replicate k [v])) (hi : i < k) :
    ∃ b off, s.a = some ⟨b, off, none⟩ ∧ b < B ∧ w.cell? ⟨b, off + i, none⟩ = some v := by
  obtain ⟨b, off, ha, hlt, hc⟩ := h.at' (by rw [h.len]; simp; omega)
  have := hc i [v] (by simp [hi])
  have h0 := this 0 _ rfl
  rw [Nat.mul_one, Nat.add_zero] at h0
  exact ⟨b, off, ha, hlt, h0⟩

set_option maxHeartbeats 4000000 in
set_option maxRecDepth 100000 in
theorem sameshard_begun (g n : Int) (m : List Pc) (k : Nat) (ma : Option Addr) (mn mc : Nat) (oa : Option Addr) (on oc : Nat) (ia : Option Addr) (il ic : Nat) (ma' : Option Addr) (mn' mc' : Nat) (oa' : Option Addr) (on' oc' : Nat) (ia' : Option Addr) (il' ic' : Nat) (w : World)
    (hM : MapIn w ma mn mc m) (hO : SlIn w.heap.size w ⟨oa, on, oc⟩ 2 (List.replicate k [Value.int .u32 1, .slice none 0 0])) (hI : SlIn w.heap.size w ⟨ia, il, ic⟩ 1 (List.replicate k [Value.int .u32 0]))
    (hM' : MapIn w ma' mn' mc' m) (hO' : SlIn w.heap.size w ⟨oa', on', oc'⟩ 2 (List.replicate k [Value.int .u32 1, .slice none 0 0])) (hI' : SlIn w.heap.size w ⟨ia', il', ic'⟩ 1 (List.replicate k [Value.int .u32 0])) (hk : k ≤ 4) :
    Calls Try.prog 25 #[.agg #[.int .u8 g, .int .u8 n, .slice none 0 0, .slice ma mn mc, .slice none 0 0, .slice oa on oc, .slice ia il ic], .agg #[.int .u8 g, .int .u8 n, .slice none 0 0, .slice ma' mn' mc', .slice none 0 0, .slice oa' on' oc', .slice ia' il' ic']] w fun e w' => e = .returned (.bool true) ∧ Below w.heap.size w w' := by
  obtain rfl : on = k := by simpa using hO.len
  obtain rfl : on' = on := by simpa using hO'.len
  obtain rfl : il = on' := by simpa using hI.len
  obtain rfl : il' = il := by simpa using hI'.len
  have hW1 : ((w.alloc (.cells #[.int .u8 g, .int .u8 n, .slice none 0 0, .slice ma mn mc, .slice none 0 0, .slice oa il' oc, .slice ia il' ic] 74)).alloc (.cells #[.int .u8 g, .int .u8 n, .slice none 0 0, .slice ma' mn' mc', .slice none 0 0, .slice oa' il' oc', .slice ia' il' ic'] 74)).heap[w.heap.size]? = some (.cells #[.int .u8 g, .int .u8 n, .slice none 0 0, .slice ma mn mc, .slice none 0 0, .slice oa il' oc, .slice ia il' ic] 74) := heap_alloc2_old w _ _
  have hW2 : ((w.alloc (.cells #[.int .u8 g, .int .u8 n, .slice none 0 0, .slice ma mn mc, .slice none 0 0, .slice oa il' oc, .slice ia il' ic] 74)).alloc (.cells #[.int .u8 g, .int .u8 n, .slice none 0 0, .slice ma' mn' mc', .slice none 0 0, .slice oa' il' oc', .slice ia' il' ic'] 74)).heap[w.heap.size + 1]? = some (.cells #[.int .u8 g, .int .u8 n, .slice none 0 0, .slice ma' mn' mc', .slice none 0 0, .slice oa' il' oc', .slice ia' il' ic'] 74) := heap_alloc2_new w _ _
  have hT : Below w.heap.size w ((w.alloc (.cells #[.int .u8 g, .int .u8 n, .slice none 0 0, .slice ma mn mc, .slice none 0 0, .slice oa il' oc, .slice ia il' ic] 74)).alloc (.cells #[.int .u8 g, .int .u8 n, .slice none 0 0, .slice ma' mn' mc', .slice none 0 0, .slice oa' il' oc', .slice ia' il' ic'] 74)) := later_trans (later_alloc _ _) (later_alloc _ _)
  go_enter Try.func25, Try.ntmps25
  go_upto_region 1 with fail
  generalize ((w.alloc (.cells #[.int .u8 g, .int .u8 n, .slice none 0 0, .slice ma mn mc, .slice none 0 0, .slice oa il' oc, .slice ia il' ic] 74)).alloc (.cells #[.int .u8 g, .int .u8 n, .slice none 0 0, .slice ma' mn' mc', .slice none 0 0, .slice oa' il' oc', .slice ia' il' ic'] 74)) = W at *
  have hc1 := blk_cell hW1
  have hc2 := blk_cell hW2
  have HW1 := hideS hW1
  have HW2 := hideS hW2
  have HT := hideS hT
  clear hW1 hW2 hT
  go_upto_region 4 with (first | (go_at_call 61; go_must (refine (samerows_any none 0 0 none 0 0 [] _ (nil_in _ _) (nil_in _ _)).mono ?_; rintro e w1 ⟨rfl, hb1⟩; have hc1' := blk_cell (blk_later hb1 HW1.out); have hc2' := blk_cell (blk_later hb1 HW2.out); clear hc1 hc2; have hT1 := later_trans HT.out hb1)) | (go_at_call 22; go_must (refine (samepieces_any _ _ _ _ _ _ m _ (hM.later hT1) (hM'.later hT1)).mono ?_; rintro e w2 ⟨rfl, hb2⟩; have hc1 := blk_cell (blk_later hb2 (blk_later hb1 HW1.out)); have hc2 := blk_cell (blk_later hb2 (blk_later hb1 HW2.out)); clear hc1' hc2'; have hT2 := later_trans hT1 hb2)) | (go_at_call 62; go_must (refine (samedups_any none 0 0 none 0 0 [] _ (nil_in _ _) (nil_in _ _)).mono ?_; rintro e w3 ⟨rfl, hb3⟩; have hW31 := blk_later hb3 (blk_later hb2 (blk_later hb1 HW1.out)); have hW32 := blk_later hb3 (blk_later hb2 (blk_later hb1 HW2.out)); have hT3 := later_trans hT2 hb3; clear hc1 hc2)))
  have HW31 := hideS hW31
  have HW32 := hideS hW32
  clear HW1 HW2 HT hb1 hb2 hb3 hT1 hT2
  have hd1 := blk_cell hW31
  have hd2 := blk_cell hW32
  clear hW31 hW32
  go_wp2_with fail
  go_loopw [8] (fun i wr => ∃ j : Nat, j ≤ il' ∧ i = .int .i64 j ∧ Below w3.heap.size w3 wr) (fun i _ => il' - (intOf i).toNat)
  case atStart => exact ⟨0, Nat.zero_le _, rfl, Below.refl _ _⟩
  case round =>
    clear hd1 hd2
    obtain ⟨j, hj, rfl, hnx⟩ := hrel
    have hd1 := blk_cell (blk_later hnx HW31.out)
    have hd2 := blk_cell (blk_later hnx HW32.out)
    by_cases hlt : j < il'
    · have hdk : decide ((j : Int) < (il' : Int)) = true := by simp; omega
      obtain ⟨b, off, ha, hbB, hc0⟩ := (hI.later (hT3.trans (hnx.mono hT3.size))).at1 hlt
      obtain ⟨b', off', ha', hbB', hc0'⟩ := (hI'.later (hT3.trans (hnx.mono hT3.size))).at1 hlt
      obtain rfl : ia = some ⟨b, off, none⟩ := ha
      obtain rfl : ia' = some ⟨b', off', none⟩ := ha'
      have hi0 : (0 : Int) ≤ (j : Int) := by omega
      have hi1 : (j : Int) < (il' : Int) := by omega
      go_wp2_with fail
      go_quiet (fail)
      go_wp2
      go_roundw
      case rel => exact ⟨j + 1, by omega, by go_num, below_drewN hnx _⟩
      case measure => simp [intOf]; omega
    · have hdk : decide ((j : Int) < (il' : Int)) = false := by simp; omega
      have hnx1 := hnx
      go_wp2_with fail
      clear hlt hj
      go_loopw [9] (fun i wr2 => ∃ j : Nat, j ≤ il' ∧ i = .int .i64 j ∧ Below w3.heap.size w3 wr2) (fun i _ => il' - (intOf i).toNat)
      case atStart => exact ⟨0, Nat.zero_le _, rfl, hnx1⟩
      case round =>
        clear hd1 hd2 hnx1 hnx hdk
        obtain ⟨q, hq, rfl, hnx⟩ := hrel
        have hd1 := blk_cell (blk_later hnx HW31.out)
        have hd2 := blk_cell (blk_later hnx HW32.out)
        by_cases hlt : q < il'
        · have hdk : decide ((q : Int) < (il' : Int)) = true := by simp; omega
          obtain ⟨b, off, ha, hbB, hc0, hc1⟩ := (hO.later (hT3.trans (hnx.mono hT3.size))).atL hlt
          obtain ⟨b', off', ha', hbB', hc0', hc1'⟩ := (hO'.later (hT3.trans (hnx.mono hT3.size))).atL hlt
          obtain rfl : oa = some ⟨b, off, none⟩ := ha
          obtain rfl : oa' = some ⟨b', off', none⟩ := ha'
          have hi0 : (0 : Int) ≤ (q : Int) := by omega
          have hi1 : (q : Int) < (il' : Int) := by omega
          go_wp2_with fail
          go_quiet (fail)
          have hnq := below_drewN hnx nq
          go_wp2_with fail
          go_loopw [10] (fun i wr3 => i = .int .i64 0 ∧ Below w3.heap.size w3 wr3) (fun _ _ => 0)
          case atStart => exact ⟨rfl, hnq⟩
          case round =>
            clear hd1 hd2 hc0 hc1 hc0' hc1' hnq hnx
            obtain ⟨rfl, hnx⟩ := hrel
            have hd1 := blk_cell (blk_later hnx HW31.out)
            have hd2 := blk_cell (blk_later hnx HW32.out)
            obtain ⟨b1, off1, ha, hbB, hc0, hc1⟩ := (hO.later (hT3.trans (hnx.mono hT3.size))).atL hlt
            simp only [Option.some.injEq, Addr.mk.injEq, and_true] at ha
            obtain ⟨rfl, rfl⟩ := ha
            go_wp2_with fail
            go_roundw
            case rel => exact ⟨q + 1, by omega, by go_num, hnx⟩
            case measure => simp [intOf]; omega
        · have hdk : decide ((q : Int) < (il' : Int)) = false := by simp; omega
          go_wp2
          go_ret
          exact ⟨rfl, hT3.trans (hnx.mono hT3.size)⟩

end Go.Proofs.Ytignemioillaiaa
