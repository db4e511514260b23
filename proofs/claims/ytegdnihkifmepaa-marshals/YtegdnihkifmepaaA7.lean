/- Package right: votes. -/
import Derived.Test.YtegdnihkifmepaaA6
import Derived.Test.YtegdnihkifmepaaD3
namespace Go.Proofs.Ytegdnihkifmepaa
open Go.RowKit

theorem blk_drewN {w : World} {B : Nat} {o : Option Obj} (h : w.heap[B]? = o) (n : Nat) : (w.drewN n).heap[B]? = o := h

set_option maxHeartbeats 1000000 in
set_option maxRecDepth 100000 in
theorem votes_any (va : Option Addr) (vn vc : Nat) (votes : List Vot) (w : World) (h : VotesIn w.heap.size w ⟨va, vn, vc⟩ votes) :
    Calls Try.prog 57 #[.slice va vn vc] w fun e w' => e = .returned (.bool (votesOk votes)) ∧ Below w.heap.size w w' := by
  have hlen : vn = votes.length := by simpa using h.sl.len
  have hlm : vn ≤ maxLen := Nat.le_trans h.sl.le h.sl.max
  unfold maxLen at hlm
  have HL : Hid (vn = votes.length) := hlen
  clear hlen
  go_enter Try.func57, Try.ntmps57
  go_wp2_with fail
  · go_ret
    exact ⟨ret_bool (by have := HL.out; simp [votesOk]; omega), Below.refl _ _⟩
  · go_loopw [10] (fun i wr => ∃ k : Nat, k ≤ vn ∧ i = .int .i64 k ∧ (List.range k).all (voteAt votes) = true ∧ Below w.heap.size w wr) (fun i _ => vn - (intOf i).toNat)
    case atStart => exact ⟨0, Nat.zero_le _, rfl, by simp, Below.refl _ _⟩
    case round =>
      obtain ⟨k, hk, rfl, hall, hnx⟩ := hrel
      have HA : Hid ((List.range k).all (voteAt votes) = true) := hall
      clear hall
      by_cases hlt : k < vn
      · obtain ⟨x, hx⟩ : ∃ x, votes[k]? = some x := ⟨votes[k]'(by rw [← HL.out]; exact hlt), by simp⟩
        have hS := h.later hnx
        obtain ⟨b, off, ha, hbB, hc⟩ := hS.sl.el (i := k) (x := x.cells) (by simp [hx])
        have hR := hS.all k x hx
        obtain rfl : va = some ⟨b, off, none⟩ := ha
        have HX : Hid (votes[k]? = some x) := hx
        clear hx
        obtain ⟨xslot, xn, xid, ⟨xckind, ⟨xcqc, xcqs, xcqk, xcqkey, xcqv, xcqhi, xcqto⟩, ⟨xcrsrc, xcrdst, xcrseq, xcrlo, xcrhi, ⟨xcrra, xcrrn, xcrrc⟩, ⟨xcrda, xcrdn, xcrdc⟩, xcrrows, xcrdups⟩, xcpeer, xcsq⟩⟩ := x
        simp only [Vot.cells, Cmd.cells, Req.cells, Rng.cells, Sl.val, List.cons_append, List.nil_append] at hc
        have hW := heap_alloc_new wr (.cells #[.int .u32 0, .int .u32 0, .int .u8 0, .int .u8 0, .int .u8 0, .int .u32 0, .int .u8 0, .int .u64 0, .int .u64 0, .int .u64 0, .int .u8 0, .int .u8 0, .int .u8 0, .int .u32 0, .int .u64 0, .int .u64 0, .slice none 0 0, .slice none 0 0, .int .u8 0, .int .u32 0] 76)
        have hT := later_alloc wr (.cells #[.int .u32 0, .int .u32 0, .int .u8 0, .int .u8 0, .int .u8 0, .int .u32 0, .int .u8 0, .int .u64 0, .int .u64 0, .int .u64 0, .int .u8 0, .int .u8 0, .int .u8 0, .int .u32 0, .int .u64 0, .int .u64 0, .slice none 0 0, .slice none 0 0, .int .u8 0, .int .u32 0] 76)
        by_cases hk0 : 0 < k
        · obtain ⟨y, hy⟩ : ∃ y, votes[k - 1]? = some y := ⟨votes[k - 1]'(by rw [← HL.out]; omega), by simp⟩
          obtain ⟨b', off', ha', _, hd⟩ := hS.sl.el (i := k - 1) (x := y.cells) (by simp [hy])
          simp only [Option.some.injEq, Addr.mk.injEq, and_true] at ha'
          obtain ⟨rfl, rfl⟩ := ha'
          have hd0 := hd 0 (.int .u32 y.slot) rfl
          have HY : Hid (votes[k - 1]? = some y) := hy
          clear hy hd
          simp only [Nat.add_zero] at hd0
          go_wp2_with (first | (with_reducible show wpList _ _ _ ({ dst := _, op := Op.load 76 _, type := _, pos := _, after := _, guard := none } :: _) _ _; go_must (refine wpList_load_mem rfl _ _ rfl b (off + k * 20) rfl 20 _ Try.underlying76 rfl sz_vot [.int .u32 xslot, .int .u32 xn, .int .u8 xid, .int .u8 xckind, .int .u8 xcqc, .int .u32 xcqs, .int .u8 xcqk, .int .u64 xcqkey, .int .u64 xcqv, .int .u64 xcqhi, .int .u8 xcqto, .int .u8 xcrsrc, .int .u8 xcrdst, .int .u32 xcrseq, .int .u64 xcrlo, .int .u64 xcrhi, .slice xcrra xcrrn xcrrc, .slice xcrda xcrdn xcrdc, .int .u8 xcpeer, .int .u32 xcsq] rfl hc ?_)) | (with_reducible show wpList _ _ _ ({ dst := _, op := Op.store 76 _ _, type := _, pos := _, after := _, guard := none } :: _) _ _; go_must (refine wpList_store_blk rfl _ _ _ rfl rfl wr.heap.size 0 rfl [.int .u32 xslot, .int .u32 xn, .int .u8 xid, .int .u8 xckind, .int .u8 xcqc, .int .u32 xcqs, .int .u8 xcqk, .int .u64 xcqkey, .int .u64 xcqv, .int .u64 xcqhi, .int .u8 xcqto, .int .u8 xcrsrc, .int .u8 xcrdst, .int .u32 xcrseq, .int .u64 xcrlo, .int .u64 xcrhi, .slice xcrra xcrrn xcrrc, .slice xcrda xcrdn xcrdc, .int .u8 xcpeer, .int .u32 xcsq] rfl _ sz_vot rfl rfl _ _ hW rfl [.int .u32 xslot, .int .u32 xn, .int .u8 xid, .int .u8 xckind, .int .u8 xcqc, .int .u32 xcqs, .int .u8 xcqk, .int .u64 xcqkey, .int .u64 xcqv, .int .u64 xcqhi, .int .u8 xcqto, .int .u8 xcrsrc, .int .u8 xcrdst, .int .u32 xcrseq, .int .u64 xcrlo, .int .u64 xcrhi, .slice xcrra xcrrn xcrrc, .slice xcrda xcrdn xcrdc, .int .u8 xcpeer, .int .u32 xcsq] rfl ?_; intro w2 hW2 hO2; have hT2 := hT.trans (hO2.below (Nat.le_refl _)); have hB2 := blk_cell hW2; have he0 := (later_cell hT2 hbB _).trans hd0)))
          go_quiet (fail)
          go_wp2_with (first | (with_reducible show wpList _ _ _ ({ dst := _, op := Op.load 35 _, type := _, pos := _, after := _, guard := none } :: _) _ _; go_must (refine wpList_load_blk rfl _ _ rfl wr.heap.size 3 rfl 17 _ Try.underlying35 rfl sz_cmd _ _ (blk_drewN hW2 _) rfl [.int .u8 xckind, .int .u8 xcqc, .int .u32 xcqs, .int .u8 xcqk, .int .u64 xcqkey, .int .u64 xcqv, .int .u64 xcqhi, .int .u8 xcqto, .int .u8 xcrsrc, .int .u8 xcrdst, .int .u32 xcrseq, .int .u64 xcrlo, .int .u64 xcrhi, .slice xcrra xcrrn xcrrc, .slice xcrda xcrdn xcrdc, .int .u8 xcpeer, .int .u32 xcsq] rfl ?_)) | (go_at_call 58; go_must (refine (command_any _ _ _ _ _ _ _ _ _ _ _ _ _ _ _ _ _ _ _ _ _ xcrrows xcrdups _ (hR.rows.later (below_drewN hT2 _)) (hR.dups.later (below_drewN hT2 _))).mono ?_; rintro e w3 ⟨rfl, hbel3⟩)))
          · go_ret
            exact ⟨ret_bool (votes_bad (k := k) (by rw [← HL.out]; exact hlt) (voteAt_prev HX.out hk0 HY.out (by assumption))).symm, later_trans hnx (below_drewN hT2 _)⟩
          · go_ret
            exact ⟨ret_bool (votes_bad (k := k) (by rw [← HL.out]; exact hlt) (voteAt_nok HX.out (by first | assumption | simp_all))).symm, later_trans hnx (later_trans (below_drewN hT2 _) hbel3)⟩
          · go_roundw
            case rel => exact ⟨k + 1, by omega, by go_num, all_next HA.out (voteAt_good HX.out (by first | assumption | simp_all) (.inr ⟨_, HY.out, by assumption⟩)), later_trans hnx (later_trans (below_drewN hT2 _) hbel3)⟩
            case measure => simp [intOf]; omega
        · have hd : decide ((0 : Int) < (k : Int)) = false := by simp; omega
          go_wp2_with (first | (with_reducible show wpList _ _ _ ({ dst := _, op := Op.load 76 _, type := _, pos := _, after := _, guard := none } :: _) _ _; go_must (refine wpList_load_mem rfl _ _ rfl b (off + k * 20) rfl 20 _ Try.underlying76 rfl sz_vot [.int .u32 xslot, .int .u32 xn, .int .u8 xid, .int .u8 xckind, .int .u8 xcqc, .int .u32 xcqs, .int .u8 xcqk, .int .u64 xcqkey, .int .u64 xcqv, .int .u64 xcqhi, .int .u8 xcqto, .int .u8 xcrsrc, .int .u8 xcrdst, .int .u32 xcrseq, .int .u64 xcrlo, .int .u64 xcrhi, .slice xcrra xcrrn xcrrc, .slice xcrda xcrdn xcrdc, .int .u8 xcpeer, .int .u32 xcsq] rfl hc ?_)) | (with_reducible show wpList _ _ _ ({ dst := _, op := Op.store 76 _ _, type := _, pos := _, after := _, guard := none } :: _) _ _; go_must (refine wpList_store_blk rfl _ _ _ rfl rfl wr.heap.size 0 rfl [.int .u32 xslot, .int .u32 xn, .int .u8 xid, .int .u8 xckind, .int .u8 xcqc, .int .u32 xcqs, .int .u8 xcqk, .int .u64 xcqkey, .int .u64 xcqv, .int .u64 xcqhi, .int .u8 xcqto, .int .u8 xcrsrc, .int .u8 xcrdst, .int .u32 xcrseq, .int .u64 xcrlo, .int .u64 xcrhi, .slice xcrra xcrrn xcrrc, .slice xcrda xcrdn xcrdc, .int .u8 xcpeer, .int .u32 xcsq] rfl _ sz_vot rfl rfl _ _ hW rfl [.int .u32 xslot, .int .u32 xn, .int .u8 xid, .int .u8 xckind, .int .u8 xcqc, .int .u32 xcqs, .int .u8 xcqk, .int .u64 xcqkey, .int .u64 xcqv, .int .u64 xcqhi, .int .u8 xcqto, .int .u8 xcrsrc, .int .u8 xcrdst, .int .u32 xcrseq, .int .u64 xcrlo, .int .u64 xcrhi, .slice xcrra xcrrn xcrrc, .slice xcrda xcrdn xcrdc, .int .u8 xcpeer, .int .u32 xcsq] rfl ?_; intro w2 hW2 hO2; have hT2 := hT.trans (hO2.below (Nat.le_refl _)); have hB2 := blk_cell hW2)))
          go_quiet (fail)
          go_wp2_with (first | (with_reducible show wpList _ _ _ ({ dst := _, op := Op.load 35 _, type := _, pos := _, after := _, guard := none } :: _) _ _; go_must (refine wpList_load_blk rfl _ _ rfl wr.heap.size 3 rfl 17 _ Try.underlying35 rfl sz_cmd _ _ (blk_drewN hW2 _) rfl [.int .u8 xckind, .int .u8 xcqc, .int .u32 xcqs, .int .u8 xcqk, .int .u64 xcqkey, .int .u64 xcqv, .int .u64 xcqhi, .int .u8 xcqto, .int .u8 xcrsrc, .int .u8 xcrdst, .int .u32 xcrseq, .int .u64 xcrlo, .int .u64 xcrhi, .slice xcrra xcrrn xcrrc, .slice xcrda xcrdn xcrdc, .int .u8 xcpeer, .int .u32 xcsq] rfl ?_)) | (go_at_call 58; go_must (refine (command_any _ _ _ _ _ _ _ _ _ _ _ _ _ _ _ _ _ _ _ _ _ xcrrows xcrdups _ (hR.rows.later (below_drewN hT2 _)) (hR.dups.later (below_drewN hT2 _))).mono ?_; rintro e w3 ⟨rfl, hbel3⟩)))
          · go_ret
            exact ⟨ret_bool (votes_bad (k := k) (by rw [← HL.out]; exact hlt) (voteAt_nok HX.out (by first | assumption | simp_all))).symm, later_trans hnx (later_trans (below_drewN hT2 _) hbel3)⟩
          · go_roundw
            case rel => exact ⟨k + 1, by omega, by go_num, all_next HA.out (voteAt_good HX.out (by first | assumption | simp_all) (.inl (by omega))), later_trans hnx (later_trans (below_drewN hT2 _) hbel3)⟩
            case measure => simp [intOf]; omega
      · go_wp2
        go_ret
        obtain rfl : k = vn := by omega
        exact ⟨ret_bool (by have := HL.out; have h2 := HA.out; rw [this] at h2; simp [votesOk, h2]; omega), hnx⟩

end Go.Proofs.Ytegdnihkifmepaa
