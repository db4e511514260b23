/- Package wire: votes, all of them, put behind bytes. -/
import Derived.Test.YtignemioillaiaaB4
namespace Go.Proofs.Ytignemioillaiaa
open Go.RowKit

def Cmd.short (c : Cmd) : Prop := c.kind = 2 → c.rng.rows.length ≤ 255 ∧ c.rng.dups.length ≤ 255

theorem Vot.len (x : Vot) (h : x.cmd.short) : x.bytes.length ≤ 12100 := by
  have := x.cmd.len (fun k => (h k).1) (fun k => (h k).2)
  simp only [Vot.bytes, ballotBytes, List.length_append, be32_len, List.length_cons, List.length_nil]; omega

theorem votes_len (votes : List Vot) (h : ∀ (i : Nat) (x : Vot), votes[i]? = some x → x.cmd.short) (k : Nat) : (((votes.take k).map Vot.bytes).flatten).length ≤ 12100 * k := by
  induction k with
  | zero => simp
  | succ k ih =>
    cases hx : votes[k]? with
    | none =>
      have hk := List.getElem?_eq_none_iff.1 hx
      rw [List.take_of_length_le (by omega)] at ih ⊢; omega
    | some x =>
      rw [flat_take Vot.bytes votes k x hx, List.length_append]
      have := x.len (h k x hx); omega

set_option maxHeartbeats 400000 in
set_option maxRecDepth 100000 in
theorem putvotes_any (base : Nat) (v : Value) (l : List Int) (ra : Option Addr) (rn rc : Nat) (xs : List Vot) (w : World) (hown : OwnB base w v l) (hb0 : base ≤ w.heap.size) (hl : l.length < 1600000000)
    (hin : VotesIn base w ⟨ra, rn, rc⟩ xs) (h255 : xs.length ≤ 255) (hwf : ∀ (i : Nat) (x : Vot), xs[i]? = some x → x.wf) (hsh : ∀ (i : Nat) (x : Vot), xs[i]? = some x → x.cmd.short) :
    Calls Try.prog 80 #[v, .slice ra rn rc, .func (.func 81) #[] #[]] w fun e w' => ∃ v', e = .returned v' ∧ OwnB base w' v' (l ++ ([(xs.length : Int)] ++ votesBytes xs)) ∧ Grew w v w' v' := by
  have hlen : rn = xs.length := by simpa using hin.sl.len
  have hr255 : rn ≤ 255 := by omega
  have HL : Hid (rn = xs.length) := hlen
  have HW : Hid (∀ (i : Nat) (x : Vot), xs[i]? = some x → x.wf) := hwf
  have HS : Hid (∀ (i : Nat) (x : Vot), xs[i]? = some x → x.cmd.short) := hsh
  clear hlen hwf h255 hsh
  go_enter Try.func80, Try.ntmps80
  go_wp2_with (go_at_call 76; go_must (refine (put8_any base _ _ _ _ hown hb0 (by omega)).mono ?_; rintro e w0 ⟨v0, rfl, hown0, hg0⟩))
  have hb1 : base ≤ w0.heap.size := Nat.le_trans hb0 hg0.grown.size
  go_loopw [0, 16] (fun vb i wr => ∃ k : Nat, k ≤ rn ∧ i = .int .i64 k ∧ OwnB base wr vb (l ++ [(rn : Int)] ++ ((xs.take k).map Vot.bytes).flatten) ∧ Grew w v wr vb ∧ base ≤ wr.heap.size) (fun _ i _ => rn - (intOf i).toNat)
  case atStart => exact ⟨0, Nat.zero_le _, rfl, own_eq hown0 (by simp), hg0, hb1⟩
  case round =>
    obtain ⟨k, hk, rfl, hor, hgr, hbr⟩ := hrel
    by_cases hlt : k < rn
    · obtain ⟨x, hx⟩ : ∃ x, xs[k]? = some x := ⟨xs[k]'(by rw [← HL.out]; exact hlt), by simp⟩
      have hS := hin.below (hgr.below hown hb0) (Nat.le_refl _)
      obtain ⟨b, off, ha, hbB, hc⟩ := hS.sl.el (i := k) (x := x.cells) (by simp [hx])
      have hR := hS.all k x hx
      obtain rfl : ra = some ⟨b, off, none⟩ := ha
      have hxw := HW.out k x hx
      have hxs := HS.out k x hx
      have HX : Hid (xs[k]? = some x) := hx
      have hln : (((xs.take k).map Vot.bytes).flatten).length ≤ 12100 * k := votes_len xs HS.out k
      clear hx
      obtain ⟨yslot, yn, yid, ⟨yckind, ⟨ycqc, ycqs, ycqk, ycqkey, ycqv, ycqhi, ycqto⟩, ⟨ycrsrc, ycrdst, ycrseq, ycrlo, ycrhi, ⟨ycrra, ycrrn, ycrrc⟩, ⟨ycrda, ycrdn, ycrdc⟩, ycrrows, ycrdups⟩, ycpeer, ycsq⟩⟩ := x
      simp only [Vot.cells, Cmd.cells, Req.cells, Rng.cells, Sl.val, List.cons_append, List.nil_append] at hc
      have hW := heap_alloc_new wr (.cells #[.int .u32 0, .int .u32 0, .int .u8 0, .int .u8 0, .int .u8 0, .int .u32 0, .int .u8 0, .int .u64 0, .int .u64 0, .int .u64 0, .int .u8 0, .int .u8 0, .int .u8 0, .int .u32 0, .int .u64 0, .int .u64 0, .slice none 0 0, .slice none 0 0, .int .u8 0, .int .u32 0] 84)
      have hG := Grew.alloc wr u0 (.cells #[.int .u32 0, .int .u32 0, .int .u8 0, .int .u8 0, .int .u8 0, .int .u32 0, .int .u8 0, .int .u64 0, .int .u64 0, .int .u64 0, .int .u8 0, .int .u8 0, .int .u8 0, .int .u32 0, .int .u64 0, .int .u64 0, .slice none 0 0, .slice none 0 0, .int .u8 0, .int .u32 0] 84)
      have hoA : OwnB base (wr.alloc (.cells #[.int .u32 0, .int .u32 0, .int .u8 0, .int .u8 0, .int .u8 0, .int .u32 0, .int .u8 0, .int .u64 0, .int .u64 0, .int .u64 0, .int .u8 0, .int .u8 0, .int .u8 0, .int .u32 0, .int .u64 0, .int .u64 0, .slice none 0 0, .slice none 0 0, .int .u8 0, .int .u32 0] 84)) u0 _ := World.ownsRow.alloc hor _
      have HXS : Hid (Cmd.short (Cmd.mk yckind (Req.mk ycqc ycqs ycqk ycqkey ycqv ycqhi ycqto) (Rng.mk ycrsrc ycrdst ycrseq ycrlo ycrhi ⟨ycrra, ycrrn, ycrrc⟩ ⟨ycrda, ycrdn, ycrdc⟩ ycrrows ycrdups) ycpeer ycsq)) := hxs
      clear hxs
      go_wp2_with (first | (with_reducible show wpList _ _ _ ({ dst := some 19, op := Op.load 84 _, type := _, pos := _, after := _, guard := none } :: _) _ _; go_must (refine wpList_load_mem rfl _ _ rfl b (off + k * 20) rfl 20 _ Try.underlying84 rfl sz_vot [.int .u32 yslot, .int .u32 yn, .int .u8 yid, .int .u8 yckind, .int .u8 ycqc, .int .u32 ycqs, .int .u8 ycqk, .int .u64 ycqkey, .int .u64 ycqv, .int .u64 ycqhi, .int .u8 ycqto, .int .u8 ycrsrc, .int .u8 ycrdst, .int .u32 ycrseq, .int .u64 ycrlo, .int .u64 ycrhi, .slice ycrra ycrrn ycrrc, .slice ycrda ycrdn ycrdc, .int .u8 ycpeer, .int .u32 ycsq] rfl hc ?_)) | (with_reducible show wpList _ _ _ ({ dst := _, op := Op.store 84 _ _, type := _, pos := _, after := _, guard := none } :: _) _ _; go_must (refine wpList_store_blk rfl _ _ _ rfl rfl wr.heap.size 0 rfl [.int .u32 yslot, .int .u32 yn, .int .u8 yid, .int .u8 yckind, .int .u8 ycqc, .int .u32 ycqs, .int .u8 ycqk, .int .u64 ycqkey, .int .u64 ycqv, .int .u64 ycqhi, .int .u8 ycqto, .int .u8 ycrsrc, .int .u8 ycrdst, .int .u32 ycrseq, .int .u64 ycrlo, .int .u64 ycrhi, .slice ycrra ycrrn ycrrc, .slice ycrda ycrdn ycrdc, .int .u8 ycpeer, .int .u32 ycsq] rfl _ sz_vot rfl rfl _ _ hW rfl [.int .u32 yslot, .int .u32 yn, .int .u8 yid, .int .u8 yckind, .int .u8 ycqc, .int .u32 ycqs, .int .u8 ycqk, .int .u64 ycqkey, .int .u64 ycqv, .int .u64 ycqhi, .int .u8 ycqto, .int .u8 ycrsrc, .int .u8 ycrdst, .int .u32 ycrseq, .int .u64 ycrlo, .int .u64 ycrhi, .slice ycrra ycrrn ycrrc, .slice ycrda ycrdn ycrdc, .int .u8 ycpeer, .int .u32 ycsq] rfl ?_; intro w2 hW2 hO2; have ho2 := own_only hoA hO2 hor.ne; have hG2 := grew_only hG hO2 (Nat.le_refl _); have hb2 := Nat.le_trans hbr hG2.grown.size)) | (with_reducible show wpList _ _ _ ({ dst := some 22, op := Op.load 84 _, type := _, pos := _, after := _, guard := none } :: _) _ _; go_must (refine wpList_load_blk rfl _ _ rfl wr.heap.size 0 rfl 20 _ Try.underlying84 rfl sz_vot _ _ hW2 rfl [.int .u32 yslot, .int .u32 yn, .int .u8 yid, .int .u8 yckind, .int .u8 ycqc, .int .u32 ycqs, .int .u8 ycqk, .int .u64 ycqkey, .int .u64 ycqv, .int .u64 ycqhi, .int .u8 ycqto, .int .u8 ycrsrc, .int .u8 ycrdst, .int .u32 ycrseq, .int .u64 ycrlo, .int .u64 ycrhi, .slice ycrra ycrrn ycrrc, .slice ycrda ycrdn ycrdc, .int .u8 ycpeer, .int .u32 ycsq] rfl ?_)) | (go_at_call 81; go_must (refine (putvote_any base _ _ _ _ _ _ _ _ _ _ _ _ _ _ _ _ _ _ _ _ _ _ _ _ _ _ ycrrows ycrdups _ ho2 hb2 (by simp only [List.length_append, List.length_cons, List.length_nil]; omega) (hR.rows.below (hG2.below hor hbr) (Nat.le_refl _)) (hR.dups.below (hG2.below hor hbr) (Nat.le_refl _)) (fun e => (HXS.out e).1) (fun e => (HXS.out e).2) hxw).mono ?_; rintro e w3 ⟨v3, rfl, ho3, hg3⟩)))
      go_roundw
      case rel => exact ⟨k + 1, by omega, by go_num, own_eq ho3 (by rw [flat_take Vot.bytes xs k _ HX.out]; simp only [List.append_assoc]), hgr.trans (hG2.trans hg3), Nat.le_trans hb2 hg3.grown.size⟩
      case measure => simp [intOf]; omega
    · go_wp2
      go_ret
      obtain rfl : k = rn := by omega
      refine ⟨_, rfl, own_eq hor ?_, hgr⟩
      have := HL.out
      rw [this, List.take_length]; simp [votesBytes]

end Go.Proofs.Ytignemioillaiaa
