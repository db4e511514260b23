/- Package wire: lists put behind bytes. -/
import Derived.Test.YtegdnihkifmepaaB2
namespace Go.Proofs.Ytegdnihkifmepaa
open Go.RowKit

theorem own_only {base B : Nat} {w w' : World} {v : Value} {l : List Int} (h : OwnB base w v l) (hO : Only B w w') (hne : some B ≠ v.ownBlock) : OwnB base w' v l :=
  World.ownsRow.kept h ⟨hO.os, hO.tape, hO.output, Nat.le_of_eq hO.size.symm, fun k _ hk => hO.block k (fun e => hk (by rw [e]))⟩ (.inr hne.symm)

theorem grew_only {B : Nat} {w W w' : World} {v : Value} (h : Grew w v W v) (hO : Only B W w') (hB : w.heap.size ≤ B) : Grew w v w' v :=
  ⟨⟨hO.os.trans h.grown.os, hO.tape.trans h.grown.tape, hO.output.trans h.grown.output, Nat.le_trans h.grown.size (Nat.le_of_eq hO.size.symm), fun k hk hne => (hO.block k (by omega)).trans (h.grown.block k hk hne)⟩, .inl rfl⟩

set_option maxHeartbeats 400000 in
set_option maxRecDepth 100000 in
theorem putrows_any (base : Nat) (v : Value) (l : List Int) (ra : Option Addr) (rn rc : Nat) (xs : List Row) (w : World) (hown : OwnB base w v l) (hb0 : base ≤ w.heap.size) (hl : l.length < 2000000000)
    (hin : SlIn base w ⟨ra, rn, rc⟩ 2 (xs.map Row.cells)) (h255 : xs.length ≤ 255) (hwf : ∀ (i : Nat) (x : Row), xs[i]? = some x → x.wf) :
    Calls Try.prog 98 #[v, .slice ra rn rc, .func (.func 99) #[] #[]] w fun e w' => ∃ v', e = .returned v' ∧ OwnB base w' v' (l ++ ([(xs.length : Int)] ++ rowsBytes xs)) ∧ Grew w v w' v' := by
  have hlen : rn = xs.length := by simpa using hin.len
  have hr255 : rn ≤ 255 := by omega
  have HL : Hid (rn = xs.length) := hlen
  have HW : Hid (∀ (i : Nat) (x : Row), xs[i]? = some x → x.wf) := hwf
  clear hlen hwf h255
  go_enter Try.func98, Try.ntmps98
  go_wp2_with (go_at_call 62; go_must (refine (put8_any base _ _ _ _ hown hb0 (by omega)).mono ?_; rintro e w0 ⟨v0, rfl, hown0, hg0⟩))
  have hb1 : base ≤ w0.heap.size := Nat.le_trans hb0 hg0.grown.size
  go_loopw [0, 16] (fun vb i wr => ∃ k : Nat, k ≤ rn ∧ i = .int .i64 k ∧ OwnB base wr vb (l ++ [(rn : Int)] ++ ((xs.take k).map Row.bytes).flatten) ∧ Grew w v wr vb ∧ base ≤ wr.heap.size) (fun _ i _ => rn - (intOf i).toNat)
  case atStart => exact ⟨0, Nat.zero_le _, rfl, own_eq hown0 (by simp), hg0, hb1⟩
  case round =>
    obtain ⟨k, hk, rfl, hor, hgr, hbr⟩ := hrel
    by_cases hlt : k < rn
    · obtain ⟨x, hx⟩ : ∃ x, xs[k]? = some x := ⟨xs[k]'(by rw [← HL.out]; exact hlt), by simp⟩
      have hS := hin.below (hgr.below hown hb0) (Nat.le_refl _)
      obtain ⟨b, off, ha, hbB, hc⟩ := hS.el (i := k) (x := x.cells) (by simp [hx])
      obtain rfl : ra = some ⟨b, off, none⟩ := ha
      have hxw := HW.out k x hx
      have HX : Hid (xs[k]? = some x) := hx
      have hln : (((xs.take k).map Row.bytes).flatten).length ≤ 5000000 := by have := rows_len (xs.take k); simp only [rowsBytes, List.length_take] at this; omega
      clear hx
      obtain ⟨xkey, xval⟩ := x
      simp only [Row.cells] at hc
      have hW := heap_alloc_new wr (.cells #[.int .u64 0, .int .u64 0] 74)
      have hG := Grew.alloc wr u0 (.cells #[.int .u64 0, .int .u64 0] 74)
      have hoA : OwnB base (wr.alloc (.cells #[.int .u64 0, .int .u64 0] 74)) u0 _ := World.ownsRow.alloc hor _
      go_wp2_with (first | (with_reducible show wpList _ _ _ ({ dst := some 19, op := Op.load 74 _, type := _, pos := _, after := _, guard := none } :: _) _ _; go_must (refine wpList_load_mem rfl _ _ rfl b (off + k * 2) rfl 2 _ Try.underlying74 rfl sz_row [.int .u64 xkey, .int .u64 xval] rfl hc ?_)) | (with_reducible show wpList _ _ _ ({ dst := _, op := Op.store 74 _ _, type := _, pos := _, after := _, guard := none } :: _) _ _; go_must (refine wpList_store_blk rfl _ _ _ rfl rfl wr.heap.size 0 rfl [.int .u64 xkey, .int .u64 xval] rfl _ sz_row rfl rfl _ _ hW rfl [.int .u64 xkey, .int .u64 xval] rfl ?_; intro w2 hW2 hO2; have ho2 := own_only hoA hO2 hor.ne; have hG2 := grew_only hG hO2 (Nat.le_refl _); have hb2 := Nat.le_trans hbr hG2.grown.size)) | (with_reducible show wpList _ _ _ ({ dst := some 22, op := Op.load 74 _, type := _, pos := _, after := _, guard := none } :: _) _ _; go_must (refine wpList_load_blk rfl _ _ rfl wr.heap.size 0 rfl 2 _ Try.underlying74 rfl sz_row _ _ hW2 rfl [.int .u64 xkey, .int .u64 xval] rfl ?_)) | (go_at_call 99; go_must (refine (putrow_any base _ _ _ _ _ ho2 hb2 (by simp only [List.length_append, List.length_cons, List.length_nil]; omega) hxw.key hxw.val).mono ?_; rintro e w3 ⟨v3, rfl, ho3, hg3⟩)))
      go_roundw
      case rel => exact ⟨k + 1, by omega, by go_num, own_eq ho3 (by rw [flat_take Row.bytes xs k _ HX.out]; simp only [List.append_assoc]), hgr.trans (hG2.trans hg3), Nat.le_trans hb2 hg3.grown.size⟩
      case measure => simp [intOf]; omega
    · go_wp2
      go_ret
      obtain rfl : k = rn := by omega
      refine ⟨_, rfl, own_eq hor ?_, hgr⟩
      have := HL.out
      rw [this, List.take_length]; simp [rowsBytes]

set_option maxHeartbeats 400000 in
set_option maxRecDepth 100000 in
theorem putdups_any (base : Nat) (v : Value) (l : List Int) (ra : Option Addr) (rn rc : Nat) (xs : List Rep) (w : World) (hown : OwnB base w v l) (hb0 : base ≤ w.heap.size) (hl : l.length < 2000000000)
    (hin : SlIn base w ⟨ra, rn, rc⟩ 7 (xs.map Rep.cells)) (h255 : xs.length ≤ 255) (hwf : ∀ (i : Nat) (x : Rep), xs[i]? = some x → x.wf) :
    Calls Try.prog 100 #[v, .slice ra rn rc, .func (.func 64) #[] #[]] w fun e w' => ∃ v', e = .returned v' ∧ OwnB base w' v' (l ++ ([(xs.length : Int)] ++ dupsBytes xs)) ∧ Grew w v w' v' := by
  have hlen : rn = xs.length := by simpa using hin.len
  have hr255 : rn ≤ 255 := by omega
  have HL : Hid (rn = xs.length) := hlen
  have HW : Hid (∀ (i : Nat) (x : Rep), xs[i]? = some x → x.wf) := hwf
  clear hlen hwf h255
  go_enter Try.func100, Try.ntmps100
  go_wp2_with (go_at_call 62; go_must (refine (put8_any base _ _ _ _ hown hb0 (by omega)).mono ?_; rintro e w0 ⟨v0, rfl, hown0, hg0⟩))
  have hb1 : base ≤ w0.heap.size := Nat.le_trans hb0 hg0.grown.size
  go_loopw [0, 16] (fun vb i wr => ∃ k : Nat, k ≤ rn ∧ i = .int .i64 k ∧ OwnB base wr vb (l ++ [(rn : Int)] ++ ((xs.take k).map Rep.bytes).flatten) ∧ Grew w v wr vb ∧ base ≤ wr.heap.size) (fun _ i _ => rn - (intOf i).toNat)
  case atStart => exact ⟨0, Nat.zero_le _, rfl, own_eq hown0 (by simp), hg0, hb1⟩
  case round =>
    obtain ⟨k, hk, rfl, hor, hgr, hbr⟩ := hrel
    by_cases hlt : k < rn
    · obtain ⟨x, hx⟩ : ∃ x, xs[k]? = some x := ⟨xs[k]'(by rw [← HL.out]; exact hlt), by simp⟩
      have hS := hin.below (hgr.below hown hb0) (Nat.le_refl _)
      obtain ⟨b, off, ha, hbB, hc⟩ := hS.el (i := k) (x := x.cells) (by simp [hx])
      obtain rfl : ra = some ⟨b, off, none⟩ := ha
      have hxw := HW.out k x hx
      have HX : Hid (xs[k]? = some x) := hx
      have hln : (((xs.take k).map Rep.bytes).flatten).length ≤ 5000000 := by have := dups_len (xs.take k); simp only [dupsBytes, List.length_take] at this; omega
      clear hx
      obtain ⟨yc, ys, ykey, yk, yf, yv, yg⟩ := x
      simp only [Rep.cells] at hc
      have hW := heap_alloc_new wr (.cells #[.int .u8 0, .int .u32 0, .int .u64 0, .int .u8 0, .bool false, .int .u64 0, .int .u8 0] 27)
      have hG := Grew.alloc wr u0 (.cells #[.int .u8 0, .int .u32 0, .int .u64 0, .int .u8 0, .bool false, .int .u64 0, .int .u8 0] 27)
      have hoA : OwnB base (wr.alloc (.cells #[.int .u8 0, .int .u32 0, .int .u64 0, .int .u8 0, .bool false, .int .u64 0, .int .u8 0] 27)) u0 _ := World.ownsRow.alloc hor _
      go_wp2_with (first | (with_reducible show wpList _ _ _ ({ dst := some 19, op := Op.load 27 _, type := _, pos := _, after := _, guard := none } :: _) _ _; go_must (refine wpList_load_mem rfl _ _ rfl b (off + k * 7) rfl 7 _ Try.underlying27 rfl sz_rep [.int .u8 yc, .int .u32 ys, .int .u64 ykey, .int .u8 yk, .bool yf, .int .u64 yv, .int .u8 yg] rfl hc ?_)) | (with_reducible show wpList _ _ _ ({ dst := _, op := Op.store 27 _ _, type := _, pos := _, after := _, guard := none } :: _) _ _; go_must (refine wpList_store_blk rfl _ _ _ rfl rfl wr.heap.size 0 rfl [.int .u8 yc, .int .u32 ys, .int .u64 ykey, .int .u8 yk, .bool yf, .int .u64 yv, .int .u8 yg] rfl _ sz_rep rfl rfl _ _ hW rfl [.int .u8 yc, .int .u32 ys, .int .u64 ykey, .int .u8 yk, .bool yf, .int .u64 yv, .int .u8 yg] rfl ?_; intro w2 hW2 hO2; have ho2 := own_only hoA hO2 hor.ne; have hG2 := grew_only hG hO2 (Nat.le_refl _); have hb2 := Nat.le_trans hbr hG2.grown.size)) | (with_reducible show wpList _ _ _ ({ dst := some 22, op := Op.load 27 _, type := _, pos := _, after := _, guard := none } :: _) _ _; go_must (refine wpList_load_blk rfl _ _ rfl wr.heap.size 0 rfl 7 _ Try.underlying27 rfl sz_rep _ _ hW2 rfl [.int .u8 yc, .int .u32 ys, .int .u64 ykey, .int .u8 yk, .bool yf, .int .u64 yv, .int .u8 yg] rfl ?_)) | (go_at_call 64; go_must (refine (putreply_any base _ _ _ _ _ _ _ _ _ _ ho2 hb2 (by simp only [List.length_append, List.length_cons, List.length_nil]; omega) hxw).mono ?_; rintro e w3 ⟨v3, rfl, ho3, hg3⟩)))
      go_roundw
      case rel => exact ⟨k + 1, by omega, by go_num, own_eq ho3 (by rw [flat_take Rep.bytes xs k _ HX.out]; simp only [List.append_assoc]), hgr.trans (hG2.trans hg3), Nat.le_trans hb2 hg3.grown.size⟩
      case measure => simp [intOf]; omega
    · go_wp2
      go_ret
      obtain rfl : k = rn := by omega
      refine ⟨_, rfl, own_eq hor ?_, hgr⟩
      have := HL.out
      rw [this, List.take_length]; simp [dupsBytes]

end Go.Proofs.Ytegdnihkifmepaa
