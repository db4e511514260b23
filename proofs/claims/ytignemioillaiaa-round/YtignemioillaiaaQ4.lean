/- Package wire: reading numbers. Package wire: reading numbers of 8, 32 and 64 bits; what reading leaves. -/
import Derived.Test.YtignemioillaiaaQ2
import Derived.Test.YtignemioillaiaaC
import Derived.Laws.BitsAllLaws
namespace Go.Proofs.Ytignemioillaiaa
open Go.RowKit

theorem sz_str : (Try.prog.info? 9).map (·.size) = some 1 := by kernel_rfl

theorem bstr_at' (l : List Int) (k : Nat) (x : Int) (hx : l[k]? = some x) (h0 : 0 ≤ x ∧ x < 256) (h : k < (bstr l).size) : (((bstr l)[k]'h).toNat : Int) = x := by
  have e : (bstr l)[k]'h = (bstr l).data[k]'h := rfl
  rw [e]
  have hd := bstr_data l
  have : (bstr l).data[k]'h = UInt8.ofNat x.toNat := by
    have h2 : (bstr l).data[k]? = some (UInt8.ofNat x.toNat) := by rw [hd]; simp [hx]
    exact (Array.getElem?_eq_some_iff.1 h2).2
  rw [this]
  have : (UInt8.ofNat x.toNat).toNat = x.toNat := by simp; omega
  omega

theorem u64_w (v : Int) (h : 0 ≤ v ∧ v < 18446744073709551616) : IntKind.u64.wrap v = v := by
  have e : IntKind.u64.wrap v = v % 18446744073709551616 := rfl
  rw [e]; omega

theorem bstr_drop (l : List Int) (k : Nat) : (bstr l).extract k l.length = bstr (l.drop k) := by
  apply ByteArray.ext
  rw [ByteArray.data_extract, bstr_data, bstr_data]
  simp [List.map_drop]
  exact List.take_of_length_le (by simp)

theorem or_byte {y x : Int} (h0 : 0 ≤ y) (h1 : y < 72057594037927936) (hx : 0 ≤ x ∧ x < 256) : bits .or .u64 (IntKind.u64.wrap (y * 256)) x = y * 256 + x := by
  have hw : IntKind.u64.wrap (y * 256) = y * 256 := u64_w (y * 256) (by omega)
  rw [hw, u64_or (y * 256) x (by omega) (by omega) hx.1 (by omega)]
  obtain ⟨a, rfl⟩ : ∃ a : Nat, y = a := ⟨y.toNat, by omega⟩
  obtain ⟨b, rfl⟩ : ∃ b : Nat, x = b := ⟨x.toNat, by omega⟩
  have e1 : ((a : Int) * 256).toNat = a <<< 8 := by rw [Nat.shiftLeft_eq]; omega
  have e2 : ((b : Int)).toNat = b := by omega
  rw [e1, e2, ← Nat.shiftLeft_add_eq_or_of_lt (by omega)]
  rw [Nat.shiftLeft_eq]; omega

theorem pow256 {k : Nat} (h : k ≤ 7) : (256 : Int) ^ k ≤ 72057594037927936 := by
  match k, h with
  | 0, _ => decide
  | 1, _ => decide
  | 2, _ => decide
  | 3, _ => decide
  | 4, _ => decide
  | 5, _ => decide
  | 6, _ => decide
  | 7, _ => decide

theorem hidQ {p : Prop} (h : p) : Hid p := h

def Byt (l : List Int) : Prop := ∀ x ∈ l, 0 ≤ x ∧ x < 256

theorem be_snoc (l : List Int) (x : Int) : be (l ++ [x]) = be l * 256 + x := by
  unfold be; rw [List.foldl_append]; rfl

set_option maxHeartbeats 400000 in
set_option maxRecDepth 100000 in
theorem srcnum_any (B : Nat) (l : List Int) (n : Nat) (w : World) (hW : w.heap[B]? = some (.cells #[.string (bstr l)] 118)) (hb : Byt l) (hn : n ≤ 8) (hl : l.length ≤ 1000000000000000) :
    Calls Try.prog 132 #[.pointer (some ⟨B, 0, none⟩), .int .i64 n] w fun e w' => e = .returned (.int .u64 (num n l).1) ∧ w'.heap[B]? = some (.cells #[.string (bstr (num n l).2)] 118) ∧ Only B w w' := by
  have hsz := bstr_size l
  have hB := blk_cell hW
  by_cases hs : l.length < n
  · have hd : decide (((bstr l).size : Int) < (n : Int)) = true := by rw [hsz]; simp; omega
    go_enter Try.func132, Try.ntmps132
    go_wp2_with (first | (with_reducible show wpList _ _ _ ({ dst := none, op := Op.store 9 _ _, type := _, pos := _, after := _, guard := none } :: _) _ _; go_must (refine wpList_store_cell rfl _ _ _ rfl rfl B 0 rfl (.string (bstr [])) rfl sz_str rfl _ _ hW rfl [.string (bstr [])] rfl ?_; intro w2 hW2 hO2)))
    go_ret
    have e : num n l = (0, []) := by unfold num; rw [if_pos hs]
    rw [e]
    exact ⟨rfl, hW2, hO2⟩
  · have hd : decide (((bstr l).size : Int) < (n : Int)) = false := by rw [hsz]; simp; omega
    go_enter Try.func132, Try.ntmps132
    go_wp2_with fail
    have HB := hidQ hb
    have hln : n ≤ l.length := by omega
    go_loopw [5, 18] (fun acc i wr => ∃ (k : Nat) (y : Int), k ≤ n ∧ i = .int .i64 k ∧ acc = .int .u64 y ∧ Hid (y = be (l.take k)) ∧ 0 ≤ y ∧ Hid (y < 256 ^ k) ∧ w = wr) (fun _ i _ => n - (intOf i).toNat)
    case atStart => exact ⟨0, 0, Nat.zero_le _, rfl, rfl, rfl, Int.le_refl _, (by show (0 : Int) < 256 ^ 0; decide), rfl⟩
    case round =>
      obtain ⟨k, y, hk, rfl, rfl, HY, hy0, HY2, rfl⟩ := hrel
      by_cases hlt : k < n
      · have hks : k < (bstr l).size := by rw [hsz]; omega
        obtain ⟨x, hx⟩ : ∃ x, l[k]? = some x := ⟨l[k]'(by omega), by simp⟩
        have hxb := HB.out x (List.mem_of_getElem? hx)
        have hat : (((bstr l)[k]'hks).toNat : Int) = x := bstr_at' l k x hx hxb hks
        have hi1 : (0 : Int) ≤ (k : Int) := by omega
        have hp := pow256 (k := k) (by omega)
        have hy7 : y < 72057594037927936 := by have := HY2.out; omega
        have hor := or_byte hy0 hy7 hxb
        have hor2 : bits .or .u64 (y * 256) x = y * 256 + x := by rw [← hor, u64_w (y * 256) (by omega)]
        have HY3 : Hid (y * 256 + x < 256 ^ (k + 1)) := by
          show y * 256 + x < 256 ^ (k + 1)
          rw [Int.pow_succ]; have := HY2.out; omega
        have HY4 : Hid (y * 256 + x = be (l.take (k + 1))) := by
          show _ = _
          rw [List.take_add_one, hx, Option.toList_some, be_snoc, HY.out]
        clear hx hp
        go_wp2_with fail
        go_roundw
        case rel => exact ⟨k + 1, y * 256 + x, by omega, by go_num, rfl, HY4, by omega, HY3, trivial⟩
        case measure => simp [intOf]; omega
      · obtain rfl : k = n := by omega
        have hle : (k : Int) ≤ ((bstr l).size : Int) := by rw [hsz]; omega
        have hk0 : (0 : Int) ≤ (k : Int) := by omega
        go_wp2_with (first | (with_reducible show wpList _ _ _ ({ dst := none, op := Op.store 9 _ _, type := _, pos := _, after := _, guard := none } :: _) _ _; go_must (refine wpList_store_cell rfl _ _ _ rfl rfl B 0 rfl (.string ((bstr l).extract k l.length)) rfl sz_str rfl _ _ hW rfl [.string ((bstr l).extract k l.length)] rfl ?_; intro w2 hW2 hO2)))
        go_ret
        have e : num k l = (be (l.take k), l.drop k) := by unfold num; rw [if_neg (by omega)]
        rw [e, ← bstr_drop, ← HY.out]
        exact ⟨rfl, hW2, hO2⟩

end Go.Proofs.Ytignemioillaiaa

namespace Go.Proofs.Ytignemioillaiaa
open Go.RowKit

/-- The source in block B has these bytes left. -/
structure Src (B : Nat) (w : World) (l : List Int) : Prop where
  blk : w.heap[B]? = some (.cells #[.string (bstr l)] 118)
  byt : Byt l
  len : l.length ≤ 1000000000000000

theorem be_lt (l : List Int) (h : Byt l) : 0 ≤ be l ∧ be l < 256 ^ l.length := by
  have : ∀ (k : Nat), k ≤ l.length → 0 ≤ be (l.take k) ∧ be (l.take k) < 256 ^ k := by
    intro k
    induction k with
    | zero => intro _; simp [be]
    | succ k ih =>
      intro hk
      obtain ⟨h1, h2⟩ := ih (by omega)
      have hx : l[k]? = some l[k] := List.getElem?_eq_getElem (by omega)
      have hb := h _ (List.mem_of_getElem? hx)
      rw [List.take_add_one, hx, Option.toList_some, be_snoc, Int.pow_succ]
      omega
  have := this l.length (Nat.le_refl _)
  rwa [List.take_length] at this

theorem num_lt {n : Nat} {l : List Int} (h : Byt l) : 0 ≤ (num n l).1 ∧ (num n l).1 < 256 ^ n := by
  unfold num
  split
  · refine ⟨Int.le_refl _, ?_⟩
    exact Int.pow_pos (by decide)
  · have hb : Byt (l.take n) := fun x hx => h x (List.mem_of_mem_take hx)
    have := be_lt _ hb
    rw [List.length_take, Nat.min_eq_left (by omega)] at this
    exact this

theorem byt_num {n : Nat} {l : List Int} (h : Byt l) : Byt (num n l).2 := by
  unfold num
  split
  · intro x hx; simp at hx
  · intro x hx; exact h x (List.mem_of_mem_drop hx)

theorem len_num {n : Nat} {l : List Int} : (num n l).2.length ≤ l.length := by
  unfold num
  split
  · simp
  · simp

theorem num1_in {l : List Int} (h : Byt l) : 0 ≤ (num 1 l).1 ∧ (num 1 l).1 < 256 := by have := num_lt (n := 1) h; simpa using this
theorem num4_in {l : List Int} (h : Byt l) : 0 ≤ (num 4 l).1 ∧ (num 4 l).1 < 4294967296 := by have := num_lt (n := 4) h; simpa using this
theorem num8_in {l : List Int} (h : Byt l) : 0 ≤ (num 8 l).1 ∧ (num 8 l).1 < 18446744073709551616 := by have := num_lt (n := 8) h; simpa using this

theorem Src.next {B n : Nat} {w w' : World} {l : List Int} (h : Src B w l) (hW : w'.heap[B]? = some (.cells #[.string (bstr (num n l).2)] 118)) : Src B w' (num n l).2 :=
  ⟨hW, byt_num h.byt, Nat.le_trans len_num h.len⟩

set_option maxHeartbeats 400000 in
set_option maxRecDepth 100000 in
theorem src8 (B : Nat) (l : List Int) (w : World) (h : Src B w l) :
    Calls Try.prog 91 #[.pointer (some ⟨B, 0, none⟩)] w fun e w' => e = .returned (.int .u8 (num 1 l).1) ∧ Src B w' (num 1 l).2 ∧ Only B w w' := by
  have hi := num1_in h.byt
  go_enter Try.func91, Try.ntmps91
  go_wp2_with (first | (go_at_call 132; go_must (refine (srcnum_any B l 1 w h.blk h.byt (by decide) h.len).mono ?_; rintro e w1 ⟨rfl, hW1, hO1⟩)))
  go_ret
  exact ⟨rfl, h.next hW1, hO1⟩

set_option maxHeartbeats 400000 in
set_option maxRecDepth 100000 in
theorem src32 (B : Nat) (l : List Int) (w : World) (h : Src B w l) :
    Calls Try.prog 97 #[.pointer (some ⟨B, 0, none⟩)] w fun e w' => e = .returned (.int .u32 (num 4 l).1) ∧ Src B w' (num 4 l).2 ∧ Only B w w' := by
  have hi := num4_in h.byt
  go_enter Try.func97, Try.ntmps97
  go_wp2_with (first | (go_at_call 132; go_must (refine (srcnum_any B l 4 w h.blk h.byt (by decide) h.len).mono ?_; rintro e w1 ⟨rfl, hW1, hO1⟩)))
  go_ret
  exact ⟨rfl, h.next hW1, hO1⟩

set_option maxHeartbeats 400000 in
set_option maxRecDepth 100000 in
theorem src64 (B : Nat) (l : List Int) (w : World) (h : Src B w l) :
    Calls Try.prog 133 #[.pointer (some ⟨B, 0, none⟩)] w fun e w' => e = .returned (.int .u64 (num 8 l).1) ∧ Src B w' (num 8 l).2 ∧ Only B w w' := by
  go_enter Try.func133, Try.ntmps133
  go_wp2_with (first | (go_at_call 132; go_must (refine (srcnum_any B l 8 w h.blk h.byt (by decide) h.len).mono ?_; rintro e w1 ⟨rfl, hW1, hO1⟩)))
  go_ret
  exact ⟨rfl, h.next hW1, hO1⟩

end Go.Proofs.Ytignemioillaiaa

