/- The document's answer: numbers as bytes. -/
import Derived.Test.YtignemioillaiaaB8
namespace Go.Proofs.Ytignemioillaiaa
open Go.RowKit

theorem bstr_data (l : List Int) : (bstr l).data = (l.map fun n => UInt8.ofNat n.toNat).toArray := by
  have h : ∀ (l : List Int) (s : ByteArray), (l.foldl (fun r n => r.push (UInt8.ofNat n.toNat)) s).data = s.data ++ (l.map fun n => UInt8.ofNat n.toNat).toArray := by
    intro l
    induction l with
    | nil => intro s; simp
    | cons n l ih => intro s; simp only [List.foldl_cons, ih, List.map_cons]; simp [ByteArray.push]
  have := h l ByteArray.empty
  rw [show ByteArray.empty.data = #[] from rfl, Array.empty_append] at this
  exact this

theorem bstr_size (l : List Int) : (bstr l).size = l.length := by
  show (bstr l).data.size = _; rw [bstr_data]; simp

theorem bstr_append (a b : List Int) : bstr a ++ bstr b = bstr (a ++ b) := by
  apply ByteArray.ext
  rw [ByteArray.data_append, bstr_data, bstr_data, bstr_data]; simp

theorem own_lit1 (w : World) (n : Int) : OwnB w.heap.size (w.alloc (.cells #[.int .u8 n] 5)) (.slice (some ⟨w.heap.size, 0, none⟩) 1 1) [n] :=
  World.ownsRow_lit w #[.int .u8 n] 1 (Nat.le_refl _) (by decide) rfl

def beN : Nat → Int → List Int
  | 0, _ => []
  | k + 1, v => (v / 256 ^ k % 256) :: beN k v

theorem beN_len : ∀ (k : Nat) (v : Int), (beN k v).length = k
  | 0, _ => rfl
  | k + 1, v => by simp [beN, beN_len k v]

theorem step256 (v y : Int) (k : Nat) (h : y = v / 256 ^ k) : y / 256 = v / 256 ^ (k + 1) := by
  subst h; rw [Int.pow_succ, Int.ediv_ediv_of_nonneg (by exact Int.pow_nonneg (by decide))]

set_option maxHeartbeats 400000 in
set_option maxRecDepth 100000 in
theorem number_any (v : Int) (n : Nat) (w : World) (h0 : 0 ≤ v) (h1 : v < 18446744073709551616) (hn : n ≤ 8) :
    Calls Try.prog 37 #[.int .u64 v, .int .i64 n] w fun e w' => e = .returned (.string (bstr (beN n v))) ∧ Below w.heap.size w w' := by
  go_enter Try.func37, Try.ntmps37
  go_wp2_with fail
  go_loopw [0, 5, 6] (fun x s i wr => ∃ (k : Nat) (y : Int), k ≤ n ∧ i = .int .i64 k ∧ x = .int .u64 y ∧ Hid (y = v / 256 ^ k) ∧ 0 ≤ y ∧ y ≤ v ∧ s = .string (bstr (beN k v)) ∧ Below w.heap.size w wr) (fun _ _ i _ => n - (intOf i).toNat)
  case atStart => exact ⟨0, v, Nat.zero_le _, rfl, rfl, by show v = _; simp, h0, Int.le_refl _, rfl, Below.refl _ _⟩
  case round =>
    obtain ⟨k, y, hk, rfl, rfl, HY, hy0, hy1, rfl, hnx⟩ := hrel
    by_cases hlt : k < n
    · have hbl : (beN k v).length = k := beN_len k v
      have hsz1 : (bstr (beN k v)).size = k := by rw [bstr_size, hbl]
      have hsz2 : (bstr [y % 256]).size = 1 := bstr_size _
      go_wp2_with (first | (with_reducible show wpList _ _ _ ({ dst := _, op := Op.convert 90 9 _, type := _, pos := _, after := _, guard := none } :: _) _ _; go_must (refine wpList_bytes_string rfl _ _ _ rfl Try.underlying90 Try.underlying5 Try.underlying9 wr.heap.size (.slice (some ⟨wr.heap.size, 0, none⟩) 1 1) [y % 256] rfl (own_lit1 wr (y % 256)) ?_)))
      go_roundw
      case rel => exact ⟨k + 1, y / 256, by omega, by go_num, rfl, step256 v y k HY.out, by omega, by omega, by rw [bstr_append]; have := HY.out; subst this; rfl, hnx.trans ((later_alloc wr _).mono hnx.size)⟩
      case measure => simp [intOf]; omega
    · go_wp2
      go_ret
      obtain rfl : k = n := by omega
      exact ⟨rfl, hnx⟩

theorem beN_1 (v : Int) (h0 : 0 ≤ v) (h1 : v < 256) : beN 1 v = [v] := by
  simp only [beN, Int.pow_zero, Int.ediv_one, List.cons.injEq, and_true]; omega
theorem beN_4 (v : Int) (h0 : 0 ≤ v) (h1 : v < 4294967296) : beN 4 v = be32 v := by
  simp only [beN, be32, List.cons.injEq, and_true]
  refine ⟨?_, ?_, ?_, ?_⟩
  · rw [show (256 : Int) ^ 3 = 16777216 by decide]; omega
  · rw [show (256 : Int) ^ 2 = 65536 by decide]
  · rw [show (256 : Int) ^ 1 = 256 by decide]
  · rw [show (256 : Int) ^ 0 = 1 by decide]; omega
theorem beN_8 (v : Int) (h0 : 0 ≤ v) (h1 : v < 18446744073709551616) : beN 8 v = be64 v := by
  simp only [beN, be64, be32, List.cons_append, List.nil_append, List.cons.injEq, and_true]
  refine ⟨?_, ?_, ?_, ?_, ?_, ?_, ?_, ?_⟩
  · rw [show (256 : Int) ^ 7 = 72057594037927936 by decide]; omega
  · rw [show (256 : Int) ^ 6 = 281474976710656 by decide]; omega
  · rw [show (256 : Int) ^ 5 = 1099511627776 by decide]; omega
  · rw [show (256 : Int) ^ 4 = 4294967296 by decide]
  · rw [show (256 : Int) ^ 3 = 16777216 by decide]; omega
  · rw [show (256 : Int) ^ 2 = 65536 by decide]; omega
  · rw [show (256 : Int) ^ 1 = 256 by decide]; omega
  · rw [show (256 : Int) ^ 0 = 1 by decide]; omega

theorem number_1 (v : Int) (w : World) (h0 : 0 ≤ v) (h1 : v < 256) : Calls Try.prog 37 #[.int .u64 v, .int .i64 1] w fun e w' => e = .returned (.string (bstr [v])) ∧ Below w.heap.size w w' := by
  have := number_any v 1 w h0 (by omega) (by omega)
  rw [beN_1 v h0 h1] at this; exact this
theorem number_4 (v : Int) (w : World) (h0 : 0 ≤ v) (h1 : v < 4294967296) : Calls Try.prog 37 #[.int .u64 v, .int .i64 4] w fun e w' => e = .returned (.string (bstr (be32 v))) ∧ Below w.heap.size w w' := by
  have := number_any v 4 w h0 (by omega) (by omega)
  rw [beN_4 v h0 h1] at this; exact this
theorem number_8 (v : Int) (w : World) (h0 : 0 ≤ v) (h1 : v < 18446744073709551616) : Calls Try.prog 37 #[.int .u64 v, .int .i64 8] w fun e w' => e = .returned (.string (bstr (be64 v))) ∧ Below w.heap.size w w' := by
  have := number_any v 8 w h0 (by omega) (by omega)
  rw [beN_8 v h0 h1] at this; exact this

/-- The bytes of a number, by how many they are. -/
def numB (k v : Int) : List Int := if k = 1 then [v] else if k = 4 then be32 v else be64 v
theorem numB_1 (v : Int) : numB 1 v = [v] := rfl
theorem numB_4 (v : Int) : numB 4 v = be32 v := rfl
theorem numB_8 (v : Int) : numB 8 v = be64 v := rfl
theorem numB_size (k v : Int) : (bstr (numB k v)).size ≤ 8 := by
  rw [bstr_size]; unfold numB; split
  · simp
  · split
    · simp [be32_len]
    · simp [be64_len]
theorem number_c (v k : Int) (w : World) (h : (k = 1 ∧ 0 ≤ v ∧ v < 256) ∨ (k = 4 ∧ 0 ≤ v ∧ v < 4294967296) ∨ (k = 8 ∧ 0 ≤ v ∧ v < 18446744073709551616)) :
    Calls Try.prog 37 #[.int .u64 v, .int .i64 k] w fun e w' => e = .returned (.string (bstr (numB k v))) ∧ Below w.heap.size w w' := by
  rcases h with ⟨rfl, h0, h1⟩ | ⟨rfl, h0, h1⟩ | ⟨rfl, h0, h1⟩
  · exact number_1 v w h0 h1
  · exact number_4 v w h0 h1
  · exact number_8 v w h0 h1

end Go.Proofs.Ytignemioillaiaa
