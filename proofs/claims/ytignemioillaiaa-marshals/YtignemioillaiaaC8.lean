/- The document's answer: is a letter among these? -/
import Derived.Test.YtignemioillaiaaC2
namespace Go.Proofs.Ytignemioillaiaa
open Go.RowKit

theorem bstr_at (l : List Int) (k : Nat) (x : Int) (hx : l[k]? = some x) (h0 : 0 ≤ x ∧ x < 256) (h : k < (bstr l).size) : (((bstr l)[k]'h).toNat : Int) = x := by
  have e : (bstr l)[k]'h = (bstr l).data[k]'h := rfl
  rw [e]
  have hd := bstr_data l
  have : (bstr l).data[k]'h = UInt8.ofNat x.toNat := by
    have h2 : (bstr l).data[k]? = some (UInt8.ofNat x.toNat) := by rw [hd]; simp [hx]
    exact (Array.getElem?_eq_some_iff.1 h2).2
  rw [this]
  have : (UInt8.ofNat x.toNat).toNat = x.toNat := by simp; omega
  omega

theorem str_at {s : ByteArray} {l : List Int} (hs : s = bstr l) {k : Nat} {x : Int} (hx : l[k]? = some x) (h0 : 0 ≤ x ∧ x < 256) (h : k < s.size) : ((s[k]'h).toNat : Int) = x := by
  subst hs; exact bstr_at l k x hx h0 h

def among (l : List Int) (c : Int) : Bool := l.any (fun x => x == c)

set_option maxHeartbeats 400000 in
set_option maxRecDepth 100000 in
theorem ref_has (l : List Int) (c : Int) (w : World) (hl : l.length ≤ 100) (hb : ∀ x ∈ l, 0 ≤ x ∧ x < 256) :
    Calls Try.prog 85 #[.string (bstr l), .int .u8 c] w fun e w' => e = .returned (.bool (among l c)) ∧ w' = w := by
  have hsz := bstr_size l
  have HB : Hid (∀ x ∈ l, 0 ≤ x ∧ x < 256) := hb
  clear hb
  obtain ⟨s, hs⟩ : ∃ s, s = bstr l := ⟨_, rfl⟩
  have HSL : Hid (s.size = l.length) := by rw [← hs] at hsz; exact hsz
  have hs100 : s.size ≤ 100 := by have := HSL.out; omega
  rw [← hs]
  have HS : Hid (s = bstr l) := hs
  clear hs hsz
  go_enter Try.func85, Try.ntmps85
  go_wp2
  go_loop [5] (fun i => ∃ k : Nat, k ≤ s.size ∧ i = .int .i64 k ∧ Hid (∀ (j : Nat) (x : Int), j < k → l[j]? = some x → ¬ x = c)) (fun i => s.size - (intOf i).toNat)
  case atStart => exact ⟨0, Nat.zero_le _, rfl, fun j x hj => by omega⟩
  case round =>
    obtain ⟨k, hk, rfl, HN⟩ := hrel
    by_cases hlt : k < s.size
    · have HL2 : Hid (∃ x, l[k]? = some x) := ⟨l[k]'(by rw [← HSL.out]; exact hlt), by simp⟩
      go_wp2
      · go_ret
        obtain ⟨x, hx⟩ := HL2.out
        have hm := List.mem_of_getElem? hx
        have e1 := str_at HS.out hx (HB.out x hm) hlt
        refine ⟨ret_bool ?_, rfl⟩
        have e2 : x = c := by rw [← e1]; simpa using (show ((s[k].toNat : Int) == c) = true by assumption)
        symm
        rw [among, List.any_eq_true]
        exact ⟨x, hm, by simp [e2]⟩
      · have e0 : ¬ (s[k].toNat : Int) = c := by simpa using (show ((s[k].toNat : Int) == c) = false by assumption)
        go_round
        case rel =>
          refine ⟨k + 1, by omega, by go_num, ?_⟩
          intro j y hj hy
          by_cases hjk : j < k
          · exact HN.out j y hjk hy
          · obtain rfl : j = k := by omega
            have e1 := str_at HS.out hy (HB.out y (List.mem_of_getElem? hy)) hlt
            rw [← e1]; exact e0
        case measure => simp [intOf]; omega
    · go_wp2
      go_ret
      refine ⟨ret_bool ?_, rfl⟩
      have h1 := HN.out; have h2 := HSL.out
      symm
      rw [among, List.any_eq_false]
      intro x hx
      obtain ⟨j, hj⟩ := List.getElem?_of_mem hx
      have := h1 j x (by have := (List.getElem?_eq_some_iff.1 hj).1; omega) hj
      simpa using this

end Go.Proofs.Ytignemioillaiaa
