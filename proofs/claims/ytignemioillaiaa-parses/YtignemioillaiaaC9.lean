/- The document's answer: letters. The document's answer: is a letter among these? A struct held against the empty one: one answer, not one a field. -/
import Derived.Test.YtignemioillaiaaC4
import Derived.Test.YtignemioillaiaaD4
namespace Go.Proofs.Ytignemioillaiaa
open Go.RowKit

set_option maxHeartbeats 400000 in
set_option maxRecDepth 100000 in
theorem ref_letters_e (k : Int) (w : World) (h : (k == 0) = true ∨ 10 < k) :
    Calls Try.prog 36 #[.int .u8 k] w fun e w' => e = .returned (.string ByteArray.empty) ∧ Below w.heap.size w w' := by
  rcases h with h | h
  all_goals
    go_enter Try.func36, Try.ntmps36
    go_wp2
    go_ret
    exact ⟨rfl, later_alloc _ _⟩

set_option maxHeartbeats 400000 in
set_option maxRecDepth 100000 in
theorem ref_letters_1 (w : World) :
    Calls Try.prog 36 #[.int .u8 1] w fun e w' => e = .returned (.string (bstr [113])) ∧ Below w.heap.size w w' := by
  go_enter Try.func36, Try.ntmps36
  go_wp2
  go_ret
  exact ⟨rfl, later_alloc _ _⟩

set_option maxHeartbeats 400000 in
set_option maxRecDepth 100000 in
theorem ref_letters_2 (w : World) :
    Calls Try.prog 36 #[.int .u8 2] w fun e w' => e = .returned (.string (bstr [114])) ∧ Below w.heap.size w w' := by
  go_enter Try.func36, Try.ntmps36
  go_wp2
  go_ret
  exact ⟨rfl, later_alloc _ _⟩

set_option maxHeartbeats 400000 in
set_option maxRecDepth 100000 in
theorem ref_letters_3 (w : World) :
    Calls Try.prog 36 #[.int .u8 3] w fun e w' => e = .returned (.string (bstr [98])) ∧ Below w.heap.size w w' := by
  go_enter Try.func36, Try.ntmps36
  go_wp2
  go_ret
  exact ⟨rfl, later_alloc _ _⟩

set_option maxHeartbeats 400000 in
set_option maxRecDepth 100000 in
theorem ref_letters_4 (w : World) :
    Calls Try.prog 36 #[.int .u8 4] w fun e w' => e = .returned (.string (bstr [98, 118])) ∧ Below w.heap.size w w' := by
  go_enter Try.func36, Try.ntmps36
  go_wp2
  go_ret
  exact ⟨rfl, later_alloc _ _⟩

set_option maxHeartbeats 400000 in
set_option maxRecDepth 100000 in
theorem ref_letters_5 (w : World) :
    Calls Try.prog 36 #[.int .u8 5] w fun e w' => e = .returned (.string (bstr [98])) ∧ Below w.heap.size w w' := by
  go_enter Try.func36, Try.ntmps36
  go_wp2
  go_ret
  exact ⟨rfl, later_alloc _ _⟩

set_option maxHeartbeats 400000 in
set_option maxRecDepth 100000 in
theorem ref_letters_6 (w : World) :
    Calls Try.prog 36 #[.int .u8 6] w fun e w' => e = .returned (.string (bstr [98, 115, 99])) ∧ Below w.heap.size w w' := by
  go_enter Try.func36, Try.ntmps36
  go_wp2
  go_ret
  exact ⟨rfl, later_alloc _ _⟩

set_option maxHeartbeats 400000 in
set_option maxRecDepth 100000 in
theorem ref_letters_7 (w : World) :
    Calls Try.prog 36 #[.int .u8 7] w fun e w' => e = .returned (.string (bstr [98, 115])) ∧ Below w.heap.size w w' := by
  go_enter Try.func36, Try.ntmps36
  go_wp2
  go_ret
  exact ⟨rfl, later_alloc _ _⟩

set_option maxHeartbeats 400000 in
set_option maxRecDepth 100000 in
theorem ref_letters_8 (w : World) :
    Calls Try.prog 36 #[.int .u8 8] w fun e w' => e = .returned (.string (bstr [115, 99])) ∧ Below w.heap.size w w' := by
  go_enter Try.func36, Try.ntmps36
  go_wp2
  go_ret
  exact ⟨rfl, later_alloc _ _⟩

set_option maxHeartbeats 400000 in
set_option maxRecDepth 100000 in
theorem ref_letters_9 (w : World) :
    Calls Try.prog 36 #[.int .u8 9] w fun e w' => e = .returned (.string (bstr [109])) ∧ Below w.heap.size w w' := by
  go_enter Try.func36, Try.ntmps36
  go_wp2
  go_ret
  exact ⟨rfl, later_alloc _ _⟩

set_option maxHeartbeats 400000 in
set_option maxRecDepth 100000 in
theorem ref_letters_10 (w : World) :
    Calls Try.prog 36 #[.int .u8 10] w fun e w' => e = .returned (.string (bstr [112])) ∧ Below w.heap.size w w' := by
  go_enter Try.func36, Try.ntmps36
  go_wp2
  go_ret
  exact ⟨rfl, later_alloc _ _⟩

end Go.Proofs.Ytignemioillaiaa

namespace Go.Proofs.Ytignemioillaiaa
open Go.RowKit

theorem bstr_at (l : List Int) (k : Nat) (x : Int) (hx : l[k]? = some x) (h0 : 0 ≤ x ∧ x < 256) (h : k < (bstr l).size) : (((bstr l)[k]'h).toNat : Int) = x := by
  have e : (bstr l)[k]'h = (bstr l).data[k]'h := rfl
  rw [e]
  have hd := bstr_data l
  have : (bstr l).data[k]'h = UInt8.ofNat x.toNat := by
    have h2 : (bstr l).data[k]? = some (UInt8.ofNat x.toNat) := by rw [hd]; simp [hx]
    exact (Array.getElem?_eq_some_iff.1 h2).2
  rw [this]
  have : (UInt8.ofNat x.toNat).toNat = x.toNat := by simp; omega
  omega

theorem str_at {s : ByteArray} {l : List Int} (hs : s = bstr l) {k : Nat} {x : Int} (hx : l[k]? = some x) (h0 : 0 ≤ x ∧ x < 256) (h : k < s.size) : ((s[k]'h).toNat : Int) = x := by
  subst hs; exact bstr_at l k x hx h0 h

def among (l : List Int) (c : Int) : Bool := l.any (fun x => x == c)

set_option maxHeartbeats 400000 in
set_option maxRecDepth 100000 in
theorem ref_has (l : List Int) (c : Int) (w : World) (hl : l.length ≤ 100) (hb : ∀ x ∈ l, 0 ≤ x ∧ x < 256) :
    Calls Try.prog 85 #[.string (bstr l), .int .u8 c] w fun e w' => e = .returned (.bool (among l c)) ∧ w' = w := by
  have hsz := bstr_size l
  have HB : Hid (∀ x ∈ l, 0 ≤ x ∧ x < 256) := hb
  clear hb
  obtain ⟨s, hs⟩ : ∃ s, s = bstr l := ⟨_, rfl⟩
  have HSL : Hid (s.size = l.length) := by rw [← hs] at hsz; exact hsz
  have hs100 : s.size ≤ 100 := by have := HSL.out; omega
  rw [← hs]
  have HS : Hid (s = bstr l) := hs
  clear hs hsz
  go_enter Try.func85, Try.ntmps85
  go_wp2
  go_loop [5] (fun i => ∃ k : Nat, k ≤ s.size ∧ i = .int .i64 k ∧ Hid (∀ (j : Nat) (x : Int), j < k → l[j]? = some x → ¬ x = c)) (fun i => s.size - (intOf i).toNat)
  case atStart => exact ⟨0, Nat.zero_le _, rfl, fun j x hj => by omega⟩
  case round =>
    obtain ⟨k, hk, rfl, HN⟩ := hrel
    by_cases hlt : k < s.size
    · have HL2 : Hid (∃ x, l[k]? = some x) := ⟨l[k]'(by rw [← HSL.out]; exact hlt), by simp⟩
      go_wp2
      · go_ret
        obtain ⟨x, hx⟩ := HL2.out
        have hm := List.mem_of_getElem? hx
        have e1 := str_at HS.out hx (HB.out x hm) hlt
        refine ⟨ret_bool ?_, rfl⟩
        have e2 : x = c := by rw [← e1]; simpa using (show ((s[k].toNat : Int) == c) = true by assumption)
        symm
        rw [among, List.any_eq_true]
        exact ⟨x, hm, by simp [e2]⟩
      · have e0 : ¬ (s[k].toNat : Int) = c := by simpa using (show ((s[k].toNat : Int) == c) = false by assumption)
        go_round
        case rel =>
          refine ⟨k + 1, by omega, by go_num, ?_⟩
          intro j y hj hy
          by_cases hjk : j < k
          · exact HN.out j y hjk hy
          · obtain rfl : j = k := by omega
            have e1 := str_at HS.out hy (HB.out y (List.mem_of_getElem? hy)) hlt
            rw [← e1]; exact e0
        case measure => simp [intOf]; omega
    · go_wp2
      go_ret
      refine ⟨ret_bool ?_, rfl⟩
      have h1 := HN.out; have h2 := HSL.out
      symm
      rw [among, List.any_eq_false]
      intro x hx
      obtain ⟨j, hj⟩ := List.getElem?_of_mem hx
      have := h1 j x (by have := (List.getElem?_eq_some_iff.1 hj).1; omega) hj
      simpa using this

end Go.Proofs.Ytignemioillaiaa

namespace Go.Proofs.Ytignemioillaiaa
open Go.RowKit

/-- An operation that yields a value and leaves the world. -/
theorem wpList_val {P : Program} {ops : Array Oper} {rest : List Oper} {op : Oper} {a : Act} {w : World} {Q : Exit → Act → World → Prop} (hw : Region.wanted op (yielded ops a.tmps) = true) (v : Value)
    (hrun : (execOp a.eval op).run P w = .ok (.value v) w) (h : wpList P ops Q rest (a.put op.dst v) w) : wpList P ops Q (op :: rest) a w :=
  wpList_step fun K hK => by
    rw [if_pos hw]
    unfold Oper.wp
    rw [hrun]
    exact hK _ _ h

theorem run_eql {P : Program} (op : Oper) (a : Act) (w : World) (t : TypeId) (x y : Operand) (ho : op.op = .binOp .eql t x y t) (us vs : Array Value) (r : Value) (hx : a.eval x = .agg us) (hy : a.eval y = .agg vs) (hm : P.eqGuardType P.depth t = false)
    (h : (binOp .eql t (.agg us) (.agg vs)).run P w = Result.ok r w) : (execOp a.eval op).run P w = .ok (.value r) w := by
  unfold execOp
  simp only [ho, hx, hy, Sem.run_bind, run_eqGuard_agg w .eql t x y us vs hm, h, Result.andThen_ok, Sem.run_pure]

theorem gd_req : Try.prog.eqGuardType Try.prog.depth 25 = false := by kernel_rfl
theorem gd_rep : Try.prog.eqGuardType Try.prog.depth 27 = false := by kernel_rfl
theorem gd_bal : Try.prog.eqGuardType Try.prog.depth 29 = false := by kernel_rfl

set_option maxRecDepth 100000 in
theorem eql_req (qc qs qk qkey qv qhi qto : Int) (w : World) : (binOp .eql 25 (.agg (List.toArray (rQ qc qs qk qkey qv qhi qto))) (.agg (List.toArray oxQ))).run Try.prog w = Result.ok (.bool (Req.mk qc qs qk qkey qv qhi qto).no) w := by
  go_simp
  simp only [Req.no]
  repeat' split
  all_goals simp_all

set_option maxRecDepth 100000 in
theorem eql_rep (pc ps pkey pk : Int) (pf : Bool) (pv pg : Int) (w : World) : (binOp .eql 27 (.agg (List.toArray (rP pc ps pkey pk pf pv pg))) (.agg (List.toArray oxP))).run Try.prog w = Result.ok (.bool (Rep.mk pc ps pkey pk pf pv pg).no) w := by
  go_simp
  simp only [Rep.no]
  repeat' split
  all_goals simp_all

set_option maxRecDepth 100000 in
theorem eql_bal (n id : Int) (w : World) : (binOp .eql 29 (.agg #[.int .u32 n, .int .u8 id]) (.agg #[.int .u32 0, .int .u8 0])).run Try.prog w = Result.ok (.bool (n == 0 && id == 0)) w := by
  go_simp
  repeat' split
  all_goals simp_all

end Go.Proofs.Ytignemioillaiaa

