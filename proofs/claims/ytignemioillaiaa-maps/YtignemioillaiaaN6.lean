/- Package ranges: Find and Give. -/
import Derived.Test.YtignemioillaiaaN1
import Derived.Test.YtignemioillaiaaN4
import Derived.Test.YtignemioillaiaaN5
namespace Go.Proofs.Ytignemioillaiaa
open Go.RowKit

theorem own_mono' {w : World} {base base' : Nat} {v : Value} {l : List Pc} (h : OwnP base w v l) (hb : base' ≤ base) : OwnP base' w v l :=
  ⟨h.1, h.2.imp id fun ⟨g, cap, cur, h1, h2, h3⟩ => ⟨g, cap, cur, h1, Nat.le_trans hb h2, h3⟩⟩

theorem can_head {m : List Pc} (h : Can m) : ∃ p, m[0]? = some p := by
  cases m with
  | nil => exact h.elim
  | cons p t => exact ⟨p, rfl⟩

set_option maxHeartbeats 400000 in
set_option maxRecDepth 100000 in
theorem find_no (a : Option Addr) (n c : Nat) (m : List Pc) (key : Int) (w : World) (h : MapIn w a n c m) (hno : mapOk m = false) :
    Calls Try.prog 18 #[.slice a n c, .int .u64 key] w fun e w' => e = .returned (.tuple #[.int .u8 0, .int .i64 3]) ∧ Below w.heap.size w w' := by
  go_enter Try.func18, Try.ntmps18
  go_wp2_with (go_at_call 54; go_must (refine (ismap_any _ _ _ m _ h).mono ?_; rintro e w1 ⟨rfl, hb1⟩; rw [hno]))
  go_ret2
  exact ⟨rfl, hb1⟩

set_option maxHeartbeats 400000 in
set_option maxRecDepth 100000 in
theorem find_yes (a : Option Addr) (n c : Nat) (m : List Pc) (key : Int) (w : World) (h : MapIn w a n c m) (hyes : mapOk m = true) (hcan : Can m) (hk : 0 ≤ key) :
    Calls Try.prog 18 #[.slice a n c, .int .u64 key] w fun e w' => e = .returned (.tuple #[.int .u8 (own 0 m key), .int .i64 0]) ∧ Below w.heap.size w w' := by
  obtain ⟨p, hp⟩ := can_head hcan
  rw [can_any hcan key hk 0 p.g]
  have HC : Hid (m[0]? = some p) := hp
  clear hp hcan
  go_enter Try.func18, Try.ntmps18
  go_wp2_with (first | (go_at_call 54; go_must (refine (ismap_any _ _ _ m _ h).mono ?_; rintro e w1 ⟨rfl, hb1⟩; rw [hyes])) | (go_at_call 55; go_must (refine (holder_any _ _ _ m _ p HC.out _ (h.later hb1)).mono ?_; rintro e w2 ⟨rfl, hb2⟩)))
  go_ret2
  exact ⟨rfl, later_trans hb1 hb2⟩

set_option maxHeartbeats 400000 in
set_option maxRecDepth 100000 in
theorem give_no (a : Option Addr) (n c : Nat) (m : List Pc) (lo hi g : Int) (w : World) (h : MapIn w a n c m) (hno : mapOk m = false) :
    Calls Try.prog 20 #[.slice a n c, .int .u64 lo, .int .u64 hi, .int .u8 g] w fun e w' => e = .returned (.tuple #[.slice none 0 0, .int .i64 3]) ∧ Below w.heap.size w w' := by
  go_enter Try.func20, Try.ntmps20
  go_wp2_with (go_at_call 54; go_must (refine (ismap_any _ _ _ m _ h).mono ?_; rintro e w1 ⟨rfl, hb1⟩; rw [hno]))
  go_ret2
  exact ⟨rfl, hb1⟩

set_option maxHeartbeats 400000 in
set_option maxRecDepth 100000 in
theorem give_bad (a : Option Addr) (n c : Nat) (m : List Pc) (lo hi g : Int) (w : World) (h : MapIn w a n c m) (hyes : mapOk m = true) (hbad : hi < lo ∨ 4 ≤ g) :
    Calls Try.prog 20 #[.slice a n c, .int .u64 lo, .int .u64 hi, .int .u8 g] w fun e w' => e = .returned (.tuple #[.slice none 0 0, .int .i64 4]) ∧ Below w.heap.size w w' := by
  by_cases h1 : hi < lo
  · have hd : decide (hi < lo) = true := by simp [h1]
    go_enter Try.func20, Try.ntmps20
    go_wp2_with (go_at_call 54; go_must (refine (ismap_any _ _ _ m _ h).mono ?_; rintro e w1 ⟨rfl, hb1⟩; rw [hyes]))
    go_ret2
    exact ⟨rfl, hb1⟩
  · have hd : decide (hi < lo) = false := by simp; omega
    have hd2 : decide (4 ≤ g) = true := by simp; omega
    go_enter Try.func20, Try.ntmps20
    go_wp2_with (go_at_call 54; go_must (refine (ismap_any _ _ _ m _ h).mono ?_; rintro e w1 ⟨rfl, hb1⟩; rw [hyes]))
    go_ret2
    exact ⟨rfl, hb1⟩

def lateE (L : List Pc) : Int := if 1000 < L.length then 3 else 0
def lateL (L : List Pc) : List Pc := if 1000 < L.length then [] else L

theorem giveL_len {m : List Pc} {lo hi g : Int} (hm : m.length ≤ 1000) : (giveL m lo hi g).length ≤ 3000 := by
  have h1 := List.length_filter_le (fun p : Pc => decide (p.f < lo)) m
  have h2 := join_len (m.filter (fun p => decide (p.f < lo))) ⟨lo, g⟩
  unfold giveL behL; split
  · omega
  · have h3 := join_len (join (m.filter (fun p => decide (p.f < lo))) ⟨lo, g⟩) ⟨hi + 1, own 0 m (hi + 1)⟩
    have h4 := beh_len hi m (join (join (m.filter (fun p => decide (p.f < lo))) ⟨lo, g⟩) ⟨hi + 1, own 0 m (hi + 1)⟩)
    omega

set_option maxHeartbeats 400000 in
set_option maxRecDepth 100000 in
theorem give_yes (a : Option Addr) (n c : Nat) (m : List Pc) (lo hi g : Int) (w : World) (h : MapIn w a n c m) (hyes : mapOk m = true) (hcan : Can m) (hm : m.length ≤ 1000) (h0 : 0 ≤ hi) (h1 : hi < 18446744073709551616) (hgood : ¬ (hi < lo) ∧ ¬ (4 ≤ g)) :
    Calls Try.prog 20 #[.slice a n c, .int .u64 lo, .int .u64 hi, .int .u8 g] w fun e w' => ∃ v', e = .returned (.tuple #[v', .int .i64 (lateE (giveL m lo hi g))]) ∧ OwnP w.heap.size w' v' (lateL (giveL m lo hi g)) ∧ Below w.heap.size w w' := by
  have hd : decide (hi < lo) = false := by simp; omega
  have hd2 : decide (4 ≤ g) = false := by simp; omega
  have hfl := List.length_filter_le (fun p : Pc => decide (p.f < lo)) m
  have hjl := join_len (m.filter (fun p => decide (p.f < lo))) ⟨lo, g⟩
  have HC : Hid (Can m) := hcan
  have HN : Hid ((giveL m lo hi g).length ≤ 3000) := giveL_len hm
  clear hcan
  go_enter Try.func20, Try.ntmps20
  go_wp2_with (first | (go_at_call 54; go_must (refine (ismap_any _ _ _ m _ h).mono ?_; rintro e w1 ⟨rfl, hb1⟩; rw [hyes])) | (go_at_call 60; go_must (refine (aheadp_any _ _ _ m _ _ (h.later hb1) hm).mono ?_; rintro e w2 ⟨v2, rfl, ho2, hb2⟩)) | (go_at_call 59; go_must (refine (join_any w1.heap.size _ _ _ _ _ ho2 hb2.size (by omega)).mono ?_; rintro e w3 ⟨v3, rfl, ho3, hg3⟩; have hb3 := hb2.trans (hg3.belowP ho2 hb2.size))) | (go_at_call 58; go_must (refine (behind_any w1.heap.size _ _ _ m _ _ _ _ ((h.later hb1).below hb3 (Nat.le_refl _)) hb3.size ho3 hm (by omega) HC.out h0 h1).mono ?_; rintro e w4 ⟨v4, rfl, ho4, hb4⟩; obtain ⟨a4, n4, c4, rfl, hin4, _⟩ := ho4.slin; have HM : Hid (n4 = (giveL m lo hi g).length) := (by show n4 = (giveL m lo hi g).length; unfold giveL; simpa using hin4.len); have hlm : n4 ≤ 3000 := (by rw [HM.out]; exact HN.out))))
  · go_ret2
    have hlt : 1000 < n4 := by omega
    rw [HM.out] at hlt
    refine ⟨.slice none 0 0, ?_, ?_, later_trans hb1 (hb3.trans hb4)⟩
    · unfold lateE; rw [if_pos hlt]; rfl
    · unfold lateL; rw [if_pos hlt]; exact ownp_nil _ _
  · go_ret2
    have hlt : ¬ 1000 < n4 := by omega
    rw [HM.out] at hlt
    refine ⟨.slice a4 n4 c4, ?_, ?_, later_trans hb1 (hb3.trans hb4)⟩
    · unfold lateE; rw [if_neg hlt]; rfl
    · unfold lateL; rw [if_neg hlt]; exact own_mono' ho4 hb1.size

end Go.Proofs.Ytignemioillaiaa
