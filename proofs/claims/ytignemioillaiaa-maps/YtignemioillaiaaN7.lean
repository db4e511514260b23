/- The document's answer: is it a map of keys. -/
import Derived.Test.YtignemioillaiaaN1
import Derived.Test.YtignemioillaiaaN2
namespace Go.Proofs.Ytignemioillaiaa
open Go.RowKit

set_option maxHeartbeats 400000 in
set_option maxRecDepth 100000 in
theorem ref_ismap (a : Option Addr) (n c : Nat) (m : List Pc) (w : World) (h : MapIn w a n c m) (hwf : ∀ (i : Nat) (x : Pc), m[i]? = some x → x.wf) :
    Calls Try.prog 56 #[.slice a n c] w fun e w' => e = .returned (.bool (mapOk m)) ∧ Below w.heap.size w w' := by
  have hlen : n = m.length := by simpa using h.len
  have hlm : n ≤ maxLen := Nat.le_trans h.le h.max
  unfold maxLen at hlm
  have HL : Hid (n = m.length) := hlen
  have HF : Hid (∀ (i : Nat) (x : Pc), m[i]? = some x → x.wf) := hwf
  clear hlen hwf
  by_cases h0 : n = 0
  · subst h0
    go_enter Try.func56, Try.ntmps56
    go_wp2
    go_ret
    exact ⟨ret_bool (mapOk_none HL.out.symm).symm, Below.refl _ _⟩
  by_cases h1 : 1000 < n
  · have hd0 : decide ((n : Int) < 1) = false := by simp; omega
    have hd1 : decide ((1000 : Int) < (n : Int)) = true := by simp; omega
    go_enter Try.func56, Try.ntmps56
    go_wp2
    go_ret
    exact ⟨ret_bool (mapOk_long (by have := HL.out; omega)).symm, Below.refl _ _⟩
  obtain ⟨p, hp⟩ : ∃ x, m[0]? = some x := ⟨m[0]'(by rw [← HL.out]; omega), by simp⟩
  obtain ⟨b, off, ha, hbB, hp0, hp1⟩ := h.atP hp
  obtain rfl : a = some ⟨b, off, none⟩ := ha
  have hd0 : decide ((n : Int) < 1) = false := by simp; omega
  have hd1 : decide ((1000 : Int) < (n : Int)) = false := by simp; omega
  have hi0 : (0 : Int) < (n : Int) := by omega
  have hpw := HF.out 0 p hp
  rw [Nat.zero_mul, Nat.add_zero] at hp0
  have HP : Hid (m[0]? = some p) := hp
  clear hp
  by_cases hpf : p.f = 0
  · have hbp : decide (0 < p.f) = false := by simp [hpf]
    go_enter Try.func56, Try.ntmps56
    go_wp2
    go_loopw [3] (fun i wr => ∃ k : Nat, k ≤ n ∧ i = .int .i64 k ∧ (List.range k).all (mapAt m) = true ∧ Below w.heap.size w wr) (fun i _ => n - (intOf i).toNat)
    case atStart => exact ⟨0, Nat.zero_le _, rfl, by simp, Below.refl _ _⟩
    case round =>
      obtain ⟨k, hk, rfl, hall, hnx⟩ := hrel
      have HA : Hid ((List.range k).all (mapAt m) = true) := hall
      clear hall
      by_cases hlt : k < n
      · obtain ⟨x, hx⟩ : ∃ x, m[k]? = some x := ⟨m[k]'(by rw [← HL.out]; exact hlt), by simp⟩
        have hS := h.below hnx (Nat.le_refl _)
        obtain ⟨b', off', ha, hbB', hc0, hc1⟩ := hS.atP hx
        simp only [Option.some.injEq, Addr.mk.injEq, and_true] at ha
        obtain ⟨rfl, rfl⟩ := ha
        have HX : Hid (m[k]? = some x) := hx
        clear hx
        obtain ⟨xf, xg⟩ := x
        dsimp only at hc0 hc1
        have hbz : b < wr.heap.size := by have := hnx.size; omega
        have hi1 : (0 : Int) ≤ (k : Int) := by omega
        have hi2 : (k : Int) < (n : Int) := by omega
        by_cases hg : 3 < xg
        · have hgd : decide (3 < xg) = true := by simp; omega
          go_wp2_with fail
          go_quiet (fail)
          go_wp2
          go_ret
          exact ⟨ret_bool (mapOk_bad (k := k) (by rw [← HL.out]; exact hlt) (mapAt_group HX.out (by show 4 ≤ xg; omega))).symm, below_drewN hnx _⟩
        · have hgd : decide (3 < xg) = false := by simp; omega
          by_cases hk0 : 0 < k
          · obtain ⟨y, hy⟩ : ∃ y, m[k - 1]? = some y := ⟨m[k - 1]'(by rw [← HL.out]; omega), by simp⟩
            obtain ⟨b', off', ha', _, hd2, hd3⟩ := hS.atP hy
            simp only [Option.some.injEq, Addr.mk.injEq, and_true] at ha'
            obtain ⟨rfl, rfl⟩ := ha'
            have HY : Hid (m[k - 1]? = some y) := hy
            clear hy
            obtain ⟨yf, yg⟩ := y
            dsimp only at hd2 hd3
            have hkd : decide ((0 : Int) < (k : Int)) = true := by simp; omega
            have hj0 : (0 : Int) ≤ (k : Int) - 1 := by omega
            have hj1 : (k : Int) - 1 < (n : Int) := by omega
            by_cases hle : xf ≤ yf
            · have hld : decide (xf ≤ yf) = true := by simp; omega
              go_wp2_with fail
              go_quiet (fail)
              go_wp2
              go_ret
              exact ⟨ret_bool (mapOk_bad (k := k) (by rw [← HL.out]; exact hlt) (mapAt_prev HX.out hk0 HY.out (.inl hle))).symm, below_drewN hnx _⟩
            · have hld : decide (xf ≤ yf) = false := by simp; omega
              by_cases hge : yg = xg
              · have hbe : (yg == xg) = true := by simp [hge]
                go_wp2_with fail
                go_quiet (fail)
                go_wp2
                go_ret
                exact ⟨ret_bool (mapOk_bad (k := k) (by rw [← HL.out]; exact hlt) (mapAt_prev HX.out hk0 HY.out (.inr hge.symm))).symm, below_drewN hnx _⟩
              · have hbe : (yg == xg) = false := by simp [hge]
                go_wp2_with fail
                go_quiet (fail)
                go_wp2
                go_roundw
                case rel => exact ⟨k + 1, by omega, by go_num, all_next HA.out (mapAt_good HX.out (by show xg < 4; omega) (.inr ⟨_, HY.out, by show yf < xf; omega, fun e => hge e.symm⟩)), below_drewN hnx _⟩
                case measure => simp [intOf]; omega
          · have hkd : decide ((0 : Int) < (k : Int)) = false := by simp; omega
            go_wp2_with fail
            go_quiet (fail)
            go_wp2
            go_roundw
            case rel => exact ⟨k + 1, by omega, by go_num, all_next HA.out (mapAt_good HX.out (by show xg < 4; omega) (.inl (by omega))), below_drewN hnx _⟩
            case measure => simp [intOf]; omega
      · go_wp2
        go_ret
        obtain rfl : k = n := by omega
        exact ⟨ret_bool (mapOk_good HP.out hpf (by rw [← HL.out]; omega) (by have := HA.out; rw [HL.out] at this; exact this)).symm, hnx⟩
  · have hpp : 0 < p.f := by have := hpw.1; omega
    have hbp : decide (0 < p.f) = true := by simp [hpp]
    go_enter Try.func56, Try.ntmps56
    go_wp2
    go_ret
    exact ⟨ret_bool (mapOk_head HP.out hpf).symm, Below.refl _ _⟩

set_option maxHeartbeats 400000 in
set_option maxRecDepth 100000 in
theorem ref_owner (a : Option Addr) (n c : Nat) (m : List Pc) (key : Int) (w : World) (h : MapIn w a n c m) :
    Calls Try.prog 57 #[.slice a n c, .int .u64 key] w fun e w' => e = .returned (.int .u8 (own 0 m key)) ∧ Below w.heap.size w w' := by
  have hlen : n = m.length := by simpa using h.len
  have hlm : n ≤ maxLen := Nat.le_trans h.le h.max
  unfold maxLen at hlm
  have HL : Hid (n = m.length) := hlen
  clear hlen
  go_enter Try.func57, Try.ntmps57
  go_wp2
  go_loopw [5, 6] (fun gr i wr => ∃ (k : Nat) (g : Int), k ≤ n ∧ i = .int .i64 k ∧ gr = .int .u8 g ∧ Hid (own 0 m key = own g (m.drop k) key) ∧ Below w.heap.size w wr) (fun _ i _ => n - (intOf i).toNat)
  case atStart => exact ⟨0, 0, Nat.zero_le _, rfl, rfl, (by show _ = _; simp), Below.refl _ _⟩
  case round =>
    obtain ⟨k, g, hk, rfl, rfl, HG, hnx⟩ := hrel
    by_cases hlt : k < n
    · obtain ⟨x, hx⟩ : ∃ x, m[k]? = some x := ⟨m[k]'(by rw [← HL.out]; exact hlt), by simp⟩
      have hS := h.below hnx (Nat.le_refl _)
      obtain ⟨b, off, ha, hbB', hc0, hc1⟩ := hS.atP hx
      obtain rfl : a = some ⟨b, off, none⟩ := ha
      have HX : Hid (m[k]? = some x) := hx
      clear hx
      obtain ⟨xf, xg⟩ := x
      dsimp only at hc0 hc1
      have hbz : b < wr.heap.size := by have := hnx.size; omega
      have hi1 : (0 : Int) ≤ (k : Int) := by omega
      have hi2 : (k : Int) < (n : Int) := by omega
      have hdk : decide ((k : Int) < (n : Int)) = true := by simp; omega
      by_cases hg : xf ≤ key
      · have hgd : decide (xf ≤ key) = true := by simp; omega
        go_wp2_with fail
        go_roundw
        case rel => exact ⟨k + 1, xg, by omega, by go_num, rfl, (by show _ = _; rw [HG.out, own_drop HX.out, if_pos hg]), hnx⟩
        case measure => simp [intOf]; omega
      · have hgd : decide (xf ≤ key) = false := by simp; omega
        go_wp2_with fail
        go_ret
        refine ⟨?_, hnx⟩
        show Ending.returned (.int .u8 g) = _
        rw [HG.out, own_drop HX.out, if_neg (by show ¬ xf ≤ key; omega)]
    · have hdk : decide ((k : Int) < (n : Int)) = false := by simp; omega
      go_wp2
      go_ret
      refine ⟨?_, hnx⟩
      show Ending.returned (.int .u8 g) = _
      obtain rfl : k = n := by omega
      rw [HG.out, HL.out, List.drop_length]; rfl

set_option maxHeartbeats 400000 in
set_option maxRecDepth 100000 in
theorem ref_find (a : Option Addr) (n c : Nat) (m : List Pc) (key : Int) (w : World) (h : MapIn w a n c m) (hwf : ∀ (i : Nat) (x : Pc), m[i]? = some x → x.wf) :
    Calls Try.prog 19 #[.slice a n c, .int .u64 key] w fun e w' => e = .returned (if mapOk m = true then .tuple #[.int .u8 (own 0 m key), .int .i64 0] else .tuple #[.int .u8 0, .int .i64 3]) ∧ Below w.heap.size w w' := by
  cases hyes : mapOk m
  · simp only [Bool.false_eq_true, if_false]
    go_enter Try.func19, Try.ntmps19
    go_wp2_with (first | (go_at_call 56; go_must (refine (ref_ismap _ _ _ m _ h hwf).mono ?_; rintro e w1 ⟨rfl, hb1⟩; rw [hyes])))
    go_ret2
    exact ⟨rfl, hb1⟩
  · simp only [if_true]
    go_enter Try.func19, Try.ntmps19
    go_wp2_with (first | (go_at_call 56; go_must (refine (ref_ismap _ _ _ m _ h hwf).mono ?_; rintro e w1 ⟨rfl, hb1⟩; rw [hyes])) | (go_at_call 57; go_must (refine (ref_owner _ _ _ m _ _ (h.later hb1)).mono ?_; rintro e w2 ⟨rfl, hb2⟩)))
    go_ret2
    exact ⟨rfl, later_trans hb1 hb2⟩

end Go.Proofs.Ytignemioillaiaa
