/- Package ranges: is it a map of keys; whose a key is. -/
import Derived.Test.YtignemioillaiaaN
namespace Go.Proofs.Ytignemioillaiaa
open Go.RowKit

theorem mapOk_none {m : List Pc} (h : m.length = 0) : mapOk m = false := by simp [mapOk, h]
theorem mapOk_long {m : List Pc} (h : 1000 < m.length) : mapOk m = false := by
  have : ¬ m.length ≤ 1000 := by omega
  simp [mapOk, this]
theorem mapOk_head {m : List Pc} {x : Pc} (hx : m[0]? = some x) (h : x.f ≠ 0) : mapOk m = false := by
  have : (x.f == 0) = false := by simp [h]
  simp [mapOk, hx, this]
theorem mapOk_bad {m : List Pc} {k : Nat} (h : k < m.length) (hb : mapAt m k = false) : mapOk m = false := by
  unfold mapOk; rw [all_bad h hb, Bool.and_false]
theorem mapOk_good {m : List Pc} {x : Pc} (hx : m[0]? = some x) (h : x.f = 0) (h1 : m.length ≤ 1000) (ha : (List.range m.length).all (mapAt m) = true) : mapOk m = true := by
  have := (List.getElem?_eq_some_iff.1 hx).1
  unfold mapOk; rw [ha, hx]; simp [h, h1, this]
theorem mapAt_group {m : List Pc} {k : Nat} {x : Pc} (hx : m[k]? = some x) (h : 4 ≤ x.g) : mapAt m k = false := by
  have : ¬ x.g < 4 := by omega
  unfold mapAt; rw [hx]; simp [this]
theorem mapAt_prev {m : List Pc} {k : Nat} {x y : Pc} (hx : m[k]? = some x) (h0 : 0 < k) (hy : m[k - 1]? = some y) (h : x.f ≤ y.f ∨ x.g = y.g) : mapAt m k = false := by
  have h0' : (k == 0) = false := by simp; omega
  unfold mapAt; rw [hx]
  simp only [hy, h0']
  rcases h with h | h
  · have : ¬ y.f < x.f := by omega
    simp [this]
  · simp [h]
theorem mapAt_good {m : List Pc} {k : Nat} {x : Pc} (hx : m[k]? = some x) (h : x.g < 4) (hy : k = 0 ∨ ∃ y, m[k - 1]? = some y ∧ y.f < x.f ∧ x.g ≠ y.g) : mapAt m k = true := by
  unfold mapAt; rw [hx]
  rcases hy with rfl | ⟨y, hy, hlt, hne⟩
  · simp [h]
  · have : ¬ y.g = x.g := fun e => hne e.symm
    simp [h, hy, hlt, this]

set_option maxHeartbeats 400000 in
set_option maxRecDepth 100000 in
theorem ismap_any (a : Option Addr) (n c : Nat) (m : List Pc) (w : World) (h : MapIn w a n c m) :
    Calls Try.prog 54 #[.slice a n c] w fun e w' => e = .returned (.bool (mapOk m)) ∧ Below w.heap.size w w' := by
  have hlen : n = m.length := by simpa using h.len
  have hlm : n ≤ maxLen := Nat.le_trans h.le h.max
  unfold maxLen at hlm
  have HL : Hid (n = m.length) := hlen
  clear hlen
  by_cases h0 : n = 0
  · subst h0
    go_enter Try.func54, Try.ntmps54
    go_wp2
    go_ret
    exact ⟨ret_bool (mapOk_none HL.out.symm).symm, Below.refl _ _⟩
  by_cases h1 : 1000 < n
  · have hd0 : decide ((n : Int) = 0) = false := by simp; omega
    have hd1 : decide ((1000 : Int) < (n : Int)) = true := by simp; omega
    go_enter Try.func54, Try.ntmps54
    go_wp2
    go_ret
    exact ⟨ret_bool (mapOk_long (by have := HL.out; omega)).symm, Below.refl _ _⟩
  obtain ⟨p, hp⟩ : ∃ x, m[0]? = some x := ⟨m[0]'(by rw [← HL.out]; omega), by simp⟩
  obtain ⟨b, off, ha, hbB, hp0, hp1⟩ := h.atP hp
  obtain rfl : a = some ⟨b, off, none⟩ := ha
  have hd0 : ((n : Int) == 0) = false := by simp; omega
  have hd1 : decide ((1000 : Int) < (n : Int)) = false := by simp; omega
  have hi0 : (0 : Int) < (n : Int) := by omega
  rw [Nat.zero_mul, Nat.add_zero] at hp0
  have HP : Hid (m[0]? = some p) := hp
  clear hp
  by_cases hpf : p.f = 0
  · have hbp : (p.f != 0) = false := by simp [hpf]
    go_enter Try.func54, Try.ntmps54
    go_wp2
    go_loopw [22] (fun i wr => ∃ k : Nat, k ≤ n ∧ i = .int .i64 k ∧ (List.range k).all (mapAt m) = true ∧ Below w.heap.size w wr) (fun i _ => n - (intOf i).toNat)
    case atStart => exact ⟨0, Nat.zero_le _, rfl, by simp, Below.refl _ _⟩
    case round =>
      obtain ⟨k, hk, rfl, hall, hnx⟩ := hrel
      have HA : Hid ((List.range k).all (mapAt m) = true) := hall
      clear hall
      by_cases hlt : k < n
      · obtain ⟨x, hx⟩ : ∃ x, m[k]? = some x := ⟨m[k]'(by rw [← HL.out]; exact hlt), by simp⟩
        have hS := h.below hnx (Nat.le_refl _)
        obtain ⟨b', off', ha, hbB', hc0, hc1⟩ := hS.atP hx
        simp only [Option.some.injEq, Addr.mk.injEq, and_true] at ha
        obtain ⟨rfl, rfl⟩ := ha
        have HX : Hid (m[k]? = some x) := hx
        clear hx
        obtain ⟨xf, xg⟩ := x
        dsimp only at hc0 hc1
        have hbz : b < wr.heap.size := by have := hnx.size; omega
        have hi1 : (0 : Int) ≤ (k : Int) := by omega
        have hi2 : (k : Int) < (n : Int) := by omega
        by_cases hg : 4 ≤ xg
        · go_wp2_with fail
          go_ret
          exact ⟨ret_bool (mapOk_bad (k := k) (by rw [← HL.out]; exact hlt) (mapAt_group HX.out hg)).symm, hnx.trans (Below.mono (later_alloc _ _) hnx.size)⟩
        · have hgd : decide (4 ≤ xg) = false := by simp; omega
          by_cases hk0 : 0 < k
          · obtain ⟨y, hy⟩ : ∃ y, m[k - 1]? = some y := ⟨m[k - 1]'(by rw [← HL.out]; omega), by simp⟩
            obtain ⟨b', off', ha', _, hd2, hd3⟩ := hS.atP hy
            simp only [Option.some.injEq, Addr.mk.injEq, and_true] at ha'
            obtain ⟨rfl, rfl⟩ := ha'
            have HY : Hid (m[k - 1]? = some y) := hy
            clear hy
            obtain ⟨yf, yg⟩ := y
            dsimp only at hd2 hd3
            have hkd : decide ((0 : Int) < (k : Int)) = true := by simp; omega
            have hj0 : (0 : Int) ≤ (k : Int) - 1 := by omega
            have hj1 : (k : Int) - 1 < (n : Int) := by omega
            by_cases hle : xf ≤ yf
            · have hld : decide (xf ≤ yf) = true := by simp; omega
              go_wp2_with fail
              go_quiet (fail)
              go_wp2
              go_ret
              exact ⟨ret_bool (mapOk_bad (k := k) (by rw [← HL.out]; exact hlt) (mapAt_prev HX.out hk0 HY.out (.inl hle))).symm, below_drewN (hnx.trans (Below.mono (later_alloc _ _) hnx.size)) _⟩
            · have hld : decide (xf ≤ yf) = false := by simp; omega
              by_cases hge : xg = yg
              · have hbe : (xg == yg) = true := by simp [hge]
                go_wp2_with fail
                go_quiet (fail)
                go_wp2
                go_ret
                exact ⟨ret_bool (mapOk_bad (k := k) (by rw [← HL.out]; exact hlt) (mapAt_prev HX.out hk0 HY.out (.inr hge))).symm, below_drewN (hnx.trans (Below.mono (later_alloc _ _) hnx.size)) _⟩
              · have hbe : (xg == yg) = false := by simp [hge]
                go_wp2_with fail
                go_quiet (fail)
                go_wp2
                go_roundw
                case rel => exact ⟨k + 1, by omega, by go_num, all_next HA.out (mapAt_good HX.out (by show xg < 4; omega) (.inr ⟨_, HY.out, by show yf < xf; omega, hge⟩)), below_drewN (hnx.trans (Below.mono (later_alloc _ _) hnx.size)) _⟩
                case measure => simp [intOf]; omega
          · have hkd : decide ((0 : Int) < (k : Int)) = false := by simp; omega
            go_wp2_with fail
            go_quiet (fail)
            go_wp2
            go_roundw
            case rel => exact ⟨k + 1, by omega, by go_num, all_next HA.out (mapAt_good HX.out (by show xg < 4; omega) (.inl (by omega))), below_drewN (hnx.trans (Below.mono (later_alloc _ _) hnx.size)) _⟩
            case measure => simp [intOf]; omega
      · go_wp2
        go_ret
        obtain rfl : k = n := by omega
        exact ⟨ret_bool (mapOk_good HP.out hpf (by rw [← HL.out]; omega) (by have := HA.out; rw [HL.out] at this; exact this)).symm, hnx⟩
  · have hbp : (p.f != 0) = true := by simp [hpf]
    go_enter Try.func54, Try.ntmps54
    go_wp2
    go_ret
    exact ⟨ret_bool (mapOk_head HP.out hpf).symm, Below.refl _ _⟩

end Go.Proofs.Ytignemioillaiaa
