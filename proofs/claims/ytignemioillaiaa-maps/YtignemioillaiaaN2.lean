/- Package ranges: whose a key is. -/
import Derived.Test.YtignemioillaiaaN
namespace Go.Proofs.Ytignemioillaiaa
open Go.RowKit

theorem own_drop {m : List Pc} {k : Nat} {x : Pc} {g key : Int} (hx : m[k]? = some x) : own g (m.drop k) key = if x.f ≤ key then own x.g (m.drop (k + 1)) key else g := by
  obtain ⟨hk, rfl⟩ := List.getElem?_eq_some_iff.1 hx
  rw [List.drop_eq_getElem_cons hk]
  rfl

set_option maxHeartbeats 400000 in
set_option maxRecDepth 100000 in
theorem holder_any (a : Option Addr) (n c : Nat) (m : List Pc) (key : Int) (p : Pc) (hp : m[0]? = some p) (w : World) (h : MapIn w a n c m) :
    Calls Try.prog 55 #[.slice a n c, .int .u64 key] w fun e w' => e = .returned (.int .u8 (own p.g m key)) ∧ Below w.heap.size w w' := by
  have hlen : n = m.length := by simpa using h.len
  have hlm : n ≤ maxLen := Nat.le_trans h.le h.max
  unfold maxLen at hlm
  have h0 : 0 < n := by rw [hlen]; exact (List.getElem?_eq_some_iff.1 hp).1
  have HL : Hid (n = m.length) := hlen
  clear hlen
  obtain ⟨b, off, ha, hbB, hp0, hp1⟩ := h.atP hp
  obtain rfl : a = some ⟨b, off, none⟩ := ha
  have hi0 : (0 : Int) < (n : Int) := by omega
  rw [Nat.zero_mul, Nat.add_zero] at hp1
  clear hp hp0
  obtain ⟨pf, pg⟩ := p
  dsimp only at hp1
  go_enter Try.func55, Try.ntmps55
  go_wp2
  go_loopw [5, 14] (fun gr i wr => ∃ (k : Nat) (g : Int), k ≤ n ∧ i = .int .i64 k ∧ gr = .int .u8 g ∧ Hid (own pg m key = own g (m.drop k) key) ∧ Below w.heap.size w wr) (fun _ i _ => n - (intOf i).toNat)
  case atStart => exact ⟨0, pg, Nat.zero_le _, rfl, rfl, (by show _ = _; simp), Below.refl _ _⟩
  case round =>
    obtain ⟨k, g, hk, rfl, rfl, HG, hnx⟩ := hrel
    by_cases hlt : k < n
    · obtain ⟨x, hx⟩ : ∃ x, m[k]? = some x := ⟨m[k]'(by rw [← HL.out]; exact hlt), by simp⟩
      have hS := h.below hnx (Nat.le_refl _)
      obtain ⟨b', off', ha, hbB', hc0, hc1⟩ := hS.atP hx
      simp only [Option.some.injEq, Addr.mk.injEq, and_true] at ha
      obtain ⟨rfl, rfl⟩ := ha
      have HX : Hid (m[k]? = some x) := hx
      clear hx
      obtain ⟨xf, xg⟩ := x
      dsimp only at hc0 hc1
      have hbz : b < wr.heap.size := by have := hnx.size; omega
      have hi1 : (0 : Int) ≤ (k : Int) := by omega
      have hi2 : (k : Int) < (n : Int) := by omega
      by_cases hg : key < xf
      · go_wp2_with fail
        go_ret
        refine ⟨?_, hnx.trans (Below.mono (later_alloc _ _) hnx.size)⟩
        show Ending.returned (.int .u8 g) = _
        rw [HG.out, own_drop HX.out, if_neg (by show ¬ xf ≤ key; omega)]
      · go_wp2_with fail
        go_roundw
        case rel => exact ⟨k + 1, xg, by omega, by go_num, rfl, (by show _ = _; rw [HG.out, own_drop HX.out, if_pos (by show xf ≤ key; omega)]), hnx.trans (Below.mono (later_alloc _ _) hnx.size)⟩
        case measure => simp [intOf]; omega
    · go_wp2
      go_ret
      refine ⟨?_, hnx⟩
      show Ending.returned (.int .u8 g) = _
      obtain rfl : k = n := by omega
      rw [HG.out, HL.out, List.drop_length]; rfl

end Go.Proofs.Ytignemioillaiaa
