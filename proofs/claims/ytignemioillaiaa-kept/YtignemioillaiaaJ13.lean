/- shard.stranger. -/
import Derived.Test.YtignemioillaiaaJ12
import Derived.Test.YtignemioillaiaaN6
namespace Go.Proofs.Ytignemioillaiaa
open Go.RowKit Go.Lib

/-- A piece that begins behind lo and not behind hi. -/
def inP (lo hi : Int) (p : Pc) : Bool := decide (lo < p.f) && decide (p.f ≤ hi)
def strG (m : List Pc) (g lo hi : Int) : Int := if own 0 m lo ≠ g then own 0 m lo else ((m.find? (inP lo hi)).map Pc.g).getD 0
def strB (m : List Pc) (g lo hi : Int) : Bool := if own 0 m lo ≠ g then true else (m.find? (inP lo hi)).isSome

theorem find_at {α : Type} {f : α → Bool} : ∀ {l : List α} {k : Nat} {x : α}, (∀ (i : Nat) (y : α), i < k → l[i]? = some y → f y = false) → l[k]? = some x → f x = true → l.find? f = some x
  | [], k, x, _, h, _ => by simp at h
  | a :: r, 0, x, _, h, hf => by simp at h; subst h; simp [hf]
  | a :: r, k + 1, x, hb, h, hf => by
    have ha : f a = false := hb 0 a (Nat.succ_pos _) rfl
    rw [List.find?_cons, ha]
    exact find_at (k := k) (fun i y hi hy => hb (i + 1) y (by omega) (by simpa using hy)) (by simpa using h) hf
theorem find_not {α : Type} {f : α → Bool} {l : List α} (h : ∀ (i : Nat) (y : α), l[i]? = some y → f y = false) : l.find? f = none := by
  rw [List.find?_eq_none]
  intro x hx
  obtain ⟨i, hi, rfl⟩ := List.getElem_of_mem hx
  simp [h i _ (List.getElem?_eq_getElem hi)]

set_option maxHeartbeats 400000 in
set_option maxRecDepth 100000 in
theorem stranger_any (w : World) (b : Nat) (g n : Int) (vT vD vO vI : Value) (a : Option Addr) (mn mc : Nat) (m : List Pc) (lo hi : Int)
    (hcell : w.heap[b]? = some (.cells #[.int .u8 g, .int .u8 n, vT, .slice a mn mc, vD, vO, vI] 74)) (hM : MapIn w a mn mc m) (hok : mapOk m = true) (hcan : Can m) (hlo : 0 ≤ lo) :
    Calls Try.prog 109 #[.pointer (some ⟨b, 0, none⟩), .int .u64 lo, .int .u64 hi] w fun e w' => e = .returned (.tuple #[.int .u8 (strG m g lo hi), .bool (strB m g lo hi)]) ∧ Below w.heap.size w w' := by
  have HM : Hid (MapIn w a mn mc m) := hM
  have hlm : mn ≤ maxLen := Nat.le_trans hM.le hM.max
  unfold maxLen at hlm
  have hl0 : mn = m.length := by simpa using hM.len
  have HL : Hid (mn = m.length) := hl0
  clear hl0
  have HK : Hid (mapOk m = true ∧ Can m) := (⟨hok, hcan⟩ : _ ∧ _)
  obtain ⟨o, ho⟩ : ∃ o, o = own 0 m lo := ⟨_, rfl⟩
  have HO : Hid (own 0 m lo = o) := ho.symm
  have HC : Hid (w.heap[b]? = some (.cells #[.int .u8 g, .int .u8 n, vT, .slice a mn mc, vD, vO, vI] 74)) := hcell
  have hc3 : w.cell? ⟨b, 3, none⟩ = some (.slice a mn mc) := blk_cell hcell 3
  have hbl := (Array.getElem?_eq_some_iff.1 hcell).1
  clear hM hok hcan ho hcell
  by_cases hne : o = g
  · have hd : (!(o == g)) = false := by simp [hne]
    have hG : strG m g lo hi = ((m.find? (inP lo hi)).map Pc.g).getD 0 := by simp [strG, HO.out, hne]
    have hB : strB m g lo hi = (m.find? (inP lo hi)).isSome := by simp [strB, HO.out, hne]
    rw [hG, hB]
    clear hG hB
    subst hne
    go_enter Try.func109, Try.ntmps109
    go_wp2_with (go_at_call 18; go_must (refine (find_yes a mn mc m lo _ HM.out HK.out.1 HK.out.2 hlo).mono ?_; rintro e w1 ⟨rfl, hb1⟩; rw [HO.out]; have hc0 : w1.cell? ⟨b, 0, none⟩ = some (.int .u8 o) := blk hb1 HC.out 0; have hc31 : w1.cell? ⟨b, 3, none⟩ = some (.slice a mn mc) := blk hb1 HC.out 3))
    go_loopw [33] (fun i wr => ∃ k : Nat, k ≤ mn ∧ i = .int .i64 k ∧ Below w.heap.size w wr ∧ Hid (∀ (j : Nat) (y : Pc), j < k → m[j]? = some y → inP lo hi y = false)) (fun i _ => mn - (intOf i).toNat)
    case atStart => exact ⟨0, Nat.zero_le _, rfl, hb1, fun j y hj => absurd hj (Nat.not_lt_zero _)⟩
    case round =>
      obtain ⟨k, hk, rfl, hbr, HF⟩ := hrel
      by_cases hlt : k < mn
      · obtain ⟨x, hx⟩ : ∃ x, m[k]? = some x := ⟨m[k]'(by rw [← HL.out]; omega), by simp⟩
        obtain ⟨bb, off, ha, hbB, hp0, hp1⟩ := (HM.out.later hbr).atP hx
        dsimp only at ha
        subst ha
        have HX : Hid (m[k]? = some x) := hx
        clear hx
        obtain ⟨xf, xg⟩ := x
        dsimp only at hp0 hp1
        have hdk : decide ((k : Int) < (mn : Int)) = true := by simp; omega
        by_cases h1 : lo < xf
        · have hd1 : decide (lo < xf) = true := by simp [h1]
          by_cases h2 : xf ≤ hi
          · have hd2 : decide (xf ≤ hi) = true := by simp [h2]
            go_wp2_with fail
            go_ret2
            have hf := find_at HF.out HX.out (by simp [inP, h1, h2])
            exact ⟨by rw [hf]; rfl, later_trans hbr (by first | exact later_alloc _ _ | exact (later_alloc _ _).trans ((Only.setRow _ _ _).below (Nat.le_refl _)))⟩
          · have hd2 : decide (xf ≤ hi) = false := by simp [h2]
            go_wp2_with fail
            go_roundw
            case rel => exact ⟨k + 1, by omega, by go_num, later_trans hbr (later_alloc _ _), fun j y hj hy => by
              rcases Nat.lt_or_eq_of_le (Nat.le_of_lt_succ hj) with h | rfl
              · exact HF.out j y h hy
              · rw [HX.out] at hy; cases hy; simp [inP, h2]⟩
            case measure => simp [intOf]; omega
        · have hd1 : decide (lo < xf) = false := by simp [h1]
          go_wp2_with fail
          go_roundw
          case rel => exact ⟨k + 1, by omega, by go_num, later_trans hbr (later_alloc _ _), fun j y hj hy => by
            rcases Nat.lt_or_eq_of_le (Nat.le_of_lt_succ hj) with h | rfl
            · exact HF.out j y h hy
            · rw [HX.out] at hy; cases hy; simp [inP, h1]⟩
          case measure => simp [intOf]; omega
      · have hdk : decide ((k : Int) < (mn : Int)) = false := by simp; omega
        go_wp2_with fail
        go_ret2
        have hf := find_not (l := m) (f := inP lo hi) (fun i y hy => HF.out i y (by have := (List.getElem?_eq_some_iff.1 hy).1; have := HL.out; omega) hy)
        exact ⟨by rw [hf]; rfl, hbr⟩
  · have hd : (!(o == g)) = true := by simp [hne]
    go_enter Try.func109, Try.ntmps109
    go_wp2_with (go_at_call 18; go_must (refine (find_yes a mn mc m lo _ HM.out HK.out.1 HK.out.2 hlo).mono ?_; rintro e w1 ⟨rfl, hb1⟩; rw [HO.out]; have hc0 : w1.cell? ⟨b, 0, none⟩ = some (.int .u8 g) := blk hb1 HC.out 0))
    go_ret2
    exact ⟨by simp [strG, strB, HO.out, hne], hb1⟩

end Go.Proofs.Ytignemioillaiaa
