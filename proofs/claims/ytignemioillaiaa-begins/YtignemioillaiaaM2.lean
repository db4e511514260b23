/- Forty keys in a row and their owners, as a map of keys; the borders of a gift: no program text here. -/
import Derived.Test.YtignemioillaiaaM
namespace Go.Proofs.Ytignemioillaiaa
open Go.RowKit

def packN (a : Int) (o : Nat → Int) : Nat → List Pc
  | 0 => if a = 0 then [⟨0, o 0⟩] else join [⟨0, 0⟩] ⟨a, o 0⟩
  | k + 1 => join (packN a o k) ⟨a + (k + 1 : Nat), o (k + 1)⟩

def pack (a : Int) (o : Nat → Int) : List Pc := if a + 39 < 18446744073709551615 then join (packN a o 39) ⟨a + 40, 0⟩ else packN a o 39

def owns (a : Int) (o : Nat → Int) (k : Int) : Int := if a ≤ k ∧ k ≤ a + 39 then o (k - a).toNat else 0

theorem owns_in {a : Int} {o : Nat → Int} {j : Nat} (hj : j ≤ 39) : owns a o (a + j) = o j := by
  unfold owns; rw [if_pos (by omega)]; congr 1; omega

theorem owns_grp {a : Int} {o : Nat → Int} (ho : ∀ j, 0 ≤ o j ∧ o j < 4) (k : Int) : 0 ≤ owns a o k ∧ owns a o k < 4 := by
  unfold owns; split
  · exact ho _
  · decide

theorem packN_inv {a : Int} {o : Nat → Int} (ha : 0 ≤ a) (ha2 : a + 39 < 18446744073709551616) (ho : ∀ j, 0 ≤ o j ∧ o j < 4) : ∀ k : Nat, k ≤ 39 → Inv (packN a o k) (a + k) (owns a o) := by
  intro k
  induction k with
  | zero =>
    intro _
    have h0 := owns_in (a := a) (o := o) (j := 0) (by omega)
    rw [show a + ((0 : Nat) : Int) = a by omega] at h0 ⊢
    unfold packN
    by_cases hz : a = 0
    · subst hz
      have := inv_one (F := owns 0 o) (owns_grp ho _)
      rw [h0] at this
      rw [if_pos rfl]; exact this
    · rw [if_neg hz]
      have hout : ∀ k, k < a → owns a o k = 0 := fun k hk => by unfold owns; rw [if_neg (by omega)]
      have h1 := inv_one (F := owns a o) (owns_grp ho _)
      rw [hout 0 (by omega)] at h1
      have h2 := h1.step (b' := a) (by omega) (by omega) (fun k hk hk2 => by rw [hout k hk2, hout 0 (by omega)]) (owns_grp ho _)
      rw [h0] at h2
      exact h2
  | succ k ih =>
    intro hk
    have h1 := ih (by omega)
    have h2 := h1.step (b' := a + (k + 1 : Nat)) (by omega) (by omega) (fun j hj hj2 => by rw [show j = a + k by omega]) (owns_grp ho _)
    rw [owns_in hk] at h2
    exact h2

theorem packN_len {a : Int} {o : Nat → Int} (k : Nat) : (packN a o k).length ≤ k + 2 := by
  induction k with
  | zero =>
    unfold packN; split
    · simp
    · exact join_len _ _
  | succ k ih => have := join_len (packN a o k) ⟨a + (k + 1 : Nat), o (k + 1)⟩; unfold packN; omega

theorem pack_len {a : Int} {o : Nat → Int} : (pack a o).length ≤ 42 := by
  have := packN_len (a := a) (o := o) 39
  unfold pack; split
  · have := join_len (packN a o 39) ⟨a + 40, 0⟩; omega
  · omega

theorem pack_spec {a : Int} {o : Nat → Int} (ha : 0 ≤ a) (ha2 : a + 39 < 18446744073709551616) (ho : ∀ j, 0 ≤ o j ∧ o j < 4) : Can (pack a o) ∧ ∀ k, 0 ≤ k → k < 18446744073709551616 → own 0 (pack a o) k = owns a o k := by
  have h1 := packN_inv ha ha2 ho 39 (Nat.le_refl _)
  rw [show a + ((39 : Nat) : Int) = a + 39 by omega] at h1
  have hout : ∀ k, a + 39 < k → owns a o k = 0 := fun k hk => by unfold owns; rw [if_neg (by omega)]
  unfold pack; split
  · have h2 := h1.step (b' := a + 40) (by omega) (by omega) (fun j hj hj2 => by rw [show j = a + 39 by omega]) (owns_grp ho _)
    rw [hout (a + 40) (by omega)] at h2
    exact ⟨h2.can, fun k hk _ => h2.end (B := k) (fun j hj _ => by rw [hout j (by omega), hout (a + 40) (by omega)]) k hk (Int.le_refl _)⟩
  · exact ⟨h1.can, fun k hk hk2 => h1.end (B := a + 39) (fun j hj hj2 => by rw [show j = a + 39 by omega]) k hk (by omega)⟩

theorem pack_start {a : Int} (ha : 0 ≤ a) (ha2 : a + 39 < 18446744073709551616) : [⟨0, 0⟩] = pack a (fun _ => 0) := by
  obtain ⟨h1, h2⟩ := pack_spec (o := fun _ => 0) ha ha2 (fun _ => by decide)
  refine can_uniq ⟨rfl, by decide, by decide, trivial⟩ h1 (fun k hk hk2 => ?_)
  rw [h2 k hk hk2]
  have h0 : own 0 [⟨0, 0⟩] k = 0 := by simp [own]
  rw [h0]; unfold owns; split <;> rfl

theorem give_pack {a : Int} {o : Nat → Int} (ha : 0 ≤ a) (ha2 : a + 39 < 18446744073709551616) (ho : ∀ j, 0 ≤ o j ∧ o j < 4) {lo hi : Nat} {g : Int} (h1 : lo ≤ hi) (h2 : hi ≤ 39) (hg : 0 ≤ g ∧ g < 4) :
    giveL (pack a o) (a + lo) (a + hi) g = pack a (fun j => if lo ≤ j ∧ j ≤ hi then g else o j) := by
  obtain ⟨c1, c2⟩ := pack_spec ha ha2 ho
  obtain ⟨d1, d2⟩ := give_spec c1 (lo := a + lo) (hi := a + hi) (g := g) (by omega) (by omega) (by omega) hg
  obtain ⟨e1, e2⟩ := pack_spec (o := fun j => if lo ≤ j ∧ j ≤ hi then g else o j) ha ha2 (fun j => by
    by_cases hj : lo ≤ j ∧ j ≤ hi
    · simp only [hj, and_self, if_true]; exact hg
    · simp only [hj, if_false]; exact ho j)
  refine can_uniq d1 e1 (fun k hk hk2 => ?_)
  rw [d2 k hk hk2, e2 k hk hk2]
  unfold giv
  rw [c2 k hk hk2]
  unfold owns
  by_cases hin : a ≤ k ∧ k ≤ a + 39
  · rw [if_pos hin, if_pos hin]
    by_cases h3 : a + lo ≤ k ∧ k ≤ a + hi
    · rw [if_pos h3]; exact (if_pos (by omega)).symm
    · rw [if_neg h3]; exact (if_neg (by omega)).symm
  · rw [if_neg hin, if_neg hin, if_neg (by omega)]

theorem pack_find {a : Int} {o : Nat → Int} (ha : 0 ≤ a) (ha2 : a + 39 < 18446744073709551616) (ho : ∀ j, 0 ≤ o j ∧ o j < 4) {k : Nat} (hk : k ≤ 39) : own 0 (pack a o) (a + k) = o k := by
  rw [(pack_spec ha ha2 ho).2 (a + k) (by omega) (by omega), owns_in hk]

theorem pack_find_end {a : Int} {o : Nat → Int} (ha : 0 ≤ a) (ha2 : a + 39 < 18446744073709551615) (ho : ∀ j, 0 ≤ o j ∧ o j < 4) : own 0 (pack a o) (a + 40) = 0 := by
  rw [(pack_spec ha (by omega) ho).2 (a + 40) (by omega) (by omega)]; unfold owns; rw [if_neg (by omega)]

theorem join_count {L : List Pc} {b : Int} {F : Int → Int} (h : Inv L b F) (p : Pc) : (join L p).length = if F b = p.g then L.length else L.length + 1 := by
  obtain ⟨y, hy, hyg⟩ := h.last
  unfold join; rw [hy, ← hyg]
  simp only
  split <;> simp

theorem packN_count0 {a : Int} {o : Nat → Int} : (packN a o 0).length = if a = 0 then 1 else if o 0 = 0 then 1 else 2 := by
  unfold packN
  split
  · rfl
  · simp only [join, List.getLast?_singleton]
    by_cases h : o 0 = 0
    · simp [h]
    · have : ¬ (0 : Int) = o 0 := fun e => h e.symm
      simp [h, this]

theorem packN_count {a : Int} {o : Nat → Int} (ha : 0 ≤ a) (ha2 : a + 39 < 18446744073709551616) (ho : ∀ j, 0 ≤ o j ∧ o j < 4) {k : Nat} (hk : k < 39) : (packN a o (k + 1)).length = if o k = o (k + 1) then (packN a o k).length else (packN a o k).length + 1 := by
  have h := join_count (packN_inv ha ha2 ho k (by omega)) ⟨a + (k + 1 : Nat), o (k + 1)⟩
  rw [owns_in (by omega)] at h
  exact h

theorem pack_count {a : Int} {o : Nat → Int} (ha : 0 ≤ a) (ha2 : a + 39 < 18446744073709551616) (ho : ∀ j, 0 ≤ o j ∧ o j < 4) : (pack a o).length = if a + 39 < 18446744073709551615 ∧ o 39 ≠ 0 then (packN a o 39).length + 1 else (packN a o 39).length := by
  have h := join_count (packN_inv ha ha2 ho 39 (by omega)) ⟨a + 40, 0⟩
  rw [owns_in (by omega)] at h
  unfold pack
  by_cases h1 : a + 39 < 18446744073709551615
  · rw [if_pos h1, h]
    by_cases h2 : o 39 = 0 <;> simp [h1, h2]
  · rw [if_neg h1, if_neg (by omega)]

/-- 'next': the least border above 'at' among S, or 'at' if there is none. -/
def Nx (S : List Int) (at' next : Int) : Prop := (next = at' ∧ ∀ x ∈ S, x ≤ at') ∨ (at' < next ∧ next ∈ S ∧ ∀ x ∈ S, at' < x → next ≤ x)

theorem nx_nil (at' : Int) : Nx [] at' at' := .inl ⟨rfl, by simp⟩

theorem nx_take {S : List Int} {at' next y : Int} (h : Nx S at' next) (h1 : at' < y) (h2 : next = at' ∨ y < next) : Nx (S ++ [y]) at' y := by
  refine .inr ⟨h1, by simp, fun x hx hlt => ?_⟩
  rcases List.mem_append.1 hx with hx | hx
  · rcases h with ⟨_, h⟩ | ⟨_, _, h⟩
    · have := h x hx; omega
    · have := h x hx hlt; rcases h2 with h2 | h2 <;> omega
  · simp at hx; omega

theorem nx_leave {S : List Int} {at' next y : Int} (h : Nx S at' next) (h1 : ¬ (at' < y ∧ (next = at' ∨ y < next))) : Nx (S ++ [y]) at' next := by
  rcases h with ⟨h, h2⟩ | ⟨h, h2, h3⟩
  · refine .inl ⟨h, fun x hx => ?_⟩
    rcases List.mem_append.1 hx with hx | hx
    · exact h2 x hx
    · simp at hx; subst hx; omega
  · refine .inr ⟨h, List.mem_append_left _ h2, fun x hx hlt => ?_⟩
    rcases List.mem_append.1 hx with hx | hx
    · exact h3 x hx hlt
    · simp at hx; subst hx; omega

theorem Nx.ge {S : List Int} {at' next : Int} (h : Nx S at' next) : at' ≤ next := by
  rcases h with ⟨h, _⟩ | ⟨h, _⟩ <;> omega

def borders (m : List Pc) (lo hi : Int) : List Int := m.map Pc.f ++ [lo] ++ (if hi = 18446744073709551615 then [] else [hi + 1])

theorem giv_same {m : List Pc} {lo hi g a k : Int} (hak : a ≤ k) (hk : k < 18446744073709551616) (h : ∀ x ∈ borders m lo hi, a < x → k < x) : giv m lo hi g k = giv m lo hi g a := by
  have hm : ∀ q ∈ m, ¬ (a < q.f ∧ q.f ≤ k) := fun q hq hc => by
    have := h q.f (by simp only [borders, List.mem_append, List.mem_map]; exact .inl (.inl ⟨q, hq, rfl⟩)) hc.1; omega
  have hl : a < lo → k < lo := h lo (by simp [borders])
  have hh : a ≤ hi → k ≤ hi := fun hx => by
    by_cases hm : hi = 18446744073709551615
    · omega
    · have := h (hi + 1) (by simp [borders, hm]) (by omega); omega
  unfold giv
  rw [own_same m a k hak 0 hm]
  by_cases h1 : lo ≤ a ∧ a ≤ hi
  · rw [if_pos h1, if_pos (by omega)]
  · rw [if_neg h1, if_neg (by omega)]

/-- What the reckoning from border to border has made when it comes to 'at'. -/
def Came (F : Int → Int) (out : List Pc) (at' : Int) : Prop := (out = [] ∧ at' = 0) ∨ ∃ b, Inv out b F ∧ b < at' ∧ ∀ k, b ≤ k → k < at' → F k = F b

theorem came_join {F : Int → Int} {out : List Pc} {at' : Int} (h : Came F out at') (hlt : at' < 18446744073709551616) (hg : 0 ≤ F at' ∧ F at' < 4) : Inv (join out ⟨at', F at'⟩) at' F := by
  rcases h with ⟨rfl, rfl⟩ | ⟨b, h1, h2, h3⟩
  · exact inv_one hg
  · exact h1.step h2 hlt h3 hg

theorem came_next {m : List Pc} {lo hi g : Int} {out : List Pc} {at' next : Int} (h : Inv out at' (giv m lo hi g)) (hn : Nx (borders m lo hi) at' next) (hne : next ≠ at') (hlt : next < 18446744073709551616) : Came (giv m lo hi g) out next := by
  refine .inr ⟨at', h, by have := hn.ge; omega, fun k hk hk2 => ?_⟩
  refine giv_same hk (by omega) (fun x hx hlt => ?_)
  rcases hn with ⟨h1, _⟩ | ⟨_, _, h3⟩
  · exact (hne h1).elim
  · have := h3 x hx hlt; omega

theorem came_end {m : List Pc} {lo hi g : Int} (hc : Can m) (h0 : 0 ≤ lo) (h1 : lo ≤ hi) (h2 : hi < 18446744073709551616) (hg : 0 ≤ g ∧ g < 4) {out : List Pc} {at' : Int} (h : Inv out at' (giv m lo hi g)) (hn : Nx (borders m lo hi) at' at') : out = giveL m lo hi g := by
  obtain ⟨c1, c2⟩ := give_spec hc h0 h1 h2 hg
  refine can_uniq h.can c1 (fun k hk hk2 => ?_)
  rw [c2 k hk hk2]
  refine h.end (B := 18446744073709551615) (fun j hj hj2 => giv_same hj (by omega) (fun x hx hlt => ?_)) k hk (by omega)
  rcases hn with ⟨_, h1⟩ | ⟨h1, _⟩
  · have := h1 x hx; omega
  · omega

theorem count_next {S : List Int} {a a' : Int} (h : a ∈ S) (hlt : a < a') : (S.countP fun x => decide (x < a)) + 1 ≤ S.countP fun x => decide (x < a') := by
  have hmono : ∀ S : List Int, (S.countP fun x => decide (x < a)) ≤ S.countP fun x => decide (x < a') := fun S => List.countP_mono_left (fun x _ hx => by simp at hx ⊢; omega)
  induction S with
  | nil => simp at h
  | cons y t ih =>
    rw [List.countP_cons, List.countP_cons]
    rcases List.mem_cons.1 h with rfl | h
    · have := hmono t
      have h1 : ¬ a < a := Int.lt_irrefl _
      simp only [decide_eq_true_eq, h1, hlt, if_true, if_false]; omega
    · have := ih h
      by_cases hy : y < a
      · have : y < a' := by omega
        simp only [decide_eq_true_eq, hy, this, if_true]; omega
      · simp only [decide_eq_true_eq, hy, if_false]; split <;> omega

end Go.Proofs.Ytignemioillaiaa
