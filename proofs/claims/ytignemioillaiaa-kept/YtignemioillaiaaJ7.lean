/- Rows in the order of their keys, replies in the order of key and client: where one stands, and what the list is with it put in, laid anew or taken out. -/
import Derived.Test.YtignemioillaiaaJ2
namespace Go.Proofs.Ytignemioillaiaa
open Go.RowKit Go.Lib

theorem cmpI_lt {a b : Int} : cmpI a b < 0 ↔ a < b := by
  unfold cmpI; split
  · simp; omega
  · split <;> omega
theorem cmpI_eq {a b : Int} : cmpI a b = 0 ↔ a = b := by
  unfold cmpI; split
  · simp; omega
  · split <;> omega
theorem cmpP_lt {a b : Rep} : cmpP a b < 0 ↔ a.key < b.key ∨ a.key = b.key ∧ a.c < b.c := by
  unfold cmpP orI
  split
  · rename_i h
    rw [cmpI_eq] at h
    rw [cmpI_lt]; omega
  · rename_i h
    rw [cmpI_eq] at h
    rw [cmpI_lt]; omega
theorem cmpP_eq {a b : Rep} : cmpP a b = 0 ↔ a.key = b.key ∧ a.c = b.c := by
  unfold cmpP orI
  split
  · rename_i h
    rw [cmpI_eq] at h
    rw [cmpI_eq]; omega
  · rename_i h
    rw [cmpI_eq] at h
    rw [cmpI_eq]; omega

/-- A list in order: whatever f looks for, what stands ahead of it stands ahead. -/
def Mono {α : Type} (f : α → Int) (l : List α) : Prop := ∀ (i j : Nat) (x y : α), i ≤ j → l[i]? = some x → l[j]? = some y → f y < 0 → f x < 0

def SortT (T : List Row) : Prop := T.Pairwise (fun a b => a.key < b.key)
def SortD (D : List Rep) : Prop := D.Pairwise (fun a b => a.key < b.key ∨ a.key = b.key ∧ a.c < b.c)

theorem pair_at {α : Type} {R : α → α → Prop} {l : List α} (h : l.Pairwise R) {i j : Nat} {x y : α} (hij : i < j) (hx : l[i]? = some x) (hy : l[j]? = some y) : R x y := by
  obtain ⟨hi, rfl⟩ := List.getElem?_eq_some_iff.1 hx
  obtain ⟨hj, rfl⟩ := List.getElem?_eq_some_iff.1 hy
  exact List.pairwise_iff_getElem.1 h i j hi hj hij

theorem monoT {T : List Row} (h : SortT T) (key : Int) : Mono (fun x : Row => cmpI x.key key) T := by
  intro i j x y hij hx hy hl
  rcases Nat.lt_or_eq_of_le hij with h1 | rfl
  · have := pair_at h h1 hx hy
    rw [cmpI_lt] at hl ⊢; omega
  · rw [hx] at hy; cases hy; exact hl
theorem monoD {D : List Rep} (h : SortD D) (q : Rep) : Mono (fun x : Rep => cmpP x q) D := by
  intro i j x y hij hx hy hl
  rcases Nat.lt_or_eq_of_le hij with h1 | rfl
  · have := pair_at h h1 hx hy
    rw [cmpP_lt] at hl ⊢; omega
  · rw [hx] at hy; cases hy; exact hl

/-- The place that the search finds parts the list. -/
theorem posB_le {α : Type} (f : α → Int) (l : List α) : posB f l ≤ l.length := List.countP_le_length
theorem posB_part {α : Type} (f : α → Int) : ∀ (l : List α), Mono f l → (∀ (t : Nat) (x : α), t < posB f l → l[t]? = some x → f x < 0) ∧ (∀ (t : Nat) (x : α), posB f l ≤ t → l[t]? = some x → 0 ≤ f x)
  | [], _ => ⟨fun t x _ h => by simp at h, fun t x _ h => by simp at h⟩
  | a :: r, h => by
    have hr : Mono f r := fun i j x y hij hx hy => h (i + 1) (j + 1) x y (by omega) (by simpa using hx) (by simpa using hy)
    obtain ⟨h1, h2⟩ := posB_part f r hr
    by_cases ha : f a < 0
    · have hp : posB f (a :: r) = posB f r + 1 := by unfold posB; rw [List.countP_cons_of_pos (by simp [ha])]
      rw [hp]
      refine ⟨fun t x ht hx => ?_, fun t x ht hx => ?_⟩
      · cases t with
        | zero => simp at hx; subst hx; exact ha
        | succ t => exact h1 t x (by omega) (by simpa using hx)
      · cases t with
        | zero => omega
        | succ t => exact h2 t x (by omega) (by simpa using hx)
    · have hz : posB f r = 0 := by
        unfold posB; rw [List.countP_eq_zero]
        intro x hx
        obtain ⟨t, ht, rfl⟩ := List.getElem_of_mem hx
        intro hc
        exact ha (h 0 (t + 1) a r[t] (Nat.zero_le _) rfl (by simp [ht]) (by simpa using hc))
      have hp : posB f (a :: r) = 0 := by
        unfold posB at hz ⊢; rw [List.countP_cons_of_neg (by simp [ha]), hz]
      rw [hp]
      refine ⟨fun t x ht _ => by omega, fun t x ht hx => ?_⟩
      cases t with
      | zero => simp at hx; subst hx; exact Int.not_lt.1 ha
      | succ t => exact h2 t x (by omega) (by simpa using hx)

theorem hitB_some {α : Type} {f : α → Int} {l : List α} (h : hitB f l = true) : ∃ x, l[posB f l]? = some x ∧ f x = 0 := by
  unfold hitB at h
  cases hx : l[posB f l]? with
  | none => simp [hx] at h
  | some x => exact ⟨x, rfl, by simpa [hx] using h⟩
theorem hitB_none {T : List Row} {key : Int} (hs : SortT T) (h : hitB (fun x : Row => cmpI x.key key) T = false) : ∀ x ∈ T, x.key ≠ key := by
  intro x hx e
  obtain ⟨t, ht, rfl⟩ := List.getElem_of_mem hx
  obtain ⟨h1, h2⟩ := posB_part _ T (monoT hs key)
  have hz : cmpI T[t].key key = 0 := cmpI_eq.2 e
  have hge : posB (fun x : Row => cmpI x.key key) T ≤ t := by
    rcases Nat.lt_or_ge t (posB (fun x : Row => cmpI x.key key) T) with hlt | hge
    · have := h1 t _ hlt (List.getElem?_eq_getElem ht)
      simp only [hz] at this; omega
    · exact hge
  have hp : posB (fun x : Row => cmpI x.key key) T < T.length := by omega
  have hy := List.getElem?_eq_getElem hp
  have h0 := h2 _ _ (Nat.le_refl _) hy
  rcases Nat.lt_or_eq_of_le hge with hlt | heq
  · have := pair_at hs hlt hy (List.getElem?_eq_getElem ht)
    have h3 : ¬ cmpI T[posB (fun x : Row => cmpI x.key key) T].key key < 0 := by omega
    rw [cmpI_lt] at h3; omega
  · unfold hitB at h
    rw [hy] at h
    have : cmpI T[posB (fun x : Row => cmpI x.key key) T].key key = 0 := by rw [cmpI_eq]; simpa [heq] using e
    simp [this] at h
theorem hitB_noneD {D : List Rep} {q : Rep} (hs : SortD D) (h : hitB (fun x : Rep => cmpP x q) D = false) : ∀ x ∈ D, ¬ (x.key = q.key ∧ x.c = q.c) := by
  intro x hx e
  obtain ⟨t, ht, rfl⟩ := List.getElem_of_mem hx
  obtain ⟨h1, h2⟩ := posB_part _ D (monoD hs q)
  have hz : cmpP D[t] q = 0 := cmpP_eq.2 e
  have hge : posB (fun x : Rep => cmpP x q) D ≤ t := by
    rcases Nat.lt_or_ge t (posB (fun x : Rep => cmpP x q) D) with hlt | hge
    · have := h1 t _ hlt (List.getElem?_eq_getElem ht)
      simp only [hz] at this; omega
    · exact hge
  have hp : posB (fun x : Rep => cmpP x q) D < D.length := by omega
  have hy := List.getElem?_eq_getElem hp
  have h0 := h2 _ _ (Nat.le_refl _) hy
  rcases Nat.lt_or_eq_of_le hge with hlt | heq
  · have := pair_at hs hlt hy (List.getElem?_eq_getElem ht)
    have h3 : ¬ cmpP D[posB (fun x : Rep => cmpP x q) D] q < 0 := by omega
    rw [cmpP_lt] at h3; omega
  · unfold hitB at h
    rw [hy] at h
    have : cmpP D[posB (fun x : Rep => cmpP x q) D] q = 0 := by rw [cmpP_eq]; simpa [heq] using e
    simp [this] at h

/-- An element put in at its place. -/
def insL {α : Type} (l : List α) (i : Nat) (x : α) : List α := l.take i ++ (x :: l.drop i)
theorem insL_len {α : Type} (l : List α) (i : Nat) (x : α) : (insL l i x).length = l.length + 1 := by simp [insL]; omega
theorem mem_insL {α : Type} {l : List α} {i : Nat} {x y : α} : y ∈ insL l i x ↔ y = x ∨ y ∈ l := by
  unfold insL
  simp only [List.mem_append, List.mem_cons]
  constructor
  · rintro (h | h | h)
    · exact .inr (List.mem_of_mem_take h)
    · exact .inl h
    · exact .inr (List.mem_of_mem_drop h)
  · rintro (h | h)
    · exact .inr (.inl h)
    · rw [← List.take_append_drop i l] at h
      rcases List.mem_append.1 h with h | h
      · exact .inl h
      · exact .inr (.inr h)
theorem insL_pair {α : Type} {R : α → α → Prop} {l : List α} {i : Nat} {x : α} (h : l.Pairwise R) (h1 : ∀ (t : Nat) (y : α), t < i → l[t]? = some y → R y x) (h2 : ∀ (t : Nat) (y : α), i ≤ t → l[t]? = some y → R x y) : (insL l i x).Pairwise R := by
  unfold insL
  rw [List.pairwise_append]
  refine ⟨h.sublist (List.take_sublist _ _), ?_, ?_⟩
  · rw [List.pairwise_cons]
    refine ⟨fun y hy => ?_, h.sublist (List.drop_sublist _ _)⟩
    obtain ⟨t, ht, rfl⟩ := List.getElem_of_mem hy
    refine h2 (i + t) _ (by omega) ?_
    rw [List.getElem_drop]
    exact List.getElem?_eq_getElem _
  · intro y hy z hz
    have hyx : R y x := by
      obtain ⟨t, ht, rfl⟩ := List.getElem_of_mem hy
      rw [List.length_take] at ht
      refine h1 t _ (by omega) ?_
      rw [List.getElem_take]
      exact List.getElem?_eq_getElem _
    rcases List.mem_cons.1 hz with rfl | hz
    · exact hyx
    · have := List.pairwise_append.1 (by rw [List.take_append_drop]; exact h : (l.take i ++ l.drop i).Pairwise R)
      exact this.2.2 y hy z hz

theorem sort_ins {T : List Row} {key v : Int} (hs : SortT T) (h : hitB (fun x : Row => cmpI x.key key) T = false) : SortT (insL T (posB (fun x : Row => cmpI x.key key) T) ⟨key, v⟩) := by
  obtain ⟨h1, h2⟩ := posB_part _ T (monoT hs key)
  refine insL_pair hs (fun t y ht hy => ?_) (fun t y ht hy => ?_)
  · exact cmpI_lt.1 (h1 t y ht hy)
  · have h3 := h2 t y ht hy
    have h4 : ¬ cmpI y.key key < 0 := by omega
    rw [cmpI_lt] at h4
    have := hitB_none hs h y (List.mem_of_getElem? hy)
    show key < y.key
    omega
theorem sort_insD {D : List Rep} {q p : Rep} (hs : SortD D) (hk : p.key = q.key) (hc : p.c = q.c) (h : hitB (fun x : Rep => cmpP x q) D = false) : SortD (insL D (posB (fun x : Rep => cmpP x q) D) p) := by
  obtain ⟨h1, h2⟩ := posB_part _ D (monoD hs q)
  refine insL_pair hs (fun t y ht hy => ?_) (fun t y ht hy => ?_)
  · have := cmpP_lt.1 (h1 t y ht hy)
    rw [hk, hc]; exact this
  · have h3 := h2 t y ht hy
    have h4 : ¬ cmpP y q < 0 := by omega
    rw [cmpP_lt] at h4
    have := hitB_noneD hs h y (List.mem_of_getElem? hy)
    rw [hk, hc]
    omega
theorem set_pair {α : Type} {R : α → α → Prop} {l : List α} {i : Nat} {x y : α} (h : l.Pairwise R) (hx : l[i]? = some x) (h1 : ∀ z, R z x → R z y) (h2 : ∀ z, R x z → R y z) : (l.set i y).Pairwise R := by
  have hi := (List.getElem?_eq_some_iff.1 hx).1
  rw [List.pairwise_iff_getElem] at h ⊢
  intro a b ha hb hab
  rw [List.length_set] at ha hb
  have hxe : l[i] = x := (List.getElem?_eq_some_iff.1 hx).2
  rw [List.getElem_set, List.getElem_set]
  split
  · rename_i e
    subst e
    rw [if_neg (by omega)]
    exact h2 _ (hxe ▸ h i b ha hb hab)
  · split
    · rename_i e
      subst e
      exact h1 _ (hxe ▸ h a i ha hb hab)
    · exact h a b ha hb hab

end Go.Proofs.Ytignemioillaiaa
