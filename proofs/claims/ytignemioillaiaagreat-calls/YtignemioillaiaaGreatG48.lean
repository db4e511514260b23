/- A shard, plain (2): what stays in order. -/
import Derived.Test.YtignemioillaiaaGreatG47
namespace Go.Proofs.YtignemioillaiaaGreat
set_option maxHeartbeats 8000000
set_option maxRecDepth 100000
section
open Go Go.Conc
theorem filter_allZ {α : Type} {P : α → Bool} {l : List α} (h : ∀ x ∈ l, P x = true) : l.filter P = l := List.filter_eq_self.2 h
theorem filter_noneZ {α : Type} {P : α → Bool} {l : List α} (h : ∀ x ∈ l, P x = false) : l.filter P = [] := by
  rw [List.filter_eq_nil_iff]; intro x hx; rw [h x hx]; simp
theorem take_posB {α : Type} {f : α → Int} : ∀ {l : List α}, Mono f l → l.take (posB f l) = l.filter (fun x => decide (f x < 0)) ∧ l.drop (posB f l) = l.filter (fun x => decide (0 ≤ f x)) := by
  intro l h
  obtain ⟨h1, h2⟩ := posB_part f l h
  have a1 : ∀ x ∈ l.take (posB f l), f x < 0 := by
    intro x hx
    obtain ⟨t, ht, rfl⟩ := List.getElem_of_mem hx
    rw [List.length_take] at ht
    exact h1 t _ (by omega) (by rw [List.getElem_take]; exact List.getElem?_eq_getElem (by omega))
  have a2 : ∀ x ∈ l.drop (posB f l), 0 ≤ f x := by
    intro x hx
    obtain ⟨t, ht, rfl⟩ := List.getElem_of_mem hx
    exact h2 (posB f l + t) _ (by omega) (by rw [List.getElem_drop]; exact List.getElem?_eq_getElem _)
  constructor
  · conv => rhs; rw [← List.take_append_drop (posB f l) l]
    rw [List.filter_append, filter_allZ (fun x hx => by simpa using a1 x hx), filter_noneZ (fun x hx => by have := a2 x hx; simp; omega), List.append_nil]
  · conv => rhs; rw [← List.take_append_drop (posB f l) l]
    rw [List.filter_append, filter_noneZ (fun x hx => by have := a1 x hx; simp; omega), filter_allZ (fun x hx => by simpa using a2 x hx), List.nil_append]
theorem lay_posB {α : Type} {f : α → Int} {l : List α} {q : α} (h : Mono f l) (hu : ∀ (i j : Nat) (x y : α), i < j → l[i]? = some x → l[j]? = some y → 0 ≤ f x → 0 < f y) :
    (if hitB f l then l.set (posB f l) q else insL l (posB f l) q) = l.filter (fun x => decide (f x < 0)) ++ q :: l.filter (fun x => decide (0 < f x)) := by
  obtain ⟨t1, t2⟩ := take_posB h
  cases hh : hitB f l with
  | true =>
    obtain ⟨x, hx, h0⟩ := hit_at hh
    have hlt := (List.getElem?_eq_some_iff.1 hx).1
    have e2 : l.drop (posB f l + 1) = l.filter (fun x => decide (0 < f x)) := by
      have d : l.drop (posB f l) = x :: l.drop (posB f l + 1) := by
        rw [List.drop_eq_getElem_cons hlt, (List.getElem?_eq_some_iff.1 hx).2]
      have a : ∀ y ∈ l.drop (posB f l + 1), 0 < f y := by
        intro y hy
        obtain ⟨t, ht, rfl⟩ := List.getElem_of_mem hy
        exact hu (posB f l) (posB f l + 1 + t) x _ (by omega) hx (by rw [List.getElem_drop]; exact List.getElem?_eq_getElem _) (by omega)
      have b : ∀ y ∈ l.take (posB f l), f y < 0 := by
        intro y hy; rw [t1] at hy; simpa using (List.mem_filter.1 hy).2
      conv => rhs; rw [← List.take_append_drop (posB f l) l, d]
      rw [List.filter_append, List.filter_cons, filter_noneZ (fun y hy => by have := b y hy; simp; omega), filter_allZ (fun y hy => by simpa using a y hy), h0]
      simp
    rw [if_pos rfl, List.set_eq_take_append_cons_drop, if_pos hlt, t1, e2]
  | false =>
    have e2 : l.drop (posB f l) = l.filter (fun x => decide (0 < f x)) := by
      rw [t2]
      apply List.filter_congr
      intro x hx
      obtain ⟨t, ht, rfl⟩ := List.getElem_of_mem hx
      obtain ⟨h1, h2⟩ := posB_part f l h
      by_cases hz : f l[t] = 0
      · exfalso
        have hge : posB f l ≤ t := by
          rcases Nat.lt_or_ge t (posB f l) with hlt | hge
          · have := h1 t _ hlt (List.getElem?_eq_getElem ht); omega
          · exact hge
        have hp : posB f l < l.length := by omega
        have hy := List.getElem?_eq_getElem hp
        have h0 := h2 _ _ (Nat.le_refl _) hy
        have hnz : f l[posB f l] ≠ 0 := by
          intro e; unfold hitB at hh; rw [hy] at hh; simp [e] at hh
        rcases Nat.lt_or_eq_of_le hge with hlt | heq
        · have := hu (posB f l) t _ _ hlt hy (List.getElem?_eq_getElem ht) h0
          omega
        · exact hnz (by simpa [heq] using hz)
      · by_cases hp : 0 ≤ f l[t]
        · have : 0 < f l[t] := by omega
          simp [hp, this]
        · have : ¬ 0 < f l[t] := by omega
          simp [hp, this]
    rw [if_neg (by simp), insL, t1, e2]
theorem strictT {T : List Row} (h : SortT T) (key : Int) : ∀ (i j : Nat) (x y : Row), i < j → T[i]? = some x → T[j]? = some y → 0 ≤ cmpI x.key key → 0 < cmpI y.key key := by
  intro i j x y hij hx hy h0
  have := pair_at h hij hx hy
  have a : ¬ cmpI x.key key < 0 := by omega
  rw [cmpI_lt] at a
  have b : ¬ cmpI y.key key < 0 := by rw [cmpI_lt]; omega
  have c : cmpI y.key key ≠ 0 := by rw [Ne, cmpI_eq]; omega
  omega
theorem strictD {D : List Rep} (h : SortD D) (q : Rep) : ∀ (i j : Nat) (x y : Rep), i < j → D[i]? = some x → D[j]? = some y → 0 ≤ cmpP x q → 0 < cmpP y q := by
  intro i j x y hij hx hy h0
  have := pair_at h hij hx hy
  have a : ¬ cmpP x q < 0 := by omega
  rw [cmpP_lt] at a
  have b : ¬ cmpP y q < 0 := by rw [cmpP_lt]; omega
  have c : cmpP y q ≠ 0 := by rw [Ne, cmpP_eq]; omega
  omega
theorem cmpI_gt {a b : Int} : 0 < cmpI a b ↔ b < a := by
  unfold cmpI; split
  · simp; omega
  · split <;> omega
theorem cmpP_gt {a b : Rep} : 0 < cmpP a b ↔ b.key < a.key ∨ b.key = a.key ∧ b.c < a.c := by
  unfold cmpP orI
  split
  · rename_i h
    rw [cmpI_eq] at h
    rw [cmpI_gt]; omega
  · rename_i h
    rw [cmpI_eq] at h
    rw [cmpI_gt]; omega
theorem ahead_iff {a b : Rep} : ahead a b = true ↔ a.key < b.key ∨ a.key = b.key ∧ a.c < b.c := by simp [ahead]
def putD (D : List Rep) (r : Rep) : List Rep := D.filter (fun x => ahead x r) ++ r :: D.filter (fun x => ahead r x)
theorem remD_put {D : List Rep} (h : SortD D) (r : Rep) : remD D r = putD D r := by
  unfold remD putD
  rw [lay_posB (monoD h r) (strictD h r)]
  congr 1
  · apply List.filter_congr; intro x _
    rw [Bool.eq_iff_iff, ahead_iff, decide_eq_true_iff, cmpP_lt]
  · congr 1
    apply List.filter_congr; intro x _
    rw [Bool.eq_iff_iff, ahead_iff, decide_eq_true_iff, cmpP_gt]
def putT (T : List Row) (r : Row) : List Row := T.filter (fun x => decide (x.key < r.key)) ++ r :: T.filter (fun x => decide (r.key < x.key))
theorem lay_putT {T : List Row} (h : SortT T) (key v : Int) : (if hasT T key then T.set (atT T key) ⟨key, v⟩ else insL T (atT T key) ⟨key, v⟩) = putT T ⟨key, v⟩ := by
  unfold putT
  rw [lay_posB (monoT h key) (strictT h key)]
  congr 1
  · apply List.filter_congr; intro x _
    rw [Bool.eq_iff_iff, decide_eq_true_iff, decide_eq_true_iff, cmpI_lt]
  · congr 1
    apply List.filter_congr; intro x _
    rw [Bool.eq_iff_iff, decide_eq_true_iff, decide_eq_true_iff, cmpI_gt]
theorem SortT.le {T : List Row} (h : SortT T) : T.Pairwise (fun a b => a.key ≤ b.key) := h.imp (fun h => by omega)
theorem SortD.le {D : List Rep} (h : SortD D) : D.Pairwise (fun a b => a.key ≤ b.key) := h.imp (fun h => by omega)
theorem sort_putD {D : List Rep} (h : SortD D) (r : Rep) : SortD (putD D r) := by
  unfold putD SortD
  rw [List.pairwise_append, List.pairwise_cons]
  refine ⟨h.sublist List.filter_sublist, ⟨fun x hx => ?_, h.sublist List.filter_sublist⟩, fun x hx y hy => ?_⟩
  · exact ahead_iff.1 (List.mem_filter.1 hx).2
  · have a := ahead_iff.1 (List.mem_filter.1 hx).2
    rcases List.mem_cons.1 hy with rfl | hy
    · exact a
    · have b := ahead_iff.1 (List.mem_filter.1 hy).2
      omega
theorem sort_putT {T : List Row} (h : SortT T) (r : Row) : SortT (putT T r) := by
  unfold putT SortT
  rw [List.pairwise_append, List.pairwise_cons]
  refine ⟨h.sublist List.filter_sublist, ⟨fun x hx => ?_, h.sublist List.filter_sublist⟩, fun x hx y hy => ?_⟩
  · simpa using (List.mem_filter.1 hx).2
  · have a : x.key < r.key := by simpa using (List.mem_filter.1 hx).2
    rcases List.mem_cons.1 hy with rfl | hy
    · exact a
    · have b : r.key < y.key := by simpa using (List.mem_filter.1 hy).2
      omega
theorem putD_len (D : List Rep) (r : Rep) (h : SortD D) : (putD D r).length ≤ D.length + 1 := by
  rw [← remD_put h]
  unfold remD; split
  · simp
  · rw [insL_len]; omega
theorem sB_lt {α : Type} {f : α → Int} {lo : Int} {l : List α} {x : α} (h : x ∈ sB f lo l) : f x < lo := by unfold sB at h; simpa using (List.mem_filter.1 h).2
theorem sA_gt {α : Type} {f : α → Int} {lo hi : Int} {l : List α} {x : α} (h : x ∈ sA f lo hi l) : hi < f x := by
  unfold sA at h; have := (List.mem_filter.1 h).2; simp at this; exact this.2
theorem rise_adj : ∀ {t : List Pc} {p : Pc}, Rise p.f p.g t → ∀ (i : Nat) (x y : Pc), (p :: t)[i + 1]? = some x → (p :: t)[i]? = some y → x.g < 4 ∧ y.f < x.f ∧ y.g ≠ x.g
  | [], p, _, i, x, y, hx, _ => by simp at hx
  | q :: t, p, h, i, x, y, hx, hy => by
    obtain ⟨h1, h2, h3, h4, h5, h6⟩ := h
    cases i with
    | zero => simp at hx hy; subst hx; subst hy; exact ⟨h5, h1, h3⟩
    | succ i => exact rise_adj h6 i x y (by simpa using hx) (by simpa using hy)
theorem mapOk_canZ {m : List Pc} (h : Can m) (hl : m.length ≤ 1000) : mapOk m = true := by
  cases m with
  | nil => exact h.elim
  | cons p t =>
    obtain ⟨h1, h2, h3, h4⟩ := h
    have ha := rise_adj (p := p) (t := t) (by rw [h1]; exact h4)
    unfold mapOk
    simp only [Bool.and_eq_true, decide_eq_true_eq, List.all_eq_true, List.mem_range]
    refine ⟨⟨⟨by simp, hl⟩, by simp [h1]⟩, fun i hi => ?_⟩
    unfold mapAt
    rw [List.getElem?_eq_getElem hi]
    cases i with
    | zero => simp [h3]
    | succ i =>
      obtain ⟨a1, a2, a3⟩ := ha i _ _ (List.getElem?_eq_getElem hi) (List.getElem?_eq_getElem (by omega))
      simp only [Nat.add_sub_cancel]
      rw [List.getElem?_eq_getElem (by omega)]
      simp only [Bool.and_eq_true, decide_eq_true_eq, Bool.or_eq_true, Bool.not_eq_true', beq_eq_false_iff_ne]
      exact ⟨a1, .inr ⟨a2, a3⟩⟩
theorem ok_setT {T : List Row} (h : SortT T) (key v : Int) : SortT (setT T key v) ∧ (setT T key v).length ≤ T.length + 1 := by
  have e := lay_putT h key v
  unfold setT
  cases hh : hasT T key with
  | true =>
    rw [hh] at e
    simp only [if_true] at e ⊢
    exact ⟨e ▸ sort_putT h _, by simp⟩
  | false =>
    rw [hh] at e
    have nf : ¬ (false = true) := by simp
    rw [if_neg nf] at e ⊢
    split
    · exact ⟨h, by omega⟩
    · exact ⟨e ▸ sort_putT h _, by rw [insL_len]; omega⟩
theorem ok_delT {T : List Row} (h : SortT T) (key : Int) : SortT (delT T key) ∧ (delT T key).length ≤ T.length := by
  unfold delT
  split
  · exact ⟨h.sublist (List.eraseIdx_sublist _ _), (List.eraseIdx_sublist _ _).length_le⟩
  · exact ⟨h, Nat.le_refl _⟩
theorem ok_remD {D : List Rep} (h : SortD D) (r : Rep) : SortD (remD D r) ∧ (remD D r).length ≤ D.length + 1 := by
  rw [remD_put h]
  exact ⟨sort_putD h r, putD_len D r h⟩
def inL {α : Type} (f : α → Int) (lo hi : Int) (fl : Bool) (l : List α) : List α := l.filter fun x => (decide (lo ≤ f x) && decide (f x ≤ hi)) == fl
theorem split_out {α : Type} {f : α → Int} {lo hi : Int} (hlh : lo ≤ hi) : ∀ {l : List α}, l.Pairwise (fun a b => f a ≤ f b) → sB f lo l ++ sA f lo hi l = inL f lo hi false l
  | [], _ => rfl
  | a :: t, h => by
    obtain ⟨h1, h2⟩ := List.pairwise_cons.1 h
    have ih := split_out hlh h2
    unfold sB sA inL at ih ⊢
    by_cases c1 : f a < lo
    · have e1 : ¬ (lo ≤ f a) := by omega
      simp only [List.filter_cons, c1, e1]
      simpa using ih
    · have nb : sB f lo t = [] := filter_noneZ (fun x hx => by have := h1 x hx; simp; omega)
      unfold sB at nb
      rw [nb] at ih
      by_cases c2 : hi < f a
      · have e2 : ¬ (f a ≤ hi) := by omega
        have e1 : lo ≤ f a := by omega
        simp only [List.filter_cons, c1, c2, e1, e2, nb]
        simpa using ih
      · have e2 : f a ≤ hi := by omega
        have e1 : lo ≤ f a := by omega
        simp only [List.filter_cons, c1, c2, e1, e2, nb]
        simpa using ih
theorem dlg_len {α : Type} {f : α → Int} {lo hi : Int} (hlh : lo ≤ hi) {l : List α} (h : l.Pairwise (fun a b => f a ≤ f b)) : (sB f lo l ++ sA f lo hi l).length ≤ l.length := by
  rw [split_out hlh h]; exact List.length_filter_le _ _
theorem ok_mid {B P A : List Row} {lo hi : Int} (hB : ∀ x ∈ B, x.key < lo) (hA : ∀ x ∈ A, hi < x.key) (hP : ∀ x ∈ P, lo ≤ x.key ∧ x.key ≤ hi) (sb : SortT B) (sp : SortT P) (sa : SortT A) (hlh : lo ≤ hi) : SortT (B ++ (P ++ A)) := by
  unfold SortT
  rw [List.pairwise_append, List.pairwise_append]
  refine ⟨sb, ⟨sp, sa, fun x hx y hy => ?_⟩, fun x hx y hy => ?_⟩
  · have := hP x hx; have := hA y hy; omega
  · have a := hB x hx
    rcases List.mem_append.1 hy with hy | hy
    · have := hP y hy; omega
    · have := hA y hy; omega
theorem ok_midD {B P A : List Rep} {lo hi : Int} (hB : ∀ x ∈ B, x.key < lo) (hA : ∀ x ∈ A, hi < x.key) (hP : ∀ x ∈ P, lo ≤ x.key ∧ x.key ≤ hi) (sb : SortD B) (sp : SortD P) (sa : SortD A) (hlh : lo ≤ hi) : SortD (B ++ (P ++ A)) := by
  unfold SortD
  rw [List.pairwise_append, List.pairwise_append]
  refine ⟨sb, ⟨sp, sa, fun x hx y hy => ?_⟩, fun x hx y hy => ?_⟩
  · have := hP x hx; have := hA y hy; omega
  · have a := hB x hx
    rcases List.mem_append.1 hy with hy | hy
    · have := hP y hy; omega
    · have := hA y hy; omega
theorem mem_setL {α : Type} {l : List α} {i : Nat} {a x : α} (h : x ∈ l.set i a) : x = a ∨ x ∈ l := by
  rcases List.mem_or_eq_of_mem_set h with h | h
  · exact .inr h
  · exact .inl h
theorem chain_pair {α : Type} {R : α → α → Prop} (tr : ∀ a b c, R a b → R b c → R a c) : ∀ {l : List α}, (∀ (i : Nat) (x y : α), l[i]? = some x → l[i + 1]? = some y → R x y) → l.Pairwise R
  | [], _ => List.Pairwise.nil
  | a :: t, h => by
    have ht : t.Pairwise R := chain_pair tr (fun i x y hx hy => h (i + 1) x y (by simpa using hx) (by simpa using hy))
    refine List.pairwise_cons.2 ⟨fun y hy => ?_, ht⟩
    obtain ⟨j, hj, rfl⟩ := List.getElem_of_mem hy
    have h0 : R a t[0] := h 0 a _ rfl (by simp)
    cases j with
    | zero => exact h0
    | succ j => exact tr _ _ _ h0 (List.pairwise_iff_getElem.1 ht 0 (j + 1) (by omega) hj (by omega))
theorem list_sorted {α : Type} {f : α → Bool} {lt : α → α → Bool} {l : List α} (h : listB f lt l = true) : (∀ (i : Nat) (x y : α), l[i]? = some x → l[i + 1]? = some y → lt x y = true) ∧ (∀ x ∈ l, f x = true) ∧ l.length ≤ 255 := by
  unfold listB at h
  simp only [Bool.and_eq_true, decide_eq_true_eq, List.all_eq_true, List.mem_range] at h
  refine ⟨fun i x y hx hy => ?_, fun x hx => ?_, h.1⟩
  · have := h.2 (i + 1) (List.getElem?_eq_some_iff.1 hy).1
    unfold atL at this
    rw [hy] at this
    simp [hx] at this
    exact this.2
  · obtain ⟨j, hj, rfl⟩ := List.getElem_of_mem hx
    have := h.2 j hj
    unfold atL at this
    rw [List.getElem?_eq_getElem hj] at this
    simp at this
    exact this.1
theorem rows_sorted {r : Rg} (h : rowsB r = true) : SortT r.rows ∧ (∀ x ∈ r.rows, r.lo ≤ x.key ∧ x.key ≤ r.hi) ∧ r.rows.length ≤ 255 := by
  obtain ⟨h1, h2, h3⟩ := list_sorted h
  exact ⟨chain_pair (fun a b c h1 h2 => by omega) (fun i x y hx hy => by simpa using h1 i x y hx hy), fun x hx => by simpa [inR] using h2 x hx, h3⟩
theorem dups_sorted {r : Rg} (h : dupsB r = true) : SortD r.dups ∧ (∀ x ∈ r.dups, r.lo ≤ x.key ∧ x.key ≤ r.hi) ∧ r.dups.length ≤ 255 := by
  obtain ⟨h1, h2, h3⟩ := list_sorted h
  exact ⟨chain_pair (fun a b c h1 h2 => by omega) (fun i x y hx hy => ahead_iff.1 (h1 i x y hx hy)), fun x hx => by have := h2 x hx; simp [inR] at this; exact this.2.2, h3⟩
section
variable {Λ : Lam} {w0 w : World} {b : Nat} {s : St}
/-- Three boxes laid aside. -/
theorem Sk.box3 (h : Sk Λ w0 b s w) {w1 w2 w3 : World} {b1 b2 b3 : Nat} {o1 o2 o3 : Obj} (g1 : GB none w w1) (m1 : w1.heap[b1]? = some o1) (l1 : w.heap.size ≤ b1) (g2 : GB none w1 w2) (m2 : w2.heap[b2]? = some o2) (l2 : w1.heap.size ≤ b2) (g3 : GB none w2 w3) (m3 : w3.heap[b3]? = some o3) (l3 : w2.heap.size ≤ b3) : Sk (((Λ.add b1 o1).add b2 o2).add b3 o3) w0 b s w3 ∧ b1 ≠ b2 ∧ b1 ≠ b3 ∧ b2 ≠ b3 ∧ (Λ b1 = none ∧ Λ b2 = none ∧ Λ b3 = none) ∧ w0.heap.size ≤ b1 ∧ w0.heap.size ≤ b2 ∧ w0.heap.size ≤ b3 := by
  have hs := h.sz
  obtain ⟨h1, u1⟩ := h.box g1 m1 l1
  obtain ⟨h2, u2⟩ := h1.box g2 m2 l2
  obtain ⟨h3, u3⟩ := h2.box g3 m3 l3
  have k1 := lt_heap m1
  have k2 := lt_heap m2
  have e1 := g1.size
  have e2 := g2.size
  have e3 := g3.size
  have n12 : b1 ≠ b2 := by omega
  have n13 : b1 ≠ b3 := by omega
  have n23 : b2 ≠ b3 := by omega
  rw [Lam.ne n12.symm] at u2
  rw [Lam.ne n23.symm, Lam.ne n13.symm] at u3
  exact ⟨h3, n12, n13, n23, ⟨u1, u2, u3⟩, by omega, by omega, by omega⟩
theorem lam3 {Λ : Lam} {b1 b2 b3 : Nat} (hu : Λ b1 = none ∧ Λ b2 = none ∧ Λ b3 = none) : ∀ x o, Λ x = some o → x ≠ b1 ∧ x ≠ b2 ∧ x ≠ b3 := by
  intro x o hx
  refine ⟨fun e => ?_, fun e => ?_, fun e => ?_⟩
  · rw [e, hu.1] at hx; cases hx
  · rw [e, hu.2.1] at hx; cases hx
  · rw [e, hu.2.2] at hx; cases hx
theorem delegate_ok (h : Sk Λ w0 b s w) (hk : StOk s) (hz : StB2 s) {q : Req} (h0 : 0 ≤ q.key) (h1 : q.key ≤ q.hi) (h2 : q.hi ≤ 18446744073709551615) (h3 : 0 ≤ q.to) (p : Rep) : CY 142 #[.pointer (some ⟨b, 0, none⟩), .agg q.cells.toArray, .agg p.cells.toArray] w (fun v w' => v = .agg (dlg2 s q p).2.cells.toArray ∧ Sk Λ w0 b (dlg2 s q p).1 w') := by
  refine callE Tryz.func142 rfl rfl ?_
  refine fun w1 b1 m1 g1 l1 w2 b2 m2 g2 l2 w3 b3 m3 g3 l3 => ?_
  obtain ⟨h, n12, n13, n23, hu, q1, q2, q3⟩ := h.box3 g1 m1 l1 g2 m2 l2 g3 m3 l3
  have a1 := h.g (x := b1) (by rw [Lam.ne n13, Lam.ne n12, Lam.eq])
  obtain ⟨T, M, D, O, I, ls, hw⟩ := h
  refine ⟨_, _, a1, q.cells, rfl, rfl, _, parted_ok hw hk h0 h1 h2 h3, ?_⟩
  rintro _ w4 ⟨g4, va, vn, vc, rfl, hP⟩
  have uM : ∀ x, fitsB s q = true → (Value.slice va vn vc).ownBlock = some x → _ := fun x hf hx => hw.unp ((hP hf).new x hx)
  have hgb := hw.gb
  have h : Sk (((Λ.add b1 _).add b2 _).add b3 _) w0 b s w4 := ⟨T, M, D, O, I, ls, hw.gb0 g4⟩
  clear m1 g1 l1 m2 g2 l2 m3 g3 l3 a1
  unfold dlg2
  obtain ⟨f, hf⟩ : ∃ f, fitsB s q = f := ⟨_, rfl⟩
  rw [hf] at hP uM ⊢
  have a2 := h.g (x := b2) (by rw [Lam.ne n23, Lam.eq])
  cases f
  · refine ⟨_, _, _, a2, rfl, rfl, fun w5 m5 g5 => ?_⟩
    replace m5 : Hl w5 b2 (Rep.cells { p with k := 5 }) 57 := m5
    replace h := h.over (by rw [Lam.ne n23, Lam.eq]) g5 m5 q2
    refine ⟨_, _, m5, Rep.cells { p with k := 5 }, rfl, rfl, _, remember_ok h hk.sD (Nat.le_trans hz.d (by decide)) { p with k := 5 }, ?_⟩
    rintro _ w6 ⟨rfl, h⟩
    have m6 := h.g (Lam.eq _ b2 _)
    have m7 := h.g (x := b3) (by rw [Lam.ne n23.symm, Lam.eq])
    refine ⟨_, _, m6, Rep.cells { p with k := 5 }, rfl, rfl, _, _, _, m7, rfl, rfl, fun w7 m8 g8 => ?_⟩
    replace h := h.over (by rw [Lam.ne n23.symm, Lam.eq]) g8 m8 q3
    refine ⟨_, _, m8, Rep.cells { p with k := 5 }, rfl, rfl, rfl, h.weak fun x o hx => ?_⟩
    obtain ⟨e1, e2, e3⟩ := lam3 hu x o hx
    rw [Lam.ne e3, Lam.ne e2, Lam.ne e3, Lam.ne e2, Lam.ne e1]; exact hx
  · have hP := hP rfl
    have hto : q.to < s.n ∧ (lanAt s.O q.to).2.length < 4 := by unfold fitsB at hf; simp at hf; exact ⟨hf.1.1.2, hf.1.2⟩
    have hgp : 0 < (giveL s.M q.key q.hi q.to).length := by
      obtain ⟨gc, _⟩ := give_spec hk.can h0 h1 (by omega) (g := q.to) ⟨h3, by have := hk.n4; omega⟩
      cases hg : giveL s.M q.key q.hi q.to with
      | nil => rw [hg] at gc; exact gc.elim
      | cons _ _ => exact Nat.succ_pos _
    obtain ⟨x, cap, cur, ev, hcx, _, _, _⟩ := own_el hP.own hgp
    have hxn := hP.new x (by rw [ev]; rfl)
    have ux := uM x rfl (by rw [ev]; rfl)
    replace h : Sk ((((Λ.add b1 _).add b2 _).add b3 _).add x _) w0 b s w4 := ⟨T, M, D, O, I, ls, hw.box g4 hcx hxn⟩
    have nx2 : x ≠ b2 := fun e => by rw [e, Lam.ne n23, Lam.eq] at ux; cases ux
    have nx3 : x ≠ b3 := fun e => by rw [e, Lam.eq] at ux; cases ux
    have nx1 : x ≠ b1 := fun e => by rw [e, Lam.ne n13, Lam.ne n12, Lam.eq] at ux; cases ux
    refine ⟨_, _, _, a2, rfl, rfl, fun w5 m5 g5 => ?_⟩
    replace m5 : Hl w5 b2 (Rep.cells { p with k := 2 }) 57 := m5
    replace h := h.over (by rw [Lam.ne nx2.symm, Lam.ne n23, Lam.eq]) g5 m5 q2
    refine ⟨_, _, m5, Rep.cells { p with k := 2 }, rfl, rfl, _, remember_ok h hk.sD (Nat.le_trans hz.d (by decide)) { p with k := 2 }, ?_⟩
    rintro _ w6 ⟨rfl, h⟩
    have hrem := ok_remD hk.sD { p with k := 2 }
    have hlm : lanAt s.O q.to ∈ s.O := by
      unfold lanAt
      have hl : q.to.toNat < s.O.length := by have := hk.ol; omega
      rw [List.getElem?_eq_getElem hl]
      exact List.getElem_mem hl
    have m6 := h.g (x := b1) (by rw [Lam.ne n12, Lam.ne nx1.symm, Lam.ne n13, Lam.ne n12, Lam.eq])
    refine ⟨_, _, m6, q.cells, rfl, rfl, _, handOver_ok h ⟨hk.g0, hk.gn, hk.n4, hk.sT, hrem.1, hk.mok, hk.can, hk.ol, hk.il⟩ hz.t (by show (remD s.D _).length ≤ _; have := hrem.2; have := hz.d; omega) h3 hto.1 (by show (lanAt s.O q.to).2.length ≤ _; omega) (hz.q _ hlm).2, ?_⟩
    rintro _ w7 ⟨rfl, h⟩
    have hx7 := h.g (x := x) (by rw [Lam.ne nx2, Lam.eq])
    replace h : Sk ((((Λ.add b1 _).add b2 _).add b3 _).add b2 _) w0 b _ w7 := h.weak fun y o hy => by
      by_cases e2 : y = b2
      · subst e2; rw [Lam.eq] at hy ⊢; exact hy
      · rw [Lam.ne e2] at hy ⊢
        have ex : y ≠ x := fun e => by rw [e] at hy; rw [ux] at hy; cases hy
        rw [Lam.ne ex]; exact hy
    obtain ⟨T, M', D, O, I, ls, hw'⟩ := h
    have PM : PN w0 w7 (.slice va vn vc) (giveL s.M q.key q.hi q.to) := ⟨owns_rely hP.own fun y hy => by
      rw [ev] at hy
      obtain rfl : x = y := by simpa [Value.ownBlock] using hy
      rw [hx7, hcx], hw'.gb, fun y hy => Nat.le_trans hgb.size (hP.new y hy)⟩
    refine ⟨_, _, _, hw'.mem, rfl, rfl, fun w8 m8 g8 => ?_⟩
    have h : Sk ((((Λ.add b1 _).add b2 _).add b3 _).add b2 _) w0 b { handS { s with D := remD s.D { p with k := 2 } } q with M := giveL s.M q.key q.hi q.to } w8 := ⟨_, _, _, _, _, _, hw'.setM PM (fun y hy => by
      have hy' := hy
      rw [ev] at hy'
      obtain rfl : x = y := by simpa [Value.ownBlock] using hy'
      rw [Lam.ne nx2]; exact ux) m8 g8⟩
    have m9 := h.g (Lam.eq _ b2 _)
    have m10 := h.g (x := b3) (by rw [Lam.ne n23.symm, Lam.eq])
    refine ⟨_, _, m9, Rep.cells { p with k := 2 }, rfl, rfl, _, _, _, m10, rfl, rfl, fun w9 m11 g11 => ?_⟩
    replace h := h.over (by rw [Lam.ne n23.symm, Lam.eq]) g11 m11 q3
    refine ⟨_, _, m11, Rep.cells { p with k := 2 }, rfl, rfl, rfl, h.weak fun y o hy => ?_⟩
    obtain ⟨e1, e2, e3⟩ := lam3 hu y o hy
    rw [Lam.ne e3, Lam.ne e2, Lam.ne e3, Lam.ne e2, Lam.ne e1]; exact hy
end
/-- What is asked of a request's numbers. -/
structure Req.wfi (q : Req) : Prop where
  key : 0 ≤ q.key ∧ q.key ≤ 18446744073709551615
  hi : 0 ≤ q.hi ∧ q.hi ≤ 18446744073709551615
  to : 0 ≤ q.to
theorem okQ_k {q : Req} (h : okQ q = true) : q.k = 1 ∨ q.k = 2 ∨ q.k = 3 ∨ q.k = 4 ∧ q.key ≤ q.hi ∧ q.to < 4 := by
  unfold okQ at h
  simp only [Bool.and_eq_true] at h
  obtain ⟨_, h⟩ := h
  split at h
  · rename_i k; omega
  split at h
  · rename_i k; omega
  split at h
  · rename_i k
    simp at h
    exact .inr (.inr (.inr ⟨k, h.1, h.2.1⟩))
  · cases h
theorem dlg2_eq {s : St} {q : Req} (hk : StOk s) (hz : StB2 s) (h4 : q.k = 4) (h3 : 0 ≤ q.to) : dlg2 s q (rep0 q) = (doS s q, doP s q) := by
  unfold dlg2 doS doP
  rw [h4]
  by_cases hf : fitsB s q = true
  · have hto : q.to < s.n := by unfold fitsB at hf; simp at hf; exact hf.1.1.2
    have hlm : lanAt s.O q.to ∈ s.O := by
      unfold lanAt
      have hl : q.to.toNat < s.O.length := by have := hk.ol; omega
      rw [List.getElem?_eq_getElem hl]
      exact List.getElem_mem hl
    have hq := (hz.q _ hlm).2
    simp only [hf, if_true]
    unfold dlgS handS
    rw [wrap_u32 (by omega)]
    rfl
  · simp only [hf]
    rfl
theorem Lam.twice (Λ : Lam) (b : Nat) (o o' : Obj) : (Λ.add b o).add b o' = Λ.add b o' := by
  funext y
  unfold Lam.add
  split <;> rfl
section
variable {Λ : Lam} {w0 w : World} {b : Nat} {s : St}
theorem sdo_ok (h : Sk Λ w0 b s w) (hk : StOk s) (hz : StB2 s) {q : Req} (hq : okQ q = true) (hw : q.wfi) : CY 85 #[.pointer (some ⟨b, 0, none⟩), .agg q.cells.toArray, .agg (rep0 q).cells.toArray] w (fun v w' => v = .agg (doP s q).cells.toArray ∧ Sk Λ w0 b (doS s q) w') := by
  have hkk := okQ_k hq
  have fin : ∀ {b1 b2 b3 : Nat} {o1 o2 o3 : Obj} {p : Rep} {s' : St} {w9 : World}, (b1 ≠ b2 ∧ b1 ≠ b3 ∧ b2 ≠ b3) → (Λ b1 = none ∧ Λ b2 = none ∧ Λ b3 = none) → w0.heap.size ≤ b3 → ∀ {c : Array Value} {t : Nat}, o3 = .cells c t → Sk ((((Λ.add b1 o1).add b2 o2).add b3 o3).add b2 (.cells p.cells.toArray 57)) w0 b s' w9 → Hl w9 b2 p.cells 57 ∧ w9.heap[b3]? = some o3 ∧ ∀ (w10 : World) (m : Hl w10 b3 p.cells 57) (g : GB (some b3) w9 w10), Sk Λ w0 b s' w10 := by
    rintro b1 b2 b3 o1 o2 o3 p s' w9 ⟨n12, n13, n23⟩ hu q3 c t rfl h
    refine ⟨h.g (Lam.eq _ b2 _), h.g (by rw [Lam.ne n23.symm, Lam.eq]), fun w10 m g => ?_⟩
    refine (h.over (by rw [Lam.ne n23.symm, Lam.eq]) g m q3).weak fun x o hx => ?_
    obtain ⟨e1, e2, e3⟩ := lam3 hu x o hx
    rw [Lam.ne e3, Lam.ne e2, Lam.ne e3, Lam.ne e2, Lam.ne e1]; exact hx
  obtain ⟨c, sq, k, key, val, hi, to⟩ := q
  obtain ⟨hw1, hw2, hw3⟩ := hw
  dsimp only at hkk hw1 hw2 hw3
  rcases hkk with rfl | rfl | rfl | ⟨rfl, hlh, hto⟩
  · have eP : doP s ⟨c, sq, 1, key, val, hi, to⟩ = ⟨c, sq, key, 1, hasT s.T key, valT s.T key, 0⟩ := by simp [doP]
    have eS : doS s ⟨c, sq, 1, key, val, hi, to⟩ = { s with D := remD s.D ⟨c, sq, key, 1, hasT s.T key, valT s.T key, 0⟩ } := by simp [doS, eP]
    rw [eP, eS]
    refine callE Tryz.func85 rfl rfl ?_
    refine fun w1 b1 m1 g1 l1 w2 b2 m2 g2 l2 w3 b3 m3 g3 l3 => ?_
    obtain ⟨h, n12, n13, n23, hu, q1, q2, q3⟩ := h.box3 g1 m1 l1 g2 m2 l2 g3 m3 l3
    have a1 := h.g (x := b1) (by rw [Lam.ne n13, Lam.ne n12, Lam.eq])
    have a2 := h.g (x := b2) (by rw [Lam.ne n23, Lam.eq])
    clear m1 g1 l1 m2 g2 l2 m3 g3 l3
    refine ⟨_, _, a1, _, rfl, _, _, _, a2, rfl, rfl, fun w4 m4 g4 => ?_⟩
    replace h := h.over (by rw [Lam.ne n23, Lam.eq]) g4 m4 q2
    have a1 := h.g (x := b1) (by rw [Lam.ne n12, Lam.ne n13, Lam.ne n12, Lam.eq])
    obtain ⟨T, M, D, O, I, ls, hw⟩ := h
    refine ⟨_, _, a1, .int .u64 key, rfl, _, get_ok hw.mem hw.sa.t.fz (Nat.le_trans hz.t (by decide)) hk.sT key, ?_⟩
    rintro _ w5 ⟨rfl, g5⟩
    have h : Sk ((((Λ.add b1 _).add b2 _).add b3 _).add b2 _) w0 b s w5 := ⟨_, _, _, _, _, _, hw.gb0 g5⟩
    refine ⟨_, _, _, g5.get m4 nofun, rfl, rfl, fun w6 m6 g6 => ?_⟩
    replace h := h.over (Lam.eq _ b2 _) g6 m6 q2
    refine ⟨_, _, _, m6, rfl, rfl, fun w7 m7 g7 => ?_⟩
    replace h := h.over (Lam.eq _ b2 _) g7 m7 q2
    rw [Lam.twice, Lam.twice] at h
    replace h : Sk ((((Λ.add b1 _).add b2 _).add b3 _).add b2 (.cells (Rep.cells ⟨c, sq, key, 1, hasT s.T key, valT s.T key, 0⟩).toArray 57)) w0 b s w7 := h
    replace m7 : Hl w7 b2 (Rep.cells ⟨c, sq, key, 1, hasT s.T key, valT s.T key, 0⟩) 57 := m7
    refine ⟨_, _, m7, Rep.cells ⟨c, sq, key, 1, hasT s.T key, valT s.T key, 0⟩, rfl, rfl, _, remember_ok h hk.sD (Nat.le_trans hz.d (by decide)) ⟨c, sq, key, 1, hasT s.T key, valT s.T key, 0⟩, ?_⟩
    rintro _ w8 ⟨rfl, h⟩
    obtain ⟨m8, m9, hf⟩ := fin ⟨n12, n13, n23⟩ hu q3 rfl h
    exact ⟨_, _, m8, Rep.cells ⟨c, sq, key, 1, hasT s.T key, valT s.T key, 0⟩, rfl, rfl, _, _, _, m9, rfl, rfl, fun w9 m10 g10 => ⟨_, _, m10, Rep.cells ⟨c, sq, key, 1, hasT s.T key, valT s.T key, 0⟩, rfl, rfl, rfl, hf w9 m10 g10⟩⟩
  · have eP : doP s ⟨c, sq, 2, key, val, hi, to⟩ = ⟨c, sq, key, setK s.T key, false, 0, 0⟩ := by simp [doP]
    have eS : doS s ⟨c, sq, 2, key, val, hi, to⟩ = { s with T := setT s.T key val, D := remD s.D ⟨c, sq, key, setK s.T key, false, 0, 0⟩ } := by simp [doS, eP]
    rw [eP, eS]
    refine callE Tryz.func85 rfl rfl ?_
    refine fun w1 b1 m1 g1 l1 w2 b2 m2 g2 l2 w3 b3 m3 g3 l3 => ?_
    obtain ⟨h, n12, n13, n23, hu, q1, q2, q3⟩ := h.box3 g1 m1 l1 g2 m2 l2 g3 m3 l3
    have a1 := h.g (x := b1) (by rw [Lam.ne n13, Lam.ne n12, Lam.eq])
    have a2 := h.g (x := b2) (by rw [Lam.ne n23, Lam.eq])
    clear m1 g1 l1 m2 g2 l2 m3 g3 l3
    refine ⟨_, _, a1, _, rfl, _, _, a1, .int .u64 key, rfl, _, _, a1, .int .u64 val, rfl, _, set_ok h hk.sT hz.t key val, ?_⟩
    rintro _ w5 ⟨rfl, h⟩
    have a2 := h.g (x := b2) (by rw [Lam.ne n23, Lam.eq])
    refine ⟨_, _, _, a2, rfl, rfl, fun w7 m7 g7 => ?_⟩
    replace h := h.over (by rw [Lam.ne n23, Lam.eq]) g7 m7 q2
    replace h : Sk ((((Λ.add b1 _).add b2 _).add b3 _).add b2 (.cells (Rep.cells ⟨c, sq, key, setK s.T key, false, 0, 0⟩).toArray 57)) w0 b { s with T := setT s.T key val } w7 := h
    replace m7 : Hl w7 b2 (Rep.cells ⟨c, sq, key, setK s.T key, false, 0, 0⟩) 57 := m7
    refine ⟨_, _, m7, Rep.cells ⟨c, sq, key, setK s.T key, false, 0, 0⟩, rfl, rfl, _, remember_ok h hk.sD (Nat.le_trans hz.d (by decide)) ⟨c, sq, key, setK s.T key, false, 0, 0⟩, ?_⟩
    rintro _ w8 ⟨rfl, h⟩
    obtain ⟨m8, m9, hf⟩ := fin ⟨n12, n13, n23⟩ hu q3 rfl h
    exact ⟨_, _, m8, Rep.cells ⟨c, sq, key, setK s.T key, false, 0, 0⟩, rfl, rfl, _, _, _, m9, rfl, rfl, fun w9 m10 g10 => ⟨_, _, m10, Rep.cells ⟨c, sq, key, setK s.T key, false, 0, 0⟩, rfl, rfl, rfl, hf w9 m10 g10⟩⟩
  · have eP : doP s ⟨c, sq, 3, key, val, hi, to⟩ = ⟨c, sq, key, 2, false, 0, 0⟩ := by simp [doP]
    have eS : doS s ⟨c, sq, 3, key, val, hi, to⟩ = { s with T := delT s.T key, D := remD s.D ⟨c, sq, key, 2, false, 0, 0⟩ } := by simp [doS, eP]
    rw [eP, eS]
    refine callE Tryz.func85 rfl rfl ?_
    refine fun w1 b1 m1 g1 l1 w2 b2 m2 g2 l2 w3 b3 m3 g3 l3 => ?_
    obtain ⟨h, n12, n13, n23, hu, q1, q2, q3⟩ := h.box3 g1 m1 l1 g2 m2 l2 g3 m3 l3
    have a1 := h.g (x := b1) (by rw [Lam.ne n13, Lam.ne n12, Lam.eq])
    have a2 := h.g (x := b2) (by rw [Lam.ne n23, Lam.eq])
    clear m1 g1 l1 m2 g2 l2 m3 g3 l3
    refine ⟨_, _, a1, _, rfl, _, _, a1, .int .u64 key, rfl, _, remove_ok h hk.sT hz.t key, ?_⟩
    rintro _ w5 ⟨rfl, h⟩
    have a2 := h.g (x := b2) (by rw [Lam.ne n23, Lam.eq])
    refine ⟨_, _, _, a2, rfl, rfl, fun w7 m7 g7 => ?_⟩
    replace h := h.over (by rw [Lam.ne n23, Lam.eq]) g7 m7 q2
    replace h : Sk ((((Λ.add b1 _).add b2 _).add b3 _).add b2 (.cells (Rep.cells ⟨c, sq, key, 2, false, 0, 0⟩).toArray 57)) w0 b { s with T := delT s.T key } w7 := h
    replace m7 : Hl w7 b2 (Rep.cells ⟨c, sq, key, 2, false, 0, 0⟩) 57 := m7
    refine ⟨_, _, m7, Rep.cells ⟨c, sq, key, 2, false, 0, 0⟩, rfl, rfl, _, remember_ok h hk.sD (Nat.le_trans hz.d (by decide)) ⟨c, sq, key, 2, false, 0, 0⟩, ?_⟩
    rintro _ w8 ⟨rfl, h⟩
    obtain ⟨m8, m9, hf⟩ := fin ⟨n12, n13, n23⟩ hu q3 rfl h
    exact ⟨_, _, m8, Rep.cells ⟨c, sq, key, 2, false, 0, 0⟩, rfl, rfl, _, _, _, m9, rfl, rfl, fun w9 m10 g10 => ⟨_, _, m10, Rep.cells ⟨c, sq, key, 2, false, 0, 0⟩, rfl, rfl, rfl, hf w9 m10 g10⟩⟩
  · have e2 := dlg2_eq (q := ⟨c, sq, 4, key, val, hi, to⟩) hk hz rfl hw3
    have e3 : doS s ⟨c, sq, 4, key, val, hi, to⟩ = (dlg2 s ⟨c, sq, 4, key, val, hi, to⟩ (rep0 ⟨c, sq, 4, key, val, hi, to⟩)).1 := by rw [e2]
    have e4 : doP s ⟨c, sq, 4, key, val, hi, to⟩ = (dlg2 s ⟨c, sq, 4, key, val, hi, to⟩ (rep0 ⟨c, sq, 4, key, val, hi, to⟩)).2 := by rw [e2]
    rw [e3, e4]
    clear e2 e3 e4
    refine callE Tryz.func85 rfl rfl ?_
    refine fun w1 b1 m1 g1 l1 w2 b2 m2 g2 l2 w3 b3 m3 g3 l3 => ?_
    obtain ⟨h, n12, n13, n23, hu, q1, q2, q3⟩ := h.box3 g1 m1 l1 g2 m2 l2 g3 m3 l3
    have a1 := h.g (x := b1) (by rw [Lam.ne n13, Lam.ne n12, Lam.eq])
    have a2 := h.g (x := b2) (by rw [Lam.ne n23, Lam.eq])
    clear m1 g1 l1 m2 g2 l2 m3 g3 l3
    refine ⟨_, _, a1, _, rfl, _, _, a1, Req.cells ⟨c, sq, 4, key, val, hi, to⟩, rfl, rfl, _, _, a2, (rep0 ⟨c, sq, 4, key, val, hi, to⟩).cells, rfl, rfl, _, delegate_ok h hk hz (q := ⟨c, sq, 4, key, val, hi, to⟩) hw1.1 hlh hw2.2 hw3 (rep0 ⟨c, sq, 4, key, val, hi, to⟩), ?_⟩
    rintro _ w5 ⟨rfl, h⟩
    have a3 := h.g (x := b3) (Lam.eq _ b3 _)
    generalize (dlg2 s ⟨c, sq, 4, key, val, hi, to⟩ (rep0 ⟨c, sq, 4, key, val, hi, to⟩)).2 = P at *
    generalize (dlg2 s ⟨c, sq, 4, key, val, hi, to⟩ (rep0 ⟨c, sq, 4, key, val, hi, to⟩)).1 = S' at *
    refine ⟨_, _, _, a3, rfl, rfl, fun w9 m10 g10 => ⟨_, _, m10, P.cells, rfl, rfl, rfl, ?_⟩⟩
    refine (h.over (Lam.eq _ b3 _) g10 m10 q3).weak fun x o hx => ?_
    obtain ⟨e1, e2, e3⟩ := lam3 hu x o hx
    rw [Lam.ne e3, Lam.ne e3, Lam.ne e2, Lam.ne e1]; exact hx
end
end
end Go.Proofs.YtignemioillaiaaGreat
