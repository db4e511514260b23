/- A group alone and eleven plain maps of one key each. -/
import Derived.Test.YtignemioillaiaaJ23
import Derived.Test.YtignemioillaiaaJ24
namespace Go.Proofs.Ytignemioillaiaa
open Go.RowKit Go.Lib

theorem mem_set_iff {α : Type} {l : List α} {i : Nat} {a x : α} (hi : i < l.length) : x ∈ l.set i a ↔ x = a ∨ ∃ j, j ≠ i ∧ l[j]? = some x := by
  rw [List.mem_iff_getElem?]
  constructor
  · rintro ⟨j, hj⟩
    rw [List.getElem?_set] at hj
    split at hj
    · simp at hj; exact .inl hj.symm
    · rename_i h; exact .inr ⟨j, fun e => h e.symm, hj⟩
  · rintro (rfl | ⟨j, hj, hx⟩)
    · exact ⟨i, by rw [List.getElem?_set, if_pos rfl, if_pos hi]⟩
    · exact ⟨j, by rw [List.getElem?_set, if_neg (fun e => hj e.symm)]; exact hx⟩

theorem uniqT {T : List Row} (h : SortT T) {i j : Nat} {x y : Row} (hx : T[i]? = some x) (hy : T[j]? = some y) (he : x.key = y.key) : i = j := by
  rcases Nat.lt_trichotomy i j with h1 | h1 | h1
  · have := pair_at h h1 hx hy; omega
  · exact h1
  · have := pair_at h h1 hy hx; omega
theorem uniqD {D : List Rep} (h : SortD D) {i j : Nat} {x y : Rep} (hx : D[i]? = some x) (hy : D[j]? = some y) (he : x.key = y.key) (hc : x.c = y.c) : i = j := by
  rcases Nat.lt_trichotomy i j with h1 | h1 | h1
  · have := pair_at h h1 hx hy; omega
  · exact h1
  · have := pair_at h h1 hy hx; omega
theorem mem_setU {α : Type} {l : List α} {i : Nat} {a x y : α} (P : α → Prop) (hy : l[i]? = some y) (hP : P y) (hu : ∀ (j : Nat) (z : α), l[j]? = some z → P z → j = i) : x ∈ l.set i a ↔ x = a ∨ (x ∈ l ∧ ¬ P x) := by
  have hi := (List.getElem?_eq_some_iff.1 hy).1
  rw [mem_set_iff hi]
  constructor
  · rintro (h | ⟨j, hj, hx⟩)
    · exact .inl h
    · exact .inr ⟨List.mem_of_getElem? hx, fun hp => hj (hu j x hx hp)⟩
  · rintro (h | ⟨hx, hp⟩)
    · exact .inl h
    · obtain ⟨j, hj⟩ := List.mem_iff_getElem?.1 hx
      exact .inr ⟨j, fun e => hp (by subst e; rw [hy] at hj; cases hj; exact hP), hj⟩

theorem mem_remD {D : List Rep} {p x : Rep} (hs : SortD D) : x ∈ remD D p ↔ x = p ∨ (x ∈ D ∧ ¬ (x.key = p.key ∧ x.c = p.c)) := by
  unfold remD
  cases hh : hasD D p with
  | true =>
    obtain ⟨y, hy, he⟩ := hitB_some hh
    rw [cmpP_eq] at he
    rw [if_pos rfl]
    exact mem_setU (fun z => z.key = p.key ∧ z.c = p.c) hy he (fun j z hz hp => uniqD hs hz hy (hp.1.trans he.1.symm) (hp.2.trans he.2.symm))
  | false =>
    rw [if_neg (by simp), mem_insL]
    have hn := hitB_noneD hs hh
    constructor
    · rintro (h | h)
      · exact .inl h
      · exact .inr ⟨h, hn x h⟩
    · rintro (h | h)
      · exact .inl h
      · exact .inr h.1
theorem sort_remD {D : List Rep} {p : Rep} (hs : SortD D) : SortD (remD D p) := by
  unfold remD
  cases hh : hasD D p with
  | true =>
    obtain ⟨y, hy, he⟩ := hitB_some hh
    rw [cmpP_eq] at he
    rw [if_pos rfl]
    exact set_pair hs hy (fun z h => by rw [← he.1, ← he.2]; exact h) (fun z h => by rw [← he.1, ← he.2]; exact h)
  | false =>
    rw [if_neg (by simp)]
    exact sort_insD hs rfl rfl hh
theorem mem_setT {T : List Row} {key v : Int} {x : Row} (hs : SortT T) (hok : hasT T key = true ∨ ¬ 8 ≤ T.length) : x ∈ setT T key v ↔ x = ⟨key, v⟩ ∨ (x ∈ T ∧ x.key ≠ key) := by
  unfold setT
  cases hh : hasT T key with
  | true =>
    obtain ⟨y, hy, he⟩ := hitB_some hh
    rw [cmpI_eq] at he
    rw [if_pos rfl]
    exact mem_setU (fun z => z.key = key) hy he (fun j z hz hp => uniqT hs hz hy (hp.trans he.symm))
  | false =>
    rw [if_neg (by simp), if_neg (by rcases hok with h | h; · rw [hh] at h; cases h
                                     · exact h), mem_insL]
    have hn := hitB_none hs hh
    constructor
    · rintro (h | h)
      · exact .inl h
      · exact .inr ⟨h, hn x h⟩
    · rintro (h | h)
      · exact .inl h
      · exact .inr h.1
theorem sort_setT {T : List Row} {key v : Int} (hs : SortT T) : SortT (setT T key v) := by
  unfold setT
  cases hh : hasT T key with
  | true =>
    obtain ⟨y, hy, he⟩ := hitB_some hh
    rw [cmpI_eq] at he
    rw [if_pos rfl]
    exact set_pair hs hy (fun z h => by show z.key < key; rw [← he]; exact h) (fun z h => by show key < z.key; rw [← he]; exact h)
  | false =>
    rw [if_neg (by simp)]
    split
    · exact hs
    · exact sort_ins hs hh
theorem mem_delT {T : List Row} {key : Int} {x : Row} (hs : SortT T) : x ∈ delT T key ↔ x ∈ T ∧ x.key ≠ key := by
  unfold delT
  cases hh : hasT T key with
  | true =>
    obtain ⟨y, hy, he⟩ := hitB_some hh
    rw [cmpI_eq] at he
    rw [if_pos rfl, List.mem_eraseIdx_iff_getElem?]
    constructor
    · rintro ⟨j, hj, hx⟩
      exact ⟨List.mem_of_getElem? hx, fun hk => hj (uniqT hs hx hy (hk.trans he.symm))⟩
    · rintro ⟨hx, hk⟩
      obtain ⟨j, hj⟩ := List.mem_iff_getElem?.1 hx
      exact ⟨j, fun e => hk (by subst e; rw [hj] at hy; cases hy; exact he), hj⟩
  | false =>
    rw [if_neg (by simp)]
    exact ⟨fun h => ⟨h, hitB_none hs hh x h⟩, fun h => h.1⟩
theorem sort_delT {T : List Row} {key : Int} (hs : SortT T) : SortT (delT T key) := by
  unfold delT
  split
  · exact hs.sublist (List.eraseIdx_sublist _ _)
  · exact hs

def keyN (n : Nat) : Int := if n = 10 then 18446744073709551615 else n
theorem keyN_inj {a b : Nat} (ha : a < 11) (hb : b < 11) (h : keyN a = keyN b) : a = b := by
  unfold keyN at h; split at h <;> split at h <;> omega
theorem keyN_lt {a b : Nat} (ha : a < 11) (hb : b < 11) (h : keyN a < keyN b) : a < b := by
  unfold keyN at h; split at h <;> split at h <;> omega

structure KInv (T : List Row) (D : List Rep) (K : List Mem) : Prop where
  sT : SortT T
  sD : SortD D
  lT : T.length ≤ 8
  lK : K.length = 11
  kT : ∀ x ∈ T, ∃ n, n < 11 ∧ x.key = keyN n
  kD : ∀ x ∈ D, ∃ n c : Nat, n < 11 ∧ c < 3 ∧ x.key = keyN n ∧ x.c = c ∧ x.k ≠ 3
  tab1 : ∀ (n : Nat) (m : Mem), K[n]? = some m → ∀ x ∈ T, x.key = keyN n → m.found = true ∧ m.val = x.val
  tab2 : ∀ (n : Nat) (m : Mem), K[n]? = some m → (∀ x ∈ T, x.key ≠ keyN n) → m.found = false
  dup1 : ∀ (n : Nat) (m : Mem) (c : Nat), K[n]? = some m → c < 3 → ∀ x ∈ D, x.key = keyN n → x.c = c → m.s c = x.s ∧ m.said c = x
  dup2 : ∀ (n : Nat) (m : Mem) (c : Nat), K[n]? = some m → c < 3 → (∀ x ∈ D, ¬ (x.key = keyN n ∧ x.c = c)) → m.s c = 0

theorem rise_len : ∀ (l : List Nat) (a N : Nat), l.Pairwise (· < ·) → (∀ x ∈ l, a ≤ x ∧ x < N) → a ≤ N → l.length + a ≤ N
  | [], a, N, _, _, h => by simpa using h
  | x :: r, a, N, hp, hb, _ => by
    rw [List.pairwise_cons] at hp
    have h1 := hb x (by simp)
    have := rise_len r (x + 1) N hp.2 (fun y hy => ⟨hp.1 y hy, (hb y (by simp [hy])).2⟩) (by omega)
    simp only [List.length_cons]; omega

def codeD (x : Rep) : Nat := (if x.key = 18446744073709551615 then 10 else x.key.toNat) * 3 + x.c.toNat
theorem codeD_eq {x : Rep} {n c : Nat} (hn : n < 11) (hk : x.key = keyN n) (hc : x.c = c) : codeD x = n * 3 + c := by
  unfold codeD keyN at *
  rw [hc]
  split at hk
  · rw [if_pos hk]; simp; omega
  · rw [if_neg (by omega), hk]; simp
theorem KInv.lD {T : List Row} {D : List Rep} {K : List Mem} (h : KInv T D K) : D.length ≤ 33 := by
  have hp : (D.map codeD).Pairwise (· < ·) := by
    rw [List.pairwise_map]
    refine h.sD.imp_of_mem ?_
    intro a b ha hb hab
    obtain ⟨n, c, h1, h2, h3, h4, _⟩ := h.kD a ha
    obtain ⟨n', c', h1', h2', h3', h4', _⟩ := h.kD b hb
    rw [codeD_eq h1 h3 h4, codeD_eq h1' h3' h4']
    rcases hab with hk | ⟨hk, hc⟩
    · rw [h3, h3'] at hk
      have := keyN_lt h1 h1' hk
      omega
    · rw [h3, h3'] at hk
      have := keyN_inj h1 h1' hk
      rw [h4, h4'] at hc
      omega
  have := rise_len (D.map codeD) 0 33 hp (fun y hy => by
    obtain ⟨x, hx, rfl⟩ := List.mem_map.1 hy
    obtain ⟨n, c, h1, h2, h3, h4, _⟩ := h.kD x hx
    rw [codeD_eq h1 h3 h4]; omega) (by omega)
  simpa using this

theorem KInv.has {T : List Row} {D : List Rep} {K : List Mem} (h : KInv T D K) {n : Nat} {m : Mem} (hm : K[n]? = some m) : hasT T (keyN n) = m.found := by
  cases hh : hasT T (keyN n) with
  | true =>
    obtain ⟨y, hy, he⟩ := hitB_some hh
    rw [cmpI_eq] at he
    exact (h.tab1 n m hm y (List.mem_of_getElem? hy) he).1.symm
  | false => exact (h.tab2 n m hm (hitB_none h.sT hh)).symm
theorem KInv.valT {T : List Row} {D : List Rep} {K : List Mem} (h : KInv T D K) {n : Nat} {m : Mem} (hm : K[n]? = some m) : Go.Proofs.Ytignemioillaiaa.valT T (keyN n) = if m.found then m.val else 0 := by
  unfold Go.Proofs.Ytignemioillaiaa.valT
  rw [h.has hm]
  cases hf : m.found with
  | true =>
    rw [if_pos rfl, if_pos rfl]
    have hh : hasT T (keyN n) = true := (h.has hm).trans hf
    obtain ⟨y, hy, he⟩ := hitB_some hh
    rw [cmpI_eq] at he
    rw [hy]
    exact (h.tab1 n m hm y (List.mem_of_getElem? hy) he).2.symm
  | false => rw [if_neg (by simp), if_neg (by simp)]

theorem KInv.step {T : List Row} {D : List Rep} {K : List Mem} (h : KInv T D K) {n c : Nat} {m : Mem} (hn : n < 11) (hm : K[n]? = some m) (hc : c < 3) {p : Rep} (hpk : p.key = keyN n) (hpc : p.c = c) (hp3 : p.k ≠ 3)
    {T' : List Row} (hsT : SortT T') (hlT : T'.length ≤ 8) (f : Bool) (v : Int) (hin : ∀ x ∈ T', x.key = keyN n → f = true ∧ v = x.val) (hno : (∀ x ∈ T', x.key ≠ keyN n) → f = false) (hoth : ∀ x : Row, x.key ≠ keyN n → (x ∈ T' ↔ x ∈ T)) :
    KInv T' (remD D p) (K.set n (Mem.mk f v (m.put c p.s p).s (m.put c p.s p).said)) := by
  have hnl : n < K.length := by rw [h.lK]; exact hn
  have get : ∀ (n' : Nat) (m' : Mem), (K.set n (Mem.mk f v (m.put c p.s p).s (m.put c p.s p).said))[n']? = some m' → (n' = n ∧ m' = Mem.mk f v (m.put c p.s p).s (m.put c p.s p).said) ∨ (n' ≠ n ∧ n' < 11 ∧ K[n']? = some m') := by
    intro n' m' hm'
    rw [List.getElem?_set] at hm'
    split at hm'
    · rename_i e
      simp at hm'
      exact .inl ⟨e.symm, hm'.symm⟩
    · rename_i e
      exact .inr ⟨fun e2 => e e2.symm, by rw [← h.lK]; exact (List.getElem?_eq_some_iff.1 hm').1, hm'⟩
  refine ⟨hsT, sort_remD h.sD, hlT, by rw [List.length_set]; exact h.lK, ?_, ?_, ?_, ?_, ?_, ?_⟩
  · intro x hx
    by_cases e : x.key = keyN n
    · exact ⟨n, hn, e⟩
    · exact h.kT x ((hoth x e).1 hx)
  · intro x hx
    rcases (mem_remD h.sD).1 hx with rfl | ⟨hx, _⟩
    · exact ⟨n, c, hn, hc, hpk, hpc, hp3⟩
    · exact h.kD x hx
  · intro n' m' hm' x hx hk
    rcases get n' m' hm' with ⟨rfl, rfl⟩ | ⟨h1, h2, h3⟩
    · exact hin x hx hk
    · exact h.tab1 n' m' h3 x ((hoth x (fun e => h1 (keyN_inj h2 hn (hk.symm.trans e)))).1 hx) hk
  · intro n' m' hm' hk
    rcases get n' m' hm' with ⟨rfl, rfl⟩ | ⟨h1, h2, h3⟩
    · exact hno hk
    · exact h.tab2 n' m' h3 (fun x hx e => hk x ((hoth x (fun e2 => h1 (keyN_inj h2 hn (e.symm.trans e2)))).2 hx) e)
  · intro n' m' c' hm' hc' x hx hk hxc
    rcases get n' m' hm' with ⟨rfl, rfl⟩ | ⟨h1, h2, h3⟩
    · rcases (mem_remD h.sD).1 hx with rfl | ⟨hx, hne⟩
      · have : c' = c := by omega
        subst this
        simp [Mem.put]
      · have hcc : c' ≠ c := fun e => hne ⟨hk.trans hpk.symm, by rw [hxc, hpc, e]⟩
        have := h.dup1 n' m c' hm hc' x hx hk hxc
        simp only [Mem.put, if_neg hcc]
        exact this
    · rcases (mem_remD h.sD).1 hx with rfl | ⟨hx, hne⟩
      · exact absurd (keyN_inj h2 hn (hk.symm.trans hpk)) h1
      · exact h.dup1 n' m' c' h3 hc' x hx hk hxc
  · intro n' m' c' hm' hc' hno'
    rcases get n' m' hm' with ⟨rfl, rfl⟩ | ⟨h1, h2, h3⟩
    · have hcc : c' ≠ c := fun e => hno' p ((mem_remD h.sD).2 (.inl rfl)) ⟨hpk, by rw [hpc, e]⟩
      simp only [Mem.put, if_neg hcc]
      refine h.dup2 n' m c' hm hc' (fun x hx e => hno' x ((mem_remD h.sD).2 (.inr ⟨hx, fun e2 => hcc ?_⟩)) e)
      have := e.2; have := e2.2; omega
    · exact h.dup2 n' m' c' h3 hc' (fun x hx e => hno' x ((mem_remD h.sD).2 (.inr ⟨hx, fun e2 => h1 (keyN_inj h2 hn (e.1.symm.trans (e2.1.trans hpk)))⟩)) e)

end Go.Proofs.Ytignemioillaiaa
