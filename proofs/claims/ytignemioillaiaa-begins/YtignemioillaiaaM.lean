/- Maps of keys as plain lists: whose a key is, what a gift makes of a map, that a map is known by its owners: no program text here. -/
import Derived.Test.YtignemioillaiaaD4
namespace Go.Proofs.Ytignemioillaiaa
open Go.RowKit

structure Pc where
  (f g : Int)

def Pc.cells (p : Pc) : List Value := [.int .u64 p.f, .int .u8 p.g]

/-- Whose a key is: of the last piece that begins at or below it. -/
def own : Int → List Pc → Int → Int
  | d, [], _ => d
  | d, p :: m, k => if p.f ≤ k then own p.g m k else d

def Rise : Int → Int → List Pc → Prop
  | _, _, [] => True
  | f, g, p :: m => f < p.f ∧ p.f < 18446744073709551616 ∧ g ≠ p.g ∧ 0 ≤ p.g ∧ p.g < 4 ∧ Rise p.f p.g m

def Can : List Pc → Prop
  | [] => False
  | p :: m => p.f = 0 ∧ 0 ≤ p.g ∧ p.g < 4 ∧ Rise 0 p.g m

def lastF : Int → List Pc → Int
  | f, [] => f
  | _, p :: m => lastF p.f m
def lastG : Int → List Pc → Int
  | g, [] => g
  | _, p :: m => lastG p.g m

def join (L : List Pc) (p : Pc) : List Pc := match L.getLast? with
  | none => L ++ [p]
  | some y => if y.g = p.g then L else L ++ [p]

theorem own_snoc (L : List Pc) (p : Pc) (k : Int) : ∀ d, (∀ q ∈ L, q.f ≤ p.f) → own d (L ++ [p]) k = if p.f ≤ k then p.g else own d L k := by
  induction L with
  | nil => intro d _; simp [own]
  | cons q t ih =>
    intro d h
    have hq : q.f ≤ p.f := h q (by simp)
    have ht := ih q.g (fun x hx => h x (by simp [hx]))
    by_cases hk : q.f ≤ k
    · simp only [List.cons_append, own, hk, if_true, ht]
    · have : ¬ p.f ≤ k := by omega
      simp only [List.cons_append, own, hk, if_false, this]

theorem own_all (L : List Pc) (k : Int) : ∀ d, (∀ q ∈ L, q.f ≤ k) → own d L k = lastG d L := by
  induction L with
  | nil => intro d _; rfl
  | cons q t ih =>
    intro d h
    have hq : q.f ≤ k := h q (by simp)
    simp only [own, hq, if_true, lastG]
    exact ih q.g (fun x hx => h x (by simp [hx]))

theorem own_none (L : List Pc) (k : Int) : ∀ f g d, Rise f g L → k ≤ f → own d L k = d := by
  cases L with
  | nil => intros; rfl
  | cons q t =>
    intro f g d h hk
    have : ¬ q.f ≤ k := by have := h.1; omega
    simp [own, this]

theorem own_same (L : List Pc) (a k : Int) (hak : a ≤ k) : ∀ d, (∀ q ∈ L, ¬ (a < q.f ∧ q.f ≤ k)) → own d L k = own d L a := by
  induction L with
  | nil => intros; rfl
  | cons q t ih =>
    intro d h
    have hq := h q (by simp)
    have ht := ih q.g (fun x hx => h x (by simp [hx]))
    by_cases hk : q.f ≤ a
    · have : q.f ≤ k := by omega
      simp only [own, hk, this, if_true, ht]
    · have : ¬ q.f ≤ k := by omega
      simp only [own, hk, this, if_false]

theorem rise_mem (L : List Pc) : ∀ f g, Rise f g L → ∀ q ∈ L, f < q.f ∧ q.f < 18446744073709551616 ∧ q.f ≤ lastF f L ∧ 0 ≤ q.g ∧ q.g < 4 := by
  induction L with
  | nil => intro f g _ q hq; simp at hq
  | cons p t ih =>
    intro f g h q hq
    obtain ⟨h1, h2, h3, h4, h5, h6⟩ := h
    have hl : p.f ≤ lastF p.f t := by
      cases t with
      | nil => exact Int.le_refl _
      | cons r t' => have := ih p.f p.g h6 r (by simp); simp only [lastF] at *; omega
    rcases List.mem_cons.1 hq with rfl | hq
    · exact ⟨h1, h2, hl, h4, h5⟩
    · have := ih p.f p.g h6 q hq
      exact ⟨by omega, this.2.1, this.2.2.1, this.2.2.2⟩

theorem rise_snoc (L : List Pc) (p : Pc) (hlt : p.f < 18446744073709551616) (hg : 0 ≤ p.g ∧ p.g < 4) : ∀ f g, Rise f g L → lastF f L < p.f → lastG g L ≠ p.g → Rise f g (L ++ [p]) := by
  induction L with
  | nil => intro f g _ h1 h2; exact ⟨h1, hlt, h2, hg.1, hg.2, trivial⟩
  | cons q t ih =>
    intro f g h h1 h2
    obtain ⟨a1, a2, a3, a4, a5, a6⟩ := h
    exact ⟨a1, a2, a3, a4, a5, ih q.f q.g a6 h1 h2⟩

theorem own_grp (L : List Pc) (k : Int) : ∀ f g d, Rise f g L → 0 ≤ d ∧ d < 4 → 0 ≤ own d L k ∧ own d L k < 4 := by
  induction L with
  | nil => intro f g d _ h; exact h
  | cons q t ih =>
    intro f g d h hd
    obtain ⟨a1, a2, a3, a4, a5, a6⟩ := h
    by_cases hk : q.f ≤ k
    · simp only [own, hk, if_true]; exact ih q.f q.g q.g a6 ⟨a4, a5⟩
    · simp only [own, hk, if_false]; exact hd

theorem can_grp {m : List Pc} (h : Can m) (k : Int) (d : Int) (hd : 0 ≤ d ∧ d < 4) : 0 ≤ own d m k ∧ own d m k < 4 := by
  cases m with
  | nil => exact h.elim
  | cons p t =>
    obtain ⟨h0, h1, h2, h3⟩ := h
    by_cases hk : p.f ≤ k
    · simp only [own, hk, if_true]; exact own_grp t k 0 p.g p.g h3 ⟨h1, h2⟩
    · simp only [own, hk, if_false]; exact hd

theorem can_any {m : List Pc} (h : Can m) (k : Int) (hk : 0 ≤ k) (d d' : Int) : own d m k = own d' m k := by
  cases m with
  | nil => exact h.elim
  | cons p t =>
    have : p.f ≤ k := by have := h.1; omega
    simp only [own, this, if_true]

theorem can_mem {m : List Pc} (h : Can m) : ∀ q ∈ m, 0 ≤ q.f ∧ q.f < 18446744073709551616 ∧ 0 ≤ q.g ∧ q.g < 4 := by
  cases m with
  | nil => exact h.elim
  | cons p t =>
    obtain ⟨h0, h1, h2, h3⟩ := h
    intro q hq
    rcases List.mem_cons.1 hq with rfl | hq
    · exact ⟨by omega, by omega, h1, h2⟩
    · have := rise_mem t 0 p.g h3 q hq
      exact ⟨by omega, this.2.1, this.2.2.2⟩

theorem rise_uniq : ∀ (L L' : List Pc) (f g : Int), 0 ≤ f → Rise f g L → Rise f g L' → (∀ k, f ≤ k → k < 18446744073709551616 → own g L k = own g L' k) → L = L' := by
  intro L
  induction L with
  | nil =>
    intro L' f g hf h h' he
    cases L' with
    | nil => rfl
    | cons q t =>
      obtain ⟨a1, a2, a3, a4, a5, a6⟩ := h'
      have := he q.f (by omega) a2
      simp only [own, Int.le_refl, if_true] at this
      rw [own_none t q.f q.f q.g q.g a6 (Int.le_refl _)] at this
      exact (a3 this).elim
  | cons p s ih =>
    intro L' f g hf h h' he
    obtain ⟨b1, b2, b3, b4, b5, b6⟩ := h
    cases L' with
    | nil =>
      have := he p.f (by omega) b2
      simp only [own, Int.le_refl, if_true] at this
      rw [own_none s p.f p.f p.g p.g b6 (Int.le_refl _)] at this
      exact (b3 this.symm).elim
    | cons q t =>
      obtain ⟨a1, a2, a3, a4, a5, a6⟩ := h'
      have hp := he p.f (by omega) b2
      have hq := he q.f (by omega) a2
      simp only [own, Int.le_refl, if_true] at hp hq
      rw [own_none s p.f p.f p.g p.g b6 (Int.le_refl _)] at hp
      rw [own_none t q.f q.f q.g q.g a6 (Int.le_refl _)] at hq
      have hfe : p.f = q.f := by
        rcases Int.lt_trichotomy p.f q.f with hlt | heq | hgt
        · have : ¬ q.f ≤ p.f := by omega
          simp only [this, if_false] at hp
          exact (b3 hp.symm).elim
        · exact heq
        · have : ¬ p.f ≤ q.f := by omega
          simp only [this, if_false] at hq
          exact (a3 hq).elim
      have hge : p.g = q.g := by
        simp only [hfe, Int.le_refl, if_true] at hp
        rw [own_none t q.f q.f q.g q.g a6 (Int.le_refl _)] at hp
        exact hp
      have hpq : p = q := by cases p; cases q; simp only at hfe hge; rw [hfe, hge]
      subst hpq
      have hst := ih t p.f p.g (by omega) b6 a6 (fun k hk hk2 => by
        have := he k (by omega) hk2
        simpa only [own, hk, if_true] using this)
      rw [hst]

theorem can_uniq {L L' : List Pc} (h : Can L) (h' : Can L') (he : ∀ k, 0 ≤ k → k < 18446744073709551616 → own 0 L k = own 0 L' k) : L = L' := by
  cases L with
  | nil => exact h.elim
  | cons p s =>
    cases L' with
    | nil => exact h'.elim
    | cons q t =>
      obtain ⟨a1, a2, a3, a4⟩ := h
      obtain ⟨b1, b2, b3, b4⟩ := h'
      have h0 := he 0 (Int.le_refl _) (by decide)
      simp only [own, a1, b1, Int.le_refl, if_true] at h0
      rw [own_none s 0 0 p.g p.g a4 (Int.le_refl _), own_none t 0 0 q.g q.g b4 (Int.le_refl _)] at h0
      have hpq : p = q := by cases p; cases q; simp only at a1 b1 h0; rw [a1, b1, h0]
      subst hpq
      rw [rise_uniq s t 0 p.g (Int.le_refl _) a4 b4 (fun k hk hk2 => by
        have := he k hk hk2
        have hp : p.f ≤ k := by omega
        simpa only [own, hp, if_true] using this)]

/-- L says what F says of the keys up to b, and holds on to it behind. -/
structure Inv (L : List Pc) (b : Int) (F : Int → Int) : Prop where
  can : Can L
  le : ∀ p ∈ L, p.f ≤ b
  eq : ∀ k, 0 ≤ k → own 0 L k = if k ≤ b then F k else F b

theorem can_last {L : List Pc} (h : Can L) : ∃ y, L.getLast? = some y ∧ lastG 0 L = y.g ∧ lastF 0 L = y.f := by
  cases L with
  | nil => exact h.elim
  | cons p t =>
    clear h
    induction t generalizing p with
    | nil => exact ⟨p, rfl, rfl, rfl⟩
    | cons q t ih =>
      obtain ⟨y, h1, h2, h3⟩ := ih q
      exact ⟨y, by rw [List.getLast?_cons_cons]; exact h1, h2, h3⟩

theorem can_snoc {L : List Pc} {p : Pc} (h : Can L) (hlt : p.f < 18446744073709551616) (hg : 0 ≤ p.g ∧ p.g < 4) (hf : ∀ q ∈ L, q.f < p.f) (hn : lastG 0 L ≠ p.g) : Can (L ++ [p]) := by
  obtain ⟨y, hy, hyg, hyf⟩ := can_last h
  have hyl : lastF 0 L < p.f := by rw [hyf]; exact hf y (List.mem_of_getLast? hy)
  cases L with
  | nil => exact h.elim
  | cons q t =>
    obtain ⟨a1, a2, a3, a4⟩ := h
    refine ⟨a1, a2, a3, rise_snoc t p hlt hg 0 q.g a4 ?_ hn⟩
    simpa only [lastF, a1] using hyl

theorem Inv.b0 {L : List Pc} {b : Int} {F : Int → Int} (h : Inv L b F) : 0 ≤ b := by
  obtain ⟨y, hy, _, _⟩ := can_last h.can
  have h1 := h.le y (List.mem_of_getLast? hy)
  have h2 := (can_mem h.can y (List.mem_of_getLast? hy)).1
  omega

theorem Inv.last {L : List Pc} {b : Int} {F : Int → Int} (h : Inv L b F) : ∃ y, L.getLast? = some y ∧ y.g = F b := by
  obtain ⟨y, hy, hyg, _⟩ := can_last h.can
  refine ⟨y, hy, ?_⟩
  have h1 := h.eq b h.b0
  rw [if_pos (Int.le_refl _), own_all L b 0 h.le, hyg] at h1
  exact h1

theorem Inv.step {L : List Pc} {b b' : Int} {F : Int → Int} (h : Inv L b F) (hb : b < b') (hlt : b' < 18446744073709551616) (hc : ∀ k, b ≤ k → k < b' → F k = F b) (hg : 0 ≤ F b' ∧ F b' < 4) : Inv (join L ⟨b', F b'⟩) b' F := by
  have hb0 := h.b0
  obtain ⟨y, hy, hyg⟩ := h.last
  unfold join
  rw [hy]
  by_cases he : y.g = F b'
  · simp only [he, if_true]
    refine ⟨h.can, fun p hp => by have := h.le p hp; omega, fun k hk => ?_⟩
    rw [h.eq k hk]
    by_cases h1 : k ≤ b
    · have : k ≤ b' := by omega
      simp only [h1, this, if_true]
    · by_cases h2 : k ≤ b'
      · simp only [h1, h2, if_false, if_true]
        by_cases h3 : k = b'
        · subst h3; rw [← hyg, he]
        · exact (hc k (by omega) (by omega)).symm
      · simp only [h1, h2, if_false]; rw [← hyg, he]
  · simp only [he, if_false]
    have hl : lastG 0 L = y.g := by obtain ⟨z, hz, hzg, _⟩ := can_last h.can; rw [hy] at hz; cases hz; exact hzg
    refine ⟨can_snoc h.can hlt hg (fun q hq => by have := h.le q hq; show q.f < b'; omega) (by rw [hl]; exact he), ?_, fun k hk => ?_⟩
    · intro p hp
      rcases List.mem_append.1 hp with hp | hp
      · have := h.le p hp; omega
      · simp at hp; subst hp; exact Int.le_refl _
    · rw [own_snoc L ⟨b', F b'⟩ k 0 (fun q hq => by have := h.le q hq; show q.f ≤ b'; omega), h.eq k hk]
      by_cases h1 : b' ≤ k
      · simp only [h1, if_true]
        by_cases h2 : k ≤ b'
        · have : k = b' := by omega
          subst this; simp
        · simp only [h2, if_false]
      · have h2 : k ≤ b' := by omega
        simp only [h1, h2, if_false, if_true]
        by_cases h3 : k ≤ b
        · simp only [h3, if_true]
        · simp only [h3, if_false]; exact (hc k (by omega) (by omega)).symm

theorem Inv.end {L : List Pc} {b B : Int} {F : Int → Int} (h : Inv L b F) (hc : ∀ k, b ≤ k → k ≤ B → F k = F b) : ∀ k, 0 ≤ k → k ≤ B → own 0 L k = F k := by
  intro k hk hB
  rw [h.eq k hk]
  by_cases h1 : k ≤ b
  · simp only [h1, if_true]
  · simp only [h1, if_false]; exact (hc k (by omega) hB).symm

theorem inv_one {F : Int → Int} (hg : 0 ≤ F 0 ∧ F 0 < 4) : Inv (join [] ⟨0, F 0⟩) 0 F := by
  refine ⟨⟨rfl, hg.1, hg.2, trivial⟩, ?_, fun k hk => ?_⟩
  · intro p hp; simp [join] at hp; subst hp; exact Int.le_refl _
  · simp only [join, List.getLast?_nil, List.nil_append, own, hk, if_true]
    by_cases h1 : k ≤ 0
    · have : k = 0 := by omega
      subst this; simp
    · simp only [h1, if_false]

def giv (m : List Pc) (lo hi g : Int) (k : Int) : Int := if lo ≤ k ∧ k ≤ hi then g else own 0 m k

theorem giv_grp {m : List Pc} (h : Can m) {lo hi g : Int} (hg : 0 ≤ g ∧ g < 4) (k : Int) : 0 ≤ giv m lo hi g k ∧ giv m lo hi g k < 4 := by
  unfold giv
  by_cases hk : lo ≤ k ∧ k ≤ hi
  · rw [if_pos hk]; exact hg
  · rw [if_neg hk]; exact can_grp h k 0 (by decide)

theorem ahead_rise (lo : Int) (t : List Pc) : ∀ f d, Rise f d t → Rise f d (t.filter (fun p => decide (p.f < lo))) ∧ ∀ k, own d (t.filter (fun p => decide (p.f < lo))) k = own d t (if k ≤ lo - 1 then k else lo - 1) := by
  induction t with
  | nil => intro f d _; exact ⟨trivial, fun _ => rfl⟩
  | cons p t ih =>
    intro f d h
    obtain ⟨a1, a2, a3, a4, a5, a6⟩ := h
    obtain ⟨i1, i2⟩ := ih p.f p.g a6
    by_cases hp : p.f < lo
    · rw [List.filter_cons_of_pos (by simpa using hp)]
      refine ⟨⟨a1, a2, a3, a4, a5, i1⟩, fun k => ?_⟩
      by_cases hk : k ≤ lo - 1
      · simp only [own, hk, if_true]; rw [i2 k, if_pos hk]
      · have h1 : p.f ≤ k := by omega
        have h2 : p.f ≤ lo - 1 := by omega
        simp only [own, hk, if_false, h1, h2, if_true]; rw [i2 k, if_neg hk]
    · have he : (p :: t).filter (fun p => decide (p.f < lo)) = [] := by
        rw [List.filter_eq_nil_iff]
        intro q hq
        rcases List.mem_cons.1 hq with rfl | hq
        · simpa using hp
        · have := (rise_mem t p.f p.g a6 q hq).1; simp; omega
      rw [he]
      refine ⟨trivial, fun k => ?_⟩
      have : ¬ p.f ≤ (if k ≤ lo - 1 then k else lo - 1) := by split <;> omega
      simp only [own, this, if_false]

theorem ahead_inv {m : List Pc} (h : Can m) {lo hi g : Int} (hlo : 0 < lo) : Inv (m.filter (fun p => decide (p.f < lo))) (lo - 1) (giv m lo hi g) := by
  have hG : ∀ k, k < lo → giv m lo hi g k = own 0 m k := fun k hk => by
    unfold giv; rw [if_neg (by omega)]
  cases m with
  | nil => exact h.elim
  | cons p t =>
    obtain ⟨a1, a2, a3, a4⟩ := h
    obtain ⟨i1, i2⟩ := ahead_rise lo t 0 p.g a4
    have hp : p.f < lo := by omega
    have he : (p :: t).filter (fun p => decide (p.f < lo)) = p :: t.filter (fun p => decide (p.f < lo)) := List.filter_cons_of_pos (by simpa using hp)
    refine ⟨by rw [he]; exact ⟨a1, a2, a3, i1⟩, fun q hq => by have := (List.mem_filter.1 hq).2; simp at this; omega, fun k hk => ?_⟩
    have hpk : p.f ≤ k := by omega
    have hpl : p.f ≤ lo - 1 := by omega
    rw [he]
    simp only [own, hpk, if_true]
    rw [i2 k]
    by_cases h1 : k ≤ lo - 1
    · simp only [h1, if_true]; rw [hG k (by omega)]; simp only [own, hpk, if_true]
    · simp only [h1, if_false]; rw [hG (lo - 1) (by omega)]; simp only [own, hpl, if_true]

def behStep (hi : Int) (L : List Pc) (p : Pc) : List Pc := if hi < p.f then join L p else L

theorem join_self {L : List Pc} {p y : Pc} (hy : L.getLast? = some y) (h : y.g = p.g) : join L p = L := by
  unfold join; rw [hy]; simp only [h, if_true]

theorem behind_inv {F : Int → Int} {hi : Int} (t : List Pc) : ∀ (f d b : Int) (L : List Pc), Rise f d t → Inv L b F → (b = if f ≤ hi + 1 then hi + 1 else f) → (∀ k, f ≤ k → hi < k → F k = own d t k) →
    ∃ B, Inv (t.foldl (behStep hi) L) B F ∧ ∀ k, B ≤ k → F k = F B := by
  induction t with
  | nil =>
    intro f d b L _ hI hb hF
    refine ⟨b, hI, fun k hk => ?_⟩
    have h1 : f ≤ b ∧ hi < b := by rw [hb]; split <;> omega
    rw [hF k (by omega) (by omega), hF b h1.1 h1.2]; rfl
  | cons p t ih =>
    intro f d b L h hI hb hF
    obtain ⟨a1, a2, a3, a4, a5, a6⟩ := h
    have hF' : ∀ k, p.f ≤ k → hi < k → F k = own p.g t k := fun k hk hk2 => by
      rw [hF k (by omega) hk2]; simp only [own, hk, if_true]
    have h1 : f ≤ b ∧ hi < b := by rw [hb]; split <;> omega
    simp only [List.foldl_cons]
    by_cases hp : p.f ≤ hi
    · have : behStep hi L p = L := by unfold behStep; rw [if_neg (by omega)]
      rw [this]
      exact ih p.f p.g b L a6 hI (by rw [hb, if_pos (by omega), if_pos (by omega)]) hF'
    · have hs : behStep hi L p = join L p := by unfold behStep; rw [if_pos (by omega)]
      rw [hs]
      by_cases hpb : p.f = b
      · have hb1 : b = hi + 1 := by
          rw [hb]; split
          · rfl
          · rename_i hx; rw [if_neg hx] at hb; omega
        obtain ⟨y, hy, hyg⟩ := hI.last
        have : y.g = p.g := by
          rw [hyg, hF' b (by omega) (by omega)]
          exact own_none t b p.f p.g p.g a6 (by omega)
        rw [join_self hy this]
        exact ih p.f p.g b L a6 hI (by rw [if_pos (by omega)]; exact hb1) hF'
      · have hbp : b < p.f := by rw [hb] at hpb ⊢; split at hpb <;> split <;> omega
        have hFp : F p.f = p.g := by rw [hF' p.f (Int.le_refl _) (by omega)]; exact own_none t p.f p.f p.g p.g a6 (Int.le_refl _)
        have hJ := hI.step hbp a2 (fun k hk hk2 => by
          rw [hF k (by omega) (by omega), hF b h1.1 h1.2]
          have n1 : ¬ p.f ≤ k := by omega
          have n2 : ¬ p.f ≤ b := by omega
          simp only [own, n1, n2, if_false]) (by rw [hFp]; exact ⟨a4, a5⟩)
        rw [hFp] at hJ
        exact ih p.f p.g p.f _ a6 hJ (by rw [if_neg (by omega)]) hF'

def behL (m : List Pc) (hi : Int) (L : List Pc) : List Pc := if hi = 18446744073709551615 then L else m.foldl (behStep hi) (join L ⟨hi + 1, own 0 m (hi + 1)⟩)
def giveL (m : List Pc) (lo hi g : Int) : List Pc := behL m hi (join (m.filter (fun p => decide (p.f < lo))) ⟨lo, g⟩)

theorem give_inv {m : List Pc} (h : Can m) {lo hi g : Int} (h0 : 0 ≤ lo) (h1 : lo ≤ hi) (h2 : hi < 18446744073709551616) (hg : 0 ≤ g ∧ g < 4) : Inv (join (m.filter (fun p => decide (p.f < lo))) ⟨lo, g⟩) lo (giv m lo hi g) := by
  have hF : giv m lo hi g lo = g := by unfold giv; rw [if_pos (by omega)]
  rcases Int.lt_or_eq_of_le h0 with hlt | heq
  · have := (ahead_inv h (hi := hi) (g := g) hlt).step (b' := lo) (by omega) (by omega) (fun k hk hk2 => by rw [show k = lo - 1 by omega]) (by rw [hF]; exact hg)
    rw [hF] at this
    exact this
  · subst heq
    have hn : m.filter (fun p => decide (p.f < 0)) = [] := by
      rw [List.filter_eq_nil_iff]
      intro q hq
      have := (can_mem h q hq).1
      simp; omega
    have := inv_one (F := giv m 0 hi g) (by rw [hF]; exact hg)
    rw [hF] at this
    rw [hn]; exact this

theorem give_spec {m : List Pc} (h : Can m) {lo hi g : Int} (h0 : 0 ≤ lo) (h1 : lo ≤ hi) (h2 : hi < 18446744073709551616) (hg : 0 ≤ g ∧ g < 4) :
    Can (giveL m lo hi g) ∧ ∀ k, 0 ≤ k → k < 18446744073709551616 → own 0 (giveL m lo hi g) k = giv m lo hi g k := by
  have hI := give_inv h h0 h1 h2 hg
  have hFl : giv m lo hi g lo = g := by unfold giv; rw [if_pos (by omega)]
  unfold giveL behL
  by_cases hm : hi = 18446744073709551615
  · rw [if_pos hm]
    refine ⟨hI.can, fun k hk hk2 => hI.end (B := 18446744073709551615) (fun k hk hk2 => ?_) k hk (by omega)⟩
    rw [hFl]; unfold giv; rw [if_pos (by omega)]
  · rw [if_neg hm]
    have hF1 : giv m lo hi g (hi + 1) = own 0 m (hi + 1) := by unfold giv; rw [if_neg (by omega)]
    have hJ := hI.step (b' := hi + 1) (by omega) (by omega) (fun k hk hk2 => by rw [hFl]; unfold giv; rw [if_pos (by omega)]) (giv_grp h hg _)
    rw [hF1] at hJ
    cases m with
    | nil => exact h.elim
    | cons p t =>
      obtain ⟨a1, a2, a3, a4⟩ := h
      have hp : behStep hi (join (join ((p :: t).filter (fun p => decide (p.f < lo))) ⟨lo, g⟩) ⟨hi + 1, own 0 (p :: t) (hi + 1)⟩) p = (join (join ((p :: t).filter (fun p => decide (p.f < lo))) ⟨lo, g⟩) ⟨hi + 1, own 0 (p :: t) (hi + 1)⟩) := by
        unfold behStep; rw [if_neg (by omega)]
      rw [List.foldl_cons, hp]
      obtain ⟨B, hB, hc⟩ := behind_inv (hi := hi) t 0 p.g (hi + 1) _ a4 hJ (by rw [if_pos (by omega)]) (fun k hk hk2 => by
        unfold giv; rw [if_neg (by omega)]
        have : p.f ≤ k := by omega
        simp only [own, this, if_true])
      exact ⟨hB.can, fun k hk _ => hB.end (B := k) (fun j hj _ => hc j hj) k hk (Int.le_refl _)⟩

theorem join_len (L : List Pc) (p : Pc) : (join L p).length ≤ L.length + 1 := by
  unfold join; split
  · simp
  · split <;> simp

theorem beh_len (hi : Int) (t : List Pc) : ∀ L, (t.foldl (behStep hi) L).length ≤ L.length + t.length := by
  induction t with
  | nil => intro L; simp
  | cons p t ih =>
    intro L
    have h1 := ih (behStep hi L p)
    have h2 : (behStep hi L p).length ≤ L.length + 1 := by
      unfold behStep; split
      · exact join_len L p
      · omega
    simp only [List.foldl_cons, List.length_cons]; omega

def mapAt (m : List Pc) (i : Nat) : Bool := match m[i]? with
  | none => true
  | some x => decide (x.g < 4) && (i == 0 || match m[i - 1]? with
    | none => true
    | some y => decide (y.f < x.f) && !(y.g == x.g))

def mapOk (m : List Pc) : Bool := decide (0 < m.length) && decide (m.length ≤ 1000) && (match m[0]? with | none => false | some x => x.f == 0) && (List.range m.length).all (mapAt m)

def Pc.wf (p : Pc) : Prop := 0 ≤ p.f ∧ p.f < 18446744073709551616 ∧ 0 ≤ p.g ∧ p.g < 256

theorem rise_of (t : List Pc) : ∀ p : Pc, (∀ q ∈ t, q.wf) → (∀ (i : Nat) (x y : Pc), (p :: t)[i + 1]? = some x → (p :: t)[i]? = some y → x.g < 4 ∧ y.f < x.f ∧ y.g ≠ x.g) → Rise p.f p.g t := by
  induction t with
  | nil => intro p _ _; exact trivial
  | cons q t ih =>
    intro p hw h
    obtain ⟨h1, h2, h3⟩ := h 0 q p rfl rfl
    have hq := hw q (by simp)
    exact ⟨h2, hq.2.1, h3, hq.2.2.1, h1, ih q (fun r hr => hw r (by simp [hr])) (fun i x y hx hy => h (i + 1) x y (by simpa using hx) (by simpa using hy))⟩

theorem can_of {m : List Pc} (hw : ∀ q ∈ m, q.wf) (h : mapOk m = true) : Can m ∧ m.length ≤ 1000 := by
  unfold mapOk at h
  simp only [Bool.and_eq_true, decide_eq_true_eq, List.all_eq_true] at h
  obtain ⟨⟨⟨h1, h2⟩, h3⟩, h4⟩ := h
  refine ⟨?_, h2⟩
  cases m with
  | nil => simp at h1
  | cons p t =>
    simp at h3
    have h5 : ∀ i, i < (p :: t).length → mapAt (p :: t) i = true := fun i hi => h4 i (List.mem_range.2 hi)
    have h6 := h5 0 (by simp)
    simp [mapAt] at h6
    refine ⟨h3, (hw p (by simp)).2.2.1, h6, ?_⟩
    rw [← h3]
    refine rise_of t p (fun q hq => hw q (by simp [hq])) (fun i x y hx hy => ?_)
    have h7 := h5 (i + 1) (List.getElem?_eq_some_iff.1 hx).1
    unfold mapAt at h7
    rw [hx] at h7
    simp [hy] at h7
    exact ⟨h7.1, h7.2.1, h7.2.2⟩

end Go.Proofs.Ytignemioillaiaa
