/- Maps of keys as plain lists: whose a key is, what a gift makes of a map, that a map is known by its owners: no program text here. -/
import Derived.Test.YtignemioillaiaaGreatG24
namespace Go.Proofs.YtignemioillaiaaGreat
set_option maxHeartbeats 8000000
set_option maxRecDepth 100000
section
open Go.RowKit
structure Pc where
  (f g : Int)

def Pc.cells (p : Pc) : List Value := [.int .u64 p.f, .int .u8 p.g]

/-- Whose a key is: of the last piece that begins at or below it. -/
def own : Int → List Pc → Int → Int
  | d, [], _ => d
  | d, p :: m, k => if p.f ≤ k then own p.g m k else d

def Rise : Int → Int → List Pc → Prop
  | _, _, [] => True
  | f, g, p :: m => f < p.f ∧ p.f < 18446744073709551616 ∧ g ≠ p.g ∧ 0 ≤ p.g ∧ p.g < 4 ∧ Rise p.f p.g m

def Can : List Pc → Prop
  | [] => False
  | p :: m => p.f = 0 ∧ 0 ≤ p.g ∧ p.g < 4 ∧ Rise 0 p.g m

def lastF : Int → List Pc → Int
  | f, [] => f
  | _, p :: m => lastF p.f m
def lastG : Int → List Pc → Int
  | g, [] => g
  | _, p :: m => lastG p.g m

def join (L : List Pc) (p : Pc) : List Pc := match L.getLast? with
  | none => L ++ [p]
  | some y => if y.g = p.g then L else L ++ [p]

theorem own_snoc (L : List Pc) (p : Pc) (k : Int) : ∀ d, (∀ q ∈ L, q.f ≤ p.f) → own d (L ++ [p]) k = if p.f ≤ k then p.g else own d L k := by
  induction L with
  | nil => intro d _; simp [own]
  | cons q t ih =>
    intro d h
    have hq : q.f ≤ p.f := h q (by simp)
    have ht := ih q.g (fun x hx => h x (by simp [hx]))
    by_cases hk : q.f ≤ k
    · simp only [List.cons_append, own, hk, if_true, ht]
    · have : ¬ p.f ≤ k := by omega
      simp only [List.cons_append, own, hk, if_false, this]

theorem own_all (L : List Pc) (k : Int) : ∀ d, (∀ q ∈ L, q.f ≤ k) → own d L k = lastG d L := by
  induction L with
  | nil => intro d _; rfl
  | cons q t ih =>
    intro d h
    have hq : q.f ≤ k := h q (by simp)
    simp only [own, hq, if_true, lastG]
    exact ih q.g (fun x hx => h x (by simp [hx]))

theorem own_none (L : List Pc) (k : Int) : ∀ f g d, Rise f g L → k ≤ f → own d L k = d := by
  cases L with
  | nil => intros; rfl
  | cons q t =>
    intro f g d h hk
    have : ¬ q.f ≤ k := by have := h.1; omega
    simp [own, this]

theorem rise_mem (L : List Pc) : ∀ f g, Rise f g L → ∀ q ∈ L, f < q.f ∧ q.f < 18446744073709551616 ∧ q.f ≤ lastF f L ∧ 0 ≤ q.g ∧ q.g < 4 := by
  induction L with
  | nil => intro f g _ q hq; simp at hq
  | cons p t ih =>
    intro f g h q hq
    obtain ⟨h1, h2, h3, h4, h5, h6⟩ := h
    have hl : p.f ≤ lastF p.f t := by
      cases t with
      | nil => exact Int.le_refl _
      | cons r t' => have := ih p.f p.g h6 r (by simp); simp only [lastF] at *; omega
    rcases List.mem_cons.1 hq with rfl | hq
    · exact ⟨h1, h2, hl, h4, h5⟩
    · have := ih p.f p.g h6 q hq
      exact ⟨by omega, this.2.1, this.2.2.1, this.2.2.2⟩

theorem rise_snoc (L : List Pc) (p : Pc) (hlt : p.f < 18446744073709551616) (hg : 0 ≤ p.g ∧ p.g < 4) : ∀ f g, Rise f g L → lastF f L < p.f → lastG g L ≠ p.g → Rise f g (L ++ [p]) := by
  induction L with
  | nil => intro f g _ h1 h2; exact ⟨h1, hlt, h2, hg.1, hg.2, trivial⟩
  | cons q t ih =>
    intro f g h h1 h2
    obtain ⟨a1, a2, a3, a4, a5, a6⟩ := h
    exact ⟨a1, a2, a3, a4, a5, ih q.f q.g a6 h1 h2⟩

theorem own_grp (L : List Pc) (k : Int) : ∀ f g d, Rise f g L → 0 ≤ d ∧ d < 4 → 0 ≤ own d L k ∧ own d L k < 4 := by
  induction L with
  | nil => intro f g d _ h; exact h
  | cons q t ih =>
    intro f g d h hd
    obtain ⟨a1, a2, a3, a4, a5, a6⟩ := h
    by_cases hk : q.f ≤ k
    · simp only [own, hk, if_true]; exact ih q.f q.g q.g a6 ⟨a4, a5⟩
    · simp only [own, hk, if_false]; exact hd

theorem can_grp {m : List Pc} (h : Can m) (k : Int) (d : Int) (hd : 0 ≤ d ∧ d < 4) : 0 ≤ own d m k ∧ own d m k < 4 := by
  cases m with
  | nil => exact h.elim
  | cons p t =>
    obtain ⟨h0, h1, h2, h3⟩ := h
    by_cases hk : p.f ≤ k
    · simp only [own, hk, if_true]; exact own_grp t k 0 p.g p.g h3 ⟨h1, h2⟩
    · simp only [own, hk, if_false]; exact hd

theorem can_any {m : List Pc} (h : Can m) (k : Int) (hk : 0 ≤ k) (d d' : Int) : own d m k = own d' m k := by
  cases m with
  | nil => exact h.elim
  | cons p t =>
    have : p.f ≤ k := by have := h.1; omega
    simp only [own, this, if_true]

theorem can_mem {m : List Pc} (h : Can m) : ∀ q ∈ m, 0 ≤ q.f ∧ q.f < 18446744073709551616 ∧ 0 ≤ q.g ∧ q.g < 4 := by
  cases m with
  | nil => exact h.elim
  | cons p t =>
    obtain ⟨h0, h1, h2, h3⟩ := h
    intro q hq
    rcases List.mem_cons.1 hq with rfl | hq
    · exact ⟨by omega, by omega, h1, h2⟩
    · have := rise_mem t 0 p.g h3 q hq
      exact ⟨by omega, this.2.1, this.2.2.2⟩

/-- L says what F says of the keys up to b, and holds on to it behind. -/
structure Inv (L : List Pc) (b : Int) (F : Int → Int) : Prop where
  can : Can L
  le : ∀ p ∈ L, p.f ≤ b
  eq : ∀ k, 0 ≤ k → own 0 L k = if k ≤ b then F k else F b

theorem can_last {L : List Pc} (h : Can L) : ∃ y, L.getLast? = some y ∧ lastG 0 L = y.g ∧ lastF 0 L = y.f := by
  cases L with
  | nil => exact h.elim
  | cons p t =>
    clear h
    induction t generalizing p with
    | nil => exact ⟨p, rfl, rfl, rfl⟩
    | cons q t ih =>
      obtain ⟨y, h1, h2, h3⟩ := ih q
      exact ⟨y, by rw [List.getLast?_cons_cons]; exact h1, h2, h3⟩

theorem can_snoc {L : List Pc} {p : Pc} (h : Can L) (hlt : p.f < 18446744073709551616) (hg : 0 ≤ p.g ∧ p.g < 4) (hf : ∀ q ∈ L, q.f < p.f) (hn : lastG 0 L ≠ p.g) : Can (L ++ [p]) := by
  obtain ⟨y, hy, hyg, hyf⟩ := can_last h
  have hyl : lastF 0 L < p.f := by rw [hyf]; exact hf y (List.mem_of_getLast? hy)
  cases L with
  | nil => exact h.elim
  | cons q t =>
    obtain ⟨a1, a2, a3, a4⟩ := h
    refine ⟨a1, a2, a3, rise_snoc t p hlt hg 0 q.g a4 ?_ hn⟩
    simpa only [lastF, a1] using hyl

theorem Inv.b0 {L : List Pc} {b : Int} {F : Int → Int} (h : Inv L b F) : 0 ≤ b := by
  obtain ⟨y, hy, _, _⟩ := can_last h.can
  have h1 := h.le y (List.mem_of_getLast? hy)
  have h2 := (can_mem h.can y (List.mem_of_getLast? hy)).1
  omega

theorem Inv.last {L : List Pc} {b : Int} {F : Int → Int} (h : Inv L b F) : ∃ y, L.getLast? = some y ∧ y.g = F b := by
  obtain ⟨y, hy, hyg, _⟩ := can_last h.can
  refine ⟨y, hy, ?_⟩
  have h1 := h.eq b h.b0
  rw [if_pos (Int.le_refl _), own_all L b 0 h.le, hyg] at h1
  exact h1

theorem Inv.step {L : List Pc} {b b' : Int} {F : Int → Int} (h : Inv L b F) (hb : b < b') (hlt : b' < 18446744073709551616) (hc : ∀ k, b ≤ k → k < b' → F k = F b) (hg : 0 ≤ F b' ∧ F b' < 4) : Inv (join L ⟨b', F b'⟩) b' F := by
  have hb0 := h.b0
  obtain ⟨y, hy, hyg⟩ := h.last
  unfold join
  rw [hy]
  by_cases he : y.g = F b'
  · simp only [he, if_true]
    refine ⟨h.can, fun p hp => by have := h.le p hp; omega, fun k hk => ?_⟩
    rw [h.eq k hk]
    by_cases h1 : k ≤ b
    · have : k ≤ b' := by omega
      simp only [h1, this, if_true]
    · by_cases h2 : k ≤ b'
      · simp only [h1, h2, if_false, if_true]
        by_cases h3 : k = b'
        · subst h3; rw [← hyg, he]
        · exact (hc k (by omega) (by omega)).symm
      · simp only [h1, h2, if_false]; rw [← hyg, he]
  · simp only [he, if_false]
    have hl : lastG 0 L = y.g := by obtain ⟨z, hz, hzg, _⟩ := can_last h.can; rw [hy] at hz; cases hz; exact hzg
    refine ⟨can_snoc h.can hlt hg (fun q hq => by have := h.le q hq; show q.f < b'; omega) (by rw [hl]; exact he), ?_, fun k hk => ?_⟩
    · intro p hp
      rcases List.mem_append.1 hp with hp | hp
      · have := h.le p hp; omega
      · simp at hp; subst hp; exact Int.le_refl _
    · rw [own_snoc L ⟨b', F b'⟩ k 0 (fun q hq => by have := h.le q hq; show q.f ≤ b'; omega), h.eq k hk]
      by_cases h1 : b' ≤ k
      · simp only [h1, if_true]
        by_cases h2 : k ≤ b'
        · have : k = b' := by omega
          subst this; simp
        · simp only [h2, if_false]
      · have h2 : k ≤ b' := by omega
        simp only [h1, h2, if_false, if_true]
        by_cases h3 : k ≤ b
        · simp only [h3, if_true]
        · simp only [h3, if_false]; exact (hc k (by omega) (by omega)).symm

theorem Inv.end {L : List Pc} {b B : Int} {F : Int → Int} (h : Inv L b F) (hc : ∀ k, b ≤ k → k ≤ B → F k = F b) : ∀ k, 0 ≤ k → k ≤ B → own 0 L k = F k := by
  intro k hk hB
  rw [h.eq k hk]
  by_cases h1 : k ≤ b
  · simp only [h1, if_true]
  · simp only [h1, if_false]; exact (hc k (by omega) hB).symm

theorem inv_one {F : Int → Int} (hg : 0 ≤ F 0 ∧ F 0 < 4) : Inv (join [] ⟨0, F 0⟩) 0 F := by
  refine ⟨⟨rfl, hg.1, hg.2, trivial⟩, ?_, fun k hk => ?_⟩
  · intro p hp; simp [join] at hp; subst hp; exact Int.le_refl _
  · simp only [join, List.getLast?_nil, List.nil_append, own, hk, if_true]
    by_cases h1 : k ≤ 0
    · have : k = 0 := by omega
      subst this; simp
    · simp only [h1, if_false]

def giv (m : List Pc) (lo hi g : Int) (k : Int) : Int := if lo ≤ k ∧ k ≤ hi then g else own 0 m k

theorem giv_grp {m : List Pc} (h : Can m) {lo hi g : Int} (hg : 0 ≤ g ∧ g < 4) (k : Int) : 0 ≤ giv m lo hi g k ∧ giv m lo hi g k < 4 := by
  unfold giv
  by_cases hk : lo ≤ k ∧ k ≤ hi
  · rw [if_pos hk]; exact hg
  · rw [if_neg hk]; exact can_grp h k 0 (by decide)

theorem ahead_rise (lo : Int) (t : List Pc) : ∀ f d, Rise f d t → Rise f d (t.filter (fun p => decide (p.f < lo))) ∧ ∀ k, own d (t.filter (fun p => decide (p.f < lo))) k = own d t (if k ≤ lo - 1 then k else lo - 1) := by
  induction t with
  | nil => intro f d _; exact ⟨trivial, fun _ => rfl⟩
  | cons p t ih =>
    intro f d h
    obtain ⟨a1, a2, a3, a4, a5, a6⟩ := h
    obtain ⟨i1, i2⟩ := ih p.f p.g a6
    by_cases hp : p.f < lo
    · rw [List.filter_cons_of_pos (by simpa using hp)]
      refine ⟨⟨a1, a2, a3, a4, a5, i1⟩, fun k => ?_⟩
      by_cases hk : k ≤ lo - 1
      · simp only [own, hk, if_true]; rw [i2 k, if_pos hk]
      · have h1 : p.f ≤ k := by omega
        have h2 : p.f ≤ lo - 1 := by omega
        simp only [own, hk, if_false, h1, h2, if_true]; rw [i2 k, if_neg hk]
    · have he : (p :: t).filter (fun p => decide (p.f < lo)) = [] := by
        rw [List.filter_eq_nil_iff]
        intro q hq
        rcases List.mem_cons.1 hq with rfl | hq
        · simpa using hp
        · have := (rise_mem t p.f p.g a6 q hq).1; simp; omega
      rw [he]
      refine ⟨trivial, fun k => ?_⟩
      have : ¬ p.f ≤ (if k ≤ lo - 1 then k else lo - 1) := by split <;> omega
      simp only [own, this, if_false]

theorem ahead_inv {m : List Pc} (h : Can m) {lo hi g : Int} (hlo : 0 < lo) : Inv (m.filter (fun p => decide (p.f < lo))) (lo - 1) (giv m lo hi g) := by
  have hG : ∀ k, k < lo → giv m lo hi g k = own 0 m k := fun k hk => by
    unfold giv; rw [if_neg (by omega)]
  cases m with
  | nil => exact h.elim
  | cons p t =>
    obtain ⟨a1, a2, a3, a4⟩ := h
    obtain ⟨i1, i2⟩ := ahead_rise lo t 0 p.g a4
    have hp : p.f < lo := by omega
    have he : (p :: t).filter (fun p => decide (p.f < lo)) = p :: t.filter (fun p => decide (p.f < lo)) := List.filter_cons_of_pos (by simpa using hp)
    refine ⟨by rw [he]; exact ⟨a1, a2, a3, i1⟩, fun q hq => by have := (List.mem_filter.1 hq).2; simp at this; omega, fun k hk => ?_⟩
    have hpk : p.f ≤ k := by omega
    have hpl : p.f ≤ lo - 1 := by omega
    rw [he]
    simp only [own, hpk, if_true]
    rw [i2 k]
    by_cases h1 : k ≤ lo - 1
    · simp only [h1, if_true]; rw [hG k (by omega)]; simp only [own, hpk, if_true]
    · simp only [h1, if_false]; rw [hG (lo - 1) (by omega)]; simp only [own, hpl, if_true]

def behStep (hi : Int) (L : List Pc) (p : Pc) : List Pc := if hi < p.f then join L p else L

theorem join_self {L : List Pc} {p y : Pc} (hy : L.getLast? = some y) (h : y.g = p.g) : join L p = L := by
  unfold join; rw [hy]; simp only [h, if_true]

theorem behind_inv {F : Int → Int} {hi : Int} (t : List Pc) : ∀ (f d b : Int) (L : List Pc), Rise f d t → Inv L b F → (b = if f ≤ hi + 1 then hi + 1 else f) → (∀ k, f ≤ k → hi < k → F k = own d t k) →
    ∃ B, Inv (t.foldl (behStep hi) L) B F ∧ ∀ k, B ≤ k → F k = F B := by
  induction t with
  | nil =>
    intro f d b L _ hI hb hF
    refine ⟨b, hI, fun k hk => ?_⟩
    have h1 : f ≤ b ∧ hi < b := by rw [hb]; split <;> omega
    rw [hF k (by omega) (by omega), hF b h1.1 h1.2]; rfl
  | cons p t ih =>
    intro f d b L h hI hb hF
    obtain ⟨a1, a2, a3, a4, a5, a6⟩ := h
    have hF' : ∀ k, p.f ≤ k → hi < k → F k = own p.g t k := fun k hk hk2 => by
      rw [hF k (by omega) hk2]; simp only [own, hk, if_true]
    have h1 : f ≤ b ∧ hi < b := by rw [hb]; split <;> omega
    simp only [List.foldl_cons]
    by_cases hp : p.f ≤ hi
    · have : behStep hi L p = L := by unfold behStep; rw [if_neg (by omega)]
      rw [this]
      exact ih p.f p.g b L a6 hI (by rw [hb, if_pos (by omega), if_pos (by omega)]) hF'
    · have hs : behStep hi L p = join L p := by unfold behStep; rw [if_pos (by omega)]
      rw [hs]
      by_cases hpb : p.f = b
      · have hb1 : b = hi + 1 := by
          rw [hb]; split
          · rfl
          · rename_i hx; rw [if_neg hx] at hb; omega
        obtain ⟨y, hy, hyg⟩ := hI.last
        have : y.g = p.g := by
          rw [hyg, hF' b (by omega) (by omega)]
          exact own_none t b p.f p.g p.g a6 (by omega)
        rw [join_self hy this]
        exact ih p.f p.g b L a6 hI (by rw [if_pos (by omega)]; exact hb1) hF'
      · have hbp : b < p.f := by rw [hb] at hpb ⊢; split at hpb <;> split <;> omega
        have hFp : F p.f = p.g := by rw [hF' p.f (Int.le_refl _) (by omega)]; exact own_none t p.f p.f p.g p.g a6 (Int.le_refl _)
        have hJ := hI.step hbp a2 (fun k hk hk2 => by
          rw [hF k (by omega) (by omega), hF b h1.1 h1.2]
          have n1 : ¬ p.f ≤ k := by omega
          have n2 : ¬ p.f ≤ b := by omega
          simp only [own, n1, n2, if_false]) (by rw [hFp]; exact ⟨a4, a5⟩)
        rw [hFp] at hJ
        exact ih p.f p.g p.f _ a6 hJ (by rw [if_neg (by omega)]) hF'

def behL (m : List Pc) (hi : Int) (L : List Pc) : List Pc := if hi = 18446744073709551615 then L else m.foldl (behStep hi) (join L ⟨hi + 1, own 0 m (hi + 1)⟩)
def giveL (m : List Pc) (lo hi g : Int) : List Pc := behL m hi (join (m.filter (fun p => decide (p.f < lo))) ⟨lo, g⟩)

theorem give_inv {m : List Pc} (h : Can m) {lo hi g : Int} (h0 : 0 ≤ lo) (h1 : lo ≤ hi) (h2 : hi < 18446744073709551616) (hg : 0 ≤ g ∧ g < 4) : Inv (join (m.filter (fun p => decide (p.f < lo))) ⟨lo, g⟩) lo (giv m lo hi g) := by
  have hF : giv m lo hi g lo = g := by unfold giv; rw [if_pos (by omega)]
  rcases Int.lt_or_eq_of_le h0 with hlt | heq
  · have := (ahead_inv h (hi := hi) (g := g) hlt).step (b' := lo) (by omega) (by omega) (fun k hk hk2 => by rw [show k = lo - 1 by omega]) (by rw [hF]; exact hg)
    rw [hF] at this
    exact this
  · subst heq
    have hn : m.filter (fun p => decide (p.f < 0)) = [] := by
      rw [List.filter_eq_nil_iff]
      intro q hq
      have := (can_mem h q hq).1
      simp; omega
    have := inv_one (F := giv m 0 hi g) (by rw [hF]; exact hg)
    rw [hF] at this
    rw [hn]; exact this

theorem give_spec {m : List Pc} (h : Can m) {lo hi g : Int} (h0 : 0 ≤ lo) (h1 : lo ≤ hi) (h2 : hi < 18446744073709551616) (hg : 0 ≤ g ∧ g < 4) :
    Can (giveL m lo hi g) ∧ ∀ k, 0 ≤ k → k < 18446744073709551616 → own 0 (giveL m lo hi g) k = giv m lo hi g k := by
  have hI := give_inv h h0 h1 h2 hg
  have hFl : giv m lo hi g lo = g := by unfold giv; rw [if_pos (by omega)]
  unfold giveL behL
  by_cases hm : hi = 18446744073709551615
  · rw [if_pos hm]
    refine ⟨hI.can, fun k hk hk2 => hI.end (B := 18446744073709551615) (fun k hk hk2 => ?_) k hk (by omega)⟩
    rw [hFl]; unfold giv; rw [if_pos (by omega)]
  · rw [if_neg hm]
    have hF1 : giv m lo hi g (hi + 1) = own 0 m (hi + 1) := by unfold giv; rw [if_neg (by omega)]
    have hJ := hI.step (b' := hi + 1) (by omega) (by omega) (fun k hk hk2 => by rw [hFl]; unfold giv; rw [if_pos (by omega)]) (giv_grp h hg _)
    rw [hF1] at hJ
    cases m with
    | nil => exact h.elim
    | cons p t =>
      obtain ⟨a1, a2, a3, a4⟩ := h
      have hp : behStep hi (join (join ((p :: t).filter (fun p => decide (p.f < lo))) ⟨lo, g⟩) ⟨hi + 1, own 0 (p :: t) (hi + 1)⟩) p = (join (join ((p :: t).filter (fun p => decide (p.f < lo))) ⟨lo, g⟩) ⟨hi + 1, own 0 (p :: t) (hi + 1)⟩) := by
        unfold behStep; rw [if_neg (by omega)]
      rw [List.foldl_cons, hp]
      obtain ⟨B, hB, hc⟩ := behind_inv (hi := hi) t 0 p.g (hi + 1) _ a4 hJ (by rw [if_pos (by omega)]) (fun k hk hk2 => by
        unfold giv; rw [if_neg (by omega)]
        have : p.f ≤ k := by omega
        simp only [own, this, if_true])
      exact ⟨hB.can, fun k hk _ => hB.end (B := k) (fun j hj _ => hc j hj) k hk (Int.le_refl _)⟩

theorem join_len (L : List Pc) (p : Pc) : (join L p).length ≤ L.length + 1 := by
  unfold join; split
  · simp
  · split <;> simp

theorem beh_len (hi : Int) (t : List Pc) : ∀ L, (t.foldl (behStep hi) L).length ≤ L.length + t.length := by
  induction t with
  | nil => intro L; simp
  | cons p t ih =>
    intro L
    have h1 := ih (behStep hi L p)
    have h2 : (behStep hi L p).length ≤ L.length + 1 := by
      unfold behStep; split
      · exact join_len L p
      · omega
    simp only [List.foldl_cons, List.length_cons]; omega

def mapAt (m : List Pc) (i : Nat) : Bool := match m[i]? with
  | none => true
  | some x => decide (x.g < 4) && (i == 0 || match m[i - 1]? with
    | none => true
    | some y => decide (y.f < x.f) && !(y.g == x.g))

def mapOk (m : List Pc) : Bool := decide (0 < m.length) && decide (m.length ≤ 1000) && (match m[0]? with | none => false | some x => x.f == 0) && (List.range m.length).all (mapAt m)
end
section
open Go Go.Conc
/-- A shard, plain. -/
structure St where
  (g n : Int)
  T : List Row
  M : List Pc
  D : List Rep
  O : List (Int × List Rg)
  I : List Int
def QIn (w : World) (q : Value) (rs : List Rg) : Prop := ∃ vs : List (Value × Value), vs.length = rs.length ∧ Fz w 52 7 q rs.length (List.zipWith (fun r p => rgC r p.1 p.2) rs vs).flatten ∧ ∀ (i : Nat) (r : Rg) (p : Value × Value), rs[i]? = some r → vs[i]? = some p → RgIn w r p.1 p.2
structure ShIn (w : World) (vT vM vD vO vI : Value) (s : St) : Prop where
  T : Fz w 128 2 vT s.T.length (s.T.map Row.cells).flatten
  M : Fz w 107 2 vM s.M.length (s.M.map Pc.cells).flatten
  D : Fz w 57 7 vD s.D.length (s.D.map Rep.cells).flatten
  O : ∃ qs : List Value, qs.length = s.O.length ∧ Fz w 103 2 vO s.O.length (List.zipWith (fun (o : Int × List Rg) q => [Value.int .u32 o.1, q]) s.O qs).flatten ∧ ∀ (i : Nat) (o : Int × List Rg) (q : Value), s.O[i]? = some o → qs[i]? = some q → QIn w q o.2
  I : Fz w 47 1 vI s.I.length (s.I.map fun i => Value.int .u32 i)
theorem QIn.kz {w w' : World} {q : Value} {rs : List Rg} (h : QIn w q rs) (k : Kz w w') : QIn w' q rs := by
  obtain ⟨vs, h1, h2, h3⟩ := h
  exact ⟨vs, h1, h2.kz k (by decide), fun i r p hr hp => (h3 i r p hr hp).kz k⟩
theorem ShIn.kz {w w' : World} {vT vM vD vO vI : Value} {s : St} (h : ShIn w vT vM vD vO vI s) (k : Kz w w') : ShIn w' vT vM vD vO vI s := by
  obtain ⟨qs, h1, h2, h3⟩ := h.O
  exact ⟨h.T.kz k (by decide), h.M.kz k (by decide), h.D.kz k (by decide), ⟨qs, h1, h2.kz k (by decide), fun i o q ho hq => (h3 i o q ho hq).kz k⟩, h.I.kz k (by decide)⟩
theorem ShIn.sl {w : World} {T M D O I : Value} {s : St} (h : ShIn w T M D O I s) : ∃ a1 n1 c1 a2 n2 c2 a3 n3 c3 a4 n4 c4 a5 n5 c5, T = .slice a1 n1 c1 ∧ M = .slice a2 n2 c2 ∧ D = .slice a3 n3 c3 ∧ O = .slice a4 n4 c4 ∧ I = .slice a5 n5 c5 := by
  obtain ⟨_, _, h1, _⟩ := h.T
  obtain ⟨_, _, h2, _⟩ := h.M
  obtain ⟨_, _, h3, _⟩ := h.D
  obtain ⟨_, _, ⟨_, _, h4, _⟩, _⟩ := h.O
  obtain ⟨_, _, h5, _⟩ := h.I
  exact ⟨_, _, _, _, _, _, _, _, _, _, _, _, _, _, _, h1, h2, h3, h4, h5⟩
/-- A replica's numbers. -/
structure Sc where
  (g i gs sz : Nat)
  (b wb : Bal)
  (seen role prom next : Nat)
/-- A replica. -/
structure MR where
  sc : Sc
  (votes wvotes : Nat → Option MV)
  known : Nat → Option MC
  log : List MC
  st : St
  out : List Pkt
  met : Nat → Option MV
  props : Nat → Option MC
  acc : Nat → Option Nat
/-- Where its parts lie. -/
structure RAd where
  (vm wm kn mt pp ac : Nat)
  (lg ob sT sM sD sO sI : Value)
def rcC (R : MR) (a : RAd) : List Value := .int .u8 R.sc.g :: .int .u8 R.sc.i :: .int .i64 R.sc.gs :: .int .i64 R.sc.sz :: .int .u32 R.sc.b.n :: .int .u8 R.sc.b.id :: .map (some a.vm) :: .int .u32 R.sc.wb.n :: .int .u8 R.sc.wb.id :: .map (some a.wm) :: .int .u32 R.sc.seen :: .map (some a.kn) :: a.lg :: .int .u8 R.st.g :: .int .u8 R.st.n :: a.sT :: a.sM :: a.sD :: a.sO :: a.sI :: a.ob :: .int .i64 R.sc.role :: .int .u8 R.sc.prom :: .map (some a.mt) :: .int .u32 R.sc.next :: .map (some a.pp) :: .map (some a.ac) :: []
def LgIn (w : World) (v : Value) (l : List MC) : Prop := ∃ vs : List (Value × Value), vs.length = l.length ∧ w.ownsRow 0 54 17 v l.length (List.zipWith (fun c p => mcC c p.1 p.2) l vs).flatten ∧ ∀ (i : Nat) (c : MC) (p : Value × Value), l[i]? = some c → vs[i]? = some p → RgIn w c.r p.1 p.2
/-- Its own blocks. -/
def Own (br : Nat) (a : RAd) (x : Nat) : Prop := x = br ∨ x = a.vm ∨ x = a.wm ∨ x = a.kn ∨ x = a.mt ∨ x = a.pp ∨ x = a.ac ∨ a.lg.ownBlock = some x ∨ a.ob.ownBlock = some x
structure RI (w : World) (br : Nat) (R : MR) (a : RAd) : Prop where
  mem : Hl w br (rcC R a) 152
  vm : MapG VIn w a.vm R.votes
  wm : MapG VIn w a.wm R.wvotes
  kn : MapG CIn w a.kn R.known
  mt : MapG VIn w a.mt R.met
  pp : MapG CIn w a.pp R.props
  ac : MapG NIn w a.ac R.acc
  lg : LgIn w a.lg R.log
  st : ShIn w a.sT a.sM a.sD a.sO a.sI R.st
  ob : w.ownsRow 0 139 5 a.ob R.out.length (flat R.out)
  sep : [a.vm, a.wm, a.kn, a.mt, a.pp, a.ac].Nodup
theorem LgIn.kz {w w' : World} {v : Value} {l : List MC} (h : LgIn w v l) (k : Kz w w') (hb : ∀ g, v.ownBlock = some g → w'.heap[g]? = w.heap[g]?) : LgIn w' v l := by
  obtain ⟨vs, h1, h2, h3⟩ := h
  exact ⟨vs, h1, owns_rely h2 hb, fun i c p hc hp => (h3 i c p hc hp).kz k⟩
theorem own_obj {w : World} {e : TypeId} {size n : Nat} {v : Value} {xs : List Value} (h : w.ownsRow 0 e size v n xs) {g : Nat} (hg : v.ownBlock = some g) : ∃ cur, w.heap[g]? = some (.cells cur e) := by
  rcases h.2 with ⟨rfl, _⟩ | ⟨g', cap, cur, rfl, _, hb, _⟩
  · cases hg
  · obtain rfl : g' = g := by simpa [Value.ownBlock] using hg
    exact ⟨cur, hb⟩
theorem LgIn.obj {w : World} {v : Value} {l : List MC} (h : LgIn w v l) {g : Nat} (hg : v.ownBlock = some g) : ∃ cur, w.heap[g]? = some (.cells cur 54) := by
  obtain ⟨vs, _, h2, _⟩ := h
  exact own_obj h2 hg
section
variable {w w' : World} {br : Nat} {R : MR} {a : RAd}
/-- What its own blocks hold is of no frozen type. -/
theorem RI.mut (h : RI w br R a) {x : Nat} (hx : Own br a x) : ∀ t ∈ fzT, ∀ c, w.heap[x]? ≠ some (.cells c t) := by
  intro t ht c he
  have mp : ∀ {m : Nat}, (∃ es k, w.heap[m]? = some (.map es k)) → x = m → False := by
    rintro m ⟨es, k, h1⟩ rfl
    rw [h1] at he; cases he
  rcases hx with hx | hx | hx | hx | hx | hx | hx | hx | hx
  · subst hx; rw [h.mem] at he; injection he with he; injection he with _ he; subst he; revert ht; decide
  · exact mp h.vm.obj hx
  · exact mp h.wm.obj hx
  · exact mp h.kn.obj hx
  · exact mp h.mt.obj hx
  · exact mp h.pp.obj hx
  · exact mp h.ac.obj hx
  · obtain ⟨cur, h1⟩ := h.lg.obj hx; rw [h1] at he; injection he with he; injection he with _ he; subst he; revert ht; decide
  · obtain ⟨cur, h1⟩ := own_obj h.ob hx; rw [h1] at he; injection he with he; injection he with _ he; subst he; revert ht; decide
theorem RI.lt (h : RI w br R a) {x : Nat} (hx : Own br a x) : x < w.heap.size := by
  rcases hx with rfl | rfl | rfl | rfl | rfl | rfl | rfl | hx | hx
  · exact lt_heap h.mem
  · exact h.vm.lt
  · exact h.wm.lt
  · exact h.kn.lt
  · exact h.mt.lt
  · exact h.pp.lt
  · exact h.ac.lt
  · obtain ⟨cur, h1⟩ := h.lg.obj hx; exact lt_heap h1
  · obtain ⟨cur, h1⟩ := own_obj h.ob hx; exact lt_heap h1
theorem RI.kz (h : RI w br R a) {x : Nat} (hx : Own br a x) (hg : GB (some x) w w') : Kz w w' := hg.kzs fun c t ht => h.mut hx t ht c
/-- All else is as it was. -/
theorem RI.keep (h : RI w br R a) (k : Kz w w') (hb : ∀ x, Own br a x → w'.heap[x]? = w.heap[x]?) : RI w' br R a :=
  ⟨(hb br (.inl rfl)).trans h.mem, h.vm.keep (fun _ _ h => h.kz k) (hb _ (.inr (.inl rfl))), h.wm.keep (fun _ _ h => h.kz k) (hb _ (.inr (.inr (.inl rfl)))), h.kn.keep (fun _ _ h => h.kz k) (hb _ (.inr (.inr (.inr (.inl rfl))))), h.mt.keep (fun _ _ h => h.kz k) (hb _ (.inr (.inr (.inr (.inr (.inl rfl)))))), h.pp.keep (fun _ _ h => h.kz k) (hb _ (.inr (.inr (.inr (.inr (.inr (.inl rfl))))))), h.ac.keep (w' := w') (fun v x (h : NIn w v x) => (show NIn w' v x from h)) (hb _ (.inr (.inr (.inr (.inr (.inr (.inr (.inl rfl)))))))), h.lg.kz k (fun g hg => hb g (.inr (.inr (.inr (.inr (.inr (.inr (.inr (.inl hg))))))))), h.st.kz k, owns_rely h.ob (fun g hg => hb g (.inr (.inr (.inr (.inr (.inr (.inr (.inr (.inr hg))))))))), h.sep⟩
theorem RI.gb0 (h : RI w br R a) (hg : GB none w w') : RI w' br R a := h.keep hg.kz fun x hx => hg.block x (h.lt hx) nofun
end
theorem ne_mc {w : World} {m x : Nat} (h1 : ∃ es c, w.heap[m]? = some (.map es c)) (h2 : ∃ cs t, w.heap[x]? = some (.cells cs t)) : m ≠ x := by
  rintro rfl
  obtain ⟨es, c, h1⟩ := h1
  obtain ⟨cs, t, h2⟩ := h2
  rw [h1] at h2; cases h2
section
variable {w w' : World} {br : Nat} {R : MR} {a : RAd}
theorem RI.cbr (h : RI w br R a) : ∃ cs t, w.heap[br]? = some (.cells cs t) := ⟨_, _, h.mem⟩
theorem RI.clg (h : RI w br R a) {g : Nat} (hg : a.lg.ownBlock = some g) : ∃ cs t, w.heap[g]? = some (.cells cs t) := by obtain ⟨c, h⟩ := h.lg.obj hg; exact ⟨_, _, h⟩
theorem RI.cob (h : RI w br R a) {g : Nat} (hg : a.ob.ownBlock = some g) : ∃ cs t, w.heap[g]? = some (.cells cs t) := by obtain ⟨c, h⟩ := own_obj h.ob hg; exact ⟨_, _, h⟩
theorem RI.lg_br (h : RI w br R a) {g : Nat} (hg : a.lg.ownBlock = some g) : g ≠ br := by
  rintro rfl
  obtain ⟨c, h1⟩ := h.lg.obj hg
  rw [h.mem] at h1; injection h1 with h1; injection h1 with _ h1; revert h1; decide
theorem RI.ob_br (h : RI w br R a) {g : Nat} (hg : a.ob.ownBlock = some g) : g ≠ br := by
  rintro rfl
  obtain ⟨c, h1⟩ := own_obj h.ob hg
  rw [h.mem] at h1; injection h1 with h1; injection h1 with _ h1; revert h1; decide
theorem RI.lg_ob (h : RI w br R a) {g g' : Nat} (hg : a.lg.ownBlock = some g) (hg' : a.ob.ownBlock = some g') : g ≠ g' := by
  rintro rfl
  obtain ⟨c, h1⟩ := h.lg.obj hg
  obtain ⟨c', h2⟩ := own_obj h.ob hg'
  rw [h1] at h2; injection h2 with h2; injection h2 with _ h2; revert h2; decide
theorem RI.o_br (_ : RI w br R a) : Own br a br := .inl rfl
theorem RI.o_vm (_ : RI w br R a) : Own br a a.vm := .inr (.inl rfl)
theorem RI.o_wm (_ : RI w br R a) : Own br a a.wm := .inr (.inr (.inl rfl))
theorem RI.o_kn (_ : RI w br R a) : Own br a a.kn := .inr (.inr (.inr (.inl rfl)))
theorem RI.o_mt (_ : RI w br R a) : Own br a a.mt := .inr (.inr (.inr (.inr (.inl rfl))))
theorem RI.o_pp (_ : RI w br R a) : Own br a a.pp := .inr (.inr (.inr (.inr (.inr (.inl rfl)))))
theorem RI.o_ac (_ : RI w br R a) : Own br a a.ac := .inr (.inr (.inr (.inr (.inr (.inr (.inl rfl))))))
theorem RI.o_lg (_ : RI w br R a) {g : Nat} (hg : a.lg.ownBlock = some g) : Own br a g := .inr (.inr (.inr (.inr (.inr (.inr (.inr (.inl hg)))))))
theorem RI.o_ob (_ : RI w br R a) {g : Nat} (hg : a.ob.ownBlock = some g) : Own br a g := .inr (.inr (.inr (.inr (.inr (.inr (.inr (.inr hg)))))))
theorem RI.far (h : RI w br R a) {x y : Nat} (hy : Own br a y) (g : GB (some x) w w') (hne : y ≠ x) : w'.heap[y]? = w.heap[y]? := g.block y (h.lt hy) fun e => hne (Option.some.inj e)
/-- The numbers laid anew. -/
theorem RI.cell (h : RI w br R a) {s' : Sc} (hm : Hl w' br (rcC { R with sc := s' } a) 152) (g : GB (some br) w w') : RI w' br { R with sc := s' } a := by
  have k := h.kz h.o_br g
  exact ⟨hm, h.vm.keep (fun _ _ h => h.kz k) (h.far h.o_vm g (ne_mc h.vm.obj h.cbr)), h.wm.keep (fun _ _ h => h.kz k) (h.far h.o_wm g (ne_mc h.wm.obj h.cbr)), h.kn.keep (fun _ _ h => h.kz k) (h.far h.o_kn g (ne_mc h.kn.obj h.cbr)), h.mt.keep (fun _ _ h => h.kz k) (h.far h.o_mt g (ne_mc h.mt.obj h.cbr)), h.pp.keep (fun _ _ h => h.kz k) (h.far h.o_pp g (ne_mc h.pp.obj h.cbr)), h.ac.keep (w' := w') (fun v x (h : NIn w v x) => (show NIn w' v x from h)) (h.far h.o_ac g (ne_mc h.ac.obj h.cbr)), h.lg.kz k (fun x hx => h.far (h.o_lg hx) g (h.lg_br hx)), h.st.kz k, owns_rely h.ob (fun x hx => h.far (h.o_ob hx) g (h.ob_br hx)), h.sep⟩
/-- A map laid anew: all that does not lie in it stays. -/
theorem RI.map (h : RI w br R a) {m : Nat} (hm : ∃ es c, w.heap[m]? = some (.map es c)) (ho : Own br a m) (g : GB (some m) w w') (R' : MR) (e1 : rcC R' a = rcC R a) (e2 : R'.log = R.log ∧ R'.st = R.st ∧ R'.out = R.out)
    (vm : (a.vm ≠ m ∧ R'.votes = R.votes) ∨ MapG VIn w' a.vm R'.votes) (wm : (a.wm ≠ m ∧ R'.wvotes = R.wvotes) ∨ MapG VIn w' a.wm R'.wvotes) (kn : (a.kn ≠ m ∧ R'.known = R.known) ∨ MapG CIn w' a.kn R'.known) (mt : (a.mt ≠ m ∧ R'.met = R.met) ∨ MapG VIn w' a.mt R'.met) (pp : (a.pp ≠ m ∧ R'.props = R.props) ∨ MapG CIn w' a.pp R'.props) (ac : (a.ac ≠ m ∧ R'.acc = R.acc) ∨ MapG NIn w' a.ac R'.acc) : RI w' br R' a := by
  have k := h.kz ho g
  refine ⟨?_, ?_, ?_, ?_, ?_, ?_, ?_, ?_, ?_, ?_, h.sep⟩
  · rw [e1]; exact (h.far h.o_br g (fun e => ne_mc hm h.cbr e.symm)).trans h.mem
  · exact vm.elim (fun e => by rw [e.2]; exact h.vm.keep (fun _ _ h => h.kz k) (h.far h.o_vm g e.1)) id
  · exact wm.elim (fun e => by rw [e.2]; exact h.wm.keep (fun _ _ h => h.kz k) (h.far h.o_wm g e.1)) id
  · exact kn.elim (fun e => by rw [e.2]; exact h.kn.keep (fun _ _ h => h.kz k) (h.far h.o_kn g e.1)) id
  · exact mt.elim (fun e => by rw [e.2]; exact h.mt.keep (fun _ _ h => h.kz k) (h.far h.o_mt g e.1)) id
  · exact pp.elim (fun e => by rw [e.2]; exact h.pp.keep (fun _ _ h => h.kz k) (h.far h.o_pp g e.1)) id
  · exact ac.elim (fun e => by rw [e.2]; exact h.ac.keep (w' := w') (fun v x (h : NIn w v x) => (show NIn w' v x from h)) (h.far h.o_ac g e.1)) id
  · rw [e2.1]; exact h.lg.kz k (fun x hx => h.far (h.o_lg hx) g (fun e => ne_mc hm (h.clg hx) e.symm))
  · rw [e2.2.1]; exact h.st.kz k
  · rw [e2.2.2]; exact owns_rely h.ob (fun x hx => h.far (h.o_ob hx) g (fun e => ne_mc hm (h.cob hx) e.symm))
theorem RI.vm' (h : RI w br R a) {f : Nat → Option MV} (g : GB (some a.vm) w w') (hm : MapG VIn w' a.vm f) : RI w' br { R with votes := f } a := by
  have := h.sep; simp at this
  exact h.map h.vm.obj h.o_vm g _ rfl ⟨rfl, rfl, rfl⟩ (.inr hm) (.inl ⟨by omega, rfl⟩) (.inl ⟨by omega, rfl⟩) (.inl ⟨by omega, rfl⟩) (.inl ⟨by omega, rfl⟩) (.inl ⟨by omega, rfl⟩)
theorem RI.wm' (h : RI w br R a) {f : Nat → Option MV} (g : GB (some a.wm) w w') (hm : MapG VIn w' a.wm f) : RI w' br { R with wvotes := f } a := by
  have := h.sep; simp at this
  exact h.map h.wm.obj h.o_wm g _ rfl ⟨rfl, rfl, rfl⟩ (.inl ⟨by omega, rfl⟩) (.inr hm) (.inl ⟨by omega, rfl⟩) (.inl ⟨by omega, rfl⟩) (.inl ⟨by omega, rfl⟩) (.inl ⟨by omega, rfl⟩)
theorem RI.kn' (h : RI w br R a) {f : Nat → Option MC} (g : GB (some a.kn) w w') (hm : MapG CIn w' a.kn f) : RI w' br { R with known := f } a := by
  have := h.sep; simp at this
  exact h.map h.kn.obj h.o_kn g _ rfl ⟨rfl, rfl, rfl⟩ (.inl ⟨by omega, rfl⟩) (.inl ⟨by omega, rfl⟩) (.inr hm) (.inl ⟨by omega, rfl⟩) (.inl ⟨by omega, rfl⟩) (.inl ⟨by omega, rfl⟩)
theorem RI.mt' (h : RI w br R a) {f : Nat → Option MV} (g : GB (some a.mt) w w') (hm : MapG VIn w' a.mt f) : RI w' br { R with met := f } a := by
  have := h.sep; simp at this
  exact h.map h.mt.obj h.o_mt g _ rfl ⟨rfl, rfl, rfl⟩ (.inl ⟨by omega, rfl⟩) (.inl ⟨by omega, rfl⟩) (.inl ⟨by omega, rfl⟩) (.inr hm) (.inl ⟨by omega, rfl⟩) (.inl ⟨by omega, rfl⟩)
theorem RI.pp' (h : RI w br R a) {f : Nat → Option MC} (g : GB (some a.pp) w w') (hm : MapG CIn w' a.pp f) : RI w' br { R with props := f } a := by
  have := h.sep; simp at this
  exact h.map h.pp.obj h.o_pp g _ rfl ⟨rfl, rfl, rfl⟩ (.inl ⟨by omega, rfl⟩) (.inl ⟨by omega, rfl⟩) (.inl ⟨by omega, rfl⟩) (.inl ⟨by omega, rfl⟩) (.inr hm) (.inl ⟨by omega, rfl⟩)
theorem RI.ac' (h : RI w br R a) {f : Nat → Option Nat} (g : GB (some a.ac) w w') (hm : MapG NIn w' a.ac f) : RI w' br { R with acc := f } a := by
  have := h.sep; simp at this
  exact h.map h.ac.obj h.o_ac g _ rfl ⟨rfl, rfl, rfl⟩ (.inl ⟨by omega, rfl⟩) (.inl ⟨by omega, rfl⟩) (.inl ⟨by omega, rfl⟩) (.inl ⟨by omega, rfl⟩) (.inl ⟨by omega, rfl⟩) (.inr hm)
end
end
end Go.Proofs.YtignemioillaiaaGreat
