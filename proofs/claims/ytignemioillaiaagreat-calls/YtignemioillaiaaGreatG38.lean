/- A shard, plain: what its commands do. -/
import Derived.Test.YtignemioillaiaaGreatG37
namespace Go.Proofs.YtignemioillaiaaGreat
set_option maxHeartbeats 8000000
set_option maxRecDepth 100000
section
open Go Go.Conc
/-- What cmp.Compare says. -/
def cmpI (a b : Int) : Int := if a < b then -1 else if b < a then 1 else 0
/-- .. of two replies. -/
def orI (a b : Int) : Int := if a = 0 then b else a
def cmpP (a b : Rep) : Int := orI (cmpI a.key b.key) (cmpI a.c b.c)
/-- How many elements of a list stand ahead of what is looked for. -/
def posB {α : Type} (f : α → Int) (l : List α) : Nat := l.countP (fun x => decide (f x < 0))
def hitB {α : Type} (f : α → Int) (l : List α) : Bool := match l[posB f l]? with | some x => f x == 0 | none => false
theorem cmpI_lt {a b : Int} : cmpI a b < 0 ↔ a < b := by
  unfold cmpI; split
  · simp; omega
  · split <;> omega
theorem cmpI_eq {a b : Int} : cmpI a b = 0 ↔ a = b := by
  unfold cmpI; split
  · simp; omega
  · split <;> omega
theorem cmpP_lt {a b : Rep} : cmpP a b < 0 ↔ a.key < b.key ∨ a.key = b.key ∧ a.c < b.c := by
  unfold cmpP orI
  split
  · rename_i h
    rw [cmpI_eq] at h
    rw [cmpI_lt]; omega
  · rename_i h
    rw [cmpI_eq] at h
    rw [cmpI_lt]; omega
theorem cmpP_eq {a b : Rep} : cmpP a b = 0 ↔ a.key = b.key ∧ a.c = b.c := by
  unfold cmpP orI
  split
  · rename_i h
    rw [cmpI_eq] at h
    rw [cmpI_eq]; omega
  · rename_i h
    rw [cmpI_eq] at h
    rw [cmpI_eq]; omega
/-- A list in order: whatever f looks for, what stands ahead of it stands ahead. -/
def Mono {α : Type} (f : α → Int) (l : List α) : Prop := ∀ (i j : Nat) (x y : α), i ≤ j → l[i]? = some x → l[j]? = some y → f y < 0 → f x < 0
def SortT (T : List Row) : Prop := T.Pairwise (fun a b => a.key < b.key)
def SortD (D : List Rep) : Prop := D.Pairwise (fun a b => a.key < b.key ∨ a.key = b.key ∧ a.c < b.c)
theorem pair_at {α : Type} {R : α → α → Prop} {l : List α} (h : l.Pairwise R) {i j : Nat} {x y : α} (hij : i < j) (hx : l[i]? = some x) (hy : l[j]? = some y) : R x y := by
  obtain ⟨hi, rfl⟩ := List.getElem?_eq_some_iff.1 hx
  obtain ⟨hj, rfl⟩ := List.getElem?_eq_some_iff.1 hy
  exact List.pairwise_iff_getElem.1 h i j hi hj hij
theorem monoT {T : List Row} (h : SortT T) (key : Int) : Mono (fun x : Row => cmpI x.key key) T := by
  intro i j x y hij hx hy hl
  rcases Nat.lt_or_eq_of_le hij with h1 | rfl
  · have := pair_at h h1 hx hy
    rw [cmpI_lt] at hl ⊢; omega
  · rw [hx] at hy; cases hy; exact hl
theorem monoD {D : List Rep} (h : SortD D) (q : Rep) : Mono (fun x : Rep => cmpP x q) D := by
  intro i j x y hij hx hy hl
  rcases Nat.lt_or_eq_of_le hij with h1 | rfl
  · have := pair_at h h1 hx hy
    rw [cmpP_lt] at hl ⊢; omega
  · rw [hx] at hy; cases hy; exact hl
/-- The place that the search finds parts the list. -/
theorem posB_le {α : Type} (f : α → Int) (l : List α) : posB f l ≤ l.length := List.countP_le_length
theorem posB_part {α : Type} (f : α → Int) : ∀ (l : List α), Mono f l → (∀ (t : Nat) (x : α), t < posB f l → l[t]? = some x → f x < 0) ∧ (∀ (t : Nat) (x : α), posB f l ≤ t → l[t]? = some x → 0 ≤ f x)
  | [], _ => ⟨fun t x _ h => by simp at h, fun t x _ h => by simp at h⟩
  | a :: r, h => by
    have hr : Mono f r := fun i j x y hij hx hy => h (i + 1) (j + 1) x y (by omega) (by simpa using hx) (by simpa using hy)
    obtain ⟨h1, h2⟩ := posB_part f r hr
    by_cases ha : f a < 0
    · have hp : posB f (a :: r) = posB f r + 1 := by unfold posB; rw [List.countP_cons_of_pos (by simp [ha])]
      rw [hp]
      refine ⟨fun t x ht hx => ?_, fun t x ht hx => ?_⟩
      · cases t with
        | zero => simp at hx; subst hx; exact ha
        | succ t => exact h1 t x (by omega) (by simpa using hx)
      · cases t with
        | zero => omega
        | succ t => exact h2 t x (by omega) (by simpa using hx)
    · have hz : posB f r = 0 := by
        unfold posB; rw [List.countP_eq_zero]
        intro x hx
        obtain ⟨t, ht, rfl⟩ := List.getElem_of_mem hx
        intro hc
        exact ha (h 0 (t + 1) a r[t] (Nat.zero_le _) rfl (by simp [ht]) (by simpa using hc))
      have hp : posB f (a :: r) = 0 := by
        unfold posB at hz ⊢; rw [List.countP_cons_of_neg (by simp [ha]), hz]
      rw [hp]
      refine ⟨fun t x ht _ => by omega, fun t x ht hx => ?_⟩
      cases t with
      | zero => simp at hx; subst hx; exact Int.not_lt.1 ha
      | succ t => exact h2 t x (by omega) (by simpa using hx)
/-- An element put in at its place. -/
def insL {α : Type} (l : List α) (i : Nat) (x : α) : List α := l.take i ++ (x :: l.drop i)
abbrev atT (T : List Row) (key : Int) : Nat := posB (fun x : Row => cmpI x.key key) T
abbrev hasT (T : List Row) (key : Int) : Bool := hitB (fun x : Row => cmpI x.key key) T
abbrev atD (D : List Rep) (q : Rep) : Nat := posB (fun x : Rep => cmpP x q) D
abbrev hasD (D : List Rep) (q : Rep) : Bool := hitB (fun x : Rep => cmpP x q) D
/-- What a key has. -/
def valT (T : List Row) (key : Int) : Int := if hasT T key then ((T[atT T key]?).map Row.val).getD 0 else 0
def setK (T : List Row) (key : Int) : Int := if hasT T key then 2 else if 8 ≤ T.length then 5 else 2
def setT (T : List Row) (key v : Int) : List Row := if hasT T key then T.set (atT T key) ⟨key, v⟩ else if 8 ≤ T.length then T else insL T (atT T key) ⟨key, v⟩
def delT (T : List Row) (key : Int) : List Row := if hasT T key then T.eraseIdx (atT T key) else T
def remD (D : List Rep) (q : Rep) : List Rep := if hasD D q then D.set (atD D q) q else insL D (atD D q) q
/-- A piece that begins behind lo and not behind hi. -/
def inP (lo hi : Int) (p : Pc) : Bool := decide (lo < p.f) && decide (p.f ≤ hi)
def strG (m : List Pc) (g lo hi : Int) : Int := if own 0 m lo ≠ g then own 0 m lo else ((m.find? (inP lo hi)).map Pc.g).getD 0
def strB (m : List Pc) (g lo hi : Int) : Bool := if own 0 m lo ≠ g then true else (m.find? (inP lo hi)).isSome
def sB {α : Type} (f : α → Int) (lo : Int) (l : List α) : List α := l.filter fun x => decide (f x < lo)
def sA {α : Type} (f : α → Int) (lo hi : Int) (l : List α) : List α := l.filter fun x => !decide (f x < lo) && decide (hi < f x)
def sW {α : Type} (f : α → Int) (lo hi : Int) (l : List α) : List α := l.filter fun x => !decide (f x < lo) && !decide (hi < f x)
/-- The shard behind a Delegate that is done. -/
def dlgT (T : List Row) (lo hi : Int) : List Row := sB (fun x : Row => x.key) lo T ++ sA (fun x : Row => x.key) lo hi T
def dlgD (D : List Rep) (lo hi : Int) : List Rep := sB (fun x : Rep => x.key) lo D ++ sA (fun x : Rep => x.key) lo hi D
def dlgR (g j next lo hi : Int) (T : List Row) (D : List Rep) : Rg := ⟨g, j, next, lo, hi, sW (fun x : Row => x.key) lo hi T, sW (fun x : Rep => x.key) lo hi D⟩
def lanAt (O : List (Int × List Rg)) (k : Int) : Int × List Rg := (O[k.toNat]?).getD (0, [])
/-- Is there room for a Delegate? -/
def fitsB (s : St) (q : Req) : Bool := !(q.to == s.g) && decide (q.to < s.n) && decide ((lanAt s.O q.to).2.length < 4) && decide ((giveL s.M q.key q.hi q.to).length ≤ 8)
def rep0 (q : Req) : Rep := ⟨q.c, q.s, q.key, 0, false, 0, 0⟩
def doP (s : St) (q : Req) : Rep :=
  if q.k = 1 then ⟨q.c, q.s, q.key, 1, hasT s.T q.key, valT s.T q.key, 0⟩
  else if q.k = 2 then ⟨q.c, q.s, q.key, setK s.T q.key, false, 0, 0⟩
  else if q.k = 3 then ⟨q.c, q.s, q.key, 2, false, 0, 0⟩
  else if fitsB s q then ⟨q.c, q.s, q.key, 2, false, 0, 0⟩ else ⟨q.c, q.s, q.key, 5, false, 0, 0⟩
def dlgS (s : St) (q : Req) (D1 : List Rep) : St := { s with T := dlgT s.T q.key q.hi, M := giveL s.M q.key q.hi q.to, D := dlgD D1 q.key q.hi, O := s.O.set q.to.toNat (IntKind.u32.wrap ((lanAt s.O q.to).1 + 1), (lanAt s.O q.to).2 ++ [dlgR s.g q.to (lanAt s.O q.to).1 q.key q.hi s.T D1]) }
def doS (s : St) (q : Req) : St :=
  if q.k = 2 then { s with T := setT s.T q.key q.v, D := remD s.D (doP s q) }
  else if q.k = 3 then { s with T := delT s.T q.key, D := remD s.D (doP s q) }
  else if q.k = 4 ∧ fitsB s q = true then dlgS s q (remD s.D (doP s q))
  else { s with D := remD s.D (doP s q) }
/-- Is it the range that the group waits for? -/
def nextB (g n : Int) (I : List Int) (r : Rg) : Bool := r.dst == g && !(r.src == g) && decide (r.src < n) && r.seq == IntKind.u32.wrap (((I[r.src.toNat]?).getD 0) + 1)
/-- What a range does to a shard. -/
def recS (s : St) (r : Rg) : St :=
  if okR r = true ∧ nextB s.g s.n s.I r = true ∧ (giveL s.M r.lo r.hi s.g).length ≤ 1000 then
    { s with T := sB (fun x : Row => x.key) r.lo s.T ++ (r.rows ++ sA (fun x : Row => x.key) r.lo r.hi s.T), M := giveL s.M r.lo r.hi s.g, D := sB (fun x : Rep => x.key) r.lo s.D ++ (r.dups ++ sA (fun x : Rep => x.key) r.lo r.hi s.D), I := s.I.set r.src.toNat r.seq }
  else s
def keepR (sq : Int) (q : List Rg) : List Rg := q.filter fun r => !decide (r.seq ≤ sq)
/-- What a Settle does. -/
def setS (s : St) (peer sq : Int) : St := if peer < s.n then { s with O := s.O.set peer.toNat ((lanAt s.O peer).1, keepR sq (lanAt s.O peer).2) } else s
def mxK (q : Req) : Int := if q.key < q.hi then q.hi else q.key
/-- What a request does, and its reply. -/
def askS (s : St) (q : Req) : St × Rep :=
  if okQ q = false then (s, zRp)
  else if strB s.M s.g q.key (mxK q) = true then (s, ⟨q.c, q.s, q.key, 3, false, 0, strG s.M s.g q.key (mxK q)⟩)
  else if hasD s.D (rep0 q) = true then
    match s.D[atD s.D (rep0 q)]? with
    | some x => if x.s < q.s then (doS s q, doP s q) else if x.s = q.s then (s, x) else (s, ⟨q.c, q.s, q.key, 4, false, 0, 0⟩)
    | none => (s, zRp)
  else (doS s q, doP s q)
/-- What a command does to a shard. -/
def appS (s : St) (c : MC) : St × Rep :=
  if c.kind = 1 then askS s c.q else if c.kind = 2 then (recS s c.r, zRp) else if c.kind = 3 then (setS s c.peer c.seq, zRp) else (s, zRp)
def bgS (g n : Nat) : St := ⟨g, n, [], [⟨0, 0⟩], [], List.replicate n (1, []), List.replicate n 0⟩
theorem Wk.snap {w w' : World} {br : Nat} {R : MR} (h : Wk (snapW w) br R w') : ∃ a, RI w' br R a ∧ (∀ x, Own br a x → w.heap.size ≤ x) ∧ GB none w w' := by
  obtain ⟨a, h⟩ := h
  have kp : ∀ x, x < w.heap.size → w'.heap[x]? = w.heap[x]? ∧ ¬ Own br a x := fun x hx => by
    obtain ⟨o, ho⟩ : ∃ o, w.heap[x]? = some o := ⟨w.heap[x], by simp [hx]⟩
    obtain ⟨h1, h2⟩ := h.pr x o ho
    exact ⟨h1.trans ho.symm, h2⟩
  refine ⟨a, h.ri, fun x hx => ?_, h.os, h.out, ?_, fun x hx _ => (kp x hx).1⟩
  · by_cases hl : x < w.heap.size
    · exact ((kp x hl).2 hx).elim
    · omega
  · by_cases h0 : w.heap.size = 0
    · omega
    · have h1 := (kp (w.heap.size - 1) (by omega)).1
      obtain ⟨o, ho⟩ : ∃ o, w.heap[w.heap.size - 1]? = some o := ⟨w.heap[w.heap.size - 1]'(by omega), by simp [show w.heap.size - 1 < w.heap.size by omega]⟩
      rw [ho] at h1
      have := lt_heap h1
      omega
theorem own_el {w : World} {e : TypeId} {size n : Nat} {v : Value} {xs : List Value} (h : w.ownsRow 0 e size v n xs) (_hn : 0 < n) : ∃ g cap cur, v = .slice (some ⟨g, 0, none⟩) n cap ∧ w.heap[g]? = some (.cells cur e) ∧ cur.toList.take (n * size) = xs ∧ n * size ≤ cur.size ∧ n ≤ cap := by
  rcases h.2 with ⟨_, h1⟩ | ⟨g, cap, cur, h1, h0, h2, h3, h4, h5, h6⟩
  · omega
  · refine ⟨g, cap, cur, h1, h2, h6, ?_, h3⟩
    have := h.1
    have h7 := congrArg List.length h6
    rw [List.length_take, Array.length_toList] at h7
    omega
/-- Which replicas are made. -/
def Made (sz g j g' i' : Nat) : Prop := (g' < g ∧ i' < sz) ∨ (g' = g ∧ i' < j)
structure NV (A : Apl) (w wk : World) (n sz g j : Nat) (B : Nat → Nat → Nat) (ad : Nat → Nat → RAd) : Prop where
  rep : ∀ g' i', Made sz g j g' i' → RI wk (B g' i') (mNew A g' i' n sz) (ad g' i')
  new : ∀ g' i' x, Made sz g j g' i' → Own (B g' i') (ad g' i') x → w.heap.size ≤ x
  sep : ∀ g1 i1 g2 i2 x, Made sz g j g1 i1 → Made sz g j g2 i2 → Own (B g1 i1) (ad g1 i1) x → Own (B g2 i2) (ad g2 i2) x → g1 = g2 ∧ i1 = i2
/-- The list of a group's pointers. -/
def ptrs (B : Nat → Nat → Nat) (g j : Nat) : List Value := (List.range j).map fun i => .pointer (some ⟨B g i, 0, none⟩)
def GPl (wk : World) (sz g : Nat) (B : Nat → Nat → Nat) (gl : List Value) : Prop := gl.length = g ∧ ∀ g', g' < g → ∃ bs ct cur, gl[g']? = some (.slice (some ⟨bs, 0, none⟩) sz ct) ∧ sz ≤ ct ∧ wk.heap[bs]? = some (.cells cur 133) ∧ ∀ i, i < sz → cur.toList[i]? = some (.pointer (some ⟨B g' i, 0, none⟩))
section
variable {A : Apl} {w wk wk' : World} {n sz g j : Nat} {B : Nat → Nat → Nat} {ad : Nat → Nat → RAd}
theorem NV.keep (h : NV A w wk n sz g j B ad) (k : Kz wk wk') (hb : ∀ g' i' x, Made sz g j g' i' → Own (B g' i') (ad g' i') x → wk'.heap[x]? = wk.heap[x]?) : NV A w wk' n sz g j B ad := ⟨fun g' i' hm => (h.rep g' i' hm).keep k fun x hx => hb g' i' x hm hx, h.new, h.sep⟩
theorem NV.gb0 (h : NV A w wk n sz g j B ad) (k : GB none wk wk') : NV A w wk' n sz g j B ad := h.keep k.kz fun g' i' x hm hx => k.block x ((h.rep g' i' hm).lt hx) nofun
/-- A block of pointers, or the cluster's own, is written. -/
theorem NV.gbx (h : NV A w wk n sz g j B ad) {r : Option Nat} (k : GB r wk wk') {t : TypeId} (ht : t ∉ fzT) (hm : t ≠ 152 ∧ t ≠ 54 ∧ t ≠ 139) (hr : ∀ x, r = some x → ∃ c, wk.heap[x]? = some (.cells c t)) : NV A w wk' n sz g j B ad := by
  refine h.keep (fun t' ht' b c hb => k.get hb fun e => ?_) fun g' i' x hM hx => k.block x ((h.rep g' i' hM).lt hx) fun e => ?_
  · obtain ⟨c', hc⟩ := hr b e.symm
    rw [hb] at hc; injection hc with hc; injection hc with _ hc; subst hc; exact ht ht'
  · obtain ⟨c', hc⟩ := hr x e.symm
    rcases (h.rep g' i' hM).own_mu hx hc with q | q | q
    · exact hm.1 q
    · exact hm.2.1 q
    · exact hm.2.2 q
/-- One replica more. -/
theorem NV.more (h : NV A w wk n sz g j B ad) (hj : j < sz) (gw : GB none w wk) {br : Nat} (hW : Wk (snapW wk) br (mNew A g j n sz) wk') : ∃ ad', NV A w wk' n sz g (j + 1) (upd2 B g j br) ad' ∧ GB none wk wk' := by
  obtain ⟨a, hR, hn, k⟩ := hW.snap
  have h1 := h.gb0 k
  have ne : ∀ {g' i'}, Made sz g j g' i' → ¬ (g' = g ∧ i' = j) := fun hm e => by unfold Made at hm; omega
  have cs : ∀ {g' i'}, Made sz g (j + 1) g' i' → Made sz g j g' i' ∨ (g' = g ∧ i' = j) := fun {g' i'} hm => by unfold Made at hm ⊢; omega
  refine ⟨upd2 ad g j a, ⟨fun g' i' hm => ?_, fun g' i' x hm hx => ?_, fun g1 i1 g2 i2 x m1 m2 o1 o2 => ?_⟩, k⟩
  · rcases cs hm with q | ⟨rfl, rfl⟩
    · rw [upd2_other _ _ (ne q), upd2_other _ _ (ne q)]; exact h1.rep g' i' q
    · rw [upd2_same, upd2_same]; exact hR
  · rcases cs hm with q | ⟨rfl, rfl⟩
    · rw [upd2_other _ _ (ne q), upd2_other _ _ (ne q)] at hx; exact h.new g' i' x q hx
    · rw [upd2_same, upd2_same] at hx; have := hn x hx; have := gw.size; omega
  · rcases cs m1 with q1 | ⟨rfl, rfl⟩ <;> rcases cs m2 with q2 | ⟨e2, e2'⟩
    · rw [upd2_other _ _ (ne q1), upd2_other _ _ (ne q1)] at o1
      rw [upd2_other _ _ (ne q2), upd2_other _ _ (ne q2)] at o2
      exact h.sep _ _ _ _ x q1 q2 o1 o2
    · subst e2; subst e2'
      rw [upd2_other _ _ (ne q1), upd2_other _ _ (ne q1)] at o1
      rw [upd2_same, upd2_same] at o2
      have := hn x o2; have := (h.rep _ _ q1).lt o1; omega
    · rw [upd2_same, upd2_same] at o1
      rw [upd2_other _ _ (ne q2), upd2_other _ _ (ne q2)] at o2
      have := hn x o1; have := (h.rep _ _ q2).lt o2; omega
    · exact ⟨e2.symm, e2'.symm⟩
theorem NV.next (h : NV A w wk n sz g sz B ad) : NV A w wk n sz (g + 1) 0 B ad := by
  have e : ∀ {g' i'}, Made sz (g + 1) 0 g' i' → Made sz g sz g' i' := fun hm => by unfold Made at hm ⊢; omega
  exact ⟨fun g' i' hm => h.rep g' i' (e hm), fun g' i' x hm => h.new g' i' x (e hm), fun g1 i1 g2 i2 x m1 m2 => h.sep g1 i1 g2 i2 x (e m1) (e m2)⟩
theorem ptrs_upd {br : Nat} : ptrs (upd2 B g j br) g (j + 1) = ptrs B g j ++ [.pointer (some ⟨br, 0, none⟩)] := by
  unfold ptrs
  rw [List.range_succ, List.map_append]
  congr 1
  · refine List.map_congr_left fun i hi => ?_
    have := List.mem_range.1 hi
    rw [upd2_other _ _ (fun e => by omega)]
  · simp [upd2_same]
theorem GPl.upd {gl : List Value} {br : Nat} (h : GPl wk sz g B gl) : GPl wk sz g (upd2 B g j br) gl := ⟨h.1, fun g' hg' => by
  obtain ⟨bs, ct, cur, h1, h2, h3, h4⟩ := h.2 g' hg'
  exact ⟨bs, ct, cur, h1, h2, h3, fun i hi => by rw [upd2_other _ _ (fun e => by omega)]; exact h4 i hi⟩⟩
theorem GPl.gb0 {gl : List Value} (h : GPl wk sz g B gl) (k : GB none wk wk') : GPl wk' sz g B gl := ⟨h.1, fun g' hg' => by
  obtain ⟨bs, ct, cur, h1, h2, h3, h4⟩ := h.2 g' hg'
  exact ⟨bs, ct, cur, h1, h2, k.get h3 nofun, h4⟩⟩
theorem GPl.gbx {gl : List Value} (h : GPl wk sz g B gl) {r : Option Nat} (k : GB r wk wk') {t : TypeId} (ht : t ≠ 133) (hr : ∀ x, r = some x → ∃ c, wk.heap[x]? = some (.cells c t)) : GPl wk' sz g B gl := ⟨h.1, fun g' hg' => by
  obtain ⟨bs, ct, cur, h1, h2, h3, h4⟩ := h.2 g' hg'
  exact ⟨bs, ct, cur, h1, h2, k.get h3 fun e => by
    obtain ⟨c, hc⟩ := hr bs e.symm
    rw [h3] at hc; injection hc with hc; injection hc with _ hc; exact ht hc.symm, h4⟩⟩
end
section
variable {A : Apl} (HA : AplOK A)
include HA
theorem new_K (w : World) (n f : Nat) (hn : 1 ≤ n ∧ n ≤ 4) (hf : f ≤ 2) : CY 18 #[.int .i64 n, .int .i64 f] w (fun v w' => ∃ bc, v = .tuple #[.pointer (some ⟨bc, 0, none⟩), .int .i64 0] ∧ w.heap.size ≤ bc ∧ ClK (snapW w) bc (Clu.new A n (2 * f + 1)) w' ∧ Kz w w') := by
  have q1 : decide ((n : Int) < 1) = false := by simp; omega
  have q2 : decide ((n : Int) > 4) = false := by simp; omega
  have q4 : decide ((f : Int) > 2) = false := by simp; omega
  refine callE Tryz.func18 rfl rfl ?_
  refine spl (fun c => ?_) (fun c => (by rw [q1] at c; cases c))
  refine spl (fun c => ?_) (fun c => (by rw [q2] at c; cases c))
  refine spl (fun c => (by rw [q4] at c; cases c)) (fun c => ?_)
  refine fun w1 bc m1 g1 l1 => ?_
  refine ⟨fun m s wk => ∃ (g : Nat) (gv : Value) (gl : List Value) (B : Nat → Nat → Nat) (ad : Nat → Nat → RAd), m = n - g ∧ g ≤ n ∧ s = [(0, .int .i64 n), (1, .int .i64 f), (6, .pointer (some ⟨bc, 0, none⟩)), (27, .int .i64 n), (28, .int .i64 g)] ∧ wk.heap[bc]? = some (.cells #[gv, .slice none 0 0] 131) ∧ wk.ownsRow 0 132 1 gv g gl ∧ (∀ x, gv.ownBlock = some x → w.heap.size ≤ x) ∧ GPl wk (2 * f + 1) g B gl ∧ NV A w wk n (2 * f + 1) g 0 B ad ∧ GB none w wk, ⟨_, _, ⟨0, .slice none 0 0, [], fun _ _ => 0, fun _ _ => ⟨0, 0, 0, 0, 0, 0, .slice none 0 0, .slice none 0 0, .slice none 0 0, .slice none 0 0, .slice none 0 0, .slice none 0 0, .slice none 0 0⟩, rfl, Nat.zero_le _, rfl, m1, own0 _ _ _, nofun, ⟨rfl, fun g' hg' => (by omega)⟩, ⟨fun g' i' hm => (by unfold Made at hm; omega), fun g' i' x hm => (by unfold Made at hm; omega), fun g' i' _ _ x hm => (by unfold Made at hm; omega)⟩, g1⟩, sb rfl⟩, ?_⟩
  rintro m s wg ⟨g, gv, gl, B, ad, rfl, hg, rfl, hc, hgo, hgn, hgp, hnv, hgb⟩
  refine spl (fun c => ?_) (fun c => ?_)
  · have c1 : g < n := by simp at c; omega
    refine ⟨by omega, by omega, ?_⟩
    refine ⟨fun m s wk => ∃ (j : Nat) (av : Value) (B : Nat → Nat → Nat) (ad : Nat → Nat → RAd), m = 2 * f + 1 - j ∧ j ≤ 2 * f + 1 ∧ s = [(0, .int .i64 n), (1, .int .i64 f), (6, .pointer (some ⟨bc, 0, none⟩)), (7, .int .i64 g), (8, av), (27, .int .i64 n), (28, .int .i64 g), (33, .int .i64 (2 * (f : Int) + 1)), (34, .int .i64 j)] ∧ wk.ownsRow 0 133 1 av j (ptrs B g j) ∧ (∀ x, av.ownBlock = some x → wg.heap.size ≤ x) ∧ GPl wk (2 * f + 1) g B gl ∧ NV A w wk n (2 * f + 1) g j B ad ∧ GB none wg wk, ⟨_, _, ⟨0, .slice none 0 0, B, ad, rfl, Nat.zero_le _, rfl, own0 _ _ _, nofun, hgp, hnv, GB.refl _ _⟩, sb rfl⟩, ?_⟩
    have hgp0 := hgp
    clear hnv hgp
    rintro m s wk ⟨j, av, B, ad, rfl, hj, rfl, hao, han, hgp, hnv, hgk⟩
    refine spl (fun c => ?_) (fun c => ?_)
    · have c2 : j < 2 * f + 1 := by simp at c; omega
      refine .inl ⟨by omega, .inl ⟨by omega, fun w2 b2 m2 g2 l2 => ⟨_, _, _, m2, rfl, rfl, fun w3 m3 g3 => ?_⟩⟩⟩
      have g13 : GB none wk w3 := g2.new g3 l2
      refine ⟨_, _, m3, [.int .u8 g, .int .u8 j], rfl, rfl, by omega, by omega, _, new_ok HA g j n (2 * f + 1) c1 hn.2, ?_⟩
      rintro _ w4 ⟨br, rfl, hb, hW, k4⟩
      have hnv3 := hnv.gb0 g13
      obtain ⟨ad', hnv4, g34⟩ := hnv3.more c2 ((hgb.trans hgk).trans g13) hW
      have gk4 : GB none wk w4 := g13.trans g34
      refine fun w5 b5 m5 g5 l5 => ?_
      have gk5 : GB none wk w5 := gk4.trans g5
      obtain ⟨aa, ac, rfl⟩ := own_slice hao
      have hao5 := owns_rely hao (w1 := w5) fun x hx => by obtain ⟨cur, hc⟩ := own_obj hao hx; exact gk5.block x (lt_heap hc) nofun
      refine ⟨_, [.pointer (some ⟨br, 0, none⟩)], hao5, ⟨_, _, m5, rfl, rfl, rfl⟩, by omega, fun v' w6 ho6 g6 n6 => ?_⟩
      refine ⟨by omega, _, _, ⟨j + 1, v', upd2 B g j br, ad', rfl, by omega, rfl, by rw [ptrs_upd]; exact ho6, fun x hx => (n6 x hx).elim (han x) fun hl => ?_, ?_, ?_, GB.ownB (hgk.trans gk5) g6 han⟩, (sb rfl), by omega⟩
      · have := (hgk.trans gk5).size; omega
      · refine ⟨hgp.1, fun g' hg' => ?_⟩
        obtain ⟨bs, ct, cur, h1, h2, h3, h4⟩ := (hgp.gb0 gk5).upd.2 g' hg'
        refine ⟨bs, ct, cur, h1, h2, g6.get h3 fun e => ?_, h4⟩
        have e1 := han bs e.symm
        obtain ⟨bs', ct', cur', p1, p2, p3, p4⟩ := hgp0.2 g' hg'
        rw [h1] at p1
        injection p1 with p1
        injection p1 with p1
        injection p1 with p1
        injection p1 with p1
        have := lt_heap p3
        omega
      · exact (hnv4.gb0 g5).gbx g6 (t := 133) (by decide) ⟨by decide, by decide, by decide⟩ fun x hx => own_obj hao5 hx
    · have c2 : j = 2 * f + 1 := by simp at c; omega
      subst c2
      obtain ⟨ga, gc, rfl⟩ := own_slice hgo
      have hck := hgk.get hc nofun
      have hgo' := owns_rely hgo (w1 := wk) fun x hx => by obtain ⟨cur, hc⟩ := own_obj hgo hx; exact hgk.block x (lt_heap hc) nofun
      obtain ⟨bs, cap, cur, rfl, hcur, htk, hsz, hcap⟩ := own_el hao (by omega)
      refine ⟨_, _, hck, _, rfl, fun w2 b2 m2 g2 l2 => ?_⟩
      have hgo2 := owns_rely hgo' (w1 := w2) fun x hx => by obtain ⟨cur, hc⟩ := own_obj hgo' hx; exact g2.block x (lt_heap hc) nofun
      refine ⟨_, [.slice (some ⟨bs, 0, none⟩) (2 * f + 1) cap], hgo2, ⟨_, _, m2, rfl, rfl, rfl⟩, by omega, fun gv' w3 ho3 g3 n3 => ?_⟩
      have hc3 : w3.heap[bc]? = _ := g3.get (g2.get hck nofun) fun e => by
        obtain ⟨c, hc'⟩ := own_obj hgo2 e.symm
        rw [g2.get hck nofun] at hc'; injection hc' with hc'; injection hc' with _ hc'; revert hc'; decide
      obtain ⟨na, nc, rfl⟩ := own_slice ho3
      refine ⟨_, _, _, hc3, rfl, rfl, fun w4 m4 g4 => ?_⟩
      have lbc : w.heap.size ≤ bc := l1
      have G2 : GB none w w2 := (hgb.trans hgk).trans g2
      have G3 : GB none w w3 := GB.ownB G2 g3 hgn
      have G4 : GB none w w4 := G3.new g4 lbc
      have hgp2 := hgp.gb0 g2
      have hgp3 := hgp2.gbx g3 (t := 132) (by decide) fun x hx => own_obj hgo2 hx
      have hgp4 := hgp3.gbx g4 (t := 131) (by decide) fun x hx => ⟨_, by cases hx; exact hc3⟩
      have hnv3 := (hnv.gb0 g2).gbx g3 (t := 132) (by decide) ⟨by decide, by decide, by decide⟩ fun x hx => own_obj hgo2 hx
      have hnv4 := hnv3.gbx g4 (t := 131) (by decide) ⟨by decide, by decide, by decide⟩ fun x hx => ⟨_, by cases hx; exact hc3⟩
      have hbs4 : w4.heap[bs]? = some (.cells cur 133) := g4.get (g3.get (g2.get hcur nofun) fun e => by
        obtain ⟨c, hc'⟩ := own_obj hgo2 e.symm
        rw [g2.get hcur nofun] at hc'; injection hc' with hc'; injection hc' with _ hc'; revert hc'; decide) fun e => by
        cases e
        rw [hcur] at hck; injection hck with hck; injection hck with _ hck; revert hck; decide
      refine ⟨by omega, _, _, ⟨g + 1, _, gl ++ [.slice (some ⟨bs, 0, none⟩) (2 * f + 1) cap], B, ad, rfl, by omega, rfl, m4, owns_rely ho3 fun x hx => ?_, fun x hx => (n3 x hx).elim (hgn x) fun hl => ?_, ⟨?_, fun g' hg' => ?_⟩, hnv4.next, G4⟩, (sb rfl), by omega⟩
      · obtain ⟨c, hc'⟩ := own_obj ho3 hx
        refine g4.block x (lt_heap hc') fun e => ?_
        cases e
        rw [hc3] at hc'; injection hc' with hc'; injection hc' with _ hc'; revert hc'; decide
      · have := G2.size; omega
      · rw [List.length_append, hgp.1]; rfl
      · by_cases e : g' < g
        · obtain ⟨bs', ct', cur', p1, p2, p3, p4⟩ := hgp4.2 g' e
          exact ⟨bs', ct', cur', by rw [List.getElem?_append_left (by rw [hgp.1]; exact e)]; exact p1, p2, p3, p4⟩
        · have e : g' = g := by omega
          subst e
          refine ⟨bs, cap, cur, by rw [List.getElem?_append_right (by rw [hgp.1]; exact Nat.le_refl _), hgp.1, Nat.sub_self]; rfl, ?_, hbs4, fun i hi => ?_⟩
          · exact hcap
          · have := congrArg (fun l => l[i]?) htk
            simp only [Nat.mul_one] at this
            rw [List.getElem?_take, if_pos hi] at this
            rw [this]
            simp [ptrs, hi]
  · have c1 : g = n := by simp at c; omega
    subst c1
    obtain ⟨bg, cap, cur, rfl, hcur, htk, hsz, hcap⟩ := own_el hgo (by omega)
    refine ⟨bc, rfl, l1, ⟨_, _, B, ad, ⟨⟨hc, own0 _ _ _, Nat.zero_le _, ⟨bg, cap, cur, _, rfl, hcap, hcur, by decide, fun g' hg' => ?_⟩, fun g' i' hg' hi' => hnv.rep g' i' (.inl ⟨hg', hi'⟩), fun g1 i1 g2 i2 x p1 p2 p3 p4 => hnv.sep g1 i1 g2 i2 x (.inl ⟨p1, p2⟩) (.inl ⟨p3, p4⟩), nofun⟩, fun b o hb => ⟨hgb.get hb nofun, fun hC => ?_⟩, hgb.os, hgb.out⟩⟩, hgb.kz⟩
    · obtain ⟨bs', ct', cur', p1, p2, p3, p4⟩ := hgp.2 g' hg'
      refine ⟨bs', ct', cur', _, ?_, p2, p3, by decide, p4⟩
      have hg'' : g' < g := hg'
      refine Eq.trans ?_ p1
      rw [← htk, List.getElem?_take, if_pos (by omega)]
    · have hl := lt_heap hb
      rcases hC with e | e | ⟨g', i', p1, p2, p3⟩
      · have lbc : w.heap.size ≤ bc := l1
        omega
      · cases e
      · have := hnv.new g' i' b (.inl ⟨p1, p2⟩) p3; omega
end
end
end Go.Proofs.YtignemioillaiaaGreat
