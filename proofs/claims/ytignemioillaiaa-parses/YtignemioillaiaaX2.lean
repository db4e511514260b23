/- An append leaves the elder slice as it was; a book of lists, each full of its mark. A list more in the book: what stays while it is laid down. -/
import Derived.Test.YtignemioillaiaaB
import Derived.Test.YtignemioillaiaaO1
import Derived.Test.YtignemioillaiaaV5
namespace Go.Proofs.Ytignemioillaiaa
open Go.RowKit

section
variable {P : Program} (w : World)
theorem run_append_keep (base : Nat) (t ty e : TypeId) (i : TypeInfo) (z : Value) (size bytes : Nat) (ht : P.underlying t = some (.slice e)) (hi : P.info? e = some i) (hz : i.zero = some z)
    (hsize : i.size = size) (hby : i.bytes = bytes) (hzs : z.cells.size = size) (hsz : 0 < size) (v : Value) (n : Nat) (xs : List Value) (hown : w.ownsRow base e size v n xs)
    (a : Addr) (m c : Nat) (news : List Value) (hl : news.length = m * size) (hnews : ∀ j u, news[j]? = some u → w.cell? (a.add j) = some u) (h1 : ∀ u ∈ news, u.oneCell' = true)
    (h63 : n + m ≤ maxLen) (hbytes : (n + m) * bytes ≤ 140737488355328) (hbase : base ≤ w.heap.size) :
    ∃ v' w', (Builtin.append_ #[t, t] ty #[v, .slice (some a) m c]).run P w = .ok v' w' ∧ w'.ownsRow base e size v' (n + m) (xs ++ news) ∧ Grew w v w' v' ∧ w'.ownsRow base e size v n xs := by
  obtain ⟨v', w', hr, ho, hg⟩ := run_append_new (P := P) w base t ty e i z size bytes ht hi hz hsize hby hzs hsz v n xs hown a m c news hl hnews h1 h63 hbytes hbase
  refine ⟨v', w', hr, ho, hg, ?_⟩
  rcases hown.2 with ⟨rfl, rfl⟩ | ⟨g, cap, cur, rfl, hbg, hgg, hnc, hcm, hcs, htake⟩
  · have hx : xs = [] := List.eq_nil_of_length_eq_zero (by simpa using hown.1)
    subst hx
    exact World.ownsRow_nil _ _ _ _
  · have hsmall : n + m ≤ 9223372036854775807 := by simp only [maxLen] at h63; omega
    subst hsize; subst hby
    by_cases hroom : n + m ≤ cap
    · have hfit : n * i.size + news.length ≤ cur.size := by rw [hl, hcs, ← Nat.add_mul]; exact Nat.mul_le_mul_right _ hroom
      rw [run_append_room (P := P) w t ty e i ht hi g n cap cur hgg a m c news hl hnews h1 hroom hfit] at hr
      injection hr with e1 e2
      subst e2
      refine ⟨hown.1, .inr ⟨g, cap, _, rfl, hbg, setRow_heap w g cur _ e _ hgg, hnc, hcm, ?_, ?_⟩⟩
      · simp only [List.size_toArray, List.length_append, List.length_take, List.length_drop, Array.length_toList]
        omega
      · rw [htake, ← hown.1]
        simp only [List.append_assoc]
        exact List.take_left
    · rw [run_append_grow (P := P) w t ty e i z ht hi hz ⟨g, 0, none⟩ n cap xs hown.1 (hown.cells (g := g) rfl) a m c news hl hnews (by omega) (by omega) (growslice_fits (by omega) hbytes)] at hr
      injection hr with e1 e2
      subst e2
      exact World.ownsRow.alloc (w := w.drew) hown _

theorem wpList_append_keep {ops : Array Oper} {rest : List Oper} {o : Oper} {a : Act} {Q : Exit → Act → World → Prop} (hgd : o.guard = none) (s x : Operand) (t : TypeId)
    (ho : o.op = .call { callee := .builtin .append, args := #[s, x], argTypes := #[t, t] })
    (base : Nat) (e : TypeId) (i : TypeInfo) (z : Value) (size bytes : Nat) (ht : P.underlying t = some (.slice e)) (hi : P.info? e = some i) (hz : i.zero = some z)
    (hsize : i.size = size) (hby : i.bytes = bytes) (hzs : z.cells.size = size) (hsz : 0 < size) (v : Value) (n : Nat) (xs : List Value) (hs : a.eval s = v) (hown : w.ownsRow base e size v n xs)
    (ad : Addr) (m c : Nat) (news : List Value) (hx : a.eval x = .slice (some ad) m c) (hl : news.length = m * size) (hnews : ∀ j u, news[j]? = some u → w.cell? (ad.add j) = some u) (h1 : ∀ u ∈ news, u.oneCell' = true)
    (h63 : n + m ≤ maxLen) (hbytes : (n + m) * bytes ≤ 140737488355328) (hbase : base ≤ w.heap.size)
    (h : ∀ v' w', w'.ownsRow base e size v' (n + m) (xs ++ news) → Grew w v w' v' → w'.ownsRow base e size v n xs → wpList P ops Q rest (a.put o.dst v') w') : wpList P ops Q (o :: rest) a w :=
  wpList_plain hgd fun _ hK => by
    obtain ⟨v', w', hr, h2, h3, h4⟩ := run_append_keep (P := P) w base t o.type e i z size bytes ht hi hz hsize hby hzs hsz v n xs hown ad m c news hl hnews h1 h63 hbytes hbase
    unfold Oper.wp execOp
    simp only [ho, resolve, invoke, builtin, Sem.run_bind, Sem.run_pure, Result.andThen_ok, List.map_toArray, List.map_cons, List.map_nil, hs, hx, hr]
    exact hK _ _ (h v' w' h2 h3 h4)
end

/-- A slice that reads as its mark, all over: cells cs, as often as it is long. -/
def Marked (w : World) (e : TypeId) (size : Nat) (s : Sl) (cs : List Value) : Prop := w.ownsRow 0 e size s.val s.len (List.replicate s.len cs).flatten
/-- A column of the book: lists of one type (of elements te, slices ts), their marks. -/
structure Col (w : World) (ts te : TypeId) (size : Nat) (mk : Int → List Value) (S M : Value) (E : List (Sl × Int)) : Prop where
  own : w.ownsRow 0 ts 1 S E.length (E.map fun x => x.1.val)
  marks : w.ownsRow 0 3 1 M E.length (E.map fun x => Value.int .i64 x.2)
  all : ∀ (i : Nat) (s : Sl) (m : Int), E[i]? = some (s, m) → Marked w te size s (mk m)
  bnd : ∀ (i : Nat) (s : Sl) (m : Int), E[i]? = some (s, m) → 0 ≤ m ∧ m ≤ 100000

/-- No list of a column lies in this block. -/
def OffB (b : Option Nat) (E : List (Sl × Int)) : Prop := ∀ (i : Nat) (s : Sl) (m : Int), E[i]? = some (s, m) → ∀ c, s.val.ownBlock = some c → b ≠ some c
theorem OffB.nil (b : Option Nat) : OffB b [] := fun i s m h => by simp at h
theorem OffB.snoc {b : Option Nat} {E : List (Sl × Int)} {s : Sl} {m : Int} (h : OffB b E) (hs : ∀ c, s.val.ownBlock = some c → b ≠ some c) : OffB b (E ++ [(s, m)]) := by
  intro i t k hi
  rw [List.getElem?_append] at hi
  split at hi
  · exact h i t k hi
  · cases hj : i - E.length with
    | zero => rw [hj] at hi; simp at hi; obtain ⟨rfl, rfl⟩ := hi; exact hs
    | succ n => rw [hj] at hi; simp at hi

/-- The block of a row is of the row's type. -/
theorem own_typ {w : World} {base : Nat} {e : TypeId} {size : Nat} {v : Value} {n : Nat} {xs : List Value} (h : w.ownsRow base e size v n xs) {c : Nat} (hc : v.ownBlock = some c) : ∃ cur, w.heap[c]? = some (.cells cur e (0, 0)) := by
  rcases h.2 with ⟨rfl, _⟩ | ⟨g, cap, cur, rfl, _, hg, _⟩
  · cases hc
  · simp only [Value.ownBlock, Option.some.injEq] at hc
    subst hc
    exact ⟨cur, hg⟩
/-- Rows of different types lie in different blocks. -/
theorem own_apartX {w : World} {b b' : Nat} {e e' : TypeId} {size size' : Nat} {v v' : Value} {n n' : Nat} {xs xs' : List Value} (h : w.ownsRow b e size v n xs) (h' : w.ownsRow b' e' size' v' n' xs') (hne : e ≠ e') : v.ownBlock = none ∨ v.ownBlock ≠ v'.ownBlock := by
  cases hv : v.ownBlock with
  | none => exact .inl rfl
  | some c =>
    refine .inr fun e2 => ?_
    obtain ⟨c1, h1⟩ := own_typ h hv
    obtain ⟨c2, h2⟩ := own_typ h' e2.symm
    rw [h1] at h2
    injection h2 with h3
    injection h3 with h4 h5
    exact hne h5
theorem own_notin {w : World} {b : Nat} {e e' : TypeId} {size : Nat} {v : Value} {n : Nat} {xs : List Value} {K : Nat} {cur : Array Value} {fz : Nat × Nat} (h : w.ownsRow b e size v n xs) (hK : w.heap[K]? = some (.cells cur e' fz)) (hne : e ≠ e') : v.ownBlock ≠ some K := by
  intro hv
  obtain ⟨c1, h1⟩ := own_typ h hv
  rw [h1] at hK
  injection hK with h3
  injection h3 with h4 h5
  exact hne h5

/-- A column stays while one block changes that is none of its own. -/
theorem Col.kept {w w' : World} {ts te : TypeId} {size : Nat} {mk : Int → List Value} {S M : Value} {E : List (Sl × Int)} {row : Option Nat} (h : Col w ts te size mk S M E) (hg : w.grownBy w' row) (h1 : S.ownBlock = none ∨ S.ownBlock ≠ row) (h2 : M.ownBlock = none ∨ M.ownBlock ≠ row) (h3 : OffB row E) : Col w' ts te size mk S M E := by
  refine ⟨h.own.kept hg h1, h.marks.kept hg h2, fun i s m hi => (h.all i s m hi).kept hg ?_, h.bnd⟩
  cases hb : s.val.ownBlock with
  | none => exact .inl rfl
  | some c => exact .inr fun e => h3 i s m hi c hb e.symm
theorem Col.below {w w' : World} {ts te : TypeId} {size : Nat} {mk : Int → List Value} {S M : Value} {E : List (Sl × Int)} (h : Col w ts te size mk S M E) (hb : Below w.heap.size w w') : Col w' ts te size mk S M E :=
  ⟨own_below h.own hb, own_below h.marks hb, fun i s m hi => own_below (h.all i s m hi) hb, h.bnd⟩
theorem grown_only {C : Nat} {w w' : World} (hO : Only C w w') : w.grownBy w' (some C) := ⟨hO.os, hO.tape, hO.output, Nat.le_of_eq hO.size.symm, fun k _ hk => hO.block k (fun e => hk (by rw [e]))⟩
/-- Where no list of a type lies: in a block of another type. -/
theorem Col.off {w : World} {ts te : TypeId} {size : Nat} {mk : Int → List Value} {S M : Value} {E : List (Sl × Int)} (h : Col w ts te size mk S M E) {K : Nat} {cur : Array Value} {e' : TypeId} {fz : Nat × Nat} (hK : w.heap[K]? = some (.cells cur e' fz)) (hne : te ≠ e') : OffB (some K) E := by
  intro i s m hi c hc e
  injection e with e2
  subst e2
  exact own_notin (h.all i s m hi) hK hne hc
theorem Col.off' {w : World} {ts te : TypeId} {size : Nat} {mk : Int → List Value} {S M : Value} {E : List (Sl × Int)} (h : Col w ts te size mk S M E) {b : Nat} {e' : TypeId} {size' n : Nat} {v : Value} {xs : List Value} (hv : w.ownsRow b e' size' v n xs) (hne : te ≠ e') : OffB v.ownBlock E := by
  intro i s m hi c hc e
  rcases own_apartX (h.all i s m hi) hv hne with h0 | h0
  · rw [hc] at h0; cases h0
  · exact h0 (hc.trans e.symm)
theorem Col.lt {w : World} {ts te : TypeId} {size : Nat} {mk : Int → List Value} {S M : Value} {E : List (Sl × Int)} (h : Col w ts te size mk S M E) : OffB (some w.heap.size) E := by
  intro i s m hi c hc e
  injection e with e2
  have := (World.ownsRow.lt (h.all i s m hi) c hc).2
  omega
end Go.Proofs.Ytignemioillaiaa

namespace Go.Proofs.Ytignemioillaiaa
open Go.RowKit

/-- The world is as it was but for the blocks A and new ones. -/
structure Fr (A : Nat → Prop) (w w' : World) : Prop where
  os : w'.os = w.os
  tape : w'.tape = w.tape
  output : w'.output = w.output
  size : w.heap.size ≤ w'.heap.size
  block : ∀ k, k < w.heap.size → ¬ A k → w'.heap[k]? = w.heap[k]?
theorem Fr.refl (A : Nat → Prop) (w : World) : Fr A w w := ⟨rfl, rfl, rfl, Nat.le_refl _, fun _ _ _ => rfl⟩
theorem Fr.grown {A : Nat → Prop} {w wr w' : World} {row : Option Nat} (h : Fr A w wr) (hg : wr.grownBy w' row) (hr : ∀ k, row = some k → A k ∨ w.heap.size ≤ k) : Fr A w w' :=
  ⟨hg.os.trans h.os, hg.tape.trans h.tape, hg.output.trans h.output, Nat.le_trans h.size hg.size, fun k hk hA => (hg.block k (Nat.lt_of_lt_of_le hk h.size) (fun e => by rcases hr k e.symm with h1 | h1; exact hA h1; omega)).trans (h.block k hk hA)⟩
theorem Fr.later {A : Nat → Prop} {w wr w' : World} (h : Fr A w wr) (hb : Below wr.heap.size wr w') : Fr A w w' :=
  ⟨hb.os.trans h.os, hb.tape.trans h.tape, hb.output.trans h.output, Nat.le_trans h.size hb.size, fun k hk hA => (hb.block k (Nat.lt_of_lt_of_le hk h.size)).trans (h.block k hk hA)⟩

/-- The types of a column: its elements, its lists; all different from each other, from numbers and from books. -/
structure Kinds (te ts : TypeId) : Prop where
  es : te ≠ ts
  ei : te ≠ 3
  si : ts ≠ 3
  eb : te ≠ 58
  sb : ts ≠ 58

/-- No list of a column is disturbed by a longer one of t's: it lies elsewhere, or it is an elder part of it with its mark. -/
def Ahead (E : List (Sl × Int)) (t : Sl) (n : Int) : Prop := ∀ (i : Nat) (s : Sl) (m : Int), E[i]? = some (s, m) → s.val.ownBlock = none ∨ s.val.ownBlock ≠ t.val.ownBlock ∨ (s.a = t.a ∧ s.cap = t.cap ∧ s.len ≤ t.len ∧ m = n)

theorem snoc_cases {E : List (Sl × Int)} {t s : Sl} {n m : Int} {i : Nat} (h : (E ++ [(t, n)])[i]? = some (s, m)) : E[i]? = some (s, m) ∨ s = t ∧ m = n := by
  rw [List.getElem?_append] at h
  split at h
  · exact .inl h
  · cases hj : i - E.length with
    | zero => rw [hj] at h; simp at h; exact .inr ⟨h.1.symm, h.2.symm⟩
    | succ k => rw [hj] at h; simp at h

theorem rep_take (cs : List Value) (a b : Nat) (h : a ≤ b) : (List.replicate b cs).flatten.take (a * cs.length) = (List.replicate a cs).flatten := by
  obtain ⟨d, rfl⟩ := Nat.exists_eq_add_of_le h
  rw [← List.replicate_append_replicate, List.flatten_append]
  have : a * cs.length = (List.replicate a cs).flatten.length := by simp
  rw [this]
  exact List.take_left

theorem marked_pre {w : World} {e : TypeId} {size : Nat} {s t : Sl} {cs : List Value} (h : Marked w e size t cs) (hc : cs.length = size) (ha : s.a = t.a) (hp : s.cap = t.cap) (hl : s.len ≤ t.len) : Marked w e size s cs := by
  obtain ⟨sa, sl, sc⟩ := s
  obtain ⟨ta, tl, tc⟩ := t
  dsimp only at ha hp hl
  subst ha
  subst hp
  unfold Marked at h ⊢
  refine ⟨by simp [hc], ?_⟩
  rcases h.2 with ⟨h1, h2⟩ | ⟨g, cap, cur, h1, h2, h3, h4, h5, h6, h7⟩
  · simp only [Sl.val, Value.slice.injEq] at h1
    obtain ⟨rfl, rfl, rfl⟩ := h1
    dsimp only at hl ⊢
    have : sl = 0 := by omega
    subst this
    exact .inl ⟨rfl, rfl⟩
  · simp only [Sl.val, Value.slice.injEq] at h1
    obtain ⟨rfl, _, rfl⟩ := h1
    refine .inr ⟨g, sc, cur, rfl, h2, h3, Nat.le_trans hl h4, h5, h6, ?_⟩
    dsimp only at h7 ⊢
    have h8 := congrArg (List.take (sl * size)) h7
    rw [List.take_take, Nat.min_eq_left (Nat.mul_le_mul_right _ hl)] at h8
    rw [h8, ← hc]
    exact rep_take cs sl tl hl

/-- While a list t with the mark n is laid down. -/
structure RowSt (te ts : TypeId) (size : Nat) (mk : Int → List Value) (KC : Value → Value → Array Value) (w wr : World) (A : Nat → Prop) (K bm : Nat) (n : Int) (S M : Value) (t : Sl) (ES EM : List (Sl × Int)) (Z : Nat → Prop) : Prop where
  blk : wr.heap[K]? = some (.cells (KC S M) 58)
  mark : wr.heap[bm]? = some (.cells (mk n).toArray te)
  own : wr.ownsRow 0 ts 1 S ES.length (ES.map fun x => x.1.val)
  marks : wr.ownsRow 0 3 1 M EM.length (EM.map fun x => Value.int .i64 x.2)
  all : ∀ (i : Nat) (s : Sl) (m : Int), ES[i]? = some (s, m) → Marked wr te size s (mk m)
  ahead : Ahead ES t n
  tm : Marked wr te size t (mk n)
  fr : Fr A w wr
  kA : A K
  kb : K ≠ bm
  sS : ∀ k, S.ownBlock = some k → A k ∨ w.heap.size ≤ k
  sM : ∀ k, M.ownBlock = some k → A k ∨ w.heap.size ≤ k
  sT : ∀ k, t.val.ownBlock = some k → A k ∨ w.heap.size ≤ k
  off : ∀ c, c < w.heap.size → ¬ A c → Z c → OffB (some c) ES
  tb : t.val.ownBlock ≠ some bm
  bnd : ∀ (i : Nat) (s : Sl) (m : Int), ES[i]? = some (s, m) → 0 ≤ m ∧ m ≤ 100000
  nb : 0 ≤ n ∧ n ≤ 100000

section
variable {te ts : TypeId} {size : Nat} {mk : Int → List Value} {KC : Value → Value → Array Value} {w wr : World} {A : Nat → Prop} {K bm : Nat} {n : Int} {S M : Value} {t : Sl} {ES EM : List (Sl × Int)} {Z : Nat → Prop}

theorem origin {v v' : Value} {wa w5 : World} (hs : ∀ k, v.ownBlock = some k → A k ∨ w.heap.size ≤ k) (hg : Grew wa v w5 v') (hl : w.heap.size ≤ wa.heap.size) : ∀ k, v'.ownBlock = some k → A k ∨ w.heap.size ≤ k := by
  intro k hk
  rcases hg.own with h | h
  · exact hs k (h ▸ hk)
  · exact .inr (Nat.le_trans hl (h k hk))

theorem RowSt.later {w' : World} (h : RowSt te ts size mk KC w wr A K bm n S M t ES EM Z) (hb : Below wr.heap.size wr w') : RowSt te ts size mk KC w w' A K bm n S M t ES EM Z :=
  ⟨blk_later hb h.blk, blk_later hb h.mark, own_below h.own hb, own_below h.marks hb, fun i s m hi => own_below (h.all i s m hi) hb, h.ahead, own_below h.tm hb, h.fr.later hb, h.kA, h.kb, h.sS, h.sM, h.sT, h.off, h.tb, h.bnd, h.nb⟩

/-- The list joins the book's lists. -/
theorem RowSt.join {w5 w6 : World} {S' : Value} {o : Obj} (hk : Kinds te ts) (h : RowSt te ts size mk KC w wr A K bm n S M t ES EM Z) (ho : w5.ownsRow 0 ts 1 S' (ES.length + 1) ((ES.map fun x => x.1.val) ++ [t.val])) (hg : Grew (wr.alloc o) S w5 S')
    (hW : w6.heap[K]? = some (.cells (KC S' M) 58)) (hO : Only K w5 w6) : RowSt te ts size mk KC w w6 A K bm n S' M t (ES ++ [(t, n)]) EM Z := by
  have h1 := h.later (later_alloc wr o)
  have hK5 := hg.blk h1.blk (Ne.symm (own_notin h1.own h1.blk hk.sb))
  have hb5 := hg.blk h1.mark (Ne.symm (own_notin h1.own h1.mark (Ne.symm hk.es)))
  have gO := grown_only hO
  have he : ∀ s m, Marked (wr.alloc o) te size s (mk m) → Marked w6 te size s (mk m) := fun s m hm => by
    have a1 := World.ownsRow.kept hm hg.grown (own_apartX hm h1.own hk.es)
    exact World.ownsRow.kept a1 gO (.inr (own_notin a1 hK5 hk.eb))
  have hm5 := h1.marks.kept hg.grown (own_apartX h1.marks h1.own (Ne.symm hk.si))
  refine ⟨hW, (hO.block bm (Ne.symm h.kb)).trans hb5, ?_, hm5.kept gO (.inr (own_notin hm5 hK5 (by decide))), ?_, ?_, he t n h1.tm, (h1.fr.grown hg.grown h.sS).grown gO (fun k e => .inl (by injection e with e; rw [← e]; exact h.kA)), h.kA, h.kb, origin h.sS hg h1.fr.size, h.sM, h.sT, ?_, h.tb, (fun i s m hi => by rcases snoc_cases hi with h2 | ⟨rfl, rfl⟩; exact h.bnd i s m h2; exact h.nb), h.nb⟩
  · rw [List.length_append, List.map_append]
    exact (World.ownsRow.kept ho gO (.inr (own_notin ho hK5 hk.sb)))
  · intro i s m hi
    rcases snoc_cases hi with h2 | ⟨rfl, rfl⟩
    · exact he s m (h1.all i s m h2)
    · exact he s m h1.tm
  · intro i s m hi
    rcases snoc_cases hi with h2 | ⟨rfl, rfl⟩
    · exact h.ahead i s m h2
    · exact .inr (.inr ⟨rfl, rfl, Nat.le_refl _, rfl⟩)
  · intro c hc hA hZ
    refine OffB.snoc (h.off c hc hA hZ) fun k hk2 e => ?_
    injection e with e
    subst e
    rcases h.sT c hk2 with h3 | h3
    · exact hA h3
    · omega

/-- Its mark joins the marks. -/
theorem RowSt.count {w5 w6 : World} {M' : Value} {o : Obj} (hk : Kinds te ts) (h : RowSt te ts size mk KC w wr A K bm n S M t ES EM Z) (ho : w5.ownsRow 0 3 1 M' (EM.length + 1) ((EM.map fun x => Value.int .i64 x.2) ++ [.int .i64 n])) (hg : Grew (wr.alloc o) M w5 M')
    (hW : w6.heap[K]? = some (.cells (KC S M') 58)) (hO : Only K w5 w6) : RowSt te ts size mk KC w w6 A K bm n S M' t ES (EM ++ [(t, n)]) Z := by
  have h1 := h.later (later_alloc wr o)
  have hK5 := hg.blk h1.blk (Ne.symm (own_notin h1.marks h1.blk (by decide)))
  have hb5 := hg.blk h1.mark (Ne.symm (own_notin h1.marks h1.mark (Ne.symm hk.ei)))
  have gO := grown_only hO
  have he : ∀ s m, Marked (wr.alloc o) te size s (mk m) → Marked w6 te size s (mk m) := fun s m hm => by
    have a1 := World.ownsRow.kept hm hg.grown (own_apartX hm h1.marks hk.ei)
    exact World.ownsRow.kept a1 gO (.inr (own_notin a1 hK5 hk.eb))
  have hs5 := h1.own.kept hg.grown (own_apartX h1.own h1.marks hk.si)
  refine ⟨hW, (hO.block bm (Ne.symm h.kb)).trans hb5, hs5.kept gO (.inr (own_notin hs5 hK5 hk.sb)), ?_, fun i s m hi => he s m (h1.all i s m hi), h.ahead, he t n h1.tm, (h1.fr.grown hg.grown h.sM).grown gO (fun k e => .inl (by injection e with e; rw [← e]; exact h.kA)), h.kA, h.kb, h.sS, origin h.sM hg h1.fr.size, h.sT, h.off, h.tb, h.bnd, h.nb⟩
  rw [List.length_append, List.map_append]
  exact (World.ownsRow.kept ho gO (.inr (own_notin ho hK5 (by decide))))

/-- It grows by an element more of its mark. -/
theorem RowSt.longer {w5 : World} {t' : Sl} {o : Obj} (hk : Kinds te ts) (hc : (mk n).length = size) (hsz : 0 < size) (h : RowSt te ts size mk KC w wr A K bm n S M t ES EM Z) (hl : t'.len = t.len + 1) (ho : w5.ownsRow 0 te size t'.val (t.len + 1) ((List.replicate t.len (mk n)).flatten ++ mk n)) (hg : Grew (wr.alloc o) t.val w5 t'.val) (hold : w5.ownsRow 0 te size t.val t.len (List.replicate t.len (mk n)).flatten) : RowSt te ts size mk KC w w5 A K bm n S M t' ES EM Z := by
  have h1 := h.later (later_alloc wr o)
  have hnew : Marked w5 te size t' (mk n) := by
    unfold Marked
    rw [hl, List.replicate_succ', List.flatten_append]
    simpa using ho
  refine ⟨hg.blk h1.blk (Ne.symm (own_notin h1.tm h1.blk hk.eb)), hg.blk h1.mark (Ne.symm h.tb), h1.own.kept hg.grown (own_apartX h1.own h1.tm (Ne.symm hk.es)), h1.marks.kept hg.grown (own_apartX h1.marks h1.tm (Ne.symm hk.ei)), ?_, ?_, hnew, h1.fr.grown hg.grown h.sT, h.kA, h.kb, h.sS, h.sM, origin h.sT hg h1.fr.size, h.off, ?_, h.bnd, h.nb⟩
  · intro i s m hi
    rcases h.ahead i s m hi with h2 | h2 | ⟨h2, h3, h4, rfl⟩
    · exact World.ownsRow.kept (h1.all i s m hi) hg.grown (.inl h2)
    · exact World.ownsRow.kept (h1.all i s m hi) hg.grown (.inr h2)
    · exact marked_pre (t := t) hold hc h2 h3 h4
  · intro i s m hi
    cases hb : s.val.ownBlock with
    | none => exact .inl rfl
    | some c =>
      refine .inr ?_
      have hlt := (World.ownsRow.lt (h1.all i s m hi) c hb).2
      rcases hg.own with ho2 | ho2
      · rcases h.ahead i s m hi with h2 | h2 | ⟨h2, h3, h4, rfl⟩
        · rw [hb] at h2; cases h2
        · left; rw [ho2, ← hb]; exact h2
        · right
          have hb2 : t.val.ownBlock = some c := by
            rw [← hb]; unfold Sl.val; rw [h2]; cases t.a <;> rfl
          have hb3 := ho2.trans hb2
          rcases hold.2 with ⟨e1, _⟩ | ⟨g, cap, cur, e1, _, e3, _, _, e6, _⟩
          · rw [e1] at hb2; cases hb2
          rcases ho.2 with ⟨e1', _⟩ | ⟨g', cap', cur', e1', _, e3', _, _, e6', _⟩
          · rw [e1'] at hb3; cases hb3
          have hgc : g = c := by rw [e1] at hb2; simpa [Value.ownBlock] using hb2
          have hgc' : g' = c := by rw [e1'] at hb3; simpa [Value.ownBlock] using hb3
          subst hgc
          subst hgc'
          rw [e3] at e3'
          injection e3' with e3'
          injection e3' with e3'
          subst e3'
          have hcap : cap = cap' := Nat.eq_of_mul_eq_mul_right hsz (e6.symm.trans e6')
          simp only [Sl.val, Value.slice.injEq] at e1 e1'
          exact ⟨by rw [h2, e1.1, e1'.1], by rw [h3, e1.2.2, e1'.2.2, hcap], by omega, rfl⟩
      · left
        intro e
        have := ho2 c e.symm
        omega
  · rcases hg.own with ho2 | ho2
    · rw [ho2]; exact h.tb
    · intro e
      have := ho2 bm e
      have := (Array.getElem?_eq_some_iff.1 h1.mark).1
      omega
end
end Go.Proofs.Ytignemioillaiaa

