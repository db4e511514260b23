/- A shard in memory, through its pointer: where a key or a reply stands in it. -/
import Derived.Test.YtignemioillaiaaJ3
import Derived.Test.YtignemioillaiaaJ6
import Derived.Test.YtignemioillaiaaJ7
import Derived.Test.YtignemioillaiaaJ8
namespace Go.Proofs.Ytignemioillaiaa
open Go.RowKit Go.Lib

/-- A shard at block b: its own lists of rows and replies. -/
structure Shd (w : World) (base b : Nat) (g n : Int) (vT vM vD vO vI : Value) (T : List Row) (D : List Rep) : Prop where
  cell : w.heap[b]? = some (.cells #[.int .u8 g, .int .u8 n, vT, vM, vD, vO, vI] 74)
  oT : w.ownsRow base 82 2 vT T.length (T.map Row.cells).flatten
  oD : w.ownsRow base 27 7 vD D.length (D.map Rep.cells).flatten
  b1 : base ≤ b

/-- What a shard's own change may touch: the shard, rows, replies. -/
def Kd (t : TypeId) : Prop := t = 74 ∨ t = 82 ∨ t = 27

/-- Nothing changes but in the blocks from base to lim, and no block of another kind than a shard's, rows' or replies'. -/
structure Mod (base lim : Nat) (w w' : World) : Prop where
  os : w'.os = w.os
  tape : w'.tape = w.tape
  output : w'.output = w.output
  size : w.heap.size ≤ w'.heap.size
  block : ∀ k, k < w.heap.size → (k < base ∨ lim ≤ k) → w'.heap[k]? = w.heap[k]?
  typ : ∀ (k : Nat) (cs : Array Value) (t : TypeId), w.heap[k]? = some (.cells cs t) → ¬ Kd t → w'.heap[k]? = w.heap[k]?

theorem Mod.trans {base lim : Nat} {a b c : World} (h : Mod base lim a b) (k : Mod base lim b c) : Mod base lim a c :=
  ⟨k.os.trans h.os, k.tape.trans h.tape, k.output.trans h.output, Nat.le_trans h.size k.size, fun j hj hx => (k.block j (Nat.lt_of_lt_of_le hj h.size) hx).trans (h.block j hj hx),
    fun j cs t hj ht => (k.typ j cs t ((h.typ j cs t hj ht).trans hj) ht).trans (h.typ j cs t hj ht)⟩
theorem Mod.later {base lim : Nat} {w w' : World} (h : Below w.heap.size w w') : Mod base lim w w' := ⟨h.os, h.tape, h.output, h.size, fun k hk _ => h.block k hk, fun k _ _ hk _ => h.block k (Array.getElem?_eq_some_iff.1 hk).1⟩
theorem Mod.only {base lim B : Nat} {w w' : World} {cs : Array Value} {t : TypeId} (h : Only B w w') (h1 : base ≤ B) (h2 : B < lim) (hB : w.heap[B]? = some (.cells cs t)) (ht : Kd t) : Mod base lim w w' :=
  ⟨h.os, h.tape, h.output, Nat.le_of_eq h.size.symm, fun k _ hx => h.block k (by omega), fun k cs' t' hk hn => h.block k (fun e => by subst e; rw [hB] at hk; simp at hk; exact hn (hk.2 ▸ ht))⟩
theorem Mod.grew {base lim b' : Nat} {w w' : World} {v v' : Value} {e : TypeId} {s n : Nat} {xs : List Value} (h : Grew w v w' v') (h1 : ∀ k, v.ownBlock = some k → base ≤ k ∧ k < lim) (hown : w.ownsRow b' e s v n xs) (ht : Kd e) : Mod base lim w w' :=
  ⟨h.grown.os, h.grown.tape, h.grown.output, h.grown.size, fun k hk hx => h.grown.block k hk (fun e => by have := h1 k e.symm; omega), fun k cs t hk hn => h.grown.block k (Array.getElem?_eq_some_iff.1 hk).1 (fun ek => by
    rcases hown.2 with ⟨rfl, _⟩ | ⟨g, cap, cur, rfl, _, hg, _⟩
    · simp [Value.ownBlock] at ek
    · simp [Value.ownBlock] at ek
      subst ek
      rw [hg] at hk
      simp at hk
      exact hn (hk.2 ▸ ht))⟩
theorem Mod.below {base lim : Nat} {w w' : World} (h : Mod base lim w w') (hb : base ≤ w.heap.size) : Below base w w' := ⟨h.os, h.tape, h.output, h.size, fun k hk => h.block k (by omega) (.inl hk)⟩
theorem Mod.refl (base lim : Nat) (w : World) : Mod base lim w w := ⟨rfl, rfl, rfl, Nat.le_refl _, fun _ _ _ => rfl, fun _ _ _ _ _ => rfl⟩
theorem kdS : Kd 74 := .inl rfl
theorem kdT : Kd 82 := .inr (.inl rfl)
theorem kdD : Kd 27 := .inr (.inr rfl)

theorem own_slinJ {base : Nat} {w : World} {e : TypeId} {k : Nat} {v : Value} {α : Type} {f : α → List Value} {l : List α} (h : w.ownsRow base e k v l.length (l.map f).flatten) (hf : ∀ y, (f y).length = k) :
    ∃ a n c, v = .slice a n c ∧ n = l.length ∧ SlIn w.heap.size w ⟨a, n, c⟩ k (l.map f) := by
  obtain ⟨a, n, c, h1, h2, _⟩ := own_slin (xs := l.map f) (by rw [List.length_map]; exact h) (by intro y hy; obtain ⟨r, _, rfl⟩ := List.mem_map.1 hy; exact hf r)
  exact ⟨a, n, c, h1, by simpa using h2.len, h2⟩
theorem own_keepJ {base : Nat} {w w' : World} {e : TypeId} {k n : Nat} {v : Value} {xs : List Value} (h : w.ownsRow base e k v n xs) (hb : Below w.heap.size w w') : w'.ownsRow base e k v n xs :=
  h.kept (row := none) (grown_below hb) (by cases hv : v.ownBlock <;> simp)

theorem Shd.later {w w' : World} {base b : Nat} {g n : Int} {vT vM vD vO vI : Value} {T : List Row} {D : List Rep} (h : Shd w base b g n vT vM vD vO vI T D) (hb : Below w.heap.size w w') : Shd w' base b g n vT vM vD vO vI T D :=
  ⟨blk_later hb h.cell, own_keepJ h.oT hb, own_keepJ h.oD hb, h.b1⟩

theorem cell_T {w : World} {base b : Nat} {g n : Int} {vT vM vD vO vI : Value} {T : List Row} {D : List Rep} (h : Shd w base b g n vT vM vD vO vI T D) : w.cell? ⟨b, 2, none⟩ = some vT := blk_cell h.cell 2
theorem cell_D {w : World} {base b : Nat} {g n : Int} {vT vM vD vO vI : Value} {T : List Row} {D : List Rep} (h : Shd w base b g n vT vM vD vO vI T D) : w.cell? ⟨b, 4, none⟩ = some vD := blk_cell h.cell 4

abbrev atT (T : List Row) (key : Int) : Nat := posB (fun x : Row => cmpI x.key key) T
abbrev hasT (T : List Row) (key : Int) : Bool := hitB (fun x : Row => cmpI x.key key) T
abbrev atD (D : List Rep) (q : Rep) : Nat := posB (fun x : Rep => cmpP x q) D
abbrev hasD (D : List Rep) (q : Rep) : Bool := hitB (fun x : Rep => cmpP x q) D

set_option maxHeartbeats 400000 in
set_option maxRecDepth 100000 in
theorem row_any (w : World) (base b : Nat) (g n : Int) (vT vM vD vO vI : Value) (T : List Row) (D : List Rep) (key : Int) (h : Shd w base b g n vT vM vD vO vI T D) (hs : SortT T) :
    Calls Try.prog 156 #[.pointer (some ⟨b, 0, none⟩), .int .u64 key] w fun e w' => e = .returned (.tuple #[.int .i64 (atT T key : Nat), .bool (hasT T key)]) ∧ Below w.heap.size w w' := by
  obtain ⟨a, m, c, rfl, hm, hin⟩ := own_slinJ h.oT (fun y => rfl)
  have hc := cell_T h
  have HI : Hid (SlIn w.heap.size w ⟨a, m, c⟩ 2 (T.map Row.cells)) := hin
  have HS : Hid (SortT T) := hs
  clear h hin hs hm
  go_enter Try.func156, Try.ntmps156
  go_wp2_with (go_at_call 162; go_must (refine (bsf_row a m c T key _ HI.out (monoT HS.out key)).mono ?_; rintro e w1 ⟨rfl, hb1⟩))
  go_ret2
  exact ⟨rfl, hb1⟩

set_option maxHeartbeats 400000 in
set_option maxRecDepth 100000 in
theorem dup_any (w : World) (base b : Nat) (g n : Int) (vT vM vD vO vI : Value) (T : List Row) (D : List Rep) (qc qs qkey qk : Int) (qf : Bool) (qv qg : Int) (h : Shd w base b g n vT vM vD vO vI T D) (hs : SortD D) :
    Calls Try.prog 110 #[.pointer (some ⟨b, 0, none⟩), .agg #[.int .u8 qc, .int .u32 qs, .int .u64 qkey, .int .u8 qk, .bool qf, .int .u64 qv, .int .u8 qg]] w fun e w' => e = .returned (.tuple #[.int .i64 (atD D (Rep.mk qc qs qkey qk qf qv qg) : Nat), .bool (hasD D (Rep.mk qc qs qkey qk qf qv qg))]) ∧ Below w.heap.size w w' := by
  obtain ⟨W, hW⟩ : ∃ W, W = w.alloc (.cells #[.int .u8 qc, .int .u32 qs, .int .u64 qkey, .int .u8 qk, .bool qf, .int .u64 qv, .int .u8 qg] 27) := ⟨_, rfl⟩
  have hWq : W.heap[w.heap.size]? = some (.cells #[.int .u8 qc, .int .u32 qs, .int .u64 qkey, .int .u8 qk, .bool qf, .int .u64 qv, .int .u8 qg] 27) := by rw [hW]; exact heap_alloc_new w _
  have hWl : Below w.heap.size w W := by rw [hW]; exact later_alloc w _
  obtain ⟨a, m, c, rfl, hm, hin⟩ := own_slinJ h.oD (fun y => rfl)
  have hc := blk_later hWl h.cell
  have HI : Hid (SlIn W.heap.size W ⟨a, m, c⟩ 7 (D.map Rep.cells)) := hin.later hWl
  have HS : Hid (SortD D) := hs
  have MK : Hid (∀ w', Below W.heap.size W w' → (Below W.heap.size W w' ∧ w'.cell? ⟨b, 4, none⟩ = some (.slice a m c) ∧ w'.cell? ⟨w.heap.size, 0, none⟩ = some (.int .u8 qc) ∧ w'.cell? ⟨w.heap.size, 1, none⟩ = some (.int .u32 qs) ∧ w'.cell? ⟨w.heap.size, 2, none⟩ = some (.int .u64 qkey) ∧ w'.cell? ⟨w.heap.size, 3, none⟩ = some (.int .u8 qk) ∧ w'.cell? ⟨w.heap.size, 4, none⟩ = some (.bool qf) ∧ w'.cell? ⟨w.heap.size, 5, none⟩ = some (.int .u64 qv) ∧ w'.cell? ⟨w.heap.size, 6, none⟩ = some (.int .u8 qg))) := fun w' hb => ⟨hb, blk hb hc 4, blk hb hWq 0, blk hb hWq 1, blk hb hWq 2, blk hb hWq 3, blk hb hWq 4, blk hb hWq 5, blk hb hWq 6⟩
  clear h hin hs hm hc
  go_enter Try.func110, Try.ntmps110
  go_wp2_with fail
  rw [← hW]
  clear hW
  go_region_held3 (fun w' => Below W.heap.size W w' ∧ w'.cell? ⟨b, 4, none⟩ = some (.slice a m c) ∧ w'.cell? ⟨w.heap.size, 0, none⟩ = some (.int .u8 qc) ∧ w'.cell? ⟨w.heap.size, 1, none⟩ = some (.int .u32 qs) ∧ w'.cell? ⟨w.heap.size, 2, none⟩ = some (.int .u64 qkey) ∧ w'.cell? ⟨w.heap.size, 3, none⟩ = some (.int .u8 qk) ∧ w'.cell? ⟨w.heap.size, 4, none⟩ = some (.bool qf) ∧ w'.cell? ⟨w.heap.size, 5, none⟩ = some (.int .u64 qv) ∧ w'.cell? ⟨w.heap.size, 6, none⟩ = some (.int .u8 qg)) (first | exact MK.out _ (Below.refl _ _).drew | exact MK.out _ (held_nextJ (by assumption) (by assumption)) | exact MK.out _ (held_drewJ (by assumption))) (first | (go_at_call 138; refine (bsf_dup a m c D qc qs qkey qk qf qv qg _ (HI.out.later (And.left (by assumption))) (monoD HS.out _)).mono ?_; rintro e w1 ⟨rfl, hbel1⟩))
  go_wp2
  go_ret2
  exact ⟨rfl, later_trans hWl (And.left (by assumption))⟩

/-- What a key has. -/
def valT (T : List Row) (key : Int) : Int := if hasT T key then ((T[atT T key]?).map Row.val).getD 0 else 0

set_option maxHeartbeats 400000 in
set_option maxRecDepth 100000 in
theorem get_any (w : World) (base b : Nat) (g n : Int) (vT vM vD vO vI : Value) (T : List Row) (D : List Rep) (key : Int) (h : Shd w base b g n vT vM vD vO vI T D) (hs : SortT T) :
    Calls Try.prog 143 #[.pointer (some ⟨b, 0, none⟩), .int .u64 key] w fun e w' => e = .returned (.tuple #[.int .u64 (valT T key), .bool (hasT T key)]) ∧ Below w.heap.size w w' := by
  unfold valT
  have HH : Hid (Shd w base b g n vT vM vD vO vI T D) := h
  obtain ⟨a, m, c, hv, hm, hin⟩ := own_slinJ h.oT (fun y => rfl)
  have HI : Hid (SlIn w.heap.size w ⟨a, m, c⟩ 2 (T.map Row.cells)) := hin
  have HM : Hid (m = T.length) := hm
  have HS : Hid (SortT T) := hs
  have HC : Hid (w.heap[b]? = some (.cells #[.int .u8 g, .int .u8 n, vT, vM, vD, vO, vI] 74)) := h.cell
  clear h hin hs hm
  cases hh : hasT T key with
  | false =>
    go_enter Try.func143, Try.ntmps143
    go_wp2_with (go_at_call 156; go_must (refine (row_any _ base b g n vT vM vD vO vI T D key HH.out HS.out).mono ?_; rintro e w1 ⟨rfl, hb1⟩; rw [hh]))
    go_ret2
    exact ⟨rfl, hb1⟩
  | true =>
    obtain ⟨x, hx, hxe⟩ := hitB_some hh
    have hxl := (List.getElem?_eq_some_iff.1 hx).1
    obtain ⟨bb, off, ha, hbB, hc0, hc1⟩ := HI.out.at2 hx
    dsimp only at ha
    subst ha
    subst hv
    have hlm : m ≤ maxLen := Nat.le_trans HI.out.le HI.out.max
    unfold maxLen at hlm
    obtain ⟨p, hp⟩ : ∃ p, p = atT T key := ⟨_, rfl⟩
    have hp' : posB (fun x : Row => cmpI x.key key) T = p := hp.symm
    have hi1 : (0 : Int) ≤ (p : Int) := by omega
    have hi2 : (p : Int) < (m : Int) := by rw [hp']at hxl; have := HM.out; omega
    rw [hp'] at hx hc1
    have HX : Hid (T[p]? = some x) := hx
    have hcS := blk_cell HC.out 2
    have HP : Hid (atT T key = p) := hp'
    clear hx hxl hp hp' hc0
    obtain ⟨xkey, xval⟩ := x
    dsimp only at hc1
    go_enter Try.func143, Try.ntmps143
    go_wp2_with (go_at_call 156; go_must (refine (row_any _ base b g n (.slice (some ⟨bb, off, none⟩) m c) vM vD vO vI T D key HH.out HS.out).mono ?_; rintro e w1 ⟨rfl, hb1⟩; rw [hh, HP.out]; have hcS1 := (hb1.cell (p := ⟨b, 2, none⟩) (Array.getElem?_eq_some_iff.1 HC.out).1).trans hcS; have hc11 := (hb1.cell (p := ⟨bb, off + p * 2 + 1, none⟩) hbB).trans hc1))
    go_ret2
    exact ⟨by rw [HP.out, HX.out]; rfl, hb1⟩

end Go.Proofs.Ytignemioillaiaa
