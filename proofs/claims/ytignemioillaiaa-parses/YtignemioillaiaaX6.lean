/- The book, whole; the lists of a range. The lists of a message that wait for the book. -/
import Derived.Test.YtignemioillaiaaD4
import Derived.Test.YtignemioillaiaaX4
namespace Go.Proofs.Ytignemioillaiaa
open Go.RowKit

def votMk (m : Int) : List Value := (rV (77 + m) 0 0 0 0 0 0 0 0 0 0 0 0 0 0 0 none 0 0 none 0 0 0 0)

theorem own_fr {A : Nat → Prop} {w w' : World} {b : Nat} {e : TypeId} {size n : Nat} {v : Value} {xs : List Value} (h : w.ownsRow b e size v n xs) (hf : Fr A w w') (hA : ∀ k, v.ownBlock = some k → ¬ A k) : w'.ownsRow b e size v n xs := by
  refine ⟨h.1, ?_⟩
  rcases h.2 with h1 | ⟨g, cap, cur, rfl, h2, h3, h4⟩
  · exact .inl h1
  · exact .inr ⟨g, cap, cur, rfl, h2, (hf.block g (Array.getElem?_eq_some_iff.1 h3).1 (hA g rfl)).trans h3, h4⟩
theorem blk_fr {A : Nat → Prop} {w w' : World} {B : Nat} {o : Obj} (h : w.heap[B]? = some o) (hf : Fr A w w') (hA : ¬ A B) : w'.heap[B]? = some o := (hf.block B (Array.getElem?_eq_some_iff.1 h).1 hA).trans h
theorem Fr.trans {A A' : Nat → Prop} {w w1 w2 : World} (h : Fr A w w1) (k : Fr A' w1 w2) (hs : ∀ b, A' b → A b ∨ w.heap.size ≤ b) : Fr A w w2 :=
  ⟨k.os.trans h.os, k.tape.trans h.tape, k.output.trans h.output, Nat.le_trans h.size k.size, fun b hb hA => (k.block b (Nat.lt_of_lt_of_le hb h.size) (fun e => by rcases hs b e with h1 | h1; exact hA h1; omega)).trans (h.block b hb hA)⟩
theorem Fr.mono {A A' : Nat → Prop} {w w' : World} (h : Fr A w w') (hs : ∀ b, b < w.heap.size → A b → A' b) : Fr A' w w' := ⟨h.os, h.tape, h.output, h.size, fun b hb hA => h.block b hb (fun e => hA (hs b hb e))⟩

/-- A row of another kind than all that a list more may turn. -/
theorem not_abook {w : World} {K b1 b2 b3 b4 : Nat} {e te ts : TypeId} {size s2 s3 s4 n n2 n3 n4 : Nat} {v s S M : Value} {xs x2 x3 x4 : List Value} {cur : Array Value} {fz : Nat × Nat} (h : w.ownsRow b1 e size v n xs) (hK : w.heap[K]? = some (.cells cur 58 fz)) (hs : w.ownsRow b2 te s2 s n2 x2) (hS : w.ownsRow b3 ts s3 S n3 x3)
    (_hM : w.ownsRow b4 3 s4 M n4 x4) (h1 : e ≠ 58) (h2 : e ≠ te) (h3 : e ≠ ts) (h4 : v.ownBlock = none ∨ v.ownBlock ≠ M.ownBlock) : ∀ k, v.ownBlock = some k → ¬ Abook K s S M k := by
  intro k hk hA
  rcases hA with rfl | hA | hA | hA
  · exact own_notin h hK h1 hk
  · rcases own_apartX h hs h2 with h5 | h5
    · rw [hk] at h5; cases h5
    · exact h5 (hk.trans hA)
  · rcases own_apartX h hS h3 with h5 | h5
    · rw [hk] at h5; cases h5
    · exact h5 (hk.trans hA)
  · rcases h4 with h5 | h5
    · rw [hk] at h5; cases h5
    · exact h5 (hk.trans hA)
theorem apart_int {w : World} {b b' : Nat} {e : TypeId} {size size' n n' : Nat} {v M : Value} {xs xs' : List Value} (h : w.ownsRow b e size v n xs) (hM : w.ownsRow b' 3 size' M n' xs') (hne : e ≠ 3) : v.ownBlock = none ∨ v.ownBlock ≠ M.ownBlock := own_apartX h hM hne
theorem apart_origin {A : Nat → Prop} {N : Nat} {v v' : Value} (h1 : ∀ k, v.ownBlock = some k → ¬ A k) (h2 : ∀ k, v.ownBlock = some k → k < N) (h3 : ∀ k, v'.ownBlock = some k → A k ∨ N ≤ k) : v'.ownBlock = none ∨ v'.ownBlock ≠ v.ownBlock := by
  cases hv : v'.ownBlock with
  | none => exact .inl rfl
  | some c =>
    refine .inr fun e => ?_
    rcases h3 c hv with h4 | h4
    · exact h1 c e.symm h4
    · have := h2 c e.symm; omega
theorem apart_symm {v v' : Value} (h : v'.ownBlock = none ∨ v'.ownBlock ≠ v.ownBlock) : v.ownBlock = none ∨ v.ownBlock ≠ v'.ownBlock := by
  rcases h with h | h
  · cases hv : v.ownBlock with
    | none => exact .inl rfl
    | some c => exact .inr (by rw [h]; simp)
  · exact .inr (Ne.symm h)
theorem Col.fr {A : Nat → Prop} {w w' : World} {ts te : TypeId} {size : Nat} {mk : Int → List Value} {S M : Value} {E : List (Sl × Int)} (h : Col w ts te size mk S M E) (hf : Fr A w w') (h1 : ∀ k, S.ownBlock = some k → ¬ A k) (h2 : ∀ k, M.ownBlock = some k → ¬ A k) (h3 : ∀ (i : Nat) (s : Sl) (m : Int), E[i]? = some (s, m) → ∀ k, s.val.ownBlock = some k → ¬ A k) : Col w' ts te size mk S M E :=
  ⟨own_fr h.own hf h1, own_fr h.marks hf h2, fun i s m hi => own_fr (h.all i s m hi) hf (h3 i s m hi), h.bnd⟩

/-- The book, in block K: n lists so far; rows, replies, votes. -/
structure Bk (w : World) (K n : Nat) (vR vP vV m0 m1 m3 : Value) (R P V : List (Sl × Int)) : Prop where
  blk : w.heap[K]? = some (.cells #[.int .i64 n, vR, vP, .slice none 0 0, vV, .slice none 0 0, .slice none 0 0, .slice none 0 0, m0, m1, .slice none 0 0, m3, .slice none 0 0, .slice none 0 0, .slice none 0 0] 58)
  cR : Col w 30 82 2 rowMk vR m0 R
  cP : Col w 31 27 7 repMk vP m1 P
  cV : Col w 36 84 20 votMk vV m3 V
  m01 : m0.ownBlock = none ∨ m0.ownBlock ≠ m1.ownBlock
  m03 : m0.ownBlock = none ∨ m0.ownBlock ≠ m3.ownBlock
  m13 : m1.ownBlock = none ∨ m1.ownBlock ≠ m3.ownBlock
theorem Bk.later {w w' : World} {K n : Nat} {vR vP vV m0 m1 m3 : Value} {R P V : List (Sl × Int)} (h : Bk w K n vR vP vV m0 m1 m3 R P V) (hb : Below w.heap.size w w') : Bk w' K n vR vP vV m0 m1 m3 R P V :=
  ⟨blk_later hb h.blk, h.cR.below hb, h.cP.below hb, h.cV.below hb, h.m01, h.m03, h.m13⟩

/-- A list of rows more: the whole book. -/
theorem Bk.row {w w' : World} {K n : Nat} {vR vP vV m0 m1 m3 S' M' s : Value} {R P V R' : List (Sl × Int)} {sn : Nat} {xs : List Value} (h : Bk w K n vR vP vV m0 m1 m3 R P V) (hs : w.ownsRow 0 82 2 s sn xs)
    (hK : w'.heap[K]? = some (.cells #[.int .i64 ((n : Int) + 1), S', vP, .slice none 0 0, vV, .slice none 0 0, .slice none 0 0, .slice none 0 0, M', m1, .slice none 0 0, m3, .slice none 0 0, .slice none 0 0, .slice none 0 0] 58)) (hC : Col w' 30 82 2 rowMk S' M' R') (hF : Fr (Abook K s vR m0) w w') (hM : ∀ k, M'.ownBlock = some k → Abook K s vR m0 k ∨ w.heap.size ≤ k) : Bk w' K (n + 1) S' vP vV M' m1 m3 R' P V := by
  have a1 := not_abook h.cP.marks h.blk hs h.cR.own h.cR.marks (by decide) (by decide) (by decide) (apart_symm h.m01)
  have a3 := not_abook h.cV.marks h.blk hs h.cR.own h.cR.marks (by decide) (by decide) (by decide) (apart_symm h.m03)
  refine ⟨by rw [hK]; rfl, hC, h.cP.fr hF (not_abook h.cP.own h.blk hs h.cR.own h.cR.marks (by decide) (by decide) (by decide) (apart_int h.cP.own h.cR.marks (by decide))) a1 (fun i t m hi => not_abook (h.cP.all i t m hi) h.blk hs h.cR.own h.cR.marks (by decide) (by decide) (by decide) (apart_int (h.cP.all i t m hi) h.cR.marks (by decide))), h.cV.fr hF (not_abook h.cV.own h.blk hs h.cR.own h.cR.marks (by decide) (by decide) (by decide) (apart_int h.cV.own h.cR.marks (by decide))) a3 (fun i t m hi => not_abook (h.cV.all i t m hi) h.blk hs h.cR.own h.cR.marks (by decide) (by decide) (by decide) (apart_int (h.cV.all i t m hi) h.cR.marks (by decide))), ?_, ?_, h.m13⟩
  · exact apart_origin a1 (fun k hk => (World.ownsRow.lt h.cP.marks k hk).2) hM
  · exact apart_origin a3 (fun k hk => (World.ownsRow.lt h.cV.marks k hk).2) hM
/-- A list of replies more. -/
theorem Bk.reply {w w' : World} {K n : Nat} {vR vP vV m0 m1 m3 S' M' s : Value} {R P V P' : List (Sl × Int)} {sn : Nat} {xs : List Value} (h : Bk w K n vR vP vV m0 m1 m3 R P V) (hs : w.ownsRow 0 27 7 s sn xs)
    (hK : w'.heap[K]? = some (.cells #[.int .i64 ((n : Int) + 1), vR, S', .slice none 0 0, vV, .slice none 0 0, .slice none 0 0, .slice none 0 0, m0, M', .slice none 0 0, m3, .slice none 0 0, .slice none 0 0, .slice none 0 0] 58)) (hC : Col w' 31 27 7 repMk S' M' P') (hF : Fr (Abook K s vP m1) w w') (hM : ∀ k, M'.ownBlock = some k → Abook K s vP m1 k ∨ w.heap.size ≤ k) : Bk w' K (n + 1) vR S' vV m0 M' m3 R P' V := by
  have a1 := not_abook h.cR.marks h.blk hs h.cP.own h.cP.marks (by decide) (by decide) (by decide) h.m01
  have a3 := not_abook h.cV.marks h.blk hs h.cP.own h.cP.marks (by decide) (by decide) (by decide) (apart_symm h.m13)
  refine ⟨by rw [hK]; rfl, h.cR.fr hF (not_abook h.cR.own h.blk hs h.cP.own h.cP.marks (by decide) (by decide) (by decide) (apart_int h.cR.own h.cP.marks (by decide))) a1 (fun i t m hi => not_abook (h.cR.all i t m hi) h.blk hs h.cP.own h.cP.marks (by decide) (by decide) (by decide) (apart_int (h.cR.all i t m hi) h.cP.marks (by decide))), hC, h.cV.fr hF (not_abook h.cV.own h.blk hs h.cP.own h.cP.marks (by decide) (by decide) (by decide) (apart_int h.cV.own h.cP.marks (by decide))) a3 (fun i t m hi => not_abook (h.cV.all i t m hi) h.blk hs h.cP.own h.cP.marks (by decide) (by decide) (by decide) (apart_int (h.cV.all i t m hi) h.cP.marks (by decide))), ?_, h.m03, ?_⟩
  · exact apart_symm (apart_origin a1 (fun k hk => (World.ownsRow.lt h.cR.marks k hk).2) hM)
  · exact apart_origin a3 (fun k hk => (World.ownsRow.lt h.cV.marks k hk).2) hM

/-- What the lists of a range may turn. -/
def Arng (K : Nat) (r d vR vP m0 m1 : Value) (b : Nat) : Prop := Abook K r vR m0 b ∨ Abook K d vP m1 b

set_option maxHeartbeats 2000000 in
set_option maxRecDepth 100000 in
theorem book_ranged (K n : Nat) (vR vP vV m0 m1 m3 : Value) (R P V : List (Sl × Int)) (rsrc rdst rseq rlo rhi : Int) (rra : Option Addr) (rrn rrc : Nat) (rda : Option Addr) (rdn rdc : Nat) (xs ys : List Value) (w : World) (hB : Bk w K n vR vP vV m0 m1 m3 R P V)
    (hr : w.ownsRow 0 82 2 (.slice rra rrn rrc) rrn xs) (hd : w.ownsRow 0 27 7 (.slice rda rdn rdc) rdn ys) (hor : OffB (Value.ownBlock (.slice rra rrn rrc)) R) (hod : OffB (Value.ownBlock (.slice rda rdn rdc)) P) (hn : n ≤ 9999) (h1 : rrn ≤ 255) (h2 : rdn ≤ 255) (h3 : R.length ≤ 10000) (h4 : P.length ≤ 10000) :
    Calls Try.prog 52 #[.pointer (some ⟨K, 0, none⟩), .agg (List.toArray (rR rsrc rdst rseq rlo rhi rra rrn rrc rda rdn rdc))] w fun e w' => e = .returned (.tuple #[]) ∧ ∃ (vR' vP' m0' m1' : Value) (R' P' : List (Sl × Int)), Bk w' K (n + 2) vR' vP' vV m0' m1' m3 R' P' V ∧ R'.length = R.length + 4 ∧ P'.length = P.length + 4 ∧ Fr (Arng K (.slice rra rrn rrc) (.slice rda rdn rdc) vR vP m0 m1) w w' ∧
      (∀ c, c < w.heap.size → ¬ Arng K (.slice rra rrn rrc) (.slice rda rdn rdc) vR vP m0 m1 c → OffB (some c) R → OffB (some c) R') ∧ (∀ c, c < w.heap.size → ¬ Arng K (.slice rra rrn rrc) (.slice rda rdn rdc) vR vP m0 m1 c → OffB (some c) P → OffB (some c) P') ∧
      (∀ k, vR'.ownBlock = some k ∨ vP'.ownBlock = some k ∨ m0'.ownBlock = some k ∨ m1'.ownBlock = some k → Arng K (.slice rra rrn rrc) (.slice rda rdn rdc) vR vP m0 m1 k ∨ w.heap.size ≤ k) := by
  have hb0 := later_alloc w (.cells (List.toArray (rR rsrc rdst rseq rlo rhi rra rrn rrc rda rdn rdc)) 33)
  have HB0 := hideU (hB.later hb0)
  have hr0 := own_below hr hb0
  have hd0 := own_below hd hb0
  have hW0 := heap_alloc_new w (.cells (List.toArray (rR rsrc rdst rseq rlo rhi rra rrn rrc rda rdn rdc)) 33)
  have hcW0 := blk_cell hW0
  have HR0 := hideU hr0
  have HD0 := hideU hd0
  have hKlt : K < w.heap.size := (Array.getElem?_eq_some_iff.1 hB.blk).1
  clear hB hr hd hr0 hd0
  go_enter Try.func52, Try.ntmps52
  go_upto_region 2 with (first | (go_at_call 101; go_must (refine (book_row K n vR vP vV m0 m1 m3 R rra rrn rrc xs _ HB0.out.blk HB0.out.cR HR0.out hor (by omega) h1 h3).mono ?_; rintro e w1 ⟨rfl, vR', m0', R', hK1, hC1, hl1, hF1, hO1, hS1, hM1⟩)))
  have HB1 := hideU (HB0.out.row HR0.out hK1 hC1 hF1 hM1)
  have hnd := not_abook HD0.out HB0.out.blk HR0.out HB0.out.cR.own HB0.out.cR.marks (by decide) (by decide) (by decide) (apart_int HD0.out HB0.out.cR.marks (by decide))
  have HD1 := hideU (own_fr HD0.out hF1 hnd)
  have hW1 : w1.heap[w.heap.size]? = some (.cells (List.toArray (rR rsrc rdst rseq rlo rhi rra rrn rrc rda rdn rdc)) 33) := blk_fr hW0 hF1 (by
    rintro (e | e | e | e)
    · omega
    · exact own_notin HR0.out hW0 (by decide) e.symm
    · exact own_notin HB0.out.cR.own hW0 (by decide) e.symm
    · exact own_notin HB0.out.cR.marks hW0 (by decide) e.symm)
  have hcW1 := blk_cell hW1
  clear hcW0
  go_wp2_with (first | (go_at_call 102; go_must (refine (book_reply K (n + 1) vR' vP vV m0' m1 m3 P rda rdn rdc ys _ HB1.out.blk HB1.out.cP HD1.out hod (by omega) h2 h4).mono ?_; rintro e w2 ⟨rfl, vP', m1', P', hK2, hC2, hl2, hF2, hO2, hS2, hM2⟩)))
  have HB2 := HB1.out.reply HD1.out hK2 hC2 hF2 hM2
  go_end0
  have hsz1 : w.heap.size ≤ w1.heap.size := Nat.le_trans hb0.size hF1.size
  have hsub : ∀ b, Abook K (.slice rda rdn rdc) vP m1 b → Arng K (.slice rra rrn rrc) (.slice rda rdn rdc) vR vP m0 m1 b := fun b h => .inr h
  have hsz0 : (w.alloc (.cells (List.toArray (rR rsrc rdst rseq rlo rhi rra rrn rrc rda rdn rdc)) 33)).heap.size = w.heap.size + 1 := by simp
  refine ⟨rfl, vR', vP', m0', m1', R', P', HB2, hl1, hl2, ?_, ?_, ?_, ?_⟩
  · exact ((Fr.refl _ w).later hb0).trans (Fr.trans (hF1.mono (A' := Arng K (.slice rra rrn rrc) (.slice rda rdn rdc) vR vP m0 m1) (fun b _ h => .inl h)) hF2 (fun b h => .inl (.inr h))) (fun b h => .inl h)
  · exact fun c hc hA ho => hO1 c (by omega) (fun h => hA (.inl h)) ho
  · exact fun c hc hA ho => hO2 c (by omega) (fun h => hA (.inr h)) ho
  · rintro k (hk | hk | hk | hk)
    · rcases hS1 k hk with h | h
      · exact .inl (.inl h)
      · exact .inr (by omega)
    · rcases hS2 k hk with h | h
      · exact .inl (.inr h)
      · exact .inr (by omega)
    · rcases hM1 k hk with h | h
      · exact .inl (.inl h)
      · exact .inr (by omega)
    · rcases hM2 k hk with h | h
      · exact .inl (.inr h)
      · exact .inr (by omega)

end Go.Proofs.Ytignemioillaiaa

namespace Go.Proofs.Ytignemioillaiaa
open Go.RowKit

theorem OffB.none (E : List (Sl × Int)) : OffB Option.none E := fun _ _ _ _ _ _ e => by cases e
/-- A row of another kind than all that the lists of a range may turn. -/
theorem not_arng {w : World} {K n : Nat} {vR vP vV m0 m1 m3 : Value} {R P V : List (Sl × Int)} {b b2 b3 : Nat} {e : TypeId} {size n1 n2 n3 : Nat} {v r d : Value} {xs x2 x3 : List Value} (hB : Bk w K n vR vP vV m0 m1 m3 R P V) (_hr : w.ownsRow b2 82 2 r n2 x2) (_hd : w.ownsRow b3 27 7 d n3 x3) (h : w.ownsRow b e size v n1 xs)
    (h1 : e ≠ 58) (h2 : e ≠ 30) (h3 : e ≠ 31) (h4 : e ≠ 3) (h5 : v.ownBlock = none ∨ v.ownBlock ≠ r.ownBlock) (h6 : v.ownBlock = none ∨ v.ownBlock ≠ d.ownBlock) : ∀ k, v.ownBlock = some k → ¬ Arng K r d vR vP m0 m1 k := by
  intro k hk hA
  have no : ∀ {u : Value}, (v.ownBlock = none ∨ v.ownBlock ≠ u.ownBlock) → some k ≠ u.ownBlock := fun h7 e => by
    rcases h7 with h8 | h8
    · rw [hk] at h8; cases h8
    · exact h8 (hk.trans e)
  rcases hA with (rfl | hA | hA | hA) | (rfl | hA | hA | hA)
  · exact own_notin h hB.blk h1 hk
  · exact no h5 hA
  · exact no (own_apartX h hB.cR.own h2) hA
  · exact no (own_apartX h hB.cR.marks h4) hA
  · exact own_notin h hB.blk h1 hk
  · exact no h6 hA
  · exact no (own_apartX h hB.cP.own h3) hA
  · exact no (own_apartX h hB.cP.marks h4) hA

/-- Ranges whose lists wait: each owned, none in the book yet, no two in one block. -/
structure Pend (w : World) (R P : List (Sl × Int)) (L : List Rng) : Prop where
  all : ∀ x ∈ L, x.Own 0 w ∧ OffB x.rs.val.ownBlock R ∧ OffB x.ds.val.ownBlock P ∧ x.rs.len ≤ 255 ∧ x.ds.len ≤ 255
  ap : L.Pairwise (fun x y => (y.rs.val.ownBlock = none ∨ y.rs.val.ownBlock ≠ x.rs.val.ownBlock) ∧ (y.ds.val.ownBlock = none ∨ y.ds.val.ownBlock ≠ x.ds.val.ownBlock))

theorem Pend.later {w w' : World} {R P : List (Sl × Int)} {L : List Rng} (h : Pend w R P L) (hb : Below w.heap.size w w') : Pend w' R P L := ⟨fun x hx => ⟨(h.all x hx).1.below hb, (h.all x hx).2⟩, h.ap⟩

theorem Pend.step {w w' : World} {K n : Nat} {vR vP vV m0 m1 m3 : Value} {R P V R' P' : List (Sl × Int)} {x : Rng} {L : List Rng} (h : Pend w R P (x :: L)) (hB : Bk w K n vR vP vV m0 m1 m3 R P V) (hF : Fr (Arng K x.rs.val x.ds.val vR vP m0 m1) w w')
    (hR : ∀ c, c < w.heap.size → ¬ Arng K x.rs.val x.ds.val vR vP m0 m1 c → OffB (some c) R → OffB (some c) R') (hP : ∀ c, c < w.heap.size → ¬ Arng K x.rs.val x.ds.val vR vP m0 m1 c → OffB (some c) P → OffB (some c) P') : Pend w' R' P' L := by
  have h0 := h.all x (List.mem_cons_self ..)
  obtain ⟨hap, hap2⟩ := List.pairwise_cons.1 h.ap
  refine ⟨fun y hy => ?_, hap2⟩
  have h1 := h.all y (List.mem_cons_of_mem _ hy)
  have h2 := hap y hy
  have nr := not_arng hB h0.1.rows h0.1.dups h1.1.rows (by decide) (by decide) (by decide) (by decide) h2.1 (own_apartX h1.1.rows h0.1.dups (by decide))
  have nd := not_arng hB h0.1.rows h0.1.dups h1.1.dups (by decide) (by decide) (by decide) (by decide) (own_apartX h1.1.dups h0.1.rows (by decide)) h2.2
  refine ⟨⟨own_fr h1.1.rows hF nr, own_fr h1.1.dups hF nd⟩, ?_, ?_, h1.2.2.2⟩
  · cases hb : y.rs.val.ownBlock with
    | none => exact OffB.none _
    | some c => exact hR c (World.ownsRow.lt h1.1.rows c hb).2 (nr c hb) (hb ▸ h1.2.1)
  · cases hb : y.ds.val.ownBlock with
    | none => exact OffB.none _
    | some c => exact hP c (World.ownsRow.lt h1.1.dups c hb).2 (nd c hb) (hb ▸ h1.2.2.1)

/-- All that a message's lists may turn. -/
def Amsg (K : Nat) (vR vP vV m0 m1 m3 vs : Value) (L : List Rng) (b : Nat) : Prop :=
  b = K ∨ some b = vR.ownBlock ∨ some b = vP.ownBlock ∨ some b = vV.ownBlock ∨ some b = m0.ownBlock ∨ some b = m1.ownBlock ∨ some b = m3.ownBlock ∨ some b = vs.ownBlock ∨ ∃ x ∈ L, some b = x.rs.val.ownBlock ∨ some b = x.ds.val.ownBlock

/-- Somewhere in a message: the book so far, what is turned, where the book's lists lie. -/
structure Mst (w wr : World) (A : Nat → Prop) (K n : Nat) (vR vP vV m0 m1 m3 : Value) (R P V : List (Sl × Int)) (L : List Rng) (ZR ZP : Nat → Prop) : Prop where
  bk : Bk wr K n vR vP vV m0 m1 m3 R P V
  pend : Pend wr R P L
  fr : Fr A w wr
  kA : A K
  lA : ∀ x ∈ L, ∀ k, some k = x.rs.val.ownBlock ∨ some k = x.ds.val.ownBlock → A k ∨ w.heap.size ≤ k
  org : ∀ k, vR.ownBlock = some k ∨ vP.ownBlock = some k ∨ m0.ownBlock = some k ∨ m1.ownBlock = some k → A k ∨ w.heap.size ≤ k
  oR : ∀ c, c < w.heap.size → ¬ A c → ZR c → OffB (some c) R
  oP : ∀ c, c < w.heap.size → ¬ A c → ZP c → OffB (some c) P
theorem Mst.later {w wr w' : World} {A : Nat → Prop} {K n : Nat} {vR vP vV m0 m1 m3 : Value} {R P V : List (Sl × Int)} {L : List Rng} {ZR ZP : Nat → Prop} (h : Mst w wr A K n vR vP vV m0 m1 m3 R P V L ZR ZP) (hb : Below wr.heap.size wr w') : Mst w w' A K n vR vP vV m0 m1 m3 R P V L ZR ZP :=
  ⟨h.bk.later hb, h.pend.later hb, h.fr.later hb, h.kA, h.lA, h.org, h.oR, h.oP⟩

theorem Mst.arng {w wr : World} {A : Nat → Prop} {K n : Nat} {vR vP vV m0 m1 m3 : Value} {R P V : List (Sl × Int)} {x : Rng} {L : List Rng} {ZR ZP : Nat → Prop} (h : Mst w wr A K n vR vP vV m0 m1 m3 R P V (x :: L) ZR ZP) : ∀ b, Arng K x.rs.val x.ds.val vR vP m0 m1 b → A b ∨ w.heap.size ≤ b := by
  rintro b ((rfl | hb | hb | hb) | (rfl | hb | hb | hb))
  · exact .inl h.kA
  · exact h.lA x (List.mem_cons_self ..) b (.inl hb)
  · exact h.org b (.inl hb.symm)
  · exact h.org b (.inr (.inr (.inl hb.symm)))
  · exact .inl h.kA
  · exact h.lA x (List.mem_cons_self ..) b (.inr hb)
  · exact h.org b (.inr (.inl hb.symm))
  · exact h.org b (.inr (.inr (.inr hb.symm)))

set_option maxRecDepth 100000 in
/-- The book takes the first of the waiting ranges. -/
theorem mst_ranged {w wr : World} {A : Nat → Prop} {K n : Nat} {vR vP vV m0 m1 m3 : Value} {R P V : List (Sl × Int)} {rsrc rdst rseq rlo rhi : Int} {rra : Option Addr} {rrn rrc : Nat} {rda : Option Addr} {rdn rdc : Nat} {rows : List Row} {dups : List Rep} {L : List Rng} {ZR ZP : Nat → Prop}
    (h : Mst w wr A K n vR vP vV m0 m1 m3 R P V (⟨rsrc, rdst, rseq, rlo, rhi, ⟨rra, rrn, rrc⟩, ⟨rda, rdn, rdc⟩, rows, dups⟩ :: L) ZR ZP) (hn : n ≤ 9999) (h3 : R.length ≤ 10000) (h4 : P.length ≤ 10000) :
    Calls Try.prog 52 #[.pointer (some ⟨K, 0, none⟩), .agg (List.toArray (rR rsrc rdst rseq rlo rhi rra rrn rrc rda rdn rdc))] wr fun e w' => e = .returned (.tuple #[]) ∧ ∃ (vR' vP' m0' m1' : Value) (R' P' : List (Sl × Int)), Mst w w' A K (n + 2) vR' vP' vV m0' m1' m3 R' P' V L ZR ZP ∧ R'.length = R.length + 4 ∧ P'.length = P.length + 4 ∧ Fr (Arng K (.slice rra rrn rrc) (.slice rda rdn rdc) vR vP m0 m1) wr w' := by
  have h0 := h.pend.all _ (List.mem_cons_self ..)
  obtain ⟨⟨ho1, ho2⟩, hf1, hf2, hl1, hl2⟩ := h0
  dsimp only [Sl.val] at ho1 ho2 hf1 hf2 hl1 hl2
  have e1 : rrn = rows.length := by rcases ho1.2 with ⟨e, e2⟩ | ⟨_, _, _, e, _⟩; cases e; exact e2.symm; cases e; rfl
  have e2 : rdn = dups.length := by rcases ho2.2 with ⟨e, e2⟩ | ⟨_, _, _, e, _⟩; cases e; exact e2.symm; cases e; rfl
  rw [← e1] at ho1
  rw [← e2] at ho2
  refine (book_ranged K n vR vP vV m0 m1 m3 R P V rsrc rdst rseq rlo rhi rra rrn rrc rda rdn rdc _ _ wr h.bk ho1 ho2 hf1 hf2 hn hl1 hl2 h3 h4).mono ?_
  rintro e w' ⟨he, vR', vP', m0', m1', R', P', hB, l1, l2, hF, o1, o2, hor⟩
  refine ⟨he, vR', vP', m0', m1', R', P', ⟨hB, h.pend.step h.bk hF o1 o2, h.fr.trans hF h.arng, h.kA, fun x hx => h.lA x (List.mem_cons_of_mem _ hx), fun k hk => ?_, fun c hc hA hz => o1 c (Nat.lt_of_lt_of_le hc h.fr.size) (fun hx => by rcases h.arng c hx with h5 | h5; exact hA h5; omega) (h.oR c hc hA hz), fun c hc hA hz => o2 c (Nat.lt_of_lt_of_le hc h.fr.size) (fun hx => by rcases h.arng c hx with h5 | h5; exact hA h5; omega) (h.oP c hc hA hz)⟩, l1, l2, hF⟩
  rcases hor k hk with h5 | h5
  · exact h.arng k h5
  · exact .inr (Nat.le_trans h.fr.size h5)
/-- A block of another kind than all that the lists of a range may turn. -/
theorem arng_blk {w : World} {K n : Nat} {vR vP vV m0 m1 m3 : Value} {R P V : List (Sl × Int)} {b2 b3 n2 n3 B : Nat} {r d : Value} {x2 x3 : List Value} {cur : Array Value} {e : TypeId} {fz : Nat × Nat} (hB : Bk w K n vR vP vV m0 m1 m3 R P V) (hr : w.ownsRow b2 82 2 r n2 x2) (hd : w.ownsRow b3 27 7 d n3 x3) (hX : w.heap[B]? = some (.cells cur e fz))
    (h0 : 58 ≠ e) (h1 : 82 ≠ e) (h2 : 30 ≠ e) (h3 : 27 ≠ e) (h4 : 31 ≠ e) (h5 : 3 ≠ e) : ¬ Arng K r d vR vP m0 m1 B := by
  have hk : B ≠ K := by
    rintro rfl
    have h6 := hB.blk
    rw [hX] at h6
    injection h6 with h6
    injection h6 with h7 h8
    exact h0 h8.symm
  rintro ((hb | hb | hb | hb) | (hb | hb | hb | hb))
  · exact hk hb
  · exact own_notin hr hX h1 hb.symm
  · exact own_notin hB.cR.own hX h2 hb.symm
  · exact own_notin hB.cR.marks hX h5 hb.symm
  · exact hk hb
  · exact own_notin hd hX h3 hb.symm
  · exact own_notin hB.cP.own hX h4 hb.symm
  · exact own_notin hB.cP.marks hX h5 hb.symm
/-- A list of votes more: the whole book. -/
theorem Bk.vote {w w' : World} {K n : Nat} {vR vP vV m0 m1 m3 S' M' s : Value} {R P V V' : List (Sl × Int)} {sn : Nat} {xs : List Value} (h : Bk w K n vR vP vV m0 m1 m3 R P V) (hs : w.ownsRow 0 84 20 s sn xs)
    (hK : w'.heap[K]? = some (.cells #[.int .i64 ((n : Int) + 1), vR, vP, .slice none 0 0, S', .slice none 0 0, .slice none 0 0, .slice none 0 0, m0, m1, .slice none 0 0, M', .slice none 0 0, .slice none 0 0, .slice none 0 0] 58)) (hC : Col w' 36 84 20 votMk S' M' V') (hF : Fr (Abook K s vV m3) w w') (hM : ∀ k, M'.ownBlock = some k → Abook K s vV m3 k ∨ w.heap.size ≤ k) : Bk w' K (n + 1) vR vP S' m0 m1 M' R P V' := by
  have a0 := not_abook h.cR.marks h.blk hs h.cV.own h.cV.marks (by decide) (by decide) (by decide) h.m03
  have a1 := not_abook h.cP.marks h.blk hs h.cV.own h.cV.marks (by decide) (by decide) (by decide) h.m13
  refine ⟨by rw [hK]; rfl, h.cR.fr hF (not_abook h.cR.own h.blk hs h.cV.own h.cV.marks (by decide) (by decide) (by decide) (apart_int h.cR.own h.cV.marks (by decide))) a0 (fun i t m hi => not_abook (h.cR.all i t m hi) h.blk hs h.cV.own h.cV.marks (by decide) (by decide) (by decide) (apart_int (h.cR.all i t m hi) h.cV.marks (by decide))), h.cP.fr hF (not_abook h.cP.own h.blk hs h.cV.own h.cV.marks (by decide) (by decide) (by decide) (apart_int h.cP.own h.cV.marks (by decide))) a1 (fun i t m hi => not_abook (h.cP.all i t m hi) h.blk hs h.cV.own h.cV.marks (by decide) (by decide) (by decide) (apart_int (h.cP.all i t m hi) h.cV.marks (by decide))), hC, h.m01, ?_, ?_⟩
  · exact apart_symm (apart_origin a0 (fun k hk => (World.ownsRow.lt h.cR.marks k hk).2) hM)
  · exact apart_symm (apart_origin a1 (fun k hk => (World.ownsRow.lt h.cP.marks k hk).2) hM)
end Go.Proofs.Ytignemioillaiaa

