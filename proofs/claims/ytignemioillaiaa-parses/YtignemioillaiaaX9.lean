/- The book: what its lists read. The book: its votes read as their marks. -/
import Derived.Test.YtignemioillaiaaD4
import Derived.Test.YtignemioillaiaaX7
import Derived.Test.YtignemioillaiaaE3
import Derived.Test.YtignemioillaiaaY1
namespace Go.Proofs.Ytignemioillaiaa
open Go.RowKit

theorem own_at {w : World} {b : Nat} {e : TypeId} {size n : Nat} {v : Value} {xs : List Value} (h : w.ownsRow b e size v n xs) (hn : 0 < n) : ∃ g c, v = .slice (some ⟨g, 0, none⟩) n c ∧ n ≤ maxLen ∧ ∀ (j : Nat) (u : Value), xs[j]? = some u → w.cell? ⟨g, j, none⟩ = some u := by
  rcases h.2 with ⟨_, h0⟩ | ⟨g, cap, cur, rfl, h2, h3, h4, h5, h6, h7⟩
  · omega
  · refine ⟨g, cap, rfl, Nat.le_trans h4 h5, fun j u hj => ?_⟩
    have := World.ownsRow.cells h (g := g) rfl j u hj
    have hadd : (⟨g, 0, none⟩ : Addr).add j = ⟨g, j, none⟩ := by unfold Addr.add; split <;> simp_all
    rw [hadd] at this
    exact this

theorem Col.at {w : World} {ts te : TypeId} {size : Nat} {mk : Int → List Value} {S M : Value} {E : List (Sl × Int)} (h : Col w ts te size mk S M E) {i : Nat} {s : Sl} {m : Int} (hi : E[i]? = some (s, m)) :
    ∃ g c g' c', S = .slice (some ⟨g, 0, none⟩) E.length c ∧ M = .slice (some ⟨g', 0, none⟩) E.length c' ∧ E.length ≤ maxLen ∧ w.cell? ⟨g, i, none⟩ = some s.val ∧ w.cell? ⟨g', i, none⟩ = some (.int .i64 m) := by
  have hl : 0 < E.length := by have := (List.getElem?_eq_some_iff.1 hi).1; omega
  obtain ⟨g, c, h1, h2, h3⟩ := own_at h.own hl
  obtain ⟨g', c', h1', _, h3'⟩ := own_at h.marks hl
  exact ⟨g, c, g', c', h1, h1', h2, h3 i _ (by simp [hi]), h3' i _ (by simp [hi])⟩

theorem rep_at (cs : List Value) : ∀ (n k j : Nat) (u : Value), k < n → cs[j]? = some u → (List.replicate n cs).flatten[k * cs.length + j]? = some u := by
  intro n
  induction n with
  | zero => intro k j u hk; omega
  | succ n ih =>
    intro k j u hk hj
    have hjl := (List.getElem?_eq_some_iff.1 hj).1
    rw [List.replicate_succ, List.flatten_cons]
    cases k with
    | zero => rw [Nat.zero_mul, Nat.zero_add, List.getElem?_append_left hjl]; exact hj
    | succ k =>
      rw [List.getElem?_append_right (by rw [Nat.add_mul]; omega)]
      have : (k + 1) * cs.length + j - cs.length = k * cs.length + j := by rw [Nat.add_mul]; omega
      rw [this]
      exact ih k j u (by omega) hj

theorem Marked.at {w : World} {e : TypeId} {size : Nat} {a : Option Addr} {n c : Nat} {cs : List Value} (h : Marked w e size ⟨a, n, c⟩ cs) (hc : cs.length = size) {k : Nat} (hk : k < n) :
    ∃ g, a = some ⟨g, 0, none⟩ ∧ n ≤ maxLen ∧ ∀ (j : Nat) (u : Value), cs[j]? = some u → w.cell? ⟨g, k * size + j, none⟩ = some u := by
  obtain ⟨g, c', h1, h2, h3⟩ := own_at h (by dsimp only; omega)
  simp only [Sl.val, Value.slice.injEq] at h1
  obtain ⟨rfl, _, rfl⟩ := h1
  refine ⟨g, rfl, h2, fun j u hj => h3 _ u ?_⟩
  subst hc
  exact rep_at cs n k j u hk hj
theorem Marked.max {w : World} {e : TypeId} {size : Nat} {a : Option Addr} {n c : Nat} {cs : List Value} (h : Marked w e size ⟨a, n, c⟩ cs) : n ≤ maxLen := by
  by_cases hn : 0 < n
  · obtain ⟨_, _, _, h2, _⟩ := own_at h hn
    exact h2
  · have : n = 0 := by omega
    subst this
    exact Nat.zero_le _
theorem Col.len {w : World} {ts te : TypeId} {size : Nat} {mk : Int → List Value} {S M : Value} {E : List (Sl × Int)} (h : Col w ts te size mk S M E) : ∃ a c, S = .slice a E.length c := by
  obtain ⟨a, n, c, hS⟩ := own_shape h.own
  have h1 := h.own
  rw [hS] at h1
  have := own_lenX h1
  subst this
  exact ⟨a, c, hS⟩
theorem below_drewN {B : Nat} {w w' : World} (h : Below B w w') (n : Nat) : Below B w (w'.drewN n) := ⟨h.os, h.tape, h.output, h.size, h.block⟩
end Go.Proofs.Ytignemioillaiaa

namespace Go.Proofs.Ytignemioillaiaa
open Go.RowKit

set_option maxHeartbeats 8000000 in
set_option maxRecDepth 100000 in
theorem book_more (K n : Nat) (vR vP vV m0 m1 m3 : Value) (R P V : List (Sl × Int)) (w : World) (hB : Bk w K n vR vP vV m0 m1 m3 R P V) :
    Calls Try.prog 53 #[.pointer (some ⟨K, 0, none⟩)] w fun e w' => e = .returned (.bool true) ∧ Below w.heap.size w w' := by
  have HB := hideU hB
  have hcK := blk_cell hB.blk
  clear hB
  go_enter Try.func53, Try.ntmps53
  obtain ⟨Sa, Sc, hSe⟩ := HB.out.cV.len
  subst hSe
  go_wp2_with fail
  go_loopw [3] (fun i wr => ∃ k : Nat, k ≤ V.length ∧ i = .int .i64 k ∧ Below w.heap.size w wr) (fun i _ => V.length - (intOf i).toNat)
  case atStart => exact ⟨0, Nat.zero_le _, rfl, Below.refl _ w⟩
  case round =>
    obtain ⟨k, hk, rfl, hT⟩ := hrel
    have hcK := blk_cell (HB.out.later hT).blk
    by_cases hlt : k < V.length
    · have hdk : decide ((k : Int) < (V.length : Int)) = true := by simp; omega
      obtain ⟨⟨⟨ta, tl, tc⟩, m⟩, hkm⟩ : ∃ x, V[k]? = some x := ⟨V[k]'hlt, by simp⟩
      have hbm := HB.out.cV.bnd k _ m hkm
      have hw1 : IntKind.i64.wrap (77 + m) = 77 + m := by rw [IntKind.wrap_i64]; omega
      have hw2 : IntKind.u32.wrap (77 + m) = 77 + m := by have e : IntKind.u32.wrap (77 + m) = (77 + m) % 4294967296 := rfl; rw [e]; omega
      have HMk : Hid (∀ wx : World, Below w.heap.size w wx → Marked wx _ 20 ⟨ta, tl, tc⟩ (votMk m)) := fun wx hx => (HB.out.cV.below hx).all k _ m hkm
      have hmax := (HMk.out _ (Below.refl _ w)).max
      unfold maxLen at hmax
      have hi1 : (0 : Int) ≤ (k : Int) := by omega
      have hi2 : (k : Int) < (V.length : Int) := by omega
      have hEm : V.length ≤ maxLen := by obtain ⟨_, _, _, _, _, _, h, _⟩ := HB.out.cV.at hkm; exact h
      unfold maxLen at hEm
      have HAt : Hid (∃ g c g' c', Value.slice Sa V.length Sc = .slice (some ⟨g, 0, none⟩) V.length c ∧ m3 = .slice (some ⟨g', 0, none⟩) V.length c' ∧ ∀ wx : World, Below w.heap.size w wx → wx.cell? ⟨g, k, none⟩ = some (.slice ta tl tc) ∧ wx.cell? ⟨g', k, none⟩ = some (.int .i64 m)) := by
        obtain ⟨g, c, g', c', e1, e2, _, h3, h4⟩ := HB.out.cV.at hkm
        refine ⟨g, c, g', c', e1, e2, fun wx hx => ?_⟩
        obtain ⟨g2, c2, g2', c2', e3, e4, _, h5, h6⟩ := (HB.out.cV.below hx).at hkm
        rw [e1] at e3
        rw [e2] at e4
        cases e3
        cases e4
        exact ⟨h5, h6⟩
      obtain ⟨g, c, g', c', hSe, hMe, hAt⟩ := HAt.out
      cases hSe
      subst hMe
      clear HAt hkm
      have HAt := hideU hAt
      have hc1 := (HAt.out _ hT).1
      go_wp2_with fail
      go_loopw [4] (fun i wx => ∃ q : Nat, q ≤ tl ∧ i = .int .i64 q ∧ Below w.heap.size w wx) (fun i _ => tl - (intOf i).toNat)
      case atStart => exact ⟨0, Nat.zero_le _, rfl, hT⟩
      case round =>
        clear hcK hc1 hT
        obtain ⟨q, hq, rfl, hT⟩ := hrel
        have hcK := blk_cell (HB.out.later hT).blk
        have hc1 := (HAt.out _ hT).1
        have hc2 := (HAt.out _ hT).2
        by_cases hlt2 : q < tl
        · have hdq : decide ((q : Int) < (tl : Int)) = true := by simp; omega
          obtain ⟨gt, rfl, _, hcm⟩ := (HMk.out _ hT).at rfl hlt2
          unfold votMk at hcm
          have hi3 : (0 : Int) ≤ (q : Int) := by omega
          have hi4 : (q : Int) < (tl : Int) := by omega
          go_upto_region 9 with (first | (with_reducible show AtL 42 84 ..; go_must (refine wpList_load_mem rfl _ _ rfl gt (q * 20) rfl 20 _ Try.underlying84 rfl sz_vot (rV (77 + m) 0 0 0 0 0 0 0 0 0 0 0 0 0 0 0 none 0 0 none 0 0 0 0) rfl hcm ?_)) | (with_reducible show AtS 84 5 ..; go_must (refine wpList_store_blk rfl _ _ _ rfl rfl wr.heap.size 0 rfl (rV (77 + m) 0 0 0 0 0 0 0 0 0 0 0 0 0 0 0 none 0 0 none 0 0 0 0) rfl _ sz_vot rfl rfl _ _ (heap_alloc_new wr (.cells (List.toArray oxV) 84)) rfl (rV (77 + m) 0 0 0 0 0 0 0 0 0 0 0 0 0 0 0 none 0 0 none 0 0 0 0) rfl ?_; intro w5 hW5 hO5; have hT5 := (later_alloc wr (.cells (List.toArray oxV) 84)).trans (hO5.below (Nat.le_refl _)))) | (with_reducible show AtL 44 35 ..; go_must (refine wpList_load_blk rfl _ _ rfl wr.heap.size 3 rfl 17 _ Try.underlying35 rfl sz_cmd _ _ hW5 rfl oxC rfl ?_)) | (go_at_call 43; go_must (refine (samecommand_any 0 0 0 0 0 0 0 0 0 0 0 0 0 none 0 0 none 0 0 0 0 none 0 0 none 0 0 [] [] _ (noRng_in _).rows (noRng_in _).dups (noRng_in _).rows (noRng_in _).dups).mono ?_; rintro e w6 ⟨rfl, hb6⟩)))
          have hT6 := hT.trans ((hT5.trans (hb6.mono hT5.size)).mono hT.size)
          have hcL := blk_cell (blk_later hb6 hW5)
          have hcK6 := blk_cell (HB.out.later hT6).blk
          have hc26 := (HAt.out _ hT6).2
          clear hcK hc1 hc2 hcm
          go_quiet (fail)
          go_wp2_with fail
          go_roundw
          case rel => exact ⟨q + 1, by omega, by go_num, below_drewN hT6 _⟩
          case measure => simp [intOf]; omega
        · have hdq : decide ((q : Int) < (tl : Int)) = false := by simp; omega
          go_wp2_with fail
          go_roundw
          case rel => exact ⟨k + 1, by omega, by go_num, hT⟩
          case measure => simp [intOf]; omega
    · have hdk : decide ((k : Int) < (V.length : Int)) = false := by simp; omega
      clear hcK
      have hcK := blk_cell (HB.out.later hT).blk
      go_wp2_with fail
      refine wp_loop_rounds 1 ?_
      rw [rounds_succ]
      go_wp2_with fail
      refine wp_loop_rounds 1 ?_
      rw [rounds_succ]
      go_wp2_with fail
      go_ret
      exact ⟨rfl, hT⟩

end Go.Proofs.Ytignemioillaiaa

