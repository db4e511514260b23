/- Cells in a row, and lists of equal length. A list of its own: 'append(nil, xs...)'; ownRange. ownRange: a range with lists of its own. ownRange, with what it owns. -/
import Derived.Test.YtignemioillaiaaD4
import Derived.Test.YtignemioillaiaaRows
import Derived.Test.YtignemioillaiaaP
import Derived.WalkLawsBesides
import Derived.Laws.AppendOwnNone
namespace Go.Proofs.Ytignemioillaiaa
open Go.RowKit

theorem flat_cells {size : Nat} : ∀ (xs : List (List Value)) (_ : ∀ x ∈ xs, x.length = size) (j : Nat) (u : Value), xs.flatten[j]? = some u → ∃ i x k, xs[i]? = some x ∧ x[k]? = some u ∧ j = i * size + k
  | [], _, j, u, h => by simp at h
  | x :: xs, hall, j, u, h => by
    have hx : x.length = size := hall x (by simp)
    rw [List.flatten_cons] at h
    by_cases hj : j < x.length
    · rw [List.getElem?_append_left hj] at h
      exact ⟨0, x, j, rfl, h, by omega⟩
    · rw [List.getElem?_append_right (by omega)] at h
      obtain ⟨i, y, k, h1, h2, h3⟩ := flat_cells xs (fun y hy => hall y (by simp [hy])) _ u h
      exact ⟨i + 1, y, k, by simpa using h1, h2, by rw [Nat.add_mul]; omega⟩

theorem flat_at {size : Nat} : ∀ (xs : List (List Value)) (_ : ∀ x ∈ xs, x.length = size) (i : Nat) (x : List Value) (k : Nat) (u : Value), xs[i]? = some x → x[k]? = some u → xs.flatten[i * size + k]? = some u
  | [], _, i, x, k, u, h, _ => by simp at h
  | y :: xs, hall, i, x, k, u, h, hu => by
    have hy : y.length = size := hall y (by simp)
    rw [List.flatten_cons]
    cases i with
    | zero =>
      simp at h; subst h
      have := (List.getElem?_eq_some_iff.1 hu).1
      rw [List.getElem?_append_left (by omega)]
      simpa using hu
    | succ i =>
      rw [List.getElem?_append_right (by rw [Nat.add_mul]; omega)]
      have := flat_at xs (fun z hz => hall z (by simp [hz])) i x k u (by simpa using h) hu
      rw [show (i + 1) * size + k - y.length = i * size + k by rw [Nat.add_mul]; omega]
      exact this

theorem flat_len {size : Nat} : ∀ (xs : List (List Value)) (_ : ∀ x ∈ xs, x.length = size), xs.flatten.length = xs.length * size
  | [], _ => by simp
  | x :: xs, hall => by
    rw [List.flatten_cons, List.length_append, flat_len xs (fun y hy => hall y (by simp [hy])), hall x (by simp), List.length_cons, Nat.add_mul]; omega

/-- What a slice in memory holds, cell by cell, as an append of it asks. -/
theorem SlIn.news {B : Nat} {w : World} {s : Sl} {size : Nat} {xs : List (List Value)} (h : SlIn B w s size xs) (hall : ∀ x ∈ xs, x.length = size) (ad : Addr) (ha : s.a = some ad) (hpos : 0 < s.len) :
    ∀ (j : Nat) (u : Value), xs.flatten[j]? = some u → w.cell? (ad.add j) = some u := by
  intro j u hu
  obtain ⟨b, off, ha', _, hc⟩ := h.at' hpos
  rw [ha] at ha'
  simp only [Option.some.injEq] at ha'
  subst ha'
  obtain ⟨i, x, k, h1, h2, rfl⟩ := flat_cells xs hall j u hu
  have := hc i x h1 k u h2
  have hadd : (⟨b, off, none⟩ : Addr).add (i * size + k) = ⟨b, off + (i * size + k), none⟩ := by unfold Addr.add; split <;> simp_all
  rw [hadd, ← Nat.add_assoc]; exact this

/-- What the call itself made, as a slice in memory. -/
theorem own_slin {w : World} {base : Nat} {e : TypeId} {size : Nat} {v : Value} {xs : List (List Value)} (hown : w.ownsRow base e size v xs.length xs.flatten) (hall : ∀ x ∈ xs, x.length = size) :
    ∃ a n c, v = .slice a n c ∧ SlIn w.heap.size w ⟨a, n, c⟩ size xs ∧ (a = none → c = 0) := by
  rcases hown.2 with ⟨rfl, hn⟩ | ⟨g, cap, cur, rfl, hb, hgg, hnc, hcm, hcs, htake⟩
  · exact ⟨none, 0, 0, rfl, ⟨hn.symm, Nat.le_refl _, Nat.zero_le _, fun h => absurd h (Nat.lt_irrefl 0)⟩, fun _ => rfl⟩
  · refine ⟨_, _, _, rfl, ⟨rfl, hnc, hcm, fun _ => ⟨g, 0, rfl, (Array.getElem?_eq_some_iff.1 hgg).1, fun i x hx j u hu => ?_⟩⟩, fun h => by cases h⟩
    have := hown.cells (g := g) rfl (i * size + j) u (flat_at xs hall i x j u hx hu)
    have hadd : (⟨g, 0, none⟩ : Addr).add (i * size + j) = ⟨g, 0 + i * size + j, none⟩ := by unfold Addr.add; split <;> simp_all
    rw [hadd] at this; exact this

end Go.Proofs.Ytignemioillaiaa

namespace Go.Proofs.Ytignemioillaiaa
open Go.RowKit

theorem wpList_own_copy {P : Program} {w : World} {ops : Array Oper} {rest : List Oper} {o : Oper} {a : Act} {Q : Exit → Act → World → Prop} (hgd : o.guard = none) (s x : Operand) (t : TypeId)
    (ho : o.op = .call { callee := .builtin .append, args := #[s, x], argTypes := #[t, t] }) (e : TypeId) (i : TypeInfo) (z : Value) (size bytes : Nat) (ht : P.underlying t = some (.slice e)) (hi : P.info? e = some i) (hz : i.zero = some z)
    (hsize : i.size = size) (hby : i.bytes = bytes) (hzs : z.cells.size = size) (hsz : 0 < size) (hs : a.eval s = .slice none 0 0) (B : Nat) (sa : Option Addr) (n c : Nat) (hx : a.eval x = .slice sa n c) (xs : List (List Value))
    (hin : SlIn B w ⟨sa, n, c⟩ size xs) (hnil : sa = none → c = 0) (hall : ∀ y ∈ xs, y.length = size) (h1 : ∀ u ∈ xs.flatten, u.oneCell' = true) (hbytes : n * bytes ≤ 140737488355328)
    (h : ∀ v' w', w'.ownsRow w.heap.size e size v' xs.length xs.flatten → w.grownBy w' none → wpList P ops Q rest (a.put o.dst v') w') : wpList P ops Q (o :: rest) a w := by
  have hlen : n = xs.length := hin.len
  have hfl := flat_len xs hall
  cases sa with
  | none =>
    have hc : c = 0 := hnil rfl
    have hle : n ≤ c := hin.le
    have hn0 : n = 0 := by omega
    subst hc; subst hn0
    have hxs : xs = [] := List.eq_nil_of_length_eq_zero hlen.symm
    subst hxs
    exact wpList_append_own_none hgd s x t ho w.heap.size e i size ht hi _ 0 [] hs (World.ownsRow_nil w w.heap.size e size) hx (h _ _ (World.ownsRow_nil w w.heap.size e size) ⟨rfl, rfl, rfl, Nat.le_refl _, fun _ _ _ => rfl⟩)
  | some ad =>
    have hmax : n ≤ maxLen := Nat.le_trans hin.le hin.max
    refine wpList_append_own w hgd s x t ho w.heap.size e i z size bytes ht hi hz hsize hby hzs hsz _ 0 [] hs (World.ownsRow_nil w w.heap.size e size) ad n c xs.flatten hx (by rw [hfl, hlen]) ?_ h1 (by omega) (by rw [Nat.zero_add]; exact hbytes) (Nat.le_refl _) ?_
    · intro j u hu
      have hj := (List.getElem?_eq_some_iff.1 hu).1
      refine hin.news hall ad rfl ?_ j u hu
      rw [hfl] at hj
      show 0 < n
      rcases Nat.eq_zero_or_pos n with h0 | h0
      · rw [← hlen, h0] at hj; omega
      · exact h0
    · intro v' w' ho' hg' _
      rw [Nat.zero_add, List.nil_append, hlen] at ho'
      exact h v' w' ho' hg'

theorem info_row : (Try.prog.info? 82).map (fun i => (i.zero, i.size, i.bytes)) = some (some (.agg #[.int .u64 0, .int .u64 0]), 2, 16) := by kernel_rfl
theorem info_rep : (Try.prog.info? 27).map (fun i => (i.zero, i.size, i.bytes)) = some (some (.agg #[.int .u8 0, .int .u32 0, .int .u64 0, .int .u8 0, .bool false, .int .u64 0, .int .u8 0]), 7, 40) := by kernel_rfl

theorem rows_all (rows : List Row) : ∀ y ∈ rows.map Row.cells, y.length = 2 := by
  intro y hy; obtain ⟨r, _, rfl⟩ := List.mem_map.1 hy; rfl
theorem dups_all (dups : List Rep) : ∀ y ∈ dups.map Rep.cells, y.length = 7 := by
  intro y hy; obtain ⟨r, _, rfl⟩ := List.mem_map.1 hy; rfl
theorem rows_one (rows : List Row) : ∀ u ∈ (rows.map Row.cells).flatten, u.oneCell' = true := by
  intro u hu
  obtain ⟨l, hl, hu⟩ := List.mem_flatten.1 hu
  obtain ⟨r, _, rfl⟩ := List.mem_map.1 hl
  simp [Row.cells] at hu; rcases hu with rfl | rfl <;> rfl
theorem dups_one (dups : List Rep) : ∀ u ∈ (dups.map Rep.cells).flatten, u.oneCell' = true := by
  intro u hu
  obtain ⟨l, hl, hu⟩ := List.mem_flatten.1 hu
  obtain ⟨r, _, rfl⟩ := List.mem_map.1 hl
  simp [Rep.cells] at hu; rcases hu with rfl | rfl | rfl | rfl | rfl | rfl | rfl <;> rfl

end Go.Proofs.Ytignemioillaiaa

namespace Go.Proofs.Ytignemioillaiaa
open Go.RowKit

theorem own_shape {w : World} {base : Nat} {e : TypeId} {size : Nat} {v : Value} {n : Nat} {xs : List Value} (h : w.ownsRow base e size v n xs) : ∃ a m c, v = .slice a m c := by
  rcases h.2 with ⟨rfl, _⟩ | ⟨g, cap, cur, rfl, _⟩
  · exact ⟨_, _, _, rfl⟩
  · exact ⟨_, _, _, rfl⟩
theorem own_keep {w w' : World} {base B : Nat} {e : TypeId} {size : Nat} {v : Value} {n : Nat} {xs : List Value} (h : w.ownsRow base e size v n xs) (hO : Only B w w') (hB : B < base) : w'.ownsRow base e size v n xs :=
  h.kept ⟨hO.os, hO.tape, hO.output, Nat.le_of_eq hO.size.symm, fun k _ hk => hO.block k (fun e => hk (by rw [e]))⟩ (.inr (by intro e; have := (h.lt B e).1; omega))
theorem own_grown {w w' : World} {base : Nat} {e : TypeId} {size : Nat} {v : Value} {n : Nat} {xs : List Value} (h : w.ownsRow base e size v n xs) (hg : w.grownBy w' none) : w'.ownsRow base e size v n xs :=
  h.kept hg (by cases hv : v.ownBlock <;> simp)
theorem later_grown {w w' : World} (hg : w.grownBy w' none) : Below w.heap.size w w' := ⟨hg.os, hg.tape, hg.output, hg.size, fun k hk => hg.block k hk (by simp)⟩
theorem own_mono {w : World} {base base' : Nat} {e : TypeId} {size : Nat} {v : Value} {n : Nat} {xs : List Value} (h : w.ownsRow base e size v n xs) (hb : base' ≤ base) : w.ownsRow base' e size v n xs :=
  ⟨h.1, h.2.imp id fun ⟨g, cap, cur, h1, h2, h3⟩ => ⟨g, cap, cur, h1, Nat.le_trans hb h2, h3⟩⟩

set_option maxHeartbeats 1000000 in
set_option maxRecDepth 100000 in
theorem own_range (rsrc rdst rseq rlo rhi : Int) (rra : Option Addr) (rrn rrc : Nat) (rda : Option Addr) (rdn rdc : Nat) (rrows : List Row) (rdups : List Rep) (w : World) (h1 : SlIn w.heap.size w ⟨rra, rrn, rrc⟩ 2 (rrows.map Row.cells)) (h2 : SlIn w.heap.size w ⟨rda, rdn, rdc⟩ 7 (rdups.map Rep.cells))
    (hn1 : rra = none → rrc = 0) (hn2 : rda = none → rdc = 0) (hb1 : rrn * 16 ≤ 140737488355328) (hb2 : rdn * 40 ≤ 140737488355328) :
    Calls Try.prog 32 #[.agg #[.int .u8 rsrc, .int .u8 rdst, .int .u32 rseq, .int .u64 rlo, .int .u64 rhi, .slice rra rrn rrc, .slice rda rdn rdc]] w fun e w' => ∃ a1 n1 c1 a2 n2 c2, e = .returned (.agg #[.int .u8 rsrc, .int .u8 rdst, .int .u32 rseq, .int .u64 rlo, .int .u64 rhi, .slice a1 n1 c1, .slice a2 n2 c2]) ∧ SlIn w'.heap.size w' ⟨a1, n1, c1⟩ 2 (rrows.map Row.cells) ∧ SlIn w'.heap.size w' ⟨a2, n2, c2⟩ 7 (rdups.map Rep.cells) ∧ (a1 = none → c1 = 0) ∧ (a2 = none → c2 = 0) ∧ Below w.heap.size w w' := by
  obtain ⟨i0, hi, hz0, hz1, hz2⟩ := info_parts info_row
  obtain ⟨i1, hi', hz0', hz1', hz2'⟩ := info_parts info_rep
  have hT : Below w.heap.size w ((w.alloc (.cells #[.int .u8 rsrc, .int .u8 rdst, .int .u32 rseq, .int .u64 rlo, .int .u64 rhi, .slice rra rrn rrc, .slice rda rdn rdc] 33)).alloc (.cells #[.int .u8 0, .int .u8 0, .int .u32 0, .int .u64 0, .int .u64 0, .slice none 0 0, .slice none 0 0] 33)) := later_trans (later_alloc _ _) (later_alloc _ _)
  have hWa : ((w.alloc (.cells #[.int .u8 rsrc, .int .u8 rdst, .int .u32 rseq, .int .u64 rlo, .int .u64 rhi, .slice rra rrn rrc, .slice rda rdn rdc] 33)).alloc (.cells #[.int .u8 0, .int .u8 0, .int .u32 0, .int .u64 0, .int .u64 0, .slice none 0 0, .slice none 0 0] 33)).heap[w.heap.size]? = some (.cells #[.int .u8 rsrc, .int .u8 rdst, .int .u32 rseq, .int .u64 rlo, .int .u64 rhi, .slice rra rrn rrc, .slice rda rdn rdc] 33) := heap_alloc2_old w _ _
  have hWb : ((w.alloc (.cells #[.int .u8 rsrc, .int .u8 rdst, .int .u32 rseq, .int .u64 rlo, .int .u64 rhi, .slice rra rrn rrc, .slice rda rdn rdc] 33)).alloc (.cells #[.int .u8 0, .int .u8 0, .int .u32 0, .int .u64 0, .int .u64 0, .slice none 0 0, .slice none 0 0] 33)).heap[w.heap.size + 1]? = some (.cells #[.int .u8 0, .int .u8 0, .int .u32 0, .int .u64 0, .int .u64 0, .slice none 0 0, .slice none 0 0] 33) := heap_alloc2_new w _ _
  have hWs : ((w.alloc (.cells #[.int .u8 rsrc, .int .u8 rdst, .int .u32 rseq, .int .u64 rlo, .int .u64 rhi, .slice rra rrn rrc, .slice rda rdn rdc] 33)).alloc (.cells #[.int .u8 0, .int .u8 0, .int .u32 0, .int .u64 0, .int .u64 0, .slice none 0 0, .slice none 0 0] 33)).heap.size = w.heap.size + 2 := by simp
  have HN1 : Hid (rra = none → rrc = 0) := hn1
  have HN2 : Hid (rda = none → rdc = 0) := hn2
  clear hn1 hn2
  go_enter Try.func32, Try.ntmps32
  go_wp2_with (first | (with_reducible show wpList _ _ _ ({ dst := some 8, op := Op.call _, type := _, pos := _, after := _, guard := none } :: _) _ _; go_must (refine wpList_own_copy rfl _ _ _ rfl 82 i0 (.agg #[.int .u64 0, .int .u64 0]) 2 16 Try.underlying30 hi hz0 hz1 hz2 rfl (by decide) rfl _ rra rrn rrc rfl _ (h1.later hT) HN1.out (rows_all rrows) (rows_one rrows) hb1 ?_; intro v1 w1 ho1 hg1; obtain ⟨a1, n1, c1, hv1⟩ := own_shape ho1; rw [hv1] at ho1 ⊢; have hT1 := later_trans hT (later_grown hg1); have hW1a := blk_later (later_grown hg1) hWa; have hW1b := blk_later (later_grown hg1) hWb; clear hv1)) | (with_reducible show wpList _ _ _ ({ dst := none, op := Op.store 30 _ _, type := _, pos := _, after := _, guard := none } :: _) _ _; go_must (refine wpList_store_cell rfl _ _ _ rfl rfl w.heap.size 5 rfl (.slice a1 n1 c1) rfl sz_rows rfl _ _ hW1a rfl [.int .u8 rsrc, .int .u8 rdst, .int .u32 rseq, .int .u64 rlo, .int .u64 rhi, .slice a1 n1 c1, .slice rda rdn rdc] rfl ?_; intro w2 hW2a hO2; have ho2 := own_keep ho1 hO2 (by rw [hWs]; omega); have hT2 := hT1.trans (hO2.below (Nat.le_refl _)); have hW2b := (hO2.block (w.heap.size + 1) (by omega)).trans hW1b; have hB2 := blk_cell hW2a)) | (with_reducible show wpList _ _ _ ({ dst := some 13, op := Op.call _, type := _, pos := _, after := _, guard := none } :: _) _ _; go_must (refine wpList_own_copy rfl _ _ _ rfl 27 i1 (.agg #[.int .u8 0, .int .u32 0, .int .u64 0, .int .u8 0, .bool false, .int .u64 0, .int .u8 0]) 7 40 Try.underlying31 hi' hz0' hz1' hz2' rfl (by decide) rfl _ rda rdn rdc rfl _ (h2.later hT2) HN2.out (dups_all rdups) (dups_one rdups) hb2 ?_; intro v3 w3 ho3' hg3; obtain ⟨a2, n2, c2, hv3⟩ := own_shape ho3'; rw [hv3] at ho3' ⊢; have ho3 := own_grown ho2 hg3; have hT3 := later_trans hT2 (later_grown hg3); have hW3a := blk_later (later_grown hg3) hW2a; have hW3b := blk_later (later_grown hg3) hW2b; have hs3 : w.heap.size + 2 ≤ w2.heap.size := (by have := hg1.size; have := hO2.size; omega); clear hv3)) | (with_reducible show wpList _ _ _ ({ dst := none, op := Op.store 31 _ _, type := _, pos := _, after := _, guard := none } :: _) _ _; go_must (refine wpList_store_cell rfl _ _ _ rfl rfl w.heap.size 6 rfl (.slice a2 n2 c2) rfl sz_dups rfl _ _ hW3a rfl [.int .u8 rsrc, .int .u8 rdst, .int .u32 rseq, .int .u64 rlo, .int .u64 rhi, .slice a1 n1 c1, .slice a2 n2 c2] rfl ?_; intro w4 hW4a hO4; have ho4 := own_keep ho3 hO4 (by rw [hWs]; omega); have ho4' := own_keep ho3' hO4 (by omega); have hT4 := hT3.trans (hO4.below (Nat.le_refl _)); have hW4b := (hO4.block (w.heap.size + 1) (by omega)).trans hW3b)) | (with_reducible show wpList _ _ _ ({ dst := _, op := Op.load 33 _, type := _, pos := _, after := _, guard := none } :: _) _ _; go_must (refine wpList_load_blk rfl _ _ rfl w.heap.size 0 rfl 7 _ Try.underlying33 rfl sz_rng _ _ hW4a rfl [.int .u8 rsrc, .int .u8 rdst, .int .u32 rseq, .int .u64 rlo, .int .u64 rhi, .slice a1 n1 c1, .slice a2 n2 c2] rfl ?_)) | (with_reducible show wpList _ _ _ ({ dst := none, op := Op.store 33 _ _, type := _, pos := _, after := _, guard := none } :: _) _ _; go_must (refine wpList_store_blk rfl _ _ _ rfl rfl (w.heap.size + 1) 0 rfl [.int .u8 rsrc, .int .u8 rdst, .int .u32 rseq, .int .u64 rlo, .int .u64 rhi, .slice a1 n1 c1, .slice a2 n2 c2] rfl _ sz_rng rfl rfl _ _ hW4b rfl [.int .u8 rsrc, .int .u8 rdst, .int .u32 rseq, .int .u64 rlo, .int .u64 rhi, .slice a1 n1 c1, .slice a2 n2 c2] rfl ?_; intro w5 hW5 hO5; have ho5 := own_keep ho4 hO5 (by rw [hWs]; omega); have ho5' := own_keep ho4' hO5 (by omega); have hT5 := hT4.trans (hO5.below (by omega)))))
  obtain ⟨x1, x2, x3, hx, hs1, hn1⟩ := own_slin (by rw [List.length_map] at ho5 ⊢; exact ho5) (rows_all rrows)
  obtain ⟨y1, y2, y3, hy, hs2, hn2⟩ := own_slin (by rw [List.length_map] at ho5' ⊢; exact ho5') (dups_all rdups)
  refine bodyPost_ret (v := .agg #[.int .u8 rsrc, .int .u8 rdst, .int .u32 rseq, .int .u64 rlo, .int .u64 rhi, .slice a1 n1 c1, .slice a2 n2 c2]) (results_cell_row Try.results32 _ _ (w.heap.size + 1) 33 _ (0, 0) _ rfl hW5 Try.underlying33 rfl sz_rng) rfl ⟨a1, n1, c1, a2, n2, c2, rfl, ?_, ?_, ?_, ?_, hT5⟩
  all_goals simp only [Value.slice.injEq] at hx hy
  all_goals obtain ⟨rfl, rfl, rfl⟩ := hx
  all_goals obtain ⟨rfl, rfl, rfl⟩ := hy
  all_goals assumption

end Go.Proofs.Ytignemioillaiaa

namespace Go.Proofs.Ytignemioillaiaa
open Go.RowKit

set_option maxHeartbeats 1000000 in
set_option maxRecDepth 100000 in
theorem own_range2 (rsrc rdst rseq rlo rhi : Int) (rra : Option Addr) (rrn rrc : Nat) (rda : Option Addr) (rdn rdc : Nat) (rrows : List Row) (rdups : List Rep) (w : World) (h1 : SlIn w.heap.size w ⟨rra, rrn, rrc⟩ 2 (rrows.map Row.cells)) (h2 : SlIn w.heap.size w ⟨rda, rdn, rdc⟩ 7 (rdups.map Rep.cells))
    (hn1 : rra = none → rrc = 0) (hn2 : rda = none → rdc = 0) (hb1 : rrn * 16 ≤ 140737488355328) (hb2 : rdn * 40 ≤ 140737488355328) :
    Calls Try.prog 32 #[.agg #[.int .u8 rsrc, .int .u8 rdst, .int .u32 rseq, .int .u64 rlo, .int .u64 rhi, .slice rra rrn rrc, .slice rda rdn rdc]] w fun e w' => ∃ a1 n1 c1 a2 n2 c2, e = .returned (.agg #[.int .u8 rsrc, .int .u8 rdst, .int .u32 rseq, .int .u64 rlo, .int .u64 rhi, .slice a1 n1 c1, .slice a2 n2 c2]) ∧ SlIn w'.heap.size w' ⟨a1, n1, c1⟩ 2 (rrows.map Row.cells) ∧ SlIn w'.heap.size w' ⟨a2, n2, c2⟩ 7 (rdups.map Rep.cells) ∧ w'.ownsRow w.heap.size 82 2 (.slice a1 n1 c1) rrows.length (rrows.map Row.cells).flatten ∧ w'.ownsRow w.heap.size 27 7 (.slice a2 n2 c2) rdups.length (rdups.map Rep.cells).flatten ∧ Below w.heap.size w w' := by
  obtain ⟨i0, hi, hz0, hz1, hz2⟩ := info_parts info_row
  obtain ⟨i1, hi', hz0', hz1', hz2'⟩ := info_parts info_rep
  have hT : Below w.heap.size w ((w.alloc (.cells #[.int .u8 rsrc, .int .u8 rdst, .int .u32 rseq, .int .u64 rlo, .int .u64 rhi, .slice rra rrn rrc, .slice rda rdn rdc] 33)).alloc (.cells #[.int .u8 0, .int .u8 0, .int .u32 0, .int .u64 0, .int .u64 0, .slice none 0 0, .slice none 0 0] 33)) := later_trans (later_alloc _ _) (later_alloc _ _)
  have hWa : ((w.alloc (.cells #[.int .u8 rsrc, .int .u8 rdst, .int .u32 rseq, .int .u64 rlo, .int .u64 rhi, .slice rra rrn rrc, .slice rda rdn rdc] 33)).alloc (.cells #[.int .u8 0, .int .u8 0, .int .u32 0, .int .u64 0, .int .u64 0, .slice none 0 0, .slice none 0 0] 33)).heap[w.heap.size]? = some (.cells #[.int .u8 rsrc, .int .u8 rdst, .int .u32 rseq, .int .u64 rlo, .int .u64 rhi, .slice rra rrn rrc, .slice rda rdn rdc] 33) := heap_alloc2_old w _ _
  have hWb : ((w.alloc (.cells #[.int .u8 rsrc, .int .u8 rdst, .int .u32 rseq, .int .u64 rlo, .int .u64 rhi, .slice rra rrn rrc, .slice rda rdn rdc] 33)).alloc (.cells #[.int .u8 0, .int .u8 0, .int .u32 0, .int .u64 0, .int .u64 0, .slice none 0 0, .slice none 0 0] 33)).heap[w.heap.size + 1]? = some (.cells #[.int .u8 0, .int .u8 0, .int .u32 0, .int .u64 0, .int .u64 0, .slice none 0 0, .slice none 0 0] 33) := heap_alloc2_new w _ _
  have hWs : ((w.alloc (.cells #[.int .u8 rsrc, .int .u8 rdst, .int .u32 rseq, .int .u64 rlo, .int .u64 rhi, .slice rra rrn rrc, .slice rda rdn rdc] 33)).alloc (.cells #[.int .u8 0, .int .u8 0, .int .u32 0, .int .u64 0, .int .u64 0, .slice none 0 0, .slice none 0 0] 33)).heap.size = w.heap.size + 2 := by simp
  have HN1 : Hid (rra = none → rrc = 0) := hn1
  have HN2 : Hid (rda = none → rdc = 0) := hn2
  clear hn1 hn2
  go_enter Try.func32, Try.ntmps32
  go_wp2_with (first | (with_reducible show wpList _ _ _ ({ dst := some 8, op := Op.call _, type := _, pos := _, after := _, guard := none } :: _) _ _; go_must (refine wpList_own_copy rfl _ _ _ rfl 82 i0 (.agg #[.int .u64 0, .int .u64 0]) 2 16 Try.underlying30 hi hz0 hz1 hz2 rfl (by decide) rfl _ rra rrn rrc rfl _ (h1.later hT) HN1.out (rows_all rrows) (rows_one rrows) hb1 ?_; intro v1 w1 ho1 hg1; obtain ⟨a1, n1, c1, hv1⟩ := own_shape ho1; rw [hv1] at ho1 ⊢; have hT1 := later_trans hT (later_grown hg1); have hW1a := blk_later (later_grown hg1) hWa; have hW1b := blk_later (later_grown hg1) hWb; clear hv1)) | (with_reducible show wpList _ _ _ ({ dst := none, op := Op.store 30 _ _, type := _, pos := _, after := _, guard := none } :: _) _ _; go_must (refine wpList_store_cell rfl _ _ _ rfl rfl w.heap.size 5 rfl (.slice a1 n1 c1) rfl sz_rows rfl _ _ hW1a rfl [.int .u8 rsrc, .int .u8 rdst, .int .u32 rseq, .int .u64 rlo, .int .u64 rhi, .slice a1 n1 c1, .slice rda rdn rdc] rfl ?_; intro w2 hW2a hO2; have ho2 := own_keep ho1 hO2 (by rw [hWs]; omega); have hT2 := hT1.trans (hO2.below (Nat.le_refl _)); have hW2b := (hO2.block (w.heap.size + 1) (by omega)).trans hW1b; have hB2 := blk_cell hW2a)) | (with_reducible show wpList _ _ _ ({ dst := some 13, op := Op.call _, type := _, pos := _, after := _, guard := none } :: _) _ _; go_must (refine wpList_own_copy rfl _ _ _ rfl 27 i1 (.agg #[.int .u8 0, .int .u32 0, .int .u64 0, .int .u8 0, .bool false, .int .u64 0, .int .u8 0]) 7 40 Try.underlying31 hi' hz0' hz1' hz2' rfl (by decide) rfl _ rda rdn rdc rfl _ (h2.later hT2) HN2.out (dups_all rdups) (dups_one rdups) hb2 ?_; intro v3 w3 ho3' hg3; obtain ⟨a2, n2, c2, hv3⟩ := own_shape ho3'; rw [hv3] at ho3' ⊢; have ho3 := own_grown ho2 hg3; have hT3 := later_trans hT2 (later_grown hg3); have hW3a := blk_later (later_grown hg3) hW2a; have hW3b := blk_later (later_grown hg3) hW2b; have hs3 : w.heap.size + 2 ≤ w2.heap.size := (by have := hg1.size; have := hO2.size; omega); clear hv3)) | (with_reducible show wpList _ _ _ ({ dst := none, op := Op.store 31 _ _, type := _, pos := _, after := _, guard := none } :: _) _ _; go_must (refine wpList_store_cell rfl _ _ _ rfl rfl w.heap.size 6 rfl (.slice a2 n2 c2) rfl sz_dups rfl _ _ hW3a rfl [.int .u8 rsrc, .int .u8 rdst, .int .u32 rseq, .int .u64 rlo, .int .u64 rhi, .slice a1 n1 c1, .slice a2 n2 c2] rfl ?_; intro w4 hW4a hO4; have ho4 := own_keep ho3 hO4 (by rw [hWs]; omega); have ho4' := own_keep ho3' hO4 (by omega); have hT4 := hT3.trans (hO4.below (Nat.le_refl _)); have hW4b := (hO4.block (w.heap.size + 1) (by omega)).trans hW3b)) | (with_reducible show wpList _ _ _ ({ dst := _, op := Op.load 33 _, type := _, pos := _, after := _, guard := none } :: _) _ _; go_must (refine wpList_load_blk rfl _ _ rfl w.heap.size 0 rfl 7 _ Try.underlying33 rfl sz_rng _ _ hW4a rfl [.int .u8 rsrc, .int .u8 rdst, .int .u32 rseq, .int .u64 rlo, .int .u64 rhi, .slice a1 n1 c1, .slice a2 n2 c2] rfl ?_)) | (with_reducible show wpList _ _ _ ({ dst := none, op := Op.store 33 _ _, type := _, pos := _, after := _, guard := none } :: _) _ _; go_must (refine wpList_store_blk rfl _ _ _ rfl rfl (w.heap.size + 1) 0 rfl [.int .u8 rsrc, .int .u8 rdst, .int .u32 rseq, .int .u64 rlo, .int .u64 rhi, .slice a1 n1 c1, .slice a2 n2 c2] rfl _ sz_rng rfl rfl _ _ hW4b rfl [.int .u8 rsrc, .int .u8 rdst, .int .u32 rseq, .int .u64 rlo, .int .u64 rhi, .slice a1 n1 c1, .slice a2 n2 c2] rfl ?_; intro w5 hW5 hO5; have ho5 := own_keep ho4 hO5 (by rw [hWs]; omega); have ho5' := own_keep ho4' hO5 (by omega); have hT5 := hT4.trans (hO5.below (by omega)))))
  obtain ⟨x1, x2, x3, hx, hs1, hn1⟩ := own_slin (by rw [List.length_map] at ho5 ⊢; exact ho5) (rows_all rrows)
  obtain ⟨y1, y2, y3, hy, hs2, hn2⟩ := own_slin (by rw [List.length_map] at ho5' ⊢; exact ho5') (dups_all rdups)
  refine bodyPost_ret (v := .agg #[.int .u8 rsrc, .int .u8 rdst, .int .u32 rseq, .int .u64 rlo, .int .u64 rhi, .slice a1 n1 c1, .slice a2 n2 c2]) (results_cell_row Try.results32 _ _ (w.heap.size + 1) 33 _ (0, 0) _ rfl hW5 Try.underlying33 rfl sz_rng) rfl ⟨a1, n1, c1, a2, n2, c2, rfl, ?_, ?_, own_mono (by rw [List.length_map] at ho5; exact ho5) (by have := hT.size; omega), own_mono (by rw [List.length_map] at ho5'; exact ho5') (by have := hT2.size; omega), hT5⟩
  all_goals simp only [Value.slice.injEq] at hx hy
  all_goals obtain ⟨rfl, rfl, rfl⟩ := hx
  all_goals obtain ⟨rfl, rfl, rfl⟩ := hy
  all_goals assumption

end Go.Proofs.Ytignemioillaiaa

