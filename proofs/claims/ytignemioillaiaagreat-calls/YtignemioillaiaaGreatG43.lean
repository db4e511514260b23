/- A shard at work (1): where a key stands. -/
import Derived.Test.YtignemioillaiaaGreatG42
namespace Go.Proofs.YtignemioillaiaaGreat
set_option maxHeartbeats 8000000
set_option maxRecDepth 100000
section
open Go Go.Conc
theorem nan64 (a : Int) (w : World) : CY 174 #[.int .u64 a] w (fun v w' => v = .bool false ∧ w' = w) := by
  refine callE Tryz.func174 rfl rfl ?_
  exact ⟨vb (by simp), rfl⟩
theorem cmp64_ok (a b : Int) (w : World) : CY 137 #[.int .u64 a, .int .u64 b] w (fun v w' => v = .int .i64 (cmpI a b) ∧ w' = w) := by
  refine callE Tryz.func137 rfl rfl ?_
  refine ⟨_, nan64 a w, ?_⟩
  rintro _ w ⟨rfl, rfl⟩
  refine ⟨_, nan64 b w, ?_⟩
  rintro _ w ⟨rfl, rfl⟩
  unfold cmpI
  refine spl (fun c => ?_) (fun c => ?_)
  · exact ⟨congrArg (Value.int .i64) (if_pos (of_decide_eq_true c)).symm, rfl⟩
  · refine spl (fun d => ?_) (fun d => ?_)
    · exact ⟨congrArg (Value.int .i64) (by rw [if_neg (of_decide_eq_false c), if_pos (of_decide_eq_true d)]), rfl⟩
    · exact ⟨congrArg (Value.int .i64) (by rw [if_neg (of_decide_eq_false c), if_neg (of_decide_eq_false d)]), rfl⟩
theorem nan8 (a : Int) (w : World) : CY 175 #[.int .u8 a] w (fun v w' => v = .bool false ∧ w' = w) := by
  refine callE Tryz.func175 rfl rfl ?_
  exact ⟨vb (by simp), rfl⟩
theorem cmp8_ok (a b : Int) (w : World) : CY 138 #[.int .u8 a, .int .u8 b] w (fun v w' => v = .int .i64 (cmpI a b) ∧ w' = w) := by
  refine callE Tryz.func138 rfl rfl ?_
  refine ⟨_, nan8 a w, ?_⟩
  rintro _ w ⟨rfl, rfl⟩
  refine ⟨_, nan8 b w, ?_⟩
  rintro _ w ⟨rfl, rfl⟩
  unfold cmpI
  refine spl (fun c => ?_) (fun c => ?_)
  · exact ⟨congrArg (Value.int .i64) (if_pos (of_decide_eq_true c)).symm, rfl⟩
  · refine spl (fun d => ?_) (fun d => ?_)
    · exact ⟨congrArg (Value.int .i64) (by rw [if_neg (of_decide_eq_false c), if_pos (of_decide_eq_true d)]), rfl⟩
    · exact ⟨congrArg (Value.int .i64) (by rw [if_neg (of_decide_eq_false c), if_neg (of_decide_eq_false d)]), rfl⟩
theorem or_ok {w : World} {b : Nat} {x y : Int} (hb : w.heap[b]? = some (.cells #[.int .i64 x, .int .i64 y] 3)) : CY 136 #[.slice (some ⟨b, 0, none⟩) 2 2] w (fun v w' => v = .int .i64 (orI x y) ∧ w' = w) := by
  refine callE Tryz.func136 rfl rfl ?_
  unfold orI
  refine ⟨fun n s wk => wk = w ∧ ((n = 2 ∧ s = [(3, .int .i64 0), (6, .slice (some ⟨b, 0, none⟩) 2 2), (7, .int .i64 2), (8, .int .i64 0)]) ∨ (n = 1 ∧ s = [(3, .int .i64 0), (6, .slice (some ⟨b, 0, none⟩) 2 2), (7, .int .i64 2), (8, .int .i64 1)] ∧ x = 0) ∨ (n = 0 ∧ s = [(3, .int .i64 0), (6, .slice (some ⟨b, 0, none⟩) 2 2), (7, .int .i64 2), (8, .int .i64 2)] ∧ x = 0 ∧ y = 0)), ⟨_, _, ⟨rfl, .inl ⟨rfl, rfl⟩⟩, sb rfl⟩, ?_⟩
  rintro n s wk ⟨rfl, ⟨rfl, rfl⟩ | ⟨rfl, rfl, hx⟩ | ⟨rfl, rfl, hx, hy⟩⟩
  · refine ⟨⟨by decide, by decide⟩, _, _, hb, _, rfl, spl (fun c => ?_) (fun c => ?_)⟩
    · exact ⟨congrArg (Value.int .i64) (if_neg (by simpa using c)).symm, rfl⟩
    · exact ⟨⟨by decide, by decide⟩, _, _, ⟨rfl, .inr (.inl ⟨rfl, rfl, by simpa using c⟩)⟩, (sb rfl), by decide⟩
  · refine ⟨⟨by decide, by decide⟩, _, _, hb, _, rfl, spl (fun c => ?_) (fun c => ?_)⟩
    · exact ⟨congrArg (Value.int .i64) (if_pos hx).symm, rfl⟩
    · exact ⟨⟨by decide, by decide⟩, _, _, ⟨rfl, .inr (.inr ⟨rfl, rfl, hx, by simpa using c⟩)⟩, (sb rfl), by decide⟩
  · exact ⟨congrArg (Value.int .i64) (by rw [if_pos hx, hy]), rfl⟩
theorem row1_ok (w : World) (x : Row) (key : Int) : CY 205 #[.agg x.cells.toArray, .int .u64 key] w (fun v w' => v = .int .i64 (cmpI x.key key) ∧ GB none w w') := by
  refine callE Tryz.func205 rfl rfl ?_
  refine fun w1 b1 m1 g1 l1 => ⟨_, _, m1, _, rfl, _, cmp64_ok _ _ _, ?_⟩
  rintro _ w1 ⟨rfl, rfl⟩
  exact ⟨rfl, g1⟩
theorem dup1_ok (w : World) (x y : Rep) : CY 135 #[.agg x.cells.toArray, .agg y.cells.toArray] w (fun v w' => v = .int .i64 (cmpP x y) ∧ GB none w w') := by
  refine callE Tryz.func135 rfl rfl ?_
  refine fun w1 b1 m1 g1 l1 w2 b2 m2 g2 l2 => ?_
  have m1 := g2.get m1 nofun
  have G := g1.trans g2
  refine ⟨by kernel_rfl, ?_⟩
  refine ⟨_, _, m1, _, rfl, _, _, m2, _, rfl, _, _, m1, _, rfl, _, _, m2, _, rfl, _, cmp64_ok _ _ _, ?_⟩
  rintro _ w2 ⟨rfl, rfl⟩
  refine ⟨⟨m2, m1, m2, m1, trivial⟩, _, cmp8_ok _ _ _, ?_⟩
  rintro _ w2 ⟨rfl, rfl⟩
  refine fun w3 b3 m3 g3 l3 => ?_
  refine ⟨_, or_ok m3, ?_⟩
  rintro _ w3 ⟨rfl, rfl⟩
  exact ⟨rfl, G.trans g3⟩
theorem bs_row {w : World} {v : Value} {l : List Row} (h : Fz w 128 2 v l.length (l.map Row.cells).flatten) (hl : l.length ≤ 1000000) {key : Int} (hm : Mono (fun x : Row => cmpI x.key key) l) : CY 204 #[v, .int .u64 key, .func (.func 205) #[] #[]] w (fun x w' => x = .tuple #[.int .i64 (posB (fun x : Row => cmpI x.key key) l : Nat), .bool (hitB (fun x : Row => cmpI x.key key) l)] ∧ GB none w w') := by
  obtain ⟨a, c, rfl, hc, hlen, hv⟩ := h
  obtain ⟨hp1, hp2⟩ := posB_part _ l hm
  have hple := posB_le (fun x : Row => cmpI x.key key) l
  obtain ⟨p, hp⟩ : ∃ p, p = posB (fun x : Row => cmpI x.key key) l := ⟨_, rfl⟩
  rw [← hp] at hp1 hp2 hple ⊢
  refine callE Tryz.func204 rfl rfl ?_
  refine ⟨fun n s wk => ∃ lo hi : Nat, n = hi - lo ∧ lo ≤ p ∧ p ≤ hi ∧ hi ≤ l.length ∧ s = [(0, .slice a l.length c), (1, .int .u64 key), (2, .func (.func 205) #[] #[]), (8, .int .i64 l.length), (9, .int .i64 lo), (10, .int .i64 hi)] ∧ GB none w wk, ⟨_, _, ⟨0, l.length, rfl, Nat.zero_le _, hple, Nat.le_refl _, rfl, GB.refl _ _⟩, sb rfl⟩, ?_⟩
  rintro n s wk ⟨lo, hi, rfl, h1, h2, h3, rfl, P⟩
  refine spl (fun d => ?_) (fun d => ?_)
  · have d1 : lo < hi := by have := of_decide_eq_true d; omega
    rcases hv with ⟨_, hz⟩ | ⟨b, off, cs, rfl, hb, hcut⟩
    · omega
    obtain ⟨mid, hmid⟩ : ∃ mid : Nat, mid = (lo + hi) / 2 := ⟨_, rfl⟩
    have emid : ((lo : Int) + hi).fdiv (2 ^ min (Int.toNat 1) IntKind.u64.bits) = (mid : Int) := by
      rw [show (2 : Int) ^ min (Int.toNat 1) IntKind.u64.bits = 2 from rfl, Int.fdiv_eq_ediv_of_nonneg _ (by decide)]
      omega
    obtain ⟨x, hx⟩ : ∃ x, l[mid]? = some x := ⟨l[mid]'(by omega), by simp [show mid < l.length by omega]⟩
    have hbk := P.get hb nofun
    refine ⟨⟨by omega, by omega⟩, .inl ⟨⟨by omega, by omega⟩, ⟨by decide, .inl ⟨⟨by rw [emid]; omega, by rw [emid]; omega⟩, ?_⟩⟩⟩⟩
    refine ⟨⟨by rw [emid]; omega, by rw [emid]; omega⟩, _, _, hbk, x.cells, ?_, rfl, _, row1_ok _ x key, ?_⟩
    · rw [emid]; exact fz_at (f := Row.cells) (fun _ => rfl) hx hcut
    rintro _ w2 ⟨rfl, g2⟩
    refine spl (fun e => ?_) (fun e => ?_)
    · have e1 : cmpI x.key key < 0 := of_decide_eq_true e
      have hlt : mid < p := Classical.byContradiction fun z => by have := hp2 mid x (by omega) hx; omega
      refine ⟨⟨by rw [emid]; omega, by rw [emid]; omega⟩, _, _, ⟨mid + 1, hi, rfl, by omega, h2, h3, rfl, P.trans g2⟩, ⟨rfl, rfl, rfl, rfl, ?_, rfl, trivial⟩, by omega⟩
      show some (Value.int .i64 (((lo : Int) + hi).fdiv (2 ^ min (Int.toNat 1) IntKind.u64.bits) + 1)) = _
      rw [emid]; rfl
    · have e1 : ¬ cmpI x.key key < 0 := of_decide_eq_false e
      have hle : p ≤ mid := Classical.byContradiction fun z => e1 (hp1 mid x (by omega) hx)
      refine ⟨_, _, ⟨lo, mid, rfl, h1, hle, by omega, rfl, P.trans g2⟩, ⟨rfl, rfl, rfl, rfl, rfl, ?_, trivial⟩, by omega⟩
      show some (Value.int .i64 (((lo : Int) + hi).fdiv (2 ^ min (Int.toNat 1) IntKind.u64.bits))) = _
      rw [emid]
  · have d1 : lo = hi := by have := of_decide_eq_false d; omega
    obtain rfl : lo = p := by omega
    refine spl (fun e => ?_) (fun e => ?_)
    · have e1 : lo < l.length := by have := of_decide_eq_true (b11 e); omega
      rcases hv with ⟨_, hz⟩ | ⟨b, off, cs, rfl, hb, hcut⟩
      · omega
      obtain ⟨x, hx⟩ : ∃ x, l[lo]? = some x := ⟨l[lo], by simp [e1]⟩
      have hh : hitB (fun x : Row => cmpI x.key key) l = (cmpI x.key key == 0) := by simp only [hitB, ← hp, hx]
      rw [hh]
      refine ⟨⟨by omega, by omega⟩, _, _, P.get hb nofun, x.cells, fz_at (f := Row.cells) (fun _ => rfl) hx hcut, rfl, _, row1_ok _ x key, ?_⟩
      rintro _ w2 ⟨rfl, g2⟩
      exact ⟨rfl, P.trans g2⟩
    · have e1 : ¬ lo < l.length := by have := of_decide_eq_false (b10 e); omega
      have hh : hitB (fun x : Row => cmpI x.key key) l = false := by simp only [hitB, ← hp, List.getElem?_eq_none (Nat.le_of_not_lt e1)]
      rw [hh]
      exact ⟨rfl, P⟩
theorem bs_rep {w : World} {v : Value} {l : List Rep} (h : Fz w 57 7 v l.length (l.map Rep.cells).flatten) (hl : l.length ≤ 1000000) {q : Rep} (hm : Mono (fun x : Rep => cmpP x q) l) : CY 134 #[v, .agg q.cells.toArray, .func (.func 135) #[] #[]] w (fun x w' => x = .tuple #[.int .i64 (posB (fun x : Rep => cmpP x q) l : Nat), .bool (hitB (fun x : Rep => cmpP x q) l)] ∧ GB none w w') := by
  obtain ⟨a, c, rfl, hc, hlen, hv⟩ := h
  obtain ⟨hp1, hp2⟩ := posB_part _ l hm
  have hple := posB_le (fun x : Rep => cmpP x q) l
  obtain ⟨p, hp⟩ : ∃ p, p = posB (fun x : Rep => cmpP x q) l := ⟨_, rfl⟩
  rw [← hp] at hp1 hp2 hple ⊢
  refine callE Tryz.func134 rfl rfl ?_
  refine fun w1 b1 m1 g1 l1 => ?_
  refine ⟨fun n s wk => ∃ lo hi : Nat, n = hi - lo ∧ lo ≤ p ∧ p ≤ hi ∧ hi ≤ l.length ∧ s = [(0, .slice a l.length c), (2, .func (.func 135) #[] #[]), (4, .pointer (some ⟨b1, 0, none⟩)), (8, .int .i64 l.length), (9, .int .i64 lo), (10, .int .i64 hi)] ∧ GB none w1 wk, ⟨_, _, ⟨0, l.length, rfl, Nat.zero_le _, hple, Nat.le_refl _, rfl, GB.refl _ _⟩, sb rfl⟩, ?_⟩
  rintro n s wk ⟨lo, hi, rfl, h1, h2, h3, rfl, P⟩
  refine spl (fun d => ?_) (fun d => ?_)
  · have d1 : lo < hi := by have := of_decide_eq_true d; omega
    rcases hv with ⟨_, hz⟩ | ⟨b, off, cs, rfl, hb, hcut⟩
    · omega
    obtain ⟨mid, hmid⟩ : ∃ mid : Nat, mid = (lo + hi) / 2 := ⟨_, rfl⟩
    have emid : ((lo : Int) + hi).fdiv (2 ^ min (Int.toNat 1) IntKind.u64.bits) = (mid : Int) := by
      rw [show (2 : Int) ^ min (Int.toNat 1) IntKind.u64.bits = 2 from rfl, Int.fdiv_eq_ediv_of_nonneg _ (by decide)]
      omega
    obtain ⟨x, hx⟩ : ∃ x, l[mid]? = some x := ⟨l[mid]'(by omega), by simp [show mid < l.length by omega]⟩
    have hbk := P.get (g1.get hb nofun) nofun
    refine ⟨⟨by omega, by omega⟩, .inl ⟨⟨by omega, by omega⟩, ⟨by decide, .inl ⟨⟨by rw [emid]; omega, by rw [emid]; omega⟩, ?_⟩⟩⟩⟩
    refine ⟨by kernel_rfl, ⟨by rw [emid]; omega, by rw [emid]; omega⟩, _, _, hbk, x.cells, ?_, rfl, _, _, P.get m1 nofun, q.cells, rfl, rfl, _, dup1_ok _ x q, ?_⟩
    · rw [emid]; exact fz_at (f := Rep.cells) (fun _ => rfl) hx hcut
    rintro _ w2 ⟨rfl, g2⟩
    refine spl (fun e => ?_) (fun e => ?_)
    · have e1 : cmpP x q < 0 := of_decide_eq_true e
      have hlt : mid < p := Classical.byContradiction fun z => by have := hp2 mid x (by omega) hx; omega
      refine ⟨⟨by rw [emid]; omega, by rw [emid]; omega⟩, _, _, ⟨mid + 1, hi, rfl, by omega, h2, h3, rfl, P.trans g2⟩, ⟨rfl, rfl, rfl, rfl, ?_, rfl, trivial⟩, by omega⟩
      show some (Value.int .i64 (((lo : Int) + hi).fdiv (2 ^ min (Int.toNat 1) IntKind.u64.bits) + 1)) = _
      rw [emid]; rfl
    · have e1 : ¬ cmpP x q < 0 := of_decide_eq_false e
      have hle : p ≤ mid := Classical.byContradiction fun z => e1 (hp1 mid x (by omega) hx)
      refine ⟨_, _, ⟨lo, mid, rfl, h1, hle, by omega, rfl, P.trans g2⟩, ⟨rfl, rfl, rfl, rfl, rfl, ?_, trivial⟩, by omega⟩
      show some (Value.int .i64 (((lo : Int) + hi).fdiv (2 ^ min (Int.toNat 1) IntKind.u64.bits))) = _
      rw [emid]
  · have d1 : lo = hi := by have := of_decide_eq_false d; omega
    obtain rfl : lo = p := by omega
    refine ⟨by kernel_rfl, spl (fun e => ?_) (fun e => ?_)⟩
    · have e1 : lo < l.length := by have := of_decide_eq_true (b11 e); omega
      rcases hv with ⟨_, hz⟩ | ⟨b, off, cs, rfl, hb, hcut⟩
      · omega
      obtain ⟨x, hx⟩ : ∃ x, l[lo]? = some x := ⟨l[lo], by simp [e1]⟩
      have hh : hitB (fun x : Rep => cmpP x q) l = (cmpP x q == 0) := by simp only [hitB, ← hp, hx]
      rw [hh]
      refine ⟨⟨by omega, by omega⟩, _, _, P.get (g1.get hb nofun) nofun, x.cells, fz_at (f := Rep.cells) (fun _ => rfl) hx hcut, rfl, _, _, P.get m1 nofun, q.cells, rfl, rfl, _, dup1_ok _ x q, ?_⟩
      rintro _ w2 ⟨rfl, g2⟩
      exact ⟨rfl, (g1.trans P).trans g2⟩
    · have e1 : ¬ lo < l.length := by have := of_decide_eq_false (b10 e); omega
      have hh : hitB (fun x : Rep => cmpP x q) l = false := by simp only [hitB, ← hp, List.getElem?_eq_none (Nat.le_of_not_lt e1)]
      rw [hh]
      exact ⟨rfl, g1.trans P⟩
section
variable {w : World} {b : Nat} {s : St} {T M D O I : Value}
theorem row_ok (hm : Hl w b (shC s T M D O I) 31) (hT : Fz w 128 2 T s.T.length (s.T.map Row.cells).flatten) (hl : s.T.length ≤ 1000000) (hs : SortT s.T) (key : Int) : CY 176 #[.pointer (some ⟨b, 0, none⟩), .int .u64 key] w (fun x w' => x = .tuple #[.int .i64 (atT s.T key : Nat), .bool (hasT s.T key)] ∧ GB none w w') := by
  refine callE Tryz.func176 rfl rfl ?_
  refine ⟨_, _, hm, _, rfl, _, bs_row hT hl (monoT hs key), ?_⟩
  rintro _ w1 ⟨rfl, g1⟩
  exact ⟨rfl, g1⟩
theorem dup_ok (hm : Hl w b (shC s T M D O I) 31) (hD : Fz w 57 7 D s.D.length (s.D.map Rep.cells).flatten) (hl : s.D.length ≤ 1000000) (hs : SortD s.D) (q : Rep) : CY 84 #[.pointer (some ⟨b, 0, none⟩), .agg q.cells.toArray] w (fun x w' => x = .tuple #[.int .i64 (atD s.D q : Nat), .bool (hasD s.D q)] ∧ GB none w w') := by
  refine callE Tryz.func84 rfl rfl ?_
  refine fun w1 b1 m1 g1 l1 => ?_
  refine ⟨by kernel_rfl, _, _, g1.get hm nofun, _, rfl, _, _, m1, q.cells, rfl, rfl, _, bs_rep (hD.kz g1.kz (by decide)) hl (monoD hs q), ?_⟩
  rintro _ w2 ⟨rfl, g2⟩
  exact ⟨rfl, g1.trans g2⟩
theorem hit_at {α : Type} {f : α → Int} {l : List α} (h : hitB f l = true) : ∃ x, l[posB f l]? = some x ∧ f x = 0 := by
  unfold hitB at h
  cases hx : l[posB f l]? with
  | none => rw [hx] at h; cases h
  | some x => rw [hx] at h; exact ⟨x, rfl, by simpa using h⟩
theorem get_ok (hm : Hl w b (shC s T M D O I) 31) (hT : Fz w 128 2 T s.T.length (s.T.map Row.cells).flatten) (hl : s.T.length ≤ 1000000) (hs : SortT s.T) (key : Int) : CY 139 #[.pointer (some ⟨b, 0, none⟩), .int .u64 key] w (fun x w' => x = .tuple #[.int .u64 (valT s.T key), .bool (hasT s.T key)] ∧ GB none w w') := by
  refine callE Tryz.func139 rfl rfl ?_
  refine ⟨_, row_ok hm hT hl hs key, ?_⟩
  rintro _ w1 ⟨rfl, g1⟩
  unfold valT
  obtain ⟨a, ha⟩ : ∃ a, hasT s.T key = a := ⟨_, rfl⟩
  rw [ha]
  cases a
  · exact ⟨rfl, g1⟩
  · obtain ⟨x, hx, _⟩ := hit_at ha
    have hi : atT s.T key < s.T.length := (List.getElem?_eq_some_iff.1 hx).1
    obtain ⟨ta, tc, rfl, h1, h2, h3⟩ := hT
    rcases h3 with ⟨_, hz⟩ | ⟨g, off, cs, rfl, hb, hcut⟩
    · omega
    have hc := fz_at (f := Row.cells) (fun _ => rfl) hx hcut
    refine ⟨_, _, g1.get hm nofun, _, rfl, ⟨by omega, by omega⟩, _, _, g1.get hb nofun, .int .u64 x.val, cut_one hc rfl (by decide), ?_⟩
    exact ⟨by rw [show s.T[atT s.T key]? = some x from hx]; rfl, g1⟩
theorem stranger_ok (hm : Hl w b (shC s T M D O I) 31) (hM : PIn w M s.M) (hok : mapOk s.M = true) (hcan : Can s.M) {lo hi : Int} (h0 : 0 ≤ lo) : CY 83 #[.pointer (some ⟨b, 0, none⟩), .int .u64 lo, .int .u64 hi] w (fun x w' => x = .tuple #[.int .u8 (strG s.M s.g lo hi), .bool (strB s.M s.g lo hi)] ∧ GB none w w') := by
  refine callE Tryz.func83 rfl rfl ?_
  have hml := mapOk_len hok
  refine ⟨_, _, hm, _, rfl, _, Find_ok hM hok hcan h0, ?_⟩
  rintro _ w1 ⟨rfl, g1⟩
  unfold strG strB
  refine ⟨_, _, g1.get hm nofun, _, rfl, spl (fun c => ?_) (fun c => ?_)⟩
  · have c1 : own 0 s.M lo ≠ s.g := by simpa using c
    rw [if_pos c1, if_pos c1]
    exact ⟨rfl, g1⟩
  · have c1 : ¬ own 0 s.M lo ≠ s.g := by simpa using c
    rw [if_neg c1, if_neg c1]
    have hM1 : PIn w1 M s.M := hM.kz g1.kz (by decide)
    obtain ⟨a, c, rfl, hc, hl, hv⟩ := hM1
    refine ⟨_, _, g1.get hm nofun, _, rfl, ?_⟩
    refine ⟨fun n t wk => ∃ i : Nat, n = s.M.length - i ∧ i ≤ s.M.length ∧ t = [(1, .int .u64 lo), (2, .int .u64 hi), (31, .slice a s.M.length c), (32, .int .i64 s.M.length), (33, .int .i64 i)] ∧ s.M.find? (inP lo hi) = (s.M.drop i).find? (inP lo hi) ∧ GB none w1 wk, ⟨_, _, ⟨0, rfl, Nat.zero_le _, rfl, rfl, GB.refl _ _⟩, sb rfl⟩, ?_⟩
    rintro n t wk ⟨i, rfl, hi', rfl, hf, P⟩
    refine spl (fun d => ?_) (fun d => ?_)
    · have d1 : i < s.M.length := by have := of_decide_eq_true d; omega
      rcases hv with ⟨_, hz⟩ | ⟨b, off, cs, rfl, hb, hcut⟩
      · omega
      obtain ⟨y, hy⟩ : ∃ y, s.M[i]? = some y := ⟨s.M[i], by simp [d1]⟩
      rw [List.drop_eq_getElem_cons d1, show s.M[i] = y from (List.getElem?_eq_some_iff.1 hy).2, List.find?_cons] at hf
      refine ⟨⟨by omega, by omega⟩, _, _, P.get hb nofun, y.cells, fz_at (f := Pc.cells) (fun _ => rfl) hy hcut, rfl, fun w2 b2 m2 g2 l2 => ⟨_, _, _, m2, rfl, rfl, fun w3 m3 g3 => ?_⟩⟩
      have G := P.trans (g2.new g3 l2)
      refine ⟨_, _, m3, _, rfl, spl (fun e => ?_) (fun e => ?_)⟩
      · have e1 := of_decide_eq_true (b11 e)
        refine ⟨_, _, m3, _, rfl, spl (fun q => ?_) (fun q => ?_)⟩
        · have q1 := of_decide_eq_true q
          have z : inP lo hi y = true := by simp [inP]; omega
          rw [z] at hf
          rw [hf]
          exact ⟨_, _, m3, _, rfl, rfl, g1.trans G⟩
        · have q1 := of_decide_eq_false q
          have z : inP lo hi y = false := by simp [inP]; omega
          exact ⟨⟨by omega, by omega⟩, _, _, ⟨i + 1, rfl, by omega, rfl, by rw [hf, z], G⟩, (sb rfl), by omega⟩
      · have e1 := of_decide_eq_false (b10 e)
        have z : inP lo hi y = false := by simp [inP]; omega
        exact ⟨⟨by omega, by omega⟩, _, _, ⟨i + 1, rfl, by omega, rfl, by rw [hf, z], G⟩, (sb rfl), by omega⟩
    · have d1 : i = s.M.length := by have := of_decide_eq_false d; omega
      rw [d1, List.drop_length] at hf
      rw [hf]
      exact ⟨rfl, g1.trans P⟩
theorem sound_ok (w : World) (hM : PIn w M s.M) (hok : mapOk s.M = true) (hcan : Can s.M) (hO : ∃ a c, O = .slice a s.O.length c) (hI : ∃ a c, I = .slice a s.I.length c) (hT : ∃ a n c, T = .slice a n c) (hD : ∃ a n c, D = .slice a n c) (hg : s.g < s.n) (hn : s.n ≤ 4) (hn0 : 0 ≤ s.n) (hol : (s.O.length : Int) = s.n) (hil : (s.I.length : Int) = s.n) : CY 43 #[.agg (shC s T M D O I).toArray] w (fun x w' => x = .bool true ∧ GB none w w') := by
  obtain ⟨oa, oc, rfl⟩ := hO
  obtain ⟨ia, ic, rfl⟩ := hI
  obtain ⟨ta, tn, tc, rfl⟩ := hT
  obtain ⟨da, dn, dc, rfl⟩ := hD
  have hM0 := hM
  obtain ⟨ma, mc, rfl, _⟩ := hM
  refine callE Tryz.func43 rfl rfl ?_
  refine fun w1 b1 m1 g1 l1 => ⟨_, _, m1, _, rfl, _, Find_ok (hM0.kz g1.kz (by decide)) hok hcan (Int.le_refl 0), ?_⟩
  rintro _ w2 ⟨rfl, g2⟩
  have m1 := g2.get m1 nofun
  have G := g1.trans g2
  refine ⟨_, _, m1, _, rfl, .inl ⟨⟨by omega, by omega⟩, ?_⟩⟩
  refine ⟨_, _, m1, _, rfl, _, _, m1, _, rfl, spl (fun e => ?_) (fun e => ?_)⟩
  · refine ⟨_, _, m1, _, rfl, spl (fun e => ?_) (fun e => ?_)⟩
    · refine ⟨_, _, m1, _, rfl, ?_⟩
      exact ⟨vb (by simpa using hil), G⟩
    · exact absurd hol (by have := b10 e; simpa using this)
  · have := of_decide_eq_false (b10 e)
    omega
end
end
end Go.Proofs.YtignemioillaiaaGreat
