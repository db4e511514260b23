/- A shard at work (5): Grow, Concat, split. -/
import Derived.Test.YtignemioillaiaaGreatG44
namespace Go.Proofs.YtignemioillaiaaGreat
set_option maxHeartbeats 8000000
set_option maxRecDepth 100000
section
open Go Go.Conc
theorem LN.two {e size n n' : Nat} {w0 w w' : World} {v v1 v' : Value} {xs ys : List Value} (h : LN e size w0 w v n xs) (k : LN e size w0 w v1 n' ys) (g : GB v.ownBlock w w') (hn : ∀ g, v'.ownBlock = some g → v.ownBlock = some g ∨ w.heap.size ≤ g) (hs : ∀ g, v.ownBlock = some g → v1.ownBlock ≠ some g) : LN e size w0 w' v1 n' ys ∧ ∀ g, v'.ownBlock = some g → v1.ownBlock ≠ some g := by
  refine ⟨⟨owns_rely k.own fun y hy => ?_, h.gb.ownB g h.new, k.new⟩, fun y hy he => ?_⟩
  · obtain ⟨c, hc⟩ := own_obj k.own hy
    exact g.block y (lt_heap hc) fun z => hs y z.symm hy
  · rcases hn y hy with q | q
    · exact hs y q he
    · have := k.lt he; omega
abbrev Gro (T k F : Nat) : Prop := ∀ (w : World) {n : Int} (_ : 0 ≤ n) (_ : n ≤ 1000000), CY F #[.slice none 0 0, .int .i64 n] w (fun v w' => LN T k w w' v 0 [])
theorem grow_both : Gro 128 2 149 ∧ Gro 57 7 150 := by
  constructor <;> intro w n h0 hn
  refine callE Tryz.func149 rfl rfl ?_
  rotate_left
  refine callE Tryz.func150 rfl rfl ?_
  rotate_left
  all_goals
    refine spl (fun e => ?_) (fun e => ?_)
    · have := of_decide_eq_true e
      omega
    refine ⟨⟨by decide, by decide⟩, ⟨by omega, by omega⟩, spl (fun e => ?_) (fun e => ?_)⟩
    · have e1 := of_decide_eq_true e
      refine ⟨⟨by decide, by decide⟩, [], own0 _ _ _, by omega, by show ((0 : Nat) : Int) < _; omega, by show ((0 : Int).toNat : Int) + _ ≤ _; simp; omega, fun b cap cur w' hb hs ht hc hm g l => ?_⟩
      refine ⟨⟨by decide, by omega⟩, ?_⟩
      exact ⟨⟨by simp, .inr ⟨b, cap, cur, rfl, Nat.zero_le _, hb, Nat.zero_le _, hm, hs, by simp⟩⟩, g, fun y hy => by simp [Value.ownBlock] at hy; omega⟩
    · exact LN.nil (GB.refl _ _)
abbrev catX {α : Type} (xs : List (Value × List α)) : List α := (xs.map (·.2)).flatten
abbrev Con (α : Type) (f : α → List Value) (T U k F : Nat) : Prop := ∀ {J : World → World → Value → List α → Prop} (_ : J = fun w w' v l => LN T k w w' v l.length (l.map f).flatten) {w : World} {vb : Nat} {xs : List (Value × List α)} (_ : Hl w vb (xs.map (·.1)) U) (_ : ∀ x ∈ xs, Fz w T k x.1 x.2.length (x.2.map f).flatten) (_ : (catX xs).length ≤ 1000000) (_ : xs.length ≤ 100), CY F #[.slice (some ⟨vb, 0, none⟩) xs.length xs.length] w (fun v w' => J w w' v (catX xs))
theorem concat_both : Con Row Row.cells 128 25 2 91 ∧ Con Rep Rep.cells 57 27 7 94 := by
  constructor <;> intro J hJ w vb xs hvb hx hl hxl
  all_goals
    have hct : ∀ k, (catX (xs.take k)).length ≤ (catX xs).length := fun k => by
      have : catX xs = catX (xs.take k) ++ catX (xs.drop k) := by unfold catX; rw [← List.flatten_append, ← List.map_append, List.take_append_drop]
      rw [this, List.length_append]; omega
    have hnx : ∀ k x, xs[k]? = some x → catX (xs.take (k + 1)) = catX (xs.take k) ++ x.2 := fun k x h => by
      unfold catX
      rw [List.take_add_one, h]; simp
  have gr := @grow_both.1
  refine callE Tryz.func91 rfl rfl ?_
  rotate_left
  have gr := @grow_both.2
  refine callE Tryz.func94 rfl rfl ?_
  rotate_left
  all_goals
    refine ⟨fun n s wk => ∃ k : Nat, n = xs.length - k ∧ k ≤ xs.length ∧ s = [(0, .slice (some ⟨vb, 0, none⟩) xs.length xs.length), (3, .int .i64 (catX (xs.take k)).length), (9, .slice (some ⟨vb, 0, none⟩) xs.length xs.length), (10, .int .i64 xs.length), (11, .int .i64 k)] ∧ wk = w, ⟨_, _, ⟨0, rfl, Nat.zero_le _, rfl, rfl⟩, sb rfl⟩, ?_⟩
    rintro n s wk ⟨k, rfl, hk, rfl, rfl⟩
    refine spl (fun d => ?_) (fun d => ?_)
    · have d1 : k < xs.length := by have := of_decide_eq_true d; omega
      obtain ⟨⟨v, l⟩, hv⟩ : ∃ x, xs[k]? = some x := ⟨xs[k], by simp [d1]⟩
      obtain ⟨a, c, e, _⟩ := hx _ (List.mem_of_getElem? hv)
      have e : v = .slice a l.length c := e
      subst e
      have h1 := hct (k + 1)
      have h2 := hnx k _ hv
      rw [h2, List.length_append] at h1
      refine ⟨⟨by omega, by omega⟩, _, _, hvb, .slice a l.length c, by show (xs.map (·.1)).toArray.toList[0 + (k : Int).toNat * 1]? = _; simp [hv], ⟨by dsimp only at h1; omega, by dsimp only at h1; omega⟩, ?_⟩
      refine ⟨⟨by omega, by omega⟩, _, _, ⟨k + 1, rfl, by omega, rfl, rfl⟩, ⟨rfl, ?_, sb rfl⟩, by omega⟩
      show some (Value.int .i64 _) = some (Value.int .i64 _)
      rw [h2, List.length_append]; rfl
    · have d1 : k = xs.length := by have := of_decide_eq_false d; omega
      subst d1
      rw [List.take_length]
      refine ⟨_, gr wk (n := ((catX xs).length : Int)) (by omega) (by omega), ?_⟩
      intro v w1 L
      obtain ⟨va, vc, rfl⟩ := own_slice L.own
      refine ⟨fun n s w2 => ∃ (k : Nat) (x : Value), n = xs.length - k ∧ k ≤ xs.length ∧ s = [(6, x), (25, .slice (some ⟨vb, 0, none⟩) xs.length xs.length), (26, .int .i64 xs.length), (27, .int .i64 k)] ∧ J wk w2 x (catX (xs.take k)), ⟨_, _, ⟨0, _, rfl, Nat.zero_le _, rfl, hJ ▸ L⟩, sb rfl⟩, ?_⟩
      clear L
      rintro n s w2 ⟨k, x, rfl, hk, rfl, L⟩
      subst hJ
      obtain ⟨xa, xc, rfl⟩ := own_slice L.own
      refine spl (fun d => ?_) (fun d => ?_)
      · have d1 : k < xs.length := by have := of_decide_eq_true d; omega
        obtain ⟨⟨v, l⟩, hv⟩ : ∃ x, xs[k]? = some x := ⟨xs[k], by simp [d1]⟩
        have hF := hx _ (List.mem_of_getElem? hv)
        have h2 := hnx k _ hv
        have h1 := hct (k + 1)
        rw [h2, List.length_append] at h1
        dsimp only at hF h1 h2
        obtain ⟨a, c, rfl, hc, hlen, hd⟩ := hF
        refine ⟨⟨by omega, by omega⟩, _, _, L.gb.get hvb nofun, .slice a l.length c, by show (xs.map (·.1)).toArray.toList[0 + (k : Int).toNat * 1]? = _; simp [hv], ?_⟩
        rcases hd with ⟨rfl, h0⟩ | ⟨b, off, cs, rfl, hb, hcut⟩
        · rw [h0]
          have hl0 : l = [] := List.eq_nil_of_length_eq_zero h0
          have hcp : (catX (xs.take k)).length ≤ xc := by
            rcases L.own.2 with ⟨q, h0⟩ | ⟨_, _, _, q, _, _, h3, _⟩
            · injection q with _ _ q; omega
            · injection q with _ _ q; omega
          refine ⟨hcp, ⟨by omega, by omega⟩, _, _, ⟨k + 1, .slice xa (catX (xs.take k)).length xc, rfl, by omega, rfl, ?_⟩, (sb rfl), by omega⟩
          rw [h2, hl0, List.append_nil]; exact L
        · refine ⟨_, (l.map fun x => x.cells).flatten, L.own, ⟨_, _, L.gb.get hb nofun, hcut, hlen, ones_map (fun _ => rfl) _⟩, by omega, fun v' w3 ho g n => ?_⟩
          have L3 := L.app ho g n
          obtain ⟨xa', xc', rfl⟩ := own_slice L3.own
          refine ⟨⟨by omega, by omega⟩, _, _, ⟨k + 1, _, rfl, by omega, rfl, ?_⟩, (sb rfl), by omega⟩
          rw [h2]
          dsimp only
          rw [List.length_append, List.map_append, List.flatten_append]
          exact L3
      · have d1 : k = xs.length := by have := of_decide_eq_false d; omega
        subst d1
        rw [List.take_length] at L ⊢
        exact L
theorem concat_row : Con Row Row.cells 128 25 2 91 := concat_both.1
theorem concat_rep : Con Rep Rep.cells 57 27 7 94 := concat_both.2
theorem key_row (w : World) (x : Row) : CY 90 #[.agg x.cells.toArray] w (fun v w' => v = .int .u64 x.key ∧ GB none w w') := by
  refine callE Tryz.func90 rfl rfl ?_
  exact fun w1 b1 m1 g1 l1 => ⟨_, _, m1, _, rfl, rfl, g1⟩
theorem key_rep (w : World) (x : Rep) : CY 93 #[.agg x.cells.toArray] w (fun v w' => v = .int .u64 x.key ∧ GB none w w') := by
  refine callE Tryz.func93 rfl rfl ?_
  exact fun w1 b1 m1 g1 l1 => ⟨_, _, m1, _, rfl, rfl, g1⟩
section
variable {α : Type} (κ : α → Int) (lo hi : Int) {l : List α} {i : Nat} {y : α}
theorem s_snoc (hy : l[i]? = some y) : sB κ lo (l.take (i + 1)) = sB κ lo (l.take i) ++ (if κ y < lo then [y] else []) ∧ sW κ lo hi (l.take (i + 1)) = sW κ lo hi (l.take i) ++ (if κ y < lo then [] else if hi < κ y then [] else [y]) ∧ sA κ lo hi (l.take (i + 1)) = sA κ lo hi (l.take i) ++ (if κ y < lo then [] else if hi < κ y then [y] else []) := by
  have ht : l.take (i + 1) = l.take i ++ [y] := by rw [List.take_add_one, hy]; rfl
  unfold sB sW sA
  rw [ht]
  refine ⟨?_, ?_, ?_⟩ <;> rw [List.filter_append] <;> by_cases h : κ y < lo <;> by_cases h' : hi < κ y <;> simp [h, h']
theorem s_len (l : List α) : (sB κ lo l).length ≤ l.length ∧ (sW κ lo hi l).length ≤ l.length ∧ (sA κ lo hi l).length ≤ l.length := ⟨List.length_filter_le _ _, List.length_filter_le _ _, List.length_filter_le _ _⟩
end
abbrev Spl (α : Type) (f : α → List Value) (κ₀ : α → Int) (T k F G : Nat) : Prop := ∀ {J : World → World → Value → List α → Prop} (_ : J = fun w w' v l => LN T k w w' v l.length (l.map f).flatten) {κ : α → Int} (_ : κ = κ₀) {kv : Value} (_ : kv = .func (.func G) #[] #[]) {w : World} {v : Value} {l : List α} (_ : Fz w T k v l.length (l.map f).flatten) (_ : l.length ≤ 1000000) (lo hi : Int), CY F #[v, kv, .int .u64 lo, .int .u64 hi] w (fun x w' => ∃ v1 v2 v3, x = .tuple #[v1, v2, v3] ∧ J w w' v1 (sB κ lo l) ∧ J w w' v2 (sW κ lo hi l) ∧ J w w' v3 (sA κ lo hi l) ∧ (∀ g, v2.ownBlock = some g → v1.ownBlock ≠ some g ∧ v3.ownBlock ≠ some g))
theorem split_both : Spl Row Row.cells (·.key) 128 2 89 90 ∧ Spl Rep Rep.cells (·.key) 57 7 92 93 := by
  constructor <;> intro J hJ κ hκ kv hkv w v l h hl lo hi
  all_goals
    obtain ⟨a, c, rfl, hc, hlen, hv⟩ := h
  have ky := key_row
  refine callE Tryz.func89 rfl rfl ?_
  rotate_left
  have ky := key_rep
  refine callE Tryz.func92 rfl rfl ?_
  rotate_left
  all_goals
    refine ⟨fun n s wk => ∃ (i : Nat) (v1 v2 v3 : Value), n = l.length - i ∧ i ≤ l.length ∧ s = [(1, kv), (2, .int .u64 lo), (3, .int .u64 hi), (8, v1), (9, v2), (10, v3), (14, .slice a l.length c), (15, .int .i64 l.length), (16, .int .i64 i)] ∧ J w wk v1 (sB κ lo (l.take i)) ∧ J w wk v2 (sW κ lo hi (l.take i)) ∧ J w wk v3 (sA κ lo hi (l.take i)) ∧ (∀ g, v1.ownBlock = some g → v2.ownBlock ≠ some g ∧ v3.ownBlock ≠ some g) ∧ (∀ g, v2.ownBlock = some g → v3.ownBlock ≠ some g), ⟨_, _, ⟨0, .slice none 0 0, .slice none 0 0, .slice none 0 0, rfl, Nat.zero_le _, rfl, by subst hJ; exact LN.nil (GB.refl _ _), by subst hJ; exact LN.nil (GB.refl _ _), by subst hJ; exact LN.nil (GB.refl _ _), nofun, nofun⟩, sb rfl⟩, ?_⟩
    rintro n s wk ⟨i, v1, v2, v3, rfl, hi', rfl, L1, L2, L3, s1, s2⟩
    have sn := fun y hy => @s_snoc _ κ lo hi l i y hy
    have sl := s_len κ lo hi (l.take i)
    subst hJ hκ hkv
    obtain ⟨a1, c1, rfl⟩ := own_slice L1.own
    obtain ⟨a2, c2, rfl⟩ := own_slice L2.own
    obtain ⟨a3, c3, rfl⟩ := own_slice L3.own
    refine spl (fun d => ?_) (fun d => ?_)
    · have d1 : i < l.length := by have := of_decide_eq_true d; omega
      rcases hv with ⟨_, hz⟩ | ⟨b, off, cs, rfl, hb, hcut⟩
      · omega
      obtain ⟨y, hy⟩ : ∃ y, l[i]? = some y := ⟨l[i], by simp [d1]⟩
      obtain ⟨hB, hW, hA⟩ := sn y hy
      obtain ⟨lB, lW, lA⟩ := sl
      rw [List.length_take] at lB lW lA
      refine ⟨⟨by omega, by omega⟩, _, _, L1.gb.get hb nofun, y.cells, fz_at_ hcut hy (fun _ => rfl), rfl, fun w2 b2 m2 g2 l2 => ⟨_, _, _, m2, rfl, rfl, fun w3 m3 g3 => ?_⟩⟩
      have G3 := g2.new g3 l2
      refine ⟨_, _, m3, y.cells, rfl, rfl, _, ky w3 y, ?_⟩
      rintro _ w4 ⟨rfl, g4⟩
      have m4 := g4.get m3 nofun
      replace L1 := (L1.gb0 G3).gb0 g4
      replace L2 := (L2.gb0 G3).gb0 g4
      replace L3 := (L3.gb0 G3).gb0 g4
      clear G3 g2 g3 m2 m3
      refine spl (fun e => ?_) (fun e => ?_)
      · have e1 := of_decide_eq_true e
        rw [if_pos e1] at hB hW hA
        rw [List.append_nil] at hW hA
        refine ⟨_, _, m4, y.cells, rfl, rfl, fun w5 b5 m5 g5 l5 => ?_⟩
        refine ⟨_, y.cells, (L1.gb0 g5).own, ⟨_, _, m5, rfl, rfl, rfl⟩, by omega, fun v' w6 ho g6 n6 => ?_⟩
        have P := (L1.gb0 g5).app ho g6 n6
        obtain ⟨a1', c1', rfl⟩ := own_slice P.own
        obtain ⟨K2, q2⟩ := LN.two (L1.gb0 g5) (L2.gb0 g5) g6 n6 (fun g hg => (s1 g hg).1)
        obtain ⟨K3, q3⟩ := LN.two (L1.gb0 g5) (L3.gb0 g5) g6 n6 (fun g hg => (s1 g hg).2)
        refine ⟨⟨by omega, by omega⟩, _, _, ⟨i + 1, .slice a1' _ c1', _, _, rfl, by omega, rfl, ?_, ?_, ?_, fun g hg => ⟨q2 g hg, q3 g hg⟩, s2⟩, (sb rfl), by omega⟩
        · rw [hB]; simpa using P
        · rw [hW]; exact K2
        · rw [hA]; exact K3
      · have e1 := of_decide_eq_false e
        rw [if_neg e1] at hB hW hA
        rw [List.append_nil] at hB
        refine spl (fun q => ?_) (fun q => ?_)
        · have q1 : hi < y.key := of_decide_eq_true q
          rw [if_pos q1] at hW hA
          rw [List.append_nil] at hW
          refine ⟨_, _, m4, y.cells, rfl, rfl, fun w5 b5 m5 g5 l5 => ?_⟩
          refine ⟨_, y.cells, (L3.gb0 g5).own, ⟨_, _, m5, rfl, rfl, rfl⟩, by omega, fun v' w6 ho g6 n6 => ?_⟩
          have P := (L3.gb0 g5).app ho g6 n6
          obtain ⟨a3', c3', rfl⟩ := own_slice P.own
          obtain ⟨K1, q1⟩ := LN.two (L3.gb0 g5) (L1.gb0 g5) g6 n6 (fun g hg he => (s1 g he).2 hg)
          obtain ⟨K2, q2⟩ := LN.two (L3.gb0 g5) (L2.gb0 g5) g6 n6 (fun g hg he => s2 g he hg)
          refine ⟨⟨by omega, by omega⟩, _, _, ⟨i + 1, _, _, .slice a3' _ c3', rfl, by omega, rfl, ?_, ?_, ?_, fun g hg => ⟨(s1 g hg).1, fun he => q1 g he hg⟩, fun g hg he => q2 g he hg⟩, (sb rfl), by omega⟩
          · rw [hB]; exact K1
          · rw [hW]; exact K2
          · rw [hA]; simpa using P
        · have q1 : ¬ hi < y.key := of_decide_eq_false q
          rw [if_neg q1] at hW hA
          rw [List.append_nil] at hA
          refine ⟨_, _, m4, y.cells, rfl, rfl, fun w5 b5 m5 g5 l5 => ?_⟩
          refine ⟨_, y.cells, (L2.gb0 g5).own, ⟨_, _, m5, rfl, rfl, rfl⟩, by omega, fun v' w6 ho g6 n6 => ?_⟩
          have P := (L2.gb0 g5).app ho g6 n6
          obtain ⟨a2', c2', rfl⟩ := own_slice P.own
          obtain ⟨K1, q1⟩ := LN.two (L2.gb0 g5) (L1.gb0 g5) g6 n6 (fun g hg he => (s1 g he).1 hg)
          obtain ⟨K3, q3⟩ := LN.two (L2.gb0 g5) (L3.gb0 g5) g6 n6 (fun g hg => s2 g hg)
          refine ⟨⟨by omega, by omega⟩, _, _, ⟨i + 1, _, .slice a2' _ c2', _, rfl, by omega, rfl, ?_, ?_, ?_, fun g hg => ⟨fun he => q1 g he hg, (s1 g hg).2⟩, fun g hg => q3 g hg⟩, (sb rfl), by omega⟩
          · rw [hB]; exact K1
          · rw [hW]; simpa using P
          · rw [hA]; exact K3
    · have d1 : i = l.length := by have := of_decide_eq_false d; omega
      subst d1
      have et := List.take_length (l := l)
      refine ⟨_, _, _, rfl, ?_, ?_, ?_, fun g hg => ⟨fun he => (s1 g he).1 hg, s2 g hg⟩⟩
      · rw [et] at L1 ⊢; exact L1
      · rw [et] at L2 ⊢; exact L2
      · rw [et] at L3 ⊢; exact L3
theorem split_row : Spl Row Row.cells (·.key) 128 2 89 90 := split_both.1
theorem split_rep : Spl Rep Rep.cells (·.key) 57 7 92 93 := split_both.2
abbrev keepB (sq : Int) (x : Ra) : Bool := !decide (x.1.seq ≤ sq)
theorem set1_ok {w : World} {b : Nat} {sq : Int} (hb : w.heap[b]? = some (.cells #[.int .u32 sq] 47)) (r : Rg) {ra da : Option Addr} {rn rc dn dc : Nat} : CY 96 #[.agg (rgC r (.slice ra rn rc) (.slice da dn dc)).toArray, .pointer (some ⟨b, 0, none⟩)] w (fun v w' => v = .bool (decide (r.seq ≤ sq)) ∧ GB none w w') := by
  refine callE Tryz.func96 rfl rfl ?_
  refine fun w1 b1 m1 g1 l1 => ?_
  exact ⟨_, _, m1, _, rfl, _, _, g1.get hb nofun, _, rfl, rfl, g1⟩
theorem RgN.slr {w0 w : World} {x : Ra} (h : RgN w0 w x) : ∃ ra rc da dc, x.2 = (.slice ra x.1.rows.length rc, .slice da x.1.dups.length dc) := by
  obtain ⟨r, rv, dv⟩ := x
  obtain ⟨ra, rc, e1⟩ := own_slice h.r.own
  obtain ⟨da, dc, e2⟩ := own_slice h.d.own
  have e1 : rv = _ := e1
  have e2 : dv = _ := e2
  exact ⟨ra, rc, da, dc, by rw [e1, e2]⟩
theorem idxf_ok {w0 w : World} {b : Nat} {sq : Int} (hb : w.heap[b]? = some (.cells #[.int .u32 sq] 47)) {q : Value} {rs : List Ra} (h : QN w0 w q rs) (hl : rs.length ≤ 100000) : CY 151 #[q, .func (.func 96) #[] #[.pointer (some ⟨b, 0, none⟩)]] w (fun v w' => ∃ i : Int, v = .int .i64 i ∧ GB none w w' ∧ ((i = -1 ∧ ∀ x ∈ rs, keepB sq x = true) ∨ (∃ k : Nat, i = k ∧ k < rs.length ∧ (∀ j x, j < k → rs[j]? = some x → keepB sq x = true) ∧ ∀ x, rs[k]? = some x → keepB sq x = false))) := by
  obtain ⟨qa, qc, rfl⟩ := own_slice h.q.own
  refine callE Tryz.func151 rfl rfl ?_
  refine ⟨fun n s wk => ∃ i : Nat, n = rs.length - i ∧ i ≤ rs.length ∧ s = [(0, .slice qa rs.length qc), (1, .func (.func 96) #[] #[.pointer (some ⟨b, 0, none⟩)]), (7, .int .i64 rs.length), (8, .int .i64 i)] ∧ GB none w wk ∧ ∀ (j : Nat) (x : Ra), j < i → rs[j]? = some x → keepB sq x = true, ⟨_, _, ⟨0, rfl, Nat.zero_le _, rfl, GB.refl _ _, fun _ _ h => by omega⟩, sb rfl⟩, ?_⟩
  rintro n s wk ⟨i, rfl, hi, rfl, gk, hk⟩
  refine spl (fun d => ?_) (fun d => ?_)
  · have d1 : i < rs.length := by have := of_decide_eq_true d; omega
    obtain ⟨x, hx⟩ : ∃ x, rs[i]? = some x := ⟨rs[i], by simp [d1]⟩
    obtain ⟨ra, rc, da, dc, ex⟩ := (h.r x (List.mem_of_getElem? hx)).slr
    obtain ⟨r, p⟩ := x
    have ex : p = (.slice ra r.rows.length rc, .slice da r.dups.length dc) := ex
    subst ex
    obtain ⟨g, cap, cur, ev, hg, hcur, hcut, hsz⟩ := (h.q.gb0 gk).at (f := rgA) (fun _ => rfl) hx
    injection ev with ea _ ec
    subst ea ec
    refine ⟨⟨by omega, by omega⟩, _, _, hcur, rgC r (.slice ra r.rows.length rc) (.slice da r.dups.length dc), hcut, rfl, _, set1_ok (gk.get hb nofun) r, ?_⟩
    rintro _ w2 ⟨rfl, g2⟩
    refine spl (fun e => ?_) (fun e => ?_)
    · exact ⟨i, rfl, gk.trans g2, .inr ⟨i, rfl, d1, hk, fun x hx' => by rw [hx] at hx'; cases hx'; simp [keepB, of_decide_eq_true e]⟩⟩
    · refine ⟨⟨by omega, by omega⟩, _, _, ⟨i + 1, rfl, by omega, rfl, gk.trans g2, fun j x hj hx' => ?_⟩, (sb rfl), by omega⟩
      rcases Nat.lt_or_eq_of_le (Nat.lt_succ_iff.1 hj) with q | q
      · exact hk j x q hx'
      · subst q; rw [hx] at hx'; cases hx'; simp [keepB, e]
  · have d1 : i = rs.length := by have := of_decide_eq_false d; omega
    refine ⟨-1, rfl, gk, .inl ⟨rfl, fun x hx => ?_⟩⟩
    obtain ⟨j, hj⟩ := List.getElem?_of_mem hx
    exact hk j x (by have := (List.getElem?_eq_some_iff.1 hj).1; omega) hj
theorem take_mid {A X B : List Value} {n : Nat} (h : A.length + X.length ≤ n) : (A ++ X ++ B).take n = A ++ X ++ B.take (n - (A.length + X.length)) := by
  rw [List.take_append, List.take_of_length_le (by rw [List.length_append]; omega), List.length_append]
theorem okSt_rg {xs : List Value} {off : Nat} {r : Rg} {ra da : Option Addr} {rn rc dn dc : Nat} (h : off + 7 ≤ xs.length) : okSt xs off 7 (.agg (rgC r (.slice ra rn rc) (.slice da dn dc)).toArray) = true := by
  have h1 : Nat.ble (off + 7) xs.length = true := Nat.ble_eq_true_of_le h
  show (true && true && Nat.ble (off + 7) xs.length) = true
  rw [h1]; rfl
theorem flat_setE {α : Type} {f : α → List Value} {size : Nat} (hf : ∀ x, (f x).length = size) (x' : α) : ∀ (l : List α) (i : Nat), i < l.length → (l.map f).flatten.take (i * size) ++ f x' ++ (l.map f).flatten.drop (i * size + size) = ((l.set i x').map f).flatten := by
  intro l i hi
  have h1 := fl_drop hf l (i + 1)
  rw [Nat.succ_mul] at h1
  rw [fl_take hf, h1, List.set_eq_take_append_cons_drop, if_pos hi, List.map_append, List.map_cons, List.flatten_append, List.flatten_cons, List.append_assoc]
theorem LN.setE {e size : Nat} {w0 w w' : World} {α : Type} {f : α → List Value} {l : List α} {g cap : Nat} {cur : Array Value} (h : LN e size w0 w (.slice (some ⟨g, 0, none⟩) l.length cap) l.length (l.map f).flatten) (hf : ∀ x, (f x).length = size) (hcur : w.heap[g]? = some (.cells cur e)) {i : Nat} (hi : i < l.length) {x' : α} {off' s1 : Nat} {vc : List Value} (hw : Hl w' g (cur.toList.take off' ++ vc ++ cur.toList.drop (off' + s1)) e) (e1 : off' = i * size) (e2 : s1 = size) (e3 : vc = f x') (gb : GB (some g) w w') : LN e size w0 w' (.slice (some ⟨g, 0, none⟩) (l.set i x').length cap) (l.set i x').length ((l.set i x').map f).flatten := by
  obtain ⟨cur1, hc1, h3, h4, h5, h6⟩ := own_open h.own
  rw [hcur] at hc1
  injection hc1 with hc1
  injection hc1 with hc1 _
  subst hc1
  rw [e1, e2, e3] at hw
  have h2 : (i + 1) * size ≤ l.length * size := Nat.mul_le_mul_right _ hi
  rw [Nat.succ_mul] at h2
  have h7 : l.length * size ≤ cap * size := Nat.mul_le_mul_right _ h3
  have hcl : cur.toList.length = cap * size := by rw [Array.length_toList, h5]
  have hfl := hf x'
  rw [List.length_set]
  refine ⟨⟨?_, .inr ⟨g, cap, _, rfl, Nat.zero_le _, hw, h3, h4, ?_, ?_⟩⟩, h.gb.new gb (h.new g rfl), h.new⟩
  · rw [fl_size hf, List.length_set]
  · rw [List.size_toArray, List.length_append, List.length_append, List.length_take, List.length_drop, hfl, hcl]; omega
  · show (cur.toList.take (i * size) ++ f x' ++ cur.toList.drop (i * size + size)).take (l.length * size) = _
    have hta : (cur.toList.take (i * size)).length = i * size := by rw [List.length_take]; omega
    rw [← flat_setE hf x' l i hi, ← h6, List.take_take, Nat.min_eq_left (by omega), List.drop_take, take_mid (by rw [hta, hfl]; omega), hta, hfl]
theorem filt_next {α : Type} (p : α → Bool) {l : List α} {j : Nat} {x : α} (h : l[j]? = some x) : (l.take (j + 1)).filter p = (l.take j).filter p ++ (if p x = true then [x] else []) := by
  rw [List.take_add_one, h, List.filter_append]
  cases hp : p x <;> simp [hp]
theorem LN.cut {e size : Nat} {w0 w w' : World} {α : Type} {f : α → List Value} {l : List α} {g cap : Nat} {cur : Array Value} (h : LN e size w0 w (.slice (some ⟨g, 0, none⟩) l.length cap) l.length (l.map f).flatten) (hf : ∀ x, (f x).length = size) (hcur : w.heap[g]? = some (.cells cur e)) {i off : Nat} (hi : i ≤ l.length) {zs : List Value} (hz : off + zs.length ≤ cur.size) (he : off = i * size) (hw : Hl w' g (cur.toList.take off ++ zs ++ cur.toList.drop (off + zs.length)) e) (gb : GB (some g) w w') : LN e size w0 w' (.slice (some ⟨g, 0, none⟩) i cap) (l.take i).length ((l.take i).map f).flatten := by
  obtain ⟨cur1, hc1, h3, h4, h5, h6⟩ := own_open h.own
  rw [hcur] at hc1
  injection hc1 with hc1
  injection hc1 with hc1 _
  subst hc1
  rw [he] at hw hz
  have h2 : i * size ≤ l.length * size := Nat.mul_le_mul_right _ hi
  have hlen : (l.take i).length = i := by rw [List.length_take]; omega
  have h7 : l.length * size ≤ cap * size := Nat.mul_le_mul_right _ h3
  have hcl : cur.toList.length = cap * size := by rw [Array.length_toList, h5]
  rw [hlen]
  refine ⟨⟨by rw [fl_size hf, hlen], .inr ⟨g, cap, _, rfl, Nat.zero_le _, hw, by omega, h4, ?_, ?_⟩⟩, h.gb.new gb (h.new g rfl), h.new⟩
  · rw [List.size_toArray, List.length_append, List.length_append, List.length_take, List.length_drop, hcl]; omega
  · show (cur.toList.take (i * size) ++ zs ++ _).take (i * size) = _
    rw [← fl_take hf, ← h6, List.take_take, Nat.min_eq_left h2, List.append_assoc, List.take_append_of_le_length (by rw [List.length_take]; omega), List.take_take, Nat.min_self]
theorem delf_ok {w0 w : World} {b : Nat} {sq : Int} (hb : w.heap[b]? = some (.cells #[.int .u32 sq] 47)) {q : Value} {rs : List Ra} (h : QN w0 w q rs) (hl : rs.length ≤ 100000) : CY 95 #[q, .func (.func 96) #[] #[.pointer (some ⟨b, 0, none⟩)]] w (fun v w' => QN w0 w' v (rs.filter (keepB sq)) ∧ GB q.ownBlock w w' ∧ v.ownBlock = q.ownBlock) := by
  obtain ⟨qa, qc, rfl⟩ := own_slice h.q.own
  refine callE Tryz.func95 rfl rfl ?_
  refine ⟨_, idxf_ok hb h hl, ?_⟩
  rintro _ w1 ⟨i0, rfl, g1, hcase⟩
  rcases hcase with ⟨rfl, hall⟩ | ⟨i, rfl, hi, hbef, hat⟩
  · have hf : rs.filter (keepB sq) = rs := List.filter_eq_self.2 hall
    rw [hf]
    exact ⟨h.gb0 g1, g1.weak, rfl⟩
  obtain ⟨x0, hx0⟩ : ∃ x, rs[i]? = some x := ⟨rs[i], by simp [hi]⟩
  obtain ⟨g, cap, cur0, ev, hg, hcur0, _, _⟩ := (h.q.gb0 g1).at (f := rgA) (fun _ => rfl) hx0
  injection ev with ea _ ec
  subst ea ec
  refine ⟨⟨by omega, by omega⟩, ?_⟩
  have hfi : (rs.take i).filter (keepB sq) = rs.take i := List.filter_eq_self.2 fun x hx => by
    obtain ⟨j, hj⟩ := List.getElem?_of_mem hx
    have hjl := (List.getElem?_eq_some_iff.1 hj).1
    rw [List.length_take] at hjl
    rw [List.getElem?_take] at hj
    exact hbef j x (by omega) (by split at hj <;> first | exact hj | cases hj)
  refine ⟨fun n s wk => ∃ (i j : Nat) (cs : List Ra), n = rs.length - j ∧ i < j ∧ j ≤ rs.length ∧ s = [(0, .slice (some ⟨g, 0, none⟩) rs.length qc), (1, .func (.func 96) #[] #[.pointer (some ⟨b, 0, none⟩)]), (5, .int .i64 i), (6, .int .i64 j)] ∧ cs.length = rs.length ∧ LN 52 7 w0 wk (.slice (some ⟨g, 0, none⟩) cs.length qc) cs.length (cs.map rgA).flatten ∧ cs.take i = (rs.take j).filter (keepB sq) ∧ (∀ k, j ≤ k → cs[k]? = rs[k]?) ∧ (∀ x ∈ rs, RgN w0 wk x) ∧ GB (some g) w wk, ⟨_, _, ⟨i, i + 1, rs, rfl, by omega, by omega, rfl, rfl, h.q.gb0 g1, ?_, fun _ _ => rfl, fun x hx => (h.r x hx).gb0 g1, g1.weak⟩, sb rfl⟩, ?_⟩
  · rw [filt_next (keepB sq) hx0, hat x0 hx0, hfi]; simp
  clear hfi hbef hat hx0 hcur0
  rintro n s wk ⟨i, j, cs, rfl, hij, hj, rfl, hcl, L, htk, hrest, hR, gk⟩
  have hil : i = ((rs.take j).filter (keepB sq)).length := by rw [← htk, List.length_take]; omega
  refine spl (fun d => ?_) (fun d => ?_)
  · have d1 : j < rs.length := by have := of_decide_eq_true d; omega
    obtain ⟨x, hx⟩ : ∃ x, rs[j]? = some x := ⟨rs[j], by simp [d1]⟩
    have hfn := filt_next (keepB sq) hx
    have hx' : cs[j]? = some x := (hrest j (Nat.le_refl _)).trans hx
    obtain ⟨ra, rc, da, dc, ex⟩ := (hR x (List.mem_of_getElem? hx)).slr
    obtain ⟨r, p⟩ := x
    have ex : p = (.slice ra r.rows.length rc, .slice da r.dups.length dc) := ex
    subst ex
    obtain ⟨g', cap', cur, ev, _, hcur, hcut, hsz⟩ := L.at (f := rgA) (fun _ => rfl) hx'
    injection ev with ea _ ec
    injection ea with ea
    injection ea with ea
    subst ea ec
    refine ⟨⟨by omega, by omega⟩, _, _, hcur, rgC r (.slice ra r.rows.length rc) (.slice da r.dups.length dc), hcut, rfl, fun w2 b2 m2 g2 l2 => ⟨_, _, _, m2, rfl, rfl, fun w3 m3 g3 => ?_⟩⟩
    have G3 := g2.new g3 l2
    have hbk : wk.heap[b]? = some (.cells #[.int .u32 sq] 47) := gk.get hb fun z => by
      obtain ⟨c, hc⟩ := own_obj h.q.own (g := g) rfl
      exact ne_ty hb hc (by decide) (Option.some.inj z)
    refine ⟨_, _, m3, rgC r (.slice ra r.rows.length rc) (.slice da r.dups.length dc), rfl, rfl, _, set1_ok (G3.get hbk nofun) r, ?_⟩
    rintro _ w4 ⟨rfl, g4⟩
    have G4 := G3.trans g4
    have m4 := g4.get m3 nofun
    have hcur4 := G4.get hcur nofun
    have L4 := L.gb0 G4
    refine spl (fun e => ?_) (fun e => ?_)
    · have e1 : keepB sq (r, Value.slice ra r.rows.length rc, Value.slice da r.dups.length dc) = true := by simpa [keepB] using e
      rw [e1, if_pos rfl] at hfn
      refine ⟨_, _, m4, rgC r (.slice ra r.rows.length rc) (.slice da r.dups.length dc), rfl, rfl, ⟨by omega, by omega⟩, _, _, _, hcur4, ?_, rfl, fun w5 m5 g5 => ?_⟩
      · exact okSt_rg (by rw [Array.length_toList]; show 0 + (i : Int).toNat * 7 + 7 ≤ _; omega)
      have L5 := L4.setE (f := rgA) (x' := (r, .slice ra r.rows.length rc, .slice da r.dups.length dc)) (fun _ => rfl) hcur4 (i := i) (by omega) m5 (by show 0 + (i : Int).toNat * 7 = _; omega) rfl rfl g5
      refine ⟨⟨by omega, by omega⟩, ⟨by omega, by omega⟩, _, _, ⟨i + 1, j + 1, cs.set i (r, .slice ra r.rows.length rc, .slice da r.dups.length dc), rfl, by omega, by omega, rfl, by rw [List.length_set]; exact hcl, L5, ?_, fun k hk => ?_, fun x hx => ((hR x hx).gb0 G4).gbt g5 hcur4 (by decide) (by decide) hg, (gk.trans G4.weak).trans g5⟩, (sb rfl), by omega⟩
      · rw [hfn, ← htk, List.take_add_one, List.take_set_of_le (Nat.le_refl _), set_get (by omega), if_pos rfl]; rfl
      · rw [set_get (by omega), if_neg (by omega)]
        exact hrest k (by omega)
    · have e1 : keepB sq (r, Value.slice ra r.rows.length rc, Value.slice da r.dups.length dc) = false := by simpa [keepB] using e
      rw [e1, if_neg (by decide), List.append_nil] at hfn
      exact ⟨⟨by omega, by omega⟩, _, _, ⟨i, j + 1, cs, rfl, by omega, by omega, rfl, hcl, L4, by rw [hfn]; exact htk, fun k hk => hrest k (by omega), fun x hx => (hR x hx).gb0 G4, gk.trans G4.weak⟩, (sb rfl), by omega⟩
  · have d1 : j = rs.length := by have := of_decide_eq_false d; omega
    subst d1
    rw [List.take_length] at htk
    obtain ⟨cur, hcur, h3, h4, h5, h6⟩ := own_open L.own
    refine ⟨⟨by omega, by omega, by omega⟩, ?_⟩
    rw [sl_cut (show ¬ qc = ((i : Int)).toNat by omega)]
    refine ⟨by omega, cur, _, hcur, ?_, fun zs w3 hzs m3 g3 => ?_⟩
    · rw [h5]; show _ * 7 + _ * 7 ≤ _; omega
    have hzl : zs.length = (rs.length - i) * 7 := by rw [hzs]; show (_ - _) * 7 = _; omega
    have L3 := L.cut (f := rgA) (fun _ => rfl) hcur (i := i) (by omega) (by rw [hzl, h5]; show ((i : Int)).toNat * 7 + _ ≤ _; omega) (by show ((i : Int)).toNat * 7 = _; omega) m3 g3
    rw [htk] at L3
    refine ⟨⟨by omega, by omega⟩, ⟨?_, fun x hx => ((hR x ((List.mem_filter.1 hx).1)).gbt g3 hcur (by decide) (by decide) hg)⟩, gk.trans g3, rfl⟩
    exact L3
end
end Go.Proofs.YtignemioillaiaaGreat
