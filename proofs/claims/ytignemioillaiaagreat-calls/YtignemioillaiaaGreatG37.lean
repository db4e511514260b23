/- What is right (2): the lists of a range. -/
import Derived.Test.YtignemioillaiaaGreatG36
namespace Go.Proofs.YtignemioillaiaaGreat
set_option maxHeartbeats 8000000
set_option maxRecDepth 100000
section
open Go Go.Conc
section
variable {α : Type} (f : α → Bool) (lt : α → α → Bool)
def atL (l : List α) (i : Nat) : Bool := match l[i]? with
  | none => true
  | some x => f x && (match i with
    | 0 => true
    | j + 1 => match l[j]? with
      | none => true
      | some y => lt y x)
def listB (l : List α) : Bool := decide (l.length ≤ 255) && (List.range l.length).all (atL f lt l)
variable {f lt} {l : List α}
theorem listB_long (h : ¬ l.length ≤ 255) : listB f lt l = false := by simp [listB, h]
theorem listB_f {k : Nat} {x : α} (hx : l[k]? = some x) (h : f x = false) : listB f lt l = false := by
  have hk := (List.getElem?_eq_some_iff.1 hx).1
  unfold listB
  rw [all_bad hk (by simp [atL, hx, h]), Bool.and_false]
theorem listB_lt {k : Nat} {x y : α} (hx : l[k + 1]? = some x) (hy : l[k]? = some y) (h : lt y x = false) : listB f lt l = false := by
  have hk := (List.getElem?_eq_some_iff.1 hx).1
  unfold listB
  rw [all_bad hk (by simp [atL, hx, hy, h]), Bool.and_false]
theorem atL_good {k : Nat} {x : α} (hx : l[k]? = some x) (h : f x = true) (hl : ∀ j y, k = j + 1 → l[j]? = some y → lt y x = true) : atL f lt l k = true := by
  unfold atL
  rw [hx]
  simp only [h, Bool.true_and]
  cases k with
  | zero => rfl
  | succ j =>
    simp only
    cases hj : l[j]? with
    | none => rfl
    | some y => exact hl j y rfl hj
end
def inR (r : Rg) (k : Int) : Bool := decide (r.lo ≤ k) && decide (k ≤ r.hi)
def rowsB (r : Rg) : Bool := listB (fun x : Row => inR r x.key) (fun y x => decide (y.key < x.key)) r.rows
def dupsB (r : Rg) : Bool := listB (fun p : Rep => okP p && (kept p.k && inR r p.key)) ahead r.dups
theorem rows_el {l : List Row} {k : Nat} {x : Row} (hx : l[k]? = some x) {cs : List Value} {off : Nat} (hcut : cutL cs off (l.length * 2) = (l.map Row.cells).flatten) : cutL cs (off + k * 2) 2 = x.cells := by
  have hk := (List.getElem?_eq_some_iff.1 hx).1
  have h1 := elemL (f := Row.cells) (size := 2) (fun _ => rfl) l k x hx
  rw [List.flatMap_def, ← hcut, cut_cut _ _ _ _ _ (by omega)] at h1
  exact h1
theorem reps_el {l : List Rep} {k : Nat} {x : Rep} (hx : l[k]? = some x) {cs : List Value} {off : Nat} (hcut : cutL cs off (l.length * 7) = (l.map Rep.cells).flatten) : cutL cs (off + k * 7) 7 = x.cells := by
  have hk := (List.getElem?_eq_some_iff.1 hx).1
  have h1 := elemL (f := Rep.cells) (size := 7) (fun _ => rfl) l k x hx
  rw [List.flatMap_def, ← hcut, cut_cut _ _ _ _ _ (by omega)] at h1
  exact h1
theorem cut_one {cs : List Value} {o n i : Nat} {xs : List Value} {v : Value} (h : cutL cs o n = xs) (hi : xs[i]? = some v) (hn : i < n) : cs[o + i]? = some v := by
  rw [← h] at hi
  unfold cutL at hi
  rw [List.getElem?_take, if_pos hn, List.getElem?_drop] at hi
  exact hi
section
variable {w : World} {r : Rg} {rv dv : Value}
theorem rows_ok (hr : RgIn w r rv dv) : CY 144 #[.agg (rgC r rv dv).toArray] w (fun v w' => v = .bool (rowsB r) ∧ GB none w w') := by
  obtain ⟨a0, n0, c0, _, _, _, rfl, rfl⟩ := hr.sl
  obtain ⟨⟨a, c, e, hcap, hlen, hv⟩, _⟩ := hr
  injection e with e1 e2 e3
  subst e1 e2 e3
  refine callE Tryz.func144 rfl rfl ?_
  refine fun w1 b1 m1 g1 l1 => ⟨_, _, m1, _, rfl, spl (fun d => ?_) (fun d => ?_)⟩
  · exact ⟨vb (listB_long (by simp at d; omega)).symm, g1⟩
  have h255 : r.rows.length ≤ 255 := by simp at d; omega
  refine ⟨_, _, m1, _, rfl, fun m s wk => ∃ k : Nat, m = r.rows.length - k ∧ k ≤ r.rows.length ∧ s = [(1, .pointer (some ⟨b1, 0, none⟩)), (10, .slice a0 r.rows.length c0), (11, .int .i64 r.rows.length), (12, .int .i64 k)] ∧ GB none w1 wk ∧ (List.range k).all (atL (fun x : Row => inR r x.key) (fun y x => decide (y.key < x.key)) r.rows) = true, ⟨_, _, ⟨0, rfl, Nat.zero_le _, rfl, GB.refl _ _, rfl⟩, sb rfl⟩, ?_⟩
  rintro m s wk ⟨k, rfl, hk, rfl, gk, hall⟩
  refine spl (fun d => ?_) (fun d => ?_)
  · have d1 : k < r.rows.length := by have := of_decide_eq_true d; omega
    obtain ⟨x, hx⟩ : ∃ x, r.rows[k]? = some x := ⟨r.rows[k], by simp [d1]⟩
    rcases hv with ⟨_, h0⟩ | ⟨b, off, cs, rfl, hb, hcut⟩
    · omega
    have hb1 := (g1.trans gk).get hb nofun
    refine ⟨⟨by omega, by omega⟩, _, _, hb1, x.cells, by show cutL cs.toList (off + (k : Int).toNat * 2) 2 = _; rw [Int.toNat_natCast]; exact rows_el hx hcut, rfl, fun w2 b2 m2 g2 l2 => ⟨_, _, _, m2, rfl, rfl, fun w3 m3 g3 => ?_⟩⟩
    have g23 := g2.new g3 l2
    have m13 := (gk.trans g23).get m1 nofun
    refine ⟨_, _, m13, rgC r _ _, rfl, rfl, _, _, m3, _, rfl, _, within_ok w3 r _ _ _, ?_⟩
    rintro _ w4 ⟨rfl, g4⟩
    have G := (gk.trans g23).trans g4
    have gw := g1.trans G
    obtain ⟨z, hz⟩ : ∃ z, inR r x.key = z := ⟨_, rfl⟩
    have hz' : (decide (r.lo ≤ x.key) && decide (x.key ≤ r.hi)) = z := hz
    rw [hz']
    cases z
    · exact ⟨vb (listB_f hx hz).symm, gw⟩
    have m34 := g4.get m3 nofun
    have m14 := G.get m1 nofun
    have hb4 := gw.get hb nofun
    refine ⟨by kernel_rfl, spl (fun e => ?_) (fun e => ?_)⟩
    · have e1 : 0 < k := by simp at e; omega
      obtain ⟨j, rfl⟩ : ∃ j, k = j + 1 := ⟨k - 1, by omega⟩
      obtain ⟨y, hy⟩ : ∃ y, r.rows[j]? = some y := ⟨r.rows[j]'(by omega), by simp [show j < r.rows.length by omega]⟩
      have ej : (((j + 1 : Nat) : Int) - 1).toNat = j := by omega
      refine ⟨_, _, m34, _, rfl, _, _, m14, _, rfl, ⟨by omega, by omega⟩, ⟨by omega, by omega⟩, _, _, hb4, .int .u64 y.key, by show cs.toList[off + (((j + 1 : Nat) : Int) - 1).toNat * 2 + 0]? = _; rw [ej]; exact cut_one (rows_el hy hcut) rfl (by decide), ?_⟩
      refine spl (fun q => ?_) (fun q => ?_)
      · exact ⟨vb (listB_lt hx hy (by simp at q; simp; omega)).symm, gw⟩
      · exact ⟨⟨by omega, by omega⟩, _, _, ⟨j + 2, rfl, by omega, rfl, G, all_next hall (atL_good hx hz fun i y' ei hy' => by cases ei; rw [hy] at hy'; cases hy'; simp at q; simp; omega)⟩, (sb rfl), by omega⟩
    · have e1 : k = 0 := by simp at e; omega
      subst e1
      exact ⟨⟨by omega, by omega⟩, _, _, ⟨1, rfl, by omega, rfl, G, all_next hall (atL_good hx hz nofun)⟩, (sb rfl), by omega⟩
  · have d1 : k = r.rows.length := by have := of_decide_eq_false d; omega
    subst d1
    exact ⟨vb (by unfold rowsB listB; rw [hall]; simp [h255]), g1.trans gk⟩
theorem dups_ok (hr : RgIn w r rv dv) : CY 145 #[.agg (rgC r rv dv).toArray] w (fun v w' => v = .bool (dupsB r) ∧ GB none w w') := by
  obtain ⟨_, _, _, a0, n0, c0, rfl, rfl⟩ := hr.sl
  obtain ⟨_, ⟨a, c, e, hcap, hlen, hv⟩⟩ := hr
  injection e with e1 e2 e3
  subst e1 e2 e3
  refine callE Tryz.func145 rfl rfl ?_
  refine fun w1 b1 m1 g1 l1 => ⟨_, _, m1, _, rfl, spl (fun d => ?_) (fun d => ?_)⟩
  · exact ⟨vb (listB_long (by simp at d; omega)).symm, g1⟩
  have h255 : r.dups.length ≤ 255 := by simp at d; omega
  refine ⟨_, _, m1, _, rfl, fun m s wk => ∃ k : Nat, m = r.dups.length - k ∧ k ≤ r.dups.length ∧ s = [(1, .pointer (some ⟨b1, 0, none⟩)), (10, .slice a0 r.dups.length c0), (11, .int .i64 r.dups.length), (12, .int .i64 k)] ∧ GB none w1 wk ∧ (List.range k).all (atL (fun p : Rep => okP p && (kept p.k && inR r p.key)) ahead r.dups) = true, ⟨_, _, ⟨0, rfl, Nat.zero_le _, rfl, GB.refl _ _, rfl⟩, sb rfl⟩, ?_⟩
  rintro m s wk ⟨k, rfl, hk, rfl, gk, hall⟩
  refine spl (fun d => ?_) (fun d => ?_)
  · have d1 : k < r.dups.length := by have := of_decide_eq_true d; omega
    obtain ⟨x, hx⟩ : ∃ x, r.dups[k]? = some x := ⟨r.dups[k], by simp [d1]⟩
    rcases hv with ⟨_, h0⟩ | ⟨b, off, cs, rfl, hb, hcut⟩
    · omega
    have hb1 := (g1.trans gk).get hb nofun
    refine ⟨⟨by omega, by omega⟩, _, _, hb1, x.cells, by show cutL cs.toList (off + (k : Int).toNat * 7) 7 = _; rw [Int.toNat_natCast]; exact reps_el hx hcut, rfl, fun w2 b2 m2 g2 l2 => ⟨_, _, _, m2, rfl, rfl, fun w3 m3 g3 => ?_⟩⟩
    have g23 := g2.new g3 l2
    refine ⟨_, _, m3, x.cells, rfl, rfl, _, reply_ok w3 x, ?_⟩
    rintro _ w4 ⟨rfl, g4⟩
    have G := (gk.trans g23).trans g4
    have gw := g1.trans G
    obtain ⟨z, hz⟩ : ∃ z, okP x = z := ⟨_, rfl⟩
    rw [hz]
    cases z
    · exact ⟨vb (listB_f hx (by simp [hz])).symm, gw⟩
    have m34 := g4.get m3 nofun
    refine ⟨_, _, m34, _, rfl, _, remembered_ok w4 _, ?_⟩
    rintro _ w4 ⟨rfl, rfl⟩
    obtain ⟨y, hy⟩ : ∃ y, kept x.k = y := ⟨_, rfl⟩
    rw [hy]
    cases y
    · exact ⟨vb (listB_f hx (by simp [hy])).symm, gw⟩
    have m14 := G.get m1 nofun
    refine ⟨_, _, m14, rgC r _ _, rfl, rfl, _, _, m34, _, rfl, _, within_ok w4 r _ _ _, ?_⟩
    rintro _ w5 ⟨rfl, g5⟩
    obtain ⟨t, ht⟩ : ∃ t, inR r x.key = t := ⟨_, rfl⟩
    have ht' : (decide (r.lo ≤ x.key) && decide (x.key ≤ r.hi)) = t := ht
    rw [ht']
    have G := G.trans g5
    have gw := gw.trans g5
    cases t
    · exact ⟨vb (listB_f hx (by simp [ht])).symm, gw⟩
    have hf : (okP x && (kept x.k && inR r x.key)) = true := by rw [hz, hy, ht]; rfl
    have m35 := g5.get m34 nofun
    have m15 := G.get m1 nofun
    have hb5 := gw.get hb nofun
    refine ⟨by kernel_rfl, spl (fun e => ?_) (fun e => ?_)⟩
    · have e1 : 0 < k := by simp at e; omega
      obtain ⟨j, rfl⟩ : ∃ j, k = j + 1 := ⟨k - 1, by omega⟩
      obtain ⟨y, hy⟩ : ∃ y, r.dups[j]? = some y := ⟨r.dups[j]'(by omega), by simp [show j < r.dups.length by omega]⟩
      have ej : (((j + 1 : Nat) : Int) - 1).toNat = j := by omega
      refine ⟨_, _, m15, _, rfl, ⟨by omega, by omega⟩, ⟨by omega, by omega⟩, _, _, hb5, y.cells, by show cutL cs.toList (off + (((j + 1 : Nat) : Int) - 1).toNat * 7) 7 = _; rw [ej]; exact reps_el hy hcut, rfl, _, _, m35, x.cells, rfl, rfl, _, ahead_ok w5 y x, ?_⟩
      rintro _ w6 ⟨rfl, g6⟩
      obtain ⟨q, hq⟩ : ∃ q, ahead y x = q := ⟨_, rfl⟩
      rw [hq]
      cases q
      · exact ⟨vb (listB_lt hx hy hq).symm, gw.trans g6⟩
      · exact ⟨⟨by omega, by omega⟩, _, _, ⟨j + 2, rfl, by omega, rfl, G.trans g6, all_next hall (atL_good hx hf fun i y' ei hy' => by cases ei; rw [hy] at hy'; cases hy'; exact hq)⟩, (sb rfl), by omega⟩
    · have e1 : k = 0 := by simp at e; omega
      subst e1
      exact ⟨⟨by omega, by omega⟩, _, _, ⟨1, rfl, by omega, rfl, G, all_next hall (atL_good hx hf nofun)⟩, (sb rfl), by omega⟩
  · have d1 : k = r.dups.length := by have := of_decide_eq_false d; omega
    subst d1
    exact ⟨vb (by unfold dupsB listB; rw [hall]; simp [h255]), g1.trans gk⟩
end
def okR (r : Rg) : Bool := decide (r.src < 4) && (decide (r.dst < 4) && (decide (1 ≤ r.seq) && (decide (r.lo ≤ r.hi) && (rowsB r && dupsB r))))
def noR (r : Rg) : Bool := r.src == 0 && (r.dst == 0 && (r.seq == 0 && (r.lo == 0 && (r.hi == 0 && (r.rows.length == 0 && r.dups.length == 0)))))
def noQ (q : Req) : Bool := q.c == 0 && (q.s == 0 && (q.k == 0 && (q.key == 0 && (q.v == 0 && (q.hi == 0 && q.to == 0)))))
def noC (c : MC) : Bool := noQ c.q && (noR c.r && (c.peer == 0 && c.seq == 0))
def okC (c : MC) : Bool := if c.kind = 0 then noC c else if c.kind = 1 then okQ c.q && (noR c.r && (c.peer == 0 && c.seq == 0)) else if c.kind = 2 then okR c.r && (noQ c.q && (c.peer == 0 && c.seq == 0)) else if c.kind = 3 then decide (c.peer < 4) && (noQ c.q && noR c.r) else false
section
variable {w : World} {r : Rg} {rv dv : Value}
theorem range_ok (hr : RgIn w r rv dv) : CY 86 #[.agg (rgC r rv dv).toArray] w (fun v w' => v = .bool (okR r) ∧ GB none w w') := by
  obtain ⟨_, _, _, _, _, _, rfl, rfl⟩ := hr.sl
  refine callE Tryz.func86 rfl rfl ?_
  refine fun w1 b1 m1 g1 l1 => ?_
  have hr1 := hr.kz g1.kz
  refine ⟨_, _, m1, _, rfl, _, group_ok _ _, ?_⟩
  rintro _ w1 ⟨rfl, rfl⟩
  refine spl (fun c0 => ?_) (fun c0 => ?_)
  · refine ⟨_, _, m1, _, rfl, _, group_ok _ _, ?_⟩
    rintro _ w1 ⟨rfl, rfl⟩
    refine spl (fun c1 => ?_) (fun c1 => ?_)
    · refine ⟨_, _, m1, _, rfl, ?_⟩
      refine spl (fun c2 => ?_) (fun c2 => ?_)
      · refine ⟨_, _, m1, _, rfl, ?_⟩
        refine ⟨_, _, m1, _, rfl, ?_⟩
        refine spl (fun c3 => ?_) (fun c3 => ?_)
        · refine ⟨_, _, m1, rgC r _ _, rfl, rfl, _, rows_ok hr1, ?_⟩
          rintro _ w2 ⟨rfl, g2⟩
          have g12 := g1.trans g2
          refine spl (fun c4 => ?_) (fun c4 => ?_)
          · refine ⟨_, _, g2.get m1 nofun, rgC r _ _, rfl, rfl, _, dups_ok (hr1.kz g2.kz), ?_⟩
            rintro _ w3 ⟨rfl, g3⟩
            exact ⟨vb (by grind [okR]), g12.trans g3⟩
          · exact ⟨vb (by grind [okR]), g12⟩
        · exact ⟨vb (by grind [okR]), g1⟩
      · exact ⟨vb (by grind [okR]), g1⟩
    · exact ⟨vb (by grind [okR]), g1⟩
  · exact ⟨vb (by grind [okR]), g1⟩
theorem noRange_ok (hr : RgIn w r rv dv) : CY 233 #[.agg (rgC r rv dv).toArray] w (fun v w' => v = .bool (noR r) ∧ GB none w w') := by
  obtain ⟨_, n1, _, _, n2, _, rfl, rfl⟩ := hr.sl
  obtain ⟨⟨_, _, e1, _⟩, _, _, e2, _⟩ := hr
  obtain rfl : n1 = r.rows.length := by injection e1
  obtain rfl : n2 = r.dups.length := by injection e2
  refine callE Tryz.func233 rfl rfl ?_
  refine fun w1 b1 m1 g1 l1 => ?_
  refine ⟨_, _, m1, _, rfl, ?_⟩
  refine spl (fun c0 => ?_) (fun c0 => ?_)
  · refine ⟨_, _, m1, _, rfl, ?_⟩
    refine spl (fun c1 => ?_) (fun c1 => ?_)
    · refine ⟨_, _, m1, _, rfl, ?_⟩
      refine spl (fun c2 => ?_) (fun c2 => ?_)
      · refine ⟨_, _, m1, _, rfl, ?_⟩
        refine spl (fun c3 => ?_) (fun c3 => ?_)
        · refine ⟨_, _, m1, _, rfl, ?_⟩
          refine spl (fun c4 => ?_) (fun c4 => ?_)
          · refine ⟨_, _, m1, _, rfl, ?_⟩
            refine spl (fun c5 => ?_) (fun c5 => ?_)
            · refine ⟨_, _, m1, _, rfl, ?_⟩
              exact ⟨vb (by grind [noR]), g1⟩
            · exact ⟨vb (by grind [noR]), g1⟩
          · exact ⟨vb (by grind [noR]), g1⟩
        · exact ⟨vb (by grind [noR]), g1⟩
      · exact ⟨vb (by grind [noR]), g1⟩
    · exact ⟨vb (by grind [noR]), g1⟩
  · exact ⟨vb (by grind [noR]), g1⟩
end
section
variable {w : World} {c : MC} {rv dv : Value}
theorem noCF_ok (hr : RgIn w c.r rv dv) : CY 232 #[.agg (mcC c rv dv).toArray] w (fun v w' => v = .bool (noC c) ∧ GB none w w') := by
  obtain ⟨_, _, _, _, _, _, rfl, rfl⟩ := hr.sl
  refine callE Tryz.func232 rfl rfl ?_
  refine fun w1 b1 m1 g1 l1 => ?_
  have hr1 := hr.kz g1.kz
  refine ⟨_, _, m1, c.q.cells, rfl, rfl, ?_⟩
  refine spl (fun c0 => ?_) (fun c0 => ?_)
  · refine ⟨_, _, m1, rgC c.r _ _, rfl, rfl, _, noRange_ok hr1, ?_⟩
    rintro _ w2 ⟨rfl, g2⟩
    have g12 := g1.trans g2
    have m2 := g2.get m1 nofun
    refine spl (fun c1 => ?_) (fun c1 => ?_)
    · refine ⟨_, _, m2, _, rfl, ?_⟩
      refine spl (fun c2 => ?_) (fun c2 => ?_)
      · refine ⟨_, _, m2, _, rfl, ?_⟩
        exact ⟨vb (by grind [noC, noQ]), g12⟩
      · exact ⟨vb (by grind [noC, noQ]), g12⟩
    · exact ⟨vb (by grind [noC, noQ]), g12⟩
  · exact ⟨vb (by grind [noC, noQ]), g1⟩
theorem command_ok (hr : RgIn w c.r rv dv) : CY 212 #[.agg (mcC c rv dv).toArray] w (fun v w' => v = .bool (okC c) ∧ GB none w w') := by
  obtain ⟨_, _, _, _, _, _, rfl, rfl⟩ := hr.sl
  obtain ⟨k, q, r, peer, seq⟩ := c
  dsimp only at hr
  by_cases k0 : k = 0
  · subst k0
    refine callE Tryz.func212 rfl rfl ?_
    refine fun w1 b1 m1 g1 l1 => ⟨_, _, m1, _, rfl, _, _, m1, mcC ⟨0, q, r, peer, seq⟩ _ _, rfl, rfl, _, noCF_ok (hr.kz g1.kz), ?_⟩
    rintro _ w2 ⟨rfl, g2⟩
    exact ⟨vb (by simp [okC]), g1.trans g2⟩
  by_cases k1 : k = 1
  · subst k1
    refine callE Tryz.func212 rfl rfl ?_
    refine fun w1 b1 m1 g1 l1 => ⟨_, _, m1, _, rfl, _, _, m1, q.cells, rfl, rfl, _, request_ok w1 q, ?_⟩
    rintro _ w2 ⟨rfl, g2⟩
    refine ⟨_, _, _, g2.get m1 nofun, rfl, rfl, fun w3 m3 g3 => ?_⟩
    have G := (g1.trans g2).new g3 l1
    obtain ⟨a, ha⟩ : ∃ a, okQ q = a := ⟨_, rfl⟩
    rw [ha]
    cases a
    · exact ⟨vb (by simp [okC, ha]), G⟩
    · refine ⟨_, _, m3, mcC ⟨1, zRq, r, peer, seq⟩ _ _, rfl, rfl, _, noCF_ok (c := ⟨1, zRq, r, peer, seq⟩) (hr.kz G.kz), ?_⟩
      rintro _ w4 ⟨rfl, g4⟩
      exact ⟨vb (by simp [okC, ha, noC, noQ, zRq]), G.trans g4⟩
  by_cases k2 : k = 2
  · subst k2
    refine callE Tryz.func212 rfl rfl ?_
    refine fun w1 b1 m1 g1 l1 => ⟨_, _, m1, _, rfl, _, _, m1, rgC r _ _, rfl, rfl, _, range_ok (hr.kz g1.kz), ?_⟩
    rintro _ w2 ⟨rfl, g2⟩
    refine ⟨_, _, _, g2.get m1 nofun, rfl, rfl, fun w3 m3 g3 => ?_⟩
    have G := (g1.trans g2).new g3 l1
    obtain ⟨a, ha⟩ : ∃ a, okR r = a := ⟨_, rfl⟩
    rw [ha]
    cases a
    · exact ⟨vb (by simp [okC, ha]), G⟩
    · refine ⟨_, _, m3, mcC ⟨2, q, zRg, peer, seq⟩ (.slice none 0 0) (.slice none 0 0), rfl, rfl, _, noCF_ok (c := ⟨2, q, zRg, peer, seq⟩) (RgIn.zero w3), ?_⟩
      rintro _ w4 ⟨rfl, g4⟩
      exact ⟨vb (by simp [okC, ha, noC, noR, zRg]), G.trans g4⟩
  by_cases k3 : k = 3
  · subst k3
    refine callE Tryz.func212 rfl rfl ?_
    refine fun w1 b1 m1 g1 l1 => ⟨_, _, m1, _, rfl, _, _, m1, _, rfl, _, group_ok w1 _, ?_⟩
    rintro _ w1 ⟨rfl, rfl⟩
    refine ⟨_, _, _, m1, rfl, rfl, fun w2 m2 g2 => ⟨_, _, _, m2, rfl, rfl, fun w3 m3 g3 => ?_⟩⟩
    have G := (g1.new g2 l1).new g3 l1
    obtain ⟨a, ha⟩ : ∃ a, decide (peer < 4) = a := ⟨_, rfl⟩
    rw [ha]
    cases a
    · exact ⟨vb (by simp [okC, ha]), G⟩
    · refine ⟨_, _, m3, mcC ⟨3, q, r, 0, 0⟩ _ _, rfl, rfl, _, noCF_ok (c := ⟨3, q, r, 0, 0⟩) (hr.kz G.kz), ?_⟩
      rintro _ w4 ⟨rfl, g4⟩
      exact ⟨vb (by simp [okC, ha, noC]), G.trans g4⟩
  refine callE Tryz.func212 rfl rfl ?_
  refine fun w1 b1 m1 g1 l1 => ⟨_, _, m1, _, rfl, ?_⟩
  refine spl (fun e => absurd (by simpa using e) k0) (fun _ => ?_)
  refine spl (fun e => absurd (by simpa using e) k1) (fun _ => ?_)
  refine spl (fun e => absurd (by simpa using e) k2) (fun _ => ?_)
  refine spl (fun e => absurd (by simpa using e) k3) (fun _ => ?_)
  exact ⟨vb (by simp [okC, k0, k1, k2, k3]), g1⟩
end
def votesB (l : List MV) : Bool := listB (fun v : MV => okC v.c) (fun y x => decide (y.slot < x.slot)) l
def noP (p : Rep) : Bool := p.c == 0 && (p.s == 0 && (p.key == 0 && (p.k == 0 && (p.found == false && (p.v == 0 && p.g == 0)))))
def noB (b : Bal) : Bool := (b.n : Int) == 0 && (b.id : Int) == 0
def noM (m : MM) : Bool := noQ m.q && (noP m.p && (noB m.b && ((m.s : Int) == 0 && (m.c.kind == 0 && (noC m.c && ((m.vs.length : Int) == 0 && (noR m.r && (m.peer == 0 && m.seq == 0))))))))
def okM (m : MM) : Bool := if m.kind = 1 then okQ m.q && noM { m with q := zRq } else if m.kind = 2 then okP m.p && noM { m with p := zRp } else if m.kind = 3 then noM { m with b := ⟨0, 0⟩ } else if m.kind = 5 then noM { m with b := ⟨0, 0⟩ } else if m.kind = 4 then votesB m.vs && noM { m with b := ⟨0, 0⟩, vs := [] } else if m.kind = 6 then okC m.c && noM { m with b := ⟨0, 0⟩, s := 0, c := zMC } else if m.kind = 7 then noM { m with b := ⟨0, 0⟩, s := 0 } else if m.kind = 8 then okC m.c && noM { m with s := 0, c := zMC } else if m.kind = 9 then okR m.r && noM { m with r := zRg } else if m.kind = 10 then decide (m.peer < 4) && noM { m with peer := 0, seq := 0 } else false
theorem vote_el {l : List MV} {ps : List (Value × Value)} {k : Nat} {x : MV} {p : Value × Value} (_hl : ps.length = l.length) (hx : l[k]? = some x) (hp : ps[k]? = some p) {cs : List Value} {off : Nat} (hcut : cutL cs off (l.length * 20) = (List.zipWith (fun x p => mvC x p.1 p.2) l ps).flatten) : cutL cs (off + k * 20) 20 = mvC x p.1 p.2 := by
  have hk := (List.getElem?_eq_some_iff.1 hx).1
  have h0 : (l.zip ps)[k]? = some (x, p) := by rw [List.getElem?_zip_eq_some]; exact ⟨hx, hp⟩
  have h1 := elemL (f := fun x : MV × Value × Value => mvC x.1 x.2.1 x.2.2) (size := 20) (fun _ => rfl) (l.zip ps) k (x, p) h0
  rw [List.flatMap_def, ← zip_mv, ← hcut, cut_cut _ _ _ _ _ (by omega)] at h1
  exact h1
section
variable {w : World}
theorem votes_ok {l : List MV} {v : Value} (hv : VsIn w v l) : CY 211 #[v] w (fun v w' => v = .bool (votesB l) ∧ GB none w w') := by
  obtain ⟨ps, hp, ⟨a, c, rfl, hcap, hlen, hv⟩, hr⟩ := hv
  refine callE Tryz.func211 rfl rfl ?_
  refine spl (fun d => ?_) (fun d => ?_)
  · exact ⟨vb (listB_long (by simp at d; omega)).symm, GB.refl _ _⟩
  have h255 : l.length ≤ 255 := by simp at d; omega
  refine ⟨fun m s wk => ∃ k : Nat, m = l.length - k ∧ k ≤ l.length ∧ s = [(0, .slice a l.length c), (8, .slice a l.length c), (9, .int .i64 l.length), (10, .int .i64 k)] ∧ GB none w wk ∧ (List.range k).all (atL (fun v : MV => okC v.c) (fun y x => decide (y.slot < x.slot)) l) = true, ⟨_, _, ⟨0, rfl, Nat.zero_le _, rfl, GB.refl _ _, rfl⟩, sb rfl⟩, ?_⟩
  rintro m s wk ⟨k, rfl, hk, rfl, gk, hall⟩
  refine spl (fun d => ?_) (fun d => ?_)
  · have d1 : k < l.length := by have := of_decide_eq_true d; omega
    obtain ⟨x, hx⟩ : ∃ x, l[k]? = some x := ⟨l[k], by simp [d1]⟩
    obtain ⟨⟨p1, p2⟩, hpk⟩ : ∃ p, ps[k]? = some p := ⟨ps[k]'(by omega), by simp [show k < ps.length by omega]⟩
    have hrx := hr k x _ hx hpk
    obtain ⟨x1, x2, x3, x4, x5, x6, q1, q2⟩ := hrx.sl
    dsimp only at q1 q2 hrx
    subst q1 q2
    rcases hv with ⟨_, h0⟩ | ⟨b, off, cs, rfl, hb, hcut⟩
    · omega
    have hb1 := gk.get hb nofun
    refine ⟨⟨by omega, by omega⟩, _, _, hb1, mvC x (.slice x1 x2 x3) (.slice x4 x5 x6), by show cutL cs.toList (off + (k : Int).toNat * 20) 20 = _; rw [Int.toNat_natCast]; exact vote_el hp hx hpk hcut, rfl, fun w2 b2 m2 g2 l2 => ⟨_, _, _, m2, rfl, rfl, fun w3 m3 g3 => ?_⟩⟩
    have G := gk.trans (g2.new g3 l2)
    have hb3 := G.get hb nofun
    have last : (∀ j y, k = j + 1 → l[j]? = some y → decide (y.slot < x.slot) = true) → ∃ Post, CY 212 #[.agg (mcC x.c (.slice x1 x2 x3) (.slice x4 x5 x6)).toArray] w3 Post ∧ ∀ v w4, Post v w4 → ∃ z, v = .bool z ∧ GB none w3 w4 ∧ (z = false → votesB l = false) ∧ (z = true → (List.range (k + 1)).all (atL (fun v : MV => okC v.c) (fun y x => decide (y.slot < x.slot)) l) = true) := fun hlt => ⟨_, command_ok (c := x.c) (hrx.kz G.kz), by
      rintro _ w4 ⟨rfl, g4⟩
      exact ⟨_, rfl, g4, fun hz => listB_f hx hz, fun hz => all_next hall (atL_good hx hz hlt)⟩⟩
    refine ⟨by kernel_rfl, spl (fun e => ?_) (fun e => ?_)⟩
    · have e1 : 0 < k := by simp at e; omega
      obtain ⟨j, rfl⟩ : ∃ j, k = j + 1 := ⟨k - 1, by omega⟩
      obtain ⟨y, hy⟩ : ∃ y, l[j]? = some y := ⟨l[j]'(by omega), by simp [show j < l.length by omega]⟩
      obtain ⟨p', hpj⟩ : ∃ p, ps[j]? = some p := ⟨ps[j]'(by omega), by simp [show j < ps.length by omega]⟩
      have ej : (((j + 1 : Nat) : Int) - 1).toNat = j := by omega
      refine ⟨_, _, m3, _, rfl, ⟨by omega, by omega⟩, ⟨by omega, by omega⟩, _, _, hb3, .int .u32 y.slot, by show cs.toList[off + (((j + 1 : Nat) : Int) - 1).toNat * 20 + 0]? = _; rw [ej]; exact cut_one (vote_el hp hy hpj hcut) rfl (by decide), ?_⟩
      refine spl (fun q => ?_) (fun q => ?_)
      · exact ⟨vb (listB_lt hx hy (by simp at q; simp; omega)).symm, G⟩
      · obtain ⟨Post, h1, h2⟩ := last fun i y' ei hy' => by cases ei; rw [hy] at hy'; cases hy'; simp at q; simp; omega
        refine ⟨_, _, m3, mcC x.c (.slice x1 x2 x3) (.slice x4 x5 x6), rfl, rfl, _, h1, fun v w4 hv => ?_⟩
        obtain ⟨z, rfl, g4, z1, z2⟩ := h2 v w4 hv
        cases z
        · exact ⟨vb (z1 rfl).symm, G.trans g4⟩
        · exact ⟨⟨by omega, by omega⟩, _, _, ⟨j + 2, rfl, by omega, rfl, G.trans g4, z2 rfl⟩, (sb rfl), by omega⟩
    · have e1 : k = 0 := by simp at e; omega
      subst e1
      obtain ⟨Post, h1, h2⟩ := last fun j y e _ => absurd e (Nat.succ_ne_zero j).symm
      refine ⟨_, _, m3, mcC x.c (.slice x1 x2 x3) (.slice x4 x5 x6), rfl, rfl, _, h1, fun v w4 hv => ?_⟩
      obtain ⟨z, rfl, g4, z1, z2⟩ := h2 v w4 hv
      cases z
      · exact ⟨vb (z1 rfl).symm, G.trans g4⟩
      · exact ⟨⟨by omega, by omega⟩, _, _, ⟨1, rfl, by omega, rfl, G.trans g4, z2 rfl⟩, (sb rfl), by omega⟩
  · have d1 : k = l.length := by have := of_decide_eq_false d; omega
    subst d1
    exact ⟨vb (by unfold votesB listB; rw [hall]; simp [h255]), gk⟩
variable {m : MM} {rv dv vv rv' dv' : Value}
theorem noFields_ok (hc : RgIn w m.c.r rv dv) (hv : VsIn w vv m.vs) (hr : RgIn w m.r rv' dv') : CY 213 #[.agg (mmC m rv dv vv rv' dv').toArray] w (fun v w' => v = .bool (noM m) ∧ GB none w w') := by
  obtain ⟨_, _, _, _, _, _, rfl, rfl⟩ := hc.sl
  obtain ⟨_, _, _, _, _, _, rfl, rfl⟩ := hr.sl
  obtain ⟨_, _, rfl⟩ := hv.sl
  refine callE Tryz.func213 rfl rfl ?_
  refine fun w1 b1 m1 g1 l1 => ?_
  have hc1 := hc.kz g1.kz
  have hr1 := hr.kz g1.kz
  refine ⟨_, _, m1, m.q.cells, rfl, rfl, ?_⟩
  refine spl (fun c0 => ?_) (fun c0 => ?_)
  · refine ⟨_, _, m1, m.p.cells, rfl, rfl, ?_⟩
    refine spl (fun c1 => ?_) (fun c1 => ?_)
    · refine ⟨_, _, m1, [.int .u32 m.b.n, .int .u8 m.b.id], rfl, rfl, ?_⟩
      refine spl (fun c2 => ?_) (fun c2 => ?_)
      · refine ⟨_, _, m1, _, rfl, ?_⟩
        refine spl (fun c3 => ?_) (fun c3 => ?_)
        · refine ⟨_, _, m1, _, rfl, ?_⟩
          refine spl (fun c4 => ?_) (fun c4 => ?_)
          · refine ⟨_, _, m1, mcC m.c _ _, rfl, rfl, _, noCF_ok (c := m.c) hc1, ?_⟩
            rintro _ w2 ⟨rfl, g2⟩
            have m2 := g2.get m1 nofun
            have g12 := g1.trans g2
            refine spl (fun c5 => ?_) (fun c5 => ?_)
            · refine ⟨_, _, m2, _, rfl, ?_⟩
              refine spl (fun c6 => ?_) (fun c6 => ?_)
              · refine ⟨_, _, m2, rgC m.r _ _, rfl, rfl, _, noRange_ok (r := m.r) (hr1.kz g2.kz), ?_⟩
                rintro _ w3 ⟨rfl, g3⟩
                have m3 := g3.get m2 nofun
                have g13 := g12.trans g3
                refine spl (fun c7 => ?_) (fun c7 => ?_)
                · refine ⟨_, _, m3, _, rfl, ?_⟩
                  refine spl (fun c8 => ?_) (fun c8 => ?_)
                  · refine ⟨_, _, m3, _, rfl, ?_⟩
                    exact ⟨vb (by grind [noM, noQ, noP, noB]), g13⟩
                  · exact ⟨vb (by grind [noM, noQ, noP, noB]), g13⟩
                · exact ⟨vb (by grind [noM, noQ, noP, noB]), g13⟩
              · exact ⟨vb (by grind [noM, noQ, noP, noB]), g12⟩
            · exact ⟨vb (by grind [noM, noQ, noP, noB]), g12⟩
          · exact ⟨vb (by grind [noM, noQ, noP, noB]), g1⟩
        · exact ⟨vb (by grind [noM, noQ, noP, noB]), g1⟩
      · exact ⟨vb (by grind [noM, noQ, noP, noB]), g1⟩
    · exact ⟨vb (by grind [noM, noQ, noP, noB]), g1⟩
  · exact ⟨vb (by grind [noM, noQ, noP, noB]), g1⟩
end
end
end Go.Proofs.YtignemioillaiaaGreat
