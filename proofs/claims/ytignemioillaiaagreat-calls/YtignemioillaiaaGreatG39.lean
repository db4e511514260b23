/- Maps of keys: Find, Give. -/
import Derived.Test.YtignemioillaiaaGreatG38
namespace Go.Proofs.YtignemioillaiaaGreat
set_option maxHeartbeats 8000000
set_option maxRecDepth 100000
section
open Go Go.Conc
theorem fz_at {α : Type} {f : α → List Value} {size : Nat} (hf : ∀ x, (f x).length = size) {l : List α} {k : Nat} {x : α} (hx : l[k]? = some x) {cs : Array Value} {off : Nat} (hcut : cutL cs.toList off (l.length * size) = (l.map f).flatten) : cutL cs.toList (off + (k : Int).toNat * size) size = f x := fz_at_ hcut hx hf
theorem b11 {x : Bool} (e : (x == true) = true) : x = true := by cases x <;> first | rfl | cases e
theorem b10 {x : Bool} (e : (x == true) = false) : x = false := by cases x <;> first | rfl | cases e
theorem b01 {x : Bool} (e : (x == false) = true) : x = false := by cases x <;> first | rfl | cases e
theorem b00 {x : Bool} (e : (x == false) = false) : x = true := by cases x <;> first | rfl | cases e
def PIn (w : World) (v : Value) (m : List Pc) : Prop := Fz w 107 2 v m.length (m.map Pc.cells).flatten
/-- A list that is being made: new since w0. -/
structure LN (e size : Nat) (w0 w : World) (v : Value) (n : Nat) (xs : List Value) : Prop where
  own : w.ownsRow 0 e size v n xs
  gb : GB none w0 w
  new : ∀ g, v.ownBlock = some g → w0.heap.size ≤ g
section
variable {e size : Nat} {w0 w w' : World} {v v' : Value} {n : Nat} {xs : List Value}
theorem LN.nil (g : GB none w0 w) : LN e size w0 w (.slice none 0 0) 0 [] := ⟨own0 _ _ _, g, nofun⟩
theorem LN.gb0 (h : LN e size w0 w v n xs) (g : GB none w w') : LN e size w0 w' v n xs := ⟨owns_rely h.own fun x hx => by obtain ⟨c, hc⟩ := own_obj h.own hx; exact g.block x (lt_heap hc) nofun, h.gb.trans g, h.new⟩
theorem LN.app (h : LN e size w0 w v n xs) {m : Nat} {ys : List Value} (ho : w'.ownsRow 0 e size v' m ys) (g : GB v.ownBlock w w') (k : ∀ g, v'.ownBlock = some g → v.ownBlock = some g ∨ w.heap.size ≤ g) : LN e size w0 w' v' m ys := ⟨ho, h.gb.ownB g h.new, fun x hx => (k x hx).elim (h.new x) fun e => Nat.le_trans h.gb.size e⟩
theorem LN.fz (h : LN e size w0 w v n xs) : Fz w e size v n xs := own_fz h.own
end
abbrev PN (w0 w : World) (v : Value) (L : List Pc) : Prop := LN 107 2 w0 w v L.length (L.map Pc.cells).flatten
theorem own_last {w : World} {v : Value} {L : List Pc} {y : Pc} (h : w.ownsRow 0 107 2 v L.length (L.map Pc.cells).flatten) (hy : L.getLast? = some y) : ∃ g cap cur, v = .slice (some ⟨g, 0, none⟩) L.length cap ∧ w.heap[g]? = some (.cells cur 107) ∧ cutL cur.toList ((L.length - 1) * 2) 2 = y.cells := by
  have hne : L ≠ [] := fun e => by rw [e] at hy; cases hy
  have hpos : 0 < L.length := List.length_pos_iff.2 hne
  obtain ⟨gb, cap, cur, ev, hcur, htk, hsz, hcap⟩ := own_el h (by omega)
  refine ⟨gb, cap, cur, ev, hcur, ?_⟩
  have hx : L[L.length - 1]? = some y := by rw [← hy, List.getLast?_eq_getElem?]
  have h1 := elemL (f := Pc.cells) (size := 2) (fun _ => rfl) L _ y hx
  rw [List.flatMap_def, ← htk] at h1
  rw [← h1]
  unfold cutL
  rw [List.drop_take, List.take_take, Nat.min_eq_left (by omega)]
section
variable {w0 w : World} {v : Value} {L : List Pc}
theorem pjoin_ok (h : PN w0 w v L) (p : Pc) (hl : L.length ≤ 100000) : CY 147 #[v, .agg p.cells.toArray] w (fun v' w' => PN w0 w' v' (join L p)) := by
  obtain ⟨va, vc, rfl⟩ := own_slice h.own
  refine callE Tryz.func147 rfl rfl ?_
  refine fun w1 b1 m1 g1 l1 => ?_
  have h1 := h.gb0 g1
  have app : ∀ (w2 : World) (b2 : Nat), Hl w2 b2 p.cells 107 → GB none w1 w2 → ∃ xs news, w2.ownsRow 0 107 2 (.slice va L.length vc) L.length xs ∧ srcW w2 2 1 news (some ⟨b2, 0, none⟩) ∧ L.length + 1 ≤ 1000000000 ∧ ∀ v' w', w'.ownsRow 0 107 2 v' (L.length + 1) (xs ++ news) → GB (Value.slice va L.length vc).ownBlock w2 w' → Grw va L.length vc 1 w2 v' → PN w0 w' v' (L ++ [p]) := fun w2 b2 m2 g2 => by
    refine ⟨_, p.cells, (h1.gb0 g2).own, ⟨_, _, m2, rfl, rfl, rfl⟩, by omega, fun v' w' ho g n => ?_⟩
    have := (h1.gb0 g2).app ho g n
    show LN _ _ _ _ _ _ _
    rw [List.length_append, List.map_append, List.flatten_append]
    simpa using this
  cases hy : L.getLast? with
  | none =>
    have hL : L = [] := List.getLast?_eq_none_iff.1 hy
    subst hL
    refine ⟨by kernel_rfl, ?_⟩
    refine ⟨_, _, m1, p.cells, rfl, rfl, fun w2 b2 m2 g2 l2 => ?_⟩
    exact app w2 b2 m2 g2
  | some y =>
    obtain ⟨g, cap, cur, ev, hcur, hcut⟩ := own_last h1.own hy
    injection ev with ea _ ec
    subst ea ec
    have hpos : 0 < L.length := List.length_pos_iff.2 fun e => by rw [e] at hy; cases hy
    refine ⟨by kernel_rfl, spl (fun e => ?_) (fun e => ?_)⟩
    · refine ⟨⟨by omega, by omega⟩, ⟨by omega, by omega⟩, _, _, hcur, .int .u8 y.g, ?_, _, _, m1, _, rfl, spl (fun q => ?_) (fun q => ?_)⟩
      · show cur.toList[0 + ((L.length : Int) - 1).toNat * 2 + 1]? = _
        rw [Nat.zero_add, show ((L.length : Int) - 1).toNat = L.length - 1 by omega]
        exact cut_one hcut rfl (by decide)
      · have q1 : y.g = p.g := by simpa using q
        have hj : join L p = L := by unfold join; rw [hy]; exact if_pos q1
        show PN _ _ _ _
        rw [hj]; exact h1
      · have q1 : ¬ y.g = p.g := by simpa using q
        have hj : join L p = L ++ [p] := by unfold join; rw [hy]; exact if_neg q1
        rw [hj]
        refine ⟨_, _, m1, p.cells, rfl, rfl, fun w2 b2 m2 g2 l2 => ?_⟩
        exact app w2 b2 m2 g2
    · have := of_decide_eq_false (b10 e)
      omega
end
theorem mapOk_len {m : List Pc} (h : mapOk m = true) : m.length ≤ 1000 := by
  unfold mapOk at h
  simp only [Bool.and_eq_true, decide_eq_true_eq] at h
  exact h.1.1.2
section
variable {w : World} {v : Value} {m : List Pc}
theorem holder_ok (hv : PIn w v m) {p0 : Pc} (h0 : m[0]? = some p0) (hml : m.length ≤ 1000000) (key : Int) : CY 130 #[v, .int .u64 key] w (fun x w' => x = .int .u8 (own p0.g m key) ∧ GB none w w') := by
  obtain ⟨a, c, rfl, hc, hl, hv⟩ := hv
  have hlen := (List.getElem?_eq_some_iff.1 h0).1
  rcases hv with ⟨_, hz⟩ | ⟨b, off, cs, rfl, hb, hcut⟩
  · omega
  refine callE Tryz.func130 rfl rfl ?_
  refine ⟨⟨by omega, by omega⟩, _, _, hb, .int .u8 p0.g, cut_one (o := off + 0 * 2) (fz_at (f := Pc.cells) (k := 0) (fun _ => rfl) h0 hcut) rfl (by decide), ?_⟩
  refine ⟨fun n s wk => ∃ (i : Nat) (gi : Int), n = m.length - i ∧ i ≤ m.length ∧ s = [(1, .int .u64 key), (5, .int .u8 gi), (12, .slice (some ⟨b, off, none⟩) m.length c), (13, .int .i64 m.length), (14, .int .i64 i)] ∧ own p0.g m key = own gi (m.drop i) key ∧ GB none w wk, ⟨_, _, ⟨0, _, rfl, Nat.zero_le _, rfl, rfl, GB.refl _ _⟩, sb rfl⟩, ?_⟩
  rintro n s wk ⟨i, gi, rfl, hi, rfl, ho, gk⟩
  refine spl (fun d => ?_) (fun d => ?_)
  · have d1 : i < m.length := by have := of_decide_eq_true d; omega
    obtain ⟨x, hx⟩ : ∃ x, m[i]? = some x := ⟨m[i], by simp [d1]⟩
    rw [List.drop_eq_getElem_cons d1, show m[i] = x from (List.getElem?_eq_some_iff.1 hx).2, own] at ho
    refine ⟨⟨by omega, by omega⟩, _, _, gk.get hb nofun, x.cells, fz_at (f := Pc.cells) (fun _ => rfl) hx hcut, rfl, fun w2 b2 m2 g2 l2 => ⟨_, _, _, m2, rfl, rfl, fun w3 m3 g3 => ?_⟩⟩
    have G := gk.trans (g2.new g3 l2)
    refine ⟨_, _, m3, _, rfl, spl (fun e => ?_) (fun e => ?_)⟩
    · have e1 : ¬ x.f ≤ key := by have := of_decide_eq_true e; omega
      rw [if_neg e1] at ho
      exact ⟨congrArg (Value.int .u8) ho.symm, G⟩
    · have e1 : x.f ≤ key := by have := of_decide_eq_false e; omega
      rw [if_pos e1] at ho
      exact ⟨_, _, m3, _, rfl, ⟨by omega, by omega⟩, _, _, ⟨i + 1, _, rfl, by omega, rfl, ho, G⟩, (sb rfl), by omega⟩
  · have d1 : i = m.length := by have := of_decide_eq_false d; omega
    rw [d1, List.drop_length] at ho
    exact ⟨congrArg (Value.int .u8) ho.symm, gk⟩
theorem isMap_ok (hv : PIn w v m) (hm : mapOk m = true) : CY 129 #[v] w (fun x w' => x = .bool true ∧ GB none w w') := by
  obtain ⟨a, c, rfl, hc, hl, hv⟩ := hv
  unfold mapOk at hm
  simp only [Bool.and_eq_true, decide_eq_true_eq] at hm
  obtain ⟨⟨⟨hlen, h1000⟩, hz⟩, hall⟩ := hm
  obtain ⟨p0, h0⟩ : ∃ x, m[0]? = some x := ⟨m[0], by simp [hlen]⟩
  rw [h0] at hz
  have hz : p0.f = 0 := by simpa using hz
  have hat : ∀ i, i < m.length → mapAt m i = true := fun i hi => List.all_eq_true.1 hall i (List.mem_range.2 hi)
  rcases hv with ⟨_, hz⟩ | ⟨b, off, cs, rfl, hb, hcut⟩
  · omega
  refine callE Tryz.func129 rfl rfl ?_
  refine spl (fun e => ?_) (fun e => ?_)
  · refine spl (fun e => ?_) (fun e => ?_)
    · refine ⟨⟨by omega, by omega⟩, _, _, hb, .int .u64 p0.f, cut_one (o := off + 0 * 2) (fz_at (f := Pc.cells) (k := 0) (fun _ => rfl) h0 hcut) rfl (by decide), ?_⟩
      refine spl (fun e => absurd hz (by simpa using e)) (fun e => ?_)
      refine ⟨fun n s wk => ∃ i : Nat, n = m.length - i ∧ i ≤ m.length ∧ s = [(0, .slice (some ⟨b, off, none⟩) m.length c), (20, .slice (some ⟨b, off, none⟩) m.length c), (21, .int .i64 m.length), (22, .int .i64 i)] ∧ GB none w wk, ⟨_, _, ⟨0, rfl, Nat.zero_le _, rfl, GB.refl _ _⟩, sb rfl⟩, ?_⟩
      rintro n s wk ⟨i, rfl, hi, rfl, gk⟩
      refine spl (fun d => ?_) (fun d => ?_)
      · have d1 : i < m.length := by have := of_decide_eq_true d; omega
        obtain ⟨x, hx⟩ : ∃ x, m[i]? = some x := ⟨m[i], by simp [d1]⟩
        have hi' := hat i d1
        unfold mapAt at hi'
        rw [hx] at hi'
        simp only [Bool.and_eq_true, decide_eq_true_eq] at hi'
        refine ⟨⟨by omega, by omega⟩, _, _, gk.get hb nofun, x.cells, fz_at (f := Pc.cells) (fun _ => rfl) hx hcut, rfl, fun w2 b2 m2 g2 l2 => ⟨_, _, _, m2, rfl, rfl, fun w3 m3 g3 => ?_⟩⟩
        have G := gk.trans (g2.new g3 l2)
        have hb3 := G.get hb nofun
        refine ⟨_, _, m3, _, rfl, spl (fun e => ?_) (fun e => ?_)⟩
        · have := of_decide_eq_true e
          omega
        refine ⟨by kernel_rfl, spl (fun e => ?_) (fun e => ?_)⟩
        · obtain ⟨j, rfl⟩ : ∃ j, i = j + 1 := ⟨i - 1, by have := of_decide_eq_true (b11 e); omega⟩
          obtain ⟨y, hy⟩ : ∃ y, m[j]? = some y := ⟨m[j]'(by omega), by simp [show j < m.length by omega]⟩
          have hyc := fz_at (f := Pc.cells) (fun _ => rfl) hy hcut
          rw [Int.toNat_natCast] at hyc
          have ej : (((j + 1 : Nat) : Int) - 1).toNat = j := by omega
          have hxy : y.f < x.f ∧ ¬ y.g = x.g := by
            have := hi'.2
            rw [Nat.add_sub_cancel, hy] at this
            simpa using this
          refine ⟨_, _, m3, _, rfl, ⟨by omega, by omega⟩, ⟨by omega, by omega⟩, _, _, hb3, .int .u64 y.f, by show cs.toList[off + (((j + 1 : Nat) : Int) - 1).toNat * 2 + 0]? = _; rw [ej]; exact cut_one hyc rfl (by decide), spl (fun q => ?_) (fun q => ?_)⟩
          · refine ⟨_, _, m3, _, rfl, ⟨by omega, by omega⟩, ⟨by omega, by omega⟩, _, _, hb3, .int .u8 y.g, by show cs.toList[off + (((j + 1 : Nat) : Int) - 1).toNat * 2 + 1]? = _; rw [ej]; exact cut_one hyc rfl (by decide), spl (fun r => ?_) (fun r => ?_)⟩
            · exact absurd (eq_of_beq r).symm hxy.2
            · exact ⟨⟨by omega, by omega⟩, _, _, ⟨j + 2, rfl, by omega, rfl, G⟩, (sb rfl), by omega⟩
          · have := of_decide_eq_true (b00 q)
            omega
        · exact ⟨⟨by omega, by omega⟩, _, _, ⟨i + 1, rfl, by omega, rfl, G⟩, (sb rfl), by omega⟩
      · exact ⟨rfl, gk⟩
    · have := of_decide_eq_true (b00 e)
      omega
  · have := eq_of_beq (b00 e)
    omega
theorem Find_ok (hv : PIn w v m) (hm : mapOk m = true) (hc : Can m) {key : Int} (hk : 0 ≤ key) : CY 75 #[v, .int .u64 key] w (fun x w' => x = .tuple #[.int .u8 (own 0 m key), .int .i64 0] ∧ GB none w w') := by
  refine callE Tryz.func75 rfl rfl ?_
  refine ⟨_, isMap_ok hv hm, ?_⟩
  rintro _ w1 ⟨rfl, g1⟩
  obtain ⟨p0, h0⟩ : ∃ x, m[0]? = some x := by cases m with
    | nil => exact hc.elim
    | cons p m => exact ⟨p, rfl⟩
  refine ⟨_, holder_ok (hv.kz g1.kz (by decide)) h0 (by have := mapOk_len hm; omega) key, ?_⟩
  rintro _ w2 ⟨rfl, g2⟩
  exact ⟨congrArg (fun z => Value.tuple #[.int .u8 z, .int .i64 0]) (can_any hc key hk _ _), g1.trans g2⟩
end
section
variable {w0 w : World} {v lv : Value} {m L : List Pc}
theorem ahead_ok' (hv : PIn w v m) (hml : m.length ≤ 1000) (lo : Int) : CY 148 #[v, .int .u64 lo] w (fun x w' => PN w w' x (m.filter fun p => decide (p.f < lo))) := by
  obtain ⟨a, c, rfl, hc, hl, hv⟩ := hv
  refine callE Tryz.func148 rfl rfl ?_
  refine ⟨fun n s wk => ∃ (i : Nat) (x : Value), n = m.length - i ∧ i ≤ m.length ∧ s = [(1, .int .u64 lo), (5, x), (8, .slice a m.length c), (9, .int .i64 m.length), (10, .int .i64 i)] ∧ PN w wk x ((m.take i).filter fun p => decide (p.f < lo)), ⟨_, _, ⟨0, _, rfl, Nat.zero_le _, rfl, LN.nil (GB.refl _ _)⟩, sb rfl⟩, ?_⟩
  rintro n s wk ⟨i, x, rfl, hi, rfl, P⟩
  refine spl (fun d => ?_) (fun d => ?_)
  · have d1 : i < m.length := by have := of_decide_eq_true d; omega
    rcases hv with ⟨_, hz⟩ | ⟨b, off, cs, rfl, hb, hcut⟩
    · omega
    obtain ⟨y, hy⟩ : ∃ y, m[i]? = some y := ⟨m[i], by simp [d1]⟩
    have ht : m.take (i + 1) = m.take i ++ [y] := by rw [List.take_add_one, hy]; rfl
    obtain ⟨xa, xc, rfl⟩ := own_slice P.own
    refine ⟨⟨by omega, by omega⟩, _, _, P.gb.get hb nofun, y.cells, fz_at (f := Pc.cells) (fun _ => rfl) hy hcut, rfl, fun w2 b2 m2 g2 l2 => ⟨_, _, _, m2, rfl, rfl, fun w3 m3 g3 => ?_⟩⟩
    have P3 := P.gb0 (g2.new g3 l2)
    refine ⟨_, _, m3, _, rfl, spl (fun e => ?_) (fun e => ?_)⟩
    · have e1 := of_decide_eq_true e
      have ef : (m.take (i + 1)).filter (fun p => decide (p.f < lo)) = (m.take i).filter (fun p => decide (p.f < lo)) ++ [y] := by rw [ht, List.filter_append]; simp [e1]
      refine ⟨_, _, m3, y.cells, rfl, rfl, fun w4 b4 m4 g4 l4 => ?_⟩
      refine ⟨_, y.cells, (P3.gb0 g4).own, ⟨_, _, m4, rfl, rfl, rfl⟩, by have := List.length_filter_le (fun p : Pc => decide (p.f < lo)) (m.take i); rw [List.length_take] at this; omega, fun v' w5 ho g n => ?_⟩
      have P5 := (P3.gb0 g4).app ho g n
      obtain ⟨xa', xc', rfl⟩ := own_slice P5.own
      refine ⟨⟨by omega, by omega⟩, _, _, ⟨i + 1, _, rfl, by omega, rfl, ?_⟩, (sb rfl), by omega⟩
      show LN _ _ _ _ _ _ _
      rw [ef, List.length_append, List.map_append, List.flatten_append]
      simpa using P5
    · have e1 := of_decide_eq_false e
      have ef : (m.take (i + 1)).filter (fun p => decide (p.f < lo)) = (m.take i).filter (fun p => decide (p.f < lo)) := by rw [ht, List.filter_append]; simp; omega
      exact ⟨⟨by omega, by omega⟩, _, _, ⟨i + 1, _, rfl, by omega, rfl, by show LN _ _ _ _ _ _ _; rw [ef]; exact P3⟩, (sb rfl), by omega⟩
  · have d1 : i = m.length := by have := of_decide_eq_false d; omega
    rw [d1, List.take_length] at P
    exact P
theorem behind_ok (hv : PIn w0 v m) (hml : m.length ≤ 1000) (hm : mapOk m = true) (hcan : Can m) (P : PN w0 w lv L) (hL : L.length ≤ 2000) {hi : Int} (h0 : 0 ≤ hi) (h1 : hi ≤ 18446744073709551615) : CY 146 #[v, .int .u64 hi, lv] w (fun x w' => PN w0 w' x (behL m hi L)) := by
  have hv0 := hv
  obtain ⟨a, c, rfl, hc, hl, hv⟩ := hv
  obtain ⟨la, lc, rfl⟩ := own_slice P.own
  refine callE Tryz.func146 rfl rfl ?_
  unfold behL
  refine spl (fun d => ?_) (fun d => ?_)
  · rw [if_pos (eq_of_beq d)]
    exact P
  have d1 : ¬ hi = 18446744073709551615 := by simpa using d
  rw [if_neg d1]
  obtain ⟨p0, hp0⟩ : ∃ x, m[0]? = some x := by cases m with
    | nil => exact hcan.elim
    | cons p m => exact ⟨p, rfl⟩
  refine ⟨⟨by omega, by omega⟩, ⟨by omega, by omega⟩, _, holder_ok (hv0.kz P.gb.kz (by decide)) hp0 (by omega) (hi + 1), ?_⟩
  rintro _ w1 ⟨rfl, g1⟩
  rw [show own p0.g m (hi + 1) = own 0 m (hi + 1) from can_any hcan _ (by omega) _ _]
  refine ⟨_, pjoin_ok (P.gb0 g1) ⟨hi + 1, own 0 m (hi + 1)⟩ (by omega), ?_⟩
  intro x w2 P2
  have hjl := join_len L ⟨hi + 1, own 0 m (hi + 1)⟩
  generalize join L ⟨hi + 1, own 0 m (hi + 1)⟩ = J at P2 hjl ⊢
  obtain ⟨xa, xc, rfl⟩ := own_slice P2.own
  refine ⟨fun n s wk => ∃ (i : Nat) (x : Value), n = m.length - i ∧ i ≤ m.length ∧ s = [(1, .int .u64 hi), (2, x), (21, .slice a m.length c), (22, .int .i64 m.length), (23, .int .i64 i)] ∧ PN w0 wk x ((m.take i).foldl (behStep hi) J), ⟨_, _, ⟨0, _, rfl, Nat.zero_le _, rfl, P2⟩, sb rfl⟩, ?_⟩
  clear P2
  rintro n s wk ⟨i, x, rfl, hi', rfl, P⟩
  refine spl (fun d => ?_) (fun d => ?_)
  · have d1 : i < m.length := by have := of_decide_eq_true d; omega
    rcases hv with ⟨_, hz⟩ | ⟨b, off, cs, rfl, hb, hcut⟩
    · omega
    obtain ⟨y, hy⟩ : ∃ y, m[i]? = some y := ⟨m[i], by simp [d1]⟩
    have ht : m.take (i + 1) = m.take i ++ [y] := by rw [List.take_add_one, hy]; rfl
    have hbl := beh_len hi (m.take i) J
    rw [List.length_take] at hbl
    obtain ⟨xa, xc, rfl⟩ := own_slice P.own
    refine ⟨⟨by omega, by omega⟩, _, _, P.gb.get hb nofun, y.cells, fz_at (f := Pc.cells) (fun _ => rfl) hy hcut, rfl, fun w2 b2 m2 g2 l2 => ⟨_, _, _, m2, rfl, rfl, fun w3 m3 g3 => ?_⟩⟩
    have P3 := P.gb0 (g2.new g3 l2)
    refine ⟨_, _, m3, _, rfl, spl (fun e => ?_) (fun e => ?_)⟩
    · have e1 := of_decide_eq_true e
      have ef : (m.take (i + 1)).foldl (behStep hi) J = join ((m.take i).foldl (behStep hi) J) y := by rw [ht, List.foldl_append]; exact if_pos (by omega)
      refine ⟨_, _, m3, y.cells, rfl, rfl, _, pjoin_ok P3 y (by omega), fun v' w5 P5 => ?_⟩
      obtain ⟨xa', xc', rfl⟩ := own_slice P5.own
      exact ⟨⟨by omega, by omega⟩, _, _, ⟨i + 1, _, rfl, by omega, rfl, by rw [ef]; exact P5⟩, (sb rfl), by omega⟩
    · have e1 := of_decide_eq_false e
      have ef : (m.take (i + 1)).foldl (behStep hi) J = (m.take i).foldl (behStep hi) J := by rw [ht, List.foldl_append]; exact if_neg (by omega)
      exact ⟨⟨by omega, by omega⟩, _, _, ⟨i + 1, _, rfl, by omega, rfl, by rw [ef]; exact P3⟩, (sb rfl), by omega⟩
  · have d1 : i = m.length := by have := of_decide_eq_false d; omega
    rw [d1, List.take_length] at P
    exact P
theorem Give_ok (hv : PIn w v m) (hm : mapOk m = true) (hcan : Can m) {lo hi g : Int} (h0 : 0 ≤ lo) (h1 : lo ≤ hi) (h2 : hi ≤ 18446744073709551615) (hg : g < 4) : CY 88 #[v, .int .u64 lo, .int .u64 hi, .int .u8 g] w (fun x w' => ∃ v' e, x = .tuple #[v', .int .i64 e] ∧ GB none w w' ∧ (((giveL m lo hi g).length ≤ 1000 ∧ e = 0 ∧ PN w w' v' (giveL m lo hi g)) ∨ (1000 < (giveL m lo hi g).length ∧ e = 3 ∧ v' = .slice none 0 0))) := by
  have hml := mapOk_len hm
  have hv0 := hv
  obtain ⟨a, c, rfl, hc, hl, hv⟩ := hv
  refine callE Tryz.func88 rfl rfl ?_
  refine ⟨_, isMap_ok hv0 hm, ?_⟩
  rintro _ w1 ⟨rfl, g1⟩
  refine spl (fun e => ?_) (fun e => ?_)
  · refine spl (fun q => ?_) (fun q => ?_)
    · have := of_decide_eq_true q
      omega
    refine ⟨_, ahead_ok' (hv0.kz g1.kz (by decide)) hml lo, ?_⟩
    intro x w2 P
    have hfl := List.length_filter_le (fun p : Pc => decide (p.f < lo)) m
    refine ⟨_, pjoin_ok P ⟨lo, g⟩ (by omega), ?_⟩
    intro x2 w3 P3
    have hjl := join_len (m.filter fun p => decide (p.f < lo)) ⟨lo, g⟩
    refine ⟨_, behind_ok (hv0.kz g1.kz (by decide)) hml hm hcan P3 (by omega) (by omega) h2, ?_⟩
    intro x4 w4 P4
    have P5 : PN w w4 x4 (giveL m lo hi g) := ⟨P4.own, g1.trans P4.gb, fun y hy => Nat.le_trans g1.size (P4.new y hy)⟩
    clear P P3 P4
    generalize giveL m lo hi g = G at P5 ⊢
    obtain ⟨xa, xc, rfl⟩ := own_slice P5.own
    refine spl (fun q => ?_) (fun q => ?_)
    · have := of_decide_eq_true q
      exact ⟨_, _, rfl, P5.gb, .inr ⟨by omega, rfl, rfl⟩⟩
    · have := of_decide_eq_false q
      exact ⟨_, _, rfl, P5.gb, .inl ⟨by omega, rfl, P5⟩⟩
  · have := of_decide_eq_true (b00 e)
    omega
end
theorem fresh_row {w : World} {v : Value} {n : Nat} {xs : List Value} (h : Fz w 128 2 v n xs) (ho : xs.all one = true) (hn : n ≤ 1000000) : CY 76 #[v] w (fun v' w' => LN 128 2 w w' v' n xs) := by
  obtain ⟨a, c, rfl, hc, hl, hv⟩ := h
  refine callE Tryz.func76 rfl rfl ?_
  rcases hv with ⟨rfl, rfl⟩ | ⟨b, off, cs, rfl, hb, hcut⟩
  · obtain rfl : xs = [] := List.eq_nil_of_length_eq_zero (by omega)
    exact ⟨Nat.le_refl _, LN.nil (GB.refl _ _)⟩
  · refine ⟨_, xs, own0 _ _ _, ⟨_, _, hb, hcut, hl, ho⟩, by omega, fun v' w2 ho2 g2 n2 => ?_⟩
    rw [Nat.zero_add] at ho2
    exact (LN.nil (GB.refl _ _)).app ho2 g2 n2
theorem fresh_rep {w : World} {v : Value} {n : Nat} {xs : List Value} (h : Fz w 57 7 v n xs) (ho : xs.all one = true) (hn : n ≤ 1000000) : CY 78 #[v] w (fun v' w' => LN 57 7 w w' v' n xs) := by
  obtain ⟨a, c, rfl, hc, hl, hv⟩ := h
  refine callE Tryz.func78 rfl rfl ?_
  rcases hv with ⟨rfl, rfl⟩ | ⟨b, off, cs, rfl, hb, hcut⟩
  · obtain rfl : xs = [] := List.eq_nil_of_length_eq_zero (by omega)
    exact ⟨Nat.le_refl _, LN.nil (GB.refl _ _)⟩
  · refine ⟨_, xs, own0 _ _ _, ⟨_, _, hb, hcut, hl, ho⟩, by omega, fun v' w2 ho2 g2 n2 => ?_⟩
    rw [Nat.zero_add] at ho2
    exact (LN.nil (GB.refl _ _)).app ho2 g2 n2
theorem fresh_pc {w : World} {v : Value} {n : Nat} {xs : List Value} (h : Fz w 107 2 v n xs) (ho : xs.all one = true) (hn : n ≤ 1000000) : CY 77 #[v] w (fun v' w' => LN 107 2 w w' v' n xs) := by
  obtain ⟨a, c, rfl, hc, hl, hv⟩ := h
  refine callE Tryz.func77 rfl rfl ?_
  rcases hv with ⟨rfl, rfl⟩ | ⟨b, off, cs, rfl, hb, hcut⟩
  · obtain rfl : xs = [] := List.eq_nil_of_length_eq_zero (by omega)
    exact ⟨Nat.le_refl _, LN.nil (GB.refl _ _)⟩
  · refine ⟨_, xs, own0 _ _ _, ⟨_, _, hb, hcut, hl, ho⟩, by omega, fun v' w2 ho2 g2 n2 => ?_⟩
    rw [Nat.zero_add] at ho2
    exact (LN.nil (GB.refl _ _)).app ho2 g2 n2
theorem fresh_num {w : World} {v : Value} {n : Nat} {xs : List Value} (h : Fz w 47 1 v n xs) (ho : xs.all one = true) (hn : n ≤ 1000000) : CY 79 #[v] w (fun v' w' => LN 47 1 w w' v' n xs) := by
  obtain ⟨a, c, rfl, hc, hl, hv⟩ := h
  refine callE Tryz.func79 rfl rfl ?_
  rcases hv with ⟨rfl, rfl⟩ | ⟨b, off, cs, rfl, hb, hcut⟩
  · obtain rfl : xs = [] := List.eq_nil_of_length_eq_zero (by omega)
    exact ⟨Nat.le_refl _, LN.nil (GB.refl _ _)⟩
  · refine ⟨_, xs, own0 _ _ _, ⟨_, _, hb, hcut, hl, ho⟩, by omega, fun v' w2 ho2 g2 n2 => ?_⟩
    rw [Nat.zero_add] at ho2
    exact (LN.nil (GB.refl _ _)).app ho2 g2 n2
theorem fresh_lane {w : World} {v : Value} {n : Nat} {xs : List Value} (h : Fz w 103 2 v n xs) (ho : xs.all one = true) (hn : n ≤ 1000000) : CY 80 #[v] w (fun v' w' => LN 103 2 w w' v' n xs) := by
  obtain ⟨a, c, rfl, hc, hl, hv⟩ := h
  refine callE Tryz.func80 rfl rfl ?_
  rcases hv with ⟨rfl, rfl⟩ | ⟨b, off, cs, rfl, hb, hcut⟩
  · obtain rfl : xs = [] := List.eq_nil_of_length_eq_zero (by omega)
    exact ⟨Nat.le_refl _, LN.nil (GB.refl _ _)⟩
  · refine ⟨_, xs, own0 _ _ _, ⟨_, _, hb, hcut, hl, ho⟩, by omega, fun v' w2 ho2 g2 n2 => ?_⟩
    rw [Nat.zero_add] at ho2
    exact (LN.nil (GB.refl _ _)).app ho2 g2 n2
theorem fresh_rng {w : World} {v : Value} {n : Nat} {xs : List Value} (h : Fz w 52 7 v n xs) (ho : xs.all one = true) (hn : n ≤ 1000000) : CY 131 #[v] w (fun v' w' => LN 52 7 w w' v' n xs) := by
  obtain ⟨a, c, rfl, hc, hl, hv⟩ := h
  refine callE Tryz.func131 rfl rfl ?_
  rcases hv with ⟨rfl, rfl⟩ | ⟨b, off, cs, rfl, hb, hcut⟩
  · obtain rfl : xs = [] := List.eq_nil_of_length_eq_zero (by omega)
    exact ⟨Nat.le_refl _, LN.nil (GB.refl _ _)⟩
  · refine ⟨_, xs, own0 _ _ _, ⟨_, _, hb, hcut, hl, ho⟩, by omega, fun v' w2 ho2 g2 n2 => ?_⟩
    rw [Nat.zero_add] at ho2
    exact (LN.nil (GB.refl _ _)).app ho2 g2 n2
def dl (d : ByteArray) : List Nat := d.data.toList.map UInt8.toNat
theorem dl_len (d : ByteArray) : (dl d).length = d.size := by simp [dl]
theorem dl_lt (d : ByteArray) : ∀ x ∈ dl d, x < 256 := fun x hx => by
  obtain ⟨y, _, rfl⟩ := List.mem_map.1 hx
  exact y.toNat_lt
def be (l : List Nat) : Nat := l.foldl (fun n b => n * 256 + b) 0
theorem be_snoc (l : List Nat) (x : Nat) : be (l ++ [x]) = be l * 256 + x := by simp [be]
theorem be_lt : ∀ (n : Nat) (l : List Nat), l.length = n → (∀ x ∈ l, x < 256) → be l < 256 ^ n
  | 0, l, h, _ => by rw [List.length_eq_zero_iff.1 h]; decide
  | n + 1, l, h, hl => by
    have hne : l ≠ [] := fun e => by rw [e] at h; cases h
    rw [← List.dropLast_concat_getLast hne, be_snoc]
    have h1 := be_lt n l.dropLast (by rw [List.length_dropLast]; omega) fun x hx => hl x ((List.dropLast_sublist l).subset hx)
    have h2 := hl _ (List.getLast_mem hne)
    rw [Nat.pow_succ]
    omega
def num (n : Nat) (l : List Nat) : Nat × List Nat := if l.length < n then (0, []) else (be (l.take n), l.drop n)
theorem num_short {n : Nat} {l : List Nat} (h : l.length < n) : num n l = (0, []) := if_pos h
theorem num_long {n : Nat} {l : List Nat} (h : ¬ l.length < n) : num n l = (be (l.take n), l.drop n) := if_neg h
theorem num_lt {n : Nat} {l : List Nat} (hl : ∀ x ∈ l, x < 256) : (num n l).1 < 256 ^ n := by
  by_cases h : l.length < n
  · rw [num_short h]; exact Nat.pow_pos (by decide)
  · rw [num_long h]; exact be_lt n _ (by rw [List.length_take]; omega) fun x hx => hl x (List.mem_of_mem_take hx)
theorem num_rest {n : Nat} {l : List Nat} (hl : ∀ x ∈ l, x < 256) : ∀ x ∈ (num n l).2, x < 256 := by
  by_cases h : l.length < n
  · rw [num_short h]; intro x hx; cases hx
  · rw [num_long h]; exact fun x hx => hl x (List.mem_of_mem_drop hx)
theorem or_byte {a c : Nat} (ha : a * 256 + 256 ≤ 18446744073709551616) (hc : c < 256) : IntKind.u64.wrap ((BitVec.ofInt IntKind.u64.bits (IntKind.u64.wrap ((a : Int) * 2 ^ min (8 : Int).toNat IntKind.u64.bits)) ||| BitVec.ofInt IntKind.u64.bits (c : Int)).toNat : Nat) = ((a * 256 + c : Nat) : Int) := by
  have e1 : IntKind.u64.wrap ((a : Int) * 2 ^ min (8 : Int).toNat IntKind.u64.bits) = ((a * 256 : Nat) : Int) := by
    show ((a : Int) * 2 ^ 8) % 18446744073709551616 = _
    omega
  rw [e1, BitVec.ofInt_natCast, BitVec.ofInt_natCast, BitVec.toNat_or, BitVec.toNat_ofNat, BitVec.toNat_ofNat]
  have e2 : a * 256 % 2 ^ IntKind.u64.bits = a * 256 := Nat.mod_eq_of_lt (by show _ < 18446744073709551616; omega)
  have e3 : c % 2 ^ IntKind.u64.bits = c := Nat.mod_eq_of_lt (by show _ < 18446744073709551616; omega)
  rw [e2, e3]
  have e4 := Nat.shiftLeft_add_eq_or_of_lt (i := 8) (b := c) (by omega) a
  rw [Nat.shiftLeft_eq] at e4
  rw [show a * 256 = a * 2 ^ 8 from rfl, ← e4]
  show ((a * 2 ^ 8 + c : Nat) : Int) % 18446744073709551616 = _
  omega
/-- A source at bytes l. -/
def Src (w : World) (b : Nat) (l : List Nat) : Prop := ∃ d, w.heap[b]? = some (.cells #[.string d] 249) ∧ dl d = l
theorem Src.keep {w w' : World} {b : Nat} {l : List Nat} (h : Src w b l) (k : w'.heap[b]? = w.heap[b]?) : Src w' b l := by
  obtain ⟨d, h1, h2⟩ := h
  exact ⟨d, k.trans h1, h2⟩
theorem Src.b {w : World} {b : Nat} {l : List Nat} (h : Src w b l) : ∀ x ∈ l, x < 256 := by
  obtain ⟨d, _, rfl⟩ := h
  exact dl_lt d
theorem Src.lt {w : World} {b : Nat} {l : List Nat} (h : Src w b l) : b < w.heap.size := by
  obtain ⟨d, h1, _⟩ := h
  exact lt_heap h1
theorem dl_extract (d : ByteArray) {k : Nat} : dl (d.extract k d.size) = (dl d).drop k := by
  unfold dl
  rw [ByteArray.data_extract, Array.toList_extract, List.extract_eq_drop_take', ← List.map_drop]
  congr 1
  rw [List.take_of_length_le]
  simp
theorem dl_at {d : ByteArray} {i : Nat} (h : i < d.size) : (dl d)[i]? = some (d.data.toList.getD i 0).toNat := by
  have h' : i < d.data.size := h
  unfold dl
  rw [List.getElem?_map, List.getD_eq_getElem?_getD, Array.getElem?_toList, Array.getElem?_eq_getElem h']
  rfl
section
variable {w : World} {b : Nat} {l : List Nat}
theorem number_ok (hs : Src w b l) (k : Nat) (hk : k ≤ 8) : CY 223 #[.pointer (some ⟨b, 0, none⟩), .int .i64 k] w (fun v w' => v = .int .u64 (num k l).1 ∧ Src w' b (num k l).2 ∧ GB (some b) w w') := by
  obtain ⟨d, hs, rfl⟩ := hs
  have hd := dl_len d
  refine callE Tryz.func223 rfl rfl ?_
  refine ⟨_, _, hs, _, rfl, spl (fun c => ?_) (fun c => ?_)⟩
  · have c1 : (dl d).length < k := by have := of_decide_eq_true c; omega
    rw [num_short c1]
    exact ⟨_, _, _, hs, rfl, rfl, fun w1 m1 g1 => ⟨rfl, ⟨_, m1, rfl⟩, g1⟩⟩
  · have c1 : ¬ (dl d).length < k := by have := of_decide_eq_false c; omega
    rw [num_long c1]
    refine ⟨fun m s w1 => ∃ i : Nat, m = k - i ∧ i ≤ k ∧ s = [(0, .pointer (some ⟨b, 0, none⟩)), (1, .int .i64 k), (5, .int .u64 (be ((dl d).take i))), (17, .int .i64 k), (18, .int .i64 i)] ∧ w1 = w, ⟨_, _, ⟨0, rfl, Nat.zero_le _, rfl, rfl⟩, sb rfl⟩, ?_⟩
    rintro m s w1 ⟨i, rfl, hi, rfl, rfl⟩
    refine spl (fun e => ?_) (fun e => ?_)
    · have e1 : i < k := by have := of_decide_eq_true e; omega
      have hx := dl_at (d := d) (i := i) (by omega)
      have hb := dl_lt d _ (List.mem_of_getElem? hx)
      have hlt := be_lt i ((dl d).take i) (by rw [List.length_take]; omega) fun x hx => dl_lt d x (List.mem_of_mem_take hx)
      have h7 : 256 ^ i ≤ 256 ^ 7 := Nat.pow_le_pow_right (by decide) (by omega)
      have h7' : (256 : Nat) ^ 7 = 72057594037927936 := by decide
      have hsnoc : be ((dl d).take (i + 1)) = be ((dl d).take i) * 256 + (d.data.toList.getD i 0).toNat := by rw [List.take_add_one, hx]; exact be_snoc _ _
      have hor := or_byte (a := be ((dl d).take i)) (c := (d.data.toList.getD i 0).toNat) (by omega) hb
      rw [← hsnoc] at hor
      have hb' : (d.data.toList.getD (i : Int).toNat 0).toNat < 256 := hb
      refine ⟨by decide, _, _, hs, _, rfl, ⟨by omega, by omega⟩, ?_⟩
      refine .inl ⟨⟨by omega, by omega⟩, ?_⟩
      refine ⟨⟨by omega, by omega⟩, _, _, ⟨i + 1, rfl, by omega, rfl, rfl⟩, ⟨rfl, rfl, ?_, sb rfl⟩, by omega⟩
      exact congrArg (fun z => some (Value.int .u64 z)) hor
    · have e1 : i = k := by have := of_decide_eq_false e; omega
      subst e1
      refine ⟨_, _, hs, _, rfl, ⟨by omega, by omega⟩, _, _, _, hs, rfl, rfl, fun w2 m2 g2 => ⟨rfl, ⟨_, m2, ?_⟩, g2⟩⟩
      show dl (d.extract (i : Int).toNat d.size) = _
      rw [Int.toNat_natCast, dl_extract]
end
end
end Go.Proofs.YtignemioillaiaaGreat
