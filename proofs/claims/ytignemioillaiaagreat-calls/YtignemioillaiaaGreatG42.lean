/- A shard copied (2): queues. -/
import Derived.Test.YtignemioillaiaaGreatG41
namespace Go.Proofs.YtignemioillaiaaGreat
set_option maxHeartbeats 8000000
set_option maxRecDepth 100000
section
open Go Go.Conc
/-- A range with its lists' places. -/
abbrev Ra := Rg × Value × Value
abbrev rgA (x : Ra) : List Value := rgC x.1 x.2.1 x.2.2
structure RgN (w0 w : World) (x : Ra) : Prop where
  r : LN 128 2 w0 w x.2.1 x.1.rows.length (x.1.rows.map Row.cells).flatten
  d : LN 57 7 w0 w x.2.2 x.1.dups.length (x.1.dups.map Rep.cells).flatten
structure QN (w0 w : World) (q : Value) (rs : List Ra) : Prop where
  q : LN 52 7 w0 w q rs.length (rs.map rgA).flatten
  r : ∀ x ∈ rs, RgN w0 w x
theorem flat_set {α : Type} {f : α → List Value} {size : Nat} (hf : ∀ x, (f x).length = size) {j : Nat} (hj : j < size) {x x' : α} {v : Value} (hx : (f x).set j v = f x') : ∀ (l : List α) (i : Nat), l[i]? = some x → (l.map f).flatten.set (i * size + j) v = ((l.set i x').map f).flatten
  | [], _, h => by simp at h
  | y :: l, 0, h => by
    simp at h; subst h
    rw [List.set_cons_zero, List.map_cons, List.map_cons, List.flatten_cons, List.flatten_cons, Nat.zero_mul, Nat.zero_add, List.set_append_left _ _ (by rw [hf]; exact hj), hx]
  | y :: l, i + 1, h => by
    rw [List.set_cons_succ, List.map_cons, List.map_cons, List.flatten_cons, List.flatten_cons, List.set_append_right _ _ (by rw [hf, Nat.succ_mul]; omega), hf, show (i + 1) * size + j - size = i * size + j by rw [Nat.succ_mul]; omega]
    rw [flat_set hf hj hx l i (by simpa using h)]
section
variable {e size : Nat} {w0 w w' : World} {v : Value} {n : Nat} {xs : List Value}
theorem LN.gbt (h : LN e size w0 w v n xs) {x t : Nat} {c : Array Value} (g : GB (some x) w w') (hx : w.heap[x]? = some (.cells c t)) (ht : t ≠ e) (hn : w0.heap.size ≤ x) : LN e size w0 w' v n xs :=
  ⟨owns_rely h.own fun y hy => by obtain ⟨c', hc⟩ := own_obj h.own hy; exact g.block y (lt_heap hc) fun z => ne_ty hc hx ht.symm (Option.some.inj z), h.gb.new g hn, h.new⟩
theorem LN.base {wb : World} (h : LN e size w0 w v n xs) (g : GB none wb w0) : LN e size wb w v n xs := ⟨h.own, g.trans h.gb, fun x hx => Nat.le_trans g.size (h.new x hx)⟩
theorem RgN.gb0 {x : Ra} (h : RgN w0 w x) (g : GB none w w') : RgN w0 w' x := ⟨h.r.gb0 g, h.d.gb0 g⟩
theorem RgN.gbt {y : Ra} (h : RgN w0 w y) {x t : Nat} {c : Array Value} (g : GB (some x) w w') (hx : w.heap[x]? = some (.cells c t)) (h1 : t ≠ 128) (h2 : t ≠ 57) (hn : w0.heap.size ≤ x) : RgN w0 w' y := ⟨h.r.gbt g hx h1 hn, h.d.gbt g hx h2 hn⟩
theorem QN.gb0 {q : Value} {rs : List Ra} (h : QN w0 w q rs) (g : GB none w w') : QN w0 w' q rs := ⟨h.q.gb0 g, fun x hx => (h.r x hx).gb0 g⟩
theorem QN.gbt {q : Value} {rs : List Ra} (h : QN w0 w q rs) {x t : Nat} {c : Array Value} (g : GB (some x) w w') (hx : w.heap[x]? = some (.cells c t)) (h1 : t ≠ 128) (h2 : t ≠ 57) (h3 : t ≠ 52) (hn : w0.heap.size ≤ x) : QN w0 w' q rs := ⟨h.q.gbt g hx h3 hn, fun y hy => (h.r y hy).gbt g hx h1 h2 hn⟩
end
theorem QIn.ra {w : World} {q : Value} {l : List Rg} (h : QIn w q l) : ∃ ps : List Ra, ps.map (·.1) = l ∧ Fz w 52 7 q ps.length (ps.map rgA).flatten ∧ ∀ x ∈ ps, RgIn w x.1 x.2.1 x.2.2 := by
  obtain ⟨vs, h1, h2, h3⟩ := h
  have hz : List.zipWith (fun r (p : Value × Value) => rgC r p.1 p.2) l vs = (l.zip vs).map rgA := by
    rw [List.zip_eq_zipWith, List.map_zipWith]
  refine ⟨l.zip vs, List.map_fst_zip (by omega), ?_, fun x hx => ?_⟩
  · rw [← hz, show (l.zip vs).length = l.length by rw [List.length_zip]; omega]; exact h2
  · obtain ⟨i, hi, rfl⟩ := List.getElem_of_mem hx
    have e := List.getElem?_eq_getElem hi
    rw [List.getElem?_zip_eq_some] at e
    exact h3 i _ _ e.1 e.2
theorem ra_ones {w : World} {ps : List Ra} (h : ∀ x ∈ ps, RgIn w x.1 x.2.1 x.2.2) : (ps.map rgA).flatten.all one = true := by
  induction ps with
  | nil => rfl
  | cons x l ih =>
    rw [List.map_cons, List.flatten_cons, List.all_append, ih fun y hy => h y (List.mem_cons_of_mem _ hy), Bool.and_true]
    obtain ⟨r, rv, dv⟩ := x
    obtain ⟨ra, rn, rc, da, dn, dc, e1, e2⟩ := (h (r, rv, dv) List.mem_cons_self).sl
    have e1 : rv = _ := e1
    have e2 : dv = _ := e2
    subst e1; subst e2
    rfl
theorem LN.at {e size : Nat} {w0 w : World} {v : Value} {α : Type} {f : α → List Value} {l : List α} (h : LN e size w0 w v l.length (l.map f).flatten) (hf : ∀ x, (f x).length = size) {i : Nat} {x : α} (hx : l[i]? = some x) : ∃ g cap cur, v = .slice (some ⟨g, 0, none⟩) l.length cap ∧ w0.heap.size ≤ g ∧ w.heap[g]? = some (.cells cur e) ∧ cutL cur.toList (0 + (i : Int).toNat * size) size = f x ∧ l.length * size ≤ cur.size := by
  have hi := (List.getElem?_eq_some_iff.1 hx).1
  obtain ⟨g, cap, cur, ev, hcur, htk, hsz, hcap⟩ := own_el h.own (by omega)
  subst ev
  refine ⟨g, cap, cur, rfl, h.new g rfl, hcur, ?_, hsz⟩
  refine fz_at hf hx ?_
  unfold cutL
  rw [List.drop_zero]
  exact htk
theorem LN.set {e size : Nat} {w0 w w' : World} {α : Type} {f : α → List Value} {l : List α} {g cap : Nat} {cur : Array Value} (h : LN e size w0 w (.slice (some ⟨g, 0, none⟩) l.length cap) l.length (l.map f).flatten) (hf : ∀ x, (f x).length = size) (hcur : w.heap[g]? = some (.cells cur e)) {i j : Nat} {x x' : α} {v : Value} (hx : l[i]? = some x) (hj : j < size) (hxx : (f x).set j v = f x') {off' s1 : Nat} {vc : List Value} (hw : Hl w' g (cur.toList.take off' ++ vc ++ cur.toList.drop (off' + s1)) e) (e1 : off' = i * size + j) (e2 : s1 = 1) (e3 : vc = [v]) (gb : GB (some g) w w') : LN e size w0 w' (.slice (some ⟨g, 0, none⟩) (l.set i x').length cap) (l.set i x').length ((l.set i x').map f).flatten := by
  have hi := (List.getElem?_eq_some_iff.1 hx).1
  have h2 : (i + 1) * size ≤ l.length * size := Nat.mul_le_mul_right _ hi
  rw [Nat.succ_mul] at h2
  have := own_set' h.own hcur hw e1 e2 e3 (by omega)
  rw [flat_set hf hj hxx l i hx] at this
  rw [List.length_set]
  exact ⟨this, h.gb.new gb (h.new g rfl), h.new⟩
theorem set_get {α : Type} {l : List α} {i j : Nat} {x : α} (hi : i < l.length) : (l.set i x)[j]? = if j = i then some x else l[j]? := by
  by_cases h : j = i
  · subst h; rw [if_pos rfl]; simp [hi]
  · rw [if_neg h, List.getElem?_set_ne (fun e => h e.symm)]
theorem freshQ_ok {w : World} {q : Value} {l : List Rg} (h : QIn w q l) (hl : l.length ≤ 100000) (hs : ∀ r ∈ l, r.rows.length ≤ 1000000 ∧ r.dups.length ≤ 1000000) : CY 81 #[q] w (fun v w' => ∃ rs : List Ra, rs.map (·.1) = l ∧ QN w w' v rs) := by
  obtain ⟨ps, rfl, hf, hr⟩ := h.ra
  rw [List.length_map] at hl
  obtain ⟨qa, qc, rfl, hrest⟩ := hf
  have hf : Fz w 52 7 (.slice qa ps.length qc) ps.length (ps.map rgA).flatten := ⟨qa, qc, rfl, hrest⟩
  refine callE Tryz.func81 rfl rfl ?_
  refine ⟨_, fresh_rng hf (ra_ones hr) (by omega), ?_⟩
  intro v w1 L
  obtain ⟨va, vc, rfl⟩ := own_slice L.own
  refine ⟨fun n s wk => ∃ (i : Nat) (rs : List Ra), n = ps.length - i ∧ i ≤ ps.length ∧ s = [(0, .slice va ps.length vc), (7, .slice va ps.length vc), (8, .int .i64 ps.length), (9, .int .i64 i)] ∧ rs.length = ps.length ∧ rs.map (·.1) = ps.map (·.1) ∧ LN 52 7 w wk (.slice va rs.length vc) rs.length (rs.map rgA).flatten ∧ (∀ j x, j < i → rs[j]? = some x → RgN w wk x) ∧ (∀ j, i ≤ j → rs[j]? = ps[j]?), ⟨_, _, ⟨0, ps, rfl, Nat.zero_le _, rfl, rfl, rfl, L, fun _ _ h => by omega, fun _ _ => rfl⟩, sb rfl⟩, ?_⟩
  clear L
  rintro n s wk ⟨i, rs, rfl, hi, rfl, hlen, hmap, L, hnew, hold⟩
  refine spl (fun d => ?_) (fun d => ?_)
  · have d1 : i < ps.length := by have := of_decide_eq_true d; omega
    obtain ⟨⟨r, rv, dv⟩, hx⟩ : ∃ x, ps[i]? = some x := ⟨ps[i], by simp [d1]⟩
    have hx' : rs[i]? = some (r, rv, dv) := (hold i (Nat.le_refl _)).trans hx
    have hmem := List.mem_of_getElem? hx
    have hrg := hr _ hmem
    obtain ⟨ra, rn, rc, da, dn, dc, e1, e2⟩ := hrg.sl
    have e1 : rv = _ := e1
    have e2 : dv = _ := e2
    subst e1 e2
    obtain ⟨hb1, hb2⟩ := hs r (List.mem_map.2 ⟨_, hmem, rfl⟩)
    obtain ⟨g, cap, cur, ev, hg, hcur, hcut, hsz⟩ := L.at (f := rgA) (fun _ => rfl) hx'
    injection ev with ea _ ec
    subst ea ec
    refine ⟨⟨by omega, by omega⟩, _, _, hcur, rgC r (.slice ra rn rc) (.slice da dn dc), hcut, rfl, fun w2 b2 m2 g2 l2 => ⟨_, _, _, m2, rfl, rfl, fun w3 m3 g3 => ?_⟩⟩
    have G3 := g2.new g3 l2
    have nb : g ≠ b2 := by have := lt_heap hcur; omega
    have L3 := L.gb0 G3
    have hcur3 := G3.get hcur nofun
    have Gw := L3.gb
    refine ⟨_, _, m3, _, rfl, _, fresh_row (hrg.1.kz Gw.kz (by decide)) (ones_map (fun _ => rfl) _) hb1, ?_⟩
    intro rv' w4 R4
    obtain ⟨ra', rc', rfl⟩ := own_slice R4.own
    have hcur4 := R4.gb.get hcur3 nofun
    have L4 := L3.gb0 R4.gb
    refine ⟨⟨by omega, by omega⟩, _, _, _, hcur4, okSt_one rfl rfl (by rw [Array.length_toList]; show 0 + (i : Int).toNat * 7 + 5 < _; omega), rfl, fun w5 m5 g5 => ?_⟩
    have hi7 : 0 + (i : Int).toNat * 7 + 5 = i * 7 + 5 := by omega
    have hi8 : 0 + (i : Int).toNat * 7 + 6 = i * 7 + 6 := by omega
    have L5 := L4.set (f := rgA) (x' := (r, .slice ra' r.rows.length rc', .slice da dn dc)) (fun _ => rfl) hcur4 hx' (by decide) rfl m5 hi7 rfl rfl g5
    have R5 := (R4.base Gw).gbt g5 hcur4 (by decide) hg
    have m35 : w5.heap[b2]? = _ := g5.get (R4.gb.get m3 nofun) fun e => nb (Option.some.inj e).symm
    have D5 := ((hrg.2.kz Gw.kz (by decide)).kz R4.gb.kz (by decide)).gbt g5 hcur4 (by decide)
    refine ⟨_, _, m35, _, rfl, _, fresh_rep D5 (ones_map (fun _ => rfl) _) hb2, ?_⟩
    intro dv' w6 R6
    obtain ⟨da', dc', rfl⟩ := own_slice R6.own
    have hx6 : (rs.set i (r, Value.slice ra' r.rows.length rc', Value.slice da dn dc))[i]? = some (r, .slice ra' r.rows.length rc', .slice da dn dc) := by rw [set_get (by omega), if_pos rfl]
    have L6 := L5.gb0 R6.gb
    obtain ⟨g', cap', cur6, ev6, hg6, hcur6, hcut6, hsz6⟩ := L6.at (f := rgA) (fun _ => rfl) hx6
    injection ev6 with ea6 _ ec6
    injection ea6 with ea6
    injection ea6 with ea6
    subst ea6 ec6
    rw [List.length_set] at hsz6
    refine ⟨⟨by omega, by omega⟩, _, _, _, hcur6, okSt_one rfl rfl (by rw [Array.length_toList]; show 0 + (i : Int).toNat * 7 + 6 < _; omega), rfl, fun w7 m7 g7 => ?_⟩
    have L7 := L6.set (f := rgA) (x' := (r, .slice ra' r.rows.length rc', .slice da' r.dups.length dc')) (fun _ => rfl) hcur6 hx6 (by decide) rfl m7 hi8 rfl rfl g7
    rw [List.set_set] at L7
    have Rn : RgN w w7 (r, .slice ra' r.rows.length rc', .slice da' r.dups.length dc') := ⟨(R5.gb0 R6.gb).gbt g7 hcur6 (by decide) hg, (R6.base L5.gb).gbt g7 hcur6 (by decide) hg⟩
    have stay : ∀ x, RgN w wk x → RgN w w7 x := fun x h => ((((h.gb0 G3).gb0 R4.gb).gbt g5 hcur4 (by decide) (by decide) hg).gb0 R6.gb).gbt g7 hcur6 (by decide) (by decide) hg
    refine ⟨⟨by omega, by omega⟩, _, _, ⟨i + 1, rs.set i (r, .slice ra' r.rows.length rc', .slice da' r.dups.length dc'), rfl, by omega, rfl, by rw [List.length_set]; exact hlen, ?_, L7, fun j x hj hxj => ?_, fun j hj => ?_⟩, (sb rfl), by omega⟩
    · rw [List.map_set, hmap]
      refine List.ext_getElem? fun k => ?_
      rw [set_get (by rw [List.length_map]; exact d1)]
      split
      · rename_i h; subst h; rw [List.getElem?_map, hx]; rfl
      · rfl
    · rw [set_get (by omega)] at hxj
      split at hxj
      · cases hxj; exact Rn
      · exact stay x (hnew j x (by omega) hxj)
    · rw [set_get (by omega), if_neg (by omega)]
      exact hold j (by omega)
  · have d1 : i = ps.length := by have := of_decide_eq_false d; omega
    rw [← hlen] at d1
    refine ⟨rs, hmap, by rw [← hlen]; exact L, fun x hx => ?_⟩
    obtain ⟨j, hj, rfl⟩ := List.getElem_of_mem hx
    exact hnew j _ (by omega) (List.getElem?_eq_getElem hj)
/-- A lane with its queue's place and its ranges'. -/
abbrev La := Int × Value × List Ra
abbrev laA (l : La) : List Value := [.int .u32 l.1, l.2.1]
abbrev laC (l : La) : Int × List Rg := (l.1, l.2.2.map (·.1))
abbrev shC (s : St) (T M D O I : Value) : List Value := [.int .u8 s.g, .int .u8 s.n, T, M, D, O, I]
/-- The lists of a shard, all new since w0, those that may be written apart from one another. -/
structure SA (w0 w : World) (s : St) (T M D O I : Value) (ls : List La) : Prop where
  t : LN 128 2 w0 w T s.T.length (s.T.map Row.cells).flatten
  m : PN w0 w M s.M
  d : LN 57 7 w0 w D s.D.length (s.D.map Rep.cells).flatten
  o : LN 103 2 w0 w O ls.length (ls.map laA).flatten
  i : LN 47 1 w0 w I s.I.length (s.I.map fun i => Value.int .u32 i)
  q : ∀ l ∈ ls, QN w0 w l.2.1 l.2.2
  core : ls.map laC = s.O
  sT : ∀ l ∈ ls, ∀ x ∈ l.2.2, ∀ g, T.ownBlock = some g → x.2.1.ownBlock ≠ some g
  sD : ∀ l ∈ ls, ∀ x ∈ l.2.2, ∀ g, D.ownBlock = some g → x.2.2.ownBlock ≠ some g
  sQ : ∀ (i j : Nat) (l l' : La), i ≠ j → ls[i]? = some l → ls[j]? = some l' → ∀ g, l.2.1.ownBlock = some g → l'.2.1.ownBlock ≠ some g
/-- Sizes. -/
structure StS (s : St) : Prop where
  t : s.T.length ≤ 100000
  d : s.D.length ≤ 100000
  m : s.M.length ≤ 1000
  o : s.O.length ≤ 100
  i : s.I.length ≤ 100
  q : ∀ x ∈ s.O, x.2.length ≤ 100000 ∧ ∀ r ∈ x.2, r.rows.length ≤ 1000000 ∧ r.dups.length ≤ 1000000
theorem ShIn.la {w : World} {vT vM vD vO vI : Value} {s : St} (h : ShIn w vT vM vD vO vI s) : ∃ ps : List La, ps.length = s.O.length ∧ Fz w 103 2 vO ps.length (ps.map laA).flatten ∧ (∀ (j : Nat) (l : La), ps[j]? = some l → ∃ o, s.O[j]? = some o ∧ l.1 = o.1 ∧ QIn w l.2.1 o.2) := by
  obtain ⟨qs, h1, h2, h3⟩ := h.O
  have hl : (List.zipWith (fun (o : Int × List Rg) q => ((o.1, q, []) : La)) s.O qs).length = s.O.length := by rw [List.length_zipWith]; omega
  refine ⟨List.zipWith (fun (o : Int × List Rg) q => ((o.1, q, []) : La)) s.O qs, hl, ?_, fun j l hj => ?_⟩
  · rw [hl, List.map_zipWith]; exact h2
  · rw [List.getElem?_zipWith] at hj
    cases ho : s.O[j]? with
    | none => rw [ho] at hj; simp at hj
    | some o =>
      cases hq : qs[j]? with
      | none => rw [ho, hq] at hj; simp at hj
      | some q =>
        rw [ho, hq] at hj
        simp at hj
        subst hj
        exact ⟨o, rfl, rfl, h3 j o q ho hq⟩
theorem la_ones {w : World} {ps : List La} (h : ∀ l ∈ ps, ∃ rs, QIn w l.2.1 rs) : (ps.map laA).flatten.all one = true := by
  induction ps with
  | nil => rfl
  | cons x l ih =>
    rw [List.map_cons, List.flatten_cons, List.all_append, ih fun y hy => h y (List.mem_cons_of_mem _ hy), Bool.and_true]
    obtain ⟨n, q, rs⟩ := x
    obtain ⟨rs', vs, _, ⟨a, c, e, _⟩, _⟩ := h _ List.mem_cons_self
    have e : q = _ := e
    subst e
    rfl
theorem zip_map' {α β γ : Type} (f : α → β → γ) : ∀ l : List (α × β), List.zipWith f (l.map (·.1)) (l.map (·.2)) = l.map fun x => f x.1 x.2
  | [] => rfl
  | _ :: l => by simp only [List.map_cons, List.zipWith_cons_cons, zip_map' f l]
section
variable {w0 w w' : World} {s : St} {T M D O I : Value} {ls : List La}
theorem SA.gb0 (h : SA w0 w s T M D O I ls) (g : GB none w w') : SA w0 w' s T M D O I ls := ⟨h.t.gb0 g, h.m.gb0 g, h.d.gb0 g, h.o.gb0 g, h.i.gb0 g, fun l hl => (h.q l hl).gb0 g, h.core, h.sT, h.sD, h.sQ⟩
theorem SA.gbt (h : SA w0 w s T M D O I ls) {x t : Nat} {c : Array Value} (g : GB (some x) w w') (hx : w.heap[x]? = some (.cells c t)) (h1 : t ≠ 128) (h2 : t ≠ 57) (h3 : t ≠ 52) (h4 : t ≠ 107) (h5 : t ≠ 103) (h6 : t ≠ 47) (hn : w0.heap.size ≤ x) : SA w0 w' s T M D O I ls := ⟨h.t.gbt g hx h1 hn, h.m.gbt g hx h4 hn, h.d.gbt g hx h2 hn, h.o.gbt g hx h5 hn, h.i.gbt g hx h6 hn, fun l hl => (h.q l hl).gbt g hx h1 h2 h3 hn, h.core, h.sT, h.sD, h.sQ⟩
theorem Fz.over {e size n : Nat} {v : Value} {xs : List Value} (h : LN e size w0 w v n xs) (k : ∀ x, w0.heap.size ≤ x → x < w.heap.size → w'.heap[x]? = w.heap[x]?) : Fz w' e size v n xs := own_fz (owns_rely h.own fun x hx => by obtain ⟨c, hc⟩ := own_obj h.own hx; exact k x (h.new x hx) (lt_heap hc))
theorem QN.over {q : Value} {rs : List Ra} (h : QN w0 w q rs) (k : ∀ x, w0.heap.size ≤ x → x < w.heap.size → w'.heap[x]? = w.heap[x]?) : QIn w' q (rs.map (·.1)) := by
  refine ⟨rs.map (·.2), by simp, ?_, fun i x p hx hp => ?_⟩
  · rw [zip_map' (fun r (p : Value × Value) => rgC r p.1 p.2), List.length_map]
    exact Fz.over h.q k
  · rw [List.getElem?_map] at hx hp
    cases ha : rs[i]? with
    | none => rw [ha] at hx; cases hx
    | some y =>
      rw [ha] at hx hp
      cases hx; cases hp
      have := h.r y (List.mem_of_getElem? ha)
      exact ⟨Fz.over this.r k, Fz.over this.d k⟩
/-- In every world that has the same new blocks. -/
theorem SA.over (h : SA w0 w s T M D O I ls) (k : ∀ x, w0.heap.size ≤ x → x < w.heap.size → w'.heap[x]? = w.heap[x]?) : ShIn w' T M D O I s := by
  have hO := h.core
  refine ⟨Fz.over h.t k, Fz.over h.m k, Fz.over h.d k, ⟨ls.map (·.2.1), by rw [← hO]; simp, ?_, fun i o q ho hq => ?_⟩, Fz.over h.i k⟩
  · have e : List.zipWith (fun (o : Int × List Rg) q => [Value.int .u32 o.1, q]) s.O (ls.map (·.2.1)) = ls.map laA := by
      rw [← hO]
      clear hO h
      induction ls with
      | nil => rfl
      | cons x l ih => rw [List.map_cons, List.map_cons, List.zipWith_cons_cons, ih]; rfl
    rw [e, ← hO, List.length_map]
    exact Fz.over h.o k
  · rw [← hO, List.getElem?_map] at ho
    rw [List.getElem?_map] at hq
    cases hl : ls[i]? with
    | none => rw [hl] at ho; cases ho
    | some l =>
      rw [hl] at ho hq
      cases ho; cases hq
      exact QN.over (h.q l (List.mem_of_getElem? hl)) k
end
theorem QN.base {wb w0 w : World} {q : Value} {rs : List Ra} (h : QN w0 w q rs) (g : GB none wb w0) : QN wb w q rs := ⟨h.q.base g, fun x hx => ⟨(h.r x hx).r.base g, (h.r x hx).d.base g⟩⟩
theorem LN.lt {e size n : Nat} {w0 w : World} {v : Value} {xs : List Value} (h : LN e size w0 w v n xs) {g : Nat} (hg : v.ownBlock = some g) : g < w.heap.size := by
  obtain ⟨c, hc⟩ := own_obj h.own hg
  exact lt_heap hc
theorem fresh_ok {w : World} {s : St} {vT vM vD vO vI : Value} (h : ShIn w vT vM vD vO vI s) (hs : StS s) : CY 42 #[.agg (shC s vT vM vD vO vI).toArray] w (fun v w' => ∃ T M D O I ls, v = .agg (shC s T M D O I).toArray ∧ SA w w' s T M D O I ls) := by
  obtain ⟨ps, hpl, hpf, hpq⟩ := h.la
  have hT := h.T
  have hM := h.M
  have hD := h.D
  have hI := h.I
  obtain ⟨ta, tc, rfl, hT'⟩ := h.T
  obtain ⟨ma, mc, rfl, hM'⟩ := h.M
  obtain ⟨da, dc, rfl, hD'⟩ := h.D
  obtain ⟨ia, ic, rfl, hI'⟩ := h.I
  obtain ⟨oa, oc, rfl, hO'⟩ := hpf
  have hpf : Fz w 103 2 (.slice oa ps.length oc) ps.length (ps.map laA).flatten := ⟨oa, oc, rfl, hO'⟩
  refine callE Tryz.func42 rfl rfl ?_
  refine fun w1 b1 m1 g1 l1 w2 b2 m2 g2 l2 => ?_
  have m1 := g2.get m1 nofun
  have G := g1.trans g2
  have G0 := G
  have n2 : w.heap.size ≤ b2 := Nat.le_trans g1.size l2
  have ne : b1 ≠ b2 := by have := lt_heap m1; have := g2.size; intro e; subst e; rename_i m1o _; have := lt_heap m1o; omega
  refine ⟨_, _, m1, _, rfl, _, fresh_row (hT.kz G.kz (by decide)) (ones_map (fun _ => rfl) _) (Nat.le_trans hs.t (by decide)), ?_⟩
  intro T w3 LT
  obtain ⟨Ta, Tc, rfl⟩ := own_slice LT.own
  replace m1 := LT.gb.get m1 nofun
  replace m2 := LT.gb.get m2 nofun
  refine ⟨_, _, _, m1, rfl, rfl, fun w4 m3 g3 => ?_⟩
  replace m2 := g3.get m2 fun e => ne (Option.some.inj e).symm
  replace G := (G.trans LT.gb).new g3 l1
  replace LT := (LT.base G0).gbt g3 m1 (by decide) l1
  replace m1 := m3
  have G0 := G
  refine ⟨_, _, m1, _, rfl, _, fresh_pc (hM.kz G.kz (by decide)) (ones_map (fun _ => rfl) _) (Nat.le_trans hs.m (by decide)), ?_⟩
  intro M w3 LM
  obtain ⟨Ma, Mc, rfl⟩ := own_slice LM.own
  replace m1 := LM.gb.get m1 nofun
  replace m2 := LM.gb.get m2 nofun
  replace LT := LT.gb0 LM.gb
  refine ⟨_, _, _, m1, rfl, rfl, fun w4 m3 g3 => ?_⟩
  replace LT := LT.gbt g3 m1 (by decide) l1
  replace m2 := g3.get m2 fun e => ne (Option.some.inj e).symm
  replace G := (G.trans LM.gb).new g3 l1
  replace LM := (LM.base G0).gbt g3 m1 (by decide) l1
  replace m1 := m3
  have G0 := G
  refine ⟨_, _, m1, _, rfl, _, fresh_rep (hD.kz G.kz (by decide)) (ones_map (fun _ => rfl) _) (Nat.le_trans hs.d (by decide)), ?_⟩
  intro D w3 LD
  obtain ⟨Da, Dc, rfl⟩ := own_slice LD.own
  replace m1 := LD.gb.get m1 nofun
  replace m2 := LD.gb.get m2 nofun
  replace LT := LT.gb0 LD.gb
  replace LM := LM.gb0 LD.gb
  refine ⟨_, _, _, m1, rfl, rfl, fun w4 m3 g3 => ?_⟩
  replace LT := LT.gbt g3 m1 (by decide) l1
  replace LM := LM.gbt g3 m1 (by decide) l1
  replace m2 := g3.get m2 fun e => ne (Option.some.inj e).symm
  replace G := (G.trans LD.gb).new g3 l1
  replace LD := (LD.base G0).gbt g3 m1 (by decide) l1
  replace m1 := m3
  have G0 := G
  refine ⟨_, _, m1, _, rfl, _, fresh_num (hI.kz G.kz (by decide)) (by simp [List.all_map, one]) (Nat.le_trans hs.i (by decide)), ?_⟩
  intro I w3 LI
  obtain ⟨Ia, Ic, rfl⟩ := own_slice LI.own
  replace m1 := LI.gb.get m1 nofun
  replace m2 := LI.gb.get m2 nofun
  replace LT := LT.gb0 LI.gb
  replace LM := LM.gb0 LI.gb
  replace LD := LD.gb0 LI.gb
  refine ⟨_, _, _, m1, rfl, rfl, fun w4 m3 g3 => ?_⟩
  replace LT := LT.gbt g3 m1 (by decide) l1
  replace LM := LM.gbt g3 m1 (by decide) l1
  replace LD := LD.gbt g3 m1 (by decide) l1
  replace m2 := g3.get m2 fun e => ne (Option.some.inj e).symm
  replace G := (G.trans LI.gb).new g3 l1
  replace LI := (LI.base G0).gbt g3 m1 (by decide) l1
  replace m1 := m3
  have G0 := G
  refine ⟨_, _, m1, _, rfl, _, fresh_lane (hpf.kz G.kz (by decide)) (la_ones fun l hl => by obtain ⟨j, hj⟩ := List.getElem?_of_mem hl; obtain ⟨o, _, _, q⟩ := hpq j l hj; exact ⟨_, q⟩) (by have := hs.o; omega), ?_⟩
  intro O w3 LO
  obtain ⟨Oa, Oc, rfl⟩ := own_slice LO.own
  replace m1 := LO.gb.get m1 nofun
  replace m2 := LO.gb.get m2 nofun
  replace LT := LT.gb0 LO.gb
  replace LM := LM.gb0 LO.gb
  replace LD := LD.gb0 LO.gb
  replace LI := LI.gb0 LO.gb
  refine ⟨_, _, _, m1, rfl, rfl, fun w4 m3 g3 => ?_⟩
  replace LT := LT.gbt g3 m1 (by decide) l1
  replace LM := LM.gbt g3 m1 (by decide) l1
  replace LD := LD.gbt g3 m1 (by decide) l1
  replace LI := LI.gbt g3 m1 (by decide) l1
  replace m2 := g3.get m2 fun e => ne (Option.some.inj e).symm
  replace G := (G.trans LO.gb).new g3 l1
  replace LO := (LO.base G0).gbt g3 m1 (by decide) l1
  replace m1 := m3
  have G0 := G
  replace m1 : Hl w4 b1 (shC s (.slice Ta s.T.length Tc) (.slice Ma s.M.length Mc) (.slice Da s.D.length Dc) (.slice Oa ps.length Oc) (.slice Ia s.I.length Ic)) 31 := m1
  have ho100 := hs.o
  clear hT' hM' hD' hI' hO' hT hM hD hI hpf m3 g3
  generalize Value.slice Ta s.T.length Tc = T at *
  generalize Value.slice Ma s.M.length Mc = M at *
  generalize Value.slice Da s.D.length Dc = D at *
  generalize Value.slice Ia s.I.length Ic = I at *
  refine ⟨_, _, m1, _, rfl, ?_⟩
  refine ⟨fun n t wk => ∃ (i : Nat) (ls : List La), n = ps.length - i ∧ i ≤ ps.length ∧ t = [(1, .pointer (some ⟨b1, 0, none⟩)), (2, .pointer (some ⟨b2, 0, none⟩)), (26, .slice Oa ps.length Oc), (27, .int .i64 ps.length), (28, .int .i64 i)] ∧ Hl wk b1 (shC s T M D (.slice Oa ps.length Oc) I) 31 ∧ Hl wk b2 (zc eng.T 31) 31 ∧ LN 128 2 w wk T s.T.length (s.T.map Row.cells).flatten ∧ PN w wk M s.M ∧ LN 57 7 w wk D s.D.length (s.D.map Rep.cells).flatten ∧ LN 47 1 w wk I s.I.length (s.I.map fun i => Value.int .u32 i) ∧ ls.length = ps.length ∧ LN 103 2 w wk (.slice Oa ls.length Oc) ls.length (ls.map laA).flatten ∧ (∀ (j : Nat) (l : La), j < i → ls[j]? = some l → QN w wk l.2.1 l.2.2 ∧ s.O[j]? = some (laC l) ∧ (∀ x ∈ l.2.2, ∀ g, T.ownBlock = some g → x.2.1.ownBlock ≠ some g) ∧ (∀ x ∈ l.2.2, ∀ g, D.ownBlock = some g → x.2.2.ownBlock ≠ some g)) ∧ (∀ j, i ≤ j → ls[j]? = ps[j]?) ∧ (∀ (j k : Nat) (l l' : La), j < k → k < i → ls[j]? = some l → ls[k]? = some l' → ∀ g, l.2.1.ownBlock = some g → l'.2.1.ownBlock ≠ some g), ⟨_, _, ⟨0, ps, rfl, Nat.zero_le _, rfl, m1, m2, LT, LM, LD, LI, rfl, LO, fun _ _ h => by omega, fun _ _ => rfl, fun _ _ _ _ _ h => by omega⟩, sb rfl⟩, ?_⟩
  clear m1 m2 LT LM LD LI LO G
  rintro n t wk ⟨i, ls, rfl, hi, rfl, m1, m2, LT, LM, LD, LI, hlen, LO, hnew, hold, hsep⟩
  refine spl (fun d => ?_) (fun d => ?_)
  · have d1 : i < ps.length := by have := of_decide_eq_true d; omega
    obtain ⟨⟨nx, q, rs0⟩, hx⟩ : ∃ x, ps[i]? = some x := ⟨ps[i], by simp [d1]⟩
    have hx' : ls[i]? = some (nx, q, rs0) := (hold i (Nat.le_refl _)).trans hx
    obtain ⟨o, ho, e1, hq⟩ := hpq i _ hx
    obtain ⟨hq1, hq2⟩ := hs.q o (List.mem_of_getElem? ho)
    have hq0 := hq
    obtain ⟨_, _, ⟨qa, qc, eq, _⟩, _⟩ := hq0
    have eq : q = _ := eq
    subst eq
    obtain ⟨g, cap, cur, ev, hg, hcur, hcut, hsz⟩ := LO.at (f := laA) (fun _ => rfl) hx'
    injection ev with ea _ ec
    subst ea ec
    refine ⟨⟨by omega, by omega⟩, _, _, hcur, [.int .u32 nx, .slice qa o.2.length qc], hcut, rfl, fun w2 b3 m3 g3 l3 => ⟨_, _, _, m3, rfl, rfl, fun w3 m4 g4 => ?_⟩⟩
    have G3 := g3.new g4 l3
    have kb1 := lt_heap m1
    replace m1 := G3.get m1 nofun
    replace m2 := G3.get m2 nofun
    refine ⟨by kernel_rfl, _, _, m1, _, rfl, _, _, m4, _, rfl, _, freshQ_ok (hq.kz (LO.gb.trans G3).kz) hq1 hq2, ?_⟩
    rintro q' w5 ⟨rs, hrs, Q5⟩
    obtain ⟨qa', qc', rfl⟩ := own_slice Q5.q.own
    have G5 := G3.trans Q5.q.gb
    have hcur5 := G5.get hcur nofun
    refine ⟨⟨Q5.q.gb.get m4 nofun, Q5.q.gb.get m1 nofun, trivial⟩, ⟨by omega, by omega⟩, _, _, _, hcur5, okSt_one rfl rfl (by rw [Array.length_toList]; show 0 + (i : Int).toNat * 2 + 1 < _; omega), rfl, fun w6 m6 g6 => ?_⟩
    have L6 := (LO.gb0 G5).set (f := laA) (j := 1) (x' := (nx, .slice qa' rs.length qc', rs)) (fun _ => rfl) hcur5 hx' (by decide) rfl m6 (by show 0 + (i : Int).toNat * 2 + 1 = _; omega) rfl rfl g6
    have Q6 := (Q5.base (LO.gb.trans G3)).gbt g6 hcur5 (by decide) (by decide) (by decide) hg
    have hsz3 := G3.size
    have hcore : s.O[i]? = some (laC (nx, Value.slice qa' rs.length qc', rs)) := by
      rw [ho]
      show some o = some (nx, rs.map (·.1))
      rw [hrs, show nx = o.1 from e1]
    refine ⟨⟨by omega, by omega⟩, _, _, ⟨i + 1, ls.set i (nx, .slice qa' rs.length qc', rs), rfl, by omega, rfl, g6.get (Q5.q.gb.get m1 nofun) fun e => ne_ty (Q5.q.gb.get m1 nofun) hcur5 (by decide) (Option.some.inj e), g6.get (Q5.q.gb.get m2 nofun) fun e => ne_ty (Q5.q.gb.get m2 nofun) hcur5 (by decide) (Option.some.inj e), (LT.gb0 G5).gbt g6 hcur5 (by decide) hg, (LM.gb0 G5).gbt g6 hcur5 (by decide) hg, (LD.gb0 G5).gbt g6 hcur5 (by decide) hg, (LI.gb0 G5).gbt g6 hcur5 (by decide) hg, by rw [List.length_set]; exact hlen, L6, fun j l hj hl => ?_, fun j hj => ?_, fun j k l l' hjk hk hl hl' gg hgg => ?_⟩, (sb rfl), by omega⟩
    · rw [set_get (by omega)] at hl
      split at hl
      · rename_i e
        subst e
        cases hl
        refine ⟨Q6, hcore, fun x hx gg hgg he => ?_, fun x hx gg hgg he => ?_⟩
        · have a1 := LT.lt hgg
          have a2 := (Q5.r x hx).r.new gg he
          omega
        · have a1 := LD.lt hgg
          have a2 := (Q5.r x hx).d.new gg he
          omega
      · obtain ⟨a1, a2, a3, a4⟩ := hnew j l (by omega) hl
        exact ⟨(a1.gb0 G5).gbt g6 hcur5 (by decide) (by decide) (by decide) hg, a2, a3, a4⟩
    · rw [set_get (by omega), if_neg (by omega)]
      exact hold j (by omega)
    · rw [set_get (by omega), if_neg (by omega)] at hl
      rw [set_get (by omega)] at hl'
      split at hl'
      · cases hl'
        intro he
        have a1 := (hnew j l (by omega) hl).1.q.lt hgg
        have a2 := Q5.q.new gg he
        omega
      · exact hsep j k l l' hjk (by omega) hl hl' gg hgg
  · have d1 : i = ps.length := by have := of_decide_eq_false d; omega
    rw [← hlen] at d1
    obtain ⟨Ta', Tc', rfl⟩ := own_slice LT.own
    obtain ⟨Ma', Mc', rfl⟩ := own_slice LM.own
    obtain ⟨Da', Dc', rfl⟩ := own_slice LD.own
    obtain ⟨Ia', Ic', rfl⟩ := own_slice LI.own
    refine ⟨_, _, m1, shC s (.slice Ta' s.T.length Tc') (.slice Ma' s.M.length Mc') (.slice Da' s.D.length Dc') (.slice Oa ps.length Oc) (.slice Ia' s.I.length Ic'), rfl, rfl, _, _, _, m2, rfl, rfl, fun w5 m5 g5 => ?_⟩
    refine ⟨_, _, m5, shC s (.slice Ta' s.T.length Tc') (.slice Ma' s.M.length Mc') (.slice Da' s.D.length Dc') (.slice Oa ps.length Oc) (.slice Ia' s.I.length Ic'), rfl, rfl, _, _, _, _, _, ls, rfl, ?_⟩
    have S : SA w wk s (.slice Ta' s.T.length Tc') (.slice Ma' s.M.length Mc') (.slice Da' s.D.length Dc') (.slice Oa ps.length Oc) (.slice Ia' s.I.length Ic') ls := by
      have hal : ∀ l ∈ ls, ∃ j, j < i ∧ ls[j]? = some l := fun l hl => by
        obtain ⟨j, hj⟩ := List.getElem?_of_mem hl
        exact ⟨j, by have := (List.getElem?_eq_some_iff.1 hj).1; omega, hj⟩
      refine ⟨LT, LM, LD, by rw [← hlen]; exact LO, LI, fun l hl => ?_, ?_, fun l hl => ?_, fun l hl => ?_, fun j k l l' hjk hl hl' => ?_⟩
      · obtain ⟨j, hj, hl⟩ := hal l hl
        exact (hnew j l hj hl).1
      · refine List.ext_getElem? fun j => ?_
        rw [List.getElem?_map]
        cases hj : ls[j]? with
        | none =>
          have := List.getElem?_eq_none_iff.1 hj
          rw [List.getElem?_eq_none (by omega)]; rfl
        | some l => rw [(hnew j l (by have := (List.getElem?_eq_some_iff.1 hj).1; omega) hj).2.1]; rfl
      · obtain ⟨j, hj, hl⟩ := hal l hl
        exact (hnew j l hj hl).2.2.1
      · obtain ⟨j, hj, hl⟩ := hal l hl
        exact (hnew j l hj hl).2.2.2
      · have a1 := (List.getElem?_eq_some_iff.1 hl).1
        have a2 := (List.getElem?_eq_some_iff.1 hl').1
        intro gg hgg he
        rcases Nat.lt_or_gt_of_ne hjk with q | q
        · exact hsep j k l l' q (by omega) hl hl' gg hgg he
        · exact hsep k j l' l q (by omega) hl' hl gg he hgg
    exact S.gbt g5 m2 (by decide) (by decide) (by decide) (by decide) (by decide) (by decide) n2
end
end Go.Proofs.YtignemioillaiaaGreat
