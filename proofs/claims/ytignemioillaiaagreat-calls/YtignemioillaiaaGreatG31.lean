/- A replica at work (19): takeAck. -/
import Derived.Test.YtignemioillaiaaGreatG30
namespace Go.Proofs.YtignemioillaiaaGreat
set_option maxHeartbeats 8000000
set_option maxRecDepth 100000
section
open Go Go.Conc
def cSet (p s : Int) : MC := { zMC with kind := 3, peer := p, seq := s }
def mTAck (A : Apl) (R : MR) (p : Nat) (s : Int) : MR := if R.sc.role ≠ 2 then R else match (R.st.O.getD p (0, [])).2 with
  | [] => R
  | r :: _ => if r.seq ≤ s then mOffer A R (cSet p s) else R
theorem cutAt {cs : List Value} {off n d : Nat} {xs : List Value} (h : cutL cs off n = xs) {v : Value} (hv : xs[d]? = some v) (hd : d < n) : cs[off + d]? = some v := by
  rw [← h] at hv
  unfold cutL at hv
  rw [List.getElem?_take, if_pos hd, List.getElem?_drop] at hv
  exact hv
theorem flat_at {xss : List (List Value)} {size : Nat} (hs : ∀ x ∈ xss, x.length = size) {k d : Nat} {x : List Value} {v : Value} (hx : xss[k]? = some x) (hv : x[d]? = some v) : xss.flatten[k * size + d]? = some v := by
  induction xss generalizing k with
  | nil => simp at hx
  | cons y r ih =>
    have hy := hs y (List.mem_cons_self ..)
    cases k with
    | zero =>
      simp only [List.getElem?_cons_zero, Option.some.injEq] at hx
      subst hx
      have hd : d < y.length := (List.getElem?_eq_some_iff.1 hv).1
      rw [Nat.zero_mul, Nat.zero_add, List.flatten_cons, List.getElem?_append_left hd]
      exact hv
    | succ k =>
      rw [List.flatten_cons, List.getElem?_append_right (by rw [hy, Nat.succ_mul]; omega), hy, show (k + 1) * size + d - size = k * size + d by rw [Nat.succ_mul]; omega]
      exact ih (fun x hx => hs x (List.mem_cons_of_mem _ hx)) hx
theorem lane_at {w : World} {vO : Value} {O : List (Int × List Rg)} (h : ∃ qs : List Value, qs.length = O.length ∧ Fz w 103 2 vO O.length (List.zipWith (fun (o : Int × List Rg) q => [Value.int .u32 o.1, q]) O qs).flatten ∧ ∀ (i : Nat) (o : Int × List Rg) (q : Value), O[i]? = some o → qs[i]? = some q → QIn w q o.2) {p : Nat} (hp : p < O.length) : ∃ b off cap cs q, vO = .slice (some ⟨b, off, none⟩) O.length cap ∧ O.length ≤ cap ∧ w.heap[b]? = some (.cells cs 103) ∧ cs.toList[off + (p * 2 + 1)]? = some q ∧ QIn w q (O.getD p (0, [])).2 := by
  obtain ⟨qs, h1, ⟨a, c, rfl, h3, h4, h5⟩, h6⟩ := h
  rcases h5 with ⟨_, h0⟩ | ⟨b, off, cs, rfl, hb, hcut⟩
  · omega
  obtain ⟨o, ho⟩ : ∃ o, O[p]? = some o := ⟨O[p], by simp [hp]⟩
  obtain ⟨q, hq⟩ : ∃ q, qs[p]? = some q := ⟨qs[p], by simp [h1, hp]⟩
  refine ⟨b, off, c, cs, q, rfl, h3, hb, cutAt hcut (d := p * 2 + 1) (flat_at (size := 2) (x := [.int .u32 o.1, q]) ?_ ?_ rfl) (by omega), ?_⟩
  · intro x hx
    obtain ⟨i, hi⟩ := List.mem_iff_getElem?.1 hx
    rw [List.getElem?_zipWith] at hi
    cases e1 : O[i]? <;> cases e2 : qs[i]? <;> rw [e1, e2] at hi <;> cases hi
    rfl
  · rw [List.getElem?_zipWith, ho, hq]
  · rw [List.getD_eq_getElem?_getD, ho]
    exact h6 p o q ho hq
/-- The first of a lane. -/
theorem QIn.hd {w : World} {q : Value} {r : Rg} {rs : List Rg} (h : QIn w q (r :: rs)) : ∃ b off cap cs rv dv, q = .slice (some ⟨b, off, none⟩) (rs.length + 1) cap ∧ rs.length + 1 ≤ cap ∧ w.heap[b]? = some (.cells cs 52) ∧ cutL cs.toList off 7 = rgC r rv dv ∧ RgIn w r rv dv := by
  obtain ⟨vs, h1, ⟨a, c, h2, h3, h4, h5⟩, h6⟩ := h
  obtain ⟨p, ps, rfl⟩ : ∃ p ps, vs = p :: ps := by cases vs with | nil => simp at h1 | cons p ps => exact ⟨p, ps, rfl⟩
  rcases h5 with ⟨_, h0⟩ | ⟨b, off, cs, rfl, hb, hcut⟩
  · simp at h0
  refine ⟨b, off, c, cs, p.1, p.2, h2, h3, hb, ?_, h6 0 r p rfl rfl⟩
  have := cut_cut cs.toList off ((r :: rs).length * 7) 0 7 (by simp; omega)
  rw [hcut] at this
  rw [Nat.add_zero] at this
  rw [← this]
  rfl
section
variable {A : Apl} (HA : AplOK A) {Λ : Snp} {w : World} {br : Nat} {R : MR}
include HA
theorem tack_ok (h : Wk Λ br R w) (ho : Ok A R) {p : Nat} (hp : p < R.st.O.length) {s : Int} (hgc : A.gc (cSet p s)) (hb : R.out.length ≤ 870000) : CY 122 #[.pointer (some ⟨br, 0, none⟩), .int .u8 p, .int .u32 s] w (fun v w' => v = .tuple #[] ∧ Wk Λ br (mTAck A R p s) w' ∧ Kz w w') := by
  have h0 := h
  obtain ⟨a, h⟩ := h
  obtain ⟨vm, wm, kn, mt, pp, ac, lg, ob, sT, sM, sD, sO, sI⟩ := a
  obtain ⟨B, off, cap, cs, q, rfl, hcap, hB, hq, hQ⟩ := lane_at h.ri.st.O hp
  refine callE Tryz.func122 rfl rfl ?_
  refine ⟨_, _, h.ri.mem, _, rfl, spl (fun c => ?_) (fun c => ?_)⟩
  · have c1 : R.sc.role ≠ 2 := by simp at c; omega
    have em : mTAck A R p s = R := if_pos c1
    rw [em]
    exact ⟨rfl, h0, Kz.refl _⟩
  have c1 : ¬ R.sc.role ≠ 2 := by simp at c; omega
  have em : mTAck A R p s = match (R.st.O.getD p (0, [])).2 with
    | [] => R
    | r :: _ => if r.seq ≤ s then mOffer A R (cSet p s) else R := if_neg c1
  refine ⟨_, _, h.ri.mem, _, rfl, ⟨by omega, by omega⟩, _, _, hB, q, hq, ?_⟩
  cases hl : (R.st.O.getD p (0, [])).2 with
  | nil =>
    rw [hl] at em hQ
    obtain ⟨_, _, ⟨qa, qc, rfl, _⟩, _⟩ := hQ
    rw [em]
    exact ⟨rfl, h0, Kz.refl _⟩
  | cons r rs =>
    rw [hl] at em hQ
    obtain ⟨b, o, qc, cq, rv, dv, rfl, hqc, hbq, hcut, hr⟩ := hQ.hd
    have hsq : cq.toList[o + 2]? = some (.int .u32 r.seq) := cutAt hcut (d := 2) rfl (by decide)
    refine spl (fun d => ?_) (fun d => ?_)
    · refine ⟨⟨by omega, by omega⟩, _, _, hbq, _, hsq, spl (fun e => ?_) (fun e => ?_)⟩
      · have e1 : r.seq ≤ s := by simpa using e
        rw [em.trans (if_pos e1)]
        refine ⟨_, offer_ok HA h0 ho hgc (c := cSet p s) ⟨_, _, rfl, RgIn.zero _⟩ hb, ?_⟩
        rintro _ w4 ⟨rfl, h4, k4⟩
        exact ⟨rfl, h4, k4⟩
      · have e1 : ¬ r.seq ≤ s := by simpa using e
        rw [em.trans (if_neg e1)]
        exact ⟨rfl, h0, Kz.refl _⟩
    · exfalso; simp at d
end
def mNext (f : Nat → Option MV) (n0 : Nat) : Nat := (List.range 60).foldl (fun a k => if (f k).isSome = true then max a (k + 1) else a) n0
theorem fold_next (f : Nat → Option MV) : ∀ (l : List Nat) (n0 : Nat), n0 ≤ l.foldl (fun a k => if (f k).isSome = true then max a (k + 1) else a) n0 ∧ (∀ k ∈ l, (f k).isSome = true → k + 1 ≤ l.foldl (fun a k => if (f k).isSome = true then max a (k + 1) else a) n0) ∧ (l.foldl (fun a k => if (f k).isSome = true then max a (k + 1) else a) n0 = n0 ∨ ∃ k ∈ l, (f k).isSome = true ∧ l.foldl (fun a k => if (f k).isSome = true then max a (k + 1) else a) n0 = k + 1)
  | [], n0 => ⟨Nat.le_refl _, fun k h => (by cases h), .inl rfl⟩
  | x :: l, n0 => by
    obtain ⟨h1, h2, h3⟩ := fold_next f l (if (f x).isSome = true then max n0 (x + 1) else n0)
    rw [List.foldl_cons]
    refine ⟨?_, ?_, ?_⟩
    · refine Nat.le_trans ?_ h1
      split <;> omega
    · intro k hk hs
      rcases List.mem_cons.1 hk with rfl | hk
      · refine Nat.le_trans ?_ h1
        rw [if_pos hs]; omega
      · exact h2 k hk hs
    · rcases h3 with h3 | ⟨k, hk, hs, h3⟩
      · by_cases hx : (f x).isSome = true
        · rw [h3, if_pos hx]
          by_cases hm : n0 ≤ x + 1
          · exact .inr ⟨x, List.mem_cons_self .., hx, by omega⟩
          · exact .inl (by omega)
        · rw [h3, if_neg hx]; exact .inl rfl
      · exact .inr ⟨k, List.mem_cons_of_mem _ hk, hs, h3⟩
theorem mNext_eq {f : Nat → Option MV} {n0 n : Nat} (hk : ∀ k v, f k = some v → k < 60) (h1 : n0 ≤ n) (h2 : ∀ k v, f k = some v → k + 1 ≤ n) (h3 : n = n0 ∨ ∃ k v, f k = some v ∧ n = k + 1) : mNext f n0 = n := by
  obtain ⟨g1, g2, g3⟩ := fold_next f (List.range 60) n0
  refine Nat.le_antisymm ?_ ?_
  · rcases g3 with g3 | ⟨k, _, hs, g3⟩
    · unfold mNext; omega
    · obtain ⟨v, hv⟩ := Option.isSome_iff_exists.1 hs
      have := h2 k v hv
      unfold mNext; omega
  · rcases h3 with h3 | ⟨k, v, hv, h3⟩
    · unfold mNext; omega
    · have := g2 k (List.mem_range.2 (hk k v hv)) (by rw [hv]; rfl)
      unfold mNext; omega
def mLead2 (A : Apl) : Nat → Nat → MR → MR
  | 0, _, R => R
  | n + 1, s, R => if s < R.sc.next then mLead2 A n (s + 1) (if (R.known s).isSome = true then R else mProp A R s (((R.met s).map MV.c).getD zMC)) else R
def mLead (A : Apl) (R : MR) : MR := { mLead2 A 61 R.log.length { R with sc := { R.sc with role := 2, next := mNext R.met R.log.length } } with met := fun _ => none }
theorem Wa.gbx {Λ : Snp} {w w' : World} {br : Nat} {R : MR} {a : RAd} (h : Wa Λ br R a w) {x : Nat} (g : GB (some x) w w') (hx : ¬ Own br a x) (hp : Λ.pr x = none) (hf : ∀ c t, w.heap[x]? ≠ some (.cells c t)) : Wa Λ br R a w' := by
  refine ⟨h.ri.keep (g.kzs fun c t _ => hf c t) fun y hy => g.block y (h.ri.lt hy) fun e => hx (by cases e; exact hy), fun b o hb => ⟨g.get (h.pr b o hb).1 fun e => (by cases e; rw [hp] at hb; cases hb), (h.pr b o hb).2⟩, g.os.trans h.os, g.out.trans h.out⟩
section
variable {A : Apl} (HA : AplOK A)
include HA
theorem Ok.lead2 : ∀ (n s : Nat) {R : MR}, Ok A R → Ok A (mLead2 A n s R) ∧ (mLead2 A n s R).out.length ≤ R.out.length + 315 * n ∧ (mLead2 A n s R).sc.i = R.sc.i ∧ (mLead2 A n s R).sc.sz = R.sc.sz
  | 0, s, R, h => ⟨h, by show R.out.length ≤ _; omega, rfl, rfl⟩
  | n + 1, s, R, h => by
    unfold mLead2
    have hnx := h.nx
    split
    · rename_i hs
      by_cases hk : (R.known s).isSome = true
      · rw [if_pos hk]
        obtain ⟨h1, h2, h3, h4⟩ := Ok.lead2 n (s + 1) h
        exact ⟨h1, by omega, h3, h4⟩
      · rw [if_neg hk]
        have hgc : A.gc (((R.met s).map MV.c).getD zMC) := by
          cases hm : R.met s with
          | none => exact HA.nop
          | some v => exact (h.mt _ _ hm).1
        obtain ⟨p1, p2, p3, p4⟩ := h.prop HA (s := s) (by omega) hgc
        obtain ⟨h1, h2, h3, h4⟩ := Ok.lead2 n (s + 1) p1
        exact ⟨h1, by omega, h3.trans p3, h4.trans p4⟩
    · exact ⟨h, by omega, rfl, rfl⟩
omit HA in
theorem mNext_le {R : MR} (ho : Ok A R) : R.log.length ≤ mNext R.met R.log.length ∧ mNext R.met R.log.length ≤ 60 := by
  obtain ⟨g1, g2, g3⟩ := fold_next R.met (List.range 60) R.log.length
  have := ho.lg
  refine ⟨g1, ?_⟩
  rcases g3 with g3 | ⟨k, hk, _, g3⟩
  · unfold mNext; omega
  · have := List.mem_range.1 hk; unfold mNext; omega
omit HA in
theorem Ok.lead0 {R : MR} (ho : Ok A R) : Ok A { R with sc := { R.sc with role := 2, next := mNext R.met R.log.length } } := ⟨ho.sz, ho.i, ho.st, ho.kn, ho.pp, ho.vt, ho.wv, ho.mt, ho.ac, ho.pr, ho.lg, ho.lc, (mNext_le ho).2, ho.sn⟩
omit HA in
theorem Ok.met0 {R : MR} (ho : Ok A R) : Ok A { R with met := fun _ => none } := ⟨ho.sz, ho.i, ho.st, ho.kn, ho.pp, ho.vt, ho.wv, fun _ _ h => (by cases h), ho.ac, ho.pr, ho.lg, ho.lc, ho.nx, ho.sn⟩
theorem Ok.lead {R : MR} (ho : Ok A R) : Ok A (mLead A R) ∧ (mLead A R).out.length ≤ R.out.length + 20000 ∧ (mLead A R).sc.i = R.sc.i ∧ (mLead A R).sc.sz = R.sc.sz := by
  obtain ⟨h1, h2, h3, h4⟩ := Ok.lead2 HA 61 R.log.length ho.lead0
  exact ⟨h1.met0, by unfold mLead; exact Nat.le_trans h2 (by show R.out.length + _ ≤ _; omega), h3, h4⟩
end
theorem ItE.nodup {w : World} {it m : Nat} {l todo : List (Int × Value)} {cur : Option (Int × Value)} (h : ItE w it m l todo cur) : (l.map Prod.fst).Nodup := by
  obtain ⟨_, _, _, _, _, _, _, _, _, _, _, _, _, h, _⟩ := h
  exact h
theorem ItE.it {w : World} {it m : Nat} {l todo : List (Int × Value)} {cur : Option (Int × Value)} (h : ItE w it m l todo cur) : ∃ m' a b c, w.heap[it]? = some (.mapIter m' a b c) := by
  obtain ⟨_, _, _, _, _, _, _, _, _, _, _, h, _⟩ := h
  exact ⟨_, _, _, _, h⟩
/-- What a walk over a map meets. -/
theorem MapG.walk {α : Type} {rel : World → Value → α → Prop} {w : World} {m : Nat} {g : Nat → Option α} (hg : MapG rel w m g) : ∃ l, MapL w m l ∧ ((l.map Prod.fst).Nodup → (∀ p ∈ l, ∃ (k : Nat) (d : α), p.1 = k ∧ g k = some d ∧ rel w p.2 d) ∧ ∀ k d, g k = some d → ∃ v, ((k : Int), v) ∈ l ∧ rel w v d) := by
  obtain ⟨f, ⟨l, hl, hlf⟩, e2, e3⟩ := hg
  refine ⟨l, hl, fun hn => ⟨?_, ?_⟩⟩
  · intro p hp
    have h1 : f p.1 = some p.2 := by rw [← hlf]; exact (lookL_iff hn).2 hp
    obtain ⟨k, hk⟩ : ∃ k : Nat, p.1 = k := by
      rcases (by omega : p.1 < 0 ∨ 0 ≤ p.1) with h0 | h0
      · rw [e2 _ h0] at h1; cases h1
      · exact ⟨p.1.toNat, by omega⟩
    rw [hk] at h1
    rcases mapG_at e3 k with ⟨n1, n2⟩ | ⟨x, v, n1, n2, n3⟩
    · rw [n2] at h1; cases h1
    · rw [n2] at h1; cases h1; exact ⟨k, x, hk, n1, n3⟩
  · intro k d hgk
    rcases mapG_at e3 k with ⟨n1, n2⟩ | ⟨x, v, n1, n2, n3⟩
    · rw [n1] at hgk; cases hgk
    · rw [n1] at hgk; cases hgk; exact ⟨v, (lookL_iff hn).1 (by rw [hlf]; exact n2), n3⟩
theorem mLead2_stop {A : Apl} {n s : Nat} {R : MR} (h : ¬ s < R.sc.next) : mLead2 A (n + 1) s R = R := by unfold mLead2; rw [if_neg h]
theorem mLead2_go {A : Apl} {n s : Nat} {R : MR} (h : s < R.sc.next) : mLead2 A (n + 1) s R = mLead2 A n (s + 1) (if (R.known s).isSome = true then R else mProp A R s (((R.met s).map MV.c).getD zMC)) := by rw [mLead2, if_pos h]
section
variable {A : Apl} (HA : AplOK A) {Λ : Snp} {w : World} {br : Nat} {R : MR}
include HA
theorem lead_ok (h : Wk Λ br R w) (ho : Ok A R) (hb : R.out.length ≤ 840000) : CY 188 #[.pointer (some ⟨br, 0, none⟩)] w (fun v w' => v = .tuple #[] ∧ Wk Λ br (mLead A R) w' ∧ Kz w w') := by
  obtain ⟨a, h⟩ := h
  obtain ⟨vm, wm, kn, mt, pp, ac, lg, ob, sT, sM, sD, sO, sI⟩ := a
  obtain ⟨la, lc, rfl⟩ : ∃ la lc, lg = .slice la R.log.length lc := by obtain ⟨_, _, h, _⟩ := h.ri.lg; exact own_slice h
  have hlg := ho.lg
  refine callE Tryz.func188 rfl rfl ?_
  refine ⟨_, _, _, h.ri.mem, rfl, rfl, fun w1 m1 g1 => ?_⟩
  have h1 := h.cell (s' := { R.sc with role := 2 }) m1 g1
  refine ⟨_, _, h1.ri.mem, _, rfl, .inl ⟨by omega, _, _, _, h1.ri.mem, rfl, rfl, fun w2 m2 g2 => ?_⟩⟩
  have h2 := h1.cell (s' := { R.sc with role := 2, next := R.log.length }) m2 g2
  have k2 := (h.ri.kz h.ri.o_br g1).trans (h1.ri.kz h1.ri.o_br g2)
  obtain ⟨l, hl, hw⟩ := h2.ri.mt.walk
  refine ⟨_, _, h2.ri.mem, _, rfl, l, hl, fun w3 it i3 g3 l3 => ?_⟩
  obtain ⟨hm1, hm2⟩ := hw i3.nodup
  have h3 := h2.gb0 g3
  have u3 := h2.unp l3
  have n3 : ¬ Own br ⟨vm, wm, kn, mt, pp, ac, .slice la R.log.length lc, ob, sT, sM, sD, sO, sI⟩ it := fun e => by have := h2.ri.lt e; omega
  refine ⟨fun n s w' => ∃ (todo : List (Int × Value)) (cur : Option (Int × Value)) (x : Nat), n = todo.length ∧ s = [(0, .pointer (some ⟨br, 0, none⟩)), (22, .pointer (some ⟨it, 0, none⟩))] ∧ ItE w' it mt l todo cur ∧ Wa Λ br { R with sc := { R.sc with role := 2, next := x } } ⟨vm, wm, kn, mt, pp, ac, .slice la R.log.length lc, ob, sT, sM, sD, sO, sI⟩ w' ∧ Kz w w' ∧ R.log.length ≤ x ∧ x ≤ 60 ∧ (∀ k v, R.met k = some v → k + 1 ≤ x ∨ ∃ v', ((k : Int), v') ∈ todo) ∧ (x = R.log.length ∨ ∃ k v, R.met k = some v ∧ x = k + 1) ∧ ∀ p ∈ todo, p ∈ l, ⟨_, _, ⟨l, none, R.log.length, rfl, rfl, i3, h3, k2.trans g3.kz, Nat.le_refl _, hlg, fun k v hk => .inr (by obtain ⟨v', h, _⟩ := hm2 k v hk; exact ⟨v', h⟩), .inl rfl, fun _ h => h⟩, sb rfl⟩, ?_⟩
  rintro n s w4 ⟨todo, cur, x, rfl, rfl, i4, h4, k4, hx1, hx2, hx3, hx4, hsub⟩
  refine ⟨mt, l, todo, cur, i4, fun e0 => ?_, ?_⟩
  · subst e0
    have hx : mNext R.met R.log.length = x := mNext_eq (fun k v hk => (ho.mt k v hk).2.1) hx1 (fun k v hk => (hx3 k v hk).elim id (fun h => by obtain ⟨_, h⟩ := h; cases h)) hx4
    have eL : mLead A R = { mLead2 A 61 R.log.length { R with sc := { R.sc with role := 2, next := x } } with met := fun _ => none } := by unfold mLead; rw [hx]
    have oL := ho.lead0
    rw [hx] at oL
    refine ⟨_, _, h4.ri.mem, _, rfl, .inl ⟨by omega, ?_⟩⟩
    refine ⟨fun n s w' => ∃ (k : Nat) (R' : MR), mLead2 A 61 R.log.length { R with sc := { R.sc with role := 2, next := x } } = mLead2 A n k R' ∧ n + k = 61 + R.log.length ∧ k ≤ 60 ∧ s = [(0, .pointer (some ⟨br, 0, none⟩)), (3, .int .u32 k)] ∧ Wk Λ br R' w' ∧ Ok A R' ∧ Kz w w' ∧ R'.out.length ≤ R.out.length + 315 * k, ⟨_, _, ⟨R.log.length, _, rfl, rfl, hlg, rfl, ⟨_, h4⟩, oL, k4, Nat.le_add_right _ _⟩, sb rfl⟩, ?_⟩
    rintro n s w5 ⟨k, R', em, en, hk, rfl, ⟨a, h5⟩, o5, k5, hb5⟩
    obtain ⟨n, rfl⟩ : ∃ m, n = m + 1 := ⟨n - 1, by omega⟩
    have hnx := o5.nx
    refine ⟨_, _, h5.ri.mem, _, rfl, spl (fun c => ?_) (fun c => ?_)⟩
    · have c1 : k < R'.sc.next := by simp at c; omega
      have em' := em.trans (mLead2_go c1)
      obtain ⟨f, e1, e2, e3⟩ := h5.ri.kn
      refine ⟨_, _, h5.ri.mem, _, rfl, f, e1, fun w6 b6 m6 g6 l6 => ?_⟩
      rcases mapG_at e3 k with ⟨n1, n2⟩ | ⟨y, v, n1, n2, rv, dv, rfl, hr⟩
      · rw [n2]
        refine ⟨_, _, _, m6, rfl, rfl, fun w7 m7 g7 => ?_⟩
        have g57 : GB none w5 w7 := g6.new g7 l6
        have h7 := h5.gb0 g57
        obtain ⟨f', e1', e2', e3'⟩ := h7.ri.mt
        have hout : R'.out.length ≤ 870000 := by omega
        have q5 : ∀ y : Nat, y ≤ R'.out.length + 315 → y ≤ R.out.length + 315 * (k + 1) := fun y hy => Nat.le_trans hy (Nat.le_trans (Nat.add_le_add_right hb5 315) (by rw [Nat.mul_add]; omega))
        rcases mapG_at e3' k with ⟨n1', n2'⟩ | ⟨y, v, n1', n2', rv, dv, rfl, hr⟩
        · refine ⟨_, _, h7.ri.mem, _, rfl, f', e1', ?_⟩
          rw [n2']
          have em' : _ = mLead2 A n (k + 1) (mProp A R' k zMC) := em'.trans (by rw [n1, n1', if_neg (by decide)]; rfl)
          refine ⟨_, prop_ok HA ⟨_, h7⟩ o5 (s := k) (by omega) HA.nop (c := zMC) ⟨_, _, rfl, RgIn.zero _⟩ hout, ?_⟩
          rintro _ w8 ⟨rfl, h8, k8⟩
          obtain ⟨p1, p2, p3, p4⟩ := o5.prop HA (s := k) (by omega) HA.nop
          exact ⟨by omega, n, _, ⟨k + 1, mProp A R' k zMC, em', by omega, by omega, rfl, h8, p1, (k5.trans g57.kz).trans k8, q5 _ p2⟩, (sb rfl), by omega⟩
        · obtain ⟨ra, rn, rc, da, dn, dc, rfl, rfl⟩ := hr.sl
          refine ⟨_, _, h7.ri.mem, _, rfl, f', e1', ?_⟩
          rw [n2']
          have em' : _ = mLead2 A n (k + 1) (mProp A R' k y.c) := em'.trans (by rw [n1, n1', if_neg (by decide)]; rfl)
          have hgc := (o5.mt _ _ n1').1
          refine ⟨_, prop_ok HA ⟨_, h7⟩ o5 (s := k) (by omega) hgc (c := y.c) ⟨.slice ra rn rc, .slice da dn dc, rfl, hr⟩ hout, ?_⟩
          rintro _ w8 ⟨rfl, h8, k8⟩
          obtain ⟨p1, p2, p3, p4⟩ := o5.prop HA (s := k) (by omega) hgc
          exact ⟨by omega, n, _, ⟨k + 1, mProp A R' k y.c, em', by omega, by omega, rfl, h8, p1, (k5.trans g57.kz).trans k8, q5 _ p2⟩, (sb rfl), by omega⟩
      · rw [n2]
        rw [n1] at em'
        obtain ⟨ra, rn, rc, da, dn, dc, rfl, rfl⟩ := hr.sl
        refine ⟨_, _, _, m6, rfl, rfl, fun w7 m7 g7 => ?_⟩
        have g57 : GB none w5 w7 := g6.new g7 l6
        exact ⟨by omega, n, _, ⟨k + 1, R', em', by omega, by omega, rfl, ⟨_, h5.gb0 g57⟩, o5, k5.trans g57.kz, by omega⟩, (sb rfl), by omega⟩
    · have c1 : ¬ k < R'.sc.next := by simp at c; omega
      have em' := em.trans (mLead2_stop c1)
      rw [eL, em']
      obtain ⟨f, e1, _⟩ := h5.ri.mt
      refine ⟨_, _, h5.ri.mem, _, rfl, f, e1, fun w6 m6 g6 => ?_⟩
      exact ⟨rfl, ⟨_, h5.step h5.ri.o_mt g6 (h5.ri.mt' g6 (MapG.none m6))⟩, k5.trans (h5.ri.kz h5.ri.o_mt g6)⟩
  · rintro i ⟨pk, pv⟩ w5 hi i5 g5
    obtain ⟨k, d, rfl, hgk, _⟩ := hm1 _ (hsub _ (List.mem_of_getElem? hi))
    have hil : i < todo.length := (List.getElem?_eq_some_iff.1 hi).1
    have h60 := (ho.mt k d hgk).2.1
    have f4 : ∀ c t, w4.heap[it]? ≠ some (.cells c t) := by
      intro c t hh
      obtain ⟨_, _, _, _, h⟩ := i4.it
      rw [h] at hh; cases hh
    have h5 := h4.gbx g5 n3 u3 f4
    have emax : (if ((k : Int) + 1) > (x : Int) then ((k : Int) + 1) else (x : Int)) = ((max x (k + 1) : Nat) : Int) := by split <;> omega
    refine ⟨mt, l, _, _, i5, _, _, h5.ri.mem, _, rfl, by omega, _, _, rcC { R with sc := { R.sc with role := 2, next := max x (k + 1) } } ⟨vm, wm, kn, mt, pp, ac, .slice la R.log.length lc, ob, sT, sM, sD, sO, sI⟩, h5.ri.mem, rfl, by unfold rcC; dsimp only; rw [← emax]; rfl, fun w6 m6 g6 => ?_⟩
    have h6 := h5.cell (s' := { R.sc with role := 2, next := max x (k + 1) }) m6 g6
    have nit : it ≠ br := fun e => n3 (.inl e)
    have nmt : mt ≠ br := ne_mc h5.ri.mt.obj h5.ri.cbr
    have itlt : it < w5.heap.size := by obtain ⟨_, _, _, _, h⟩ := i5.it; exact lt_heap h
    refine ⟨_, _, ⟨todo.eraseIdx i, _, max x (k + 1), rfl, rfl, i5.keep (g6.block _ itlt fun e => nit (Option.some.inj e)) (g6.block _ (h5.ri.lt h5.ri.o_mt) fun e => nmt (Option.some.inj e)), h6, (k4.trans (g5.kzs fun c t _ => f4 c t)).trans (h5.ri.kz h5.ri.o_br g6), by omega, by omega, ?_, ?_, fun p hp => hsub p (List.mem_of_mem_eraseIdx hp)⟩, (sb rfl), ?_⟩
    · intro k' v' hk'
      by_cases e : k' = k
      · exact .inl (by omega)
      · rcases hx3 k' v' hk' with h | ⟨u, h⟩
        · exact .inl (by omega)
        · exact .inr ⟨u, mem_erase h hi fun e' => e (by have := congrArg Prod.fst e'; dsimp only at this; omega)⟩
    · by_cases hm : x ≤ k + 1
      · exact .inr ⟨k, d, hgk, by omega⟩
      · rw [show max x (k + 1) = x by omega]; exact hx4
    · rw [List.length_eraseIdx, if_pos hil]; omega
end
theorem GB.news {w0 w w' : World} {d x : Nat} (h : GB (some d) w0 w) (k : GB (some x) w w') (hx : w0.heap.size ≤ x) : GB (some d) w0 w' :=
  ⟨k.os.trans h.os, k.out.trans h.out, Nat.le_trans h.size k.size, fun y hy hd => (k.block y (Nat.lt_of_lt_of_le hy h.size) (fun e => by cases e; omega)).trans (h.block y hy hd)⟩
def orM (gs gd : Nat → Option MV) : Nat → Option MV := fun k => (gs k).or (gd k)
theorem copy_ok {w : World} {d s : Nat} {gd gs : Nat → Option MV} (hd : MapG VIn w d gd) (hs : MapG VIn w s gs) (hne : s ≠ d) : CY 112 #[.map (some d), .map (some s)] w (fun v w' => v = .tuple #[] ∧ MapG VIn w' d (orM gs gd) ∧ GB (some d) w w') := by
  refine callE Tryz.func112 rfl rfl ?_
  obtain ⟨l, hl, hw⟩ := hs.walk
  refine ⟨l, hl, fun w1 it i1 g1 l1 => ?_⟩
  obtain ⟨hm1, hm2⟩ := hw i1.nodup
  have hdo := hd.obj
  refine ⟨fun n q w' => ∃ (todo : List (Int × Value)) (cur : Option (Int × Value)) (g : Nat → Option MV), n = todo.length ∧ q = [(0, .map (some d)), (7, .pointer (some ⟨it, 0, none⟩))] ∧ ItE w' it s l todo cur ∧ MapG VIn w' d g ∧ GB (some d) w w' ∧ (∀ k, g k = orM gs gd k ∨ (g k = gd k ∧ ∃ v, ((k : Int), v) ∈ todo)) ∧ ∀ p ∈ todo, p ∈ l, ⟨_, _, ⟨l, none, gd, rfl, rfl, i1, hd.keep (fun _ _ h => h.kz g1.kz) (g1.block _ hd.lt nofun), g1.weak, ?_, fun _ h => h⟩, sb rfl⟩, ?_⟩
  · intro k
    cases hk : gs k with
    | none => exact .inl (by unfold orM; rw [hk]; rfl)
    | some x => exact .inr ⟨rfl, by obtain ⟨v, h, _⟩ := hm2 k x hk; exact ⟨v, h⟩⟩
  rintro n q w2 ⟨todo, cur, g, rfl, rfl, i2, hg, gg, hinv, hsub⟩
  refine ⟨s, l, todo, cur, i2, fun e0 => ?_, ?_⟩
  · subst e0
    have : g = orM gs gd := funext fun k => (hinv k).elim id fun h => by obtain ⟨_, _, h⟩ := h; cases h
    rw [← this]
    exact ⟨rfl, hg, gg⟩
  · rintro i ⟨pk, pv⟩ w3 hi i3 g3
    obtain ⟨k, x, rfl, hgk, rv, dv, rfl, hr⟩ := hm1 _ (hsub _ (List.mem_of_getElem? hi))
    obtain ⟨ra, rn, rc, da, dn, dc, rfl, rfl⟩ := hr.sl
    have hil : i < todo.length := (List.getElem?_eq_some_iff.1 hi).1
    have itlt : it < w3.heap.size := by obtain ⟨_, _, _, _, h⟩ := i3.it; exact lt_heap h
    have slt : s < w3.heap.size := Nat.lt_of_lt_of_le (Nat.lt_of_lt_of_le hs.lt gg.size) g3.size
    have nit : it ≠ d := fun e => by have := hd.lt; omega
    refine ⟨s, l, _, _, i3, fun w4 b4 m4 g4 l4 => ⟨_, _, _, m4, rfl, rfl, fun w5 m5 g5 => ?_⟩⟩
    have g35 : GB none w3 w5 := g4.new g5 l4
    have k23 : Kz w2 w3 := g3.kzs fun c t _ hh => by obtain ⟨_, _, _, _, h⟩ := i2.it; rw [h] at hh; cases hh
    have hg3 : MapG VIn w3 d g := hg.keep (fun _ _ h => h.kz k23) (g3.block _ hg.lt fun e => nit (Option.some.inj e).symm)
    have hg5 : MapG VIn w5 d g := hg3.keep (fun _ _ h => h.kz g35.kz) (g35.block _ hg3.lt nofun)
    have gg5 : GB (some d) w w5 := (gg.news g3 l1).trans g35.weak
    have hob := hg5.obj
    obtain ⟨f, e1, e2, e3⟩ := hg5
    refine ⟨_, _, m5, mvC x (.slice ra rn rc) (.slice da dn dc), rfl, rfl, f, e1, fun w6 m6 g6 => ?_⟩
    have k56 : Kz w5 w6 := g6.kzs fun c t _ hh => by obtain ⟨_, _, h⟩ := hob; rw [h] at hh; cases hh
    have kall : Kz w w5 := gg5.kzs fun c t _ hh => by obtain ⟨_, _, h⟩ := hdo; rw [h] at hh; cases hh
    have hv6 : VIn w6 (.agg (mvC x (.slice ra rn rc) (.slice da dn dc)).toArray) x := ⟨_, _, rfl, (hr.kz kall).kz k56⟩
    refine ⟨_, _, ⟨todo.eraseIdx i, _, upd g k (some x), rfl, rfl, i3.keep ((g6.block _ (Nat.lt_of_lt_of_le itlt g35.size) fun e => nit (Option.some.inj e)).trans (g35.block _ itlt nofun)) ((g6.block _ (Nat.lt_of_lt_of_le slt g35.size) fun e => hne (Option.some.inj e)).trans (g35.block _ slt nofun)), MapG.put (fun _ _ h => h.kz k56) e2 e3 hv6 m6, gg5.trans g6, ?_, fun p hp => hsub p (List.mem_of_mem_eraseIdx hp)⟩, (sb rfl), ?_⟩
    · intro k'
      unfold upd
      by_cases e : k' = k
      · subst e
        rw [if_pos rfl]
        exact .inl (by unfold orM; rw [hgk]; rfl)
      · rw [if_neg e]
        rcases hinv k' with h | ⟨h, v, hv⟩
        · exact .inl h
        · exact .inr ⟨h, v, mem_erase hv hi fun e' => e (by have := congrArg Prod.fst e'; dsimp only at this; omega)⟩
    · rw [List.length_eraseIdx, if_pos hil]; omega
def mCntP (A : Apl) (R : MR) (i : Nat) : MR := if 2 * pc (cwith R.sc.prom i) > R.sc.sz then mLead A { R with sc := { R.sc with prom := cwith R.sc.prom i } } else { R with sc := { R.sc with prom := cwith R.sc.prom i } }
section
variable {A : Apl} (HA : AplOK A) {Λ : Snp} {w : World} {br : Nat} {R : MR}
omit HA in
theorem Ok.prom (ho : Ok A R) {i : Nat} (hi : i < 5) : Ok A { R with sc := { R.sc with prom := cwith R.sc.prom i } } := ⟨ho.sz, ho.i, ho.st, ho.kn, ho.pp, ho.vt, ho.wv, ho.mt, ho.ac, cwith_lt ho.pr hi, ho.lg, ho.lc, ho.nx, ho.sn⟩
include HA
theorem Ok.cntP (ho : Ok A R) {i : Nat} (hi : i < 5) : Ok A (mCntP A R i) ∧ (mCntP A R i).out.length ≤ R.out.length + 20000 ∧ (mCntP A R i).sc.i = R.sc.i ∧ (mCntP A R i).sc.sz = R.sc.sz := by
  unfold mCntP
  split
  · exact (ho.prom hi).lead HA
  · exact ⟨ho.prom hi, Nat.le_add_right _ _, rfl, rfl⟩
theorem cntP_ok (h : Wk Λ br R w) (ho : Ok A R) {i : Nat} (hi : i < 5) (hb : R.out.length ≤ 840000) : CY 157 #[.pointer (some ⟨br, 0, none⟩), .int .u8 i] w (fun v w' => v = .tuple #[] ∧ Wk Λ br (mCntP A R i) w' ∧ Kz w w') := by
  obtain ⟨a, h⟩ := h
  refine callE Tryz.func157 rfl rfl ?_
  refine ⟨_, _, h.ri.mem, _, rfl, _, with_ok w _ i ho.pr hi, ?_⟩
  rintro _ w1 ⟨rfl, rfl⟩
  refine ⟨_, _, _, h.ri.mem, rfl, rfl, fun w2 m2 g2 => ?_⟩
  have h2 := h.cell (s' := { R.sc with prom := cwith R.sc.prom i }) m2 g2
  have k2 := h.ri.kz h.ri.o_br g2
  refine ⟨by kernel_rfl, _, _, h2.ri.mem, _, rfl, _, _, h2.ri.mem, _, rfl, _, most_ok w2 _ _ (cwith_lt ho.pr hi), ?_⟩
  rintro _ w3 ⟨rfl, rfl⟩
  refine spl (fun d => ?_) (fun d => ?_)
  · have d1 : 2 * pc (cwith R.sc.prom i) > R.sc.sz := of_decide_eq_true d
    have em : mCntP A R i = mLead A { R with sc := { R.sc with prom := cwith R.sc.prom i } } := if_pos d1
    rw [em]
    refine ⟨_, lead_ok HA ⟨_, h2⟩ (ho.prom hi) hb, ?_⟩
    rintro _ w4 ⟨rfl, h4, k4⟩
    exact ⟨rfl, h4, k2.trans k4⟩
  · have d1 : ¬ 2 * pc (cwith R.sc.prom i) > R.sc.sz := of_decide_eq_false d
    have em : mCntP A R i = { R with sc := { R.sc with prom := cwith R.sc.prom i } } := if_neg d1
    rw [em]
    exact ⟨rfl, ⟨_, h2⟩, k2⟩
end
def mCamp0 (R : MR) : MR := { mRaise R with sc := { (mRaise R).sc with role := 1 }, met := orM (mRaise R).votes (mRaise R).met }
def mCamp (A : Apl) (R : MR) : MR := if R.sc.sz = 1 ∨ R.sc.seen ≠ 4294967295 then mCntP A (mCamp0 R) R.sc.i else R
def metPut (g : Nat → Option MV) (v : MV) : Nat → Option MV := match g v.slot with
  | none => upd g v.slot (some v)
  | some o => if o.b.lt v.b = true then upd g v.slot (some v) else g
section
variable {A : Apl} {R : MR}
theorem mRaise_same (R : MR) : (mRaise R).sc.sz = R.sc.sz ∧ (mRaise R).sc.i = R.sc.i ∧ (mRaise R).out = R.out ∧ (mRaise R).met = R.met ∧ (mRaise R).votes = R.votes := by
  unfold mRaise
  split
  · exact ⟨rfl, rfl, rfl, rfl, rfl⟩
  · exact ⟨rfl, rfl, rfl, rfl, rfl⟩
theorem Ok.raise (ho : Ok A R) : Ok A (mRaise R) := by
  have := ho.sn
  unfold mRaise
  split
  · exact ho
  · rename_i h
    exact ⟨ho.sz, ho.i, ho.st, ho.kn, ho.pp, ho.vt, ho.wv, ho.mt, ho.ac, ho.pr, ho.lg, ho.lc, ho.nx, by show R.sc.seen + 1 ≤ _; omega, by show R.sc.seen + 1 ≤ _; omega, ho.sn.2.2⟩
theorem Ok.camp0 (ho : Ok A R) : Ok A (mCamp0 R) := by
  have o := ho.raise
  refine ⟨o.sz, o.i, o.st, o.kn, o.pp, o.vt, o.wv, fun k v h => ?_, o.ac, o.pr, o.lg, o.lc, o.nx, o.sn⟩
  have h : orM (mRaise R).votes (mRaise R).met k = some v := h
  unfold orM at h
  cases hv : (mRaise R).votes k with
  | none => rw [hv] at h; exact o.mt k v h
  | some x => rw [hv] at h; exact o.vt k v (hv.trans h)
end
section
variable {A : Apl} (HA : AplOK A) {Λ : Snp} {w : World} {br : Nat} {R : MR}
include HA
theorem Ok.camp (ho : Ok A R) : Ok A (mCamp A R) ∧ (mCamp A R).out.length ≤ R.out.length + 20000 ∧ (mCamp A R).sc.i = R.sc.i ∧ (mCamp A R).sc.sz = R.sc.sz := by
  unfold mCamp
  obtain ⟨r1, r2, r3, _⟩ := mRaise_same R
  split
  · have hi := ho.i
    have hz := ho.sz
    obtain ⟨h1, h2, h3, h4⟩ := ho.camp0.cntP HA (i := R.sc.i) (by omega)
    have e : (mCamp0 R).out = R.out := r3
    rw [e] at h2
    exact ⟨h1, h2, h3.trans r2, h4.trans r1⟩
  · exact ⟨ho, Nat.le_add_right _ _, rfl, rfl⟩
theorem camp_ok (h : Wk Λ br R w) (ho : Ok A R) (hb : R.out.length ≤ 840000) : CY 107 #[.pointer (some ⟨br, 0, none⟩)] w (fun v w' => v = .tuple #[] ∧ Wk Λ br (mCamp A R) w' ∧ Kz w w') := by
  refine callE Tryz.func107 rfl rfl ?_
  refine ⟨_, raise_ok h ho.sn.1, ?_⟩
  rintro _ w1 ⟨rfl, h1, k1⟩
  obtain ⟨r1, r2, r3, r4, r5⟩ := mRaise_same R
  have hi := ho.i
  have hz := ho.sz
  refine spl (fun d => ?_) (fun d => ?_)
  · have d1 : ¬ (R.sc.sz = 1 ∨ R.sc.seen ≠ 4294967295) := fun e => by simp [e] at d
    have em : mCamp A R = R := if_neg d1
    have er : mRaise R = R := if_pos (.inr (by omega))
    rw [er] at h1
    rw [em]
    exact ⟨rfl, h1, k1⟩
  · have d1 : R.sc.sz = 1 ∨ R.sc.seen ≠ 4294967295 := by
      by_cases e : R.sc.sz = 1 ∨ R.sc.seen ≠ 4294967295
      · exact e
      · simp [e] at d
    have em : mCamp A R = mCntP A (mCamp0 R) R.sc.i := if_pos d1
    rw [em]
    obtain ⟨a, h1⟩ := h1
    refine ⟨_, _, _, h1.ri.mem, rfl, rfl, fun w2 m2 g2 => ?_⟩
    have h2 := h1.cell (s' := { (mRaise R).sc with role := 1 }) m2 g2
    have k2 := h1.ri.kz h1.ri.o_br g2
    have hne : a.vm ≠ a.mt := by have := h2.ri.sep; simp at this; omega
    refine ⟨by kernel_rfl, _, _, h2.ri.mem, _, rfl, _, _, h2.ri.mem, _, rfl, _, copy_ok h2.ri.mt h2.ri.vm hne, ?_⟩
    rintro _ w3 ⟨rfl, hm3, g3⟩
    have h3 : Wa Λ br (mCamp0 R) a w3 := h2.step h2.ri.o_mt g3 (h2.ri.mt' g3 hm3)
    have k3 := h2.ri.kz h2.ri.o_mt g3
    have ec := cntP_ok HA ⟨_, h3⟩ ho.camp0 (i := R.sc.i) (by omega) (by show (mRaise R).out.length ≤ _; rw [r3]; exact hb)
    have ei : (mCamp0 R).sc.i = R.sc.i := r2
    rw [← ei] at ec
    refine ⟨_, _, h3.ri.mem, _, rfl, _, ec, ?_⟩
    rintro _ w4 ⟨rfl, h4, k4⟩
    rw [ei] at h4
    exact ⟨rfl, h4, ((k1.trans k2).trans k3).trans k4⟩
end
end
end Go.Proofs.YtignemioillaiaaGreat
