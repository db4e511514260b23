/- A replica at work (8): below, refuse, takeReject, voteList, takePrepare. -/
import Derived.Test.YtignemioillaiaaGreatG26
namespace Go.Proofs.YtignemioillaiaaGreat
set_option maxHeartbeats 8000000
set_option maxRecDepth 100000
section
open Go Go.Conc
def Bal.lt (a b : Bal) : Bool := decide (a.n < b.n) || (a.n == b.n && decide (a.id < b.id))
def bC (b : Bal) : List Value := [.int .u32 b.n, .int .u8 b.id]
theorem below_ok (w : World) (a b : Bal) : CY 167 #[.agg (bC a).toArray, .agg (bC b).toArray] w (fun v w' => v = .bool (a.lt b) ∧ GB none w w') := by
  refine callE Tryz.func167 rfl rfl ?_
  intro w1 b1 h1 g1 l1 w2 b2 h2 g2 l2
  have h1 := g2.get h1 nofun
  refine ⟨_, _, h1, _, rfl, _, _, h2, _, rfl, ?_⟩
  have gg : GB none w w2 := g1.trans g2
  unfold Bal.lt
  refine spl (fun c => ?_) (fun c => ?_)
  · have c1 : ¬ a.n < b.n := by simp at c; omega
    refine ⟨_, _, h1, _, rfl, _, _, h2, _, rfl, ?_⟩
    refine spl (fun d => ?_) (fun d => ?_)
    · have d1 : a.n = b.n := by simp at d; omega
      refine ⟨_, _, h1, _, rfl, _, _, h2, _, rfl, ?_, gg⟩
      simp [d1]
    · have d1 : ¬ a.n = b.n := by simp at d; omega
      exact ⟨by simp [c1, d1], gg⟩
  · have c1 : a.n < b.n := by simp at c; omega
    exact ⟨by simp [c1], gg⟩
theorem Bal.eq {a b : Bal} (h1 : a.n = b.n) (h2 : a.id = b.id) : a = b := by
  cases a
  cases b
  simp_all
instance : DecidableEq Bal := fun a b => by
  obtain ⟨n, i⟩ := a
  obtain ⟨m, j⟩ := b
  exact decidable_of_iff (n = m ∧ i = j) (by simp)
def mRefuse (enc : MM → ByteArray) (R : MR) (f : Nat × Nat) (b : Bal) : MR :=
  if b.lt R.sc.b = true then Snd enc R { zMM 5 with b := R.sc.b } [f] else if b = R.sc.b then R else mStand { R with sc := { R.sc with b := b } }
theorem VsIn.sl {w : World} {v : Value} {l : List MV} (h : VsIn w v l) : ∃ a c, v = .slice a l.length c := by
  obtain ⟨_, _, ⟨a, c, h1, _⟩, _⟩ := h
  exact ⟨a, c, h1⟩
theorem RgIn.sl {w : World} {r : Rg} {rv dv : Value} (h : RgIn w r rv dv) : ∃ ra rn rc da dn dc, rv = .slice ra rn rc ∧ dv = .slice da dn dc := by
  obtain ⟨⟨ra, rc, h1, _⟩, ⟨da, dc, h2, _⟩⟩ := h
  exact ⟨ra, _, rc, da, _, dc, h1, h2⟩
def vlist (f : Nat → Option MV) (k : Nat) : List MV := (List.range k).filterMap f
theorem vlist_succ (f : Nat → Option MV) (k : Nat) : vlist f (k + 1) = vlist f k ++ (f k).toList := by
  unfold vlist
  rw [List.range_succ, List.filterMap_append]
  cases h : f k <;> simp [h]
theorem vlist_len (f : Nat → Option MV) (k : Nat) : (vlist f k).length ≤ k := by
  unfold vlist
  exact Nat.le_trans (List.length_filterMap_le _ _) (by simp)
theorem app_rel {α β : Type} {Rel : α → β → Prop} {l : List α} {ps : List β} (hl : ps.length = l.length) {x : α} {y : β} (h : ∀ (i : Nat) (a : α) (b : β), l[i]? = some a → ps[i]? = some b → Rel a b) (hx : Rel x y) : ∀ (i : Nat) (a : α) (b : β), (l ++ [x])[i]? = some a → (ps ++ [y])[i]? = some b → Rel a b := by
  intro i a b ha hb
  rcases Nat.lt_or_ge i l.length with hi | hi
  · rw [List.getElem?_append_left hi] at ha
    rw [List.getElem?_append_left (by omega)] at hb
    exact h i a b ha hb
  · rw [List.getElem?_append_right hi] at ha
    rw [List.getElem?_append_right (by omega)] at hb
    have h1 : i - l.length = 0 := by
      have := (List.getElem?_eq_some_iff.1 ha).1
      simp at this
      omega
    rw [h1] at ha
    rw [hl, h1] at hb
    simp only [List.getElem?_cons_zero, Option.some.injEq] at ha hb
    subst ha hb
    exact hx
section
variable {enc : MM → ByteArray} (HM : MarshOK enc) {Λ : Snp} {w : World} {br : Nat} {R : MR}
include HM
theorem refuse_ok (h : Wk Λ br R w) (f : Nat × Nat) (b : Bal) (hb : R.out.length ≤ 900000) : CY 165 #[.pointer (some ⟨br, 0, none⟩), .agg #[.int .u8 f.1, .int .u8 f.2], .agg (bC b).toArray] w (fun v w' => v = .bool (b.lt R.sc.b) ∧ Wk Λ br (mRefuse enc R f b) w' ∧ Kz w w') := by
  refine callE Tryz.func165 rfl rfl ?_
  intro w1 b1 m1 g1 l1 w2 b2 m2 g2 l2
  have m1 := g2.get m1 nofun
  have g := g1.trans g2
  have h2 := h.gb0 g
  have h20 := h2
  obtain ⟨a, h2⟩ := h2
  refine ⟨by kernel_rfl, _, _, m2, _, rfl, rfl, _, _, h2.ri.mem, _, rfl, rfl, _, below_ok w2 b R.sc.b, ?_⟩
  rintro _ w3 ⟨rfl, g3⟩
  have h3 := h2.gb0 g3
  have m2 := g3.get m2 nofun
  have m1 := g3.get m1 nofun
  unfold mRefuse
  refine spl (fun c => ?_) (fun c => ?_)
  · rw [if_pos c]
    refine ⟨by kernel_rfl, _, _, h3.ri.mem, _, rfl, rfl, _, _, m1, _, rfl, rfl, fun w4 b4 m4 g4 l4 => ?_⟩
    refine ⟨⟨g4.get m1 nofun, (h3.gb0 g4).ri.mem, trivial⟩, _, snd_ok HM ((h20.gb0 g3).gb0 g4) (m := { zMM 5 with b := R.sc.b }) ⟨_, _, _, _, _, rfl, RgIn.zero _, VsIn.zero _, RgIn.zero _⟩ (tl := [f]) ⟨_, _, rfl, Nat.le_refl _, rfl, .inr ⟨_, _, _, rfl, m4, rfl⟩⟩ (by simp; omega), ?_⟩
    rintro _ w5 ⟨rfl, h5, k5⟩
    exact ⟨by rw [c], h5, ((g.trans g3).trans g4).kz.trans k5⟩
  · rw [if_neg (by rw [c]; decide)]
    refine ⟨by kernel_rfl, _, _, m2, _, rfl, rfl, _, _, h3.ri.mem, _, rfl, rfl, spl (fun d => ?_) (fun d => ?_)⟩
    · have d1 : ¬ b = R.sc.b := by rintro rfl; simp at d
      rw [if_neg d1]
      refine ⟨_, _, m2, _, rfl, rfl, _, _, _, h3.ri.mem, rfl, rfl, fun w4 m4 g4 => ?_⟩
      have h4 := h3.cell (s' := { R.sc with b := b }) m4 g4
      refine ⟨_, stand_ok br _ Λ w4 ⟨_, h4⟩, ?_⟩
      rintro _ w5 ⟨rfl, h5, k5⟩
      exact ⟨by rw [c], h5, ((g.trans g3).kz.trans (h3.ri.kz h3.ri.o_br g4)).trans k5⟩
    · have d1 : b = R.sc.b := by
        have e : b.n = R.sc.b.n ∧ b.id = R.sc.b.id := by simp at d; omega
        exact Bal.eq e.1 e.2
      rw [if_pos d1]
      exact ⟨by rw [c], ⟨_, h3⟩, (g.trans g3).kz⟩
omit HM in
theorem reject_ok (h : Wk Λ br R w) (b : Bal) : CY 117 #[.pointer (some ⟨br, 0, none⟩), .agg (bC b).toArray] w (fun v w' => v = .tuple #[] ∧ Wk Λ br (if R.sc.b.lt b = true then mStand R else R) w' ∧ Kz w w') := by
  refine callE Tryz.func117 rfl rfl ?_
  intro w1 b1 m1 g1 l1
  have h1 := h.gb0 g1
  have h10 := h1
  obtain ⟨a, h1⟩ := h1
  refine ⟨by kernel_rfl, _, _, h1.ri.mem, _, rfl, rfl, _, _, m1, _, rfl, rfl, _, below_ok w1 R.sc.b b, ?_⟩
  rintro _ w3 ⟨rfl, g3⟩
  refine spl (fun c => ?_) (fun c => ?_)
  · rw [if_pos c]
    refine ⟨_, stand_ok br _ Λ w3 (h10.gb0 g3), ?_⟩
    rintro _ w5 ⟨rfl, h5, k5⟩
    exact ⟨rfl, h5, (g1.trans g3).kz.trans k5⟩
  · rw [if_neg (by rw [c]; decide)]
    exact ⟨rfl, h10.gb0 g3, (g1.trans g3).kz⟩
/-- A list of votes that is being made. -/
def VsO (w0 w : World) (v : Value) (l : List MV) : Prop := ∃ ps : List (Value × Value), ps.length = l.length ∧ w.ownsRow 0 196 20 v l.length (List.zipWith (fun x p => mvC x p.1 p.2) l ps).flatten ∧ ∀ (i : Nat) (x : MV) (p : Value × Value), l[i]? = some x → ps[i]? = some p → RgIn w0 x.c.r p.1 p.2
omit HM in
theorem VsO.vs {w' : World} {v : Value} {l : List MV} (h : VsO w w' v l) (g : GB none w w') : VsIn w' v l := by
  obtain ⟨ps, h1, h2, h3⟩ := h
  exact ⟨ps, h1, own_fz h2, fun i x p hx hp => (h3 i x p hx hp).kz g.kz⟩
omit HM in
theorem mapG_at {α : Type} {rel : World → Value → α → Prop} {g : Nat → Option α} {f : Int → Option Value} (h3 : ∀ k : Nat, match g k with | none => f k = none | some x => ∃ v, f k = some v ∧ rel w v x) (k : Nat) : (g k = none ∧ f k = none) ∨ ∃ x v, g k = some x ∧ f k = some v ∧ rel w v x := by
  have := h3 k
  cases hg : g k with
  | none => rw [hg] at this; exact .inl ⟨rfl, this⟩
  | some x => rw [hg] at this; obtain ⟨v, h1, h2⟩ := this; exact .inr ⟨x, v, rfl, h1, h2⟩
omit HM in
theorem voteList_ok (h : Wk Λ br R w) : CY 166 #[.pointer (some ⟨br, 0, none⟩)] w (fun v w' => VsIn w' v (vlist R.votes 60) ∧ GB none w w') := by
  obtain ⟨a, h⟩ := h
  refine callE Tryz.func166 rfl rfl ?_
  refine ⟨fun m s w1 => ∃ (k : Nat) (lv : Value), m = 60 - k ∧ k ≤ 60 ∧ s = [(0, .pointer (some ⟨br, 0, none⟩)), (3, lv), (7, .int .u32 k)] ∧ VsO w w1 lv (vlist R.votes k) ∧ GB none w w1 ∧ ∀ g, lv.ownBlock = some g → w.heap.size ≤ g, ⟨_, _, ⟨0, .slice none 0 0, rfl, by omega, rfl, ⟨[], rfl, own0 _ _ _, fun i x p h => by simp [vlist] at h⟩, GB.refl _ _, nofun⟩, sb rfl⟩, ?_⟩
  rintro m s w1 ⟨k, lv, rfl, hk, rfl, ⟨ps, hpl, ho, hps⟩, g1, hn⟩
  refine spl (fun c => ?_) (fun c => ?_)
  · have c1 : k < 60 := by simp at c; omega
    have h1 := h.gb0 g1
    obtain ⟨f, e1, e2, e3⟩ := h.ri.vm
    refine ⟨_, _, h1.ri.mem, _, rfl, f, e1.keep (g1.block _ h.ri.vm.lt nofun), fun w2 b2 m2 g2 l2 => ?_⟩
    rcases mapG_at e3 k with ⟨n1, n2⟩ | ⟨x, v, n1, n2, rv, dv, rfl, hr⟩
    · rw [n2]
      refine ⟨_, _, _, m2, rfl, rfl, fun w3 m3 g3 => ?_⟩
      have g13 : GB none w1 w3 := ⟨g3.os.trans g2.os, g3.out.trans g2.out, Nat.le_trans g2.size g3.size, fun x hx _ => (g3.block x (Nat.lt_of_lt_of_le hx g2.size) (fun e => by cases e; omega)).trans (g2.block x hx nofun)⟩
      refine ⟨by omega, _, _, ⟨k + 1, lv, rfl, by omega, rfl, ?_, g1.trans g13, hn⟩, (sb rfl), by omega⟩
      rw [vlist_succ, n1, Option.toList_none, List.append_nil]
      exact ⟨ps, hpl, owns_rely ho fun g hg => by obtain ⟨cur, hc⟩ := own_obj ho hg; exact g13.block g (lt_heap hc) nofun, hps⟩
    · rw [n2]
      obtain ⟨ra, rn, rc, da, dn, dc, rfl, rfl⟩ := hr.sl
      refine ⟨_, _, _, m2, rfl, rfl, fun w3 m3 g3 => ?_⟩
      have g13 : GB none w1 w3 := ⟨g3.os.trans g2.os, g3.out.trans g2.out, Nat.le_trans g2.size g3.size, fun x hx _ => (g3.block x (Nat.lt_of_lt_of_le hx g2.size) (fun e => by cases e; omega)).trans (g2.block x hx nofun)⟩
      obtain ⟨oa, oc, rfl⟩ := own_slice ho
      refine ⟨_, _, m3, _, rfl, rfl, fun w4 b4 m4 g4 l4 => ?_⟩
      have ho4 := owns_rely ho (w1 := w4) fun g hg => by obtain ⟨cur, hc⟩ := own_obj ho hg; exact (g13.trans g4).block g (lt_heap hc) nofun
      have hol := vlist_len R.votes k
      refine ⟨_, mvC x (.slice ra rn rc) (.slice da dn dc), ho4, ⟨_, _, m4, rfl, rfl, rfl⟩, by omega, fun v' w5 ho5 g5 n5 => ?_⟩
      have g15 : GB none w w5 := GB.ownB ((g1.trans g13).trans g4) g5 hn
      refine ⟨by omega, _, _, ⟨k + 1, v', rfl, by omega, rfl, ?_, g15, fun g hg => (n5 g hg).elim (hn g) (fun hl => by have := ((g1.trans g13).trans g4).size; omega)⟩, (sb rfl), by omega⟩
      rw [vlist_succ, n1]
      refine ⟨ps ++ [(.slice ra rn rc, .slice da dn dc)], by simp [hpl], ?_, app_rel hpl hps hr⟩
      · rw [Option.toList_some, List.length_append, List.zipWith_append (by rw [hpl]), List.flatten_append]
        exact ho5
  · have c1 : k = 60 := by simp at c; omega
    subst c1
    exact ⟨VsO.vs ⟨ps, hpl, ho, hps⟩ g1, g1⟩
def mPrep (enc : MM → ByteArray) (R : MR) (f : Nat × Nat) (b : Bal) : MR := if b.lt R.sc.b = true then mRefuse enc R f b else Snd enc (mRefuse enc R f b) { zMM 4 with b := b, vs := vlist (mRefuse enc R f b).votes 60 } [f]
theorem prep_ok (h : Wk Λ br R w) (f : Nat × Nat) (b : Bal) (hb : R.out.length ≤ 900000) : CY 115 #[.pointer (some ⟨br, 0, none⟩), .agg #[.int .u8 f.1, .int .u8 f.2], .agg (bC b).toArray] w (fun v w' => v = .tuple #[] ∧ Wk Λ br (mPrep enc R f b) w' ∧ Kz w w') := by
  refine callE Tryz.func115 rfl rfl ?_
  intro w1 b1 m1 g1 l1 w2 b2 m2 g2 l2
  have m1 := g2.get m1 nofun
  have g := g1.trans g2
  refine ⟨_, _, m1, _, rfl, rfl, _, _, m2, _, rfl, rfl, _, refuse_ok HM (h.gb0 g) f b hb, ?_⟩
  rintro _ w3 ⟨rfl, h3, k3⟩
  have m2 := k3 _ (by decide) _ _ m2
  have m1 := k3 _ (by decide) _ _ m1
  unfold mPrep
  refine spl (fun c => ?_) (fun c => ?_)
  · rw [if_pos c]
    exact ⟨rfl, h3, g.kz.trans k3⟩
  rw [if_neg (by rw [c]; decide)]
  have hl : (mRefuse enc R f b).out.length ≤ 900000 := by
    unfold mRefuse
    rw [if_neg (by rw [c]; decide)]
    split <;> exact hb
  refine ⟨by kernel_rfl, _, _, m2, _, rfl, rfl, _, _, m1, _, rfl, rfl, ⟨_, voteList_ok h3, ?_⟩, ?_⟩
  · rintro v w4 ⟨hv, g4⟩
    obtain ⟨va, vc, rfl⟩ := hv.sl
    refine ⟨⟨g4.get m1 nofun, g4.get m2 nofun, trivial⟩, ?_⟩
    intro w5 b5 m5 g5 l5
    refine ⟨⟨(g4.trans g5).get m1 nofun, (g4.trans g5).get m2 nofun, trivial⟩, _, snd_ok HM ((h3.gb0 g4).gb0 g5) (m := { zMM 4 with b := b, vs := vlist (mRefuse enc R f b).votes 60 }) ⟨_, _, _, _, _, rfl, RgIn.zero _, hv.kz g5.kz, RgIn.zero _⟩ (tl := [f]) ⟨_, _, rfl, Nat.le_refl _, rfl, .inr ⟨_, _, _, rfl, m5, rfl⟩⟩ (by simp; omega), ?_⟩
    rintro _ w6 ⟨rfl, h6, k6⟩
    exact ⟨rfl, h6, (g.kz.trans k3).trans ((g4.trans g5).kz.trans k6)⟩
  · intro w4 b4 m4 g4 l4
    refine ⟨⟨g4.get m1 nofun, g4.get m2 nofun, trivial⟩, _, voteList_ok (h3.gb0 g4), ?_⟩
    rintro v w5 ⟨hv, g5⟩
    obtain ⟨va, vc, rfl⟩ := hv.sl
    refine ⟨⟨(g4.trans g5).get m1 nofun, (g4.trans g5).get m2 nofun, trivial⟩, _, snd_ok HM ((h3.gb0 g4).gb0 g5) (m := { zMM 4 with b := b, vs := vlist (mRefuse enc R f b).votes 60 }) ⟨_, _, _, _, _, rfl, RgIn.zero _, hv, RgIn.zero _⟩ (tl := [f]) ⟨_, _, rfl, Nat.le_refl _, rfl, .inr ⟨_, _, _, rfl, g5.get m4 nofun, rfl⟩⟩ (by simp; omega), ?_⟩
    rintro _ w6 ⟨rfl, h6, k6⟩
    exact ⟨rfl, h6, (g.kz.trans k3).trans ((g4.trans g5).kz.trans k6)⟩
end
section
variable {Λ : Snp} {w w1 w2 : World} {br : Nat} {R : MR} {a : RAd}
/-- The log laid anew. -/
theorem Wa.lg' (h : Wa Λ br R a w) {lv : Value} {ls : List MC} (g1 : GB a.lg.ownBlock w w1) (ho : LgIn w1 lv ls) (hn : ∀ g, lv.ownBlock = some g → a.lg.ownBlock = some g ∨ w.heap.size ≤ g) (m2 : Hl w2 br (rcC { R with log := ls } { a with lg := lv }) 152) (g2 : GB (some br) w1 w2) : Wa Λ br { R with log := ls } { a with lg := lv } w2 ∧ Kz w w2 := by
  have hobr : ∀ g, lv.ownBlock = some g → g ≠ br := fun g hg e => by
    subst e
    rcases hn g hg with h1 | h1
    · exact h.ri.lg_br h1 rfl
    · have := lt_heap h.ri.mem; omega
  have mbr : w1.heap[br]? = w.heap[br]? := g1.block br (lt_heap h.ri.mem) fun e => h.ri.lg_br e.symm rfl
  have kp : ∀ x, x < w.heap.size → some x ≠ a.lg.ownBlock → x ≠ br → w2.heap[x]? = w.heap[x]? := fun x hx h1 h2 => (g2.block x (Nat.lt_of_lt_of_le hx g1.size) fun e => h2 (Option.some.inj e)).trans (g1.block x hx h1)
  have k : Kz w w2 := fun t ht b c hb => by
    refine (kp b (lt_heap hb) (fun e => ?_) (fun e => ?_)).trans hb
    · exact h.ri.mut (h.ri.o_lg e.symm) t ht c hb
    · subst e; exact h.ri.mut h.ri.o_br t ht c hb
  have k1 : Kz w1 w2 := g2.kzs fun c t ht hc => by rw [mbr, h.ri.mem] at hc; injection hc with hc; injection hc with _ hc; subst hc; revert ht; decide
  have mp : ∀ m : Nat, (∃ es c, w.heap[m]? = some (Obj.map es c)) → w2.heap[m]? = w.heap[m]? := fun m hm => kp m (by obtain ⟨_, _, h⟩ := hm; exact lt_heap h) (fun e => ne_mc hm (h.ri.clg e.symm) rfl) (ne_mc hm h.ri.cbr)
  refine ⟨⟨⟨m2, h.ri.vm.keep (fun _ _ h => h.kz k) (mp _ h.ri.vm.obj), h.ri.wm.keep (fun _ _ h => h.kz k) (mp _ h.ri.wm.obj), h.ri.kn.keep (fun _ _ h => h.kz k) (mp _ h.ri.kn.obj), h.ri.mt.keep (fun _ _ h => h.kz k) (mp _ h.ri.mt.obj), h.ri.pp.keep (fun _ _ h => h.kz k) (mp _ h.ri.pp.obj), h.ri.ac.keep (w' := w2) (fun v x (h : NIn w v x) => (show NIn w2 v x from h)) (mp _ h.ri.ac.obj), ho.kz k1 (fun g hg => ?_), h.ri.st.kz k, owns_rely h.ri.ob (fun g hg => ?_), h.ri.sep⟩, fun b o hb => ?_, g2.os.trans (g1.os.trans h.os), g2.out.trans (g1.out.trans h.out)⟩, k⟩
  · obtain ⟨cur, hc⟩ := ho.obj hg
    exact g2.block g (lt_heap hc) fun e => hobr g hg (Option.some.inj e)
  · exact kp g (h.ri.lt (h.ri.o_ob hg)) (fun e => h.ri.lg_ob e.symm hg rfl) (h.ri.ob_br hg)
  · obtain ⟨p1, p2⟩ := h.pr b o hb
    have hl := lt_heap p1
    refine ⟨(kp b hl (fun e => p2 (h.ri.o_lg e.symm)) (fun e => p2 (by rw [e]; exact h.ri.o_br))).trans p1, fun ho => ?_⟩
    rcases ho with e | e | e | e | e | e | e | e | e
    · exact p2 (.inl e)
    · exact p2 (.inr (.inl e))
    · exact p2 (.inr (.inr (.inl e)))
    · exact p2 (.inr (.inr (.inr (.inl e))))
    · exact p2 (.inr (.inr (.inr (.inr (.inl e)))))
    · exact p2 (.inr (.inr (.inr (.inr (.inr (.inl e))))))
    · exact p2 (.inr (.inr (.inr (.inr (.inr (.inr (.inl e)))))))
    · rcases hn b e with h1 | h1
      · exact p2 (h.ri.o_lg h1)
      · omega
    · exact p2 (h.ri.o_ob e)
/-- The shard laid anew. -/
theorem Wa.st' (h : Wa Λ br R a w) {s : St} {T M D O I : Value} (hs : ShIn w1 T M D O I s) (m1 : Hl w1 br (rcC { R with st := s } { a with sT := T, sM := M, sD := D, sO := O, sI := I }) 152) (g : GB (some br) w w1) : Wa Λ br { R with st := s } { a with sT := T, sM := M, sD := D, sO := O, sI := I } w1 ∧ Kz w w1 := by
  have k := h.ri.kz h.ri.o_br g
  have r := h.ri
  refine ⟨⟨⟨m1, r.vm.keep (fun _ _ h => h.kz k) (r.far r.o_vm g (ne_mc r.vm.obj r.cbr)), r.wm.keep (fun _ _ h => h.kz k) (r.far r.o_wm g (ne_mc r.wm.obj r.cbr)), r.kn.keep (fun _ _ h => h.kz k) (r.far r.o_kn g (ne_mc r.kn.obj r.cbr)), r.mt.keep (fun _ _ h => h.kz k) (r.far r.o_mt g (ne_mc r.mt.obj r.cbr)), r.pp.keep (fun _ _ h => h.kz k) (r.far r.o_pp g (ne_mc r.pp.obj r.cbr)), r.ac.keep (w' := w1) (fun v x (h : NIn w v x) => (show NIn w1 v x from h)) (r.far r.o_ac g (ne_mc r.ac.obj r.cbr)), r.lg.kz k (fun x hx => r.far (r.o_lg hx) g (r.lg_br hx)), hs, owns_rely r.ob (fun x hx => r.far (r.o_ob hx) g (r.ob_br hx)), r.sep⟩, fun b o hb => ?_, g.os.trans h.os, g.out.trans h.out⟩, k⟩
  exact ⟨g.get (h.pr b o hb).1 fun e => (h.pr b o hb).2 (by cases e; exact r.o_br), (h.pr b o hb).2⟩
end
/-- What a log makes of a shard: as yet a letter. -/
structure Apl where
  N : Nat
  enc : MM → ByteArray
  ap : St → MC → St × Rep
  bg : Nat → Nat → St
  dec : ByteArray → Option MM
  good : Nat → St → Prop
  gc : MC → Prop
structure AplOK (A : Apl) : Prop where
  marsh : MarshOK A.enc
  call : ∀ {k : Nat} (w : World) (s : St) (c : MC) (vT vM vD vO vI cv : Value), ShIn w vT vM vD vO vI s → A.good k s → CIn w cv c → A.gc c → CY 12 #[.agg #[.int .u8 s.g, .int .u8 s.n, vT, vM, vD, vO, vI], cv] w (fun v w' => ∃ T M D O I, v = .tuple #[.agg #[.int .u8 (A.ap s c).1.g, .int .u8 (A.ap s c).1.n, T, M, D, O, I], .agg (A.ap s c).2.cells.toArray] ∧ (∀ w'' : World, (∀ x, w.heap.size ≤ x → x < w'.heap.size → w''.heap[x]? = w'.heap[x]?) → ShIn w'' T M D O I (A.ap s c).1) ∧ GB none w w')
  good' : ∀ {k} s c, k ≤ 60 → A.good k s → A.gc c → A.good (k + 1) (A.ap s c).1
  rep : ∀ {k} s c, A.good k s → A.gc c → 0 ≤ (A.ap s c).2.c
  src : ∀ {k} s c, A.good k s → A.gc c → c.kind = 2 → 0 ≤ c.r.src ∧ c.r.src.toNat < s.I.length
  nop : A.gc zMC
  parse : ∀ (w : World) (d : ByteArray), CY 113 #[.string d] w (fun v w' => (∃ mv e m, v = .tuple #[mv, .int .i64 e] ∧ MIn w' mv m ∧ ((e = 0 ∧ A.dec d = some m ∧ 1 ≤ m.kind ∧ m.kind ≤ 10) ∨ (e ≠ 0 ∧ A.dec d = none))) ∧ GB none w w')
  beg : ∀ (w : World) (g n : Nat), g < n → n ≤ 4 → CY 8 #[.int .i64 g, .int .i64 n] w (fun v w' => ∃ T M D O I e, v = .tuple #[.agg #[.int .u8 (A.bg g n).g, .int .u8 (A.bg g n).n, T, M, D, O, I], .int .i64 e] ∧ (∀ w'' : World, (∀ x, w.heap.size ≤ x → x < w'.heap.size → w''.heap[x]? = w'.heap[x]?) → ShIn w'' T M D O I (A.bg g n)) ∧ GB none w w')
  bgood : ∀ g n, n = A.N → g < n → n ≤ 4 → A.good 0 (A.bg g n)
  dl : ∀ {k} s, A.good k s → s.D.length ≤ 1000000
  ol : ∀ {k} s, A.good k s → s.O.length ≤ 200
  inn : ∀ {k} s, A.good k s → ∀ (i : Nat) (x : Int), s.I[i]? = some x → 0 ≤ x
theorem AplOK.next {A : Apl} (HA : AplOK A) {l : List MC} {s : St} {c : MC} (h : A.good l.length s) (hl : l.length ≤ 60) (hc : A.gc c) : A.good (l ++ [c]).length (A.ap s c).1 := by rw [List.length_append]; exact HA.good' _ _ hl h hc
section
variable (A : Apl)
def mAns (R : MR) (c : MC) (p : Rep) : MR := if c.kind = 1 then mTell A.enc R p else if c.kind = 2 then mAck A.enc R c.r.src.toNat (oth R.sc.g R.sc.i c.r.src.toNat R.sc.sz) else R
def mDo (R : MR) (c : MC) : MR := if R.sc.role = 2 then mAns A { R with st := (A.ap R.st c).1, log := R.log ++ [c] } c (A.ap R.st c).2 else { R with st := (A.ap R.st c).1, log := R.log ++ [c] }
def mCatch : Nat → MR → MR
  | 0, R => R
  | n + 1, R => match R.known R.log.length with
    | none => R
    | some c => mCatch n (mDo A { R with known := upd R.known R.log.length none } c)
def mAgree (R : MR) (s : Nat) (c : MC) : MR := if s < R.log.length then R else mCatch A 61 { R with props := upd R.props s none, acc := upd R.acc s none, sc := { R.sc with next := max R.sc.next (s + 1) }, known := upd R.known s (some c) }
end
theorem Snd_len (enc : MM → ByteArray) (R : MR) (m : MM) (tl : List (Nat × Nat)) : (Snd enc R m tl).out.length = R.out.length + tl.length := by simp [Snd, mSend]
section
variable {A : Apl} (HA : AplOK A) {Λ : Snp} {w : World} {br : Nat} {R : MR}
include HA
theorem ans_ok (h : Wk Λ br R w) {c : MC} {cv : Value} (hc : CIn w cv c) {p : Rep} (hp : 0 ≤ p.c) (hs : c.kind = 2 → 0 ≤ c.r.src ∧ c.r.src.toNat < R.st.I.length) (hz : R.sc.sz ≤ 5) (hb : R.out.length ≤ 900000) : CY 229 #[.pointer (some ⟨br, 0, none⟩), cv, .agg p.cells.toArray] w (fun v w' => v = .tuple #[] ∧ Wk Λ br (mAns A R c p) w' ∧ Kz w w') := by
  obtain ⟨rv, dv, rfl, hr⟩ := hc
  refine callE Tryz.func229 rfl rfl ?_
  intro w1 b1 m1 g1 l1 w2 b2 m2 g2 l2
  have m1 := g2.get m1 nofun
  have g := g1.trans g2
  refine ⟨_, _, m1, _, rfl, ?_⟩
  unfold mAns
  refine spl (fun d => ?_) (fun d => ?_)
  · have d1 : c.kind = 1 := by simpa using d
    rw [if_pos d1]
    refine ⟨_, _, m2, _, rfl, rfl, _, tell_ok HA.marsh (h.gb0 g) hp hb, ?_⟩
    rintro _ w3 ⟨rfl, h3, k3⟩
    exact ⟨rfl, h3, g.kz.trans k3⟩
  · have d1 : ¬ c.kind = 1 := by simpa using d
    rw [if_neg d1]
    refine spl (fun e => ?_) (fun e => ?_)
    · have e1 : c.kind = 2 := by simpa using e
      rw [if_pos e1]
      obtain ⟨s0, s1⟩ := hs e1
      have es : (c.r.src.toNat : Int) = c.r.src := Int.toNat_of_nonneg s0
      refine ⟨by kernel_rfl, _, _, m1, _, rfl, _, _, m1, _, rfl, ?_⟩
      have ho := others_ok (h.gb0 g) c.r.src.toNat hz
      rw [es] at ho
      refine ⟨_, ho, ?_⟩
      rintro v w3 ⟨hv, g3⟩
      have hol := oth_len R.sc.g R.sc.i c.r.src.toNat R.sc.sz
      have ha := ack_ok HA.marsh ((h.gb0 g).gb0 g3) s1 hv (by omega)
      rw [es] at ha
      refine ⟨⟨g3.get m1 nofun, g3.get m1 nofun, trivial⟩, _, ha, ?_⟩
      rintro _ w4 ⟨rfl, h4, k4⟩
      exact ⟨rfl, h4, (g.trans g3).kz.trans k4⟩
    · have e1 : ¬ c.kind = 2 := by simpa using e
      rw [if_neg e1]
      exact ⟨rfl, h.gb0 g, g.kz⟩
theorem do_ok (h : Wk Λ br R w) {c : MC} {cv : Value} (hc : CIn w cv c) {k : Nat} (hk60 : k ≤ 60) (hg : A.good k R.st) (hgc : A.gc c) (hz : R.sc.sz ≤ 5) (hl : R.log.length ≤ 1000) (hb : R.out.length ≤ 900000) : CY 203 #[.pointer (some ⟨br, 0, none⟩), cv] w (fun v w' => v = .tuple #[] ∧ Wk Λ br (mDo A R c) w' ∧ Kz w w') := by
  have hc0 := hc
  obtain ⟨rv, dv, rfl, hr⟩ := hc
  refine callE Tryz.func203 rfl rfl ?_
  intro w1 b1 m1 g1 l1 w2 b2 m2 g2 l2
  obtain ⟨h1, u1⟩ := h.box g1 m1 l1
  have g := g1.trans g2
  obtain ⟨a, h1⟩ := h1
  obtain ⟨vm, wm, kn, mt, pp, ac, lg, ob, sT, sM, sD, sO, sI⟩ := a
  have h2 := h1.gb0 g2
  have hbr : br < w1.heap.size := lt_heap h1.ri.mem
  refine ⟨by kernel_rfl, _, _, h2.ri.mem, _, rfl, rfl, _, _, g2.get m1 nofun, _, rfl, rfl, _, HA.call w2 R.st c _ _ _ _ _ _ h2.ri.st hg (hc0.kz g.kz) hgc, ?_⟩
  rintro _ w3 ⟨T, M, D, O, I, rfl, hs3, g3⟩
  have h3 := h2.gb0 g3
  obtain ⟨ta, tn, tc, ma, mn, mc, da, dn, dc, oa, on, oc, ia, il, ic, rfl, rfl, rfl, rfl, rfl⟩ := (hs3 w3 fun _ _ _ => rfl).sl
  refine ⟨_, _, _, h3.ri.mem, rfl, rfl, fun w4 m4 g4 => ?_⟩
  have m2' : Hl w4 b2 (zc eng.T 57) 57 := g4.get (g3.get m2 nofun) fun e => by cases e; omega
  refine ⟨_, _, _, m2', rfl, rfl, fun w5 m5 g5 => ?_⟩
  have g15 : GB (some br) w1 w5 := ⟨g5.os.trans (g4.os.trans (g3.os.trans g2.os)), g5.out.trans (g4.out.trans (g3.out.trans g2.out)), Nat.le_trans g2.size (Nat.le_trans g3.size (Nat.le_trans g4.size g5.size)), fun x hx hne => (g5.block x (Nat.lt_of_lt_of_le hx (Nat.le_trans g2.size (Nat.le_trans g3.size g4.size))) (fun e => by cases e; omega)).trans ((g4.block x (Nat.lt_of_lt_of_le hx (Nat.le_trans g2.size g3.size)) hne).trans ((g3.block x (Nat.lt_of_lt_of_le hx g2.size) nofun).trans (g2.block x hx nofun)))⟩
  have b2lt : b2 < w2.heap.size := lt_heap m2
  obtain ⟨h5, k5⟩ := h1.st' (hs3 w5 fun x hx hx3 => (g5.block x (Nat.lt_of_lt_of_le hx3 g4.size) (fun e => by cases e; omega)).trans (g4.block x hx3 fun e => by cases e; have := g2.size; omega)) (g5.get m4 fun e => by cases e; omega) g15
  have m1' : w5.heap[b1]? = _ := (h5.pr b1 _ (by unfold Snp.add; simp; rfl)).1
  obtain ⟨la, lc, rfl⟩ : ∃ la lc, lg = .slice la R.log.length lc := by obtain ⟨_, _, h, _⟩ := h5.ri.lg; exact own_slice h
  obtain ⟨ra, rn, rc, da', dn', dc', rfl, rfl⟩ := hr.sl
  refine ⟨by kernel_rfl, _, _, h5.ri.mem, _, rfl, _, _, m1', _, rfl, rfl, fun w6 b6 m6 g6 l6 => ?_⟩
  have h6 := h5.gb0 g6
  obtain ⟨ps, hpl, hlo, hlr⟩ := h6.ri.lg
  refine ⟨⟨g6.get m1' nofun, h6.ri.mem, trivial⟩, _, mcC c (.slice ra rn rc) (.slice da' dn' dc'), hlo, ⟨_, _, m6, rfl, rfl, rfl⟩, by omega, fun lv w7 ho7 g7 n7 => ?_⟩
  obtain ⟨la', lc', rfl⟩ := own_slice ho7
  have m7 : w7.heap[br]? = _ := (g7.block br (lt_heap h6.ri.mem) fun e => h6.ri.lg_br e.symm rfl).trans h6.ri.mem
  refine ⟨_, _, _, m7, rfl, rfl, fun w8 m8 g8 => ?_⟩
  have k67 : Kz w6 w7 := fun t ht b cc hb => g7.get hb fun e => h6.ri.mut (h6.ri.o_lg e.symm) t ht cc hb
  have kall : Kz w w6 := (g1.kz.trans k5).trans g6.kz
  obtain ⟨h8, k8⟩ := h6.lg' (ls := R.log ++ [c]) g7 ⟨ps ++ [(.slice ra rn rc, .slice da' dn' dc')], by simp [hpl], by rw [List.length_append, List.zipWith_append (by rw [hpl]), List.flatten_append]; exact ho7, fun i x p hx hp => (app_rel hpl hlr (hr.kz kall) i x p hx hp).kz k67⟩ n7 m8 g8
  have kfin := kall.trans k8
  unfold mDo
  refine ⟨_, _, h8.ri.mem, _, rfl, spl (fun d => ?_) (fun d => ?_)⟩
  · have d1 : R.sc.role = 2 := by simp at d; omega
    rw [if_pos d1]
    have m1'' : w8.heap[b1]? = _ := (h8.pr b1 _ (by unfold Snp.add; simp; rfl)).1
    have m5' : w8.heap[b2]? = _ := k8 _ (by decide) _ _ (g6.get m5 nofun)
    refine ⟨_, _, m1'', _, rfl, rfl, _, _, m5', _, rfl, rfl, _, ans_ok HA ⟨_, h8⟩ ⟨_, _, rfl, hr.kz kfin⟩ (HA.rep _ _ hg hgc) (fun hk => HA.src _ c (HA.good' _ _ hk60 hg hgc) hgc hk) hz hb, ?_⟩
    rintro _ w9 ⟨rfl, h9, k9⟩
    exact ⟨rfl, h9.drop u1, kfin.trans k9⟩
  · have d1 : ¬ R.sc.role = 2 := by simp at d; omega
    rw [if_neg d1]
    exact ⟨rfl, Wk.drop ⟨_, h8⟩ u1, kfin⟩
end
def bts (l : List Int) : List Value := l.map fun b => .int .u8 b
theorem bts_app (a b : List Int) : bts (a ++ b) = bts a ++ bts b := List.map_append
structure Put (w : World) (v : Value) (n : Nat) (xs : List Value) (new : List Int) (v' : Value) (w' : World) : Prop where
  row : w'.ownsRow 0 5 1 v' (n + new.length) (xs ++ bts new)
  gb : GB v.ownBlock w w'
  own : ∀ g, v'.ownBlock = some g → v.ownBlock = some g ∨ w.heap.size ≤ g
theorem ne_ty {w : World} {x y : Nat} {c c' : Array Value} {t t' : TypeId} (h : w.heap[x]? = some (.cells c t)) (h' : w.heap[y]? = some (.cells c' t')) (hne : t ≠ t') : x ≠ y := fun e => by
  subst e; rw [h] at h'; injection h' with h'; injection h' with _ h'; exact hne h'
section
variable {w w0 w1 w2 : World} {v v1 v2 : Value} {n : Nat} {xs : List Value} {a b : List Int}
theorem Put.trans (h : Put w v n xs a v1 w1) (k : Put w1 v1 (n + a.length) (xs ++ bts a) b v2 w2) : Put w v n xs (a ++ b) v2 w2 := by
  refine ⟨?_, ⟨k.gb.os.trans h.gb.os, k.gb.out.trans h.gb.out, Nat.le_trans h.gb.size k.gb.size, fun x hx hn => (k.gb.block x (Nat.lt_of_lt_of_le hx h.gb.size) fun e => ?_).trans (h.gb.block x hx hn)⟩, fun g hg => ?_⟩
  · have := k.row
    rw [List.append_assoc, ← bts_app, Nat.add_assoc, ← List.length_append] at this
    exact this
  · rcases h.own x e.symm with q | q
    · exact hn q.symm
    · omega
  · rcases k.own g hg with q | q
    · exact h.own g q
    · exact .inr (Nat.le_trans h.gb.size q)
theorem Put.pre (g : GB none w0 w) (h : Put w v n xs a v1 w1) : Put w0 v n xs a v1 w1 := ⟨h.row, ⟨h.gb.os.trans g.os, h.gb.out.trans g.out, Nat.le_trans g.size h.gb.size, fun x hx hn => (h.gb.block x (Nat.lt_of_lt_of_le hx g.size) hn).trans (g.block x hx nofun)⟩, fun x hx => (h.own x hx).imp id fun e => Nat.le_trans g.size e⟩
theorem Put.nil (ho : w.ownsRow 0 5 1 v n xs) : Put w v n xs [] v w := ⟨by simpa [bts] using ho, GB.refl _ _, fun _ h => .inl h⟩
theorem Put.get (h : Put w v n xs a v1 w1) (ho : w.ownsRow 0 5 1 v n xs) {x : Nat} {c : Array Value} {t : TypeId} (hx : w.heap[x]? = some (.cells c t)) (ht : t ≠ 5) : w1.heap[x]? = some (.cells c t) := h.gb.get hx fun e => by
  obtain ⟨c', hc⟩ := own_obj ho e.symm
  exact ne_ty hx hc ht rfl
theorem own_gb0 (ho : w.ownsRow 0 5 1 v n xs) (g : GB none w w1) : w1.ownsRow 0 5 1 v n xs := owns_rely ho fun x hx => by obtain ⟨c, hc⟩ := own_obj ho hx; exact g.block x (lt_heap hc) nofun
theorem put8_ok (ho : w.ownsRow 0 5 1 v n xs) (hn : n ≤ 900000000) (x : Int) : CY 214 #[v, .int .u8 x] w (fun v' w' => Put w v n xs [x] v' w') := by
  obtain ⟨va, vc, rfl⟩ := own_slice ho
  refine callE Tryz.func214 rfl rfl ?_
  refine fun w1 b1 m1 g1 l1 => ?_
  refine ⟨_, [.int .u8 x], own_gb0 ho g1, ⟨_, _, m1, rfl, rfl, rfl⟩, by omega, fun v' w2 ho2 g2 n2 => ?_⟩
  exact Put.pre g1 ⟨ho2, g2, n2⟩
def b32 (x : Int) : List Int := [IntKind.u8.wrap (x.fdiv (2 ^ 24)), IntKind.u8.wrap (x.fdiv (2 ^ 16)), IntKind.u8.wrap (x.fdiv (2 ^ 8)), IntKind.u8.wrap x]
theorem put32_ok (ho : w.ownsRow 0 5 1 v n xs) (hn : n ≤ 900000000) (x : Int) : CY 220 #[v, .int .u32 x] w (fun v' w' => Put w v n xs (b32 x) v' w') := by
  obtain ⟨va, vc, rfl⟩ := own_slice ho
  refine callE Tryz.func220 rfl rfl ?_
  refine ⟨by decide, .inr ⟨by decide, .inr ⟨by decide, .inr (.inr (fun w1 b1 m1 g1 l1 => ?_))⟩⟩⟩
  refine ⟨_, bts (b32 x), own_gb0 ho g1, ⟨_, _, m1, rfl, rfl, rfl⟩, by omega, fun v' w2 ho2 g2 n2 => ?_⟩
  exact Put.pre g1 ⟨ho2, g2, n2⟩
def b64 (x : Int) : List Int := b32 (IntKind.u32.wrap (x.fdiv (2 ^ 32))) ++ b32 (IntKind.u32.wrap x)
theorem put64_ok (ho : w.ownsRow 0 5 1 v n xs) (hn : n ≤ 800000000) (x : Int) : CY 234 #[v, .int .u64 x] w (fun v' w' => Put w v n xs (b64 x) v' w') := by
  refine callE Tryz.func234 rfl rfl ?_
  refine ⟨by decide, .inr ⟨_, put32_ok ho (by omega) _, ?_⟩⟩
  intro v1 w1 p1
  refine .inr ⟨_, put32_ok p1.row (by show n + 4 ≤ _; omega) _, ?_⟩
  intro v2 w2 p2
  exact p1.trans p2
end
end
end Go.Proofs.YtignemioillaiaaGreat
