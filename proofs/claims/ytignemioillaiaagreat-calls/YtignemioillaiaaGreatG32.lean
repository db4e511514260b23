/- A replica at work (24): takePromise. -/
import Derived.Test.YtignemioillaiaaGreatG31
namespace Go.Proofs.YtignemioillaiaaGreat
set_option maxHeartbeats 8000000
set_option linter.unusedSectionVars false
set_option maxRecDepth 100000
section
open Go Go.Conc
def metAll (g : Nat → Option MV) (vs : List MV) : Nat → Option MV := vs.foldl metPut g
theorem metPut_none {g : Nat → Option MV} {v : MV} (h : g v.slot = none) : metPut g v = upd g v.slot (some v) := by unfold metPut; rw [h]
theorem metPut_yes {g : Nat → Option MV} {v o : MV} (h : g v.slot = some o) (hb : o.b.lt v.b = true) : metPut g v = upd g v.slot (some v) := by unfold metPut; rw [h]; exact if_pos hb
theorem metPut_no {g : Nat → Option MV} {v o : MV} (h : g v.slot = some o) (hb : o.b.lt v.b = false) : metPut g v = g := by unfold metPut; rw [h]; exact if_neg (by rw [hb]; decide)
def mPromise (A : Apl) (R : MR) (f : Nat × Nat) (b : Bal) (vs : List MV) : MR := if R.sc.role ≠ 1 ∨ b ≠ R.sc.b then R else mCntP A { R with met := metAll R.met vs } f.2
theorem metAll_take {g : Nat → Option MV} {vs : List MV} {k : Nat} {v : MV} (h : vs[k]? = some v) : metAll g (vs.take (k + 1)) = metPut (metAll g (vs.take k)) v := by
  unfold metAll
  rw [List.take_add_one, h, Option.toList_some, List.foldl_append]; rfl
theorem metAll_ok {P : Nat → MV → Prop} : ∀ (vs : List MV) {g : Nat → Option MV}, (∀ k v, g k = some v → P k v) → (∀ v ∈ vs, P v.slot v) → ∀ k v, metAll g vs k = some v → P k v
  | [], g, hg, _ => hg
  | x :: vs, g, hg, hv => by
    have : ∀ k v, metPut g x k = some v → P k v := by
      cases h : g x.slot with
      | none => rw [metPut_none h]; exact upd_put hg (hv x (List.mem_cons_self ..))
      | some o =>
        cases hb : o.b.lt x.b with
        | true => rw [metPut_yes h hb]; exact upd_put hg (hv x (List.mem_cons_self ..))
        | false => rw [metPut_no h hb]; exact hg
    exact metAll_ok vs this fun v h => hv v (List.mem_cons_of_mem _ h)
theorem vote_at {l : List MV} {ps : List (Value × Value)} (_hl : ps.length = l.length) {k : Nat} {x : MV} {p : Value × Value} (hx : l[k]? = some x) (hp : ps[k]? = some p) : cutL (List.zipWith (fun x p => mvC x p.1 p.2) l ps).flatten (k * 20) 20 = mvC x p.1 p.2 := by
  have h := elemL (f := fun q : MV × (Value × Value) => mvC q.1 q.2.1 q.2.2) (size := 20) (fun _ => rfl) (l.zip ps) k (x, p) (by rw [List.getElem?_zip_eq_some]; exact ⟨hx, hp⟩)
  rw [← h]
  congr 1
  rw [List.flatMap_def, List.map_zip_eq_zipWith]
  rfl
section
variable {A : Apl} {R : MR}
theorem Ok.metAll (ho : Ok A R) {vs : List MV} (hv : ∀ v ∈ vs, A.gc v.c ∧ v.slot < 60) : Ok A { R with met := metAll R.met vs } := ⟨ho.sz, ho.i, ho.st, ho.kn, ho.pp, ho.vt, ho.wv, metAll_ok (P := fun k (v : MV) => A.gc v.c ∧ k < 60 ∧ v.slot = k) vs ho.mt fun v h => ⟨(hv v h).1, (hv v h).2, rfl⟩, ho.ac, ho.pr, ho.lg, ho.lc, ho.nx, ho.sn⟩
end
section
variable {A : Apl} (HA : AplOK A) {Λ : Snp} {w : World} {br : Nat} {R : MR}
include HA
theorem promise_ok (h : Wk Λ br R w) (ho : Ok A R) (f : Nat × Nat) (hf : f.2 < 5) (b : Bal) {vs : List MV} (hv : ∀ v ∈ vs, A.gc v.c ∧ v.slot < 60) (hvl : vs.length ≤ 1000000) {vv : Value} (hvs : VsIn w vv vs) (hb : R.out.length ≤ 840000) : CY 116 #[.pointer (some ⟨br, 0, none⟩), .agg #[.int .u8 f.1, .int .u8 f.2], .agg (bC b).toArray, vv] w (fun v w' => v = .tuple #[] ∧ Wk Λ br (mPromise A R f b vs) w' ∧ Kz w w') := by
  have hvs0 := hvs
  obtain ⟨va, vc, rfl⟩ := hvs.sl
  refine callE Tryz.func116 rfl rfl ?_
  intro w1 b1 m1 g1 l1 w2 b2 m2 g2 l2
  have m1 := g2.get m1 nofun
  have g := g1.trans g2
  have h20 := h.gb0 g
  have h2 := h20
  obtain ⟨a, h2⟩ := h2
  refine ⟨by kernel_rfl, _, _, h2.ri.mem, _, rfl, spl (fun c => ?_) (fun c => ?_)⟩
  · have c1 : R.sc.role = 1 := by simp at c; omega
    refine ⟨_, _, m2, _, rfl, rfl, _, _, h2.ri.mem, _, rfl, rfl, spl (fun d => ?_) (fun d => ?_)⟩
    · have d1 : b ≠ R.sc.b := by rintro rfl; simp at d
      have em : mPromise A R f b vs = R := if_pos (.inr d1)
      rw [em]
      exact ⟨rfl, h20, g.kz⟩
    · have d1 : b = R.sc.b := by
        have e : b.n = R.sc.b.n ∧ b.id = R.sc.b.id := by simp at d; omega
        exact Bal.eq e.1 e.2
      have em : mPromise A R f b vs = mCntP A { R with met := metAll R.met vs } f.2 := if_neg (by rintro (e | e); exact e c1; exact e d1)
      rw [em]
      obtain ⟨ps, hpl, ⟨va', vc', hve, hvc, hvl', hvd⟩, hps⟩ := hvs0.kz g.kz
      cases hve
      refine ⟨fun q s w3 => ∃ (k : Nat), q = vs.length - k ∧ k ≤ vs.length ∧ s = [(0, .pointer (some ⟨br, 0, none⟩)), (5, .pointer (some ⟨b1, 0, none⟩)), (26, .slice va vs.length vc), (27, .int .i64 vs.length), (28, .int .i64 k)] ∧ Wk Λ br { R with met := metAll R.met (vs.take k) } w3 ∧ Kz w2 w3, ⟨_, _, ⟨0, rfl, Nat.zero_le _, rfl, h20, Kz.refl _⟩, sb rfl⟩, ?_⟩
      rintro q s w3 ⟨k, rfl, hk, rfl, ⟨a3, h3⟩, k3⟩
      refine spl (fun e => ?_) (fun e => ?_)
      · have e1 : k < vs.length := by simp at e; omega
        rcases hvd with ⟨_, h0⟩ | ⟨B, off, cs, rfl, hB, hcut⟩
        · omega
        obtain ⟨x, hx⟩ : ∃ x, vs[k]? = some x := ⟨vs[k], by simp [e1]⟩
        obtain ⟨⟨rv, dv⟩, hp⟩ : ∃ p, ps[k]? = some p := ⟨ps[k], by simp [hpl, e1]⟩
        have hr := (hps k x _ hx hp).kz k3
        obtain ⟨ra, rn, rc, da, dn, dc, er, ed⟩ := hr.sl
        dsimp only at er ed
        subst er ed
        have hB3 := k3 _ (by decide) _ _ hB
        refine ⟨⟨by omega, by omega⟩, _, _, hB3, mvC x (.slice ra rn rc) (.slice da dn dc), (Fz.elem hcut e1).trans (vote_at hpl hx hp), rfl, fun w4 b4 m4 g4 l4 => ⟨_, _, _, m4, rfl, rfl, fun w5 m5 g5 => ?_⟩⟩
        have g35 : GB none w3 w5 := g4.new g5 l4
        have h5 := h3.box g35 m5 l4
        have u5 := h3.unp l4
        obtain ⟨ff, e1', e2', e3'⟩ := h5.ri.mt
        refine ⟨by kernel_rfl, _, _, h5.ri.mem, _, rfl, _, _, m5, _, rfl, ff, e1', ?_⟩
        have hv5 : ∀ w', Kz w5 w' → VIn w' (.agg (mvC x (.slice ra rn rc) (.slice da dn dc)).toArray) x := fun w' kk => ⟨_, _, rfl, (hr.kz g35.kz).kz kk⟩
        rcases mapG_at e3' x.slot with ⟨n1, n2⟩ | ⟨o, v, n1, n2, rv, dv, rfl, hro⟩
        · rw [n2]
          refine fun w6 b6 m6 g6 l6 => ⟨⟨e1'.keep (g6.block _ (h5.ri.lt h5.ri.o_mt) nofun), g6.get m5 nofun, (h5.gb0 g6).ri.mem, trivial⟩, ⟨_, _, _, m6, rfl, rfl, fun w7 m7 g7 => ?_⟩⟩
          have g57 : GB none w5 w7 := g6.new g7 l6
          have h7 := h5.gb0 g57
          have m5' := g57.get m5 nofun
          obtain ⟨f7, p1, p2, p3⟩ := h7.ri.mt
          refine ⟨by kernel_rfl, _, _, h7.ri.mem, _, rfl, _, _, m5', _, rfl, _, _, m5', mvC x (.slice ra rn rc) (.slice da dn dc), rfl, rfl, f7, p1, fun w8 m8 g8 => ?_⟩
          have k8 := h7.ri.kz h7.ri.o_mt g8
          have h8 := h7.step h7.ri.o_mt g8 (h7.ri.mt' g8 (MapG.put (fun _ _ h => h.kz k8) p2 p3 (hv5 w8 (g57.kz.trans k8)) m8))
          refine ⟨by omega, _, _, ⟨k + 1, rfl, by omega, rfl, ?_, k3.trans ((g35.kz.trans g57.kz).trans k8)⟩, (sb rfl), by omega⟩
          rw [metAll_take hx, metPut_none n1]
          exact Wk.drop ⟨_, h8⟩ u5
        · rw [n2]
          obtain ⟨ra', rn', rc', da', dn', dc', rfl, rfl⟩ := hro.sl
          refine fun w6 b6 m6 g6 l6 => ⟨⟨e1'.keep (g6.block _ (h5.ri.lt h5.ri.o_mt) nofun), g6.get m5 nofun, (h5.gb0 g6).ri.mem, trivial⟩, ⟨_, _, _, m6, rfl, rfl, fun w7 m7 g7 => ?_⟩⟩
          have g57 : GB none w5 w7 := g6.new g7 l6
          have m5' := g57.get m5 nofun
          refine ⟨_, _, m7, bC o.b, rfl, rfl, _, _, m5', bC x.b, rfl, rfl, _, below_ok w7 o.b x.b, ?_⟩
          rintro _ w8 ⟨rfl, g8⟩
          have g58 := g57.trans g8
          have h8 := h5.gb0 g58
          have m5' := g58.get m5 nofun
          refine spl (fun j => ?_) (fun j => ?_)
          · obtain ⟨f7, p1, p2, p3⟩ := h8.ri.mt
            refine ⟨by kernel_rfl, _, _, h8.ri.mem, _, rfl, _, _, m5', _, rfl, _, _, m5', mvC x (.slice ra rn rc) (.slice da dn dc), rfl, rfl, f7, p1, fun w9 m9 g9 => ?_⟩
            have k9 := h8.ri.kz h8.ri.o_mt g9
            have h9 := h8.step h8.ri.o_mt g9 (h8.ri.mt' g9 (MapG.put (fun _ _ h => h.kz k9) p2 p3 (hv5 w9 (g58.kz.trans k9)) m9))
            refine ⟨by omega, _, _, ⟨k + 1, rfl, by omega, rfl, ?_, k3.trans ((g35.kz.trans g58.kz).trans k9)⟩, (sb rfl), by omega⟩
            rw [metAll_take hx, metPut_yes n1 j]
            exact Wk.drop ⟨_, h9⟩ u5
          · refine ⟨by omega, _, _, ⟨k + 1, rfl, by omega, rfl, ?_, k3.trans (g35.kz.trans g58.kz)⟩, (sb rfl), by omega⟩
            rw [metAll_take hx, metPut_no n1 j]
            exact Wk.drop ⟨_, h8⟩ u5
      · have e1 : k = vs.length := by simp at e; omega
        subst e1
        rw [List.take_length] at h3
        have m1' := k3 _ (by decide) _ _ m1
        refine ⟨_, _, m1', _, rfl, _, cntP_ok HA ⟨_, h3⟩ (ho.metAll hv) hf hb, ?_⟩
        rintro _ w4 ⟨rfl, h4, k4⟩
        exact ⟨rfl, h4, (g.kz.trans k3).trans k4⟩
  · have c1 : R.sc.role ≠ 1 := by simp at c; omega
    have em : mPromise A R f b vs = R := if_pos (.inl c1)
    rw [em]
    exact ⟨rfl, h20, g.kz⟩
end
theorem zip_at {α β : Type} {F : α → β → List Value} {size : Nat} (hF : ∀ x y, (F x y).length = size) {l : List α} {ps : List β} {k : Nat} {x : α} {p : β} (hx : l[k]? = some x) (hp : ps[k]? = some p) : cutL (List.zipWith F l ps).flatten (k * size) size = F x p := by
  have h := elemL (f := fun q : α × β => F q.1 q.2) (size := size) (fun q => hF q.1 q.2) (l.zip ps) k (x, p) (by rw [List.getElem?_zip_eq_some]; exact ⟨hx, hp⟩)
  rw [← h]
  congr 1
  rw [List.flatMap_def, List.map_zip_eq_zipWith]
  rfl
def rem1 (enc : MM → ByteArray) (R : MR) (k : Nat) : MR := match R.props k with
  | some c => mSA enc R k c
  | none => R
def rem2 (enc : MM → ByteArray) (R : MR) (g : Nat) : MR := match (R.st.O.getD g (0, [])).2 with
  | [] => R
  | r :: _ => Snd enc R { zMM 9 with r := r } (oth R.sc.g R.sc.i g R.sc.sz)
def mRem1 (enc : MM → ByteArray) (R : MR) (n : Nat) : MR := (List.range n).foldl (rem1 enc) R
def mRem2 (enc : MM → ByteArray) (R : MR) (n : Nat) : MR := (List.range n).foldl (rem2 enc) R
def mRemind (enc : MM → ByteArray) (R : MR) : MR := mRem2 enc (mRem1 enc R R.sc.next) R.st.O.length
theorem mRem1_succ (enc : MM → ByteArray) (R : MR) (n : Nat) : mRem1 enc R (n + 1) = rem1 enc (mRem1 enc R n) n := by unfold mRem1; rw [List.range_succ, List.foldl_append]; rfl
theorem mRem2_succ (enc : MM → ByteArray) (R : MR) (n : Nat) : mRem2 enc R (n + 1) = rem2 enc (mRem2 enc R n) n := by unfold mRem2; rw [List.range_succ, List.foldl_append]; rfl
/-- Only packets are added. -/
structure OutOnly (R R' : MR) (n : Nat) : Prop where
  eq : R' = { R with out := R'.out }
  len : R'.out.length ≤ R.out.length + n
theorem OutOnly.snd {R R' : MR} {n : Nat} (h : OutOnly R R' n) (enc : MM → ByteArray) (m : MM) {tl : List (Nat × Nat)} (ht : tl.length ≤ 5) : OutOnly R (Snd enc R' m tl) (n + 5) := by
  refine ⟨?_, by rw [Snd_len]; have := h.len; omega⟩
  have h1 : Snd enc R' m tl = { R' with out := (Snd enc R' m tl).out } := rfl
  rw [h1]
  have := h.eq
  generalize (Snd enc R' m tl).out = o
  rw [this]
theorem OutOnly.weak {R R' : MR} {n m : Nat} (h : OutOnly R R' n) (hm : n ≤ m) : OutOnly R R' m := ⟨h.eq, by have := h.len; omega⟩
theorem OutOnly.f {R R' : MR} {n : Nat} (h : OutOnly R R' n) : R'.sc = R.sc ∧ R'.props = R.props ∧ R'.st = R.st := by rw [h.eq]; exact ⟨rfl, rfl, rfl⟩
theorem OutOnly.ok {A : Apl} {R R' : MR} {n : Nat} (h : OutOnly R R' n) (o : Ok A R) : Ok A R' := by
  rw [h.eq]
  exact ⟨o.sz, o.i, o.st, o.kn, o.pp, o.vt, o.wv, o.mt, o.ac, o.pr, o.lg, o.lc, o.nx, o.sn⟩
theorem mRem1_out (enc : MM → ByteArray) (R : MR) (hz : R.sc.sz ≤ 5) : ∀ n, OutOnly R (mRem1 enc R n) (5 * n)
  | 0 => ⟨rfl, Nat.le_refl _⟩
  | n + 1 => by
    have ih := mRem1_out enc R hz n
    rw [mRem1_succ]
    unfold rem1
    split
    · have := oth_len (mRem1 enc R n).sc.g (mRem1 enc R n).sc.i (mRem1 enc R n).sc.g (mRem1 enc R n).sc.sz
      rw [ih.f.1] at this
      exact ih.snd _ _ (by rw [ih.f.1]; omega)
    · exact ih.weak (by omega)
theorem mRem2_out (enc : MM → ByteArray) (R : MR) (hz : R.sc.sz ≤ 5) : ∀ n, OutOnly R (mRem2 enc R n) (5 * n)
  | 0 => ⟨rfl, Nat.le_refl _⟩
  | n + 1 => by
    have ih := mRem2_out enc R hz n
    rw [mRem2_succ]
    unfold rem2
    split
    · exact ih.weak (by omega)
    · have := oth_len (mRem2 enc R n).sc.g (mRem2 enc R n).sc.i n (mRem2 enc R n).sc.sz
      rw [ih.f.1] at this
      exact ih.snd _ _ (by rw [ih.f.1]; omega)
theorem lane_cut {w : World} {vO : Value} {O : List (Int × List Rg)} (h : ∃ qs : List Value, qs.length = O.length ∧ Fz w 103 2 vO O.length (List.zipWith (fun (o : Int × List Rg) q => [Value.int .u32 o.1, q]) O qs).flatten ∧ ∀ (i : Nat) (o : Int × List Rg) (q : Value), O[i]? = some o → qs[i]? = some q → QIn w q o.2) {p : Nat} (hp : p < O.length) : ∃ b off cap cs n q, vO = .slice (some ⟨b, off, none⟩) O.length cap ∧ O.length ≤ cap ∧ w.heap[b]? = some (.cells cs 103) ∧ cutL cs.toList (off + p * 2) 2 = [.int .u32 n, q] ∧ QIn w q (O.getD p (0, [])).2 := by
  obtain ⟨qs, h1, ⟨a, c, rfl, h3, h4, h5⟩, h6⟩ := h
  rcases h5 with ⟨_, h0⟩ | ⟨b, off, cs, rfl, hb, hcut⟩
  · omega
  obtain ⟨o, ho⟩ : ∃ o, O[p]? = some o := ⟨O[p], by simp [hp]⟩
  obtain ⟨q, hq⟩ : ∃ q, qs[p]? = some q := ⟨qs[p], by simp [h1, hp]⟩
  refine ⟨b, off, c, cs, o.1, q, rfl, h3, hb, (Fz.elem hcut hp).trans (zip_at (F := fun (o : Int × List Rg) q => [Value.int .u32 o.1, q]) (fun _ _ => rfl) ho hq), ?_⟩
  rw [List.getD_eq_getElem?_getD, ho]
  exact h6 p o q ho hq
section
variable {A : Apl} (HA : AplOK A) {Λ : Snp} {w : World} {br : Nat} {R : MR}
include HA
theorem remind_ok (h : Wk Λ br R w) (ho : Ok A R) (hb : R.out.length ≤ 880000) : CY 110 #[.pointer (some ⟨br, 0, none⟩)] w (fun v w' => v = .tuple #[] ∧ Wk Λ br (mRemind A.enc R) w' ∧ Kz w w') := by
  have h0 := h
  obtain ⟨a, h⟩ := h
  have hz := ho.sz
  have hnx := ho.nx
  have hol := HA.ol _ ho.st
  refine callE Tryz.func110 rfl rfl ?_
  refine ⟨_, _, h.ri.mem, _, rfl, ?_⟩
  refine ⟨fun n s w' => ∃ (k : Nat), n = R.sc.next - k ∧ k ≤ R.sc.next ∧ s = [(0, .pointer (some ⟨br, 0, none⟩)), (10, .int .u32 R.sc.next), (11, .int .u32 k)] ∧ Wk Λ br (mRem1 A.enc R k) w' ∧ Kz w w', ⟨_, _, ⟨0, rfl, Nat.zero_le _, rfl, h0, Kz.refl _⟩, sb rfl⟩, ?_⟩
  rintro n s w1 ⟨k, rfl, hk, rfl, h10, k1⟩
  have h1 := h10
  obtain ⟨a1, h1⟩ := h1
  have O1 := mRem1_out A.enc R hz k
  obtain ⟨f1, f2, f3⟩ := O1.f
  have lo1 := O1.len
  refine spl (fun c => ?_) (fun c => ?_)
  · have c1 : k < R.sc.next := by simp at c; omega
    obtain ⟨f, e1, e2, e3⟩ := h1.ri.pp
    refine ⟨_, _, h1.ri.mem, _, rfl, f, e1, fun w2 b2 m2 g2 l2 => ?_⟩
    rcases mapG_at e3 k with ⟨n1, n2⟩ | ⟨y, v, n1, n2, rv, dv, rfl, hr⟩
    · rw [n2]
      refine ⟨_, _, _, m2, rfl, rfl, fun w3 m3 g3 => ?_⟩
      have g13 : GB none w1 w3 := g2.new g3 l2
      refine ⟨by omega, _, _, ⟨k + 1, rfl, by omega, rfl, ?_, k1.trans g13.kz⟩, (sb rfl), by omega⟩
      rw [mRem1_succ]
      unfold rem1
      rw [n1]
      exact h10.gb0 g13
    · rw [n2]
      obtain ⟨ra, rn, rc, da, dn, dc, rfl, rfl⟩ := hr.sl
      refine ⟨_, _, _, m2, rfl, rfl, fun w3 m3 g3 => ?_⟩
      have g13 : GB none w1 w3 := g2.new g3 l2
      refine ⟨_, _, m3, mcC y (.slice ra rn rc) (.slice da dn dc), rfl, rfl, _, sa_ok HA.marsh (h10.gb0 g13) (by rw [f1]; exact hz) (c := y) ⟨_, _, rfl, hr.kz g13.kz⟩ (by omega), ?_⟩
      rintro _ w4 ⟨rfl, h4, k4⟩
      refine ⟨by omega, _, _, ⟨k + 1, rfl, by omega, rfl, ?_, (k1.trans g13.kz).trans k4⟩, (sb rfl), by omega⟩
      rw [mRem1_succ]
      unfold rem1
      rw [n1]
      exact h4
  have c1 : k = R.sc.next := by simp at c; omega
  subst c1
  have o1 : Ok A (mRem1 A.enc R R.sc.next) := O1.ok ho
  have eR : mRemind A.enc R = mRem2 A.enc (mRem1 A.enc R R.sc.next) (mRem1 A.enc R R.sc.next).st.O.length := by unfold mRemind; rw [f3]
  have hol1 : (mRem1 A.enc R R.sc.next).st.O.length ≤ 200 := by rw [f3]; exact hol
  have hz1 : (mRem1 A.enc R R.sc.next).sc.sz ≤ 5 := by rw [f1]; exact hz
  rw [eR]
  generalize mRem1 A.enc R R.sc.next = R1 at *
  obtain ⟨vm, wm, kn, mt, pp, ac, lg, ob, sT, sM, sD, sO, sI⟩ := a1
  have hO := h1.ri.st.O
  obtain ⟨oa, oc, rfl⟩ : ∃ oa oc, sO = .slice oa R1.st.O.length oc := by obtain ⟨_, _, ⟨a, c, h, _⟩, _⟩ := hO; exact ⟨a, c, h⟩
  refine ⟨_, _, h1.ri.mem, _, rfl, ?_⟩
  refine ⟨fun n s w' => ∃ (k : Nat), n = R1.st.O.length - k ∧ k ≤ R1.st.O.length ∧ s = [(0, .pointer (some ⟨br, 0, none⟩)), (33, .slice oa R1.st.O.length oc), (34, .int .i64 R1.st.O.length), (35, .int .i64 k)] ∧ Wk Λ br (mRem2 A.enc R1 k) w' ∧ Kz w1 w', ⟨_, _, ⟨0, rfl, Nat.zero_le _, rfl, h10, Kz.refl _⟩, sb rfl⟩, ?_⟩
  rintro n s w2 ⟨k, rfl, hk, rfl, h2, k2⟩
  have O2 := mRem2_out A.enc R1 hz1 k
  obtain ⟨q1, q2, q3⟩ := O2.f
  have lo2 := O2.len
  refine spl (fun d => ?_) (fun d => ?_)
  · have d1 : k < R1.st.O.length := by simp at d; omega
    obtain ⟨B, off, cap, cs, nn, q, ee, hcap, hB, hcut, hQ⟩ := lane_cut hO d1
    cases ee
    have hQ2 := hQ.kz k2
    obtain ⟨qa, qn, qc, rfl⟩ : ∃ qa qn qc, q = .slice qa qn qc := by obtain ⟨_, _, ⟨a, c, h, _⟩, _⟩ := hQ; exact ⟨a, _, c, h⟩
    refine ⟨⟨by omega, by omega⟩, _, _, k2 _ (by decide) _ _ hB, [.int .u32 nn, .slice qa qn qc], hcut, rfl, fun w3 b3 m3 g3 l3 => ⟨_, _, _, m3, rfl, rfl, fun w4 m4 g4 => ?_⟩⟩
    have g24 : GB none w2 w4 := g3.new g4 l3
    have h4 := h2.gb0 g24
    refine ⟨_, _, m4, _, rfl, ?_⟩
    cases hl : (R1.st.O.getD k (0, [])).2 with
    | nil =>
      rw [hl] at hQ2
      obtain ⟨_, _, ⟨_, _, he, _⟩, _⟩ := hQ2
      cases he
      refine ⟨by omega, _, _, ⟨k + 1, rfl, by omega, rfl, ?_, k2.trans g24.kz⟩, (sb rfl), by omega⟩
      rw [mRem2_succ]
      unfold rem2
      rw [q3, hl]
      exact h4
    | cons r rs =>
      rw [hl] at hQ2
      obtain ⟨b, o, qc', cq, rv, dv, he, hqc, hbq, hcq, hr⟩ := hQ2.hd
      cases he
      have e2 : mRem2 A.enc R1 (k + 1) = Snd A.enc (mRem2 A.enc R1 k) { zMM 9 with r := r } (oth (mRem2 A.enc R1 k).sc.g (mRem2 A.enc R1 k).sc.i k (mRem2 A.enc R1 k).sc.sz) := by
        rw [mRem2_succ]
        unfold rem2
        rw [q3, hl]
      refine spl (fun e => ?_) (fun e => ?_)
      · have hbq4 := g24.get hbq nofun
        refine ⟨by kernel_rfl, _, _, m4, _, rfl, ⟨by omega, by omega⟩, _, _, hbq4, rgC r rv dv, hcq, rfl, .inl ⟨by omega, _, others_ok h4 k (by rw [q1]; exact hz1), ?_⟩⟩
        rintro v w5 ⟨hv, g5⟩
        have hol := oth_len (mRem2 A.enc R1 k).sc.g (mRem2 A.enc R1 k).sc.i k (mRem2 A.enc R1 k).sc.sz
        rw [q1] at hol
        refine ⟨⟨g5.get hbq4 nofun, g5.get m4 nofun, trivial⟩, _, snd_ok HA.marsh (h4.gb0 g5) (m := { zMM 9 with r := r }) ⟨_, _, _, _, _, rfl, RgIn.zero _, VsIn.zero _, (hr.kz g24.kz).kz g5.kz⟩ hv (by rw [q1]; omega), ?_⟩
        rintro _ w6 ⟨rfl, h6, k6⟩
        refine ⟨by omega, _, _, ⟨k + 1, rfl, by omega, rfl, ?_, ((k2.trans g24.kz).trans g5.kz).trans k6⟩, (sb rfl), by omega⟩
        rw [e2]
        exact h6
      · exfalso; simp at e
  · have d1 : k = R1.st.O.length := by simp at d; omega
    subst d1
    exact ⟨rfl, h2, k1.trans k2⟩
end
def tick1 (A : Apl) (R : MR) : MR := if R.sc.role = 0 then mCamp A R else R
def tick2 (A : Apl) (R : MR) : MR := Snd A.enc R { zMM 3 with b := R.sc.b } (oth R.sc.g R.sc.i R.sc.g R.sc.sz)
def tick3 (A : Apl) (R : MR) : MR := if R.sc.role = 0 then R else if R.sc.role = 2 then mRemind A.enc (tick2 A R) else tick2 A R
def mTick (A : Apl) (R : MR) : MR := tick3 A (tick1 A R)
theorem eq2 {n : Nat} (h : ((n : Int) == 2) = true) : n = 2 := by simp at h; omega
theorem ne2 {n : Nat} (h : ((n : Int) == 2) = false) : ¬ n = 2 := by simp at h; omega
section
variable {A : Apl} (HA : AplOK A) {Λ : Snp} {w : World} {br : Nat} {R : MR}
include HA
theorem Ok.tick1 (ho : Ok A R) : Ok A (tick1 A R) ∧ (tick1 A R).out.length ≤ R.out.length + 20000 ∧ (tick1 A R).sc.i = R.sc.i ∧ (tick1 A R).sc.sz = R.sc.sz := by
  unfold Go.Proofs.YtignemioillaiaaGreat.tick1
  split
  · exact ho.camp HA
  · exact ⟨ho, Nat.le_add_right _ _, rfl, rfl⟩
theorem Ok.tick3 (ho : Ok A R) : Ok A (tick3 A R) := by
  unfold Go.Proofs.YtignemioillaiaaGreat.tick3
  split
  · exact ho
  · have o2 : Ok A (tick2 A R) := ho.snd _ _ _
    split
    · have O1 := mRem1_out A.enc (tick2 A R) ho.sz (tick2 A R).sc.next
      have o3 := O1.ok o2
      exact (mRem2_out A.enc _ o3.sz _).ok o3
    · exact o2
theorem Ok.tick (ho : Ok A R) : Ok A (mTick A R) := (ho.tick1 HA).1.tick3 HA
theorem tick_ok (h : Wk Λ br R w) (ho : Ok A R) (hb : R.out.length ≤ 840000) : CY 60 #[.pointer (some ⟨br, 0, none⟩)] w (fun v w' => v = .tuple #[] ∧ Wk Λ br (mTick A R) w' ∧ Kz w w') := by
  have h0 := h
  obtain ⟨a, h⟩ := h
  obtain ⟨o1, l1, _, _⟩ := ho.tick1 HA
  refine callE Tryz.func60 rfl rfl ?_
  refine ⟨_, _, h.ri.mem, _, rfl, spl (fun c => ?_) (fun c => ?_)⟩
  · have c1 : R.sc.role = 0 := by simp at c; omega
    have e1 : tick1 A R = mCamp A R := if_pos c1
    refine ⟨_, camp_ok HA h0 ho hb, ?_⟩
    rintro _ w1 ⟨rfl, h1, k1⟩
    rw [← e1] at h1
    obtain ⟨a1, h1⟩ := h1
    refine ⟨_, _, h1.ri.mem, _, rfl, spl (fun d => ?_) (fun d => ?_)⟩
    · have d1 : (tick1 A R).sc.role = 0 := by simp at d; omega
      have em : mTick A R = tick1 A R := if_pos d1
      rw [em]
      exact ⟨rfl, ⟨_, h1⟩, k1⟩
    have d1 : ¬ (tick1 A R).sc.role = 0 := by simp at d; omega
    refine ⟨by kernel_rfl, _, _, h1.ri.mem, _, rfl, rfl, _, peers_ok ⟨_, h1⟩ o1.sz, ?_⟩
    rintro v w2 ⟨hv, g2⟩
    have hol := oth_len (tick1 A R).sc.g (tick1 A R).sc.i (tick1 A R).sc.g (tick1 A R).sc.sz
    have hz := o1.sz
    refine ⟨⟨(h1.gb0 g2).ri.mem, trivial⟩, _, snd_ok HA.marsh (Wk.gb0 ⟨_, h1⟩ g2) (m := { zMM 3 with b := (tick1 A R).sc.b }) ⟨_, _, _, _, _, rfl, RgIn.zero _, VsIn.zero _, RgIn.zero _⟩ hv (by omega), ?_⟩
    rintro _ w3 ⟨rfl, h3, k3⟩
    have kk := (k1.trans g2.kz).trans k3
    have h30 : Wk Λ br (tick2 A (tick1 A R)) w3 := h3
    obtain ⟨a3, h3⟩ := h3
    refine ⟨_, _, h3.ri.mem, _, rfl, spl (fun e => ?_) (fun e => ?_)⟩
    · have e1' : (tick1 A R).sc.role = 2 := eq2 e
      have em : mTick A R = mRemind A.enc (tick2 A (tick1 A R)) := (if_neg d1).trans (if_pos e1')
      rw [em]
      refine ⟨_, remind_ok HA h30 (o1.snd _ _ _) (by unfold tick2; rw [Snd_len]; omega), ?_⟩
      rintro _ w4 ⟨rfl, h4, k4⟩
      exact ⟨rfl, h4, kk.trans k4⟩
    · have e1' : ¬ (tick1 A R).sc.role = 2 := ne2 e
      have em : mTick A R = tick2 A (tick1 A R) := (if_neg d1).trans (if_neg e1')
      rw [em]
      exact ⟨rfl, h30, kk⟩
  · have c1 : ¬ R.sc.role = 0 := by simp at c; omega
    have e1 : tick1 A R = R := if_neg c1
    have h1 := h0
    rw [← e1] at h1
    have k1 := Kz.refl w
    obtain ⟨a1, h1⟩ := h1
    refine ⟨_, _, h1.ri.mem, _, rfl, spl (fun d => ?_) (fun d => ?_)⟩
    · have d1 : (tick1 A R).sc.role = 0 := by simp at d; omega
      have em : mTick A R = tick1 A R := if_pos d1
      rw [em]
      exact ⟨rfl, ⟨_, h1⟩, k1⟩
    have d1 : ¬ (tick1 A R).sc.role = 0 := by simp at d; omega
    refine ⟨by kernel_rfl, _, _, h1.ri.mem, _, rfl, rfl, _, peers_ok ⟨_, h1⟩ o1.sz, ?_⟩
    rintro v w2 ⟨hv, g2⟩
    have hol := oth_len (tick1 A R).sc.g (tick1 A R).sc.i (tick1 A R).sc.g (tick1 A R).sc.sz
    have hz := o1.sz
    refine ⟨⟨(h1.gb0 g2).ri.mem, trivial⟩, _, snd_ok HA.marsh (Wk.gb0 ⟨_, h1⟩ g2) (m := { zMM 3 with b := (tick1 A R).sc.b }) ⟨_, _, _, _, _, rfl, RgIn.zero _, VsIn.zero _, RgIn.zero _⟩ hv (by omega), ?_⟩
    rintro _ w3 ⟨rfl, h3, k3⟩
    have kk := (k1.trans g2.kz).trans k3
    have h30 : Wk Λ br (tick2 A (tick1 A R)) w3 := h3
    obtain ⟨a3, h3⟩ := h3
    refine ⟨_, _, h3.ri.mem, _, rfl, spl (fun e => ?_) (fun e => ?_)⟩
    · have e1' : (tick1 A R).sc.role = 2 := eq2 e
      have em : mTick A R = mRemind A.enc (tick2 A (tick1 A R)) := (if_neg d1).trans (if_pos e1')
      rw [em]
      refine ⟨_, remind_ok HA h30 (o1.snd _ _ _) (by unfold tick2; rw [Snd_len]; omega), ?_⟩
      rintro _ w4 ⟨rfl, h4, k4⟩
      exact ⟨rfl, h4, kk.trans k4⟩
    · have e1' : ¬ (tick1 A R).sc.role = 2 := ne2 e
      have em : mTick A R = tick2 A (tick1 A R) := (if_neg d1).trans (if_neg e1')
      rw [em]
      exact ⟨rfl, h30, kk⟩
end
def mWrite (R : MR) : MR := { R with sc := { R.sc with wb := R.sc.b }, wvotes := orM R.votes R.wvotes }
def mStart (A : Apl) (R : MR) : MR := { mStand R with known := fun _ => none, votes := orM R.wvotes fun _ => none, sc := { (mStand R).sc with b := R.sc.wb, seen := R.sc.wb.n }, log := [], st := A.bg R.sc.g R.sc.gs }
section
variable {A : Apl} {Λ : Snp} {w : World} {br : Nat} {R : MR}
theorem orM_ok {P : Nat → MV → Prop} {f g : Nat → Option MV} (hf : ∀ k v, f k = some v → P k v) (hg : ∀ k v, g k = some v → P k v) : ∀ k v, orM f g k = some v → P k v := by
  intro k v h
  unfold orM at h
  cases hv : f k with
  | none => rw [hv] at h; exact hg k v h
  | some x => rw [hv] at h; exact hf k v (hv.trans h)
theorem Ok.write (ho : Ok A R) : Ok A (mWrite R) := ⟨ho.sz, ho.i, ho.st, ho.kn, ho.pp, ho.vt, orM_ok ho.vt ho.wv, ho.mt, ho.ac, ho.pr, ho.lg, ho.lc, ho.nx, ho.sn.1, ho.sn.2.1, ho.sn.2.1⟩
end
section
variable {A : Apl} (HA : AplOK A) {Λ : Snp} {w : World} {br : Nat} {R : MR}
include HA
theorem Ok.start (ho : Ok A R) : Ok A (mStart A R) := ⟨ho.sz, ho.i, HA.bgood _ _ ho.i.2.2.2 ho.i.2.1 ho.i.2.2.1, fun _ _ h => (by cases h), fun _ _ h => (by cases h), orM_ok ho.wv (fun _ _ h => (by cases h)), ho.wv, fun _ _ h => (by cases h), fun _ _ h => (by cases h), Nat.zero_lt_succ _, Nat.zero_le _, fun _ h => (by cases h), ho.nx, ho.sn.2.2, ho.sn.2.2, ho.sn.2.2⟩
theorem start_ok (h : Wk Λ br R w) (hg : R.sc.g < R.sc.gs) (hn : R.sc.gs ≤ 4) : CY 61 #[.pointer (some ⟨br, 0, none⟩)] w (fun v w' => v = .tuple #[] ∧ Wk Λ br (mStart A R) w' ∧ Kz w w') := by
  refine callE Tryz.func61 rfl rfl ?_
  refine ⟨_, stand_ok br R Λ w h, ?_⟩
  rintro _ w1 ⟨rfl, ⟨a, h1⟩, k1⟩
  have eS : mStart A R = { mStand R with known := fun _ => none, votes := orM (mStand R).wvotes fun _ => none, sc := { (mStand R).sc with b := (mStand R).sc.wb, seen := (mStand R).sc.wb.n }, log := [], st := A.bg (mStand R).sc.g (mStand R).sc.gs } := rfl
  have hg : (mStand R).sc.g < (mStand R).sc.gs := hg
  have hn : (mStand R).sc.gs ≤ 4 := hn
  rw [eS]
  generalize mStand R = R1 at *
  obtain ⟨vm, wm, kn, mt, pp, ac, lg, ob, sT, sM, sD, sO, sI⟩ := a
  obtain ⟨f, e1, _⟩ := h1.ri.kn
  refine ⟨_, _, h1.ri.mem, _, rfl, f, e1, fun w2 m2 g2 => ?_⟩
  have h2 : Wa Λ br { R1 with known := fun _ => none } ⟨vm, wm, kn, mt, pp, ac, lg, ob, sT, sM, sD, sO, sI⟩ w2 := h1.step h1.ri.o_kn g2 (h1.ri.kn' g2 (MapG.none m2))
  have k2 := k1.trans (h1.ri.kz h1.ri.o_kn g2)
  obtain ⟨f, e1, _⟩ := h2.ri.vm
  refine ⟨_, _, h2.ri.mem, _, rfl, f, e1, fun w3 m3 g3 => ?_⟩
  have h3 : Wa Λ br { R1 with known := fun _ => none, votes := fun _ => none } ⟨vm, wm, kn, mt, pp, ac, lg, ob, sT, sM, sD, sO, sI⟩ w3 := h2.step h2.ri.o_vm g3 (h2.ri.vm' g3 (MapG.none m3))
  have k3 := k2.trans (h2.ri.kz h2.ri.o_vm g3)
  have hne : wm ≠ vm := by have := h3.ri.sep; simp at this; omega
  refine ⟨by kernel_rfl, _, _, h3.ri.mem, _, rfl, _, _, h3.ri.mem, _, rfl, _, copy_ok h3.ri.vm h3.ri.wm hne, ?_⟩
  rintro _ w4 ⟨rfl, hm4, g4⟩
  have h4 : Wa Λ br { R1 with known := fun _ => none, votes := orM R1.wvotes fun _ => none } ⟨vm, wm, kn, mt, pp, ac, lg, ob, sT, sM, sD, sO, sI⟩ w4 := h3.step h3.ri.o_vm g4 (h3.ri.vm' g4 hm4)
  have k4 := k3.trans (h3.ri.kz h3.ri.o_vm g4)
  refine ⟨_, _, h4.ri.mem, _, rfl, rfl, _, _, _, h4.ri.mem, rfl, rfl, fun w5 m5 g5 => ?_⟩
  have h5 : Wa Λ br { R1 with known := fun _ => none, votes := orM R1.wvotes fun _ => none, sc := { R1.sc with b := R1.sc.wb } } ⟨vm, wm, kn, mt, pp, ac, lg, ob, sT, sM, sD, sO, sI⟩ w5 := h4.cell (s' := { R1.sc with b := R1.sc.wb }) m5 g5
  have k5 := k4.trans (h4.ri.kz h4.ri.o_br g5)
  refine ⟨_, _, h5.ri.mem, _, rfl, _, _, _, h5.ri.mem, rfl, rfl, fun w6 m6 g6 => ?_⟩
  have h6 : Wa Λ br { R1 with known := fun _ => none, votes := orM R1.wvotes fun _ => none, sc := { R1.sc with b := R1.sc.wb, seen := R1.sc.wb.n } } ⟨vm, wm, kn, mt, pp, ac, lg, ob, sT, sM, sD, sO, sI⟩ w6 := h5.cell (s' := { R1.sc with b := R1.sc.wb, seen := R1.sc.wb.n }) m6 g6
  have k6 := k5.trans (h5.ri.kz h5.ri.o_br g6)
  refine ⟨_, _, _, h6.ri.mem, rfl, rfl, fun w7 m7 g7 => ?_⟩
  obtain ⟨h7, k7⟩ := h6.lg' (lv := .slice none 0 0) (ls := []) (GB.refl _ _) ⟨[], rfl, own0 _ _ _, fun i c p h => (by simp at h)⟩ nofun m7 g7
  have k7 := k6.trans k7
  have h7 : Wa Λ br { R1 with known := fun _ => none, votes := orM R1.wvotes fun _ => none, sc := { R1.sc with b := R1.sc.wb, seen := R1.sc.wb.n }, log := [] } ⟨vm, wm, kn, mt, pp, ac, .slice none 0 0, ob, sT, sM, sD, sO, sI⟩ w7 := h7
  refine ⟨by kernel_rfl, _, _, h7.ri.mem, _, rfl, .inl ⟨(fun (n : Nat) (h : n ≤ 4) => (by omega : -9223372036854775808 ≤ (n : Int) ∧ (n : Int) ≤ 9223372036854775807)) R1.sc.g (by omega), _, _, h7.ri.mem, _, rfl, _, HA.beg w7 R1.sc.g R1.sc.gs hg hn, ?_⟩⟩
  rintro _ w8 ⟨T, M, D, O, I, e, rfl, hs, g8⟩
  obtain ⟨ta, tn, tc, ma, mn, mc, da, dn, dc, oa, on, oc, ia, il, ic, rfl, rfl, rfl, rfl, rfl⟩ := (hs _ fun _ _ _ => rfl).sl
  have h8 := h7.gb0 g8
  refine ⟨_, _, _, h8.ri.mem, rfl, rfl, fun w9 m9 g9 => ?_⟩
  have hbr : br < w7.heap.size := lt_heap h7.ri.mem
  obtain ⟨h9, k9⟩ := h8.st' (hs w9 fun x hx hx3 => g9.block x hx3 fun e => by cases e; omega) m9 g9
  exact ⟨rfl, ⟨_, h9⟩, (k7.trans g8.kz).trans k9⟩
end
end
end Go.Proofs.YtignemioillaiaaGreat
