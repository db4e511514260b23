/- Code in pieces: what is asked of each names what follows by what it leaves. -/
import Derived.Test.YtignemioillaiaaGreatG29
namespace Go.Proofs.YtignemioillaiaaGreat
set_option maxHeartbeats 8000000
set_option linter.unusedSectionVars false
set_option maxRecDepth 100000
section
open Go Go.Conc
structure CS (P : Program) [Ser P] (n : Nat) (c : Code) (K : Ex → Sg → World → Prop) (s : Sg) (w : World) : Prop where
  go : ∀ {main : Bool} {D : World → World → Array Event → Prop} {X : Goroutine → World → Prop} (_ : SX P main D X) (b : Frame) (cs : List Frame), b.kind ≠ .early → ∀ (k : List Item), (∀ e s w, K e s w → Aft X b cs n k e s w) → ∀ a, Fit n s a → X (G (b.at a (.code c :: k)) cs) w
section
variable {P : Program} [Ser P] {n : Nat} {c x y : Code} {K K' : Ex → Sg → World → Prop} {s q : Sg} {w : World}
theorem CS.of (E : Eng P) (hm : P.follows .mixedOrders = true) (h : codeW E n c K s w) : CS P n c K s w := ⟨fun hX _b _cs hk k hK a hf => codeW_ok hX hk hm c K k hK s w a hf h⟩
theorem CS.e [Ser Tryz.prog] (h : codeW eng n c K s w) : CS Tryz.prog n c K s w := CS.of eng mixed h
theorem CS.sub (h : CS P n c K q w) (hs : SubL q s) : CS P n c K s w := ⟨fun hX b cs hk k hK a hf => h.go hX b cs hk k hK a (hf.sub hs)⟩
theorem CS.mono (h : CS P n c K s w) (hk : ∀ e s w, K e s w → K' e s w) : CS P n c K' s w := ⟨fun hX b cs hb k hK a hf => h.go hX b cs hb k (fun e s w he => hK e s w (hk e s w he)) a hf⟩
theorem CS.seq (h : CS P n x (fun e s w => pkE (CS P n y K s w) (K e s w) e) s w) : CS P n (.seq x y) K s w := ⟨fun hX b cs hk k hK a hf => hX.c.seq (h.go hX b cs hk (.code y :: k) (fun e s w he a hf => by
  cases e with
  | n => exact (show CS P n y K s w from he).go hX b cs hk k hK a hf
  | x j => exact hK (.x j) s w he a hf
  | r => exact hK .r s w he a hf) a hf)⟩
/-- A piece falls through, and leaves q. -/
def Thru (Q : Sg → World → Prop) (e : Ex) (s : Sg) (w : World) : Prop := match e with
  | .n => ∃ q, SubL q s ∧ Q q w
  | _ => False
theorem CS.piece {Q : Sg → World → Prop} (h : CS P n x (Thru Q) s w) (hy : ∀ q w, Q q w → CS P n y K q w) : CS P n (.seq x y) K s w := CS.seq (h.mono fun e s w he => by
  cases e with
  | n => obtain ⟨q, h1, h2⟩ := (show ∃ q, SubL q s ∧ Q q w from he); exact (hy q w h2).sub h1
  | x j => exact he.elim
  | r => exact he.elim)
theorem CS.cond {o : Operand} (t : Bool) (he : ev s o = some (.bool t)) (h : CS P n (bif t then x else y) K s w) : CS P n (.cond o x y) K s w := ⟨fun hX b cs hk k hK a hf => by
  refine hX.c.cond t (hf.ev _ _ he) ?_
  cases t
  · exact h.go hX b cs hk k hK a hf
  · exact h.go hX b cs hk k hK a hf⟩
/-- How a piece is left, and what it leaves. -/
def Out (Qn : Sg → World → Prop) (Qx : Nat → Sg → World → Prop) (Qr : Sg → World → Prop) (e : Ex) (s : Sg) (w : World) : Prop := match e with
  | .n => ∃ q, SubL q s ∧ Qn q w
  | .x j => ∃ q, SubL q s ∧ Qx j q w
  | .r => ∃ q, SubL q s ∧ Qr q w
theorem CS.cut {Qn : Sg → World → Prop} {Qx : Nat → Sg → World → Prop} {Qr : Sg → World → Prop} (h : CS P n x (Out Qn Qx Qr) s w) (hn : ∀ q w, Qn q w → CS P n y K q w) (hx : ∀ j q s w, Qx j q w → SubL q s → K (.x j) s w) (hr : ∀ q s w, Qr q w → SubL q s → K .r s w) : CS P n (.seq x y) K s w := CS.seq (h.mono fun e s w he => by
  cases e with
  | n => obtain ⟨q, h1, h2⟩ := (show ∃ q, SubL q s ∧ Qn q w from he); exact (hn q w h2).sub h1
  | x j => obtain ⟨q, h1, h2⟩ := (show ∃ q, SubL q s ∧ Qx j q w from he); exact hx j q s w h2 h1
  | r => obtain ⟨q, h1, h2⟩ := (show ∃ q, SubL q s ∧ Qr q w from he); exact hr q s w h2 h1)
theorem rvW_sub {E : Eng P} : ∀ {rs : List ResultVar} {L : List Value → Prop}, SubL q s → rvW E w q L rs → rvW E w s L rs
  | [], _, _, h => h
  | .tmp t :: r, L, hs, h => by
    unfold rvW at h ⊢
    cases hq : at? q t with
    | none => rw [hq] at h; exact h.elim
    | some v => rw [hq] at h; rw [hs.get hq]; exact rvW_sub hs h
  | .cell p t :: r, L, hs, h => by
    unfold rvW at h ⊢
    cases hq : at? q p with
    | none => rw [hq] at h; exact h.elim
    | some v =>
      rw [hq] at h
      rw [hs.get hq]
      dsimp only at h ⊢
      unfold ldW at h ⊢
      split at h
      · split at h
        · rename_i y hy
          obtain ⟨xs, ty, h1, h2⟩ := h
          refine ⟨xs, ty, h1, ?_⟩
          cases hS : isS y with
          | true =>
            rw [hS] at h2
            dsimp only [sif] at h2 ⊢
            cases h0 : Nat.beq (szT E.T t) 0 with
            | true => rw [h0] at h2; exact (show False from h2).elim
            | false => rw [h0] at h2; dsimp only at h2 ⊢; obtain ⟨c, a1, a2, a3⟩ := h2; exact ⟨c, a1, a2, rvW_sub hs a3⟩
          | false => rw [hS] at h2; dsimp only [sif] at h2 ⊢; obtain ⟨v, a1, a2⟩ := h2; exact ⟨v, a1, rvW_sub hs a2⟩
        · exact h.elim
      · exact h.elim
theorem retW_sub {E : Eng P} {rs : List ResultVar} {Post : Value → World → Prop} (hs : SubL q s) (h : rvW E w q (tupW Post w) rs) : retW E rs Post .r s w := rvW_sub hs h
end
theorem callS {P : Program} [Ser P] (E : Eng P) {f : FuncId} {fn : Func} {c : Code} {args : List Value} {w : World} {Post : Value → World → Prop} (hf : P.funcs[f]? = some fn) (hb : fn.body = some c) (hn : Nat.ble args.length fn.ntmps = true) (h : CS P fn.ntmps c (retW E fn.results.toList Post) (argS args 0) w) {main : Bool} {D : World → World → Array Event → Prop} {X : Goroutine → World → Prop} (hX : SX P main D X) {cs : List Frame} (hk : ∀ fr v w', fr.fn = f → fr.leaving P w' (.returned v) → Post v w' → X (G fr cs) w') : X (G (Frame.enter P f args.toArray .normal) cs) w := by
  rw [enter_at (P := P) args.toArray hf hb]
  have hle := Nat.le_of_ble_eq_true hn
  refine h.go hX _ cs (by unfold Go.Conc.base; exact nofun) [] ?_ _ ?_
  · intro e s w he a hfit
    have fin : ∀ todo, rvW E w s (tupW Post w) fn.results.toList → X (G { (Go.Conc.base f).at a todo with mode := .returning } cs) w := by
      intro todo hr
      obtain ⟨l, h1, h2⟩ := rvW_ok _ _ a.tmps hfit.get hr
      have hres : (results fn a.tmps).run P w = .ok (if h : l.toArray.size = 1 then l.toArray[0] else .tuple l.toArray) w := by
        have e : results fn a.tmps = (do let vs ← fn.results.mapM (resF a.tmps); pure (if h : vs.size = 1 then vs[0] else .tuple vs)) := by
          unfold results
          congr 2
        have e2 : (fn.results.mapM (resF a.tmps)).run P w = .ok l.toArray w := by
          rw [show fn.results.mapM (resF a.tmps) = List.toArray <$> (fn.results.toList.mapM (resF a.tmps)) from Array.mapM_eq_mapM_toList ..]
          show Sem.run P ((fn.results.toList.mapM (resF a.tmps)) >>= fun l => pure l.toArray) w = _
          rw [Sem.run_bind, h2]; rfl
        rw [e, Sem.run_bind, e2]
        rfl
      refine hk _ (if h : l.toArray.size = 1 then l.toArray[0] else .tuple l.toArray) w rfl ⟨rfl, hfit.defers, rfl, fn, hf, hres⟩ ?_
      unfold tupW at h1
      split at h1
      · exact h1
      · rename_i hne
        rw [dif_neg]
        · exact h1
        · intro h1
          simp only [List.size_toArray] at h1
          obtain ⟨v, rfl⟩ := List.length_eq_one_iff.1 h1
          exact hne v rfl
    cases e with
    | n => exact hX.c.fin (fin [] he)
    | x j => exact he.elim
    | r => exact fun todo => fin todo he
  · refine ⟨rfl, ?_, fun i v hi => ?_⟩
    · simp; omega
    · obtain ⟨d, h1, h2⟩ := argS_get hi
      rw [Nat.zero_add] at h1
      subst h1
      have hlt : i < args.length := (List.getElem?_eq_some_iff.1 h2).1
      rw [Array.getD_eq_getD_getElem?]
      show (((args.toArray ++ Array.replicate _ undef)[i]?).getD undef) = v
      rw [Array.getElem?_append_left (by simpa using hlt)]
      simp [h2]
theorem callYS {P : Program} (E : Eng P) {f : FuncId} {fn : Func} {c : Code} {args : List Value} {w : World} {Post : Value → World → Prop} (hf : P.funcs[f]? = some fn) (hb : fn.body = some c) (hn : Nat.ble args.length fn.ntmps = true) (h : CS P fn.ntmps c (retW E fn.results.toList Post) (argS args 0) w) : CallsY P f args.toArray w Post :=
  fun _ _ _ _ hX hk => callS E hf hb hn h ⟨hX, trivial⟩ hk
def mOffer (A : Apl) (R : MR) (c : MC) : MR := if 60 ≤ R.sc.next ∨ mHolds R.props c = true ∨ mHolds R.known c = true then R else mProp A { R with sc := { R.sc with next := R.sc.next + 1 } } R.sc.next c
section
variable {A : Apl} (HA : AplOK A)
include HA
theorem Ok.offer {R : MR} (ho : Ok A R) {c : MC} (hgc : A.gc c) : Ok A (mOffer A R c) ∧ (mOffer A R c).out.length ≤ R.out.length + 315 ∧ (mOffer A R c).sc.i = R.sc.i ∧ (mOffer A R c).sc.sz = R.sc.sz := by
  unfold mOffer
  split
  · exact ⟨ho, by omega, rfl, rfl⟩
  · rename_i h
    have h60 : R.sc.next < 60 := by omega
    have o2 : Ok A { R with sc := { R.sc with next := R.sc.next + 1 } } := ⟨ho.sz, ho.i, ho.st, ho.kn, ho.pp, ho.vt, ho.wv, ho.mt, ho.ac, ho.pr, ho.lg, ho.lc, by show R.sc.next + 1 ≤ 60; omega, ho.sn⟩
    exact o2.prop HA h60 hgc
variable {Λ : Snp} {w : World} {br : Nat} {R : MR}
theorem offer_ok (h : Wk Λ br R w) (ho : Ok A R) {c : MC} (hgc : A.gc c) {cv : Value} (hc : CIn w cv c) (hb : R.out.length ≤ 870000) : CY 164 #[.pointer (some ⟨br, 0, none⟩), cv] w (fun v w' => v = .tuple #[] ∧ Wk Λ br (mOffer A R c) w' ∧ Kz w w') := by
  obtain ⟨rv, dv, rfl, hr⟩ := hc
  refine callE Tryz.func164 rfl rfl ?_
  intro w1 b1 m1 g1 l1
  obtain ⟨a, h⟩ := h
  have h1 := h.box g1 m1 l1
  have u1 := h.unp l1
  have hnx := ho.nx
  refine ⟨by kernel_rfl, _, _, h1.ri.mem, _, rfl, spl (fun d => ?_) (fun d => ?_)⟩
  · have d1 : R.sc.next < 60 := by simp at d; omega
    have hc1 : CIn w1 (.agg (mcC c rv dv).toArray) c := ⟨_, _, rfl, hr.kz g1.kz⟩
    refine ⟨_, _, h1.ri.mem, _, rfl, _, _, m1, mcC c rv dv, rfl, rfl, _, holds_ok h1.ri.pp (fun k d h => (ho.pp k d h).2) hc1, ?_⟩
    rintro _ w2 ⟨rfl, g2⟩
    have h2 := h1.gb0 g2
    have m2 := g2.get m1 nofun
    refine ⟨⟨m2, h2.ri.mem, h2.ri.mem, trivial⟩, spl (fun e => ?_) (fun e => ?_)⟩
    · have e1 : mHolds R.props c = false := eq_of_beq e
      refine ⟨⟨_, _, h2.ri.mem, _, rfl, _, _, m2, mcC c rv dv, rfl, rfl, _, holds_ok h2.ri.kn (fun k d h => (ho.kn k d h).2) (hc1.kz g2.kz), ?_⟩, ⟨_, _, m2, mcC c rv dv, rfl, rfl, _, _, h2.ri.mem, _, rfl, _, holds_ok h2.ri.kn (fun k d h => (ho.kn k d h).2) (hc1.kz g2.kz), ?_⟩⟩
      all_goals
       rintro _ w3 ⟨rfl, g3⟩
       have h3 := h2.gb0 g3
       have m3 := g3.get m2 nofun
       have kk := ((g1.trans g2).trans g3).kz
       refine spl (fun e' => ?_) (fun e' => ?_)
       · have e2 : mHolds R.known c = true := e'
         have em : mOffer A R c = R := if_pos (.inr (.inr e2))
         rw [em]
         exact ⟨rfl, Wk.drop ⟨_, h3⟩ u1, kk⟩
       · have e2 : mHolds R.known c = false := e'
         have em : mOffer A R c = mProp A { R with sc := { R.sc with next := R.sc.next + 1 } } R.sc.next c := if_neg (by rw [e1, e2]; simp; omega)
         rw [em]
         refine ⟨_, _, h3.ri.mem, _, rfl, _, _, h3.ri.mem, _, rfl, by omega, _, _, _, h3.ri.mem, rfl, rfl, fun w4 m4 g4 => ?_⟩
         have h4 := h3.cell (s' := { R.sc with next := R.sc.next + 1 }) m4 g4
         have k4 := h3.ri.kz h3.ri.o_br g4
         have m5 := (h4.pr b1 _ (Snp.add_at _ _ _)).1
         have o4 : Ok A { R with sc := { R.sc with next := R.sc.next + 1 } } := ⟨ho.sz, ho.i, ho.st, ho.kn, ho.pp, ho.vt, ho.wv, ho.mt, ho.ac, ho.pr, ho.lg, ho.lc, by show R.sc.next + 1 ≤ 60; omega, ho.sn⟩
         have hc4 : CIn w4 (.agg (mcC c rv dv).toArray) c := ⟨_, _, rfl, (hr.kz kk).kz k4⟩
         refine ⟨_, _, m5, mcC c rv dv, rfl, rfl, _, prop_ok HA (Wk.drop ⟨_, h4⟩ u1) o4 d1 hgc hc4 hb, ?_⟩
         rintro _ w5 ⟨rfl, h5, k5⟩
         exact ⟨rfl, h5, (kk.trans k4).trans k5⟩
    · have e1 : mHolds R.props c = true := by cases h : mHolds R.props c; rw [h] at e; cases e; rfl
      have em : mOffer A R c = R := if_pos (.inr (.inl e1))
      rw [em]
      exact ⟨⟨rfl, Wk.drop ⟨_, h2⟩ u1, (g1.trans g2).kz⟩, ⟨rfl, Wk.drop ⟨_, h2⟩ u1, (g1.trans g2).kz⟩⟩
  · have d1 : 60 ≤ R.sc.next := by simp at d; omega
    have em : mOffer A R c = R := if_pos (.inl d1)
    rw [em]
    exact ⟨rfl, Wk.drop ⟨_, h1⟩ u1, g1.kz⟩
end
section
variable (A : Apl)
def mTakeAcc (R : MR) (f : Nat × Nat) (m : MM) : MR := if m.b.lt R.sc.b = true then mRefuse A.enc R f m.b else Snd A.enc (mVote (mRefuse A.enc R f m.b) m.s m.c) { zMM 7 with b := m.b, s := m.s } [f]
def mAccd (R : MR) (f : Nat × Nat) (m : MM) : MR := if R.sc.role = 2 ∧ m.b = R.sc.b then mCntA A R m.s f.2 else R
def cRecv (r : Rg) : MC := { zMC with kind := 2, r := r }
def mMove (R : MR) (f : Nat × Nat) (r : Rg) : MR := if R.sc.role ≠ 2 then R else if r.seq ≤ R.st.I.getD r.src.toNat 0 then mAck A.enc R r.src.toNat [f] else if r.seq = R.st.I.getD r.src.toNat 0 + 1 then mOffer A R (cRecv r) else R
end
section
variable {A : Apl} (HA : AplOK A) {Λ : Snp} {w : World} {br : Nat} {R : MR}
include HA
theorem takeAcc_ok (h : Wk Λ br R w) (f : Nat × Nat) {m : MM} {mv : Value} (hm : MIn w mv m) (hb : R.out.length ≤ 870000) : CY 118 #[.pointer (some ⟨br, 0, none⟩), .agg #[.int .u8 f.1, .int .u8 f.2], mv] w (fun v w' => v = .tuple #[] ∧ Wk Λ br (mTakeAcc A R f m) w' ∧ Kz w w') := by
  obtain ⟨rv, dv, vv, rv', dv', rfl, hr, hvs, hr'⟩ := hm
  refine callE Tryz.func118 rfl rfl ?_
  intro w1 b1 m1 g1 l1 w2 b2 m2 g2 l2
  obtain ⟨h2, u2⟩ := (h.gb0 g1).box g2 m2 l2
  have m1 := g2.get m1 nofun
  have g := g1.trans g2
  refine ⟨_, _, m1, _, rfl, rfl, _, _, m2, _, rfl, rfl, _, refuse_ok HA.marsh h2 f m.b (by omega), ?_⟩
  rintro _ w3 ⟨rfl, h3, k3⟩
  have m1 := k3 _ (by decide) _ _ m1
  unfold mTakeAcc
  refine spl (fun c => ?_) (fun c => ?_)
  · rw [if_pos c]
    exact ⟨rfl, h3.drop u2, g.kz.trans k3⟩
  rw [if_neg (by rw [c]; decide)]
  have hl : (mRefuse A.enc R f m.b).out.length ≤ 900000 := by
    unfold mRefuse
    rw [if_neg (by rw [c]; decide)]
    split
    · omega
    · show R.out.length ≤ _; omega
  have hc3 : CIn w3 (.agg (mcC m.c rv dv).toArray) m.c := ⟨_, _, rfl, (hr.kz g.kz).kz k3⟩
  refine ⟨_, _, h3.at, _, rfl, _, _, h3.at, mcC m.c rv dv, rfl, rfl, _, vote_ok h3 hc3, ?_⟩
  rintro _ w4 ⟨rfl, h4, k4⟩
  have m1 := k4 _ (by decide) _ _ m1
  refine ⟨_, _, h4.at, _, rfl, rfl, _, _, h4.at, _, rfl, _, _, m1, _, rfl, rfl, fun w5 b5 m5 g5 l5 => ?_⟩
  refine ⟨_, snd_ok HA.marsh ((h4.drop u2).gb0 g5) (m := { zMM 7 with b := m.b, s := m.s }) ⟨_, _, _, _, _, rfl, RgIn.zero _, VsIn.zero _, RgIn.zero _⟩ (tl := [f]) ⟨_, _, rfl, Nat.le_refl _, rfl, .inr ⟨_, _, _, rfl, m5, rfl⟩⟩ (by simp; show (mRefuse A.enc R f m.b).out.length ≤ _; omega), ?_⟩
  rintro _ w6 ⟨rfl, h6, k6⟩
  exact ⟨rfl, h6, (((g.kz.trans k3).trans k4).trans g5.kz).trans k6⟩
theorem accd_ok (h : Wk Λ br R w) (ho : Ok A R) (f : Nat × Nat) (hf : f.2 < 5) {m : MM} (hs : m.s < 60) {mv : Value} (hm : MIn w mv m) (hb : R.out.length ≤ 870000) : CY 119 #[.pointer (some ⟨br, 0, none⟩), .agg #[.int .u8 f.1, .int .u8 f.2], mv] w (fun v w' => v = .tuple #[] ∧ Wk Λ br (mAccd A R f m) w' ∧ Kz w w') := by
  obtain ⟨rv, dv, vv, rv', dv', rfl, hr, hvs, hr'⟩ := hm
  refine callE Tryz.func119 rfl rfl ?_
  intro w1 b1 m1 g1 l1 w2 b2 m2 g2 l2
  have m1 := g2.get m1 nofun
  have g := g1.trans g2
  have h2 := h.gb0 g
  have h20 := h2
  obtain ⟨a, h2⟩ := h2
  unfold mAccd
  refine ⟨by kernel_rfl, _, _, h2.ri.mem, _, rfl, spl (fun c => ?_) (fun c => ?_)⟩
  · have c1 : R.sc.role = 2 := by simp at c; omega
    refine ⟨_, _, m2, _, rfl, rfl, _, _, h2.ri.mem, _, rfl, rfl, spl (fun d => ?_) (fun d => ?_)⟩
    · have d1 : m.b = R.sc.b := by
        have e : m.b.n = R.sc.b.n ∧ m.b.id = R.sc.b.id := by simp at d; omega
        exact Bal.eq e.1 e.2
      rw [if_pos ⟨c1, d1⟩]
      refine ⟨_, _, m2, _, rfl, _, _, m1, _, rfl, _, cntA_ok HA h20 ho m.s f.2 hs hf (by omega), ?_⟩
      rintro _ w3 ⟨rfl, h3, k3⟩
      exact ⟨rfl, h3, g.kz.trans k3⟩
    · have d1 : ¬ m.b = R.sc.b := by rintro e; rw [e] at d; simp at d
      rw [if_neg (fun e => d1 e.2)]
      exact ⟨rfl, h20, g.kz⟩
  · have c1 : ¬ R.sc.role = 2 := by simp at c; omega
    rw [if_neg (fun e => c1 e.1)]
    exact ⟨rfl, h20, g.kz⟩
theorem move_ok (h : Wk Λ br R w) (ho : Ok A R) (f : Nat × Nat) {r : Rg} (hs0 : 0 ≤ r.src) (hs : r.src.toNat < R.st.I.length) (hq : r.seq ≤ 4294967295) (hgc : A.gc (cRecv r)) {rv dv : Value} (hr : RgIn w r rv dv) (hb : R.out.length ≤ 870000) : CY 121 #[.pointer (some ⟨br, 0, none⟩), .agg #[.int .u8 f.1, .int .u8 f.2], .agg (rgC r rv dv).toArray] w (fun v w' => v = .tuple #[] ∧ Wk Λ br (mMove A R f r) w' ∧ Kz w w') := by
  have es : (r.src.toNat : Int) = r.src := Int.toNat_of_nonneg hs0
  refine callE Tryz.func121 rfl rfl ?_
  intro w1 b1 m1 g1 l1 w2 b2 m2 g2 l2
  have m1 := g2.get m1 nofun
  have g := g1.trans g2
  have h2 := h.gb0 g
  have h20 := h2
  obtain ⟨a, h2⟩ := h2
  obtain ⟨vm, wm, kn, mt, pp, ac, lg, ob, sT, sM, sD, sO, sI⟩ := a
  obtain ⟨ia, ic, rfl, i1, i2, i3⟩ := h2.ri.st.I
  rcases i3 with ⟨_, i3⟩ | ⟨B, off, cs, rfl, hB, hcut⟩
  · omega
  obtain ⟨x, hx⟩ : ∃ x, R.st.I[r.src.toNat]? = some x := ⟨R.st.I[r.src.toNat], by simp [hs]⟩
  have hx0 := HA.inn _ ho.st _ _ hx
  have hx1 : R.st.I.getD r.src.toNat 0 = x := by rw [List.getD_eq_getElem?_getD, hx]; rfl
  have hx2 : cs.toList[off + r.src.toNat]? = some (.int .u32 x) := by
    have h1 : (cutL cs.toList off (R.st.I.length * 1))[r.src.toNat]? = some (.int .u32 x) := by rw [hcut, List.getElem?_map, hx]; rfl
    unfold cutL at h1
    rw [List.getElem?_take, if_pos (by omega), List.getElem?_drop] at h1
    exact h1
  have em : mMove A R f r = if R.sc.role ≠ 2 then R else if r.seq ≤ x then mAck A.enc R r.src.toNat [f] else if r.seq = x + 1 then mOffer A R (cRecv r) else R := by unfold mMove; rw [hx1]
  rw [em]
  refine ⟨_, _, h2.ri.mem, _, rfl, spl (fun c => ?_) (fun c => ?_)⟩
  · have c1 : R.sc.role ≠ 2 := by simp at c; omega
    rw [if_pos c1]
    exact ⟨rfl, h20, g.kz⟩
  have c1 : ¬ R.sc.role ≠ 2 := by simp at c; omega
  rw [if_neg c1]
  refine ⟨by kernel_rfl, _, _, h2.ri.mem, _, rfl, _, _, m2, _, rfl, ⟨by omega, by omega⟩, _, _, hB, .int .u32 x, by show cs.toList[off + r.src.toNat * 1]? = _; rw [Nat.mul_one]; exact hx2, ?_⟩
  refine ⟨_, _, m2, _, rfl, spl (fun d => ?_) (fun d => ?_)⟩
  · have d1 : r.seq ≤ x := by simpa using d
    rw [if_pos d1]
    refine ⟨_, _, m2, _, rfl, _, _, m1, _, rfl, rfl, fun w3 b3 m3 g3 l3 => ?_⟩
    have ha := ack_ok HA.marsh (h20.gb0 g3) hs (tv := .slice (some ⟨b3, 0, none⟩) 1 1) (tl := [f]) ⟨_, _, rfl, Nat.le_refl _, rfl, .inr ⟨_, 0, _, rfl, m3, rfl⟩⟩ (by simp; omega)
    rw [es] at ha
    refine ⟨_, ha, ?_⟩
    rintro _ w4 ⟨rfl, h4, k4⟩
    exact ⟨rfl, h4, (g.trans g3).kz.trans k4⟩
  have d1 : ¬ r.seq ≤ x := by simpa using d
  rw [if_neg d1]
  refine ⟨_, _, m2, _, rfl, by omega, spl (fun e => ?_) (fun e => ?_)⟩
  · have e1 : r.seq = x + 1 := by simpa using e
    rw [if_pos e1]
    refine ⟨_, _, m2, rgC r rv dv, rfl, rfl, _, offer_ok HA h20 ho hgc (c := cRecv r) ⟨rv, dv, rfl, hr.kz g.kz⟩ hb, ?_⟩
    rintro _ w4 ⟨rfl, h4, k4⟩
    exact ⟨rfl, h4, g.kz.trans k4⟩
  · have e1 : ¬ r.seq = x + 1 := by simpa using e
    rw [if_neg e1]
    exact ⟨rfl, h20, g.kz⟩
end
def rpSame (p q : Rep) : Bool := p.c == q.c && (p.s == q.s && (p.key == q.key && (p.k == q.k && (p.found == q.found && (p.v == q.v && (p.g == q.g && true))))))
theorem rep_at {l : List Rep} {k : Nat} {p : Rep} (h : l[k]? = some p) : cutL (l.map Rep.cells).flatten (k * 7) 7 = p.cells := by
  rw [← List.flatMap_def]
  exact elemL (f := Rep.cells) (fun _ => rfl) l k p h
theorem any_take_succ {α : Type} (f : α → Bool) (l : List α) (k : Nat) (x : α) (h : l[k]? = some x) : (l.take (k + 1)).any f = ((l.take k).any f || f x) := by
  rw [List.take_add_one, h, List.any_append]; simp
theorem idx_ok (w : World) {l : List Rep} {v : Value} (hl : Fz w 57 7 v l.length (l.map Rep.cells).flatten) (hn : l.length ≤ 1000000) (p : Rep) : CY 200 #[v, .agg p.cells.toArray] w (fun v w' => (∃ i : Int, v = .int .i64 i ∧ (0 ≤ i ↔ l.any (rpSame p) = true)) ∧ GB none w w') := by
  obtain ⟨ta, tc, rfl, htc, htl, htd⟩ := hl
  refine callE Tryz.func200 rfl rfl ?_
  intro w1 b1 m1 g1 l1
  refine ⟨fun q s w3 => ∃ (k : Nat), q = l.length - k ∧ k ≤ l.length ∧ s = [(0, .slice ta l.length tc), (3, .pointer (some ⟨b1, 0, none⟩)), (7, .int .i64 l.length), (8, .int .i64 k)] ∧ w3 = w1 ∧ (l.take k).any (rpSame p) = false, ⟨_, _, ⟨0, rfl, Nat.zero_le _, rfl, rfl, rfl⟩, sb rfl⟩, ?_⟩
  rintro q s w3 ⟨k, rfl, hk, rfl, rfl, hno⟩
  refine spl (fun c => ?_) (fun c => ?_)
  · have c1 : k < l.length := by simp at c; omega
    rcases htd with ⟨_, h0⟩ | ⟨B, off, cs, rfl, hB, hcut⟩
    · omega
    obtain ⟨x, hx⟩ : ∃ x, l[k]? = some x := ⟨l[k], by simp [c1]⟩
    refine ⟨by kernel_rfl, _, _, m1, _, rfl, rfl, ⟨by omega, by omega⟩, _, _, g1.get hB nofun, x.cells, (Fz.elem hcut c1).trans (rep_at hx), rfl, spl (fun d => ?_) (fun d => ?_)⟩
    · have d1 : rpSame p x = true := d
      exact ⟨⟨k, rfl, fun _ => List.any_eq_true.2 ⟨x, List.mem_of_getElem? hx, d1⟩, fun _ => by omega⟩, g1⟩
    · have d1 : rpSame p x = false := d
      exact ⟨by omega, _, _, ⟨k + 1, rfl, by omega, rfl, rfl, by rw [any_take_succ _ _ _ _ hx, hno, d1]; rfl⟩, (sb rfl), by omega⟩
  · have c1 : k = l.length := by simp at c; omega
    subst c1
    rw [List.take_length] at hno
    exact ⟨⟨-1, rfl, fun h => absurd h (by decide), fun h => by rw [hno] at h; cases h⟩, g1⟩
theorem cont_ok (w : World) {l : List Rep} {v : Value} (hl : Fz w 57 7 v l.length (l.map Rep.cells).flatten) (hn : l.length ≤ 1000000) (p : Rep) : CY 162 #[v, .agg p.cells.toArray] w (fun v w' => v = .bool (l.any (rpSame p)) ∧ GB none w w') := by
  have hl0 := hl
  obtain ⟨ta, tc, rfl, htc, htl, htd⟩ := hl
  refine callE Tryz.func162 rfl rfl ?_
  intro w1 b1 m1 g1 l1
  refine ⟨_, _, m1, p.cells, rfl, rfl, _, idx_ok w1 (hl0.kz g1.kz (by decide)) hn p, ?_⟩
  rintro _ w2 ⟨⟨i, rfl, hi⟩, g2⟩
  refine ⟨vb ?_, g1.trans g2⟩
  cases hh : l.any (rpSame p) with
  | true => exact decide_eq_true (hi.2 hh)
  | false => exact decide_eq_false fun h => by rw [hi.1 h] at hh; cases hh
def cAsk (q : Req) : MC := { zMC with kind := 1, q := q }
def mAsk (A : Apl) (R : MR) (q : Req) : MR := if R.sc.role ≠ 2 then R else if R.st.D.any (rpSame (A.ap R.st (cAsk q)).2) = true then mTell A.enc R (A.ap R.st (cAsk q)).2 else mOffer A R (cAsk q)
section
variable {A : Apl} (HA : AplOK A) {Λ : Snp} {w : World} {br : Nat} {R : MR}
include HA
theorem ask_ok (h : Wk Λ br R w) (ho : Ok A R) {q : Req} (hgc : A.gc (cAsk q)) (hb : R.out.length ≤ 870000) : CY 114 #[.pointer (some ⟨br, 0, none⟩), .agg q.cells.toArray] w (fun v w' => v = .tuple #[] ∧ Wk Λ br (mAsk A R q) w' ∧ Kz w w') := by
  refine callYS eng Tryz.func114 rfl rfl ?_
  refine CS.piece (Q := fun s w1 => ∃ b1, s = [(0, .pointer (some ⟨br, 0, none⟩)), (3, .pointer (some ⟨b1, 0, none⟩))] ∧ Hl w1 b1 q.cells 50 ∧ GB none w w1) (CS.e fun w1 b1 m1 g1 l1 => ⟨_, by exact sb rfl, b1, rfl, m1, g1⟩) ?_
  rintro _ w1 ⟨b1, rfl, m1, g1⟩
  have h10 := h.gb0 g1
  obtain ⟨a, h1⟩ := h10
  refine CS.cut (Qn := fun s w' => ¬ R.sc.role ≠ 2 ∧ s = [(0, .pointer (some ⟨br, 0, none⟩)), (3, .pointer (some ⟨b1, 0, none⟩))] ∧ w' = w1) (Qx := fun _ _ _ => False) (Qr := fun s w' => R.sc.role ≠ 2 ∧ s = [] ∧ w' = w1) (CS.e ⟨_, _, h1.ri.mem, _, rfl, spl (fun c => ⟨_, by exact trivial, by simp at c; omega, rfl, rfl⟩) (fun c => ⟨_, by exact sb rfl, by simp at c; omega, rfl, rfl⟩)⟩) ?_ (fun _ _ _ _ h _ => h.elim) ?_
  rotate_left
  · rintro _ s w1 ⟨c1, rfl, rfl⟩ hs
    rw [show mAsk A R q = R from if_pos c1]
    exact retW_sub hs ⟨rfl, ⟨_, h1⟩, g1.kz⟩
  rintro _ w1 ⟨c1, rfl, rfl⟩
  refine CS.piece (Q := fun s w3 => ∃ b2, s = [(0, .pointer (some ⟨br, 0, none⟩)), (4, .pointer (some ⟨b2, 0, none⟩))] ∧ Hl w3 b2 (mcC (cAsk q) (.slice none 0 0) (.slice none 0 0)) 54 ∧ GB none w1 w3 ∧ w1.heap.size ≤ b2) (CS.e ⟨_, _, m1, q.cells, rfl, rfl, fun w2 b2 m2 g2 l2 => ⟨_, _, _, m2, rfl, rfl, fun w3 m3 g3 => ⟨_, by exact sb rfl, b2, rfl, m3, g2.new g3 l2, l2⟩⟩⟩) ?_
  rintro _ w3 ⟨b2, rfl, m3, g13, l2⟩
  have h3 := h1.box g13 m3 l2
  have u3 := h1.unp l2
  have gg := g1.trans g13
  obtain ⟨vm, wm, kn, mt, pp, ac, lg, ob, sT, sM, sD, sO, sI⟩ := a
  have hc3 : CIn w3 (.agg (mcC (cAsk q) (.slice none 0 0) (.slice none 0 0)).toArray) (cAsk q) := ⟨_, _, rfl, RgIn.zero _⟩
  have hcall := fun w' (g : GB none w3 w') => HA.call w' R.st (cAsk q) _ _ _ _ _ _ (h3.gb0 g).ri.st ho.st (hc3.kz g.kz) hgc
  refine CS.piece (Q := fun s w8 => ∃ b6, s = [(0, .pointer (some ⟨br, 0, none⟩)), (4, .pointer (some ⟨b2, 0, none⟩)), (6, .pointer (some ⟨b6, 0, none⟩))] ∧ w8.heap[b6]? = some (.cells (A.ap R.st (cAsk q)).2.cells.toArray 57) ∧ GB none w3 w8) (CS.e ?_) ?_
  · refine ⟨by kernel_rfl, _, _, h3.ri.mem, _, rfl, rfl, _, _, m3, mcC (cAsk q) (.slice none 0 0) (.slice none 0 0), rfl, rfl, ?_⟩
    refine ⟨⟨_, hcall w3 (GB.refl _ _), ?_⟩, ?_, ?_⟩
    · rintro _ v1 ⟨T, M, D, O, I, rfl, hs, K1⟩
      have G1 : GB none w3 v1 := K1
      obtain ⟨ta, tn, tc, ma, mn, mc, da, dn, dc, oa, on, oc, ia, il, ic, rfl, rfl, rfl, rfl, rfl⟩ := (hs _ fun _ _ _ => rfl).sl
      refine ⟨?_, ?_⟩
      · intro v2 b5 m5 K2 L5
        have G2 : GB none w3 v2 := G1.trans K2
        have l5 : w3.heap.size ≤ b5 := Nat.le_trans G1.size L5
        have lt5 := lt_heap m5
        refine ⟨⟨G2.get m3 nofun, (h3.gb0 G2).ri.mem, trivial⟩, ?_⟩
        intro v3 b6 m6 K3 L6
        have G3 : GB none w3 v3 := G2.trans K3
        have l6 : w3.heap.size ≤ b6 := Nat.le_trans G2.size L6
        have lt6 := lt_heap m6
        have lt5 := lt_heap m5
        have m5 := K3.get m5 nofun
        refine ⟨⟨G3.get m3 nofun, (h3.gb0 G3).ri.mem, trivial⟩, ?_⟩
        exact ⟨_, _, _, m5, rfl, rfl, fun w7 m7 g7 => ⟨_, _, _, g7.get m6 (fun e => by cases e; omega), rfl, rfl, fun w8 m8 g8 => ⟨_, by exact sb rfl, b6, rfl, m8, (G3.new g7 l5).new g8 l6⟩⟩⟩
      · intro v2 b6 m6 K2 L6
        have G2 : GB none w3 v2 := G1.trans K2
        have l6 : w3.heap.size ≤ b6 := Nat.le_trans G1.size L6
        have lt6 := lt_heap m6
        refine ⟨⟨G2.get m3 nofun, (h3.gb0 G2).ri.mem, trivial⟩, ?_⟩
        intro v3 b5 m5 K3 L5
        have G3 : GB none w3 v3 := G2.trans K3
        have l5 : w3.heap.size ≤ b5 := Nat.le_trans G2.size L5
        have lt5 := lt_heap m5
        have lt6 := lt_heap m6
        have m6 := K3.get m6 nofun
        refine ⟨⟨G3.get m3 nofun, (h3.gb0 G3).ri.mem, trivial⟩, ?_⟩
        exact ⟨_, _, _, m5, rfl, rfl, fun w7 m7 g7 => ⟨_, _, _, g7.get m6 (fun e => by cases e; omega), rfl, rfl, fun w8 m8 g8 => ⟨_, by exact sb rfl, b6, rfl, m8, (G3.new g7 l5).new g8 l6⟩⟩⟩
    · intro v1 b5 m5 K1 L5
      have G1 : GB none w3 v1 := K1
      have l5 : w3.heap.size ≤ b5 := L5
      have lt5 := lt_heap m5
      refine ⟨⟨G1.get m3 nofun, (h3.gb0 G1).ri.mem, trivial⟩, ?_⟩
      refine ⟨⟨_, hcall v1 G1, ?_⟩, ?_⟩
      · rintro _ v2 ⟨T, M, D, O, I, rfl, hs, K2⟩
        have G2 : GB none w3 v2 := G1.trans K2
        obtain ⟨ta, tn, tc, ma, mn, mc, da, dn, dc, oa, on, oc, ia, il, ic, rfl, rfl, rfl, rfl, rfl⟩ := (hs _ fun _ _ _ => rfl).sl
        have m5 := K2.get m5 nofun
        intro v3 b6 m6 K3 L6
        have G3 : GB none w3 v3 := G2.trans K3
        have l6 : w3.heap.size ≤ b6 := Nat.le_trans G2.size L6
        have lt6 := lt_heap m6
        have lt5 := lt_heap m5
        have m5 := K3.get m5 nofun
        refine ⟨⟨G3.get m3 nofun, (h3.gb0 G3).ri.mem, trivial⟩, ?_⟩
        exact ⟨_, _, _, m5, rfl, rfl, fun w7 m7 g7 => ⟨_, _, _, g7.get m6 (fun e => by cases e; omega), rfl, rfl, fun w8 m8 g8 => ⟨_, by exact sb rfl, b6, rfl, m8, (G3.new g7 l5).new g8 l6⟩⟩⟩
      · intro v2 b6 m6 K2 L6
        have G2 : GB none w3 v2 := G1.trans K2
        have l6 : w3.heap.size ≤ b6 := Nat.le_trans G1.size L6
        have lt6 := lt_heap m6
        have lt5 := lt_heap m5
        have m5 := K2.get m5 nofun
        refine ⟨⟨G2.get m3 nofun, (h3.gb0 G2).ri.mem, trivial⟩, ?_⟩
        refine ⟨_, hcall v2 G2, ?_⟩
        rintro _ v3 ⟨T, M, D, O, I, rfl, hs, K3⟩
        have G3 : GB none w3 v3 := G2.trans K3
        obtain ⟨ta, tn, tc, ma, mn, mc, da, dn, dc, oa, on, oc, ia, il, ic, rfl, rfl, rfl, rfl, rfl⟩ := (hs _ fun _ _ _ => rfl).sl
        have m5 := K3.get m5 nofun
        have m6 := K3.get m6 nofun
        exact ⟨_, _, _, m5, rfl, rfl, fun w7 m7 g7 => ⟨_, _, _, g7.get m6 (fun e => by cases e; omega), rfl, rfl, fun w8 m8 g8 => ⟨_, by exact sb rfl, b6, rfl, m8, (G3.new g7 l5).new g8 l6⟩⟩⟩
    · intro v1 b6 m6 K1 L6
      have G1 : GB none w3 v1 := K1
      have l6 : w3.heap.size ≤ b6 := L6
      have lt6 := lt_heap m6
      refine ⟨⟨G1.get m3 nofun, (h3.gb0 G1).ri.mem, trivial⟩, ?_⟩
      refine ⟨⟨_, hcall v1 G1, ?_⟩, ?_⟩
      · rintro _ v2 ⟨T, M, D, O, I, rfl, hs, K2⟩
        have G2 : GB none w3 v2 := G1.trans K2
        obtain ⟨ta, tn, tc, ma, mn, mc, da, dn, dc, oa, on, oc, ia, il, ic, rfl, rfl, rfl, rfl, rfl⟩ := (hs _ fun _ _ _ => rfl).sl
        have m6 := K2.get m6 nofun
        intro v3 b5 m5 K3 L5
        have G3 : GB none w3 v3 := G2.trans K3
        have l5 : w3.heap.size ≤ b5 := Nat.le_trans G2.size L5
        have lt5 := lt_heap m5
        have lt6 := lt_heap m6
        have m6 := K3.get m6 nofun
        refine ⟨⟨G3.get m3 nofun, (h3.gb0 G3).ri.mem, trivial⟩, ?_⟩
        exact ⟨_, _, _, m5, rfl, rfl, fun w7 m7 g7 => ⟨_, _, _, g7.get m6 (fun e => by cases e; omega), rfl, rfl, fun w8 m8 g8 => ⟨_, by exact sb rfl, b6, rfl, m8, (G3.new g7 l5).new g8 l6⟩⟩⟩
      · intro v2 b5 m5 K2 L5
        have G2 : GB none w3 v2 := G1.trans K2
        have l5 : w3.heap.size ≤ b5 := Nat.le_trans G1.size L5
        have lt5 := lt_heap m5
        have lt6 := lt_heap m6
        have m6 := K2.get m6 nofun
        refine ⟨⟨G2.get m3 nofun, (h3.gb0 G2).ri.mem, trivial⟩, ?_⟩
        refine ⟨_, hcall v2 G2, ?_⟩
        rintro _ v3 ⟨T, M, D, O, I, rfl, hs, K3⟩
        have G3 : GB none w3 v3 := G2.trans K3
        obtain ⟨ta, tn, tc, ma, mn, mc, da, dn, dc, oa, on, oc, ia, il, ic, rfl, rfl, rfl, rfl, rfl⟩ := (hs _ fun _ _ _ => rfl).sl
        have m5 := K3.get m5 nofun
        have m6 := K3.get m6 nofun
        exact ⟨_, _, _, m5, rfl, rfl, fun w7 m7 g7 => ⟨_, _, _, g7.get m6 (fun e => by cases e; omega), rfl, rfl, fun w8 m8 g8 => ⟨_, by exact sb rfl, b6, rfl, m8, (G3.new g7 l5).new g8 l6⟩⟩⟩
  rintro _ w8 ⟨b6, rfl, m8, gB⟩
  have h8 := h3.gb0 gB
  refine CS.e ?_
  refine ⟨by kernel_rfl, _, _, h8.ri.mem, _, rfl, _, _, m8, (A.ap R.st (cAsk q)).2.cells, rfl, rfl, _, cont_ok w8 h8.ri.st.D (HA.dl _ ho.st) _, ?_⟩
  rintro _ w9 ⟨rfl, g9⟩
  have h9 := h8.gb0 g9
  have k9 := ((gg.trans gB).trans g9).kz
  refine spl (fun d => ?_) (fun d => ?_)
  · rw [show mAsk A R q = mTell A.enc R (A.ap R.st (cAsk q)).2 from (if_neg c1).trans (if_pos d)]
    refine ⟨_, _, g9.get m8 nofun, (A.ap R.st (cAsk q)).2.cells, rfl, rfl, _, tell_ok HA.marsh (Wk.drop ⟨_, h9⟩ u3) (HA.rep _ _ ho.st hgc) (by omega), ?_⟩
    rintro _ w10 ⟨rfl, h10, k10⟩
    exact ⟨rfl, h10, k9.trans k10⟩
  · rw [show mAsk A R q = mOffer A R (cAsk q) from (if_neg c1).trans (if_neg (by rw [d]; decide))]
    have m9 := (h9.pr b2 _ (Snp.add_at _ _ _)).1
    refine ⟨_, _, m9, mcC (cAsk q) (.slice none 0 0) (.slice none 0 0), rfl, rfl, _, offer_ok HA (Wk.drop ⟨_, h9⟩ u3) ho hgc (c := cAsk q) ⟨_, _, rfl, RgIn.zero _⟩ hb, ?_⟩
    rintro _ w10 ⟨rfl, h10, k10⟩
    exact ⟨rfl, h10, k9.trans k10⟩
end
end
end Go.Proofs.YtignemioillaiaaGreat
