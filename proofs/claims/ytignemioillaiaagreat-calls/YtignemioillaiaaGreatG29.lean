/- join's walk. -/
import Derived.Test.YtignemioillaiaaGreatG28
namespace Go.Proofs.YtignemioillaiaaGreat
set_option maxHeartbeats 8000000
set_option maxRecDepth 100000
section
open Go Go.Conc
noncomputable def CJ : Code := Tryz.f63.body.getD .skip
theorem Gz : Tryz.f63.body = some CJ := by
  unfold CJ
  rfl
theorem IM (x y : Value) : Frame.enter Tryz.prog 63 #[x, y] .normal = (Go.Conc.base 63).at ⟨#[x, y, undef, undef, undef, undef, undef, undef, undef, undef, undef, undef, undef, undef, undef, undef, undef, undef, undef, undef], []⟩ [.code CJ] := by
  have h := enter_at (P := Tryz.prog) #[x, y] Tryz.func63 Gz
  rw [show Tryz.f63.ntmps = 20 from rfl] at h
  rw [h]
  walk_nrm
theorem vL : (Tryz.prog.info? 139).map (fun i => (i.zero, i.size, i.bytes)) = some (some (.agg #[.int .u8 0, .int .u8 0, .int .u8 0, .int .u8 0, .string ⟨#[]⟩]), 5, 24) := by kernel_rfl
structure JS (bc nb : Nat) (gv sv : Value) (p : cB) (q : List cB) (F0 : Nat → Prop) (b0 b1 b2 b3 b4 b5 b6 b7 b8 b9 b10 : Bool) (lD lF jv iI jw jy j3 dU gz gL : Value) (F : Nat → Prop) (w : World) : Prop where
  i0 : b0 = true → lD = .pointer (some ⟨bc, 0, none⟩)
  i1 : b1 = true → lF = .pointer (some ⟨bc, 0, none⟩)
  i2 : b2 = true → jv = .pointer (some ⟨bc, 0, none⟩)
  i3 : b3 = true → iI = .pointer (some ⟨bc, 1, none⟩)
  i4 : b4 = true → jw = sv
  i5 : b5 = true → jy = p.val
  i8 : b8 = true → gz = .pointer (some ⟨bc, 0, none⟩)
  i9 : b9 = true → gL = .pointer (some ⟨bc, 1, none⟩)
  sub : ∀ x, F0 x → F x
  tO : ∀ x, F x → x < w.heap.size
  fc : F bc
  fb : b5 = false → F nb ∧ w.heap[nb]? = some (.cells p.cells.toArray 139)
  i65 : b6 = true → b5 = true
  i6 : b6 = true → b7 = false → ∃ ns, j3 = .slice (some ⟨ns, 0, none⟩) 1 1 ∧ F ns ∧ w.heap[ns]? = some (.cells p.cells.toArray 139)
  hc : ∃ y, w.heap[bc]? = some (.cells #[gv, y] 131) ∧ (b10 = false → y = sv) ∧ (b10 = true → y = dU)
  i74 : b7 = true → b4 = true ∧ b6 = true
  i7 : b7 = true → w.ownsRow 0 139 5 dU (q.length + 1) (flat (q ++ [p])) ∧ ∀ g, dU.ownBlock = some g → F g
  n7 : b7 = false → w.ownsRow 0 139 5 sv q.length (flat q) ∧ ∀ g, sv.ownBlock = some g → F g
  i10 : b10 = true → b7 = true
section
variable {bc nb : Nat} {gv sv : Value} {p : cB} {q : List cB} {F0 : Nat → Prop} {b0 b1 b2 b3 b4 b5 b6 b7 b8 b9 b10 : Bool} {lD lF jv iI jw jy j3 dU gz gL : Value} {F : Nat → Prop} {w : World}
theorem JS.grow (h : JS bc nb gv sv p q F0 b0 b1 b2 b3 b4 b5 b6 b7 b8 b9 b10 lD lF jv iI jw jy j3 dU gz gL F w) {F' : Nat → Prop} {w1 : World} (hF : ∀ x, F x → F' x) (hw : ∀ x, F x → w1.heap[x]? = w.heap[x]?) (hin : ∀ x, F' x → x < w1.heap.size) : JS bc nb gv sv p q F0 b0 b1 b2 b3 b4 b5 b6 b7 b8 b9 b10 lD lF jv iI jw jy j3 dU gz gL F' w1 :=
  { h with
    sub := fun x hx => hF x (h.sub x hx)
    tO := hin
    fc := hF _ h.fc
    fb := fun h5 => ⟨hF _ (h.fb h5).1, (hw _ (h.fb h5).1).trans (h.fb h5).2⟩
    i6 := fun h6 h7 => by obtain ⟨ns, e1, e2, e3⟩ := h.i6 h6 h7; exact ⟨ns, e1, hF _ e2, (hw _ e2).trans e3⟩
    hc := by obtain ⟨y, e1, e2⟩ := h.hc; exact ⟨y, (hw _ h.fc).trans e1, e2⟩
    i7 := fun h7 => ⟨iy (h.i7 h7).1 fun g hg => hw g ((h.i7 h7).2 g hg), fun g hg => hF g ((h.i7 h7).2 g hg)⟩
    n7 := fun h7 => ⟨iy (h.n7 h7).1 fun g hg => hw g ((h.n7 h7).2 g hg), fun g hg => hF g ((h.n7 h7).2 g hg)⟩ }
theorem JS.rely (h : JS bc nb gv sv p q F0 b0 b1 b2 b3 b4 b5 b6 b7 b8 b9 b10 lD lF jv iI jw jy j3 dU gz gL F w) {w1 : World} (hr : bA F w w1) : JS bc nb gv sv p q F0 b0 b1 b2 b3 b4 b5 b6 b7 b8 b9 b10 lD lF jv iI jw jy j3 dU gz gL F w1 :=
  h.grow (fun _ hx => hx) hr.own fun x hx => Nat.lt_of_lt_of_le (h.tO x hx) hr.size
theorem Mx (q : List cB) (p : cB) : flat (q ++ [p]) = flat q ++ p.cells := by simp [flat]
theorem DD {sv : Value} {n : Nat} {xs : List Value} {bc : Nat} {ys : Array Value} (h : w.ownsRow 0 139 5 sv n xs) (hb : w.heap[bc]? = some (.cells ys 131)) : some bc ≠ sv.ownBlock := by
  intro e
  rcases h.2 with ⟨rfl, _⟩ | ⟨g, cap, cur, rfl, _, hg, _⟩
  · cases e
  · obtain rfl : bc = g := by simpa [Value.ownBlock] using e
    rw [hb] at hg
    injection hg with hg
    injection hg with _ h2 _
    cases h2
end
def Ud (bc nb : Nat) (p : cB) (sv : Value) (n : Nat) (lD lF jv iI jw jy j3 dU gz gL : Value) : Array Value := #[.pointer (some ⟨bc, 0, none⟩), p.val, undef, .pointer (some ⟨nb, 0, none⟩), .pointer (some ⟨bc, 0, none⟩), .pointer (some ⟨bc, 0, none⟩), .pointer (some ⟨bc, 1, none⟩), sv, .int .i64 n, .bool true, lD, lF, jv, iI, jw, jy, j3, dU, gz, gL]
def JI (bc nb : Nat) (gv sv : Value) (p : cB) (q : List cB) (F0 : Nat → Prop) (n : Nat) (l : Array Bool) (F : Nat → Prop) (a : Act) (w : World) : Prop :=
  ∃ b0 b1 b2 b3 b4 b5 b6 b7 b8 b9 b10 lD lF jv iI jw jy j3 dU gz gL, l = #[b0, b1, b2, b3, b4, b5, b6, b7, b8, b9, b10] ∧ n + b0.toNat + b1.toNat + b2.toNat + b3.toNat + b4.toNat + b5.toNat + b6.toNat + b7.toNat + b8.toNat + b9.toNat + b10.toNat = 11 ∧
    a = ⟨Ud bc nb p sv q.length lD lF jv iI jw jy j3 dU gz gL, []⟩ ∧ JS bc nb gv sv p q F0 b0 b1 b2 b3 b4 b5 b6 b7 b8 b9 b10 lD lF jv iI jw jy j3 dU gz gL F w
noncomputable def GA : Array Oper := co (match cr (cr CJ) with | .cond _ x _ => x | c => c)
section
variable {bc nb : Nat} {gv sv : Value} {p : cB} {q : List cB} {F0 : Nat → Prop} {Stop : (Nat → Prop) → Goroutine → World → Prop} {k : List Item} {cs : List Frame}
theorem Sd (hq : q.length < 20000) (n : Nat) (l : Array Bool) (F : Nat → Prop) (a : Act) (w : World) (i : Nat) (rest : List Nat) (h : JI bc nb gv sv p q F0 (n + 1) l F a w) (hi : l.getD i true = false) (hr : ∃ o, GA[i]? = some o ∧ ∀ e ∈ o.after, Region.binds .any e = true → l.getD e.on false = true)
    (hk : ∀ F' a' w', JI bc nb gv sv p q F0 n (l.setIfInBounds i true) F' a' w' → aK Tryz.prog true Stop F' (G ((Go.Conc.base 63).at a' (.inRegion GA rest :: k)) cs) w') : aK Tryz.prog true Stop F (G ((Go.Conc.base 63).at a (.inRegion GA (i :: rest) :: k)) cs) w := by
  obtain ⟨b0, b1, b2, b3, b4, b5, b6, b7, b8, b9, b10, lD, lF, jv, iI, jw, jy, j3, dU, gz, gL, rfl, hn, rfl, hJ⟩ := h
  obtain ⟨o, ho, qm⟩ := hr
  unfold GA at ho hk ⊢
  simp only [CJ, Tryz.f63, cr, co, Option.getD] at ho hk ⊢
  have hlt : i < 11 := by
    have := (Array.getElem?_eq_some_iff.1 ho).1
    simpa using this
  have hcases : i = 0 ∨ i = 1 ∨ i = 2 ∨ i = 3 ∨ i = 4 ∨ i = 5 ∨ i = 6 ∨ i = 7 ∨ i = 8 ∨ i = 9 ∨ i = 10 := by omega
  have WV : b4 = false → b7 = false := fun h4 => by
    cases h7 : b7
    · rfl
    · rw [(hJ.i74 h7).1] at h4; cases h4
  have QF : b7 = false → b10 = false := fun h7 => by
    cases h10 : b10
    · rfl
    · rw [hJ.i10 h10] at h7; cases h7
  have WW : b5 = false → b6 = false := fun h5 => by
    cases h6 : b6
    · rfl
    · rw [hJ.i65 h6] at h5; cases h5
  have O5 : b6 = false → b7 = false := fun h6 => by
    cases h7 : b7
    · rfl
    · rw [(hJ.i74 h7).2] at h6; cases h6
  unfold Ud
  rcases hcases with rfl | rfl | rfl | rfl | rfl | rfl | rfl | rfl | rfl | rfl | rfl <;> (obtain rfl := Option.some.inj ho; simp [Region.binds] at hi qm; simp at hk; subst hi)
  · refine aj.quiet aN rfl rfl xB _ (fun _ => by go_simp <;> rfl) (fun _ => by simp [go_sem, *]) ?_
    refine xm ?_
    exact hk F _ w ⟨true, b1, b2, b3, b4, b5, b6, b7, b8, b9, b10, _, lF, jv, iI, jw, jy, j3, dU, gz, gL, rfl, by simp at hn ⊢; omega, rfl, { hJ with i0 := fun _ => rfl }⟩
  · refine aj.quiet aN rfl rfl xB _ (fun _ => by go_simp <;> rfl) (fun _ => by simp [go_sem, *]) ?_
    refine xm ?_
    exact hk F _ w ⟨b0, true, b2, b3, b4, b5, b6, b7, b8, b9, b10, lD, _, jv, iI, jw, jy, j3, dU, gz, gL, rfl, by simp at hn ⊢; omega, rfl, { hJ with i1 := fun _ => rfl }⟩
  · obtain rfl := hJ.i1 qm
    refine aj.quiet aN rfl rfl xB _ (fun _ => by go_simp <;> rfl) (fun _ => by simp [go_sem, *]) ?_
    refine xm ?_
    exact hk F _ w ⟨b0, b1, true, b3, b4, b5, b6, b7, b8, b9, b10, lD, _, _, iI, jw, jy, j3, dU, gz, gL, rfl, by simp at hn ⊢; omega, rfl, { hJ with i2 := fun _ => rfl }⟩
  · obtain rfl := hJ.i2 qm
    refine aj.quiet aN rfl rfl xB _ (fun _ => by go_simp <;> rfl) (fun _ => by simp [go_sem, *]) ?_
    refine xm ?_
    exact hk F _ w ⟨b0, b1, b2, true, b4, b5, b6, b7, b8, b9, b10, lD, lF, _, _, jw, jy, j3, dU, gz, gL, rfl, by simp at hn ⊢; omega, rfl, { hJ with i3 := fun _ => rfl }⟩
  · obtain rfl := hJ.i3 qm
    obtain ⟨y, hy, hy1, _⟩ := hJ.hc
    obtain rfl := hy1 (QF (WV rfl))
    refine aK.ql rfl rfl (by decide) 72 rfl rfl hJ.fc hy Tryz.underlying72 rfl rfl ?_
    refine xm ?_
    exact hk F _ w ⟨b0, b1, b2, b3, true, b5, b6, b7, b8, b9, b10, lD, lF, jv, _, _, jy, j3, dU, gz, gL, rfl, by simp at hn ⊢; omega, rfl, { hJ with i4 := fun _ => rfl, i74 := fun h7 => ⟨rfl, (hJ.i74 h7).2⟩ }⟩
  · refine aK.vJ rfl rfl (by decide) 139 rfl rfl (hJ.fb rfl).1 (hJ.fb rfl).2 Tryz.underlying139 rfl (n := 5) (by kernel_rfl) (Nat.le_refl 5) p.cells rfl ?_
    refine xm ?_
    exact hk F _ w ⟨b0, b1, b2, b3, b4, true, b6, b7, b8, b9, b10, lD, lF, jv, iI, jw, _, j3, dU, gz, gL, rfl, by simp at hn ⊢; omega, rfl, { hJ with i5 := fun _ => rfl, fb := fun h => (by cases h), i65 := fun _ => rfl }⟩
  · obtain rfl := hJ.i5 qm
    refine aK.EP rfl rfl (by decide) (ob := .cells p.cells.toArray 139) (v := fun n => .slice (some ⟨n, 0, none⟩) 1 1) (fun w1 => by simp [go_sem, cB.val]) (fun w1 => by unfold cB.val; go_simp; rfl) hJ.tO (fun w1 h1 => ?_)
    refine xm ?_
    have hJ' := (hJ.rely h1).grow (F' := fun x => F x ∨ x = w1.heap.size) (w1 := w1.alloc (.cells p.cells.toArray 139)) (fun x hx => .inl hx) (fun x hx => alloc_old ((hJ.rely h1).tO x hx) _) (fun x hx => by rw [jl]; rcases hx with hx | hx; exact Nat.lt_succ_of_lt ((hJ.rely h1).tO x hx); omega)
    exact hk _ _ _ ⟨b0, b1, b2, b3, b4, b5, true, b7, b8, b9, b10, lD, lF, jv, iI, jw, _, _, dU, gz, gL, rfl, by simp at hn ⊢; omega, rfl, { hJ' with i65 := fun _ => qm, i6 := fun _ _ => ⟨_, rfl, .inr rfl, iR w1 _⟩, i74 := fun h7 => ⟨(hJ.i74 h7).1, rfl⟩ }⟩
  · obtain rfl := hJ.i4 qm.1
    obtain ⟨ns, rfl, hns, hnb⟩ := hJ.i6 qm.2 rfl
    obtain ⟨y, hy, hy1, _⟩ := hJ.hc
    obtain rfl := QF rfl
    obtain rfl := hy1 rfl
    obtain ⟨ho, hof⟩ := hJ.n7 rfl
    obtain ⟨ii, hii, hz, hs, hb⟩ : ∃ ii, Tryz.prog.info? 139 = some ii ∧ ii.zero = some (.agg #[.int .u8 0, .int .u8 0, .int .u8 0, .int .u8 0, .string ⟨#[]⟩]) ∧ ii.size = 5 ∧ ii.bytes = 24 := by
      have := vL
      cases hq : Tryz.prog.info? 139 with
      | none => rw [hq] at this; cases this
      | some ii =>
        rw [hq] at this
        simp only [Option.map_some, Option.some.injEq, Prod.mk.injEq] at this
        exact ⟨ii, rfl, this⟩
    refine aK.Sc rfl rfl (by decide) rfl 139 ii _ 5 24 Tryz.underlying72 hii hz hs hb rfl (by decide) rfl ho hof rfl hns hnb (news := p.cells) rfl rfl (by simp [cB.cells, Value.oneCell']) (by unfold maxLen; omega) (by omega) hJ.tO (fun w1 F' v' w' h1 hsub hin' hnew hown' hF' hkeep => ?_)
    refine xm ?_
    have Yg : w'.heap[bc]? = some (.cells #[gv, y] 131) := by rw [hkeep bc hJ.fc (DD ho hy), h1.own bc hJ.fc]; exact hy
    rw [← Mx] at hown'
    exact hk F' _ w' ⟨b0, b1, b2, b3, b4, b5, b6, true, b8, b9, false, lD, lF, jv, iI, _, jy, _, v', gz, gL, rfl, by simp at hn ⊢; omega, rfl, { hJ with
      sub := fun x hx => hsub x (hJ.sub x hx)
      tO := hin'
      fc := hsub _ hJ.fc
      fb := fun h5 => by rw [hJ.i65 qm.2] at h5; cases h5
      i6 := fun _ h => by cases h
      hc := ⟨y, Yg, fun _ => rfl, fun h => (by cases h)⟩
      i74 := fun _ => qm
      i7 := fun _ => ⟨hown', hF'⟩
      n7 := fun h => by cases h
      i10 := fun h => by cases h }⟩
  · obtain rfl := hJ.i0 qm.1
    refine aj.quiet aN rfl rfl xB _ (fun _ => by go_simp <;> rfl) (fun _ => by simp [go_sem, *]) ?_
    refine xm ?_
    exact hk F _ w ⟨b0, b1, b2, b3, b4, b5, b6, b7, true, b9, b10, _, lF, jv, iI, jw, jy, j3, dU, _, gL, rfl, by simp at hn ⊢; omega, rfl, { hJ with i8 := fun _ => rfl }⟩
  · obtain rfl := hJ.i8 qm.1
    refine aj.quiet aN rfl rfl xB _ (fun _ => by go_simp <;> rfl) (fun _ => by simp [go_sem, *]) ?_
    refine xm ?_
    exact hk F _ w ⟨b0, b1, b2, b3, b4, b5, b6, b7, b8, true, b10, lD, lF, jv, iI, jw, jy, j3, dU, _, _, rfl, by simp at hn ⊢; omega, rfl, { hJ with i9 := fun _ => rfl }⟩
  · obtain rfl := hJ.i9 qm.1
    obtain ⟨y, hy, _, _⟩ := hJ.hc
    have h7 : b7 = true := qm.2.1
    obtain ⟨ho, hof⟩ := hJ.i7 h7
    have hv : dU.cells = #[dU] ∧ dU.oneCell' = true := by
      rcases ho.2 with ⟨rfl, _⟩ | ⟨g, cap, cur, rfl, _⟩ <;> exact ⟨rfl, rfl⟩
    refine aK.df rfl rfl (by decide) 72 rfl rfl (v := dU) rfl hJ.fc hy (by rw [hv.1]; kernel_rfl) (by rw [hv.1]; simp [hv.2]) (by rw [hv.1]; exact Nat.le_refl 2) [gv, dU] (by rw [hv.1]; rfl) (fun w1 w' h1 hb hne hsz hos hou => ?_)
    refine xm ?_
    have hbc : ∀ g, dU.ownBlock = some g → g ≠ bc := fun g hg e => DD ho hy (by rw [hg, e])
    exact hk F _ w' ⟨b0, b1, b2, b3, b4, b5, b6, b7, b8, b9, true, lD, lF, jv, iI, jw, jy, j3, dU, gz, _, rfl, by simp at hn ⊢; omega, rfl, { hJ with
      tO := fun x hx => by rw [hsz]; exact Nat.lt_of_lt_of_le (hJ.tO x hx) h1.size
      fb := fun h5 => by have := O5 (WW h5); rw [h7] at this; cases this
      i6 := fun _ h => by rw [h7] at h; cases h
      hc := ⟨dU, hb, fun h => (by cases h), fun _ => rfl⟩
      i7 := fun _ => ⟨iy ho fun g hg => by rw [hne g (hbc g hg), h1.own g (hof g hg)], hof⟩
      n7 := fun h => by rw [h7] at h; cases h
      i10 := fun _ => h7 }⟩
end
theorem ready_nil {ops : Array Oper} {l : Array Bool} (hr : Region.ready .any ops l = []) (i : Nat) {o : Oper} (ho : ops[i]? = some o) (hd : ∀ e ∈ o.after, Region.binds .any e = true → l.getD e.on false = true) : l.getD i true = true := by
  cases h : l.getD i true
  · have : i ∈ Region.ready .any ops l := mem_ready.2 ⟨h, o, ho, hd⟩
    rw [hr] at this
    cases this
  · rfl
section
variable {bc nb : Nat} {gv sv : Value} {p : cB} {q : List cB} {F F0 : Nat → Prop} {w : World} {Stop : (Nat → Prop) → Goroutine → World → Prop} {cs : List Frame}
theorem Ue {n : Nat} {l : Array Bool} {a : Act} (h : JI bc nb gv sv p q F0 n l F a w) (hn : n = 0 ∨ Region.ready .any GA l = []) : a.defers = [] ∧ (∀ x, F0 x → F x) ∧ (∀ x, F x → x < w.heap.size) ∧ ∃ dR, w.heap[bc]? = some (.cells #[gv, dR] 131) ∧ w.ownsRow 0 139 5 dR (q.length + 1) (flat (q ++ [p])) ∧ ∀ g, dR.ownBlock = some g → F g := by
  obtain ⟨b0, b1, b2, b3, b4, b5, b6, b7, b8, b9, b10, lD, lF, jv, iI, jw, jy, j3, dU, gz, gL, rfl, hs, rfl, hJ⟩ := h
  have h10 : b10 = true := by
    rcases hn with rfl | hr
    · have tn : ∀ b : Bool, b.toNat ≤ 1 := fun b => by cases b <;> decide
      have := tn b0; have := tn b1; have := tn b2; have := tn b3; have := tn b4; have := tn b5; have := tn b6; have := tn b7; have := tn b8; have := tn b9
      cases b10
      · simp at hs; omega
      · rfl
    · have hh := fun i o ho hd => ready_nil (i := i) (o := o) hr ho hd
      unfold GA at hh
      simp only [CJ, Tryz.f63, cr, co, Option.getD] at hh
      have e0 := hh 0 _ rfl (by simp)
      have e1 := hh 1 _ rfl (by simp)
      have e5 := hh 5 _ rfl (by simp)
      simp only [Array.getD_eq_getD_getElem?, List.getElem?_toArray, List.getElem?_cons_succ, List.getElem?_cons_zero, Option.getD_some] at e0 e1 e5
      subst e0 e1 e5
      have e2 := hh 2 _ rfl (by simp)
      simp only [Array.getD_eq_getD_getElem?, List.getElem?_toArray, List.getElem?_cons_succ, List.getElem?_cons_zero, Option.getD_some] at e2
      subst e2
      have e3 := hh 3 _ rfl (by simp)
      simp only [Array.getD_eq_getD_getElem?, List.getElem?_toArray, List.getElem?_cons_succ, List.getElem?_cons_zero, Option.getD_some] at e3
      subst e3
      have e4 := hh 4 _ rfl (by simp)
      have e6 := hh 6 _ rfl (by simp)
      simp only [Array.getD_eq_getD_getElem?, List.getElem?_toArray, List.getElem?_cons_succ, List.getElem?_cons_zero, Option.getD_some] at e4 e6
      subst e4 e6
      have e7 := hh 7 _ rfl (by simp)
      simp only [Array.getD_eq_getD_getElem?, List.getElem?_toArray, List.getElem?_cons_succ, List.getElem?_cons_zero, Option.getD_some] at e7
      subst e7
      have e8 := hh 8 _ rfl (by simp)
      simp only [Array.getD_eq_getD_getElem?, List.getElem?_toArray, List.getElem?_cons_succ, List.getElem?_cons_zero, Option.getD_some] at e8
      subst e8
      have e9 := hh 9 _ rfl (by simp)
      simp only [Array.getD_eq_getD_getElem?, List.getElem?_toArray, List.getElem?_cons_succ, List.getElem?_cons_zero, Option.getD_some] at e9
      subst e9
      have e10 := hh 10 _ rfl (by simp)
      simpa using e10
  obtain ⟨y, hy, _, hy2⟩ := hJ.hc
  obtain rfl := hy2 h10
  exact ⟨rfl, hJ.sub, hJ.tO, y, hy, (hJ.i7 (hJ.i10 h10)).1, (hJ.i7 (hJ.i10 h10)).2⟩
theorem Uf {cF : Frame} (hF : F bc) (hC : w.heap[bc]? = some (.cells #[gv, sv] 131)) (ho : w.ownsRow 0 139 5 sv q.length (flat q)) (hof : ∀ g, sv.ownBlock = some g → F g) (hin : ∀ x, F x → x < w.heap.size) (hq : q.length ≤ 20000)
    (h : ∀ F' w' dR, (∀ x, F x → F' x) → (∀ x, F' x → x < w'.heap.size) → w'.heap[bc]? = some (.cells #[gv, dR] 131) → w'.ownsRow 0 139 5 dR ((q ++ [p]).take 20000).length (flat ((q ++ [p]).take 20000)) → (∀ g, dR.ownBlock = some g → F' g) → aK Tryz.prog true Stop F' (G (cF.finish (.tuple #[])) cs) w') :
    aK Tryz.prog true Stop F (G (Frame.enter Tryz.prog 63 #[.pointer (some ⟨bc, 0, none⟩), p.val] .normal) (cF :: cs)) w := by
  have hsl : ∃ sa cap, sv = .slice sa q.length cap := by
    rcases ho.2 with ⟨h, h0⟩ | ⟨g, cap, cur, h, _⟩
    · exact ⟨none, 0, by rw [h, h0]⟩
    · exact ⟨_, cap, h⟩
  obtain ⟨sa, cap, hsl⟩ := hsl
  have hlv : ∀ (a' : Act) (todo : List Item) (F' : Nat → Prop) (w' : World), a'.defers = [] → aK Tryz.prog true Stop F' (G (cF.finish (.tuple #[])) cs) w' → aK Tryz.prog true Stop F' (G { (Go.Conc.base 63).at a' todo with mode := .returning } (cF :: cs)) w' := fun a' todo F' w' hd hg =>
    aN.go rfl (fun w => stepG_leave (b := Go.Conc.base 63) (fn := Tryz.f63) rfl hd Tryz.func63 (results_none rfl _ _ _) (events_results_none rfl _ _)) hg
  rw [IM]
  simp only [CJ, Tryz.f63, Option.getD]
  refine aj.seq aN ?_
  refine aj.region aN _ rfl ?_
  refine xr ?_
  refine aK.EP rfl rfl (by decide) (ob := .cells p.cells.toArray 139) (v := fun n => .pointer (some ⟨n, 0, none⟩)) (fun w1 => by simp [go_sem]) (fun w1 => by unfold cB.val; go_simp; rfl) hin (fun w1 h1 => ?_)
  refine xm ?_
  have hst := Sd (bc := bc) (nb := w1.heap.size) (gv := gv) (sv := sv) (p := p) (q := q) (F0 := F) (Stop := Stop) (k := []) (cs := cF :: cs)
  have hen := fun n l a F' w' => Ue (bc := bc) (nb := w1.heap.size) (gv := gv) (sv := sv) (p := p) (q := q) (F0 := F) (n := n) (l := l) (a := a) (F := F') (w := w')
  unfold GA at hst hen
  simp only [CJ, Tryz.f63, cr, co, Option.getD] at hst hen
  have Ug : (w1.alloc (.cells p.cells.toArray 139)).heap[bc]? = some (.cells #[gv, sv] 131) := by rw [alloc_old (Nat.lt_of_lt_of_le (hin bc hF) h1.size), h1.own bc hF]; exact hC
  refine aj.regionEnd aN ?_
  refine aj.seq aN ?_
  refine aj.region aN _ rfl ?_
  refine xr ?_
  refine aj.quiet aN rfl rfl xB _ (fun _ => by go_simp <;> rfl) (fun _ => by simp [go_sem, *]) ?_
  refine xm ?_
  refine aj.quiet aN rfl rfl xB _ (fun _ => by go_simp <;> rfl) (fun _ => by simp [go_sem, *]) ?_
  refine xm ?_
  refine aj.quiet aN rfl rfl xB _ (fun _ => by go_simp <;> rfl) (fun _ => by simp [go_sem, *]) ?_
  refine xm ?_
  refine aK.ql rfl rfl (by decide) 72 rfl rfl (.inl hF) Ug Tryz.underlying72 rfl rfl ?_
  refine xm ?_
  subst hsl
  refine aj.quiet aN rfl rfl xB _ (fun _ => by go_simp <;> rfl) (fun _ => by simp [go_sem, *]) ?_
  refine xm ?_
  refine aj.quiet aN rfl rfl xB _ (fun _ => by go_simp <;> rfl) (fun _ => by simp [go_sem, *]) ?_
  refine xm ?_
  refine aj.regionEnd aN ?_
  refine aj.cond aN (decide ((q.length : Int) < 20000)) rfl ?_
  have hg1 : ∀ x, F x → (w1.alloc (.cells p.cells.toArray 139)).heap[x]? = w.heap[x]? := fun x hx => by rw [alloc_old (Nat.lt_of_lt_of_le (hin x hx) h1.size), h1.own x hx]
  have hin1 : ∀ x, (F x ∨ x = w1.heap.size) → x < (w1.alloc (.cells p.cells.toArray 139)).heap.size := fun x hx => by
    rw [jl]
    rcases hx with hx | hx
    · have := hin x hx; have := h1.size; omega
    · omega
  by_cases hlt : q.length < 20000
  · have hlt' : (q.length : Int) < 20000 := by omega
    simp only [hlt', decide_true, if_true]
    have htk : (q ++ [p]).take 20000 = q ++ [p] := List.take_of_length_le (by simp; omega)
    rw [htk] at h
    refine aK.drawn (by kernel_rfl) (JI bc w1.heap.size gv (.slice sa q.length cap) p q F) (fun w2 h2 => ?_) (fun n l F a w i rest => hst hlt n l F a w i rest) (fun n l F' a w' hI hn => ?_)
    · refine ⟨false, false, false, false, false, false, false, false, false, false, false, undef, undef, undef, undef, undef, undef, undef, undef, undef, undef, rfl, rfl, rfl, JS.rely ?_ h2⟩
      exact ⟨nofun, nofun, nofun, nofun, nofun, nofun, nofun, nofun, fun x hx => .inl hx, hin1, .inl hF, fun _ => ⟨.inr rfl, iR _ _⟩, nofun, nofun, ⟨_, Ug, fun _ => rfl, nofun⟩, nofun, nofun, fun _ => ⟨iy ho fun g hg => hg1 g (hof g hg), fun g hg => .inl (hof g hg)⟩, nofun⟩
    · obtain ⟨hd, hsub, hin', dR, e1, e2, e3⟩ := hen _ _ _ _ _ hI hn
      exact aj.fin aN (hlv a _ F' w' hd (h F' w' dR hsub hin' e1 (by simpa using e2) e3))
  · have hlt' : ¬ (q.length : Int) < 20000 := by omega
    simp only [hlt', decide_false, Bool.false_eq_true, if_false]
    have htk : (q ++ [p]).take 20000 = q := by
      rw [List.take_append_of_le_length (by omega), List.take_of_length_le (by omega)]
    rw [htk] at h
    refine aj.skip aN ?_
    refine aj.fin aN (hlv _ _ _ _ rfl (h _ _ _ (fun x hx => .inl hx) hin1 Ug (iy ho fun g hg => hg1 g (hof g hg)) fun g hg => .inl (hof g hg)))
end
noncomputable def CK (bc : Nat) (gv r wk : Value) (pk th : Nat) (q0 : List cB) (cs : List Frame) (acc : List Value) (F : Nat → Prop) (a : Goroutine) (w : World) : Prop :=
  ∃ ps : List cB, acc = ps.map cB.val ∧ ∃ sv x8 dU gz gL x20 oV oW oZ x24, a = vS (.pointer (some ⟨bc, 0, none⟩)) r wk pk th x8 dU gz gL x20 oV oW oZ x24 cs ∧ F bc ∧ w.heap[bc]? = some (.cells #[gv, sv] 131) ∧
    w.ownsRow 0 139 5 sv ((q0 ++ ps).take 20000).length (flat ((q0 ++ ps).take 20000)) ∧ (∀ g, sv.ownBlock = some g → F g) ∧ ∀ x, F x → x < w.heap.size
section
variable {bc : Nat} {gv r wk : Value} {pk th : Nat} {q0 : List cB} {cs : List Frame}
theorem CK.rely {acc : List Value} {F : Nat → Prop} {a : Goroutine} {w w1 : World} (h : CK bc gv r wk pk th q0 cs acc F a w) (hr : bA F w w1) : CK bc gv r wk pk th q0 cs acc F a w1 := by
  obtain ⟨ps, e, sv, x8, dU, gz, gL, x20, oV, oW, oZ, x24, h1, h2, h3, h4, h5, h6⟩ := h
  exact ⟨ps, e, sv, x8, dU, gz, gL, x20, oV, oW, oZ, x24, h1, h2, (hr.own _ h2).trans h3, iy h4 fun g hg => hr.own g (h5 g hg), h5, fun x hx => Nat.lt_of_lt_of_le (h6 x hx) hr.size⟩
theorem GD (c r wk : Value) (pk th : Nat) (x8 dU gz gL x20 oV oW oZ x24 : Value) (cs : List Frame) (i : Int) (v : Value) (ok : Bool) : (vS c r wk pk th x8 dU gz gL x20 oV oW oZ x24 cs).finishComm Tryz.prog (dX pk th z59 ry) .select i v ok =
    G ((Go.Conc.base 59).at ⟨yj c r wk pk th x8 (commResult (dX pk th z59 ry) .select i v ok) gz gL x20 oV oW oZ x24, []⟩ (.inRegion Au [1, 2, 3] :: Gy)) cs := by
  show G (((Go.Conc.base 59).at ⟨yj c r wk pk th x8 dU gz gL x20 oV oW oZ x24, []⟩ (.inRegion Au [0, 1, 2, 3] :: Gy)).finish (commResult (dX pk th z59 ry) .select i v ok)) cs = _
  rw [Frame.finish_at]
  have : (Au[0]?).bind (·.dst) = some 17 := by
    unfold Au
    simp only [Gx, Gw, c59, Tryz.f59, cl, cr, cb, co, Option.getD]
    rfl
  rw [this]
  rfl
theorem Vp (v : Value) : commResult (dX pk th z59 ry) .select 0 v true = .tuple #[.int .i64 0, .bool true, v, ry] := by
  simp [commResult, dX, rcase, goInt]
theorem Vq (v : Value) : commResult (dX pk th z59 ry) .select 1 v false = .tuple #[.int .i64 1, .bool false, z59, v] := by
  simp [commResult, dX, rcase, goInt]
theorem O6 {acc : List Value} {F : Nat → Prop} {a : Goroutine} {w : World} (h : CK bc gv r wk pk th q0 cs acc F a w) (hq : q0.length ≤ 20000) :
    ∃ A2, jk Tryz.prog (dX pk th z59 ry) A2 a ∧ ∀ v, (∃ p : cB, v = p.val) → aK Tryz.prog true (CK bc gv r wk pk th q0 cs (acc ++ [v])) F (A2.finishComm Tryz.prog (dX pk th z59 ry) .select 0 v true) w := by
  obtain ⟨ps, rfl, sv, x8, dU, gz, gL, x20, oV, oW, oZ, x24, rfl, g2, h3, h4, h5, h6⟩ := h
  refine ⟨_, zh _ _ _ _ _ _ _ _ _ _ _ _ _ _ _, ?_⟩
  rintro _ ⟨p, rfl⟩
  rw [GD, Vp]
  have hend : ∀ (F' : Nat → Prop) (w' : World) (dR y8 Uh Ui Uj y20 y21 y22 y23 y24 : Value), F' bc → (∀ x, F' x → x < w'.heap.size) → w'.heap[bc]? = some (.cells #[gv, dR] 131) → w'.ownsRow 0 139 5 dR ((q0 ++ (ps ++ [p])).take 20000).length (flat ((q0 ++ (ps ++ [p])).take 20000)) → (∀ g, dR.ownBlock = some g → F' g) →
      aK Tryz.prog true (CK bc gv r wk pk th q0 cs (ps.map cB.val ++ [p.val])) F' (vS (.pointer (some ⟨bc, 0, none⟩)) r wk pk th y8 Uh Ui Uj y20 y21 y22 y23 y24 cs) w' := by
    intro F' w' dR y8 Uh Ui Uj y20 y21 y22 y23 y24 k1 k2 k3 k4 k5
    refine aK.stop fun w1 h1 => CK.rely ?_ h1
    exact ⟨ps ++ [p], by simp, dR, y8, Uh, Ui, Uj, y20, y21, y22, y23, y24, rfl, k1, k3, k4, k5, k2⟩
  unfold vS yj Au Gy at hend
  unfold yj Au Gy
  simp only [Gx, Gw, c59, Tryz.f59, cl, cr, cb, co, Option.getD] at hend ⊢
  refine aj.quiet aN rfl rfl xB _ (fun _ => by go_simp <;> rfl) (fun _ => by simp [go_sem, *]) ?_
  refine xm ?_
  refine aj.quiet aN rfl rfl xB _ (fun _ => by go_simp <;> rfl) (fun _ => by simp [go_sem, *]) ?_
  refine xm ?_
  refine aj.quiet aN rfl rfl xB _ (fun _ => by go_simp <;> rfl) (fun _ => by simp [go_sem, *]) ?_
  refine xm ?_
  refine aj.regionEnd aN ?_
  refine aj.block aN ?_
  refine aj.cond aN true rfl ?_
  simp only [if_true]
  refine aj.seq aN ?_
  refine aj.region aN _ rfl ?_
  refine xr ?_
  refine aj.quiet aN rfl rfl xB _ (fun _ => by go_simp <;> rfl) (fun _ => by simp [go_sem, *]) ?_
  refine xm ?_
  refine aK.EP rfl rfl (by decide) (ob := .cells #[.int .u8 0, .int .u8 0, .int .u8 0, .int .u8 0, .string ⟨#[]⟩] 139) (v := fun n => .pointer (some ⟨n, 0, none⟩)) (fun w1 => by simp [go_sem]) (fun w1 => by go_simp) h6 (fun w1 h1 => ?_)
  refine xm ?_
  refine aK.df rfl rfl (by decide) 139 rfl rfl (v := .agg p.cells.toArray) rfl (.inr rfl) (B := w1.heap.size) (xs := #[.int .u8 0, .int .u8 0, .int .u8 0, .int .u8 0, .string ⟨#[]⟩]) (t := 139) (iR w1 _) (by kernel_rfl) rfl (Nat.le_refl 5) p.cells rfl (fun w2 w3 h2 hb3 Kq Ua Ub Uc => ?_)
  refine xm ?_
  have hs2 : w1.heap.size + 1 ≤ w2.heap.size := by rw [← jl]; exact h2.size
  have hold : ∀ x, F x → w3.heap[x]? = w.heap[x]? := fun x hx => by
    have hx1 : x < w1.heap.size := Nat.lt_of_lt_of_le (h6 x hx) h1.size
    rw [Kq x (by omega), h2.own x (.inl hx), ← h1.own x hx, alloc_old hx1]
  refine aj.regionEnd aN ?_
  refine aj.region aN _ rfl ?_
  refine xr ?_
  refine aj.quiet aN rfl rfl xB _ (fun _ => by go_simp <;> rfl) (fun _ => by simp [go_sem, *]) ?_
  refine xm ?_
  refine aK.vJ rfl rfl (by decide) 139 rfl rfl (.inr rfl) hb3 Tryz.underlying139 rfl (n := 5) (by kernel_rfl) (Nat.le_refl 5) p.cells rfl ?_
  refine xm ?_
  refine aj.call aN rfl rfl (by decide) rfl Tryz.func63 (by kernel_rfl) (by rw [Gz]; rfl) ?_
  refine xm ?_
  have WX : ∀ x, (F x ∨ x = w1.heap.size) → x < w3.heap.size := fun x hx => by
    rcases hx with hx | hx
    · have := h6 x hx; have := h1.size; omega
    · omega
  refine Uf (q := (q0 ++ ps).take 20000) (.inl g2) ((hold bc g2).trans h3) (iy h4 fun g hg => hold g (h5 g hg)) (fun g hg => .inl (h5 g hg)) WX (by simp; omega) (fun F' w' dR k1 k2 k3 k4 k5 => ?_)
  rw [Frame.finish_at]
  refine xm ?_
  refine aj.regionEnd aN ?_
  refine aj.inBlock aN ?_
  refine aj.inBlock aN ?_
  refine aj.inLoop aN ?_
  refine aj.block aN ?_
  refine aj.seq aN ?_
  refine aj.seq aN ?_
  refine aj.region aN _ rfl ?_
  refine xr ?_
  refine aj.quiet aN rfl rfl xB _ (fun _ => by go_simp <;> rfl) (fun _ => by simp [go_sem, *]) ?_
  refine xm ?_
  refine aj.regionEnd aN ?_
  refine aj.region aN _ rfl ?_
  refine xr ?_
  refine aj.quiet aN rfl rfl xB _ (fun _ => by go_simp <;> rfl) (fun _ => by simp [go_sem, *]) ?_
  refine xm ?_
  refine aj.regionEnd aN ?_
  refine aj.seq aN ?_
  refine aj.region aN _ rfl ?_
  refine xr ?_
  refine hend F' w' dR _ _ _ _ _ _ _ _ _ (k1 _ (.inl g2)) k2 k3 ?_ k5
  have htk : (q0 ++ (ps ++ [p])).take 20000 = ((q0 ++ ps).take 20000 ++ [p]).take 20000 := by
    rw [← List.append_assoc, List.take_append (l₁ := q0 ++ ps), List.take_append (l₁ := (q0 ++ ps).take 20000), List.take_take, Nat.min_self]
    congr 1
    rw [List.length_take]
    by_cases hle : (q0 ++ ps).length ≤ 20000
    · rw [Nat.min_eq_right hle]
    · rw [Nat.min_eq_left (by omega)]
      congr 1
      omega
  rw [htk]
  exact k4
end
theorem val_inj {p q : cB} (h : p.val = q.val) : p = q := by
  cases p
  cases q
  simp only [cB.val, Value.agg.injEq, Array.mk.injEq, List.cons.injEq, Value.int.injEq, Value.string.injEq, true_and, and_true] at h
  obtain ⟨rfl, rfl, rfl, rfl, rfl⟩ := h
  rfl
theorem GG : ∀ {ps qs : List cB}, ps.map cB.val = qs.map cB.val → ps = qs
  | [], [], _ => rfl
  | [], _ :: _, h => by cases h
  | _ :: _, [], h => by cases h
  | p :: ps, q :: qs, h => by
    injection h with h1 h2
    rw [val_inj h1, GG h2]
theorem Sg {bc br : Nat} {gv r wk x rv : Value} {pk th : Nat} {q0 : List cB} {cs : List Frame} {rc : Array Value} {tR : TypeId} {sl : Value} {ps : List cB} (hq : q0.length ≤ 20000) (hn : ps.length < 1000000) (hrc : 20 < rc.size) (s : Score) (e1 : s.pk = pk) (e2 : s.th = th) (e3 : s.z0 = z59) (e4 : s.z1 = ry) :
    Parts Tryz.prog s (CK bc gv r wk pk th q0 cs) (vQ br pk rc tR sl ps (qP rv wk pk th x [vR th]) [ko Tryz.prog]) (fun v => ∃ p : cB, v = p.val) := by
  have hcs : s.cs = dX pk th z59 ry := by unfold Score.cs; rw [e1, e2, e3, e4]
  refine ⟨fun acc F a w w1 h hr => h.rely hr, fun vs F b w w1 h hr => h.rely hr, fun acc F a w h => ?_, fun v vs F b w h => ?_, fun F b w h => ?_⟩
  · rw [hcs]
    exact O6 h hq
  · rw [e1]
    exact Sa rfl hn hrc h
  · obtain ⟨rfl, _⟩ := h
    refine ⟨rfl, rfl, G { (baseD 106).at ⟨vK rv wk pk th x, []⟩ [] with mode := .returning } [ko Tryz.prog], 2, Gt Tryz.func106 (by kernel_rfl), fun w1 kt hw => ?_⟩
    rw [e2] at hw ⊢
    exact Kr (b := baseD 106) (by kernel_rfl) w1 hw
section
variable {K : Machine → Trace → Prop} {w : World} {bc br : Nat} {gv sv wk : Value} {q0 : List cB} {cs : List Frame} {cF : Frame} {f : FuncId} {fst cap : Array Value} {fn : Func}
structure Uk (bc br : Nat) (gv sv sl : Value) (q0 ps : List cB) (rc : Array Value) (tR : TypeId) (pk : Nat) (w3 w4 : World) : Prop where
  fJ : ∃ dR, w4.heap[bc]? = some (.cells #[gv, dR] 131) ∧ w4.ownsRow 0 139 5 dR ((q0 ++ ps).take 20000).length (flat ((q0 ++ ps).take 20000)) ∧ ∀ g, dR.ownBlock = some g → sv.ownBlock = some g ∨ w3.heap.size ≤ g
  rep : w4.heap[br]? = some (.cells (rc.setIfInBounds 20 (.slice none 0 0)) tR)
  rest : ∀ x, x < w3.heap.size → x ≠ bc → x ≠ br → some x ≠ sv.ownBlock → some x ≠ sl.ownBlock → x ≠ pk → x ≠ pk + 1 → w4.heap[x]? = w3.heap[x]?
  size : w3.heap.size ≤ w4.heap.size
  os : w4.os = w3.os
  out : w4.output = w3.output
structure Written (bc br : Nat) (gv sv sl : Value) (q0 ps : List cB) (rc : Array Value) (tR : TypeId) (pk : Nat) (w3 : World) : Prop where
  fJ : w3.heap[bc]? = some (.cells #[gv, sv] 131)
  row : w3.ownsRow 0 139 5 sv q0.length (flat q0)
  rep : w3.heap[br]? = some (.cells rc tR)
  out : rc[20]? = some sl
  box : w3.ownsRow 0 139 5 sl ps.length (flat ps)
  few : ps.length < 1000000
  ne1 : bc ≠ br
  Yh : some br ≠ sv.ownBlock
  Yi : some bc ≠ sl.ownBlock
  Yj : ∀ g, sv.ownBlock = some g → some g ≠ sl.ownBlock
  ch : w3.heap[pk]? = some (.chan 0 #[] false 0 0 false) ∧ w3.heap[pk + 1]? = some (.chan 0 #[] false 0 0 false)
theorem kI {w : World} {sv : Value} {n : Nat} {xs : List Value} (h : w.ownsRow 0 139 5 sv n xs) {g : Nat} (hg : sv.ownBlock = some g) : ∃ cur, w.heap[g]? = some (.cells cur 139) := by
  rcases h.2 with ⟨rfl, _⟩ | ⟨g', cap, cur, rfl, _, hb, _⟩
  · cases hg
  · obtain rfl : g' = g := by simpa [Value.ownBlock] using hg
    exact ⟨cur, hb⟩
theorem MB (hX : Shut Tryz.prog true qd (XR Tryz.prog K)) {c r : Value} {pk th : Nat} {x8 dU gz gL x20 oV oW oZ x24 : Value} (h : XR Tryz.prog K (G (cF.finish (.tuple #[])) cs) w) :
    XR Tryz.prog K ((vS c r wk pk th x8 dU gz gL x20 oV oW oZ x24 (cF :: cs)).finishComm Tryz.prog (dX pk th z59 ry) .select 1 ry false) w := by
  rw [GD, Vq]
  unfold yj Au Gy
  simp only [Gx, Gw, c59, Tryz.f59, cl, cr, cb, co, Option.getD]
  refine aj.quiet hX.c rfl rfl xB _ (fun _ => by go_simp <;> rfl) (fun _ => by simp [go_sem, *]) ?_
  refine xm ?_
  refine aj.quiet hX.c rfl rfl xB _ (fun _ => by go_simp <;> rfl) (fun _ => by simp [go_sem, *]) ?_
  refine xm ?_
  refine aj.quiet hX.c rfl rfl xB _ (fun _ => by go_simp <;> rfl) (fun _ => by simp [go_sem, *]) ?_
  refine xm ?_
  refine aj.regionEnd hX.c ?_
  refine aj.block hX.c ?_
  refine aj.cond hX.c false rfl ?_
  simp only [Bool.false_eq_true, if_false]
  refine aj.cond hX.c true rfl ?_
  simp only [if_true]
  refine aj.ret hX.c ?_
  exact hX.c.go rfl (fun w => stepG_leave (b := Go.Conc.base 59) (fn := Tryz.f59) rfl rfl Tryz.func59 (results_none (by kernel_rfl) _ _ _) (events_results_none (by kernel_rfl) _ _)) h
theorem Si (c r wk : Value) (pk th : Nat) (cs : List Frame) (w : World) : stepG Tryz.prog true (G ((Go.Conc.base 59).at ⟨#[c, r, wk, undef, undef, undef, .chan (some pk), .chan (some th), undef, .chan (some pk), .chan (some th), r, wk, .chan (some pk), .chan (some th), undef, undef, undef, undef, undef, undef, undef, undef, undef, undef], []⟩ [.inRegion (co (cl (cr (cr c59)))) [4], .code (cr (cr (cr c59)))]) cs) w =
    .spawn (G ((Go.Conc.base 59).at ⟨#[c, r, wk, undef, undef, undef, .chan (some pk), .chan (some th), undef, .chan (some pk), .chan (some th), r, wk, .chan (some pk), .chan (some th), undef, undef, undef, undef, undef, undef, undef, undef, undef, undef], []⟩ [.inRegion (co (cl (cr (cr c59)))) [], .code (cr (cr (cr c59)))]) cs) (born Tryz.prog (dcall 106 #[r, wk, .chan (some pk), .chan (some th)])) w #[] := by
  simp only [c59, Tryz.f59, cl, cr, co, Option.getD]
  rw [stepG_spawn rfl rfl (by decide) (d := dcall 106 #[r, wk, .chan (some pk), .chan (some th)]) (w' := w) (by go_simp; rfl) rfl, listed_none (by simp [go_sem])]
  rfl
theorem dw.imp {P : Program} {main : Bool} {R : World → World → Prop} {D : World → World → Array Event → Prop} {Stop Stop' : Goroutine → World → Prop} {g : Goroutine} {w : World} (h : dw P main R D Stop g w) (hs : ∀ g w, Stop g w → Stop' g w) : dw P main R D Stop' g w :=
  h (fun g w => dw P main R D Stop' g w) (fun _ _ h => .stop fun w₁ h1 => hs _ _ (h w₁ h1)) fun _ _ hr h => .step hr h
theorem Sj (hf : Tryz.prog.funcs[f]? = some fn) (hname : (fn.name == "runtime.NumGoroutine") = false) (hb : fn.body.isNone = false) (hq : q0.length ≤ 20000)
    {Q1 : World → Prop} {R3 : Value → List cB → Array Value → TypeId → World → Prop}
    (CL : aX Tryz.prog f (fst ++ cap) ((w.alloc (.chan 0 #[] false 0 0 false)).alloc (.chan 0 #[] false 0 0 false)) (fun _ w' => Q1 w'))
    (Ul : ∀ w₁, Q1 w₁ → QD Tryz.prog 155 (Tryz.f155.body.getD .skip) { tmps := #[.pointer (some ⟨br, 0, none⟩)] ++ Array.replicate (Tryz.f155.ntmps - (#[.pointer (some ⟨br, 0, none⟩)] : Array Value).size) undef, defers := [] } w₁ (fun _ w' => ∃ sl ps rc tR, Written bc br gv sv sl q0 ps rc tR w.heap.size w' ∧ R3 sl ps rc tR w'))
    (h : ∀ sl ps rc tR w3 w4, Written bc br gv sv sl q0 ps rc tR w.heap.size w3 → R3 sl ps rc tR w3 → Uk bc br gv sv sl q0 ps rc tR w.heap.size w3 w4 → XR Tryz.prog K (G (cF.finish (.tuple #[])) cs) w4) :
    XR Tryz.prog K (G (Frame.enter Tryz.prog 59 #[.pointer (some ⟨bc, 0, none⟩), .pointer (some ⟨br, 0, none⟩), .func (.func f) fst cap] .normal) (cF :: cs)) w := by
  refine H6 jc ?_
  obtain ⟨n, hn⟩ := Mw (.pointer (some ⟨bc, 0, none⟩)) (.pointer (some ⟨br, 0, none⟩)) (.func (.func f) fst cap) w.heap.size (w.heap.size + 1) (cF :: cs)
  have hpk : dP ((w.alloc (.chan 0 #[] false 0 0 false)).alloc (.chan 0 #[] false 0 0 false)) w.heap.size 0 := by
    unfold dP
    rw [alloc_old (by rw [jl]; omega), iR]
  have hth : dP ((w.alloc (.chan 0 #[] false 0 0 false)).alloc (.chan 0 #[] false 0 0 false)) (w.heap.size + 1) 0 := by
    unfold dP
    have := iR (w.alloc (.chan 0 #[] false 0 0 false)) (.chan 0 #[] false 0 0 false)
    rwa [jl] at this
  generalize YT : w.heap.size = pk at *
  let nP : Goroutine → World → Prop := fun g w' => ∃ sl ps rc tR w3 F' x, Written bc br gv sv sl q0 ps rc tR pk w3 ∧ R3 sl ps rc tR w3 ∧ vQ br pk rc tR sl ps (qP (.pointer (some ⟨br, 0, none⟩)) (.func (.func f) fst cap) pk (pk + 1) x [vR (pk + 1)]) [ko Tryz.prog] (ps.map cB.val) F' g w' ∧ CE (fun x => x = br ∨ some x = sl.ownBlock) w3 F' w'
  refine hire (nP := nP) rfl (fun w₁ => Si _ _ _ _ _ _ w₁) hn hpk hth (by omega) ?_ ?_
  · -- the worker
    refine EJ sQ hf hname hb ?_
    refine CL false _ _ _ sQ fun fr v w' _ hl hQ => sQ.back hl ?_
    refine EK sQ ?_
    have key : ∀ (sl : Value) (ps : List cB) (rc : Array Value) (tR : TypeId) (w3 : World), Written bc br gv sv sl q0 ps rc tR pk w3 → R3 sl ps rc tR w3 → dw Tryz.prog false di (DW pk (pk + 1)) nP (G (qP (.pointer (some ⟨br, 0, none⟩)) (.func (.func f) fst cap) pk (pk + 1) v [dcall 154 #[.pointer (some ⟨br, 0, none⟩), .chan (some pk)], vR (pk + 1)]) [ko Tryz.prog]) w3 := by
      intro sl ps rc tR w3 hW wV
      refine Gu sQ ?_
      have hnot : ∀ c, w3.heap[c]? = some (.chan 0 #[] false 0 0 false) → ¬ (c = br ∨ some c = sl.ownBlock) := by
        rintro c hc (rfl | h)
        · rw [hW.rep] at hc; cases hc
        · obtain ⟨cur, kN⟩ := kI hW.box h.symm
          rw [hc] at kN; cases kN
      have Um : ∀ x, (x = br ∨ some x = sl.ownBlock) → x < w3.heap.size := by
        rintro x (rfl | h)
        · exact dz hW.rep
        · obtain ⟨cur, kN⟩ := kI hW.box h.symm
          exact dz kN
      have hgo := O1 (br := br) (pk := pk) (tR := tR) (cR := qP (.pointer (some ⟨br, 0, none⟩)) (.func (.func f) fst cap) pk (pk + 1) v [vR (pk + 1)]) (cs1 := [ko Tryz.prog]) (F := fun x => x = br ∨ some x = sl.ownBlock) rfl hW.few (.inl rfl) hW.rep hW.out hW.box (fun g hg => .inr hg.symm) Um
      refine (hgo.Ya (pk := pk) (th := pk + 1) (hnot _ hW.ch.1) (hnot _ hW.ch.2) (dz hW.ch.1) (dz hW.ch.2) Um).imp ?_
      rintro g w' ⟨F', h1, h2⟩
      exact ⟨sl, ps, rc, tR, w3, F', v, hW, wV, h1, h2⟩
    rw [enter_atD #[.pointer (some ⟨br, 0, none⟩)] Tryz.func155 (c := Tryz.f155.body.getD .skip) rfl]
    refine Ul w' hQ false _ _ (baseD 155) _ sQ rfl (by decide) fun a' todo w3 hd hq => ?_
    obtain ⟨sl, ps, rc, tR, hW, wV⟩ := hq
    refine sQ.c.go rfl (fun w => stepG_leave_deferred (b := baseD 155) (fn := Tryz.f155) rfl hd Tryz.func155 (results_none (by kernel_rfl) _ _ _) (events_results_none (by kernel_rfl) _ _) rfl) ?_
    exact key sl ps rc tR w3 hW wV
  · -- the meeting
    rintro b w' ⟨sl, ps, rc, tR, w3, F', x, hW, wV, hSW, hS0⟩
    have hrc : 20 < rc.size := (Array.getElem?_eq_some_iff.1 hW.out).1
    have hF' : ∀ c, ¬ (c = br ∨ some c = sl.ownBlock) → c < w3.heap.size → ¬ F' c := fun c hc hl hx => by
      rcases hS0.own c hx with h | h
      · exact hc h
      · omega
    have hbc : ¬ (bc = br ∨ some bc = sl.ownBlock) := fun h => h.elim hW.ne1 hW.Yi
    have hsv : ∀ g, sv.ownBlock = some g → ¬ (g = br ∨ some g = sl.ownBlock) := fun g hg h => h.elim (fun e => hW.Yh (by rw [hg, e])) (hW.Yj g hg)
    have Ku : ∀ g, sv.ownBlock = some g → g < w3.heap.size := fun g hg => by
      obtain ⟨cur, kN⟩ := kI hW.row hg
      exact dz kN
    have hnot : ∀ c, w3.heap[c]? = some (.chan 0 #[] false 0 0 false) → ¬ (c = br ∨ some c = sl.ownBlock) := by
      rintro c hc (rfl | h)
      · rw [hW.rep] at hc; cases hc
      · obtain ⟨cur, kN⟩ := kI hW.box h.symm
        rw [hc] at kN; cases kN
    have QG : ∀ c, w3.heap[c]? = some (.chan 0 #[] false 0 0 false) → ¬ (c = bc ∨ some c = sv.ownBlock) := by
      rintro c hc (rfl | h)
      · rw [hW.fJ] at hc; cases hc
      · obtain ⟨cur, kN⟩ := kI hW.row h.symm
        rw [hc] at kN; cases kN
    have htk : q0.take 20000 = q0 := List.take_of_length_le hq
    have Un : w'.heap[bc]? = some (.cells #[gv, sv] 131) := (hS0.rest bc (dz hW.fJ) hbc).trans hW.fJ
    have hrow : w'.ownsRow 0 139 5 sv q0.length (flat q0) := iy hW.row fun g hg => hS0.rest g (Ku g hg) (hsv g hg)
    have Uo : ∀ x, (x = bc ∨ some x = sv.ownBlock) → x < w'.heap.size := by
      rintro x (rfl | h)
      · exact dz Un
      · have := Ku x h.symm; have := hS0.size; omega
    refine ⟨CK bc gv (.pointer (some ⟨br, 0, none⟩)) (.func (.func f) fst cap) pk (pk + 1) q0 (cF :: cs), vQ br pk rc tR sl ps (qP (.pointer (some ⟨br, 0, none⟩)) (.func (.func f) fst cap) pk (pk + 1) x [vR (pk + 1)]) [ko Tryz.prog], (fun v => ∃ p : cB, v = p.val), ps.map cB.val, (fun x => x = bc ∨ some x = sv.ownBlock), F', ⟨fun s e1 e2 e3 e4 => Sg hq hW.few hrc s e1 e2 e3 e4, hSW, ?_, ?_, Uo, hS0.tO, ⟨QG _ hW.ch.1, QG _ hW.ch.2⟩, ⟨hF' _ (hnot _ hW.ch.1) (dz hW.ch.1), hF' _ (hnot _ hW.ch.2) (dz hW.ch.2)⟩⟩, ?_⟩
    · exact ⟨_, ⟨[], rfl, sv, _, _, _, _, _, _, _, _, _, rfl, .inl rfl, Un, by simpa [htk] using hrow, fun g hg => .inr hg.symm, Uo⟩, zh _ _ _ _ _ _ _ _ _ _ _ _ _ _ _⟩
    · rintro y (rfl | hy)
      · exact hF' _ hbc (dz hW.fJ)
      · exact hF' _ (hsv y hy.symm) (Ku y hy.symm)
    · intro tL vP II a0 b0 w4 hM hat Yk hD
      obtain ⟨ps', e, dR, x8, dU, gz, gL, x20, oV, oW, oZ, x24, rfl, k2, k3, k4, k5, k6⟩ := hM
      obtain rfl := GG e
      obtain rfl := hat.inj (zh _ _ _ _ _ _ _ _ _ _ _ _ _ _ _) w4
      refine MB jc (h sl ps rc tR w3 w4 hW wV ⟨⟨dR, k3, k4, fun g hg => ?_⟩, Yk.2.2.1, fun y hy h1 h2 h3 h4 h5 h6 => ?_, Nat.le_trans hS0.size hD.size, hD.os.trans hS0.os, hD.out.trans hS0.out⟩)
      · by_cases hl : g < w'.heap.size
        · rcases hD.xS g hl (k5 g hg) with rfl | h
          · exact absurd (by rw [hg]) (DD k4 k3)
          · exact .inl h.symm
        · exact .inr (by have := hS0.size; omega)
      · have WY := hF' y (fun h => h.elim h2 h4) hy
        rw [hD.rest y (Nat.lt_of_lt_of_le hy hS0.size) (fun h => h.elim h1 h3) WY h5 h6]
        exact hS0.rest y hy fun h => h.elim h2 h4
end
def Bq (g : Goroutine) (w : World) : Machine := { world := w, gs := #[g], rest := { timers := #[], alone := none, slice := none } }
theorem O7 {P : Program} {g : Goroutine} {w : World} (hr : g.status = .running) : move P (Bq g w) = .goroutine (Bq g w) 0 := by
  simp [move, ask, askOn, Bq, runnable_eq, due, Go.ahead, Goroutine.canRun, List.range_succ, choose, pure, Sem.run, Question.forced, hr]
theorem O8 {P : Program} {g g' : Goroutine} {w w' : World} {es : Array Event} (hr : g.status = .running) (h : stepG P true g w = .go g' w' es) : step P (Bq g w) = .next (Bq g' w') := by
  rw [step, stepT, O7 hr]
  simp [runT, Bq, Array.swapAt!, h]
section
variable {P : Program} {f : FuncId} {args : Array Value} {w : World} {Post : Value → World → Prop}
theorem aX.alone (h : aX P f args w Post) (hP : ∀ v w w', di w w' → Post v w → Post v w') : Calls P f args w (fun e w' => match e with | .returned v => Post v w' | _ => False) := by
  intro cs
  let X : Goroutine → World → Prop := fun g w => ∀ w₁, di w w₁ → ∃ fr v w', fr.fn = f ∧ fr.leaving P w' (.returned v) ∧ Post v w' ∧ Steps P (Bq g w₁) (lone fr cs w')
  have hX : Shut P true (fun _ _ _ => True) X := by
    refine ⟨fun {g w} hr hst w₁ h1 => ?_, fun {g w w₁} h1 hx w₂ h2 => hx w₂ (ji _ _ _ h1 h2), fun _ => trivial⟩
    have h2 := hst w₁ h1
    cases hgo : stepG P true g w₁ with
    | go g' w' es =>
      rw [hgo, goes_go] at h2
      obtain ⟨fr, v, w2, e1, e2, e3, N, e4⟩ := h2.2 w' (iF _)
      exact ⟨fr, v, w2, e1, e2, e3, N + 1, by simp only [runN, O8 hr hgo]; exact e4⟩
    | _ => rw [hgo] at h2; exact h2.elim
  obtain ⟨fr, v, w', h1, h2, h3, h4⟩ := h true _ X cs hX (fun fr v w' e1 e2 e3 w₁ hs => ⟨fr, v, w₁, e1, xZ e2 hs, hP v _ _ hs e3, 0, rfl⟩) w (iF w)
  exact ⟨.returned v, w', fr, h3, h4, h1, h2⟩
theorem tT {f : FuncId} (hf : kH f = true) (hr : isRow f = false) (hS : slotsOf f = []) (h : ∀ w₁, di w w₁ → Calls Tryz.prog f args w₁ (fun e w' => match e with | .returned v => Post v w' | _ => False)) (hP : ∀ v w w', di w w' → Post v w → Post v w') : aX Tryz.prog f args w Post := by
  intro main D X cs hX hk
  refine hX.goes (Ms (Q := Post) hf hr hS (fun v w1 w2 h1 h2 h3 h => hP v _ _ (Bn h1 h2 h3) h) (fun tape d => h _ ⟨(tape, d), rfl⟩) main cs) ?_
  rintro g w' ⟨fr, v, rfl, e1, e2, e3⟩
  exact hk fr v w' e1 e2 e3
end
section
variable {P : Program} {main : Bool} {D : World → World → Array Event → Prop} {X : Goroutine → World → Prop} {w : World} {b : Frame} {a : Act} {k : List Item} {cs : List Frame} {ops : Array Oper} {i : Nat} {rest : List Nat} {o : Oper}
theorem Shut.bQ (hX : Shut P main D X) {f : FuncId} {fn : Func} {ar : Array Operand} {ats : Array TypeId} (ho : ops[i]? = some o) (hw : Region.wanted o (yielded ops a.tmps) = true) (hk : b.kind ≠ .early) (hop : o.op = .call { callee := .value (.func f), args := ar, argTypes := ats }) (hf : P.funcs[f]? = some fn) (hname : (fn.name == "runtime.NumGoroutine") = false) (hb : fn.body.isNone = false)
    {Post : Value → World → Prop} {args : Array Value} (hc : aX P f args w Post) (ha : ar.map a.eval = args) (h : ∀ v w', Post v w' → X (G (b.at (a.put o.dst v) (.inRegion ops rest :: k)) cs) w') : X (G (b.at a (.inRegion ops (i :: rest) :: k)) cs) w := by
  subst ha
  refine aj.call hX.c ho hw hk hop hf hname hb (hc main D X _ hX fun fr v w' _ hl hp => hX.back hl ?_)
  rw [Frame.finish_at, ho]
  exact h v w' hp
theorem Shut.GH (hX : Shut P main D X) (ho : ops[i]? = some o) (hw : Region.wanted o (yielded ops a.tmps) = true) (hk : b.kind ≠ .early) (hp : Plain [] (execOp a.eval o))
    (h : ∀ w₁, di w w₁ → ∃ v w', ((execOp a.eval o).run P w₁ = .ok (.value v) w' ∨ ((execOp a.eval o).run P w₁ = .ok .skip w' ∧ v = undef)) ∧ X (G (b.at (a.put o.dst v) (.inRegion ops rest :: k)) cs) w') : X (G (b.at a (.inRegion ops (i :: rest) :: k)) cs) w := by
  refine hX.step rfl fun w₁ h1 => ?_
  have hev := CF (P := P) hp w₁
  have Dy : ∀ e ∈ listed P b.fn a o w₁, mU e := fun e he => hev.1 e (nD _ _ _ e he)
  have hch := hev.2
  obtain ⟨v, w', hr | ⟨hr, rfl⟩, hx⟩ := h w₁ h1
  · rw [stepG_value ho hw hk hr, goes_go]
    rw [hr] at hch
    exact ⟨hX.plain ⟨Dy, hch⟩, hx⟩
  · rw [stepG_none ho hw hk hr, goes_go]
    rw [hr] at hch
    exact ⟨hX.plain ⟨Dy, hch⟩, hx⟩
theorem nI {A : FuncId → Bool} {S : FuncId → List Nat} {fn : FuncId} {ρ : Operand → Value} (h : Dv A S fn o.op = true) (hc : xH o.op = true) : Plain [] (execOp ρ o) := (Bh h hc).1
theorem nJ {ρ : Operand → Value} {bt : Builtin} {ar : Array Operand} {ats : Array TypeId} (hop : o.op = .call { callee := .builtin bt, args := ar, argTypes := ats }) (h : tH bt = true) : Plain [] (execOp ρ o) := by
  have e : execOp ρ o = builtin bt ats o.type (ar.map fun | .const _ => true | _ => false) (ar.map ρ) := by
    unfold execOp
    rw [hop]
    rfl
  rw [e]
  exact (Cu h _ _ _ _).1
theorem bZ {ρ : Operand → Value} {ty : TypeId} {x : Operand} (hop : o.op = .load ty x) : Plain [] (execOp ρ o) := nI (A := fun _ => false) (S := fun _ => []) (fn := 0) (by rw [hop]; rfl) (by rw [hop]; rfl)
theorem Av {ρ : Operand → Value} {ty : TypeId} {x y : Operand} (hop : o.op = .store ty x y) : Plain [] (execOp ρ o) := nI (A := fun _ => false) (S := fun _ => []) (fn := 0) (by rw [hop]; rfl) (by rw [hop]; rfl)
theorem Shut.ql (hX : Shut P main D X) (ho : ops[i]? = some o) (hw : Region.wanted o (yielded ops a.tmps) = true) (hk : b.kind ≠ .early) (ty : TypeId) {x : Operand} (hop : o.op = .load ty x) {B off : Nat} (hx : a.eval x = .pointer (some ⟨B, off, none⟩)) {xs : Array Value} {t : TypeId} (hW : w.heap[B]? = some (.cells xs t)) {d : TypeDesc} (hu : P.underlying ty = some d)
    (hd : (match d with | .struct _ | .array _ _ => true | _ => false) = false) {v : Value} (hc : xs[off]? = some v) (h : X (G (b.at (a.put o.dst v) (.inRegion ops rest :: k)) cs) w) : X (G (b.at a (.inRegion ops (i :: rest) :: k)) cs) w := by
  refine hX.GH ho hw hk (bZ hop) fun w₁ h1 => ⟨v, w₁, .inl ?_, hX.rely h1 h⟩
  have hW1 : w₁.heap[B]? = some (.cells xs t) := by rw [h1.heap]; exact hW
  have hcell : w₁.cell? ⟨B, off, none⟩ = some v := by rw [af hW1]; exact hc
  have hagg : (isAgg ty).run P w₁ = .ok false w₁ := by
    unfold isAgg
    rw [Sem.run_bind, run_underlying hu w₁]
    cases d <;> simp_all
  rw [lQ hop, hx]
  simp [Instr.loadAt, Instr.sureAddr, loadVar, Sem.run_bind, hagg, hcell]
theorem Shut.vJ (hX : Shut P main D X) (ho : ops[i]? = some o) (hw : Region.wanted o (yielded ops a.tmps) = true) (hk : b.kind ≠ .early) (ty : TypeId) {x : Operand} (hop : o.op = .load ty x) {B off : Nat} (hx : a.eval x = .pointer (some ⟨B, off, none⟩)) {xs : Array Value} {t : TypeId} (hW : w.heap[B]? = some (.cells xs t)) {d : TypeDesc} (hu : P.underlying ty = some d)
    (hd : (match d with | .struct _ | .array _ _ => true | _ => false) = true) {n : Nat} (hi : (P.info? ty).map (·.size) = some n) (hfit : off + n ≤ xs.size) (c : List Value) (hc : (xs.toList.drop off).take n = c)
    (h : X (G (b.at (a.put o.dst (.agg c.toArray)) (.inRegion ops rest :: k)) cs) w) : X (G (b.at a (.inRegion ops (i :: rest) :: k)) cs) w := by
  refine hX.GH ho hw hk (bZ hop) fun w₁ h1 => ⟨_, w₁, .inl ?_, hX.rely h1 h⟩
  have hW1 : w₁.heap[B]? = some (.cells xs t) := by rw [h1.heap]; exact hW
  rw [lQ hop, hx, Sem.run_bind, vw ty hW1 off n d hu hd hi (Nat.ble_eq_true_of_le hfit) c hc]
  rfl
theorem MC (w : World) (p : (Nat → Question → Nat) × Nat) (B : Nat) (cs : Array Value) : (mZ w p).setRow B cs = mZ (w.setRow B cs) p := rfl
theorem Shut.df (hX : Shut P main D X) (ho : ops[i]? = some o) (hw : Region.wanted o (yielded ops a.tmps) = true) (hk : b.kind ≠ .early) (ty : TypeId) {x y : Operand} (hop : o.op = .store ty x y) {B off : Nat} (hx : a.eval x = .pointer (some ⟨B, off, none⟩)) {v : Value} (hy : a.eval y = v) {xs : Array Value} {t : TypeId} (hW : w.heap[B]? = some (.cells xs t))
    (hi : (P.info? ty).map (·.size) = some v.cells.size) (h1 : v.cells.toList.all (·.oneCell') = true) (hfit : off + v.cells.size ≤ xs.size) (ys : List Value) (hys : xs.toList.take off ++ v.cells.toList ++ xs.toList.drop (off + v.cells.size) = ys)
    (h : ∀ w', w'.heap[B]? = some (.cells ys.toArray t) → Only B w w' → X (G (b.at (a.put o.dst undef) (.inRegion ops rest :: k)) cs) w') : X (G (b.at a (.inRegion ops (i :: rest) :: k)) cs) w := by
  subst hys
  refine hX.GH ho hw hk (Av hop) fun w₁ h2 => ⟨undef, w₁.setRow B (xs.toList.take off ++ v.cells.toList ++ xs.toList.drop (off + v.cells.size)).toArray, .inr ⟨?_, rfl⟩, ?_⟩
  · have hW1 : w₁.heap[B]? = some (.cells xs t) := by rw [h2.heap]; exact hW
    rw [rU hop, hx, hy, Sem.run_bind, mE w₁ B off ty t v xs hW1 hi h1 hfit]
    rfl
  · obtain ⟨p, rfl⟩ := h2
    rw [MC]
    exact hX.rely ⟨p, rfl⟩ (h _ (setRow_heap w B xs _ t (0, 0) hW) (Only.setRow w B _))
theorem Shut.make (hX : Shut P main D X) (ho : ops[i]? = some o) (hw : Region.wanted o (yielded ops a.tmps) = true) (hk : b.kind ≠ .early) (hp : Plain [] (execOp a.eval o)) {ob : Obj} {v : Nat → Value} (hr : ∀ w1, di w w1 → (execOp a.eval o).run P w1 = .ok (.value (v w1.heap.size)) (w1.alloc ob))
    (h : X (G (b.at (a.put o.dst (v w.heap.size)) (.inRegion ops rest :: k)) cs) (w.alloc ob)) : X (G (b.at a (.inRegion ops (i :: rest) :: k)) cs) w := by
  refine hX.GH ho hw hk hp fun w₁ h2 => ⟨_, _, .inl (hr w₁ h2), ?_⟩
  obtain ⟨p, rfl⟩ := h2
  exact hX.rely ⟨p, rfl⟩ h
theorem Shut.still (hX : Shut P main D X) (ho : ops[i]? = some o) (hw : Region.wanted o (yielded ops a.tmps) = true) (hk : b.kind ≠ .early) (hp : Plain [] (execOp a.eval o)) (v : Value) (hr : ∀ w₁, di w w₁ → (execOp a.eval o).run P w₁ = .ok (.value v) w₁) (h : X (G (b.at (a.put o.dst v) (.inRegion ops rest :: k)) cs) w) : X (G (b.at a (.inRegion ops (i :: rest) :: k)) cs) w :=
  hX.GH ho hw hk hp fun w₁ h1 => ⟨v, w₁, .inl (hr w₁ h1), hX.rely h1 h⟩
end
end
end Go.Proofs.YtignemioillaiaaGreat
