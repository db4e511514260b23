/- remind, tick: of a replica that nothing was done to. -/
import Derived.Test.YtignemioillaiaaGreatG34
import Derived.Test.YtignemioillaiaaGreatG35
namespace Go.Proofs.YtignemioillaiaaGreat
set_option maxHeartbeats 8000000
set_option maxRecDepth 100000
section
open Go Go.Conc Go.RowKit
theorem Je {n k : Nat} (_hk : k < n) : ((dQ n n).drop (k * 2)).take 2 = [.int .u32 1, .slice none 0 0] := by
  have e : dQ n n = (List.replicate n [Value.int .u32 1, .slice none 0 0]).flatten := by unfold dQ; simp
  rw [e]
  clear e
  induction n generalizing k with
  | zero => omega
  | succ n ih =>
    cases k with
    | zero => simp [List.replicate_succ]
    | succ k =>
      rw [List.replicate_succ, List.flatten_cons, show (k + 1) * 2 = k * 2 + 1 + 1 by omega]
      simpa using ih (k := k) (by omega)
noncomputable def KH : Code := Tryz.f110.body.getD .skip
theorem Jf : Tryz.f110.body = some KH := by
  unfold KH
  rfl
theorem PH (x0 : Value) : Frame.enter Tryz.prog 110 #[x0] .normal = (Go.Conc.base 110).at ⟨#[x0, undef, undef, undef, undef, undef, undef, undef, undef, undef, undef, undef, undef, undef, undef, undef, undef, undef, undef, undef, undef, undef, undef, undef, undef, undef, undef, undef, undef, undef, undef, undef, undef, undef, undef, undef, undef, undef, undef, undef, undef, undef, undef, undef, undef, undef, undef, undef, undef, undef, undef, undef, undef, undef, undef, undef], []⟩ [.code KH] := by
  have h := enter_at (P := Tryz.prog) #[x0] Tryz.func110 Jf
  rw [show Tryz.f110.ntmps = 56 from rfl] at h
  rw [h]
  walk_nrm
theorem Ia (r : Rp) (w : World) (br : Nat) (hB : r.At w br) (n bM bO bI : Nat) (hb : nK w r n bM bO bI) (_hn : n ≤ 4) (hnx : r.nx = 0) :
    aX Tryz.prog 110 #[.pointer (some ⟨br, 0, none⟩)] w (fun v w' => v = .tuple #[] ∧ GB none w w') := by
  intro main D X cs hX hk
  rw [PH]
  simp only [KH, Tryz.f110, Option.getD]
  refine xw ?_
  refine Shut.bY hX rfl rfl xB rfl rfl hB (by kernel_rfl) (v := .int .u32 r.nx) rfl ?_
  refine xn ?_
  rw [hnx]
  refine xw ?_
  refine xg ?_
  refine xw ?_
  refine Shut.bY hX rfl rfl xB rfl rfl hB (by kernel_rfl) (v := r.so) rfl ?_
  refine xn ?_
  rw [hb.so]
  refine xw ?_
  refine hX.vN (fun q a w' => ∃ (k : Nat), q = n - k ∧ k ≤ n ∧ (∃ ys : Nat → Value, a = ⟨#[.pointer (some ⟨br, 0, none⟩), ys 1, ys 2, ys 3, ys 4, ys 5, ys 6, ys 7, ys 8, ys 9, ys 10, ys 11, ys 12, ys 13, ys 14, ys 15, ys 16, ys 17, ys 18, ys 19, ys 20, ys 21, ys 22, ys 23, ys 24, ys 25, ys 26, ys 27, ys 28, ys 29, ys 30, ys 31, ys 32, .slice (some ⟨bO, 0, none⟩) n n, .int .i64 n, .int .i64 (k : Nat), ys 36, ys 37, ys 38, ys 39, ys 40, ys 41, ys 42, ys 43, ys 44, ys 45, ys 46, ys 47, ys 48, ys 49, ys 50, ys 51, ys 52, ys 53, ys 54, ys 55], []⟩) ∧  GB none w w') ?_ ⟨0, rfl, Nat.zero_le _, dM rfl, GB.refl _ _⟩
  rintro q a w1 ⟨k, rfl, hkn, ⟨ys, rfl⟩, g1⟩ hback
  refine xg ?_
  by_cases hlt : k < n
  · have hlt' : (k : Int) < n := by omega
    refine xw ?_
    have hO := g1.get hb.out nofun
    refine Shut.dF hX rfl rfl (by decide) rfl rfl hO (by kernel_rfl) [.int .u32 1, .slice none 0 0] (by kernel_rfl) (by show k * 2 + 2 ≤ _; rw [List.size_toArray, AV (Nat.le_refl _)]; omega) (Je hlt) ?_
    refine xm ?_
    refine xw ?_
    refine Shut.cK hX rfl rfl xB xO (ob := .cells #[.int .u32 0, .slice none 0 0] 103) (v := fun b => .pointer (some ⟨b, 0, none⟩)) (fun w1 _ => by go_simp <;> rfl) (fun w2 b2 hb2 g2 l2 => ?_)
    refine xn ?_
    refine xw ?_
    refine Shut.df hX rfl rfl xB _ rfl rfl (v := .agg #[.int .u32 1, .slice none 0 0]) rfl hb2 (by kernel_rfl) rfl (Nat.le_of_ble_eq_true rfl) [.int .u32 1, .slice none 0 0] rfl (fun w3 hb3 o3 => ?_)
    refine xn ?_
    refine xw ?_
    refine Shut.bY hX rfl rfl xB rfl rfl hb3 (by kernel_rfl) (v := .slice none 0 0) rfl ?_
    refine xn ?_
    refine xw ?_
    rw [oU k (by omega)]
    refine hback _ _ _ ?_ ⟨k + 1, rfl, by omega, dM rfl, g1.trans (g2.fresh (GB.only o3) l2)⟩
    omega
  · have hlt' : ¬ (k : Int) < n := by omega
    refine xw ?_
    refine xg ?_
    refine aj.fin hX.c ?_
    exact hk _ _ _ rfl (fA rfl Tryz.func110 rfl) ⟨rfl, g1⟩
end
section
open Go Go.Conc
section
variable {P : Program} {main : Bool} {D : World → World → Array Event → Prop} {X : Goroutine → World → Prop} {b : Frame} {k : List Item} {cs : List Frame} {ops : Array Oper} {S : World → Prop} {z : Nat}
def yt (ops : Array Oper) (l : Array Bool) (i z : Nat) : Prop := l.getD z true = false ∧ ∃ oz, ops[z]? = some oz ∧ ∃ e ∈ oz.after, Region.binds .any e = true ∧ l.getD e.on true = false ∧ ∃ om, ops[e.on]? = some om ∧ ∃ e2 ∈ om.after, Region.binds .any e2 = true ∧ e2.on = i
theorem Sy {l : Array Bool} {i : Nat} (h : l.getD i true = false) : l.getD i false = false := by
  rw [Array.getD_eq_getD_getElem?] at h ⊢
  cases hq : l[i]? with
  | none => rfl
  | some c => rw [hq] at h; exact h
theorem Ib (hX : Shut P main D X) (hSS : ∀ w w', di w w' → S w → S w') {i : Nat} {oi : Oper} {v : Value} (hi : ops[i]? = some oi) (hsel : ∀ (j : Nat) (o : Oper) cs b, ops[j]? = some o → o.op ≠ .select cs b) (hzi : i ≠ z) :
    ∀ (n : Nat) (l : Array Bool) (a : Act) (w : World), (∀ j oj, ops[j]? = some oj → j ≠ i → l.getD j true = false → (∀ e ∈ oj.after, Region.binds .any e = true → e.on ≠ i) → oi.apart ops oj = true) → i ∈ Region.ready .any ops l → (gy P ops (fun _ => True) oi v a ∨ (yt ops l i z ∧ gy P ops S oi v a)) → (l.getD z true = false → S w) →
      AnyX P X b k cs ops S z n (l.setIfInBounds i true) (a.put oi.dst v) w → AnyX P X b k cs ops S z (n + 1) l a w := by
  have own : ∀ (n : Nat) (l : Array Bool) (a : Act) (w : World), (gy P ops (fun _ => True) oi v a ∨ (yt ops l i z ∧ gy P ops S oi v a)) → (l.getD z true = false → S w) → AnyX P X b k cs ops S z n (l.setIfInBounds i true) (a.put oi.dst v) w → dL P ops i (fun a' w' => ((l.setIfInBounds i true).getD z true = false → S w') ∧ AnyX P X b k cs ops S z n (l.setIfInBounds i true) a' w') a w := by
    intro n l a w hy hS H
    have hS' : ∀ w₁, di w w₁ → (l.setIfInBounds i true).getD z true = false → S w₁ := fun w₁ hs h => hSS _ _ hs (hS (by rwa [getD_set_ne true hzi] at h))
    unfold dL
    rw [hi]
    dsimp only
    rcases hy with (⟨hw, hp, hv⟩ | ⟨hw, rfl⟩) | ⟨hz, ⟨hw, hp, hv⟩ | ⟨hw, rfl⟩⟩
    · rw [if_pos hw]
      exact .inl ⟨hp, fun w₁ hs => ⟨v, w₁, .inl (hv w₁ trivial), hS' w₁ hs, AnyX.same hX hSS _ _ _ _ _ H hs⟩⟩
    · rw [if_neg (by simp [hw])]
      exact ⟨hS' w (iF w), H⟩
    · rw [if_pos hw]
      exact .inl ⟨hp, fun w₁ hs => ⟨v, w₁, .inl (hv w₁ (hSS _ _ hs (hS hz.1))), hS' w₁ hs, AnyX.same hX hSS _ _ _ _ _ H hs⟩⟩
    · rw [if_neg (by simp [hw])]
      exact ⟨hS' w (iF w), H⟩
  intro n
  induction n with
  | zero =>
    intro l a w hfree hr hy hS H
    refine ⟨fun h => (by rw [h] at hr; cases hr), fun j hj => ?_⟩
    by_cases hji : j = i
    · subst hji; exact own 0 l a w hy hS H
    · have := ready_mono hj hji
      rw [H.1] at this
      cases this
  | succ n ih =>
    intro l a w hfree hr hy hS H
    refine ⟨fun h => (by rw [h] at hr; cases hr), fun j hj => ?_⟩
    by_cases hji : j = i
    · subst hji; exact own (n + 1) l a w hy hS H
    · have h1 := H.2 j (ready_mono hj hji)
      obtain ⟨hjun, oj, hoj, hall⟩ := mem_ready.1 hj
      have h0 := (mem_ready.1 hr).1
      have QH : l.getD i false = false := by
        rw [Array.getD_eq_getD_getElem?] at h0 ⊢
        cases hq : l[i]? with
        | none => rfl
        | some c => rw [hq] at h0; exact h0
      have hnot : ∀ e ∈ oj.after, Region.binds .any e = true → e.on ≠ i := fun e he hb heq => by
        have h1 := hall e he hb
        rw [heq, QH] at h1
        cases h1
      have hap := hfree j oj hoj hji hjun hnot
      have hfree' : ∀ q oq, ops[q]? = some oq → q ≠ i → (l.setIfInBounds j true).getD q true = false → (∀ e ∈ oq.after, Region.binds .any e = true → e.on ≠ i) → oi.apart ops oq = true := fun q oq hq hqi hun hno => hfree q oq hq hqi (by
        by_cases hjq : j = q
        · subst hjq; exact hjun
        · rwa [getD_set_ne true hjq] at hun) hno
      have Yl : ∀ {c : Bool}, ((l.setIfInBounds i true).setIfInBounds j true).getD z true = c → (l.setIfInBounds j true).getD z true = c := fun {c} h => by
        rw [Array.setIfInBounds_comm _ _ (Ne.symm hji), getD_set_ne true hzi] at h
        exact h
      have vM : ∀ {c : Bool}, (l.setIfInBounds j true).getD z true = c → ((l.setIfInBounds i true).setIfInBounds j true).getD z true = c := fun {c} h => by
        rw [Array.setIfInBounds_comm _ _ (Ne.symm hji), getD_set_ne true hzi]
        exact h
      rcases hy with hy | ⟨hz, hy⟩
      · have h2 := dL.ER hoj hap (fun cs b => hsel i oi cs b hi) (fun cs b => hsel j oj cs b hoj) hy h1
        refine dL.mono ?_ h2
        rintro a' w' ⟨hy', hSw, hA⟩
        refine ⟨fun h => hSw (vM h), ih _ a' w' hfree' (ready_mono hr (Ne.symm hji)) (.inl hy') (fun h => hSw (vM h)) ?_⟩
        rw [Array.setIfInBounds_comm _ _ hji]
        exact hA
      · have hjz : j ≠ z := by
          rintro rfl
          obtain ⟨_, oz, GI, e, he, hb, hun, _⟩ := hz
          rw [hoj] at GI
          cases GI
          have := hall e he hb
          rw [Sy hun] at this
          cases this
        have h2 := dL.ER hoj hap (fun cs b => hsel i oi cs b hi) (fun cs b => hsel j oj cs b hoj) hy h1
        have hz' : yt ops (l.setIfInBounds j true) i z := by
          obtain ⟨h1, oz, GI, e, he, hb, hun, om, Ux, e2, he2, hb2, heq2⟩ := hz
          refine ⟨by rw [getD_set_ne true hjz]; exact h1, oz, GI, e, he, hb, ?_, om, Ux, e2, he2, hb2, heq2⟩
          have hjm : j ≠ e.on := by
            rintro rfl
            rw [hoj] at Ux
            cases Ux
            exact hnot e2 he2 hb2 heq2
          rw [getD_set_ne true hjm]
          exact hun
        refine dL.mono ?_ h2
        rintro a' w' ⟨hy', hSw, hA⟩
        refine ⟨fun h => hSw (vM h), ih _ a' w' hfree' (ready_mono hr (Ne.symm hji)) (.inr ⟨hz', hy'⟩) (fun h => hSw (vM h)) ?_⟩
        rw [Array.setIfInBounds_comm _ _ hji]
        exact hA
theorem AnyX.takeN (hX : Shut P main D X) (hSS : ∀ w w', di w w' → S w → S w') {n : Nat} {l : Array Bool} {a : Act} {w : World} (i m : Nat) {oi oz om : Oper} (hi : ops[i]? = some oi) (hz : ops[z]? = some oz) (hm : ops[m]? = some om) (hb : (i != z && !l.getD z true && !l.getD m true && (oz.after.any fun e => Region.binds .any e && e.on == m) && om.after.any fun e => Region.binds .any e && e.on == i) = true) (hs : Region.noSelect ops = true) (hf : Region.free .any ops l i = true) (hr : (Region.ready .any ops l).contains i = true) {v : Value}
    (hy : gy P ops S oi v a) (hS : S w) (h : AnyX P X b k cs ops S z n (l.setIfInBounds i true) (a.put oi.dst v) w) : AnyX P X b k cs ops S z (n + 1) l a w := by
  simp only [Bool.and_eq_true, bne_iff_ne, ne_eq, Bool.not_eq_true', Array.any_eq_true'] at hb
  obtain ⟨⟨⟨⟨hzi, hzl⟩, Yt⟩, e, he, IP⟩, e2, he2, PI⟩ := hb
  simp only [beq_iff_eq] at IP PI
  obtain ⟨hb1, rfl⟩ := IP
  exact Ib hX hSS hi (Region.noSelect_spec hs) hzi n l a w (Region.free_spec hi hf) (by simpa using hr) (.inr ⟨⟨hzl, oz, hz, e, he, hb1, Yt, om, hm, e2, he2, PI.1, PI.2⟩, hy⟩) (fun _ => hS) h
end
end
section
open Go Go.Conc Go.RowKit
def mC (k bn bi : Int) (vs : Value) : List Value := (.int .u8 k :: .int .u8 0 :: .int .u32 0 :: .int .u8 0 :: .int .u64 0 :: .int .u64 0 :: .int .u64 0 :: .int .u8 0 :: .int .u8 0 :: .int .u32 0 :: .int .u64 0 :: .int .u8 0 :: .bool false :: .int .u64 0 :: .int .u8 0 :: .int .u32 bn :: .int .u8 bi :: .int .u32 0 :: .int .u8 0 :: .int .u8 0 :: .int .u32 0 :: .int .u8 0 :: .int .u64 0 :: .int .u64 0 :: .int .u64 0 :: .int .u8 0 :: .int .u8 0 :: .int .u8 0 :: .int .u32 0 :: .int .u64 0 :: .int .u64 0 :: .slice none 0 0 :: .slice none 0 0 :: .int .u8 0 :: .int .u32 0 :: vs :: .int .u8 0 :: .int .u8 0 :: .int .u32 0 :: .int .u64 0 :: .int .u64 0 :: .slice none 0 0 :: .slice none 0 0 :: .int .u8 0 :: .int .u32 0 :: [])
theorem nK.gs {A : Nat → Prop} {w w' : World} {r r' : Rp} {n bM bO bI : Nat} (h : nK w r n bM bO bI) (hg : GS A w w') (hA : ∀ x, A x → ∃ o, w.heap[x]? = some (.cells o 152)) (hr : r'.lg = r.lg ∧ r'.g = r.g ∧ r'.sg = r.sg ∧ r'.mJ = r.mJ ∧ r'.sr = r.sr ∧ r'.sm = r.sm ∧ r'.sd = r.sd ∧ r'.so = r.so ∧ r'.si = r.si) : nK w' r' n bM bO bI := by
  have key : ∀ {x : Nat} {c : Array Value} {t : TypeId}, w.heap[x]? = some (.cells c t) → t ≠ 152 → w'.heap[x]? = some (.cells c t) := fun {x c t} hx ht => hg.get hx fun ha => by
    obtain ⟨o, ho⟩ := hA x ha
    rw [hx] at ho
    injection ho with ho
    injection ho with _ ho
    exact ht ho
  obtain ⟨e1, e2, e3, e4, e5, e6, e7, e8, e9⟩ := hr
  exact ⟨e1.trans h.lg, by rw [e3, e2, h.sg], e4.trans h.mJ, e5.trans h.sr, e6.trans h.sm, e7.trans h.sd, e8.trans h.so, e9.trans h.si, key h.mp (by decide), key h.out (by decide), key h.MJ (by decide)⟩
noncomputable def QP : Code := Tryz.f60.body.getD .skip
theorem MW : Tryz.f60.body = some QP := by
  unfold QP
  rfl
theorem Sz (x0 : Value) : Frame.enter Tryz.prog 60 #[x0] .normal = (Go.Conc.base 60).at ⟨#[x0, undef, undef, undef, undef, undef, undef, undef, undef, undef, undef, undef, undef, undef, undef, undef, undef, undef, undef, undef, undef, undef, undef, undef, undef, undef, undef, undef, undef, undef, undef], []⟩ [.code QP] := by
  have h := enter_at (P := Tryz.prog) #[x0] Tryz.func60 MW
  rw [show Tryz.f60.ntmps = 31 from rfl] at h
  rw [h]
  walk_nrm
theorem KI (pb : Int → Int → ByteArray) (Yu : ∀ bn bi, 0 ≤ bn → bn < 4294967296 → 0 ≤ bi → bi < 256 → ∀ w1, aX Tryz.prog 158 #[.agg (mC 3 bn bi (.slice none 0 0)).toArray] w1 (fun v w' => (∃ e, v = .tuple #[.string (pb bn bi), .int .i64 e]) ∧ GB none w1 w'))
    (r : Rp) (w : World) (br g i n sz : Nat) (h : RS w br r g i n sz) (hf : Fr r) (hn : n ≤ 4) (_hg : g < n) (_hi : i < sz) (hs : sz ≤ 5) :
    aX Tryz.prog 60 #[.pointer (some ⟨br, 0, none⟩)] w (fun v w' => v = .tuple #[] ∧ ∃ r' m ob, r' = { r.jr sz m with ob := ob } ∧ WS (· = br) w w' br r' ((lT r.g r.i r.g sz).map (lL r (pb (r.jr sz m).bn (r.jr sz m).bi)))) := by
  intro main D X cs hX hk
  rw [Sz]
  simp only [QP, Tryz.f60, Option.getD]
  obtain ⟨bM, bO, bI, hbg⟩ := h.IQ
  refine xw ?_
  refine Shut.bY hX rfl rfl xB rfl rfl h.mem (by kernel_rfl) (v := .int .i64 r.ro) rfl ?_
  refine xn ?_
  rw [hf.ro]
  refine xw ?_
  refine Shut.bQ hX rfl rfl xB rfl Tryz.func107 (by kernel_rfl) (by rw [Jd]; rfl) (PG r w br h.mem h.es hbg.lg hf.pr hf.sn i sz (by omega) h.i h.sz (by omega)) xk ?_
  rintro v w1 ⟨rfl, g1, m, hB1⟩
  refine xm ?_
  generalize hr1 : r.jr sz m = r1 at hB1
  have f1 : r1.g = r.g ∧ r1.i = r.i ∧ r1.sz = r.sz ∧ r1.ob = r.ob ∧ r1.so = r.so ∧ (sz = 1 → r1.ro = 2 ∧ r1.nx = 0 ∧ r1.bn = 0 ∧ r1.bi = 0) ∧ (sz ≠ 1 → r1.ro = 1 ∧ r1.bn = 1 ∧ r1.bi = i) := by
    subst hr1
    unfold Rp.jr
    by_cases h1 : sz = 1
    · rw [if_pos h1]
      exact ⟨rfl, rfl, rfl, rfl, rfl, fun _ => ⟨rfl, rfl, hf.bn, hf.bi⟩, fun h => absurd h1 h⟩
    · rw [if_neg h1]
      exact ⟨rfl, rfl, rfl, rfl, rfl, fun h => absurd h h1, fun _ => ⟨rfl, rfl, h.i⟩⟩
  refine xw ?_
  refine Shut.bY hX rfl rfl xB rfl rfl hB1 (by kernel_rfl) (v := .int .i64 r1.ro) rfl ?_
  refine xn ?_
  obtain ⟨fg, fi, fs, fo, Y9, fa, fb⟩ := f1
  have hro : ¬ r1.ro = 0 := by
    by_cases h1 : sz = 1
    · rw [(fa h1).1]; decide
    · rw [(fb h1).1]; decide
  have YW : (r1.ro == 0) = false := by simp [hro]
  refine xw ?_
  have hS1 : bR br (.cells r1.cells.toArray 152) w1 := hB1
  refine xg ?_
  refine Shut.drawn hX xB (by kernel_rfl) (bR br (.cells r1.cells.toArray 152)) 9 ?_ bR.same
  show AnyX _ _ _ _ _ _ _ _ 10 #[false, false, false, false, false, false, false, false, false, false] _ _
  refine AnyX.take hX bR.same 0 rfl (by decide) xK xK xK xY hS1 ?_
  refine xn ?_
  refine AnyX.take hX bR.same 1 rfl (by decide) xK xK xK xY hS1 ?_
  refine xn ?_
  refine AnyX.take hX bR.same 2 rfl (by decide) xK xK xK xY hS1 ?_
  refine xn ?_
  refine AnyX.take hX bR.same 3 rfl (by decide) xK xK xK xY hS1 ?_
  refine xn ?_
  refine AnyX.take hX bR.same 4 rfl (by decide) xK xK xK xY hS1 ?_
  refine xn ?_
  refine AnyX.takeN hX bR.same 5 6 rfl rfl rfl xK xK xK (by kernel_rfl) (.inl ⟨rfl, bZ rfl, fun _ h => iA rfl rfl h (by kernel_rfl) [.int .u32 r1.bn, .int .u8 r1.bi] (by kernel_rfl) (Nat.le_of_ble_eq_true rfl) rfl⟩) hS1 ?_
  refine xn ?_
  refine AnyX.take hX bR.same 6 rfl (by decide) xK xK xK xY hS1 ?_
  refine xn ?_
  refine AnyX.take hX bR.same 7 rfl (by decide) xK xK xK xY hS1 ?_
  refine xn ?_
  refine AnyX.one 8 (by kernel_rfl) ?_
  refine dL.bQ rfl rfl rfl Tryz.func109 (by kernel_rfl) (by rw [I1]; rfl) (MP r1 w1 br hB1 g sz (by rw [fg, h.g]) (by rw [fs, h.sz]) hs (by omega)) xk ?_
  rintro v w2 ⟨ho2, hv2, g2⟩
  refine ⟨fun _ => g2.get hB1 nofun, ?_⟩
  refine AnyX.one 9 (by kernel_rfl) ?_
  have hbb : 0 ≤ r1.bn ∧ r1.bn < 4294967296 ∧ 0 ≤ r1.bi ∧ r1.bi < 256 := by
    by_cases h1 : sz = 1
    · rw [(fa h1).2.2.1, (fa h1).2.2.2]; decide
    · rw [(fb h1).2.1, (fb h1).2.2]; omega
  have hW1 : WS (· = br) w w1 br r1 [] := ⟨hB1, rfl, ⟨g1.os, g1.out, g1.size, fun x hx hn => g1.block x hx fun e => hn (by cases e; rfl)⟩, by rw [fo, h.ob]; exact qj _ _ _, by rw [fo, h.ob]; nofun⟩
  have hol := zm r1.g r1.i r1.g sz
  refine dL.bQ rfl rfl rfl Tryz.func108 (by kernel_rfl) (by rw [zn]; rfl) (Bu (mC 3 r1.bn r1.bi (.slice none 0 0)) rfl (pb r1.bn r1.bi) r1 w2 br [] (hW1.ek g2) v (lT r1.g r1.i r1.g sz) ho2 (by simp; omega) (fun w3 _ => Yu r1.bn r1.bi hbb.1 hbb.2.1 hbb.2.2.1 hbb.2.2.2 w3)) xk ?_
  rintro v3 w3 ⟨rfl, ob, hW3, k3⟩
  refine ⟨fun h => (by cases h), AnyX.done (by kernel_rfl) ?_⟩
  refine xm ?_
  have Xb : lT r1.g r1.i r1.g sz = lT r.g r.i r.g sz := by rw [fg, fi]
  rw [List.nil_append, Xb] at hW3
  have hr3 : lL r1 (pb r1.bn r1.bi) = lL r (pb r1.bn r1.bi) := by unfold lL; rw [fg, fi]
  rw [hr3] at hW3
  refine xw ?_
  refine Shut.bY hX rfl rfl xB rfl rfl hW3.mem (by kernel_rfl) (v := .int .i64 r1.ro) rfl ?_
  refine xn ?_
  by_cases h1 : sz = 1
  · rw [(fa h1).1]
    refine xw ?_
    have Xc : nK w3 { r1 with ob := ob } n bM bO bI := (nK.gs (r' := { r1 with ob := ob }) hbg hW3.gs (fun x hx => ⟨r.cells.toArray, by rw [hx]; exact h.mem⟩) (by subst hr1; unfold Rp.jr; rw [if_pos h1]; exact ⟨rfl, rfl, rfl, rfl, rfl, rfl, rfl, rfl, rfl⟩))
    refine Shut.bQ hX rfl rfl xB rfl Tryz.func110 (by kernel_rfl) (by rw [Jf]; rfl) (Ia { r1 with ob := ob } w3 br hW3.mem n bM bO bI Xc hn (fa h1).2.1) xk ?_
    rintro v4 w4 ⟨rfl, g4⟩
    refine xm ?_
    refine xg ?_
    refine aj.fin hX.c ?_
    exact hk _ _ _ rfl (fA rfl Tryz.func60 rfl) ⟨rfl, _, m, ob, rfl, by rw [hr1]; exact hW3.ek g4⟩
  · rw [(fb h1).1]
    refine xw ?_
    refine xg ?_
    refine aj.fin hX.c ?_
    exact hk _ _ _ rfl (fA rfl Tryz.func60 rfl) ⟨rfl, _, m, ob, rfl, by rw [hr1]; exact hW3⟩
end
end Go.Proofs.YtignemioillaiaaGreat
