/- Regions: what is asked of them is enough. -/
import Derived.Test.YtignemioillaiaaGreatG22
namespace Go.Proofs.YtignemioillaiaaGreat
set_option maxHeartbeats 8000000
set_option linter.unusedSectionVars false
set_option maxRecDepth 100000
section
open Go Go.Conc
section
variable {P : Program} [Ser P] {main : Bool} {D : World → World → Array Event → Prop} {X : Goroutine → World → Prop} {b : Frame} {k : List Item} {cs : List Frame} {ops : Array Oper} {E : Eng P} {n : Nat} {K : Sg → World → Prop}
theorem regW_ok (hX : SX P main D X) (hk : b.kind ≠ .early) (hK : ∀ s w, K s w → ∀ a, Fit n s a → X (G (b.at a k) cs) w) : ∀ (os : List Oper) (i : Nat) (s : Sg) (w : World) (a : Act), (∀ j o, os[j]? = some o → ops[i + j]? = some o) → Fit n s a → regW E n ops K os s w → X (G (b.at a (.inRegion ops (List.range' i os.length) :: k)) cs) w := by
  intro os
  induction os with
  | nil => exact fun i s w a _ hf h => Ctl.regionEnd hX.c (hK s w h a hf)
  | cons o os ih =>
    intro i s w a hos hf h
    have ho : ops[i]? = some o := hos 0 o rfl
    have hos' : ∀ j o', os[j]? = some o' → ops[i + 1 + j]? = some o' := fun j o' hj => by
      have := hos (j + 1) o' hj
      rwa [show i + (j + 1) = i + 1 + j by omega] at this
    rw [List.length_cons, List.range'_succ]
    rw [regW_cons] at h
    obtain ⟨s', hf', ⟨hw, h⟩ | ⟨hw, h⟩⟩ := gW_ok hf h
    · refine OpY.go hX ho hw hk (opW_ok (K' := fun v w' => X (G (b.at (a.put o.dst v) (.inRegion ops (List.range' (i + 1) os.length) :: k)) cs) w') hf'.ev h (fun v w' hx => ih (i + 1) _ w' _ hos' (hf'.put o.dst v) hx) (fun v w w' hs hx => hX.rely hs hx)) fun _ _ hx => hx
    · exact Ctl.unw hX.c ho hw (ih (i + 1) _ w _ hos' (hf'.put o.dst undef) h)
/-- Which are done. -/
structure Msk (ops : Array Oper) (l : List Nat) (m : Array Bool) : Prop where
  size : m.size = ops.size
  get : ∀ i, i < ops.size → m.getD i true = l.contains i
theorem Msk.getF {l : List Nat} {m : Array Bool} (h : Msk ops l m) {i : Nat} (hi : i < ops.size) : m.getD i false = l.contains i := by
  rw [← h.get i hi, Array.getD_eq_getD_getElem?, Array.getD_eq_getD_getElem?, Array.getElem?_eq_getElem (by rw [h.size]; exact hi)]
  rfl
theorem Msk.set {l : List Nat} {m : Array Bool} (h : Msk ops l m) {i : Nat} (hi : i < ops.size) : Msk ops (i :: l) (m.setIfInBounds i true) := by
  refine ⟨by simp [h.size], fun j hj => ?_⟩
  by_cases hij : i = j
  · subst hij
    rw [Array.getD_eq_getD_getElem?, Array.getElem?_setIfInBounds_self_of_lt (by rw [h.size]; exact hi)]
    simp
  · rw [getD_set_ne true hij, h.get j hj]
    have : ¬ j = i := fun e => hij e.symm
    simp [this]
theorem ixs_mem : ∀ (os : List Oper) (i j : Nat) (o : Oper), (j, o) ∈ ixs os i ↔ ∃ d, j = i + d ∧ os[d]? = some o
  | [], i, j, o => by simp [ixs]
  | x :: os, i, j, o => by
    unfold ixs
    rw [List.mem_cons, ixs_mem os (i + 1) j o]
    constructor
    · rintro (h | ⟨d, h1, h2⟩)
      · cases h; exact ⟨0, rfl, rfl⟩
      · exact ⟨d + 1, by omega, h2⟩
    · rintro ⟨d, h1, h2⟩
      cases d with
      | zero => cases h2; exact .inl (by rw [h1]; rfl)
      | succ d => exact .inr ⟨d, by omega, h2⟩
theorem ixs_ops {j : Nat} {o : Oper} : (j, o) ∈ ixs ops.toList 0 ↔ ops[j]? = some o := by
  rw [ixs_mem]
  constructor
  · rintro ⟨d, h1, h2⟩
    rw [Array.getElem?_toList] at h2
    rw [h1, Nat.zero_add]; exact h2
  · exact fun h => ⟨j, by omega, by rw [Array.getElem?_toList]; exact h⟩
theorem deps_iff {l : List Nat} {m : Array Bool} (h : Msk ops l m) {o : Oper} (hb : depsB l o = true) (hin : ∀ e ∈ o.after, Region.binds .any e = true → e.on < ops.size) : ∀ e ∈ o.after, Region.binds .any e = true → m.getD e.on false = true := by
  intro e he hbi
  have := List.all_eq_true.1 hb e (by simpa using he)
  simp only [hbi, Bool.not_true, Bool.false_or] at this
  rw [h.getF (hin e he hbi)]; exact this
theorem inOps_spec (h : inOps ops = true) {i : Nat} {o : Oper} (ho : ops[i]? = some o) : ∀ e ∈ o.after, e.on < ops.size := by
  intro e he
  have h1 := List.all_eq_true.1 h o (by simpa using Array.mem_of_getElem? ho)
  have h2 := List.all_eq_true.1 h1 e (by simpa using he)
  have := Nat.le_of_ble_eq_true h2
  omega
theorem ready_iff {l : List Nat} {m : Array Bool} (h : Msk ops l m) (hin : inOps ops = true) {i : Nat} : i ∈ Region.ready .any ops m ↔ ∃ o, ops[i]? = some o ∧ l.contains i = false ∧ depsB l o = true := by
  rw [mem_ready]
  constructor
  · rintro ⟨h1, o, ho, h2⟩
    have hi : i < ops.size := (Array.getElem?_eq_some_iff.1 ho).1
    refine ⟨o, ho, by rw [← h.get i hi]; exact h1, ?_⟩
    refine List.all_eq_true.2 fun e he => ?_
    have he' : e ∈ o.after := by simpa using he
    cases hb : Region.binds .any e with
    | false => rfl
    | true =>
      have := h2 e he' hb
      rw [h.getF (inOps_spec hin ho e he')] at this
      simpa using this
  · rintro ⟨o, ho, h1, h2⟩
    have hi : i < ops.size := (Array.getElem?_eq_some_iff.1 ho).1
    exact ⟨by rw [h.get i hi]; exact h1, o, ho, deps_iff h h2 fun e he _ => inOps_spec hin ho e he⟩
/-- How many are left. -/
def left (ops : Array Oper) (l : List Nat) : Nat := ((List.range ops.size).filter fun i => !l.contains i).length
theorem left_cons {l : List Nat} {i : Nat} (hi : i < ops.size) (hl : l.contains i = false) : left ops (i :: l) + 1 = left ops l := by
  unfold left
  have key : ∀ (r : List Nat), r.Nodup → i ∈ r → (r.filter fun j => !(i :: l).contains j).length + 1 = (r.filter fun j => !l.contains j).length := by
    intro r
    induction r with
    | nil => intro _ h; cases h
    | cons x r ih =>
      intro hn hm
      rw [List.nodup_cons] at hn
      rcases List.mem_cons.1 hm with rfl | hm
      · rw [List.filter_cons_of_neg (by simp), List.filter_cons_of_pos (by simpa using hl), List.length_cons]
        congr 2
        refine List.filter_congr fun y hy => ?_
        have : ¬ y = i := fun e => hn.1 (e ▸ hy)
        simp [this]
      · have hx : ¬ x = i := fun e => hn.1 (e ▸ hm)
        have e1 : (!(i :: l).contains x) = !l.contains x := by simp [hx]
        cases hc : !l.contains x with
        | true =>
          rw [List.filter_cons_of_pos (by rw [e1]; exact hc), List.filter_cons_of_pos (p := fun j => !l.contains j) hc, List.length_cons, List.length_cons, ih hn.2 hm]
        | false =>
          rw [List.filter_cons_of_neg (by rw [e1, hc]; decide), List.filter_cons_of_neg (p := fun j => !l.contains j) (by rw [hc]; decide), ih hn.2 hm]
  exact key _ List.nodup_range (List.mem_range.2 hi)
theorem ldW_at {w : World} {t : Nat} {v : Option Value} {K : Value → World → Prop} (h : ldW E w K t v) : ldW E w (fun v w' => w' = w ∧ K v w') t v := by
  unfold ldW at h ⊢
  split at h
  · dsimp only
    split at h
    · rename_i y hy
      obtain ⟨xs, ty, hW, h⟩ := h
      refine ⟨xs, ty, hW, ?_⟩
      cases hs : isS y with
      | true =>
        rw [hs] at h
        dsimp only [sif] at h ⊢
        cases h0 : Nat.beq (szT E.T t) 0 with
        | true => rw [h0] at h; exact (show False from h).elim
        | false => rw [h0] at h; dsimp only at h; obtain ⟨c, h1, h2, h3⟩ := h; exact ⟨c, h1, h2, rfl, h3⟩
      | false => rw [hs] at h; dsimp only [sif] at h; obtain ⟨v, h1, h3⟩ := h; exact ⟨v, h1, rfl, h3⟩
    · exact h.elim
  · exact h.elim
theorem luW_at {w : World} {t : Nat} {ok : Bool} {u v : Option Value} {K : Value → World → Prop} (h : luW E w K t ok u v) : luW E w (fun v w' => w' = w ∧ K v w') t ok u v := by
  unfold luW at h ⊢
  split at h
  · dsimp only
    split at h
    · obtain ⟨f, h1, h2⟩ := h
      exact ⟨f, h1, rfl, h2⟩
    · exact h.elim
  · exact h.elim
theorem allR_mem {F : Nat → Oper → Prop} : ∀ {R : List (Nat × Oper)} {i : Nat} {o : Oper}, allR F R → (i, o) ∈ R → F i o
  | [], _, _, _, h => by cases h
  | [(j, x)], i, o, h, hm => by
    rcases List.mem_cons.1 hm with e | e
    · cases e; exact h
    · cases e
  | (j, x) :: y :: r, i, o, h, hm => by
    rcases List.mem_cons.1 hm with e | e
    · cases e; exact h.1
    · exact allR_mem (R := y :: r) h.2 e
theorem kd_eff {o : Oper} (h : Nat.blt (kd o.op) 2 = true) : kd o.op = 0 ∨ kd o.op = 1 := by
  have := Nat.le_of_ble_eq_true h
  omega
/-- What Yields, reckoned. -/
theorem yie_q {S : World → Prop} {q0 : Prop} (h0 : q0) {_s : Sg} {a : Act} {o : Oper} {x : Value} (hw : Region.wanted o (yielded ops a.tmps) = true) (q : quietS P (execOp a.eval o) = some (.value x)) : YieS P ops S q0 o x a :=
  .inl ⟨hw, h0, fun w _ => ⟨Fine.quiet q w, quietS_run q w⟩⟩
theorem drB_ok (hX : SX P main D X) (hfree : allFree ops = true) (hin : inOps ops = true) (hK : ∀ s w, K s w → ∀ a, Fit n s a → X (G (b.at a k) cs) w) : ∀ (f : Nat) (l : List Nat) (s : Sg) (Γ : List (World → Prop)) (w : World) (a : Act) (m : Array Bool) (c : Nat), Msk ops l m → Closed ops m → left ops l ≤ c → Fit n s a → (∀ F ∈ Γ, ∀ w w', w'.heap = w.heap → F w → F w') → drB E n ops K f l s Γ w → AnyS P X b k cs ops (AllP Γ) (esB ops) (qsB ops) c m a w := by
  intro f
  induction f with
  | zero => intro l s Γ w a m c _ _ _ _ _ h; exact h.elim
  | succ f ih =>
    intro l s Γ w a m c hm hc hl hf hΓ h
    have hSH : ∀ w w', w'.heap = w.heap → AllP Γ w → AllP Γ w' := by
      intro w w' he
      clear h
      induction Γ with
      | nil => exact fun _ => trivial
      | cons F r ihr => exact fun hh => ⟨hΓ F List.mem_cons_self _ _ he hh.1, ihr (fun G hG => hΓ G (List.mem_cons_of_mem _ hG)) hh.2⟩
    rw [drB_succ] at h
    have hR : ∀ i, i ∈ Region.ready .any ops m ↔ ∃ o, (i, o) ∈ (ixs ops.toList 0).filter fun p => !l.contains p.1 && depsB l p.2 := by
      intro i
      rw [ready_iff hm hin]
      constructor
      · rintro ⟨o, h1, h2, h3⟩; exact ⟨o, List.mem_filter.2 ⟨ixs_ops.2 h1, by show (!l.contains i && depsB l o) = true; rw [h2, h3]; rfl⟩⟩
      · rintro ⟨o, h1⟩
        obtain ⟨h1, h2⟩ := List.mem_filter.1 h1
        simp only [Bool.and_eq_true, Bool.not_eq_true'] at h2
        exact ⟨o, ixs_ops.1 h1, h2.1, h2.2⟩
    generalize hRR : ((ixs ops.toList 0).filter fun p => !l.contains p.1 && depsB l p.2) = R at h hR
    have hmem : ∀ i o, (i, o) ∈ R → ops[i]? = some o ∧ i < ops.size ∧ l.contains i = false := by
      intro i o hio
      rw [← hRR] at hio
      obtain ⟨h1, h2⟩ := List.mem_filter.1 hio
      simp only [Bool.and_eq_true, Bool.not_eq_true'] at h2
      have h3 := ixs_ops.1 h1
      exact ⟨h3, (Array.getElem?_eq_some_iff.1 h3).1, h2.1⟩
    cases R with
    | nil =>
      have hnil : Region.ready .any ops m = [] := by
        cases hrr : Region.ready .any ops m with
        | nil => rfl
        | cons x xs =>
          obtain ⟨o, ho⟩ := (hR x).1 (by rw [hrr]; exact List.mem_cons_self)
          cases ho
      have hx := hK s w h a hf
      cases c with
      | zero => exact ⟨hnil, hx⟩
      | succ c => exact ⟨fun _ => hx, fun i hi => by rw [hnil] at hi; cases hi⟩
    | cons p0 R' =>
      have hcp : 0 < c := by
        obtain ⟨h1, h2, h3⟩ := hmem p0.1 p0.2 List.mem_cons_self
        have := left_cons h2 h3
        omega
      obtain ⟨c, rfl⟩ : ∃ c', c = c' + 1 := ⟨c - 1, by omega⟩
      dsimp only at h
      split at h
      · rename_i i o hfind
        have hio := List.mem_of_find?_eq_some hfind
        obtain ⟨ho, hlt, hcon⟩ := hmem i o hio
        have hri : i ∈ Region.ready .any ops m := (hR i).2 ⟨o, hio⟩
        have hk0 : kd o.op = 0 := by have := List.find?_some hfind; exact Nat.eq_of_beq_eq_true this
        have hei : esB ops i = false := by
          unfold esB qsB
          rw [Array.getElem?_toList, ho]
          dsimp only
          rw [hk0]; rfl
        have hlc := left_cons hlt hcon
        have take : ∀ {s' : Sg} {x : Value}, Fit n s' a → YieS P ops (fun w => true = false → AllP Γ w) (esB ops i = false) o x a → drB E n ops K f (i :: l) (putS n s' o.dst x) Γ w → AnyS P X b k cs ops (AllP Γ) (esB ops) (qsB ops) (c + 1) m a w := fun {s' x} hf' hy hd =>
          anyS_first hX hSH hfree ho true nofun c m a w hc hri hy nofun (ih (i :: l) _ Γ w _ _ c (hm.set hlt) (hc.set hri) (by omega) (hf'.put o.dst x) hΓ hd)
        obtain ⟨s', hf', ⟨hw, h⟩ | ⟨hw, h⟩⟩ := gW_ok hf h
        · have hq := q_all E.tab hf'.ev o
          generalize hqa : qall E.T (ev s') o.op = qa at h hq
          cases qa with
          | v x => exact take hf' (yie_q hei (_s := s') hw hq) h
          | c p x => exact take hf' (yie_q hei (_s := s') hw (hq h.1)) h.2
          | d p x y =>
            rcases h with ⟨hp, h⟩ | h
            · rw [hq.2 hp] at h; exact take hf' (yie_q hei (_s := s') hw hq.1) h
            · exact take hf' (yie_q hei (_s := s') hw hq.1) h
          | no => exact h.elim
        · exact take hf' (.inr ⟨hw, rfl⟩) h
      · rename_i hnf
        refine ⟨fun e => ?_, fun i hi o ho => ?_⟩
        · have := (hR p0.1).2 ⟨p0.2, List.mem_cons_self⟩
          rw [e] at this; cases this
        · obtain ⟨o', hio⟩ := (hR i).1 hi
          obtain ⟨ho', hlt, hcon⟩ := hmem i o' hio
          rw [ho] at ho'
          cases ho'
          have h1 := allR_mem h hio
          have hlc := left_cons hlt hcon
          have next : ∀ {s' : Sg} {v : Value} {w' : World}, Fit n s' a → drB E n ops K f (i :: l) (putS n s' o.dst v) Γ w' → AnyS P X b k cs ops (AllP Γ) (esB ops) (qsB ops) c (m.setIfInBounds i true) (a.put o.dst v) w' := fun {s' v w'} hf' hd =>
            ih (i :: l) _ Γ w' _ _ c (hm.set hlt) (hc.set hi) (by omega) (hf'.put o.dst v) hΓ hd
          have hes : ∀ {q : Nat}, kd o.op = q → q < 2 → esB ops i = false := by
            intro q hq h2
            unfold esB qsB
            rw [Array.getElem?_toList, ho]
            dsimp only
            rw [hq, show Nat.blt q 2 = true from Nat.ble_eq_true_of_le h2]; rfl
          obtain ⟨s', hf', ⟨hw, h1⟩ | ⟨hw, h1⟩⟩ := gW_ok hf h1
          · rw [if_pos hw]
            have stab : ∀ (v : Value) (w1 w2 : World), SameW w1 w2 → (((esB ops i = true → AllP Γ w1) ∧ (qsB ops i = true → w1.heap = w.heap)) ∧ AnyS P X b k cs ops (AllP Γ) (esB ops) (qsB ops) c (m.setIfInBounds i true) (a.put o.dst v) w1) → (((esB ops i = true → AllP Γ w2) ∧ (qsB ops i = true → w2.heap = w.heap)) ∧ AnyS P X b k cs ops (AllP Γ) (esB ops) (qsB ops) c (m.setIfInBounds i true) (a.put o.dst v) w2) := fun v w1 w2 hs hx =>
              ⟨⟨fun e => hSH _ _ hs.heap (hx.1.1 e), fun e => hs.heap.trans (hx.1.2 e)⟩, AnyS.same hX (fun w w' hs => hSH w w' hs.heap) _ _ _ _ _ hx.2 hs⟩
            split at h1
            · rename_i t x hop
              have e1 := hes (q := 1) (by rw [hop]; rfl) (by decide)
              exact y_load hf'.ev hop (ldW_at h1) (fun v w' hx => ⟨⟨fun e => (by rw [e1] at e; cases e), fun _ => by rw [hx.1]⟩, next hf' hx.2⟩) stab
            · rename_i t x y ok hop
              have e1 := hes (q := 1) (by rw [hop]; rfl) (by decide)
              exact y_lookup hf'.ev hop (luW_at h1) (fun v w' hx => ⟨⟨fun e => (by rw [e1] at e; cases e), fun _ => by rw [hx.1]⟩, next hf' hx.2⟩) stab
            · rename_i hn1 hn2
              have hqs : qsB ops i = false := by
                cases hb : qsB ops i with
                | false => rfl
                | true =>
                  exfalso
                  unfold qsB at hb
                  rw [Array.getElem?_toList, ho] at hb
                  rcases kd_eff hb with h0 | h0
                  · have := List.find?_eq_none.1 hnf (i, o) hio
                    rw [h0] at this
                    exact absurd rfl this
                  · revert h0
                    generalize o.op = op at hn1 hn2
                    cases op <;> intro h0 <;> first | (exact hn1 _ _ rfl) | (exact hn2 _ _ _ _ rfl) | (cases h0; done) | skip
                    rename_i c
                    obtain ⟨ca, ar, at'⟩ := c
                    cases ca with
                    | builtin bb => cases bb <;> cases h0
                    | value => cases h0
                    | invoke => cases h0
              have hno : qall E.T (ev s') o.op = .no := by
                unfold qsB at hqs
                rw [Array.getElem?_toList, ho] at hqs
                dsimp only at hqs
                revert hqs
                generalize o.op = op
                intro hqs
                cases op <;> first | (cases hqs; done) | rfl | skip
                rename_i c
                obtain ⟨ca, ar, at'⟩ := c
                cases ca with
                | builtin bb => cases bb <;> first | (cases hqs; done) | rfl
                | value => rfl
                | invoke => rfl
              have h2 : opW E s' w (fun v w' => sif (esB ops i) (AllP Γ w' ∧ drB E n ops K f (i :: l) (putS n s' o.dst v) Γ w') (drB E n ops K f (i :: l) (putS n s' o.dst v) Γ w')) o := by
                unfold opW
                rw [hno]
                exact h1
              refine opW_ok hf'.ev h2 (fun v w' hx => ?_) stab
              cases he : esB ops i with
              | true => rw [he] at hx; dsimp only [sif] at hx; exact ⟨⟨fun _ => hx.1, fun e => (by rw [hqs] at e; cases e)⟩, next hf' hx.2⟩
              | false => rw [he] at hx; dsimp only [sif] at hx; exact ⟨⟨nofun, fun e => (by rw [hqs] at e; cases e)⟩, next hf' hx⟩
          · rw [if_neg (by rw [hw]; decide)]
            exact next hf' h1
end
section
variable {P : Program} [Ser P] {main : Bool} {D : World → World → Array Event → Prop} {X : Goroutine → World → Prop} {b : Frame} {k : List Item} {cs : List Frame} {ops : Array Oper} {E : Eng P} {n : Nat} {K : Sg → World → Prop}
theorem ldA_ok {s : Sg} {a : Act} {w : World} {o : Oper} {t : Nat} {x : Operand} {K : Value → (World → Prop) → Prop} (hr : ∀ x v, ev s x = some v → a.eval x = v) (hop : o.op = .load t x) (h : ldA E w t K (ev s x)) : ∃ v F, K v F ∧ F w ∧ (∀ w w', w'.heap = w.heap → F w → F w') ∧ ∀ w', F w' → Fine P (execOp a.eval o) w' ∧ (execOp a.eval o).run P w' = .ok (.value v) w' := by
  unfold ldA at h
  split at h
  · rename_i B off hx
    split at h
    · rename_i y hy
      obtain ⟨i, d, hd⟩ := E.tab.ok.is hy
      obtain ⟨xs, ty, hW, h⟩ := h
      have ex := hr _ _ hx
      cases hs : isS y with
      | true =>
        rw [hs] at h
        dsimp only [sif] at h
        have h0 : ¬ szT E.T t = 0 := fun e => by rw [e] at h; exact h
        have h0' : Nat.beq (szT E.T t) 0 = false := by cases hb : Nat.beq (szT E.T t) 0 with | true => exact absurd (Nat.eq_of_beq_eq_true hb) h0 | false => rfl
        rw [h0'] at h
        dsimp only at h
        obtain ⟨c, hc, hl, h⟩ := h
        refine ⟨_, _, h, hW, fun w w' he hF => by rw [he]; exact hF, fun w' hF => ⟨Fine.plain (plain_load hop) w', run_loadSZ t hop ex hF hd.under ?_ (n := c.length) ?_ ?_ c ?_⟩⟩
        · have := hd.shape; rw [hs] at this; cases d <;> exact this
        · rw [hd.info, Option.map_some, hd.size, hl]
        · refine Nat.ble_eq_true_of_le ?_
          have : (cutL xs.toList off (szT E.T t)).length = szT E.T t := by rw [hc, hl]
          unfold cutL at this
          rw [List.length_take, List.length_drop, Array.length_toList] at this
          rw [hl]
          omega
        · rw [hl]; exact hc
      | false =>
        rw [hs] at h
        dsimp only [sif] at h
        obtain ⟨v, hv, h⟩ := h
        rw [Array.getElem?_toList] at hv
        refine ⟨_, _, h, hW, fun w w' he hF => by rw [he]; exact hF, fun w' hF => ⟨Fine.plain (plain_load hop) w', run_load1Z t hop ex hF hd.under ?_ hv⟩⟩
        have := hd.shape; rw [hs] at this; cases d <;> exact this
    · exact h.elim
  · exact h.elim
theorem luA_ok {s : Sg} {a : Act} {w : World} {o : Oper} {t : Nat} {x y : Operand} {ok : Bool} {K : Value → (World → Prop) → Prop} (hr : ∀ x v, ev s x = some v → a.eval x = v) (hop : o.op = .lookup t x y ok) (h : luA E w t ok K (ev s x) (ev s y)) : ∃ v F, K v F ∧ F w ∧ (∀ w w', w'.heap = w.heap → F w → F w') ∧ ∀ w', F w' → Fine P (execOp a.eval o) w' ∧ (execOp a.eval o).run P w' = .ok (.value v) w' := by
  unfold luA at h
  split at h
  · rename_i m k hx hy
    split at h
    · rename_i key e ht
      obtain ⟨h1, h2, h3⟩ := mapT_is ht
      obtain ⟨f, hm, h⟩ := h
      refine ⟨_, _, h, hm, fun w w' he hF => MapF.keep hF (by rw [he]), fun w' hF => ⟨Fine.plain (plainA (by rw [hop]; rfl) (by rw [hop]; rfl)) w', ?_⟩⟩
      have e1 : execOp a.eval o = (do pure (Next.value (← Instr.lookup t (a.eval x) (a.eval y) ok))) := by unfold execOp; rw [hop]
      rw [e1, hr _ _ hx, hr _ _ hy, Sem.run_bind, runF_lookup h1 h2 h3 hF ok]
      cases ok <;> rfl
    · exact h.elim
  · exact h.elim
def HS (Γ : List (World → Prop)) : Prop := ∀ F ∈ Γ, ∀ w w', w'.heap = w.heap → F w → F w'
theorem HS.all {Γ : List (World → Prop)} (h : HS Γ) : ∀ w w', w'.heap = w.heap → AllP Γ w → AllP Γ w' := by
  intro w w' he
  induction Γ with
  | nil => exact fun _ => trivial
  | cons F r ih => exact fun hh => ⟨h F List.mem_cons_self _ _ he hh.1, ih (fun G hG => h G (List.mem_cons_of_mem _ hG)) hh.2⟩
theorem drA_ok (hX : SX P main D X) (hfree : allFree ops = true) (hin : inOps ops = true) (hK : ∀ s w, K s w → ∀ a, Fit n s a → X (G (b.at a k) cs) w) (w : World) : ∀ (r : List (Nat × Oper)) (l : List Nat) (s : Sg) (Γ : List (World → Prop)) (a : Act) (m : Array Bool) (c : Nat), (∀ p ∈ r, ops[p.1]? = some p.2 ∧ l.contains p.1 = false) → (r.map Prod.fst).Nodup → Msk ops l m → Closed ops m → left ops l ≤ c → Fit n s a → HS Γ → AllP Γ w → drA E n ops K w r l s Γ →
    ∃ Γ', (∀ w', AllP Γ' w' → AllP Γ w') ∧ HS Γ' ∧ AllP Γ' w ∧ AnyS P X b k cs ops (AllP Γ') (esB ops) (qsB ops) c m a w := by
  intro r
  induction r with
  | nil =>
    intro l s Γ a m c _ _ hm hc hl hf hΓ hw h
    exact ⟨Γ, fun _ h => h, hΓ, hw, drB_ok (E := E) hX hfree hin hK (ops.toList.length + 1) l s Γ w a m c hm hc hl hf hΓ h⟩
  | cons p r ih =>
    intro l s Γ a m c hp hnd hm hc hl hf hΓ hw h
    obtain ⟨i, o⟩ := p
    obtain ⟨ho, hcon⟩ := hp (i, o) List.mem_cons_self
    rw [List.map_cons, List.nodup_cons] at hnd
    have hlt : i < ops.size := (Array.getElem?_eq_some_iff.1 ho).1
    have hp0 : ∀ q ∈ r, ops[q.1]? = some q.2 ∧ l.contains q.1 = false := fun q hq => hp q (List.mem_cons_of_mem _ hq)
    have hp1 : ∀ q ∈ r, ops[q.1]? = some q.2 ∧ (i :: l).contains q.1 = false := fun q hq => ⟨(hp0 q hq).1, by
      have h1 : ¬ q.1 = i := fun e => hnd.1 (List.mem_map.2 ⟨q, hq, e⟩)
      have h2 := (hp0 q hq).2
      rw [List.contains_cons, h2]
      simpa using h1⟩
    rw [drA_cons] at h
    cases hd : depsB l o with
    | false => rw [hd] at h; dsimp only [sif] at h; exact ih l s Γ a m c hp0 hnd.2 hm hc hl hf hΓ hw h
    | true =>
      rw [hd] at h
      have hri : i ∈ Region.ready .any ops m := (ready_iff hm hin).2 ⟨o, ho, hcon, hd⟩
      have hlc := left_cons hlt hcon
      obtain ⟨c', rfl⟩ : ∃ c', c = c' + 1 := ⟨c - 1, by omega⟩
      have es0 : ∀ q, kd o.op = q → q < 2 → esB ops i = false := by
        intro q hq h2
        unfold esB qsB
        rw [Array.getElem?_toList, ho]
        dsimp only
        rw [hq, show Nat.blt q 2 = true from Nat.ble_eq_true_of_le h2]; rfl
      have takeQ : ∀ {s' : Sg} {x : Value}, Fit n s' a → (∀ S, YieS P ops S (esB ops i = false) o x a) → drA E n ops K w r (i :: l) (putS n s' o.dst x) Γ → ∃ Γ', (∀ w', AllP Γ' w' → AllP Γ w') ∧ HS Γ' ∧ AllP Γ' w ∧ AnyS P X b k cs ops (AllP Γ') (esB ops) (qsB ops) (c' + 1) m a w := fun {s' x} hf' hy hd => by
        obtain ⟨Γ', g1, g2, g3, g4⟩ := ih (i :: l) _ Γ _ _ c' hp1 hnd.2 (hm.set hlt) (hc.set hri) (by omega) (hf'.put o.dst x) hΓ hw hd
        exact ⟨Γ', g1, g2, g3, anyS_first hX g2.all hfree ho true nofun c' m a w hc hri (hy _) nofun g4⟩
      have takeR : ∀ {s' : Sg} {x : Value} {F : World → Prop}, kd o.op = 1 → Fit n s' a → Region.wanted o (yielded ops a.tmps) = true → F w → (∀ w w', w'.heap = w.heap → F w → F w') → (∀ w', F w' → Fine P (execOp a.eval o) w' ∧ (execOp a.eval o).run P w' = .ok (.value x) w') → drA E n ops K w r (i :: l) (putS n s' o.dst x) (F :: Γ) → ∃ Γ', (∀ w', AllP Γ' w' → AllP Γ w') ∧ HS Γ' ∧ AllP Γ' w ∧ AnyS P X b k cs ops (AllP Γ') (esB ops) (qsB ops) (c' + 1) m a w := fun {s' x F} hk1 hf' hwt hFw hFs hrun hd => by
        obtain ⟨Γ', g1, g2, g3, g4⟩ := ih (i :: l) _ (F :: Γ) _ _ c' hp1 hnd.2 (hm.set hlt) (hc.set hri) (by omega) (hf'.put o.dst x) (fun G hG => by
          rcases List.mem_cons.1 hG with rfl | hG
          · exact hFs
          · exact hΓ G hG) ⟨hFw, hw⟩ hd
        refine ⟨Γ', fun w' h => (g1 w' h).2, g2, g3, anyS_first hX g2.all hfree ho false (fun _ j hj hji => ?_) c' m a w hc hri (.inl ⟨hwt, es0 1 hk1 (by decide), fun w' hS => hrun w' (g1 w' (hS rfl)).1⟩) (fun _ => g3) g4⟩
        cases hr : reach ops ops.size i j with
        | true => exact .inl rfl
        | false =>
          cases hq : qsB ops j with
          | true => exact .inr (.inr rfl)
          | false =>
            refine .inr (.inl ?_)
            unfold esB
            rw [hq]
            simp only [Bool.not_false, Bool.true_and]
            refine List.any_eq_true.2 ⟨i, List.mem_range.2 (by rw [Array.length_toList]; exact hlt), ?_⟩
            have hb : rdB ops i = true := by
              unfold rdB
              rw [Array.getElem?_toList, ho]
              dsimp only
              rw [hk1]; rfl
            have hb2 : Nat.beq i j = false := by
              cases hh : Nat.beq i j with
              | false => rfl
              | true => exact absurd (Nat.eq_of_beq_eq_true hh).symm hji
            rw [hb, hb2, hr]; rfl
      dsimp only [sif] at h
      obtain ⟨s', hf', ⟨hwt, h⟩ | ⟨hwt, h⟩⟩ := gW_ok hf h
      · have hq := q_all E.tab hf'.ev o
        have hkq : qall E.T (ev s') o.op ≠ .no → kd o.op = 0 := by
          generalize o.op = op
          intro hne
          cases op <;> first | rfl | exact absurd rfl hne | skip
          rename_i c
          obtain ⟨ca, ar, at'⟩ := c
          cases ca with
          | builtin bb => cases bb <;> first | rfl | exact absurd rfl hne
          | value => exact absurd rfl hne
          | invoke => exact absurd rfl hne
        generalize hqa : qall E.T (ev s') o.op = qa at h hq hkq
        cases qa with
        | v x => exact takeQ hf' (fun S => yie_q (es0 0 (hkq nofun) (by decide)) (_s := s') hwt hq) h
        | c p x => exact takeQ hf' (fun S => yie_q (es0 0 (hkq nofun) (by decide)) (_s := s') hwt (hq h.1)) h.2
        | d p x y =>
          rcases h with ⟨hp, h⟩ | h
          · rw [hq.2 hp] at h; exact takeQ hf' (fun S => yie_q (es0 0 (hkq nofun) (by decide)) (_s := s') hwt hq.1) h
          · exact takeQ hf' (fun S => yie_q (es0 0 (hkq nofun) (by decide)) (_s := s') hwt hq.1) h
        | no =>
          dsimp only at h
          split at h
          · rename_i t x hop
            obtain ⟨v, F, g1, g2, g3, g4⟩ := ldA_ok hf'.ev hop h
            exact takeR (by rw [hop]; rfl) hf' hwt g2 g3 g4 g1
          · rename_i t x y ok hop
            obtain ⟨v, F, g1, g2, g3, g4⟩ := luA_ok hf'.ev hop h
            exact takeR (by rw [hop]; rfl) hf' hwt g2 g3 g4 g1
          · exact ih l s' Γ a m (c' + 1) hp0 hnd.2 hm hc hl hf' hΓ hw h
      · exact takeQ hf' (fun S => .inr ⟨hwt, rfl⟩) h
theorem ixs_nodup : ∀ (os : List Oper) (i : Nat), ((ixs os i).map Prod.fst).Nodup ∧ ∀ j ∈ (ixs os i).map Prod.fst, i ≤ j
  | [], i => ⟨List.nodup_nil, by simp [ixs]⟩
  | o :: os, i => by
    obtain ⟨h1, h2⟩ := ixs_nodup os (i + 1)
    unfold ixs
    rw [List.map_cons]
    refine ⟨List.nodup_cons.2 ⟨fun h => ?_, h1⟩, fun j hj => ?_⟩
    · have := h2 i h; omega
    · rcases List.mem_cons.1 hj with rfl | hj
      · exact Nat.le_refl _
      · have := h2 j hj; omega
theorem drW_ok (hX : SX P main D X) (hk : b.kind ≠ .early) (hm : P.follows .mixedOrders = true) (hK : ∀ s w, K s w → ∀ a, Fit n s a → X (G (b.at a k) cs) w) {id : Nat} {s : Sg} {a : Act} {w : World} (hf : Fit n s a) (h : drW E n ops K s w) : X (G (b.at a (.code (.region id ops true) :: k)) cs) w := by
  obtain ⟨hb, h⟩ := h
  rw [Bool.and_eq_true] at hb
  obtain ⟨hfree, hin⟩ := hb
  have hmk : Msk ops [] (Array.replicate ops.size false) := ⟨by simp, fun i hi => by simp [hi]⟩
  have hcl : Closed ops (Array.replicate ops.size false) := by
    intro j o ho hj
    have hi : j < ops.size := (Array.getElem?_eq_some_iff.1 ho).1
    rw [hmk.get j hi] at hj
    cases hj
  have hleft : left ops [] ≤ ops.size := by
    unfold left
    exact Nat.le_trans (List.length_filter_le _ _) (by simp)
  obtain ⟨Γ', _, g2, g3, g4⟩ := drA_ok hX hfree hin hK w (ixs ops.toList 0) [] s [] a _ ops.size (fun p hp => ⟨ixs_ops.1 hp, rfl⟩) (ixs_nodup _ _).1 hmk hcl hleft hf (fun F hF => by cases hF) trivial h
  refine hX.step rfl fun w₁ h1 => ?_
  have hs : stepG P main (G (b.at a (.code (.region id ops true) :: k)) cs) w₁ = .go (G (b.at a (.inRegion ops (Region.schedule (P.follows .mixedOrders) ops (w₁.tape w₁.drawn (.order b.fn id))) :: k)) cs) { w₁ with drawn := w₁.drawn + 1 } #[] := by
    simp [G, stepG, stepG.exec, Frame.at, choose, Sem.run, Question.forced, Question.cut]
  rw [hs, goes_go]
  refine ⟨hX.plain ⟨by simp, fun _ _ _ => Iff.rfl⟩, ?_⟩
  simp only [Region.schedule, hm, Bool.true_or, if_true]
  obtain ⟨p, rfl⟩ := h1
  exact anyS_sound hX hk _ _ _ _ _ (AnyS.same hX (fun w w' hs => g2.all w w' hs.heap) _ _ _ _ _ g4 ⟨(p.1, p.2 + 1), rfl⟩)
end
end
end Go.Proofs.YtignemioillaiaaGreat
