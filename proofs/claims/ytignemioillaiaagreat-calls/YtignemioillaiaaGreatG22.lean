/- A region that draws its order: reads and quiet operations may be taken first. -/
import Derived.Test.YtignemioillaiaaGreatG21
namespace Go.Proofs.YtignemioillaiaaGreat
set_option maxHeartbeats 8000000
set_option linter.unusedSectionVars false
set_option maxRecDepth 100000
section
open Go Go.Conc
/-- Is there an edge: j waits for i? -/
def edge (ops : Array Oper) (i j : Nat) : Bool := match ops[j]? with
  | some o => o.after.any fun e => Region.binds .any e && e.on == i
  | none => false
/-- Operations that do not wait for each other do not touch each other's slots. -/
def allFree (ops : Array Oper) : Bool := Region.noSelect ops && (List.range ops.size).all fun i => (List.range ops.size).all fun j => i == j || edge ops i j || edge ops j i || match ops[i]?, ops[j]? with
  | some x, some y => x.apart ops y
  | _, _ => true
/-- i comes ahead of j, by up to n edges. -/
noncomputable def reach (ops : Array Oper) (n i : Nat) : Nat → Bool := Nat.rec (motive := fun _ => Nat → Bool) (fun _ => false) (fun _ ih j => match ops.toList[j]? with
    | some o => o.after.toList.any fun e => Region.binds .any e && (Nat.beq e.on i || ih e.on)
    | none => false) n
theorem reach_succ (ops : Array Oper) (n i j : Nat) : reach ops (n + 1) i j = match ops.toList[j]? with
    | some o => o.after.toList.any fun e => Region.binds .any e && (Nat.beq e.on i || reach ops n i e.on)
    | none => false := rfl
section
variable (P : Program) [Ser P] (X : Goroutine → World → Prop) (b : Frame) (k : List Item) (cs : List Frame) (ops : Array Oper) (S : World → Prop) (es qs : Nat → Bool)
/-- Whatever order is drawn; S is asked behind operations that es names; those that qs names leave memory as it is. -/
def AnyS : Nat → Array Bool → Act → World → Prop
  | 0, l, a, w => Region.ready .any ops l = [] ∧ X (G (b.at a k) cs) w
  | n + 1, l, a, w => (Region.ready .any ops l = [] → X (G (b.at a k) cs) w) ∧ ∀ i ∈ Region.ready .any ops l, ∀ o, ops[i]? = some o → if Region.wanted o (yielded ops a.tmps) = true then OpY P o a.eval w (fun v w' => ((es i = true → S w') ∧ (qs i = true → w'.heap = w.heap)) ∧ AnyS n (l.setIfInBounds i true) (a.put o.dst v) w') else AnyS n (l.setIfInBounds i true) (a.put o.dst undef) w
/-- It leaves v, in each world that meets S. -/
def YieS (S : World → Prop) (q0 : Prop) (o : Oper) (v : Value) (a : Act) : Prop :=
  (Region.wanted o (yielded ops a.tmps) = true ∧ q0 ∧ ∀ w, S w → Fine P (execOp a.eval o) w ∧ (execOp a.eval o).run P w = .ok (.value v) w) ∨ (Region.wanted o (yielded ops a.tmps) = false ∧ v = undef)
end
section
variable {P : Program} [Ser P] {main : Bool} {D : World → World → Array Event → Prop} {X : Goroutine → World → Prop} {b : Frame} {k : List Item} {cs : List Frame} {ops : Array Oper} {S : World → Prop} {es qs : Nat → Bool}
theorem anyS_sound (hX : SX P main D X) (hk : b.kind ≠ .early) : ∀ (n t : Nat) (l : Array Bool) (a : Act) (w : World), AnyS P X b k cs ops S es qs n l a w → X (G (b.at a (.inRegion ops (Region.linearise.go .any ops n t l []) :: k)) cs) w := by
  intro n
  induction n with
  | zero => exact fun t l a w h => Ctl.regionEnd hX.c h.2
  | succ n ih =>
    intro t l a w h
    simp only [Region.linearise.go]
    change X (G (b.at a (.inRegion ops (match (Region.ready .any ops l)[t % (Region.ready .any ops l).length]? with
      | some i => Region.linearise.go .any ops n (t / (Region.ready .any ops l).length) (l.setIfInBounds i true) [i]
      | none => [].reverse) :: k)) cs) w
    cases hi : (Region.ready .any ops l)[t % (Region.ready .any ops l).length]? with
    | none =>
      have hnil : Region.ready .any ops l = [] := by
        cases hr : Region.ready .any ops l with
        | nil => rfl
        | cons x xs =>
          rw [hr] at hi
          have := List.getElem?_eq_none_iff.1 hi
          have := Nat.mod_lt t (show 0 < (x :: xs).length by simp)
          omega
      exact Ctl.regionEnd hX.c (h.1 hnil)
    | some i =>
      simp only []
      rw [linearise_go_acc, List.reverse_singleton, List.singleton_append]
      have hm := List.mem_of_getElem? hi
      obtain ⟨_, o, ho, _⟩ := mem_ready.1 hm
      have h2 := h.2 i hm o ho
      by_cases hw : Region.wanted o (yielded ops a.tmps) = true
      · rw [if_pos hw] at h2
        exact h2.go hX ho hw hk fun v w' hx => ih _ _ _ w' hx.2
      · rw [if_neg hw] at h2
        exact hX.c.go rfl (fun _ => stepG_unwanted ho (by simpa using hw)) (ih _ _ _ w h2)
theorem AnyS.same (hX : SX P main D X) (hS : ∀ w w', SameW w w' → S w → S w') : ∀ (n : Nat) (l : Array Bool) (a : Act) (w w₁ : World), AnyS P X b k cs ops S es qs n l a w → SameW w w₁ → AnyS P X b k cs ops S es qs n l a w₁
  | 0, _, _, _, _, h, hs => ⟨h.1, hX.rely hs h.2⟩
  | n + 1, l, a, w, w₁, h, hs => ⟨fun e => hX.rely hs (h.1 e), fun i hi o ho => by
      have h2 := h.2 i hi o ho
      split
      · rename_i hw
        rw [if_pos hw] at h2
        exact (h2.same hs).mono fun v w' hx => ⟨⟨hx.1.1, fun e => by rw [hs.heap]; exact hx.1.2 e⟩, hx.2⟩
      · rename_i hw
        rw [if_neg hw] at h2
        exact AnyS.same hX hS n _ _ _ _ h2 hs⟩
theorem YieS.of_same {q0 : Prop} {o : Oper} {v : Value} {a a' : Act} (hy : YieS P ops S q0 o v a) (he : execOp a'.eval o = execOp a.eval o) (hw : Region.wanted o (yielded ops a'.tmps) = Region.wanted o (yielded ops a.tmps)) : YieS P ops S q0 o v a' := by
  unfold YieS at *
  rw [he, hw]
  exact hy
/-- What is done was asked for. -/
def Closed (ops : Array Oper) (l : Array Bool) : Prop := ∀ j o, ops[j]? = some o → l.getD j true = true → ∀ e ∈ o.after, Region.binds .any e = true → l.getD e.on false = true
theorem Closed.set {l : Array Bool} (h : Closed ops l) {i : Nat} (hi : i ∈ Region.ready .any ops l) : Closed ops (l.setIfInBounds i true) := by
  intro j o ho hj e he hb
  by_cases hji : i = j
  · subst hji
    obtain ⟨_, o', ho', hall⟩ := mem_ready.1 hi
    rw [ho] at ho'
    cases ho'
    exact getD_set_true (hall e he hb)
  · rw [getD_set_ne true hji] at hj
    exact getD_set_true (h j o ho hj e he hb)
theorem getD_tf {l : Array Bool} {i : Nat} (h : l.getD i false = true) : l.getD i true = true := by
  rw [Array.getD_eq_getD_getElem?] at h ⊢
  cases hq : l[i]? with
  | none => rfl
  | some c => rw [hq] at h; exact h
theorem reach_done {l : Array Bool} (hc : Closed ops l) : ∀ (n i j : Nat) (o : Oper), ops[j]? = some o → (∀ e ∈ o.after, Region.binds .any e = true → l.getD e.on false = true) → reach ops n i j = true → l.getD i false = true := by
  intro n
  induction n with
  | zero => intro i j o _ _ h; cases h
  | succ n ih =>
    intro i j o ho hall h
    rw [reach_succ, Array.getElem?_toList, ho] at h
    dsimp only at h
    obtain ⟨e, he, hb⟩ := List.any_eq_true.1 h
    simp only [Bool.and_eq_true, Bool.or_eq_true] at hb
    have hd := hall e (by simpa using he) hb.1
    rcases hb.2 with h1 | h1
    · rw [← Nat.eq_of_beq_eq_true h1]; exact hd
    · cases n with
      | zero => cases h1
      | succ n =>
        cases ho' : ops[e.on]? with
        | none => rw [reach_succ, Array.getElem?_toList, ho'] at h1; cases h1
        | some o' => exact ih i e.on o' ho' (hc e.on o' ho' (getD_tf hd)) h1
theorem OpY.putIf {q0 : Prop} {oi oj : Oper} {v : Value} (hap : oi.apart ops oj = true) (hsi : ∀ cs b, oi.op ≠ .select cs b) (hsj : ∀ cs b, oj.op ≠ .select cs b) {K : Act → World → Prop} {a : Act} {w : World} (hy : YieS P ops S q0 oi v a)
    (h : if Region.wanted oj (yielded ops (a.put oi.dst v).tmps) = true then OpY P oj (a.put oi.dst v).eval w (fun u w' => K ((a.put oi.dst v).put oj.dst u) w') else K ((a.put oi.dst v).put oj.dst undef) w) :
    if Region.wanted oj (yielded ops a.tmps) = true then OpY P oj a.eval w (fun u w' => YieS P ops S q0 oi v (a.put oj.dst u) ∧ K ((a.put oj.dst u).put oi.dst v) w') else YieS P ops S q0 oi v (a.put oj.dst undef) ∧ K ((a.put oj.dst undef).put oi.dst v) w := by
  obtain ⟨h1, h2, h3⟩ := Oper.apart_spec hap
  have keep : ∀ u, YieS P ops S q0 oi v (a.put oj.dst u) := fun u => hy.of_same (execOp_put oi hsi a oj.dst u h3) (wanted_put oi a oj.dst u h3)
  rw [wanted_put oj a oi.dst v h1] at h
  split
  · rename_i hw
    rw [if_pos hw] at h
    unfold OpY at h ⊢
    rw [execOp_put oj hsj a oi.dst v h1] at h
    rcases h with h | ⟨f, args, Post, e1, e2, e3, e4⟩
    · refine .inl fun w₁ hs => ⟨(h w₁ hs).1, ?_⟩
      obtain ⟨u, w', k1, k2⟩ := (h w₁ hs).2
      exact ⟨u, w', k1, keep u, by rw [← Act.put_comm a v u h2]; exact k2⟩
    · exact .inr ⟨f, args, Post, e1, e2, e3, fun u w' hp => ⟨keep u, by rw [← Act.put_comm a v u h2]; exact e4 u w' hp⟩⟩
  · rename_i hw
    rw [if_neg hw] at h
    exact ⟨keep undef, by rw [← Act.put_comm a v undef h2]; exact h⟩
/-- An operation that yields is taken first. -/
theorem anyS_first (hX : SX P main D X) (hSH : ∀ w w', w'.heap = w.heap → S w → S w') (hfree : allFree ops = true) {i : Nat} {oi : Oper} {v : Value} (hi : ops[i]? = some oi) (q : Bool) (hns : q = false → ∀ j, j < ops.size → j ≠ i → reach ops ops.size i j = true ∨ es j = true ∨ qs j = true) :
    ∀ (n : Nat) (l : Array Bool) (a : Act) (w : World), Closed ops l → i ∈ Region.ready .any ops l → YieS P ops (fun w => q = false → S w) (es i = false) oi v a → (q = false → S w) →
      AnyS P X b k cs ops S es qs n (l.setIfInBounds i true) (a.put oi.dst v) w → AnyS P X b k cs ops S es qs (n + 1) l a w := by
  simp only [allFree, Bool.and_eq_true, List.all_eq_true, List.mem_range] at hfree
  obtain ⟨hsel, hfree⟩ := hfree
  have hsel := Region.noSelect_spec hsel
  have hSS : ∀ w w', SameW w w' → S w → S w' := fun w w' hs => hSH w w' hs.heap
  have own : ∀ (n : Nat) (l : Array Bool) (a : Act) (w : World), YieS P ops (fun w => q = false → S w) (es i = false) oi v a → (q = false → S w) → AnyS P X b k cs ops S es qs n (l.setIfInBounds i true) (a.put oi.dst v) w → if Region.wanted oi (yielded ops a.tmps) = true then OpY P oi a.eval w (fun v w' => ((es i = true → S w') ∧ (qs i = true → w'.heap = w.heap)) ∧ AnyS P X b k cs ops S es qs n (l.setIfInBounds i true) (a.put oi.dst v) w') else AnyS P X b k cs ops S es qs n (l.setIfInBounds i true) (a.put oi.dst undef) w := by
    intro n l a w hy hS H
    rcases hy with ⟨hw, hei, hv⟩ | ⟨hw, rfl⟩
    · rw [if_pos hw]
      refine .inl fun w₁ hs => ?_
      have hh := hv w₁ fun e => hSS _ _ hs (hS e)
      exact ⟨hh.1, v, w₁, .inl hh.2, ⟨fun e => (by rw [hei] at e; cases e), fun _ => hs.heap⟩, AnyS.same hX hSS _ _ _ _ _ H hs⟩
    · rw [if_neg (by simp [hw])]
      exact H
  intro n
  induction n with
  | zero =>
    intro l a w hc hr hy hS H
    refine ⟨fun h => (by rw [h] at hr; cases hr), fun j hj o ho => ?_⟩
    by_cases hji : j = i
    · subst hji
      rw [hi] at ho
      cases ho
      exact own 0 l a w hy hS H
    · have := ready_mono hj hji
      rw [H.1] at this
      cases this
  | succ n ih =>
    intro l a w hc hr hy hS H
    refine ⟨fun h => (by rw [h] at hr; cases hr), fun j hj o ho => ?_⟩
    by_cases hji : j = i
    · subst hji
      rw [hi] at ho
      cases ho
      exact own (n + 1) l a w hy hS H
    · have h1 := H.2 j (ready_mono hj hji) o ho
      obtain ⟨hjun, oj, hoj, hall⟩ := mem_ready.1 hj
      rw [ho] at hoj
      cases hoj
      obtain ⟨h0, oi', hoi', halli⟩ := mem_ready.1 hr
      rw [hi] at hoi'
      cases hoi'
      have hlj : j < ops.size := (Array.getElem?_eq_some_iff.1 ho).1
      have hli : i < ops.size := (Array.getElem?_eq_some_iff.1 hi).1
      have h0' : l.getD i false = false := by
        rw [Array.getD_eq_getD_getElem?] at h0 ⊢
        cases hq : l[i]? with
        | none => rfl
        | some c => rw [hq] at h0; exact h0
      have hjun' : l.getD j false = false := by
        rw [Array.getD_eq_getD_getElem?] at hjun ⊢
        cases hq : l[j]? with
        | none => rfl
        | some c => rw [hq] at hjun; exact hjun
      have ne1 : edge ops i j = false := by
        cases hb : edge ops i j with
        | false => rfl
        | true =>
          unfold edge at hb
          rw [ho] at hb
          dsimp only at hb
          obtain ⟨e, he, hb⟩ := Array.any_eq_true'.1 hb
          simp only [Bool.and_eq_true, beq_iff_eq] at hb
          have := hall e he hb.1
          rw [hb.2, h0'] at this
          cases this
      have ne2 : edge ops j i = false := by
        cases hb : edge ops j i with
        | false => rfl
        | true =>
          unfold edge at hb
          rw [hi] at hb
          dsimp only at hb
          obtain ⟨e, he, hb⟩ := Array.any_eq_true'.1 hb
          simp only [Bool.and_eq_true, beq_iff_eq] at hb
          have := halli e he hb.1
          rw [hb.2, hjun'] at this
          cases this
      have hap : oi.apart ops o = true := by
        have := hfree i hli j hlj
        rw [hi, ho] at this
        simpa [ne1, ne2, Ne.symm hji] using this
      have hnr : reach ops ops.size i j = false := by
        cases hb : reach ops ops.size i j with
        | false => rfl
        | true =>
          have := reach_done hc _ i j o ho hall hb
          rw [h0'] at this
          cases this
      have h2 := OpY.putIf (K := fun a' w' => (((es j = true → S w') ∧ (qs j = true → w'.heap = w.heap)) ∧ AnyS P X b k cs ops S es qs n ((l.setIfInBounds i true).setIfInBounds j true) a' w') ∨ (w' = w ∧ AnyS P X b k cs ops S es qs n ((l.setIfInBounds i true).setIfInBounds j true) a' w')) hap (fun cs b => hsel i oi cs b hi) (fun cs b => hsel j o cs b ho) hy (by
        split
        · rename_i hw
          rw [if_pos hw] at h1
          exact h1.mono fun v w hx => .inl hx
        · rename_i hw
          rw [if_neg hw] at h1
          exact .inr ⟨rfl, h1⟩)
      have fin : ∀ u w', YieS P ops (fun w => q = false → S w) (es i = false) oi v (a.put o.dst u) → ((((es j = true → S w') ∧ (qs j = true → w'.heap = w.heap)) ∧ AnyS P X b k cs ops S es qs n ((l.setIfInBounds i true).setIfInBounds j true) ((a.put o.dst u).put oi.dst v) w') ∨ (w' = w ∧ AnyS P X b k cs ops S es qs n ((l.setIfInBounds i true).setIfInBounds j true) ((a.put o.dst u).put oi.dst v) w')) → AnyS P X b k cs ops S es qs (n + 1) (l.setIfInBounds j true) (a.put o.dst u) w' := by
        intro u w' hy' hA
        rw [Array.setIfInBounds_comm _ _ (Ne.symm hji)] at hA
        refine ih _ _ w' (hc.set hj) (ready_mono hr (Ne.symm hji)) hy' (fun e => ?_) (by rcases hA with hA | hA <;> exact hA.2)
        rcases hA with hA | hA
        · rcases hns e j hlj hji with h | h | h
          · rw [hnr] at h; cases h
          · exact hA.1.1 h
          · exact hSH _ _ (hA.1.2 h) (hS e)
        · rw [hA.1]; exact hS e
      split
      · rename_i hw
        have hw' : Region.wanted o (yielded ops (a.put oi.dst v).tmps) = true := by
          obtain ⟨g1, _, _⟩ := Oper.apart_spec hap
          rw [wanted_put o a oi.dst v g1]; exact hw
        have h3 := OpY.putIf (K := fun a' w' => ((es j = true → S w') ∧ (qs j = true → w'.heap = w.heap)) ∧ AnyS P X b k cs ops S es qs n ((l.setIfInBounds i true).setIfInBounds j true) a' w') hap (fun cs b => hsel i oi cs b hi) (fun cs b => hsel j o cs b ho) hy (by
          rw [if_pos hw']
          have h1 := H.2 j (ready_mono hj hji) o ho
          rw [if_pos hw'] at h1
          exact h1)
        rw [if_pos hw] at h3
        exact h3.mono fun u w' hx => ⟨hx.2.1, fin u w' hx.1 (.inl hx.2)⟩
      · rename_i hw
        rw [if_neg hw] at h2
        exact fin undef w h2.1 h2.2
end
def putS (n : Nat) (s : Sg) (d : Option Nat) (v : Value) : Sg := match d with
  | some d => bif Nat.blt d n then (d, v) :: s else s
  | none => s
/-- The slots are as the list says. -/
structure Fit (n : Nat) (s : Sg) (a : Act) : Prop where
  defers : a.defers = []
  size : a.tmps.size = n
  get : ∀ i v, at? s i = some v → a.tmps.getD i undef = v
theorem Fit.ev {n : Nat} {s : Sg} {a : Act} (h : Fit n s a) (x : Operand) (v : Value) (hx : ev s x = some v) : a.eval x = v := by
  cases x with
  | tmp t => exact h.get t v hx
  | const u => exact Option.some.inj hx
  | global g => exact Option.some.inj hx
  | func f => exact Option.some.inj hx
theorem Fit.put {n : Nat} {s : Sg} {a : Act} (h : Fit n s a) (d : Option Nat) (v : Value) : Fit n (putS n s d v) (a.put d v) := by
  cases d with
  | none => exact h
  | some d =>
    unfold putS
    dsimp only
    refine ⟨h.defers, by show (a.tmps.setIfInBounds d v).size = n; simp [h.size], fun i u hi => ?_⟩
    show (a.tmps.setIfInBounds d v).getD i undef = u
    cases hb : Nat.blt d n with
    | true =>
      rw [hb] at hi
      have hlt : d < n := by have := Nat.le_of_ble_eq_true hb; omega
      rw [cond_true, at?_cons] at hi
      cases he : Nat.beq i d with
      | true =>
        rw [he] at hi
        have := Nat.eq_of_beq_eq_true he
        subst this
        simp only [cond_true, Option.some.injEq] at hi
        subst hi
        rw [Array.getD_eq_getD_getElem?, Array.getElem?_setIfInBounds_self_of_lt (by rw [h.size]; exact hlt)]
        rfl
      | false =>
        rw [he] at hi
        have hne : d ≠ i := fun e => by subst e; rw [Nat.beq_refl] at he; cases he
        rw [Array.getD_eq_getD_getElem?, Array.getElem?_setIfInBounds_ne hne, ← Array.getD_eq_getD_getElem?]
        exact h.get i u hi
    | false =>
      rw [hb] at hi
      have hge : ¬ d < n := fun hlt => by rw [show Nat.blt d n = true from Nat.ble_eq_true_of_le hlt] at hb; cases hb
      have : a.tmps.setIfInBounds d v = a.tmps := by
        unfold Array.setIfInBounds
        rw [dif_neg (by rw [h.size]; exact hge)]
      rw [this]
      exact h.get i u hi
theorem Fit.more {n : Nat} {s : Sg} {a : Act} (h : Fit n s a) {d : Nat} {v : Value} (hv : a.tmps.getD d undef = v) : Fit n ((d, v) :: s) a := by
  refine ⟨h.defers, h.size, fun i u hi => ?_⟩
  rw [at?_cons] at hi
  cases he : Nat.beq i d with
  | true =>
    rw [he] at hi
    have := Nat.eq_of_beq_eq_true he
    subst this
    simp only [cond_true, Option.some.injEq] at hi
    rw [← hi]; exact hv
  | false => rw [he] at hi; exact h.get i u hi
/-- Is an operation wanted? -/
inductive Gd where
  | y | n | m (d : Nat) (b want : Bool) | bad
noncomputable def gdS (ops : Array Oper) (s : Sg) (o : Oper) : Gd := match o.guard with
  | none => .y
  | some (j, want) => match ops.toList[j]? with
    | some oj => match oj.dst with
      | some d => match at? s d with
        | some (.bool b) => .m d b want
        | some _ => .n
        | none => .bad
      | none => .n
    | none => .n
def gW (s : Sg) (A B : Sg → Prop) : Gd → Prop
  | .y => A s
  | .n => B s
  | .m d b want => bif b == want then A ((d, .bool want) :: s) else B ((d, .bool (!want)) :: s)
  | .bad => False
theorem yielded_no {ops : Array Oper} {tmps : Array Value} {j : Nat} (h : (ops[j]?).bind (·.dst) = none) : yielded ops tmps j = none := by
  unfold yielded
  rw [h]; rfl
theorem yielded_at {ops : Array Oper} {tmps : Array Value} {j d : Nat} {oj : Oper} {v : Value} (hj : ops[j]? = some oj) (hd : oj.dst = some d) (hv : tmps.getD d undef = v) : yielded ops tmps j = match v with | .bool b => some b | _ => none := by
  unfold yielded
  rw [hj, Option.bind_some, hd, Option.bind_some]
  rw [Array.getD_eq_getD_getElem?] at hv
  cases hx : tmps[d]? with
  | none => rw [hx] at hv; subst hv; rfl
  | some z => rw [hx] at hv; simp only [Option.getD_some] at hv; subst hv; cases z <;> rfl
theorem spl {c : Bool} {A B : Prop} (h1 : c = true → A) (h2 : c = false → B) : cond c A B := by
  cases c
  · exact h2 rfl
  · exact h1 rfl
theorem gW_ok {n : Nat} {ops : Array Oper} {s : Sg} {o : Oper} {a : Act} {A B : Sg → Prop} (hf : Fit n s a) (h : gW s A B (gdS ops s o)) : ∃ s', Fit n s' a ∧ ((Region.wanted o (yielded ops a.tmps) = true ∧ A s') ∨ (Region.wanted o (yielded ops a.tmps) = false ∧ B s')) := by
  unfold gdS at h
  unfold Region.wanted
  cases hg : o.guard with
  | none => rw [hg] at h; exact ⟨s, hf, .inl ⟨rfl, h⟩⟩
  | some p =>
    obtain ⟨j, want⟩ := p
    rw [hg] at h
    dsimp only at h ⊢
    rw [Array.getElem?_toList] at h
    cases hj : ops[j]? with
    | none => rw [hj] at h; exact ⟨s, hf, .inr ⟨by rw [yielded_no (by rw [hj]; rfl)]; rfl, h⟩⟩
    | some oj =>
      rw [hj] at h
      dsimp only at h
      cases hd : oj.dst with
      | none => rw [hd] at h; exact ⟨s, hf, .inr ⟨by rw [yielded_no (by rw [hj]; exact hd)]; rfl, h⟩⟩
      | some d =>
        rw [hd] at h
        dsimp only at h
        cases ha : at? s d with
        | none => rw [ha] at h; exact h.elim
        | some v =>
          rw [ha] at h
          have hv := hf.get d v ha
          rw [yielded_at hj hd hv]
          cases v with
          | bool b =>
            dsimp only at h ⊢
            unfold gW at h
            dsimp only at h
            cases hb : b == want with
            | true =>
              rw [hb] at h
              have e : b = want := by simpa using hb
              exact ⟨_, hf.more (hv.trans (by rw [e])), .inl ⟨by simp [e], h⟩⟩
            | false =>
              rw [hb] at h
              have e : b = !want := by cases b <;> cases want <;> simp_all
              exact ⟨_, hf.more (hv.trans (by rw [e])), .inr ⟨by rw [e]; cases want <;> rfl, h⟩⟩
          | _ => exact ⟨s, hf, .inr ⟨rfl, h⟩⟩
section
variable {P : Program} [Ser P] (E : Eng P) (n : Nat) (ops : Array Oper) (K : Sg → World → Prop)
/-- A region, in its order. -/
noncomputable def regW (os : List Oper) : Sg → World → Prop := List.rec (motive := fun _ => Sg → World → Prop) (fun s w => K s w) (fun o _ ih s w => gW s (fun s => opW E s w (fun v w' => ih (putS n s o.dst v) w') o) (fun s => ih (putS n s o.dst undef) w) (gdS ops s o)) os
theorem regW_cons (o : Oper) (os : List Oper) (s : Sg) (w : World) : regW E n ops K (o :: os) s w = gW s (fun s => opW E s w (fun v w' => regW E n ops K os (putS n s o.dst v) w') o) (fun s => regW E n ops K os (putS n s o.dst undef) w) (gdS ops s o) := rfl
def kd : Op → Nat
  | .move _ | .assign _ | .pick _ _ _ | .fieldAddr _ _ _ | .field _ _ _ | .indexAddr _ _ _ | .index _ _ _ | .binOp _ _ _ _ _ | .unOp _ _ _ | .convert _ _ _ | .extract _ _ | .build _ _ | .makeFunc _ _ _ | .nilCheck _ | .slice _ _ _ _ _ => 0
  | .call { callee := .builtin .len, .. } | .call { callee := .builtin .cap, .. } | .call { callee := .builtin .max, .. } | .call { callee := .builtin .min, .. } => 0
  | .load _ _ | .lookup _ _ _ _ => 1
  | _ => 2
def qsB (j : Nat) : Bool := match ops.toList[j]? with
  | some o => Nat.blt (kd o.op) 2
  | none => false
def rdB (j : Nat) : Bool := match ops.toList[j]? with
  | some o => Nat.beq (kd o.op) 1
  | none => false
noncomputable def esB (j : Nat) : Bool := !qsB ops j && (List.range ops.toList.length).any fun i => rdB ops i && !(Nat.beq i j) && !reach ops ops.size i j
def depsB (l : List Nat) (o : Oper) : Bool := o.after.toList.all fun e => !Region.binds .any e || l.contains e.on
def ixs : List Oper → Nat → List (Nat × Oper)
  | [], _ => []
  | o :: os, i => (i, o) :: ixs os (i + 1)
def AllP : List (World → Prop) → World → Prop
  | [], _ => True
  | f :: r, w => f w ∧ AllP r w
/-- A read that may come early. -/
noncomputable def ldA (w : World) (t : Nat) (K : Value → (World → Prop) → Prop) : Option Value → Prop
  | some (.pointer (some ⟨b, off, none⟩)) => match E.T.get t with
    | some y => ∃ xs ty, w.heap[b]? = some (.cells xs ty (E.ice b)) ∧ sif (isS y) (sif (Nat.beq (szT E.T t) 0) False (∃ c, cutL xs.toList off (szT E.T t) = c ∧ c.length = szT E.T t ∧ K (.agg c.toArray) (fun w => w.heap[b]? = some (.cells xs ty (E.ice b))))) (∃ v, xs.toList[off]? = some v ∧ K v (fun w => w.heap[b]? = some (.cells xs ty (E.ice b))))
    | none => False
  | _ => False
noncomputable def luA (w : World) (t : Nat) (ok : Bool) (K : Value → (World → Prop) → Prop) : Option Value → Option Value → Prop
  | some (.map (some m)), some (.int .u32 k) => match mapT E t with
    | some (_, e) => ∃ f, MapF w m f ∧ K (bif ok then .tuple #[(f k).getD (zv E.T e ((E.T.get e).getD .p)), .bool (f k).isSome] else (f k).getD (zv E.T e ((E.T.get e).getD .p))) (fun w => MapF w m f)
    | none => False
  | _, _ => False
def allR (F : Nat → Oper → Prop) : List (Nat × Oper) → Prop
  | [] => True
  | [(i, o)] => F i o
  | (i, o) :: r => F i o ∧ allR F r
noncomputable def drB (f : Nat) : List Nat → Sg → List (World → Prop) → World → Prop := Nat.rec (motive := fun _ => List Nat → Sg → List (World → Prop) → World → Prop) (fun _ _ _ _ => False) (fun _ ih l s Γ w => match (ixs ops.toList 0).filter fun p => !l.contains p.1 && depsB l p.2 with
    | [] => K s w
    | R => match R.find? fun p => Nat.beq (kd p.2.op) 0 with
      | some (i, o) => gW s (fun s => match qall E.T (ev s) o.op with
          | .v x => ih (i :: l) (putS n s o.dst x) Γ w
          | .c p x => p ∧ ih (i :: l) (putS n s o.dst x) Γ w
          | .d p x y => (p ∧ ih (i :: l) (putS n s o.dst x) Γ w) ∨ ih (i :: l) (putS n s o.dst y) Γ w
          | .no => False) (fun s => ih (i :: l) (putS n s o.dst undef) Γ w) (gdS ops s o)
      | none => allR (fun i o => gW s (fun s => match o.op with
          | .load t x => ldW E w (fun v w' => ih (i :: l) (putS n s o.dst v) Γ w') t (ev s x)
          | .lookup t x y ok => luW E w (fun v w' => ih (i :: l) (putS n s o.dst v) Γ w') t ok (ev s x) (ev s y)
          | op => effW E s w (fun v w' => sif (esB ops i) (AllP Γ w' ∧ ih (i :: l) (putS n s o.dst v) Γ w') (ih (i :: l) (putS n s o.dst v) Γ w')) op)
          (fun s => ih (i :: l) (putS n s o.dst undef) Γ w) (gdS ops s o)) R) f
theorem drB_succ (f : Nat) (l : List Nat) (s : Sg) (Γ : List (World → Prop)) (w : World) : drB E n ops K (f + 1) l s Γ w = match (ixs ops.toList 0).filter fun p => !l.contains p.1 && depsB l p.2 with
    | [] => K s w
    | R => match R.find? fun p => Nat.beq (kd p.2.op) 0 with
      | some (i, o) => gW s (fun s => match qall E.T (ev s) o.op with
          | .v x => drB E n ops K f (i :: l) (putS n s o.dst x) Γ w
          | .c p x => p ∧ drB E n ops K f (i :: l) (putS n s o.dst x) Γ w
          | .d p x y => (p ∧ drB E n ops K f (i :: l) (putS n s o.dst x) Γ w) ∨ drB E n ops K f (i :: l) (putS n s o.dst y) Γ w
          | .no => False) (fun s => drB E n ops K f (i :: l) (putS n s o.dst undef) Γ w) (gdS ops s o)
      | none => allR (fun i o => gW s (fun s => match o.op with
          | .load t x => ldW E w (fun v w' => drB E n ops K f (i :: l) (putS n s o.dst v) Γ w') t (ev s x)
          | .lookup t x y ok => luW E w (fun v w' => drB E n ops K f (i :: l) (putS n s o.dst v) Γ w') t ok (ev s x) (ev s y)
          | op => effW E s w (fun v w' => sif (esB ops i) (AllP Γ w' ∧ drB E n ops K f (i :: l) (putS n s o.dst v) Γ w') (drB E n ops K f (i :: l) (putS n s o.dst v) Γ w')) op)
          (fun s => drB E n ops K f (i :: l) (putS n s o.dst undef) Γ w) (gdS ops s o)) R := rfl
noncomputable def drA (w : World) (q : List (Nat × Oper)) : List Nat → Sg → List (World → Prop) → Prop := List.rec (motive := fun _ => List Nat → Sg → List (World → Prop) → Prop) (fun l s Γ => drB E n ops K (ops.toList.length + 1) l s Γ w) (fun p _ ih l s Γ => sif (depsB l p.2) (gW s (fun s => match qall E.T (ev s) p.2.op with
      | .v x => ih (p.1 :: l) (putS n s p.2.dst x) Γ
      | .c c x => c ∧ ih (p.1 :: l) (putS n s p.2.dst x) Γ
      | .d c x y => (c ∧ ih (p.1 :: l) (putS n s p.2.dst x) Γ) ∨ ih (p.1 :: l) (putS n s p.2.dst y) Γ
      | .no => match p.2.op with
        | .load t x => ldA E w t (fun v F => ih (p.1 :: l) (putS n s p.2.dst v) (F :: Γ)) (ev s x)
        | .lookup t x y ok => luA E w t ok (fun v F => ih (p.1 :: l) (putS n s p.2.dst v) (F :: Γ)) (ev s x) (ev s y)
        | _ => ih l s Γ) (fun s => ih (p.1 :: l) (putS n s p.2.dst undef) Γ) (gdS ops s p.2))
    (ih l s Γ)) q
theorem drA_cons (w : World) (i : Nat) (o : Oper) (r : List (Nat × Oper)) (l : List Nat) (s : Sg) (Γ : List (World → Prop)) : drA E n ops K w ((i, o) :: r) l s Γ = sif (depsB l o) (gW s (fun s => match qall E.T (ev s) o.op with
      | .v x => drA E n ops K w r (i :: l) (putS n s o.dst x) Γ
      | .c p x => p ∧ drA E n ops K w r (i :: l) (putS n s o.dst x) Γ
      | .d p x y => (p ∧ drA E n ops K w r (i :: l) (putS n s o.dst x) Γ) ∨ drA E n ops K w r (i :: l) (putS n s o.dst y) Γ
      | .no => match o.op with
        | .load t x => ldA E w t (fun v F => drA E n ops K w r (i :: l) (putS n s o.dst v) (F :: Γ)) (ev s x)
        | .lookup t x y ok => luA E w t ok (fun v F => drA E n ops K w r (i :: l) (putS n s o.dst v) (F :: Γ)) (ev s x) (ev s y)
        | _ => drA E n ops K w r l s Γ) (fun s => drA E n ops K w r (i :: l) (putS n s o.dst undef) Γ) (gdS ops s o))
    (drA E n ops K w r l s Γ) := rfl
/-- All edges lie inside. -/
def inOps (ops : Array Oper) : Bool := ops.toList.all fun o => o.after.toList.all fun e => Nat.blt e.on ops.size
/-- A region that draws its order. -/
noncomputable def drW (s : Sg) (w : World) : Prop := (allFree ops && inOps ops) = true ∧ drA E n ops K w (ixs ops.toList 0) [] s []
end
end
end Go.Proofs.YtignemioillaiaaGreat
