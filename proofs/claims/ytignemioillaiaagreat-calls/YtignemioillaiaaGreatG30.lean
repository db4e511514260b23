/- A region that draws its order, by hand: quiet operations may be taken first. -/
import Derived.Test.YtignemioillaiaaGreatG29
import Derived.Test.YtignemioillaiaaGreatG17
namespace Go.Proofs.YtignemioillaiaaGreat
set_option maxHeartbeats 8000000
set_option maxRecDepth 100000
section
open Go Go.Conc
section
variable (P : Program) (X : Goroutine → World → Prop) (b : Frame) (k : List Item) (cs : List Frame) (ops : Array Oper) (S : World → Prop) (z : Nat)
def dL (i : Nat) (K : Act → World → Prop) (a : Act) (w : World) : Prop :=
  match ops[i]? with
  | none => False
  | some o => if Region.wanted o (yielded ops a.tmps) then
      (Plain [] (execOp a.eval o) ∧ ∀ w₁, di w w₁ → ∃ v w', ((execOp a.eval o).run P w₁ = .ok (.value v) w' ∨ ((execOp a.eval o).run P w₁ = .ok .skip w' ∧ v = undef)) ∧ K (a.put o.dst v) w') ∨
      (∃ f args Post, (∀ w, (execOp a.eval o).run P w = .ok (.enter f args) w) ∧ (∀ w, (execOp a.eval o).events P w #[] = #[]) ∧ aX P f args w Post ∧ ∀ v w', Post v w' → K (a.put o.dst v) w')
    else K (a.put o.dst undef) w
def AnyX : Nat → Array Bool → Act → World → Prop
  | 0, l, a, w => Region.ready .any ops l = [] ∧ X (G (b.at a k) cs) w
  | n + 1, l, a, w => (Region.ready .any ops l = [] → X (G (b.at a k) cs) w) ∧ ∀ i ∈ Region.ready .any ops l, dL P ops i (fun a' w' => ((l.setIfInBounds i true).getD z true = false → S w') ∧ AnyX n (l.setIfInBounds i true) a' w') a w
def gy (o : Oper) (v : Value) (a : Act) : Prop :=
  (Region.wanted o (yielded ops a.tmps) = true ∧ Plain [] (execOp a.eval o) ∧ ∀ w, S w → (execOp a.eval o).run P w = .ok (.value v) w) ∨ (Region.wanted o (yielded ops a.tmps) = false ∧ v = undef)
end
section
variable {P : Program} {main : Bool} {D : World → World → Array Event → Prop} {X : Goroutine → World → Prop} {b : Frame} {k : List Item} {cs : List Frame} {ops : Array Oper} {S : World → Prop} {z : Nat}
theorem aX.same {f : FuncId} {args : Array Value} {w w₁ : World} {Post : Value → World → Prop} (h : aX P f args w Post) (hs : di w w₁) : aX P f args w₁ Post := fun main D X cs hX hk => hX.rely hs (h main D X cs hX hk)
theorem dL.mono {i : Nat} {K K' : Act → World → Prop} {a : Act} {w : World} (hk : ∀ a w, K a w → K' a w) (h : dL P ops i K a w) : dL P ops i K' a w := by
  unfold dL at h ⊢
  split
  · rename_i e; rw [e] at h; exact h
  · rename_i o e
    rw [e] at h
    dsimp only at h
    split
    · rename_i hw
      rw [if_pos hw] at h
      rcases h with ⟨hp, h⟩ | ⟨f, args, Post, h1, h2, h3, h4⟩
      · exact .inl ⟨hp, fun w₁ hs => by obtain ⟨v, w', e1, e2⟩ := h w₁ hs; exact ⟨v, w', e1, hk _ _ e2⟩⟩
      · exact .inr ⟨f, args, Post, h1, h2, h3, fun v w' hp => hk _ _ (h4 v w' hp)⟩
    · rename_i hw
      rw [if_neg hw] at h
      exact hk _ _ h
theorem dL.go (hX : Shut P main D X) {i : Nat} {rest : List Nat} {K : Act → World → Prop} {a : Act} {w : World} (hk : b.kind ≠ .early) (h : dL P ops i K a w) (hK : ∀ a' w', K a' w' → X (G (b.at a' (.inRegion ops rest :: k)) cs) w') : X (G (b.at a (.inRegion ops (i :: rest) :: k)) cs) w := by
  unfold dL at h
  split at h
  · exact h.elim
  · rename_i o ho
    split at h
    · rename_i hw
      rcases h with ⟨hp, h⟩ | ⟨f, args, Post, h1, h2, h3, h4⟩
      · exact hX.GH ho hw hk hp fun w₁ hs => by obtain ⟨v, w', e1, e2⟩ := h w₁ hs; exact ⟨v, w', e1, hK _ _ e2⟩
      · refine aj.enter hX.c ho hw hk h1 h2 (h3 main D X _ hX fun fr v w' _ hl hp => hX.back hl ?_)
        rw [Frame.finish_at, ho]
        exact hK _ _ (h4 v w' hp)
    · rename_i hw
      exact hX.c.go rfl (fun _ => stepG_unwanted ho (by simpa using hw)) (hK _ _ h)
theorem Kv (hX : Shut P main D X) (hk : b.kind ≠ .early) : ∀ (n t : Nat) (l : Array Bool) (a : Act) (w : World), AnyX P X b k cs ops S z n l a w → X (G (b.at a (.inRegion ops (Region.linearise.go .any ops n t l []) :: k)) cs) w := by
  intro n
  induction n with
  | zero => exact fun t l a w h => aj.regionEnd hX.c h.2
  | succ n ih =>
    intro t l a w h
    simp only [Region.linearise.go]
    change X (G (b.at a (.inRegion ops (match (Region.ready .any ops l)[t % (Region.ready .any ops l).length]? with
      | some i => Region.linearise.go .any ops n (t / (Region.ready .any ops l).length) (l.setIfInBounds i true) [i]
      | none => [].reverse) :: k)) cs) w
    cases hi : (Region.ready .any ops l)[t % (Region.ready .any ops l).length]? with
    | none =>
      have hnil : Region.ready .any ops l = [] := by
        cases hr : Region.ready .any ops l with
        | nil => rfl
        | cons x xs =>
          rw [hr] at hi
          have := List.getElem?_eq_none_iff.1 hi
          have := Nat.mod_lt t (show 0 < (x :: xs).length by simp)
          omega
      exact aj.regionEnd hX.c (h.1 hnil)
    | some i =>
      simp only []
      rw [linearise_go_acc, List.reverse_singleton, List.singleton_append]
      exact (h.2 i (List.mem_of_getElem? hi)).go hX hk fun a' w' hx => ih _ _ a' w' hx.2
theorem gy.of_same {o : Oper} {v : Value} {a a' : Act} (hy : gy P ops S o v a) (he : execOp a'.eval o = execOp a.eval o) (hw : Region.wanted o (yielded ops a'.tmps) = Region.wanted o (yielded ops a.tmps)) : gy P ops S o v a' := by
  unfold gy at *
  rw [he, hw]
  exact hy
theorem dL.ER {j : Nat} {oi oj : Oper} {v : Value} (hj : ops[j]? = some oj) (hap : oi.apart ops oj = true) (hsi : ∀ cs b, oi.op ≠ .select cs b) (hsj : ∀ cs b, oj.op ≠ .select cs b) {K : Act → World → Prop} {a : Act} {w : World} (hy : gy P ops S oi v a) (h : dL P ops j K (a.put oi.dst v) w) :
    dL P ops j (fun a' w' => gy P ops S oi v a' ∧ K (a'.put oi.dst v) w') a w := by
  obtain ⟨h1, h2, h3⟩ := Oper.apart_spec hap
  have keep : ∀ u, gy P ops S oi v (a.put oj.dst u) := fun u => hy.of_same (execOp_put oi hsi a oj.dst u h3) (wanted_put oi a oj.dst u h3)
  unfold dL at *
  rw [hj] at h ⊢
  dsimp only at h ⊢
  rw [wanted_put oj a oi.dst v h1, execOp_put oj hsj a oi.dst v h1] at h
  split
  · rename_i hw
    rw [if_pos hw] at h
    rcases h with ⟨hp, h⟩ | ⟨f, args, Post, e1, e2, e3, e4⟩
    · refine .inl ⟨hp, fun w₁ hs => ?_⟩
      obtain ⟨u, w', k1, k2⟩ := h w₁ hs
      exact ⟨u, w', k1, keep u, by rw [← Act.put_comm a v u h2]; exact k2⟩
    · exact .inr ⟨f, args, Post, e1, e2, e3, fun u w' hp => ⟨keep u, by rw [← Act.put_comm a v u h2]; exact e4 u w' hp⟩⟩
  · rename_i hw
    rw [if_neg hw] at h
    exact ⟨keep undef, by rw [← Act.put_comm a v undef h2]; exact h⟩
def waitsFor (ops : Array Oper) (l : Array Bool) (i z : Nat) : Prop := l.getD z true = false ∧ ∃ oz, ops[z]? = some oz ∧ ∃ e ∈ oz.after, Region.binds .any e = true ∧ e.on = i
theorem AnyX.same (hX : Shut P main D X) (hS : ∀ w w', di w w' → S w → S w') : ∀ (n : Nat) (l : Array Bool) (a : Act) (w w₁ : World), AnyX P X b k cs ops S z n l a w → di w w₁ → AnyX P X b k cs ops S z n l a w₁
  | 0, _, _, _, _, h, hs => ⟨h.1, hX.rely hs h.2⟩
  | n + 1, l, a, w, w₁, h, hs => ⟨fun e => hX.rely hs (h.1 e), fun i hi => by
      have := h.2 i hi
      unfold dL at *
      split
      · rename_i e; rw [e] at this; exact this
      · rename_i o e
        rw [e] at this
        dsimp only at this
        split
        · rename_i hw
          rw [if_pos hw] at this
          rcases this with ⟨hp, h⟩ | ⟨f, args, Post, h1, h2, h3, h4⟩
          · exact .inl ⟨hp, fun w₂ hs2 => h w₂ (ji _ _ _ hs hs2)⟩
          · exact .inr ⟨f, args, Post, h1, h2, h3.same hs, h4⟩
        · rename_i hw
          rw [if_neg hw] at this
          exact ⟨fun e => hS _ _ hs (this.1 e), AnyX.same hX hS n _ _ _ _ this.2 hs⟩⟩
theorem CO (hX : Shut P main D X) (hSS : ∀ w w', di w w' → S w → S w') {i : Nat} {oi : Oper} {v : Value} (hi : ops[i]? = some oi) (hsel : ∀ (j : Nat) (o : Oper) cs b, ops[j]? = some o → o.op ≠ .select cs b) (hzi : i ≠ z) :
    ∀ (n : Nat) (l : Array Bool) (a : Act) (w : World), (∀ j oj, ops[j]? = some oj → j ≠ i → l.getD j true = false → (∀ e ∈ oj.after, Region.binds .any e = true → e.on ≠ i) → oi.apart ops oj = true) → i ∈ Region.ready .any ops l → (gy P ops (fun _ => True) oi v a ∨ (waitsFor ops l i z ∧ gy P ops S oi v a)) → (l.getD z true = false → S w) →
      AnyX P X b k cs ops S z n (l.setIfInBounds i true) (a.put oi.dst v) w → AnyX P X b k cs ops S z (n + 1) l a w := by
  have own : ∀ (n : Nat) (l : Array Bool) (a : Act) (w : World), (gy P ops (fun _ => True) oi v a ∨ (waitsFor ops l i z ∧ gy P ops S oi v a)) → (l.getD z true = false → S w) → AnyX P X b k cs ops S z n (l.setIfInBounds i true) (a.put oi.dst v) w → dL P ops i (fun a' w' => ((l.setIfInBounds i true).getD z true = false → S w') ∧ AnyX P X b k cs ops S z n (l.setIfInBounds i true) a' w') a w := by
    intro n l a w hy hS H
    have hS' : ∀ w₁, di w w₁ → (l.setIfInBounds i true).getD z true = false → S w₁ := fun w₁ hs h => hSS _ _ hs (hS (by rwa [getD_set_ne true hzi] at h))
    unfold dL
    rw [hi]
    dsimp only
    rcases hy with (⟨hw, hp, hv⟩ | ⟨hw, rfl⟩) | ⟨hz, ⟨hw, hp, hv⟩ | ⟨hw, rfl⟩⟩
    · rw [if_pos hw]
      exact .inl ⟨hp, fun w₁ hs => ⟨v, w₁, .inl (hv w₁ trivial), hS' w₁ hs, AnyX.same hX hSS _ _ _ _ _ H hs⟩⟩
    · rw [if_neg (by simp [hw])]
      exact ⟨hS' w (iF w), H⟩
    · rw [if_pos hw]
      exact .inl ⟨hp, fun w₁ hs => ⟨v, w₁, .inl (hv w₁ (hSS _ _ hs (hS hz.1))), hS' w₁ hs, AnyX.same hX hSS _ _ _ _ _ H hs⟩⟩
    · rw [if_neg (by simp [hw])]
      exact ⟨hS' w (iF w), H⟩
  intro n
  induction n with
  | zero =>
    intro l a w hfree hr hy hS H
    refine ⟨fun h => (by rw [h] at hr; cases hr), fun j hj => ?_⟩
    by_cases hji : j = i
    · subst hji; exact own 0 l a w hy hS H
    · have := ready_mono hj hji
      rw [H.1] at this
      cases this
  | succ n ih =>
    intro l a w hfree hr hy hS H
    refine ⟨fun h => (by rw [h] at hr; cases hr), fun j hj => ?_⟩
    by_cases hji : j = i
    · subst hji; exact own (n + 1) l a w hy hS H
    · have h1 := H.2 j (ready_mono hj hji)
      obtain ⟨hjun, oj, hoj, hall⟩ := mem_ready.1 hj
      have h0 := (mem_ready.1 hr).1
      have QH : l.getD i false = false := by
        rw [Array.getD_eq_getD_getElem?] at h0 ⊢
        cases hq : l[i]? with
        | none => rfl
        | some c => rw [hq] at h0; exact h0
      have hnot : ∀ e ∈ oj.after, Region.binds .any e = true → e.on ≠ i := fun e he hb heq => by
        have h1 := hall e he hb
        rw [heq, QH] at h1
        cases h1
      have hap := hfree j oj hoj hji hjun hnot
      have hfree' : ∀ q oq, ops[q]? = some oq → q ≠ i → (l.setIfInBounds j true).getD q true = false → (∀ e ∈ oq.after, Region.binds .any e = true → e.on ≠ i) → oi.apart ops oq = true := fun q oq hq hqi hun hno => hfree q oq hq hqi (by
        by_cases hjq : j = q
        · subst hjq; exact hjun
        · rwa [getD_set_ne true hjq] at hun) hno
      have Yl : ∀ {c : Bool}, ((l.setIfInBounds i true).setIfInBounds j true).getD z true = c → (l.setIfInBounds j true).getD z true = c := fun {c} h => by
        rw [Array.setIfInBounds_comm _ _ (Ne.symm hji), getD_set_ne true hzi] at h
        exact h
      have vM : ∀ {c : Bool}, (l.setIfInBounds j true).getD z true = c → ((l.setIfInBounds i true).setIfInBounds j true).getD z true = c := fun {c} h => by
        rw [Array.setIfInBounds_comm _ _ (Ne.symm hji), getD_set_ne true hzi]
        exact h
      rcases hy with hy | ⟨hz, hy⟩
      · have h2 := dL.ER hoj hap (fun cs b => hsel i oi cs b hi) (fun cs b => hsel j oj cs b hoj) hy h1
        refine dL.mono ?_ h2
        rintro a' w' ⟨hy', hSw, hA⟩
        refine ⟨fun h => hSw (vM h), ih _ a' w' hfree' (ready_mono hr (Ne.symm hji)) (.inl hy') (fun h => hSw (vM h)) ?_⟩
        rw [Array.setIfInBounds_comm _ _ hji]
        exact hA
      · have hjz : j ≠ z := by
          rintro rfl
          obtain ⟨_, oz, GI, e, he, hb, heq⟩ := hz
          rw [hoj] at GI
          cases GI
          exact hnot e he hb heq
        have h2 := dL.ER hoj hap (fun cs b => hsel i oi cs b hi) (fun cs b => hsel j oj cs b hoj) hy h1
        have hz' : waitsFor ops (l.setIfInBounds j true) i z := ⟨by rw [getD_set_ne true hjz]; exact hz.1, hz.2⟩
        refine dL.mono ?_ h2
        rintro a' w' ⟨hy', hSw, hA⟩
        refine ⟨fun h => hSw (vM h), ih _ a' w' hfree' (ready_mono hr (Ne.symm hji)) (.inr ⟨hz', hy'⟩) (fun h => hSw (vM h)) ?_⟩
        rw [Array.setIfInBounds_comm _ _ hji]
        exact hA
theorem AnyX.take (hX : Shut P main D X) (hSS : ∀ w w', di w w' → S w → S w') {n : Nat} {l : Array Bool} {a : Act} {w : World} (i : Nat) {oi : Oper} (hi : ops[i]? = some oi) (hz : i ≠ z) (hs : Region.noSelect ops = true) (hf : Region.free .any ops l i = true) (hr : (Region.ready .any ops l).contains i = true) {v : Value}
    (hy : gy P ops (fun _ => True) oi v a) (hS : S w) (h : AnyX P X b k cs ops S z n (l.setIfInBounds i true) (a.put oi.dst v) w) : AnyX P X b k cs ops S z (n + 1) l a w :=
  CO hX hSS hi (Region.noSelect_spec hs) hz n l a w (Region.free_spec hi hf) (by simpa using hr) (.inl hy) (fun _ => hS) h
theorem AnyX.fu (hX : Shut P main D X) (hSS : ∀ w w', di w w' → S w → S w') {n : Nat} {l : Array Bool} {a : Act} {w : World} (i : Nat) {oi oz : Oper} (hi : ops[i]? = some oi) (hz : ops[z]? = some oz) (hb : (i != z && !l.getD z true && oz.after.any fun e => Region.binds .any e && e.on == i) = true) (hs : Region.noSelect ops = true) (hf : Region.free .any ops l i = true) (hr : (Region.ready .any ops l).contains i = true) {v : Value}
    (hy : gy P ops S oi v a) (hS : S w) (h : AnyX P X b k cs ops S z n (l.setIfInBounds i true) (a.put oi.dst v) w) : AnyX P X b k cs ops S z (n + 1) l a w := by
  simp only [Bool.and_eq_true, bne_iff_ne, ne_eq, Bool.not_eq_true', Array.any_eq_true'] at hb
  obtain ⟨⟨hzi, hzl⟩, e, he, IP⟩ := hb
  simp only [beq_iff_eq] at IP
  exact CO hX hSS hi (Region.noSelect_spec hs) hzi n l a w (Region.free_spec hi hf) (by simpa using hr) (.inr ⟨⟨hzl, oz, hz, e, he, IP.1, IP.2⟩, hy⟩) (fun _ => hS) h
theorem AnyX.one {n : Nat} {l : Array Bool} {a : Act} {w : World} (i : Nat) (hr : Region.ready .any ops l = [i]) (h : dL P ops i (fun a' w' => ((l.setIfInBounds i true).getD z true = false → S w') ∧ AnyX P X b k cs ops S z n (l.setIfInBounds i true) a' w') a w) : AnyX P X b k cs ops S z (n + 1) l a w :=
  ⟨fun e => (by rw [hr] at e; cases e), fun j hj => (by rw [hr] at hj; simp at hj; subst hj; exact h)⟩
theorem AnyX.done {n : Nat} {l : Array Bool} {a : Act} {w : World} (hr : Region.ready .any ops l = []) (h : X (G (b.at a k) cs) w) : AnyX P X b k cs ops S z n l a w := by
  cases n with
  | zero => exact ⟨hr, h⟩
  | succ n => exact ⟨fun _ => h, fun i hi => by rw [hr] at hi; cases hi⟩
theorem Shut.drawn (hX : Shut P main D X) (hk : b.kind ≠ .early) (hm : P.follows .mixedOrders = true) {id : Nat} {a : Act} {w : World} (S : World → Prop) (z : Nat) (h : AnyX P X b k cs ops S z ops.size (Array.replicate ops.size false) a w) (hSS : ∀ w w', di w w' → S w → S w') : X (G (b.at a (.code (.region id ops true) :: k)) cs) w := by
  refine hX.step rfl fun w₁ h1 => ?_
  have hs : stepG P main (G (b.at a (.code (.region id ops true) :: k)) cs) w₁ = .go (G (b.at a (.inRegion ops (Region.schedule (P.follows .mixedOrders) ops (w₁.tape w₁.drawn (.order b.fn id))) :: k)) cs) { w₁ with drawn := w₁.drawn + 1 } #[] := by
    simp [G, stepG, stepG.exec, Frame.at, choose, Sem.run, Question.forced, Question.cut]
  rw [hs, goes_go]
  refine ⟨hX.plain ⟨by simp, fun _ _ _ => Iff.rfl⟩, ?_⟩
  simp only [Region.schedule, hm, Bool.true_or, if_true]
  obtain ⟨p, rfl⟩ := h1
  exact Kv hX hk _ _ _ _ _ (AnyX.same hX hSS _ _ _ _ _ h ⟨(p.1, p.2 + 1), rfl⟩)
theorem dL.bQ {i : Nat} {o : Oper} {K : Act → World → Prop} {a : Act} {w : World} {f : FuncId} {fn : Func} {ar : Array Operand} {ats : Array TypeId} (ho : ops[i]? = some o) (hw : Region.wanted o (yielded ops a.tmps) = true) (hop : o.op = .call { callee := .value (.func f), args := ar, argTypes := ats }) (hf : P.funcs[f]? = some fn) (hname : (fn.name == "runtime.NumGoroutine") = false) (hb : fn.body.isNone = false)
    {Post : Value → World → Prop} {args : Array Value} (hc : aX P f args w Post) (ha : ar.map a.eval = args) (h : ∀ v w', Post v w' → K (a.put o.dst v) w') : dL P ops i K a w := by
  subst ha
  unfold dL
  rw [ho]
  dsimp only
  rw [if_pos hw]
  exact .inr ⟨f, _, Post, fun _ => run_call_body hop hf hname hb, fun _ => events_call_body hop hf hname hb #[], hc, h⟩
theorem dL.op {i : Nat} {o : Oper} {K : Act → World → Prop} {a : Act} {w : World} (ho : ops[i]? = some o) (hw : Region.wanted o (yielded ops a.tmps) = true) (hp : Plain [] (execOp a.eval o)) (h : ∀ w₁, di w w₁ → ∃ v w', ((execOp a.eval o).run P w₁ = .ok (.value v) w' ∨ ((execOp a.eval o).run P w₁ = .ok .skip w' ∧ v = undef)) ∧ K (a.put o.dst v) w') : dL P ops i K a w := by
  unfold dL
  rw [ho]
  dsimp only
  rw [if_pos hw]
  exact .inl ⟨hp, h⟩
theorem qW {a : Act} {o : Oper} {w : World} (ty : TypeId) {x : Operand} (hop : o.op = .load ty x) {B off : Nat} (hx : a.eval x = .pointer (some ⟨B, off, none⟩)) {xs : Array Value} {t : TypeId} (hW : w.heap[B]? = some (.cells xs t)) {d : TypeDesc} (hu : P.underlying ty = some d)
    (hd : (match d with | .struct _ | .array _ _ => true | _ => false) = false) {v : Value} (hc : xs[off]? = some v) : (execOp a.eval o).run P w = .ok (.value v) w := by
  have hcell : w.cell? ⟨B, off, none⟩ = some v := by rw [af hW]; exact hc
  have hagg : (isAgg ty).run P w = .ok false w := by
    unfold isAgg
    rw [Sem.run_bind, run_underlying hu w]
    cases d <;> simp_all
  rw [lQ hop, hx]
  simp [Instr.loadAt, Instr.sureAddr, loadVar, Sem.run_bind, hagg, hcell]
theorem ME {a : Act} {o : Oper} {w : World} (ty : TypeId) {x : Operand} (hop : o.op = .load ty x) {B off : Nat} (hx : a.eval x = .pointer (some ⟨B, off, none⟩)) {xs : Array Value} {t : TypeId} (hW : w.heap[B]? = some (.cells xs t)) {d : TypeDesc} (hu : P.underlying ty = some d)
    (hd : (match d with | .struct _ | .array _ _ => true | _ => false) = true) {n : Nat} (hi : (P.info? ty).map (·.size) = some n) (hfit : Nat.ble (off + n) xs.size = true) (c : List Value) (hc : (xs.toList.drop off).take n = c) : (execOp a.eval o).run P w = .ok (.value (.agg c.toArray)) w := by
  rw [lQ hop, hx, Sem.run_bind, vw ty hW off n d hu hd hi hfit c hc]
  rfl
end
section
variable {P : Program} {ops : Array Oper}
theorem dL.df {i : Nat} {o : Oper} {K : Act → World → Prop} {a : Act} {w : World} (ho : ops[i]? = some o) (hw : Region.wanted o (yielded ops a.tmps) = true) (ty : TypeId) {x y : Operand} (hop : o.op = .store ty x y) {B off : Nat} (hx : a.eval x = .pointer (some ⟨B, off, none⟩)) {v : Value} (hy : a.eval y = v) {xs : Array Value} {t : TypeId} (hW : w.heap[B]? = some (.cells xs t))
    (hi : (P.info? ty).map (·.size) = some v.cells.size) (h1 : v.cells.toList.all (·.oneCell') = true) (hfit : off + v.cells.size ≤ xs.size) (ys : List Value) (hys : xs.toList.take off ++ v.cells.toList ++ xs.toList.drop (off + v.cells.size) = ys)
    (h : ∀ w₁ w', di w w₁ → w'.heap[B]? = some (.cells ys.toArray t) → Only B w₁ w' → K (a.put o.dst undef) w') : dL P ops i K a w := by
  subst hys
  refine dL.op ho hw (Av hop) fun w₁ h2 => ?_
  have hW1 : w₁.heap[B]? = some (.cells xs t) := by rw [h2.heap]; exact hW
  refine ⟨undef, w₁.setRow B (xs.toList.take off ++ v.cells.toList ++ xs.toList.drop (off + v.cells.size)).toArray, .inr ⟨?_, rfl⟩, h w₁ _ h2 (setRow_heap w₁ B xs _ t (0, 0) hW1) (Only.setRow w₁ B _)⟩
  rw [rU hop, hx, hy, Sem.run_bind, mE w₁ B off ty t v xs hW1 hi h1 hfit]
  rfl
end
def bR (b : Nat) (o : Obj) (w : World) : Prop := w.heap[b]? = some o
theorem bR.same {b : Nat} {o : Obj} : ∀ w w', di w w' → bR b o w → bR b o w' := fun w w' hs h => by unfold bR; rw [hs.heap]; exact h
theorem xO {ρ : Operand → Value} {o : Oper} (h : Dv (fun _ => false) (fun _ => []) 0 o.op = true := by exact rfl) (hc : xH o.op = true := by exact rfl) : Plain [] (execOp ρ o) := nI h hc
theorem xY {P : Program} {ops : Array Oper} {S : World → Prop} {oi : Oper} {v : Value} {a : Act} (hw : Region.wanted oi (yielded ops a.tmps) = true := by exact rfl) (hp : Plain [] (execOp a.eval oi) := by exact nI (A := fun _ => false) (S := fun _ => []) (fn := 0) rfl rfl) (hv : ∀ w, S w → (execOp a.eval oi).run P w = .ok (.value v) w := by intro _ _; go_simp <;> rfl) : gy P ops S oi v a := .inl ⟨hw, hp, hv⟩
structure GB (r : Option Nat) (w w' : World) : Prop where
  os : w'.os = w.os
  out : w'.output = w.output
  size : w.heap.size ≤ w'.heap.size
  block : ∀ x, x < w.heap.size → some x ≠ r → w'.heap[x]? = w.heap[x]?
theorem GB.refl (r : Option Nat) (w : World) : GB r w w := ⟨rfl, rfl, Nat.le_refl _, fun _ _ _ => rfl⟩
theorem GB.trans {r : Option Nat} {a b c : World} (h : GB r a b) (k : GB r b c) : GB r a c := ⟨k.os.trans h.os, k.out.trans h.out, Nat.le_trans h.size k.size, fun x hx hr => (k.block x (Nat.lt_of_lt_of_le hx h.size) hr).trans (h.block x hx hr)⟩
theorem GB.only {b : Nat} {w w' : World} (h : Only b w w') : GB (some b) w w' := ⟨h.os, h.output, Nat.le_of_eq h.size.symm, fun x _ hr => h.block x fun e => hr (by rw [e])⟩
theorem GB.weak {r : Option Nat} {w w' : World} (h : GB none w w') : GB r w w' := ⟨h.os, h.out, h.size, fun x hx _ => h.block x hx nofun⟩
theorem GB.alloc (r : Option Nat) (w : World) (o : Obj) : GB r w (w.alloc o) := ⟨rfl, rfl, by rw [jl]; omega, fun x hx _ => alloc_old hx o⟩
theorem GB.same {r : Option Nat} {a b c : World} (h : GB r a b) (hs : di b c) : GB r a c := by
  obtain ⟨p, rfl⟩ := hs
  exact ⟨h.os, h.out, h.size, h.block⟩
theorem GB.get {r : Option Nat} {w w' : World} (h : GB r w w') {x : Nat} {o : Obj} (hx : w.heap[x]? = some o) (hr : some x ≠ r) : w'.heap[x]? = some o := (h.block x (dz hx) hr).trans hx
def iT (w : World) (m : Nat) : Prop := w.heap[m]? = some (.map #[] 0)
theorem iT.gb {w w' : World} {m b : Nat} {xs : Array Value} {t : TypeId} (h : iT w m) (hg : GB (some b) w w') (hb : w.heap[b]? = some (.cells xs t)) : iT w' m := hg.get h fun e => by
  injection e with e
  subst e
  rw [h] at hb
  cases hb
theorem O9 {α : Type} {l : Array α} {i : Nat} {x : α} (h : l[i]? = some x) : l.setIfInBounds i x = l := by
  refine Array.ext_getElem? fun j => ?_
  by_cases hj : i = j
  · subst hj
    rw [Array.getElem?_setIfInBounds_self_of_lt (Array.getElem?_eq_some_iff.1 h).1, h]
  · rw [Array.getElem?_setIfInBounds_ne hj]
section
variable {P : Program} {w : World} {m : Nat}
theorem EL {t ty key e : TypeId} (ht : P.underlying t = some (.map key e)) (h : iT w m) : (Builtin.clear_ #[t] ty #[.map (some m)]).run P w = .ok (.tuple #[]) w := by
  have h' : w.heap[m]? = some (.map #[] 0) := h
  have hs : ({ w with heap := w.heap.setIfInBounds m (.map #[] 0) } : World) = w := by rw [O9 h']
  simp [Builtin.clear_, run_underlying ht, getObj, setObj, h', Sem.run, hs]
theorem EM {t key e : TypeId} (ht : P.underlying t = some (.map key e)) (h : iT w m) : (Instr.range t (.map (some m))).run P w = .ok (.pointer (some ⟨w.heap.size, 0, none⟩)) (w.alloc (.mapIter (some m) 0 #[] 0)) := by
  have h' : w.heap[m]? = some (.map #[] 0) := h
  simp [Instr.range, run_underlying ht, getObj, newObj, h', Sem.run]
theorem GJ {it : Nat} {ty : TypeId} (hi : w.heap[it]? = some (.mapIter (some m) 0 #[] 0)) (h : iT w m) : (Instr.next (.pointer (some ⟨it, 0, none⟩)) false ty).run P w = .ok (.tuple #[.bool false]) w := by
  have h' : w.heap[m]? = some (.map #[] 0) := h
  simp [Instr.next, getObj, h', hi, Sem.run, choose, Question.forced]
theorem MF {key : TypeId} {k : Int} {b : Bool} (hk : P.underlying key = some (.int .u32)) (n : Nat) (w : World) : (Instr.checkKey b (n + 1) key (.int .u32 k)).run P w = .ok () w := by
  rw [Instr.checkKey]
  simp [run_underlying hk]
theorem DF {t key e : TypeId} {z : Value} {k : Int} (ht : P.underlying t = some (.map key e)) (hk : P.underlying key = some (.int .u32)) (hz : ∀ w, (zeroValue e).run P w = .ok z w) (h : iT w m) : (Instr.lookup t (.map (some m)) (.int .u32 k) true).run P w = .ok (.tuple #[z, .bool false]) w := by
  have h' : w.heap[m]? = some (.map #[] 0) := h
  have hc := MF (P := P) (k := k) (b := true) hk 9999 w
  simp only [Nat.reduceAdd] at hc
  simp [Instr.lookup, run_underlying ht, run_underlying hk, getObj, h', Sem.run, hz, Instr.findKey, Instr.findNow, hc]
end
def tV (g i gs sz bn bi : Int) (vm : Nat) (wn wi : Int) (wm : Nat) (sn : Int) (kn : Nat) (lg : Value) (sg mJ : Int) (sr sm sd so si ob : Value) (ro pr : Int) (mt : Nat) (nx : Int) (pp ac : Nat) : List Value :=
  [.int .u8 g, .int .u8 i, .int .i64 gs, .int .i64 sz, .int .u32 bn, .int .u8 bi, .map (some vm), .int .u32 wn, .int .u8 wi, .map (some wm), .int .u32 sn, .map (some kn), lg, .int .u8 sg, .int .u8 mJ, sr, sm, sd, so, si, ob, .int .i64 ro, .int .u8 pr, .map (some mt), .int .u32 nx, .map (some pp), .map (some ac)]
noncomputable def Kw : Code := Tryz.f112.body.getD .skip
theorem zi : Tryz.f112.body = some Kw := by
  unfold Kw
  rfl
theorem Pb (x y : Value) : Frame.enter Tryz.prog 112 #[x, y] .normal = (Go.Conc.base 112).at ⟨#[x, y, undef, undef, undef, undef, undef, undef, undef, undef, undef, undef, undef, undef, undef, undef], []⟩ [.code Kw] := by
  have h := enter_at (P := Tryz.prog) #[x, y] Tryz.func112 zi
  rw [show Tryz.f112.ntmps = 16 from rfl] at h
  rw [h]
  walk_nrm
theorem Ky {ρ : Operand → Value} {o : Oper} {t : TypeId} {x : Operand} (hop : o.op = .range t x) : execOp ρ o = (do pure (Next.value (← Instr.range t (ρ x)))) := by
  unfold execOp
  rw [hop]
theorem MG {ρ : Operand → Value} {o : Oper} {x : Operand} (hop : o.op = .next x false) : execOp ρ o = (do pure (Next.value (← Instr.next (ρ x) false o.type))) := by
  unfold execOp
  rw [hop]
theorem H8 {ρ : Operand → Value} {o : Oper} {t : TypeId} {x y : Operand} (hop : o.op = .lookup t x y true) : execOp ρ o = (do pure (Next.value (← Instr.lookup t (ρ x) (ρ y) true))) := by
  unfold execOp
  rw [hop]
theorem Kz {ρ : Operand → Value} {o : Oper} {t : TypeId} {x : Operand} (hop : o.op = .call { callee := .builtin .clear, args := #[x], argTypes := #[t] }) : execOp ρ o = (do pure (Next.value (← Builtin.clear_ #[t] o.type #[ρ x]))) := by
  have e : execOp ρ o = builtin .clear #[t] o.type (#[x].map fun | .const _ => true | _ => false) (#[x].map ρ) := by
    unfold execOp
    rw [hop]
    rfl
  rw [e, show #[x].map ρ = #[ρ x] by simp]
  rfl
section
variable {P : Program} {main : Bool} {D : World → World → Array Event → Prop} {X : Goroutine → World → Prop} {w : World} {b : Frame} {a : Act} {k : List Item} {cs : List Frame} {ops : Array Oper} {i : Nat} {rest : List Nat} {o : Oper}
theorem iT.same {w w₁ : World} {m : Nat} (h : iT w m) (hs : di w w₁) : iT w₁ m := by unfold iT; rw [hs.heap]; exact h
theorem Shut.uY (hX : Shut P main D X) (ho : ops[i]? = some o) (hw : Region.wanted o (yielded ops a.tmps) = true) (hk : b.kind ≠ .early) {t key e : TypeId} {x : Operand} (hop : o.op = .call { callee := .builtin .clear, args := #[x], argTypes := #[t] }) {m : Nat} (hx : a.eval x = .map (some m)) (ht : P.underlying t = some (.map key e)) (hm : iT w m)
    (h : X (G (b.at (a.put o.dst (.tuple #[])) (.inRegion ops rest :: k)) cs) w) : X (G (b.at a (.inRegion ops (i :: rest) :: k)) cs) w :=
  hX.still ho hw hk (nJ hop rfl) _ (fun w₁ hs => by rw [Kz hop, hx, Sem.run_bind, EL ht (hm.same hs)]; rfl) h
theorem Shut.MH (hX : Shut P main D X) (ho : ops[i]? = some o) (hw : Region.wanted o (yielded ops a.tmps) = true) (hk : b.kind ≠ .early) {t key e : TypeId} {x : Operand} (hop : o.op = .range t x) {m : Nat} (hx : a.eval x = .map (some m)) (ht : P.underlying t = some (.map key e)) (hm : iT w m)
    (h : X (G (b.at (a.put o.dst (.pointer (some ⟨w.heap.size, 0, none⟩))) (.inRegion ops rest :: k)) cs) (w.alloc (.mapIter (some m) 0 #[] 0))) : X (G (b.at a (.inRegion ops (i :: rest) :: k)) cs) w :=
  hX.make ho hw hk (nI (A := fun _ => false) (S := fun _ => []) (fn := 0) (by rw [hop]; rfl) (by rw [hop]; rfl)) (v := fun n => .pointer (some ⟨n, 0, none⟩)) (fun w₁ hs => by rw [Ky hop, hx, Sem.run_bind, EM ht (hm.same hs)]; rfl) h
theorem Shut.QI (hX : Shut P main D X) (ho : ops[i]? = some o) (hw : Region.wanted o (yielded ops a.tmps) = true) (hk : b.kind ≠ .early) {x : Operand} (hop : o.op = .next x false) {it m : Nat} (hx : a.eval x = .pointer (some ⟨it, 0, none⟩)) (hi : w.heap[it]? = some (.mapIter (some m) 0 #[] 0)) (hm : iT w m)
    (h : X (G (b.at (a.put o.dst (.tuple #[.bool false])) (.inRegion ops rest :: k)) cs) w) : X (G (b.at a (.inRegion ops (i :: rest) :: k)) cs) w :=
  hX.still ho hw hk (nI (A := fun _ => false) (S := fun _ => []) (fn := 0) (by rw [hop]; rfl) (by rw [hop]; rfl)) _ (fun w₁ hs => by rw [MG hop, hx, Sem.run_bind, GJ (by rw [hs.heap]; exact hi) (hm.same hs)]; rfl) h
theorem Shut.Sk (hX : Shut P main D X) (ho : ops[i]? = some o) (hw : Region.wanted o (yielded ops a.tmps) = true) (hk : b.kind ≠ .early) {t key e : TypeId} {x y : Operand} (hop : o.op = .lookup t x y true) {m : Nat} {n : Int} (hx : a.eval x = .map (some m)) (hy : a.eval y = .int .u32 n) (ht : P.underlying t = some (.map key e)) (hkk : P.underlying key = some (.int .u32)) {z : Value} (hz : ∀ w, (zeroValue e).run P w = .ok z w) (hm : iT w m)
    (h : X (G (b.at (a.put o.dst (.tuple #[z, .bool false])) (.inRegion ops rest :: k)) cs) w) : X (G (b.at a (.inRegion ops (i :: rest) :: k)) cs) w :=
  hX.still ho hw hk (nI (A := fun _ => false) (S := fun _ => []) (fn := 0) (by rw [hop]; rfl) (by rw [hop]; rfl)) _ (fun w₁ hs => by rw [H8 hop, hx, hy, Sem.run_bind, DF ht hkk hz (hm.same hs)]; rfl) h
end
theorem fA {P : Program} {f : FuncId} {fn : Func} {a : Act} {todo : List Item} {w : World} (hd : a.defers = []) (hf : P.funcs[f]? = some fn) (hr : fn.results = #[]) : ({ (Go.Conc.base f).at a todo with mode := .returning } : Frame).leaving P w (.returned (.tuple #[])) := ⟨rfl, hd, rfl, fn, hf, results_none hr _ _ _⟩
theorem cu {P : Program} {f : FuncId} {fn : Func} {a : Act} {todo : List Item} {w : World} {t : Tmp} (hd : a.defers = []) (hf : P.funcs[f]? = some fn) (hr : fn.results = #[.tmp t]) : ({ (Go.Conc.base f).at a todo with mode := .returning } : Frame).leaving P w (.returned (a.tmps.getD t undef)) := ⟨rfl, hd, rfl, fn, hf, results_tmp hr _ _ _⟩
theorem Br (w : World) (m1 m2 : Nat) (h : iT w m2) : aX Tryz.prog 112 #[.map (some m1), .map (some m2)] w (fun v w' => v = .tuple #[] ∧ GB none w w') := by
  intro main D X cs hX hk
  rw [Pb]
  simp only [Kw, Tryz.f112, Option.getD]
  refine xg ?_
  refine aj.region hX.c _ rfl ?_
  refine xr ?_
  refine aj.quiet hX.c rfl rfl xB _ (fun _ => by go_simp <;> rfl) (fun _ => by simp [go_sem, *]) ?_
  refine xm ?_
  refine hX.MH rfl rfl (by decide) rfl rfl Tryz.underlying144 h ?_
  refine xm ?_
  refine xg ?_
  refine aj.region hX.c _ rfl ?_
  refine xr ?_
  refine hX.QI rfl rfl (by decide) rfl rfl (iR _ _) (by unfold iT; rw [alloc_old (dz h)]; exact h) ?_
  refine xm ?_
  refine aj.quiet hX.c rfl rfl xB _ (fun _ => by go_simp <;> rfl) (fun _ => by simp [go_sem, *]) ?_
  refine xm ?_
  refine xg ?_
  refine aj.cond hX.c false rfl ?_
  simp only [Bool.false_eq_true, if_false]
  refine aj.exit hX.c rfl ?_
  refine aj.fin hX.c ?_
  exact hk _ _ _ rfl (fA rfl Tryz.func112 rfl) ⟨rfl, GB.alloc _ _ _⟩
end
section
open Go Go.Conc Go.RowKit
noncomputable def KA : Code := Tryz.f111.body.getD .skip
theorem DI : Tryz.f111.body = some KA := by
  unfold KA
  rfl
theorem Pd (x0 : Value) : Frame.enter Tryz.prog 111 #[x0] .normal = (Go.Conc.base 111).at ⟨#[x0, undef, undef, undef, undef, undef, undef, undef, undef, undef, undef, undef, undef, undef, undef, undef, undef, undef, undef, undef], []⟩ [.code KA] := by
  have h := enter_at (P := Tryz.prog) #[x0] Tryz.func111 DI
  rw [show Tryz.f111.ntmps = 20 from rfl] at h
  rw [h]
  walk_nrm
section
variable {g i gs sz bn bi : Int} {vm : Nat} {wn wi : Int} {wm : Nat} {sn : Int} {kn : Nat} {lg : Value} {sg mJ : Int} {sr sm sd so si ob : Value} {ro pr : Int} {mt : Nat} {nx : Int} {pp ac : Nat}
theorem stand (w : World) (br : Nat) (hB : w.heap[br]? = some (.cells (tV g i gs sz bn bi vm wn wi wm sn kn lg sg mJ sr sm sd so si ob ro pr mt nx pp ac).toArray 152)) (e1 : iT w mt) (e2 : iT w pp) (e3 : iT w ac) :
    aX Tryz.prog 111 #[.pointer (some ⟨br, 0, none⟩)] w (fun v w' => v = .tuple #[] ∧ w'.heap[br]? = some (.cells (tV g i gs sz bn bi vm wn wi wm sn kn lg sg mJ sr sm sd so si ob 0 0 mt nx pp ac).toArray 152) ∧ GB (some br) w w') := by
  intro main D X cs hX hk
  rw [Pd]
  simp only [KA, Tryz.f111, Option.getD]
  refine xg ?_
  refine aj.region hX.c _ rfl ?_
  refine xr ?_
  refine aj.quiet hX.c rfl rfl xB _ (fun _ => by go_simp <;> rfl) (fun _ => by simp [go_sem, *]) ?_
  refine xm ?_
  refine aj.quiet hX.c rfl rfl xB _ (fun _ => by go_simp <;> rfl) (fun _ => by simp [go_sem, *]) ?_
  refine xm ?_
  refine aj.quiet hX.c rfl rfl xB _ (fun _ => by go_simp <;> rfl) (fun _ => by simp [go_sem, *]) ?_
  refine xm ?_
  refine hX.df rfl rfl (by decide) 148 rfl rfl (v := .int .i64 0) rfl hB (by kernel_rfl) rfl (Nat.le_of_ble_eq_true rfl) (tV g i gs sz bn bi vm wn wi wm sn kn lg sg mJ sr sm sd so si ob 0 pr mt nx pp ac) rfl (fun w1 hB1 o1 => ?_)
  refine xm ?_
  refine xg ?_
  refine aj.region hX.c _ rfl ?_
  refine xr ?_
  refine aj.quiet hX.c rfl rfl xB _ (fun _ => by go_simp <;> rfl) (fun _ => by simp [go_sem, *]) ?_
  refine xm ?_
  refine aj.quiet hX.c rfl rfl xB _ (fun _ => by go_simp <;> rfl) (fun _ => by simp [go_sem, *]) ?_
  refine xm ?_
  refine aj.quiet hX.c rfl rfl xB _ (fun _ => by go_simp <;> rfl) (fun _ => by simp [go_sem, *]) ?_
  refine xm ?_
  refine hX.df rfl rfl (by decide) 149 rfl rfl (v := .int .u8 0) rfl hB1 (by kernel_rfl) rfl (Nat.le_of_ble_eq_true rfl) (tV g i gs sz bn bi vm wn wi wm sn kn lg sg mJ sr sm sd so si ob 0 0 mt nx pp ac) rfl (fun w2 hB2 o2 => ?_)
  refine xm ?_
  have hG : GB (some br) w w2 := (GB.only o1).trans (GB.only o2)
  refine xg ?_
  refine aj.region hX.c _ rfl ?_
  refine xr ?_
  refine aj.quiet hX.c rfl rfl xB _ (fun _ => by go_simp <;> rfl) (fun _ => by simp [go_sem, *]) ?_
  refine xm ?_
  refine aj.quiet hX.c rfl rfl xB _ (fun _ => by go_simp <;> rfl) (fun _ => by simp [go_sem, *]) ?_
  refine xm ?_
  refine aj.quiet hX.c rfl rfl xB _ (fun _ => by go_simp <;> rfl) (fun _ => by simp [go_sem, *]) ?_
  refine xm ?_
  refine Shut.ql hX rfl rfl xB 144 rfl rfl hB2 Tryz.underlying144 rfl (v := .map (some mt)) rfl ?_
  refine xm ?_
  refine hX.uY rfl rfl (by decide) rfl rfl Tryz.underlying144 (e1.gb hG hB) ?_
  refine xm ?_
  refine xg ?_
  refine aj.region hX.c _ rfl ?_
  refine xr ?_
  refine aj.quiet hX.c rfl rfl xB _ (fun _ => by go_simp <;> rfl) (fun _ => by simp [go_sem, *]) ?_
  refine xm ?_
  refine aj.quiet hX.c rfl rfl xB _ (fun _ => by go_simp <;> rfl) (fun _ => by simp [go_sem, *]) ?_
  refine xm ?_
  refine aj.quiet hX.c rfl rfl xB _ (fun _ => by go_simp <;> rfl) (fun _ => by simp [go_sem, *]) ?_
  refine xm ?_
  refine Shut.ql hX rfl rfl xB 147 rfl rfl hB2 Tryz.underlying147 rfl (v := .map (some pp)) rfl ?_
  refine xm ?_
  refine hX.uY rfl rfl (by decide) rfl rfl Tryz.underlying147 (e2.gb hG hB) ?_
  refine xm ?_
  refine xg ?_
  refine aj.region hX.c _ rfl ?_
  refine xr ?_
  refine aj.quiet hX.c rfl rfl xB _ (fun _ => by go_simp <;> rfl) (fun _ => by simp [go_sem, *]) ?_
  refine xm ?_
  refine aj.quiet hX.c rfl rfl xB _ (fun _ => by go_simp <;> rfl) (fun _ => by simp [go_sem, *]) ?_
  refine xm ?_
  refine aj.quiet hX.c rfl rfl xB _ (fun _ => by go_simp <;> rfl) (fun _ => by simp [go_sem, *]) ?_
  refine xm ?_
  refine Shut.ql hX rfl rfl xB 150 rfl rfl hB2 Tryz.underlying150 rfl (v := .map (some ac)) rfl ?_
  refine xm ?_
  refine hX.uY rfl rfl (by decide) rfl rfl Tryz.underlying150 (e3.gb hG hB) ?_
  refine xm ?_
  refine xg ?_
  refine aj.fin hX.c ?_
  exact hk _ _ _ rfl (fA rfl Tryz.func111 rfl) ⟨rfl, hB2, hG⟩
end
theorem GB.below {w w' : World} (h : Below w.heap.size w w') : GB none w w' := ⟨h.os, h.output, h.size, fun x hx _ => h.block x hx⟩
theorem Uq (g : Int) (k : Nat) (w : World) (h0 : 0 ≤ g) (h1 : g < k) (hk1 : 1 ≤ k) (hk4 : k ≤ 4) : aX Tryz.prog 8 #[.int .i64 g, .int .i64 k] w (fun v w' => ∃ bM bO bI, v = .tuple #[.agg #[.int .u8 g, .int .u8 k, .slice none 0 0, .slice (some ⟨bM, 0, none⟩) 1 1, .slice none 0 0, .slice (some ⟨bO, 0, none⟩) k k, .slice (some ⟨bI, 0, none⟩) k k], .int .i64 0] ∧
      w.heap.size ≤ bM ∧ w.heap.size ≤ bO ∧ w.heap.size ≤ bI ∧ w'.heap[bM]? = some (.cells #[.int .u64 0, .int .u8 0] 107) ∧ w'.heap[bO]? = some (.cells (dQ k k).toArray 103) ∧ w'.heap[bI]? = some (.cells (List.replicate k (Value.int .u32 0)).toArray 47) ∧ GB none w w') := by
  refine tT xK xK xK (fun w₁ hs => (RV g k w₁ h0 h1 hk1 hk4).mono ?_) ?_
  · rintro e w' ⟨bM, bO, bI, rfl, k1, k2, k3, k4, k5, k6, k7⟩
    obtain ⟨p, rfl⟩ := hs
    exact ⟨bM, bO, bI, rfl, k1, k2, k3, k4, k5, k6, ⟨k7.os, k7.output, k7.size, fun x hx _ => k7.block x hx⟩⟩
  · rintro v w1 w2 hs ⟨bM, bO, bI, rfl, k1, k2, k3, k4, k5, k6, k7⟩
    exact ⟨bM, bO, bI, rfl, k1, k2, k3, by rw [hs.heap]; exact k4, by rw [hs.heap]; exact k5, by rw [hs.heap]; exact k6, k7.same hs⟩
noncomputable def c8 : Code := Tryz.f8.body.getD .skip
theorem Vr : Tryz.f8.body = some c8 := by
  unfold c8
  rfl
noncomputable def QJ : Code := Tryz.f61.body.getD .skip
theorem GK : Tryz.f61.body = some QJ := by
  unfold QJ
  rfl
theorem Sm (x0 : Value) : Frame.enter Tryz.prog 61 #[x0] .normal = (Go.Conc.base 61).at ⟨#[x0, undef, undef, undef, undef, undef, undef, undef, undef, undef, undef, undef, undef, undef, undef, undef, undef, undef, undef, undef, undef, undef, undef, undef, undef, undef, undef, undef, undef, undef, undef, undef, undef, undef, undef, undef, undef, undef, undef, undef, undef, undef, undef, undef, undef, undef, undef, undef, undef, undef, undef, undef, undef, undef, undef, undef, undef, undef, undef, undef, undef, undef], []⟩ [.code QJ] := by
  have h := enter_at (P := Tryz.prog) #[x0] Tryz.func61 GK
  rw [show Tryz.f61.ntmps = 62 from rfl] at h
  rw [h]
  walk_nrm
section
variable {g i gs sz bn bi : Int} {vm : Nat} {wn wi : Int} {wm : Nat} {sn : Int} {kn : Nat} {lg : Value} {sg mJ : Int} {sr sm sd so si ob : Value} {ro pr : Int} {mt : Nat} {nx : Int} {pp ac : Nat}
theorem MI (w : World) (br : Nat) (hB : w.heap[br]? = some (.cells (tV g i gs sz bn bi vm wn wi wm sn kn lg sg mJ sr sm sd so si ob ro pr mt nx pp ac).toArray 152)) (e1 : iT w mt) (e2 : iT w pp) (e3 : iT w ac) (e4 : iT w kn) (e5 : iT w vm) (e6 : iT w wm) {n : Nat} (hgs : gs = n) (hn1 : 1 ≤ n) (GL : n ≤ 4) (hg0 : 0 ≤ g) (hg1 : g < n) :
    aX Tryz.prog 61 #[.pointer (some ⟨br, 0, none⟩)] w (fun v w' => v = .tuple #[] ∧ ∃ bM bO bI, w'.heap[br]? = some (.cells (tV g i gs sz wn wi vm wn wi wm wn kn (.slice none 0 0) g gs (.slice none 0 0) (.slice (some ⟨bM, 0, none⟩) 1 1) (.slice none 0 0) (.slice (some ⟨bO, 0, none⟩) n n) (.slice (some ⟨bI, 0, none⟩) n n) ob 0 0 mt nx pp ac).toArray 152) ∧
      w.heap.size ≤ bM ∧ w.heap.size ≤ bO ∧ w.heap.size ≤ bI ∧ w'.heap[bM]? = some (.cells #[.int .u64 0, .int .u8 0] 107) ∧ w'.heap[bO]? = some (.cells (dQ n n).toArray 103) ∧ w'.heap[bI]? = some (.cells (List.replicate n (Value.int .u32 0)).toArray 47) ∧ GB (some br) w w') := by
  intro main D X cs hX hk
  subst hgs
  rw [Sm]
  simp only [QJ, Tryz.f61, Option.getD]
  refine xg ?_
  refine aj.region hX.c _ rfl ?_
  refine xr ?_
  refine aj.quiet hX.c rfl rfl xB _ (fun _ => by go_simp <;> rfl) (fun _ => by simp [go_sem, *]) ?_
  refine xm ?_
  refine Shut.bQ hX rfl rfl xB rfl Tryz.func111 (by kernel_rfl) (by rw [DI]; rfl) (stand w br hB e1 e2 e3) xk ?_
  rintro v w1 ⟨rfl, hB1, g1⟩
  refine xm ?_
  refine xg ?_
  refine aj.region hX.c _ rfl ?_
  refine xr ?_
  iterate 3 (refine aj.quiet hX.c rfl rfl xB _ (fun _ => by go_simp <;> rfl) (fun _ => by simp [go_sem, *]) ?_; refine xm ?_)
  refine Shut.ql hX rfl rfl xB 147 rfl rfl hB1 Tryz.underlying147 rfl (v := .map (some kn)) rfl ?_
  refine xm ?_
  refine hX.uY rfl rfl (by decide) rfl rfl Tryz.underlying147 (e4.gb g1 hB) ?_
  refine xm ?_
  refine xg ?_
  refine aj.region hX.c _ rfl ?_
  refine xr ?_
  iterate 4 (refine aj.quiet hX.c rfl rfl xB _ (fun _ => by go_simp <;> rfl) (fun _ => by simp [go_sem, *]) ?_; refine xm ?_)
  refine Shut.ql hX rfl rfl xB 144 rfl rfl hB1 Tryz.underlying144 rfl (v := .map (some vm)) rfl ?_
  refine xm ?_
  refine hX.uY rfl rfl (by decide) rfl rfl Tryz.underlying144 (e5.gb g1 hB) ?_
  refine xm ?_
  refine xg ?_
  refine Shut.drawn hX xB (by kernel_rfl) (bR br (.cells (tV g i n sz bn bi vm wn wi wm sn kn lg sg mJ sr sm sd so si ob 0 0 mt nx pp ac).toArray 152)) 10 ?_ bR.same
  show AnyX _ _ _ _ _ _ _ _ 11 #[false, false, false, false, false, false, false, false, false, false, false] _ _
  refine AnyX.take hX bR.same 0 rfl (by decide) xK xK xK xY hB1 ?_
  refine xm ?_
  refine AnyX.take hX bR.same 1 rfl (by decide) xK xK xK xY hB1 ?_
  refine xm ?_
  refine AnyX.take hX bR.same 2 rfl (by decide) xK xK xK xY hB1 ?_
  refine xm ?_
  refine AnyX.take hX bR.same 3 rfl (by decide) xK xK xK xY hB1 ?_
  refine xm ?_
  refine AnyX.fu hX bR.same 4 rfl rfl xK xK xK (by kernel_rfl) (.inl ⟨rfl, bZ rfl, fun _ h => qW 144 rfl rfl h Tryz.underlying144 rfl (v := .map (some vm)) rfl⟩) hB1 ?_
  refine xm ?_
  refine AnyX.take hX bR.same 5 rfl (by decide) xK xK xK xY hB1 ?_
  refine xm ?_
  refine AnyX.take hX bR.same 6 rfl (by decide) xK xK xK xY hB1 ?_
  refine xm ?_
  refine AnyX.take hX bR.same 7 rfl (by decide) xK xK xK xY hB1 ?_
  refine xm ?_
  refine AnyX.take hX bR.same 8 rfl (by decide) xK xK xK xY hB1 ?_
  refine xm ?_
  refine AnyX.fu hX bR.same 9 rfl rfl xK xK xK (by kernel_rfl) (.inl ⟨rfl, bZ rfl, fun _ h => qW 144 rfl rfl h Tryz.underlying144 rfl (v := .map (some wm)) rfl⟩) hB1 ?_
  refine xm ?_
  refine AnyX.one 10 (by kernel_rfl) ?_
  refine dL.bQ rfl rfl rfl Tryz.func112 (by kernel_rfl) (by rw [zi]; rfl) (Br w1 vm wm (e6.gb g1 hB)) xk ?_
  rintro v w2 ⟨rfl, g2⟩
  have hB2 := g2.get hB1 nofun
  have g2' : GB (some br) w w2 := g1.trans g2.weak
  clear g1
  refine ⟨fun h => (by cases h), AnyX.done (by kernel_rfl) ?_⟩
  refine xm ?_
  refine xg ?_
  refine aj.region hX.c _ rfl ?_
  refine xr ?_
  iterate 5 (refine aj.quiet hX.c rfl rfl xB _ (fun _ => by go_simp <;> rfl) (fun _ => by simp [go_sem, *]) ?_; refine xm ?_)
  refine Shut.vJ hX rfl rfl xB 143 rfl rfl hB2 Tryz.underlying143 rfl (n := 2) (by kernel_rfl) (Nat.le_of_ble_eq_true rfl) [.int .u32 wn, .int .u8 wi] rfl ?_
  refine xm ?_
  iterate 3 (refine aj.quiet hX.c rfl rfl xB _ (fun _ => by go_simp <;> rfl) (fun _ => by simp [go_sem, *]) ?_; refine xm ?_)
  refine hX.df rfl rfl (by decide) 143 rfl rfl (v := .agg #[.int .u32 wn, .int .u8 wi]) rfl hB2 (by kernel_rfl) rfl (Nat.le_of_ble_eq_true rfl) (tV g i n sz wn wi vm wn wi wm sn kn lg sg mJ sr sm sd so si ob 0 0 mt nx pp ac) rfl (fun w3 hB3 o3 => ?_)
  refine xm ?_
  refine xg ?_
  refine aj.region hX.c _ rfl ?_
  refine xr ?_
  iterate 6 (refine aj.quiet hX.c rfl rfl xB _ (fun _ => by go_simp <;> rfl) (fun _ => by simp [go_sem, *]) ?_; refine xm ?_)
  refine Shut.ql hX rfl rfl xB 47 rfl rfl hB3 Tryz.underlying47 rfl (v := .int .u32 wn) rfl ?_
  refine xm ?_
  iterate 2 (refine aj.quiet hX.c rfl rfl xB _ (fun _ => by go_simp <;> rfl) (fun _ => by simp [go_sem, *]) ?_; refine xm ?_)
  refine hX.df rfl rfl (by decide) 47 rfl rfl (v := .int .u32 wn) rfl hB3 (by kernel_rfl) rfl (Nat.le_of_ble_eq_true rfl) (tV g i n sz wn wi vm wn wi wm wn kn lg sg mJ sr sm sd so si ob 0 0 mt nx pp ac) rfl (fun w4 hB4 o4 => ?_)
  refine xm ?_
  refine xg ?_
  refine aj.region hX.c _ rfl ?_
  refine xr ?_
  iterate 3 (refine aj.quiet hX.c rfl rfl xB _ (fun _ => by go_simp <;> rfl) (fun _ => by simp [go_sem, *]) ?_; refine xm ?_)
  refine hX.df rfl rfl (by decide) 22 rfl rfl (v := .slice none 0 0) rfl hB4 (by kernel_rfl) rfl (Nat.le_of_ble_eq_true rfl) (tV g i n sz wn wi vm wn wi wm wn kn (.slice none 0 0) sg mJ sr sm sd so si ob 0 0 mt nx pp ac) rfl (fun w5 qX o5 => ?_)
  refine xm ?_
  have g5 : GB (some br) w w5 := ((g2'.trans (GB.only o3)).trans (GB.only o4)).trans (GB.only o5)
  clear g2' o3 o4 o5 hB2 hB3 hB4 g2
  refine xg ?_
  refine Shut.drawn hX xB (by kernel_rfl) (bR br (.cells (tV g i n sz wn wi vm wn wi wm wn kn (.slice none 0 0) sg mJ sr sm sd so si ob 0 0 mt nx pp ac).toArray 152)) 17 ?_ bR.same
  show AnyX _ _ _ _ _ _ _ _ 18 #[false, false, false, false, false, false, false, false, false, false, false, false, false, false, false, false, false, false] _ _
  refine AnyX.take hX bR.same 0 rfl (by decide) xK xK xK xY qX ?_
  refine xm ?_
  refine AnyX.take hX bR.same 1 rfl (by decide) xK xK xK xY qX ?_
  refine xm ?_
  refine AnyX.take hX bR.same 2 rfl (by decide) xK xK xK xY qX ?_
  refine xm ?_
  refine AnyX.take hX bR.same 3 rfl (by decide) xK xK xK xY qX ?_
  refine xm ?_
  refine AnyX.take hX bR.same 4 rfl (by decide) xK xK xK xY qX ?_
  refine xm ?_
  refine AnyX.fu hX bR.same 5 rfl rfl xK xK xK (by kernel_rfl) (.inl ⟨rfl, bZ rfl, fun _ h => qW 5 rfl rfl h Tryz.underlying5 rfl (v := .int .u8 g) rfl⟩) qX ?_
  refine xm ?_
  refine AnyX.take hX bR.same 6 rfl (by decide) xK xK xK xY qX ?_
  refine xm ?_
  rw [show IntKind.i64.wrap g = g by rw [IntKind.wrap_i64]; omega]
  refine AnyX.take hX bR.same 7 rfl (by decide) xK xK xK xY qX ?_
  refine xm ?_
  refine AnyX.take hX bR.same 8 rfl (by decide) xK xK xK xY qX ?_
  refine xm ?_
  refine AnyX.take hX bR.same 9 rfl (by decide) xK xK xK xY qX ?_
  refine xm ?_
  refine AnyX.fu hX bR.same 10 rfl rfl xK xK xK (by kernel_rfl) (.inl ⟨rfl, bZ rfl, fun _ h => qW 3 rfl rfl h Tryz.underlying3 rfl (v := .int .i64 n) rfl⟩) qX ?_
  refine xm ?_
  refine AnyX.one 11 (by kernel_rfl) ?_
  refine dL.bQ rfl rfl rfl Tryz.func8 (by kernel_rfl) (by rw [Vr]; rfl) (Uq g n w5 hg0 hg1 hn1 GL) xk ?_
  rintro v w6 ⟨bM, bO, bI, rfl, k1, k2, k3, k4, k5, k6, g6⟩
  have tX := g6.get qX nofun
  refine ⟨fun _ => tX, ?_⟩
  refine xm ?_
  refine AnyX.take hX bR.same 12 rfl (by decide) xK xK xK xY tX ?_
  refine xm ?_
  refine AnyX.take hX bR.same 13 rfl (by decide) xK xK xK xY tX ?_
  refine xm ?_
  refine AnyX.take hX bR.same 15 rfl (by decide) xK xK xK xY tX ?_
  refine xm ?_
  refine AnyX.take hX bR.same 14 rfl (by decide) xK xK xK xY tX ?_
  refine xm ?_
  refine AnyX.take hX bR.same 16 rfl (by decide) xK xK xK xY tX ?_
  refine xm ?_
  refine AnyX.one 17 (by kernel_rfl) ?_
  refine dL.df rfl rfl 31 rfl rfl (v := .agg #[.int .u8 g, .int .u8 n, .slice none 0 0, .slice (some ⟨bM, 0, none⟩) 1 1, .slice none 0 0, .slice (some ⟨bO, 0, none⟩) n n, .slice (some ⟨bI, 0, none⟩) n n]) rfl tX (by kernel_rfl) rfl (Nat.le_of_ble_eq_true rfl) (tV g i n sz wn wi vm wn wi wm wn kn (.slice none 0 0) g n (.slice none 0 0) (.slice (some ⟨bM, 0, none⟩) 1 1) (.slice none 0 0) (.slice (some ⟨bO, 0, none⟩) n n) (.slice (some ⟨bI, 0, none⟩) n n) ob 0 0 mt nx pp ac) rfl (fun w7 w8 hs Ym o8 => ?_)
  refine ⟨fun h => (by cases h), AnyX.done (by kernel_rfl) ?_⟩
  refine xm ?_
  refine xg ?_
  refine aj.fin hX.c ?_
  have hne : ∀ x, w5.heap.size ≤ x → x ≠ br := fun x hx e => by have := dz qX; omega
  have hs5 := g5.size
  refine hk _ _ _ rfl (fA rfl Tryz.func61 rfl) ⟨rfl, bM, bO, bI, Ym, by omega, by omega, by omega, ?_, ?_, ?_, ((g5.trans g6.weak).same hs).trans (GB.only o8)⟩
  · rw [o8.block _ (hne _ k1), hs.heap]; exact k4
  · rw [o8.block _ (hne _ k2), hs.heap]; exact k5
  · rw [o8.block _ (hne _ k3), hs.heap]; exact k6
end
end
end Go.Proofs.YtignemioillaiaaGreat
