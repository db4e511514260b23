/- Maps with entries, whoever is beside: lookup, update, delete, clear, range. -/
import Derived.Test.YtignemioillaiaaGreatG15
import Derived.Maps.RangeRun
namespace Go.Proofs.YtignemioillaiaaGreat
set_option maxHeartbeats 8000000
set_option maxRecDepth 100000
section
open Go Go.Conc Go.RowKit
/-- A map in memory: its entries by their keys, each key once. -/
structure MapL (w : World) (m : Nat) (l : List (Int × Value)) : Prop where
  ex : ∃ es clock, w.heap[m]? = some (.map es clock) ∧ es.toList.map (fun e => (e.key, e.val)) = l.map (fun p => (Value.int .u32 p.1, p.2)) ∧ (es.toList.map MapEntry.born).Nodup ∧ ∀ e ∈ es.toList, e.born < clock
  keys : (l.map Prod.fst).Nodup
theorem MapL.same {w w' : World} {m : Nat} {l : List (Int × Value)} (h : MapL w m l) (hs : SameW w w') : MapL w' m l := by
  obtain ⟨es, c, h1, h2⟩ := h.ex
  exact ⟨⟨es, c, by rw [hs.heap]; exact h1, h2⟩, h.keys⟩
theorem MapL.keep {w w' : World} {m : Nat} {l : List (Int × Value)} (h : MapL w m l) (hs : w'.heap[m]? = w.heap[m]?) : MapL w' m l := by
  obtain ⟨es, c, h1, h2⟩ := h.ex
  exact ⟨⟨es, c, by rw [hs]; exact h1, h2⟩, h.keys⟩
theorem Emp.mapL {w : World} {m : Nat} (h : Emp w m) : MapL w m [] := ⟨⟨#[], 0, h, rfl, List.nodup_nil, by simp⟩, List.nodup_nil⟩
/-- Where a key stands. -/
def idx (l : List (Int × Value)) (k : Int) : Option (Nat × Value) := go l 0
where go : List (Int × Value) → Nat → Option (Nat × Value)
  | [], _ => none
  | p :: r, i => if p.1 = k then some (i, p.2) else go r (i + 1)
theorem find_go (k : Int) : ∀ (es : List MapEntry) (l : List (Int × Value)) (i : Nat), es.map (fun e => (e.key, e.val)) = l.map (fun p => (Value.int .u32 p.1, p.2)) → Instr.findNow (.int .u32) (.int .u32 k) es i = some (idx.go k l i)
  | [], l, i, h => by
    cases l with
    | nil => rfl
    | cons p r => simp at h
  | e :: es, l, i, h => by
    cases l with
    | nil => simp at h
    | cons p r =>
      simp only [List.map_cons, List.cons.injEq, Prod.mk.injEq] at h
      obtain ⟨⟨h1, h2⟩, h3⟩ := h
      unfold Instr.findNow idx.go
      rw [h1, h2]
      by_cases hk : p.1 = k
      · simp [Instr.sameNow, hk]
      · have : ¬ k = p.1 := fun e => hk e.symm
        simp only [Instr.sameNow, if_true, beq_eq_false_iff_ne.2 this, hk, if_false]
        exact find_go k es r (i + 1) h3
section
variable {P : Program} {w : World} {m : Nat} {l : List (Int × Value)}
theorem run_lookupL {t key e : TypeId} {z : Value} {k : Int} (ht : P.underlying t = some (.map key e)) (hk : P.underlying key = some (.int .u32)) (hz : ∀ w, (zeroValue e).run P w = .ok z w) (h : MapL w m l) : (Instr.lookup t (.map (some m)) (.int .u32 k) true).run P w = .ok (match idx l k with | some (_, v) => .tuple #[v, .bool true] | none => .tuple #[z, .bool false]) w := by
  obtain ⟨es, c, h1, h2, _, _⟩ := h.ex
  have hf := find_go k es.toList l 0 h2
  have hc := run_check (P := P) (k := k) (b := es.isEmpty) hk 9999 w
  simp only [Nat.reduceAdd] at hc
  have hi : idx l k = idx.go k l 0 := rfl
  rw [hi]
  cases hg : idx.go k l 0 with
  | none =>
    rw [hg] at hf
    simp [Instr.lookup, run_underlying ht, run_underlying hk, getObj, h1, Sem.run, hz, Instr.findKey, hf, hc]
  | some p =>
    rw [hg] at hf
    obtain ⟨i, v⟩ := p
    simp [Instr.lookup, run_underlying ht, run_underlying hk, getObj, h1, Sem.run, Instr.findKey, hf, hc]
theorem run_clearL {t ty key e : TypeId} (ht : P.underlying t = some (.map key e)) (h : MapL w m l) : ∃ w', (Builtin.clear_ #[t] ty #[.map (some m)]).run P w = .ok (.tuple #[]) w' ∧ MapL w' m [] ∧ GB (some m) w w' := by
  obtain ⟨es, c, h1, h2, _, _⟩ := h.ex
  refine ⟨{ w with heap := w.heap.setIfInBounds m (.map #[] c) }, ?_, ⟨⟨#[], c, ?_, rfl, List.nodup_nil, by simp⟩, List.nodup_nil⟩, ⟨rfl, rfl, by simp, fun x hx hne => ?_⟩⟩
  · simp [Builtin.clear_, run_underlying ht, getObj, setObj, h1, Sem.run]
  · exact Array.getElem?_setIfInBounds_self_of_lt (lt_heap h1)
  · exact Array.getElem?_setIfInBounds_ne fun e => hne (by rw [e])
/-- The map with a key laid anew. -/
def putL (l : List (Int × Value)) (k : Int) (v : Value) : List (Int × Value) := match idx l k with
  | some (i, _) => l.modify i fun _p => (k, v)
  | none => l ++ [(k, v)]
theorem idx_some {k : Int} : ∀ {l : List (Int × Value)} {i j : Nat} {v : Value}, idx.go k l i = some (j, v) → ∃ d, j = i + d ∧ l[d]? = some (k, v)
  | [], _, _, _, h => by simp [idx.go] at h
  | p :: r, i, j, v, h => by
    unfold idx.go at h
    split at h
    · rename_i hk
      cases h
      exact ⟨0, rfl, by simp [← hk]⟩
    · obtain ⟨d, h1, h2⟩ := idx_some h
      exact ⟨d + 1, by omega, by simpa using h2⟩
theorem idx_none {k : Int} : ∀ {l : List (Int × Value)} {i : Nat}, idx.go k l i = none → ∀ p ∈ l, p.1 ≠ k
  | [], _, _, p, hp => by simp at hp
  | q :: r, i, h, p, hp => by
    unfold idx.go at h
    split at h
    · cases h
    · rename_i hk
      rcases List.mem_cons.1 hp with rfl | hp
      · exact hk
      · exact idx_none h p hp
theorem modify_map {α β : Type} (f : α → β) (g : α → α) (g' : β → β) (hfg : ∀ x, f (g x) = g' (f x)) : ∀ (l : List α) (i : Nat), (l.modify i g).map f = (l.map f).modify i g'
  | [], _ => by simp
  | x :: r, 0 => by simp [hfg]
  | x :: r, i + 1 => by simpa using modify_map f g g' hfg r i
theorem run_updateL {t key e : TypeId} {k : Int} {v : Value} (ht : P.underlying t = some (.map key e)) (hk : P.underlying key = some (.int .u32)) (h : MapL w m l) : ∃ w', (Instr.mapUpdate t (.map (some m)) (.int .u32 k) v).run P w = .ok () w' ∧ MapL w' m (putL l k v) ∧ GB (some m) w w' := by
  obtain ⟨es, c, h1, h2, h3, h4⟩ := h.ex
  have hf := find_go k es.toList l 0 h2
  have hc := run_check (P := P) (k := k) (b := false) hk 9999 w
  simp only [Nat.reduceAdd] at hc
  have hlt := lt_heap h1
  unfold putL
  rw [show idx l k = idx.go k l 0 from rfl]
  cases hg : idx.go k l 0 with
  | none =>
    rw [hg] at hf
    refine ⟨{ w with heap := w.heap.setIfInBounds m (.map (es.push { key := .int .u32 k, val := v, born := c }) (c + 1)) }, ?_, ⟨⟨_, _, Array.getElem?_setIfInBounds_self_of_lt hlt, ?_, ?_, ?_⟩, ?_⟩, ⟨rfl, rfl, by simp, fun x hx hne => Array.getElem?_setIfInBounds_ne fun e => hne (by rw [e])⟩⟩
    · simp [Instr.mapUpdate, run_underlying ht, run_underlying hk, getObj, setObj, h1, Sem.run, Instr.findKey, hf, hc]
    · simp [h2]
    · simp only [Array.toList_push, List.map_append, List.map_cons, List.map_nil]
      refine List.nodup_append.2 ⟨h3, by simp, ?_⟩
      intro a ha b hb
      simp only [List.mem_cons, List.not_mem_nil, or_false] at hb
      obtain ⟨e', he, rfl⟩ := List.mem_map.1 ha
      have := h4 e' he
      omega
    · intro e' he
      simp only [Array.toList_push, List.mem_append, List.mem_cons, List.not_mem_nil, or_false] at he
      rcases he with he | rfl
      · have := h4 e' he; omega
      · exact Nat.lt_succ_self _
    · simp only [List.map_append, List.map_cons, List.map_nil]
      refine List.nodup_append.2 ⟨h.keys, by simp, ?_⟩
      intro a ha b hb
      simp only [List.mem_cons, List.not_mem_nil, or_false] at hb
      obtain ⟨p, hp, rfl⟩ := List.mem_map.1 ha
      rw [hb]
      exact idx_none hg p hp
  | some q =>
    obtain ⟨i, v0⟩ := q
    rw [hg] at hf
    obtain ⟨d, hd, hi⟩ := idx_some hg
    obtain rfl : d = i := by omega
    have hes : ∃ e0, es[d]? = some e0 ∧ e0.key = .int .u32 k := by
      have := congrArg (fun q => q[d]?) h2
      simp only [List.getElem?_map, hi, Option.map_some] at this
      obtain ⟨e0, he0, he1⟩ := Option.map_eq_some_iff.1 this
      exact ⟨e0, by simpa using he0, by simpa using congrArg Prod.fst he1⟩
    obtain ⟨e0, he0, he1⟩ := hes
    refine ⟨{ w with heap := w.heap.setIfInBounds m (.map (es.modify d fun e => { e with key := .int .u32 k, val := v }) c) }, ?_, ⟨⟨_, _, Array.getElem?_setIfInBounds_self_of_lt hlt, ?_, ?_, ?_⟩, ?_⟩, ⟨rfl, rfl, by simp, fun x hx hne => Array.getElem?_setIfInBounds_ne fun e => hne (by rw [e])⟩⟩
    · simp [Instr.mapUpdate, run_underlying ht, run_underlying hk, getObj, setObj, h1, Sem.run, Instr.findKey, hf, hc, he0, he1, Instr.keyThatStays, Instr.sameBits]
    · rw [Array.toList_modify, modify_map (fun e : MapEntry => (e.key, e.val)) (fun e => { e with key := .int .u32 k, val := v }) (fun _ => (Value.int .u32 k, v)) (fun _ => rfl), h2]
      exact (modify_map (fun p : Int × Value => (Value.int .u32 p.1, p.2)) (fun _ => (k, v)) (fun _ => (Value.int .u32 k, v)) (fun _ => rfl) _ _).symm
    · rw [Array.toList_modify, modify_map MapEntry.born (fun e => { e with key := .int .u32 k, val := v }) id (fun _ => rfl)]
      rw [show ∀ (q : List Nat) (j : Nat), q.modify j id = q from fun q j => List.modify_id j q]
      exact h3
    · intro e' he'
      rw [Array.toList_modify] at he'
      obtain ⟨j, hj⟩ := List.mem_iff_getElem?.1 he'
      rw [List.getElem?_modify] at hj
      obtain ⟨e1, h5, h6⟩ := Option.map_eq_some_iff.1 hj
      have := h4 e1 (List.mem_of_getElem? h5)
      rw [← h6]
      split <;> exact this
    · have : (l.modify d fun _ => (k, v)).map Prod.fst = l.map Prod.fst := by
        rw [modify_map (Prod.fst : Int × Value → Int) (fun _ => (k, v)) (fun _ => k) (fun _ => rfl)]
        refine List.ext_getElem? fun j => ?_
        rw [List.getElem?_modify]
        by_cases hj : d = j
        · subst hj; simp [hi]
        · simp [hj]
      show ((l.modify d fun _ => (k, v)).map Prod.fst).Nodup
      rw [this]
      exact h.keys
end
def delL (l : List (Int × Value)) (k : Int) : List (Int × Value) := match idx l k with
  | some (i, _) => l.eraseIdx i
  | none => l
section
variable {P : Program} {w : World} {m : Nat} {l : List (Int × Value)}
theorem eraseIdx_map {α β : Type} (f : α → β) : ∀ (l : List α) (i : Nat), (l.eraseIdx i).map f = (l.map f).eraseIdx i
  | [], _ => rfl
  | _ :: _, 0 => rfl
  | x :: r, i + 1 => by simp [eraseIdx_map f r i]
theorem run_deleteL {t ty key e : TypeId} {k : Int} (ht : P.underlying t = some (.map key e)) (hk : P.underlying key = some (.int .u32)) (h : MapL w m l) : ∃ w', (Builtin.delete_ #[t, key] ty #[.map (some m), .int .u32 k]).run P w = .ok (.tuple #[]) w' ∧ MapL w' m (delL l k) ∧ GB (some m) w w' := by
  obtain ⟨es, c, h1, h2, h3, h4⟩ := h.ex
  have hf := find_go k es.toList l 0 h2
  have hc := run_check (P := P) (k := k) (b := es.isEmpty) hk 9999 w
  simp only [Nat.reduceAdd] at hc
  have hlt := lt_heap h1
  unfold delL
  rw [show idx l k = idx.go k l 0 from rfl]
  cases hg : idx.go k l 0 with
  | none =>
    rw [hg] at hf
    refine ⟨{ w with heap := w.heap.setIfInBounds m (.map es c) }, ?_, ⟨⟨es, c, Array.getElem?_setIfInBounds_self_of_lt hlt, h2, h3, h4⟩, h.keys⟩, ⟨rfl, rfl, by simp, fun x hx hne => Array.getElem?_setIfInBounds_ne fun e => hne (by rw [e])⟩⟩
    simp [Builtin.delete_, run_underlying ht, run_underlying hk, getObj, setObj, h1, Sem.run, Instr.findKey, hf, hc]
  | some q =>
    obtain ⟨i, v0⟩ := q
    rw [hg] at hf
    refine ⟨{ w with heap := w.heap.setIfInBounds m (.map (es.eraseIdxIfInBounds i) c) }, ?_, ⟨⟨_, _, Array.getElem?_setIfInBounds_self_of_lt hlt, ?_, ?_, ?_⟩, ?_⟩, ⟨rfl, rfl, by simp, fun x hx hne => Array.getElem?_setIfInBounds_ne fun e => hne (by rw [e])⟩⟩
    · simp [Builtin.delete_, run_underlying ht, run_underlying hk, getObj, setObj, h1, Sem.run, Instr.findKey, hf, hc]
    · rw [Array.toList_eraseIdxIfInBounds, eraseIdx_map, h2]
      exact (eraseIdx_map _ _ _).symm
    · rw [Array.toList_eraseIdxIfInBounds, eraseIdx_map]
      exact h3.sublist (List.eraseIdx_sublist _ _)
    · intro e' he'
      rw [Array.toList_eraseIdxIfInBounds] at he'
      exact h4 e' (List.mem_of_mem_eraseIdx he')
    · show ((l.eraseIdx i).map Prod.fst).Nodup
      rw [eraseIdx_map]
      exact h.keys.sublist (List.eraseIdx_sublist _ _)
theorem filter_erase : ∀ {L : List MapEntry} {i : Nat} {e : MapEntry}, (L.map MapEntry.born).Nodup → L[i]? = some e → L.filter (fun x => !(x.born == e.born)) = L.eraseIdx i
  | [], _, _, _, h => by simp at h
  | x :: r, 0, e, hn, h => by
    simp only [List.getElem?_cons_zero, Option.some.injEq] at h
    subst h
    simp only [List.map_cons, List.nodup_cons] at hn
    rw [List.filter_cons_of_neg (by simp), List.eraseIdx_cons_zero]
    exact List.filter_eq_self.2 fun y hy => by
      have : y.born ≠ x.born := fun e => hn.1 (e ▸ List.mem_map_of_mem hy)
      simpa using this
  | x :: r, i + 1, e, hn, h => by
    simp only [List.getElem?_cons_succ] at h
    simp only [List.map_cons, List.nodup_cons] at hn
    have hx : x.born ≠ e.born := fun q => hn.1 (q ▸ List.mem_map_of_mem (List.mem_of_getElem? h))
    rw [List.filter_cons_of_pos (by simpa using hx), List.eraseIdx_cons_succ, filter_erase hn.2 h]
theorem left_push (es : Array MapEntry) (seen : Array Nat) (b : Nat) : (leftOf es (seen.push b)).toList = (leftOf es seen).toList.filter (fun x => !(x.born == b)) := by
  unfold leftOf
  simp only [Array.toList_filter, List.filter_filter]
  congr 1
  funext x
  simp [Bool.not_or, Bool.and_comm]
  rw [show (x.born == b) = decide (x.born = b) from rfl]
end
theorem exec_update {ρ : Operand → Value} {o : Oper} {t : TypeId} {x y z : Operand} (hop : o.op = .mapUpdate t x y z) : execOp ρ o = (do Instr.mapUpdate t (ρ x) (ρ y) (ρ z); pure Next.skip) := by
  unfold execOp
  rw [hop]
theorem exec_delete {ρ : Operand → Value} {o : Oper} {t t' : TypeId} {x y : Operand} (hop : o.op = .call { callee := .builtin .delete, args := #[x, y], argTypes := #[t, t'] }) : execOp ρ o = (do pure (Next.value (← Builtin.delete_ #[t, t'] o.type #[ρ x, ρ y]))) := by
  have e : execOp ρ o = builtin .delete #[t, t'] o.type (#[x, y].map fun | .const _ => true | _ => false) (#[x, y].map ρ) := by
    unfold execOp
    rw [hop]
    rfl
  rw [e, show #[x, y].map ρ = #[ρ x, ρ y] by simp]
  rfl
section
variable {P : Program} {main : Bool} {D : World → World → Array Event → Prop} {X : Goroutine → World → Prop} {w : World} {b : Frame} {a : Act} {k : List Item} {cs : List Frame} {ops : Array Oper} {i : Nat} {rest : List Nat} {o : Oper} {m : Nat} {l : List (Int × Value)}
end
end
section
open Go Go.Conc
def lookL (l : List (Int × Value)) (k : Int) : Option Value := (idx l k).map Prod.snd
theorem lookL_iff {l : List (Int × Value)} (hn : (l.map Prod.fst).Nodup) {k : Int} {v : Value} : lookL l k = some v ↔ (k, v) ∈ l := by
  unfold lookL
  constructor
  · intro h
    obtain ⟨⟨i, u⟩, h1, rfl⟩ := Option.map_eq_some_iff.1 h
    obtain ⟨d, _, h2⟩ := idx_some (show idx.go k l 0 = some (i, u) from h1)
    exact List.mem_of_getElem? h2
  · intro h
    cases hi : idx l k with
    | none => exact absurd rfl (idx_none (show idx.go k l 0 = none from hi) _ h)
    | some p =>
      obtain ⟨i, u⟩ := p
      obtain ⟨d, _, h2⟩ := idx_some (show idx.go k l 0 = some (i, u) from hi)
      have h3 : (k, u) ∈ l := List.mem_of_getElem? h2
      have : u = v := by
        have key : ∀ (q : List (Int × Value)), (q.map Prod.fst).Nodup → (k, u) ∈ q → (k, v) ∈ q → u = v := by
          intro q
          induction q with
          | nil => intro _ h; cases h
          | cons x r ih =>
            intro hn h1 h2
            simp only [List.map_cons, List.nodup_cons] at hn
            rcases List.mem_cons.1 h1 with e1 | h1 <;> rcases List.mem_cons.1 h2 with e2 | h2
            · rw [← e1] at e2; exact (Prod.mk.inj e2).2.symm
            · exact absurd (List.mem_map.2 ⟨_, h2, by rw [← e1]⟩) hn.1
            · exact absurd (List.mem_map.2 ⟨_, h1, by rw [← e2]⟩) hn.1
            · exact ih hn.2 h1 h2
        exact key l hn h3 h
      rw [this]; rfl
theorem lookL_none {l : List (Int × Value)} {k : Int} : lookL l k = none ↔ ∀ p ∈ l, p.1 ≠ k := by
  unfold lookL
  rw [Option.map_eq_none_iff]
  constructor
  · exact fun h => idx_none (show idx.go k l 0 = none from h)
  · intro h
    cases hi : idx l k with
    | none => rfl
    | some p =>
      obtain ⟨d, _, h2⟩ := idx_some (show idx.go k l 0 = some (p.1, p.2) from hi)
      exact absurd rfl (h _ (List.mem_of_getElem? h2))
theorem lookL_cons (p : Int × Value) (r : List (Int × Value)) (k : Int) : lookL (p :: r) k = if p.1 = k then some p.2 else lookL r k := by
  have go : ∀ (q : List (Int × Value)) (i j : Nat), (idx.go k q i).map Prod.snd = (idx.go k q j).map Prod.snd := by
    intro q
    induction q with
    | nil => intros; rfl
    | cons x r ih =>
      intro i j
      unfold idx.go
      split
      · rfl
      · exact ih (i + 1) (j + 1)
  unfold lookL idx
  rw [idx.go]
  split
  · rfl
  · exact go r 1 0
theorem lookL_append (a b : List (Int × Value)) (k : Int) : lookL (a ++ b) k = (lookL a k).or (lookL b k) := by
  induction a with
  | nil => rfl
  | cons x r ih => rw [List.cons_append, lookL_cons, lookL_cons, ih]; split <;> simp
theorem lookL_put {l : List (Int × Value)} (hn : (l.map Prod.fst).Nodup) (k j : Int) (v : Value) : lookL (putL l k v) j = if j = k then some v else lookL l j := by
  unfold putL
  cases hi : idx l k with
  | none =>
    dsimp only
    have h0 : lookL l k = none := by unfold lookL; rw [hi]; rfl
    rw [lookL_append, lookL_cons]
    by_cases hj : j = k
    · subst hj; simp [h0]
    · have : ¬ k = j := fun e => hj e.symm
      rw [if_neg hj, if_neg this]
      show (lookL l j).or none = _
      simp
  | some p =>
    obtain ⟨i, u⟩ := p
    dsimp only
    obtain ⟨d, hd, h2⟩ := idx_some (show idx.go k l 0 = some (i, u) from hi)
    obtain rfl : d = i := by omega
    clear hd hi
    have key : ∀ (q : List (Int × Value)) (d : Nat), (q.map Prod.fst).Nodup → q[d]? = some (k, u) → lookL (q.modify d fun _ => (k, v)) j = if j = k then some v else lookL q j := by
      intro q
      induction q with
      | nil => intro d _ h; simp at h
      | cons x r ih =>
        intro d hn h
        simp only [List.map_cons, List.nodup_cons] at hn
        cases d with
        | zero =>
          simp only [List.getElem?_cons_zero, Option.some.injEq] at h
          subst h
          rw [List.modify_zero_cons, lookL_cons, lookL_cons]
          by_cases hj : j = k
          · simp [hj]
          · have : ¬ k = j := fun e => hj e.symm
            simp [hj, this]
        | succ d =>
          simp only [List.getElem?_cons_succ] at h
          rw [List.modify_succ_cons, lookL_cons, lookL_cons, ih d hn.2 h]
          by_cases hx : x.1 = j
          · have : ¬ j = k := fun e => hn.1 (List.mem_map.2 ⟨_, List.mem_of_getElem? h, by rw [hx, e]⟩)
            simp [hx, this]
          · simp [hx]
    exact key l d hn h2
theorem lookL_del {l : List (Int × Value)} (hn : (l.map Prod.fst).Nodup) (k j : Int) : lookL (delL l k) j = if j = k then none else lookL l j := by
  unfold delL
  cases hi : idx l k with
  | none =>
    dsimp only
    have h0 : lookL l k = none := by unfold lookL; rw [hi]; rfl
    by_cases hj : j = k
    · subst hj; simp [h0]
    · simp [hj]
  | some p =>
    obtain ⟨i, u⟩ := p
    dsimp only
    obtain ⟨d, hd, h2⟩ := idx_some (show idx.go k l 0 = some (i, u) from hi)
    obtain rfl : d = i := by omega
    clear hd hi
    have key : ∀ (q : List (Int × Value)) (d : Nat), (q.map Prod.fst).Nodup → q[d]? = some (k, u) → lookL (q.eraseIdx d) j = if j = k then none else lookL q j := by
      intro q
      induction q with
      | nil => intro d _ h; simp at h
      | cons x r ih =>
        intro d hn h
        simp only [List.map_cons, List.nodup_cons] at hn
        cases d with
        | zero =>
          simp only [List.getElem?_cons_zero, Option.some.injEq] at h
          subst h
          rw [List.eraseIdx_cons_zero, lookL_cons]
          by_cases hj : j = k
          · subst hj
            rw [if_pos rfl]
            exact lookL_none.2 fun p hp e => hn.1 (List.mem_map.2 ⟨p, hp, e⟩)
          · have : ¬ k = j := fun e => hj e.symm
            simp [hj, this]
        | succ d =>
          simp only [List.getElem?_cons_succ] at h
          rw [List.eraseIdx_cons_succ, lookL_cons, lookL_cons, ih d hn.2 h]
          by_cases hx : x.1 = j
          · have : ¬ j = k := fun e => hn.1 (List.mem_map.2 ⟨_, List.mem_of_getElem? h, by rw [hx, e]⟩)
            simp [hx, this]
          · simp [hx]
    exact key l d hn h2
/-- A map in memory, as a function of its keys. -/
def MapF (w : World) (m : Nat) (f : Int → Option Value) : Prop := ∃ l, MapL w m l ∧ ∀ k, lookL l k = f k
def updF (f : Int → Option Value) (k : Int) (v : Option Value) : Int → Option Value := fun j => if j = k then v else f j
section
variable {P : Program} {w : World} {m : Nat} {f : Int → Option Value}
theorem MapF.same {w' : World} (h : MapF w m f) (hs : SameW w w') : MapF w' m f := by
  obtain ⟨l, h1, h2⟩ := h
  exact ⟨l, h1.same hs, h2⟩
theorem MapF.keep {w' : World} (h : MapF w m f) (hs : w'.heap[m]? = w.heap[m]?) : MapF w' m f := by
  obtain ⟨l, h1, h2⟩ := h
  exact ⟨l, h1.keep hs, h2⟩
theorem MapF.lt (h : MapF w m f) : m < w.heap.size := by
  obtain ⟨l, ⟨⟨es, c, h1, _⟩, _⟩, _⟩ := h
  exact lt_heap h1
theorem runF_lookup {t key e : TypeId} {z : Value} {k : Int} (ht : P.underlying t = some (.map key e)) (hk : P.underlying key = some (.int .u32)) (hz : ∀ w, (zeroValue e).run P w = .ok z w) (h : MapF w m f) (ok : Bool) : (Instr.lookup t (.map (some m)) (.int .u32 k) ok).run P w = .ok (if ok then .tuple #[(f k).getD z, .bool (f k).isSome] else (f k).getD z) w := by
  obtain ⟨l, h1, h2⟩ := h
  have e := run_lookupL (k := k) ht hk hz h1
  have hl := h2 k
  unfold lookL at hl
  cases ok with
  | true =>
    rw [e]
    cases hi : idx l k with
    | none => rw [hi] at hl; simp [← hl]
    | some p => rw [hi] at hl; simp [← hl]
  | false =>
    obtain ⟨es, c, g1, g2, _, _⟩ := h1.ex
    have hf := find_go k es.toList l 0 g2
    have hc := run_check (P := P) (k := k) (b := es.isEmpty) hk 9999 w
    simp only [Nat.reduceAdd] at hc
    have hi : idx l k = idx.go k l 0 := rfl
    rw [hi] at hl
    cases hg : idx.go k l 0 with
    | none =>
      rw [hg] at hf hl
      simp [Instr.lookup, run_underlying ht, run_underlying hk, getObj, g1, Sem.run, hz, Instr.findKey, hf, hc, ← hl]
    | some p =>
      rw [hg] at hf hl
      obtain ⟨i, v⟩ := p
      simp [Instr.lookup, run_underlying ht, run_underlying hk, getObj, g1, Sem.run, Instr.findKey, hf, hc, ← hl]
theorem runF_update {t key e : TypeId} {k : Int} {v : Value} (ht : P.underlying t = some (.map key e)) (hk : P.underlying key = some (.int .u32)) (h : MapF w m f) : ∃ w', (Instr.mapUpdate t (.map (some m)) (.int .u32 k) v).run P w = .ok () w' ∧ MapF w' m (updF f k (some v)) ∧ GB (some m) w w' := by
  obtain ⟨l, h1, h2⟩ := h
  obtain ⟨w', g1, g2, g3⟩ := run_updateL (P := P) (k := k) (v := v) ht hk h1
  exact ⟨w', g1, ⟨_, g2, fun j => by rw [lookL_put h1.keys, updF, h2]⟩, g3⟩
theorem runF_delete {t ty key e : TypeId} {k : Int} (ht : P.underlying t = some (.map key e)) (hk : P.underlying key = some (.int .u32)) (h : MapF w m f) : ∃ w', (Builtin.delete_ #[t, key] ty #[.map (some m), .int .u32 k]).run P w = .ok (.tuple #[]) w' ∧ MapF w' m (updF f k none) ∧ GB (some m) w w' := by
  obtain ⟨l, h1, h2⟩ := h
  obtain ⟨w', g1, g2, g3⟩ := run_deleteL (P := P) (ty := ty) (k := k) ht hk h1
  exact ⟨w', g1, ⟨_, g2, fun j => by rw [lookL_del h1.keys, updF, h2]⟩, g3⟩
theorem runF_clear {t ty key e : TypeId} (ht : P.underlying t = some (.map key e)) (h : MapF w m f) : ∃ w', (Builtin.clear_ #[t] ty #[.map (some m)]).run P w = .ok (.tuple #[]) w' ∧ MapF w' m (fun _ => none) ∧ GB (some m) w w' := by
  obtain ⟨l, h1, h2⟩ := h
  obtain ⟨w', g1, g2, g3⟩ := run_clearL (P := P) (ty := ty) ht h1
  exact ⟨w', g1, ⟨_, g2, fun _ => rfl⟩, g3⟩
end
/-- A walk over the map m with the entries l: what is left; what it stands at. -/
def ItE (w : World) (it m : Nat) (l todo : List (Int × Value)) (cur : Option (Int × Value)) : Prop := ∃ es clock since seen c0, w.heap[m]? = some (.map es clock) ∧ es.toList.map (fun e => (e.key, e.val)) = l.map (fun p => (Value.int .u32 p.1, p.2)) ∧ (es.toList.map MapEntry.born).Nodup ∧ (∀ e ∈ es.toList, e.born < since) ∧ since ≤ c0 ∧ since ≤ clock ∧ w.heap[it]? = some (.mapIter (some m) since seen c0) ∧ (leftOf es seen).toList.map (fun e => (e.key, e.val)) = todo.map (fun p => (Value.int .u32 p.1, p.2)) ∧ (l.map Prod.fst).Nodup ∧ ∀ p, cur = some p → c0 = clock ∧ ∃ e ∈ es.toList, seen.back? = some e.born ∧ e.key = .int .u32 p.1 ∧ e.val = p.2
section
variable {P : Program} {w w' : World} {it m : Nat} {l todo : List (Int × Value)} {cur : Option (Int × Value)}
theorem ItE.keep (h : ItE w it m l todo cur) (h1 : w'.heap[it]? = w.heap[it]?) (h2 : w'.heap[m]? = w.heap[m]?) : ItE w' it m l todo cur := by
  unfold ItE at h ⊢
  rw [h1, h2]; exact h
theorem ItE.ne (h : ItE w it m l todo cur) : it ≠ m := by
  obtain ⟨es, clock, since, seen, c0, h1, _, _, _, _, _, h7, _⟩ := h
  rintro rfl
  rw [h1] at h7; cases h7
theorem ItE.map (h : ItE w it m l todo cur) : MapL w m l := by
  obtain ⟨es, clock, since, seen, c0, h1, h2, h3, h4, h5, h6, h7, h8, h9, _⟩ := h
  exact ⟨⟨es, clock, h1, h2, h3, fun e he => Nat.lt_of_lt_of_le (h4 e he) h6⟩, h9⟩
theorem run_rangeE {t key e : TypeId} (ht : P.underlying t = some (.map key e)) (h : MapL w m l) : ∃ o, (Instr.range t (.map (some m))).run P w = .ok (.pointer (some ⟨w.heap.size, 0, none⟩)) (w.alloc o) ∧ ItE (w.alloc o) w.heap.size m l l none := by
  obtain ⟨es, c, h1, h2, h3, h4⟩ := h.ex
  refine ⟨.mapIter (some m) c #[] c, ?_, es, c, c, #[], c, (alloc_old (lt_heap h1) _).trans h1, h2, h3, h4, Nat.le_refl _, Nat.le_refl _, alloc_new _ _, ?_, h.keys, nofun⟩
  · simp [Instr.range, run_underlying ht, getObj, h1, Sem.run]
  · have : leftOf es #[] = es := by unfold leftOf; simp
    rw [this]; exact h2
theorem run_nextE {ty : TypeId} (h : ItE w it m l todo cur) :
    (todo = [] ∧ (Instr.next (.pointer (some ⟨it, 0, none⟩)) false ty).run P w = .ok (.tuple #[.bool false]) w) ∨
    ∃ i p w', todo[i]? = some p ∧ (Instr.next (.pointer (some ⟨it, 0, none⟩)) false ty).run P w = .ok (.tuple #[.bool true, .int .u32 p.1, p.2]) w' ∧ ItE w' it m l (todo.eraseIdx i) (some p) ∧ GB (some it) w w' := by
  have hne := h.ne
  obtain ⟨es, clock, since, seen, c0, h1, h2, h3, h4, h5, h6, h7, h8, h9, _⟩ := h
  rcases run_next_at (P := P) w ty it m since c0 seen es clock h7 h1 h4 h5 with ⟨ha, hb⟩ | ⟨e, he, w1, hw, hr⟩
  · refine .inl ⟨?_, hb⟩
    have : (leftOf es seen).toList = [] := by
      have : (leftOf es seen).toList.length = 0 := by simpa using ha
      exact List.eq_nil_of_length_eq_zero this
    rw [this] at h8
    simpa using h8.symm
  · obtain ⟨i, hi⟩ := List.mem_iff_getElem?.1 he
    have hk := congrArg (fun q => q[i]?) h8
    simp only [List.getElem?_map, hi, Option.map_some] at hk
    obtain ⟨p, hp1, hp2⟩ := Option.map_eq_some_iff.1 hk.symm
    simp only [Prod.mk.injEq] at hp2
    have hes : e ∈ es.toList := by unfold leftOf at he; simp only [Array.toList_filter, List.mem_filter] at he; exact he.1
    rw [← hp2.1, ← hp2.2] at hr
    have hw1 : w1.heap = w.heap ∧ w1.os = w.os ∧ w1.output = w.output := by rcases hw with rfl | rfl <;> exact ⟨rfl, rfl, rfl⟩
    have hlt := lt_heap h7
    refine .inr ⟨i, p, _, hp1, hr, ⟨es, clock, since, seen.push e.born, clock, ?_, h2, h3, h4, h6, h6, ?_, ?_, h9, ?_⟩, ⟨hw1.2.1, hw1.2.2, ?_, fun x hx hne => ?_⟩⟩
    · show (w1.heap.setIfInBounds it _)[m]? = _
      rw [Array.getElem?_setIfInBounds_ne hne, hw1.1]
      exact h1
    · show (w1.heap.setIfInBounds it _)[it]? = _
      rw [Array.getElem?_setIfInBounds_self_of_lt (by rw [hw1.1]; exact hlt)]
    · rw [left_push, filter_erase ?_ hi, eraseIdx_map, h8]
      · exact (eraseIdx_map _ _ _).symm
      · unfold leftOf
        rw [Array.toList_filter]
        exact h3.sublist ((List.filter_sublist).map _)
    · intro q hq
      cases hq
      exact ⟨rfl, e, hes, by simp, hp2.1.symm, hp2.2.symm⟩
    · show w.heap.size ≤ (w1.heap.setIfInBounds it _).size
      simp [hw1.1]
    · show (w1.heap.setIfInBounds it _)[x]? = _
      rw [Array.getElem?_setIfInBounds_ne (fun e => hne (by rw [e])), hw1.1]
theorem find_born : ∀ {L : List MapEntry} {e : MapEntry}, (L.map MapEntry.born).Nodup → e ∈ L → L.find? (fun x => x.born == e.born) = some e
  | [], _, _, h => by cases h
  | x :: r, e, hn, h => by
    simp only [List.map_cons, List.nodup_cons] at hn
    rcases List.mem_cons.1 h with rfl | h
    · simp
    · have : x.born ≠ e.born := fun q => hn.1 (q ▸ List.mem_map_of_mem h)
      rw [List.find?_cons_of_neg (by simpa using this)]
      exact find_born hn.2 h
theorem run_entryE {p : Int × Value} (h : ItE w it m l todo (some p)) : (Instr.entry (.pointer (some ⟨it, 0, none⟩))).run P w = .ok (.tuple #[.int .u32 p.1, p.2]) w := by
  obtain ⟨es, clock, since, seen, c0, h1, h2, h3, h4, h5, h6, h7, h8, h9, h10⟩ := h
  obtain ⟨rfl, e, he, hb, hk, hv⟩ := h10 p rfl
  have hf : es.find? (fun x => x.born == e.born) = some e := by rw [← Array.find?_toList]; exact find_born h3 he
  simp [Instr.entry, getObj, h7, h1, Sem.run, hb, hf, hk, hv]
end
end
end Go.Proofs.YtignemioillaiaaGreat
