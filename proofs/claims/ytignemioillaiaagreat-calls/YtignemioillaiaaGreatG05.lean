/- What the answers of an operation may be; how a plain operation halts; what it says; the operations of allowed code. -/
import Derived.Test.YtignemioillaiaaGreatG04
import Derived.Conc.Events
import Derived.Calls
import Derived.Conc.Beside
namespace Go.Proofs.YtignemioillaiaaGreat
set_option maxHeartbeats 8000000
set_option maxRecDepth 100000
section
open Go
/-- Whatever it answers is such. -/
def Leaf {α : Type} (Q : α → Prop) : Sem α → Prop
  | .pure a => Q a
  | .load _ _ k => ∀ v, Leaf Q (k v)
  | .store _ _ _ k => Leaf Q k
  | .new _ k => ∀ r, Leaf Q (k r)
  | .shape _ k => ∀ r, Leaf Q (k r)
  | .freeze _ _ k => Leaf Q k
  | .frozen _ k => ∀ b, Leaf Q (k b)
  | .getObj _ k => ∀ o, Leaf Q (k o)
  | .setObj _ _ k => Leaf Q k
  | .choose _ k => ∀ n, Leaf Q (k n)
  | .sys _ k => ∀ r, Leaf Q (k r)
  | .program k => ∀ p, Leaf Q (k p)
  | .mark _ k => Leaf Q k
  | .halt _ => True
theorem Leaf.bind {α β : Type} {Q : β → Prop} {f : α → Sem β} (hf : ∀ a, Leaf Q (f a)) (s : Sem α) : Leaf Q (s >>= f) := by
  show Leaf Q (s.bind f)
  induction s with
  | pure a => exact hf a
  | load m a k ih => exact fun v => ih v
  | store m a v k ih => exact ih
  | new o k ih => exact fun r => ih r
  | shape r k ih => exact fun v => ih v
  | freeze a n k ih => exact ih
  | frozen a k ih => exact fun v => ih v
  | getObj r k ih => exact fun v => ih v
  | setObj r o k ih => exact ih
  | choose q k ih => exact fun v => ih v
  | sys c k ih => exact fun v => ih v
  | program k ih => exact fun v => ih v
  | mark m k ih => exact ih
  | halt x => exact trivial
/-- What is said of a run's end. -/
def EndIs {α : Type} (Q : α → Prop) : Result α → Prop
  | .ok a _ => Q a
  | .halt h _ => okHalt h
theorem farLoad_ok (p : Program) (w : World) (a : Addr) (b : Bool) {h : Halt} (e : w.farLoad p a b = .error h) : okHalt h := by
  unfold World.farLoad at e
  split at e
  · split at e
    · cases e
    · cases e; exact trivial
  · cases e
    unfold World.noCell
    split <;> exact trivial
theorem farStore_ok (p : Program) (w : World) (a : Addr) (v : Value) (b : Bool) {h : Halt} (e : w.farStore p a v b = .error h) : okHalt h := by
  unfold World.farStore at e
  split at e
  · split at e
    · cases e
    · cases e; exact trivial
  · cases e
    unfold World.noCell
    split <;> exact trivial
def okEv (e : Event) : Prop := e.loc ≠ .mark .disable ∧ e.loc ≠ .mark .enable
theorem plain_runT {α : Type} {Q : α → Prop} (p : Program) (s : Sem α) : ∀ {kn : List Nat} (w : World) (es : Array Event), Plain kn s → Leaf Q s → EndIs Q (s.runT p w es).1 ∧ ((∀ e ∈ es, okEv e) → ∀ e ∈ (s.runT p w es).2, okEv e) := by
  have cell : ∀ (es : Array Event) (a : Addr) (b c : Bool), (∀ e ∈ es, okEv e) → ∀ e ∈ es.push ⟨.cell a, b, c⟩, okEv e := by
    intro es a b c h e he
    rcases Array.mem_push.1 he with he | rfl
    · exact h e he
    · exact ⟨by simp, by simp⟩
  have cells : ∀ (es : Array Event) (l : List Addr) (b c : Bool), (∀ e ∈ es, okEv e) → ∀ e ∈ es ++ l.toArray.map (⟨.cell ·, b, c⟩), okEv e := by
    intro es l b c h e he
    rcases Array.mem_append.1 he with he | he
    · exact h e he
    · obtain ⟨a, _, rfl⟩ := Array.mem_map.1 he
      exact ⟨by simp, by simp⟩
  have obj : ∀ (es : Array Event) (r : Nat) (b c : Bool), (∀ e ∈ es, okEv e) → ∀ e ∈ es.push ⟨.obj r, b, c⟩, okEv e := by
    intro es a b c h e he
    rcases Array.mem_push.1 he with he | rfl
    · exact h e he
    · exact ⟨by simp, by simp⟩
  induction s with
  | pure a => exact fun w es _ h => ⟨h, id⟩
  | load m a k ih =>
    intro kn w es hp hl
    simp only [Sem.runT]
    split
    · exact ⟨(ih _ w _ (hp _) (hl _)).1, fun h => (ih _ w _ (hp _) (hl _)).2 (cell _ _ _ _ h)⟩
    · split
      · exact ⟨(ih _ w _ (hp _) (hl _)).1, fun h => (ih _ w _ (hp _) (hl _)).2 (cells _ _ _ _ h)⟩
      · rename_i e
        exact ⟨farLoad_ok p w a _ e, id⟩
  | store m a v k ih =>
    intro kn w es hp hl
    cases v <;> simp only [Sem.runT] <;> first | exact ⟨trivial, id⟩ | skip
    all_goals
      split
      · split
        · exact ⟨trivial, id⟩
        · exact ⟨(ih (w.setCell a _) _ hp hl).1, fun h => (ih (w.setCell a _) _ hp hl).2 (cell _ _ _ _ h)⟩
      · split
        · exact ⟨(ih _ _ hp hl).1, fun h => (ih _ _ hp hl).2 (cells _ _ _ _ h)⟩
        · rename_i e
          exact ⟨farStore_ok p w a _ _ e, id⟩
  | new o k ih => exact fun w es hp hl => ih _ _ es (hp.2 _) (hl _)
  | shape r k ih => exact fun w es hp hl => ih _ _ es (hp _) (hl _)
  | freeze a n k ih => exact fun w es hp hl => ih _ es hp hl
  | frozen a k ih => exact fun w es hp hl => ih _ _ es (hp _) (hl _)
  | getObj r k ih =>
    intro kn w es hp hl
    simp only [Sem.runT]
    split
    · exact ⟨trivial, id⟩
    · exact ⟨(ih _ w _ (hp _) (hl _)).1, fun h => (ih _ w _ (hp _) (hl _)).2 (obj _ _ _ _ h)⟩
    · exact ⟨trivial, id⟩
  | setObj r o k ih =>
    intro kn w es hp hl
    simp only [Sem.runT]
    split
    · exact ⟨trivial, id⟩
    · exact ⟨(ih _ _ hp.2.2 hl).1, fun h => (ih _ _ hp.2.2 hl).2 (obj _ _ _ _ h)⟩
    · exact ⟨trivial, id⟩
  | choose q k ih =>
    intro kn w es hp hl
    simp only [Sem.runT]
    split
    · exact ih 0 w es (hp _) (hl _)
    · exact ih _ _ es (hp _) (hl _)
  | sys c k ih => exact fun w es hp => hp.elim
  | program k ih => exact fun w es hp hl => ih p w es (hp _) (hl _)
  | mark m k ih =>
    intro kn w es hp hl
    refine ⟨(ih w _ hp.2 hl).1, fun h => (ih w _ hp.2 hl).2 fun e he => ?_⟩
    rcases Array.mem_push.1 he with he | rfl
    · exact h e he
    · have h0 := hp.1
      cases m <;> first | exact h0.elim | exact ⟨nofun, nofun⟩
  | halt x => exact fun w es hp _ => ⟨hp, id⟩
/-- No channel is turned, and none is made. -/
def ChEq (w w' : World) : Prop := ∀ (c : Nat) (o : Obj), o.isChan = true → (w.heap[c]? = some o ↔ w'.heap[c]? = some o)
theorem ChEq.refl (w : World) : ChEq w w := fun _ _ _ => Iff.rfl
theorem ChEq.trans {a b c : World} (h : ChEq a b) (k : ChEq b c) : ChEq a c := fun x o ho => (h x o ho).trans (k x o ho)
theorem chEq_modify (w : World) (b : Nat) (f : Obj → Obj) (hf : ∀ o, if o.isChan = true then f o = o else (f o).isChan = false) : ChEq w { w with heap := w.heap.modify b f } := by
  intro c o ho
  show w.heap[c]? = some o ↔ (w.heap.modify b f)[c]? = some o
  rw [Array.getElem?_modify]
  split
  · cases w.heap[c]? with
    | none => simp
    | some y =>
      have h := hf y
      cases hy : y.isChan with
      | true => rw [hy] at h; simp only [if_true] at h; simp [h]
      | false =>
        rw [hy] at h
        simp only [Bool.false_eq_true, if_false] at h
        simp only [Option.map_some, Option.some.injEq]
        constructor
        · rintro rfl; rw [hy] at ho; cases ho
        · rintro rfl; rw [h] at ho; cases ho
  · exact Iff.rfl
theorem chEq_set (w : World) {r : Nat} {x o' : Obj} (hr : w.heap[r]? = some x) (hx : x.isChan = false) (ho' : o'.isChan = false) : ChEq w { w with heap := w.heap.setIfInBounds r o' } := by
  intro c o ho
  show w.heap[c]? = some o ↔ (w.heap.setIfInBounds r o')[c]? = some o
  by_cases h : r = c
  · subst h
    rw [Array.getElem?_setIfInBounds_self_of_lt (Array.getElem?_eq_some_iff.1 hr).1, hr]
    simp only [Option.some.injEq]
    constructor
    · rintro rfl; rw [hx] at ho; cases ho
    · rintro rfl; rw [ho'] at ho; cases ho
  · rw [Array.getElem?_setIfInBounds_ne h]
theorem chEq_push (w : World) {o' : Obj} (ho' : o'.isChan = false) : ChEq w { w with heap := w.heap.push o' } := by
  intro c o ho
  show w.heap[c]? = some o ↔ (w.heap.push o')[c]? = some o
  rw [Array.getElem?_push]
  split
  · rename_i h
    rw [Array.getElem?_eq_none (by omega)]
    simp only [Option.some.injEq, reduceCtorEq, false_iff]
    rintro rfl; rw [ho'] at ho; cases ho
  · exact Iff.rfl
theorem chEq_setCell (w : World) (a : Addr) (v : Value) : ChEq w (w.setCell a v) := by
  unfold World.setCell
  refine chEq_modify w _ _ fun o => ?_
  cases o <;> rfl
theorem chEq_freeze (w : World) (a : Addr) (n : Nat) : ChEq w (w.freeze a n) := by
  unfold World.freeze
  split
  · exact ChEq.refl w
  · refine chEq_modify w _ _ fun o => ?_
    cases o <;> rfl
theorem seen_cells {p : Program} {w : World} {at_ : Addr} {u : TypeId} {k : Addr} {b : Bool} {r : Array Value × TypeId × (Nat × Nat) × Nat × Value × List (Nat × Nat × List UInt8)} (h : w.seen p at_ u k b = .ok r) : ∃ c e fz, w.heap[at_.block]? = some (.cells c e fz) := by
  unfold World.seen at h
  simp only [bind, Except.bind, pure, Except.pure] at h
  repeat' (first | (cases h; done) | split at h)
  all_goals first | exact ⟨_, _, _, by assumption⟩ | skip
theorem chEq_far (p : Program) (w : World) (a : Addr) (v : Value) (b : Bool) {x : World} {l : List Addr} (h : w.farStore p a v b = .ok (x, l)) : ChEq w x := by
  unfold World.farStore at h
  split at h
  · rename_i at_ u _
    split at h
    · rename_i r hr
      cases h
      unfold World.viewStore at hr
      cases hs : w.seen p at_ u a b with
      | error e =>
        rw [hs] at hr
        simp only [bind, Except.bind] at hr
        split at hr <;> cases hr
      | ok r =>
        obtain ⟨c1, e1, f1, hcell⟩ := seen_cells hs
        have hx : ∃ c e f, x = { w with heap := w.heap.setIfInBounds at_.block (.cells c e f) } := by
          rw [hs] at hr
          simp only [bind, Except.bind, pure, Except.pure] at hr
          repeat' (first | (cases hr; done) | split at hr)
          all_goals first | (cases hr; exact ⟨_, _, _, rfl⟩) | skip
        obtain ⟨c, e, f, rfl⟩ := hx
        exact chEq_set w hcell rfl rfl
    · cases h
  · cases h
theorem plain_keep {α : Type} (p : Program) (s : Sem α) : ∀ {kn : List Nat} (w : World), Plain kn s → (∀ r ∈ kn, ∀ o, w.heap[r]? = some o → o.isChan = false) → ChEq w (resW (s.run p w)) := by
  have kept : ∀ {kn : List Nat} {w w' : World}, (∀ r ∈ kn, ∀ o, w.heap[r]? = some o → o.isChan = false) → ChEq w w' → ∀ r ∈ kn, ∀ o, w'.heap[r]? = some o → o.isChan = false := by
    intro kn w w' h1 h2 r hr o ho
    cases hc : o.isChan with
    | false => rfl
    | true => rw [h1 r hr o ((h2 r o hc).2 ho)] at hc; cases hc
  induction s with
  | pure a => exact fun w _ _ => ChEq.refl w
  | load m a k ih =>
    intro kn w hp hk
    simp only [Sem.run]
    split
    · exact ih _ w (hp _) hk
    · split
      · exact ih _ w (hp _) hk
      · exact ChEq.refl w
  | store m a v k ih =>
    intro kn w hp hk
    cases v <;> simp only [Sem.run] <;> first | exact ChEq.refl w | skip
    all_goals
      split
      · split
        · exact ChEq.refl w
        · exact (chEq_setCell w a _).trans (ih (w.setCell a _) hp (kept hk (chEq_setCell w a _)))
      · split
        · rename_i x l hx
          exact (chEq_far p w a _ _ hx).trans (ih x hp (kept hk (chEq_far p w a _ _ hx)))
        · exact ChEq.refl w
  | new o k ih => exact fun w hp hk => (chEq_push w hp.1).trans (ih _ _ (hp.2 _) (kept hk (chEq_push w hp.1)))
  | shape r k ih => exact fun w hp hk => ih _ w (hp _) hk
  | freeze a n k ih => exact fun w hp hk => (chEq_freeze w a n).trans (ih _ hp (kept hk (chEq_freeze w a n)))
  | frozen a k ih => exact fun w hp hk => ih _ w (hp _) hk
  | getObj r k ih =>
    intro kn w hp hk
    simp only [Sem.run]
    split
    · exact ChEq.refl w
    · rename_i o hne ho
      refine ih o w (hp o) fun r' hr' o' ho' => ?_
      cases o <;> first | exact hk r' hr' o' ho' | (rcases List.mem_cons.1 hr' with rfl | hr'; (rw [ho] at ho'; cases ho'; rfl); exact hk r' hr' o' ho')
    · exact ChEq.refl w
  | setObj r o k ih =>
    intro kn w hp hk
    simp only [Sem.run]
    split
    · exact ChEq.refl w
    · rename_i x hne hx
      have h1 := chEq_set w hx (hk r hp.1 x hx) hp.2.1
      exact h1.trans (ih _ hp.2.2 (kept hk h1))
    · exact ChEq.refl w
  | choose q k ih =>
    intro kn w hp hk
    simp only [Sem.run]
    split
    · exact ih 0 w (hp _) hk
    · show ChEq { w with drawn := w.drawn + 1 } _
      exact ih _ { w with drawn := w.drawn + 1 } (hp _) hk
  | sys c k ih => exact fun w hp => hp.elim
  | program k ih => exact fun w hp hk => ih p w (hp _) hk
  | mark m k ih => exact fun w hp hk => ih w hp.2 hk
  | halt x => exact fun w _ _ => ChEq.refl w
theorem pl_followBlind : ∀ (l : List FieldStep) (t : TypeId) (x : Option Value), Plain [] (followBlind l t x) := by
  intro l
  induction l with
  | nil => intro t x; exact trivial
  | cons s l ih =>
    intro t x
    unfold followBlind
    repeat' (first | with_reducible apply ih | with_reducible apply pl_pure | with_reducible apply pl_underlying | with_reducible apply pl_stuck | with_reducible apply pl_part | (with_reducible refine Plain.bind' ?_ fun _ => ?_) | split | dsimp only)
theorem pl_nilAhead : ∀ (n : Nat) (t : TypeId) (v : Value) (s : String), Plain [] (nilAhead n t v s) := by
  intro n
  induction n with
  | zero => intro t v s; exact trivial
  | succ n ih =>
    intro t v s
    unfold nilAhead
    repeat' (first | with_reducible apply ih | with_reducible apply pl_pure | with_reducible apply pl_typeInfo | with_reducible apply pl_underlying | with_reducible apply pl_stuck | with_reducible apply pl_followBlind | (with_reducible refine Plain.bind' ?_ fun _ => ?_) | split | dsimp only)
def okBuiltin : Builtin → Bool
  | .append | .cap | .clear | .copy | .delete | .len | .max | .min => true
  | _ => false
section
variable (A : FuncId → Bool) (S : FuncId → List Nat)
/-- An operand that holds an allowed function, or none. -/
def okRef (fn : FuncId) : Operand → Bool
  | .func f => A f && (S f).isEmpty
  | .tmp t => (S fn).contains t
  | _ => false
def okOp (fn : FuncId) : Op → Bool
  | .move _ | .assign _ | .pick _ _ _ | .alloc _ | .box _ _ | .build _ _ | .buildSlice _ _ _ | .load _ _ | .store _ _ _ | .nilCheck _ | .binOp _ _ _ _ _ | .unOp _ _ _ | .convert _ _ _
  | .makeInterface _ _ | .makeFunc _ _ _ | .makeMap _ _ | .makeSlice _ _ _ | .slice _ _ _ _ _ | .fieldAddr _ _ _ | .field _ _ _ | .indexAddr _ _ _ | .index _ _ _ | .lookup _ _ _ _ | .mapUpdate _ _ _ _
  | .range _ _ | .next _ _ | .entry _ | .extract _ _ | .panic _ => true
  | .call c => match c.callee with
    | .builtin b => okBuiltin b
    | .value (.func f) => A f && (S f).all fun t => match c.args[t]? with | some x => okRef A S fn x | none => true
    | .value (.tmp t) => (S fn).contains t
    | _ => false
  | _ => false
end
section
variable {A : FuncId → Bool} {S : FuncId → List Nat}
theorem pl_value {s : Sem Value} (h : Plain [] s) : Plain [] (do pure (Next.value (← s))) := Plain.bind' h fun _ => trivial
theorem pl_skip {s : Sem Unit} (h : Plain [] s) : Plain [] (do s; pure Next.skip) := Plain.bind' h fun _ => trivial
def isVal (n : Next) : Prop := (∃ v, n = .value v) ∨ n = .skip
theorem lf_pure {n : Next} (h : isVal n) : Leaf isVal (pure n) := h
theorem lf_value (s : Sem Value) : Leaf isVal (do pure (Next.value (← s))) := Leaf.bind (fun v => lf_pure (.inl ⟨v, rfl⟩)) s
theorem lf_skip (s : Sem Unit) : Leaf isVal (do s; pure Next.skip) := Leaf.bind (fun _ => lf_pure (.inr rfl)) s
theorem lf_nil {α : Type} {Q : α → Prop} : Leaf Q (runtimePanic RuntimeError.nilDeref : Sem α) := by
  unfold runtimePanic
  refine Leaf.bind (fun p => ?_) program
  exact trivial
def noCall : Op → Bool
  | .call _ | .panic _ => false
  | _ => true
/-- An allowed operation that is no call: it is plain, and answers with a value, or nothing. -/
theorem exec_val {fn : FuncId} {ρ : Operand → Value} {o : Oper} (h : okOp A S fn o.op = true) (hc : noCall o.op = true) : Plain [] (execOp ρ o) ∧ Leaf isVal (execOp ρ o) := by
  obtain ⟨dst, op, type, pos, after, guard⟩ := o
  cases op <;> first | (exact absurd (show false = true from h) (by decide)) | (exact absurd (show false = true from hc) (by decide)) | skip
  all_goals unfold execOp
  all_goals dsimp only
  case move x => exact ⟨trivial, .inl ⟨_, rfl⟩⟩
  case assign x => exact ⟨trivial, .inl ⟨_, rfl⟩⟩
  case pick c a b => exact ⟨Plain.bind' (pl_asBool _) fun _ => trivial, Leaf.bind (fun _ => lf_pure (.inl ⟨_, rfl⟩)) _⟩
  case nilCheck x =>
    generalize ρ x = v
    constructor
    · repeat' (first | with_reducible apply pl_nilAhead | with_reducible apply pl_pure | with_reducible apply pl_program | with_reducible apply pl_runtimePanic | with_reducible apply pl_unsupported | (with_reducible refine Plain.bind' ?_ fun _ => ?_) | split | dsimp only)
    · repeat' (first | exact lf_pure (.inl ⟨_, rfl⟩) | with_reducible exact lf_nil | (with_reducible refine Leaf.bind (fun _ => ?_) _) | split | dsimp only)
  all_goals first | exact ⟨pl_value (by first | with_reducible apply pl_Instr_alloc | with_reducible apply pl_Instr_box | with_reducible apply pl_Instr_buildSlice | with_reducible apply pl_Instr_build | with_reducible apply pl_Instr_loadAt | with_reducible apply pl_Op_unary | with_reducible apply pl_convert | with_reducible apply pl_Instr_makeInterface | with_reducible apply pl_Instr_makeFunc | with_reducible apply pl_Instr_makeMap | with_reducible apply pl_Instr_makeSlice | with_reducible apply pl_Instr_sliceAt | with_reducible apply pl_Instr_fieldAt | with_reducible apply pl_Instr_field | with_reducible apply pl_Instr_indexAt | with_reducible apply pl_Instr_index | with_reducible apply pl_Instr_lookup | with_reducible apply pl_Instr_range | with_reducible apply pl_Instr_next | with_reducible apply pl_Instr_entry | with_reducible apply pl_Instr_extract), lf_value _⟩ | exact ⟨pl_skip (by first | with_reducible apply pl_Instr_storeAt | with_reducible apply pl_Instr_mapUpdate), lf_skip _⟩ | exact ⟨pl_value (Plain.bind' (pl_eqGuard _ _ _ _ _ _) fun _ => pl_binOp _ _ _ _), lf_value _⟩
end
theorem seen_sub (p : Program) (fn : FuncId) (es : Array Event) : ∀ e ∈ seen p fn es, e ∈ es := by
  have key : ∀ (l : List Event) (q : Bool) (acc : Array Event), (∀ e ∈ acc, e ∈ es) → (∀ e ∈ l, e ∈ es) →
      ∀ e ∈ (l.foldl (init := (q, acc)) fun (x : Bool × Array Event) e =>
        match e.loc with
        | .mark (.extern f) => ((p.funcs[f]?).any (·.norace), x.2)
        | _ => (x.1, if x.1 && !e.sync then x.2 else x.2.push e)).2, e ∈ es := by
    intro l
    induction l with
    | nil => exact fun q acc h _ => h
    | cons a l ih =>
      intro q acc h hl
      rw [List.foldl_cons]
      have h1 : ∀ e ∈ acc.push a, e ∈ es := by
        intro e he
        rcases Array.mem_push.1 he with he | rfl
        · exact h e he
        · exact hl _ (by simp)
      have h2 : ∀ e ∈ l, e ∈ es := fun e he => hl e (by simp [he])
      split
      · exact ih _ _ h h2
      · dsimp only
        split
        · exact ih _ _ h h2
        · exact ih _ _ h1 h2
  intro e he
  unfold seen at he
  dsimp only at he
  rw [← Array.foldl_toList] at he
  exact key es.toList _ #[] (by simp) (by simp) e he
section
variable (A : FuncId → Bool) (S : FuncId → List Nat) (P : Program)
end
section
variable {A : FuncId → Bool} {S : FuncId → List Nat} {P : Program}
end
section
variable {A : FuncId → Bool} {S : FuncId → List Nat} {P : Program}
theorem builtin_ok {b : Builtin} (h : okBuiltin b = true) (ts : Array TypeId) (t : TypeId) (cn : Array Bool) (args : Array Value) : Plain [] (builtin b ts t cn args) ∧ Leaf isVal (builtin b ts t cn args) := by
  cases b <;> first | (exact absurd (show false = true from h) (by decide)) | skip
  all_goals unfold builtin
  all_goals dsimp only
  all_goals exact ⟨pl_value (by first | with_reducible apply pl_Builtin_append_ | with_reducible apply pl_Builtin_cap_ | with_reducible apply pl_Builtin_clear_ | with_reducible apply pl_Builtin_copy_ | with_reducible apply pl_Builtin_delete_ | with_reducible apply pl_Builtin_len_ | with_reducible apply pl_Builtin_max_ | with_reducible apply pl_Builtin_min_), lf_value _⟩
end
section
variable {A : FuncId → Bool} {S : FuncId → List Nat} {P : Program}
end
end
section
open Go Go.Conc
section
variable (P : Program) (main : Bool) (R : World → World → Prop) (D : World → World → Array Event → Prop) (Stop : Goroutine → World → Prop)
/-- The goroutine comes to a stop, however the world is turned between its steps. -/
def GoesU (g : Goroutine) (w : World) : Prop := ∀ X : Goroutine → World → Prop,
  (∀ g w, (∀ w₁, R w w₁ → Stop g w₁) → X g w) →
  (∀ g w, g.status = .running → (∀ w₁, R w w₁ → (stepG P main g w₁).goes fun g' w' es => D w₁ w' es ∧ X g' w') → X g w) → X g w
end
section
variable {P : Program} {main : Bool} {R : World → World → Prop} {D : World → World → Array Event → Prop} {Stop : Goroutine → World → Prop}
theorem goes_mono {s : GStep} {K K' : Goroutine → World → Array Event → Prop} (h : s.goes K) (hk : ∀ g w es, K g w es → K' g w es) : s.goes K' := by
  cases s <;> first | exact hk _ _ _ h | exact h
theorem GoesU.stop {g : Goroutine} {w : World} (h : ∀ w₁, R w w₁ → Stop g w₁) : GoesU P main R D Stop g w := fun _ h1 _ => h1 g w h
theorem GoesU.step {g : Goroutine} {w : World} (hr : g.status = .running) (h : ∀ w₁, R w w₁ → (stepG P main g w₁).goes fun g' w' es => D w₁ w' es ∧ GoesU P main R D Stop g' w') : GoesU P main R D Stop g w :=
  fun X h1 h2 => h2 g w hr fun w₁ hw => goes_mono (h w₁ hw) fun _ _ _ hx => ⟨hx.1, hx.2 X h1 h2⟩
theorem GoesU.cases {g : Goroutine} {w : World} (h : GoesU P main R D Stop g w) : (∀ w₁, R w w₁ → Stop g w₁) ∨ (g.status = .running ∧ ∀ w₁, R w w₁ → (stepG P main g w₁).goes fun g' w' es => D w₁ w' es ∧ GoesU P main R D Stop g' w') := by
  refine h (fun g w => (∀ w₁, R w w₁ → Stop g w₁) ∨ (g.status = .running ∧ ∀ w₁, R w w₁ → (stepG P main g w₁).goes fun g' w' es => D w₁ w' es ∧ GoesU P main R D Stop g' w')) (fun g w h => .inl h) (fun g w hr h => .inr ⟨hr, fun w₁ hw => goes_mono (h w₁ hw) fun g' w' es hx => ⟨hx.1, ?_⟩⟩)
  rcases hx.2 with h | ⟨hr, h⟩
  · exact GoesU.stop h
  · exact GoesU.step hr h
theorem GoesU.rely {g : Goroutine} {w w₁ : World} (hT : ∀ a b c, R a b → R b c → R a c) (h : GoesU P main R D Stop g w) (hw : R w w₁) : GoesU P main R D Stop g w₁ := by
  rcases h.cases with h | ⟨hr, h⟩
  · exact GoesU.stop fun w₂ h2 => h w₂ (hT _ _ _ hw h2)
  · exact GoesU.step hr fun w₂ h2 => h w₂ (hT _ _ _ hw h2)
end
section
variable (P : Program)
end
/-- The same memory; another tape, another count of draws. -/
def reW (w : World) (p : (Nat → Question → Nat) × Nat) : World := { w with tape := p.1, drawn := p.2 }
def SameW (w w1 : World) : Prop := ∃ p, w1 = reW w p
theorem sameW_refl (w : World) : SameW w w := ⟨(w.tape, w.drawn), rfl⟩
theorem sameW_trans (a b c : World) (h : SameW a b) (k : SameW b c) : SameW a c := by
  obtain ⟨p, rfl⟩ := h
  obtain ⟨q, rfl⟩ := k
  exact ⟨q, rfl⟩
theorem sameW_at {w w1 : World} (h : AtRel w w1) : SameW w w1 := by
  obtain ⟨d, rfl⟩ := h
  exact ⟨(w.tape, d), rfl⟩
theorem GoesU.weak {P : Program} {main : Bool} {R R' : World → World → Prop} {D D' : World → World → Array Event → Prop} {Stop : Goroutine → World → Prop} {g : Goroutine} {w : World} (h : GoesU P main R D Stop g w) (hR : ∀ a b, R' a b → R a b) (hD : ∀ w w' es, D w w' es → D' w w' es) : GoesU P main R' D' Stop g w :=
  h (fun g w => GoesU P main R' D' Stop g w) (fun _ _ hs => .stop fun w₁ h => hs w₁ (hR _ _ h)) fun _ _ hr hs => .step hr fun w₁ h => goes_mono (hs w₁ (hR _ _ h)) fun _ _ _ hx => ⟨hD _ _ _ hx.1, hx.2⟩
def OkEs (w w' : World) (es : Array Event) : Prop := (∀ e ∈ es, okEv e) ∧ ChEq w w'
section
variable {A : FuncId → Bool} {S : FuncId → List Nat} {P : Program}
open Classical in
open Classical in
theorem results_shift (fn : Func) (tmps : Array Value) {w w' : World} {v : Value} (hh : w'.heap = w.heap) (ho : w'.os = w.os) (hu : w'.output = w.output) (h : (results fn tmps).run P w = .ok v w) : (results fn tmps).run P w' = .ok v w' := by
  have hA : AlL ⟨w.drawn, w.drawn, w'.drawn, w'.tape⟩ w w' := ⟨by simp only; omega, rfl, hh, ho, hu, fun k q hk => by simp only at hk; omega⟩
  have h1 := (runT_alL P (results fn tmps) #[] (pl_results (kn := []) fn tmps) hA (by rw [h]; exact Nat.le_refl _)).1
  rw [Sem.runT_fst, Sem.runT_fst, h] at h1
  cases hr : (results fn tmps).run P w' with
  | halt x y => rw [hr] at h1; exact h1.elim
  | ok a y =>
    rw [hr] at h1
    obtain ⟨rfl, h2⟩ := h1
    have e1 := h2.cnt
    have e2 := h2.tp
    have e3 := h2.heap
    have e4 := h2.os
    have e5 := h2.out
    simp only at e1 e2
    have : y = w' := by
      cases y
      cases w'
      simp only at *
      subst e2
      congr 1
      · exact e3.trans hh.symm
      · omega
      · exact e4.trans ho.symm
      · exact e5.trans hu.symm
    rw [this]
end
end
end Go.Proofs.YtignemioillaiaaGreat
