/- What the answers of an operation may be; how a plain operation halts; what it says; the operations of allowed code. -/
import Derived.Test.YtignemioillaiaaGreatG21
import Derived.Conc.Events
namespace Go.Proofs.YtignemioillaiaaGreat
set_option maxHeartbeats 8000000
set_option maxRecDepth 100000
section
open Go
def dN {α : Type} (Q : α → Prop) : Sem α → Prop
  | .pure a => Q a
  | .load _ _ k => ∀ v, dN Q (k v)
  | .store _ _ _ k => dN Q k
  | .new _ k => ∀ r, dN Q (k r)
  | .shape _ k => ∀ r, dN Q (k r)
  | .freeze _ _ k => dN Q k
  | .frozen _ k => ∀ b, dN Q (k b)
  | .getObj _ k => ∀ o, dN Q (k o)
  | .setObj _ _ k => dN Q k
  | .choose _ k => ∀ n, dN Q (k n)
  | .sys _ k => ∀ r, dN Q (k r)
  | .program k => ∀ p, dN Q (k p)
  | .mark _ k => dN Q k
  | .halt _ => True
theorem dN.bind {α β : Type} {Q : β → Prop} {f : α → Sem β} (hf : ∀ a, dN Q (f a)) (s : Sem α) : dN Q (s >>= f) := by
  show dN Q (s.bind f)
  induction s with
  | pure a => exact hf a
  | load m a k ih => exact fun v => ih v
  | store m a v k ih => exact ih
  | new o k ih => exact fun r => ih r
  | shape r k ih => exact fun v => ih v
  | freeze a n k ih => exact ih
  | frozen a k ih => exact fun v => ih v
  | getObj r k ih => exact fun v => ih v
  | setObj r o k ih => exact ih
  | choose q k ih => exact fun v => ih v
  | sys c k ih => exact fun v => ih v
  | program k ih => exact fun v => ih v
  | mark m k ih => exact ih
  | halt x => exact trivial
theorem dN.Qs {α β : Type} {Q : α → Prop} {R : β → Prop} {f : α → Sem β} (hf : ∀ a, Q a → dN R (f a)) {s : Sem α} (h : dN Q s) : dN R (s >>= f) := by
  show dN R (s.bind f)
  induction s with
  | pure a => exact hf a h
  | load m a k ih => exact fun v => ih v (h v)
  | store m a v k ih => exact ih h
  | new o k ih => exact fun r => ih r (h r)
  | shape r k ih => exact fun v => ih v (h v)
  | freeze a n k ih => exact ih h
  | frozen a k ih => exact fun v => ih v (h v)
  | getObj r k ih => exact fun v => ih v (h v)
  | setObj r o k ih => exact ih h
  | choose q k ih => exact fun v => ih v (h v)
  | sys c k ih => exact fun v => ih v (h v)
  | program k ih => exact fun v => ih v (h v)
  | mark m k ih => exact ih h
  | halt x => exact trivial
theorem dN.mono {α : Type} {Q R : α → Prop} (hq : ∀ a, Q a → R a) {s : Sem α} (h : dN Q s) : dN R s := by
  have := dN.Qs (f := fun a => (pure a : Sem α)) (R := R) (fun a h => hq a h) h
  rwa [bind_pure] at this
def Vm {α : Type} (Q : α → Prop) : Result α → Prop
  | .ok a _ => Q a
  | .halt h _ => sD h
theorem Kb (p : Program) (w : World) (a : Addr) (b : Bool) {h : Halt} (e : w.farLoad p a b = .error h) : sD h := by
  unfold World.farLoad at e
  split at e
  · split at e
    · cases e
    · cases e; exact trivial
  · cases e
    unfold World.noCell
    split <;> exact trivial
theorem Hw (p : Program) (w : World) (a : Addr) (v : Value) (b : Bool) {h : Halt} (e : w.farStore p a v b = .error h) : sD h := by
  unfold World.farStore at e
  split at e
  · split at e
    · cases e
    · cases e; exact trivial
  · cases e
    unfold World.noCell
    split <;> exact trivial
def mU (e : Event) : Prop := e.loc ≠ .mark .disable ∧ e.loc ≠ .mark .enable
theorem rG {α : Type} {Q : α → Prop} (p : Program) (s : Sem α) : ∀ {kn : List Nat} (w : World) (es : Array Event), Plain kn s → dN Q s → Vm Q (s.runT p w es).1 ∧ ((∀ e ∈ es, mU e) → ∀ e ∈ (s.runT p w es).2, mU e) := by
  have cell : ∀ (es : Array Event) (a : Addr) (b c : Bool), (∀ e ∈ es, mU e) → ∀ e ∈ es.push ⟨.cell a, b, c⟩, mU e := by
    intro es a b c h e he
    rcases Array.mem_push.1 he with he | rfl
    · exact h e he
    · exact ⟨by simp, by simp⟩
  have cells : ∀ (es : Array Event) (l : List Addr) (b c : Bool), (∀ e ∈ es, mU e) → ∀ e ∈ es ++ l.toArray.map (⟨.cell ·, b, c⟩), mU e := by
    intro es l b c h e he
    rcases Array.mem_append.1 he with he | he
    · exact h e he
    · obtain ⟨a, _, rfl⟩ := Array.mem_map.1 he
      exact ⟨by simp, by simp⟩
  have obj : ∀ (es : Array Event) (r : Nat) (b c : Bool), (∀ e ∈ es, mU e) → ∀ e ∈ es.push ⟨.obj r, b, c⟩, mU e := by
    intro es a b c h e he
    rcases Array.mem_push.1 he with he | rfl
    · exact h e he
    · exact ⟨by simp, by simp⟩
  induction s with
  | pure a => exact fun w es _ h => ⟨h, id⟩
  | load m a k ih =>
    intro kn w es hp hl
    simp only [Sem.runT]
    split
    · exact ⟨(ih _ w _ (hp _) (hl _)).1, fun h => (ih _ w _ (hp _) (hl _)).2 (cell _ _ _ _ h)⟩
    · split
      · exact ⟨(ih _ w _ (hp _) (hl _)).1, fun h => (ih _ w _ (hp _) (hl _)).2 (cells _ _ _ _ h)⟩
      · rename_i e
        exact ⟨Kb p w a _ e, id⟩
  | store m a v k ih =>
    intro kn w es hp hl
    cases v <;> simp only [Sem.runT] <;> first | exact ⟨trivial, id⟩ | skip
    all_goals
      split
      · split
        · exact ⟨trivial, id⟩
        · exact ⟨(ih (w.setCell a _) _ hp hl).1, fun h => (ih (w.setCell a _) _ hp hl).2 (cell _ _ _ _ h)⟩
      · split
        · exact ⟨(ih _ _ hp hl).1, fun h => (ih _ _ hp hl).2 (cells _ _ _ _ h)⟩
        · rename_i e
          exact ⟨Hw p w a _ _ e, id⟩
  | new o k ih => exact fun w es hp hl => ih _ _ es (hp.2 _) (hl _)
  | shape r k ih => exact fun w es hp hl => ih _ _ es (hp _) (hl _)
  | freeze a n k ih => exact fun w es hp hl => ih _ es hp hl
  | frozen a k ih => exact fun w es hp hl => ih _ _ es (hp _) (hl _)
  | getObj r k ih =>
    intro kn w es hp hl
    simp only [Sem.runT]
    split
    · exact ⟨trivial, id⟩
    · exact ⟨(ih _ w _ (hp _) (hl _)).1, fun h => (ih _ w _ (hp _) (hl _)).2 (obj _ _ _ _ h)⟩
    · exact ⟨trivial, id⟩
  | setObj r o k ih =>
    intro kn w es hp hl
    simp only [Sem.runT]
    split
    · exact ⟨trivial, id⟩
    · exact ⟨(ih _ _ hp.2.2 hl).1, fun h => (ih _ _ hp.2.2 hl).2 (obj _ _ _ _ h)⟩
    · exact ⟨trivial, id⟩
  | choose q k ih =>
    intro kn w es hp hl
    simp only [Sem.runT]
    split
    · exact ih 0 w es (hp _) (hl _)
    · exact ih _ _ es (hp _) (hl _)
  | sys c k ih => exact fun w es hp => hp.elim
  | program k ih => exact fun w es hp hl => ih p w es (hp _) (hl _)
  | mark m k ih =>
    intro kn w es hp hl
    refine ⟨(ih w _ hp.2 hl).1, fun h => (ih w _ hp.2 hl).2 fun e he => ?_⟩
    rcases Array.mem_push.1 he with he | rfl
    · exact h e he
    · have h0 := hp.1
      cases m <;> first | exact h0.elim | exact ⟨nofun, nofun⟩
  | halt x => exact fun w es hp _ => ⟨hp, id⟩
def iH (w w' : World) : Prop := ∀ (c : Nat) (o : Obj), o.isChan = true → (w.heap[c]? = some o ↔ w'.heap[c]? = some o)
theorem iH.refl (w : World) : iH w w := fun _ _ _ => Iff.rfl
theorem iH.trans {a b c : World} (h : iH a b) (k : iH b c) : iH a c := fun x o ho => (h x o ho).trans (k x o ho)
theorem Ao (w : World) (b : Nat) (f : Obj → Obj) (hf : ∀ o, if o.isChan = true then f o = o else (f o).isChan = false) : iH w { w with heap := w.heap.modify b f } := by
  intro c o ho
  show w.heap[c]? = some o ↔ (w.heap.modify b f)[c]? = some o
  rw [Array.getElem?_modify]
  split
  · cases w.heap[c]? with
    | none => simp
    | some y =>
      have h := hf y
      cases hy : y.isChan with
      | true => rw [hy] at h; simp only [if_true] at h; simp [h]
      | false =>
        rw [hy] at h
        simp only [Bool.false_eq_true, if_false] at h
        simp only [Option.map_some, Option.some.injEq]
        constructor
        · rintro rfl; rw [hy] at ho; cases ho
        · rintro rfl; rw [h] at ho; cases ho
  · exact Iff.rfl
theorem FY (w : World) {r : Nat} {x o' : Obj} (hr : w.heap[r]? = some x) (hx : x.isChan = false) (ho' : o'.isChan = false) : iH w { w with heap := w.heap.setIfInBounds r o' } := by
  intro c o ho
  show w.heap[c]? = some o ↔ (w.heap.setIfInBounds r o')[c]? = some o
  by_cases h : r = c
  · subst h
    rw [Array.getElem?_setIfInBounds_self_of_lt (Array.getElem?_eq_some_iff.1 hr).1, hr]
    simp only [Option.some.injEq]
    constructor
    · rintro rfl; rw [hx] at ho; cases ho
    · rintro rfl; rw [ho'] at ho; cases ho
  · rw [Array.getElem?_setIfInBounds_ne h]
theorem Ef (w : World) {o' : Obj} (ho' : o'.isChan = false) : iH w { w with heap := w.heap.push o' } := by
  intro c o ho
  show w.heap[c]? = some o ↔ (w.heap.push o')[c]? = some o
  rw [Array.getElem?_push]
  split
  · rename_i h
    rw [Array.getElem?_eq_none (by omega)]
    simp only [Option.some.injEq, reduceCtorEq, false_iff]
    rintro rfl; rw [ho'] at ho; cases ho
  · exact Iff.rfl
theorem xC (w : World) (a : Addr) (v : Value) : iH w (w.setCell a v) := by
  unfold World.setCell
  refine Ao w _ _ fun o => ?_
  cases o <;> rfl
theorem Ap (w : World) (a : Addr) (n : Nat) : iH w (w.freeze a n) := by
  unfold World.freeze
  split
  · exact iH.refl w
  · refine Ao w _ _ fun o => ?_
    cases o <;> rfl
theorem seen_cells {p : Program} {w : World} {at_ : Addr} {u : TypeId} {k : Addr} {b : Bool} {r : Array Value × TypeId × (Nat × Nat) × Nat × Value × List (Nat × Nat × List UInt8)} (h : w.seen p at_ u k b = .ok r) : ∃ c e fz, w.heap[at_.block]? = some (.cells c e fz) := by
  unfold World.seen at h
  simp only [bind, Except.bind, pure, Except.pure] at h
  repeat' (first | (cases h; done) | split at h)
  all_goals first | exact ⟨_, _, _, by assumption⟩ | skip
theorem FZ (p : Program) (w : World) (a : Addr) (v : Value) (b : Bool) {x : World} {l : List Addr} (h : w.farStore p a v b = .ok (x, l)) : iH w x := by
  unfold World.farStore at h
  split at h
  · rename_i at_ u _
    split at h
    · rename_i r hr
      cases h
      unfold World.viewStore at hr
      cases hs : w.seen p at_ u a b with
      | error e =>
        rw [hs] at hr
        simp only [bind, Except.bind] at hr
        split at hr <;> cases hr
      | ok r =>
        obtain ⟨c1, e1, f1, hcell⟩ := seen_cells hs
        have hx : ∃ c e f, x = { w with heap := w.heap.setIfInBounds at_.block (.cells c e f) } := by
          rw [hs] at hr
          simp only [bind, Except.bind, pure, Except.pure] at hr
          repeat' (first | (cases hr; done) | split at hr)
          all_goals first | (cases hr; exact ⟨_, _, _, rfl⟩) | skip
        obtain ⟨c, e, f, rfl⟩ := hx
        exact FY w hcell rfl rfl
    · cases h
  · cases h
theorem Cr {α : Type} (p : Program) (s : Sem α) : ∀ {kn : List Nat} (w : World), Plain kn s → (∀ r ∈ kn, ∀ o, w.heap[r]? = some o → o.isChan = false) → iH w (AX (s.run p w)) := by
  have kept : ∀ {kn : List Nat} {w w' : World}, (∀ r ∈ kn, ∀ o, w.heap[r]? = some o → o.isChan = false) → iH w w' → ∀ r ∈ kn, ∀ o, w'.heap[r]? = some o → o.isChan = false := by
    intro kn w w' h1 h2 r hr o ho
    cases hc : o.isChan with
    | false => rfl
    | true => rw [h1 r hr o ((h2 r o hc).2 ho)] at hc; cases hc
  induction s with
  | pure a => exact fun w _ _ => iH.refl w
  | load m a k ih =>
    intro kn w hp hk
    simp only [Sem.run]
    split
    · exact ih _ w (hp _) hk
    · split
      · exact ih _ w (hp _) hk
      · exact iH.refl w
  | store m a v k ih =>
    intro kn w hp hk
    cases v <;> simp only [Sem.run] <;> first | exact iH.refl w | skip
    all_goals
      split
      · split
        · exact iH.refl w
        · exact (xC w a _).trans (ih (w.setCell a _) hp (kept hk (xC w a _)))
      · split
        · rename_i x l hx
          exact (FZ p w a _ _ hx).trans (ih x hp (kept hk (FZ p w a _ _ hx)))
        · exact iH.refl w
  | new o k ih => exact fun w hp hk => (Ef w hp.1).trans (ih _ _ (hp.2 _) (kept hk (Ef w hp.1)))
  | shape r k ih => exact fun w hp hk => ih _ w (hp _) hk
  | freeze a n k ih => exact fun w hp hk => (Ap w a n).trans (ih _ hp (kept hk (Ap w a n)))
  | frozen a k ih => exact fun w hp hk => ih _ w (hp _) hk
  | getObj r k ih =>
    intro kn w hp hk
    simp only [Sem.run]
    split
    · exact iH.refl w
    · rename_i o hne ho
      refine ih o w (hp o) fun r' hr' o' ho' => ?_
      cases o <;> first | exact hk r' hr' o' ho' | (rcases List.mem_cons.1 hr' with rfl | hr'; (rw [ho] at ho'; cases ho'; rfl); exact hk r' hr' o' ho')
    · exact iH.refl w
  | setObj r o k ih =>
    intro kn w hp hk
    simp only [Sem.run]
    split
    · exact iH.refl w
    · rename_i x hne hx
      have h1 := FY w hx (hk r hp.1 x hx) hp.2.1
      exact h1.trans (ih _ hp.2.2 (kept hk h1))
    · exact iH.refl w
  | choose q k ih =>
    intro kn w hp hk
    simp only [Sem.run]
    split
    · exact ih 0 w (hp _) hk
    · show iH { w with drawn := w.drawn + 1 } _
      exact ih _ { w with drawn := w.drawn + 1 } (hp _) hk
  | sys c k ih => exact fun w hp => hp.elim
  | program k ih => exact fun w hp hk => ih p w (hp _) hk
  | mark m k ih => exact fun w hp hk => ih w hp.2 hk
  | halt x => exact fun w _ _ => iH.refl w
theorem Du : ∀ (l : List FieldStep) (t : TypeId) (x : Option Value), Plain [] (followBlind l t x) := by
  intro l
  induction l with
  | nil => intro t x; exact trivial
  | cons s l ih =>
    intro t x
    unfold followBlind
    repeat' (first | with_reducible apply ih | with_reducible apply az | with_reducible apply bH | with_reducible apply bu | with_reducible apply rY | (with_reducible refine Plain.bind' ?_ fun _ => ?_) | split | dsimp only)
theorem Hy : ∀ (n : Nat) (t : TypeId) (v : Value) (s : String), Plain [] (nilAhead n t v s) := by
  intro n
  induction n with
  | zero => intro t v s; exact trivial
  | succ n ih =>
    intro t v s
    unfold nilAhead
    repeat' (first | with_reducible apply ih | with_reducible apply az | with_reducible apply jh | with_reducible apply bH | with_reducible apply bu | with_reducible apply Du | (with_reducible refine Plain.bind' ?_ fun _ => ?_) | split | dsimp only)
def tH : Builtin → Bool
  | .append | .cap | .clear | .copy | .delete | .len | .max | .min => true
  | _ => false
section
variable (A : FuncId → Bool) (S : FuncId → List Nat)
def za (fn : FuncId) : Operand → Bool
  | .func f => A f && (S f).isEmpty
  | .tmp t => (S fn).contains t
  | _ => false
def Cs (fn : FuncId) : Op → Bool
  | .move x | .assign x => za A S fn x
  | .makeFunc (.func f) _ _ => A f && (S f).isEmpty
  | _ => false
def Dv (fn : FuncId) : Op → Bool
  | .move _ | .assign _ | .pick _ _ _ | .alloc _ | .box _ _ | .build _ _ | .buildSlice _ _ _ | .load _ _ | .store _ _ _ | .nilCheck _ | .binOp _ _ _ _ _ | .unOp _ _ _ | .convert _ _ _
  | .makeInterface _ _ | .makeFunc _ _ _ | .makeMap _ _ | .makeSlice _ _ _ | .slice _ _ _ _ _ | .fieldAddr _ _ _ | .field _ _ _ | .indexAddr _ _ _ | .index _ _ _ | .lookup _ _ _ _ | .mapUpdate _ _ _ _
  | .range _ _ | .next _ _ | .entry _ | .extract _ _ | .panic _ => true
  | .call c => match c.callee with
    | .builtin b => tH b
    | .value (.func f) => A f && (S f).all fun t => match c.args[t]? with | some x => za A S fn x | none => true
    | .value (.tmp t) => (S fn).contains t
    | _ => false
  | _ => false
def xD (fn : FuncId) (o : Oper) : Bool := Dv A S fn o.op && (match o.dst with | some d => !(S fn).contains d || Cs A S fn o.op | none => true)
def iO (fn : FuncId) : Code → Bool
  | .skip | .exit _ | .ret | .refuse _ => true
  | .region _ ops _ => ops.all (xD A S fn)
  | .seq a b => iO fn a && iO fn b
  | .cond _ a b => iO fn a && iO fn b
  | .block _ c => iO fn c
  | .loop c => iO fn c
  | _ => false
def rH (v : Value) : Prop := ∀ fn first cap, v = .func fn first cap → ∃ f, fn = .func f ∧ A f = true ∧ S f = []
theorem qL : rH A S undef := by
  intro fn a b h
  cases h
structure xE (P : Program) : Prop where
  code : ∀ f, A f = true → (∃ fn c, P.funcs[f]? = some fn ∧ (fn.name == "runtime.NumGoroutine") = false ∧ fn.body = some c ∧ iO A S f c = true) ∨ ∃ e : Array Value → Sem Value, ∀ args, Plain [] (e args) ∧ ∀ w es, (callFunc f args).runT P w es = (do mark (.extern f); pure (Next.value (← e args)) : Sem Next).runT P w es
  early : ∀ fr cs dy g w, ∃ o w', early P fr cs dy g w = .ended o w'
end
section
variable {A : FuncId → Bool} {S : FuncId → List Nat}
def tJ (A : FuncId → Bool) (S : FuncId → List Nat) (fn : FuncId) (tmps : Array Value) : Prop := ∀ t ∈ S fn, rH A S (tmps.getD t undef)
theorem xG {fr : Frame} {x : Operand} (h : za A S fr.fn x = true) (hs : tJ A S fr.fn fr.tmps) : rH A S (fr.eval x) := by
  cases x with
  | func f =>
    simp only [za, Bool.and_eq_true, List.isEmpty_iff] at h
    intro fn a b e
    cases e
    exact ⟨f, rfl, h.1, h.2⟩
  | tmp t => exact hs t (by simpa [za] using h)
  | const v => cases h
  | global g => cases h
theorem Bf {s : Sem Value} (h : Plain [] s) : Plain [] (do pure (Next.value (← s))) := Plain.bind' h fun _ => trivial
theorem RX {s : Sem Unit} (h : Plain [] s) : Plain [] (do s; pure Next.skip) := Plain.bind' h fun _ => trivial
def isVal (n : Next) : Prop := (∃ v, n = .value v) ∨ n = .skip
theorem zb {n : Next} (h : isVal n) : dN isVal (pure n) := h
theorem Bg (s : Sem Value) : dN isVal (do pure (Next.value (← s))) := dN.bind (fun v => zb (.inl ⟨v, rfl⟩)) s
theorem RY (s : Sem Unit) : dN isVal (do s; pure Next.skip) := dN.bind (fun _ => zb (.inr rfl)) s
theorem LP {α : Type} {Q : α → Prop} : dN Q (runtimePanic RuntimeError.nilDeref : Sem α) := by
  unfold runtimePanic
  refine dN.bind (fun p => ?_) program
  exact trivial
def xH : Op → Bool
  | .call _ | .panic _ => false
  | _ => true
theorem Bh {fn : FuncId} {ρ : Operand → Value} {o : Oper} (h : Dv A S fn o.op = true) (hc : xH o.op = true) : Plain [] (execOp ρ o) ∧ dN isVal (execOp ρ o) := by
  obtain ⟨dst, op, type, pos, after, guard⟩ := o
  cases op <;> first | (exact absurd (show false = true from h) (by decide)) | (exact absurd (show false = true from hc) (by decide)) | skip
  all_goals unfold execOp
  all_goals dsimp only
  case move x => exact ⟨trivial, .inl ⟨_, rfl⟩⟩
  case assign x => exact ⟨trivial, .inl ⟨_, rfl⟩⟩
  case pick c a b => exact ⟨Plain.bind' (tq _) fun _ => trivial, dN.bind (fun _ => zb (.inl ⟨_, rfl⟩)) _⟩
  case nilCheck x =>
    generalize ρ x = v
    constructor
    · repeat' (first | with_reducible apply Hy | with_reducible apply az | with_reducible apply iE | with_reducible apply eH | with_reducible apply bU | (with_reducible refine Plain.bind' ?_ fun _ => ?_) | split | dsimp only)
    · repeat' (first | exact zb (.inl ⟨_, rfl⟩) | with_reducible exact LP | (with_reducible refine dN.bind (fun _ => ?_) _) | split | dsimp only)
  all_goals first | exact ⟨Bf (by first | with_reducible apply Dh | with_reducible apply FR | with_reducible apply vY | with_reducible apply Di | with_reducible apply Ca | with_reducible apply Hu | with_reducible apply Ka | with_reducible apply uw | with_reducible apply zq | with_reducible apply Bb | with_reducible apply xy | with_reducible apply Ba | with_reducible apply A8 | with_reducible apply Dn | with_reducible apply A9 | with_reducible apply Dp | with_reducible apply Cg | with_reducible apply Dr | with_reducible apply EH | with_reducible apply Dt | with_reducible apply Bc), Bg _⟩ | exact ⟨RX (by first | with_reducible apply AZ | with_reducible apply xx), RY _⟩ | exact ⟨Bf (Plain.bind' (J7 _ _ _ _ _ _) fun _ => OH _ _ _ _), Bg _⟩
end
theorem nD (p : Program) (fn : FuncId) (es : Array Event) : ∀ e ∈ seen p fn es, e ∈ es := by
  have key : ∀ (l : List Event) (q : Bool) (acc : Array Event), (∀ e ∈ acc, e ∈ es) → (∀ e ∈ l, e ∈ es) →
      ∀ e ∈ (l.foldl (init := (q, acc)) fun (x : Bool × Array Event) e =>
        match e.loc with
        | .mark (.extern f) => ((p.funcs[f]?).any (·.norace), x.2)
        | _ => (x.1, if x.1 && !e.sync then x.2 else x.2.push e)).2, e ∈ es := by
    intro l
    induction l with
    | nil => exact fun q acc h _ => h
    | cons a l ih =>
      intro q acc h hl
      rw [List.foldl_cons]
      have h1 : ∀ e ∈ acc.push a, e ∈ es := by
        intro e he
        rcases Array.mem_push.1 he with he | rfl
        · exact h e he
        · exact hl _ (by simp)
      have h2 : ∀ e ∈ l, e ∈ es := fun e he => hl e (by simp [he])
      split
      · exact ih _ _ h h2
      · dsimp only
        split
        · exact ih _ _ h h2
        · exact ih _ _ h1 h2
  intro e he
  unfold seen at he
  dsimp only at he
  rw [← Array.foldl_toList] at he
  exact key es.toList _ #[] (by simp) (by simp) e he
section
variable (A : FuncId → Bool) (S : FuncId → List Nat) (P : Program)
def uT (fn : FuncId) : Item → Prop
  | .code c => iO A S fn c = true
  | .inBlock _ => True
  | .inLoop c => iO A S fn c = true
  | .inRegion ops _ => ∀ o ∈ ops, xD A S fn o = true
  | _ => False
structure nE (fr : Frame) : Prop where
  todo : ∀ i ∈ fr.todo, uT A S fr.fn i
  defers : fr.defers = []
  kind : (fr.kind == .early) = false
  round : fr.roundOf = none
  func : ∃ fn, P.funcs[fr.fn]? = some fn
  slots : tJ A S fr.fn fr.tmps
def Ct (c : Frame) : Prop := c.mode = .run ∧ (∀ v, nE A S P (c.finish v)) ∧ ∃ ops i l k, c.todo = .inRegion ops (i :: l) :: k
def mY : List Frame → Prop
  | [] => True
  | [_] => True
  | fr :: ab => fr.kind = .normal ∧ mY ab
def oH : List Frame → Prop
  | [] => False
  | fr :: ab => nE A S P fr ∧ (fr.mode = .run ∨ fr.mode = .returning) ∧ (∀ c ∈ ab, Ct A S P c) ∧ mY (fr :: ab)
end
theorem mY.tail {fr : Frame} {ab : List Frame} (h : mY (fr :: ab)) : mY ab := by
  cases ab with
  | nil => trivial
  | cons c ab => exact h.2
theorem mY.cons {fr : Frame} {ab : List Frame} (h : mY ab) (hk : fr.kind = .normal) : mY (fr :: ab) := by
  cases ab with
  | nil => trivial
  | cons c ab => exact ⟨hk, h⟩
theorem mY.same {fr fr' : Frame} {ab : List Frame} (h : mY (fr :: ab)) (hk : fr'.kind = fr.kind) : mY (fr' :: ab) := by
  cases ab with
  | nil => trivial
  | cons c ab => exact ⟨hk.trans h.1, h.2⟩
def Frame.up (fr : Frame) (k : List Item) : Frame := { fr with todo := fr.todo ++ k }
def bk (ab : List Frame) (k : List Item) : List Item := match ab with
  | [] => k
  | _ :: _ => []
def ext (k : List Item) : List Frame → List Frame
  | [] => []
  | fr :: ab => Frame.up fr (bk ab k) :: ext k ab
theorem uU (fr : Frame) : Frame.up fr [] = fr := by
  unfold Frame.up
  rw [List.append_nil]
theorem ext_nil : ∀ st : List Frame, ext [] st = st
  | [] => rfl
  | fr :: ab => by
    have : bk ab [] = [] := by cases ab <;> rfl
    rw [ext, this, uU, ext_nil ab]
theorem Dw (fr : Frame) (k : List Item) : (Frame.up fr k).eval = fr.eval := by
  funext x
  cases x <;> rfl
theorem xI {c : Frame} {ops : Array Oper} {i : Nat} {l : List Nat} {k0 : List Item} (h : c.todo = .inRegion ops (i :: l) :: k0) (k : List Item) (v : Value) : (Frame.up c k).finish v = Frame.up (c.finish v) k := by
  unfold Frame.finish Frame.up
  simp only [h, List.cons_append]
def tK (st cs : List Frame) : Goroutine := match st with
  | [] => default
  | fr :: ab => { frame := fr, callers := ab ++ cs, status := .running, dying := none }
def km : List Item := [.code (.refuse "")]
def ze (cs : List Frame) (r : GStep) : Prop := (∃ o w es, r = .ended o w es) ∨ ∃ (fr : Frame) (ab : List Frame) (chain : List PanicEntry) (w : World) (es : Array Event), fr.defers = [] ∧ (∀ c ∈ ab, c.defers = [] ∧ c.mode = .run) ∧ r = .go { frame := { fr with mode := .panicking chain }, callers := ab ++ cs, status := .running, dying := none } w es
def Same (k : List Item) (cs : List Frame) (r : GStep) (x : Result (List Frame) × Array Event) : Prop := match x.1 with
  | .ok st w => ∃ es, r = .go (tK (ext k st) cs) w es ∧ ∀ e ∈ es, e ∈ x.2
  | .halt _ _ => k = [] ∨ k = km → ze cs r
section
variable {A : FuncId → Bool} {S : FuncId → List Nat} {P : Program}
theorem nE.with {fr : Frame} (h : nE A S P fr) {todo : List Item} (ht : ∀ i ∈ todo, uT A S fr.fn i) : nE A S P { fr with todo } := ⟨ht, h.defers, h.kind, h.round, h.func, h.slots⟩
theorem nE.ret {fr : Frame} (h : nE A S P fr) (m : FrameMode) : nE A S P { fr with mode := m } := ⟨h.todo, h.defers, h.kind, h.round, h.func, h.slots⟩
theorem EI (c : Frame) (v : Value) : (c.finish v).defers = c.defers := by
  unfold Frame.finish
  split <;> rfl
theorem qM (c : Frame) (v : Value) : (c.finish v).mode = c.mode := by
  unfold Frame.finish
  split <;> rfl
theorem qN (c : Frame) (v : Value) : (c.finish v).kind = c.kind := by
  unfold Frame.finish
  split <;> rfl
theorem Ct.defers {c : Frame} (h : Ct A S P c) : c.defers = [] := by
  rw [← EI c undef]
  exact (h.2.1 undef).defers
theorem F5 (k : List Item) : ∀ {ab : List Frame}, (∀ c ∈ ab, Ct A S P c) → ∀ c ∈ ext k ab, c.defers = [] ∧ c.mode = .run
  | [], _, _, hc => by cases hc
  | a :: ab, h, c, hc => by
    rcases List.mem_cons.1 hc with rfl | hc
    · exact ⟨(h a (by simp)).defers, (h a (by simp)).1⟩
    · exact F5 k (fun x hx => h x (List.mem_cons_of_mem _ hx)) c hc
theorem nE.finish {fr : Frame} (h : nE A S P fr) {ops : Array Oper} {i : Nat} {l : List Nat} {k : List Item} (ht : fr.todo = .inRegion ops (i :: l) :: k) {v : Value}
    (hv : ∀ o d, ops[i]? = some o → o.dst = some d → d ∈ S fr.fn → rH A S v) : nE A S P (fr.finish v) := by
  have e : fr.finish v = { fr with tmps := (match (ops[i]?).bind (·.dst) with | some d => fr.tmps.setIfInBounds d v | none => fr.tmps), todo := .inRegion ops l :: k } := by
    unfold Frame.finish
    rw [ht]
    rfl
  have hk : ∀ x ∈ Item.inRegion ops l :: k, uT A S fr.fn x := by
    intro x hx
    rcases List.mem_cons.1 hx with rfl | hx
    · exact h.todo (.inRegion ops (i :: l)) (by rw [ht]; simp)
    · exact h.todo x (by rw [ht]; simp [hx])
  rw [e]
  refine ⟨hk, h.defers, h.kind, h.round, h.func, ?_⟩
  intro t ht'
  show rH A S (Array.getD _ t undef)
  cases hd : (ops[i]?).bind (·.dst) with
  | none => exact h.slots t ht'
  | some d =>
    obtain ⟨o, ho, hod⟩ := Option.bind_eq_some_iff.1 hd
    show rH A S ((fr.tmps.setIfInBounds d v).getD t undef)
    by_cases hdt : d = t
    · subst hdt
      by_cases hb : d < fr.tmps.size
      · have : (fr.tmps.setIfInBounds d v).getD d undef = v := by simp [Array.getD, hb]
        rw [this]
        exact hv o d ho hod ht'
      · have : (fr.tmps.setIfInBounds d v).getD d undef = undef := by simp [Array.getD, hb]
        rw [this]
        exact qL A S
    · have : (fr.tmps.setIfInBounds d v).getD t undef = fr.tmps.getD t undef := by
        rw [Array.getD_eq_getD_getElem?, Array.getD_eq_getD_getElem?, Array.getElem?_setIfInBounds_ne hdt]
      rw [this]
      exact h.slots t ht'
theorem Kc {id : Nat} : ∀ {k k' : List Item}, exitTo id k = some k' → ∀ x ∈ k', x ∈ k := by
  intro k
  induction k with
  | nil => intro k' h; cases h
  | cons a k ih =>
    intro k' h x hx
    have go : exitTo id k = some k' → x ∈ a :: k := fun h => List.mem_cons_of_mem _ (ih h x hx)
    unfold exitTo at h
    split at h
    · rename_i heq
      cases heq
      split at h
      · cases h; exact List.mem_cons_of_mem _ hx
      · exact go h
    · rename_i heq
      cases heq
      exact go h
    · cases h
def uV (A : FuncId → Bool) (S : FuncId → List Nat) (P : Program) (fr : Frame) (n : Next) : Prop :=
  (∃ v, n = .value v ∧ nE A S P (fr.finish v)) ∨ (n = .skip ∧ nE A S P (fr.finish undef)) ∨ ∃ f args, n = .enter f args ∧ nE A S P (Frame.enter P f args .normal) ∧ ∀ v, nE A S P (fr.finish v)
def zf (P : Program) (fr : Frame) (ab : List Frame) : Next → Sem (List Frame)
  | .value v => pure (fr.finish v :: ab)
  | .skip => pure (fr.finish undef :: ab)
  | .enter f args => pure (Frame.enter P f args .normal :: fr :: ab)
  | _ => stuck ""
theorem Hz (fr : Frame) (ab : List Frame) (n : Next) : Plain [] (zf P fr ab n) := by
  cases n <;> exact trivial
theorem Ke {fr : Frame} {ab : List Frame} {n : Next} (hm : fr.mode = .run) (hab : ∀ c ∈ ab, Ct A S P c) (hno : mY (fr :: ab)) {ops : Array Oper} {i : Nat} {l : List Nat} {k : List Item} (ht : fr.todo = .inRegion ops (i :: l) :: k) (h : uV A S P fr n) : dN (oH A S P) (zf P fr ab n) := by
  rcases h with ⟨v, rfl, h⟩ | ⟨rfl, h⟩ | ⟨f, args, rfl, h, hv⟩
  · exact ⟨h, .inl ((qM _ _).trans hm), hab, hno.same (qN _ _)⟩
  · exact ⟨h, .inl ((qM _ _).trans hm), hab, hno.same (qN _ _)⟩
  · refine ⟨h, .inl rfl, fun c hc => ?_, hno.cons rfl⟩
    rcases List.mem_cons.1 hc with rfl | hc
    · exact ⟨hm, hv, _, _, _, _, ht⟩
    · exact hab c hc
theorem Kg (hE : ∀ fr cs dy g w, ∃ o w', early P fr cs dy g w = .ended o w') {fr : Frame} {ab : List Frame} (hf : nE A S P fr) (hm : fr.mode = .run) (hab : ∀ c ∈ ab, Ct A S P c) {ops : Array Oper} {i : Nat} {l : List Nat} {k : List Item} (ht : fr.todo = .inRegion ops (i :: l) :: k)
    {s0 s : Sem Next} (heq : ∀ w, s0.runT P w #[] = s.runT P w #[]) (hp : Plain [] s) (hl : dN (uV A S P fr) s) (kr : List Item) (cs : List Frame) (w : World) : Same kr cs (stepG.apply P true (Frame.up fr (bk ab kr)) (ext kr ab ++ cs) none s0 w) ((s >>= zf P fr ab).runT P w #[]) := by
  have h := (rG P s w #[] hp hl).1
  show Same kr cs _ (Sem.runT P (s.bind (zf P fr ab)) w #[])
  rw [Sem.runT_bind' P s (zf P fr ab) w #[]]
  have hfin : ∀ v, (Frame.up fr (bk ab kr)).finish v = Frame.up (fr.finish v) (bk ab kr) := fun v => xI ht _ v
  have mI : (Frame.up fr (bk ab kr)).todo = .inRegion ops (i :: l) :: (k ++ bk ab kr) := by unfold Frame.up; rw [ht]; rfl
  have TJ : ((Frame.up fr (bk ab kr)).kind == CallKind.early) = false := hf.kind
  have hfn : (Frame.up fr (bk ab kr)).fn = fr.fn := rfl
  unfold stepG.apply
  simp only [if_true, heq, mI, TJ, hfn]
  generalize s.runT P w #[] = r at h
  obtain ⟨r, es⟩ := r
  have hsub : ∀ e ∈ seen P fr.fn es ++ (#[] : Array Event), e ∈ es := fun e he => nD P fr.fn es e (by simpa using he)
  cases r with
  | ok n w' =>
    rcases h with ⟨v, rfl, h⟩ | ⟨rfl, h⟩ | ⟨f, args, rfl, h, hv⟩
    · exact ⟨_, by simp only [hfin]; rfl, hsub⟩
    · exact ⟨_, by simp only [hfin]; rfl, hsub⟩
    · refine ⟨seen P fr.fn es ++ #[], ?_, hsub⟩
      show GStep.go _ _ _ = GStep.go (tK (Frame.up (Frame.enter P f args .normal) [] :: Frame.up fr (bk ab kr) :: ext kr ab) cs) w' _
      rw [uU]
      rfl
  | halt x w' =>
    intro hkr
    have hd := F5 kr hab
    cases x with
    | panic v =>
      refine .inr ⟨Frame.up fr (bk ab kr), ext kr ab, [{ v, recovered := false }], w', seen P fr.fn es ++ #[], hf.defers, hd, ?_⟩
      have hmu : (Frame.up fr (bk ab kr)).mode = .run := hm
      unfold Frame.raise
      rw [hmu]
      rfl
    | unsupported u =>
      refine .inl ?_
      cases u with
      | initOrder g =>
        obtain ⟨o, w'', he⟩ := hE (Frame.up fr (bk ab kr)) (ext kr ab ++ cs) none g w'
        simp only [he]
        exact ⟨_, _, _, rfl⟩
      | _ => exact ⟨_, _, _, rfl⟩
    | stuck m => exact .inl ⟨_, _, _, rfl⟩
    | _ => exact h.elim
end
section
variable {A : FuncId → Bool} {S : FuncId → List Nat} {P : Program}
theorem LQ {f : FuncId} {fn : Func} {c : Code} (h1 : P.funcs[f]? = some fn) (h2 : (fn.name == "runtime.NumGoroutine") = false) (h3 : fn.body = some c) (args : Array Value) (w : World) (es : Array Event) : (callFunc f args).runT P w es = (.ok (.enter f args) w, es) := by
  unfold callFunc program
  show Sem.runT P (Sem.bind _ _) w es = _
  rw [Sem.runT_bind']
  simp only [Sem.runT, h1, h2, h3, Option.isNone_some, if_false, Bool.false_eq_true]
  rfl
theorem F6 {f : FuncId} {fn : Func} {c : Code} (h1 : P.funcs[f]? = some fn) (h3 : fn.body = some c) (h4 : iO A S f c = true) {args : Array Value} (hs : ∀ t ∈ S f, ∀ v, args[t]? = some v → rH A S v) : nE A S P (Frame.enter P f args .normal) := by
  refine ⟨?_, rfl, rfl, rfl, ⟨fn, h1⟩, ?_⟩
  · intro i hi
    simp only [Frame.enter, h1, h3, Option.bind_some, Option.getD_some, List.mem_singleton] at hi
    subst hi
    exact h4
  · intro t ht
    have hs' := hs t ht
    simp only [Frame.enter]
    rw [Array.getD_eq_getD_getElem?, Array.getElem?_append]
    split
    · cases hv : args[t]? with
      | none => exact qL A S
      | some v => exact hs' v hv
    · rw [Array.getElem?_replicate]
      split <;> exact qL A S
theorem Qt (hP : xE A S P) {fr : Frame} (hfin : ∀ v, nE A S P (fr.finish v)) {f : FuncId} (hA : A f = true) {args : Array Value} (hs : ∀ t ∈ S f, ∀ v, args[t]? = some v → rH A S v) :
    ∃ s : Sem Next, Plain [] s ∧ dN (uV A S P fr) s ∧ ∀ w, (callFunc f args).runT P w #[] = s.runT P w #[] := by
  rcases hP.code f hA with ⟨fn, c, h1, h2, h3, h4⟩ | ⟨e, he⟩
  · exact ⟨pure (.enter f args), trivial, .inr (.inr ⟨f, args, rfl, F6 h1 h3 h4 hs, hfin⟩), fun w => LQ h1 h2 h3 args w #[]⟩
  · refine ⟨_, ?_, ?_, fun w => (he args).2 w #[]⟩
    · exact Plain.bind' (⟨trivial, trivial⟩ : Plain [] (mark (.extern f))) fun _ => Plain.bind' (he args).1 fun _ => trivial
    · refine dN.bind (fun _ => dN.bind (fun v => ?_) _) _
      exact .inl ⟨v, rfl, hfin v⟩
theorem Cu {b : Builtin} (h : tH b = true) (ts : Array TypeId) (t : TypeId) (cn : Array Bool) (args : Array Value) : Plain [] (builtin b ts t cn args) ∧ dN isVal (builtin b ts t cn args) := by
  cases b <;> first | (exact absurd (show false = true from h) (by decide)) | skip
  all_goals unfold builtin
  all_goals dsimp only
  all_goals exact ⟨Bf (by first | with_reducible apply xz | with_reducible apply Ci | with_reducible apply zt | with_reducible apply Be | with_reducible apply xA | with_reducible apply Cj | with_reducible apply Cn | with_reducible apply Cq), Bg _⟩
theorem F7 {fr : Frame} (hfin : ∀ v, nE A S P (fr.finish v)) {n : Next} (h : isVal n) : uV A S P fr n := by
  rcases h with ⟨v, rfl⟩ | rfl
  · exact .inl ⟨v, rfl, hfin v⟩
  · exact .inr (.inl ⟨rfl, hfin undef⟩)
theorem LU (hP : xE A S P) {fr : Frame} (hs : tJ A S fr.fn fr.tmps) (hfin : ∀ v, nE A S P (fr.finish v)) {o : Oper} {c : Call} (ho : o.op = .call c) (h : Dv A S fr.fn o.op = true) :
    ∃ s : Sem Next, Plain [] s ∧ dN (uV A S P fr) s ∧ ∀ w, (execOp fr.eval o).runT P w #[] = s.runT P w #[] := by
  obtain ⟨dst, op, type, pos, after, guard⟩ := o
  simp only at ho
  subst ho
  obtain ⟨callee, args, argTypes⟩ := c
  have e : execOp fr.eval { dst, op := .call { callee, args, argTypes }, type, pos, after, guard } = (do let d ← resolve fr.eval { callee, args, argTypes } type; invoke d.target d.args) := rfl
  rw [e]
  cases callee with
  | builtin b =>
    have e2 : (do let d ← resolve fr.eval { callee := .builtin b, args, argTypes } type; invoke d.target d.args : Sem Next) = builtin b argTypes type (args.map fun | .const _ => true | _ => false) (args.map fr.eval) := rfl
    rw [e2]
    have hb := Cu (show tH b = true from h) argTypes type (args.map fun | .const _ => true | _ => false) (args.map fr.eval)
    exact ⟨_, hb.1, hb.2.mono fun n => F7 hfin, fun _ => rfl⟩
  | invoke r m => exact absurd (show false = true from h) (by decide)
  | value x =>
    cases x with
    | const v => exact absurd (show false = true from h) (by decide)
    | global g => exact absurd (show false = true from h) (by decide)
    | func f =>
      have h' : (A f && (S f).all fun t => match args[t]? with | some x => za A S fr.fn x | none => true) = true := h
      simp only [Bool.and_eq_true, List.all_eq_true] at h'
      obtain ⟨hA, hall⟩ := h'
      have e2 : (do let d ← resolve fr.eval { callee := .value (.func f), args, argTypes } type; invoke d.target d.args : Sem Next) = callFunc f ((#[] ++ args.map fr.eval) ++ #[]) := rfl
      rw [e2]
      refine Qt hP hfin hA fun t ht v hv => ?_
      have hx := hall t ht
      simp only [Array.append_empty, Array.empty_append, Array.getElem?_map] at hv
      cases ha : args[t]? with
      | none => rw [ha] at hv; cases hv
      | some x =>
        rw [ha] at hv hx
        cases hv
        exact xG hx hs
    | tmp t =>
      have ht : t ∈ S fr.fn := by
        have h' : (S fr.fn).contains t = true := h
        simpa using h'
      have hv := hs t ht
      have e2 : (do let d ← resolve fr.eval { callee := .value (.tmp t), args, argTypes } type; invoke d.target d.args : Sem Next) = (do let d ← Deferred.ofValue (fr.tmps.getD t undef) (args.map fr.eval); invoke d.target d.args) := rfl
      rw [e2]
      generalize fr.tmps.getD t undef = v at hv
      cases v with
      | func fn first cap =>
        obtain ⟨f, rfl, hA, hS⟩ := hv fn first cap rfl
        have e3 : (do let d ← Deferred.ofValue (.func (.func f) first cap) (args.map fr.eval); invoke d.target d.args : Sem Next) = callFunc f ((first ++ args.map fr.eval) ++ cap) := rfl
        rw [e3]
        exact Qt hP hfin hA (by rw [hS]; intro t ht; cases ht)
      | nilFunc => exact ⟨_, eH (α := Next) .nilDeref, LP, fun _ => rfl⟩
      | _ => exact ⟨stuck "call: function value expected", trivial, trivial, fun _ => rfl⟩
def kQ {α : Type} (b : Bool) : Sem α → Prop
  | .pure _ => b = true
  | .sys _ k => ∀ r, kQ b (k r)
  | .program k => ∀ p, kQ b (k p)
  | .new _ k => ∀ r, kQ b (k r)
  | .halt h => sD h ∧ ∀ g, h ≠ .unsupported (.initOrder g)
  | _ => False
theorem kQ.bind {α β : Type} {b c : Bool} {f : α → Sem β} {s : Sem α} (h : kQ c s) (hf : ∀ a, c = true → kQ b (f a)) : kQ b (s >>= f) := by
  show kQ b (s.bind f)
  induction s with
  | pure a => exact hf a h
  | new o k ih => exact fun r => ih r (h r)
  | sys c k ih => exact fun v => ih v (h v)
  | program k ih => exact fun v => ih v (h v)
  | halt x => exact h
  | _ => exact h.elim
theorem OJ {α : Type} (s : Sem α) : ∀ (w : World) (es : Array Event), kQ false s → ∃ h w' es', sD h ∧ s.runT P w es = (.halt h w', es') ∧ ∀ g, h ≠ .unsupported (.initOrder g) := by
  induction s with
  | pure a => exact fun w es h => absurd (show false = true from h) (by decide)
  | new o k ih => exact fun w es h => ih _ _ es (h _)
  | sys c k ih => exact fun w es h => ih _ _ _ (h _)
  | program k ih => exact fun w es h => ih _ w es (h _)
  | halt x => exact fun w es h => ⟨x, w, es, h.1, rfl, h.2⟩
  | _ => exact fun w es h => h.elim
theorem Kh (v : Value) : kQ false (Instr.panic v) := by
  unfold Instr.panic
  have hu : ∀ t, kQ true (underlying t) := by
    intro t
    unfold underlying
    refine kQ.bind (c := true) (fun p => rfl) fun p _ => ?_
    split
    · exact rfl
    · exact ⟨trivial, nofun⟩
  have hn : kQ true Instr.panicnil := by
    unfold Instr.panicnil
    refine kQ.bind (c := true) (fun r => rfl) fun r _ => ?_
    split
    · refine kQ.bind (c := true) (fun p => rfl) fun p _ => rfl
    · exact ⟨trivial, nofun⟩
  have hr : kQ false (runtimePanic .panicNil : Sem Value) := by
    unfold runtimePanic
    refine kQ.bind (c := true) (fun p => rfl) fun p _ => ?_
    dsimp only
    refine kQ.bind (c := true) ?_ fun t _ => ?_
    · unfold elemOf
      refine kQ.bind (c := true) (hu _) fun d _ => ?_
      split
      · exact rfl
      · exact ⟨trivial, nofun⟩
    · refine kQ.bind (c := true) ?_ fun a _ => ⟨trivial, nofun⟩
      exact fun r => rfl
  split
  · exact ⟨trivial, nofun⟩
  · refine kQ.bind hn fun n _ => ?_
    split
    · exact ⟨trivial, nofun⟩
    · exact hr
  · exact ⟨trivial, nofun⟩
theorem LV {fr : Frame} (kr : List Item) (cs : List Frame) {ab : List Frame} (hf : nE A S P fr) (hm : fr.mode = .run) (hab : ∀ c ∈ ab, Ct A S P c) {ops : Array Oper} {l : List Nat} {k : List Item} (ht : fr.todo = .inRegion ops l :: k) (o : Oper) (x : Operand) (ho : o.op = .panic x) (w : World) : ze cs (stepG.apply P true (Frame.up fr (bk ab kr)) (ext kr ab ++ cs) none (execOp fr.eval o) w) := by
  obtain ⟨dst, op, type, pos, after, guard⟩ := o
  simp only at ho
  subst ho
  have e : execOp fr.eval { dst, op := .panic x, type, pos, after, guard } = (do pure (Next.value (← Instr.panic (fr.eval x)))) := rfl
  have hd := F5 kr hab
  have hr : ∃ h w' es, sD h ∧ (execOp fr.eval { dst, op := .panic x, type, pos, after, guard }).runT P w #[] = (.halt h w', es) ∧ ∀ g, h ≠ .unsupported (.initOrder g) := by
    rw [e]
    exact OJ _ w #[] (kQ.bind (Kh _) fun _ h => absurd h (by decide))
  obtain ⟨h, w', es, hh, hr, hg⟩ := hr
  have mI : (Frame.up fr (bk ab kr)).todo = .inRegion ops l :: (k ++ bk ab kr) := by unfold Frame.up; rw [ht]; rfl
  have TJ : ((Frame.up fr (bk ab kr)).kind == CallKind.early) = false := hf.kind
  have hmu : (Frame.up fr (bk ab kr)).mode = .run := hm
  unfold stepG.apply
  simp only [if_true, hr, mI, TJ]
  cases h with
  | panic v =>
    refine .inr ⟨Frame.up fr (bk ab kr), ext kr ab, [{ v, recovered := false }], w', seen P fr.fn es ++ #[], hf.defers, hd, ?_⟩
    unfold Frame.raise
    rw [hmu]
    rfl
  | unsupported u =>
    cases u with
    | initOrder g => exact absurd rfl (hg g)
    | _ => exact .inl ⟨_, _, _, rfl⟩
  | stuck m => exact .inl ⟨_, _, _, rfl⟩
  | _ => exact hh.elim
end
end
end Go.Proofs.YtignemioillaiaaGreat
