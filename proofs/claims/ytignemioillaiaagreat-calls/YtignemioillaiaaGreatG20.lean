/- Operations that touch memory, and calls: what is asked of them. -/
import Derived.Test.YtignemioillaiaaGreatG16
import Derived.Test.YtignemioillaiaaGreatG19
namespace Go.Proofs.YtignemioillaiaaGreat
set_option maxHeartbeats 8000000
set_option maxRecDepth 100000
section
open Go Go.Conc
/-- Events and channels are as they must be. -/
def Fine (P : Program) (s : Sem Next) (w : World) : Prop := (∀ e ∈ s.events P w #[], okEv e) ∧ ChEq w (resW (s.run P w))
theorem Fine.plain {P : Program} {s : Sem Next} (h : Plain [] s) (w : World) : Fine P s w := run_events h w
theorem Fine.quiet {P : Program} {s : Sem Next} {a : Next} (h : quietS P s = some a) (w : World) : Fine P s w := by
  refine ⟨fun e he => ?_, ?_⟩
  · rw [quietS_ev h] at he; simp at he
  · rw [quietS_run h]; exact ChEq.refl _
/-- What a call may be by: a contract whoever is beside (serY), or one for those beside leavers alone. -/
class Ser (P : Program) where
  ca : FuncId → Array Value → World → (Value → World → Prop) → Prop
  same : ∀ {f : FuncId} {args : Array Value} {w w₁ : World} {Post : Value → World → Prop}, ca f args w Post → SameW w w₁ → ca f args w₁ Post
  Φ : Bool → (World → World → Array Event → Prop) → (Goroutine → World → Prop) → Prop
  serve : ∀ {main : Bool} {D : World → World → Array Event → Prop} {X : Goroutine → World → Prop}, Shut P main D X → Φ main D X → ∀ {f : FuncId} {args : Array Value} {w : World} {Post : Value → World → Prop} {cF : Frame} {cs : List Frame}, ca f args w Post → (∀ v w', Post v w' → X (G (cF.finish v) cs) w') → X (G (Frame.enter P f args .normal) (cF :: cs)) w
structure SX (P : Program) [Ser P] (main : Bool) (D : World → World → Array Event → Prop) (X : Goroutine → World → Prop) : Prop extends Shut P main D X where
  phi : Ser.Φ P main D X
instance serY (P : Program) : Ser P := ⟨CallsY P, fun h hs => h.same hs, fun _ _ _ => True, fun hX _ => fun h hk => h _ _ _ _ hX fun _ v w' _ hl hp => hX.back hl (hk v w' hp)⟩
/-- An operation, whatever it does. -/
def OpY (P : Program) [Ser P] (o : Oper) (r : Operand → Value) (w : World) (K : Value → World → Prop) : Prop :=
  (∀ w₁, SameW w w₁ → Fine P (execOp r o) w₁ ∧ ∃ v w', ((execOp r o).run P w₁ = .ok (.value v) w' ∨ ((execOp r o).run P w₁ = .ok .skip w' ∧ v = undef)) ∧ K v w') ∨
  (∃ f args Post, (∀ w, (execOp r o).run P w = .ok (.enter f args) w) ∧ (∀ w, (execOp r o).events P w #[] = #[]) ∧ Ser.ca P f args w Post ∧ ∀ v w', Post v w' → K v w')
section
variable {P : Program} [Ser P] {main : Bool} {D : World → World → Array Event → Prop} {X : Goroutine → World → Prop} {b : Frame} {k : List Item} {cs : List Frame} {ops : Array Oper} {w : World} {o : Oper} {r : Operand → Value} {K : Value → World → Prop}
theorem OpY.go (hX : SX P main D X) {i : Nat} {rest : List Nat} {a : Act} (ho : ops[i]? = some o) (hw : Region.wanted o (yielded ops a.tmps) = true) (hk : b.kind ≠ .early) (h : OpY P o a.eval w K) (hK : ∀ v w', K v w' → X (G (b.at (a.put o.dst v) (.inRegion ops rest :: k)) cs) w') : X (G (b.at a (.inRegion ops (i :: rest) :: k)) cs) w := by
  rcases h with h | ⟨f, args, Post, h1, h2, h3, h4⟩
  · refine hX.step rfl fun w₁ h1 => ?_
    obtain ⟨⟨hev, hch⟩, v, w', hr, hx⟩ := h w₁ h1
    have hev' : ∀ e ∈ listed P b.fn a o w₁, okEv e := fun e he => hev e (seen_sub _ _ _ e he)
    rcases hr with hr | ⟨hr, rfl⟩
    · rw [stepG_value ho hw hk hr, goes_go]
      rw [hr] at hch
      exact ⟨hX.plain ⟨hev', hch⟩, hK _ _ hx⟩
    · rw [stepG_none ho hw hk hr, goes_go]
      rw [hr] at hch
      exact ⟨hX.plain ⟨hev', hch⟩, hK _ _ hx⟩
  · refine Ctl.enter hX.c ho hw hk h1 h2 (Ser.serve hX.toShut hX.phi h3 fun v w' hp => ?_)
    rw [Frame.finish_at, ho]
    exact hK _ _ (h4 v w' hp)
theorem OpY.mono {K' : Value → World → Prop} (h : OpY P o r w K) (hk : ∀ v w, K v w → K' v w) : OpY P o r w K' := by
  rcases h with h | ⟨f, args, Post, h1, h2, h3, h4⟩
  · exact .inl fun w₁ hs => ⟨(h w₁ hs).1, by obtain ⟨v, w', e1, e2⟩ := (h w₁ hs).2; exact ⟨v, w', e1, hk _ _ e2⟩⟩
  · exact .inr ⟨f, args, Post, h1, h2, h3, fun v w' hp => hk _ _ (h4 v w' hp)⟩
theorem OpY.same {w₁ : World} (h : OpY P o r w K) (hs : SameW w w₁) : OpY P o r w₁ K := by
  rcases h with h | ⟨f, args, Post, h1, h2, h3, h4⟩
  · exact .inl fun w₂ h2 => h w₂ (sameW_trans _ _ _ hs h2)
  · exact .inr ⟨f, args, Post, h1, h2, Ser.same h3 hs, h4⟩
end
/-- One of two, as the engine reckons. -/
def sif (c : Bool) (A B : Prop) : Prop := match c with
  | true => A
  | false => B
/-- May it be called? -/
def callable (P : Program) (g : Nat) : Bool := match P.funcs[g]? with
  | some fn => !(fn.name == "runtime.NumGoroutine") && !fn.body.isNone
  | none => false
/-- What the engine knows of a program. -/
structure Eng (P : Program) where
  T : Tys
  fok : Nat → Bool
  tab : Tab P T
  fns : ∀ g, fok g = true → callable P g = true
  ice : Nat → Nat × Nat
/-- Is it a single cell? -/
def one (v : Value) : Bool := match v with
  | .agg _ => false
  | .tuple _ => false
  | _ => true
theorem one_cell {v : Value} (h : one v = true) : v.oneCell' = true := by cases v <;> first | rfl | cases h
def okSt (xs : List Value) (off n : Nat) (v : Value) : Bool := Nat.beq v.cells.toList.length n && v.cells.toList.all one && Nat.ble (off + n) xs.length
/-- What append gives: the old row, grown in place, or a new one. -/
structure Grw (a : Option Addr) (n c m : Nat) (w : World) (v' : Value) : Prop where
  own : ∀ g, v'.ownBlock = some g → (Value.slice a n c).ownBlock = some g ∨ w.heap.size ≤ g
  inp : ∀ g, a = some ⟨g, 0, none⟩ → n + m ≤ c → v' = .slice a (n + m) c
instance {a : Option Addr} {n c m : Nat} {w : World} {v' : Value} : CoeFun (Grw a n c m w v') (fun _ => ∀ g, v'.ownBlock = some g → (Value.slice a n c).ownBlock = some g ∨ w.heap.size ≤ g) := ⟨Grw.own⟩
instance {a : Option Addr} {n c m : Nat} {w : World} {v' : Value} : CoeOut (Grw a n c m w v') (∀ g, v'.ownBlock = some g → (Value.slice a n c).ownBlock = some g ∨ w.heap.size ≤ g) := ⟨Grw.own⟩
section
variable {P : Program} (E : Eng P) (s : Sg) (w : World) (K : Value → World → Prop)
/-- A load. -/
noncomputable def ldW (t : Nat) : Option Value → Prop
  | some (.pointer (some ⟨b, off, none⟩)) => match E.T.get t with
    | some y => ∃ xs ty, w.heap[b]? = some (.cells xs ty (E.ice b)) ∧ sif (isS y) (sif (Nat.beq (szT E.T t) 0) False (∃ c, cutL xs.toList off (szT E.T t) = c ∧ c.length = szT E.T t ∧ K (.agg c.toArray) w)) (∃ v, xs.toList[off]? = some v ∧ K v w)
    | none => False
  | _ => False
/-- A store. -/
noncomputable def stW (t : Nat) : Option Value → Option Value → Prop
  | some (.pointer (some ⟨b, off, none⟩)), some v => match E.T.get t with
    | some _ => ∃ xs ty ys, w.heap[b]? = some (.cells xs ty) ∧ okSt xs.toList off (szT E.T t) v = true ∧ xs.toList.take off ++ v.cells.toList ++ xs.toList.drop (off + szT E.T t) = ys ∧ ∀ w', w'.heap[b]? = some (.cells ys.toArray ty) → GB (some b) w w' → K undef w'
    | none => False
  | _, _ => False
/-- A new block. -/
def mkW (o : Obj) (v : Nat → Value) : Prop := ∀ w' b, w'.heap[b]? = some o → GB none w w' → w.heap.size ≤ b → K (v b) w'
/-- A call. -/
noncomputable def caW [Ser P] : Option Value → Option (List Value) → Prop
  | some (.func (.func g) fs cs), some vs => sif (E.fok g) (∃ Post, Ser.ca P g ((fs ++ vs.toArray) ++ cs) w Post ∧ ∀ v w', Post v w' → K v w') (∃ v, ∀ w₁, SameW w w₁ → (Fine P (callFunc g ((fs ++ vs.toArray) ++ cs)) w₁ ∧ (callFunc g ((fs ++ vs.toArray) ++ cs)).run P w₁ = .ok (.value v) w₁) ∧ K v w₁)
  | _, _ => False
/-- What is appended. -/
def srcW (size : Nat) (m : Nat) (news : List Value) : Option Addr → Prop
  | some ⟨B, off, none⟩ => ∃ nb tb, w.heap[B]? = some (.cells nb tb) ∧ cutL nb.toList off (m * size) = news ∧ news.length = m * size ∧ news.all one = true
  | _ => False
noncomputable def apW (t : Nat) : Option Value → Option Value → Prop
  | some (.slice a n c), some (.slice none 0 _) => match E.T.get t with
    | some (.l e) => match E.T.get e with
      | some _ => n ≤ c ∧ K (.slice a n c) w
      | none => False
    | _ => False
  | some (.slice a n c), some (.slice (some ad) m _) => match E.T.get t with
    | some (.l e) => match E.T.get e with
      | some _ => sif (Nat.beq (szT E.T e) 0) False <| ∃ xs news, w.ownsRow 0 e (szT E.T e) (.slice a n c) n xs ∧ srcW w (szT E.T e) m news (some ad) ∧ n + m ≤ 1000000000 ∧ ∀ v' w', w'.ownsRow 0 e (szT E.T e) v' (n + m) (xs ++ news) → GB (Value.slice a n c).ownBlock w w' → Grw a n c m w v' → K v' w'
      | none => False
    | _ => False
  | _, _ => False
/-- append of zeros, where there is no room. -/
noncomputable def azW (t tn : Nat) : Option Value → Option Value → Prop
  | some (.slice a n c), some (.int _ m) => match E.T.get t, E.T.get tn with
    | some (.l e), some (.i _) => match E.T.get e with
      | some _ => sif (Nat.beq (szT E.T e) 0) False <| ∃ xs, w.ownsRow 0 e (szT E.T e) (.slice a n c) n xs ∧ 0 < m ∧ (c : Int) < n + m ∧ (n : Int) + m ≤ 1000000000 ∧ ∀ b cap cur w', w'.heap[b]? = some (.cells cur e) → cur.size = cap * szT E.T e → cur.toList.take (n * szT E.T e) = xs → n + m.toNat ≤ cap → cap ≤ maxLen → GB none w w' → w.heap.size ≤ b → K (.slice (some ⟨b, 0, none⟩) (n + m.toNat) cap) w'
      | none => False
    | _, _ => False
  | _, _ => False
noncomputable def cpW (t : Nat) : Option Value → Option Value → Prop
  | some (.slice (some ⟨g, off, none⟩) n _), some (.slice (some ad) m _) => match E.T.get t with
    | some (.l e) => match E.T.get e with
      | some _ => ∃ cur te news, w.heap[g]? = some (.cells cur te) ∧ srcW w (szT E.T e) (Nat.min m n) news (some ad) ∧ off + news.length ≤ cur.size ∧ ∀ w', w'.heap[g]? = some (.cells (cur.toList.take off ++ news ++ cur.toList.drop (off + news.length)).toArray te) → GB (some g) w w' → K (.int .i64 (Nat.min m n)) w'
      | none => False
    | _ => False
  | _, _ => False
noncomputable def csW (e : Nat) : Option Value → Prop
  | some (.slice (some ⟨g, off, none⟩) n _) => match E.T.get e with
    | some _ => sif ((zc E.T e).all one) (0 < n ∧ ∃ cur te, w.heap[g]? = some (.cells cur te) ∧ off + n * szT E.T e ≤ cur.size ∧ ∀ zs w', zs.length = n * szT E.T e → w'.heap[g]? = some (.cells (cur.toList.take off ++ zs ++ cur.toList.drop (off + zs.length)).toArray te) → GB (some g) w w' → K (.tuple #[]) w') False
    | none => False
  | _ => False
noncomputable def cvW (t t' : Nat) : Option Value → Prop
  | some (.slice a n c) => match E.T.get t, E.T.get t' with
    | some (.l e), some .t => match E.T.get e with
      | some (.i .u8) => ∃ l : List Int, w.ownsRow 0 e 1 (.slice a n c) n (l.map fun b => .int .u8 b) ∧ K (.string (bstr l)) w
      | _ => False
    | _, _ => False
  | _ => False
noncomputable def msW (t : Nat) : Option Value → Option Value → Prop
  | some (.int _ i), some (.int _ j) => match E.T.get t with
    | some (.l e) => match E.T.get e with
      | some _ => i = j ∧ 0 ≤ i ∧ i ≤ 1000 ∧ mkW w K (.cells ((List.range (i.toNat * szT E.T e)).map fun q => (zc E.T e).getD (q % szT E.T e) undef).toArray e) fun b => .slice (some ⟨b, 0, none⟩) i.toNat i.toNat
      | none => False
    | _ => False
  | _, _ => False
/-- Maps with keys of 32 bits. -/
noncomputable def mapT (t : Nat) : Option (Nat × Nat) := match E.T.get t with
  | some (.m key e) => match E.T.get key, E.T.get e with
    | some (.i .u32), some _ => some (key, e)
    | _, _ => none
  | _ => none
noncomputable def luW (t : Nat) (ok : Bool) : Option Value → Option Value → Prop
  | some (.map (some m)), some (.int .u32 n) => match mapT E t with
    | some (_, e) => ∃ f, MapF w m f ∧ K (bif ok then .tuple #[(f n).getD (zv E.T e ((E.T.get e).getD .p)), .bool (f n).isSome] else (f n).getD (zv E.T e ((E.T.get e).getD .p))) w
    | none => False
  | _, _ => False
noncomputable def muW (t : Nat) : Option Value → Option Value → Option Value → Prop
  | some (.map (some m)), some (.int .u32 n), some v => match mapT E t with
    | some _ => ∃ f, MapF w m f ∧ ∀ w', MapF w' m (updF f n (some v)) → GB (some m) w w' → K undef w'
    | none => False
  | _, _, _ => False
noncomputable def mdW (t t' : Nat) : Option Value → Option Value → Prop
  | some (.map (some m)), some (.int .u32 n) => match mapT E t with
    | some (key, _) => sif (Nat.beq key t') (∃ f, MapF w m f ∧ ∀ w', MapF w' m (updF f n none) → GB (some m) w w' → K (.tuple #[]) w') False
    | none => False
  | _, _ => False
noncomputable def mcW (t : Nat) : Option Value → Prop
  | some (.map (some m)) => match mapT E t with
    | some _ => ∃ f, MapF w m f ∧ ∀ w', MapF w' m (fun _ => none) → GB (some m) w w' → K (.tuple #[]) w'
    | none => False
  | _ => False
noncomputable def rgW (t : Nat) : Option Value → Prop
  | some (.map (some m)) => match mapT E t with
    | some _ => ∃ l, MapL w m l ∧ ∀ w' b, ItE w' b m l l none → GB none w w' → w.heap.size ≤ b → K (.pointer (some ⟨b, 0, none⟩)) w'
    | none => False
  | _ => False
def nxW : Option Value → Prop
  | some (.pointer (some ⟨it, 0, none⟩)) => ∃ m l todo cur, ItE w it m l todo cur ∧ (todo = [] → K (.tuple #[.bool false]) w) ∧ ∀ i p w', todo[i]? = some p → ItE w' it m l (todo.eraseIdx i) (some p) → GB (some it) w w' → K (.tuple #[.bool true, .int .u32 p.1, p.2]) w'
  | _ => False
def enW : Option Value → Prop
  | some (.pointer (some ⟨it, 0, none⟩)) => ∃ m l todo p, ItE w it m l todo (some p) ∧ K (.tuple #[.int .u32 p.1, p.2]) w
  | _ => False
noncomputable def effW [Ser P] : Op → Prop
  | .range t x => rgW E w K t (ev s x)
  | .next x false => nxW w K (ev s x)
  | .entry x => enW w K (ev s x)
  | .load t x => ldW E w K t (ev s x)
  | .store t x y => stW E w K t (ev s x) (ev s y)
  | .box t x => match ev s x, E.T.get t with
    | some v, some _ => mkW w K (.cells v.cells t) fun b => .pointer (some ⟨b, 0, none⟩)
    | _, _ => False
  | .alloc t => match E.T.get t with
    | some _ => mkW w K (.cells (zc E.T t).toArray t) fun b => .pointer (some ⟨b, 0, none⟩)
    | _ => False
  | .buildSlice t n ps => match E.T.get t, evP (ev s) ps.toList with
    | some (.l e), some vs => match E.T.get e, fillL ((List.range n).map fun i => (i * szT E.T e, szT E.T e)) ((List.range (n * szT E.T e)).map fun i => (zc E.T e).getD (i % szT E.T e) undef) vs with
      | some _, some cs => sif (Nat.ble (n * szT E.T e) 1000 && Nat.blt 0 (szT E.T e)) (mkW w K (.cells cs.toArray e) fun b => .slice (some ⟨b, 0, none⟩) n n) False
      | _, _ => False
    | _, _ => False
  | .convert t t' x => cvW E w K t t' (ev s x)
  | .makeSlice t x y => msW E w K t (ev s x) (ev s y)
  | .makeMap t none => match mapT E t with
    | some _ => ∀ w' b, MapF w' b (fun _ => none) → GB none w w' → w.heap.size ≤ b → K (.map (some b)) w'
    | none => False
  | .lookup t x y ok => luW E w K t ok (ev s x) (ev s y)
  | .mapUpdate t x y z => muW E w K t (ev s x) (ev s y) (ev s z)
  | .call { callee := .value f, args, .. } => caW E w K (ev s f) (evL (ev s) args.toList)
  | .call { callee := .builtin b, args, argTypes } => match b, args.toList, argTypes.toList with
    | .append, [x, y], [t, t'] => sif (Nat.beq t t') (apW E w K t (ev s x) (ev s y)) (azW E w K t t' (ev s x) (ev s y))
    | .copy, [x, y], [t, _t'] => cpW E w K t (ev s x) (ev s y)
    | .delete, [x, y], [t, t'] => mdW E w K t t' (ev s x) (ev s y)
    | .clear, [x], [t] => match E.T.get t with
      | some (.l e) => csW E w K e (ev s x)
      | _ => mcW E w K t (ev s x)
    | _, _, _ => False
  | _ => False
/-- An operation. -/
noncomputable def opW [Ser P] (o : Oper) : Prop := match qall E.T (ev s) o.op with
  | .v x => K x w
  | .c p x => p ∧ K x w
  | .d p x y => (p ∧ K x w) ∨ K y w
  | .no => effW E s w K o.op
end
end
end Go.Proofs.YtignemioillaiaaGreat
