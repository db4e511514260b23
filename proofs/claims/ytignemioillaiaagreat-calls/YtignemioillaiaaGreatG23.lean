/- Every step of allowed code is one plain run: the whole. -/
import Derived.Test.YtignemioillaiaaGreatG22
import Derived.Calls
import Derived.Conc.Beside
namespace Go.Proofs.YtignemioillaiaaGreat
set_option maxHeartbeats 8000000
set_option maxRecDepth 100000
section
open Go
section
variable {A : FuncId → Bool} {S : FuncId → List Nat} {P : Program}
theorem LW {k : List Item} {cs st : List Frame} {w : World} {r : GStep} (h : r = .go (tK (ext k st) cs) w #[]) : Same k cs r ((pure st : Sem (List Frame)).runT P w #[]) := ⟨#[], h, by simp⟩
theorem LX {k : List Item} {cs : List Frame} {w : World} {r : GStep} (h : k = [] ∨ k = km → ze cs r) : Same k cs r ((stuck "" : Sem (List Frame)).runT P w #[]) := h
def EO (st : List Frame) : Prop := ∃ fr, st = [fr] ∧ fr.mode = .run ∧ fr.todo = []
def fw (A : FuncId → Bool) (S : FuncId → List Nat) (P : Program) (st : List Frame) : Prop :=
  ∃ s : Sem (List Frame), Plain [] s ∧ dN (oH A S P) s ∧ ∀ main cs w k, (EO st → k = []) → Same k cs (stepG P main (tK (ext k st) cs) w) (s.runT P w #[])
theorem fw.pure {fr : Frame} {ab st' : List Frame} (h : oH A S P st') (hs : ∀ main cs w k, (EO (fr :: ab) → k = []) → stepG P main { frame := Frame.up fr (bk ab k), callers := ext k ab ++ cs, status := .running, dying := none } w = .go (tK (ext k st') cs) w #[]) : fw A S P (fr :: ab) := ⟨Pure.pure st', trivial, h, fun main cs w k hk => LW (hs main cs w k hk)⟩
theorem fw.bad {fr : Frame} {ab : List Frame} (hs : ∀ main cs w k, k = [] ∨ k = km → ze cs (stepG P main { frame := Frame.up fr (bk ab k), callers := ext k ab ++ cs, status := .running, dying := none } w)) : fw A S P (fr :: ab) := ⟨stuck "", trivial, trivial, fun main cs w k _ => LX (hs main cs w k)⟩
theorem vE {id : Nat} : ∀ {k k' : List Item} (x : List Item), exitTo id k = some k' → exitTo id (k ++ x) = some (k' ++ x)
  | [], _, _, h => by cases h
  | a :: k, k', x, h => by
    cases a <;> simp only [List.cons_append, exitTo] at h ⊢ <;> first
      | (split at h; (· (rename_i hc; rw [if_pos hc]; cases h; rfl)); (· (rename_i hc; rw [if_neg hc]; exact vE x h)))
      | exact vE x h
      | cases h
theorem xJ {id : Nat} : ∀ {k : List Item}, exitTo id k = none → exitTo id (k ++ km) = none
  | [], _ => rfl
  | a :: k, h => by
    cases a <;> simp only [List.cons_append, exitTo] at h ⊢ <;> first
      | (split at h; (· cases h); (· (rename_i hc; rw [if_neg hc]; exact xJ h)))
      | exact xJ h
      | cases h
theorem LY (_hP : xE A S P) {fr : Frame} (hs : tJ A S fr.fn fr.tmps) {o : Oper} (h : Cs A S fr.fn o.op = true) : dN (fun n => ∃ v, n = .value v ∧ rH A S v) (execOp fr.eval o) := by
  obtain ⟨dst, op, type, pos, after, guard⟩ := o
  cases op <;> first | (exact absurd (show false = true from h) (by decide)) | skip
  case move x => exact ⟨_, rfl, xG h hs⟩
  case assign x => exact ⟨_, rfl, xG h hs⟩
  case makeFunc fn first cap =>
    cases fn with
    | func f =>
      have h' : (A f && (S f).isEmpty) = true := h
      simp only [Bool.and_eq_true, List.isEmpty_iff] at h'
      refine ⟨_, rfl, fun fn a b e => ?_⟩
      cases e
      exact ⟨f, rfl, h'.1, h'.2⟩
    | _ => exact absurd (show false = true from h) (by decide)
theorem RZ (hP : xE A S P) {fr : Frame} {ab : List Frame} (hf : nE A S P fr) (hm : fr.mode = .run) (hab : ∀ c ∈ ab, Ct A S P c) (hno : mY (fr :: ab)) {ops : Array Oper} {i : Nat} {l : List Nat} {k : List Item} (ht : fr.todo = .inRegion ops (i :: l) :: k)
    (hw : ((ops[i]?).map (Region.wanted · (yielded ops fr.tmps))).getD false = true) : fw A S P (fr :: ab) := by
  cases ho : ops[i]? with
  | none => rw [ho] at hw; cases hw
  | some o =>
    have hmem : o ∈ ops := by
      obtain ⟨hlt, rfl⟩ := Array.getElem?_eq_some_iff.1 ho
      exact Array.getElem_mem hlt
    have hok : xD A S fr.fn o = true := hf.todo (.inRegion ops (i :: l)) (by rw [ht]; simp) o hmem
    simp only [xD, Bool.and_eq_true] at hok
    obtain ⟨hop, hdst⟩ := hok
    have hstep : ∀ main cs w kr, stepG P main { frame := Frame.up fr (bk ab kr), callers := ext kr ab ++ cs, status := .running, dying := none } w = stepG.apply P true (Frame.up fr (bk ab kr)) (ext kr ab ++ cs) none (execOp fr.eval o) w := by
      intro main cs w kr
      have hw' := hw
      rw [ho] at hw'
      have mI : (Frame.up fr (bk ab kr)).todo = .inRegion ops (i :: l) :: (k ++ bk ab kr) := by unfold Frame.up; rw [ht]; rfl
      have hmu : (Frame.up fr (bk ab kr)).mode = .run := hm
      have Qu : (Frame.up fr (bk ab kr)).roundOf = none := hf.round
      have TK : (Frame.up fr (bk ab kr)).tmps = fr.tmps := rfl
      rw [← Dw fr (bk ab kr)]
      simp only [stepG, hmu, stepG.exec, mI, TK, ho, hw', if_true, stepG.oper, Frame.oper?, Qu]
    by_cases TL : ∃ x, o.op = .panic x
    · obtain ⟨x, hx⟩ := TL
      exact fw.bad fun main cs w kr _ => by rw [hstep]; exact LV kr cs hf hm hab ht o x hx w
    · have main : ∃ s : Sem Next, Plain [] s ∧ dN (uV A S P fr) s ∧ ∀ w, (execOp fr.eval o).runT P w #[] = s.runT P w #[] := by
        by_cases hcall : ∃ c, o.op = .call c
        · obtain ⟨c, hc⟩ := hcall
          refine LU hP hf.slots (fun v => hf.finish ht fun o' d ho' hd hS => ?_) hc hop
          rw [ho] at ho'
          cases ho'
          rw [hd] at hdst
          simp only [hc, Cs, Bool.or_false, Bool.not_eq_true'] at hdst
          exact absurd hS (by simpa using hdst)
        · have hnc : xH o.op = true := by
            cases hh : o.op <;> first | rfl | exact absurd (Exists.intro _ hh : ∃ c, o.op = .call c) hcall | exact absurd (Exists.intro _ hh : ∃ x, o.op = .panic x) TL
          obtain ⟨h1, h2⟩ := Bh (ρ := fr.eval) hop hnc
          refine ⟨_, h1, ?_, fun _ => rfl⟩
          by_cases hfu : Cs A S fr.fn o.op = true
          · refine (LY hP hf.slots hfu).mono fun n => ?_
            rintro ⟨v, rfl, hv⟩
            exact .inl ⟨v, rfl, hf.finish ht fun _ _ _ _ _ => hv⟩
          · refine h2.mono fun n => F7 fun v => hf.finish ht fun o' d ho' hd hS => ?_
            rw [ho] at ho'
            cases ho'
            rw [hd] at hdst
            have hz : Cs A S fr.fn o.op = false := by simpa using hfu
            simp only [hz, Bool.or_false, Bool.not_eq_true'] at hdst
            exact absurd hS (by simpa using hdst)
      obtain ⟨s, hs1, hs2, hs3⟩ := main
      refine ⟨s >>= zf P fr ab, Plain.bind' hs1 fun n => Hz fr ab n, dN.Qs (fun n hn => Ke hm hab hno ht hn) hs2, fun main cs w kr _ => ?_⟩
      show Same kr cs (stepG P main { frame := Frame.up fr (bk ab kr), callers := ext kr ab ++ cs, status := .running, dying := none } w) _
      rw [hstep]
      exact Kg hP.early hf hm hab ht hs3 hs1 hs2 kr cs w
theorem TM (hP : xE A S P) {fr : Frame} {ab : List Frame} (hf : nE A S P fr) (hm : fr.mode = .run) (hab : ∀ c ∈ ab, Ct A S P c) (hno : mY (fr :: ab)) : fw A S P (fr :: ab) := by
  have hto : ∀ {todo : List Item}, (∀ i ∈ todo, uT A S fr.fn i) → oH A S P ({ fr with todo } :: ab) := fun h => ⟨hf.with h, .inl hm, hab, hno.same rfl⟩
  have hret : oH A S P ({ fr with mode := .returning } :: ab) := ⟨hf.ret _, .inr rfl, hab, hno.same rfl⟩
  have hi := hf.todo
  have hmu : ∀ kr, (Frame.up fr (bk ab kr)).mode = .run := fun _ => hm
  have Qu : ∀ kr, (Frame.up fr (bk ab kr)).roundOf = none := fun _ => hf.round
  cases ht : fr.todo with
  | nil =>
    refine fw.pure hret fun main cs w kr hk => ?_
    have hb : bk ab kr = [] := by
      cases ab with
      | nil => exact hk ⟨fr, rfl, hm, ht⟩
      | cons c ab => rfl
    have hu : Frame.up fr (bk ab kr) = fr := by rw [hb, uU]
    have hu' : ext kr ({ fr with mode := .returning } :: ab) = { fr with mode := .returning } :: ext kr ab := by rw [ext, hb, uU]
    rw [hu, hu']
    simp [stepG, tK, hm, stepG.exec, ht, hf.round]
  | cons x k =>
    rw [ht] at hi
    have hk : ∀ i ∈ k, uT A S fr.fn i := fun i h => hi i (List.mem_cons_of_mem _ h)
    have hx := hi x (by simp)
    have mI : ∀ kr, (Frame.up fr (bk ab kr)).todo = x :: (k ++ bk ab kr) := fun kr => by unfold Frame.up; rw [ht]; rfl
    have hgo : ∀ (todo : List Item) (kr : List Item) (cs : List Frame) (w : World), GStep.go { frame := { Frame.up fr (bk ab kr) with todo := todo ++ bk ab kr }, callers := ext kr ab ++ cs, status := .running, dying := none } w #[] = .go (tK (ext kr ({ fr with todo } :: ab)) cs) w #[] := fun _ _ _ _ => rfl
    cases x with
    | inBlock id => exact fw.pure (hto hk) fun main cs w kr _ => by rw [← hgo]; simp only [stepG, hmu, stepG.exec, mI]
    | inLoop c => 
      refine fw.pure (hto (todo := .code c :: .inLoop c :: k) ?_) fun main cs w kr _ => by rw [← hgo]; simp only [stepG, hmu, stepG.exec, mI, List.cons_append]
      intro i h
      simp only [List.mem_cons] at h
      rcases h with rfl | rfl | h
      · exact hx
      · exact hx
      · exact hk i h
    | inRegion ops l =>
      cases l with
      | nil => exact fw.pure (hto hk) fun main cs w kr _ => by rw [← hgo]; simp only [stepG, hmu, stepG.exec, mI]
      | cons i l =>
        by_cases hw : ((ops[i]?).map (Region.wanted · (yielded ops fr.tmps))).getD false = true
        · exact RZ hP hf hm hab hno ht hw
        · refine fw.pure (st' := fr.finish undef :: ab) ⟨hf.finish ht fun _ _ _ _ _ => qL A S, .inl ((qM _ _).trans hm), hab, hno.same (qN _ _)⟩ fun main cs w kr _ => ?_
          have TK : (Frame.up fr (bk ab kr)).tmps = fr.tmps := rfl
          rw [ext, ← xI ht]
          simp only [stepG, hmu, stepG.exec, mI, TK, hw]
          rfl
    | code c =>
      cases c with
      | skip => exact fw.pure (hto hk) fun main cs w kr _ => by rw [← hgo]; simp only [stepG, hmu, stepG.exec, mI]
      | ret =>
        refine fw.pure hret fun main cs w kr _ => ?_
        show _ = GStep.go { frame := { Frame.up fr (bk ab kr) with mode := .returning }, callers := ext kr ab ++ cs, status := .running, dying := none } w #[]
        have h1 := hmu kr
        have h2 := Qu kr
        have h3 := mI kr
        generalize Frame.up fr (bk ab kr) = F at h1 h2 h3
        simp [stepG, h1, stepG.exec, h3, h2]
      | refuse why => exact fw.bad fun main cs w kr _ => .inl ⟨_, _, _, by simp only [stepG, hmu, stepG.exec, mI]; rfl⟩
      | seq a b =>
        have hx' : (iO A S fr.fn a && iO A S fr.fn b) = true := hx
        simp only [Bool.and_eq_true] at hx'
        refine fw.pure (hto (todo := .code a :: .code b :: k) ?_) fun main cs w kr _ => by rw [← hgo]; simp only [stepG, hmu, stepG.exec, mI, List.cons_append]
        intro i h
        simp only [List.mem_cons] at h
        rcases h with rfl | rfl | h
        · exact hx'.1
        · exact hx'.2
        · exact hk i h
      | cond c a b =>
        have hx' : (iO A S fr.fn a && iO A S fr.fn b) = true := hx
        simp only [Bool.and_eq_true] at hx'
        by_cases hb : ∃ v, fr.eval c = .bool v
        · obtain ⟨v, hv⟩ := hb
          refine fw.pure (hto (todo := .code (if v then a else b) :: k) ?_) fun main cs w kr _ => by
            have hvu : (Frame.up fr (bk ab kr)).eval c = .bool v := by rw [Dw]; exact hv
            rw [← hgo]
            simp only [stepG, hmu, stepG.exec, mI, hvu, List.cons_append]
          intro i h
          simp only [List.mem_cons] at h
          rcases h with rfl | h
          · cases v
            · exact hx'.2
            · exact hx'.1
          · exact hk i h
        · refine fw.bad fun main cs w kr _ => .inl ?_
          simp only [stepG, hmu, stepG.exec, mI, Dw]
          split
          · rename_i v hv; exact absurd ⟨v, hv⟩ hb
          · exact ⟨_, _, _, rfl⟩
      | block id c =>
        refine fw.pure (hto (todo := .code c :: .inBlock id :: k) ?_) fun main cs w kr _ => by rw [← hgo]; simp only [stepG, hmu, stepG.exec, mI, List.cons_append]
        intro i h
        simp only [List.mem_cons] at h
        rcases h with rfl | rfl | h
        · exact hx
        · exact trivial
        · exact hk i h
      | loop c =>
        refine fw.pure (hto (todo := .code c :: .inLoop c :: k) ?_) fun main cs w kr _ => by rw [← hgo]; simp only [stepG, hmu, stepG.exec, mI, List.cons_append]
        intro i h
        simp only [List.mem_cons] at h
        rcases h with rfl | rfl | h
        · exact hx
        · exact hx
        · exact hk i h
      | exit id =>
        cases he : exitTo id k with
        | some k' => exact fw.pure (hto (todo := k') fun i h => hk i (Kc he i h)) fun main cs w kr _ => by rw [← hgo]; simp only [stepG, hmu, stepG.exec, mI, vE _ he]; rfl
        | none =>
          refine fw.bad fun main cs w kr hkr => .inl ?_
          have he' : exitTo id (k ++ bk ab kr) = none := by
            have hb : bk ab kr = [] ∨ bk ab kr = km := by
              cases ab with
              | nil => exact hkr
              | cons c ab => exact .inl rfl
            rcases hb with hb | hb
            · rw [hb, List.append_nil]; exact he
            · rw [hb]; exact xJ he
          exact ⟨_, _, _, by simp only [stepG, hmu, stepG.exec, mI, he', Qu]; rfl⟩
      | region id ops draw =>
        have hx' : ops.all (xD A S fr.fn) = true := hx
        rw [Array.all_eq_true_iff_forall_mem] at hx'
        have TN : ∀ l, ∀ i ∈ Item.inRegion ops l :: k, uT A S fr.fn i := by
          intro l i h
          simp only [List.mem_cons] at h
          rcases h with rfl | h
          · exact hx'
          · exact hk i h
        cases draw with
        | false => exact fw.pure (hto (TN (List.range ops.size))) fun main cs w kr _ => by rw [← hgo]; simp only [stepG, hmu, stepG.exec, mI, List.cons_append]; rfl
        | true =>
          refine ⟨(do let t ← choose (.order fr.fn id); pure ({ fr with todo := .inRegion ops (Region.schedule (P.follows .mixedOrders) ops t) :: k } :: ab)), Plain.bind' (fI _) fun _ => trivial, dN.bind (fun t => ?_) _, fun main cs w kr _ => ?_⟩
          · exact hto (TN _)
          · refine ⟨#[], ?_, by simp⟩
            show stepG P main { frame := Frame.up fr (bk ab kr), callers := ext kr ab ++ cs, status := .running, dying := none } w = _
            have hfu : (Frame.up fr (bk ab kr)).fn = fr.fn := rfl
            refine Eq.trans (b := GStep.go { frame := { Frame.up fr (bk ab kr) with todo := .inRegion ops (Region.schedule (P.follows .mixedOrders) ops ((Question.order fr.fn id).cut (w.tape w.drawn (.order fr.fn id)))) :: (k ++ bk ab kr) }, callers := ext kr ab ++ cs, status := .running, dying := none } { w with drawn := w.drawn + 1 } #[]) ?_ rfl
            simp only [stepG, hmu, stepG.exec, mI, hfu]
            rfl
      | _ => exact absurd (show false = true from hx) (by decide)
    | _ => exact hx.elim
theorem R4 (hP : xE A S P) {fr : Frame} {ab : List Frame} (h : oH A S P (fr :: ab)) (hn : ¬ (ab = [] ∧ fr.mode = .returning)) : fw A S P (fr :: ab) := by
  obtain ⟨hf, hm, hab, hno⟩ := h
  rcases hm with hm | hm
  · exact TM hP hf hm hab hno
  · cases ab with
    | nil => exact absurd ⟨rfl, hm⟩ hn
    | cons c ab =>
      obtain ⟨fn, hfn⟩ := hf.func
      have hc := hab c (by simp)
      obtain ⟨cm, cf, YS, ci, cl, ck, ct⟩ := hc
      refine ⟨(do let v ← results fn fr.tmps; pure (c.finish v :: ab)), Plain.bind' (vD _ _) fun _ => trivial, dN.bind (fun v => ?_) _, fun main cs w kr _ => ?_⟩
      · exact ⟨cf v, .inl ((qM _ _).trans cm), fun c' hc' => hab c' (List.mem_cons_of_mem _ hc'), hno.tail.same (qN _ _)⟩
      · show Same kr cs (stepG P main { frame := Frame.up fr [], callers := Frame.up c (bk ab kr) :: (ext kr ab ++ cs), status := .running, dying := none } w) (Sem.runT P (Sem.bind (results fn fr.tmps) fun v => pure (c.finish v :: ab)) w #[])
        rw [uU, Sem.runT_bind' P (results fn fr.tmps) (fun v => pure (c.finish v :: ab)) w #[]]
        simp only [stepG, hm, unwind, hf.defers, hfn]
        generalize (results fn fr.tmps).runT P w #[] = r
        obtain ⟨r, es⟩ := r
        cases r with
        | ok v w' =>
          refine ⟨seen P fr.fn es ++ #[], ?_, fun e he => nD P fr.fn es e (by simpa using he)⟩
          rw [ext, ← xI ct]
          simp only [doReturn, hno.1]
          rfl
        | halt x w' =>
          intro _
          refine .inl ?_
          cases x <;> exact ⟨_, _, _, rfl⟩
end
end
section
open Go Go.Conc
section
variable (P : Program) (main : Bool) (R : World → World → Prop) (D : World → World → Array Event → Prop) (Stop : Goroutine → World → Prop)
def dw (g : Goroutine) (w : World) : Prop := ∀ X : Goroutine → World → Prop,
  (∀ g w, (∀ w₁, R w w₁ → Stop g w₁) → X g w) →
  (∀ g w, g.status = .running → (∀ w₁, R w w₁ → (stepG P main g w₁).goes fun g' w' es => D w₁ w' es ∧ X g' w') → X g w) → X g w
end
section
variable {P : Program} {main : Bool} {R : World → World → Prop} {D : World → World → Array Event → Prop} {Stop : Goroutine → World → Prop}
theorem goes_mono {s : GStep} {K K' : Goroutine → World → Array Event → Prop} (h : s.goes K) (hk : ∀ g w es, K g w es → K' g w es) : s.goes K' := by
  cases s <;> first | exact hk _ _ _ h | exact h
theorem dw.stop {g : Goroutine} {w : World} (h : ∀ w₁, R w w₁ → Stop g w₁) : dw P main R D Stop g w := fun _ h1 _ => h1 g w h
theorem dw.step {g : Goroutine} {w : World} (hr : g.status = .running) (h : ∀ w₁, R w w₁ → (stepG P main g w₁).goes fun g' w' es => D w₁ w' es ∧ dw P main R D Stop g' w') : dw P main R D Stop g w :=
  fun X h1 h2 => h2 g w hr fun w₁ hw => goes_mono (h w₁ hw) fun _ _ _ hx => ⟨hx.1, hx.2 X h1 h2⟩
theorem dw.cases {g : Goroutine} {w : World} (h : dw P main R D Stop g w) : (∀ w₁, R w w₁ → Stop g w₁) ∨ (g.status = .running ∧ ∀ w₁, R w w₁ → (stepG P main g w₁).goes fun g' w' es => D w₁ w' es ∧ dw P main R D Stop g' w') := by
  refine h (fun g w => (∀ w₁, R w w₁ → Stop g w₁) ∨ (g.status = .running ∧ ∀ w₁, R w w₁ → (stepG P main g w₁).goes fun g' w' es => D w₁ w' es ∧ dw P main R D Stop g' w')) (fun g w h => .inl h) (fun g w hr h => .inr ⟨hr, fun w₁ hw => goes_mono (h w₁ hw) fun g' w' es hx => ⟨hx.1, ?_⟩⟩)
  rcases hx.2 with h | ⟨hr, h⟩
  · exact dw.stop h
  · exact dw.step hr h
theorem dw.trans {Stop' : Goroutine → World → Prop} {g : Goroutine} {w : World} (hR : ∀ w, R w w) (h : dw P main R D Stop g w) (hs : ∀ g w, Stop g w → dw P main R D Stop' g w) : dw P main R D Stop' g w :=
  h (fun g w => dw P main R D Stop' g w) (fun g w h => hs g w (h w (hR w))) fun _ _ hr h => dw.step hr h
theorem dw.rely {g : Goroutine} {w w₁ : World} (hT : ∀ a b c, R a b → R b c → R a c) (h : dw P main R D Stop g w) (hw : R w w₁) : dw P main R D Stop g w₁ := by
  rcases h.cases with h | ⟨hr, h⟩
  · exact dw.stop fun w₂ h2 => h w₂ (hT _ _ _ hw h2)
  · exact dw.step hr fun w₂ h2 => h w₂ (hT _ _ _ hw h2)
theorem dw.running {g : Goroutine} {w : World} (hR : R w w) (hs : ∀ g w, Stop g w → g.status = .running) (h : dw P main R D Stop g w) : g.status = .running := by
  rcases h.cases with h | ⟨hr, _⟩
  · exact hs g w (h w hR)
  · exact hr
end
section
variable (P : Program)
def base : Frame := { fn := P.funcs.size, tmps := #[], todo := [.code (.refuse "")], defers := [{ target := .nil, args := #[] }], mode := .run, kind := .normal }
theorem LZ (v : Value) (w : World) : ∃ o w', step P (lone ((base P).finish v) [] w) = .ended o w' :=
  ⟨_, _, step_lone_ended (o := .unsupported _ (Frame.pos P (base P))) (w' := w) rfl⟩
theorem L6 (chain : List PanicEntry) (w : World) : ∃ o w', step P (lone ((base P).raise chain) [] w) = .ended o w' :=
  ⟨_, _, step_lone_ended (o := .unsupported (.noEntry "machine/Return: a deferred call of a nil function value, made while the frame is unwinding") (Frame.pos P { base P with mode := .panicking chain, defers := [] })) (w' := w) rfl⟩
def Ki (m : Machine) : Prop := (∃ (fr : Frame) (ab : List Frame) (chain : List PanicEntry) (w : World), fr.defers = [] ∧ (∀ c ∈ ab, c.defers = [] ∧ c.mode = .run) ∧ m = lone { fr with mode := .panicking chain } (ab ++ [base P]) w) ∨ ∃ chain w, m = lone ((base P).raise chain) [] w
theorem Kj {m : Machine} (h : Ki P m) : (∃ o w', step P m = .ended o w') ∨ ∃ m', step P m = .next m' ∧ Ki P m' := by
  rcases h with ⟨fr, ab, chain, w, hd, hab, rfl⟩ | ⟨chain, w, rfl⟩
  · by_cases hc : Frame.catches P { fr with mode := .panicking chain } = true
    · refine .inl ⟨_, _, step_lone_ended (o := .unsupported (.noEntry "a panic or Goexit out of a method that fmt calls behind a cut's door") (Frame.pos P { fr with mode := .panicking chain })) (w' := w) ?_⟩
      simp only [hd] at hc
      simp only [stepG, unwind, hd, hc, if_true, GStep.bare]
    · refine .inr ?_
      simp only [hd] at hc
      cases ab with
      | nil =>
        refine ⟨lone ((base P).raise chain) [] w, step_lone_go ?_, .inr ⟨chain, w, rfl⟩⟩
        simp only [List.nil_append, stepG, unwind, hd, hc, GStep.bare]
        rfl
      | cons c ab =>
        refine ⟨lone (c.raise chain) (ab ++ [base P]) w, step_lone_go ?_, .inl ⟨c, ab, chain, w, (hab c (by simp)).1, fun x hx => hab x (by simp [hx]), ?_⟩⟩
        · simp only [List.cons_append, stepG, unwind, hd, hc, GStep.bare]
          rfl
        · unfold Frame.raise
          rw [(hab c (by simp)).2]
  · exact .inl (L6 P chain w)
theorem Aq : ∀ (n : Nat) {m m' : Machine}, Ki P m → runN P n m = .next m' → ∀ fr w, m' = lone fr [base P] w → ¬ (fr.mode = .returning ∨ fr.mode = .run)
  | 0, m, m', h, hr, fr, w, e => fun hm => by
    cases hr
    rcases h with ⟨fr', ab, chain, w', hd, hab, rfl⟩ | ⟨chain, w', rfl⟩
    · have e1 := congrArg (fun m => m.gs.map (·.frame.mode)) e
      simp only [lone, List.map_toArray, List.map_cons, List.map_nil, Array.mk.injEq, List.cons.injEq, and_true] at e1
      rw [← e1] at hm
      rcases hm with hm | hm <;> cases hm
    · have e1 := congrArg (fun m => m.gs.map (·.callers)) e
      simp [lone] at e1
  | n + 1, m, m', h, hr, fr, w, e => by
    rcases Kj P h with ⟨o, w', h1⟩ | ⟨m1, h1, h2⟩
    · simp [runN, h1] at hr
    · simp only [runN, h1] at hr
      exact Aq n h2 hr fr w e
end
def Left (P : Program) (f : FuncId) (Q : Value → World → Prop) (cs : List Frame) (g : Goroutine) (w : World) : Prop :=
  ∃ fr v, g = G fr cs ∧ fr.fn = f ∧ fr.leaving P w (.returned v) ∧ Q v w
def mZ (w : World) (p : (Nat → Question → Nat) × Nat) : World := { w with tape := p.1, drawn := p.2 }
def di (w w1 : World) : Prop := ∃ p, w1 = mZ w p
theorem iF (w : World) : di w w := ⟨(w.tape, w.drawn), rfl⟩
theorem ji (a b c : World) (h : di a b) (k : di b c) : di a c := by
  obtain ⟨p, rfl⟩ := h
  obtain ⟨q, rfl⟩ := k
  exact ⟨q, rfl⟩
theorem vF {w w1 : World} (h : AtRel w w1) : di w w1 := by
  obtain ⟨d, rfl⟩ := h
  exact ⟨(w.tape, d), rfl⟩
theorem dw.weak {P : Program} {main : Bool} {R R' : World → World → Prop} {D D' : World → World → Array Event → Prop} {Stop : Goroutine → World → Prop} {g : Goroutine} {w : World} (h : dw P main R D Stop g w) (hR : ∀ a b, R' a b → R a b) (hD : ∀ w w' es, D w w' es → D' w w' es) : dw P main R' D' Stop g w :=
  h (fun g w => dw P main R' D' Stop g w) (fun _ _ hs => .stop fun w₁ h => hs w₁ (hR _ _ h)) fun _ _ hr hs => .step hr fun w₁ h => goes_mono (hs w₁ (hR _ _ h)) fun _ _ _ hx => ⟨hD _ _ _ hx.1, hx.2⟩
def oQ (w w' : World) (es : Array Event) : Prop := (∀ e ∈ es, mU e) ∧ iH w w'
section
variable {A : FuncId → Bool} {S : FuncId → List Nat} {P : Program}
open Classical in
noncomputable def kC (A : FuncId → Bool) (S : FuncId → List Nat) (P : Program) (st : List Frame) : Sem (List Frame) := if h : fw A S P st then Classical.choose h else stuck ""
theorem Kk {st : List Frame} (h : fw A S P st) : Plain [] (kC A S P st) ∧ dN (oH A S P) (kC A S P st) ∧ ∀ main cs w k, (EO st → k = []) → Same k cs (stepG P main (tK (ext k st) cs) w) ((kC A S P st).runT P w #[]) := by
  unfold kC
  rw [dif_pos h]
  exact Classical.choose_spec h
noncomputable def rJ (A : FuncId → Bool) (S : FuncId → List Nat) (P : Program) (δ : List Frame → World → (Nat → Question → Nat) × Nat) (st : List Frame) (w : World) : Nat → List Frame × World × Nat
  | 0 => (st, w, 0)
  | i + 1 =>
    let x := rJ A S P δ st w i
    match (kC A S P x.1).run P (mZ x.2.1 (δ x.1 x.2.1)) with
    | .ok st' w' => (st', w', x.2.2 + (w'.drawn - (δ x.1 x.2.1).2))
    | .halt _ w' => (x.1, x.2.1, x.2.2 + (w'.drawn - (δ x.1 x.2.1).2))
open Classical in
noncomputable def F8 (x : Nat → List Frame × World × Nat) (δ : List Frame → World → (Nat → Question → Nat) × Nat) : Nat → Question → Nat := fun j q =>
  if h : ∃ i, (x i).2.2 ≤ j ∧ j < (x (i + 1)).2.2 then (δ (x (Classical.choose h)).1 (x (Classical.choose h)).2.1).1 ((δ (x (Classical.choose h)).1 (x (Classical.choose h)).2.1).2 + (j - (x (Classical.choose h)).2.2)) q else 0
theorem L8 {x : Nat → List Frame × World × Nat} {δ : List Frame → World → (Nat → Question → Nat) × Nat} (hmono : ∀ i, (x i).2.2 ≤ (x (i + 1)).2.2) {i k : Nat} (h : (x i).2.2 + k < (x (i + 1)).2.2) (q : Question) :
    F8 x δ ((x i).2.2 + k) q = (δ (x i).1 (x i).2.1).1 ((δ (x i).1 (x i).2.1).2 + k) q := by
  have hex : ∃ i', (x i').2.2 ≤ (x i).2.2 + k ∧ (x i).2.2 + k < (x (i' + 1)).2.2 := ⟨i, by omega, h⟩
  have hm : ∀ a b, a ≤ b → (x a).2.2 ≤ (x b).2.2 := by
    intro a b hab
    induction b with
    | zero =>
      obtain rfl : a = 0 := by omega
      exact Nat.le_refl _
    | succ b ih =>
      rcases Nat.lt_or_ge a (b + 1) with hlt | hge
      · exact Nat.le_trans (ih (by omega)) (hmono b)
      · obtain rfl : a = b + 1 := by omega
        exact Nat.le_refl _
  have hu : Classical.choose hex = i := by
    have h1 := Classical.choose_spec hex
    generalize Classical.choose hex = i' at h1
    rcases Nat.lt_trichotomy i' i with hlt | rfl | hgt
    · have := hm (i' + 1) i hlt
      omega
    · rfl
    · have := hm (i + 1) i' hgt
      omega
  unfold F8
  rw [dif_pos hex, hu]
  simp
theorem OL (δ : List Frame → World → (Nat → Question → Nat) × Nat) (st : List Frame) (w : World) (i : Nat) : (rJ A S P δ st w i).2.2 ≤ (rJ A S P δ st w (i + 1)).2.2 := by
  simp only [rJ]
  split <;> exact Nat.le_add_right _ _
theorem qZ (fn : Func) (tmps : Array Value) {w w' : World} {v : Value} (hh : w'.heap = w.heap) (ho : w'.os = w.os) (hu : w'.output = w.output) (h : (results fn tmps).run P w = .ok v w) : (results fn tmps).run P w' = .ok v w' := by
  have hA : lH ⟨w.drawn, w.drawn, w'.drawn, w'.tape⟩ w w' := ⟨by simp only; omega, rfl, hh, ho, hu, fun k q hk => by simp only at hk; omega⟩
  have h1 := (FQ P (results fn tmps) #[] (vD (kn := []) fn tmps) hA (by rw [h]; exact Nat.le_refl _)).1
  rw [Sem.runT_fst, Sem.runT_fst, h] at h1
  cases hr : (results fn tmps).run P w' with
  | halt x y => rw [hr] at h1; exact h1.elim
  | ok a y =>
    rw [hr] at h1
    obtain ⟨rfl, h2⟩ := h1
    have e1 := h2.cnt
    have e2 := h2.tp
    have e3 := h2.heap
    have e4 := h2.os
    have e5 := h2.out
    simp only at e1 e2
    have : y = w' := by
      cases y
      cases w'
      simp only at *
      subst e2
      congr 1
      · exact e3.trans hh.symm
      · omega
      · exact e4.trans ho.symm
      · exact e5.trans hu.symm
    rw [this]
theorem F9 {fr fr' : Frame} {cs cs' : List Frame} {w w' : World} (h : lone fr cs w = lone fr' cs' w') : fr = fr' ∧ cs = cs' ∧ w = w' := by
  have e1 : (lone fr cs w).gs = (lone fr' cs' w').gs := by rw [h]
  have e2 : (lone fr cs w).world = (lone fr' cs' w').world := by rw [h]
  simp only [lone, Array.mk.injEq, List.cons.injEq, Goroutine.mk.injEq, and_true] at e1
  exact ⟨e1.1, e1.2, e2⟩
theorem Eg : ∀ (i : Nat) {m m' : Machine}, runN P i m = .next m' → runN P (i + 1) m = step P m'
  | 0, m, m', h => by
    cases h
    simp only [runN]
    cases step P m <;> rfl
  | i + 1, m, m', h => by
    cases hs : step P m with
    | next m1 =>
      simp only [runN, hs] at h
      have := Eg i h
      rw [← this]
      show (match step P m with | .next m => runN P (i + 1) m | e => e) = _
      rw [hs]
    | ended o w => simp only [runN, hs] at h; cases h
theorem xL : ∀ (i k : Nat) {m m' : Machine}, runN P i m = .next m' → runN P (i + k) m = runN P k m'
  | 0, k, m, m', h => by cases h; rw [Nat.zero_add]
  | i + 1, k, m, m', h => by
    cases hs : step P m with
    | next m1 =>
      simp only [runN, hs] at h
      have := xL i k h
      rw [← this, Nat.succ_add]
      simp only [runN, hs]
    | ended o w => simp only [runN, hs] at h; cases h
def atEnd (kl : List Item) (st : List Frame) : Prop := ∃ fr, st = [fr] ∧ (fr.mode = .returning ∨ (kl = km ∧ fr.mode = .run ∧ fr.todo = []))
def rO (P : Program) (st : List Frame) (w : World) : Machine := match st with
  | [] => lone (base P) [] w
  | fr :: ab => lone fr (ab ++ [base P]) w
theorem TP {a b : Frame} {k : List Item} (h : Frame.up a k = Frame.up b k) : a = b := by
  cases a
  cases b
  simp only [Frame.up, Frame.mk.injEq, List.append_cancel_right_eq] at h
  simp only [Frame.mk.injEq]
  exact h
theorem Ga {k : List Item} {st : List Frame} {fr : Frame} {w w' : World} (hne : st ≠ []) (h : rO P (ext k st) w = lone fr [base P] w') : (∃ VD, st = [VD] ∧ Frame.up VD k = fr) ∧ w = w' := by
  cases st with
  | nil => exact absurd rfl hne
  | cons a ab =>
    obtain ⟨e1, e2, e3⟩ := F9 (show lone (Frame.up a (bk ab k)) (ext k ab ++ [base P]) w = lone fr [base P] w' from h)
    cases ab with
    | nil => exact ⟨⟨a, rfl, e1⟩, e3⟩
    | cons c ab =>
      have := congrArg List.length e2
      simp [ext] at this
theorem L9 {kl : List Item} {fr : Frame} {w : World} {k : Nat} {m' : Machine} (hm : fr.mode = .returning ∨ (kl = km ∧ fr.mode = .run ∧ fr.todo = [])) (hd : fr.defers = []) (hfn : ∃ fn, P.funcs[fr.fn]? = some fn) (hr : runN P (k + 1) (rO P (ext kl [fr]) w) = .next m') : ∀ fr' w', m' ≠ lone fr' [base P] w' := by
  obtain ⟨fn, hfn⟩ := hfn
  have hstep : (∃ Gb w1, step P (lone (Frame.up fr kl) [base P] w) = .next (lone Gb [] w1) ∧ ∃ o w2, step P (lone Gb [] w1) = .ended o w2) ∨ ∃ o w1, step P (lone (Frame.up fr kl) [base P] w) = .ended o w1 := by
    rcases hm with hm | ⟨rfl, hm, ht⟩
    · have hmu : (Frame.up fr kl).mode = .returning := hm
      have Ma : (Frame.up fr kl).defers = [] := hd
      have hfu : P.funcs[(Frame.up fr kl).fn]? = some fn := hfn
      generalize Frame.up fr kl = F at hmu Ma hfu
      cases hres : (results fn F.tmps).run P w with
      | ok v w1 =>
        refine .inl ?_
        have hb1 := LZ P v w1
        have hb2 : ∃ o w2, step P (lone (base P) [] w1) = .ended o w2 := ⟨_, _, step_lone_ended (o := .unsupported _ (Frame.pos P (base P))) (w' := w1) rfl⟩
        cases hk : F.kind with
        | normal => exact ⟨_, w1, step_lone_go (by simp only [stepG, unwind, doReturn, hmu, Ma, hk, hfu, Sem.runT_fst, hres]; rfl), hb1⟩
        | wrapped => exact ⟨_, w1, step_lone_go (by simp only [stepG, unwind, doReturn, hmu, Ma, hk, hfu, Sem.runT_fst, hres]; rfl), hb1⟩
        | _ => exact ⟨base P, w1, step_lone_go (by simp only [stepG, unwind, doReturn, hmu, Ma, hk, hfu, Sem.runT_fst, hres]; rfl), hb2⟩
      | halt x w1 =>
        cases x <;> exact .inr ⟨_, _, step_lone_ended (by simp [stepG, unwind, hmu, Ma, hfu, hres]; exact ⟨rfl, rfl⟩)⟩
    · have key : ∃ u, (stepG P true { frame := Frame.up fr km, callers := [base P], status := .running, dying := none } w).bare = .ended (.unsupported u (Frame.pos P (Frame.up fr km))) w := by
        have hmu : (Frame.up fr km).mode = .run := hm
        have mI : (Frame.up fr km).todo = [.code (.refuse "")] := by unfold Frame.up km; rw [ht]; rfl
        generalize Frame.up fr km = F at hmu mI
        simp only [stepG, stepG.exec, hmu, mI]
        exact ⟨_, rfl⟩
      obtain ⟨u, hu⟩ := key
      exact .inr ⟨_, w, step_lone_ended hu⟩
  intro fr' w' e
  replace hr : runN P (k + 1) (lone (Frame.up fr kl) [base P] w) = .next m' := hr
  rcases hstep with ⟨Gb, w1, h1, o, w2, h2⟩ | ⟨o, w1, h1⟩
  · simp only [runN, h1] at hr
    cases k with
    | zero =>
      cases hr
      have := (F9 e).2.1
      cases this
    | succ k =>
      simp only [runN, h2] at hr
      cases hr
  · simp only [runN, h1] at hr
    cases hr
theorem Gc (hP : xE A S P) {kl kr : List Item} (hkk : (kl = [] ∧ kr = []) ∨ kl = km) {st0 : List Frame} {w : World} {Fin : Frame → World → Prop} (h0 : oH A S P st0) (XZ : ¬ atEnd kl st0)
    (X0 : ∀ fr w, Fin fr w → fr.mode = .returning ∨ (kl = km ∧ fr.mode = .run ∧ fr.todo = km)) (X3 : ∀ fr w w', w'.heap = w.heap → w'.os = w.os → w'.output = w.output → Fin fr w → Fin fr w')
    (hc : ∀ tape d, ∃ N Gd w9, runN P N (rO P (ext kl st0) { w with tape := tape, drawn := d }) = .next (lone Gd [base P] w9) ∧ Fin Gd w9) (main : Bool) (cs : List Frame) :
    dw P main di oQ (fun g w => ∃ fr, g = G (Frame.up fr kr) cs ∧ Fin (Frame.up fr kl) w) (tK (ext kr st0) cs) w := by
  apply Classical.byContradiction
  intro hbad
  let Stp : Goroutine → World → Prop := fun g w => ∃ fr, g = G (Frame.up fr kr) cs ∧ Fin (Frame.up fr kl) w
  let Gs : List Frame → World → Prop := fun st w => dw P main di oQ Stp (tK (ext kr st) cs) w
  have hks : ∀ st, ¬ atEnd kl st → EO st → kl = [] ∧ kr = [] := by
    rintro st hn ⟨fr, e, hm, ht⟩
    rcases hkk with h | h
    · exact h
    · exact absurd ⟨fr, e, .inr ⟨h, hm, ht⟩⟩ hn
  have hkl : kl = [] ∨ kl = km := hkk.imp (·.1) id
  have hδ : ∀ st w, ∃ d, st ≠ [] → ¬ Gs st w → ¬ (stepG P main (tK (ext kr st) cs) (mZ w d)).goes fun g' w' es => oQ (mZ w d) w' es ∧ dw P main di oQ Stp g' w' := by
    intro st w
    apply Classical.byContradiction
    intro hn
    have hn' : ∀ d, st ≠ [] ∧ ¬ Gs st w ∧ (stepG P main (tK (ext kr st) cs) (mZ w d)).goes fun g' w' es => oQ (mZ w d) w' es ∧ dw P main di oQ Stp g' w' := by
      intro d
      apply Classical.byContradiction
      intro hx
      refine hn ⟨d, fun h1 h2 h3 => hx ⟨h1, h2, h3⟩⟩
    refine (hn' default).2.1 (dw.step ?_ ?_)
    · cases st with
      | nil => exact absurd rfl (hn' default).1
      | cons a b => rfl
    · rintro w₁ ⟨d, rfl⟩
      exact (hn' d).2.2
  let δ : List Frame → World → (Nat → Question → Nat) × Nat := fun st w => Classical.choose (hδ st w)
  have X4 : ∀ st w, st ≠ [] → ¬ Gs st w → ¬ (stepG P main (tK (ext kr st) cs) (mZ w (δ st w))).goes fun g' w' es => oQ (mZ w (δ st w)) w' es ∧ dw P main di oQ Stp g' w' := fun st w => Classical.choose_spec (hδ st w)
  let x := rJ A S P δ st0 w
  let T := F8 x δ
  obtain ⟨N, Gd, w9, hN, VE⟩ := hc T 0
  have VF := X0 _ _ VE
  let m0 := rO P (ext kl st0) { w with tape := T, drawn := 0 }
  have h0' : ∀ i st' y, (kC A S P (x i).1).run P (mZ (x i).2.1 (δ (x i).1 (x i).2.1)) = .ok st' y → x (i + 1) = (st', y, (x i).2.2 + (y.drawn - (δ (x i).1 (x i).2.1).2)) := by
    intro i st' y h
    show rJ A S P δ _ w (i + 1) = _
    simp only [rJ]
    show (match (kC A S P (x i).1).run P (mZ (x i).2.1 (δ (x i).1 (x i).2.1)) with
      | .ok st' w' => (st', w', (x i).2.2 + (w'.drawn - (δ (x i).1 (x i).2.1).2))
      | .halt _ w' => ((x i).1, (x i).2.1, (x i).2.2 + (w'.drawn - (δ (x i).1 (x i).2.1).2))) = _
    rw [h]
  have hD : ∀ i, (x (i + 1)).2.2 = (x i).2.2 + ((AX ((kC A S P (x i).1).run P (mZ (x i).2.1 (δ (x i).1 (x i).2.1)))).drawn - (δ (x i).1 (x i).2.1).2) := by
    intro i
    show (rJ A S P δ _ w (i + 1)).2.2 = _
    simp only [rJ]
    show (match (kC A S P (x i).1).run P (mZ (x i).2.1 (δ (x i).1 (x i).2.1)) with
      | .ok st' w' => (st', w', (x i).2.2 + (w'.drawn - (δ (x i).1 (x i).2.1).2))
      | .halt _ w' => ((x i).1, (x i).2.1, (x i).2.2 + (w'.drawn - (δ (x i).1 (x i).2.1).2)) : List Frame × World × Nat).2.2 = _
    cases (kC A S P (x i).1).run P (mZ (x i).2.1 (δ (x i).1 (x i).2.1)) <;> rfl
  have key : ∀ i, i ≤ N → oH A S P (x i).1 ∧ ¬ Gs (x i).1 (x i).2.1 ∧ ¬ atEnd kl (x i).1 ∧ runN P i m0 = .next (rO P (ext kl (x i).1) { (x i).2.1 with tape := T, drawn := (x i).2.2 }) := by
    intro i
    induction i with
    | zero => exact fun _ => ⟨h0, hbad, XZ, rfl⟩
    | succ i ih =>
      intro Y4
      obtain ⟨i1, i2, i3, i5⟩ := ih (by omega)
      obtain ⟨fr, ab, i4⟩ : ∃ fr ab, (x i).1 = fr :: ab := by
        cases hx : (x i).1 with
        | nil => rw [hx] at i1; exact i1.elim
        | cons fr ab => exact ⟨fr, ab, rfl⟩
      have WH : fw A S P (x i).1 := by
        rw [i4] at i1 ⊢
        exact R4 hP i1 (by rintro ⟨rfl, hm⟩; exact i3 ⟨fr, i4, .inl hm⟩)
      obtain ⟨s1, s2, s3⟩ := Kk WH
      have hds := X4 (x i).1 (x i).2.1 (by rw [i4]; simp) i2
      have hA : lH ⟨(AX ((kC A S P (x i).1).run P (mZ (x i).2.1 (δ (x i).1 (x i).2.1)))).drawn, (δ (x i).1 (x i).2.1).2, (x i).2.2, T⟩ (mZ (x i).2.1 (δ (x i).1 (x i).2.1)) { (x i).2.1 with tape := T, drawn := (x i).2.2 } := by
        refine ⟨Nat.add_comm _ _, rfl, rfl, rfl, rfl, fun k q hk => ?_⟩
        have hk' : (δ (x i).1 (x i).2.1).2 + k < (AX ((kC A S P (x i).1).run P (mZ (x i).2.1 (δ (x i).1 (x i).2.1)))).drawn := hk
        exact L8 (fun i => OL δ _ w i) (i := i) (k := k) (by have := hD i; show (x i).2.2 + k < (x (i + 1)).2.2; omega) q
      have h1 := (FQ P (kC A S P (x i).1) #[] s1 hA (Nat.le_refl _)).1
      have hend := rG P (kC A S P (x i).1) (mZ (x i).2.1 (δ (x i).1 (x i).2.1)) #[] s1 s2
      have t1 := s3 true [base P] { (x i).2.1 with tape := T, drawn := (x i).2.2 } kl fun hh => (hks _ i3 hh).1
      have t2 := s3 main cs (mZ (x i).2.1 (δ (x i).1 (x i).2.1)) kr fun hh => (hks _ i3 hh).2
      have hmono := FO P (kC A S P (x i).1) (mZ (x i).2.1 (δ (x i).1 (x i).2.1))
      have hx := h0' i
      obtain ⟨k, rfl⟩ : ∃ k, N = i + 1 + k := ⟨N - (i + 1), by omega⟩
      simp only [Same] at t1 t2
      rw [Sem.runT_fst] at h1 t2
      rw [Sem.runT_fst] at h1 t1
      rw [Sem.runT_fst] at hend
      have VG : runN P i m0 = .next (lone (Frame.up fr (bk ab kl)) (ext kl ab ++ [base P]) { (x i).2.1 with tape := T, drawn := (x i).2.2 }) := by rw [i5, i4]; rfl
      cases hr : (kC A S P (x i).1).run P (mZ (x i).2.1 (δ (x i).1 (x i).2.1)) with
      | ok st' y =>
        have hx := hx st' y hr
        rw [hr] at h1 t2 hend hmono
        cases hr' : (kC A S P (x i).1).run P { (x i).2.1 with tape := T, drawn := (x i).2.2 } with
        | halt h y' => rw [hr'] at h1; exact h1.elim
        | ok WI y' =>
          rw [hr'] at h1 t1
          obtain ⟨rfl, hy⟩ := h1
          obtain ⟨es1, t1, _⟩ := t1
          obtain ⟨es2, t2, t3⟩ := t2
          have hok : oH A S P st' := hend.1
          have Qv : y' = { y with tape := T, drawn := (x i).2.2 + (y.drawn - (δ (x i).1 (x i).2.1).2) } := by
            have e1 := hy.cnt
            have e2 := hy.tp
            have e3 := hy.heap
            have e4 := hy.os
            have e5 := hy.out
            have e6 : (δ (x i).1 (x i).2.1).2 ≤ y.drawn := hmono
            simp only at e1 e2
            cases y'
            simp only at *
            subst e2 e3 e4 e5
            congr 1
            omega
          cases st' with
          | nil => exact hok.elim
          | cons fr' IG =>
            have hm1 : runN P (i + 1) m0 = .next (rO P (ext kl (fr' :: IG)) y') := by
              rw [Eg i VG]
              show step P _ = .next (lone (Frame.up fr' (bk IG kl)) (ext kl IG ++ [base P]) y')
              refine step_lone_go ?_
              rw [i4] at t1
              have t1' : stepG P true { frame := Frame.up fr (bk ab kl), callers := ext kl ab ++ [base P], status := .running, dying := none } { (x i).2.1 with tape := T, drawn := (x i).2.2 } = .go (tK (ext kl (fr' :: IG)) [base P]) y' es1 := t1
              rw [t1']
              rfl
            have Mc : ¬ Gs (fr' :: IG) y := by
              intro hg
              refine hds ?_
              rw [t2]
              have hch := Cr P (kC A S P (x i).1) (mZ (x i).2.1 (δ (x i).1 (x i).2.1)) s1 (by simp)
              rw [hr] at hch
              exact ⟨⟨fun e he => hend.2 (by simp) e (t3 e he), hch⟩, hg⟩
            have hnl : ¬ atEnd kl (fr' :: IG) := by
              rintro ⟨Y5, e2, hm2⟩
              cases e2
              cases k with
              | zero =>
                rw [Nat.add_zero, show runN P (i + 1) (rO P (ext kl st0) { w with tape := T, drawn := 0 }) = _ from hm1] at hN
                obtain ⟨e3, rfl⟩ := Ga (by simp) (Stepped.next.inj hN)
                obtain ⟨Y6, e4, rfl⟩ := e3
                cases e4
                refine Mc (dw.stop ?_)
                rintro w₁ ⟨d, rfl⟩
                exact ⟨_, rfl, X3 _ y' _ (by rw [Qv]; rfl) (by rw [Qv]; rfl) (by rw [Qv]; rfl) VE⟩
              | succ k =>
                rw [xL (i + 1) (k + 1) (show runN P (i + 1) (rO P (ext kl st0) { w with tape := T, drawn := 0 }) = _ from hm1)] at hN
                exact L9 hm2 hok.1.defers hok.1.func hN Gd w9 rfl
            rw [hx]
            exact ⟨hok, Mc, hnl, by rw [hm1, Qv]⟩
      | halt h y =>
        exfalso
        rw [hr] at h1
        cases hr' : (kC A S P (x i).1).run P { (x i).2.1 with tape := T, drawn := (x i).2.2 } with
        | ok WI y' => rw [hr'] at h1; exact h1.elim
        | halt h' y' =>
          rw [hr'] at t1
          rw [i4] at t1
          replace t1 := t1 hkl
          have Md := hN
          rw [show i + 1 + k = i + (1 + k) by omega, xL i (1 + k) (show runN P i (rO P (ext kl st0) { w with tape := T, drawn := 0 }) = _ from VG), show 1 + k = k + 1 by omega] at Md
          rcases t1 with ⟨o, w1, es, t1⟩ | ⟨Gb, TQ, chain, w1, es, hd1, WJ, t1⟩
          · have hs : step P (lone (Frame.up fr (bk ab kl)) (ext kl ab ++ [base P]) { (x i).2.1 with tape := T, drawn := (x i).2.2 }) = .ended o w1 := step_lone_ended (by
              have t1' : stepG P true { frame := Frame.up fr (bk ab kl), callers := ext kl ab ++ [base P], status := .running, dying := none } { (x i).2.1 with tape := T, drawn := (x i).2.2 } = .ended o w1 es := t1
              rw [t1']
              rfl)
            simp only [runN, hs] at Md
            cases Md
          · have hs : step P (lone (Frame.up fr (bk ab kl)) (ext kl ab ++ [base P]) { (x i).2.1 with tape := T, drawn := (x i).2.2 }) = .next (lone { Gb with mode := .panicking chain } (TQ ++ [base P]) w1) := step_lone_go (by
              have t1' : stepG P true { frame := Frame.up fr (bk ab kl), callers := ext kl ab ++ [base P], status := .running, dying := none } { (x i).2.1 with tape := T, drawn := (x i).2.2 } = .go { frame := { Gb with mode := .panicking chain }, callers := TQ ++ [base P], status := .running, dying := none } w1 es := t1
              rw [t1']
              rfl)
            simp only [runN, hs] at Md
            exact Aq P k (.inl ⟨Gb, TQ, chain, w1, hd1, WJ, rfl⟩) Md Gd w9 rfl (VF.imp id (·.2.1))
  obtain ⟨hk1, hk2, hk3, hk5⟩ := key N (Nat.le_refl _)
  rw [show runN P N m0 = _ from hN] at hk5
  have hne : (x N).1 ≠ [] := by
    intro e
    rw [e] at hk1
    exact hk1
  obtain ⟨⟨fr, e, rfl⟩, _⟩ := Ga hne (Stepped.next.inj hk5).symm
  rw [e] at hk3
  refine hk3 ⟨fr, rfl, VF.imp id fun ⟨h1, h2, h3⟩ => ⟨h1, h2, ?_⟩⟩
  subst h1
  have := congrArg List.length (show fr.todo ++ km = km from h3)
  simp at this
  exact this
theorem lift (hP : xE A S P) {f : FuncId} {args : Array Value} {w : World} {Q : Value → World → Prop} (h0 : oH A S P [Frame.enter P f args .normal])
    (hQ : ∀ v w w', w'.heap = w.heap → w'.os = w.os → w'.output = w.output → Q v w → Q v w')
    (hc : ∀ tape d, Calls P f args { w with tape := tape, drawn := d } (fun e w' => match e with | .returned v => Q v w' | _ => False)) (main : Bool) (cs : List Frame) :
    dw P main di oQ (Left P f Q cs) (G (Frame.enter P f args .normal) cs) w := by
  have h := Gc (w := w) hP (kl := []) (kr := []) (.inl ⟨rfl, rfl⟩) (Fin := fun fr w => ∃ v, fr.fn = f ∧ fr.leaving P w (.returned v) ∧ Q v w) h0
    (by rintro ⟨fr, e, h | ⟨h, _⟩⟩
        · cases e; cases h
        · cases h)
    (by rintro fr w ⟨v, h1, h2, h3⟩; exact .inl h2.1)
    (by rintro fr w w' e1 e2 e3 ⟨v, h1, ⟨l1, l2, l3, fn, l4, l5⟩, h3⟩
        exact ⟨v, h1, ⟨l1, l2, l3, fn, l4, qZ fn fr.tmps e1 e2 e3 l5⟩, hQ v w w' e1 e2 e3 h3⟩)
    (fun tape d => by
      obtain ⟨e, w9, Gd, hR, hcomes, WK, WL⟩ := hc tape d [base P]
      cases e with
      | panicked c => exact hR.elim
      | outgrown => exact hR.elim
      | returned v9 =>
        obtain ⟨N, hN⟩ : Steps P _ _ := hcomes
        exact ⟨N, Gd, w9, by rw [ext_nil]; exact hN, v9, WK, WL, hR⟩) main cs
  rw [ext_nil] at h
  refine h.trans iF ?_
  rintro g w ⟨fr, rfl, v, h1, h2, h3⟩
  rw [uU] at h1 h2 ⊢
  refine dw.stop ?_
  rintro w₁ ⟨d, rfl⟩
  obtain ⟨l1, l2, l3, fn, l4, l5⟩ := h2
  exact ⟨fr, v, rfl, h1, ⟨l1, l2, l3, fn, l4, qZ fn fr.tmps (w := w) rfl rfl rfl l5⟩, hQ v w _ rfl rfl rfl h3⟩
theorem Me (hP : xE A S P) {b : Frame} {a : Act} {c : Code} {w : World} {Q : Exit → Act → World → Prop} (hok : iO A S b.fn c = true) (hk : (b.kind == .early) = false) (hfn : ∃ fn, P.funcs[b.fn]? = some fn) (hd : a.defers = []) (hS : tJ A S b.fn a.tmps)
    (hQ : ∀ e a w w', w'.heap = w.heap → w'.os = w.os → w'.output = w.output → Q e a w → Q e a w') (hE : ∀ e a w, Q e a w → e = .normal ∨ e = .ret)
    (hc : ∀ tape d, c.wp P Q a { w with tape := tape, drawn := d }) (main : Bool) (k : List Item) (cs : List Frame) :
    dw P main di oQ (fun g w => (∃ a', g = G (b.at a' k) cs ∧ Q .normal a' w) ∨ ∃ a' todo, g = G { b.at a' todo with mode := .returning } cs ∧ Q .ret a' w) (G (b.at a (.code c :: k)) cs) w := by
  have h := Gc (w := w) hP (kl := km) (kr := k) (.inr rfl) (st0 := [b.at a [.code c]]) (Fin := fun fr w => (∃ a', fr = b.at a' km ∧ Q .normal a' w) ∨ ∃ a' todo, fr = { b.at a' todo with mode := .returning } ∧ Q .ret a' w)
    ⟨⟨(by intro i hi
          obtain rfl : i = .code c := by simpa [Frame.at] using hi
          exact hok), hd, hk, rfl, hfn, hS⟩, .inl rfl, by simp, trivial⟩
    (by rintro ⟨fr, e, h | ⟨_, _, h⟩⟩
        · cases e; cases h
        · cases e; cases h)
    (by rintro fr w (⟨a', rfl, _⟩ | ⟨a', todo, rfl, _⟩)
        · exact .inr ⟨rfl, rfl, rfl⟩
        · exact .inl rfl)
    (by rintro fr w w' e1 e2 e3 (⟨a', rfl, h⟩ | ⟨a', todo, rfl, h⟩)
        · exact .inl ⟨a', rfl, hQ _ _ _ _ e1 e2 e3 h⟩
        · exact .inr ⟨a', todo, rfl, hQ _ _ _ _ e1 e2 e3 h⟩)
    (fun tape d => by
      obtain ⟨e, a9, w9, h9, har⟩ := hc tape d b km [base P]
      rcases hE _ _ _ h9 with rfl | rfl
      · obtain ⟨N, hN⟩ : Steps P _ _ := har
        exact ⟨N, _, w9, hN, .inl ⟨a9, rfl, h9⟩⟩
      · obtain ⟨todo, N, hN⟩ := har
        exact ⟨N, _, w9, hN, .inr ⟨a9, todo, rfl, h9⟩⟩) main cs
  refine dw.trans iF h ?_
  rintro g w ⟨fr, rfl, h⟩
  refine dw.stop ?_
  rintro w₁ ⟨d, rfl⟩
  rcases h with ⟨a', e, h⟩ | ⟨a', todo, e, h⟩
  · obtain rfl : fr = b.at a' [] := TP (k := km) e
    exact .inl ⟨a', rfl, hQ _ _ w _ rfl rfl rfl h⟩
  · refine .inr ⟨a', fr.todo ++ k, ?_, hQ _ _ w _ rfl rfl rfl h⟩
    have e' : fr = { b.at a' fr.todo with mode := .returning } := by
      cases fr
      simp only [Frame.up, Frame.at, Frame.mk.injEq] at e ⊢
      exact ⟨e.1, e.2.1, trivial, e.2.2.2⟩
    rw [e']
    rfl
end
end
end Go.Proofs.YtignemioillaiaaGreat
