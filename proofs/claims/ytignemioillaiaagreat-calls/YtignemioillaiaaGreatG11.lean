/- The program's allowed code: what the walks ask. -/
import Derived.Test.YtignemioillaiaaGreatG10
import Derived.Conc.DeferLaws
import Derived.Conc.Own5
import Derived.Conc.WalkWords
namespace Go.Proofs.YtignemioillaiaaGreat
set_option maxHeartbeats 8000000
set_option maxRecDepth 100000
section
open Go Go.Conc
theorem pl_overlaps (ps rs : Array TypeId) (args : Array Value) : Plain [] (Extern.SlicesOverlaps.overlaps ps rs args) := by
  obtain ⟨l⟩ := args
  rcases l with _ | ⟨a, _ | ⟨b, _ | ⟨c, l⟩⟩⟩
  · exact trivial
  · cases a <;> exact trivial
  · cases a <;> first | exact trivial | skip
    cases b <;> first | exact trivial | skip
    cases hp : ps[0]? with
    | none =>
      show Plain [] (match ps[0]? with | some t => _ | _ => _)
      rw [hp]
      exact trivial
    | some t =>
      show Plain [] (match ps[0]? with | some t => _ | _ => _)
      rw [hp]
      refine Plain.bind' (pl_underlying _) fun d => ?_
      split
      · refine Plain.bind' (pl_sizeOf _) fun n => ?_
        repeat' (first | with_reducible apply pl_pure | with_reducible apply pl_frozen | with_reducible apply pl_unsupported | with_reducible apply pl_noView | with_reducible apply pl_mayBeOne | with_reducible apply pl_choose | (with_reducible refine Plain.bind' ?_ fun _ => ?_) | (with_reducible refine Plain.map' ?_) | (with_reducible refine Plain.ite (fun _ => ?_) (fun _ => ?_)) | split | dsimp only)
      · exact trivial
  · cases a <;> first | exact trivial | (cases b <;> exact trivial)
theorem row_call {f : FuncId} {fn : Func} {e : Array Value → Sem Value} (h1 : Tryz.prog.funcs[f]? = some fn) (h2 : (fn.name == "runtime.NumGoroutine") = false) (h3 : fn.body = none) (h4 : Extern.findNext fn = none) (h5 : Extern.find fn = some e) (args : Array Value) (w : World) (es : Array Event) :
    (callFunc f args).runT Tryz.prog w es = (do mark (.extern f); pure (Next.value (← e args)) : Sem Next).runT Tryz.prog w es := by
  unfold callFunc program
  show Sem.runT Tryz.prog (Sem.bind _ _) w es = _
  rw [Sem.runT_bind']
  simp only [Sem.runT, h1, h2, h3, h4, h5, Option.isNone_none, if_true, if_false, Bool.false_eq_true]

theorem grow_same {F : Nat → Prop} {w w' : World} (h : w'.heap.size = w.heap.size) : Grow F w w' = F := by
  funext b
  refine propext ⟨fun x => ?_, .inl⟩
  rcases x with x | x
  · exact x
  · omega
section
variable {P : Program} {main : Bool} {Stop : (Nat → Prop) → Goroutine → World → Prop} {F : Nat → Prop} {g g' : Goroutine} {w : World}
/-- A step that leaves the world as it is, reading what it owns. -/
theorem GoesF.read (hr : g.status = .running) (hs : ∀ w1, RelF F w w1 → ∃ es, stepG P main g w1 = .go g' w1 es ∧ ∀ e ∈ es, evF F e) (h : GoesF P main Stop F g' w) : GoesF P main Stop F g w :=
  .step hr fun w1 h1 => by
    obtain ⟨es, e1, e2⟩ := hs w1 h1
    rw [e1, goes_go, grow_same rfl]
    exact ⟨⟨Nat.le_refl _, fun _ _ _ => rfl, rfl, rfl, by rw [grow_same rfl]; exact e2⟩, h.rely h1⟩
/-- A step of control. -/
theorem GoesF.ctl (hr : g.status = .running) (hs : ∀ w1, stepG P main g w1 = .go g' w1 #[]) (h : GoesF P main Stop F g' w) : GoesF P main Stop F g w :=
  h.read hr fun w1 _ => ⟨#[], hs w1, by simp⟩
/-- A step that makes one block. -/
theorem GoesF.make (hr : g.status = .running) {g' : Nat → Goroutine} {o : Obj} (hs : ∀ w1, RelF F w w1 → stepG P main g w1 = .go (g' w1.heap.size) { w1 with heap := w1.heap.push o } #[]) (h : ∀ w1 b, RelF F w w1 → b = w1.heap.size → GoesF P main Stop (fun x => F x ∨ x = b) (g' b) { w1 with heap := w1.heap.push o }) (_hin : ∀ x, F x → x < w.heap.size) : GoesF P main Stop F g w :=
  .step hr fun w1 h1 => by
    rw [hs w1 h1, goes_go]
    have hsz : ({ w1 with heap := w1.heap.push o } : World).heap.size = w1.heap.size + 1 := by simp
    have hg : Grow F w1 { w1 with heap := w1.heap.push o } = fun x => F x ∨ x = w1.heap.size := by
      funext x
      refine propext ⟨fun y => y.imp id fun y => ?_, fun y => y.imp id fun y => ?_⟩
      · rw [hsz] at y; omega
      · rw [hsz]; omega
    refine ⟨⟨by rw [hsz]; omega, fun b hb _ => ?_, rfl, rfl, by simp⟩, by rw [hg]; exact h w1 _ h1 rfl⟩
    show (w1.heap.push o)[b]? = _
    rw [Array.getElem?_push]
    split
    · omega
    · rfl
end
theorem SameW.heap {w w' : World} (h : SameW w w') : w'.heap = w.heap := by obtain ⟨p, rfl⟩ := h; rfl
theorem SameW.os {w w' : World} (h : SameW w w') : w'.os = w.os := by obtain ⟨p, rfl⟩ := h; rfl
theorem SameW.out {w w' : World} (h : SameW w w') : w'.output = w.output := by obtain ⟨p, rfl⟩ := h; rfl
structure Shut (P : Program) (main : Bool) (D : World → World → Array Event → Prop) (X : Goroutine → World → Prop) : Prop where
  step : ∀ {g : Goroutine} {w : World}, g.status = .running → (∀ w₁, SameW w w₁ → (stepG P main g w₁).goes fun g' w' es => D w₁ w' es ∧ X g' w') → X g w
  rely : ∀ {g : Goroutine} {w w₁ : World}, SameW w w₁ → X g w → X g w₁
  plain : ∀ {w w' : World} {es : Array Event}, OkEs w w' es → D w w' es
theorem shut_W {P : Program} {main : Bool} {pk th : Nat} {Stop : Goroutine → World → Prop} : Shut P main (DW pk th) (GoesU P main SameW (DW pk th) Stop) :=
  ⟨fun hr h => GoesU.step hr h, fun hw h => h.rely sameW_trans hw, fun h => .of h⟩
/-- What a walk of one who owned F has left, since w0. -/
structure Since0 (F : Nat → Prop) (w0 : World) (F' : Nat → Prop) (w : World) : Prop where
  rest : ∀ x, x < w0.heap.size → ¬ F x → w.heap[x]? = w0.heap[x]?
  own : ∀ x, F' x → F x ∨ w0.heap.size ≤ x
  size : w0.heap.size ≤ w.heap.size
  inb : ∀ x, F' x → x < w.heap.size
  os : w.os = w0.os
  out : w.output = w0.output
/-- A walk of one who owns blocks, while nobody else moves memory. -/
theorem GoesF.toU {P : Program} {main : Bool} {pk th : Nat} {Stop : (Nat → Prop) → Goroutine → World → Prop} {F : Nat → Prop} {g : Goroutine} {w : World} (h : GoesF P main Stop F g w) (h1 : ¬ F pk) (h2 : ¬ F th) (h3 : pk < w.heap.size) (h4 : th < w.heap.size) (h5 : ∀ x, F x → x < w.heap.size) :
    GoesU P main SameW (DW pk th) (fun g w' => ∃ F', Stop F' g w' ∧ Since0 F w F' w') g w := by
  have key := h.induct (X := fun F' g w' => Since0 F w F' w' → GoesU P main SameW (DW pk th) (fun g w' => ∃ F', Stop F' g w' ∧ Since0 F w F' w') g w') ?_ ?_
  · exact key ⟨fun _ _ _ => rfl, fun _ hx => .inl hx, Nat.le_refl _, h5, rfl, rfl⟩
  · intro F' g w' hs hS
    exact GoesU.stop fun w₁ hw => by
      obtain ⟨p, rfl⟩ := hw
      exact ⟨F', hs _ ⟨Nat.le_refl _, fun _ _ => rfl, rfl, rfl⟩, ⟨hS.rest, hS.own, hS.size, hS.inb, hS.os, hS.out⟩⟩
  · intro F' g w' hr hst hS
    refine GoesU.step hr ?_
    rintro w₁ ⟨p, rfl⟩
    refine goes_mono (hst _ ⟨Nat.le_refl _, fun _ _ => rfl, rfl, rfl⟩) ?_
    rintro g' w2 es ⟨hg, _, hx⟩
    have hsz : w'.heap.size ≤ w2.heap.size := hg.size
    have hnf : ∀ c, ¬ F c → c < w.heap.size → ¬ F' c := fun c hc hl hF' => by
      rcases hS.own c hF' with h | h
      · exact hc h
      · omega
    refine ⟨⟨fun e he => (hg.evs e he).1, ?_⟩, hx ⟨fun x hx hn => (hg.rest x (Nat.lt_of_lt_of_le hx hS.size) (hnf x hn hx)).trans (hS.rest x hx hn), ?_, Nat.le_trans hS.size hsz, ?_, hg.os.trans hS.os, hg.out.trans hS.out⟩⟩
    · rintro c (rfl | rfl) o _ hc
      · exact (hg.rest _ (Nat.lt_of_lt_of_le h3 hS.size) (hnf _ h1 h3)).trans hc
      · exact (hg.rest _ (Nat.lt_of_lt_of_le h4 hS.size) (hnf _ h2 h4)).trans hc
    · rintro x (hx | hx)
      · exact hS.own x hx
      · have := hS.size
        have := hx.1
        simp only [reW] at this
        exact .inr (by omega)
    · rintro x (hx | hx)
      · have := hS.inb x hx; omega
      · exact hx.2
/-- Goroutine 0 goes on to K, beside leavers. -/
def XR (P : Program) (K : Machine → Trace → Prop) (g : Goroutine) (w : World) : Prop :=
  ∀ w₁, SameW w w₁ → ∀ (gs : Array Goroutine) (sl : Option (Nat × Nat)) (t : Trace) (q : Nat → Nat), gs[0]? = some g → LeaveX (· = 0) P t gs q → PastU t → Reaches P K (crowd gs w₁ sl) t
theorem shut_XR {P : Program} {K : Machine → Trace → Prop} : Shut P true OkE (XR P K) := by
  have rly : ∀ {g : Goroutine} {w w₁ : World}, SameW w w₁ → XR P K g w → XR P K g w₁ := fun hw h w₂ h2 => h w₂ (sameW_trans _ _ _ hw h2)
  refine ⟨fun {g w} hr h w₁ hw gs sl t q h0 hL hP => ?_, rly, fun h => h.1⟩
  have hU : GoesU P true AtRel OkE (XR P K) g w₁ := GoesU.step hr fun w₂ h2 => goes_mono (h w₂ (sameW_trans _ _ _ hw (sameW_at h2))) fun _ _ _ hx => ⟨hx.1, GoesU.stop fun w₃ h3 => rly (sameW_at h3) hx.2⟩
  refine (beside_u (sl := sl) hU h0 hL hP).trans ?_
  rintro m t ⟨gs', a, w', sl', q', rfl, _, h0', hX, hL', hP'⟩
  exact hX w' (sameW_refl _) gs' sl' t q' h0' hL' hP'
section
variable {P : Program} {main : Bool} {D : World → World → Array Event → Prop} {X : Goroutine → World → Prop} {g g' : Goroutine} {w : World}
theorem okEs_nil (w : World) : OkEs w w #[] := ⟨by simp, ChEq.refl _⟩
theorem Shut.ctl (hX : Shut P main D X) (hr : g.status = .running) (hs : ∀ w, stepG P main g w = .go g' w #[]) (h : X g' w) : X g w :=
  hX.step hr fun w₁ h1 => by rw [hs, goes_go]; exact ⟨hX.plain (okEs_nil _), hX.rely h1 h⟩
variable {b : Frame} {a : Act} {k : List Item} {cs : List Frame}
/-- Shut under steps of control. -/
structure Ctl (P : Program) (main : Bool) (X : Goroutine → World → Prop) : Prop where
  go : ∀ {g g' : Goroutine} {w : World}, g.status = .running → (∀ w, stepG P main g w = .go g' w #[]) → X g' w → X g w
theorem Shut.c (hX : Shut P main D X) : Ctl P main X := ⟨fun hr hs h => hX.ctl hr hs h⟩
theorem goesF_c {Stop : (Nat → Prop) → Goroutine → World → Prop} {F : Nat → Prop} : Ctl P main (GoesF P main Stop F) := ⟨fun hr hs h => GoesF.ctl hr hs h⟩
theorem Ctl.skip (hX : Ctl P main X) (h : X (G (b.at a k) cs) w) : X (G (b.at a (.code .skip :: k)) cs) w := hX.go rfl (fun _ => stepG_skip) h
theorem Ctl.inBlock (hX : Ctl P main X) {id : Nat} (h : X (G (b.at a k) cs) w) : X (G (b.at a (.inBlock id :: k)) cs) w := hX.go rfl (fun _ => stepG_inBlock) h
theorem Ctl.seq (hX : Ctl P main X) {x y : Code} (h : X (G (b.at a (.code x :: .code y :: k)) cs) w) : X (G (b.at a (.code (.seq x y) :: k)) cs) w := hX.go rfl (fun _ => stepG_seq) h
theorem Ctl.cond (hX : Ctl P main X) {c : Operand} {x y : Code} (t : Bool) (hc : a.eval c = .bool t) (h : X (G (b.at a (.code (if t then x else y) :: k)) cs) w) : X (G (b.at a (.code (.cond c x y) :: k)) cs) w := hX.go rfl (fun _ => stepG_cond hc) h
theorem Ctl.block (hX : Ctl P main X) {id : Nat} {c : Code} (h : X (G (b.at a (.code c :: .inBlock id :: k)) cs) w) : X (G (b.at a (.code (.block id c) :: k)) cs) w := hX.go rfl (fun _ => stepG_block) h
theorem Ctl.loop (hX : Ctl P main X) {c : Code} (h : X (G (b.at a (.code c :: .inLoop c :: k)) cs) w) : X (G (b.at a (.code (.loop c) :: k)) cs) w := hX.go rfl (fun _ => stepG_loop) h
theorem Ctl.inLoop (hX : Ctl P main X) {c : Code} (h : X (G (b.at a (.code c :: .inLoop c :: k)) cs) w) : X (G (b.at a (.inLoop c :: k)) cs) w := hX.go rfl (fun _ => stepG_inLoop) h
theorem Ctl.exit (hX : Ctl P main X) {id : Nat} {k' : List Item} (he : exitTo id k = some k') (h : X (G (b.at a k') cs) w) : X (G (b.at a (.code (.exit id) :: k)) cs) w := hX.go rfl (fun _ => stepG_exit he) h
theorem Ctl.region (hX : Ctl P main X) {id : Nat} {ops : Array Oper} (l : List Nat) (hl : List.range ops.size = l) (h : X (G (b.at a (.inRegion ops l :: k)) cs) w) : X (G (b.at a (.code (.region id ops false) :: k)) cs) w := hX.go rfl (fun _ => by rw [stepG_region, hl]) h
theorem Ctl.regionEnd (hX : Ctl P main X) {ops : Array Oper} (h : X (G (b.at a k) cs) w) : X (G (b.at a (.inRegion ops [] :: k)) cs) w := hX.go rfl (fun _ => stepG_region_end) h
theorem Ctl.fin (hX : Ctl P main X) (h : X (G { b.at a [] with mode := .returning } cs) w) : X (G (b.at a []) cs) w := hX.go rfl (fun _ => stepG_end) h
theorem Ctl.ret (hX : Ctl P main X) (h : X (G { b.at a (.code .ret :: k) with mode := .returning } cs) w) : X (G (b.at a (.code .ret :: k)) cs) w := hX.go rfl (fun _ => stepG_ret') h
/-- An operation that only turns the slots. -/
theorem Ctl.quiet (hX : Ctl P main X) {ops : Array Oper} {i : Nat} {rest : List Nat} {o : Oper} (ho : ops[i]? = some o) (hw : Region.wanted o (yielded ops a.tmps) = true) (hk : b.kind ≠ .early) (v : Value) (hr : ∀ w, (execOp a.eval o).run P w = .ok (.value v) w) (he : ∀ w, (execOp a.eval o).events P w #[] = #[])
    (h : X (G (b.at (a.put o.dst v) (.inRegion ops rest :: k)) cs) w) : X (G (b.at a (.inRegion ops (i :: rest) :: k)) cs) w := by
  refine hX.go rfl (fun w₁ => ?_) h
  rw [stepG_value ho hw hk (hr w₁)]
  have : listed P b.fn a o w₁ = #[] := by unfold listed; rw [he w₁]; exact seen_none P _
  rw [this]
/-- A call is entered. -/
theorem Ctl.enter (hX : Ctl P main X) {ops : Array Oper} {i : Nat} {rest : List Nat} {o : Oper} (ho : ops[i]? = some o) (hw : Region.wanted o (yielded ops a.tmps) = true) (hk : b.kind ≠ .early) {f : FuncId} {args : Array Value} (hr : ∀ w, (execOp a.eval o).run P w = .ok (.enter f args) w) (he : ∀ w, (execOp a.eval o).events P w #[] = #[])
    (h : X (G (Frame.enter P f args .normal) (b.at a (.inRegion ops (i :: rest) :: k) :: cs)) w) : X (G (b.at a (.inRegion ops (i :: rest) :: k)) cs) w := by
  refine hX.go rfl (fun w₁ => ?_) h
  rw [stepG_enter ho hw hk (hr w₁)]
  have : listed P b.fn a o w₁ = #[] := by unfold listed; rw [he w₁]; exact seen_none P _
  rw [this]
theorem run_events {s : Sem Next} (hp : Plain [] s) (w : World) : (∀ e ∈ s.events P w #[], okEv e) ∧ ChEq w (resW (s.run P w)) := by
  have h1 := (plain_runT (Q := fun _ => True) P s w #[] hp (by
      have := Leaf.bind (Q := fun _ => True) (f := fun v => (pure v : Sem Next)) (fun _ => trivial) s
      rwa [bind_pure] at this)).2 (by simp)
  refine ⟨fun e he => h1 e ?_, plain_keep P s w hp (by simp)⟩
  exact he
end
end
section
open Go Go.Conc
open Go.ConcN (sumTo upd sumTo_upd upd_ne upd_same)
section
variable {P : Program} {s : Score} {SM SW : List Value → (Nat → Prop) → Goroutine → World → Prop} {OkV : Value → Prop}
theorem ops_nil (i : Nat) (fn : FuncId) (pos : String) : (MemOp.ofEvents i fn pos #[] : Trace) = #[] := rfl
/-- Goroutine 0 on its quiet way, the worker parked at its send. -/
theorem quiet_parked (hp : Parts P s SM SW OkV) {acc vs : List Value} {v z : Value} (hV : Claim P s SM SW vs) : ∀ (M : Nat) {F0 FW T0 TW : Nat → Prop} {gs : Array Goroutine} {a A2 B2 : Goroutine} {w : World} {sl : Option (Nat × Nat)} {t : Trace} {q : Nat → Nat} {kp kt k : Nat}, k + sumTo s.size q ≤ M → QW P s.cs A2 k a → SelAt P s SM OkV acc F0 A2 w → OkV v → GoesF P false (SW vs) FW (Go.Conc.served B2 undef) w → Dua P s kp kt false F0 FW gs a (parked B2 #[scase s.pk v z] .send) w → LeaveX (Two s.W) P t gs q → TrB s.W T0 TW t → Reaches P (Fin P s SM SW (acc ++ v :: vs)) (crowd gs w sl) t := by
  intro M
  induction M using Nat.strongRecOn with
  | ind M ih =>
    intro F0 FW T0 TW gs a A2 B2 w sl t q kp kt k hM hQ hS hv hn h hL hT
    rcases hQ.cases with ha | ⟨k', a', rfl, hgo, hk'⟩
    · exact sel_parked hp hV _ (Nat.le_refl _) ha hS hv hn h hL hT
    have hrun := hQ.running
    have hlt : 0 < gs.size := (Array.getElem?_eq_some_iff.1 h.g0).1
    rcases h.pick hL (awake_run hrun) (awake_parked _ _ _) (.inl hrun) (fun d => again_run hrun _) (fun d => again_send_open (h.op.at d)) sl with ⟨d, sl', _, hst⟩ | ⟨d, sl', hx, _⟩ | ⟨d, sl', gs', q', i, fn, pos, es, hi0, hiW, hm, hst, h', hL', hlt'⟩
    · have hr := runT_crowd_go (P := P) (sl := sl') (i := 0) h.g0 (show stepG P (0 == 0) a (w.at d) = _ from hgo (w.at d))
      refine Reaches.step (hst.trans hr) ?_
      rw [ops_nil, Array.append_empty]
      have hL' := hL.party (g := a) (g' := a') (w' := w.at d) (.inl rfl) hlt (u := #[]) (by simp)
      rw [Array.append_empty] at hL'
      exact ih (k' + sumTo s.size q) (by omega) (Nat.le_refl _) hk' (hS.rely hp (RelF.at F0 w d)) hv (hn.rely (RelF.at FW w d)) (h.at d (get_own hlt) (by rw [get_other (Ne.symm h.w0) h.gW, woken_id (again_send_open (h.op.at d))]) (by simp)) hL' hT
    · cases hx
    · refine Reaches.step hst ?_
      exact ih (k' + 1 + sumTo s.size q') (by omega) (Nat.le_refl _) hQ (hS.rely hp (RelF.at F0 w d)) hv (hn.rely (RelF.at FW w d)) h' hL' (slip_tr hT hi0 hiW hm)
/-- Goroutine 0 on its quiet way, behind the close. -/
theorem quiet_closed (hp : Parts P s SM SW OkV) {acc : List Value} : ∀ (M : Nat) {F0 FW T0 TW : Nat → Prop} {gs : Array Goroutine} {a A2 b b0 : Goroutine} {w : World} {sl : Option (Nat × Nat)} {t : Trace} {q : Nat → Nat} {kp kt pc k : Nat}, k + sumTo s.size q ≤ M → QW P s.cs A2 k a → SelAt P s SM OkV acc F0 A2 w → SW [] FW b0 w → Dua P s kp kt true F0 FW gs a b w → LeaveX (· = 0) P t gs q → TrC s.th pc T0 TW t → Reaches P (Fin P s SM SW acc) (crowd gs w sl) t := by
  intro M
  induction M using Nat.strongRecOn with
  | ind M ih =>
    intro F0 FW T0 TW gs a A2 b b0 w sl t q kp kt pc k hM hQ hS hW h hL hT
    rcases hQ.cases with ha | ⟨k', a', rfl, hgo, hk'⟩
    · exact closed_sel hp _ (Nat.le_refl _) ha hS hW h hL hT
    have hrun := hQ.running
    have hlt : 0 < gs.size := (Array.getElem?_eq_some_iff.1 h.g0).1
    have hltW : s.W < gs.size := (Array.getElem?_eq_some_iff.1 h.gW).1
    have haw := hL.awake fun i g hi hg => by cases hi; rw [h.g0] at hg; cases hg; exact awake_of (.inl hrun)
    obtain ⟨i, g, d, sl', hi, hg, hst⟩ := crowd_pick (P := P) (w := w) (sl := sl) haw ⟨0, a, h.g0, hrun⟩
    by_cases hi0 : i = 0
    · subst hi0
      obtain rfl : g = a := by have := h.g0; rw [hi] at this; exact Option.some.inj this
      have hr := runT_crowd_go (P := P) (sl := sl') (i := 0) hi (show stepG P (0 == 0) g (w.at d) = _ from hgo (w.at d))
      refine Reaches.step (hst.trans hr) ?_
      rw [ops_nil, Array.append_empty]
      have hL' := hL.party (g := g) (g' := a') (w' := w.at d) rfl hlt (u := #[]) (by simp)
      rw [Array.append_empty] at hL'
      obtain ⟨b', hb'⟩ : ∃ b', ((gs.map (woken P g a' (w.at d))).setIfInBounds 0 a')[s.W]? = some b' := ⟨_, Array.getElem?_eq_getElem (by simpa using hltW)⟩
      exact ih (k' + sumTo s.size q) (by omega) (Nat.le_refl _) hk' (hS.rely hp (RelF.at F0 w d)) (hp.wrel _ _ _ _ _ hW (RelF.at FW w d)) (h.at d (get_own hlt) hb' (by simp)) hL' hT
    · obtain ⟨g', es, q', hm, hrT, hL', hlt'⟩ := hL.slip (w := w.at d) hi hi0 hi0 hg sl'
      refine Reaches.step (hst.trans hrT) ?_
      rw [h.sz] at hlt'
      obtain ⟨b', hb'⟩ : ∃ b', ((gs.map (woken P g g' (w.at d))).setIfInBounds i g')[s.W]? = some b' := ⟨_, Array.getElem?_eq_getElem (by simpa using hltW)⟩
      exact ih (k' + 1 + sumTo s.size q') (by omega) (Nat.le_refl _) hQ (hS.rely hp (RelF.at F0 w d)) (hp.wrel _ _ _ _ _ hW (RelF.at FW w d)) (h.at d (by rw [get_other hi0 h.g0, woken_run hrun]) hb' (by simp)) hL' (hT.still (mute_ops hm) ((Deaf_other t hi0 _ ofEvents_g).trans hT.ear0))
/-- Goroutine 0 on its quiet way, the worker at its stop. -/
theorem quiet_stop (hp : Parts P s SM SW OkV) {acc vs : List Value} : ∀ (M : Nat) {F0 FW T0 TW : Nat → Prop} {gs : Array Goroutine} {a A2 b : Goroutine} {w : World} {sl : Option (Nat × Nat)} {t : Trace} {q : Nat → Nat} {kp kt k : Nat}, k + sumTo s.size q ≤ M → QW P s.cs A2 k a → SelAt P s SM OkV acc F0 A2 w → SW vs FW b w → Dua P s kp kt false F0 FW gs a b w → LeaveX (Two s.W) P t gs q → TrB s.W T0 TW t → (∀ x, T0 x → ¬ withTh s TW x) → Reaches P (Fin P s SM SW (acc ++ vs)) (crowd gs w sl) t := by
  intro M
  induction M using Nat.strongRecOn with
  | ind M ih =>
    intro F0 FW T0 TW gs a A2 b w sl t q kp kt k hM hQ hS hW h hL hT hd
    have hrun := hQ.running
    have hrW := sw_run hp hW
    have hlt : 0 < gs.size := (Array.getElem?_eq_some_iff.1 h.g0).1
    rcases h.pick hL (awake_run hrun) (awake_run hrW) (.inl hrun) (fun d => again_run hrun _) (fun d => again_run hrW _) sl with ⟨d, sl', _, hst⟩ | ⟨d, sl', _, hst⟩ | ⟨d, sl', gs', q', i, fn, pos, es, hi0, hiW, hm, hst, h', hL', hlt'⟩
    · have hD := h.at d h.g0 h.gW rfl
      rcases hQ.cases with ha | ⟨k', a', rfl, hgo, hk'⟩
      · obtain ⟨gs', ops, hr, rfl, hD', hL'⟩ := sel_waits hp hD hL ha hrW sl'
        refine Reaches.step (hst.trans hr) ?_
        rw [Array.append_empty]
        exact stop_park hp (fun _ vs' _ => duet hp vs') _ (Nat.le_refl _) (hS.rely hp (RelF.at F0 w d)) (hp.wrel _ _ _ _ _ hW (RelF.at FW w d)) hD' hL' hT hd
      · have hr := runT_crowd_go (P := P) (sl := sl') (i := 0) h.g0 (show stepG P (0 == 0) a (w.at d) = _ from hgo (w.at d))
        refine Reaches.step (hst.trans hr) ?_
        rw [ops_nil, Array.append_empty]
        have hL' := hL.party (g := a) (g' := a') (w' := w.at d) (.inl rfl) hlt (u := #[]) (by simp)
        rw [Array.append_empty] at hL'
        exact ih (k' + sumTo s.size q) (by omega) (Nat.le_refl _) hk' (hS.rely hp (RelF.at F0 w d)) (hp.wrel _ _ _ _ _ hW (RelF.at FW w d)) (h.at d (get_own hlt) (by rw [get_other (Ne.symm h.w0) h.gW, woken_run hrW]) (by simp)) hL' hT hd
    · have hD := h.at d h.g0 h.gW rfl
      have hS' := hS.rely hp (RelF.at F0 w d)
      have hW' := hp.wrel _ _ _ _ _ hW (RelF.at FW w d)
      cases vs with
      | nil =>
        obtain ⟨gs', b', w', ops, q', pc, hr, hth, hD', hW2, hrel, hL', hT'⟩ := duo_close hp hD hL hT hd hW' sl'
        refine Reaches.step (hst.trans hr) ?_
        rw [again_run hrun] at hD'
        rw [List.append_nil]
        exact quiet_closed hp _ (Nat.le_refl _) hQ (hS'.rely hp hrel) hW2 hD' hL' hT'
      | cons v vs' =>
        obtain ⟨hv, _, B2, z, hb, hn⟩ := hp.send _ _ _ _ _ hW'
        obtain ⟨gs', ops, hr, rfl, hD', hL'⟩ := send_waits hp hD hL hrun hb sl'
        refine Reaches.step (hst.trans hr) ?_
        rw [Array.append_empty]
        exact quiet_parked hp (duet hp vs') _ (Nat.le_refl _) hQ hS' hv hn hD' hL' hT
    · refine Reaches.step hst ?_
      exact ih (k + sumTo s.size q') (by omega) (Nat.le_refl _) hQ (hS.rely hp (RelF.at F0 w d)) (hp.wrel _ _ _ _ _ hW (RelF.at FW w d)) h' hL' (slip_tr hT hi0 hiW hm) hd
/-- THE FIRST MEETING. -/
theorem meet (hp : Parts P s SM SW OkV) {acc vs : List Value} {F0 FW T0 TW : Nat → Prop} {gs : Array Goroutine} {a A2 b : Goroutine} {w : World} {sl : Option (Nat × Nat)} {t : Trace} {q : Nat → Nat} {kp kt n : Nat} (hQ : MQ P s.cs A2 n a) (hS : SelAt P s SM OkV acc F0 A2 w) (hW : SW vs FW b w) (h : Dua P s kp kt false F0 FW gs a b w) (hL : LeaveX (Two s.W) P t gs q) (hT : TrB s.W T0 TW t) (hd : ∀ x, T0 x → ¬ withTh s TW x) : Reaches P (Fin P s SM SW (acc ++ vs)) (crowd gs w sl) t := by
  rcases hQ with ⟨k, _, hk⟩ | ⟨_, rfl⟩
  · exact quiet_stop hp _ (Nat.le_refl _) hk hS hW h hL hT hd
  · exact stop_park hp (fun _ vs' _ => duet hp vs') _ (Nat.le_refl _) hS hW h hL hT hd
end
theorem AtSel.inj {P : Program} {cs : Array CommCase} {A2 A2' a : Goroutine} (h : AtSel P cs A2 a) (h' : AtSel P cs A2' a) (w : World) : A2 = A2' := by
  have := (h.com w).symm.trans (h'.com w)
  injection this
/-- What a hired worker and its master are asked. -/
structure Deal (P : Program) (pk th : Nat) (z0 z1 : Value) (A2 : Goroutine) (SM SW : List Value → (Nat → Prop) → Goroutine → World → Prop) (OkV : Value → Prop) (vs : List Value) (F0 FW : Nat → Prop) (b : Goroutine) (w : World) : Prop where
  parts : ∀ s : Score, s.pk = pk → s.th = th → s.z0 = z0 → s.z1 = z1 → Parts P s SM SW OkV
  sw : SW vs FW b w
  sm : ∃ a0, SM [] F0 a0 w ∧ AtSel P (cases2 pk th z0 z1) A2 a0
  apart : ∀ x, F0 x → ¬ FW x
  in0 : ∀ x, F0 x → x < w.heap.size
  inW : ∀ x, FW x → x < w.heap.size
  not0 : ¬ F0 pk ∧ ¬ F0 th
  notW : ¬ FW pk ∧ ¬ FW th
/-- What is left of the world when the worker has ended. -/
structure Done (pk th : Nat) (F0 FW F0' FW' : Nat → Prop) (w w' : World) : Prop where
  rest : ∀ x, x < w.heap.size → ¬ F0 x → ¬ FW x → x ≠ pk → x ≠ th → w'.heap[x]? = w.heap[x]?
  old0 : ∀ x, x < w.heap.size → F0' x → F0 x
  oldW : ∀ x, x < w.heap.size → FW' x → FW x
  apart : ∀ x, F0' x → ¬ FW' x
  size : w.heap.size ≤ w'.heap.size
  os : w'.os = w.os
  out : w'.output = w.output
/-- A WORKER IS HIRED. -/
theorem hire {P : Program} {K : Machine → Trace → Prop} {gM gM' A2 : Goroutine} {d : Deferred} {w : World} {pk th : Nat} {z0 z1 : Value} {n : Nat} {StopW : Goroutine → World → Prop} (hrun : gM.status = .running) (hsp : ∀ w₁, stepG P true gM w₁ = .spawn gM' (born P d) w₁ #[])
    (hq : QW P (cases2 pk th z0 z1) A2 n gM') (hpk : ChOpen w pk 0) (hth : ChOpen w th 0) (hne : pk ≠ th) (hwk : GoesU P false SameW (DW pk th) StopW (born P d) w)
    (hmeet : ∀ b w', StopW b w' → ∃ SM SW OkV vs F0 FW, Deal P pk th z0 z1 A2 SM SW OkV vs F0 FW b w' ∧
      ∀ F0' FW' A2' a0 b0 w'', SM vs F0' a0 w'' → AtSel P (cases2 pk th z0 z1) A2' a0 → SW [] FW' b0 w'' → Done pk th F0 FW F0' FW' w' w'' → XR P K (A2'.finishComm P (cases2 pk th z0 z1) .select 1 z1 false) w'') : XR P K gM w := by
  intro w₀ hw₀ gs sl t q h0 hL hP
  replace hpk : ChOpen w₀ pk 0 := by unfold ChOpen; rw [hw₀.heap]; exact hpk
  replace hth : ChOpen w₀ th 0 := by unfold ChOpen; rw [hw₀.heap]; exact hth
  replace hwk := hwk.rely sameW_trans hw₀
  clear hw₀
  suffices H : ∀ M gs sl t q w₀, sumTo gs.size q ≤ M → gs[0]? = some gM → LeaveX (· = 0) P t gs q → PastU t → ChOpen w₀ pk 0 → ChOpen w₀ th 0 → GoesU P false SameW (DW pk th) StopW (born P d) w₀ → Reaches P K (crowd gs w₀ sl) t from H _ gs sl t q w₀ (Nat.le_refl _) h0 hL hP hpk hth hwk
  intro M
  induction M using Nat.strongRecOn with
  | ind M ih =>
    intro gs sl t q w hM h0 hL hP hpk hth hwk
    have haw := hL.awake fun i g hi hg => by cases hi; rw [h0] at hg; cases hg; exact awake_of (.inl hrun)
    obtain ⟨i, g, dd, sl', hi, hg, hst⟩ := crowd_pick (P := P) (w := w) (sl := sl) haw ⟨0, gM, h0, hrun⟩
    have hlt : 0 < gs.size := (Array.getElem?_eq_some_iff.1 h0).1
    by_cases hi0 : i = 0
    · subst hi0
      obtain rfl : g = gM := by rw [h0] at hi; exact (Option.some.inj hi).symm
      have hr := runT_crowd_spawn (P := P) (sl := sl') (i := 0) hi (show stepG P (0 == 0) g (w.at dd) = _ from hsp (w.at dd))
      refine Reaches.step (hst.trans hr) ?_
      have hdW : Deaf t gs.size = 0 := hL.above _ (Nat.le_refl _)
      have hops : ((MemOp.ofEvents 0 g.frame.fn g.frame.place #[]).push { g := 0, fn := g.frame.fn, pos := g.frame.place, act := .go gs.size } |>.push { g := gs.size, fn := (born P d).frame.fn, pos := g.frame.place, act := .start } : Trace) = #[⟨0, g.frame.fn, g.frame.place, .go gs.size⟩, ⟨gs.size, (born P d).frame.fn, g.frame.place, .start⟩] := rfl
      rw [hops]
      have hne2 : NoEar #[(⟨0, g.frame.fn, g.frame.place, .go gs.size⟩ : MemOp), ⟨gs.size, (born P d).frame.fn, g.frame.place, .start⟩] := by
        intro op hop
        simp only [List.mem_toArray, List.mem_cons, List.not_mem_nil, or_false] at hop
        rcases hop with rfl | rfl <;> exact ⟨nofun, nofun⟩
      have hA : Aid P gs.size pk th z0 z1 A2 0 0 ((gs.setIfInBounds 0 gM').push (born P d)) gM' (born P d) (w.at dd) (t ++ #[⟨0, g.frame.fn, g.frame.place, .go gs.size⟩, ⟨gs.size, (born P d).frame.fn, g.frame.place, .start⟩]) q (n + 1) := by
        refine ⟨?_, ?_, by omega, ⟨fun j x hj hx => ?_, fun j hj => ?_⟩, TrB.start hP (by omega) hdW _ _ _ _, hpk.at dd, hth.at dd, .inl ⟨n, rfl, hq⟩⟩
        · rw [Array.getElem?_push, if_neg (by simp; omega), Array.getElem?_setIfInBounds_self_of_lt hlt]
        · rw [Array.getElem?_push, if_pos (by simp)]
        · rw [deaf_app hne2]
          rw [Array.getElem?_push] at hx
          split at hx
          · rename_i e
            exact absurd (Or.inr (by simpa using e)) hj
          · rw [Array.getElem?_setIfInBounds_ne (fun e => hj (.inl e.symm))] at hx
            exact hL.old j x (fun e => hj (.inl e)) hx
        · rw [deaf_app hne2]
          exact hL.above j (by simp at hj; omega)
      refine (work (sl := sl') ((hwk.rely sameW_trans ⟨(w.tape, dd), rfl⟩).weak (fun _ _ h => sameW_at h) fun _ _ _ h => h) hA).trans ?_
      rintro m t' ⟨gs', a', b', w', sl2, q', n', rfl, hsz, hA', hSt⟩
      obtain ⟨SM, SW, OkV, vs, F0, FW, hD, hend⟩ := hmeet b' w' hSt
      let s : Score := { W := gs.size, size := gs'.size, pk := pk, th := th, z0 := z0, z1 := z1, ns := w'.heap.size, own0 := F0, ownW := FW, rest := fun x => w'.heap[x]?, os := w'.os, out := w'.output }
      have hp : Parts P s SM SW OkV := hD.parts s rfl rfl rfl rfl
      obtain ⟨a0, hsm, hat⟩ := hD.sm
      obtain ⟨A3, hat3, hS⟩ := hp.selAt hsm
      obtain rfl := hat.inj hat3 w'
      have hDua : Dua P s 0 0 false F0 FW gs' a' b' w' := ⟨hA'.g0, hA'.gW, hA'.w0, rfl, hD.apart, hD.in0, hD.inW, hA'.op, hA'.ot, hD.not0, hD.notW, hne, fun _ _ h => h, fun _ _ h => h, Nat.le_refl _, fun _ _ _ _ _ _ => rfl, rfl, rfl⟩
      refine (meet (s := s) hp (acc := []) hA'.mq hS hD.sw hDua hA'.lv hA'.tr (fun _ h => h.elim)).trans ?_
      rintro m t2 ⟨gs2, w2, sl3, q2, F2, FW2, A4, b2, a2, b3, kp, kt, rfl, hD2, hm2, hat2, hw2, hL2, hP2⟩
      exact hend F2 FW2 A4 a2 b3 w2 (by simpa using hm2) hat2 hw2 ⟨fun x hx h1 h2 h3 h4 => hD2.rst x hx h1 h2 h3 h4, hD2.old0, hD2.oldW, hD2.apart, hD2.big, hD2.oso, hD2.outo⟩ w2 (sameW_refl _) gs2 sl3 t2 q2 hD2.g0 hL2 hP2
    · obtain ⟨g', es, q', hm, hrT, hL', hlt'⟩ := hL.slip (w := w.at dd) hi hi0 hi0 hg sl'
      refine Reaches.step (hst.trans hrT) ?_
      have hsz : ((gs.map (woken P g g' (w.at dd))).setIfInBounds i g').size = gs.size := by simp
      exact ih (sumTo gs.size q') (by omega) _ sl' _ q' _ (by rw [hsz]; exact Nat.le_refl _) (by rw [get_other hi0 h0, woken_run hrun]) hL' (hP.mute hi0 hm) (hpk.at dd) (hth.at dd) (hwk.rely sameW_trans ⟨(w.tape, dd), rfl⟩)
end
end Go.Proofs.YtignemioillaiaaGreat
