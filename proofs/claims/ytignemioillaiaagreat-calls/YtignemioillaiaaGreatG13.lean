/- handOut's walk. -/
import Derived.Test.YtignemioillaiaaGreatG12
import Derived.Conc.EventLaws
import Derived.Conc.SmallLaws
import Derived.Test.YtignemioillaiaaGreatRows
namespace Go.Proofs.YtignemioillaiaaGreat
set_option maxHeartbeats 8000000
set_option maxRecDepth 100000
section
open Go Go.Conc
theorem body154 : Tryz.f154.body = some c154 := by
  unfold c154
  rfl
theorem enter154 (x y : Value) : Frame.enter Tryz.prog 154 #[x, y] .deferred = (baseD 154).at ⟨#[x, y, undef, undef, undef, undef, undef, undef, undef, undef, undef, undef, undef, undef, undef, undef, undef, undef, undef, undef, undef], []⟩ [.code c154] := by
  have h := enter_atD (P := Tryz.prog) #[x, y] Tryz.func154 body154
  rw [show Tryz.f154.ntmps = 21 from rfl] at h
  rw [h]
  walk_nrm
section
variable {br pk : Nat} {rc : Array Value} {tR : TypeId} {sl : Value} {ps : List Pkt} {cR : Frame} {cs1 : List Frame}
/-- From the loop's head. -/
theorem ho_head {F : Nat → Prop} {w : World} (hm : cR.mode = .returning) {i : Nat} (hi : i ≤ ps.length) (_hn : ps.length < 1000000) {x5 x12 x13 x14 x15 x16 x17 : Value} (hF : F br) (hB : w.heap[br]? = some (.cells rc tR)) (hrc : 20 < rc.size) (ho : w.ownsRow 0 139 5 sl ps.length (flat ps)) (hg : ∀ g, sl.ownBlock = some g → F g) (hin : ∀ x, F x → x < w.heap.size) :
    GoesF Tryz.prog false (SWp br pk rc tR sl ps cR cs1 ((ps.drop i).map Pkt.val)) F (G ((baseD 154).at ⟨tm154 br pk sl ps.length (.int .i64 i) x5 x12 x13 x14 x15 x16 x17, []⟩ (.code L154 :: K154)) (cR :: cs1)) w := by
  unfold L154 tm154
  simp only [c154, Tryz.f154, cl, cr, cb, Option.getD]
  refine Ctl.seq goesF_c ?_
  refine Ctl.region goesF_c _ rfl ?_
  simp [List.range, List.range.loop, -List.map_drop]
  refine Ctl.quiet goesF_c rfl rfl (by decide) _ (fun _ => by go_simp <;> rfl) (fun _ => by simp [go_sem, *]) ?_
  simp [Act.put, -List.map_drop]
  refine Ctl.regionEnd goesF_c ?_
  refine Ctl.seq goesF_c ?_
  refine Ctl.cond goesF_c (decide (i < ps.length)) rfl ?_
  by_cases hlt : i < ps.length
  · simp only [hlt, decide_true, if_true]
    refine Ctl.skip goesF_c ?_
    refine Ctl.seq goesF_c ?_
    refine Ctl.block goesF_c ?_
    refine Ctl.seq goesF_c ?_
    refine Ctl.region goesF_c _ rfl ?_
    simp [List.range, List.range.loop, -List.map_drop]
    obtain ⟨p, hp⟩ : ∃ p, ps[i]? = some p := ⟨_, List.getElem?_eq_getElem hlt⟩
    obtain ⟨g, cap, cur, rfl, _, hgb, hnc, hcm, hcs, htk⟩ : ∃ g cap cur, sl = .slice (some ⟨g, 0, none⟩) ps.length cap ∧ 0 ≤ g ∧ w.heap[g]? = some (.cells cur 139 (0, 0)) ∧ ps.length ≤ cap ∧ cap ≤ maxLen ∧ cur.size = cap * 5 ∧ cur.toList.take (ps.length * 5) = flat ps := by
      rcases ho.2 with ⟨_, h0⟩ | h
      · omega
      · exact h
    refine Ctl.quiet goesF_c rfl rfl (by decide) _ (fun _ => by go_simp <;> rfl) (fun _ => by simp [go_sem, *]) ?_
    simp [Act.put, -List.map_drop]
    have hFg : F g := hg g rfl
    have hp5 : (cur.toList.drop (i * 5)).take 5 = p.cells := by
      have h1 : ∀ j, j < 5 → cur.toList[i * 5 + j]? = p.cells[j]? := fun j hj => by
        rw [← flat_get hp hj, ← htk, List.getElem?_take]
        rw [if_pos (by omega)]
      refine List.ext_getElem? fun j => ?_
      rw [List.getElem?_take]
      split
      · rw [List.getElem?_drop]
        exact h1 j (by assumption)
      · rw [List.getElem?_eq_none (by simp [Pkt.cells]; omega)]
    refine GoesF.loadS rfl rfl (by decide) 139 rfl rfl hFg hgb Tryz.underlying139 rfl (n := 5) (by kernel_rfl) (by rw [hcs]; omega) p.cells hp5 ?_
    simp [Act.put, -List.map_drop]
    refine GoesF.makeK rfl rfl (by decide) (ob := .cells #[.int .u8 0, .int .u8 0, .int .u8 0, .int .u8 0, .string ⟨#[]⟩] 139) (v := fun n => .pointer (some ⟨n, 0, none⟩)) (fun w1 => by simp [go_sem]) (fun w1 => by go_simp) hin (fun w1 h1 => ?_)
    simp [Act.put, -List.map_drop]
    refine GoesF.storeS rfl rfl (by decide) 139 rfl rfl (v := .agg p.cells.toArray) rfl (.inr rfl) (B := w1.heap.size) (xs := #[.int .u8 0, .int .u8 0, .int .u8 0, .int .u8 0, .string ⟨#[]⟩]) (t := 139) (alloc_new w1 _) (by kernel_rfl) rfl (Nat.le_refl 5) p.cells rfl (fun w2 w3 h2 hb3 hne3 hsz3 hos3 hou3 => ?_)
    simp [Act.put, -List.map_drop]
    refine Ctl.regionEnd goesF_c ?_
    refine Ctl.region goesF_c _ rfl ?_
    simp [List.range, List.range.loop, -List.map_drop]
    refine Ctl.quiet goesF_c rfl rfl (by decide) _ (fun _ => by go_simp <;> rfl) (fun _ => by simp [go_sem, *]) ?_
    simp [Act.put, -List.map_drop]
    refine GoesF.loadS rfl rfl (by decide) 139 rfl rfl (.inr rfl) hb3 Tryz.underlying139 rfl (n := 5) (by kernel_rfl) (Nat.le_refl 5) p.cells rfl ?_
    simp [Act.put, -List.map_drop]
    have hs2 : w1.heap.size + 1 ≤ w2.heap.size := by rw [← alloc_size]; exact h2.size
    have hold : ∀ x, F x → w3.heap[x]? = w.heap[x]? := fun x hx => by
      have hx1 : x < w1.heap.size := Nat.lt_of_lt_of_le (hin x hx) h1.size
      rw [hne3 x (by omega), h2.own x (.inl hx), ← h1.own x hx, alloc_old hx1]
    refine GoesF.stop fun w4 h4 => ?_
    have hdr : ps.drop i = p :: ps.drop (i + 1) := by
      rw [List.drop_eq_getElem_cons hlt]
      congr 1
      rw [List.getElem?_eq_getElem hlt] at hp
      exact Option.some.inj hp
    rw [hdr, List.map_cons]
    refine SWp.rely ?_ h4
    exact ⟨i, p, _, _, _, hp, rfl, rfl, rfl, .inl hF, (hold br hF).trans hB, owns_rely ho fun x hx => hold x (hg x hx), fun x hx => .inl (hg x hx), fun x hx => hx.elim (fun hx => by have := hin x hx; have := h1.size; omega) fun hx => by omega⟩
  · obtain rfl : i = ps.length := by omega
    simp only [hlt, decide_false, Bool.false_eq_true, if_false]
    refine Ctl.exit goesF_c rfl ?_
    simp only [c154, Tryz.f154, cr, Option.getD]
    refine Ctl.region goesF_c _ rfl ?_
    simp [List.range, List.range.loop, -List.map_drop]
    refine Ctl.quiet goesF_c rfl rfl (by decide) _ (fun _ => by go_simp <;> rfl) (fun _ => by simp [go_sem, *]) ?_
    simp [Act.put, -List.map_drop]
    refine Ctl.quiet goesF_c rfl rfl (by decide) _ (fun _ => by go_simp <;> rfl) (fun _ => by simp [go_sem, *]) ?_
    simp [Act.put, -List.map_drop]
    refine Ctl.quiet goesF_c rfl rfl (by decide) _ (fun _ => by go_simp <;> rfl) (fun _ => by simp [go_sem, *]) ?_
    simp [Act.put, -List.map_drop]
    refine GoesF.storeS rfl rfl (by decide) 72 rfl rfl (v := .slice none 0 0) rfl hF hB (by kernel_rfl) rfl hrc (rc.setIfInBounds 20 (.slice none 0 0)).toList ?_ (fun w1 w3 h1 hb3 hne3 hsz3 hos3 hou3 => ?_)
    · rw [Array.toList_setIfInBounds, List.set_eq_take_append_cons_drop, if_pos (by simpa using hrc)]
      simp [Value.cells]
    · refine Ctl.regionEnd goesF_c ?_
      refine Ctl.fin goesF_c ?_
      refine goesF_c.go rfl (fun w => stepG_leave_deferred (fn := Tryz.f154) rfl rfl Tryz.func154 (results_none rfl _ _ _) (events_results_none rfl _ _) hm) ?_
      refine GoesF.stop fun w4 h4 => ?_
      refine SWp.rely ?_ h4
      exact ⟨rfl, hF, hb3.trans (by rw [Array.toArray_toList]), fun x hx => by have := hin x hx; have := h1.size; omega⟩
/-- From handOut's entry. -/
theorem ho_enter {F : Nat → Prop} {w : World} (hm : cR.mode = .returning) (hn : ps.length < 1000000) (hF : F br) (hB : w.heap[br]? = some (.cells rc tR)) (hrc : rc[20]? = some sl) (ho : w.ownsRow 0 139 5 sl ps.length (flat ps)) (hg : ∀ g, sl.ownBlock = some g → F g) (hin : ∀ x, F x → x < w.heap.size) :
    GoesF Tryz.prog false (SWp br pk rc tR sl ps cR cs1 (ps.map Pkt.val)) F (G (Frame.enter Tryz.prog 154 #[.pointer (some ⟨br, 0, none⟩), .chan (some pk)] .deferred) (cR :: cs1)) w := by
  have h20 : 20 < rc.size := (Array.getElem?_eq_some_iff.1 hrc).1
  have hsl : ∃ sa cap, sl = .slice sa ps.length cap := by
    rcases ho.2 with ⟨h, h0⟩ | ⟨g, cap, cur, h, _⟩
    · exact ⟨none, 0, by rw [h, h0]⟩
    · exact ⟨_, cap, h⟩
  obtain ⟨sa, cap, hsl⟩ := hsl
  rw [enter154]
  have hh := ho_head (cs1 := cs1) (pk := pk) (i := 0) (x5 := undef) (x12 := undef) (x13 := undef) (x14 := undef) (x15 := undef) (x16 := undef) (x17 := undef) hm (Nat.zero_le _) hn hF hB h20 ho hg hin
  rw [List.drop_zero] at hh
  unfold tm154 K154 L154 at hh
  simp only [c154, Tryz.f154, cl, cr, cb, Option.getD] at hh ⊢
  refine Ctl.seq goesF_c ?_
  refine Ctl.seq goesF_c ?_
  refine Ctl.region goesF_c _ rfl ?_
  simp [List.range, List.range.loop, -List.map_drop]
  refine Ctl.quiet goesF_c rfl rfl (by decide) _ (fun _ => by go_simp <;> rfl) (fun _ => by simp [go_sem, *]) ?_
  simp [Act.put, -List.map_drop]
  refine Ctl.quiet goesF_c rfl rfl (by decide) _ (fun _ => by go_simp <;> rfl) (fun _ => by simp [go_sem, *]) ?_
  simp [Act.put, -List.map_drop]
  refine Ctl.quiet goesF_c rfl rfl (by decide) _ (fun _ => by go_simp <;> rfl) (fun _ => by simp [go_sem, *]) ?_
  simp [Act.put, -List.map_drop]
  refine GoesF.load1 rfl rfl (by decide) 72 rfl rfl hF hB Tryz.underlying72 rfl hrc ?_
  simp [Act.put, -List.map_drop]
  subst hsl
  refine Ctl.quiet goesF_c rfl rfl (by decide) _ (fun _ => by go_simp <;> rfl) (fun _ => by simp [go_sem, *]) ?_
  simp [Act.put, -List.map_drop]
  refine Ctl.quiet goesF_c rfl rfl (by decide) _ (fun _ => by go_simp <;> rfl) (fun _ => by simp [go_sem, *]) ?_
  simp [Act.put, -List.map_drop]
  refine Ctl.regionEnd goesF_c ?_
  refine Ctl.block goesF_c ?_
  refine Ctl.loop goesF_c ?_
  exact hh
/-- Behind a send. -/
theorem ho_next {F : Nat → Prop} {w : World} (hm : cR.mode = .returning) (hn : ps.length < 1000000) (hrc : 20 < rc.size) {v : Value} {vs : List Value} {b : Goroutine} (h : SWp br pk rc tR sl ps cR cs1 (v :: vs) F b w) :
    (∃ p : Pkt, v = p.val) ∧ b.status = .running ∧ ∃ B2 z, (∀ w, stepG Tryz.prog false b w = .comm B2 #[scase pk v z] true .send w #[]) ∧ GoesF Tryz.prog false (SWp br pk rc tR sl ps cR cs1 vs) F (Go.Conc.served B2 undef) w := by
  obtain ⟨i, p, x5, x13, x17, h1, rfl, rfl, rfl, h5, h6, h7, h8, h9⟩ := h
  have hlt : i < ps.length := (List.getElem?_eq_some_iff.1 h1).1
  refine ⟨⟨p, rfl⟩, rfl, G ((baseD 154).at ⟨tm154 br pk sl ps.length (.int .i64 i) x5 (.bool true) x13 p.val (.chan (some pk)) p.val x17, []⟩ (.inRegion R154 [2] :: T154)) (cR :: cs1), .tuple #[], fun w => ?_, ?_⟩
  · unfold R154 L154 tm154
    simp only [c154, Tryz.f154, cl, cr, cb, co, Option.getD]
    rw [stepG_comm rfl rfl (by decide) (cases := #[scase pk p.val (.tuple #[])]) (blocking := true) (shape := .send) (w' := w) (by go_simp; rfl), listed_none (by simp [go_sem])]
  · have hh := ho_head (cs1 := cs1) (pk := pk) (i := i + 1) (x5 := x5) (x12 := .bool true) (x13 := x13) (x14 := p.val) (x15 := .chan (some pk)) (x16 := p.val) (x17 := .int .i64 (i + 1 : Nat)) hm (by omega) hn h5 h6 hrc h7 h8 h9
    rw [served_at]
    unfold tm154 K154 at hh
    unfold T154 R154 K154 tm154
    simp only [L154, c154, Tryz.f154, cl, cr, cb, co, Option.getD] at hh ⊢
    simp [Act.put, -List.map_drop]
    refine Ctl.regionEnd goesF_c ?_
    refine Ctl.inBlock goesF_c ?_
    refine Ctl.region goesF_c _ rfl ?_
    simp [List.range, List.range.loop, -List.map_drop]
    refine Ctl.quiet goesF_c rfl rfl (by decide) _ (fun _ => by go_simp <;> rfl) (fun _ => by simp [go_sem, *]) ?_
    simp [Act.put, -List.map_drop]
    refine Ctl.quiet goesF_c rfl rfl (by decide) _ (fun _ => by go_simp <;> rfl) (fun _ => by simp [go_sem, *]) ?_
    simp [Act.put, -List.map_drop]
    refine Ctl.regionEnd goesF_c ?_
    refine Ctl.inLoop goesF_c ?_
    have hwr : IntKind.i64.wrap ((i : Int) + 1) = ((i + 1 : Nat) : Int) := by rw [IntKind.wrap_i64]; omega
    rw [hwr]
    exact hh
end
section
variable {P : Program} {main : Bool} {X : Goroutine → World → Prop} {b : Frame} {a : Act} {k : List Item} {cs : List Frame} {w : World}
/-- A defer. -/
theorem Ctl.defer (hX : Ctl P main X) {ops : Array Oper} {i : Nat} {rest : List Nat} {o : Oper} (ho : ops[i]? = some o) (hw : Region.wanted o (yielded ops a.tmps) = true) (hk : b.kind ≠ .early) (d : Deferred) (hr : ∀ w, (execOp a.eval o).run P w = .ok (.defer d) w) (he : ∀ w, (execOp a.eval o).events P w #[] = #[])
    (h : X (G (b.at (Act.put ⟨a.tmps, d :: a.defers⟩ o.dst undef) (.inRegion ops rest :: k)) cs) w) : X (G (b.at a (.inRegion ops (i :: rest) :: k)) cs) w := by
  refine hX.go rfl (fun w₁ => ?_) h
  have hfin : (b.at ⟨a.tmps, d :: a.defers⟩ (.inRegion ops (i :: rest) :: k)).finish undef = b.at (Act.put ⟨a.tmps, d :: a.defers⟩ o.dst undef) (.inRegion ops rest :: k) := by rw [Frame.finish_at, ho]; rfl
  have hk' : (b.kind == CallKind.early) = false := by simpa using hk
  rw [stepG_oper ho hw, ← hfin]
  simp [stepG.apply, hr, he, G, Frame.at, hk', GStep.after, seen_none]
/-- A function is called by its name. -/
theorem Ctl.call (hX : Ctl P main X) {ops : Array Oper} {i : Nat} {rest : List Nat} {o : Oper} {f : FuncId} {fn : Func} {args : Array Operand} {ats : Array TypeId} (ho : ops[i]? = some o) (hw : Region.wanted o (yielded ops a.tmps) = true) (hk : b.kind ≠ .early) (hop : o.op = .call { callee := .value (.func f), args, argTypes := ats })
    (hf : P.funcs[f]? = some fn) (hname : (fn.name == "runtime.NumGoroutine") = false) (hb : fn.body.isNone = false) (h : X (G (Frame.enter P f (args.map a.eval) .normal) (b.at a (.inRegion ops (i :: rest) :: k) :: cs)) w) : X (G (b.at a (.inRegion ops (i :: rest) :: k)) cs) w :=
  Ctl.enter hX ho hw hk (fun _ => run_call_body hop hf hname hb) (fun _ => events_call_body hop hf hname hb #[]) h
/-- A deferred call of a function with a body is begun. -/
theorem Ctl.unwind (hX : Ctl P main X) {todo : List Item} {ds : List Deferred} {f : FuncId} {fn : Func} {c : Code} {args : Array Value} (hd : a.defers = dcall f args :: ds) (hf : P.funcs[f]? = some fn) (hname : (fn.name == "runtime.NumGoroutine") = false) (hb : fn.body = some c)
    (h : X (G (Frame.enter P f args .deferred) ({ b.at ⟨a.tmps, ds⟩ todo with mode := .returning } :: cs)) w) : X (G { b.at a todo with mode := .returning } cs) w :=
  hX.go rfl (fun _ => by rw [enter_atD args hf hb]; exact stepG_unwind_enter hd hf hname hb) h
end
/-- A CONTRACT, by whatever walk is shut under own steps. -/
def CallsY (P : Program) (f : FuncId) (args : Array Value) (w : World) (Post : Value → World → Prop) : Prop :=
  ∀ (main : Bool) (D : World → World → Array Event → Prop) (X : Goroutine → World → Prop) (cs : List Frame), Shut P main D X → (∀ fr v w', fr.fn = f → fr.leaving P w' (.returned v) → Post v w' → X (G fr cs) w') → X (G (Frame.enter P f args .normal) cs) w
/-- What a body is asked, whatever its frame is of. -/
def BodyY (P : Program) (f : FuncId) (c : Code) (a : Act) (w : World) (Post : Act → World → Prop) : Prop :=
  ∀ (main : Bool) (D : World → World → Array Event → Prop) (X : Goroutine → World → Prop) (b : Frame) (cs : List Frame), Shut P main D X → b.fn = f → b.kind ≠ .early → (∀ a' todo w', a'.defers = [] → Post a' w' → X (G { b.at a' todo with mode := .returning } cs) w') → X (G (b.at a [.code c]) cs) w
section
variable {P : Program} {main : Bool} {D : World → World → Array Event → Prop} {X : Goroutine → World → Prop} {w : World} {cs : List Frame}
theorem leaving_same {fr : Frame} {v : Value} {w w' : World} (h : fr.leaving P w (.returned v)) (hs : SameW w w') : fr.leaving P w' (.returned v) := by
  obtain ⟨l1, l2, l3, fn, l4, l5⟩ := h
  exact ⟨l1, l2, l3, fn, l4, results_shift fn fr.tmps hs.heap hs.os hs.out l5⟩
/-- The return to a caller. -/
theorem Shut.back (hX : Shut P main D X) {fr c : Frame} {v : Value} (hl : fr.leaving P w (.returned v)) (h : X (G (c.finish v) cs) w) : X (G fr (c :: cs)) w := by
  refine hX.step rfl fun w₁ h1 => ?_
  obtain ⟨hm, hd, hk, fn, hfn, hr⟩ := leaving_same hl h1
  have hr' : ((results fn fr.tmps).runT P w₁ #[]).1 = .ok v w₁ := by rw [Sem.runT_fst]; exact hr
  have hst : stepG P main (G fr (c :: cs)) w₁ = .go (G (c.finish v) cs) w₁ (seen P fr.fn ((results fn fr.tmps).runT P w₁ #[]).2 ++ #[]) := by
    simp only [G, stepG, unwind, doReturn, hm, hd, hk, hfn, hr']
    rfl
  rw [hst, goes_go]
  refine ⟨hX.plain ⟨fun e he => ?_, ChEq.refl _⟩, hX.rely h1 h⟩
  have h2 := (plain_runT (Q := fun _ => True) P (results fn fr.tmps) w₁ #[] (pl_results (kn := []) fn fr.tmps) (by
    have := Leaf.bind (Q := fun _ => True) (f := fun v => (pure v : Sem Value)) (fun _ => trivial) (results fn fr.tmps)
    rwa [bind_pure] at this)).2 (by simp)
  exact h2 e (seen_sub _ _ _ e (by simpa using he))
end
def dcl (th : Nat) : Deferred := { target := .builtin .close #[241] 0 #[false], args := #[.chan (some th)] }
/-- The frame that a goroutine of one call is born with, behind that call. -/
def bornF (P : Program) : Frame := { (default : Frame) with fn := P.funcs.size, defers := [], mode := .panicking [goexitEntry] }
theorem close_step {P : Program} {main : Bool} {b : Frame} {tm : Array Value} {todo : List Item} {cs : List Frame} {th kt : Nat} (hq : (P.funcs[b.fn]?).any (·.norace) = false) (w : World) (h : w.heap[th]? = some (.chan 0 #[] false kt kt false)) :
    stepG P main (G { b.at ⟨tm, [dcl th]⟩ todo with mode := .returning } cs) w = .go (G { b.at ⟨tm, []⟩ todo with mode := .returning } cs) { w with heap := w.heap.setIfInBounds th (.chan 0 #[] true kt kt false) } #[⟨.obj th, false, true⟩, ⟨.obj th, true, true⟩] := by
  have hr : (builtin .close #[241] 0 #[false] #[.chan (some th)]).run P w = .ok (.value (.tuple #[])) { w with heap := w.heap.setIfInBounds th (.chan 0 #[] true kt kt false) } := by
    simp [builtin, run_close_open _ _ h]
  have he : (builtin .close #[241] 0 #[false] #[.chan (some th)]).events P w #[] = #[⟨.obj th, false, true⟩, ⟨.obj th, true, true⟩] := by
    simp [builtin, events_close_open _ _ h]
  have hs : seen P b.fn #[⟨.obj th, false, true⟩, ⟨.obj th, true, true⟩] = #[⟨.obj th, false, true⟩, ⟨.obj th, true, true⟩] := by
    unfold seen
    simp [hq]
  simp [G, stepG, unwind, callDeferred, Frame.at, dcl, invoke, hr, he, hs, GStep.after]
/-- Behind its close it only leaves. -/
theorem worker_quits {P : Program} {tm : Array Value} {todo : List Item} {f : FuncId} {fn : Func} (hf : P.funcs[f]? = some fn) (hr : fn.results = #[]) : QuitsD P 2 0 (G { (baseD f).at ⟨tm, []⟩ todo with mode := .returning } [bornF P]) := by
  refine QuitsD.ctl rfl (g' := G (bornF P) []) (fun w => ?_) ?_
  · have h1 := results_none hr tm P w
    have h2 := events_results_none (w := w) (P := P) hr tm #[]
    simp [G, stepG, unwind, doReturn, Frame.at, baseD, hf, h1, h2, GStep.after, seen_none, bornF, goexitEntry]
  · refine QuitsD.ctl rfl (g' := { G (bornF P) [] with status := .finished }) (fun w => ?_) ⟨rfl, rfl⟩
    have hc : Frame.catches P (bornF P) = false := by
      unfold Frame.catches bornF
      simp
      rfl
    simp only [G, stepG, unwind, bornF] at hc ⊢
    simp only [hc, Bool.false_eq_true, if_false]
    rfl
theorem born_step {P : Program} {main : Bool} {f : FuncId} {fn : Func} {c : Code} (args : Array Value) (hf : P.funcs[f]? = some fn) (hname : (fn.name == "runtime.NumGoroutine") = false) (hb : fn.body = some c) (w : World) :
    stepG P main (born P (dcall f args)) w = .go (G (Frame.enter P f args .deferred) [bornF P]) w #[] := by
  have h1 : ¬ fn.name = "runtime.NumGoroutine" := by simpa using hname
  simp [born, G, stepG, unwind, callDeferred, dcall, invoke, callFunc, hf, h1, hb, GStep.after, seen_none, bornF]
/-- A function value is called. -/
theorem run_call_val {P : Program} {w : World} {a : Act} {o : Oper} {x : Operand} {f : FuncId} {fst cap : Array Value} {fn : Func} (hop : o.op = .call { callee := .value x, args := #[], argTypes := #[] }) (hx : a.eval x = .func (.func f) fst cap) (hf : P.funcs[f]? = some fn) (hname : (fn.name == "runtime.NumGoroutine") = false) (hb : fn.body.isNone = false) :
    (execOp a.eval o).run P w = .ok (.enter f (fst ++ cap)) w ∧ (execOp a.eval o).events P w #[] = #[] := by
  have h1 : ¬ fn.name = "runtime.NumGoroutine" := by simpa using hname
  have h2 : ¬ fn.body = none := by cases hx : fn.body <;> simp_all
  constructor <;> (unfold execOp; simp [hop, resolve, Deferred.ofValue, invoke, callFunc, hf, h1, h2, hx])
noncomputable def c106 : Code := Tryz.f106.body.getD .skip
noncomputable def R106 : Array Oper := co (cr (cr (cr c106)))
theorem body106 : Tryz.f106.body = some c106 := by
  unfold c106
  rfl
theorem enter106 (x y z u : Value) : Frame.enter Tryz.prog 106 #[x, y, z, u] .deferred = (baseD 106).at ⟨#[x, y, z, u, undef, undef, undef, undef, undef, undef, undef, undef, undef, undef], []⟩ [.code c106] := by
  have h := enter_atD (P := Tryz.prog) #[x, y, z, u] Tryz.func106 body106
  rw [show Tryz.f106.ntmps = 14 from rfl] at h
  rw [h]
  walk_nrm
/-- The frame of run, at its call; behind it. -/
def tm106 (r wk : Value) (pk th : Nat) (x : Value) : Array Value := #[r, wk, .chan (some pk), .chan (some th), undef, undef, undef, undef, .chan (some th), r, .chan (some pk), r, wk, x]
noncomputable def F106 (r wk : Value) (pk th : Nat) : Frame := (baseD 106).at ⟨tm106 r wk pk th undef, [dcall 155 #[r], dcall 154 #[r, .chan (some pk)], dcl th]⟩ [.inRegion R106 [1]]
def cR106 (r wk : Value) (pk th : Nat) (x : Value) (ds : List Deferred) : Frame := { (baseD 106).at ⟨tm106 r wk pk th x, ds⟩ [] with mode := .returning }
section
variable {D : World → World → Array Event → Prop} {X : Goroutine → World → Prop} {w : World} {r : Value} {pk th : Nat}
/-- The worker comes to its work. -/
theorem worker_begins (hX : Shut Tryz.prog false D X) {f : FuncId} {fst cap : Array Value} {fn : Func} (hf : Tryz.prog.funcs[f]? = some fn) (hname : (fn.name == "runtime.NumGoroutine") = false) (hb : fn.body.isNone = false)
    (h : X (G (Frame.enter Tryz.prog f (fst ++ cap) .normal) [F106 r (.func (.func f) fst cap) pk th, bornF Tryz.prog]) w) : X (born Tryz.prog (dcall 106 #[r, .func (.func f) fst cap, .chan (some pk), .chan (some th)])) w := by
  refine hX.c.go rfl (fun w => born_step _ Tryz.func106 (by kernel_rfl) body106 w) ?_
  rw [enter106]
  unfold F106 tm106 R106 at h
  simp only [c106, Tryz.f106, cr, co, Option.getD] at h ⊢
  refine Ctl.seq hX.c ?_
  refine Ctl.region hX.c _ rfl ?_
  simp [List.range, List.range.loop]
  refine Ctl.quiet hX.c rfl rfl (by decide) _ (fun _ => by go_simp <;> rfl) (fun _ => by simp [go_sem, *]) ?_
  simp [Act.put]
  refine Ctl.defer hX.c rfl rfl (by decide) (dcl th) (fun _ => by go_simp; rfl) (fun _ => by simp [go_sem]) ?_
  simp [Act.put]
  refine Ctl.regionEnd hX.c ?_
  refine Ctl.seq hX.c ?_
  refine Ctl.region hX.c _ rfl ?_
  simp [List.range, List.range.loop]
  refine Ctl.quiet hX.c rfl rfl (by decide) _ (fun _ => by go_simp <;> rfl) (fun _ => by simp [go_sem, *]) ?_
  simp [Act.put]
  refine Ctl.quiet hX.c rfl rfl (by decide) _ (fun _ => by go_simp <;> rfl) (fun _ => by simp [go_sem, *]) ?_
  simp [Act.put]
  refine Ctl.defer hX.c rfl rfl (by decide) (dcall 154 #[r, .chan (some pk)]) (fun _ => by go_simp; rfl) (fun _ => by simp [go_sem]) ?_
  simp [Act.put]
  refine Ctl.regionEnd hX.c ?_
  refine Ctl.seq hX.c ?_
  refine Ctl.region hX.c _ rfl ?_
  simp [List.range, List.range.loop]
  refine Ctl.quiet hX.c rfl rfl (by decide) _ (fun _ => by go_simp <;> rfl) (fun _ => by simp [go_sem, *]) ?_
  simp [Act.put]
  refine Ctl.defer hX.c rfl rfl (by decide) (dcall 155 #[r]) (fun _ => by go_simp; rfl) (fun _ => by simp [go_sem]) ?_
  simp [Act.put]
  refine Ctl.regionEnd hX.c ?_
  refine Ctl.region hX.c _ rfl ?_
  simp [List.range, List.range.loop]
  refine Ctl.quiet hX.c rfl rfl (by decide) _ (fun _ => by go_simp <;> rfl) (fun _ => by simp [go_sem, *]) ?_
  simp [Act.put]
  refine Ctl.enter hX.c rfl rfl (by decide) (fun w => (run_call_val rfl rfl hf hname hb).1) (fun w => (run_call_val rfl rfl hf hname hb).2) ?_
  exact h
/-- Its work is done: the record. -/
theorem worker_writes (hX : Shut Tryz.prog false D X) {wk v : Value} (h : X (G (Frame.enter Tryz.prog 155 #[r] .deferred) [cR106 r wk pk th v [dcall 154 #[r, .chan (some pk)], dcl th], bornF Tryz.prog]) w) : X (G ((F106 r wk pk th).finish v) [bornF Tryz.prog]) w := by
  unfold F106 tm106 R106
  rw [Frame.finish_at]
  unfold cR106 tm106 at h
  simp only [c106, Tryz.f106, cr, co, Option.getD]
  simp [Act.put]
  refine Ctl.regionEnd hX.c ?_
  refine Ctl.fin hX.c ?_
  exact Ctl.unwind hX.c rfl Tryz.func155 (c := Tryz.f155.body.getD .skip) (by kernel_rfl) rfl h
/-- The record is written: packets are handed out. -/
theorem worker_hands (hX : Shut Tryz.prog false D X) {wk v : Value} (h : X (G (Frame.enter Tryz.prog 154 #[r, .chan (some pk)] .deferred) [cR106 r wk pk th v [dcl th], bornF Tryz.prog]) w) : X (G (cR106 r wk pk th v [dcall 154 #[r, .chan (some pk)], dcl th]) [bornF Tryz.prog]) w := by
  unfold cR106 tm106 at h ⊢
  exact Ctl.unwind hX.c rfl Tryz.func154 (by kernel_rfl) body154 h
end
noncomputable def c59 : Code := Tryz.f59.body.getD .skip
theorem body59 : Tryz.f59.body = some c59 := by
  unfold c59
  rfl
theorem enter59 (x y z : Value) : Frame.enter Tryz.prog 59 #[x, y, z] .normal = (Go.Conc.base 59).at ⟨#[x, y, z, undef, undef, undef, undef, undef, undef, undef, undef, undef, undef, undef, undef, undef, undef, undef, undef, undef, undef, undef, undef, undef, undef], []⟩ [.code c59] := by
  have h := enter_at (P := Tryz.prog) #[x, y, z] Tryz.func59 body59
  rw [show Tryz.f59.ntmps = 25 from rfl] at h
  rw [h]
  walk_nrm
noncomputable def L59 : Code := cb (cb (cr (cr (cr c59))))
noncomputable def B59 : Code := cb L59
noncomputable def R59 : Array Oper := co (cl (cr B59))
noncomputable def K59 : List Item := [.code (cr (cr B59)), .inBlock 1, .inLoop L59, .inBlock 0]
def tm59 (c r wk : Value) (pk th : Nat) (x8 x17 x18 x19 x20 x21 x22 x23 x24 : Value) : Array Value := #[c, r, wk, undef, undef, undef, .chan (some pk), .chan (some th), x8, .chan (some pk), .chan (some th), r, wk, .chan (some pk), .chan (some th), .chan (some pk), .chan (some th), x17, x18, x19, x20, x21, x22, x23, x24]
/-- The zero values of the two channels' elements. -/
def z59 : Value := .agg #[.int .u8 0, .int .u8 0, .int .u8 0, .int .u8 0, .string ⟨#[]⟩]
def y59 : Value := .agg #[]
noncomputable def A59 (c r wk : Value) (pk th : Nat) (x8 x17 x18 x19 x20 x21 x22 x23 x24 : Value) (cs : List Frame) : Goroutine := G ((Go.Conc.base 59).at ⟨tm59 c r wk pk th x8 x17 x18 x19 x20 x21 x22 x23 x24, []⟩ (.inRegion R59 [0, 1, 2, 3] :: K59)) cs
/-- It stands at its select. -/
theorem atSel59 (c r wk : Value) (pk th : Nat) (x8 x17 x18 x19 x20 x21 x22 x23 x24 : Value) (cs : List Frame) : AtSel Tryz.prog (cases2 pk th z59 y59) (A59 c r wk pk th x8 x17 x18 x19 x20 x21 x22 x23 x24 cs) (A59 c r wk pk th x8 x17 x18 x19 x20 x21 x22 x23 x24 cs) := by
  refine ⟨rfl, rfl, rfl, rfl, fun w => ?_⟩
  unfold A59 R59 tm59
  simp only [B59, L59, c59, Tryz.f59, cl, cr, cb, co, Option.getD]
  rw [stepG_comm rfl rfl (by decide) (cases := cases2 pk th z59 y59) (blocking := true) (shape := .select) (w' := w) (by go_simp; rfl), listed_none (by simp [go_sem])]
section
variable {X : Goroutine → World → Prop} {w : World} {c r wk : Value} {cs : List Frame}
theorem makeChan_step {P : Program} {main : Bool} {b : Frame} {a : Act} {k : List Item} (hX : Shut P main OkE X) {ops : Array Oper} {i : Nat} {rest : List Nat} {o : Oper} (ho : ops[i]? = some o) (hw : Region.wanted o (yielded ops a.tmps) = true) (hk : b.kind ≠ .early)
    {t e : TypeId} {dir : ChanDir} (hop : o.op = .makeChan t (.const (.int .i64 0))) (ht : P.underlying t = some (.chan dir e)) (hi : (P.info? e).isSome = true)
    (h : X (G (b.at (a.put o.dst (.chan (some w.heap.size))) (.inRegion ops rest :: k)) cs) (w.alloc (.chan 0 #[] false 0 0 false))) : X (G (b.at a (.inRegion ops (i :: rest) :: k)) cs) w := by
  obtain ⟨ii, hi⟩ := Option.isSome_iff_exists.1 hi
  have hx : execOp a.eval o = (do pure (Next.value (← Instr.makeChan t (.int .i64 0)))) := by unfold execOp; rw [hop]; rfl
  have hr : ∀ w : World, (execOp a.eval o).run P w = .ok (.value (.chan (some w.heap.size))) (w.alloc (.chan 0 #[] false 0 0 false)) := fun w => by
    have := run_makeChan (P := P) (w := w) ht hi .i64 0 (by decide) (by simp)
    rw [hx, Sem.run_bind, show (Instr.makeChan t (.int .i64 0)).run P w = _ from this]
    rfl
  have he : ∀ w : World, (execOp a.eval o).events P w #[] = #[] := fun w => by
    rw [hx, ev_value]
    exact events_makeChan (P := P) (w := w) ht hi .i64 0 (by decide) (by simp) #[]
  refine hX.step rfl fun w₁ h1 => ?_
  rw [stepG_value ho hw hk (hr w₁), listed_none (he w₁), goes_go]
  obtain ⟨p, rfl⟩ := h1
  exact ⟨by intro e he; simp at he, hX.rely ⟨p, rfl⟩ h⟩
/-- Up to the go statement. -/
theorem step_begins (hX : Shut Tryz.prog true OkE X)
    (h : X (G ((Go.Conc.base 59).at ⟨#[c, r, wk, undef, undef, undef, .chan (some w.heap.size), .chan (some (w.heap.size + 1)), undef, .chan (some w.heap.size), .chan (some (w.heap.size + 1)), r, wk, .chan (some w.heap.size), .chan (some (w.heap.size + 1)), undef, undef, undef, undef, undef, undef, undef, undef, undef, undef], []⟩ [.inRegion (co (cl (cr (cr c59)))) [4], .code (cr (cr (cr c59)))]) cs) ((w.alloc (.chan 0 #[] false 0 0 false)).alloc (.chan 0 #[] false 0 0 false))) : X (G (Frame.enter Tryz.prog 59 #[c, r, wk] .normal) cs) w := by
  rw [enter59]
  simp only [c59, Tryz.f59, cl, cr, co, Option.getD] at h ⊢
  refine Ctl.seq hX.c ?_
  refine Ctl.region hX.c _ rfl ?_
  simp [List.range, List.range.loop]
  refine makeChan_step hX rfl rfl (by decide) rfl Tryz.underlying197 (by kernel_rfl) ?_
  simp [Act.put]
  refine Ctl.quiet hX.c rfl rfl (by decide) _ (fun _ => by go_simp <;> rfl) (fun _ => by simp [go_sem, *]) ?_
  simp [Act.put]
  refine Ctl.regionEnd hX.c ?_
  refine Ctl.seq hX.c ?_
  refine Ctl.region hX.c _ rfl ?_
  simp [List.range, List.range.loop]
  refine makeChan_step hX rfl rfl (by decide) rfl Tryz.underlying198 (by kernel_rfl) ?_
  simp [Act.put]
  refine Ctl.quiet hX.c rfl rfl (by decide) _ (fun _ => by go_simp <;> rfl) (fun _ => by simp [go_sem, *]) ?_
  simp [Act.put]
  refine Ctl.regionEnd hX.c ?_
  refine Ctl.seq hX.c ?_
  refine Ctl.region hX.c _ rfl ?_
  simp [List.range, List.range.loop]
  refine Ctl.quiet hX.c rfl rfl (by decide) _ (fun _ => by go_simp <;> rfl) (fun _ => by simp [go_sem, *]) ?_
  simp [Act.put]
  refine Ctl.quiet hX.c rfl rfl (by decide) _ (fun _ => by go_simp <;> rfl) (fun _ => by simp [go_sem, *]) ?_
  simp [Act.put]
  refine Ctl.quiet hX.c rfl rfl (by decide) _ (fun _ => by go_simp <;> rfl) (fun _ => by simp [go_sem, *]) ?_
  simp [Act.put]
  refine Ctl.quiet hX.c rfl rfl (by decide) _ (fun _ => by go_simp <;> rfl) (fun _ => by simp [go_sem, *]) ?_
  simp [Act.put]
  exact h
end
theorem qw_c {P : Program} {cs : Array CommCase} {A2 : Goroutine} : Ctl P true (fun g _ => ∃ n, QW P cs A2 n g) := ⟨fun hr hs ⟨n, h⟩ => ⟨n + 1, .inr ⟨hr, _, hs, h⟩⟩⟩
/-- Behind the go statement, on to the select. -/
theorem to_select_x {X : Goroutine → World → Prop} (hC : Ctl Tryz.prog true X) {w : World} {c r wk : Value} {pk th : Nat} {cs : List Frame} (hh' : X (A59 c r wk pk th undef undef undef undef undef undef undef undef undef cs) w) : X (G ((Go.Conc.base 59).at ⟨#[c, r, wk, undef, undef, undef, .chan (some pk), .chan (some th), undef, .chan (some pk), .chan (some th), r, wk, .chan (some pk), .chan (some th), undef, undef, undef, undef, undef, undef, undef, undef, undef, undef], []⟩ [.inRegion (co (cl (cr (cr c59)))) [], .code (cr (cr (cr c59)))]) cs) w := by
  unfold A59 tm59 K59 R59 at hh'
  simp only [B59, L59, c59, Tryz.f59, cl, cr, cb, co, Option.getD] at hh' ⊢
  refine Ctl.regionEnd hC ?_
  refine Ctl.block hC ?_
  refine Ctl.loop hC ?_
  refine Ctl.block hC ?_
  refine Ctl.seq hC ?_
  refine Ctl.seq hC ?_
  refine Ctl.region hC _ rfl ?_
  simp [List.range, List.range.loop]
  refine Ctl.quiet hC rfl rfl (by decide) _ (fun _ => by go_simp <;> rfl) (fun _ => by simp [go_sem, *]) ?_
  simp [Act.put]
  refine Ctl.regionEnd hC ?_
  refine Ctl.region hC _ rfl ?_
  simp [List.range, List.range.loop]
  refine Ctl.quiet hC rfl rfl (by decide) _ (fun _ => by go_simp <;> rfl) (fun _ => by simp [go_sem, *]) ?_
  simp [Act.put]
  refine Ctl.regionEnd hC ?_
  refine Ctl.seq hC ?_
  refine Ctl.region hC _ rfl ?_
  simp [List.range, List.range.loop]
  exact hh'
theorem to_select (c r wk : Value) (pk th : Nat) (cs : List Frame) : ∃ n, QW Tryz.prog (cases2 pk th z59 y59) (A59 c r wk pk th undef undef undef undef undef undef undef undef undef cs) n (G ((Go.Conc.base 59).at ⟨#[c, r, wk, undef, undef, undef, .chan (some pk), .chan (some th), undef, .chan (some pk), .chan (some th), r, wk, .chan (some pk), .chan (some th), undef, undef, undef, undef, undef, undef, undef, undef, undef, undef], []⟩ [.inRegion (co (cl (cr (cr c59)))) [], .code (cr (cr (cr c59)))]) cs) :=
  to_select_x (w := default) (qw_c (P := Tryz.prog) (cs := cases2 pk th z59 y59) (A2 := A59 c r wk pk th undef undef undef undef undef undef undef undef undef cs)) ⟨0, atSel59 _ _ _ _ _ _ _ _ _ _ _ _ _ _ _⟩
end
section

end
end Go.Proofs.YtignemioillaiaaGreat
