/- What is asked of an operation is enough. -/
import Derived.Test.YtignemioillaiaaGreatG20
namespace Go.Proofs.YtignemioillaiaaGreat
set_option maxHeartbeats 8000000
set_option maxRecDepth 100000
section
open Go Go.Conc
def aggD : TypeDesc → Bool
  | .struct _ => true
  | .array _ _ => true
  | _ => false
theorem TyIs.shape {P : Program} {T : Tys} {t : Nat} {x : Ty} {i : TypeInfo} {d : TypeDesc} (h : TyIs P T t x i d) : aggD d = isS x := by
  have hk := h.kind
  cases x <;> simp only [dkT] at hk
  · rw [dk_i hk]; rfl
  · rw [dk_o hk]; rfl
  · rw [dk_t hk]; rfl
  · obtain ⟨_, rfl⟩ := dk_p hk; rfl
  · obtain ⟨_, _, _, rfl⟩ := dk_f hk; rfl
  · rw [dk_l hk]; rfl
  · rw [dk_m hk]; rfl
  · obtain ⟨_, rfl, _⟩ := dk_s hk; rfl
  · rw [dk_a hk]; rfl
theorem zv_cells {T : Tys} {t : Nat} {x : Ty} (hx : T.get t = some x) : (zv T t x).cells = (zc T t).toArray := by
  unfold zv
  cases hs : isS x with
  | true => rfl
  | false =>
    have : ∃ v, zc T t = [v] ∧ one v = true := by
      unfold zc zer
      rw [hx]
      cases x <;> first | exact ⟨_, rfl, rfl⟩ | cases hs
    obtain ⟨v, hv, h1⟩ := this
    rw [hv]
    cases v <;> first | rfl | cases h1
section
variable {P : Program}
theorem run_load1Z {a : Act} {o : Oper} {w : World} (ty : TypeId) {x : Operand} (hop : o.op = .load ty x) {B off : Nat} (hx : a.eval x = .pointer (some ⟨B, off, none⟩)) {xs : Array Value} {t : TypeId} {fr : Nat × Nat} (hW : w.heap[B]? = some (.cells xs t fr)) {d : TypeDesc} (hu : P.underlying ty = some d)
    (hd : (match d with | .struct _ | .array _ _ => true | _ => false) = false) {v : Value} (hc : xs[off]? = some v) : (execOp a.eval o).run P w = .ok (.value v) w := by
  have hcell : w.cell? ⟨B, off, none⟩ = some v := by rw [cell_of_row w B off xs t fr hW]; exact hc
  have hagg : (isAgg ty).run P w = .ok false w := by
    unfold isAgg
    rw [Sem.run_bind, run_underlying hu w]
    cases d <;> simp_all
  rw [exec_load hop, hx]
  simp [Instr.loadAt, Instr.sureAddr, loadVar, Sem.run_bind, hagg, hcell]
theorem run_loadSZ {a : Act} {o : Oper} {w : World} (ty : TypeId) {x : Operand} (hop : o.op = .load ty x) {B off : Nat} (hx : a.eval x = .pointer (some ⟨B, off, none⟩)) {xs : Array Value} {t : TypeId} {fr : Nat × Nat} (hW : w.heap[B]? = some (.cells xs t fr)) {d : TypeDesc} (hu : P.underlying ty = some d)
    (hd : (match d with | .struct _ | .array _ _ => true | _ => false) = true) {n : Nat} (hi : (P.info? ty).map (·.size) = some n) (hfit : Nat.ble (off + n) xs.size = true) (c : List Value) (hc : (xs.toList.drop off).take n = c) : (execOp a.eval o).run P w = .ok (.value (.agg c.toArray)) w := by
  subst hc
  have hfit := Nat.le_of_ble_eq_true hfit
  have hlen : ((xs.toList.drop off).take n).length = n := by simp; omega
  have hl : (loadCells ⟨B, off, none⟩ ((xs.toList.drop off).take n).length).run P w = .ok ((xs.toList.drop off).take n).toArray w :=
    run_loadCells_list (P := P) w ⟨B, off, none⟩ _ (fun j v hv => by
      have hadd : (⟨B, off, none⟩ : Addr).add j = ⟨B, off + j, none⟩ := by unfold Addr.add; split <;> simp_all
      rw [hadd, cell_of_row w B (off + j) xs t fr hW]
      rw [List.getElem?_take] at hv
      split at hv
      · simpa using hv
      · cases hv)
  rw [hlen] at hl
  rw [exec_load hop, hx]
  cases hq : P.info? ty with
  | none => simp [hq] at hi
  | some i =>
    have hs : i.size = n := by simpa [hq] using hi
    have hagg : (isAgg ty).run P w = .ok true w := by
      unfold isAgg
      rw [Sem.run_bind, run_underlying hu w]
      cases d <;> simp_all
    simp [Instr.loadAt, Instr.sureAddr, loadVar, Sem.run_bind, hagg, sizeOf, typeInfo, hq, hs, hl]
end
section
variable {P : Program} [Ser P] {E : Eng P} {s : Sg} {a : Act} {w : World} {o : Oper} {K K' : Value → World → Prop}
theorem OpY.of (h : ∀ w₁, SameW w w₁ → Plain [] (execOp a.eval o) ∧ ∃ v w', ((execOp a.eval o).run P w₁ = .ok (.value v) w' ∨ ((execOp a.eval o).run P w₁ = .ok .skip w' ∧ v = undef)) ∧ K v w') : OpY P o a.eval w K :=
  .inl fun w₁ hs => ⟨Fine.plain (h w₁ hs).1 w₁, (h w₁ hs).2⟩
theorem plainA (h : okOp (fun _ => false) (fun _ => []) 0 o.op = true) (hc : noCall o.op = true) : Plain [] (execOp a.eval o) := plain_op h hc
theorem y_load (hr : ∀ x v, ev s x = some v → a.eval x = v) {t : Nat} {x : Operand} (hop : o.op = .load t x) (h : ldW E w K t (ev s x)) (hK : ∀ v w', K v w' → K' v w') (hS : ∀ v w w', SameW w w' → K' v w → K' v w') : OpY P o a.eval w K' := by
  unfold ldW at h
  split at h
  · rename_i b off hx
    split at h
    · rename_i y hy
      obtain ⟨i, d, hd⟩ := E.tab.ok.is hy
      obtain ⟨xs, ty, hW, h⟩ := h
      have ex := hr _ _ hx
      cases hs : isS y with
      | true =>
        rw [hs] at h
        dsimp only [sif] at h
        have h0 : ¬ szT E.T t = 0 := fun e => by rw [e] at h; exact h
        have h0' : Nat.beq (szT E.T t) 0 = false := by cases hb : Nat.beq (szT E.T t) 0 with | true => exact absurd (Nat.eq_of_beq_eq_true hb) h0 | false => rfl
        rw [h0'] at h
        dsimp only at h
        obtain ⟨c, hc, hl, h⟩ := h
        refine .of fun w₁ h1 => ⟨plain_load hop, _, w₁, .inl (run_loadSZ t hop ex (by rw [h1.heap]; exact hW) hd.under ?_ (n := c.length) ?_ ?_ c ?_), hS _ _ _ h1 (hK _ _ h)⟩
        · have := hd.shape; rw [hs] at this; cases d <;> exact this
        · rw [hd.info, Option.map_some, hd.size, hl]
        · refine Nat.ble_eq_true_of_le ?_
          have : (cutL xs.toList off (szT E.T t)).length = szT E.T t := by rw [hc, hl]
          unfold cutL at this
          rw [List.length_take, List.length_drop, Array.length_toList] at this
          rw [hl]
          omega
        · rw [hl]; exact hc
      | false =>
        rw [hs] at h
        dsimp only [sif] at h
        obtain ⟨v, hv, h⟩ := h
        rw [Array.getElem?_toList] at hv
        refine .of fun w₁ h1 => ⟨plain_load hop, v, w₁, .inl (run_load1Z t hop ex (by rw [h1.heap]; exact hW) hd.under ?_ hv), hS _ _ _ h1 (hK _ _ h)⟩
        have := hd.shape; rw [hs] at this; cases d <;> exact this
    · exact h.elim
  · exact h.elim
theorem y_store (hr : ∀ x v, ev s x = some v → a.eval x = v) {t : Nat} {x y : Operand} (hop : o.op = .store t x y) (h : stW E w K t (ev s x) (ev s y)) (hK : ∀ v w', K v w' → K' v w') : OpY P o a.eval w K' := by
  unfold stW at h
  split at h
  · rename_i b off v hx hy
    split at h
    · rename_i z hz
      obtain ⟨i, d, hd⟩ := E.tab.ok.is hz
      obtain ⟨xs, ty, ys, hW, hok, rfl, h⟩ := h
      simp only [okSt, Bool.and_eq_true] at hok
      obtain ⟨⟨h1, h2⟩, h3⟩ := hok
      have h1 := Nat.eq_of_beq_eq_true h1
      have h3 := Nat.le_of_ble_eq_true h3
      rw [Array.length_toList] at h1 h3
      refine .of fun w₁ hs => ?_
      have hW1 : w₁.heap[b]? = some (.cells xs ty) := by rw [hs.heap]; exact hW
      refine ⟨plain_store hop, undef, w₁.setRow b (xs.toList.take off ++ v.cells.toList ++ xs.toList.drop (off + v.cells.size)).toArray, .inr ⟨?_, rfl⟩, hK _ _ (h _ ?_ ?_)⟩
      · rw [exec_store hop, hr _ _ hx, hr _ _ hy, Sem.run_bind, run_store_blk w₁ b off t ty v xs hW1 (by rw [hd.info, Option.map_some, hd.size, h1]) (List.all_eq_true.2 fun u hu => one_cell (List.all_eq_true.1 h2 u hu)) (by omega)]
        rfl
      · rw [← h1]; exact setRow_heap w₁ b xs _ ty (0, 0) hW1
      · exact ((GB.refl _ w).same hs).trans (GB.only (Only.setRow w₁ b _))
    · exact h.elim
  · exact h.elim
theorem y_mk {ob : Obj} {v : Nat → Value} (hp : Plain [] (execOp a.eval o)) (hrun : ∀ w1, (execOp a.eval o).run P w1 = .ok (.value (v w1.heap.size)) (w1.alloc ob)) (h : mkW w K ob v) (hK : ∀ v w', K v w' → K' v w') : OpY P o a.eval w K' :=
  .of fun w₁ hs => ⟨hp, _, _, .inl (hrun w₁), hK _ _ (h _ _ (alloc_new w₁ ob) (((GB.refl none w).same hs).trans (GB.alloc none w₁ ob)) (by rw [hs.heap]; exact Nat.le_refl _))⟩
theorem y_call (hr : ∀ x v, ev s x = some v → a.eval x = v) {f : Operand} {args : Array Operand} {ats : Array TypeId} (hop : o.op = .call { callee := .value f, args, argTypes := ats }) (h : caW E w K (ev s f) (evL (ev s) args.toList)) (hK : ∀ v w', K v w' → K' v w') : OpY P o a.eval w K' := by
  unfold caW at h
  split at h
  · rename_i g fs cs vs hf hv
    cases hg : E.fok g with
    | false =>
      rw [hg] at h
      dsimp only [sif] at h
      obtain ⟨v, h⟩ := h
      have e1 : args.map a.eval = vs.toArray := by apply Array.ext'; rw [Array.toList_map]; exact evL_map hr hv
      have e2 : execOp a.eval o = callFunc g ((fs ++ vs.toArray) ++ cs) := by
        unfold execOp
        rw [hop]
        show (do let d ← resolve a.eval { callee := .value f, args, argTypes := ats } o.type; invoke d.target d.args) = _
        unfold resolve
        simp only [hr _ _ hf, e1, Deferred.ofValue]
        rfl
      refine .inl fun w₁ hs => ?_
      obtain ⟨⟨h1, h2⟩, h3⟩ := h w₁ hs
      rw [e2]
      exact ⟨h1, v, w₁, .inl h2, hK _ _ h3⟩
    | true =>
      rw [hg] at h
      dsimp only [sif] at h
      obtain ⟨Post, hc, h⟩ := h
      have hb := E.fns g hg
      unfold callable at hb
      cases hfn : P.funcs[g]? with
      | none => rw [hfn] at hb; cases hb
      | some fn =>
        rw [hfn] at hb
        simp only [Bool.and_eq_true, Bool.not_eq_true'] at hb
        have e1 : args.map a.eval = vs.toArray := by apply Array.ext'; rw [Array.toList_map]; exact evL_map hr hv
        have q : quietS P (execOp a.eval o) = some (.enter g ((fs ++ vs.toArray) ++ cs)) := by
          unfold execOp
          rw [hop]
          show quietS P (do let d ← resolve a.eval { callee := .value f, args, argTypes := ats } o.type; invoke d.target d.args) = _
          unfold resolve
          simp only [hr _ _ hf, e1, Deferred.ofValue, quietS_bind, quietS_pure, Option.bind_some, invoke, callFunc]
          have hp : quietS P program = some P := rfl
          rw [hp, Option.bind_some, hfn]
          dsimp only
          rw [if_neg (by rw [hb.1]; decide), if_neg (by rw [hb.2]; decide)]
          rfl
        exact .inr ⟨g, _, Post, fun w => quietS_run q w, fun w => quietS_ev q w, hc, fun v w' hp => hK _ _ (h v w' hp)⟩
  · exact h.elim
omit [Ser P] in
theorem mapT_is {t key e : Nat} (h : mapT E t = some (key, e)) : P.underlying t = some (.map key e) ∧ P.underlying key = some (.int .u32) ∧ ∀ w, (zeroValue e).run P w = .ok (zv E.T e ((E.T.get e).getD .p)) w := by
  unfold mapT at h
  split at h
  · rename_i k' e' ht
    split at h
    · rename_i z h1 h2
      simp only [Option.some.injEq, Prod.mk.injEq] at h
      obtain ⟨rfl, rfl⟩ := h
      obtain ⟨_, _, d1⟩ := E.tab.ok.is ht
      obtain ⟨_, _, d2⟩ := E.tab.ok.is h1
      obtain ⟨_, _, d3⟩ := E.tab.ok.is h2
      refine ⟨dk_m d1.kind ▸ d1.under, dk_i d2.kind ▸ d2.under, fun w => ?_⟩
      rw [h2]
      exact quietS_run (quietS_zero d3.info d3.zero) w
    · cases h
  · cases h
theorem y_lookup (hr : ∀ x v, ev s x = some v → a.eval x = v) {t : Nat} {x y : Operand} {ok : Bool} (hop : o.op = .lookup t x y ok) (h : luW E w K t ok (ev s x) (ev s y)) (hK : ∀ v w', K v w' → K' v w') (hS : ∀ v w w', SameW w w' → K' v w → K' v w') : OpY P o a.eval w K' := by
  unfold luW at h
  split at h
  · rename_i m n hx hy
    split at h
    · rename_i key e ht
      obtain ⟨h1, h2, h3⟩ := mapT_is ht
      obtain ⟨f, hm, h⟩ := h
      refine .of fun w₁ hs => ⟨plainA (by rw [hop]; rfl) (by rw [hop]; rfl), _, w₁, .inl ?_, hS _ _ _ hs (hK _ _ h)⟩
      have e1 : execOp a.eval o = (do pure (Next.value (← Instr.lookup t (a.eval x) (a.eval y) ok))) := by unfold execOp; rw [hop]
      rw [e1, hr _ _ hx, hr _ _ hy, Sem.run_bind, runF_lookup h1 h2 h3 (hm.same hs) ok]
      cases ok <;> rfl
    · exact h.elim
  · exact h.elim
theorem y_update (hr : ∀ x v, ev s x = some v → a.eval x = v) {t : Nat} {x y z : Operand} (hop : o.op = .mapUpdate t x y z) (h : muW E w K t (ev s x) (ev s y) (ev s z)) (hK : ∀ v w', K v w' → K' v w') : OpY P o a.eval w K' := by
  unfold muW at h
  split at h
  · rename_i m n v hx hy hz
    split at h
    · rename_i p ht
      obtain ⟨key, e⟩ := p
      obtain ⟨h1, h2, h3⟩ := mapT_is ht
      obtain ⟨f, hm, h⟩ := h
      refine .of fun w₁ hs => ?_
      obtain ⟨w', g1, g2, g3⟩ := runF_update (P := P) (k := n) (v := v) h1 h2 (hm.same hs)
      refine ⟨plainA (by rw [hop]; rfl) (by rw [hop]; rfl), undef, w', .inr ⟨?_, rfl⟩, hK _ _ (h w' g2 (((GB.refl _ w).same hs).trans g3))⟩
      rw [exec_update hop, hr _ _ hx, hr _ _ hy, hr _ _ hz, Sem.run_bind, g1]
      rfl
    · exact h.elim
  · exact h.elim
theorem y_delete (hr : ∀ x v, ev s x = some v → a.eval x = v) {t t' : Nat} {x y : Operand} (hop : o.op = .call { callee := .builtin .delete, args := #[x, y], argTypes := #[t, t'] }) (h : mdW E w K t t' (ev s x) (ev s y)) (hK : ∀ v w', K v w' → K' v w') : OpY P o a.eval w K' := by
  unfold mdW at h
  split at h
  · rename_i m n hx hy
    split at h
    · rename_i key e ht
      obtain ⟨h1, h2, h3⟩ := mapT_is ht
      cases hb : Nat.beq key t' with
      | false => rw [hb] at h; exact (show False from h).elim
      | true =>
        rw [hb] at h
        dsimp only [sif] at h
        have := Nat.eq_of_beq_eq_true hb
        subst this
        obtain ⟨f, hm, h⟩ := h
        refine .of fun w₁ hs => ?_
        obtain ⟨w', g1, g2, g3⟩ := runF_delete (P := P) (ty := o.type) (k := n) h1 h2 (hm.same hs)
        refine ⟨plain_blt hop rfl, .tuple #[], w', .inl ?_, hK _ _ (h w' g2 (((GB.refl _ w).same hs).trans g3))⟩
        rw [exec_delete hop, hr _ _ hx, hr _ _ hy, Sem.run_bind, g1]
        rfl
    · exact h.elim
  · exact h.elim
theorem y_clear (hr : ∀ x v, ev s x = some v → a.eval x = v) {t : Nat} {x : Operand} (hop : o.op = .call { callee := .builtin .clear, args := #[x], argTypes := #[t] }) (h : mcW E w K t (ev s x)) (hK : ∀ v w', K v w' → K' v w') : OpY P o a.eval w K' := by
  unfold mcW at h
  split at h
  · rename_i m hx
    split at h
    · rename_i p ht
      obtain ⟨key, e⟩ := p
      obtain ⟨h1, h2, h3⟩ := mapT_is ht
      obtain ⟨f, hm, h⟩ := h
      refine .of fun w₁ hs => ?_
      obtain ⟨w', g1, g2, g3⟩ := runF_clear (P := P) (ty := o.type) h1 (hm.same hs)
      refine ⟨plain_blt hop rfl, .tuple #[], w', .inl ?_, hK _ _ (h w' g2 (((GB.refl _ w).same hs).trans g3))⟩
      rw [exec_clear hop, hr _ _ hx, Sem.run_bind, g1]
      rfl
    · exact h.elim
  · exact h.elim
theorem y_append (hr : ∀ x v, ev s x = some v → a.eval x = v) {t : Nat} {x y : Operand} (hop : o.op = .call { callee := .builtin .append, args := #[x, y], argTypes := #[t, t] }) (h : apW E w K t (ev s x) (ev s y)) (hK : ∀ v w', K v w' → K' v w') (hS : ∀ v w w', SameW w w' → K' v w → K' v w') : OpY P o a.eval w K' := by
  unfold apW at h
  split at h
  · rename_i b n c c' hx hy
    split at h
    · rename_i e ht
      split at h
      · rename_i z hz
        obtain ⟨_, _, d1⟩ := E.tab.ok.is ht
        obtain ⟨_, _, d2⟩ := E.tab.ok.is hz
        have hu : P.underlying t = some (.slice e) := dk_l d1.kind ▸ d1.under
        have q : quietS P (execOp a.eval o) = some (.value (.slice b n c)) := by
          have e1 : execOp a.eval o = (do pure (Next.value (← Builtin.append_ #[t, t] o.type #[a.eval x, a.eval y]))) := by
            have e : execOp a.eval o = builtin .append #[t, t] o.type (#[x, y].map fun | .const _ => true | _ => false) (#[x, y].map a.eval) := by
              unfold execOp
              rw [hop]
              rfl
            rw [e, show #[x, y].map a.eval = #[a.eval x, a.eval y] by simp]
            rfl
          rw [e1, hr _ _ hx, hr _ _ hy]
          have h1 := h.1
          cases b <;> simp [Builtin.append_, quietS_bind, quietS_under hu, quietS_size d2.info, quietS_pure, Builtin.lenOf, Builtin.firstCells, h1, storeCells]
        exact .inl fun w₁ hs => ⟨Fine.quiet q w₁, _, w₁, .inl (quietS_run q w₁), hS _ _ _ hs (hK _ _ h.2)⟩
      · exact h.elim
    · exact h.elim
  · rename_i b n c ad m c' hx hy
    split at h
    · rename_i e ht
      split at h
      · rename_i z hz
        obtain ⟨_, _, d1⟩ := E.tab.ok.is ht
        obtain ⟨i2, _, d2⟩ := E.tab.ok.is hz
        have hu : P.underlying t = some (.slice e) := dk_l d1.kind ▸ d1.under
        have h0 : ¬ szT E.T e = 0 := fun e => by rw [e] at h; exact (show False from h)
        have h0' : Nat.beq (szT E.T e) 0 = false := by cases hb : Nat.beq (szT E.T e) 0 with | true => exact absurd (Nat.eq_of_beq_eq_true hb) h0 | false => rfl
        rw [h0'] at h
        dsimp only [sif] at h
        obtain ⟨xs, news, ho, hs, hm, h⟩ := h
        unfold srcW at hs
        split at hs
        · rename_i B off hsp
          obtain ⟨nb, tb, hW, h1, h2, h3⟩ := hs
          obtain rfl := Option.some.inj hsp
          refine .of fun w₁ hs => ?_
          have hby : (n + m) * i2.bytes ≤ 140737488355328 := by
            have := d2.bytes
            calc (n + m) * i2.bytes ≤ 1000000000 * 2400 := Nat.mul_le_mul hm this
              _ ≤ 140737488355328 := by decide
          obtain ⟨v', w', g1, g2, g3, g4, g5⟩ := run_appendA (P := P) (w := w₁) hop e i2 _ (szT E.T e) i2.bytes hu d2.info d2.zero d2.size rfl (by rw [zv_cells hz]; rfl) (by omega) (hr _ _ hx) (owns_rely ho fun g _ => by rw [hs.heap]) (hr _ _ hy) (by rw [hs.heap]; exact hW) h1 h2 (fun u hu => one_cell (List.all_eq_true.1 h3 u hu)) (by have : maxLen = 9223372036854775807 := rfl; omega) hby
          exact ⟨plain_blt hop rfl, v', w', .inl g1, hK _ _ (h v' w' g2 (((GB.refl _ w).same hs).trans g3) ⟨by rw [hs.heap] at g4; exact g4, fun g eg hc => by subst eg; exact g5 g c rfl hc⟩)⟩
        · exact hs.elim
      · exact h.elim
    · exact h.elim
  · exact h.elim
theorem zero_row {n sz : Nat} (z : List Value) (hz : z.length = sz) (h0 : 0 < sz) : (Array.range (n * sz)).map (fun i => z.toArray[i % z.toArray.size]!) = ((List.range (n * sz)).map fun i => z.getD (i % sz) undef).toArray := by
  apply Array.ext'
  rw [Array.toList_map, Array.toList_range]
  refine List.map_congr_left fun i _ => ?_
  have h1 : i % sz < z.length := by rw [hz]; exact Nat.mod_lt _ h0
  simp only [List.size_toArray, hz]
  rw [List.getD_eq_getElem?_getD, List.getElem?_eq_getElem h1]
  simp [h1]
omit [Ser P] in
theorem y_buildSlice (hr : ∀ x v, ev s x = some v → a.eval x = v) {t n e : Nat} {ps : Array (Nat × Operand)} {vs : List (Nat × Value)} {z : Ty} {cs : List Value} (hop : o.op = .buildSlice t n ps) (ht : E.T.get t = some (.l e)) (hz : E.T.get e = some z) (hv : evP (ev s) ps.toList = some vs) (hf : fillL ((List.range n).map fun i => (i * szT E.T e, szT E.T e)) ((List.range (n * szT E.T e)).map fun i => (zc E.T e).getD (i % szT E.T e) undef) vs = some cs) (hb : n * szT E.T e ≤ 1000) (h0 : 0 < szT E.T e) (w1 : World) : (execOp a.eval o).run P w1 = .ok (.value (.slice (some ⟨w1.heap.size, 0, none⟩) n n)) (w1.alloc (.cells cs.toArray e)) := by
  obtain ⟨_, _, d1⟩ := E.tab.ok.is ht
  obtain ⟨_, _, d2⟩ := E.tab.ok.is hz
  have hu : P.underlying t = some (.slice e) := dk_l d1.kind ▸ d1.under
  have e1 : execOp a.eval o = (do pure (Next.value (← Instr.buildSlice t n (ps.map fun (p : Nat × Operand) => (p.1, a.eval p.2))))) := by unfold execOp; rw [hop]
  have e2 : (ps.map fun (p : Nat × Operand) => (p.1, a.eval p.2)) = vs.toArray := by apply Array.ext'; rw [Array.toList_map]; exact evP_map hr hv
  rw [e1, e2]
  have hpl : ∀ i, (fun i => if i < n then some (i * szT E.T e, szT E.T e) else none) i = ((List.range n).map fun i => (i * szT E.T e, szT E.T e))[i]? := by
    intro i
    rw [List.getElem?_map]
    by_cases hi : i < n
    · simp [hi]
    · simp [hi]
  have hfill := fill_L hpl hf
  have mono : ∀ (vs : List (Nat × Value)) (cs out : Array Value), Instr.fill (fun i => if i < n then some (i * szT E.T e, szT E.T e) else none) cs vs = some out → Instr.fill (fun i => some (i * szT E.T e, szT E.T e)) cs vs = some out := by
    intro vs
    induction vs with
    | nil => exact fun _ _ h => h
    | cons p r ih =>
      intro cs out h
      obtain ⟨i, v⟩ := p
      unfold Instr.fill at h ⊢
      by_cases hi : i < n
      · rw [if_pos hi] at h
        dsimp only at h ⊢
        split
        · rename_i hc; rw [if_pos hc] at h; cases h
        · rename_i hc; rw [if_neg hc] at h; exact ih _ _ h
      · rw [if_neg hi] at h; cases h
  have hfill := mono _ _ _ hfill
  rw [← zero_row (n := n) (sz := szT E.T e) (zc E.T e) rfl h0] at hfill
  have hsz : ¬ n * szT E.T e > 2 ^ 24 := by omega
  have hzr : (zeroValue e).run P w1 = .ok (zv E.T e z) w1 := quietS_run (quietS_zero d2.info d2.zero) w1
  have hsr : (sizeOf e).run P w1 = .ok (szT E.T e) w1 := by rw [quietS_run (quietS_size d2.info) w1, d2.size]
  have hur : (underlying t).run P w1 = .ok (.slice e) w1 := quietS_run (quietS_under hu) w1
  have hzc : (zv E.T e z).cells = (zc E.T e).toArray := zv_cells hz
  have e3 : (Instr.buildSlice t n vs.toArray).run P w1 = .ok (.slice (some ⟨w1.heap.size, 0, none⟩) n n) (w1.alloc (.cells cs.toArray e)) := by
    unfold Instr.buildSlice
    rw [Sem.run_bind, hur]
    simp only [Result.andThen_ok]
    rw [Sem.run_bind, hsr]
    simp only [Result.andThen_ok]
    by_cases hn : n * szT E.T e = 0
    · rw [if_neg hsz, if_pos hn]
      have hz0 : ∀ f : Nat → Value, Array.map f (Array.range (n * szT E.T e)) = #[] := fun f => by rw [hn]; simp
      rw [hz0] at hfill
      show Sem.run P (match Instr.fill (fun i => some (i * szT E.T e, szT E.T e)) (Array.map (fun i => (#[] : Array Value)[i % (#[] : Array Value).size]!) (Array.range (n * szT E.T e))) vs with
        | some cells => do pure (Value.slice (some (← newRow e cells)) n n)
        | _ => stuck "buildSlice: a part of the wrong size") w1 = _
      rw [hz0, hfill]
      rfl
    rw [if_neg hsz, if_neg hn]
    rw [Sem.run_bind, hzr]
    simp only [Result.andThen_ok]
    rw [hzc]
    show Sem.run P (match Instr.fill (fun i => some (i * szT E.T e, szT E.T e)) (Array.map (fun i => (zc E.T e).toArray[i % (zc E.T e).toArray.size]!) (Array.range (n * szT E.T e))) vs with
      | some cells => do pure (Value.slice (some (← newRow e cells)) n n)
      | _ => stuck "buildSlice: a part of the wrong size") w1 = _
    rw [hfill]
    rfl
  rw [Sem.run_bind, e3]
  rfl
theorem y_range (hr : ∀ x v, ev s x = some v → a.eval x = v) {t : Nat} {x : Operand} (hop : o.op = .range t x) (h : rgW E w K t (ev s x)) (hK : ∀ v w', K v w' → K' v w') : OpY P o a.eval w K' := by
  unfold rgW at h
  split at h
  · rename_i m hx
    split at h
    · rename_i p ht
      obtain ⟨key, e⟩ := p
      obtain ⟨h1, h2, h3⟩ := mapT_is ht
      obtain ⟨l, hm, h⟩ := h
      refine .of fun w₁ hs => ?_
      obtain ⟨ob, g1, g2⟩ := run_rangeE (P := P) h1 (hm.same hs)
      refine ⟨plainA (by rw [hop]; rfl) (by rw [hop]; rfl), _, _, .inl ?_, hK _ _ (h _ w₁.heap.size g2 (((GB.refl none w).same hs).trans (GB.alloc none w₁ ob)) (by rw [hs.heap]; exact Nat.le_refl _))⟩
      rw [exec_range hop, hr _ _ hx, Sem.run_bind, g1]
      rfl
    · exact h.elim
  · exact h.elim
theorem y_next (hr : ∀ x v, ev s x = some v → a.eval x = v) {x : Operand} (hop : o.op = .next x false) (h : nxW w K (ev s x)) (hK : ∀ v w', K v w' → K' v w') (hS : ∀ v w w', SameW w w' → K' v w → K' v w') : OpY P o a.eval w K' := by
  unfold nxW at h
  split at h
  · rename_i it hx
    obtain ⟨m, l, todo, cur, hI, h1, h2⟩ := h
    refine .of fun w₁ hs => ⟨plainA (by rw [hop]; rfl) (by rw [hop]; rfl), ?_⟩
    have hI1 : ItE w₁ it m l todo cur := hI.keep (by rw [hs.heap]) (by rw [hs.heap])
    rcases run_nextE (P := P) (ty := o.type) hI1 with ⟨he, hrun⟩ | ⟨i, p, w', hp, hrun, hI', hg⟩
    · refine ⟨_, w₁, .inl ?_, hS _ _ _ hs (hK _ _ (h1 he))⟩
      rw [exec_next hop, hr _ _ hx, Sem.run_bind, hrun]; rfl
    · refine ⟨_, w', .inl ?_, hK _ _ (h2 i p w' hp hI' (((GB.refl _ w).same hs).trans hg))⟩
      rw [exec_next hop, hr _ _ hx, Sem.run_bind, hrun]; rfl
  · exact h.elim
theorem y_entry (hr : ∀ x v, ev s x = some v → a.eval x = v) {x : Operand} (hop : o.op = .entry x) (h : enW w K (ev s x)) (hK : ∀ v w', K v w' → K' v w') (hS : ∀ v w w', SameW w w' → K' v w → K' v w') : OpY P o a.eval w K' := by
  unfold enW at h
  split at h
  · rename_i it hx
    obtain ⟨m, l, todo, p, hI, h1⟩ := h
    refine .of fun w₁ hs => ⟨plainA (by rw [hop]; rfl) (by rw [hop]; rfl), _, w₁, .inl ?_, hS _ _ _ hs (hK _ _ h1)⟩
    have e1 : execOp a.eval o = (do pure (Next.value (← Instr.entry (a.eval x)))) := by unfold execOp; rw [hop]
    rw [e1, hr _ _ hx, Sem.run_bind, run_entryE (P := P) (hI.keep (w' := w₁) (by rw [hs.heap]) (by rw [hs.heap]))]; rfl
  · exact h.elim
/-- What is asked of an operation is enough. -/
theorem cut_cells {w : World} {B off k : Nat} {nb : Array Value} {tb : TypeId} {news : List Value} (hW : w.heap[B]? = some (.cells nb tb)) (h : cutL nb.toList off k = news) : ∀ j u, news[j]? = some u → w.cell? ((⟨B, off, none⟩ : Addr).add j) = some u := fun j u hu => by
  have hadd : (⟨B, off, none⟩ : Addr).add j = ⟨B, off + j, none⟩ := by unfold Addr.add; split <;> simp_all
  rw [hadd, blk_cell hW]
  rw [← h] at hu
  unfold cutL at hu
  rw [List.getElem?_take] at hu
  split at hu
  · rw [List.getElem?_drop] at hu; simpa using hu
  · cases hu
theorem gb_row {w w₁ : World} (hs : SameW w w₁) (g : Nat) (cs : Array Value) : GB (some g) w (w₁.setRow g cs) := ((GB.refl _ w).same hs).trans ⟨rfl, rfl, by simp, fun x _ hne => setRow_other w₁ g x _ (fun e => hne (by rw [e]))⟩
theorem y_copy (hr : ∀ x v, ev s x = some v → a.eval x = v) {t t' : Nat} {x y : Operand} (hop : o.op = .call { callee := .builtin .copy, args := #[x, y], argTypes := #[t, t'] }) (h : cpW E w K t (ev s x) (ev s y)) (hK : ∀ v w', K v w' → K' v w') : OpY P o a.eval w K' := by
  unfold cpW at h
  split at h
  · rename_i g off n c ad m c' hx hy
    split at h
    · rename_i e ht
      split at h
      · rename_i z hz
        obtain ⟨_, _, d1⟩ := E.tab.ok.is ht
        obtain ⟨i2, _, d2⟩ := E.tab.ok.is hz
        have hu : P.underlying t = some (.slice e) := dk_l d1.kind ▸ d1.under
        obtain ⟨cur, te, news, hg, hsrc, hfit, h⟩ := h
        unfold srcW at hsrc
        split at hsrc
        · rename_i B o2 hsp
          obtain ⟨nb, tb, hW, h1, h2, h3⟩ := hsrc
          obtain rfl := Option.some.inj hsp
          refine .of fun w₁ hs => ?_
          have hg1 : w₁.heap[g]? = some (.cells cur.toList.toArray te) := by rw [hs.heap]; exact hg
          have hrun := run_copyK (P := P) w₁ t t' o.type e (szT E.T e) g off n c ⟨B, o2, none⟩ m c' cur.toList te news hu (by rw [d2.info, Option.map_some, d2.size]) hg1 h2 (cut_cells (by rw [hs.heap]; exact hW) h1) (by rw [Array.length_toList]; exact hfit) (fun u hu => one_cell (List.all_eq_true.1 h3 u hu))
          rw [show splice cur.toList off news = cur.toList.take off ++ news ++ cur.toList.drop (off + news.length) by simp [splice]] at hrun
          refine ⟨plain_blt hop rfl, _, _, .inl ?_, hK _ _ (h _ (setRow_heap w₁ g _ _ te _ hg1) (gb_row hs g _))⟩
          have e1 : execOp a.eval o = (do pure (Next.value (← Builtin.copy_ #[t, t'] o.type #[a.eval x, a.eval y]))) := by
            have e : execOp a.eval o = builtin .copy #[t, t'] o.type (#[x, y].map fun | .const _ => true | _ => false) (#[x, y].map a.eval) := by
              unfold execOp
              rw [hop]
              rfl
            rw [e, show #[x, y].map a.eval = #[a.eval x, a.eval y] by simp]
            rfl
          rw [e1, hr _ _ hx, hr _ _ hy, Sem.run_bind, hrun]
          rfl
        · exact hsrc.elim
      · exact h.elim
    · exact h.elim
  · exact h.elim
theorem y_clearS (hr : ∀ x v, ev s x = some v → a.eval x = v) {t e : Nat} {x : Operand} (hop : o.op = .call { callee := .builtin .clear, args := #[x], argTypes := #[t] }) (ht : E.T.get t = some (.l e)) (h : csW E w K e (ev s x)) (hK : ∀ v w', K v w' → K' v w') : OpY P o a.eval w K' := by
  unfold csW at h
  split at h
  · rename_i g off n c hx
    split at h
    · rename_i z hz
      obtain ⟨_, _, d1⟩ := E.tab.ok.is ht
      obtain ⟨i2, _, d2⟩ := E.tab.ok.is hz
      have hu : P.underlying t = some (.slice e) := dk_l d1.kind ▸ d1.under
      cases ho : (zc E.T e).all one with
      | false => rw [ho] at h; exact (show False from h).elim
      | true =>
        rw [ho] at h
        dsimp only [sif] at h
        obtain ⟨h0, cur, te, hg, hfit, h⟩ := h
        refine .of fun w₁ hs => ?_
        have hg1 : w₁.heap[g]? = some (.cells cur.toList.toArray te) := by rw [hs.heap]; exact hg
        obtain ⟨zs, hzl, hrun⟩ := run_clearK (P := P) w₁ t o.type e i2 _ hu d2.info d2.zero (by rw [zv_cells hz, d2.size]; rfl) (by rw [zv_cells hz]; exact fun v hv => one_cell (List.all_eq_true.1 ho v (by simpa using hv))) g off n c h0 cur.toList te hg1 (by rw [Array.length_toList, d2.size]; exact hfit)
        rw [d2.size] at hzl
        rw [show splice cur.toList off zs = cur.toList.take off ++ zs ++ cur.toList.drop (off + zs.length) by simp [splice]] at hrun
        refine ⟨plain_blt hop rfl, _, _, .inl ?_, hK _ _ (h zs _ hzl (setRow_heap w₁ g _ _ te _ hg1) (gb_row hs g _))⟩
        rw [exec_clear hop, hr _ _ hx, Sem.run_bind, hrun]
        rfl
    · exact h.elim
  · exact h.elim
theorem y_zeros (hr : ∀ x v, ev s x = some v → a.eval x = v) {t t' : Nat} {x y : Operand} (hop : o.op = .call { callee := .builtin .append, args := #[x, y], argTypes := #[t, t'] }) (h : azW E w K t t' (ev s x) (ev s y)) (hK : ∀ v w', K v w' → K' v w') : OpY P o a.eval w K' := by
  unfold azW at h
  split at h
  · rename_i b n c k m hx hy
    split at h
    · rename_i e kn ht htn
      split at h
      · rename_i z hz
        obtain ⟨_, _, d1⟩ := E.tab.ok.is ht
        obtain ⟨i2, _, d2⟩ := E.tab.ok.is hz
        obtain ⟨_, _, d3⟩ := E.tab.ok.is htn
        have hu : P.underlying t = some (.slice e) := dk_l d1.kind ▸ d1.under
        have hun : P.underlying t' = some (.int kn) := dk_i d3.kind ▸ d3.under
        have h0 : ¬ szT E.T e = 0 := fun e => by rw [e] at h; exact (show False from h)
        have h0' : Nat.beq (szT E.T e) 0 = false := by cases hb : Nat.beq (szT E.T e) 0 with | true => exact absurd (Nat.eq_of_beq_eq_true hb) h0 | false => rfl
        rw [h0'] at h
        dsimp only [sif] at h
        obtain ⟨xs, ho, hm, hc, hb, h⟩ := h
        obtain ⟨m', rfl⟩ : ∃ m' : Nat, m = m' := ⟨m.toNat, by omega⟩
        refine .of fun w₁ hs => ?_
        have hby : (n + m') * i2.bytes ≤ 140737488355328 := by
          have := d2.bytes
          calc (n + m') * i2.bytes ≤ 1000000000 * 2400 := Nat.mul_le_mul (by omega) this
            _ ≤ 140737488355328 := by decide
        obtain ⟨b', cap, cur, w', g1, g2, g3, g4, g5, g6, g7, g8⟩ := run_zeros (P := P) w₁ t t' o.type e i2 _ k kn hu hun d2.info d2.zero (by rw [zv_cells hz, d2.size]; rfl) (.slice b n c) n xs (by rw [d2.size]; exact owns_rely ho fun g _ => by rw [hs.heap]) m' (by omega) (by rw [d2.size]; omega) (fun a c2 e => by cases e; omega) hby (by have : maxLen = 9223372036854775807 := rfl; omega)
        rw [d2.size] at g3 g4
        refine ⟨plain_blt hop rfl, _, _, .inl ?_, hK _ _ (h b' cap cur w' g2 g3 g4 (by rw [Int.toNat_natCast]; exact g5) g6 (((GB.refl _ w).same hs).trans g7) (by rw [hs.heap] at g8; exact g8))⟩
        have e1 : execOp a.eval o = (do pure (Next.value (← Builtin.append_ #[t, t'] o.type #[a.eval x, a.eval y]))) := by
          have e : execOp a.eval o = builtin .append #[t, t'] o.type (#[x, y].map fun | .const _ => true | _ => false) (#[x, y].map a.eval) := by
            unfold execOp
            rw [hop]
            rfl
          rw [e, show #[x, y].map a.eval = #[a.eval x, a.eval y] by simp]
          rfl
        rw [e1, hr _ _ hx, hr _ _ hy, Sem.run_bind, g1]
        rfl
      · exact h.elim
    · exact h.elim
  · exact h.elim
theorem y_str (hr : ∀ x v, ev s x = some v → a.eval x = v) {t t' : Nat} {x : Operand} (hop : o.op = .convert t t' x) (h : cvW E w K t t' (ev s x)) (hK : ∀ v w', K v w' → K' v w') (hS : ∀ v w w', SameW w w' → K' v w → K' v w') : OpY P o a.eval w K' := by
  unfold cvW at h
  split at h
  · rename_i b n c hx
    split at h
    · rename_i e ht ht'
      split at h
      · rename_i hz
        obtain ⟨_, _, d1⟩ := E.tab.ok.is ht
        obtain ⟨_, _, d2⟩ := E.tab.ok.is hz
        obtain ⟨_, _, d3⟩ := E.tab.ok.is ht'
        obtain ⟨l, ho, h⟩ := h
        refine .of fun w₁ hs => ⟨plainA (by rw [hop]; rfl) (by rw [hop]; rfl), _, w₁, .inl ?_, hS _ _ _ hs (hK _ _ h)⟩
        have e1 : execOp a.eval o = (do pure (Next.value (← convert t t' (a.eval x)))) := by unfold execOp; rw [hop]
        rw [e1, hr _ _ hx, Sem.run_bind, run_bstr t t' (dk_l d1.kind ▸ d1.under) (dk_i d2.kind ▸ d2.under) (dk_t d3.kind ▸ d3.under) (owns_rely ho fun g _ => by rw [hs.heap])]
        rfl
      · exact h.elim
    · exact h.elim
  · exact h.elim
theorem y_make (hr : ∀ x v, ev s x = some v → a.eval x = v) {t : Nat} {x y : Operand} (hop : o.op = .makeSlice t x y) (h : msW E w K t (ev s x) (ev s y)) (hK : ∀ v w', K v w' → K' v w') : OpY P o a.eval w K' := by
  unfold msW at h
  split at h
  · rename_i k i k' j hx hy
    split at h
    · rename_i e ht
      split at h
      · rename_i z hz
        obtain ⟨_, _, d1⟩ := E.tab.ok.is ht
        obtain ⟨i2, _, d2⟩ := E.tab.ok.is hz
        have hu : P.underlying t = some (.slice e) := dk_l d1.kind ▸ d1.under
        obtain ⟨rfl, h0, h1, h⟩ := h
        refine y_mk (plainA (by rw [hop]; rfl) (by rw [hop]; rfl)) (fun w1 => ?_) h hK
        have e1 : execOp a.eval o = (do pure (Next.value (← Instr.makeSlice t (a.eval x) (a.eval y)))) := by unfold execOp; rw [hop]
        have hb := d2.bytes
        have hb' : (i2.bytes : Int) * i ≤ 281474976710656 := by
          have h2 : (i2.bytes : Int) * i ≤ 2400 * 1000 := Int.mul_le_mul (by omega) h1 h0 (by omega)
          omega
        rw [e1, hr _ _ hx, hr _ _ hy, Sem.run_bind, run_make w1 t e i2 _ hu d2.info d2.zero k k' i i h0 (Int.le_refl _) hb' (by omega)]
        simp only [Result.andThen_ok]
        have e2 : madeCells (zv E.T e z).cells (i.toNat * i2.size) = ((List.range (i.toNat * szT E.T e)).map fun q => (zc E.T e).getD (q % szT E.T e) undef).toArray := by
          rw [zv_cells hz, d2.size]
          by_cases hs0 : 0 < szT E.T e
          · exact zero_row (zc E.T e) rfl hs0
          · have : szT E.T e = 0 := by omega
            rw [this, Nat.mul_zero]
            simp [madeCells]
        rw [e2]
        rfl
      · exact h.elim
    · exact h.elim
  · exact h.elim
theorem opW_ok (hr : ∀ x v, ev s x = some v → a.eval x = v) (h : opW E s w K o) (hK : ∀ v w', K v w' → K' v w') (hS : ∀ v w w', SameW w w' → K' v w → K' v w') : OpY P o a.eval w K' := by
  have hq := q_all E.tab hr o
  have qt : ∀ {x : Value}, quietS P (execOp a.eval o) = some (.value x) → K x w → OpY P o a.eval w K' := fun {x} q hk =>
    .inl fun w₁ hs => ⟨Fine.quiet q w₁, _, w₁, .inl (quietS_run q w₁), hS _ _ _ hs (hK _ _ hk)⟩
  unfold opW at h
  generalize hqa : qall E.T (ev s) o.op = qa at h hq
  cases qa with
  | v x => exact qt hq h
  | c p x => exact qt (hq h.1) h.2
  | d p x y =>
    rcases h with ⟨hp, h⟩ | h
    · rw [hq.2 hp] at h; exact qt hq.1 h
    · exact qt hq.1 h
  | no =>
    clear hq hqa
    dsimp only at h
    generalize hop : o.op = op at h
    unfold effW at h
    split at h
    · exact y_range hr hop h hK
    · exact y_next hr hop h hK hS
    · exact y_entry hr hop h hK hS
    · exact y_load hr hop h hK hS
    · exact y_store hr hop h hK
    · split at h
      · rename_i v z hx hz
        refine y_mk (plainA (by rw [hop]; rfl) (by rw [hop]; rfl)) (fun w1 => ?_) h hK
        unfold execOp
        rw [hop]
        dsimp only
        rw [hr _ _ hx]
        rfl
      · exact h.elim
    · rename_i t
      split at h
      · rename_i z hz
        obtain ⟨_, _, d⟩ := E.tab.ok.is hz
        refine y_mk (plainA (by rw [hop]; rfl) (by rw [hop]; rfl)) (fun w1 => ?_) h hK
        have hzr : (zeroValue t).run P w1 = .ok (zv E.T t z) w1 := quietS_run (quietS_zero d.info d.zero) w1
        have e1 : execOp a.eval o = (do pure (Next.value (← Instr.alloc t true (.tuple #[])))) := by unfold execOp; rw [hop]
        rw [e1, Sem.run_bind, Instr.alloc, Sem.run_bind, hzr]
        simp only [Result.andThen_ok]
        rw [← zv_cells hz]
        rfl
      · exact h.elim
    · rename_i t n ps
      split at h
      · rename_i e vs ht hv
        split at h
        · rename_i z cs hz hf
          cases hb : (Nat.ble (n * szT E.T e) 1000 && Nat.blt 0 (szT E.T e)) with
          | false => rw [hb] at h; exact (show False from h).elim
          | true =>
            rw [hb] at h
            dsimp only [sif] at h
            simp only [Bool.and_eq_true] at hb
            exact y_mk (plainA (by rw [hop]; rfl) (by rw [hop]; rfl)) (fun w1 => y_buildSlice hr hop ht hz hv hf (Nat.le_of_ble_eq_true hb.1) (by have := Nat.le_of_ble_eq_true hb.2; omega) w1) h hK
        · exact h.elim
      · exact h.elim
    · exact y_str hr hop h hK hS
    · exact y_make hr hop h hK
    · split at h
      · refine .of fun w₁ hs => ⟨plainA (by rw [hop]; rfl) (by rw [hop]; rfl), (.map (some w₁.heap.size)), w₁.alloc (.map #[] 0), .inl ?_, hK _ _ (h _ w₁.heap.size ?_ (((GB.refl none w).same hs).trans (GB.alloc none w₁ _)) (by rw [hs.heap]; exact Nat.le_refl _))⟩
        · unfold execOp
          rw [hop]
          rfl
        · exact ⟨[], Emp.mapL (alloc_new w₁ _), fun _ => rfl⟩
      · exact h.elim
    · exact y_lookup hr hop h hK hS
    · exact y_update hr hop h hK
    · exact y_call hr hop h hK
    · rename_i b args ats
      split at h
      · rename_i x y t t' ha ht
        obtain rfl : args = #[x, y] := Array.ext' ha
        obtain rfl : ats = #[t, t'] := Array.ext' ht
        cases hb : Nat.beq t t' with
        | false => rw [hb] at h; exact y_zeros hr hop h hK
        | true =>
          rw [hb] at h
          dsimp only [sif] at h
          have := Nat.eq_of_beq_eq_true hb
          subst this
          exact y_append hr hop h hK hS
      · rename_i x y t t' ha ht
        obtain rfl : args = #[x, y] := Array.ext' ha
        obtain rfl : ats = #[t, t'] := Array.ext' ht
        exact y_copy hr hop h hK
      · rename_i x y t t' ha ht
        obtain rfl : args = #[x, y] := Array.ext' ha
        obtain rfl : ats = #[t, t'] := Array.ext' ht
        exact y_delete hr hop h hK
      · rename_i x t ha ht
        obtain rfl : args = #[x] := Array.ext' ha
        obtain rfl : ats = #[t] := Array.ext' ht
        split at h
        · rename_i e he
          exact y_clearS hr hop he h hK
        · exact y_clear hr hop h hK
      · exact h.elim
    · exact h.elim
end
end
end Go.Proofs.YtignemioillaiaaGreat
