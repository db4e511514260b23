/- Laws for a block of the call's own that is known whole: a store of a struct (or of one cell) into it. -/
import Derived.Test.YtbdmodeccbklpaaD
namespace Go.Proofs.Ytbdmodeccbklpaa
open Go.RowKit

/-- w' is w but for block B. -/
structure Only (B : Nat) (w w' : World) : Prop where
  os : w'.os = w.os
  tape : w'.tape = w.tape
  output : w'.output = w.output
  size : w'.heap.size = w.heap.size
  block : ∀ k, k ≠ B → w'.heap[k]? = w.heap[k]?

theorem Only.below {B B' : Nat} {w w' : World} (h : Only B w w') (hB : B' ≤ B) : Below B' w w' :=
  ⟨h.os, h.tape, h.output, Nat.le_of_eq h.size.symm, fun k hk => h.block k (by omega)⟩

theorem Only.setRow (w : World) (B : Nat) (cs : Array Value) : Only B w (w.setRow B cs) :=
  ⟨rfl, rfl, rfl, size_setRow _ _ _, fun k hk => setRow_other w B k cs hk⟩

theorem run_store_blk {P : Program} (w : World) (B o : Nat) (ty t : TypeId) (v : Value) (xs : Array Value) (hW : w.heap[B]? = some (.cells xs t)) (hi : (P.info? ty).map (·.size) = some v.cells.size)
    (h1 : v.cells.toList.all (·.oneCell') = true) (hfit : o + v.cells.size ≤ xs.size) :
    (Instr.storeAt ty (.pointer (some ⟨B, o, none⟩)) v).run P w = .ok () (w.setRow B (xs.toList.take o ++ v.cells.toList ++ xs.toList.drop (o + v.cells.size)).toArray) := by
  have h := run_storeCells_at (P := P) B o t v.cells.toList 0 xs w hW (by simpa using hfit) (fun u hu => List.all_eq_true.1 h1 u hu)
  simp only [Nat.add_zero, Array.length_toList] at h
  cases hq : P.info? ty with
  | none => simp [hq] at hi
  | some i =>
    have hs : v.cells.size = i.size := by simp [hq] at hi; omega
    simp only [Instr.storeAt, Instr.sureAddr, Sem.run_bind, Sem.run_pure, Result.andThen_ok, storeVar, sizeOf, typeInfo]
    simp [hq, hs]
    rw [hs] at h
    simpa using h

theorem wpList_store_blk {P : Program} {ops : Array Oper} {rest : List Oper} {op : Oper} {a : Act} {w : World} {Q : Exit → Act → World → Prop} (hgd : op.guard = none) (ty : TypeId) (x y : Operand) (ho : op.op = .store ty x y)
    (hd : op.dst = none) (B o : Nat) (hx : a.eval x = .pointer (some ⟨B, o, none⟩)) (cs : List Value) (hy : a.eval y = .agg cs.toArray) (n : Nat) (hi : (P.info? ty).map (·.size) = some n) (hn : cs.length = n)
    (h1 : cs.all (·.oneCell') = true) (xs : List Value) (t : TypeId) (hW : w.heap[B]? = some (.cells xs.toArray t)) (hfit : Nat.ble (o + n) xs.length = true) (ys : List Value) (hys : xs.take o ++ cs ++ xs.drop (o + n) = ys)
    (h : ∀ w', w'.heap[B]? = some (.cells ys.toArray t) → Only B w w' → wpList P ops Q rest a w') : wpList P ops Q (op :: rest) a w :=
  wpList_plain hgd fun _ hK => by
    subst hys; subst hn
    unfold Oper.wp execOp
    have hr := run_store_blk (P := P) w B o ty t (.agg cs.toArray) xs.toArray hW (by simpa [Value.cells] using hi) (by simpa [Value.cells] using h1) (by have := Nat.le_of_ble_eq_true hfit; simpa [Value.cells] using this)
    simp only [ho, hx, hy, Sem.run_bind, hr, Result.andThen_ok, Sem.run_pure, Oper.upon, hd, Act.put]
    refine hK _ _ (h _ ?_ (Only.setRow w B _))
    have := setRow_heap w B xs.toArray (xs.toArray.toList.take o ++ (Value.agg cs.toArray).cells.toList ++ xs.toArray.toList.drop (o + (Value.agg cs.toArray).cells.size)).toArray t (0, 0) hW
    simpa [Value.cells] using this

theorem store_blk {P : Program} (ty : TypeId) {w : World} {B : Nat} {xs : Array Value} {t : TypeId} (hW : w.heap[B]? = some (.cells xs t)) (o : Nat) (v : Value) (hi : (P.info? ty).map (·.size) = some v.cells.size)
    (h1 : v.cells.toList.all (·.oneCell') = true) (hfit : Nat.ble (o + v.cells.size) xs.size = true) (ys : List Value) (hys : xs.toList.take o ++ v.cells.toList ++ xs.toList.drop (o + v.cells.size) = ys) :
    ∃ w', (Instr.storeAt ty (.pointer (some ⟨B, o, none⟩)) v).run P w = .ok () w' ∧ w'.heap[B]? = some (.cells ys.toArray t) ∧ Only B w w' := by
  subst hys
  exact ⟨_, run_store_blk w B o ty t v xs hW hi h1 (Nat.le_of_ble_eq_true hfit), setRow_heap w B xs _ t (0, 0) hW, Only.setRow w B _⟩

theorem load_blk {P : Program} (ty : TypeId) {w : World} {B : Nat} {xs : Array Value} {t : TypeId} (hW : w.heap[B]? = some (.cells xs t)) (o n : Nat) (d : TypeDesc) (hu : P.underlying ty = some d)
    (hd : (match d with | .struct _ | .array _ _ => true | _ => false) = true) (hi : (P.info? ty).map (·.size) = some n) (hfit : Nat.ble (o + n) xs.size = true) (cs : List Value) (hcs : (xs.toList.drop o).take n = cs) :
    (Instr.loadAt ty (.pointer (some ⟨B, o, none⟩))).run P w = .ok (.agg cs.toArray) w := by
  subst hcs
  have hfit := Nat.le_of_ble_eq_true hfit
  have hlen : ((xs.toList.drop o).take n).length = n := by simp; omega
  have hl : (loadCells ⟨B, o, none⟩ ((xs.toList.drop o).take n).length).run P w = .ok ((xs.toList.drop o).take n).toArray w :=
    run_loadCells_list (P := P) w ⟨B, o, none⟩ _ (fun j v hv => by
      have hadd : (⟨B, o, none⟩ : Addr).add j = ⟨B, o + j, none⟩ := by unfold Addr.add; split <;> simp_all
      rw [hadd, cell_of_row w B (o + j) xs t (0, 0) hW]
      rw [List.getElem?_take] at hv
      split at hv
      · simpa using hv
      · cases hv)
  rw [hlen] at hl
  cases hq : P.info? ty with
  | none => simp [hq] at hi
  | some i =>
    have hs : i.size = n := by simpa [hq] using hi
    have hagg : (isAgg ty).run P w = .ok true w := by
      unfold isAgg
      rw [Sem.run_bind, run_underlying hu w]
      cases d <;> simp_all
    simp [Instr.loadAt, Instr.sureAddr, loadVar, Sem.run_bind, hagg, sizeOf, typeInfo, hq, hs, hl]

theorem wpList_store_cell {P : Program} {ops : Array Oper} {rest : List Oper} {op : Oper} {a : Act} {w : World} {Q : Exit → Act → World → Prop} (hgd : op.guard = none) (ty : TypeId) (x y : Operand) (ho : op.op = .store ty x y)
    (hd : op.dst = none) (B o : Nat) (hx : a.eval x = .pointer (some ⟨B, o, none⟩)) (v : Value) (hy : a.eval y = v) (hi : (P.info? ty).map (·.size) = some 1) (h1 : v.oneCell' = true)
    (xs : List Value) (t : TypeId) (hW : w.heap[B]? = some (.cells xs.toArray t)) (hfit : Nat.ble (o + 1) xs.length = true) (ys : List Value) (hys : xs.take o ++ [v] ++ xs.drop (o + 1) = ys)
    (h : ∀ w', w'.heap[B]? = some (.cells ys.toArray t) → Only B w w' → wpList P ops Q rest a w') : wpList P ops Q (op :: rest) a w :=
  wpList_plain hgd fun _ hK => by
    have hc : v.cells = #[v] := by cases v <;> first | rfl | cases h1
    subst hys
    unfold Oper.wp execOp
    have hr := run_store_blk (P := P) w B o ty t v xs.toArray hW (by simpa [hc] using hi) (by simpa [hc] using h1) (by have := Nat.le_of_ble_eq_true hfit; simpa [hc] using this)
    simp only [ho, hx, hy, Sem.run_bind, hr, Result.andThen_ok, Sem.run_pure, Oper.upon, hd, Act.put]
    refine hK _ _ (h _ ?_ (Only.setRow w B _))
    have := setRow_heap w B xs.toArray (xs.toArray.toList.take o ++ v.cells.toList ++ xs.toArray.toList.drop (o + v.cells.size)).toArray t (0, 0) hW
    simpa [hc] using this

theorem wpList_load_blk {P : Program} {ops : Array Oper} {rest : List Oper} {op : Oper} {a : Act} {w : World} {Q : Exit → Act → World → Prop} (hw : Region.wanted op (yielded ops a.tmps) = true) (ty : TypeId) (x : Operand) (ho : op.op = .load ty x)
    (B o : Nat) (hx : a.eval x = .pointer (some ⟨B, o, none⟩)) (n : Nat) (d : TypeDesc) (hu : P.underlying ty = some d) (hd : (match d with | .struct _ | .array _ _ => true | _ => false) = true) (hi : (P.info? ty).map (·.size) = some n)
    (xs : List Value) (t : TypeId) (hW : w.heap[B]? = some (.cells xs.toArray t)) (hfit : Nat.ble (o + n) xs.length = true) (cs : List Value) (hcs : (xs.drop o).take n = cs)
    (h : wpList P ops Q rest (a.put op.dst (.agg cs.toArray)) w) : wpList P ops Q (op :: rest) a w :=
  wpList_step fun K hK => by
    have hr := load_blk (P := P) ty hW o n d hu hd hi (by simpa using hfit) cs (by simpa using hcs)
    rw [if_pos hw]
    unfold Oper.wp execOp
    simp only [ho, hx, Sem.run_bind, hr, Result.andThen_ok, Sem.run_pure, Oper.upon]
    exact hK _ _ h

theorem blk_cell {w : World} {B : Nat} {xs : Array Value} {t : TypeId} (hW : w.heap[B]? = some (.cells xs t)) : ∀ o, w.cell? ⟨B, o, none⟩ = xs[o]? := by
  intro o; simp [World.cell?, hW]

theorem blk_later {W w' : World} {B : Nat} {xs : Array Value} {t : TypeId} (hb : Below W.heap.size W w') (hW : W.heap[B]? = some (.cells xs t)) : w'.heap[B]? = some (.cells xs t) :=
  (hb.block B (Array.getElem?_eq_some_iff.1 hW).1).trans hW

end Go.Proofs.Ytbdmodeccbklpaa
