/- Operations of one who owns blocks. -/
import Derived.Test.YtignemioillaiaaGreatG11
import Derived.Conc.AppendEvents3
import Derived.WalkKit
import Derived.WalkSpells
namespace Go.Proofs.YtignemioillaiaaGreat
set_option maxHeartbeats 8000000
set_option maxRecDepth 100000
section
open Go Go.Conc
theorem evF_cell {F : Nat → Prop} {e : Event} {ad : Addr} (h : e.loc = .cell ad) (hF : F ad.block) : evF F e := by
  obtain ⟨l, wr, sy⟩ := e
  simp only at h
  subst h
  refine ⟨⟨nofun, nofun⟩, fun x hx _ => ?_⟩
  have : (⟨.cell ad, wr, if sy then .atomic else .plain⟩ : Touch) = x := by
    cases wr <;> cases sy <;> exact Option.some.inj hx
  subst this
  exact hF
theorem evF_mark {F : Nat → Prop} {m : Mark} (h : Neutral m) : evF F ⟨.mark m, false, true⟩ := by
  unfold Neutral at h
  subst h
  exact ⟨⟨nofun, nofun⟩, fun x hx _ => by cases hx⟩
section
variable {P : Program} {main : Bool} {Stop : (Nat → Prop) → Goroutine → World → Prop} {F : Nat → Prop} {w : World} {b : Frame} {a : Act} {k : List Item} {cs : List Frame} {ops : Array Oper} {i : Nat} {rest : List Nat} {o : Oper}
theorem GoesF.opK (ho : ops[i]? = some o) (hw : Region.wanted o (yielded ops a.tmps) = true) (hk : b.kind ≠ .early)
    (h : ∀ w1, RelF F w w1 → ∀ K : Act → World → Prop, (∀ a' w', GuarF F w1 w' (listed P b.fn a o w1) → GoesF P main Stop (Grow F w1 w') (G (b.at a' (.inRegion ops rest :: k)) cs) w' → K a' w') → uponK o a K ((execOp a.eval o).run P w1)) :
    GoesF P main Stop F (G (b.at a (.inRegion ops (i :: rest) :: k)) cs) w := by
  refine GoesF.step rfl fun w1 h1 => goes_oper ho hw hk ?_
  have h2 := h w1 h1 (fun a' w' => GuarF F w1 w' (listed P b.fn a o w1) ∧ GoesF P main Stop (Grow F w1 w') (G (b.at a' (.inRegion ops rest :: k)) cs) w') fun _ _ x y => ⟨x, y⟩
  generalize (execOp a.eval o).run P w1 = r at h2
  cases r with
  | ok n w' => cases n <;> first | exact h2 | exact h2.elim
  | halt x w' => exact h2.elim
/-- What reads its own. -/
theorem GoesF.readK (ho : ops[i]? = some o) (hw : Region.wanted o (yielded ops a.tmps) = true) (hk : b.kind ≠ .early) (he : ∀ w1, RelF F w w1 → ∀ e ∈ (execOp a.eval o).events P w1 #[], evF F e) {v : Value} (hr : ∀ w1, RelF F w w1 → (execOp a.eval o).run P w1 = .ok (.value v) w1)
    (h : GoesF P main Stop F (G (b.at (a.put o.dst v) (.inRegion ops rest :: k)) cs) w) : GoesF P main Stop F (G (b.at a (.inRegion ops (i :: rest) :: k)) cs) w := by
  refine GoesF.read rfl (fun w1 h1 => ⟨_, stepG_value ho hw hk (hr w1 h1), fun e h => he w1 h1 e (seen_sub _ _ _ e h)⟩) h
/-- What makes a block. -/
theorem GoesF.makeK (ho : ops[i]? = some o) (hw : Region.wanted o (yielded ops a.tmps) = true) (hk : b.kind ≠ .early) {ob : Obj} {v : Nat → Value} (he : ∀ w1, (execOp a.eval o).events P w1 #[] = #[]) (hr : ∀ w1, (execOp a.eval o).run P w1 = .ok (.value (v w1.heap.size)) (w1.alloc ob)) (hin : ∀ x, F x → x < w.heap.size)
    (h : ∀ w1, RelF F w w1 → GoesF P main Stop (fun x => F x ∨ x = w1.heap.size) (G (b.at (a.put o.dst (v w1.heap.size)) (.inRegion ops rest :: k)) cs) (w1.alloc ob)) : GoesF P main Stop F (G (b.at a (.inRegion ops (i :: rest) :: k)) cs) w := by
  refine GoesF.make rfl (o := ob) (g' := fun n => G (b.at (a.put o.dst (v n)) (.inRegion ops rest :: k)) cs) (fun w1 _ => ?_) (fun w1 b' h1 hb => hb ▸ h w1 h1) hin
  rw [stepG_value ho hw hk (hr w1)]
  have : listed P b.fn a o w1 = #[] := by unfold listed; rw [he w1]; exact seen_none P _
  rw [this]
  rfl
/-- What writes its own block. -/
theorem GoesF.writeK (ho : ops[i]? = some o) (hw : Region.wanted o (yielded ops a.tmps) = true) (hk : b.kind ≠ .early) {B : Nat} (hB : F B) (he : ∀ w1, RelF F w w1 → ∀ e ∈ (execOp a.eval o).events P w1 #[], evF F e) {ws : World → World} (hr : ∀ w1, RelF F w w1 → (execOp a.eval o).run P w1 = .ok .skip (ws w1)) (hsz : ∀ w1, (ws w1).heap.size = w1.heap.size) (hne : ∀ w1 x, x ≠ B → (ws w1).heap[x]? = w1.heap[x]?) (hos : ∀ w1, (ws w1).os = w1.os ∧ (ws w1).output = w1.output)
    (h : ∀ w1, RelF F w w1 → GoesF P main Stop F (G (b.at (a.put o.dst undef) (.inRegion ops rest :: k)) cs) (ws w1)) : GoesF P main Stop F (G (b.at a (.inRegion ops (i :: rest) :: k)) cs) w := by
  refine GoesF.step rfl fun w1 h1 => ?_
  rw [stepG_none ho hw hk (hr w1 h1), goes_go, grow_same (hsz w1)]
  refine ⟨⟨Nat.le_of_eq (hsz w1).symm, fun x _ hx => hne w1 x fun e => hx (e ▸ hB), (hos w1).1, (hos w1).2, fun e h => ?_⟩, h w1 h1⟩
  rw [grow_same (hsz w1)]
  exact he w1 h1 e (seen_sub _ _ _ e h)
end
theorem listed_none {P : Program} {fn : FuncId} {a : Act} {o : Oper} {w : World} (h : (execOp a.eval o).events P w #[] = #[]) : listed P fn a o w = #[] := by
  unfold listed
  rw [h]
  exact seen_none P fn
theorem served_at (b : Frame) (a : Act) (ops : Array Oper) (i : Nat) (rest : List Nat) (k : List Item) (cs : List Frame) (v : Value) : Go.Conc.served (G (b.at a (.inRegion ops (i :: rest) :: k)) cs) v = G (b.at (a.put ((ops[i]?).bind (·.dst)) v) (.inRegion ops rest :: k)) cs := by
  rw [← Frame.finish_at]
  rfl
theorem alloc_new (w : World) (o : Obj) : (w.alloc o).heap[w.heap.size]? = some o := by
  show (w.heap.push o)[w.heap.size]? = _
  rw [Array.getElem?_push, if_pos rfl]
theorem alloc_old {w : World} {x : Nat} (h : x < w.heap.size) (o : Obj) : (w.alloc o).heap[x]? = w.heap[x]? := by
  show (w.heap.push o)[x]? = _
  rw [Array.getElem?_push, if_neg (by omega)]
theorem alloc_size (w : World) (o : Obj) : (w.alloc o).heap.size = w.heap.size + 1 := by
  show (w.heap.push o).size = _
  rw [Array.size_push]
section
variable {P : Program}
theorem events_load_blk (ty : TypeId) {w : World} {B : Nat} {xs : Array Value} {t : TypeId} (hW : w.heap[B]? = some (.cells xs t)) (o n : Nat) (d : TypeDesc) (hu : P.underlying ty = some d)
    (hd : (match d with | .struct _ | .array _ _ => true | _ => false) = true) (hi : (P.info? ty).map (·.size) = some n) (hfit : o + n ≤ xs.size) : ∀ e ∈ (Instr.loadAt ty (.pointer (some ⟨B, o, none⟩))).events P w #[], ∃ ad, e.loc = .cell ad ∧ ad.block = B := by
  intro e he
  cases hq : P.info? ty with
  | none => simp [hq] at hi
  | some ii =>
    have hs : ii.size = n := by simpa [hq] using hi
    have hagg : (isAgg ty).run P w = .ok true w := by
      unfold isAgg
      rw [Sem.run_bind, run_underlying hu w]
      cases d <;> simp_all
    simp only [Instr.loadAt, Instr.sureAddr, loadVar, Sem.events_bind, Sem.run_pure, Sem.events_pure, Result.evThen_ok, hagg, events_isAgg, if_true, sizeOf, typeInfo, Sem.run_bind, run_program, hq, Result.andThen_ok, events_program, loadCells] at he
    have hz : ∀ j, j < n → (w.cell? ((⟨B, o, none⟩ : Addr).add (0 + j))).isSome := fun j hj => by
      have hadd : (⟨B, o, none⟩ : Addr).add (0 + j) = ⟨B, o + j, none⟩ := by unfold Addr.add; split <;> simp_all
      rw [hadd]
      simp [World.cell?, hW]
      omega
    rw [hs] at he
    have he' : e ∈ (loadCellsFrom ⟨B, o, none⟩ 0 n #[]).events P w #[] := by
      revert he
      cases (loadCellsFrom ⟨B, o, none⟩ 0 n #[]).run P w <;> exact id
    rcases events_loadCellsFrom_at (P := P) ⟨B, o, none⟩ (· = B) rfl n 0 _ w _ hz e he' with h | ⟨ad, h1, _, h3⟩
    · simp at h
    · exact ⟨ad, h1, h3⟩
theorem events_store_blk (ty : TypeId) {w : World} {B : Nat} {xs : Array Value} {t : TypeId} (hW : w.heap[B]? = some (.cells xs t)) (o : Nat) (v : Value) (hi : (P.info? ty).map (·.size) = some v.cells.size) (h1 : v.cells.toList.all (·.oneCell') = true) (hfit : o + v.cells.size ≤ xs.size) : ∀ e ∈ (Instr.storeAt ty (.pointer (some ⟨B, o, none⟩)) v).events P w #[], ∃ ad, e.loc = .cell ad ∧ ad.block = B := by
  intro e he
  cases hq : P.info? ty with
  | none => simp [hq] at hi
  | some ii =>
    have hs : v.cells.size = ii.size := by simp [hq] at hi; omega
    simp only [Instr.storeAt, Instr.sureAddr, storeVar, Sem.events_bind, Sem.run_pure, Sem.events_pure, Result.evThen_ok, sizeOf, typeInfo, Sem.run_bind, run_program, hq, Result.andThen_ok, events_program] at he
    simp [hs] at he
    rcases events_storeCells_at (P := P) B o t v.cells.toList 0 xs w _ hW (by simpa using hfit) (fun u hu => List.all_eq_true.1 h1 u hu) e he with h | h
    · simp at h
    · exact h
end
end
section
open Go.RowKit
structure Req where
  (c s k key v hi to : Int)

structure Rep where
  (c s key k : Int)
  found : Bool
  (v g : Int)

structure Row where
  (key val : Int)

def ahead (a b : Rep) : Bool := decide (a.key < b.key) || a.key == b.key && decide (a.c < b.c)

def kept (k : Int) : Bool := k == 1 || k == 2 || k == 5

def Req.cells (q : Req) : List Value := [.int .u8 q.c, .int .u32 q.s, .int .u8 q.k, .int .u64 q.key, .int .u64 q.v, .int .u64 q.hi, .int .u8 q.to]
def Rep.cells (p : Rep) : List Value := [.int .u8 p.c, .int .u32 p.s, .int .u64 p.key, .int .u8 p.k, .bool p.found, .int .u64 p.v, .int .u8 p.g]
def Row.cells (x : Row) : List Value := [.int .u64 x.key, .int .u64 x.val]
theorem all_next {f : Nat → Bool} {k : Nat} (h : (List.range k).all f = true) (hk : f k = true) : (List.range (k + 1)).all f = true := by
  rw [List.range_succ, List.all_append, h]; simp [hk]

theorem all_bad {f : Nat → Bool} {n k : Nat} (h : k < n) (hb : f k = false) : (List.range n).all f = false := by
  rw [List.all_eq_false]
  exact ⟨k, List.mem_range.2 h, by simp [hb]⟩
/-- w' is w but for block B. -/
structure Only (B : Nat) (w w' : World) : Prop where
  os : w'.os = w.os
  tape : w'.tape = w.tape
  output : w'.output = w.output
  size : w'.heap.size = w.heap.size
  block : ∀ k, k ≠ B → w'.heap[k]? = w.heap[k]?

theorem Only.setRow (w : World) (B : Nat) (cs : Array Value) : Only B w (w.setRow B cs) :=
  ⟨rfl, rfl, rfl, size_setRow _ _ _, fun k hk => setRow_other w B k cs hk⟩

theorem run_store_blk {P : Program} (w : World) (B o : Nat) (ty t : TypeId) (v : Value) (xs : Array Value) (hW : w.heap[B]? = some (.cells xs t)) (hi : (P.info? ty).map (·.size) = some v.cells.size)
    (h1 : v.cells.toList.all (·.oneCell') = true) (hfit : o + v.cells.size ≤ xs.size) :
    (Instr.storeAt ty (.pointer (some ⟨B, o, none⟩)) v).run P w = .ok () (w.setRow B (xs.toList.take o ++ v.cells.toList ++ xs.toList.drop (o + v.cells.size)).toArray) := by
  have h := run_storeCells_at (P := P) B o t v.cells.toList 0 xs w hW (by simpa using hfit) (fun u hu => List.all_eq_true.1 h1 u hu)
  simp only [Nat.add_zero, Array.length_toList] at h
  cases hq : P.info? ty with
  | none => simp [hq] at hi
  | some i =>
    have hs : v.cells.size = i.size := by simp [hq] at hi; omega
    simp only [Instr.storeAt, Instr.sureAddr, Sem.run_bind, Sem.run_pure, Result.andThen_ok, storeVar, sizeOf, typeInfo]
    simp [hq, hs]
    rw [hs] at h
    simpa using h

theorem load_blk {P : Program} (ty : TypeId) {w : World} {B : Nat} {xs : Array Value} {t : TypeId} (hW : w.heap[B]? = some (.cells xs t)) (o n : Nat) (d : TypeDesc) (hu : P.underlying ty = some d)
    (hd : (match d with | .struct _ | .array _ _ => true | _ => false) = true) (hi : (P.info? ty).map (·.size) = some n) (hfit : Nat.ble (o + n) xs.size = true) (cs : List Value) (hcs : (xs.toList.drop o).take n = cs) :
    (Instr.loadAt ty (.pointer (some ⟨B, o, none⟩))).run P w = .ok (.agg cs.toArray) w := by
  subst hcs
  have hfit := Nat.le_of_ble_eq_true hfit
  have hlen : ((xs.toList.drop o).take n).length = n := by simp; omega
  have hl : (loadCells ⟨B, o, none⟩ ((xs.toList.drop o).take n).length).run P w = .ok ((xs.toList.drop o).take n).toArray w :=
    run_loadCells_list (P := P) w ⟨B, o, none⟩ _ (fun j v hv => by
      have hadd : (⟨B, o, none⟩ : Addr).add j = ⟨B, o + j, none⟩ := by unfold Addr.add; split <;> simp_all
      rw [hadd, cell_of_row w B (o + j) xs t (0, 0) hW]
      rw [List.getElem?_take] at hv
      split at hv
      · simpa using hv
      · cases hv)
  rw [hlen] at hl
  cases hq : P.info? ty with
  | none => simp [hq] at hi
  | some i =>
    have hs : i.size = n := by simpa [hq] using hi
    have hagg : (isAgg ty).run P w = .ok true w := by
      unfold isAgg
      rw [Sem.run_bind, run_underlying hu w]
      cases d <;> simp_all
    simp [Instr.loadAt, Instr.sureAddr, loadVar, Sem.run_bind, hagg, sizeOf, typeInfo, hq, hs, hl]

theorem blk_cell {w : World} {B : Nat} {xs : Array Value} {t : TypeId} (hW : w.heap[B]? = some (.cells xs t)) : ∀ o, w.cell? ⟨B, o, none⟩ = xs[o]? := by
  intro o; simp [World.cell?, hW]

end
section
def U8 (n : Int) : Prop := 0 ≤ n ∧ n < 256
def U32 (n : Int) : Prop := 0 ≤ n ∧ n < 4294967296
def U64 (n : Int) : Prop := 0 ≤ n ∧ n < 18446744073709551616
end
section
open Go Go.Conc
structure Pkt where
  fg : Int
  fr : Int
  tg : Int
  tr : Int
  d : ByteArray
def Pkt.cells (p : Pkt) : List Value := [.int .u8 p.fg, .int .u8 p.fr, .int .u8 p.tg, .int .u8 p.tr, .string p.d]
def Pkt.val (p : Pkt) : Value := .agg #[.int .u8 p.fg, .int .u8 p.fr, .int .u8 p.tg, .int .u8 p.tr, .string p.d]
def flat (ps : List Pkt) : List Value := ps.flatMap Pkt.cells
theorem pk_len (ps : List Pkt) : (flat ps).length = ps.length * 5 := by
  induction ps with
  | nil => rfl
  | cons p ps ih => simp only [flat, List.flatMap_cons, List.length_append] at ih ⊢; rw [ih]; simp [Pkt.cells]; omega
theorem flat_get : ∀ {ps : List Pkt} {i j : Nat} {p : Pkt}, ps[i]? = some p → j < 5 → (flat ps)[i * 5 + j]? = p.cells[j]?
  | [], _, _, _, h, _ => by simp at h
  | q :: ps, 0, j, p, h, hj => by
    obtain rfl : q = p := by simpa using h
    simp only [flat, List.flatMap_cons, Nat.zero_mul, Nat.zero_add]
    rw [List.getElem?_append_left (by simpa [Pkt.cells] using hj)]
  | q :: ps, i + 1, j, p, h, hj => by
    have := flat_get (ps := ps) (i := i) (j := j) (p := p) (by simpa using h) hj
    simp only [flat, List.flatMap_cons] at this ⊢
    rw [List.getElem?_append_right (by simp [Pkt.cells]; omega), ← this]
    congr 1
    simp [Pkt.cells]
    omega
theorem owns_rely {w w1 : World} {base : Nat} {e : TypeId} {size : Nat} {v : Value} {n : Nat} {xs : List Value} (h : w.ownsRow base e size v n xs) (hg : ∀ g, v.ownBlock = some g → w1.heap[g]? = w.heap[g]?) : w1.ownsRow base e size v n xs := by
  refine ⟨h.1, h.2.imp id ?_⟩
  rintro ⟨g, cap, cur, rfl, h1, h2, h3⟩
  exact ⟨g, cap, cur, rfl, h1, (hg g rfl).trans h2, h3⟩
/-- Pieces of code. -/
def cl : Code → Code
  | .seq a _ => a
  | c => c
def cr : Code → Code
  | .seq _ b => b
  | c => c
def cb : Code → Code
  | .block _ c => c
  | .loop c => c
  | c => c
def co : Code → Array Oper
  | .region _ o _ => o
  | _ => #[]
noncomputable def c154 : Code := Tryz.f154.body.getD .skip
noncomputable def L154 : Code := cb (cb (cr (cl c154)))
noncomputable def K154 : List Item := [.inLoop L154, .inBlock 0, .code (cr c154)]
noncomputable def R154 : Array Oper := co (cr (cb (cl (cr (cr L154)))))
noncomputable def T154 : List Item := .inBlock 1 :: .code (cr (cr (cr L154))) :: K154
/-- The worker's frame in handOut. -/
def tm154 (br pk : Nat) (sl : Value) (n : Nat) (i x5 x12 x13 x14 x15 x16 x17 : Value) : Array Value := #[.pointer (some ⟨br, 0, none⟩), .chan (some pk), undef, undef, undef, x5, .pointer (some ⟨br, 0, none⟩), .pointer (some ⟨br, 0, none⟩), .pointer (some ⟨br, 20, none⟩), sl, .int .i64 n, i, x12, x13, x14, x15, x16, x17, undef, undef, undef]
/-- The worker at its stops. -/
noncomputable def SWp (br pk : Nat) (rc : Array Value) (tR : TypeId) (sl : Value) (ps : List Pkt) (cR : Frame) (cs1 : List Frame) : List Value → (Nat → Prop) → Goroutine → World → Prop
  | [], F, b, w => b = G cR cs1 ∧ F br ∧ w.heap[br]? = some (.cells (rc.setIfInBounds 20 (.slice none 0 0)) tR) ∧ ∀ x, F x → x < w.heap.size
  | v :: vs, F, b, w => ∃ i p x5 x13 x17, ps[i]? = some p ∧ v = p.val ∧ vs = (ps.drop (i + 1)).map Pkt.val ∧
      b = G ((baseD 154).at ⟨tm154 br pk sl ps.length (.int .i64 i) x5 (.bool true) x13 p.val (.chan (some pk)) p.val x17, []⟩ (.inRegion R154 [2] :: T154)) (cR :: cs1) ∧
      F br ∧ w.heap[br]? = some (.cells rc tR) ∧ w.ownsRow 0 139 5 sl ps.length (flat ps) ∧ (∀ g, sl.ownBlock = some g → F g) ∧ ∀ x, F x → x < w.heap.size
section
variable {br pk : Nat} {rc : Array Value} {tR : TypeId} {sl : Value} {ps : List Pkt} {cR : Frame} {cs1 : List Frame}
theorem SWp.rely {vs : List Value} {F : Nat → Prop} {b : Goroutine} {w w1 : World} (h : SWp br pk rc tR sl ps cR cs1 vs F b w) (hr : RelF F w w1) : SWp br pk rc tR sl ps cR cs1 vs F b w1 := by
  cases vs with
  | nil => exact ⟨h.1, h.2.1, (hr.own _ h.2.1).trans h.2.2.1, fun x hx => Nat.lt_of_lt_of_le (h.2.2.2 x hx) hr.size⟩
  | cons v vs =>
    obtain ⟨i, p, x5, x13, x17, h1, h2, h3, h4, h5, h6, h7, h8, h9⟩ := h
    exact ⟨i, p, x5, x13, x17, h1, h2, h3, h4, h5, (hr.own _ h5).trans h6, owns_rely h7 fun g hg => hr.own _ (h8 g hg), h8, fun x hx => Nat.lt_of_lt_of_le (h9 x hx) hr.size⟩
end
section
variable {P : Program} {main : Bool} {Stop : (Nat → Prop) → Goroutine → World → Prop} {F : Nat → Prop} {w : World} {b : Frame} {a : Act} {k : List Item} {cs : List Frame} {ops : Array Oper} {i : Nat} {rest : List Nat} {o : Oper}
theorem exec_load {ρ : Operand → Value} {ty : TypeId} {x : Operand} (hop : o.op = .load ty x) : execOp ρ o = (do pure (Next.value (← Instr.loadAt ty (ρ x)))) := by
  unfold execOp
  rw [hop]
theorem exec_store {ρ : Operand → Value} {ty : TypeId} {x y : Operand} (hop : o.op = .store ty x y) : execOp ρ o = (do Instr.storeAt ty (ρ x) (ρ y); pure Next.skip) := by
  unfold execOp
  rw [hop]
theorem ev_value {s : Sem Value} (w : World) : (do pure (Next.value (← s)) : Sem Next).events P w #[] = s.events P w #[] := by
  rw [show (do pure (Next.value (← s)) : Sem Next) = s >>= fun v => pure (Next.value v) from rfl, Sem.events_bind]
  cases s.run P w <;> rfl
theorem ev_skip {s : Sem Unit} (w : World) : (do s; pure Next.skip : Sem Next).events P w #[] = s.events P w #[] := by
  rw [show (do s; pure Next.skip : Sem Next) = s >>= fun _ => pure Next.skip from rfl, Sem.events_bind]
  cases s.run P w <;> rfl
/-- A struct is read out of one's own block. -/
theorem GoesF.loadS (ho : ops[i]? = some o) (hw : Region.wanted o (yielded ops a.tmps) = true) (hk : b.kind ≠ .early) (ty : TypeId) {x : Operand} (hop : o.op = .load ty x) {B off : Nat} (hx : a.eval x = .pointer (some ⟨B, off, none⟩)) (hB : F B) {xs : Array Value} {t : TypeId} (hW : w.heap[B]? = some (.cells xs t)) {d : TypeDesc} (hu : P.underlying ty = some d)
    (hd : (match d with | .struct _ | .array _ _ => true | _ => false) = true) {n : Nat} (hi : (P.info? ty).map (·.size) = some n) (hfit : off + n ≤ xs.size) (c : List Value) (hc : (xs.toList.drop off).take n = c)
    (h : GoesF P main Stop F (G (b.at (a.put o.dst (.agg c.toArray)) (.inRegion ops rest :: k)) cs) w) : GoesF P main Stop F (G (b.at a (.inRegion ops (i :: rest) :: k)) cs) w := by
  refine GoesF.readK ho hw hk (fun w1 h1 e he => ?_) (fun w1 h1 => ?_) h
  · have hW1 : w1.heap[B]? = some (.cells xs t) := (h1.own B hB).trans hW
    rw [exec_load hop, hx, ev_value] at he
    obtain ⟨ad, e1, e2⟩ := events_load_blk ty hW1 off n d hu hd hi hfit e he
    exact evF_cell e1 (e2 ▸ hB)
  · have hW1 : w1.heap[B]? = some (.cells xs t) := (h1.own B hB).trans hW
    rw [exec_load hop, hx, Sem.run_bind, load_blk ty hW1 off n d hu hd hi (Nat.ble_eq_true_of_le hfit) c hc]
    rfl
/-- One cell is read out of one's own block. -/
theorem GoesF.load1 (ho : ops[i]? = some o) (hw : Region.wanted o (yielded ops a.tmps) = true) (hk : b.kind ≠ .early) (ty : TypeId) {x : Operand} (hop : o.op = .load ty x) {B off : Nat} (hx : a.eval x = .pointer (some ⟨B, off, none⟩)) (hB : F B) {xs : Array Value} {t : TypeId} (hW : w.heap[B]? = some (.cells xs t)) {d : TypeDesc} (hu : P.underlying ty = some d)
    (hd : (match d with | .struct _ | .array _ _ => true | _ => false) = false) {v : Value} (hc : xs[off]? = some v)
    (h : GoesF P main Stop F (G (b.at (a.put o.dst v) (.inRegion ops rest :: k)) cs) w) : GoesF P main Stop F (G (b.at a (.inRegion ops (i :: rest) :: k)) cs) w := by
  have key : ∀ w1, RelF F w w1 → w1.cell? ⟨B, off, none⟩ = some v := fun w1 h1 => by
    have hW1 : w1.heap[B]? = some (.cells xs t) := (h1.own B hB).trans hW
    rw [blk_cell hW1]
    exact hc
  have hagg : ∀ w1, (isAgg ty).run P w1 = .ok false w1 := fun w1 => by
    unfold isAgg
    rw [Sem.run_bind, run_underlying hu w1]
    cases d <;> simp_all
  refine GoesF.readK ho hw hk (fun w1 h1 e he => ?_) (fun w1 h1 => ?_) h
  · rw [exec_load hop, hx, ev_value] at he
    simp only [Instr.loadAt, Instr.sureAddr, loadVar, Sem.events_bind, Sem.run_pure, Sem.events_pure, Result.evThen_ok, hagg, events_isAgg, Bool.false_eq_true, if_false] at he
    rcases events_load_at w1 _ _ _ (key w1 h1) e he with h | ⟨h, _⟩
    · simp at h
    · exact evF_cell h hB
  · rw [exec_load hop, hx]
    simp [Instr.loadAt, Instr.sureAddr, loadVar, Sem.run_bind, hagg, key w1 h1]
/-- A struct is written into one's own block. -/
theorem GoesF.storeS (ho : ops[i]? = some o) (hw : Region.wanted o (yielded ops a.tmps) = true) (hk : b.kind ≠ .early) (ty : TypeId) {x y : Operand} (hop : o.op = .store ty x y) {B off : Nat} (hx : a.eval x = .pointer (some ⟨B, off, none⟩)) {v : Value} (hy : a.eval y = v) (hB : F B) {xs : Array Value} {t : TypeId} (hW : w.heap[B]? = some (.cells xs t))
    (hi : (P.info? ty).map (·.size) = some v.cells.size) (h1 : v.cells.toList.all (·.oneCell') = true) (hfit : off + v.cells.size ≤ xs.size) (ys : List Value) (hys : xs.toList.take off ++ v.cells.toList ++ xs.toList.drop (off + v.cells.size) = ys)
    (h : ∀ w1 w', RelF F w w1 → w'.heap[B]? = some (.cells ys.toArray t) → (∀ x, x ≠ B → w'.heap[x]? = w1.heap[x]?) → w'.heap.size = w1.heap.size → w'.os = w1.os → w'.output = w1.output → GoesF P main Stop F (G (b.at (a.put o.dst undef) (.inRegion ops rest :: k)) cs) w') : GoesF P main Stop F (G (b.at a (.inRegion ops (i :: rest) :: k)) cs) w := by
  subst hys
  refine GoesF.writeK ho hw hk hB (fun w1 h2 e he => ?_) (ws := fun w1 => w1.setRow B (xs.toList.take off ++ v.cells.toList ++ xs.toList.drop (off + v.cells.size)).toArray) (fun w1 h2 => ?_) (fun w1 => ?_) (fun w1 x hx => ?_) (fun w1 => ⟨rfl, rfl⟩) (fun w1 h2 => ?_)
  · have hW1 : w1.heap[B]? = some (.cells xs t) := (h2.own B hB).trans hW
    rw [exec_store hop, hx, hy, ev_skip] at he
    obtain ⟨ad, e1, e2⟩ := events_store_blk ty hW1 off v hi h1 hfit e he
    exact evF_cell e1 (e2 ▸ hB)
  · have hW1 : w1.heap[B]? = some (.cells xs t) := (h2.own B hB).trans hW
    rw [exec_store hop, hx, hy, Sem.run_bind, run_store_blk w1 B off ty t v xs hW1 hi h1 hfit]
    rfl
  · exact (Only.setRow w1 B _).size
  · exact (Only.setRow w1 B _).block x hx
  · have hW1 : w1.heap[B]? = some (.cells xs t) := (h2.own B hB).trans hW
    exact h w1 _ h2 (setRow_heap w1 B xs _ t (0, 0) hW1) (fun x hx => (Only.setRow w1 B _).block x hx) (Only.setRow w1 B _).size rfl rfl
end
end
end Go.Proofs.YtignemioillaiaaGreat
