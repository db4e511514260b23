/- What a plain map knows of one key, and what it says of a reply. -/
import Derived.Test.YtignemioillaiaaJ21
namespace Go.Proofs.Ytignemioillaiaa
open Go.RowKit Go.Lib

structure Mem where
  found : Bool
  val : Int
  s : Nat → Int
  said : Nat → Rep

def Mem.cells (m : Mem) : List Value := [.bool m.found, .int .u64 m.val, .int .u32 (m.s 0), .int .u32 (m.s 1), .int .u32 (m.s 2), .int .u32 (m.s 3)] ++ ((m.said 0).cells ++ ((m.said 1).cells ++ ((m.said 2).cells ++ (m.said 3).cells)))
def Mem.put (m : Mem) (c : Nat) (s : Int) (p : Rep) : Mem := ⟨m.found, m.val, fun i => if i = c then s else m.s i, fun i => if i = c then p else m.said i⟩
theorem mem_len (m : Mem) : m.cells.length = 34 := rfl
theorem mem_seq (m : Mem) (c : Nat) (hc : c < 4) : m.cells[2 + c]? = some (.int .u32 (m.s c)) := by
  obtain rfl | rfl | rfl | rfl : c = 0 ∨ c = 1 ∨ c = 2 ∨ c = 3 := by omega
  all_goals rfl
theorem mem_said (m : Mem) (c j : Nat) (hc : c < 4) (u : Value) (hu : (m.said c).cells[j]? = some u) : m.cells[6 + c * 7 + j]? = some u := by
  have hj := (List.getElem?_eq_some_iff.1 hu).1
  have hj7 : j < 7 := hj
  obtain rfl | rfl | rfl | rfl : c = 0 ∨ c = 1 ∨ c = 2 ∨ c = 3 := by omega
  all_goals (obtain rfl | rfl | rfl | rfl | rfl | rfl | rfl : j = 0 ∨ j = 1 ∨ j = 2 ∨ j = 3 ∨ j = 4 ∨ j = 5 ∨ j = 6 := by omega)
  all_goals exact hu
theorem splice_mid {α : Type} (A M B cs : List α) (j : Nat) (h : j + cs.length ≤ M.length) : splice (A ++ (M ++ B)) (A.length + j) cs = A ++ (splice M j cs ++ B) := by
  unfold splice
  rw [List.take_length_add_append, Nat.add_assoc, List.drop_length_add_append, List.take_append_of_le_length (by omega), List.drop_append_of_le_length (by omega)]
  simp
theorem cell_mid {w : World} {g : Nat} {A M B : List Value} {t : TypeId} (hg : w.heap[g]? = some (.cells (A ++ (M ++ B)).toArray t)) (j : Nat) (u : Value) (hu : M[j]? = some u) : w.cell? ⟨g, A.length + j, none⟩ = some u := by
  rw [blk_cell hg]
  have hj := (List.getElem?_eq_some_iff.1 hu).1
  rw [List.getElem?_toArray, List.getElem?_append_right (by omega), Nat.add_sub_cancel_left, List.getElem?_append_left hj]
  exact hu

/-- X is W but for the memory at bK, which is m. -/
structure AW (W X : World) (bK : Nat) (A B : List Value) (m : Mem) (t : TypeId) : Prop where
  k : X.heap[bK]? = some (.cells (A ++ (m.cells ++ B)).toArray t)
  o : ∀ j, j ≠ bK → j < W.heap.size → X.heap[j]? = W.heap[j]?
  os : X.os = W.os
  tape : X.tape = W.tape
  output : X.output = W.output
  size : W.heap.size ≤ X.heap.size

theorem AW.later {W X Y : World} {bK : Nat} {A B : List Value} {m : Mem} {t : TypeId} (h : AW W X bK A B m t) (hb : Below X.heap.size X Y) : AW W Y bK A B m t :=
  ⟨blk_later hb h.k, fun j hj hl => (hb.block j (Nat.lt_of_lt_of_le hl h.size)).trans (h.o j hj hl), hb.os.trans h.os, hb.tape.trans h.tape, hb.output.trans h.output, Nat.le_trans h.size hb.size⟩
theorem AW.set {W X Y : World} {bK : Nat} {A B : List Value} {m m' : Mem} {t : TypeId} (h : AW W X bK A B m t) (ho : Only bK X Y) (hk : Y.heap[bK]? = some (.cells (A ++ (m'.cells ++ B)).toArray t)) : AW W Y bK A B m' t :=
  ⟨hk, fun j hj hl => (ho.block j hj).trans (h.o j hj hl), ho.os.trans h.os, ho.tape.trans h.tape, ho.output.trans h.output, by rw [ho.size]; exact h.size⟩
theorem AW.box {W X Y : World} {bK b : Nat} {A B : List Value} {m : Mem} {t : TypeId} (h : AW W X bK A B m t) (ho : Only b X Y) (hb : W.heap.size ≤ b) (hk : bK < W.heap.size) : AW W Y bK A B m t :=
  ⟨(ho.block bK (by omega)).trans h.k, fun j hj hl => (ho.block j (by omega)).trans (h.o j hj hl), ho.os.trans h.os, ho.tape.trans h.tape, ho.output.trans h.output, by rw [ho.size]; exact h.size⟩
theorem AW.from {w W X : World} {bK : Nat} {A B : List Value} {m : Mem} {t : TypeId} (h : AW W X bK A B m t) (hb : Below w.heap.size w W) : AW w X bK A B m t :=
  ⟨h.k, fun j hj hl => (h.o j hj (Nat.lt_of_lt_of_le hl hb.size)).trans (hb.block j hl), h.os.trans hb.os, h.tape.trans hb.tape, h.output.trans hb.output, Nat.le_trans hb.size h.size⟩
theorem set_mid {X : World} {bK : Nat} {A B M : List Value} {t : TypeId} (h : X.heap[bK]? = some (.cells (A ++ (M ++ B)).toArray t)) (j : Nat) (cs : List Value) (hl : j + cs.length ≤ M.length) :
    (X.setCells bK (A.length + j) cs).heap[bK]? = some (.cells (A ++ (splice M j cs ++ B)).toArray t) ∧ Only bK X (X.setCells bK (A.length + j) cs) := by
  have := setCells_row bK t cs (A.length + j) _ X h (by simp only [List.length_append]; omega)
  rwa [splice_mid A M B cs j hl] at this
theorem AW.fndp {W X : World} {bK c o : Nat} {A B : List Value} {m : Mem} {s : Int} {p : Rep} {t : TypeId} {f : Bool} (h : AW W X bK A B (m.put c s p) t) (ho : o = A.length) (hf : m.found = f) : X.cell? ⟨bK, o, none⟩ = some (.bool f) := by
  subst ho; subst hf; exact cell_mid h.k 0 _ rfl
theorem AW.valp {W X : World} {bK c o : Nat} {A B : List Value} {m : Mem} {s : Int} {p : Rep} {t : TypeId} {v : Int} (h : AW W X bK A B (m.put c s p) t) (ho : o = A.length) (hv : m.val = v) : X.cell? ⟨bK, o + 1, none⟩ = some (.int .u64 v) := by
  subst ho; subst hv; exact cell_mid h.k 1 _ rfl
theorem wpList_store_mid {P : Program} {ops : Array Oper} {rest : List Oper} {op : Oper} {a : Act} {w : World} {Q : Exit → Act → World → Prop} (hgd : op.guard = none) (ty : TypeId) (x y : Operand) (ho : op.op = .store ty x y)
    (hd : op.dst = none) (bK o : Nat) (hx : a.eval x = .pointer (some ⟨bK, o, none⟩)) (v : Value) (hy : a.eval y = v) (hi : (P.info? ty).map (·.size) = some 1) (h1 : v.oneCell' = true)
    (A M B : List Value) (j : Nat) (t : TypeId) (hW : w.heap[bK]? = some (.cells (A ++ (M ++ B)).toArray t)) (hj : j + 1 ≤ M.length) (hoj : o = A.length + j)
    (h : ∀ w', w'.heap[bK]? = some (.cells (A ++ (splice M j [v] ++ B)).toArray t) → Only bK w w' → wpList P ops Q rest a w') : wpList P ops Q (op :: rest) a w := by
  subst hoj
  refine wpList_store_cell hgd ty x y ho hd bK (A.length + j) hx v hy hi h1 _ t hW (by rw [Nat.ble_eq]; simp only [List.length_append]; omega) _ ?_ h
  rw [← splice_mid A M B [v] j hj]
  unfold splice
  simp
def Mem.seq (m : Mem) (c : Nat) (s : Int) : Mem := ⟨m.found, m.val, fun i => if i = c then s else m.s i, m.said⟩
theorem mem_setseq (m : Mem) (c : Nat) (s : Int) (hc : c < 4) : splice m.cells (2 + c) [.int .u32 s] = (m.seq c s).cells := by
  obtain rfl | rfl | rfl | rfl : c = 0 ∨ c = 1 ∨ c = 2 ∨ c = 3 := by omega
  all_goals rfl
theorem mem_setsaid (m : Mem) (c : Nat) (s : Int) (p : Rep) (hc : c < 4) : splice (m.seq c s).cells (6 + c * 7) p.cells = (m.put c s p).cells := by
  obtain rfl | rfl | rfl | rfl : c = 0 ∨ c = 1 ∨ c = 2 ∨ c = 3 := by omega
  all_goals rfl
theorem mem_setfound (m : Mem) (f : Bool) : splice m.cells 0 [.bool f] = (Mem.mk f m.val m.s m.said).cells := rfl
theorem mem_setval (m : Mem) (v : Int) : splice m.cells 1 [.int .u64 v] = (Mem.mk m.found v m.s m.said).cells := rfl

set_option maxHeartbeats 400000 in
set_option maxRecDepth 100000 in
theorem ans_late (w : World) (bK : Nat) (A B : List Value) (m : Mem) (c : Nat) (hc : c < 4) (t : TypeId) (hbK : w.heap[bK]? = some (.cells (A ++ (m.cells ++ B)).toArray t)) (qs qk qkey qv qhi qto : Int) (hlt : qs < m.s c) :
    Calls Try.prog 31 #[.pointer (some ⟨bK, A.length, none⟩), .agg #[.int .u8 (c : Int), .int .u32 qs, .int .u8 qk, .int .u64 qkey, .int .u64 qv, .int .u64 qhi, .int .u8 qto, .int .u8 (c : Int), .int .u32 qs, .int .u64 qkey, .int .u8 4, .bool false, .int .u64 0, .int .u8 0]] w fun e w' => e = .returned (.tuple #[.bool true, .bool false]) ∧ Below w.heap.size w w' := by
  obtain ⟨off, hoff⟩ : ∃ off, off = A.length := ⟨_, rfl⟩
  obtain ⟨sq, hsq⟩ : ∃ sq, sq = m.s c := ⟨_, rfl⟩
  obtain ⟨W, hW⟩ : ∃ W, W = ((w.alloc (.cells #[.int .u8 (c : Int), .int .u32 qs, .int .u8 qk, .int .u64 qkey, .int .u64 qv, .int .u64 qhi, .int .u8 qto, .int .u8 (c : Int), .int .u32 qs, .int .u64 qkey, .int .u8 4, .bool false, .int .u64 0, .int .u8 0] 106)).alloc (.cells #[.int .u8 (c : Int), .int .u32 qs, .int .u8 qk, .int .u64 qkey, .int .u64 qv, .int .u64 qhi, .int .u8 qto] 25)).alloc (.cells #[.int .u8 (c : Int), .int .u32 qs, .int .u64 qkey, .int .u8 4, .bool false, .int .u64 0, .int .u8 0] 27) := ⟨_, rfl⟩
  obtain ⟨hD, hQ, hR, hWl, hWs⟩ := three w (.cells #[.int .u8 (c : Int), .int .u32 qs, .int .u8 qk, .int .u64 qkey, .int .u64 qv, .int .u64 qhi, .int .u8 qto, .int .u8 (c : Int), .int .u32 qs, .int .u64 qkey, .int .u8 4, .bool false, .int .u64 0, .int .u8 0] 106) (.cells #[.int .u8 (c : Int), .int .u32 qs, .int .u8 qk, .int .u64 qkey, .int .u64 qv, .int .u64 qhi, .int .u8 qto] 25) (.cells #[.int .u8 (c : Int), .int .u32 qs, .int .u64 qkey, .int .u8 4, .bool false, .int .u64 0, .int .u8 0] 27)
  rw [← hW] at hD hQ hR hWl hWs
  have hbl : bK < w.heap.size := (Array.getElem?_eq_some_iff.1 hbK).1
  have hKW := blk_later hWl hbK
  have HK : Hid (W.heap[bK]? = some (.cells (A ++ (m.cells ++ B)).toArray t)) := hKW
  have HWL : Hid (Below w.heap.size w W) := hWl
  have HWS : Hid (W.heap.size = w.heap.size + 3) := hWs
  have HQ : Hid (W.heap[w.heap.size + 1]? = some (.cells #[.int .u8 (c : Int), .int .u32 qs, .int .u8 qk, .int .u64 qkey, .int .u64 qv, .int .u64 qhi, .int .u8 qto] 25)) := hQ
  have HR : Hid (W.heap[w.heap.size + 1 + 1]? = some (.cells #[.int .u8 (c : Int), .int .u32 qs, .int .u64 qkey, .int .u8 4, .bool false, .int .u64 0, .int .u8 0] 27)) := hR
  have hcq := blk_cell hQ
  have hcr := blk_cell hR
  have hks : W.cell? ⟨bK, off + 2 + c, none⟩ = some (.int .u32 sq) := by rw [hoff, hsq, Nat.add_assoc]; exact cell_mid hKW _ _ (mem_seq m c hc)
  have HOFF : Hid (off = A.length ∧ sq = m.s c) := (⟨hoff, hsq⟩ : _ ∧ _)
  have hi1 : (0 : Int) ≤ (c : Int) := by omega
  have hi2 : (c : Int) < 4 := by omega
  have hc4 : decide ((4 : Int) ≤ (c : Int)) = false := by simp; omega
  have hd1 : decide (qs < sq) = true := by simp [hsq, hlt]
  rw [← hoff]
  clear hD hQ hR hWl hWs hKW hbK hoff hsq
  go_enter Try.func31, Try.ntmps31
  go_upto_region 3 with fail
  rw [← hW]
  clear hW
  go_wp2_with fail
  go_quiet (fail)
  go_wp2_with fail
  go_ret2
  exact ⟨rfl, below_drewN HWL.out _⟩

set_option maxHeartbeats 1000000 in
set_option maxRecDepth 100000 in
theorem ans_same (w : World) (bK : Nat) (A B : List Value) (m : Mem) (c : Nat) (hc : c < 4) (t : TypeId) (hbK : w.heap[bK]? = some (.cells (A ++ (m.cells ++ B)).toArray t)) (qs qk qkey qv qhi qto : Int) (ps pk : Int) (pf : Bool) (pv pg : Int) (hs : qs = m.s c) (hp : m.said c = ⟨c, ps, qkey, pk, pf, pv, pg⟩) (hk3 : (pk == 3) = false) :
    Calls Try.prog 31 #[.pointer (some ⟨bK, A.length, none⟩), .agg #[.int .u8 (c : Int), .int .u32 qs, .int .u8 qk, .int .u64 qkey, .int .u64 qv, .int .u64 qhi, .int .u8 qto, .int .u8 (c : Int), .int .u32 ps, .int .u64 qkey, .int .u8 pk, .bool pf, .int .u64 pv, .int .u8 pg]] w fun e w' => e = .returned (.tuple #[.bool true, .bool false]) ∧ Below w.heap.size w w' := by
  obtain ⟨off, hoff⟩ : ∃ off, off = A.length := ⟨_, rfl⟩
  obtain ⟨sq, hsq⟩ : ∃ sq, sq = m.s c := ⟨_, rfl⟩
  obtain ⟨W, hW⟩ : ∃ W, W = ((w.alloc (.cells #[.int .u8 (c : Int), .int .u32 qs, .int .u8 qk, .int .u64 qkey, .int .u64 qv, .int .u64 qhi, .int .u8 qto, .int .u8 (c : Int), .int .u32 ps, .int .u64 qkey, .int .u8 pk, .bool pf, .int .u64 pv, .int .u8 pg] 106)).alloc (.cells #[.int .u8 (c : Int), .int .u32 qs, .int .u8 qk, .int .u64 qkey, .int .u64 qv, .int .u64 qhi, .int .u8 qto] 25)).alloc (.cells #[.int .u8 (c : Int), .int .u32 ps, .int .u64 qkey, .int .u8 pk, .bool pf, .int .u64 pv, .int .u8 pg] 27) := ⟨_, rfl⟩
  obtain ⟨hD, hQ, hR, hWl, hWs⟩ := three w (.cells #[.int .u8 (c : Int), .int .u32 qs, .int .u8 qk, .int .u64 qkey, .int .u64 qv, .int .u64 qhi, .int .u8 qto, .int .u8 (c : Int), .int .u32 ps, .int .u64 qkey, .int .u8 pk, .bool pf, .int .u64 pv, .int .u8 pg] 106) (.cells #[.int .u8 (c : Int), .int .u32 qs, .int .u8 qk, .int .u64 qkey, .int .u64 qv, .int .u64 qhi, .int .u8 qto] 25) (.cells #[.int .u8 (c : Int), .int .u32 ps, .int .u64 qkey, .int .u8 pk, .bool pf, .int .u64 pv, .int .u8 pg] 27)
  rw [← hW] at hD hQ hR hWl hWs
  have hbl : bK < w.heap.size := (Array.getElem?_eq_some_iff.1 hbK).1
  have hKW := blk_later hWl hbK
  have HK : Hid (W.heap[bK]? = some (.cells (A ++ (m.cells ++ B)).toArray t)) := hKW
  have HWL : Hid (Below w.heap.size w W) := hWl
  have HWS : Hid (W.heap.size = w.heap.size + 3) := hWs
  have HQ : Hid (W.heap[w.heap.size + 1]? = some (.cells #[.int .u8 (c : Int), .int .u32 qs, .int .u8 qk, .int .u64 qkey, .int .u64 qv, .int .u64 qhi, .int .u8 qto] 25)) := hQ
  have HR : Hid (W.heap[w.heap.size + 1 + 1]? = some (.cells #[.int .u8 (c : Int), .int .u32 ps, .int .u64 qkey, .int .u8 pk, .bool pf, .int .u64 pv, .int .u8 pg] 27)) := hR
  have hcq := blk_cell hQ
  have hcr := blk_cell hR
  have hks : W.cell? ⟨bK, off + 2 + c, none⟩ = some (.int .u32 sq) := by rw [hoff, hsq, Nat.add_assoc]; exact cell_mid hKW _ _ (mem_seq m c hc)
  have HOFF : Hid (off = A.length ∧ sq = m.s c) := (⟨hoff, hsq⟩ : _ ∧ _)
  have hi1 : (0 : Int) ≤ (c : Int) := by omega
  have hi2 : (c : Int) < 4 := by omega
  have hc4 : decide ((4 : Int) ≤ (c : Int)) = false := by simp; omega
  have hd1 : decide (qs < sq) = false := by simp [hsq, hs]
  have hd2 : (qs == sq) = true := by simp [hsq, hs]
  have hy0 : W.cell? ⟨bK, off + 6 + c * 7, none⟩ = some (.int .u8 (c : Int)) := by rw [hoff]; exact (by rw [show A.length + 6 + c * 7 = A.length + (6 + c * 7 + 0) by omega]; exact cell_mid hKW _ _ (mem_said m c 0 hc _ (by rw [hp]; rfl)))
  have hy1 : W.cell? ⟨bK, off + 6 + c * 7 + 1, none⟩ = some (.int .u32 ps) := by rw [hoff]; exact (by rw [show A.length + 6 + c * 7 + 1 = A.length + (6 + c * 7 + 1) by omega]; exact cell_mid hKW _ _ (mem_said m c 1 hc _ (by rw [hp]; rfl)))
  have hy2 : W.cell? ⟨bK, off + 6 + c * 7 + 2, none⟩ = some (.int .u64 qkey) := by rw [hoff]; exact (by rw [show A.length + 6 + c * 7 + 2 = A.length + (6 + c * 7 + 2) by omega]; exact cell_mid hKW _ _ (mem_said m c 2 hc _ (by rw [hp]; rfl)))
  have hy3 : W.cell? ⟨bK, off + 6 + c * 7 + 3, none⟩ = some (.int .u8 pk) := by rw [hoff]; exact (by rw [show A.length + 6 + c * 7 + 3 = A.length + (6 + c * 7 + 3) by omega]; exact cell_mid hKW _ _ (mem_said m c 3 hc _ (by rw [hp]; rfl)))
  have hy4 : W.cell? ⟨bK, off + 6 + c * 7 + 4, none⟩ = some (.bool pf) := by rw [hoff]; exact (by rw [show A.length + 6 + c * 7 + 4 = A.length + (6 + c * 7 + 4) by omega]; exact cell_mid hKW _ _ (mem_said m c 4 hc _ (by rw [hp]; rfl)))
  have hy5 : W.cell? ⟨bK, off + 6 + c * 7 + 5, none⟩ = some (.int .u64 pv) := by rw [hoff]; exact (by rw [show A.length + 6 + c * 7 + 5 = A.length + (6 + c * 7 + 5) by omega]; exact cell_mid hKW _ _ (mem_said m c 5 hc _ (by rw [hp]; rfl)))
  have hy6 : W.cell? ⟨bK, off + 6 + c * 7 + 6, none⟩ = some (.int .u8 pg) := by rw [hoff]; exact (by rw [show A.length + 6 + c * 7 + 6 = A.length + (6 + c * 7 + 6) by omega]; exact cell_mid hKW _ _ (mem_said m c 6 hc _ (by rw [hp]; rfl)))
  clear hs hp
  rw [← hoff]
  clear hD hQ hR hWl hWs hKW hbK hoff hsq
  go_enter Try.func31, Try.ntmps31
  go_upto_region 3 with fail
  rw [← hW]
  clear hW
  go_wp2_with fail
  go_quiet (fail)
  go_wp2_with fail
  go_quiet (fail)
  go_wp2_with fail
  go_quiet (fail)
  go_wp2_with fail
  go_ret2
  exact ⟨rfl, by first | exact below_drewN HWL.out _ | exact below_drewN (below_drewN HWL.out _) _ | exact below_drewN (below_drewN (below_drewN HWL.out _) _) _⟩

end Go.Proofs.Ytignemioillaiaa
