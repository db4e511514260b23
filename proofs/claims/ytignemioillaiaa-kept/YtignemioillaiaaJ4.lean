/- Laws of no program: copy, append of zeros, clear and append in place, of elements of several cells, in a row that is known whole. -/
import Derived.Test.YtignemioillaiaaD4
import Derived.Laws.CopyOwn
import Derived.Lib.AppendZeros
import Derived.Lib.Overlaps
import Derived.Deep.RegionLaw
namespace Go.Proofs.Ytignemioillaiaa
open Go.RowKit

theorem run_copyK {P : Program} (w : World) (dT sT ty elem : TypeId) (size g off dLen dCap : Nat) (a : Addr) (sLen sCap : Nat) (cur : List Value) (t : TypeId) (cs : List Value)
    (hu : P.underlying dT = some (.slice elem)) (hs : (P.info? elem).map (·.size) = some size)
    (hg : w.heap[g]? = some (.cells cur.toArray t)) (hn : cs.length = Nat.min sLen dLen * size)
    (hsrc : ∀ j v, cs[j]? = some v → w.cell? (a.add j) = some v) (hfit : off + cs.length ≤ cur.length) (h1 : ∀ v ∈ cs, v.oneCell' = true) :
    (Builtin.copy_ #[dT, sT] ty #[.slice (some ⟨g, off, none⟩) dLen dCap, .slice (some a) sLen sCap]).run P w =
      .ok (goInt (Nat.min sLen dLen)) (w.setRow g (splice cur off cs).toArray) := by
  have hl := run_loadCells_list (P := P) w a cs hsrc
  have hst := run_storeCells_at P g off t cs 0 cur.toArray w hg (by simpa using hfit) h1
  cases hq : P.info? elem with
  | none => simp [hq] at hs
  | some i =>
    have hi : i.size = size := by simpa [hq] using hs
    simp [Builtin.copy_, run_underlying hu, Builtin.lenOf, Builtin.firstCells, sizeOf, typeInfo, hq, hi, ← hn, hl, hst, splice]

theorem wp_copyK {P : Program} {w : World} {o : Oper} {a : Act} {K : Act → World → Prop} {Q : Exit → Act → World → Prop} (d s : Operand) (dT sT : TypeId)
    (ho : o.op = .call { callee := .builtin .copy, args := #[d, s], argTypes := #[dT, sT] }) (elem : TypeId) (size : Nat) (hu : P.underlying dT = some (.slice elem)) (hsz : (P.info? elem).map (·.size) = some size)
    (g off dLen dCap : Nat) (hd : a.eval d = .slice (some ⟨g, off, none⟩) dLen dCap) (ad : Addr) (n c : Nat) (hs : a.eval s = .slice (some ad) n c)
    (cur : List Value) (t : TypeId) (hg : w.heap[g]? = some (.cells cur.toArray t)) (cs : List Value) (hn : cs.length = Nat.min n dLen * size)
    (hsrc : ∀ j v, cs[j]? = some v → w.cell? (ad.add j) = some v) (hfit : off + cs.length ≤ cur.length) (h1 : ∀ v ∈ cs, v.oneCell' = true)
    (h : ∀ w', Hid (w'.heap[g]? = some (.cells (splice cur off cs).toArray t)) → Hid (Only g w w') → K (a.put o.dst (goInt (Nat.min n dLen))) w') : o.wp P a w K Q := by
  have hrun := run_copyK (P := P) w dT sT o.type elem size g off dLen dCap ad n c cur t cs hu hsz hg hn hsrc hfit h1
  unfold Oper.wp execOp
  simp only [ho, resolve, invoke, builtin, Sem.run_bind, Sem.run_pure, Result.andThen_ok, List.map_toArray, List.map_cons, List.map_nil, hd, hs, hrun]
  exact h _ (setRow_heap w g cur.toArray _ t (0, 0) hg) (Only.setRow w g _)

theorem wpList_copyK {P : Program} {w : World} {ops : Array Oper} {rest : List Oper} {o : Oper} {a : Act} {Q : Exit → Act → World → Prop} (hgd : o.guard = none) (d s : Operand) (dT sT : TypeId)
    (ho : o.op = .call { callee := .builtin .copy, args := #[d, s], argTypes := #[dT, sT] }) (elem : TypeId) (size : Nat) (hu : P.underlying dT = some (.slice elem)) (hsz : (P.info? elem).map (·.size) = some size)
    (g off dLen dCap : Nat) (hd : a.eval d = .slice (some ⟨g, off, none⟩) dLen dCap) (ad : Addr) (n c : Nat) (hs : a.eval s = .slice (some ad) n c)
    (cur : List Value) (t : TypeId) (hg : w.heap[g]? = some (.cells cur.toArray t)) (cs : List Value) (hn : cs.length = Nat.min n dLen * size)
    (hsrc : ∀ j v, cs[j]? = some v → w.cell? (ad.add j) = some v) (hfit : off + cs.length ≤ cur.length) (h1 : ∀ v ∈ cs, v.oneCell' = true)
    (h : ∀ w', Hid (w'.heap[g]? = some (.cells (splice cur off cs).toArray t)) → Hid (Only g w w') → wpList P ops Q rest (a.put o.dst (goInt (Nat.min n dLen))) w') : wpList P ops Q (o :: rest) a w :=
  wpList_plain hgd fun _ hK => wp_copyK d s dT sT ho elem size hu hsz g off dLen dCap hd ad n c hs cur t hg cs hn hsrc hfit h1 fun w' h1 h2 => hK _ _ (h w' h1 h2)

theorem step_copyK {P : Program} {w : World} {ops : Array Oper} {o : Oper} {a : Act} {K : Act → World → Prop} {Q : Exit → Act → World → Prop} {E : Prop} (hgd : o.guard = none) (d s : Operand) (dT sT : TypeId)
    (ho : o.op = .call { callee := .builtin .copy, args := #[d, s], argTypes := #[dT, sT] }) (elem : TypeId) (size : Nat) (hu : P.underlying dT = some (.slice elem)) (hsz : (P.info? elem).map (·.size) = some size)
    (g off dLen dCap : Nat) (hd : a.eval d = .slice (some ⟨g, off, none⟩) dLen dCap) (ad : Addr) (n c : Nat) (hs : a.eval s = .slice (some ad) n c)
    (cur : List Value) (t : TypeId) (hg : w.heap[g]? = some (.cells cur.toArray t)) (cs : List Value) (hn : cs.length = Nat.min n dLen * size)
    (hsrc : ∀ j v, cs[j]? = some v → w.cell? (ad.add j) = some v) (hfit : off + cs.length ≤ cur.length) (h1 : ∀ v ∈ cs, v.oneCell' = true)
    (h : ∀ w', Hid (w'.heap[g]? = some (.cells (splice cur off cs).toArray t)) → Hid (Only g w w') → K (a.put o.dst (goInt (Nat.min n dLen))) w') :
    if Region.wanted o (yielded ops a.tmps) = true then Oper.wp P o a w K Q else E := by
  have hw : Region.wanted o (yielded ops a.tmps) = true := by simp [Region.wanted, hgd]
  rw [if_pos hw]
  exact wp_copyK d s dT sT ho elem size hu hsz g off dLen dCap hd ad n c hs cur t hg cs hn hsrc hfit h1 h

theorem step_appendK {P : Program} {w : World} {ops : Array Oper} {o : Oper} {a : Act} {K : Act → World → Prop} {Q : Exit → Act → World → Prop} {E : Prop} (hgd : o.guard = none) (s x : Operand) (t : TypeId)
    (ho : o.op = .call { callee := .builtin .append, args := #[s, x], argTypes := #[t, t] }) (e : TypeId) (i : TypeInfo) (ht : P.underlying t = some (.slice e)) (hi : P.info? e = some i) (size : Nat) (hsz : i.size = size)
    (g sLen sCap : Nat) (hs : a.eval s = .slice (some ⟨g, 0, none⟩) sLen sCap) (ad : Addr) (m c : Nat) (hx : a.eval x = .slice (some ad) m c)
    (cur : List Value) (hg : w.heap[g]? = some (.cells cur.toArray e)) (news : List Value) (hl : news.length = m * size) (hnews : ∀ j u, news[j]? = some u → w.cell? (ad.add j) = some u) (h1 : ∀ u ∈ news, u.oneCell' = true)
    (hroom : sLen + m ≤ sCap) (hfit : sLen * size + news.length ≤ cur.length) (r : Nat) (hr : sLen + m = r)
    (h : ∀ w', Hid (w'.heap[g]? = some (.cells (cur.take (sLen * size) ++ news ++ cur.drop (sLen * size + news.length)).toArray e)) → Hid (Only g w w') → K (a.put o.dst (.slice (some ⟨g, 0, none⟩) r sCap)) w') :
    if Region.wanted o (yielded ops a.tmps) = true then Oper.wp P o a w K Q else E := by
  have hw : Region.wanted o (yielded ops a.tmps) = true := by simp [Region.wanted, hgd]
  rw [if_pos hw]
  subst hr hsz
  have hrun := run_append_room (P := P) w t o.type e i ht hi g sLen sCap cur.toArray hg ad m c news hl hnews h1 hroom (by simpa using hfit)
  unfold Oper.wp execOp
  simp only [ho, resolve, invoke, builtin, Sem.run_bind, Sem.run_pure, Result.andThen_ok, List.map_toArray, List.map_cons, List.map_nil, hs, hx, hrun]
  exact h _ (setRow_heap w g cur.toArray _ e (0, 0) hg) (Only.setRow w g _)

/-- append(s[:i], make(T, m)...) where there is no room: a new row that begins with the first i elements. -/
theorem run_append_zeros {P : Program} (w : World) (t tn ty e : TypeId) (i : TypeInfo) (z : Value) (k kn : IntKind) (ht : P.underlying t = some (.slice e)) (htn : P.underlying tn = some (.int kn)) (hi : P.info? e = some i) (hz : i.zero = some z) (hzs : z.cells.size = i.size)
    (b : Addr) (sLen sCap : Nat) (olds : List Value) (hlo : olds.length = sLen * i.size) (holds : ∀ j v, olds[j]? = some v → w.cell? (b.add j) = some v)
    (m : Nat) (h0 : 0 < m) (hs : 0 < i.size) (hg : sCap < sLen + m) (hb : (sLen + m) * i.bytes ≤ 140737488355328) (h63 : sLen + m ≤ maxLen) :
    ∃ cur : List Value, cur.length = grownCap w (sLen + m) sCap e * i.size ∧ cur.take (sLen * i.size) = olds ∧
    (Builtin.append_ #[t, tn] ty #[.slice (some b) sLen sCap, .int k m]).run P w =
      .ok (.slice (some ⟨w.heap.size, 0, none⟩) (sLen + m) (grownCap w (sLen + m) sCap e)) (w.drew.alloc (.cells cur.toArray e)) := by
  have hge := grownCap_ge w (sLen + m) sCap e
  refine ⟨olds ++ (Builtin.zeroCells z.cells m).toList ++ (Builtin.zeroCells z.cells (grownCap w (sLen + m) sCap e - (sLen + m))).toList, ?_, ?_, ?_⟩
  · simp only [List.length_append, Array.length_toList, size_zeroCells, hzs, hlo, ← Nat.add_mul]
    congr 1
    omega
  · rw [List.append_assoc, ← hlo, List.take_left]
  have hmx : sLen + m ≤ 9223372036854775807 := by simpa [maxLen] using h63
  have hn : ¬ (sLen + m ≤ sCap) := by omega
  have hm : m ≠ 0 := by omega
  have hw : IntKind.i64.wrap (m : Int) = m := by rw [IntKind.wrap_i64]; omega
  have h63' : ¬ (9223372036854775807 < ((sLen : Int) + (m : Int))) := by omega
  have h48' : ¬ (281474976710656 < Builtin.nextslicecap (sLen + m) sCap * i.bytes) := by have := growslice_fits hg hb; omega
  have h48i : ¬ (281474976710656 < (m : Int) * (i.bytes : Int)) := by
    rw [← Int.natCast_mul]
    have : m * i.bytes ≤ (sLen + m) * i.bytes := Nat.mul_le_mul_right _ (by omega)
    omega
  have hneg : ¬ ((m : Int) < 0) := by omega
  have hns : ¬ (m * i.size = 0) := Nat.mul_ne_zero hm (by omega)
  have hfo := run_firstCells_some (P := P) w.drew i.size sLen b sLen sCap olds hlo (by simpa using holds)
  simp [Builtin.append_, run_underlying ht, run_underlying htn, sizeOf, typeInfo, zeroValue, hi, hz, asInt, asIntOf, hw, hn, hneg, hns, h63', h48', h48i, Question.forced, hfo, newRow, grownCap]
  congr 2
  apply Array.ext'
  simp

/-- clear of part of a row. -/
theorem run_clearK {P : Program} (w : World) (t ty e : TypeId) (i : TypeInfo) (z : Value) (ht : P.underlying t = some (.slice e)) (hi : P.info? e = some i) (hz : i.zero = some z) (hzs : z.cells.size = i.size) (h1 : ∀ v ∈ z.cells, v.oneCell' = true)
    (g off n c : Nat) (hn : 0 < n) (cur : List Value) (t' : TypeId) (hg : w.heap[g]? = some (.cells cur.toArray t')) (hfit : off + n * i.size ≤ cur.length) :
    ∃ zs : List Value, zs.length = n * i.size ∧ (Builtin.clear_ #[t] ty #[.slice (some ⟨g, off, none⟩) n c]).run P w = .ok (.tuple #[]) (w.setRow g (splice cur off zs).toArray) := by
  have hzl : (Builtin.zeroCells z.cells n).toList.length = n * i.size := by rw [Array.length_toList, size_zeroCells, hzs]
  refine ⟨(Builtin.zeroCells z.cells n).toList, hzl, ?_⟩
  have hone : ∀ v ∈ (Builtin.zeroCells z.cells n).toList, v.oneCell' = true := by
    intro v hv
    simp only [Builtin.zeroCells, Array.toList_map, List.mem_map] at hv
    obtain ⟨j, hj, rfl⟩ := hv
    have hp : 0 < z.cells.size := by
      rcases Nat.eq_zero_or_pos z.cells.size with h | h
      · simp [h] at hj
      · exact h
    rw [getElem!_pos z.cells (j % z.cells.size) (Nat.mod_lt _ hp)]
    exact h1 _ (Array.getElem_mem _)
  have hst := run_storeCells_at P g off t' (Builtin.zeroCells z.cells n).toList 0 cur.toArray w hg (by rw [hzl]; simpa using hfit) hone
  obtain ⟨k, rfl⟩ : ∃ k, n = k + 1 := ⟨n - 1, by omega⟩
  simp [Builtin.clear_, run_underlying ht, zeroValue, typeInfo, hi, hz, hst, splice]

theorem wpList_clearK {P : Program} {w : World} {ops : Array Oper} {rest : List Oper} {o : Oper} {a : Act} {Q : Exit → Act → World → Prop} (hgd : o.guard = none) (s : Operand) (t : TypeId)
    (ho : o.op = .call { callee := .builtin .clear, args := #[s], argTypes := #[t] }) (e : TypeId) (i : TypeInfo) (z : Value) (ht : P.underlying t = some (.slice e)) (hi : P.info? e = some i) (hz : i.zero = some z) (size : Nat) (hsz : i.size = size) (hzs : z.cells.size = size) (h1 : ∀ v ∈ z.cells, v.oneCell' = true)
    (g off n c : Nat) (hs : a.eval s = .slice (some ⟨g, off, none⟩) n c) (hn : 0 < n) (cur : List Value) (t' : TypeId) (hg : w.heap[g]? = some (.cells cur.toArray t')) (hfit : off + n * size ≤ cur.length)
    (h : ∀ (zs : List Value) (w' : World), Hid (zs.length = n * size) → Hid (w'.heap[g]? = some (.cells (splice cur off zs).toArray t')) → Hid (Only g w w') → wpList P ops Q rest (a.put o.dst (.tuple #[])) w') : wpList P ops Q (o :: rest) a w :=
  wpList_plain hgd fun K hK => by
    subst hsz
    obtain ⟨zs, hzl, hrun⟩ := run_clearK (P := P) w t o.type e i z ht hi hz hzs h1 g off n c hn cur t' hg hfit
    unfold Oper.wp execOp
    simp only [ho, resolve, invoke, builtin, Sem.run_bind, Sem.run_pure, Result.andThen_ok, List.map_toArray, List.map_cons, List.map_nil, hs, hrun]
    exact hK _ _ (h zs _ hzl (setRow_heap w g cur.toArray _ t' (0, 0) hg) (Only.setRow w g _))
theorem add_at (g o j : Nat) : (⟨g, o, none⟩ : Addr).add j = ⟨g, o + j, none⟩ := by unfold Addr.add; split <;> simp_all
theorem cells_drop {w : World} {g : Nat} {cur xs : List Value} {t : TypeId} {m : Nat} (hg : w.heap[g]? = some (.cells cur.toArray t)) (htk : cur.take m = xs) (k : Nat) :
    ∀ j v, (xs.drop k)[j]? = some v → w.cell? ((⟨g, k, none⟩ : Addr).add j) = some v := by
  intro j v h
  rw [add_at, blk_cell hg]
  subst htk
  rw [List.getElem?_drop, List.getElem?_take] at h
  split at h
  · simpa using h
  · cases h
theorem cells_all {w : World} {g : Nat} {nw : List Value} {t : TypeId} (hg : w.heap[g]? = some (.cells nw.toArray t)) : ∀ j v, nw[j]? = some v → w.cell? ((⟨g, 0, none⟩ : Addr).add j) = some v := by
  intro j v h
  rw [add_at, blk_cell hg]
  simpa using h
theorem cut3 {α : Type} (cur : List α) (a m : Nat) (ha : a ≤ m) (hm : m ≤ cur.length) : ∃ A B C : List α, cur = A ++ (B ++ C) ∧ A.length = a ∧ B.length = m - a ∧ cur.take m = A ++ B ∧ C = cur.drop m := by
  refine ⟨cur.take a, (cur.take m).drop a, cur.drop m, ?_, by simp; omega, by simp; omega, ?_, rfl⟩
  · rw [← List.append_assoc]
    have e : cur.take a ++ (cur.take m).drop a = cur.take m := by
      have h := List.take_append_drop a (cur.take m)
      rw [List.take_take, Nat.min_eq_left ha] at h
      exact h
    rw [e, List.take_append_drop]
  · have h := List.take_append_drop a (cur.take m)
    rw [List.take_take, Nat.min_eq_left ha] at h
    exact h.symm
theorem ins_room_list {α : Type} (cur xs nw : List α) (a s m : Nat) (htk : cur.take m = xs) (hc : m + s ≤ cur.length) (ha : a ≤ m) (hn : nw.length = s) :
    splice (splice cur (a + s) (xs.drop a)) a nw = xs.take a ++ (nw ++ (xs.drop a ++ cur.drop (m + s))) := by
  obtain ⟨A, B, C, hcur, hA, hB, hT, hC⟩ := cut3 cur a m ha (by omega)
  have hx : xs = A ++ B := by rw [← htk, hT]
  have e1 : xs.drop a = B := by rw [hx, ← hA, List.drop_left]
  have e2 : xs.take a = A := by rw [hx, ← hA, List.take_left]
  have hlen : cur.length = a + (B.length + C.length) := by rw [hcur]; simp [hA]
  rw [e1, e2]
  have e3 : cur.take (a + s) = A ++ (B ++ C).take s := by rw [hcur, ← hA, List.take_append]; simp [List.take_of_length_le]
  have l3 : ((B ++ C).take s).length = s := by simp; omega
  have e4 : cur.drop (a + s + B.length) = cur.drop (m + s) := by congr 1; omega
  unfold splice
  rw [e3, e4]
  have e5 : (A ++ (B ++ C).take s ++ (B ++ cur.drop (m + s))).take a = A := by rw [List.append_assoc, ← hA, List.take_left]
  have e6 : (A ++ (B ++ C).take s ++ (B ++ cur.drop (m + s))).drop (a + nw.length) = B ++ cur.drop (m + s) := by
    have : a + nw.length = (A ++ (B ++ C).take s).length := by rw [List.length_append, hA, l3, hn]
    rw [this, List.drop_left]
  rw [e5, e6]
theorem ins_grow_list {α : Type} (cur A nw X : List α) (a s : Nat) (htk : cur.take a = A) (ha : A.length = a) (hn : nw.length = s) (_hc : a + s + X.length ≤ cur.length) :
    splice (splice cur a nw) (a + s) X = A ++ (nw ++ (X ++ cur.drop (a + s + X.length))) := by
  unfold splice
  rw [htk]
  have e1 : (A ++ (nw ++ cur.drop (a + nw.length))).take (a + s) = A ++ nw := by
    have : a + s = (A ++ nw).length := by simp [ha, hn]
    rw [← List.append_assoc, this, List.take_left]
  have e2 : (A ++ (nw ++ cur.drop (a + nw.length))).drop (a + s + X.length) = cur.drop (a + s + X.length) := by
    rw [← List.append_assoc, List.drop_append, List.drop_eq_nil_of_le (by simp; omega), List.nil_append, List.drop_drop]
    congr 1
    simp only [List.length_append]; omega
  rw [e1, e2]
  simp
theorem del_list {α : Type} (cur xs zs : List α) (a s m : Nat) (htk : cur.take m = xs) (hc : m ≤ cur.length) (ha : a + s ≤ m) (hz : zs.length = s) :
    (splice (cur.take a ++ xs.drop (a + s) ++ cur.drop (a + (xs.drop (a + s)).length)) (m - s) zs).take (m - s) = xs.take a ++ xs.drop (a + s) := by
  have hl : xs.length = m := by rw [← htk]; simp; omega
  have e0 : cur.take a = xs.take a := by rw [← htk, List.take_take, Nat.min_eq_left (by omega)]
  unfold splice
  rw [e0]
  have e1 : (xs.take a ++ xs.drop (a + s)).length = m - s := by simp [hl]; omega
  rw [List.take_append_of_le_length (by simp [hl]; omega), List.take_take, Nat.min_self]
  rw [show m - s = (xs.take a ++ xs.drop (a + s)).length from e1.symm, List.take_left]
theorem len_spl {α : Type} (L : List α) (off : Nat) (cs : List α) (h : off + cs.length ≤ L.length) : (splice L off cs).length = L.length := length_splice L off cs h
theorem flat_takeK {α : Type} {f : α → List Value} {k : Nat} (hf : ∀ y, (f y).length = k) : ∀ (l : List α) (i : Nat), ((l.map f).flatten).take (i * k) = ((l.take i).map f).flatten
  | [], i => by simp
  | a :: r, 0 => by simp
  | a :: r, i + 1 => by
    simp only [List.map_cons, List.flatten_cons, List.take_succ_cons]
    rw [show (i + 1) * k = (f a).length + i * k by rw [hf, Nat.add_mul]; omega, List.take_length_add_append, flat_takeK hf r i]
theorem flat_dropK {α : Type} {f : α → List Value} {k : Nat} (hf : ∀ y, (f y).length = k) : ∀ (l : List α) (i : Nat), ((l.map f).flatten).drop (i * k) = ((l.drop i).map f).flatten
  | [], i => by simp
  | a :: r, 0 => by simp
  | a :: r, i + 1 => by
    simp only [List.map_cons, List.flatten_cons, List.drop_succ_cons]
    rw [show (i + 1) * k = (f a).length + i * k by rw [hf, Nat.add_mul]; omega, List.drop_length_add_append, flat_dropK hf r i]
theorem Only.trans {B : Nat} {a b c : World} (h : Only B a b) (k : Only B b c) : Only B a c :=
  ⟨k.os.trans h.os, k.tape.trans h.tape, k.output.trans h.output, k.size.trans h.size, fun j hj => (k.block j hj).trans (h.block j hj)⟩
theorem Only.drew (B : Nat) (w : World) : Only B w w.drew := ⟨rfl, rfl, rfl, rfl, fun _ _ => rfl⟩
theorem grown_onlyJ {C : Nat} {w w' : World} (hO : Only C w w') : w.grownBy w' (some C) := ⟨hO.os, hO.tape, hO.output, Nat.le_of_eq hO.size.symm, fun k _ hk => hO.block k (fun e => hk (by rw [e]))⟩
theorem grown_below {w w' : World} {r : Option Nat} (h : Below w.heap.size w w') : w.grownBy w' r := ⟨h.os, h.tape, h.output, h.size, fun k hk _ => h.block k hk⟩
theorem take_front {α : Type} (A B C D : List α) : (A ++ (B ++ (C ++ D))).take (A ++ (B ++ C)).length = A ++ (B ++ C) := by
  rw [show A ++ (B ++ (C ++ D)) = (A ++ (B ++ C)) ++ D by simp, List.take_left]
theorem one_drop {xs : List Value} (h : ∀ u ∈ xs, u.oneCell' = true) (k : Nat) : ∀ u ∈ xs.drop k, u.oneCell' = true := fun u hu => h u (List.mem_of_mem_drop hu)
theorem one_take {xs : List Value} (h : ∀ u ∈ xs, u.oneCell' = true) (k : Nat) : ∀ u ∈ xs.take k, u.oneCell' = true := fun u hu => h u (List.mem_of_mem_take hu)

end Go.Proofs.Ytignemioillaiaa
