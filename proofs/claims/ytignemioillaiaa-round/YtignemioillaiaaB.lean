/- Package wire: numbers put behind bytes. -/
import Derived.Test.YtignemioillaiaaRows
import Derived.Test.YtignemioillaiaaD4
import Derived.Test.YtignemioillaiaaP
import Derived.WalkLawsBesides
namespace Go.Proofs.Ytignemioillaiaa
open Go.RowKit

/-- A byte, as a cell holds it. -/
def byt (n : Int) : Value := .int .u8 n

theorem info_u8 : (Try.prog.info? 5).map (fun i => (i.zero, i.size, i.bytes)) = some (some (.int .u8 0), 1, 1) := by kernel_rfl

/-- The bytes v of the call's own, from block 'base' on, are l. -/
def OwnB (base : Nat) (w : World) (v : Value) (l : List Int) : Prop := w.ownsRow base 5 1 v l.length (l.map byt)

theorem byt_one (l : List Int) : ∀ u ∈ l.map byt, u.oneCell' = true := by
  intro u hu
  obtain ⟨n, _, rfl⟩ := List.mem_map.1 hu
  rfl

/-- What an append, or some of them, leave: blocks that were there are as they were, but for the one that v owns; what comes out lies there still, or in a new block. -/
structure Grew (w : World) (v : Value) (w' : World) (v' : Value) : Prop where
  grown : w.grownBy w' v.ownBlock
  own : v'.ownBlock = v.ownBlock ∨ ∀ k, v'.ownBlock = some k → w.heap.size ≤ k

theorem Grew.trans {a b c : World} {v u t : Value} (h : Grew a v b u) (k : Grew b u c t) : Grew a v c t := by
  refine ⟨⟨k.grown.os.trans h.grown.os, k.grown.tape.trans h.grown.tape, k.grown.output.trans h.grown.output, Nat.le_trans h.grown.size k.grown.size, fun i hi hne => ?_⟩, ?_⟩
  · refine (k.grown.block i (Nat.lt_of_lt_of_le hi h.grown.size) ?_).trans (h.grown.block i hi hne)
    rcases h.own with ho | ho
    · rw [ho]; exact hne
    · intro e; have := ho i e.symm; omega
  · rcases k.own with ho | ho
    · rw [ho]; exact h.own
    · exact .inr fun i hi => Nat.le_trans h.grown.size (ho i hi)

theorem Grew.alloc (w : World) (v : Value) (o : Obj) : Grew w v (w.alloc o) v := ⟨World.grownBy_alloc w o _, .inl rfl⟩
theorem Grew.drewN (w : World) (v : Value) (n : Nat) : Grew w v (w.drewN n) v := ⟨⟨rfl, rfl, rfl, Nat.le_refl _, fun _ _ _ => rfl⟩, .inl rfl⟩

theorem Grew.below {base : Nat} {w w' : World} {v v' : Value} {l : List Int} (h : Grew w v w' v') (hown : OwnB base w v l) (hb : base ≤ w.heap.size) : Below base w w' :=
  (Below.refl base w).grown h.grown hb (fun k hk => (hown.lt k hk).1)

theorem Grew.blk {W w' : World} {v v' : Value} {B : Nat} {o : Obj} (h : Grew W v w' v') (hW : W.heap[B]? = some o) (hne : some B ≠ v.ownBlock) : w'.heap[B]? = some o :=
  (h.grown.block B (Array.getElem?_eq_some_iff.1 hW).1 hne).trans hW

theorem OwnB.ne {base : Nat} {w : World} {v : Value} {l : List Int} (h : OwnB base w v l) : some w.heap.size ≠ v.ownBlock := by
  intro e; have := (h.lt _ e.symm).2; omega

section
variable {P : Program} (w : World)
theorem run_append_new (base : Nat) (t ty e : TypeId) (i : TypeInfo) (z : Value) (size bytes : Nat) (ht : P.underlying t = some (.slice e)) (hi : P.info? e = some i) (hz : i.zero = some z)
    (hsize : i.size = size) (hby : i.bytes = bytes) (hzs : z.cells.size = size) (hsz : 0 < size) (v : Value) (n : Nat) (xs : List Value) (hown : w.ownsRow base e size v n xs)
    (a : Addr) (m c : Nat) (news : List Value) (hl : news.length = m * size) (hnews : ∀ j u, news[j]? = some u → w.cell? (a.add j) = some u) (h1 : ∀ u ∈ news, u.oneCell' = true)
    (h63 : n + m ≤ maxLen) (hbytes : (n + m) * bytes ≤ 140737488355328) (hbase : base ≤ w.heap.size) :
    ∃ v' w', (Builtin.append_ #[t, t] ty #[v, .slice (some a) m c]).run P w = .ok v' w' ∧ w'.ownsRow base e size v' (n + m) (xs ++ news) ∧ Grew w v w' v' := by
  obtain ⟨v', w', hr, ho, hg, _⟩ := run_append_own (P := P) w base t ty e i z size bytes ht hi hz hsize hby hzs hsz v n xs hown a m c news hl hnews h1 h63 hbytes hbase
  refine ⟨v', w', hr, ho, hg, ?_⟩
  rcases hown.2 with ⟨rfl, rfl⟩ | ⟨g, cap, cur, rfl, hbg, hgg, hnc, hcm, hcs, htake⟩
  · right
    have hx : xs = [] := List.eq_nil_of_length_eq_zero (by simpa using hown.1)
    subst hx
    obtain ⟨v2, w2, hr2, ho2, _, _⟩ := run_append_own (P := P) w w.heap.size t ty e i z size bytes ht hi hz hsize hby hzs hsz _ 0 [] (World.ownsRow_nil w w.heap.size e size) a m c news hl hnews h1 h63 hbytes (Nat.le_refl _)
    rw [hr2] at hr
    injection hr with e1 e2
    subst e1
    exact fun k hk => (ho2.lt k hk).1
  · have hsmall : n + m ≤ 9223372036854775807 := by simp only [maxLen] at h63; omega
    subst hsize; subst hby
    by_cases hroom : n + m ≤ cap
    · have hfit : n * i.size + news.length ≤ cur.size := by rw [hl, hcs, ← Nat.add_mul]; exact Nat.mul_le_mul_right _ hroom
      rw [run_append_room (P := P) w t ty e i ht hi g n cap cur hgg a m c news hl hnews h1 hroom hfit] at hr
      injection hr with e1 e2
      subst e1
      exact .inl rfl
    · rw [run_append_grow (P := P) w t ty e i z ht hi hz ⟨g, 0, none⟩ n cap xs hown.1 (hown.cells (g := g) rfl) a m c news hl hnews (by omega) (by omega) (growslice_fits (by omega) hbytes)] at hr
      injection hr with e1 e2
      subst e1
      exact .inr fun k hk => by simp [Value.ownBlock] at hk; omega

theorem wpList_append_new {ops : Array Oper} {rest : List Oper} {o : Oper} {a : Act} {Q : Exit → Act → World → Prop} (hgd : o.guard = none) (s x : Operand) (t : TypeId)
    (ho : o.op = .call { callee := .builtin .append, args := #[s, x], argTypes := #[t, t] })
    (base : Nat) (e : TypeId) (i : TypeInfo) (z : Value) (size bytes : Nat) (ht : P.underlying t = some (.slice e)) (hi : P.info? e = some i) (hz : i.zero = some z)
    (hsize : i.size = size) (hby : i.bytes = bytes) (hzs : z.cells.size = size) (hsz : 0 < size) (v : Value) (n : Nat) (xs : List Value) (hs : a.eval s = v) (hown : w.ownsRow base e size v n xs)
    (ad : Addr) (m c : Nat) (news : List Value) (hx : a.eval x = .slice (some ad) m c) (hl : news.length = m * size) (hnews : ∀ j u, news[j]? = some u → w.cell? (ad.add j) = some u) (h1 : ∀ u ∈ news, u.oneCell' = true)
    (h63 : n + m ≤ maxLen) (hbytes : (n + m) * bytes ≤ 140737488355328) (hbase : base ≤ w.heap.size)
    (h : ∀ v' w', w'.ownsRow base e size v' (n + m) (xs ++ news) → Grew w v w' v' → wpList P ops Q rest (a.put o.dst v') w') : wpList P ops Q (o :: rest) a w :=
  wpList_plain hgd fun _ hK => by
    obtain ⟨v', w', hr, h2, h3⟩ := run_append_new (P := P) w base t o.type e i z size bytes ht hi hz hsize hby hzs hsz v n xs hown ad m c news hl hnews h1 h63 hbytes hbase
    unfold Oper.wp execOp
    simp only [ho, resolve, invoke, builtin, Sem.run_bind, Sem.run_pure, Result.andThen_ok, List.map_toArray, List.map_cons, List.map_nil, hs, hx, hr]
    exact hK _ _ (h v' w' h2 h3)
end

set_option maxHeartbeats 400000 in
theorem put8_any (base : Nat) (v : Value) (l : List Int) (n : Int) (w : World) (hown : OwnB base w v l) (hb : base ≤ w.heap.size) (hl : l.length < 2147483648) :
    Calls Try.prog 76 #[v, .int .u8 n] w fun e w' => ∃ v', e = .returned v' ∧ OwnB base w' v' (l ++ [n]) ∧ Grew w v w' v' := by
  obtain ⟨i0, hi, hz0, hz1, hz2⟩ := info_parts info_u8
  go_enter Try.func76, Try.ntmps76
  go_wp2_with (first | (at_builtin; go_must (refine wpList_append_new _ rfl _ _ 90 rfl base 5 i0 (.int .u8 0) 1 1 Try.underlying90 hi hz0 hz1 hz2 rfl (by decide) v l.length (l.map byt) rfl (World.ownsRow.alloc hown _) ⟨w.heap.size, 0, none⟩ 1 1 [.int .u8 n] rfl rfl ?_ ?_ ?_ ?_ ?_ ?_)))
  case refine_1 =>
    intro j u hj
    match j, hj with
    | 0, hj => simp at hj; subst hj; simp [Addr.add]
  case refine_2 => intro u hu; simp at hu; subst hu; rfl
  case refine_3 => unfold maxLen; omega
  case refine_4 => omega
  case refine_5 => simp; omega
  intro v' w1 hown' hgrow
  go_wp2
  go_ret
  refine ⟨v', rfl, ?_, ?_⟩
  · show w1.ownsRow base 5 1 v' (l ++ [n]).length ((l ++ [n]).map byt)
    rw [List.length_append, List.map_append]; exact hown'
  · exact (Grew.alloc w v _).trans hgrow

set_option maxHeartbeats 400000 in
set_option maxRecDepth 100000 in
theorem put32_any (base : Nat) (v : Value) (l : List Int) (n : Int) (w : World) (hown : OwnB base w v l) (hb : base ≤ w.heap.size) (hl : l.length < 2147483648) (h0 : 0 ≤ n) (h1 : n < 4294967296) :
    Calls Try.prog 82 #[v, .int .u32 n] w fun e w' => ∃ v', e = .returned v' ∧ OwnB base w' v' (l ++ be32 n) ∧ Grew w v w' v' := by
  obtain ⟨i0, hi, hz0, hz1, hz2⟩ := info_parts info_u8
  go_enter Try.func82, Try.ntmps82
  go_wp2_with (first | (at_builtin; go_must (refine wpList_append_new _ rfl _ _ 90 rfl base 5 i0 (.int .u8 0) 1 1 Try.underlying90 hi hz0 hz1 hz2 rfl (by decide) v l.length (l.map byt) rfl (World.ownsRow.alloc hown _) ⟨w.heap.size, 0, none⟩ 4 4 ((be32 n).map byt) rfl rfl ?_ ?_ ?_ ?_ ?_ ?_)))
  case refine_1 =>
    intro j u hj
    match j, hj with
    | 0, hj => simp [be32, byt] at hj; subst hj; simp [Addr.add]
    | 1, hj => simp [be32, byt] at hj; subst hj; simp [Addr.add]
    | 2, hj => simp [be32, byt] at hj; subst hj; simp [Addr.add]
    | 3, hj => simp [be32, byt] at hj; subst hj; simp [Addr.add]
  case refine_2 => exact byt_one _
  case refine_3 => unfold maxLen; omega
  case refine_4 => omega
  case refine_5 => simp; omega
  intro v' w1 hown' hgrow
  go_wp2
  go_ret
  refine ⟨v', rfl, ?_, ?_⟩
  · show w1.ownsRow base 5 1 v' (l ++ be32 n).length ((l ++ be32 n).map byt)
    rw [List.length_append, List.map_append]; exact hown'
  · exact (Grew.alloc w v _).trans hgrow

set_option maxHeartbeats 400000 in
theorem put64_any (base : Nat) (v : Value) (l : List Int) (n : Int) (w : World) (hown : OwnB base w v l) (hb : base ≤ w.heap.size) (hl : l.length < 2147483600) (h0 : 0 ≤ n) (h1 : n < 18446744073709551616) :
    Calls Try.prog 126 #[v, .int .u64 n] w fun e w' => ∃ v', e = .returned v' ∧ OwnB base w' v' (l ++ be64 n) ∧ Grew w v w' v' := by
  go_enter Try.func126, Try.ntmps126
  go_wp2_with (go_at_call 82; go_must (first | (refine (put32_any base _ l _ _ (by assumption) (by assumption) (by omega) (by omega) (by omega)).mono ?_; rintro e w1 ⟨v1, rfl, hown1, hbel1⟩; have hb1 := Nat.le_trans hb hbel1.grown.size; clear hown) | (refine (put32_any base _ _ _ _ hown1 hb1 (by simp [be32]; omega) (by omega) (by omega)).mono ?_; rintro e w2 ⟨v2, rfl, hown2, hbel2⟩)))
  go_ret
  exact ⟨v2, rfl, by rw [be64, ← List.append_assoc]; exact hown2, hbel1.trans hbel2⟩

set_option maxHeartbeats 400000 in
theorem putbool_any (base : Nat) (v : Value) (l : List Int) (f : Bool) (w : World) (hown : OwnB base w v l) (hb : base ≤ w.heap.size) (hl : l.length < 2147483648) :
    Calls Try.prog 127 #[v, .bool f] w fun e w' => ∃ v', e = .returned v' ∧ OwnB base w' v' (l ++ [if f then 1 else 0]) ∧ Grew w v w' v' := by
  cases f
  all_goals
    go_enter Try.func127, Try.ntmps127
    go_wp2_with (go_at_call 76; go_must (refine (put8_any base _ l _ _ hown hb hl).mono ?_; rintro e w1 ⟨v1, rfl, hown1, hbel1⟩))
    go_ret
    exact ⟨v1, rfl, hown1, hbel1⟩

end Go.Proofs.Ytignemioillaiaa
