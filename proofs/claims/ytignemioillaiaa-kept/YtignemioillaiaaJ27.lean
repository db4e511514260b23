/- shard.Begin of a group alone; handoverkeep.right in raw numbers; the eleven memories in one row. -/
import Derived.Test.YtignemioillaiaaJ26
import Derived.Test.YtignemioillaiaaS1
import Derived.Test.YtignemioillaiaaJU
namespace Go.Proofs.Ytignemioillaiaa
open Go.RowKit Go.Lib

theorem own_lit {w : World} {base b : Nat} {e : TypeId} {k : Nat} {cs : List Value} (n : Nat) (hb : base ≤ b) (hg : w.heap[b]? = some (.cells cs.toArray e)) (hl : cs.length = n * k) (hn : n ≤ 1000) : w.ownsRow base e k (.slice (some ⟨b, 0, none⟩) n n) n cs :=
  ⟨hl, .inr ⟨b, n, cs.toArray, rfl, hb, hg, Nat.le_refl _, by unfold maxLen; omega, by simpa using hl, by rw [← hl]; simp⟩⟩

theorem begin_one (w : World) : Calls Try.prog 23 #[.int .i64 0, .int .i64 1] w fun e w' => ∃ vM vO vI, e = .returned (.tuple #[.agg #[.int .u8 0, .int .u8 1, .slice none 0 0, vM, .slice none 0 0, vO, vI], .int .i64 0]) ∧ One w' w.heap.size (.slice none 0 0) vM (.slice none 0 0) vO vI [] [] ∧ Below w.heap.size w w' := by
  refine (begin_t 0 1 w (by decide) (by decide) (by decide) (by decide)).mono ?_
  rintro e w' ⟨bM, bO, bI, rfl, h1, h2, h3, hM, hO, hI, hb⟩
  refine ⟨_, _, _, rfl, ⟨World.ownsRow_nil _ _ _ _, own_lit 1 h1 hM rfl (by decide), World.ownsRow_nil _ _ _ _, own_lit 1 h2 hO rfl (by decide), own_lit 1 h3 hI rfl (by decide)⟩, hb⟩

theorem right_raw (qc qs qk qkey qv qhi qto : Int) (rc rs rk rkey rv rhi rto : Int) (w : World) (h : (Req.mk qc qs qk qkey qv qhi qto).wf) (hr : rightOf (Req.mk qc qs qk qkey qv qhi qto) = (Req.mk rc rs rk rkey rv rhi rto)) :
    Calls Try.prog 26 #[.agg #[.int .u8 qc, .int .u32 qs, .int .u8 qk, .int .u64 qkey, .int .u64 qv, .int .u64 qhi, .int .u8 qto]] w fun e w' => e = .returned (.agg #[.int .u8 rc, .int .u32 rs, .int .u8 rk, .int .u64 rkey, .int .u64 rv, .int .u64 rhi, .int .u8 rto]) ∧ Below w.heap.size w w' := by
  refine (right_any qc qs qk qkey qv qhi qto w h).mono ?_
  rintro e w' ⟨rfl, hb⟩
  exact ⟨by rw [hr]; rfl, hb⟩

/-- What handoverkeep.right makes. -/
theorem right_spec {q : Req} (h : q.wf) : ∃ (c n : Nat), c < 3 ∧ n < 11 ∧ (rightOf q).c = c ∧ (rightOf q).key = keyN n ∧ 1 ≤ (rightOf q).s ∧ ((rightOf q).k = 1 ∨ (rightOf q).k = 2 ∨ (rightOf q).k = 3 ∨ (rightOf q).k = 4) ∧ 0 ≤ (rightOf q).to ∧ (rightOf q).ok = true := by
  have hq := h
  obtain ⟨h1, h2, h3, h4, h5, h6, h7⟩ := h
  simp only [U8, U32, U64] at h1 h2 h3 h4 h5 h6 h7
  refine ⟨(q.c % 3).toNat, (q.key % 11).toNat, by omega, by omega, ?_, ?_, ?_, ?_, ?_, ?_⟩
  · show q.c % 3 = _; omega
  · show keyOf q.key = _
    unfold keyOf keyN
    split <;> split <;> omega
  · show 1 ≤ 1 + q.s % 9; omega
  · show 1 + q.k % 4 = 1 ∨ _; simp only [rightOf]; omega
  · simp only [rightOf]; split <;> omega
  · exact rightOf_ok hq

theorem mem_k : ∀ m : Mem, m.cells.length = 34 := fun _ => rfl
def mem0 : Mem := ⟨false, 0, fun _ => 0, fun _ => ⟨0, 0, 0, 0, false, 0, 0⟩⟩
theorem keys_split {K : List Mem} {n : Nat} {m : Mem} (hm : K[n]? = some m) : (K.map Mem.cells).flatten = ((K.take n).map Mem.cells).flatten ++ (m.cells ++ ((K.drop (n + 1)).map Mem.cells).flatten) := by
  obtain ⟨h1, h2⟩ := List.getElem?_eq_some_iff.1 hm
  have e : K = K.take n ++ (m :: K.drop (n + 1)) := by
    have := List.take_append_drop n K
    rw [List.drop_eq_getElem_cons h1, h2] at this
    exact this.symm
  conv => lhs; rw [e]
  simp
theorem keys_set {K : List Mem} {n : Nat} {m' : Mem} (h : n < K.length) : ((K.set n m').map Mem.cells).flatten = ((K.take n).map Mem.cells).flatten ++ (m'.cells ++ ((K.drop (n + 1)).map Mem.cells).flatten) := by
  rw [List.set_eq_take_append_cons_drop, if_pos h]; simp
theorem keys_len {K : List Mem} {n : Nat} (h : n ≤ K.length) : (((K.take n).map Mem.cells).flatten).length = n * 34 := by
  rw [flat_len' mem_k, List.length_take, Nat.min_eq_left h]

theorem KInv.start : KInv [] [] (List.replicate 11 mem0) := by
  refine ⟨List.Pairwise.nil, List.Pairwise.nil, by simp, by simp, by simp, by simp, by simp, ?_, by simp, ?_⟩
  · intro n m hm _
    have := List.eq_of_mem_replicate (List.mem_of_getElem? hm)
    rw [this]; rfl
  · intro n m c hm _ _
    have := List.eq_of_mem_replicate (List.mem_of_getElem? hm)
    rw [this]; rfl

end Go.Proofs.Ytignemioillaiaa
