/- Round: the range is made. -/
import Derived.Test.YtignemioillaiaaU3
import Derived.Test.YtignemioillaiaaU2
import Derived.Test.YtignemioillaiaaQ15
import Derived.Test.YtignemioillaiaaQ24
import Derived.Deep.QuietTactic
import Derived.BigQuiet
namespace Go.Proofs.Ytignemioillaiaa
open Go.RowKit

/-- The range while it is made: the keys kr (of its rows) and kd (of its dups) have come in; below block bx all is as in W. -/
structure XB (W wr : World) (bx : Nat) (src dst seq v c u : Int) (vR vD : Value) (kr kd : List Int) : Prop where
  blk : wr.heap[bx]? = some (.cells #[.int .u8 src, .int .u8 dst, .int .u32 seq, .int .u64 0, .int .u64 18446744073709551615, vR, vD] 33)
  oR : wr.ownsRow (bx + 1) 82 2 vR kr.length ((kr.map (rowOf v)).map Row.cells).flatten
  oD : wr.ownsRow (bx + 1) 27 7 vD kd.length ((kd.map (dupOf c u)).map Rep.cells).flatten
  bel : Below bx W wr
  sz : bx < wr.heap.size

theorem XB.drewN {W wr : World} {bx : Nat} {src dst seq v c u : Int} {vR vD : Value} {kr kd : List Int} (h : XB W wr bx src dst seq v c u vR vD kr kd) (n : Nat) : XB W (wr.drewN n) bx src dst seq v c u vR vD kr kd :=
  ⟨h.blk, h.oR, h.oD, below_drewN h.bel n, h.sz⟩

theorem setCell_only (w : World) (B o : Nat) (v : Value) : Only B w (w.setCell ⟨B, o, none⟩ v) :=
  ⟨rfl, rfl, rfl, by simp, fun k hk => heap_setCell_other w _ k v hk⟩

theorem one_cellsU {cs : List Value} (h : cs.all (·.oneCell') = true) : ∀ u ∈ cs, u.oneCell' = true := fun u hu => List.all_eq_true.1 h u hu

theorem own_otherU {w w' : World} {base base' : Nat} {e e' : TypeId} {size size' : Nat} {v v' v'' : Value} {n n' : Nat} {xs xs' : List Value} (h : w.ownsRow base e size v n xs) (h' : w.ownsRow base' e' size' v' n' xs') (hne : e ≠ e') (hg : Grew w v' w' v'') : w'.ownsRow base e size v n xs :=
  h.kept hg.grown (own_apart h h' hne)

/-- A row more. -/
theorem XB.row {W wr w' : World} {bx : Nat} {src dst seq v c u k : Int} {vR vR' vD : Value} {kr kd : List Int} {o : Obj} (h : XB W wr bx src dst seq v c u vR vD kr kd) (ho : w'.ownsRow (bx + 1) 82 2 vR' (kr.length + 1) (((kr.map (rowOf v)).map Row.cells).flatten ++ [.int .u64 k, .int .u64 v])) (hg : Grew (wr.alloc o) vR w' vR') :
    XB W (w'.setCell ⟨bx, 5, none⟩ vR') bx src dst seq v c u vR' vD (kr ++ [k]) kd ∧ w'.heap[bx]? = some (.cells #[.int .u8 src, .int .u8 dst, .int .u32 seq, .int .u64 0, .int .u64 18446744073709551615, vR, vD] 33) := by
  have hA := World.ownsRow.alloc h.oR o
  have hsz : bx + 1 ≤ (wr.alloc o).heap.size := by have := h.sz; simp; omega
  have hB : w'.heap[bx]? = some (.cells #[.int .u8 src, .int .u8 dst, .int .u32 seq, .int .u64 0, .int .u64 18446744073709551615, vR, vD] 33) :=
    hg.blk (blk_later (later_alloc wr o) h.blk) (by intro e; have := (World.ownsRow.lt hA bx e.symm).1; omega)
  refine ⟨⟨?_, ?_, ?_, ?_, ?_⟩, hB⟩
  · rw [heap_setCell_same w' bx 5 _ _ _ hB]; rfl
  · have e : (((kr ++ [k]).map (rowOf v)).map Row.cells).flatten = ((kr.map (rowOf v)).map Row.cells).flatten ++ [.int .u64 k, .int .u64 v] := by simp [rowOf, Row.cells]
    rw [e, List.length_append]
    exact own_keep ho (setCell_only _ _ _ _) (by omega)
  · exact own_keep (own_otherU (World.ownsRow.alloc h.oD o) hA (by decide) hg) (setCell_only _ _ _ _) (by omega)
  · have h1 := h.bel.trans (Below.mono (later_alloc wr o) (Nat.le_of_lt h.sz))
    have h2 : Below bx (wr.alloc o) w' := ((Below.refl (bx + 1) _).grown hg.grown hsz (fun k hk => (World.ownsRow.lt hA k hk).1)).mono (Nat.le_succ _)
    exact (h1.trans h2).trans ((setCell_only w' bx 5 vR').below (Nat.le_refl _))
  · have := hg.grown.size
    simp at this ⊢
    have := h.sz; omega

/-- A dup more. -/
theorem XB.dup {W wr w' : World} {bx : Nat} {src dst seq v c u k : Int} {vR vD vD' : Value} {kr kd : List Int} {o : Obj} (h : XB W wr bx src dst seq v c u vR vD kr kd) (ho : w'.ownsRow (bx + 1) 27 7 vD' (kd.length + 1) (((kd.map (dupOf c u)).map Rep.cells).flatten ++ [.int .u8 c, .int .u32 7, .int .u64 k, .int .u8 1, .bool true, .int .u64 u, .int .u8 0])) (hg : Grew (wr.alloc o) vD w' vD') :
    XB W (w'.setCell ⟨bx, 6, none⟩ vD') bx src dst seq v c u vR vD' kr (kd ++ [k]) ∧ w'.heap[bx]? = some (.cells #[.int .u8 src, .int .u8 dst, .int .u32 seq, .int .u64 0, .int .u64 18446744073709551615, vR, vD] 33) := by
  have hA := World.ownsRow.alloc h.oD o
  have hsz : bx + 1 ≤ (wr.alloc o).heap.size := by have := h.sz; simp; omega
  have hB : w'.heap[bx]? = some (.cells #[.int .u8 src, .int .u8 dst, .int .u32 seq, .int .u64 0, .int .u64 18446744073709551615, vR, vD] 33) :=
    hg.blk (blk_later (later_alloc wr o) h.blk) (by intro e; have := (World.ownsRow.lt hA bx e.symm).1; omega)
  refine ⟨⟨?_, ?_, ?_, ?_, ?_⟩, hB⟩
  · rw [heap_setCell_same w' bx 6 _ _ _ hB]; rfl
  · exact own_keep (own_otherU (World.ownsRow.alloc h.oR o) hA (by decide) hg) (setCell_only _ _ _ _) (by omega)
  · have e : (((kd ++ [k]).map (dupOf c u)).map Rep.cells).flatten = ((kd.map (dupOf c u)).map Rep.cells).flatten ++ [.int .u8 c, .int .u32 7, .int .u64 k, .int .u8 1, .bool true, .int .u64 u, .int .u8 0] := by simp [dupOf, Rep.cells]
    rw [e, List.length_append]
    exact own_keep ho (setCell_only _ _ _ _) (by omega)
  · have h1 := h.bel.trans (Below.mono (later_alloc wr o) (Nat.le_of_lt h.sz))
    have h2 : Below bx (wr.alloc o) w' := ((Below.refl (bx + 1) _).grown hg.grown hsz (fun k hk => (World.ownsRow.lt hA k hk).1)).mono (Nat.le_succ _)
    exact (h1.trans h2).trans ((setCell_only w' bx 6 vD').below (Nat.le_refl _))
  · have := hg.grown.size
    simp at this ⊢
    have := h.sz; omega

theorem SlIn.atK {B : Nat} {w : World} {s : Sl} {keys : List Int} (h : SlIn B w s 1 (keys.map (fun k => [Value.int .u64 k]))) {i : Nat} {k : Int} (hi : keys[i]? = some k) :
    ∃ b off, s.a = some ⟨b, off, none⟩ ∧ b < B ∧ w.cell? ⟨b, off + i, none⟩ = some (.int .u64 k) := by
  have hlt := (List.getElem?_eq_some_iff.1 hi).1
  obtain ⟨b, off, ha, hb, hc⟩ := h.at' (by rw [h.len]; simp; omega)
  have := hc i [.int .u64 k] (by simp [hi])
  have h0 := this 0 _ rfl
  rw [Nat.mul_one, Nat.add_zero] at h0
  exact ⟨b, off, ha, hb, h0⟩

theorem right_raw (qc qs qk qkey qv qhi qto : Int) (rc rs rk rkey rv rhi rto : Int) (w : World) (h : (Req.mk qc qs qk qkey qv qhi qto).wf) (hr : rightOf (Req.mk qc qs qk qkey qv qhi qto) = (Req.mk rc rs rk rkey rv rhi rto)) :
    Calls Try.prog 26 #[.agg #[.int .u8 qc, .int .u32 qs, .int .u8 qk, .int .u64 qkey, .int .u64 qv, .int .u64 qhi, .int .u8 qto]] w fun e w' => e = .returned (.agg #[.int .u8 rc, .int .u32 rs, .int .u8 rk, .int .u64 rkey, .int .u64 rv, .int .u64 rhi, .int .u8 rto]) ∧ Below w.heap.size w w' := by
  have := right_any qc qs qk qkey qv qhi qto w h
  rw [hr] at this
  exact this

end Go.Proofs.Ytignemioillaiaa
