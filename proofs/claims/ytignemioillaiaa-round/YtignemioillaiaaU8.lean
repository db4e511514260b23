/- Requests and ballots as arguments, opened (as O5 opens messages). -/
import Derived.Test.YtignemioillaiaaR
import Derived.Test.YtignemioillaiaaD4
import Derived.Test.YtignemioillaiaaP
import Derived.SizedLaws
namespace Go.Proofs.Ytignemioillaiaa
open Go.ChangeShapes Go.WideShapes Go.ChangeAt Go.RowKit

theorem seg (l : List Value) (a n b : Nat) (h : a + n = b) : l.drop a = (l.drop a).take n ++ l.drop b := by
  subst h
  rw [← List.drop_drop]
  exact (List.take_append_drop n (l.drop a)).symm

instance : Inhabited Row := ⟨⟨0, 0⟩⟩
instance : Inhabited Rep := ⟨⟨0, 0, 0, 0, false, 0, 0⟩⟩
instance : Inhabited Vot := ⟨⟨0, 0, 0, ⟨0, ⟨0, 0, 0, 0, 0, 0, 0⟩, ⟨0, 0, 0, 0, 0, ⟨none, 0, 0⟩, ⟨none, 0, 0⟩, [], []⟩, 0, 0⟩⟩⟩

theorem Try.cells22 : Try.prog.cellsOf 22 = 1 := by kernel_rfl
theorem Try.cells4 : Try.prog.cellsOf 4 = 1 := by kernel_rfl
theorem Try.cells25 : Try.prog.cellsOf 25 = 7 := by kernel_rfl
theorem Try.cells27 : Try.prog.cellsOf 27 = 7 := by kernel_rfl
theorem Try.cells82 : Try.prog.cellsOf 82 = 2 := by kernel_rfl
theorem Try.cells33 : Try.prog.cellsOf 33 = 7 := by kernel_rfl
theorem Try.cells35 : Try.prog.cellsOf 35 = 17 := by kernel_rfl
theorem Try.cells29 : Try.prog.cellsOf 29 = 2 := by kernel_rfl
theorem Try.cells84 : Try.prog.cellsOf 84 = 20 := by kernel_rfl
theorem Try.cells38 : Try.prog.cellsOf 38 = 45 := by kernel_rfl
theorem Try.cells30 : Try.prog.cellsOf 30 = 1 := by kernel_rfl
theorem Try.cells31 : Try.prog.cellsOf 31 = 1 := by kernel_rfl
theorem Try.cells36 : Try.prog.cellsOf 36 = 1 := by kernel_rfl
theorem Try.bytes82 : Try.prog.bytesOf 82 = 16 := by kernel_rfl
theorem Try.bytes27 : Try.prog.bytesOf 27 = 40 := by kernel_rfl
theorem Try.bytes84 : Try.prog.bytesOf 84 = 152 := by kernel_rfl

section
variable {H : Type} {enc : TypeId × Value → H} {P : Program} {w : World}

theorem lenOf {t : TypeId} {fs : Array Field} {fuel : Nat} {cs : List Value} {x : DataW H × List MemPlace} (ht : P.underlying t = some (.struct fs)) (h : DataW.trod enc P w 0 (fun _ => true) true fuel t cs = some x) : cs.length = P.cellsOf t := by
  obtain ⟨xs, n, _, _, hl, _, _⟩ := DataW.trod_struct ht h
  exact hl

theorem fieldAt {t : TypeId} {fs : Array Field} {fuel : Nat} {cs : List Value} {x : DataW H × List MemPlace} (ht : P.underlying t = some (.struct fs)) (h : DataW.trod enc P w 0 (fun _ => true) true fuel t cs = some x) (i : Nat) (f : Field) (hf : fs[i]? = some f) :
    ∃ y n, DataW.trod enc P w 0 (fun _ => true) true n f.type ((cs.drop f.offset).take (P.cellsOf f.type)) = some y ∧ ∀ k ∈ y.1.weights P f.type, k ∈ x.1.weights P t := by
  obtain ⟨xs, n, _, rfl, _, hl, hx⟩ := DataW.trod_struct ht h
  have hi : i < xs.length := by rw [hl]; exact (Array.getElem?_eq_some_iff.1 hf).1
  have hy : xs[i]? = some xs[i] := List.getElem?_eq_getElem hi
  refine ⟨xs[i], n, (hx i f hf).trans hy, fun k hk => ?_⟩
  simp only [DataW.weights, ht]
  refine DataW.weights_mem_each (j := i) (t := f.type) (d := xs[i].1) ?_ ?_ k hk
  · simp [hf]
  · simp [hy]


end


section
variable {H : Type} {enc : TypeId × Value → H} {w : World}

set_option maxRecDepth 100000 in
theorem req_open {n : Nat} {cs : List Value} {x : DataW H × List MemPlace} (h : DataW.trod enc Try.prog w 0 (fun _ => true) true n 25 cs = some x) (_hw : ∀ k ∈ x.1.weights Try.prog 25, k ≤ reachBytes) : ∃ r : Req, cs = r.cells ∧ r.wf := by
  have hl := lenOf Try.underlying25 h
  rw [Try.cells25] at hl
  have hd : cs.drop 7 = [] := List.drop_of_length_le (by omega)
  obtain ⟨y0, n0, g0, u0⟩ := fieldAt Try.underlying25 h 0 _ rfl
  replace g0 : DataW.trod enc Try.prog w 0 (fun _ => true) true n0 5 ((cs.drop 0).take (Try.prog.cellsOf 5)) = some y0 := g0
  rw [Try.cells5] at g0
  obtain ⟨a0, e0, _, w0⟩ := DataW.trod_int Try.underlying5 g0
  have v0 := wf_u8 w0
  obtain ⟨y1, n1, g1, u1⟩ := fieldAt Try.underlying25 h 1 _ rfl
  replace g1 : DataW.trod enc Try.prog w 0 (fun _ => true) true n1 22 ((cs.drop 1).take (Try.prog.cellsOf 22)) = some y1 := g1
  rw [Try.cells22] at g1
  obtain ⟨a1, e1, _, w1⟩ := DataW.trod_int Try.underlying22 g1
  have v1 := wf_u32 w1
  obtain ⟨y2, n2, g2, u2⟩ := fieldAt Try.underlying25 h 2 _ rfl
  replace g2 : DataW.trod enc Try.prog w 0 (fun _ => true) true n2 5 ((cs.drop 2).take (Try.prog.cellsOf 5)) = some y2 := g2
  rw [Try.cells5] at g2
  obtain ⟨a2, e2, _, w2⟩ := DataW.trod_int Try.underlying5 g2
  have v2 := wf_u8 w2
  obtain ⟨y3, n3, g3, u3⟩ := fieldAt Try.underlying25 h 3 _ rfl
  replace g3 : DataW.trod enc Try.prog w 0 (fun _ => true) true n3 23 ((cs.drop 3).take (Try.prog.cellsOf 23)) = some y3 := g3
  rw [Try.cells23] at g3
  obtain ⟨a3, e3, _, w3⟩ := DataW.trod_int Try.underlying23 g3
  have v3 := wf_u64 w3
  obtain ⟨y4, n4, g4, u4⟩ := fieldAt Try.underlying25 h 4 _ rfl
  replace g4 : DataW.trod enc Try.prog w 0 (fun _ => true) true n4 23 ((cs.drop 4).take (Try.prog.cellsOf 23)) = some y4 := g4
  rw [Try.cells23] at g4
  obtain ⟨a4, e4, _, w4⟩ := DataW.trod_int Try.underlying23 g4
  have v4 := wf_u64 w4
  obtain ⟨y5, n5, g5, u5⟩ := fieldAt Try.underlying25 h 5 _ rfl
  replace g5 : DataW.trod enc Try.prog w 0 (fun _ => true) true n5 23 ((cs.drop 5).take (Try.prog.cellsOf 23)) = some y5 := g5
  rw [Try.cells23] at g5
  obtain ⟨a5, e5, _, w5⟩ := DataW.trod_int Try.underlying23 g5
  have v5 := wf_u64 w5
  obtain ⟨y6, n6, g6, u6⟩ := fieldAt Try.underlying25 h 6 _ rfl
  replace g6 : DataW.trod enc Try.prog w 0 (fun _ => true) true n6 5 ((cs.drop 6).take (Try.prog.cellsOf 5)) = some y6 := g6
  rw [Try.cells5] at g6
  obtain ⟨a6, e6, _, w6⟩ := DataW.trod_int Try.underlying5 g6
  have v6 := wf_u8 w6
  have hcs : cs = [.int .u8 a0, .int .u32 a1, .int .u8 a2, .int .u64 a3, .int .u64 a4, .int .u64 a5, .int .u8 a6] := by
    show cs.drop 0 = _
    rw [seg cs 0 1 1 rfl, e0, seg cs 1 1 2 rfl, e1, seg cs 2 1 3 rfl, e2, seg cs 3 1 4 rfl, e3, seg cs 4 1 5 rfl, e4, seg cs 5 1 6 rfl, e5, seg cs 6 1 7 rfl, e6, hd]
    rfl
  exact ⟨⟨a0, a1, a2, a3, a4, a5, a6⟩, hcs, ⟨v0, v1, v2, v3, v4, v5, v6⟩⟩

set_option maxRecDepth 100000 in
theorem bal_open {n : Nat} {cs : List Value} {x : DataW H × List MemPlace} (h : DataW.trod enc Try.prog w 0 (fun _ => true) true n 29 cs = some x) (_hw : ∀ k ∈ x.1.weights Try.prog 29, k ≤ reachBytes) : ∃ r : Int × Int, cs = [.int .u32 r.1, .int .u8 r.2] ∧ U32 r.1 ∧ U8 r.2 := by
  have hl := lenOf Try.underlying29 h
  rw [Try.cells29] at hl
  have hd : cs.drop 2 = [] := List.drop_of_length_le (by omega)
  obtain ⟨y0, n0, g0, u0⟩ := fieldAt Try.underlying29 h 0 _ rfl
  replace g0 : DataW.trod enc Try.prog w 0 (fun _ => true) true n0 22 ((cs.drop 0).take (Try.prog.cellsOf 22)) = some y0 := g0
  rw [Try.cells22] at g0
  obtain ⟨a0, e0, _, w0⟩ := DataW.trod_int Try.underlying22 g0
  have v0 := wf_u32 w0
  obtain ⟨y1, n1, g1, u1⟩ := fieldAt Try.underlying29 h 1 _ rfl
  replace g1 : DataW.trod enc Try.prog w 0 (fun _ => true) true n1 5 ((cs.drop 1).take (Try.prog.cellsOf 5)) = some y1 := g1
  rw [Try.cells5] at g1
  obtain ⟨a1, e1, _, w1⟩ := DataW.trod_int Try.underlying5 g1
  have v1 := wf_u8 w1
  have hcs : cs = [.int .u32 a0, .int .u8 a1] := by
    show cs.drop 0 = _
    rw [seg cs 0 1 1 rfl, e0, seg cs 1 1 2 rfl, e1, hd]
    rfl
  exact ⟨(a0, a1), hcs, v0, v1⟩


end

end Go.Proofs.Ytignemioillaiaa
