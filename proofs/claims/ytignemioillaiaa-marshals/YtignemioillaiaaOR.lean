/- A message as an argument, opened: its fields, its lists in memory. Marshals, as the row says it: for every message, right or not, the law answers true, and the message reads behind the call as it read before. No condition. -/
import Derived.Test.YtignemioillaiaaR
import Derived.Test.YtignemioillaiaaO4
import Derived.SizedLaws
namespace Go.Proofs.Ytignemioillaiaa
open Go.ChangeShapes Go.WideShapes Go.ChangeAt Go.RowKit

theorem seg (l : List Value) (a n b : Nat) (h : a + n = b) : l.drop a = (l.drop a).take n ++ l.drop b := by
  subst h
  rw [← List.drop_drop]
  exact (List.take_append_drop n (l.drop a)).symm

instance : Inhabited Row := ⟨⟨0, 0⟩⟩
instance : Inhabited Rep := ⟨⟨0, 0, 0, 0, false, 0, 0⟩⟩
instance : Inhabited Vot := ⟨⟨0, 0, 0, ⟨0, ⟨0, 0, 0, 0, 0, 0, 0⟩, ⟨0, 0, 0, 0, 0, ⟨none, 0, 0⟩, ⟨none, 0, 0⟩, [], []⟩, 0, 0⟩⟩⟩

theorem Try.cells22 : Try.prog.cellsOf 22 = 1 := by kernel_rfl
theorem Try.cells4 : Try.prog.cellsOf 4 = 1 := by kernel_rfl
theorem Try.cells25 : Try.prog.cellsOf 25 = 7 := by kernel_rfl
theorem Try.cells27 : Try.prog.cellsOf 27 = 7 := by kernel_rfl
theorem Try.cells82 : Try.prog.cellsOf 82 = 2 := by kernel_rfl
theorem Try.cells33 : Try.prog.cellsOf 33 = 7 := by kernel_rfl
theorem Try.cells35 : Try.prog.cellsOf 35 = 17 := by kernel_rfl
theorem Try.cells29 : Try.prog.cellsOf 29 = 2 := by kernel_rfl
theorem Try.cells84 : Try.prog.cellsOf 84 = 20 := by kernel_rfl
theorem Try.cells38 : Try.prog.cellsOf 38 = 45 := by kernel_rfl
theorem Try.cells30 : Try.prog.cellsOf 30 = 1 := by kernel_rfl
theorem Try.cells31 : Try.prog.cellsOf 31 = 1 := by kernel_rfl
theorem Try.cells36 : Try.prog.cellsOf 36 = 1 := by kernel_rfl
theorem Try.bytes82 : Try.prog.bytesOf 82 = 16 := by kernel_rfl
theorem Try.bytes27 : Try.prog.bytesOf 27 = 40 := by kernel_rfl
theorem Try.bytes84 : Try.prog.bytesOf 84 = 152 := by kernel_rfl

section
variable {H : Type} {enc : TypeId × Value → H} {P : Program} {w : World}

theorem lenOf {t : TypeId} {fs : Array Field} {fuel : Nat} {cs : List Value} {x : DataW H × List MemPlace} (ht : P.underlying t = some (.struct fs)) (h : DataW.trod enc P w 0 (fun _ => true) true fuel t cs = some x) : cs.length = P.cellsOf t := by
  obtain ⟨xs, n, _, _, hl, _, _⟩ := DataW.trod_struct ht h
  exact hl

theorem fieldAt {t : TypeId} {fs : Array Field} {fuel : Nat} {cs : List Value} {x : DataW H × List MemPlace} (ht : P.underlying t = some (.struct fs)) (h : DataW.trod enc P w 0 (fun _ => true) true fuel t cs = some x) (i : Nat) (f : Field) (hf : fs[i]? = some f) :
    ∃ y n, DataW.trod enc P w 0 (fun _ => true) true n f.type ((cs.drop f.offset).take (P.cellsOf f.type)) = some y ∧ ∀ k ∈ y.1.weights P f.type, k ∈ x.1.weights P t := by
  obtain ⟨xs, n, _, rfl, _, hl, hx⟩ := DataW.trod_struct ht h
  have hi : i < xs.length := by rw [hl]; exact (Array.getElem?_eq_some_iff.1 hf).1
  have hy : xs[i]? = some xs[i] := List.getElem?_eq_getElem hi
  refine ⟨xs[i], n, (hx i f hf).trans hy, fun k hk => ?_⟩
  simp only [DataW.weights, ht]
  refine DataW.weights_mem_each (j := i) (t := f.type) (d := xs[i].1) ?_ ?_ k hk
  · simp [hf]
  · simp [hy]

theorem weightsAll_mem {e : TypeId} {l : List (DataW H)} {d : DataW H} (hd : d ∈ l) : ∀ k ∈ d.weights P e, k ∈ DataW.weightsAll P e l := by
  induction l with
  | nil => simp at hd
  | cons a r ih =>
    intro k hk
    simp only [DataW.weightsAll, List.mem_append]
    rcases List.mem_cons.1 hd with rfl | hd
    · exact .inl hk
    · exact .inr (ih hd k hk)

theorem open_slinW {α : Type} [Inhabited α] {t e : TypeId} {size bytes fuel : Nat} {cs : List Value} {x : DataW H × List MemPlace} (f : α → List Value) (wf : α → Prop) (ht : P.underlying t = some (.slice e)) (hc : P.cellsOf e = size) (hpos : 0 < size) (hby : P.bytesOf e = bytes)
    (hel : ∀ n cs x, DataW.trod enc P w 0 (fun _ => true) true n e cs = some x → (∀ k ∈ x.1.weights P e, k ≤ reachBytes) → ∃ a, cs = f a ∧ wf a) (h : DataW.trod enc P w 0 (fun _ => true) true fuel t cs = some x) (hw : ∀ k ∈ x.1.weights P t, k ≤ reachBytes) :
    ∃ (a : Option Addr) (len cap : Nat) (xs : List α), cs = [.slice a len cap] ∧ SlIn w.heap.size w ⟨a, len, cap⟩ size (xs.map f) ∧ (a = none → cap = 0) ∧ len * bytes ≤ 140737488355328 ∧ ∀ (i : Nat) (x : α), xs[i]? = some x → wf x := by
  rcases Go.Deep.open_slice ht h with ⟨h1, _⟩ | ⟨a, len, cap, m, n, D, Pl, h1, _, hl, hm, hmm, hx0, hx⟩
  · subst h1
    exact ⟨none, 0, 0, [], rfl, ⟨rfl, Nat.le_refl _, Nat.zero_le _, fun h => absurd h (Nat.lt_irrefl 0)⟩, fun _ => rfl, by omega, by simp⟩
  · subst h1
    have hmc : m = cap := by simpa using hmm
    subst hmc
    subst hx0
    simp only [DataW.weights, ht] at hw
    have hbb : len * bytes ≤ 140737488355328 := by
      have h2 := hw _ (List.mem_cons_self ..)
      have h3 := reachBytes_lt
      rw [hby] at h2
      simp only [List.length_map, List.length_range] at h2
      have h4 : len * bytes ≤ (len + (m - len)) * bytes := Nat.mul_le_mul_right _ (by omega)
      omega
    have hex : ∀ i, i < len → ∃ y : α, wf y ∧ w.cells? 0 (a.add (i * size)) size = some (f y) := fun i hi => by
      obtain ⟨cs, h2, h3⟩ := hx i (by omega)
      obtain ⟨y, rfl, hy⟩ := hel _ _ _ h3 (fun k hk => hw k (List.mem_cons_of_mem _ (List.mem_append_left _ (weightsAll_mem (List.mem_map.2 ⟨i, List.mem_range.2 hi, rfl⟩) k hk))))
      rw [hc] at h2
      exact ⟨y, hy, h2⟩
    obtain ⟨g, hg⟩ := Go.Deep.choose_lt hex
    refine ⟨some a, len, m, (List.range len).map g, rfl, ⟨by simp, hl, hm, fun h0 => ?_⟩, (by intro h; cases h), hbb, fun i x hi => ?_⟩
    · have hlen0 : 0 < len := h0
      have hsp : a.spot = none := by
        obtain ⟨_, h5, h6⟩ := World.cells?_some (hg 0 hlen0).2
        have h7 := h6 0 hpos
        have h8 : a.add (0 * size) = a := by unfold Addr.add; simp
        have h9 : a.add 0 = a := by unfold Addr.add; simp
        rw [h8, h9] at h7
        have : ∃ u, (f (g 0))[0]? = some u := ⟨(f (g 0))[0]'(by omega), by simp⟩
        obtain ⟨u, hu⟩ := this
        rw [hu] at h7
        exact spot_none h7
      refine ⟨a.block, a.off, by cases a; simp only at hsp; rw [hsp], ?_, fun i y hy j u hu => ?_⟩
      · have := World.cells?_block (hg 0 hlen0).2 hpos
        have h8 : a.add (0 * size) = a := by unfold Addr.add; simp
        rw [h8] at this; exact this
      · simp only [List.map_map] at hy
        obtain ⟨hi, he⟩ := List.getElem?_eq_some_iff.1 hy
        have hi' : i < len := by simpa using hi
        simp at he
        subst he
        obtain ⟨_, h5, h6⟩ := World.cells?_some (hg i hi').2
        have hj := (List.getElem?_eq_some_iff.1 hu).1
        have h7 := h6 j (by omega)
        rw [hu, spot_add hsp] at h7
        unfold Addr.add at h7
        split at h7
        · subst j; exact h7
        · exact h7
    · obtain ⟨hi', he⟩ := List.getElem?_eq_some_iff.1 hi
      have hl' : i < len := by simpa using hi'
      simp at he
      subst he
      exact (hg i hl').1
end

section
variable {H : Type} {enc : TypeId × Value → H} {w : World}
set_option maxRecDepth 100000 in
theorem row_open {n : Nat} {cs : List Value} {x : DataW H × List MemPlace} (h : DataW.trod enc Try.prog w 0 (fun _ => true) true n 82 cs = some x) (_hw : ∀ k ∈ x.1.weights Try.prog 82, k ≤ reachBytes) : ∃ r : Row, cs = r.cells ∧ r.wf := by
  have hl := lenOf Try.underlying82 h
  rw [Try.cells82] at hl
  have hd : cs.drop 2 = [] := List.drop_of_length_le (by omega)
  obtain ⟨y0, n0, g0, u0⟩ := fieldAt Try.underlying82 h 0 _ rfl
  replace g0 : DataW.trod enc Try.prog w 0 (fun _ => true) true n0 23 ((cs.drop 0).take (Try.prog.cellsOf 23)) = some y0 := g0
  rw [Try.cells23] at g0
  obtain ⟨a0, e0, _, w0⟩ := DataW.trod_int Try.underlying23 g0
  have v0 := wf_u64 w0
  obtain ⟨y1, n1, g1, u1⟩ := fieldAt Try.underlying82 h 1 _ rfl
  replace g1 : DataW.trod enc Try.prog w 0 (fun _ => true) true n1 23 ((cs.drop 1).take (Try.prog.cellsOf 23)) = some y1 := g1
  rw [Try.cells23] at g1
  obtain ⟨a1, e1, _, w1⟩ := DataW.trod_int Try.underlying23 g1
  have v1 := wf_u64 w1
  have hcs : cs = [.int .u64 a0, .int .u64 a1] := by
    show cs.drop 0 = _
    rw [seg cs 0 1 1 rfl, e0, seg cs 1 1 2 rfl, e1, hd]
    rfl
  exact ⟨⟨a0, a1⟩, hcs, ⟨v0, v1⟩⟩

set_option maxRecDepth 100000 in
theorem req_open {n : Nat} {cs : List Value} {x : DataW H × List MemPlace} (h : DataW.trod enc Try.prog w 0 (fun _ => true) true n 25 cs = some x) (_hw : ∀ k ∈ x.1.weights Try.prog 25, k ≤ reachBytes) : ∃ r : Req, cs = r.cells ∧ r.wf := by
  have hl := lenOf Try.underlying25 h
  rw [Try.cells25] at hl
  have hd : cs.drop 7 = [] := List.drop_of_length_le (by omega)
  obtain ⟨y0, n0, g0, u0⟩ := fieldAt Try.underlying25 h 0 _ rfl
  replace g0 : DataW.trod enc Try.prog w 0 (fun _ => true) true n0 5 ((cs.drop 0).take (Try.prog.cellsOf 5)) = some y0 := g0
  rw [Try.cells5] at g0
  obtain ⟨a0, e0, _, w0⟩ := DataW.trod_int Try.underlying5 g0
  have v0 := wf_u8 w0
  obtain ⟨y1, n1, g1, u1⟩ := fieldAt Try.underlying25 h 1 _ rfl
  replace g1 : DataW.trod enc Try.prog w 0 (fun _ => true) true n1 22 ((cs.drop 1).take (Try.prog.cellsOf 22)) = some y1 := g1
  rw [Try.cells22] at g1
  obtain ⟨a1, e1, _, w1⟩ := DataW.trod_int Try.underlying22 g1
  have v1 := wf_u32 w1
  obtain ⟨y2, n2, g2, u2⟩ := fieldAt Try.underlying25 h 2 _ rfl
  replace g2 : DataW.trod enc Try.prog w 0 (fun _ => true) true n2 5 ((cs.drop 2).take (Try.prog.cellsOf 5)) = some y2 := g2
  rw [Try.cells5] at g2
  obtain ⟨a2, e2, _, w2⟩ := DataW.trod_int Try.underlying5 g2
  have v2 := wf_u8 w2
  obtain ⟨y3, n3, g3, u3⟩ := fieldAt Try.underlying25 h 3 _ rfl
  replace g3 : DataW.trod enc Try.prog w 0 (fun _ => true) true n3 23 ((cs.drop 3).take (Try.prog.cellsOf 23)) = some y3 := g3
  rw [Try.cells23] at g3
  obtain ⟨a3, e3, _, w3⟩ := DataW.trod_int Try.underlying23 g3
  have v3 := wf_u64 w3
  obtain ⟨y4, n4, g4, u4⟩ := fieldAt Try.underlying25 h 4 _ rfl
  replace g4 : DataW.trod enc Try.prog w 0 (fun _ => true) true n4 23 ((cs.drop 4).take (Try.prog.cellsOf 23)) = some y4 := g4
  rw [Try.cells23] at g4
  obtain ⟨a4, e4, _, w4⟩ := DataW.trod_int Try.underlying23 g4
  have v4 := wf_u64 w4
  obtain ⟨y5, n5, g5, u5⟩ := fieldAt Try.underlying25 h 5 _ rfl
  replace g5 : DataW.trod enc Try.prog w 0 (fun _ => true) true n5 23 ((cs.drop 5).take (Try.prog.cellsOf 23)) = some y5 := g5
  rw [Try.cells23] at g5
  obtain ⟨a5, e5, _, w5⟩ := DataW.trod_int Try.underlying23 g5
  have v5 := wf_u64 w5
  obtain ⟨y6, n6, g6, u6⟩ := fieldAt Try.underlying25 h 6 _ rfl
  replace g6 : DataW.trod enc Try.prog w 0 (fun _ => true) true n6 5 ((cs.drop 6).take (Try.prog.cellsOf 5)) = some y6 := g6
  rw [Try.cells5] at g6
  obtain ⟨a6, e6, _, w6⟩ := DataW.trod_int Try.underlying5 g6
  have v6 := wf_u8 w6
  have hcs : cs = [.int .u8 a0, .int .u32 a1, .int .u8 a2, .int .u64 a3, .int .u64 a4, .int .u64 a5, .int .u8 a6] := by
    show cs.drop 0 = _
    rw [seg cs 0 1 1 rfl, e0, seg cs 1 1 2 rfl, e1, seg cs 2 1 3 rfl, e2, seg cs 3 1 4 rfl, e3, seg cs 4 1 5 rfl, e4, seg cs 5 1 6 rfl, e5, seg cs 6 1 7 rfl, e6, hd]
    rfl
  exact ⟨⟨a0, a1, a2, a3, a4, a5, a6⟩, hcs, ⟨v0, v1, v2, v3, v4, v5, v6⟩⟩

set_option maxRecDepth 100000 in
theorem rep_open {n : Nat} {cs : List Value} {x : DataW H × List MemPlace} (h : DataW.trod enc Try.prog w 0 (fun _ => true) true n 27 cs = some x) (_hw : ∀ k ∈ x.1.weights Try.prog 27, k ≤ reachBytes) : ∃ r : Rep, cs = r.cells ∧ r.wf := by
  have hl := lenOf Try.underlying27 h
  rw [Try.cells27] at hl
  have hd : cs.drop 7 = [] := List.drop_of_length_le (by omega)
  obtain ⟨y0, n0, g0, u0⟩ := fieldAt Try.underlying27 h 0 _ rfl
  replace g0 : DataW.trod enc Try.prog w 0 (fun _ => true) true n0 5 ((cs.drop 0).take (Try.prog.cellsOf 5)) = some y0 := g0
  rw [Try.cells5] at g0
  obtain ⟨a0, e0, _, w0⟩ := DataW.trod_int Try.underlying5 g0
  have v0 := wf_u8 w0
  obtain ⟨y1, n1, g1, u1⟩ := fieldAt Try.underlying27 h 1 _ rfl
  replace g1 : DataW.trod enc Try.prog w 0 (fun _ => true) true n1 22 ((cs.drop 1).take (Try.prog.cellsOf 22)) = some y1 := g1
  rw [Try.cells22] at g1
  obtain ⟨a1, e1, _, w1⟩ := DataW.trod_int Try.underlying22 g1
  have v1 := wf_u32 w1
  obtain ⟨y2, n2, g2, u2⟩ := fieldAt Try.underlying27 h 2 _ rfl
  replace g2 : DataW.trod enc Try.prog w 0 (fun _ => true) true n2 23 ((cs.drop 2).take (Try.prog.cellsOf 23)) = some y2 := g2
  rw [Try.cells23] at g2
  obtain ⟨a2, e2, _, w2⟩ := DataW.trod_int Try.underlying23 g2
  have v2 := wf_u64 w2
  obtain ⟨y3, n3, g3, u3⟩ := fieldAt Try.underlying27 h 3 _ rfl
  replace g3 : DataW.trod enc Try.prog w 0 (fun _ => true) true n3 5 ((cs.drop 3).take (Try.prog.cellsOf 5)) = some y3 := g3
  rw [Try.cells5] at g3
  obtain ⟨a3, e3, _, w3⟩ := DataW.trod_int Try.underlying5 g3
  have v3 := wf_u8 w3
  obtain ⟨y4, n4, g4, u4⟩ := fieldAt Try.underlying27 h 4 _ rfl
  replace g4 : DataW.trod enc Try.prog w 0 (fun _ => true) true n4 4 ((cs.drop 4).take (Try.prog.cellsOf 4)) = some y4 := g4
  rw [Try.cells4] at g4
  obtain ⟨a4, e4, _⟩ := DataW.trod_bool Try.underlying4 g4
  obtain ⟨y5, n5, g5, u5⟩ := fieldAt Try.underlying27 h 5 _ rfl
  replace g5 : DataW.trod enc Try.prog w 0 (fun _ => true) true n5 23 ((cs.drop 5).take (Try.prog.cellsOf 23)) = some y5 := g5
  rw [Try.cells23] at g5
  obtain ⟨a5, e5, _, w5⟩ := DataW.trod_int Try.underlying23 g5
  have v5 := wf_u64 w5
  obtain ⟨y6, n6, g6, u6⟩ := fieldAt Try.underlying27 h 6 _ rfl
  replace g6 : DataW.trod enc Try.prog w 0 (fun _ => true) true n6 5 ((cs.drop 6).take (Try.prog.cellsOf 5)) = some y6 := g6
  rw [Try.cells5] at g6
  obtain ⟨a6, e6, _, w6⟩ := DataW.trod_int Try.underlying5 g6
  have v6 := wf_u8 w6
  have hcs : cs = [.int .u8 a0, .int .u32 a1, .int .u64 a2, .int .u8 a3, .bool a4, .int .u64 a5, .int .u8 a6] := by
    show cs.drop 0 = _
    rw [seg cs 0 1 1 rfl, e0, seg cs 1 1 2 rfl, e1, seg cs 2 1 3 rfl, e2, seg cs 3 1 4 rfl, e3, seg cs 4 1 5 rfl, e4, seg cs 5 1 6 rfl, e5, seg cs 6 1 7 rfl, e6, hd]
    rfl
  exact ⟨⟨a0, a1, a2, a3, a4, a5, a6⟩, hcs, ⟨v0, v1, v2, v3, v5, v6⟩⟩

set_option maxRecDepth 100000 in
theorem bal_open {n : Nat} {cs : List Value} {x : DataW H × List MemPlace} (h : DataW.trod enc Try.prog w 0 (fun _ => true) true n 29 cs = some x) (_hw : ∀ k ∈ x.1.weights Try.prog 29, k ≤ reachBytes) : ∃ r : Int × Int, cs = [.int .u32 r.1, .int .u8 r.2] ∧ U32 r.1 ∧ U8 r.2 := by
  have hl := lenOf Try.underlying29 h
  rw [Try.cells29] at hl
  have hd : cs.drop 2 = [] := List.drop_of_length_le (by omega)
  obtain ⟨y0, n0, g0, u0⟩ := fieldAt Try.underlying29 h 0 _ rfl
  replace g0 : DataW.trod enc Try.prog w 0 (fun _ => true) true n0 22 ((cs.drop 0).take (Try.prog.cellsOf 22)) = some y0 := g0
  rw [Try.cells22] at g0
  obtain ⟨a0, e0, _, w0⟩ := DataW.trod_int Try.underlying22 g0
  have v0 := wf_u32 w0
  obtain ⟨y1, n1, g1, u1⟩ := fieldAt Try.underlying29 h 1 _ rfl
  replace g1 : DataW.trod enc Try.prog w 0 (fun _ => true) true n1 5 ((cs.drop 1).take (Try.prog.cellsOf 5)) = some y1 := g1
  rw [Try.cells5] at g1
  obtain ⟨a1, e1, _, w1⟩ := DataW.trod_int Try.underlying5 g1
  have v1 := wf_u8 w1
  have hcs : cs = [.int .u32 a0, .int .u8 a1] := by
    show cs.drop 0 = _
    rw [seg cs 0 1 1 rfl, e0, seg cs 1 1 2 rfl, e1, hd]
    rfl
  exact ⟨(a0, a1), hcs, v0, v1⟩

set_option maxRecDepth 100000 in
theorem rng_open {n : Nat} {cs : List Value} {x : DataW H × List MemPlace} (h : DataW.trod enc Try.prog w 0 (fun _ => true) true n 33 cs = some x) (hw : ∀ k ∈ x.1.weights Try.prog 33, k ≤ reachBytes) : ∃ r : Rng, cs = r.cells ∧ r.wf ∧ r.In w.heap.size w ∧ r.room := by
  have hl := lenOf Try.underlying33 h
  rw [Try.cells33] at hl
  have hd : cs.drop 7 = [] := List.drop_of_length_le (by omega)
  obtain ⟨y0, n0, g0, u0⟩ := fieldAt Try.underlying33 h 0 _ rfl
  replace g0 : DataW.trod enc Try.prog w 0 (fun _ => true) true n0 5 ((cs.drop 0).take (Try.prog.cellsOf 5)) = some y0 := g0
  rw [Try.cells5] at g0
  obtain ⟨a0, e0, _, w0⟩ := DataW.trod_int Try.underlying5 g0
  have v0 := wf_u8 w0
  obtain ⟨y1, n1, g1, u1⟩ := fieldAt Try.underlying33 h 1 _ rfl
  replace g1 : DataW.trod enc Try.prog w 0 (fun _ => true) true n1 5 ((cs.drop 1).take (Try.prog.cellsOf 5)) = some y1 := g1
  rw [Try.cells5] at g1
  obtain ⟨a1, e1, _, w1⟩ := DataW.trod_int Try.underlying5 g1
  have v1 := wf_u8 w1
  obtain ⟨y2, n2, g2, u2⟩ := fieldAt Try.underlying33 h 2 _ rfl
  replace g2 : DataW.trod enc Try.prog w 0 (fun _ => true) true n2 22 ((cs.drop 2).take (Try.prog.cellsOf 22)) = some y2 := g2
  rw [Try.cells22] at g2
  obtain ⟨a2, e2, _, w2⟩ := DataW.trod_int Try.underlying22 g2
  have v2 := wf_u32 w2
  obtain ⟨y3, n3, g3, u3⟩ := fieldAt Try.underlying33 h 3 _ rfl
  replace g3 : DataW.trod enc Try.prog w 0 (fun _ => true) true n3 23 ((cs.drop 3).take (Try.prog.cellsOf 23)) = some y3 := g3
  rw [Try.cells23] at g3
  obtain ⟨a3, e3, _, w3⟩ := DataW.trod_int Try.underlying23 g3
  have v3 := wf_u64 w3
  obtain ⟨y4, n4, g4, u4⟩ := fieldAt Try.underlying33 h 4 _ rfl
  replace g4 : DataW.trod enc Try.prog w 0 (fun _ => true) true n4 23 ((cs.drop 4).take (Try.prog.cellsOf 23)) = some y4 := g4
  rw [Try.cells23] at g4
  obtain ⟨a4, e4, _, w4⟩ := DataW.trod_int Try.underlying23 g4
  have v4 := wf_u64 w4
  obtain ⟨y5, n5, g5, u5⟩ := fieldAt Try.underlying33 h 5 _ rfl
  replace g5 : DataW.trod enc Try.prog w 0 (fun _ => true) true n5 30 ((cs.drop 5).take (Try.prog.cellsOf 30)) = some y5 := g5
  rw [Try.cells30] at g5
  obtain ⟨s5a, s5n, s5c, l5, e5, in5, nil5, by5, wf5⟩ := open_slinW Row.cells Row.wf Try.underlying30 Try.cells82 (by decide) Try.bytes82 (fun n cs x h hw => row_open h hw) g5 (fun k hk => hw k (u5 k hk))
  obtain ⟨y6, n6, g6, u6⟩ := fieldAt Try.underlying33 h 6 _ rfl
  replace g6 : DataW.trod enc Try.prog w 0 (fun _ => true) true n6 31 ((cs.drop 6).take (Try.prog.cellsOf 31)) = some y6 := g6
  rw [Try.cells31] at g6
  obtain ⟨s6a, s6n, s6c, l6, e6, in6, nil6, by6, wf6⟩ := open_slinW Rep.cells Rep.wf Try.underlying31 Try.cells27 (by decide) Try.bytes27 (fun n cs x h hw => rep_open h hw) g6 (fun k hk => hw k (u6 k hk))
  have hcs : cs = [.int .u8 a0, .int .u8 a1, .int .u32 a2, .int .u64 a3, .int .u64 a4, .slice s5a s5n s5c, .slice s6a s6n s6c] := by
    show cs.drop 0 = _
    rw [seg cs 0 1 1 rfl, e0, seg cs 1 1 2 rfl, e1, seg cs 2 1 3 rfl, e2, seg cs 3 1 4 rfl, e3, seg cs 4 1 5 rfl, e4, seg cs 5 1 6 rfl, e5, seg cs 6 1 7 rfl, e6, hd]
    rfl
  exact ⟨⟨a0, a1, a2, a3, a4, ⟨s5a, s5n, s5c⟩, ⟨s6a, s6n, s6c⟩, l5, l6⟩, hcs, ⟨v0, v1, v2, v3, v4, wf5, wf6⟩, ⟨in5, in6⟩, nil5, nil6, by5, by6⟩

set_option maxRecDepth 100000 in
theorem cmd_open {n : Nat} {cs : List Value} {x : DataW H × List MemPlace} (h : DataW.trod enc Try.prog w 0 (fun _ => true) true n 35 cs = some x) (hw : ∀ k ∈ x.1.weights Try.prog 35, k ≤ reachBytes) : ∃ c : Cmd, cs = c.cells ∧ c.wf ∧ c.rng.In w.heap.size w ∧ c.rng.room := by
  have hl := lenOf Try.underlying35 h
  rw [Try.cells35] at hl
  have hd : cs.drop 17 = [] := List.drop_of_length_le (by omega)
  obtain ⟨y0, n0, g0, u0⟩ := fieldAt Try.underlying35 h 0 _ rfl
  replace g0 : DataW.trod enc Try.prog w 0 (fun _ => true) true n0 5 ((cs.drop 0).take (Try.prog.cellsOf 5)) = some y0 := g0
  rw [Try.cells5] at g0
  obtain ⟨a0, e0, _, w0⟩ := DataW.trod_int Try.underlying5 g0
  have v0 := wf_u8 w0
  obtain ⟨y1, n1, g1, u1⟩ := fieldAt Try.underlying35 h 1 _ rfl
  replace g1 : DataW.trod enc Try.prog w 0 (fun _ => true) true n1 25 ((cs.drop 1).take (Try.prog.cellsOf 25)) = some y1 := g1
  rw [Try.cells25] at g1
  obtain ⟨a1, e1, v1⟩ := req_open g1 (fun k hk => hw k (u1 k hk))
  obtain ⟨y2, n2, g2, u2⟩ := fieldAt Try.underlying35 h 2 _ rfl
  replace g2 : DataW.trod enc Try.prog w 0 (fun _ => true) true n2 33 ((cs.drop 8).take (Try.prog.cellsOf 33)) = some y2 := g2
  rw [Try.cells33] at g2
  obtain ⟨a2, e2, v2⟩ := rng_open g2 (fun k hk => hw k (u2 k hk))
  obtain ⟨y3, n3, g3, u3⟩ := fieldAt Try.underlying35 h 3 _ rfl
  replace g3 : DataW.trod enc Try.prog w 0 (fun _ => true) true n3 5 ((cs.drop 15).take (Try.prog.cellsOf 5)) = some y3 := g3
  rw [Try.cells5] at g3
  obtain ⟨a3, e3, _, w3⟩ := DataW.trod_int Try.underlying5 g3
  have v3 := wf_u8 w3
  obtain ⟨y4, n4, g4, u4⟩ := fieldAt Try.underlying35 h 4 _ rfl
  replace g4 : DataW.trod enc Try.prog w 0 (fun _ => true) true n4 22 ((cs.drop 16).take (Try.prog.cellsOf 22)) = some y4 := g4
  rw [Try.cells22] at g4
  obtain ⟨a4, e4, _, w4⟩ := DataW.trod_int Try.underlying22 g4
  have v4 := wf_u32 w4
  have hcs : cs = [.int .u8 a0] ++ (a1.cells ++ (a2.cells ++ ([.int .u8 a3] ++ ([.int .u32 a4] ++ [])))) := by
    show cs.drop 0 = _
    rw [seg cs 0 1 1 rfl, e0, seg cs 1 7 8 rfl, e1, seg cs 8 7 15 rfl, e2, seg cs 15 1 16 rfl, e3, seg cs 16 1 17 rfl, e4, hd]
  exact ⟨⟨a0, a1, a2, a3, a4⟩, by rw [hcs]; simp [Cmd.cells], ⟨v0, v1, v2.1, v3, v4⟩, v2.2.1, v2.2.2⟩

set_option maxRecDepth 100000 in
theorem vot_open {n : Nat} {cs : List Value} {x : DataW H × List MemPlace} (h : DataW.trod enc Try.prog w 0 (fun _ => true) true n 84 cs = some x) (hw : ∀ k ∈ x.1.weights Try.prog 84, k ≤ reachBytes) : ∃ v : Vot, cs = v.cells ∧ v.wf ∧ v.cmd.rng.In w.heap.size w ∧ v.cmd.rng.room := by
  have hl := lenOf Try.underlying84 h
  rw [Try.cells84] at hl
  have hd : cs.drop 20 = [] := List.drop_of_length_le (by omega)
  obtain ⟨y0, n0, g0, u0⟩ := fieldAt Try.underlying84 h 0 _ rfl
  replace g0 : DataW.trod enc Try.prog w 0 (fun _ => true) true n0 22 ((cs.drop 0).take (Try.prog.cellsOf 22)) = some y0 := g0
  rw [Try.cells22] at g0
  obtain ⟨a0, e0, _, w0⟩ := DataW.trod_int Try.underlying22 g0
  have v0 := wf_u32 w0
  obtain ⟨y1, n1, g1, u1⟩ := fieldAt Try.underlying84 h 1 _ rfl
  replace g1 : DataW.trod enc Try.prog w 0 (fun _ => true) true n1 29 ((cs.drop 1).take (Try.prog.cellsOf 29)) = some y1 := g1
  rw [Try.cells29] at g1
  obtain ⟨a1, e1, v1⟩ := bal_open g1 (fun k hk => hw k (u1 k hk))
  obtain ⟨y2, n2, g2, u2⟩ := fieldAt Try.underlying84 h 2 _ rfl
  replace g2 : DataW.trod enc Try.prog w 0 (fun _ => true) true n2 35 ((cs.drop 3).take (Try.prog.cellsOf 35)) = some y2 := g2
  rw [Try.cells35] at g2
  obtain ⟨a2, e2, v2⟩ := cmd_open g2 (fun k hk => hw k (u2 k hk))
  have hcs : cs = [.int .u32 a0] ++ ([.int .u32 a1.1, .int .u8 a1.2] ++ (a2.cells ++ [])) := by
    show cs.drop 0 = _
    rw [seg cs 0 1 1 rfl, e0, seg cs 1 2 3 rfl, e1, seg cs 3 17 20 rfl, e2, hd]
  exact ⟨⟨a0, a1.1, a1.2, a2⟩, by rw [hcs]; simp [Vot.cells], ⟨v0, v1.1, v1.2, v2.1⟩, v2.2.1, v2.2.2⟩

set_option maxRecDepth 100000 in
theorem msg_open {n : Nat} {cs : List Value} {x : DataW H × List MemPlace} (h : DataW.trod enc Try.prog w 0 (fun _ => true) true n 38 cs = some x) (hw : ∀ k ∈ x.1.weights Try.prog 38, k ≤ reachBytes) : ∃ m : Msg, cs = [.int .u8 m.kind] ++ (m.req.cells ++ (m.rep.cells ++ ([.int .u32 m.n, .int .u8 m.id] ++ ([.int .u32 m.slot] ++ (m.cmd.cells ++ ([m.vs.val] ++ (m.rng.cells ++ ([.int .u8 m.peer] ++ ([.int .u32 m.seq] ++ []))))))))) ∧ m.wf ∧ VotesIn w.heap.size w m.vs m.votes ∧ m.cmd.rng.In w.heap.size w ∧ m.rng.In w.heap.size w ∧ m.rng.room ∧ m.cmd.rng.room ∧ (∀ (i : Nat) (x : Vot), m.votes[i]? = some x → x.cmd.rng.room) ∧ m.vs.len * 152 ≤ 140737488355328 := by
  have hl := lenOf Try.underlying38 h
  rw [Try.cells38] at hl
  have hd : cs.drop 45 = [] := List.drop_of_length_le (by omega)
  obtain ⟨y0, n0, g0, u0⟩ := fieldAt Try.underlying38 h 0 _ rfl
  replace g0 : DataW.trod enc Try.prog w 0 (fun _ => true) true n0 5 ((cs.drop 0).take (Try.prog.cellsOf 5)) = some y0 := g0
  rw [Try.cells5] at g0
  obtain ⟨a0, e0, _, w0⟩ := DataW.trod_int Try.underlying5 g0
  have v0 := wf_u8 w0
  obtain ⟨y1, n1, g1, u1⟩ := fieldAt Try.underlying38 h 1 _ rfl
  replace g1 : DataW.trod enc Try.prog w 0 (fun _ => true) true n1 25 ((cs.drop 1).take (Try.prog.cellsOf 25)) = some y1 := g1
  rw [Try.cells25] at g1
  obtain ⟨a1, e1, v1⟩ := req_open g1 (fun k hk => hw k (u1 k hk))
  obtain ⟨y2, n2, g2, u2⟩ := fieldAt Try.underlying38 h 2 _ rfl
  replace g2 : DataW.trod enc Try.prog w 0 (fun _ => true) true n2 27 ((cs.drop 8).take (Try.prog.cellsOf 27)) = some y2 := g2
  rw [Try.cells27] at g2
  obtain ⟨a2, e2, v2⟩ := rep_open g2 (fun k hk => hw k (u2 k hk))
  obtain ⟨y3, n3, g3, u3⟩ := fieldAt Try.underlying38 h 3 _ rfl
  replace g3 : DataW.trod enc Try.prog w 0 (fun _ => true) true n3 29 ((cs.drop 15).take (Try.prog.cellsOf 29)) = some y3 := g3
  rw [Try.cells29] at g3
  obtain ⟨a3, e3, v3⟩ := bal_open g3 (fun k hk => hw k (u3 k hk))
  obtain ⟨y4, n4, g4, u4⟩ := fieldAt Try.underlying38 h 4 _ rfl
  replace g4 : DataW.trod enc Try.prog w 0 (fun _ => true) true n4 22 ((cs.drop 17).take (Try.prog.cellsOf 22)) = some y4 := g4
  rw [Try.cells22] at g4
  obtain ⟨a4, e4, _, w4⟩ := DataW.trod_int Try.underlying22 g4
  have v4 := wf_u32 w4
  obtain ⟨y5, n5, g5, u5⟩ := fieldAt Try.underlying38 h 5 _ rfl
  replace g5 : DataW.trod enc Try.prog w 0 (fun _ => true) true n5 35 ((cs.drop 18).take (Try.prog.cellsOf 35)) = some y5 := g5
  rw [Try.cells35] at g5
  obtain ⟨a5, e5, v5⟩ := cmd_open g5 (fun k hk => hw k (u5 k hk))
  obtain ⟨y6, n6, g6, u6⟩ := fieldAt Try.underlying38 h 6 _ rfl
  replace g6 : DataW.trod enc Try.prog w 0 (fun _ => true) true n6 36 ((cs.drop 35).take (Try.prog.cellsOf 36)) = some y6 := g6
  rw [Try.cells36] at g6
  obtain ⟨s6a, s6n, s6c, l6, e6, in6, nil6, by6, wf6⟩ := open_slinW Vot.cells (fun v => v.wf ∧ v.cmd.rng.In w.heap.size w ∧ v.cmd.rng.room) Try.underlying36 Try.cells84 (by decide) Try.bytes84 (fun n cs x h hw => vot_open h hw) g6 (fun k hk => hw k (u6 k hk))
  obtain ⟨y7, n7, g7, u7⟩ := fieldAt Try.underlying38 h 7 _ rfl
  replace g7 : DataW.trod enc Try.prog w 0 (fun _ => true) true n7 33 ((cs.drop 36).take (Try.prog.cellsOf 33)) = some y7 := g7
  rw [Try.cells33] at g7
  obtain ⟨a7, e7, v7⟩ := rng_open g7 (fun k hk => hw k (u7 k hk))
  obtain ⟨y8, n8, g8, u8⟩ := fieldAt Try.underlying38 h 8 _ rfl
  replace g8 : DataW.trod enc Try.prog w 0 (fun _ => true) true n8 5 ((cs.drop 43).take (Try.prog.cellsOf 5)) = some y8 := g8
  rw [Try.cells5] at g8
  obtain ⟨a8, e8, _, w8⟩ := DataW.trod_int Try.underlying5 g8
  have v8 := wf_u8 w8
  obtain ⟨y9, n9, g9, u9⟩ := fieldAt Try.underlying38 h 9 _ rfl
  replace g9 : DataW.trod enc Try.prog w 0 (fun _ => true) true n9 22 ((cs.drop 44).take (Try.prog.cellsOf 22)) = some y9 := g9
  rw [Try.cells22] at g9
  obtain ⟨a9, e9, _, w9⟩ := DataW.trod_int Try.underlying22 g9
  have v9 := wf_u32 w9
  have hcs : cs = [.int .u8 a0] ++ (a1.cells ++ (a2.cells ++ ([.int .u32 a3.1, .int .u8 a3.2] ++ ([.int .u32 a4] ++ (a5.cells ++ ([.slice s6a s6n s6c] ++ (a7.cells ++ ([.int .u8 a8] ++ ([.int .u32 a9] ++ []))))))))) := by
    show cs.drop 0 = _
    rw [seg cs 0 1 1 rfl, e0, seg cs 1 7 8 rfl, e1, seg cs 8 7 15 rfl, e2, seg cs 15 2 17 rfl, e3, seg cs 17 1 18 rfl, e4, seg cs 18 17 35 rfl, e5, seg cs 35 1 36 rfl, e6, seg cs 36 7 43 rfl, e7, seg cs 43 1 44 rfl, e8, seg cs 44 1 45 rfl, e9, hd]
  exact ⟨⟨a0, a1, a2, a3.1, a3.2, a4, a5, ⟨s6a, s6n, s6c⟩, a7, a8, a9, l6⟩, hcs, ⟨v0, v1, v2, v3.1, v3.2, v4, v5.1, fun i x hx => (wf6 i x hx).1, v7.1, v8, v9⟩, ⟨in6, fun i x hx => (wf6 i x hx).2.1⟩, v5.2.1, v7.2.1, v7.2.2, v5.2.2, fun i x hx => (wf6 i x hx).2.2, by6⟩

end

end Go.Proofs.Ytignemioillaiaa

namespace Go.Proofs.Ytignemioillaiaa
open Go.ChangeShapes Go.WideShapes Go.ChangeAt Go.RowKit

set_option maxRecDepth 100000 in
theorem marshals_lifted (os : Os) (started : os.Started) (H : Type) (enc : TypeId × Value → H) :
    ReturnsInHanded {} Try.checked os 3 .any (Rows.marshalsSpec.pre6 enc Try.prog Try.f3 Rows.marshalsRow.domain false) (Rows.marshalsSpec.post enc Try.prog Try.f3 false true false false) := by
  refine returnsInHanded_of_change_sized (C := Try.checked) Try.own started (by kernel_rfl) Try.func3
    (ChangeSpec.witness6 (enc := enc) (C := Try.checked) false ⟨#[], #[.agg (List.toArray (α := Value) (.int .u8 0 :: .int .u8 0 :: .int .u32 0 :: .int .u8 0 :: .int .u64 0 :: .int .u64 0 :: .int .u64 0 :: .int .u8 0 :: .int .u8 0 :: .int .u32 0 :: .int .u64 0 :: .int .u8 0 :: .bool false :: .int .u64 0 :: .int .u8 0 :: .int .u32 0 :: .int .u8 0 :: .int .u32 0 :: .int .u8 0 :: .int .u8 0 :: .int .u32 0 :: .int .u8 0 :: .int .u64 0 :: .int .u64 0 :: .int .u64 0 :: .int .u8 0 :: .int .u8 0 :: .int .u8 0 :: .int .u32 0 :: .int .u64 0 :: .int .u64 0 :: .slice none 0 0 :: .slice none 0 0 :: .int .u8 0 :: .int .u32 0 :: .slice none 0 0 :: .int .u8 0 :: .int .u8 0 :: .int .u32 0 :: .int .u64 0 :: .int .u64 0 :: .slice none 0 0 :: .slice none 0 0 :: .int .u8 0 :: .int .u32 0 :: []))], []⟩ 8 (by kernel_rfl) (by kernel_rfl) (by kernel_rfl) (by kernel_rfl)) ?_
  intro W base args ds gs before hval0 hW hcnd hsized0 _
  have hval : ∀ (j : Nat) t v, Try.f3.params[j]? = some t → args[j]? = some v → Value.okWide Try.prog W .any base t v := hval0
  have hW' := hW
  obtain ⟨p, q, hA0, hV, rfl, hfz, hnd⟩ := hW
  have hA : DataW.TrodAll enc Try.prog W 0 (fun _ => true) true Try.f3.params.toList args.toList ds p := hA0
  rw [Try.params3] at hA hval
  obtain ⟨v0, d0, rfl, rfl, h0⟩ := trodAll_one hA
  obtain ⟨rfl, rfl⟩ := trodVars_none hV
  obtain ⟨cs, rfl, _⟩ := okWide_struct Try.underlying38 (hval 0 38 v0 rfl rfl)
  have h0k := h0
  obtain ⟨fuel, hf⟩ := h0
  have hwt : ∀ k ∈ d0.weights Try.prog 38, k ≤ reachBytes := by
    intro k hk
    have := List.all_eq_true.1 hsized0 k (DataW.weights_mem_each (P := Try.prog) (j := 0) (t := 38) (d := d0) (by kernel_rfl) rfl k hk)
    simpa using this
  obtain ⟨m, hcs, hwf, hv, hc, hr, hm1, hm2, hm3, hm4⟩ := msg_open hf hwt
  have hcs' : cs.toList = _ := hcs
  obtain rfl : cs = _ := Array.toList_inj.1 (hcs'.trans (List.toList_toArray).symm)
  clear hA0 hval0 hcs hcs' hf
  simp only [List.append_nil] at hW'
  have hlt : ∀ x ∈ p, x.block < W.heap.size := fun x hx => by simpa using hW'.lt x hx
  obtain ⟨mkind, ⟨mqc, mqs, mqk, mqkey, mqv, mqhi, mqto⟩, ⟨mpc, mps, mpkey, mpk, mpf, mpv, mpg⟩, mn, mid, mslot, ⟨mckind, ⟨mcqc, mcqs, mcqk, mcqkey, mcqv, mcqhi, mcqto⟩, ⟨mcrsrc, mcrdst, mcrseq, mcrlo, mcrhi, ⟨mcrra, mcrrn, mcrrc⟩, ⟨mcrda, mcrdn, mcrdc⟩, mcrrows, mcrdups⟩, mcpeer, mcsq⟩, ⟨mva, mvn, mvc⟩, ⟨mrsrc, mrdst, mrseq, mrlo, mrhi, ⟨mrra, mrrn, mrrc⟩, ⟨mrda, mrdn, mrdc⟩, mrrows, mrdups⟩, mpeer, msq, mvotes⟩ := m
  refine Calls.mono (marshals_any mkind mqc mqs mqk mqkey mqv mqhi mqto mpc mps mpkey mpk mpf mpv mpg mn mid mslot mckind mcqc mcqs mcqk mcqkey mcqv mcqhi mcqto mcrsrc mcrdst mcrseq mcrlo mcrhi mcrra mcrrn mcrrc mcrda mcrdn mcrdc mcpeer mcsq mva mvn mvc mrsrc mrdst mrseq mrlo mrhi mrra mrrn mrrc mrda mrdn mrdc mpeer msq mcrrows mrrows mcrdups mrdups mvotes W hv hc.rows hc.dups hr.rows hr.dups hm1 hm2 hm3 hm4 hwf) fun e W' ⟨he, bel⟩ => ?_
  subst he
  refine ⟨_, rfl, _, _, _, [], p, [], hW', ?_, ?_, rfl, bel.frame _, fun h => by cases h⟩
  · exact trodAll_mk1 (shut_true true)
  · exact trodAll_mk1 (Below.trod Try.laidOut (by kernel_rfl) (of_decide_eq_true (by kernel_rfl)) h0k bel hlt)

theorem marshals_holds : Rows.MarshalsSaid :=
  OpenClaim.holds_of_wide 3 Try.f3 rfl rfl rfl rfl rfl rfl rfl ⟨rfl, rfl, rfl, rfl, rfl⟩ rfl rfl rfl rfl rfl (by kernel_rfl) Try.func3 (by kernel_rfl)
    (of_decide_eq_true (by kernel_rfl)) (by unfold Func.isWrapper; first | (rw [if_pos (by decide +kernel)]; kernel_rfl) | (rw [if_neg (by decide +kernel)]; exact ⟨rfl, rfl⟩))
    (fun os started H enc _ => marshals_lifted os started H enc)

end Go.Proofs.Ytignemioillaiaa

