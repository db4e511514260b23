/- The document's reader in the program: what is kept while a range is read. The document's reader in the program: ranges. -/
import Derived.Test.YtignemioillaiaaD4
import Derived.Test.YtignemioillaiaaV3
import Derived.Test.YtignemioillaiaaQ8
import Derived.Deep.CutRange
namespace Go.Proofs.Ytignemioillaiaa
open Go.RowKit

theorem own_updV {w w' : World} {base B : Nat} {e : TypeId} {size : Nat} {v : Value} {n : Nat} {xs : List Value} (h : w.ownsRow base e size v n xs) (hU : Upd B w w') (hB : B < base) : w'.ownsRow base e size v n xs :=
  h.kept hU (.inr (by intro e; have := (h.lt B e).1; omega))
theorem one_cellsV {cs : List Value} (h : cs.all (·.oneCell') = true) : ∀ u ∈ cs, u.oneCell' = true := fun u hu => List.all_eq_true.1 h u hu
theorem own_otherV {w w' : World} {base base' : Nat} {e e' : TypeId} {size size' : Nat} {v v' v'' : Value} {n n' : Nat} {xs xs' : List Value} (h : w.ownsRow base e size v n xs) (h' : w.ownsRow base' e' size' v' n' xs') (hne : e ≠ e') (hg : Grew w v' w' v'') : w'.ownsRow base e size v n xs :=
  h.kept hg.grown (own_apart h h' hne)
theorem own_oneV {w : World} {base : Nat} {e : TypeId} {size : Nat} {v : Value} {n : Nat} {xs : List Value} (h : w.ownsRow base e size v n xs) : v.oneCell' = true := by
  obtain ⟨a, m, c, rfl⟩ := own_shape h; rfl

/-- A range while it is read: it lies in the block behind w's last one but one, its lists are the call's own, what is left of the bytes lies in block B. -/
structure Mv (w wr : World) (B : Nat) (s : List Int × Bool) (src dst seq lo hi : Int) (vR vD : Value) (rows : List Row) (dups : List Rep) : Prop where
  rst : Rst B wr s
  cR : wr.heap[w.heap.size]? = some (.cells (List.toArray oxR) 33)
  cV : wr.heap[w.heap.size + 1]? = some (.cells #[.int .u8 src, .int .u8 dst, .int .u32 seq, .int .u64 lo, .int .u64 hi, vR, vD] 33)
  oR : wr.ownsRow (w.heap.size + 2) 82 2 vR rows.length (rows.map Row.cells).flatten
  oD : wr.ownsRow (w.heap.size + 2) 27 7 vD dups.length (dups.map Rep.cells).flatten
  upd : Upd B w wr
  sz : w.heap.size + 2 ≤ wr.heap.size
  lt : B < w.heap.size

section
variable {w wr : World} {B : Nat} {s s' : List Int × Bool} {src dst seq lo hi : Int} {vR vD : Value} {rows : List Row} {dups : List Rep}

theorem Mv.next {w' : World} (h : Mv w wr B s src dst seq lo hi vR vD rows dups) (hS : Rst B w' s') (hU : Upd B wr w') : Mv w w' B s' src dst seq lo hi vR vD rows dups :=
  ⟨hS, upd_blk hU (by have := h.lt; omega) h.cR, upd_blk hU (by have := h.lt; omega) h.cV, own_updV h.oR hU (by have := h.lt; omega), own_updV h.oD hU (by have := h.lt; omega), upd_trans h.upd hU, Nat.le_trans h.sz hU.size, h.lt⟩

theorem Mv.alloc (h : Mv w wr B s src dst seq lo hi vR vD rows dups) (o : Obj) : Mv w (wr.alloc o) B s src dst seq lo hi vR vD rows dups :=
  h.next (h.rst.alloc o) (upd_alloc1 B wr o)

theorem Mv.only {w' : World} {C : Nat} (h : Mv w wr B s src dst seq lo hi vR vD rows dups) (hO : Only C wr w') (hC : w.heap.size + 2 ≤ C) (hR : vR.ownBlock ≠ some C) (hD : vD.ownBlock ≠ some C) : Mv w w' B s src dst seq lo hi vR vD rows dups := by
  have hl := h.lt
  have hg : wr.grownBy w' (some C) := ⟨hO.os, hO.tape, hO.output, Nat.le_of_eq hO.size.symm, fun k _ hk => hO.block k (fun e => hk (by rw [e]))⟩
  exact ⟨h.rst.only hO (by omega), (hO.block _ (by omega)).trans h.cR, (hO.block _ (by omega)).trans h.cV, h.oR.kept hg (.inr hR), h.oD.kept hg (.inr hD), upd_new h.upd hO (by omega), by rw [hO.size]; exact h.sz, hl⟩

/-- A row more. -/
theorem Mv.row {w1 w2 : World} {vR' : Value} {x : Row} {o : Obj} (h : Mv w wr B s src dst seq lo hi vR vD rows dups) (ho : w1.ownsRow (w.heap.size + 2) 82 2 vR' (rows.length + 1) ((rows.map Row.cells).flatten ++ x.cells)) (hg : Grew (wr.alloc o) vR w1 vR')
    (hW2 : w2.heap[w.heap.size + 1]? = some (.cells #[.int .u8 src, .int .u8 dst, .int .u32 seq, .int .u64 lo, .int .u64 hi, vR', vD] 33)) (hO2 : Only (w.heap.size + 1) w1 w2) : Mv w w2 B s src dst seq lo hi vR' vD (rows ++ [x]) dups := by
  have hA := World.ownsRow.alloc h.oR o
  have hl := h.lt
  have hne : ∀ C, C < w.heap.size + 2 → some C ≠ vR.ownBlock := fun C hC e => by have := (World.ownsRow.lt hA C e.symm).1; omega
  have hlater := later_alloc wr o
  have hsz := hg.grown.size
  have hsz0 := h.sz
  refine ⟨⟨(hO2.block B (by omega)).trans (hg.blk (blk_later hlater h.rst.blk) (hne B (by omega))), h.rst.byt, h.rst.len⟩, (hO2.block _ (by omega)).trans (hg.blk (blk_later hlater h.cR) (hne _ (by omega))), hW2, ?_, own_keep (own_otherV (World.ownsRow.alloc h.oD o) hA (by decide) hg) hO2 (by omega), ?_, by rw [hO2.size]; simp at hsz; omega, hl⟩
  · rw [List.length_append, List.map_append, List.flatten_append]
    exact own_keep (by simpa using ho) hO2 (by omega)
  · have hU1 : Upd B w (wr.alloc o) := upd_trans h.upd (upd_alloc1 B wr o)
    refine upd_new ⟨hg.grown.os.trans hU1.os, hg.grown.tape.trans hU1.tape, hg.grown.output.trans hU1.output, Nat.le_trans hU1.size hg.grown.size, fun k hk hkB => ?_⟩ hO2 (by omega)
    exact (hg.grown.block k (Nat.lt_of_lt_of_le hk hU1.size) (hne k (by omega))).trans (hU1.block k hk hkB)

/-- A dup more. -/
theorem Mv.dup {w1 w2 : World} {vD' : Value} {x : Rep} {o : Obj} (h : Mv w wr B s src dst seq lo hi vR vD rows dups) (ho : w1.ownsRow (w.heap.size + 2) 27 7 vD' (dups.length + 1) ((dups.map Rep.cells).flatten ++ x.cells)) (hg : Grew (wr.alloc o) vD w1 vD')
    (hW2 : w2.heap[w.heap.size + 1]? = some (.cells #[.int .u8 src, .int .u8 dst, .int .u32 seq, .int .u64 lo, .int .u64 hi, vR, vD'] 33)) (hO2 : Only (w.heap.size + 1) w1 w2) : Mv w w2 B s src dst seq lo hi vR vD' rows (dups ++ [x]) := by
  have hA := World.ownsRow.alloc h.oD o
  have hl := h.lt
  have hne : ∀ C, C < w.heap.size + 2 → some C ≠ vD.ownBlock := fun C hC e => by have := (World.ownsRow.lt hA C e.symm).1; omega
  have hlater := later_alloc wr o
  have hsz := hg.grown.size
  have hsz0 := h.sz
  refine ⟨⟨(hO2.block B (by omega)).trans (hg.blk (blk_later hlater h.rst.blk) (hne B (by omega))), h.rst.byt, h.rst.len⟩, (hO2.block _ (by omega)).trans (hg.blk (blk_later hlater h.cR) (hne _ (by omega))), hW2, own_keep (own_otherV (World.ownsRow.alloc h.oR o) hA (by decide) hg) hO2 (by omega), ?_, ?_, by rw [hO2.size]; simp at hsz; omega, hl⟩
  · rw [List.length_append, List.map_append, List.flatten_append]
    exact own_keep (by simpa using ho) hO2 (by omega)
  · have hU1 : Upd B w (wr.alloc o) := upd_trans h.upd (upd_alloc1 B wr o)
    refine upd_new ⟨hg.grown.os.trans hU1.os, hg.grown.tape.trans hU1.tape, hg.grown.output.trans hU1.output, Nat.le_trans hU1.size hg.grown.size, fun k hk hkB => ?_⟩ hO2 (by omega)
    exact (hg.grown.block k (Nat.lt_of_lt_of_le hk hU1.size) (hne k (by omega))).trans (hU1.block k hk hkB)
end

/-- A list read so far: xs, with j of N gone through and st left. -/
structure Gone {α : Type} (f : Rb α) (N : Nat) (s0 : List Int × Bool) (j : Nat) (xs : List α) (st : List Int × Bool) : Prop where
  le : j ≤ N
  len : xs.length = j
  eq : rbList f N s0 = (xs ++ (rbList f (N - j) st).1, (rbList f (N - j) st).2)

theorem Gone.start {α : Type} (f : Rb α) (N : Nat) (s0 : List Int × Bool) : Gone f N s0 0 [] s0 := ⟨Nat.zero_le _, rfl, by simp⟩
theorem Gone.more {α : Type} {f : Rb α} {N : Nat} {s0 st : List Int × Bool} {j : Nat} {xs : List α} (h : Gone f N s0 j xs st) (hj : j < N) (hb : st.2 = false) : Gone f N s0 (j + 1) (xs ++ [(f st).1]) (f st).2 := by
  refine ⟨hj, by simp [h.len], ?_⟩
  rw [h.eq]
  have e : N - j = (N - (j + 1)) + 1 := by omega
  rw [e]
  simp [rbList, hb]
theorem Gone.done {α : Type} {f : Rb α} {N : Nat} {s0 st : List Int × Bool} {j : Nat} {xs : List α} (h : Gone f N s0 j xs st) (hd : j = N ∨ st.2 = true) : rbList f N s0 = (xs, st) := by
  rw [h.eq]
  rcases hd with rfl | hb
  · simp [rbList]
  · cases hn : N - j with
    | zero => simp [rbList]
    | succ n => simp [rbList, hb]

end Go.Proofs.Ytignemioillaiaa

namespace Go.Proofs.Ytignemioillaiaa
open Go.RowKit

theorem b_i64 {s : List Int × Bool} (h : Byt s.1) : IntKind.i64.wrap (bnum 1 s).1 = (bnum 1 s).1 := by
  have := num1_in h
  have e2 : (bnum 1 s).1 = (num 1 s.1).1 := rfl
  rw [e2]
  rw [IntKind.wrap_i64]; omega
theorem n1_of {s : List Int × Bool} (h : Byt s.1) : ∃ N : Nat, (bnum 1 s).1 = (N : Int) ∧ N ≤ 255 := by
  have := num1_in h
  have e2 : (bnum 1 s).1 = (num 1 s.1).1 := rfl
  exact ⟨(bnum 1 s).1.toNat, by rw [e2]; omega, by rw [e2]; omega⟩
theorem mv_ne {w : World} {base C : Nat} {e : TypeId} {size n : Nat} {v : Value} {xs : List Value} (h : w.ownsRow base e size v n xs) (hC : C < base) : some C ≠ v.ownBlock := fun e => by have := (World.ownsRow.lt h C e.symm).1; omega
theorem mv_new {w : World} {base : Nat} {e : TypeId} {size n : Nat} {v : Value} {xs : List Value} (h : w.ownsRow base e size v n xs) : v.ownBlock ≠ some w.heap.size := fun e => by have := (World.ownsRow.lt h _ e).2; omega
theorem hideV {p : Prop} (h : p) : Hid p := h

set_option maxHeartbeats 4000000 in
set_option maxRecDepth 100000 in
theorem rest_rng (B : Nat) (s : List Int × Bool) (w : World) (h : Rst B w s) :
    Calls Try.prog 51 #[.pointer (some ⟨B, 0, none⟩)] w fun e w' => ∃ (ra : Option Addr) (rn rc : Nat) (da : Option Addr) (dn dc : Nat), e = .returned (.agg (List.toArray (rR (rbRng s).1.src (rbRng s).1.dst (rbRng s).1.seq (rbRng s).1.lo (rbRng s).1.hi ra rn rc da dn dc))) ∧ w'.ownsRow w.heap.size 82 2 (.slice ra rn rc) (rbRng s).1.rows.length ((rbRng s).1.rows.map Row.cells).flatten ∧ w'.ownsRow w.heap.size 27 7 (.slice da dn dc) (rbRng s).1.dups.length ((rbRng s).1.dups.map Rep.cells).flatten ∧ Rst B w' (rbRng s).2 ∧ Upd B w w' := by
  obtain ⟨i0, hi0, hz0, hz1, hz2⟩ := info_parts info_row
  obtain ⟨j0, hj0, hy0, hy1, hy2⟩ := info_parts info_rep
  have hlt := h.lt
  have hneV : w.heap.size + 1 ≠ B := by omega
  have hneR : w.heap.size ≠ B := by omega
  have hneB : B ≠ w.heap.size + 1 := by omega
  have hneW : w.heap.size ≠ w.heap.size + 1 := by omega
  have hS := h.alloc2 (.cells (List.toArray oxR) 33) (.cells (List.toArray oxR) 33)
  have hU := upd_alloc2 B w (.cells (List.toArray oxR) 33) (.cells (List.toArray oxR) 33)
  have hR : ((w.alloc (.cells (List.toArray oxR) 33)).alloc (.cells (List.toArray oxR) 33)).heap[w.heap.size]? = some (.cells (List.toArray oxR) 33) := heap_alloc2_old w _ _
  have hV : ((w.alloc (.cells (List.toArray oxR) 33)).alloc (.cells (List.toArray oxR) 33)).heap[w.heap.size + 1]? = some (.cells (List.toArray oxR) 33) := heap_alloc2_new w _ _
  have hszN : w.heap.size + 2 ≤ ((w.alloc (.cells (List.toArray oxR) 33)).alloc (.cells (List.toArray oxR) 33)).heap.size := by simp
  have hq8 := b_u8 h.byt
  have hq4 := b_u32 h.byt
  have hq1 := b_i64 h.byt
  go_enter Try.func51, Try.ntmps51
  go_wp2_with (first | (go_at_call 46; go_must (refine (rest_k B _ _ _ hS (by decide)).mono ?_; rintro e w1 ⟨rfl, hS1, hU1⟩; (try simp only [Int.reduceToNat] at hS1 ⊢); have hU := upd_trans hU hU1; have hV := upd_blk hU1 hneV hV; have hR := upd_blk hU1 hneR hR; have hS := hS1; have hq8 := b_u8 hS.byt; have hq4 := b_u32 hS.byt; have hq1 := b_i64 hS.byt; have hszN := Nat.le_trans hszN hU1.size)) | (with_reducible show AtS 5 13 ..; go_must (refine wpList_store_cell rfl _ _ _ rfl rfl (w.heap.size + 1) 0 rfl (.int .u8 (bnum 1 s).1) rfl sz_u8 rfl _ _ hV rfl (rR (bnum 1 s).1 0 0 0 0 none 0 0 none 0 0) rfl ?_; intro w1 hV1 hOv; have hU := upd_new hU hOv (Nat.le_succ _); have hR := (hOv.block _ hneW).trans hR; have hS := hS.only hOv hneB; have hV := hV1; have hszN := (by rw [hOv.size]; exact hszN : w.heap.size + 2 ≤ w1.heap.size); have hS0 := hS)) | (with_reducible show AtS 5 17 ..; go_must (refine wpList_store_cell rfl _ _ _ rfl rfl (w.heap.size + 1) 1 rfl (.int .u8 (bnum 1 (bnum 1 s).2).1) rfl sz_u8 rfl _ _ hV rfl (rR (bnum 1 s).1 (bnum 1 (bnum 1 s).2).1 0 0 0 none 0 0 none 0 0) rfl ?_; intro w1 hV1 hOv; have hU := upd_new hU hOv (Nat.le_succ _); have hR := (hOv.block _ hneW).trans hR; have hS := hS.only hOv hneB; have hV := hV1; have hszN := (by rw [hOv.size]; exact hszN : w.heap.size + 2 ≤ w1.heap.size); have hS0 := hS)) | (with_reducible show AtS 22 21 ..; go_must (refine wpList_store_cell rfl _ _ _ rfl rfl (w.heap.size + 1) 2 rfl (.int .u32 (bnum 4 (bnum 1 (bnum 1 s).2).2).1) rfl sz_u32 rfl _ _ hV rfl (rR (bnum 1 s).1 (bnum 1 (bnum 1 s).2).1 (bnum 4 (bnum 1 (bnum 1 s).2).2).1 0 0 none 0 0 none 0 0) rfl ?_; intro w1 hV1 hOv; have hU := upd_new hU hOv (Nat.le_succ _); have hR := (hOv.block _ hneW).trans hR; have hS := hS.only hOv hneB; have hV := hV1; have hszN := (by rw [hOv.size]; exact hszN : w.heap.size + 2 ≤ w1.heap.size); have hS0 := hS)) | (with_reducible show AtS 23 24 ..; go_must (refine wpList_store_cell rfl _ _ _ rfl rfl (w.heap.size + 1) 3 rfl (.int .u64 (bnum 8 (bnum 4 (bnum 1 (bnum 1 s).2).2).2).1) rfl sz_u64 rfl _ _ hV rfl (rR (bnum 1 s).1 (bnum 1 (bnum 1 s).2).1 (bnum 4 (bnum 1 (bnum 1 s).2).2).1 (bnum 8 (bnum 4 (bnum 1 (bnum 1 s).2).2).2).1 0 none 0 0 none 0 0) rfl ?_; intro w1 hV1 hOv; have hU := upd_new hU hOv (Nat.le_succ _); have hR := (hOv.block _ hneW).trans hR; have hS := hS.only hOv hneB; have hV := hV1; have hszN := (by rw [hOv.size]; exact hszN : w.heap.size + 2 ≤ w1.heap.size); have hS0 := hS)) | (with_reducible show AtS 23 27 ..; go_must (refine wpList_store_cell rfl _ _ _ rfl rfl (w.heap.size + 1) 4 rfl (.int .u64 (bnum 8 (bnum 8 (bnum 4 (bnum 1 (bnum 1 s).2).2).2).2).1) rfl sz_u64 rfl _ _ hV rfl (rR (bnum 1 s).1 (bnum 1 (bnum 1 s).2).1 (bnum 4 (bnum 1 (bnum 1 s).2).2).1 (bnum 8 (bnum 4 (bnum 1 (bnum 1 s).2).2).2).1 (bnum 8 (bnum 8 (bnum 4 (bnum 1 (bnum 1 s).2).2).2).2).1 none 0 0 none 0 0) rfl ?_; intro w1 hV1 hOv; have hU := upd_new hU hOv (Nat.le_succ _); have hR := (hOv.block _ hneW).trans hR; have hS := hS.only hOv hneB; have hV := hV1; have hszN := (by rw [hOv.size]; exact hszN : w.heap.size + 2 ≤ w1.heap.size); have hS0 := hS)))
  have hn1 := n1_of hS0.byt
  obtain ⟨N1, hN1, hN1m⟩ := hn1
  rw [hN1]
  have HMv := hideV (Mv.mk (vR := .slice none 0 0) (vD := .slice none 0 0) (rows := []) (dups := []) hS hR hV (World.ownsRow_nil _ _ _ _) (World.ownsRow_nil _ _ _ _) hU hszN hlt)
  have HN1 := hideV hN1
  clear hS hR hV hU hq8 hq4 hq1 hN1 hS0 hszN hneV hneR hneB hneW
  go_loopw [5] (fun i wr => ∃ (j : Nat) (rows : List Row) (st : List Int × Bool) (vR : Value), i = .int .i64 j ∧ Hid (Mv w wr B st ((bnum 1 s).1) ((bnum 1 (bnum 1 s).2).1) ((bnum 4 (bnum 1 (bnum 1 s).2).2).1) ((bnum 8 (bnum 4 (bnum 1 (bnum 1 s).2).2).2).1) ((bnum 8 (bnum 8 (bnum 4 (bnum 1 (bnum 1 s).2).2).2).2).1) vR (.slice none 0 0) rows []) ∧ Hid (Gone rbRow N1 (bnum 1 (bnum 8 (bnum 8 (bnum 4 (bnum 1 (bnum 1 s).2).2).2).2).2).2 j rows st)) (fun i _ => N1 - (intOf i).toNat)
  case atStart => exact ⟨0, [], _, _, rfl, HMv, Gone.start _ _ _⟩
  case round =>
    clear HMv
    obtain ⟨j, rows, st, vR, rfl, HMv, HG⟩ := hrel
    have hcB := blk_cell HMv.out.rst.blk
    by_cases hgo : j < N1 ∧ st.2 = false
    · obtain ⟨hj, hb⟩ := hgo
      have hdj : decide ((j : Int) < (N1 : Int)) = true := by simp; omega
      have hcV := blk_cell HMv.out.cV
      have hrl : rows.length ≤ 255 := by have := HG.out.len; omega
      have HRL := hideV hrl
      clear hrl
      go_wp2_with (first | (go_at_call 46; go_must (refine (rest_k B _ _ _ HMv.out.rst (by decide)).mono ?_; rintro e w1 ⟨rfl, hS1, hU1⟩; (try simp only [Int.reduceToNat] at hS1 ⊢); have HMv := hideV (HMv.out.next hS1 hU1); have hcV := blk_cell HMv.out.cV; have hszw := HMv.out.sz; clear hS1 hU1)) | (with_reducible show wpList _ _ _ ({ dst := some 53, op := Op.call _, type := _, pos := _, after := _, guard := none } :: _) _ _; go_must (refine wpList_append_new _ rfl _ _ 30 rfl (w.heap.size + 2) 82 i0 (.agg #[.int .u64 0, .int .u64 0]) 2 16 Try.underlying30 hi0 hz0 hz1 hz2 rfl (by decide) vR rows.length (rows.map Row.cells).flatten rfl (World.ownsRow.alloc HMv.out.oR _) _ 1 1 [.int .u64 (bnum 8 st).1, .int .u64 (bnum 8 (bnum 8 st).2).1] rfl rfl (new_cells rfl) (one_cellsV rfl) (by have := HRL.out; unfold maxLen; omega) (by have := HRL.out; omega) (by simp; omega) ?_; intro vR' w5 ho5 hg5; have hV5 := hg5.blk (blk_later (later_alloc _ _) HMv.out.cV) (mv_ne HMv.out.oR (Nat.lt_succ_self _)))) | (with_reducible show AtS 30 54 ..; go_must (refine wpList_store_cell rfl _ _ _ rfl rfl (w.heap.size + 1) 5 rfl vR' rfl sz_rows (own_oneV ho5) _ _ hV5 rfl [.int .u8 (bnum 1 s).1, .int .u8 (bnum 1 (bnum 1 s).2).1, .int .u32 (bnum 4 (bnum 1 (bnum 1 s).2).2).1, .int .u64 (bnum 8 (bnum 4 (bnum 1 (bnum 1 s).2).2).2).1, .int .u64 (bnum 8 (bnum 8 (bnum 4 (bnum 1 (bnum 1 s).2).2).2).2).1, vR', .slice none 0 0] rfl ?_; intro w6 hW6 hO6)))
      go_roundw
      case rel => exact ⟨j + 1, _, _, vR', by go_num, Mv.row (x := ⟨(bnum 8 st).1, (bnum 8 (bnum 8 st).2).1⟩) HMv.out ho5 hg5 hW6 hO6, HG.out.more hj hb⟩
      case measure => simp [intOf]; omega
    · have hdone := HG.out.done (by
        by_cases hj : j < N1
        · right
          cases hb : st.2
          · exact absurd ⟨hj, hb⟩ hgo
          · rfl
        · left; have := HG.out.le; omega)
      have HD1 := hideV hdone
      have HRL : Hid (rows.length ≤ 255) := by have := HG.out.len; have := HG.out.le; show _ ≤ _; omega
      clear hdone
      go_upto_region 9 with fail
      go_cut [40] from 31 to 54 (fun t wx => t = .bool false ∧ wx = wr)
      case first =>
        by_cases hj : j < N1
        · have hb : st.2 = true := by
            cases hb : st.2
            · exact absurd ⟨hj, hb⟩ hgo
            · rfl
          have hdj : decide ((j : Int) < (N1 : Int)) = true := by simp; omega
          go_wp2_with fail
          go_meet
          exact ⟨rfl, rfl⟩
        · have hdj : decide ((j : Int) < (N1 : Int)) = false := by simp; omega
          go_wp2_with fail
          go_meet
          exact ⟨rfl, rfl⟩
      case rest =>
        obtain ⟨rfl, rfl⟩ := hcut
        have hbyt := HMv.out.rst.byt
        have hq1 := b_i64 hbyt
        clear hcB hgo
        go_wp2_with (first | (go_at_call 46; go_must (refine (rest_k B _ _ _ HMv.out.rst (by decide)).mono ?_; rintro e w1 ⟨rfl, hS1, hU1⟩; (try simp only [Int.reduceToNat] at hS1 ⊢); have HMv := hideV (HMv.out.next hS1 hU1); clear hS1 hU1)))
        obtain ⟨N2, hN2, hN2m⟩ := n1_of hbyt
        rw [hN2]
        have HN2 := hideV hN2
        clear hN2 hq1 hbyt
        go_loopw [8] (fun i wr => ∃ (q : Nat) (dups : List Rep) (s2 : List Int × Bool) (vD : Value), i = .int .i64 q ∧ Hid (Mv w wr B s2 ((bnum 1 s).1) ((bnum 1 (bnum 1 s).2).1) ((bnum 4 (bnum 1 (bnum 1 s).2).2).1) ((bnum 8 (bnum 4 (bnum 1 (bnum 1 s).2).2).2).1) ((bnum 8 (bnum 8 (bnum 4 (bnum 1 (bnum 1 s).2).2).2).2).1) vR vD rows dups) ∧ Hid (Gone rbRep N2 (bnum 1 st).2 q dups s2)) (fun i _ => N2 - (intOf i).toNat)
        case atStart => exact ⟨0, [], _, _, rfl, HMv, Gone.start _ _ _⟩
        case round =>
          clear HMv
          obtain ⟨q, dups, s2, vD, rfl, HMv, HG2⟩ := hrel
          have hcB := blk_cell HMv.out.rst.blk
          by_cases hgo : q < N2 ∧ s2.2 = false
          · obtain ⟨hq, hb⟩ := hgo
            have hdq : decide ((q : Int) < (N2 : Int)) = true := by simp; omega
            have HDL : Hid (dups.length ≤ 255) := by have := HG2.out.len; show _ ≤ _; omega
            have HGM := hideV (HG2.out.more hq hb)
            obtain ⟨x, hx⟩ : ∃ x, (rbRep s2).1 = x := ⟨_, rfl⟩
            have HRP : Hid (∀ w' : World, Rst B w' s2 → Calls Try.prog 48 #[.pointer (some ⟨B, 0, none⟩)] w' fun e w'' => e = .returned (.agg x.cells.toArray) ∧ Rst B w'' (rbRep s2).2 ∧ Upd B w' w'') := fun w' hr => by
              have := rest_rep B s2 w' hr
              rw [hx] at this
              exact this
            rw [hx] at HGM
            clear hx
            obtain ⟨xc, xs, xkey, xk, xf, xv, xg⟩ := x
            have HRQ : Hid (∀ w' : World, Rst B w' s2 → Calls Try.prog 48 #[.pointer (some ⟨B, 0, none⟩)] w' fun e w'' => e = .returned (.agg (List.toArray (rP xc xs xkey xk xf xv xg))) ∧ Rst B w'' (rbRep s2).2 ∧ Upd B w' w'') := HRP
            clear HRP
            go_wp2_with (first | (go_at_call 48; go_must (refine (HRQ.out _ HMv.out.rst).mono ?_; rintro e w1 ⟨rfl, hS1, hU1⟩; have HMv := hideV (HMv.out.next hS1 hU1); have hszw := HMv.out.sz; clear hS1 hU1)) | (with_reducible show AtS 27 9 ..; go_must (refine wpList_store_blk rfl _ _ _ rfl rfl w1.heap.size 0 rfl (rP xc xs xkey xk xf xv xg) rfl _ sz_rep rfl rfl _ _ (heap_alloc_new w1 (.cells (List.toArray oxP) 27)) rfl (rP xc xs xkey xk xf xv xg) rfl ?_; intro w2 hW2 hO2; have HMv := hideV ((HMv.out.alloc (.cells (List.toArray oxP) 27)).only hO2 hszw (mv_new HMv.out.oR) (mv_new HMv.out.oD)); have hszw := HMv.out.sz; have hcV := blk_cell HMv.out.cV; clear hO2)) | (with_reducible show AtL 74 27 ..; go_must (refine wpList_load_blk rfl _ _ rfl w1.heap.size 0 rfl 7 _ Try.underlying27 rfl sz_rep _ _ hW2 rfl (rP xc xs xkey xk xf xv xg) rfl ?_)) | (with_reducible show wpList _ _ _ ({ dst := some 76, op := Op.call _, type := _, pos := _, after := _, guard := none } :: _) _ _; go_must (refine wpList_append_new _ rfl _ _ 31 rfl (w.heap.size + 2) 27 j0 (.agg (List.toArray oxP)) 7 40 Try.underlying31 hj0 hy0 hy1 hy2 rfl (by decide) vD dups.length (dups.map Rep.cells).flatten rfl (World.ownsRow.alloc HMv.out.oD _) _ 1 1 (rP xc xs xkey xk xf xv xg) rfl rfl (new_cells rfl) (one_cellsV rfl) (by have := HDL.out; unfold maxLen; omega) (by have := HDL.out; omega) (by simp; omega) ?_; intro vD' w5 ho5 hg5; have hV5 := hg5.blk (blk_later (later_alloc _ _) HMv.out.cV) (mv_ne HMv.out.oD (Nat.lt_succ_self _)))) | (with_reducible show AtS 31 77 ..; go_must (refine wpList_store_cell rfl _ _ _ rfl rfl (w.heap.size + 1) 6 rfl vD' rfl sz_dups (own_oneV ho5) _ _ hV5 rfl [.int .u8 (bnum 1 s).1, .int .u8 (bnum 1 (bnum 1 s).2).1, .int .u32 (bnum 4 (bnum 1 (bnum 1 s).2).2).1, .int .u64 (bnum 8 (bnum 4 (bnum 1 (bnum 1 s).2).2).2).1, .int .u64 (bnum 8 (bnum 8 (bnum 4 (bnum 1 (bnum 1 s).2).2).2).2).1, vR, vD'] rfl ?_; intro w6 hW6 hO6)))
            go_roundw
            case rel => exact ⟨q + 1, _, _, vD', by go_num, Mv.dup (x := (Rep.mk xc xs xkey xk xf xv xg)) HMv.out ho5 hg5 hW6 hO6, HGM⟩
            case measure => simp [intOf]; omega
          · have hdone := HG2.out.done (by
              by_cases hq : q < N2
              · right
                cases hb : s2.2
                · exact absurd ⟨hq, hb⟩ hgo
                · rfl
              · left; have := HG2.out.le; omega)
            have HD2 := hideV hdone
            clear hdone
            go_upto_region 16 with fail
            go_cut [67] from 58 to 77 (fun t wx => t = .bool false ∧ wx = wr)
            case first =>
              by_cases hq : q < N2
              · have hb : s2.2 = true := by
                  cases hb : s2.2
                  · exact absurd ⟨hq, hb⟩ hgo
                  · rfl
                have hdq : decide ((q : Int) < (N2 : Int)) = true := by simp; omega
                go_wp2_with fail
                go_meet
                exact ⟨rfl, rfl⟩
              · have hdq : decide ((q : Int) < (N2 : Int)) = false := by simp; omega
                go_wp2_with fail
                go_meet
                exact ⟨rfl, rfl⟩
            case rest =>
              obtain ⟨rfl, rfl⟩ := hcut
              obtain ⟨ra, rn, rc, hvR⟩ := own_shape HMv.out.oR
              obtain ⟨da, dn, dc, hvD⟩ := own_shape HMv.out.oD
              subst hvR; subst hvD
              have hcV' := HMv.out.cV
              have hcR' := HMv.out.cR
              go_wp2_with (first | (with_reducible show AtL 78 33 ..; go_must (refine wpList_load_blk rfl _ _ rfl (w.heap.size + 1) 0 rfl 7 _ Try.underlying33 rfl sz_rng _ _ hcV' rfl (rR (bnum 1 s).1 (bnum 1 (bnum 1 s).2).1 (bnum 4 (bnum 1 (bnum 1 s).2).2).1 (bnum 8 (bnum 4 (bnum 1 (bnum 1 s).2).2).2).1 (bnum 8 (bnum 8 (bnum 4 (bnum 1 (bnum 1 s).2).2).2).2).1 ra rn rc da dn dc) rfl ?_)) | (with_reducible show wpList _ _ _ ({ dst := none, op := Op.store 33 _ _, type := _, pos := _, after := _, guard := none } :: _) _ _; go_must (refine wpList_store_blk rfl _ _ _ rfl rfl w.heap.size 0 rfl (rR (bnum 1 s).1 (bnum 1 (bnum 1 s).2).1 (bnum 4 (bnum 1 (bnum 1 s).2).2).1 (bnum 8 (bnum 4 (bnum 1 (bnum 1 s).2).2).2).1 (bnum 8 (bnum 8 (bnum 4 (bnum 1 (bnum 1 s).2).2).2).2).1 ra rn rc da dn dc) rfl _ sz_rng rfl rfl _ _ hcR' rfl (rR (bnum 1 s).1 (bnum 1 (bnum 1 s).2).1 (bnum 4 (bnum 1 (bnum 1 s).2).2).1 (bnum 8 (bnum 4 (bnum 1 (bnum 1 s).2).2).2).1 (bnum 8 (bnum 8 (bnum 4 (bnum 1 (bnum 1 s).2).2).2).2).1 ra rn rc da dn dc) rfl ?_; intro w9 hW9 hO9)))
              have hlt' := HMv.out.lt
              have e1 : ((bnum 1 (bnum 8 (bnum 8 (bnum 4 (bnum 1 (bnum 1 s).2).2).2).2).2).1).toNat = N1 := by rw [HN1.out]; rfl
              have e2 : (bnum 1 st).1.toNat = N2 := by rw [HN2.out]; rfl
              have e : rbRng s = (⟨(bnum 1 s).1, (bnum 1 (bnum 1 s).2).1, (bnum 4 (bnum 1 (bnum 1 s).2).2).1, (bnum 8 (bnum 4 (bnum 1 (bnum 1 s).2).2).2).1, (bnum 8 (bnum 8 (bnum 4 (bnum 1 (bnum 1 s).2).2).2).2).1, ⟨none, rows.length, rows.length⟩, ⟨none, dups.length, dups.length⟩, rows, dups⟩, s2) := by
                unfold rbRng
                simp only [e1, HD1.out, e2, HD2.out]
              rw [e]
              refine bodyPost_ret (v := .agg (List.toArray (rR (bnum 1 s).1 (bnum 1 (bnum 1 s).2).1 (bnum 4 (bnum 1 (bnum 1 s).2).2).1 (bnum 8 (bnum 4 (bnum 1 (bnum 1 s).2).2).2).1 (bnum 8 (bnum 8 (bnum 4 (bnum 1 (bnum 1 s).2).2).2).2).1 ra rn rc da dn dc))) (results_cell_row Try.results51 _ _ w.heap.size 33 _ (0, 0) _ rfl hW9 Try.underlying33 rfl sz_rng) rfl ⟨ra, rn, rc, da, dn, dc, rfl, ?_, ?_, ?_, ?_⟩
              · exact own_mono (own_keep HMv.out.oR hO9 (by omega)) (by omega)
              · exact own_mono (own_keep HMv.out.oD hO9 (by omega)) (by omega)
              · exact HMv.out.rst.only hO9 (by omega)
              · exact upd_new HMv.out.upd hO9 (Nat.le_refl _)

end Go.Proofs.Ytignemioillaiaa

