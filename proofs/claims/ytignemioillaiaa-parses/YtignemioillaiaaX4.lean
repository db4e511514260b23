/- The book: a list of rows more. The book: a list of replies more. -/
import Derived.Test.YtignemioillaiaaD4
import Derived.Test.YtignemioillaiaaX2
import Derived.Test.YtignemioillaiaaY1
import Derived.Deep.RegionHeld3
namespace Go.Proofs.Ytignemioillaiaa
open Go.RowKit

def rowMk (m : Int) : List Value := [.int .u64 (77 + m), .int .u64 0]
def repMk (m : Int) : List Value := (rP 0 0 (77 + m) 0 false 0 0)
/-- The blocks that a list more may turn: the book's, the list's own, those of the book's lists. -/
def Abook (K : Nat) (s S M : Value) (b : Nat) : Prop := b = K ∨ some b = s.ownBlock ∨ some b = S.ownBlock ∨ some b = M.ownBlock
theorem undrewX {w w' : World} {v v' : Value} (h : Grew w.drew v w' v') : Grew w v w' v' := ⟨⟨h.grown.os, h.grown.tape, h.grown.output, h.grown.size, h.grown.block⟩, h.own⟩
theorem info_rowsX : (Try.prog.info? 30).map (fun i => (i.zero, i.size, i.bytes)) = some (some (.slice none 0 0), 1, 24) := by kernel_rfl
theorem info_repsX : (Try.prog.info? 31).map (fun i => (i.zero, i.size, i.bytes)) = some (some (.slice none 0 0), 1, 24) := by kernel_rfl
theorem info_intX : (Try.prog.info? 3).map (fun i => (i.zero, i.size, i.bytes)) = some (some (.int .i64 0), 1, 8) := by kernel_rfl
theorem sz_intX : (Try.prog.info? 3).map (·.size) = some 1 := by kernel_rfl
theorem sz_rowssX : (Try.prog.info? 48).map (·.size) = some 1 := by kernel_rfl
theorem sz_repssX : (Try.prog.info? 49).map (·.size) = some 1 := by kernel_rfl
theorem own_storedX {w' : World} {base g n cap : Nat} {e : TypeId} {size : Nat} {cur : Array Value} {ys : List Value} (hb : base ≤ g) (hnc : n ≤ cap) (hcm : cap ≤ maxLen) (hcs : cur.size = cap * size) (hl : ys.length = cur.size) (hW : w'.heap[g]? = some (.cells ys.toArray e)) :
    w'.ownsRow base e size (.slice (some ⟨g, 0, none⟩) n cap) n (ys.take (n * size)) := by
  refine ⟨?_, .inr ⟨g, cap, ys.toArray, rfl, hb, hW, hnc, hcm, by simp; omega, by simp⟩⟩
  rw [List.length_take, hl, hcs]
  exact Nat.min_eq_left (Nat.mul_le_mul_right _ hnc)
theorem own_lenX {w : World} {e : TypeId} {size n : Nat} {a : Option Addr} {m c : Nat} {xs : List Value} (h : w.ownsRow 0 e size (.slice a m c) n xs) : m = n := by
  rcases h.2 with ⟨h1, h2⟩ | ⟨_, _, _, h1, _⟩
  · cases h1; exact h2.symm
  · cases h1; rfl
/-- A store into a list of one's own, element by element. -/
theorem fill_step {cs : List Value} {k size : Nat} {cur : List Value} (hc : cs.length = size) (ht : cur.take (k * size) = (List.replicate k cs).flatten) (hl : (k + 1) * size ≤ cur.length) : (cur.take (k * size) ++ cs ++ cur.drop (k * size + size)).take ((k + 1) * size) = (List.replicate (k + 1) cs).flatten := by
  have h1 : (cur.take (k * size) ++ cs).length = (k + 1) * size := by
    rw [List.length_append, List.length_take, hc, Nat.add_mul, Nat.one_mul]
    rw [Nat.add_mul, Nat.one_mul] at hl
    omega
  rw [← h1, List.take_left, ht, List.replicate_succ', List.flatten_append]
  simp

set_option maxHeartbeats 8000000 in
set_option maxRecDepth 100000 in
theorem book_row (Kb n : Nat) (vR vP vV m0 m1 m3 : Value) (R : List (Sl × Int)) (sa : Option Addr) (sn sc : Nat) (xs : List Value) (w : World)
    (hK : w.heap[Kb]? = some (.cells #[.int .i64 n, vR, vP, .slice none 0 0, vV, .slice none 0 0, .slice none 0 0, .slice none 0 0, m0, m1, .slice none 0 0, m3, .slice none 0 0, .slice none 0 0, .slice none 0 0] 58)) (hC : Col w 30 82 2 rowMk vR m0 R) (hs : w.ownsRow 0 82 2 (.slice sa sn sc) sn xs) (hoff : OffB (Value.ownBlock (.slice sa sn sc)) R) (hn : n ≤ 10000) (hsn : sn ≤ 255) (hRl : R.length ≤ 10000) :
    Calls Try.prog 101 #[.pointer (some ⟨Kb, 0, none⟩), .slice sa sn sc] w fun e w' => e = .returned (.tuple #[]) ∧ ∃ (S' M' : Value) (R' : List (Sl × Int)), w'.heap[Kb]? = some (.cells #[.int .i64 ((n : Int) + 1), S', vP, .slice none 0 0, vV, .slice none 0 0, .slice none 0 0, .slice none 0 0, M', m1, .slice none 0 0, m3, .slice none 0 0, .slice none 0 0, .slice none 0 0] 58) ∧ Col w' 30 82 2 rowMk S' M' R' ∧ R'.length = R.length + 4 ∧ Fr (Abook Kb (.slice sa sn sc) vR m0) w w' ∧ (∀ c, c < w.heap.size → ¬ (Abook Kb (.slice sa sn sc) vR m0) c → OffB (some c) R → OffB (some c) R') ∧ (∀ k, S'.ownBlock = some k → (Abook Kb (.slice sa sn sc) vR m0) k ∨ w.heap.size ≤ k) ∧ (∀ k, M'.ownBlock = some k → (Abook Kb (.slice sa sn sc) vR m0) k ∨ w.heap.size ≤ k) := by
  obtain ⟨i0, hi0, hz0, hz1, hz2⟩ := info_parts info_row
  obtain ⟨ir, hir, hrz0, hrz1, hrz2⟩ := info_parts info_rowsX
  obtain ⟨ii, hii, hiz0, hiz1, hiz2⟩ := info_parts info_intX
  have hkin : Kinds 82 30 := ⟨by decide, by decide, by decide, by decide, by decide⟩
  have hKlt : Kb < w.heap.size := (Array.getElem?_eq_some_iff.1 hK).1
  have hw1 : IntKind.i64.wrap (77 + (n : Int)) = 77 + (n : Int) := by rw [IntKind.wrap_i64]; omega
  have hw2 : IntKind.u64.wrap (77 + (n : Int)) = 77 + (n : Int) := by have e : IntKind.u64.wrap (77 + (n : Int)) = (77 + (n : Int)) % 18446744073709551616 := rfl; rw [e]; omega
  have hw3 : IntKind.i64.wrap ((n : Int) + 1) = (n : Int) + 1 := by rw [IntKind.wrap_i64]; omega
  have hcK := blk_cell hK
  go_enter Try.func101, Try.ntmps101
  go_upto_region 2 with (first | (with_reducible show AtS 82 4 ..; go_must (refine wpList_store_blk rfl _ _ _ rfl rfl w.heap.size 0 rfl [.int .u64 (77 + (n : Int)), .int .u64 0] rfl _ sz_row rfl rfl _ _ (heap_alloc_new w (.cells #[.int .u64 0, .int .u64 0] 82)) rfl [.int .u64 (77 + (n : Int)), .int .u64 0] rfl ?_; intro w1 hM1 hO1; have hb1 := (later_alloc w (.cells #[.int .u64 0, .int .u64 0] 82)).trans (hO1.below (Nat.le_refl _)); have hK1 := blk_later hb1 hK; have hcK1 := blk_cell hK1)) | (with_reducible show AtS 3 20 ..; go_must (refine wpList_store_cell rfl _ _ _ rfl rfl Kb 0 rfl (.int .i64 ((n : Int) + 1)) rfl sz_intX rfl _ _ hK1 rfl [.int .i64 ((n : Int) + 1), vR, vP, .slice none 0 0, vV, .slice none 0 0, .slice none 0 0, .slice none 0 0, m0, m1, .slice none 0 0, m3, .slice none 0 0, .slice none 0 0, .slice none 0 0] rfl ?_; intro w2 hK2 hO2)))
  have hM2 := (hO2.block w.heap.size (by omega)).trans hM1
  have hC1 := hC.below hb1
  have gO2 := grown_only hO2
  have hC2 := hC1.kept gO2 (.inr (own_notin hC1.own hK1 hkin.sb)) (.inr (own_notin hC1.marks hK1 (by decide))) (hC1.off hK1 hkin.eb)
  have hs1 := own_below hs hb1
  have hs2 := World.ownsRow.kept hs1 gO2 (.inr (own_notin hs1 hK1 hkin.eb))
  have hF2 : Fr (Abook Kb (.slice sa sn sc) vR m0) w w2 := ((Fr.refl _ w).later hb1).grown gO2 (fun k e => .inl (.inl (by injection e with e; exact e.symm)))
  have hsz2 : w.heap.size < w2.heap.size := by rw [hO2.size]; exact (Array.getElem?_eq_some_iff.1 hM1).1
  have hsM : Value.ownBlock (.slice sa sn sc) ≠ some w.heap.size := fun e => by have := (World.ownsRow.lt hs _ e).2; omega
  have HC2 := hideU hC2
  have HF2 := hideU hF2
  have HS2 := hideU hs2
  have hneK : Value.ownBlock (.slice sa sn sc) ≠ some Kb := own_notin hs2 hK2 hkin.eb
  clear hC2 hF2 hC1 hs1 hcK hcK1 hK1 hM1 hO1 hO2 hb1 hs hC gO2
  go_wp2_with fail
  go_loopw [5] (fun i wr => ∃ k : Nat, k ≤ sn ∧ i = .int .i64 k ∧ Hid (∃ ys, wr.ownsRow 0 82 2 (.slice sa sn sc) sn ys ∧ ys.take (k * 2) = (List.replicate k (rowMk n)).flatten) ∧ Hid (w2.grownBy wr (Value.ownBlock (.slice sa sn sc)))) (fun i _ => sn - (intOf i).toNat)
  case atStart => exact ⟨0, Nat.zero_le _, rfl, ⟨_, hs2, by simp⟩, ⟨rfl, rfl, rfl, Nat.le_refl _, fun _ _ _ => rfl⟩⟩
  case round =>
    clear hs2
    obtain ⟨k, hk, rfl, HO, HG⟩ := hrel
    have hMr := (HG.out.block w.heap.size hsz2 (Ne.symm hsM)).trans hM2
    by_cases hlt : k < sn
    · obtain ⟨ys, hown, hys⟩ := HO.out
      rcases hown.2 with ⟨_, hz⟩ | ⟨gb, cap, cur2, hv, hbg, hgg, hnc, hcm, hcs, htk⟩
      · omega
      · simp only [Value.slice.injEq] at hv
        obtain ⟨rfl, _, rfl⟩ := hv
        have hW : wr.heap[gb]? = some (.cells cur2.toList.toArray 82) := by rw [hgg]
        have hdk : decide ((k : Int) < (sn : Int)) = true := by simp; omega
        have hi1 : (0 : Int) ≤ (k : Int) := by omega
        have hi2 : (k : Int) < (sn : Int) := by omega
        have hcl2 : cur2.toList.length = sc * 2 := by simpa using hcs
        have hfit : Nat.ble (k * 2 + 2) cur2.toList.length = true := by rw [hcl2]; simp [Nat.ble_eq]; omega
        obtain ⟨zs, hzs⟩ : ∃ zs, zs = cur2.toList.take (k * 2) ++ [.int .u64 (77 + (n : Int)), .int .u64 0] ++ cur2.toList.drop (k * 2 + 2) := ⟨_, rfl⟩
        have hzl : zs.length = cur2.size := by rw [hzs, hcs]; simp; omega
        have HYS : Hid (zs.take ((k + 1) * 2) = (List.replicate (k + 1) (rowMk n)).flatten) := by
          show _ = _
          rw [hzs]
          refine fill_step (cs := rowMk n) rfl ?_ (by rw [hcl2]; exact Nat.mul_le_mul_right _ (Nat.le_trans hlt hnc))
          rw [← hys, ← htk, List.take_take, Nat.min_eq_left (Nat.mul_le_mul_right _ hk)]
        clear hown hgg HO hys htk
        go_wp2_with (first | (with_reducible show AtL 29 82 ..; go_must (refine wpList_load_blk rfl _ _ rfl w.heap.size 0 rfl 2 _ Try.underlying82 rfl sz_row _ _ hMr rfl [.int .u64 (77 + (n : Int)), .int .u64 0] rfl ?_)) | (with_reducible show AtS 82 30 ..; go_must (refine wpList_store_blk rfl _ _ _ rfl rfl gb (k * 2) rfl [.int .u64 (77 + (n : Int)), .int .u64 0] rfl _ sz_row rfl rfl _ _ hW hfit zs hzs.symm ?_; intro w9 hW9 hO9)))
        go_roundw
        case rel =>
          refine ⟨k + 1, by omega, by go_num, ⟨_, own_storedX hbg hnc hcm hcs hzl hW9, ?_⟩, ?_⟩
          · rw [List.take_take, Nat.min_eq_left (Nat.mul_le_mul_right _ hlt)]
            exact HYS.out
          · exact ⟨hO9.os.trans HG.out.os, hO9.tape.trans HG.out.tape, hO9.output.trans HG.out.output, by rw [hO9.size]; exact HG.out.size, fun b hb hne => (hO9.block b (fun e => hne (by rw [e]; rfl))).trans (HG.out.block b hb hne)⟩
        case measure => simp [intOf]; omega
    · have hdk : decide ((k : Int) < (sn : Int)) = false := by simp; omega
      have hkn : sn = k := by omega
      subst hkn
      have hm : Marked wr 82 2 ⟨sa, sn, sc⟩ (rowMk n) := by
        obtain ⟨ys, hown, hys⟩ := HO.out
        have : ys = (List.replicate sn (rowMk n)).flatten := by rw [← hys, List.take_of_length_le (by rw [hown.1]; exact Nat.le_refl _)]
        rw [this] at hown
        exact hown
      have RS : Hid (RowSt 82 30 2 rowMk (fun S M => #[.int .i64 ((n : Int) + 1), S, vP, .slice none 0 0, vV, .slice none 0 0, .slice none 0 0, .slice none 0 0, M, m1, .slice none 0 0, m3, .slice none 0 0, .slice none 0 0, .slice none 0 0]) w wr (Abook Kb (.slice sa sn sc) vR m0) Kb w.heap.size n vR m0 ⟨sa, sn, sc⟩ R R (fun c => OffB (some c) R)) := by
        have o1 := own_apartX HC2.out.own HS2.out (Ne.symm hkin.es)
        have o2 := own_apartX HC2.out.marks HS2.out (Ne.symm hkin.ei)
        have hC3 := HC2.out.kept HG.out o1 o2 hoff
        refine ⟨(HG.out.block Kb (by omega) (Ne.symm hneK)).trans hK2, hMr, hC3.own, hC3.marks, hC3.all, fun i s m hi => ?_, hm, HF2.out.grown HG.out (fun k e => .inl (.inr (.inl e.symm))), .inl rfl, by omega, fun k e => .inl (.inr (.inr (.inl e.symm))), fun k e => .inl (.inr (.inr (.inr e.symm))), fun k e => .inl (.inr (.inl e.symm)), fun c _ _ h => h, hsM, hC3.bnd, by omega⟩
        cases hb : s.val.ownBlock with
        | none => exact .inl rfl
        | some c => exact .inr (.inl fun e => hoff i s m hi c hb e.symm)
      clear hm HO HG hMr hM2 hK2 hneK hsM
      go_wp2_with fail
      go_loopw [1, 6] (fun v i wx => ∃ (j : Nat) (S M : Value) (ta : Option Addr) (tl tc : Nat) (E : List (Sl × Int)), v = .slice ta tl tc ∧ i = .int .i64 j ∧ j ≤ 4 ∧ Hid (tl = sn + j) ∧ Hid (E.length = R.length + j) ∧ Hid (RowSt 82 30 2 rowMk (fun S M => #[.int .i64 ((n : Int) + 1), S, vP, .slice none 0 0, vV, .slice none 0 0, .slice none 0 0, .slice none 0 0, M, m1, .slice none 0 0, m3, .slice none 0 0, .slice none 0 0, .slice none 0 0]) w wx (Abook Kb (.slice sa sn sc) vR m0) Kb w.heap.size n S M ⟨ta, tl, tc⟩ E E (fun c => OffB (some c) R))) (fun _ i _ => 4 - (intOf i).toNat)
      case atStart => exact ⟨0, _, _, sa, sn, sc, R, rfl, rfl, by omega, rfl, rfl, RS⟩
      case round =>
        clear RS hdk
        obtain ⟨j, S, M, ta, tl, tc, E, rfl, rfl, hj, HTL, HEL0, RS⟩ := hrel
        have HEL : Hid (E.length ≤ 10004) := by have := HEL0.out; show _ ≤ _; omega
        have hcK9 := blk_cell RS.out.blk
        by_cases hj4 : j < 4
        · have hdj : decide ((j : Int) < 4) = true := by simp; omega
          go_upto_region 10 with (first | (with_reducible show wpList _ _ _ ({ dst := some 42, op := Op.call _, type := _, pos := _, after := _, guard := none } :: _) _ _; go_must (refine wpList_append_new _ rfl _ _ 48 rfl 0 30 ir (.slice none 0 0) 1 24 Try.underlying48 hir hrz0 hrz1 hrz2 rfl (by decide) S E.length (E.map fun (x : Sl × Int) => x.1.val) rfl (World.ownsRow.alloc RS.out.own _) _ 1 1 [.slice ta tl tc] rfl rfl ?_ ?_ ?_ ?_ (Nat.zero_le _) ?_; (· exact new_cells rfl); (· exact one_cellsU rfl); (· (have := HEL.out; unfold maxLen; omega)); (· (have := HEL.out; omega)); intro S' w5 ho5 hg5; have hK5 := hg5.blk (blk_later (later_alloc _ _) RS.out.blk) (Ne.symm (own_notin RS.out.own RS.out.blk hkin.sb)))) | (with_reducible show AtS 48 44 ..; go_must (refine wpList_store_cell rfl _ _ _ rfl rfl Kb 1 rfl S' rfl sz_rowssX (own_oneV ho5) _ _ hK5 rfl [.int .i64 ((n : Int) + 1), S', vP, .slice none 0 0, vV, .slice none 0 0, .slice none 0 0, .slice none 0 0, M, m1, .slice none 0 0, m3, .slice none 0 0, .slice none 0 0, .slice none 0 0] rfl ?_; intro w6 hW6 hO6)))
          have RS1 := hideU (RowSt.join hkin RS.out ho5 hg5 hW6 hO6)
          clear RS ho5 hg5 hW6 hO6 hK5 hcK9
          have hcK9 := blk_cell RS1.out.blk
          have hfK9 := blkF (Below.refl _ w6) RS1.out.blk
          have hltK := (Array.getElem?_eq_some_iff.1 RS1.out.blk).1
          have hc0 : w6.cell? ⟨Kb, 0, none⟩ = some (.int .i64 ((n : Int) + 1)) := hcK9 0
          have hcA := fun (o : Obj) => blk_cell (blk_later (later_alloc w6 o) RS1.out.blk)
          have hw4 : (n : Int) + 1 - 1 = (n : Int) := by omega
          have hw5 : IntKind.i64.wrap (n : Int) = (n : Int) := by rw [IntKind.wrap_i64]; omega
          have hoA := World.ownsRow.alloc RS1.out.marks (.cells #[.int .i64 n] 3)
          go_cut [4] from 31 to 64 (fun s wx => s = .pointer (some ⟨w.heap.size, 0, none⟩) ∧ ∃ M' : Value, Hid (RowSt 82 30 2 rowMk (fun S M => #[.int .i64 ((n : Int) + 1), S, vP, .slice none 0 0, vV, .slice none 0 0, .slice none 0 0, .slice none 0 0, M, m1, .slice none 0 0, m3, .slice none 0 0, .slice none 0 0, .slice none 0 0]) w wx (Abook Kb (.slice sa sn sc) vR m0) Kb w.heap.size n S' M' ⟨ta, tl, tc⟩ (E ++ [(⟨ta, tl, tc⟩, (n : Int))]) (E ++ [(⟨ta, tl, tc⟩, (n : Int))]) (fun c => OffB (some c) R)))
          case first =>
            refine wp_region_noPanic ?_
            refine wp_region_held_drew (S := (fun w' => w'.cell? ⟨Kb, 0, none⟩ = some (.int .i64 ((n : Int) + 1)))) (by kernel_rfl) (hc0) (fun hHeld => ?_)
            refine wpAnyH_take (i := 0) (oi := _) (v := ?_) rfl (by kernel_rfl) (by kernel_rfl) (by kernel_rfl) (fun _ _ _ h => h) (Or.inl ⟨by rfl, ?_⟩) (by assumption) ?_
            rotate_left 1
            · intro w hSw
              (try dsimp only at hSw)
              go_simp
              try with_reducible rfl
            try simp only [Act.put, List.setIfInBounds_toArray]
            refine wpAnyH_take (i := 1) (oi := _) (v := ?_) rfl (by kernel_rfl) (by kernel_rfl) (by kernel_rfl) (fun _ _ _ h => h) (Or.inl ⟨by rfl, ?_⟩) (by assumption) ?_
            rotate_left 1
            · intro w hSw
              (try dsimp only at hSw)
              go_simp
              try with_reducible rfl
            try simp only [Act.put]
            refine wpAnyH_take (i := 2) (oi := _) (v := ?_) rfl (by kernel_rfl) (by kernel_rfl) (by kernel_rfl) (fun _ _ _ h => h) (Or.inl ⟨by rfl, ?_⟩) (by assumption) ?_
            rotate_left 1
            · intro w hSw
              (try dsimp only at hSw)
              go_simp
              try with_reducible rfl
            try simp only [Act.put]
            refine wpAnyH_take (i := 3) (oi := _) (v := ?_) rfl (by kernel_rfl) (by kernel_rfl) (by kernel_rfl) (fun _ _ _ h => h) (Or.inl ⟨by rfl, ?_⟩) (by assumption) ?_
            rotate_left 1
            · intro w hSw
              (try dsimp only at hSw)
              go_simp
              try with_reducible rfl
            try simp only [Act.put]
            refine wpAnyH_take (i := 4) (oi := _) (v := ?_) rfl (by kernel_rfl) (by kernel_rfl) (by kernel_rfl) (fun _ _ _ h => h) (Or.inl ⟨by rfl, ?_⟩) (by assumption) ?_
            rotate_left 1
            · intro w hSw
              (try dsimp only at hSw)
              go_simp
              try with_reducible rfl
            try simp only [Act.put]
            refine wpAnyH_take (i := 6) (oi := _) (v := ?_) rfl (by kernel_rfl) (by kernel_rfl) (by kernel_rfl) (fun _ _ _ h => h) (Or.inl ⟨by rfl, ?_⟩) (by assumption) ?_
            rotate_left 1
            · intro w hSw
              (try dsimp only at hSw)
              go_simp
              try with_reducible rfl
            try simp only [Act.put]
            refine wpAnyH_take (i := 7) (oi := _) (v := ?_) rfl (by kernel_rfl) (by kernel_rfl) (by kernel_rfl) (fun _ _ _ h => h) (Or.inl ⟨by rfl, ?_⟩) (by assumption) ?_
            rotate_left 1
            · intro w hSw
              (try dsimp only at hSw)
              go_simp
              try with_reducible rfl
            try simp only [Act.put]
            refine wpAnyH_take (i := 8) (oi := _) (v := ?_) rfl (by kernel_rfl) (by kernel_rfl) (by kernel_rfl) (fun _ _ _ h => h) (Or.inl ⟨by rfl, ?_⟩) (by assumption) ?_
            rotate_left 1
            · intro w hSw
              (try dsimp only at hSw)
              go_simp
              try with_reducible rfl
            try simp only [Act.put]
            refine wpAnyH_take (i := 9) (oi := _) (v := ?_) rfl (by kernel_rfl) (by kernel_rfl) (by kernel_rfl) (fun _ _ _ h => h) (Or.inl ⟨by rfl, ?_⟩) (by assumption) ?_
            rotate_left 1
            · intro w hSw
              (try dsimp only at hSw)
              go_simp
              try with_reducible rfl
            try simp only [Act.put]
            refine wpAnyH_take (i := 10) (oi := _) (v := ?_) rfl (by kernel_rfl) (by kernel_rfl) (by kernel_rfl) (fun _ _ _ h => h) (Or.inl ⟨by rfl, ?_⟩) (by assumption) ?_
            rotate_left 1
            · intro w hSw
              (try dsimp only at hSw)
              go_simp
              try with_reducible rfl
            try simp only [Act.put]
            refine wpAnyH_take (i := 13) (oi := _) (v := ?_) rfl (by kernel_rfl) (by kernel_rfl) (by kernel_rfl) (fun _ _ _ h => h) (Or.inl ⟨by rfl, ?_⟩) (by assumption) ?_
            rotate_left 1
            · intro w hSw
              (try dsimp only at hSw)
              go_simp
              try with_reducible rfl
            try simp only [Act.put]
            refine wpAnyH_take (i := 14) (oi := _) (v := ?_) rfl (by kernel_rfl) (by kernel_rfl) (by kernel_rfl) (fun _ _ _ h => h) (Or.inl ⟨by rfl, ?_⟩) (by assumption) ?_
            rotate_left 1
            · intro w hSw
              (try dsimp only at hSw)
              go_simp
              try with_reducible rfl
            try simp only [Act.put]
            refine wpAnyH_ready (rs := [5, 11]) (by kernel_rfl) (by simp) ?_
            refine AllReadyH.cons (o := _) rfl (fun K hK => ?_) (AllReadyH.cons (o := _) rfl (fun K hK => ?_) AllReadyH.nil)
            · go_simp
              refine hK.out _ _ (hc0) (fun hHeld => ?_)
              clear hK K
              try simp only [Act.put, List.setIfInBounds_toArray, List.set_cons_zero, List.set_cons_succ]
              refine wpAnyH_ready (rs := [11]) (by kernel_rfl) (by simp) ?_
              refine AllReadyH.cons (o := _) rfl (fun K hK => ?_) AllReadyH.nil
              go_simp
              refine hK.out _ _ (hcA _ 0) (fun hHeld => ?_)
              clear hK K
              try simp only [Act.put, List.setIfInBounds_toArray, List.set_cons_zero, List.set_cons_succ]
              refine wpAnyH_ready (rs := [12]) (by kernel_rfl) (by simp) ?_
              refine AllReadyH.cons (o := _) rfl (fun K hK => ?_) AllReadyH.nil
              refine step_append_new rfl _ _ 55 rfl 0 3 ii (.int .i64 0) 1 8 Try.underlying55 hii hiz0 hiz1 hiz2 rfl (by decide) M E.length (E.map fun (x : Sl × Int) => Value.int .i64 x.2) rfl hoA ⟨w6.heap.size, 0, none⟩ 1 1 [.int .i64 n] rfl rfl (new_cells rfl) (one_cellsU rfl) (by have := HEL.out; unfold maxLen; omega) (by have := HEL.out; omega) (Nat.zero_le _) ?_; intro M' w' ho hg; obtain ⟨ma, ml, mc, rfl⟩ := own_shape ho; have hKn := (undrewX hg).blk (blk_later (later_alloc w6 _) RS1.out.blk) (Ne.symm (own_notin RS1.out.marks RS1.out.blk (by decide))); have RS2 := hideU (RowSt.count hkin RS1.out ho (undrewX hg) (by rw [heap_setCell_same w' Kb 8 _ _ _ hKn]; rfl) (setCell_only w' Kb 8 (.slice ma ml mc))); have hcn := blk_cell hKn; have hfn := blkF (Below.refl _ w') hKn; clear ho hg hKn
              refine hK.out _ _ (hcn 0) (fun hHeld => ?_)
              clear hK K
              try simp only [Act.put, List.setIfInBounds_toArray]
              refine wpAnyH_take (i := 15) (oi := _) (v := ?_) rfl (by kernel_rfl) (by kernel_rfl) (by kernel_rfl) (fun _ _ _ h => h) (Or.inl ⟨by rfl, ?_⟩) (by assumption) ?_
              rotate_left 1
              · intro w hSw
                (try dsimp only at hSw)
                go_simp
                try with_reducible rfl
              try simp only [Act.put]
              refine wpAnyH_ready (rs := [16]) (by kernel_rfl) (by simp) ?_
              refine AllReadyH.cons (o := _) rfl (fun K hK => ?_) AllReadyH.nil
              go_simp
              refine hK.out _ _ ((blk_cell RS2.out.blk 0)) (fun hHeld => ?_)
              clear hK K
              try simp only [Act.put, List.setIfInBounds_toArray, List.set_cons_zero, List.set_cons_succ]
              refine wpAnyH_done (by kernel_rfl) ?_ _
              refine NoPanic.normal ?_
              go_wp2_with fail
              go_meet
              exact ⟨rfl, _, RS2⟩
            · go_simp
              refine hK.out _ _ (hcA _ 0) (fun hHeld => ?_)
              clear hK K
              try simp only [Act.put, List.setIfInBounds_toArray, List.set_cons_zero, List.set_cons_succ]
              refine wpAnyH_ready (rs := [5]) (by kernel_rfl) (by simp) ?_
              refine AllReadyH.cons (o := _) rfl (fun K hK => ?_) AllReadyH.nil
              go_simp
              refine hK.out _ _ (hcA _ 0) (fun hHeld => ?_)
              clear hK K
              try simp only [Act.put, List.setIfInBounds_toArray, List.set_cons_zero, List.set_cons_succ]
              refine wpAnyH_ready (rs := [12]) (by kernel_rfl) (by simp) ?_
              refine AllReadyH.cons (o := _) rfl (fun K hK => ?_) AllReadyH.nil
              refine step_append_new rfl _ _ 55 rfl 0 3 ii (.int .i64 0) 1 8 Try.underlying55 hii hiz0 hiz1 hiz2 rfl (by decide) M E.length (E.map fun (x : Sl × Int) => Value.int .i64 x.2) rfl hoA ⟨w6.heap.size, 0, none⟩ 1 1 [.int .i64 n] rfl rfl (new_cells rfl) (one_cellsU rfl) (by have := HEL.out; unfold maxLen; omega) (by have := HEL.out; omega) (Nat.zero_le _) ?_; intro M' w' ho hg; obtain ⟨ma, ml, mc, rfl⟩ := own_shape ho; have hKn := (undrewX hg).blk (blk_later (later_alloc w6 _) RS1.out.blk) (Ne.symm (own_notin RS1.out.marks RS1.out.blk (by decide))); have RS2 := hideU (RowSt.count hkin RS1.out ho (undrewX hg) (by rw [heap_setCell_same w' Kb 8 _ _ _ hKn]; rfl) (setCell_only w' Kb 8 (.slice ma ml mc))); have hcn := blk_cell hKn; have hfn := blkF (Below.refl _ w') hKn; clear ho hg hKn
              refine hK.out _ _ (hcn 0) (fun hHeld => ?_)
              clear hK K
              try simp only [Act.put, List.setIfInBounds_toArray]
              refine wpAnyH_take (i := 15) (oi := _) (v := ?_) rfl (by kernel_rfl) (by kernel_rfl) (by kernel_rfl) (fun _ _ _ h => h) (Or.inl ⟨by rfl, ?_⟩) (by assumption) ?_
              rotate_left 1
              · intro w hSw
                (try dsimp only at hSw)
                go_simp
                try with_reducible rfl
              try simp only [Act.put]
              refine wpAnyH_ready (rs := [16]) (by kernel_rfl) (by simp) ?_
              refine AllReadyH.cons (o := _) rfl (fun K hK => ?_) AllReadyH.nil
              go_simp
              refine hK.out _ _ ((blk_cell RS2.out.blk 0)) (fun hHeld => ?_)
              clear hK K
              try simp only [Act.put, List.setIfInBounds_toArray, List.set_cons_zero, List.set_cons_succ]
              refine wpAnyH_done (by kernel_rfl) ?_ _
              refine NoPanic.normal ?_
              go_wp2_with fail
              go_meet
              exact ⟨rfl, _, RS2⟩

          case rest =>
            obtain ⟨rfl, M', RS2⟩ := hcut
            clear RS1 hcK9 hfK9 hltK hc0 hcA hoA
            have hMk : wc.heap[w.heap.size]? = some (.cells #[.int .u64 (77 + (n : Int)), .int .u64 0] 82) := RS2.out.mark
            have htm : wc.ownsRow 0 82 2 (.slice ta tl tc) tl (List.replicate tl (rowMk n)).flatten := RS2.out.tm
            have HTB : Hid (tl ≤ 260) := by have := HTL.out; show _ ≤ _; omega
            go_wp2_with (first | (with_reducible show AtL 62 82 ..; go_must (refine wpList_load_blk rfl _ _ rfl w.heap.size 0 rfl 2 _ Try.underlying82 rfl sz_row _ _ hMk rfl [.int .u64 (77 + (n : Int)), .int .u64 0] rfl ?_)) | (with_reducible show wpList _ _ _ ({ dst := some 64, op := Op.call _, type := _, pos := _, after := _, guard := none } :: _) _ _; go_must (refine wpList_append_keep _ rfl _ _ 30 rfl 0 82 i0 (.agg #[.int .u64 0, .int .u64 0]) 2 16 Try.underlying30 hi0 hz0 hz1 hz2 rfl (by decide) (.slice ta tl tc) tl (List.replicate tl (rowMk n)).flatten rfl (World.ownsRow.alloc htm _) _ 1 1 [.int .u64 (77 + (n : Int)), .int .u64 0] rfl rfl ?_ ?_ ?_ ?_ (Nat.zero_le _) ?_; (· exact new_cells rfl); (· exact one_cellsU rfl); (· (have := HTB.out; unfold maxLen; omega)); (· (have := HTB.out; omega)); intro v' w7 ho7 hg7 hk7; obtain ⟨ua, ul, uc, rfl⟩ := own_shape ho7)))
            have hul := own_lenX ho7
            go_roundw
            case rel => exact ⟨j + 1, _, _, ua, ul, uc, E ++ [(⟨ta, tl, tc⟩, (n : Int))], rfl, by go_num, by omega, (by have := HTL.out; show _ = _; omega), (by have := HEL0.out; show _ = _; simp; omega), RowSt.longer (t := ⟨ta, tl, tc⟩) (t' := ⟨ua, ul, uc⟩) hkin rfl (by decide) RS2.out hul ho7 hg7 hk7⟩
            case measure => simp [intOf]; omega
        · have hdj : decide ((j : Int) < 4) = false := by simp; omega
          have hj5 : j = 4 := by omega
          subst hj5
          go_wp2_with fail
          go_end0
          exact ⟨rfl, S, M, E, RS.out.blk, ⟨RS.out.own, RS.out.marks, RS.out.all, RS.out.bnd⟩, HEL0.out, RS.out.fr, RS.out.off, RS.out.sS, RS.out.sM⟩

end Go.Proofs.Ytignemioillaiaa

namespace Go.Proofs.Ytignemioillaiaa
open Go.RowKit


set_option maxHeartbeats 8000000 in
set_option maxRecDepth 100000 in
theorem book_reply (Kb n : Nat) (vR vP vV m0 m1 m3 : Value) (R : List (Sl × Int)) (sa : Option Addr) (sn sc : Nat) (xs : List Value) (w : World)
    (hK : w.heap[Kb]? = some (.cells #[.int .i64 n, vR, vP, .slice none 0 0, vV, .slice none 0 0, .slice none 0 0, .slice none 0 0, m0, m1, .slice none 0 0, m3, .slice none 0 0, .slice none 0 0, .slice none 0 0] 58)) (hC : Col w 31 27 7 repMk vP m1 R) (hs : w.ownsRow 0 27 7 (.slice sa sn sc) sn xs) (hoff : OffB (Value.ownBlock (.slice sa sn sc)) R) (hn : n ≤ 10000) (hsn : sn ≤ 255) (hRl : R.length ≤ 10000) :
    Calls Try.prog 102 #[.pointer (some ⟨Kb, 0, none⟩), .slice sa sn sc] w fun e w' => e = .returned (.tuple #[]) ∧ ∃ (S' M' : Value) (R' : List (Sl × Int)), w'.heap[Kb]? = some (.cells #[.int .i64 ((n : Int) + 1), vR, S', .slice none 0 0, vV, .slice none 0 0, .slice none 0 0, .slice none 0 0, m0, M', .slice none 0 0, m3, .slice none 0 0, .slice none 0 0, .slice none 0 0] 58) ∧ Col w' 31 27 7 repMk S' M' R' ∧ R'.length = R.length + 4 ∧ Fr (Abook Kb (.slice sa sn sc) vP m1) w w' ∧ (∀ c, c < w.heap.size → ¬ (Abook Kb (.slice sa sn sc) vP m1) c → OffB (some c) R → OffB (some c) R') ∧ (∀ k, S'.ownBlock = some k → (Abook Kb (.slice sa sn sc) vP m1) k ∨ w.heap.size ≤ k) ∧ (∀ k, M'.ownBlock = some k → (Abook Kb (.slice sa sn sc) vP m1) k ∨ w.heap.size ≤ k) := by
  obtain ⟨i0, hi0, hz0, hz1, hz2⟩ := info_parts info_rep
  obtain ⟨ir, hir, hrz0, hrz1, hrz2⟩ := info_parts info_repsX
  obtain ⟨ii, hii, hiz0, hiz1, hiz2⟩ := info_parts info_intX
  have hkin : Kinds 27 31 := ⟨by decide, by decide, by decide, by decide, by decide⟩
  have hKlt : Kb < w.heap.size := (Array.getElem?_eq_some_iff.1 hK).1
  have hw1 : IntKind.i64.wrap (77 + (n : Int)) = 77 + (n : Int) := by rw [IntKind.wrap_i64]; omega
  have hw2 : IntKind.u64.wrap (77 + (n : Int)) = 77 + (n : Int) := by have e : IntKind.u64.wrap (77 + (n : Int)) = (77 + (n : Int)) % 18446744073709551616 := rfl; rw [e]; omega
  have hw3 : IntKind.i64.wrap ((n : Int) + 1) = (n : Int) + 1 := by rw [IntKind.wrap_i64]; omega
  have hcK := blk_cell hK
  go_enter Try.func102, Try.ntmps102
  go_upto_region 2 with (first | (with_reducible show AtS 27 4 ..; go_must (refine wpList_store_blk rfl _ _ _ rfl rfl w.heap.size 0 rfl (rP 0 0 (77 + (n : Int)) 0 false 0 0) rfl _ sz_rep rfl rfl _ _ (heap_alloc_new w (.cells (List.toArray oxP) 27)) rfl (rP 0 0 (77 + (n : Int)) 0 false 0 0) rfl ?_; intro w1 hM1 hO1; have hb1 := (later_alloc w (.cells (List.toArray oxP) 27)).trans (hO1.below (Nat.le_refl _)); have hK1 := blk_later hb1 hK; have hcK1 := blk_cell hK1)) | (with_reducible show AtS 3 20 ..; go_must (refine wpList_store_cell rfl _ _ _ rfl rfl Kb 0 rfl (.int .i64 ((n : Int) + 1)) rfl sz_intX rfl _ _ hK1 rfl [.int .i64 ((n : Int) + 1), vR, vP, .slice none 0 0, vV, .slice none 0 0, .slice none 0 0, .slice none 0 0, m0, m1, .slice none 0 0, m3, .slice none 0 0, .slice none 0 0, .slice none 0 0] rfl ?_; intro w2 hK2 hO2)))
  have hM2 := (hO2.block w.heap.size (by omega)).trans hM1
  have hC1 := hC.below hb1
  have gO2 := grown_only hO2
  have hC2 := hC1.kept gO2 (.inr (own_notin hC1.own hK1 hkin.sb)) (.inr (own_notin hC1.marks hK1 (by decide))) (hC1.off hK1 hkin.eb)
  have hs1 := own_below hs hb1
  have hs2 := World.ownsRow.kept hs1 gO2 (.inr (own_notin hs1 hK1 hkin.eb))
  have hF2 : Fr (Abook Kb (.slice sa sn sc) vP m1) w w2 := ((Fr.refl _ w).later hb1).grown gO2 (fun k e => .inl (.inl (by injection e with e; exact e.symm)))
  have hsz2 : w.heap.size < w2.heap.size := by rw [hO2.size]; exact (Array.getElem?_eq_some_iff.1 hM1).1
  have hsM : Value.ownBlock (.slice sa sn sc) ≠ some w.heap.size := fun e => by have := (World.ownsRow.lt hs _ e).2; omega
  have HC2 := hideU hC2
  have HF2 := hideU hF2
  have HS2 := hideU hs2
  have hneK : Value.ownBlock (.slice sa sn sc) ≠ some Kb := own_notin hs2 hK2 hkin.eb
  clear hC2 hF2 hC1 hs1 hcK hcK1 hK1 hM1 hO1 hO2 hb1 hs hC gO2
  go_wp2_with fail
  go_loopw [5] (fun i wr => ∃ k : Nat, k ≤ sn ∧ i = .int .i64 k ∧ Hid (∃ ys, wr.ownsRow 0 27 7 (.slice sa sn sc) sn ys ∧ ys.take (k * 7) = (List.replicate k (repMk n)).flatten) ∧ Hid (w2.grownBy wr (Value.ownBlock (.slice sa sn sc)))) (fun i _ => sn - (intOf i).toNat)
  case atStart => exact ⟨0, Nat.zero_le _, rfl, ⟨_, hs2, by simp⟩, ⟨rfl, rfl, rfl, Nat.le_refl _, fun _ _ _ => rfl⟩⟩
  case round =>
    clear hs2
    obtain ⟨k, hk, rfl, HO, HG⟩ := hrel
    have hMr := (HG.out.block w.heap.size hsz2 (Ne.symm hsM)).trans hM2
    by_cases hlt : k < sn
    · obtain ⟨ys, hown, hys⟩ := HO.out
      rcases hown.2 with ⟨_, hz⟩ | ⟨gb, cap, cur2, hv, hbg, hgg, hnc, hcm, hcs, htk⟩
      · omega
      · simp only [Value.slice.injEq] at hv
        obtain ⟨rfl, _, rfl⟩ := hv
        have hW : wr.heap[gb]? = some (.cells cur2.toList.toArray 27) := by rw [hgg]
        have hdk : decide ((k : Int) < (sn : Int)) = true := by simp; omega
        have hi1 : (0 : Int) ≤ (k : Int) := by omega
        have hi2 : (k : Int) < (sn : Int) := by omega
        have hcl2 : cur2.toList.length = sc * 7 := by simpa using hcs
        have hfit : Nat.ble (k * 7 + 7) cur2.toList.length = true := by rw [hcl2]; simp [Nat.ble_eq]; omega
        obtain ⟨zs, hzs⟩ : ∃ zs, zs = cur2.toList.take (k * 7) ++ (rP 0 0 (77 + (n : Int)) 0 false 0 0) ++ cur2.toList.drop (k * 7 + 7) := ⟨_, rfl⟩
        have hzl : zs.length = cur2.size := by rw [hzs, hcs]; simp; omega
        have HYS : Hid (zs.take ((k + 1) * 7) = (List.replicate (k + 1) (repMk n)).flatten) := by
          show _ = _
          rw [hzs]
          refine fill_step (cs := repMk n) rfl ?_ (by rw [hcl2]; exact Nat.mul_le_mul_right _ (Nat.le_trans hlt hnc))
          rw [← hys, ← htk, List.take_take, Nat.min_eq_left (Nat.mul_le_mul_right _ hk)]
        clear hown hgg HO hys htk
        go_wp2_with (first | (with_reducible show AtL 29 27 ..; go_must (refine wpList_load_blk rfl _ _ rfl w.heap.size 0 rfl 7 _ Try.underlying27 rfl sz_rep _ _ hMr rfl (rP 0 0 (77 + (n : Int)) 0 false 0 0) rfl ?_)) | (with_reducible show AtS 27 30 ..; go_must (refine wpList_store_blk rfl _ _ _ rfl rfl gb (k * 7) rfl (rP 0 0 (77 + (n : Int)) 0 false 0 0) rfl _ sz_rep rfl rfl _ _ hW hfit zs hzs.symm ?_; intro w9 hW9 hO9)))
        go_roundw
        case rel =>
          refine ⟨k + 1, by omega, by go_num, ⟨_, own_storedX hbg hnc hcm hcs hzl hW9, ?_⟩, ?_⟩
          · rw [List.take_take, Nat.min_eq_left (Nat.mul_le_mul_right _ hlt)]
            exact HYS.out
          · exact ⟨hO9.os.trans HG.out.os, hO9.tape.trans HG.out.tape, hO9.output.trans HG.out.output, by rw [hO9.size]; exact HG.out.size, fun b hb hne => (hO9.block b (fun e => hne (by rw [e]; rfl))).trans (HG.out.block b hb hne)⟩
        case measure => simp [intOf]; omega
    · have hdk : decide ((k : Int) < (sn : Int)) = false := by simp; omega
      have hkn : sn = k := by omega
      subst hkn
      have hm : Marked wr 27 7 ⟨sa, sn, sc⟩ (repMk n) := by
        obtain ⟨ys, hown, hys⟩ := HO.out
        have : ys = (List.replicate sn (repMk n)).flatten := by rw [← hys, List.take_of_length_le (by rw [hown.1]; exact Nat.le_refl _)]
        rw [this] at hown
        exact hown
      have RS : Hid (RowSt 27 31 7 repMk (fun S M => #[.int .i64 ((n : Int) + 1), vR, S, .slice none 0 0, vV, .slice none 0 0, .slice none 0 0, .slice none 0 0, m0, M, .slice none 0 0, m3, .slice none 0 0, .slice none 0 0, .slice none 0 0]) w wr (Abook Kb (.slice sa sn sc) vP m1) Kb w.heap.size n vP m1 ⟨sa, sn, sc⟩ R R (fun c => OffB (some c) R)) := by
        have o1 := own_apartX HC2.out.own HS2.out (Ne.symm hkin.es)
        have o2 := own_apartX HC2.out.marks HS2.out (Ne.symm hkin.ei)
        have hC3 := HC2.out.kept HG.out o1 o2 hoff
        refine ⟨(HG.out.block Kb (by omega) (Ne.symm hneK)).trans hK2, hMr, hC3.own, hC3.marks, hC3.all, fun i s m hi => ?_, hm, HF2.out.grown HG.out (fun k e => .inl (.inr (.inl e.symm))), .inl rfl, by omega, fun k e => .inl (.inr (.inr (.inl e.symm))), fun k e => .inl (.inr (.inr (.inr e.symm))), fun k e => .inl (.inr (.inl e.symm)), fun c _ _ h => h, hsM, hC3.bnd, by omega⟩
        cases hb : s.val.ownBlock with
        | none => exact .inl rfl
        | some c => exact .inr (.inl fun e => hoff i s m hi c hb e.symm)
      clear hm HO HG hMr hM2 hK2 hneK hsM
      go_wp2_with fail
      go_loopw [1, 6] (fun v i wx => ∃ (j : Nat) (S M : Value) (ta : Option Addr) (tl tc : Nat) (E : List (Sl × Int)), v = .slice ta tl tc ∧ i = .int .i64 j ∧ j ≤ 4 ∧ Hid (tl = sn + j) ∧ Hid (E.length = R.length + j) ∧ Hid (RowSt 27 31 7 repMk (fun S M => #[.int .i64 ((n : Int) + 1), vR, S, .slice none 0 0, vV, .slice none 0 0, .slice none 0 0, .slice none 0 0, m0, M, .slice none 0 0, m3, .slice none 0 0, .slice none 0 0, .slice none 0 0]) w wx (Abook Kb (.slice sa sn sc) vP m1) Kb w.heap.size n S M ⟨ta, tl, tc⟩ E E (fun c => OffB (some c) R))) (fun _ i _ => 4 - (intOf i).toNat)
      case atStart => exact ⟨0, _, _, sa, sn, sc, R, rfl, rfl, by omega, rfl, rfl, RS⟩
      case round =>
        clear RS hdk
        obtain ⟨j, S, M, ta, tl, tc, E, rfl, rfl, hj, HTL, HEL0, RS⟩ := hrel
        have HEL : Hid (E.length ≤ 10004) := by have := HEL0.out; show _ ≤ _; omega
        have hcK9 := blk_cell RS.out.blk
        by_cases hj4 : j < 4
        · have hdj : decide ((j : Int) < 4) = true := by simp; omega
          go_upto_region 10 with (first | (with_reducible show wpList _ _ _ ({ dst := some 42, op := Op.call _, type := _, pos := _, after := _, guard := none } :: _) _ _; go_must (refine wpList_append_new _ rfl _ _ 49 rfl 0 31 ir (.slice none 0 0) 1 24 Try.underlying49 hir hrz0 hrz1 hrz2 rfl (by decide) S E.length (E.map fun (x : Sl × Int) => x.1.val) rfl (World.ownsRow.alloc RS.out.own _) _ 1 1 [.slice ta tl tc] rfl rfl ?_ ?_ ?_ ?_ (Nat.zero_le _) ?_; (· exact new_cells rfl); (· exact one_cellsU rfl); (· (have := HEL.out; unfold maxLen; omega)); (· (have := HEL.out; omega)); intro S' w5 ho5 hg5; have hK5 := hg5.blk (blk_later (later_alloc _ _) RS.out.blk) (Ne.symm (own_notin RS.out.own RS.out.blk hkin.sb)))) | (with_reducible show AtS 49 44 ..; go_must (refine wpList_store_cell rfl _ _ _ rfl rfl Kb 2 rfl S' rfl sz_repssX (own_oneV ho5) _ _ hK5 rfl [.int .i64 ((n : Int) + 1), vR, S', .slice none 0 0, vV, .slice none 0 0, .slice none 0 0, .slice none 0 0, m0, M, .slice none 0 0, m3, .slice none 0 0, .slice none 0 0, .slice none 0 0] rfl ?_; intro w6 hW6 hO6)))
          have RS1 := hideU (RowSt.join hkin RS.out ho5 hg5 hW6 hO6)
          clear RS ho5 hg5 hW6 hO6 hK5 hcK9
          have hcK9 := blk_cell RS1.out.blk
          have hfK9 := blkF (Below.refl _ w6) RS1.out.blk
          have hltK := (Array.getElem?_eq_some_iff.1 RS1.out.blk).1
          have hc0 : w6.cell? ⟨Kb, 0, none⟩ = some (.int .i64 ((n : Int) + 1)) := hcK9 0
          have hcA := fun (o : Obj) => blk_cell (blk_later (later_alloc w6 o) RS1.out.blk)
          have hw4 : (n : Int) + 1 - 1 = (n : Int) := by omega
          have hw5 : IntKind.i64.wrap (n : Int) = (n : Int) := by rw [IntKind.wrap_i64]; omega
          have hoA := World.ownsRow.alloc RS1.out.marks (.cells #[.int .i64 n] 3)
          go_cut [4] from 31 to 64 (fun s wx => s = .pointer (some ⟨w.heap.size, 0, none⟩) ∧ ∃ M' : Value, Hid (RowSt 27 31 7 repMk (fun S M => #[.int .i64 ((n : Int) + 1), vR, S, .slice none 0 0, vV, .slice none 0 0, .slice none 0 0, .slice none 0 0, m0, M, .slice none 0 0, m3, .slice none 0 0, .slice none 0 0, .slice none 0 0]) w wx (Abook Kb (.slice sa sn sc) vP m1) Kb w.heap.size n S' M' ⟨ta, tl, tc⟩ (E ++ [(⟨ta, tl, tc⟩, (n : Int))]) (E ++ [(⟨ta, tl, tc⟩, (n : Int))]) (fun c => OffB (some c) R)))
          case first =>
            refine wp_region_noPanic ?_
            refine wp_region_held_drew (S := (fun w' => w'.cell? ⟨Kb, 0, none⟩ = some (.int .i64 ((n : Int) + 1)))) (by kernel_rfl) (hc0) (fun hHeld => ?_)
            refine wpAnyH_take (i := 0) (oi := _) (v := ?_) rfl (by kernel_rfl) (by kernel_rfl) (by kernel_rfl) (fun _ _ _ h => h) (Or.inl ⟨by rfl, ?_⟩) (by assumption) ?_
            rotate_left 1
            · intro w hSw
              (try dsimp only at hSw)
              go_simp
              try with_reducible rfl
            try simp only [Act.put, List.setIfInBounds_toArray]
            refine wpAnyH_take (i := 1) (oi := _) (v := ?_) rfl (by kernel_rfl) (by kernel_rfl) (by kernel_rfl) (fun _ _ _ h => h) (Or.inl ⟨by rfl, ?_⟩) (by assumption) ?_
            rotate_left 1
            · intro w hSw
              (try dsimp only at hSw)
              go_simp
              try with_reducible rfl
            try simp only [Act.put]
            refine wpAnyH_take (i := 2) (oi := _) (v := ?_) rfl (by kernel_rfl) (by kernel_rfl) (by kernel_rfl) (fun _ _ _ h => h) (Or.inl ⟨by rfl, ?_⟩) (by assumption) ?_
            rotate_left 1
            · intro w hSw
              (try dsimp only at hSw)
              go_simp
              try with_reducible rfl
            try simp only [Act.put]
            refine wpAnyH_take (i := 3) (oi := _) (v := ?_) rfl (by kernel_rfl) (by kernel_rfl) (by kernel_rfl) (fun _ _ _ h => h) (Or.inl ⟨by rfl, ?_⟩) (by assumption) ?_
            rotate_left 1
            · intro w hSw
              (try dsimp only at hSw)
              go_simp
              try with_reducible rfl
            try simp only [Act.put]
            refine wpAnyH_take (i := 4) (oi := _) (v := ?_) rfl (by kernel_rfl) (by kernel_rfl) (by kernel_rfl) (fun _ _ _ h => h) (Or.inl ⟨by rfl, ?_⟩) (by assumption) ?_
            rotate_left 1
            · intro w hSw
              (try dsimp only at hSw)
              go_simp
              try with_reducible rfl
            try simp only [Act.put]
            refine wpAnyH_take (i := 6) (oi := _) (v := ?_) rfl (by kernel_rfl) (by kernel_rfl) (by kernel_rfl) (fun _ _ _ h => h) (Or.inl ⟨by rfl, ?_⟩) (by assumption) ?_
            rotate_left 1
            · intro w hSw
              (try dsimp only at hSw)
              go_simp
              try with_reducible rfl
            try simp only [Act.put]
            refine wpAnyH_take (i := 7) (oi := _) (v := ?_) rfl (by kernel_rfl) (by kernel_rfl) (by kernel_rfl) (fun _ _ _ h => h) (Or.inl ⟨by rfl, ?_⟩) (by assumption) ?_
            rotate_left 1
            · intro w hSw
              (try dsimp only at hSw)
              go_simp
              try with_reducible rfl
            try simp only [Act.put]
            refine wpAnyH_take (i := 8) (oi := _) (v := ?_) rfl (by kernel_rfl) (by kernel_rfl) (by kernel_rfl) (fun _ _ _ h => h) (Or.inl ⟨by rfl, ?_⟩) (by assumption) ?_
            rotate_left 1
            · intro w hSw
              (try dsimp only at hSw)
              go_simp
              try with_reducible rfl
            try simp only [Act.put]
            refine wpAnyH_take (i := 9) (oi := _) (v := ?_) rfl (by kernel_rfl) (by kernel_rfl) (by kernel_rfl) (fun _ _ _ h => h) (Or.inl ⟨by rfl, ?_⟩) (by assumption) ?_
            rotate_left 1
            · intro w hSw
              (try dsimp only at hSw)
              go_simp
              try with_reducible rfl
            try simp only [Act.put]
            refine wpAnyH_take (i := 10) (oi := _) (v := ?_) rfl (by kernel_rfl) (by kernel_rfl) (by kernel_rfl) (fun _ _ _ h => h) (Or.inl ⟨by rfl, ?_⟩) (by assumption) ?_
            rotate_left 1
            · intro w hSw
              (try dsimp only at hSw)
              go_simp
              try with_reducible rfl
            try simp only [Act.put]
            refine wpAnyH_take (i := 13) (oi := _) (v := ?_) rfl (by kernel_rfl) (by kernel_rfl) (by kernel_rfl) (fun _ _ _ h => h) (Or.inl ⟨by rfl, ?_⟩) (by assumption) ?_
            rotate_left 1
            · intro w hSw
              (try dsimp only at hSw)
              go_simp
              try with_reducible rfl
            try simp only [Act.put]
            refine wpAnyH_take (i := 14) (oi := _) (v := ?_) rfl (by kernel_rfl) (by kernel_rfl) (by kernel_rfl) (fun _ _ _ h => h) (Or.inl ⟨by rfl, ?_⟩) (by assumption) ?_
            rotate_left 1
            · intro w hSw
              (try dsimp only at hSw)
              go_simp
              try with_reducible rfl
            try simp only [Act.put]
            refine wpAnyH_ready (rs := [5, 11]) (by kernel_rfl) (by simp) ?_
            refine AllReadyH.cons (o := _) rfl (fun K hK => ?_) (AllReadyH.cons (o := _) rfl (fun K hK => ?_) AllReadyH.nil)
            · go_simp
              refine hK.out _ _ (hc0) (fun hHeld => ?_)
              clear hK K
              try simp only [Act.put, List.setIfInBounds_toArray, List.set_cons_zero, List.set_cons_succ]
              refine wpAnyH_ready (rs := [11]) (by kernel_rfl) (by simp) ?_
              refine AllReadyH.cons (o := _) rfl (fun K hK => ?_) AllReadyH.nil
              go_simp
              refine hK.out _ _ (hcA _ 0) (fun hHeld => ?_)
              clear hK K
              try simp only [Act.put, List.setIfInBounds_toArray, List.set_cons_zero, List.set_cons_succ]
              refine wpAnyH_ready (rs := [12]) (by kernel_rfl) (by simp) ?_
              refine AllReadyH.cons (o := _) rfl (fun K hK => ?_) AllReadyH.nil
              refine step_append_new rfl _ _ 55 rfl 0 3 ii (.int .i64 0) 1 8 Try.underlying55 hii hiz0 hiz1 hiz2 rfl (by decide) M E.length (E.map fun (x : Sl × Int) => Value.int .i64 x.2) rfl hoA ⟨w6.heap.size, 0, none⟩ 1 1 [.int .i64 n] rfl rfl (new_cells rfl) (one_cellsU rfl) (by have := HEL.out; unfold maxLen; omega) (by have := HEL.out; omega) (Nat.zero_le _) ?_; intro M' w' ho hg; obtain ⟨ma, ml, mc, rfl⟩ := own_shape ho; have hKn := (undrewX hg).blk (blk_later (later_alloc w6 _) RS1.out.blk) (Ne.symm (own_notin RS1.out.marks RS1.out.blk (by decide))); have RS2 := hideU (RowSt.count hkin RS1.out ho (undrewX hg) (by rw [heap_setCell_same w' Kb 9 _ _ _ hKn]; rfl) (setCell_only w' Kb 9 (.slice ma ml mc))); have hcn := blk_cell hKn; have hfn := blkF (Below.refl _ w') hKn; clear ho hg hKn
              refine hK.out _ _ (hcn 0) (fun hHeld => ?_)
              clear hK K
              try simp only [Act.put, List.setIfInBounds_toArray]
              refine wpAnyH_take (i := 15) (oi := _) (v := ?_) rfl (by kernel_rfl) (by kernel_rfl) (by kernel_rfl) (fun _ _ _ h => h) (Or.inl ⟨by rfl, ?_⟩) (by assumption) ?_
              rotate_left 1
              · intro w hSw
                (try dsimp only at hSw)
                go_simp
                try with_reducible rfl
              try simp only [Act.put]
              refine wpAnyH_ready (rs := [16]) (by kernel_rfl) (by simp) ?_
              refine AllReadyH.cons (o := _) rfl (fun K hK => ?_) AllReadyH.nil
              go_simp
              refine hK.out _ _ ((blk_cell RS2.out.blk 0)) (fun hHeld => ?_)
              clear hK K
              try simp only [Act.put, List.setIfInBounds_toArray, List.set_cons_zero, List.set_cons_succ]
              refine wpAnyH_done (by kernel_rfl) ?_ _
              refine NoPanic.normal ?_
              go_wp2_with fail
              go_meet
              exact ⟨rfl, _, RS2⟩
            · go_simp
              refine hK.out _ _ (hcA _ 0) (fun hHeld => ?_)
              clear hK K
              try simp only [Act.put, List.setIfInBounds_toArray, List.set_cons_zero, List.set_cons_succ]
              refine wpAnyH_ready (rs := [5]) (by kernel_rfl) (by simp) ?_
              refine AllReadyH.cons (o := _) rfl (fun K hK => ?_) AllReadyH.nil
              go_simp
              refine hK.out _ _ (hcA _ 0) (fun hHeld => ?_)
              clear hK K
              try simp only [Act.put, List.setIfInBounds_toArray, List.set_cons_zero, List.set_cons_succ]
              refine wpAnyH_ready (rs := [12]) (by kernel_rfl) (by simp) ?_
              refine AllReadyH.cons (o := _) rfl (fun K hK => ?_) AllReadyH.nil
              refine step_append_new rfl _ _ 55 rfl 0 3 ii (.int .i64 0) 1 8 Try.underlying55 hii hiz0 hiz1 hiz2 rfl (by decide) M E.length (E.map fun (x : Sl × Int) => Value.int .i64 x.2) rfl hoA ⟨w6.heap.size, 0, none⟩ 1 1 [.int .i64 n] rfl rfl (new_cells rfl) (one_cellsU rfl) (by have := HEL.out; unfold maxLen; omega) (by have := HEL.out; omega) (Nat.zero_le _) ?_; intro M' w' ho hg; obtain ⟨ma, ml, mc, rfl⟩ := own_shape ho; have hKn := (undrewX hg).blk (blk_later (later_alloc w6 _) RS1.out.blk) (Ne.symm (own_notin RS1.out.marks RS1.out.blk (by decide))); have RS2 := hideU (RowSt.count hkin RS1.out ho (undrewX hg) (by rw [heap_setCell_same w' Kb 9 _ _ _ hKn]; rfl) (setCell_only w' Kb 9 (.slice ma ml mc))); have hcn := blk_cell hKn; have hfn := blkF (Below.refl _ w') hKn; clear ho hg hKn
              refine hK.out _ _ (hcn 0) (fun hHeld => ?_)
              clear hK K
              try simp only [Act.put, List.setIfInBounds_toArray]
              refine wpAnyH_take (i := 15) (oi := _) (v := ?_) rfl (by kernel_rfl) (by kernel_rfl) (by kernel_rfl) (fun _ _ _ h => h) (Or.inl ⟨by rfl, ?_⟩) (by assumption) ?_
              rotate_left 1
              · intro w hSw
                (try dsimp only at hSw)
                go_simp
                try with_reducible rfl
              try simp only [Act.put]
              refine wpAnyH_ready (rs := [16]) (by kernel_rfl) (by simp) ?_
              refine AllReadyH.cons (o := _) rfl (fun K hK => ?_) AllReadyH.nil
              go_simp
              refine hK.out _ _ ((blk_cell RS2.out.blk 0)) (fun hHeld => ?_)
              clear hK K
              try simp only [Act.put, List.setIfInBounds_toArray, List.set_cons_zero, List.set_cons_succ]
              refine wpAnyH_done (by kernel_rfl) ?_ _
              refine NoPanic.normal ?_
              go_wp2_with fail
              go_meet
              exact ⟨rfl, _, RS2⟩

          case rest =>
            obtain ⟨rfl, M', RS2⟩ := hcut
            clear RS1 hcK9 hfK9 hltK hc0 hcA hoA
            have hMk : wc.heap[w.heap.size]? = some (.cells (List.toArray (rP 0 0 (77 + (n : Int)) 0 false 0 0)) 27) := RS2.out.mark
            have htm : wc.ownsRow 0 27 7 (.slice ta tl tc) tl (List.replicate tl (repMk n)).flatten := RS2.out.tm
            have HTB : Hid (tl ≤ 260) := by have := HTL.out; show _ ≤ _; omega
            go_wp2_with (first | (with_reducible show AtL 62 27 ..; go_must (refine wpList_load_blk rfl _ _ rfl w.heap.size 0 rfl 7 _ Try.underlying27 rfl sz_rep _ _ hMk rfl (rP 0 0 (77 + (n : Int)) 0 false 0 0) rfl ?_)) | (with_reducible show wpList _ _ _ ({ dst := some 64, op := Op.call _, type := _, pos := _, after := _, guard := none } :: _) _ _; go_must (refine wpList_append_keep _ rfl _ _ 31 rfl 0 27 i0 (.agg (List.toArray oxP)) 7 40 Try.underlying31 hi0 hz0 hz1 hz2 rfl (by decide) (.slice ta tl tc) tl (List.replicate tl (repMk n)).flatten rfl (World.ownsRow.alloc htm _) _ 1 1 (rP 0 0 (77 + (n : Int)) 0 false 0 0) rfl rfl ?_ ?_ ?_ ?_ (Nat.zero_le _) ?_; (· exact new_cells rfl); (· exact one_cellsU rfl); (· (have := HTB.out; unfold maxLen; omega)); (· (have := HTB.out; omega)); intro v' w7 ho7 hg7 hk7; obtain ⟨ua, ul, uc, rfl⟩ := own_shape ho7)))
            have hul := own_lenX ho7
            go_roundw
            case rel => exact ⟨j + 1, _, _, ua, ul, uc, E ++ [(⟨ta, tl, tc⟩, (n : Int))], rfl, by go_num, by omega, (by have := HTL.out; show _ = _; omega), (by have := HEL0.out; show _ = _; simp; omega), RowSt.longer (t := ⟨ta, tl, tc⟩) (t' := ⟨ua, ul, uc⟩) hkin rfl (by decide) RS2.out hul ho7 hg7 hk7⟩
            case measure => simp [intOf]; omega
        · have hdj : decide ((j : Int) < 4) = false := by simp; omega
          have hj5 : j = 4 := by omega
          subst hj5
          go_wp2_with fail
          go_end0
          exact ⟨rfl, S, M, E, RS.out.blk, ⟨RS.out.own, RS.out.marks, RS.out.all, RS.out.bnd⟩, HEL0.out, RS.out.fr, RS.out.off, RS.out.sS, RS.out.sM⟩

end Go.Proofs.Ytignemioillaiaa

