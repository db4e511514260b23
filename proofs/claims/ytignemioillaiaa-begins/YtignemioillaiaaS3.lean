/- The document's Begin. -/
import Derived.Test.YtignemioillaiaaS2
import Derived.Test.YtignemioillaiaaF4
namespace Go.Proofs.Ytignemioillaiaa
open Go.RowKit

theorem new_cellsS {W : World} {cs : List Value} {t : TypeId} {b : Nat} (hb : b = W.heap.size) : ∀ (j : Nat) (u : Value), cs[j]? = some u → (W.alloc (.cells cs.toArray t)).cell? ((⟨b, 0, none⟩ : Addr).add j) = some u := by
  intro j u h
  subst hb
  have hadd : (⟨W.heap.size, 0, none⟩ : Addr).add j = ⟨W.heap.size, j, none⟩ := by unfold Addr.add; split <;> simp_all
  rw [hadd, blk_cell (heap_alloc_new W _) j]
  simpa using h

/-- What the call owns stays owned when a list of another type grows. -/
theorem own_other {w w' : World} {base base' : Nat} {e e' : TypeId} {size size' : Nat} {v v' v'' : Value} {n n' : Nat} {xs xs' : List Value} (h : w.ownsRow base e size v n xs) (h' : w.ownsRow base' e' size' v' n' xs') (hne : e ≠ e') (hg : Grew w v' w' v'') : w'.ownsRow base e size v n xs := by
  refine h.kept hg.grown ?_
  rcases h.2 with ⟨rfl, _⟩ | ⟨g, cap, cur, rfl, hb, hgg, _⟩
  · exact .inl rfl
  · right
    intro he
    rcases h'.2 with ⟨rfl, _⟩ | ⟨g', cap', cur', rfl, hb', hgg', _⟩
    · simp [Value.ownBlock] at he
    · simp [Value.ownBlock] at he
      subst he
      rw [hgg] at hgg'
      simp at hgg'
      exact hne hgg'.2

theorem Grew.below_own {base : Nat} {w w' : World} {e : TypeId} {size n : Nat} {v v' : Value} {xs : List Value} (h : Grew w v w' v') (hown : w.ownsRow base e size v n xs) (hb : base ≤ w.heap.size) : Below base w w' :=
  (Below.refl base w).grown h.grown hb (fun k hk => (World.ownsRow.lt hown k hk).1)
theorem Grew.blk_own {base B : Nat} {w w' : World} {e : TypeId} {size n : Nat} {v v' : Value} {xs : List Value} {o : Obj} (h : Grew w v w' v') (hown : w.ownsRow base e size v n xs) (hB : B < base) (hW : w.heap[B]? = some o) : w'.heap[B]? = some o :=
  h.blk hW (by intro e; have := (World.ownsRow.lt hown B e.symm).1; omega)
theorem own_one {w : World} {base : Nat} {e : TypeId} {size : Nat} {v : Value} {n : Nat} {xs : List Value} (h : w.ownsRow base e size v n xs) : v.oneCell' = true := by
  obtain ⟨a, m, c, rfl⟩ := own_shape h; rfl

/-- The document's shard while it is begun: j lanes are there. -/
structure RB (w wr : World) (g : Int) (k j : Nat) (vM vO vI : Value) : Prop where
  cR : wr.heap[w.heap.size]? = some (.cells #[.int .u8 0, .int .u8 0, .slice none 0 0, .slice none 0 0, .slice none 0 0, .slice none 0 0, .slice none 0 0] 74)
  cS : wr.heap[w.heap.size + 1]? = some (.cells #[.int .u8 g, .int .u8 k, .slice none 0 0, vM, .slice none 0 0, vO, vI] 74)
  oM : wr.ownsRow (w.heap.size + 2) 64 2 vM 1 [.int .u64 0, .int .u8 0]
  oO : wr.ownsRow (w.heap.size + 2) 137 2 vO j (laneCells j j)
  oI : wr.ownsRow (w.heap.size + 2) 22 1 vI j (List.replicate j (Value.int .u32 0))
  bel : Below w.heap.size w wr
  sz : w.heap.size + 2 ≤ wr.heap.size

theorem hideS {p : Prop} (h : p) : Hid p := h
theorem sz_pcs : (Try.prog.info? 62).map (·.size) = some 1 := by kernel_rfl
theorem sz_lanes : (Try.prog.info? 71).map (·.size) = some 1 := by kernel_rfl
theorem sz_ins : (Try.prog.info? 72).map (·.size) = some 1 := by kernel_rfl

theorem one7 {a b : Int} {x y z : Value} (hx : x.oneCell' = true) (hy : y.oneCell' = true) (hz : z.oneCell' = true) : [Value.int .u8 a, .int .u8 b, .slice none 0 0, x, .slice none 0 0, y, z].all (·.oneCell') = true := by
  simp only [List.all_cons, hx, hy, hz]; rfl

theorem lane_more (j : Nat) : laneCells j j ++ [Value.int .u32 1, .slice none 0 0] = laneCells (j + 1) (j + 1) := by
  unfold laneCells
  rw [List.replicate_succ', Nat.sub_self, Nat.sub_self]
  simp
theorem one_cells {cs : List Value} (h : cs.all (·.oneCell') = true) : ∀ u ∈ cs, u.oneCell' = true := fun u hu => List.all_eq_true.1 h u hu

set_option maxHeartbeats 4000000 in
set_option maxRecDepth 100000 in
theorem ref_begin_t (g : Int) (k : Nat) (w : World) (h0 : 0 ≤ g) (h1 : g < k) (hk1 : 1 ≤ k) (hk4 : k ≤ 4) :
    Calls Try.prog 24 #[.int .i64 g, .int .i64 k] w fun e w' => ∃ vM vO vI, e = .returned (.tuple #[.agg #[.int .u8 g, .int .u8 k, .slice none 0 0, vM, .slice none 0 0, vO, vI], .int .i64 0]) ∧ w'.ownsRow (w.heap.size + 2) 64 2 vM 1 [.int .u64 0, .int .u8 0] ∧ w'.ownsRow (w.heap.size + 2) 137 2 vO k (laneCells k k) ∧ w'.ownsRow (w.heap.size + 2) 22 1 vI k (List.replicate k (Value.int .u32 0)) ∧ Below w.heap.size w w' := by
  obtain ⟨i0, hi0, hz0, hz1, hz2⟩ := info_parts info_lane
  obtain ⟨j0, hj0, hy0, hy1, hy2⟩ := info_parts info_u32
  obtain ⟨p0, hp0, hx0, hx1, hx2⟩ := info_parts info_pc
  have hd0 : decide ((k : Int) < 1) = false := by simp; omega
  have hd1 : decide ((4 : Int) < k) = false := by simp; omega
  have hd2 : decide (g < 0) = false := by simp; omega
  have hd3 : decide ((k : Int) ≤ g) = false := by simp; omega
  have hw : IntKind.u8.wrap g = g := by have e : IntKind.u8.wrap g = g % 256 := rfl; rw [e]; omega
  have hwk : IntKind.u8.wrap (k : Int) = k := by have e : IntKind.u8.wrap (k : Int) = (k : Int) % 256 := rfl; rw [e]; omega
  go_enter Try.func24, Try.ntmps24
  go_upto_region 4 with fail
  have hR0 : ((w.alloc (.cells #[.int .u8 0, .int .u8 0, .slice none 0 0, .slice none 0 0, .slice none 0 0, .slice none 0 0, .slice none 0 0] 74)).alloc (.cells #[.int .u8 g, .int .u8 k, .slice none 0 0, .slice none 0 0, .slice none 0 0, .slice none 0 0, .slice none 0 0] 74)).heap[w.heap.size]? = some (.cells #[.int .u8 0, .int .u8 0, .slice none 0 0, .slice none 0 0, .slice none 0 0, .slice none 0 0, .slice none 0 0] 74) := heap_alloc2_old w _ _
  have hS0 : ((w.alloc (.cells #[.int .u8 0, .int .u8 0, .slice none 0 0, .slice none 0 0, .slice none 0 0, .slice none 0 0, .slice none 0 0] 74)).alloc (.cells #[.int .u8 g, .int .u8 k, .slice none 0 0, .slice none 0 0, .slice none 0 0, .slice none 0 0, .slice none 0 0] 74)).heap[w.heap.size + 1]? = some (.cells #[.int .u8 g, .int .u8 k, .slice none 0 0, .slice none 0 0, .slice none 0 0, .slice none 0 0, .slice none 0 0] 74) := heap_alloc2_new w _ _
  have hZ0 : ((w.alloc (.cells #[.int .u8 0, .int .u8 0, .slice none 0 0, .slice none 0 0, .slice none 0 0, .slice none 0 0, .slice none 0 0] 74)).alloc (.cells #[.int .u8 g, .int .u8 k, .slice none 0 0, .slice none 0 0, .slice none 0 0, .slice none 0 0, .slice none 0 0] 74)).heap.size = w.heap.size + 2 := by simp
  have hT0 : Below w.heap.size w ((w.alloc (.cells #[.int .u8 0, .int .u8 0, .slice none 0 0, .slice none 0 0, .slice none 0 0, .slice none 0 0, .slice none 0 0] 74)).alloc (.cells #[.int .u8 g, .int .u8 k, .slice none 0 0, .slice none 0 0, .slice none 0 0, .slice none 0 0, .slice none 0 0] 74)) := later_trans (later_alloc _ _) (later_alloc _ _)
  generalize ((w.alloc (.cells #[.int .u8 0, .int .u8 0, .slice none 0 0, .slice none 0 0, .slice none 0 0, .slice none 0 0, .slice none 0 0] 74)).alloc (.cells #[.int .u8 g, .int .u8 k, .slice none 0 0, .slice none 0 0, .slice none 0 0, .slice none 0 0, .slice none 0 0] 74)) = W0 at *
  have hcS0 := blk_cell hS0
  have hb0 : Below W0.heap.size W0 (W0.alloc (.cells #[.int .u64 0, .int .u8 0] 64)) := later_alloc _ _
  go_wp2_with (first | (with_reducible show wpList _ _ _ ({ dst := some 33, op := Op.call _, type := _, pos := _, after := _, guard := none } :: _) _ _; go_must (refine wpList_append_new _ rfl _ _ 62 rfl (w.heap.size + 2) 64 p0 (.agg #[.int .u64 0, .int .u8 0]) 2 16 Try.underlying62 hp0 hx0 hx1 hx2 rfl (by decide) (.slice none 0 0) 0 [] rfl (World.ownsRow_nil _ _ _ _) ⟨w.heap.size + 2, 0, none⟩ 1 1 [.int .u64 0, .int .u8 0] rfl rfl (new_cellsS hZ0.symm) (one_cells rfl) (by decide) (by decide) (by simp only [heap_alloc, Array.size_push]; omega) ?_; intro vM w1 ho1 hg1; have hR1 := hg1.blk (blk_later hb0 hR0) (by simp [Value.ownBlock]); have hS1 := hg1.blk (blk_later hb0 hS0) (by simp [Value.ownBlock]); have hT1 : Below w.heap.size w w1 := (hT0.trans (hb0.mono hT0.size)).grown hg1.grown (by simp only [heap_alloc, Array.size_push]; omega) (by simp [Value.ownBlock]); have hz1' := hg1.grown.size)) | (with_reducible show wpList _ _ _ ({ dst := none, op := Op.store 62 _ _, type := _, pos := _, after := _, guard := none } :: _) _ _; go_must (refine wpList_store_cell rfl _ _ _ rfl rfl (w.heap.size + 1) 3 rfl vM rfl sz_pcs (own_one ho1) _ _ hS1 rfl [.int .u8 g, .int .u8 k, .slice none 0 0, vM, .slice none 0 0, .slice none 0 0, .slice none 0 0] rfl ?_; intro w2 hW2 hO2)))
  have HB : Hid (RB w w2 g k 0 vM (.slice none 0 0) (.slice none 0 0)) := ⟨(hO2.block _ (by omega)).trans hR1, hW2, own_keep ho1 hO2 (by omega), World.ownsRow_nil _ _ _ _, World.ownsRow_nil _ _ _ _, hT1.trans (hO2.below (by omega)), by rw [hO2.size]; simp only [heap_alloc, Array.size_push] at hz1'; omega⟩
  clear hR0 hS0 hZ0 hT0 hcS0 hb0 ho1 hg1 hR1 hS1 hT1 hz1' hW2 hO2
  go_loopw [7] (fun i wr => ∃ (j : Nat) (vO vI : Value), j ≤ k ∧ i = .int .i64 j ∧ Hid (RB w wr g k j vM vO vI)) (fun i _ => k - (intOf i).toNat)
  case atStart => exact ⟨0, _, _, Nat.zero_le _, rfl, HB⟩
  case round =>
    clear HB
    obtain ⟨j, vO, vI, hj, rfl, HB⟩ := hrel
    have hcS := blk_cell HB.out.cS
    by_cases hlt : j < k
    · have hdk : decide ((j : Int) < (k : Int)) = true := by simp; omega
      obtain ⟨cR, cS, oM, oO, oI, bel, sz⟩ := HB.out
      have HcR := hideS cR
      have HcS := hideS cS
      clear cR cS HB
      have hbL : Below wr.heap.size wr (wr.alloc (.cells #[.int .u32 1, .slice none 0 0] 137)) := later_alloc _ _
      have hoA := World.ownsRow.alloc oO (.cells #[.int .u32 1, .slice none 0 0] 137)
      have hoB := World.ownsRow.alloc oI (.cells #[.int .u32 1, .slice none 0 0] 137)
      have hoC := World.ownsRow.alloc oM (.cells #[.int .u32 1, .slice none 0 0] 137)
      go_wp2_with (first | (with_reducible show wpList _ _ _ ({ dst := some 44, op := Op.call _, type := _, pos := _, after := _, guard := none } :: _) _ _; go_must (refine wpList_append_new _ rfl _ _ 71 rfl (w.heap.size + 2) 137 i0 (.agg #[.int .u32 0, .slice none 0 0]) 2 32 Try.underlying71 hi0 hz0 hz1 hz2 rfl (by decide) vO j (laneCells j j) rfl hoA _ 1 1 [.int .u32 1, .slice none 0 0] rfl rfl (new_cellsS rfl) (one_cells rfl) (by unfold maxLen; omega) (by omega) (by simp only [heap_alloc, Array.size_push]; omega) ?_; intro vO' w3 ho3 hg3; have ho3B := own_other hoB hoA (by decide) hg3; have ho3C := own_other hoC hoA (by decide) hg3; have hR3 := hg3.blk_own hoA (by omega) (blk_later hbL HcR.out); have hS3 := hg3.blk_own hoA (by omega) (blk_later hbL HcS.out); have hT3 : Below w.heap.size w w3 := (bel.trans (hbL.mono bel.size)).trans ((hg3.below_own hoA (by simp only [heap_alloc, Array.size_push]; omega)).mono (by omega)); have hz3 := hg3.grown.size)) | (with_reducible show wpList _ _ _ ({ dst := none, op := Op.store 71 _ _, type := _, pos := _, after := _, guard := none } :: _) _ _; go_must (refine wpList_store_cell rfl _ _ _ rfl rfl (w.heap.size + 1) 5 rfl vO' rfl sz_lanes (own_one ho3) _ _ hS3 rfl [.int .u8 g, .int .u8 k, .slice none 0 0, vM, .slice none 0 0, vO', vI] rfl ?_; intro w4 hW4 hO4; have hcS4 := blk_cell hW4; have HR4 := hideS ((hO4.block w.heap.size (by omega)).trans hR3); have HS4 := hideS hW4; have ho4A := World.ownsRow.alloc (own_keep ho3 hO4 (by omega)) (.cells #[.int .u32 0] 22); have ho4B := World.ownsRow.alloc (own_keep ho3B hO4 (by omega)) (.cells #[.int .u32 0] 22); have ho4C := World.ownsRow.alloc (own_keep ho3C hO4 (by omega)) (.cells #[.int .u32 0] 22); have hT4 : Below w.heap.size w w4 := hT3.trans (hO4.below (by omega)); have hz4 : w.heap.size + 2 ≤ w4.heap.size := (by rw [hO4.size]; simp only [heap_alloc, Array.size_push] at hz3; omega); clear hR3 hS3 hW4 hO4 ho3 ho3B ho3C hg3 hoA hoB hoC hbL hcS hT3 hz3; have hbL : Below w4.heap.size w4 (w4.alloc (.cells #[.int .u32 0] 22)) := later_alloc _ _)) | (with_reducible show wpList _ _ _ ({ dst := some 49, op := Op.call _, type := _, pos := _, after := _, guard := none } :: _) _ _; go_must (refine wpList_append_new _ rfl _ _ 72 rfl (w.heap.size + 2) 22 j0 (.int .u32 0) 1 4 Try.underlying72 hj0 hy0 hy1 hy2 rfl (by decide) vI j (List.replicate j (Value.int .u32 0)) rfl ho4B _ 1 1 [.int .u32 0] rfl rfl (new_cellsS rfl) (one_cells rfl) (by unfold maxLen; omega) (by omega) (by simp only [heap_alloc, Array.size_push]; omega) ?_; intro vI' w5 ho5 hg5; have ho5A := own_other ho4A ho4B (by decide) hg5; have ho5C := own_other ho4C ho4B (by decide) hg5; have hR5 := hg5.blk_own ho4B (by omega) (blk_later hbL HR4.out); have hS5 := hg5.blk_own ho4B (by omega) (blk_later hbL HS4.out); have hT5 : Below w.heap.size w w5 := (hT4.trans (hbL.mono hT4.size)).trans ((hg5.below_own ho4B (by simp only [heap_alloc, Array.size_push]; omega)).mono (by omega)); have hz5 := hg5.grown.size)) | (with_reducible show wpList _ _ _ ({ dst := none, op := Op.store 72 _ _, type := _, pos := _, after := _, guard := none } :: _) _ _; go_must (refine wpList_store_cell rfl _ _ _ rfl rfl (w.heap.size + 1) 6 rfl vI' rfl sz_ins (own_one ho5) _ _ hS5 rfl [.int .u8 g, .int .u8 k, .slice none 0 0, vM, .slice none 0 0, vO', vI'] rfl ?_; intro w6 hW6 hO6)))
      go_roundw
      case rel =>
        refine ⟨j + 1, vO', vI', by omega, by go_num, ⟨(hO6.block w.heap.size (by omega)).trans hR5, hW6, own_keep ho5C hO6 (by omega), ?_, ?_, hT5.trans (hO6.below (by omega)), ?_⟩⟩
        · rw [← lane_more]; exact own_keep ho5A hO6 (by omega)
        · rw [List.replicate_succ']; exact own_keep ho5 hO6 (by omega)
        · rw [hO6.size]; simp only [heap_alloc, Array.size_push] at hz5; omega
      case measure => simp [intOf]; omega
    · have hdk : decide ((j : Int) < (k : Int)) = false := by simp; omega
      obtain rfl : j = k := by omega
      have hcR := HB.out.cR
      have hcS' := HB.out.cS
      go_wp2_with (first | (with_reducible show wpList _ _ _ ({ dst := some 51, op := Op.load 74 _, type := _, pos := _, after := _, guard := none } :: _) _ _; go_must (refine wpList_load_blk rfl _ _ rfl (w.heap.size + 1) 0 rfl 7 _ Try.underlying74 rfl sz_shd _ _ hcS' rfl _ rfl ?_)) | (with_reducible show wpList _ _ _ ({ dst := none, op := Op.store 74 _ _, type := _, pos := _, after := _, guard := none } :: _) _ _; go_must (refine wpList_store_blk rfl _ _ _ rfl rfl w.heap.size 0 rfl _ rfl _ sz_shd rfl (one7 (own_one HB.out.oM) (own_one HB.out.oO) (own_one HB.out.oI)) _ _ hcR rfl _ rfl ?_; intro w9 hW9 hO9)))
      refine bodyPost_ret (v := .tuple #[.agg #[.int .u8 g, .int .u8 j, .slice none 0 0, vM, .slice none 0 0, vO, vI], .int .i64 0]) (results_row_tmp Try.results24 _ _ w.heap.size 74 _ (0, 0) _ rfl hW9 Try.underlying74 rfl sz_shd) rfl ⟨vM, vO, vI, rfl, own_keep HB.out.oM hO9 (by omega), own_keep HB.out.oO hO9 (by omega), own_keep HB.out.oI hO9 (by omega), HB.out.bel.trans (hO9.below (Nat.le_refl _))⟩

end Go.Proofs.Ytignemioillaiaa
