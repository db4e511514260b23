/- shard.Begin. -/
import Derived.Test.YtignemioillaiaaProg
import Derived.Test.YtignemioillaiaaD4
import Derived.Deep.CutRange
import Derived.Deep.QuietTactic
import Derived.BigRegion
import Derived.OwnWalk
namespace Go.Proofs.Ytignemioillaiaa
open Go.RowKit

theorem info_lane : (Try.prog.info? 137).map (fun i => (i.zero, i.size, i.bytes)) = some (some (.agg #[.int .u32 0, .slice none 0 0]), 2, 32) := by kernel_rfl
theorem info_u32s : (Try.prog.info? 22).map (·.size) = some 1 := by kernel_rfl
theorem sz_shd : (Try.prog.info? 74).map (·.size) = some 7 := by kernel_rfl
theorem info_u32 : (Try.prog.info? 22).map (fun i => (i.zero, i.size, i.bytes)) = some (some (.int .u32 0), 1, 4) := by kernel_rfl

theorem results_row_tmp {P : Program} {fn : Func} {p u : Tmp} {ty : TypeId} (h : fn.results = #[.cell p ty, .tmp u]) (tmps : Array Value) (w : World) (g : Nat) (t : TypeId) (cs : Array Value) (fr : Nat × Nat) (d : TypeDesc)
    (hp : tmps.getD p undef = .pointer (some ⟨g, 0, none⟩)) (hg : w.heap[g]? = some (.cells cs t fr))
    (hu : P.underlying ty = some d) (hd : (match d with | .struct _ | .array _ _ => true | _ => false) = true) (hi : (P.info? ty).map (·.size) = some cs.size) :
    (results fn tmps).run P w = .ok (.tuple #[.agg cs, tmps.getD u undef]) w := by
  have hp' : tmps[p]?.getD undef = .pointer (some ⟨g, 0, none⟩) := by simpa using hp
  simp [results, h, hp', asAddr, run_loadVar_row w g t ty cs fr d hg hu hd hi]

/-- k lanes, of which the first i have their number. -/
def laneCells (i k : Nat) : List Value := (List.replicate i [Value.int .u32 1, .slice none 0 0] ++ List.replicate (k - i) [Value.int .u32 0, .slice none 0 0]).flatten

/-- A shard that is begun: it, its map, its lanes and its numbers lie in blocks of the call's own. -/
structure Begun (w wx : World) (g : Int) (k : Nat) (bS bM bO bI : Nat) (ls ns : Array Value) : Prop where
  lS : w.heap.size < bS
  lM : w.heap.size < bM
  lO : w.heap.size < bO
  lI : w.heap.size < bI
  oS : bO ≠ bS
  oM : bO ≠ bM
  oI : bO ≠ bI
  cR : wx.heap[w.heap.size]? = some (.cells #[.int .u8 0, .int .u8 0, .slice none 0 0, .slice none 0 0, .slice none 0 0, .slice none 0 0, .slice none 0 0] 74)
  cS : wx.heap[bS]? = some (.cells #[.int .u8 g, .int .u8 k, .slice none 0 0, .slice (some ⟨bM, 0, none⟩) 1 1, .slice none 0 0, .slice (some ⟨bO, 0, none⟩) k k, .slice (some ⟨bI, 0, none⟩) k k] 74)
  cM : wx.heap[bM]? = some (.cells #[.int .u64 0, .int .u8 0] 64)
  cO : wx.heap[bO]? = some (.cells ls 137)
  cI : wx.heap[bI]? = some (.cells ns 22)
  bel : Below w.heap.size w wx

theorem lane_set {i k : Nat} (hi : i < k) (hk : k ≤ 4) : (laneCells i k).take (i * 2) ++ [Value.int .u32 1] ++ (laneCells i k).drop (i * 2 + 1) = laneCells (i + 1) k := by
  obtain ⟨j, hj⟩ : ∃ j, j = k := ⟨_, rfl⟩
  obtain rfl | rfl | rfl | rfl : k = 1 ∨ k = 2 ∨ k = 3 ∨ k = 4 := by omega
  all_goals (obtain rfl | rfl | rfl | rfl : i = 0 ∨ i = 1 ∨ i = 2 ∨ i = 3 := by omega)
  all_goals first | rfl | omega
theorem lane_len {i k : Nat} (hi : i ≤ k) : (laneCells i k).length = k * 2 := by
  unfold laneCells
  simp only [List.length_flatten, List.map_append, List.map_replicate, List.sum_append, List.sum_replicate_nat]
  simp only [List.length_cons, List.length_nil]
  omega

theorem heap_alloc (w : World) (o : Obj) : (w.alloc o).heap = w.heap.push o := rfl
theorem heap_drew (w : World) : w.drew.heap = w.heap := rfl

set_option maxHeartbeats 4000000 in
set_option maxRecDepth 100000 in
theorem begin_t (g : Int) (k : Nat) (w : World) (h0 : 0 ≤ g) (h1 : g < k) (hk1 : 1 ≤ k) (hk4 : k ≤ 4) :
    Calls Try.prog 23 #[.int .i64 g, .int .i64 k] w fun e w' => ∃ bM bO bI, e = .returned (.tuple #[.agg #[.int .u8 g, .int .u8 k, .slice none 0 0, .slice (some ⟨bM, 0, none⟩) 1 1, .slice none 0 0, .slice (some ⟨bO, 0, none⟩) k k, .slice (some ⟨bI, 0, none⟩) k k], .int .i64 0]) ∧
      w.heap.size ≤ bM ∧ w.heap.size ≤ bO ∧ w.heap.size ≤ bI ∧ w'.heap[bM]? = some (.cells #[.int .u64 0, .int .u8 0] 64) ∧ w'.heap[bO]? = some (.cells (laneCells k k).toArray 137) ∧
      w'.heap[bI]? = some (.cells (List.replicate k (Value.int .u32 0)).toArray 22) ∧ Below w.heap.size w w' := by
  obtain ⟨i0, hi0, hz0, hz1, hz2⟩ := info_parts info_lane
  obtain ⟨j0, hj0, hy0, hy1, hy2⟩ := info_parts info_u32
  obtain ⟨ls, hls⟩ : ∃ ls, ls = (madeCells (Value.agg #[.int .u32 0, .slice none 0 0]).cells (k * 2)) := ⟨_, rfl⟩
  obtain ⟨ns, hns⟩ : ∃ ns, ns = (madeCells (Value.int .u32 0).cells (k * 1)) := ⟨_, rfl⟩
  have HM : ∀ W : World, (Instr.makeSlice 71 (.int .i64 k) (.int .i64 k)).run Try.prog W = .ok (.slice (some ⟨W.heap.size, 0, none⟩) k k) (W.alloc (.cells ls 137)) := fun W => by
    rw [run_makeSlice W 71 137 i0 _ Try.underlying71 hi0 hz0 .i64 .i64 k k (by omega) (by omega) (by rw [hz1]; omega) (by rw [hz2]; omega) (by omega), hls, hz1]
    simp
  have HN : ∀ W : World, (Instr.makeSlice 72 (.int .i64 k) (.int .i64 k)).run Try.prog W = .ok (.slice (some ⟨W.heap.size, 0, none⟩) k k) (W.alloc (.cells ns 22)) := fun W => by
    rw [run_makeSlice W 72 22 j0 _ Try.underlying72 hj0 hy0 .i64 .i64 k k (by omega) (by omega) (by rw [hy1]; omega) (by rw [hy2]; omega) (by omega), hns, hy1]
    simp
  have HL : Hid (ls = (laneCells 0 k).toArray) := by
    show _ = _
    obtain rfl | rfl | rfl | rfl : k = 1 ∨ k = 2 ∨ k = 3 ∨ k = 4 := by omega
    all_goals (rw [hls]; kernel_rfl)
  have HU : Hid (ns = (List.replicate k (Value.int .u32 0)).toArray) := by
    show _ = _
    obtain rfl | rfl | rfl | rfl : k = 1 ∨ k = 2 ∨ k = 3 ∨ k = 4 := by omega
    all_goals (rw [hns]; kernel_rfl)
  clear hls hns
  have hd0 : decide ((k : Int) < 1) = false := by simp; omega
  have hd1 : decide ((4 : Int) < k) = false := by simp; omega
  have hd2 : decide (g < 0) = false := by simp; omega
  have hd3 : decide ((k : Int) ≤ g) = false := by simp; omega
  have hw : IntKind.u8.wrap g = g := by have e : IntKind.u8.wrap g = g % 256 := rfl; rw [e]; omega
  have hwk : IntKind.u8.wrap (k : Int) = k := by have e : IntKind.u8.wrap (k : Int) = (k : Int) % 256 := rfl; rw [e]; omega
  go_enter Try.func23, Try.ntmps23
  go_upto_region 3 with fail
  go_cut [6, 29, 31, 33] from 24 (fun s sM sO sI wx => ∃ bS bM bO bI, (s = .pointer (some ⟨bS, 0, none⟩) ∧ sM = .slice (some ⟨bM, 0, none⟩) 1 1 ∧ sO = .slice (some ⟨bO, 0, none⟩) k k ∧ sI = .slice (some ⟨bI, 0, none⟩) k k) ∧ Hid (Begun w wx g k bS bM bO bI ls ns))
  case first =>
    go_region
    all_goals (go_wp2_with fail; go_meet; refine ⟨_, _, _, _, ⟨rfl, rfl, rfl, rfl⟩, ?_⟩; refine Begun.mk (by omega) (by omega) (by omega) (by omega) (by omega) (by omega) (by omega) ?_ ?_ ?_ ?_ ?_ ?_)
    all_goals first
      | (simp only [heap_drew, heap_alloc]; simp (disch := omega) [Array.getElem?_push]; done)
      | exact (Below.alloc (Below.alloc (Below.alloc (Below.alloc (Below.alloc (Below.refl _ w) (Nat.le_refl _) _) (by simp only [heap_alloc, Array.size_push]; omega) _) (by simp only [heap_alloc, Array.size_push]; omega) _) (by simp only [heap_alloc, Array.size_push]; omega) _) (by simp only [heap_alloc, Array.size_push]; omega) _).drew
      | exact blk_later (Below.alloc (Below.alloc (Below.alloc (Below.alloc (Below.refl _ (w.alloc _)) (Nat.le_refl _) _) (by simp only [heap_alloc, Array.size_push]; omega) _) (by simp only [heap_alloc, Array.size_push]; omega) _) (by simp only [heap_alloc, Array.size_push]; omega) _).drew (by simp [heap_alloc])
  case rest =>
    obtain ⟨bS, bM, bO, bI, ⟨rfl, rfl, rfl, rfl⟩, HB⟩ := hcut
    have hcS := blk_cell HB.out.cS
    go_wp2_with fail
    go_loopw [38] (fun i wr => ∃ j : Nat, j ≤ k ∧ i = .int .i64 j ∧ Hid (Begun w wr g k bS bM bO bI (laneCells j k).toArray ns)) (fun i _ => k - (intOf i).toNat)
    case atStart => exact ⟨0, Nat.zero_le _, rfl, by rw [← HL.out]; exact HB⟩
    case round =>
      clear hcS HB
      obtain ⟨j, hj, rfl, HB⟩ := hrel
      have hcS := blk_cell HB.out.cS
      by_cases hlt : j < k
      · have hdk : decide ((j : Int) < (k : Int)) = true := by simp; omega
        have hi1 : (0 : Int) ≤ (j : Int) := by omega
        have hi2 : (j : Int) < (k : Int) := by omega
        have hcO := HB.out.cO
        have hfit : Nat.ble (j * 2 + 1) (laneCells j k).length = true := by rw [lane_len hj]; simp [Nat.ble_eq]; omega
        go_wp2_with (first | (with_reducible show wpList _ _ _ ({ dst := none, op := Op.store 22 _ _, type := _, pos := _, after := _, guard := none } :: _) _ _; go_must (refine wpList_store_cell rfl _ _ _ rfl rfl bO (j * 2) rfl (.int .u32 1) rfl info_u32s rfl _ _ hcO hfit _ (lane_set hlt hk4) ?_; intro w9 hW9 hO9)))
        go_roundw
        case rel => exact ⟨j + 1, by omega, by go_num, ⟨HB.out.lS, HB.out.lM, HB.out.lO, HB.out.lI, HB.out.oS, HB.out.oM, HB.out.oI, (hO9.block _ (by have := HB.out.lO; omega)).trans HB.out.cR, (hO9.block _ HB.out.oS.symm).trans HB.out.cS, (hO9.block _ HB.out.oM.symm).trans HB.out.cM, hW9, (hO9.block _ HB.out.oI.symm).trans HB.out.cI, HB.out.bel.trans (hO9.below (Nat.le_of_lt HB.out.lO))⟩⟩
        case measure => simp [intOf]; omega
      · have hdk : decide ((j : Int) < (k : Int)) = false := by simp; omega
        obtain rfl : j = k := by omega
        have hcR := HB.out.cR
        have hcS' := HB.out.cS
        go_wp2_with (first | (with_reducible show wpList _ _ _ ({ dst := some 47, op := Op.load 74 _, type := _, pos := _, after := _, guard := none } :: _) _ _; go_must (refine wpList_load_blk rfl _ _ rfl bS 0 rfl 7 _ Try.underlying74 rfl sz_shd _ _ hcS' rfl _ rfl ?_)) | (with_reducible show wpList _ _ _ ({ dst := none, op := Op.store 74 _ _, type := _, pos := _, after := _, guard := none } :: _) _ _; go_must (refine wpList_store_blk rfl _ _ _ rfl rfl w.heap.size 0 rfl _ rfl _ sz_shd rfl rfl _ _ hcR rfl _ rfl ?_; intro w9 hW9 hO9; have hcW := blk_cell hW9)))
        refine bodyPost_ret (v := .tuple #[.agg #[.int .u8 g, .int .u8 j, .slice none 0 0, .slice (some ⟨bM, 0, none⟩) 1 1, .slice none 0 0, .slice (some ⟨bO, 0, none⟩) j j, .slice (some ⟨bI, 0, none⟩) j j], .int .i64 0]) (results_row_tmp Try.results23 _ _ w.heap.size 74 _ (0, 0) _ rfl hW9 Try.underlying74 rfl sz_shd) rfl ⟨bM, bO, bI, rfl, Nat.le_of_lt HB.out.lM, Nat.le_of_lt HB.out.lO, Nat.le_of_lt HB.out.lI, ?_, ?_, ?_, HB.out.bel.trans (hO9.below (Nat.le_refl _))⟩
        · exact (hO9.block _ (by have := HB.out.lM; omega)).trans HB.out.cM
        · exact (hO9.block _ (by have := HB.out.lO; omega)).trans HB.out.cO
        · exact (hO9.block _ (by have := HB.out.lI; omega)).trans (by rw [HB.out.cI, HU.out])

end Go.Proofs.Ytignemioillaiaa
