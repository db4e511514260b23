/- cmp.Compare of numbers of 64 and of 8 bits, cmp.Or of two numbers, and the two orders of package shard: rows by their keys, replies by key and client. -/
import Derived.Test.YtignemioillaiaaD4
import Derived.Test.YtignemioillaiaaP
import Derived.Deep.RegionHeld3
namespace Go.Proofs.Ytignemioillaiaa
open Go.RowKit Go.Lib

/-- What cmp.Compare says. -/
def cmpI (a b : Int) : Int := if a < b then -1 else if b < a then 1 else 0
/-- .. of two replies. -/
def orI (a b : Int) : Int := if a = 0 then b else a
def cmpP (a b : Rep) : Int := orI (cmpI a.key b.key) (cmpI a.c b.c)

set_option maxRecDepth 100000 in
theorem cmp64 (a b : Int) (w : World) : Calls Try.prog 141 #[.int .u64 a, .int .u64 b] w fun e w' => e = .returned (.int .i64 (cmpI a b)) ∧ w' = w := by
  unfold cmpI
  by_cases h1 : a < b
  · have hd : decide (a < b) = true := by simp [h1]
    go_enter Try.func141, Try.ntmps141
    go_wp2
    go_ret
    exact ⟨by simp, rfl⟩
  · have hd : decide (a < b) = false := by simp [h1]
    by_cases h2 : b < a
    · have hd2 : decide (b < a) = true := by simp [h2]
      go_enter Try.func141, Try.ntmps141
      go_wp2
      go_ret
      exact ⟨by simp, rfl⟩
    · have hd2 : decide (b < a) = false := by simp [h2]
      go_enter Try.func141, Try.ntmps141
      go_wp2
      go_ret
      exact ⟨by simp, rfl⟩

set_option maxRecDepth 100000 in
theorem cmp8 (a b : Int) (w : World) : Calls Try.prog 142 #[.int .u8 a, .int .u8 b] w fun e w' => e = .returned (.int .i64 (cmpI a b)) ∧ w' = w := by
  unfold cmpI
  by_cases h1 : a < b
  · have hd : decide (a < b) = true := by simp [h1]
    go_enter Try.func142, Try.ntmps142
    go_wp2
    go_ret
    exact ⟨by simp, rfl⟩
  · have hd : decide (a < b) = false := by simp [h1]
    by_cases h2 : b < a
    · have hd2 : decide (b < a) = true := by simp [h2]
      go_enter Try.func142, Try.ntmps142
      go_wp2
      go_ret
      exact ⟨by simp, rfl⟩
    · have hd2 : decide (b < a) = false := by simp [h2]
      go_enter Try.func142, Try.ntmps142
      go_wp2
      go_ret
      exact ⟨by simp, rfl⟩

set_option maxRecDepth 100000 in
theorem cmp_or (a b : Int) (B : Nat) (w : World) (h0 : w.cell? ⟨B, 0, none⟩ = some (.int .i64 a)) (h1 : w.cell? ⟨B, 1, none⟩ = some (.int .i64 b)) :
    Calls Try.prog 140 #[.slice (some ⟨B, 0, none⟩) 2 2] w fun e w' => e = .returned (.int .i64 (if a = 0 then b else a)) ∧ w' = w := by
  by_cases ha : a = 0
  · subst ha
    by_cases hb : b = 0
    · subst hb
      go_enter Try.func140, Try.ntmps140
      go_wp2
      go_loopw [8] (fun i wr => ∃ k : Nat, k ≤ 2 ∧ i = .int .i64 k ∧ wr = w) (fun i _ => 2 - (intOf i).toNat)
      case atStart => exact ⟨0, by omega, rfl, rfl⟩
      case round =>
        obtain ⟨k, hk, rfl, rfl⟩ := hrel
        obtain rfl | rfl | rfl : k = 0 ∨ k = 1 ∨ k = 2 := by omega
        · go_wp2
          go_roundw
          case measure => simp [intOf]
          case rel => exact ⟨1, by omega, by first | rfl | go_num, by first | trivial | rfl⟩
        · go_wp2
          go_roundw
          case measure => simp [intOf]
          case rel => exact ⟨2, by omega, by first | rfl | go_num, by first | trivial | rfl⟩
        · go_wp2
          go_ret
          exact ⟨rfl, rfl⟩
    · have hn : (!(b == 0)) = true := by simp [hb]
      go_enter Try.func140, Try.ntmps140
      go_wp2
      go_loopw [8] (fun i wr => ∃ k : Nat, k ≤ 1 ∧ i = .int .i64 k ∧ wr = w) (fun i _ => 1 - (intOf i).toNat)
      case atStart => exact ⟨0, by omega, rfl, rfl⟩
      case round =>
        obtain ⟨k, hk, rfl, rfl⟩ := hrel
        obtain rfl | rfl : k = 0 ∨ k = 1 := by omega
        · go_wp2
          go_roundw
          case measure => simp [intOf]
          case rel => exact ⟨1, by omega, by first | rfl | go_num, by first | trivial | rfl⟩
        · go_wp2
          go_ret
          exact ⟨rfl, rfl⟩
  · have hn : (!(a == 0)) = true := by simp [ha]
    go_enter Try.func140, Try.ntmps140
    go_wp2
    go_loopw [8] (fun i wr => ∃ k : Nat, k ≤ 0 ∧ i = .int .i64 k ∧ wr = w) (fun i _ => 0 - (intOf i).toNat)
    case atStart => exact ⟨0, by omega, rfl, rfl⟩
    case round =>
      obtain ⟨k, hk, rfl, rfl⟩ := hrel
      obtain rfl : k = 0 := by omega
      go_wp2
      go_ret
      exact ⟨by simp, rfl⟩

set_option maxRecDepth 100000 in
theorem row_cmp (x v key : Int) (w : World) :
    Calls Try.prog 163 #[.agg #[.int .u64 x, .int .u64 v], .int .u64 key] w fun e w' => e = .returned (.int .i64 (cmpI x key)) ∧ Below w.heap.size w w' := by
  go_enter Try.func163, Try.ntmps163
  go_wp2_with (go_at_call 141; go_must (refine (cmp64 _ _ _).mono ?_; rintro e w1 ⟨rfl, rfl⟩))
  go_ret
  exact ⟨rfl, later_alloc _ _⟩

theorem cell_new0 (W : World) (x y : Value) (t : TypeId) : (W.alloc (.cells #[x, y] t)).cell? ⟨W.heap.size, 0, none⟩ = some x := blk_cell (heap_alloc_new W _) 0
theorem cell_new1 (W : World) (x y : Value) (t : TypeId) : (W.alloc (.cells #[x, y] t)).cell? ⟨W.heap.size, 1, none⟩ = some y := blk_cell (heap_alloc_new W _) 1
theorem cmp64b (a b : Int) (w : World) : Calls Try.prog 141 #[.int .u64 a, .int .u64 b] w fun e w' => e = .returned (.int .i64 (cmpI a b)) ∧ Below w.heap.size w w' :=
  (cmp64 a b w).mono (by rintro e w' ⟨rfl, rfl⟩; exact ⟨rfl, Below.refl _ _⟩)
theorem cmp8b (a b : Int) (w : World) : Calls Try.prog 142 #[.int .u8 a, .int .u8 b] w fun e w' => e = .returned (.int .i64 (cmpI a b)) ∧ Below w.heap.size w w' :=
  (cmp8 a b w).mono (by rintro e w' ⟨rfl, rfl⟩; exact ⟨rfl, Below.refl _ _⟩)
theorem cmp_orb (a b : Int) (W : World) (t : TypeId) :
    Calls Try.prog 140 #[.slice (some ⟨W.heap.size, 0, none⟩) 2 2] (W.alloc (.cells #[.int .i64 a, .int .i64 b] t)) fun e w' => e = .returned (.int .i64 (orI a b)) ∧ Below (W.alloc (.cells #[.int .i64 a, .int .i64 b] t)).heap.size (W.alloc (.cells #[.int .i64 a, .int .i64 b] t)) w' :=
  (cmp_or a b _ _ (cell_new0 _ _ _ _) (cell_new1 _ _ _ _)).mono (by rintro e w' ⟨rfl, rfl⟩; exact ⟨rfl, Below.refl _ _⟩)
theorem held_nextJ {W a b : World} {X : Prop} (h : Below W.heap.size W a ∧ X) (k : Below a.heap.size a b) : Below W.heap.size W b := later_trans h.1 k
theorem held_drewJ {W a : World} {X : Prop} (h : Below W.heap.size W a ∧ X) : Below W.heap.size W a.drew := h.1.drew
theorem held_allocJ {W a : World} {X : Prop} (h : Below W.heap.size W a ∧ X) (o : Obj) : Below W.heap.size W (a.alloc o) := later_trans h.1 (later_alloc _ _)

set_option maxHeartbeats 1000000 in
set_option maxRecDepth 100000 in
theorem dup_cmp (pc ps pkey pk : Int) (pf : Bool) (pv pg : Int) (qc qs qkey qk : Int) (qf : Bool) (qv qg : Int) (w : World) :
    Calls Try.prog 139 #[.agg #[.int .u8 pc, .int .u32 ps, .int .u64 pkey, .int .u8 pk, .bool pf, .int .u64 pv, .int .u8 pg], .agg #[.int .u8 qc, .int .u32 qs, .int .u64 qkey, .int .u8 qk, .bool qf, .int .u64 qv, .int .u8 qg]] w fun e w' => e = .returned (.int .i64 (cmpP (Rep.mk pc ps pkey pk pf pv pg) (Rep.mk qc qs qkey qk qf qv qg))) ∧ Below w.heap.size w w' := by
  obtain ⟨W, hW⟩ : ∃ W, W = (w.alloc (.cells #[.int .u8 pc, .int .u32 ps, .int .u64 pkey, .int .u8 pk, .bool pf, .int .u64 pv, .int .u8 pg] 27)).alloc (.cells #[.int .u8 qc, .int .u32 qs, .int .u64 qkey, .int .u8 qk, .bool qf, .int .u64 qv, .int .u8 qg] 27) := ⟨_, rfl⟩
  have hWp : W.heap[w.heap.size]? = some (.cells #[.int .u8 pc, .int .u32 ps, .int .u64 pkey, .int .u8 pk, .bool pf, .int .u64 pv, .int .u8 pg] 27) := by rw [hW, heap_alloc_old _ _ (by simp)]; exact heap_alloc_new w _
  have hWq : W.heap[w.heap.size + 1]? = some (.cells #[.int .u8 qc, .int .u32 qs, .int .u64 qkey, .int .u8 qk, .bool qf, .int .u64 qv, .int .u8 qg] 27) := by rw [hW]; have := heap_alloc_new (w.alloc (.cells #[.int .u8 pc, .int .u32 ps, .int .u64 pkey, .int .u8 pk, .bool pf, .int .u64 pv, .int .u8 pg] 27)) (.cells #[.int .u8 qc, .int .u32 qs, .int .u64 qkey, .int .u8 qk, .bool qf, .int .u64 qv, .int .u8 qg] 27); simpa using this
  have hWl : Below w.heap.size w W := by rw [hW]; exact later_trans (later_alloc w _) (later_alloc _ _)
  have MK : Hid (∀ w', Below W.heap.size W w' → (Below W.heap.size W w' ∧ w'.cell? ⟨w.heap.size, 0, none⟩ = some (.int .u8 pc) ∧ w'.cell? ⟨w.heap.size, 2, none⟩ = some (.int .u64 pkey) ∧ w'.cell? ⟨w.heap.size + 1, 0, none⟩ = some (.int .u8 qc) ∧ w'.cell? ⟨w.heap.size + 1, 2, none⟩ = some (.int .u64 qkey))) := fun w' hb => ⟨hb, blk hb hWp 0, blk hb hWp 2, blk hb hWq 0, blk hb hWq 2⟩
  go_enter Try.func139, Try.ntmps139
  go_wp2_with fail
  rw [← hW]
  clear hW
  go_region_held3 (fun w' => Below W.heap.size W w' ∧ w'.cell? ⟨w.heap.size, 0, none⟩ = some (.int .u8 pc) ∧ w'.cell? ⟨w.heap.size, 2, none⟩ = some (.int .u64 pkey) ∧ w'.cell? ⟨w.heap.size + 1, 0, none⟩ = some (.int .u8 qc) ∧ w'.cell? ⟨w.heap.size + 1, 2, none⟩ = some (.int .u64 qkey)) (first | exact MK.out _ (Below.refl _ _).drew | exact MK.out _ (held_nextJ (by assumption) (by assumption)) | exact MK.out _ (held_drewJ (by assumption)) | exact MK.out _ (held_allocJ (by assumption) _)) (first
    | (go_at_call 141; refine (cmp64b _ _ _).mono ?_; rintro e w1 ⟨rfl, hbel1⟩)
    | (go_at_call 142; refine (cmp8b _ _ _).mono ?_; rintro e w1 ⟨rfl, hbel1⟩)
    | (go_at_call 140; refine (cmp_orb _ _ _ _).mono ?_; rintro e w1 ⟨rfl, hbel1⟩))
  all_goals (go_wp2; go_ret; exact ⟨rfl, later_trans hWl (And.left (by assumption))⟩)

end Go.Proofs.Ytignemioillaiaa
