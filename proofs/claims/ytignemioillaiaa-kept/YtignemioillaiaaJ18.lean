/- Fresh lists. -/
import Derived.Test.YtignemioillaiaaJ17
namespace Go.Proofs.Ytignemioillaiaa
open Go.RowKit Go.Lib

theorem infoJ_row : (Try.prog.info? 82).map (fun i => (i.zero, i.size, i.bytes)) = some (some (.agg #[.int .u64 0, .int .u64 0]), 2, 16) := by kernel_rfl
set_option maxHeartbeats 400000 in
set_option maxRecDepth 100000 in
theorem fl_row (w : World) (base : Nat) (v : Value) (n : Nat) (xs : List (List Value)) (hown : w.ownsRow base 82 2 v n xs.flatten) (hn : n = xs.length) (hall : ∀ y ∈ xs, y.length = 2) (h1 : ∀ u ∈ xs.flatten, u.oneCell' = true) (hl : n < 1000000) :
    Calls Try.prog 103 #[v] w fun e w' => ∃ v', e = .returned v' ∧ w'.ownsRow w.heap.size 82 2 v' n xs.flatten ∧ Below w.heap.size w w' := by
  obtain ⟨i0, hi0, hz0, hz1, hz2⟩ := info_parts infoJ_row
  subst hn
  obtain ⟨a, m, c, rfl, hin, hnil⟩ := own_slin hown hall
  have hm : m = xs.length := hin.len
  have HI : Hid (SlIn w.heap.size w ⟨a, m, c⟩ 2 xs) := hin
  have HM : Hid (m = xs.length) := hm
  clear hin hm hown
  go_enter Try.func103, Try.ntmps103
  go_wp2_with (at_builtin; go_must (refine wpList_own_copy rfl _ _ 30 rfl 82 i0 (.agg #[.int .u64 0, .int .u64 0]) 2 16 Try.underlying30 hi0 hz0 hz1 hz2 rfl (by decide) rfl w.heap.size a m c rfl xs HI.out hnil hall h1 (by have := HM.out; omega) ?_; intro v' w1 ho hg))
  all_goals (
    go_wp2
    go_ret
    exact ⟨v', rfl, ho, ⟨hg.os, hg.tape, hg.output, hg.size, fun k hk => hg.block k hk (by simp)⟩⟩)

theorem infoJ_pc : (Try.prog.info? 64).map (fun i => (i.zero, i.size, i.bytes)) = some (some (.agg #[.int .u64 0, .int .u8 0]), 2, 16) := by kernel_rfl
set_option maxHeartbeats 400000 in
set_option maxRecDepth 100000 in
theorem fl_pc (w : World) (base : Nat) (v : Value) (n : Nat) (xs : List (List Value)) (hown : w.ownsRow base 64 2 v n xs.flatten) (hn : n = xs.length) (hall : ∀ y ∈ xs, y.length = 2) (h1 : ∀ u ∈ xs.flatten, u.oneCell' = true) (hl : n < 1000000) :
    Calls Try.prog 104 #[v] w fun e w' => ∃ v', e = .returned v' ∧ w'.ownsRow w.heap.size 64 2 v' n xs.flatten ∧ Below w.heap.size w w' := by
  obtain ⟨i0, hi0, hz0, hz1, hz2⟩ := info_parts infoJ_pc
  subst hn
  obtain ⟨a, m, c, rfl, hin, hnil⟩ := own_slin hown hall
  have hm : m = xs.length := hin.len
  have HI : Hid (SlIn w.heap.size w ⟨a, m, c⟩ 2 xs) := hin
  have HM : Hid (m = xs.length) := hm
  clear hin hm hown
  go_enter Try.func104, Try.ntmps104
  go_wp2_with (at_builtin; go_must (refine wpList_own_copy rfl _ _ 62 rfl 64 i0 (.agg #[.int .u64 0, .int .u8 0]) 2 16 Try.underlying62 hi0 hz0 hz1 hz2 rfl (by decide) rfl w.heap.size a m c rfl xs HI.out hnil hall h1 (by have := HM.out; omega) ?_; intro v' w1 ho hg))
  all_goals (
    go_wp2
    go_ret
    exact ⟨v', rfl, ho, ⟨hg.os, hg.tape, hg.output, hg.size, fun k hk => hg.block k hk (by simp)⟩⟩)

theorem infoJ_rep : (Try.prog.info? 27).map (fun i => (i.zero, i.size, i.bytes)) = some (some (.agg #[.int .u8 0, .int .u32 0, .int .u64 0, .int .u8 0, .bool false, .int .u64 0, .int .u8 0]), 7, 40) := by kernel_rfl
set_option maxHeartbeats 400000 in
set_option maxRecDepth 100000 in
theorem fl_rep (w : World) (base : Nat) (v : Value) (n : Nat) (xs : List (List Value)) (hown : w.ownsRow base 27 7 v n xs.flatten) (hn : n = xs.length) (hall : ∀ y ∈ xs, y.length = 7) (h1 : ∀ u ∈ xs.flatten, u.oneCell' = true) (hl : n < 1000000) :
    Calls Try.prog 105 #[v] w fun e w' => ∃ v', e = .returned v' ∧ w'.ownsRow w.heap.size 27 7 v' n xs.flatten ∧ Below w.heap.size w w' := by
  obtain ⟨i0, hi0, hz0, hz1, hz2⟩ := info_parts infoJ_rep
  subst hn
  obtain ⟨a, m, c, rfl, hin, hnil⟩ := own_slin hown hall
  have hm : m = xs.length := hin.len
  have HI : Hid (SlIn w.heap.size w ⟨a, m, c⟩ 7 xs) := hin
  have HM : Hid (m = xs.length) := hm
  clear hin hm hown
  go_enter Try.func105, Try.ntmps105
  go_wp2_with (at_builtin; go_must (refine wpList_own_copy rfl _ _ 31 rfl 27 i0 (.agg #[.int .u8 0, .int .u32 0, .int .u64 0, .int .u8 0, .bool false, .int .u64 0, .int .u8 0]) 7 40 Try.underlying31 hi0 hz0 hz1 hz2 rfl (by decide) rfl w.heap.size a m c rfl xs HI.out hnil hall h1 (by have := HM.out; omega) ?_; intro v' w1 ho hg))
  all_goals (
    go_wp2
    go_ret
    exact ⟨v', rfl, ho, ⟨hg.os, hg.tape, hg.output, hg.size, fun k hk => hg.block k hk (by simp)⟩⟩)

theorem infoJ_num : (Try.prog.info? 22).map (fun i => (i.zero, i.size, i.bytes)) = some (some (.int .u32 0), 1, 4) := by kernel_rfl
set_option maxHeartbeats 400000 in
set_option maxRecDepth 100000 in
theorem fl_num (w : World) (base : Nat) (v : Value) (n : Nat) (xs : List (List Value)) (hown : w.ownsRow base 22 1 v n xs.flatten) (hn : n = xs.length) (hall : ∀ y ∈ xs, y.length = 1) (h1 : ∀ u ∈ xs.flatten, u.oneCell' = true) (hl : n < 1000000) :
    Calls Try.prog 106 #[v] w fun e w' => ∃ v', e = .returned v' ∧ w'.ownsRow w.heap.size 22 1 v' n xs.flatten ∧ Below w.heap.size w w' := by
  obtain ⟨i0, hi0, hz0, hz1, hz2⟩ := info_parts infoJ_num
  subst hn
  obtain ⟨a, m, c, rfl, hin, hnil⟩ := own_slin hown hall
  have hm : m = xs.length := hin.len
  have HI : Hid (SlIn w.heap.size w ⟨a, m, c⟩ 1 xs) := hin
  have HM : Hid (m = xs.length) := hm
  clear hin hm hown
  go_enter Try.func106, Try.ntmps106
  go_wp2_with (at_builtin; go_must (refine wpList_own_copy rfl _ _ 72 rfl 22 i0 (.int .u32 0) 1 4 Try.underlying72 hi0 hz0 hz1 hz2 rfl (by decide) rfl w.heap.size a m c rfl xs HI.out hnil hall h1 (by have := HM.out; omega) ?_; intro v' w1 ho hg))
  all_goals (
    go_wp2
    go_ret
    exact ⟨v', rfl, ho, ⟨hg.os, hg.tape, hg.output, hg.size, fun k hk => hg.block k hk (by simp)⟩⟩)

theorem infoJ_lane : (Try.prog.info? 137).map (fun i => (i.zero, i.size, i.bytes)) = some (some (.agg #[.int .u32 0, .slice none 0 0]), 2, 32) := by kernel_rfl
set_option maxHeartbeats 400000 in
set_option maxRecDepth 100000 in
theorem fl_lane (w : World) (base : Nat) (v : Value) (n : Nat) (xs : List (List Value)) (hown : w.ownsRow base 137 2 v n xs.flatten) (hn : n = xs.length) (hall : ∀ y ∈ xs, y.length = 2) (h1 : ∀ u ∈ xs.flatten, u.oneCell' = true) (hl : n < 1000000) :
    Calls Try.prog 107 #[v] w fun e w' => ∃ v', e = .returned v' ∧ w'.ownsRow w.heap.size 137 2 v' n xs.flatten ∧ Below w.heap.size w w' := by
  obtain ⟨i0, hi0, hz0, hz1, hz2⟩ := info_parts infoJ_lane
  subst hn
  obtain ⟨a, m, c, rfl, hin, hnil⟩ := own_slin hown hall
  have hm : m = xs.length := hin.len
  have HI : Hid (SlIn w.heap.size w ⟨a, m, c⟩ 2 xs) := hin
  have HM : Hid (m = xs.length) := hm
  clear hin hm hown
  go_enter Try.func107, Try.ntmps107
  go_wp2_with (at_builtin; go_must (refine wpList_own_copy rfl _ _ 71 rfl 137 i0 (.agg #[.int .u32 0, .slice none 0 0]) 2 32 Try.underlying71 hi0 hz0 hz1 hz2 rfl (by decide) rfl w.heap.size a m c rfl xs HI.out hnil hall h1 (by have := HM.out; omega) ?_; intro v' w1 ho hg))
  all_goals (
    go_wp2
    go_ret
    exact ⟨v', rfl, ho, ⟨hg.os, hg.tape, hg.output, hg.size, fun k hk => hg.block k hk (by simp)⟩⟩)

set_option maxHeartbeats 400000 in
set_option maxRecDepth 100000 in
theorem fl_none (w : World) : Calls Try.prog 137 #[.slice none 0 0] w fun e w' => e = .returned (.slice none 0 0) ∧ w' = w := by
  go_enter Try.func137, Try.ntmps137
  go_wp2
  go_ret
  exact ⟨rfl, rfl⟩
set_option maxHeartbeats 400000 in
set_option maxRecDepth 100000 in
theorem fq_none (w : World) : Calls Try.prog 108 #[.slice none 0 0] w fun e w' => e = .returned (.slice none 0 0) ∧ Below w.heap.size w w' := by
  go_enter Try.func108, Try.ntmps108
  go_wp2_with (go_at_call 137; go_must (refine (fl_none _).mono ?_; rintro e w1 ⟨rfl, hw⟩; obtain rfl := hw.symm))
  go_loopw [9] (fun i wr => i = .int .i64 0 ∧ wr = w) (fun i _ => 0)
  case atStart => exact ⟨rfl, rfl⟩
  case round =>
    obtain ⟨rfl, rfl⟩ := hrel
    go_wp2
    go_ret
    exact ⟨rfl, Below.refl _ _⟩

end Go.Proofs.Ytignemioillaiaa
