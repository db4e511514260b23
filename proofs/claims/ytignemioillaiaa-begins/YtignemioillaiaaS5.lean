/- Begins: every Begin. -/
import Derived.Test.YtignemioillaiaaS4
namespace Go.Proofs.Ytignemioillaiaa
open Go.RowKit

/-- A block that is known whole, as a slice in memory. -/
theorem blk_slin {w : World} {b n size : Nat} {xs : List (List Value)} {cs : Array Value} {t : TypeId} (hW : w.heap[b]? = some (.cells cs t)) (hcs : cs = xs.flatten.toArray) (hall : ∀ x ∈ xs, x.length = size) (hn : n = xs.length) (hm : n ≤ maxLen) : SlIn w.heap.size w ⟨some ⟨b, 0, none⟩, n, n⟩ size xs := by
  refine ⟨hn, Nat.le_refl _, hm, fun _ => ⟨b, 0, rfl, (Array.getElem?_eq_some_iff.1 hW).1, fun i x hx j u hu => ?_⟩⟩
  rw [blk_cell hW, hcs, Nat.zero_add]
  simpa using flat_at xs hall i x j u hx hu

theorem laneCells_flat (k : Nat) : laneCells k k = (List.replicate k [Value.int .u32 1, .slice none 0 0]).flatten := by
  unfold laneCells; rw [Nat.sub_self]; simp
theorem zeros_flat (k : Nat) : List.replicate k (Value.int .u32 0) = (List.replicate k [Value.int .u32 0]).flatten := by
  induction k with
  | zero => rfl
  | succ n ih => rw [List.replicate_succ, List.replicate_succ, List.flatten_cons, ← ih]; rfl
theorem rep_all {k size : Nat} {c : List Value} (h : c.length = size) : ∀ x ∈ List.replicate k c, x.length = size := by
  intro x hx; rw [List.eq_of_mem_replicate hx]; exact h

theorem own_belowS {base : Nat} {w w' : World} {e : TypeId} {size : Nat} {v : Value} {n : Nat} {xs : List Value} (h : w.ownsRow base e size v n xs) (hb : Below w.heap.size w w') : w'.ownsRow base e size v n xs :=
  World.ownsRow.kept h (row := none) ⟨hb.os, hb.tape, hb.output, hb.size, fun k hk _ => hb.block k hk⟩ (by cases hv : v.ownBlock <;> simp)

theorem own_in {w : World} {base : Nat} {e : TypeId} {size n c k : Nat} {a : Option Addr} {xs : List (List Value)} {cs : List Value} (h : w.ownsRow base e size (.slice a n c) k cs) (hcs : cs = xs.flatten) (hk : k = xs.length) (hall : ∀ x ∈ xs, x.length = size) : SlIn w.heap.size w ⟨a, n, c⟩ size xs := by
  subst hcs; subst hk
  obtain ⟨a', n', c', e', hin, _⟩ := own_slin h hall
  cases e'
  exact hin

set_option maxHeartbeats 4000000 in
set_option maxRecDepth 100000 in
theorem begins_t (g : Int) (k : Nat) (w : World) (h0 : 0 ≤ g) (h1 : g < k) (hk1 : 1 ≤ k) (hk4 : k ≤ 4) :
    Calls Try.prog 6 #[.int .i64 g, .int .i64 k] w fun e w' => e = .returned (.bool true) ∧ Below w.heap.size w w' := by
  go_enter Try.func6, Try.ntmps6
  go_wp2_with (first | (go_at_call 23; go_must (refine (begin_t g k _ h0 h1 hk1 hk4).mono ?_; rintro e w1 ⟨bM, bO, bI, rfl, _, _, _, hM, hO, hI, hb1⟩; have hbA := later_alloc w1 (.cells #[.int .u8 g, .int .u8 k, .slice none 0 0, .slice (some ⟨bM, 0, none⟩) 1 1, .slice none 0 0, .slice (some ⟨bO, 0, none⟩) k k, .slice (some ⟨bI, 0, none⟩) k k] 74))) | (go_at_call 24; go_must (refine (ref_begin_t g k _ h0 h1 hk1 hk4).mono ?_; rintro e w2 ⟨vM, vO, vI, rfl, oM, oO, oI, hb2⟩; obtain ⟨ma, mn, mc, rfl⟩ := own_shape oM; obtain ⟨oa, on, oc, rfl⟩ := own_shape oO; obtain ⟨ia, il, ic, rfl⟩ := own_shape oI; have hbB := later_alloc w2 (.cells #[.int .u8 g, .int .u8 k, .slice none 0 0, .slice ma mn mc, .slice none 0 0, .slice oa on oc, .slice ia il ic] 74); have hb3 := hbA.trans ((hb2.mono hbA.size).trans (hbB.mono (Nat.le_trans hbA.size hb2.size))); have hM3 := blk_later hb3 hM; have hO3 := blk_later hb3 hO; have hI3 := blk_later hb3 hI; have hS2 := blk_later hbB (blk_later hb2 (heap_alloc_new w1 (.cells #[.int .u8 g, .int .u8 k, .slice none 0 0, .slice (some ⟨bM, 0, none⟩) 1 1, .slice none 0 0, .slice (some ⟨bO, 0, none⟩) k k, .slice (some ⟨bI, 0, none⟩) k k] 74))); have oM3 := own_belowS oM hbB; have oO3 := own_belowS oO hbB; have oI3 := own_belowS oI hbB; have hS3 := heap_alloc_new w2 (.cells #[.int .u8 g, .int .u8 k, .slice none 0 0, .slice ma mn mc, .slice none 0 0, .slice oa on oc, .slice ia il ic] 74))) | (with_reducible show wpList _ _ _ ({ dst := some 22, op := Op.load 74 _, type := _, pos := _, after := _, guard := none } :: _) _ _; go_must (refine wpList_load_blk rfl _ _ rfl w1.heap.size 0 rfl 7 _ Try.underlying74 rfl sz_shd _ _ hS2 rfl [.int .u8 g, .int .u8 k, .slice none 0 0, .slice (some ⟨bM, 0, none⟩) 1 1, .slice none 0 0, .slice (some ⟨bO, 0, none⟩) k k, .slice (some ⟨bI, 0, none⟩) k k] rfl ?_)) | (with_reducible show wpList _ _ _ ({ dst := some 23, op := Op.load 74 _, type := _, pos := _, after := _, guard := none } :: _) _ _; go_must (refine wpList_load_blk rfl _ _ rfl w2.heap.size 0 rfl 7 _ Try.underlying74 rfl sz_shd _ _ hS3 rfl [.int .u8 g, .int .u8 k, .slice none 0 0, .slice ma mn mc, .slice none 0 0, .slice oa on oc, .slice ia il ic] rfl ?_)) | (go_at_call 25; go_must (refine (sameshard_begun g k [⟨0, 0⟩] k _ _ _ _ _ _ _ _ _ _ _ _ _ _ _ _ _ _ _ (blk_slin hM3 rfl (pcs_all _) rfl (by decide)) (blk_slin hO3 (by rw [laneCells_flat]) (rep_all rfl) (by simp) (by unfold maxLen; omega)) (blk_slin hI3 (by rw [zeros_flat]) (rep_all rfl) (by simp) (by unfold maxLen; omega)) (own_in oM3 rfl rfl (pcs_all _)) (own_in oO3 (laneCells_flat k) (by simp) (rep_all rfl)) (own_in oI3 (zeros_flat k) (by simp) (rep_all rfl)) hk4).mono ?_; rintro e w4 ⟨rfl, hb4⟩)))
  go_ret
  have hbT := hb1.trans (hb3.mono hb1.size)
  exact ⟨rfl, hbT.trans (hb4.mono hbT.size)⟩

set_option maxHeartbeats 4000000 in
set_option maxRecDepth 100000 in
theorem begins_f (g n : Int) (w : World) (h : n < 1 ∨ 4 < n ∨ g < 0 ∨ n ≤ g) :
    Calls Try.prog 6 #[.int .i64 g, .int .i64 n] w fun e w' => e = .returned (.bool true) ∧ Below w.heap.size w w' := by
  have H := hideS h
  clear h
  go_enter Try.func6, Try.ntmps6
  go_wp2_with (first | (go_at_call 23; go_must (refine (begin_f g n _ H.out).mono ?_; rintro e w1 ⟨rfl, hb1⟩; have hbA := later_alloc w1 (.cells #[.int .u8 0, .int .u8 0, .slice none 0 0, .slice none 0 0, .slice none 0 0, .slice none 0 0, .slice none 0 0] 74))) | (go_at_call 24; go_must (refine (ref_begin_f g n _ H.out).mono ?_; rintro e w2 ⟨rfl, hb2⟩; have hbB := later_alloc w2 (.cells #[.int .u8 0, .int .u8 0, .slice none 0 0, .slice none 0 0, .slice none 0 0, .slice none 0 0, .slice none 0 0] 74); have hb3 := hbA.trans ((hb2.mono hbA.size).trans (hbB.mono (Nat.le_trans hbA.size hb2.size))); have hS2 := blk_later hbB (blk_later hb2 (heap_alloc_new w1 (.cells #[.int .u8 0, .int .u8 0, .slice none 0 0, .slice none 0 0, .slice none 0 0, .slice none 0 0, .slice none 0 0] 74))); have hS3 := heap_alloc_new w2 (.cells #[.int .u8 0, .int .u8 0, .slice none 0 0, .slice none 0 0, .slice none 0 0, .slice none 0 0, .slice none 0 0] 74))) | (with_reducible show wpList _ _ _ ({ dst := some 22, op := Op.load 74 _, type := _, pos := _, after := _, guard := none } :: _) _ _; go_must (refine wpList_load_blk rfl _ _ rfl w1.heap.size 0 rfl 7 _ Try.underlying74 rfl sz_shd _ _ hS2 rfl [.int .u8 0, .int .u8 0, .slice none 0 0, .slice none 0 0, .slice none 0 0, .slice none 0 0, .slice none 0 0] rfl ?_)) | (with_reducible show wpList _ _ _ ({ dst := some 23, op := Op.load 74 _, type := _, pos := _, after := _, guard := none } :: _) _ _; go_must (refine wpList_load_blk rfl _ _ rfl w2.heap.size 0 rfl 7 _ Try.underlying74 rfl sz_shd _ _ hS3 rfl [.int .u8 0, .int .u8 0, .slice none 0 0, .slice none 0 0, .slice none 0 0, .slice none 0 0, .slice none 0 0] rfl ?_)) | (go_at_call 25; go_must (refine (sameshard_begun 0 0 [] 0 none 0 0 none 0 0 none 0 0 none 0 0 none 0 0 none 0 0 _ (nil_in _ _) (nil_in _ _) (nil_in _ _) (nil_in _ _) (nil_in _ _) (nil_in _ _) (by decide)).mono ?_; rintro e w4 ⟨rfl, hb4⟩)))
  go_ret
  have hbT := hb1.trans (hb3.mono hb1.size)
  exact ⟨rfl, hbT.trans (hb4.mono hbT.size)⟩

theorem begins_any (g n : Int) (w : World) :
    Calls Try.prog 6 #[.int .i64 g, .int .i64 n] w fun e w' => e = .returned (.bool true) ∧ Below w.heap.size w w' := by
  by_cases h : n < 1 ∨ 4 < n ∨ g < 0 ∨ n ≤ g
  · exact begins_f g n w h
  · obtain ⟨k, rfl⟩ : ∃ k : Nat, n = k := ⟨n.toNat, by omega⟩
    exact begins_t g k w (by omega) (by omega) (by omega) (by omega)

end Go.Proofs.Ytignemioillaiaa
