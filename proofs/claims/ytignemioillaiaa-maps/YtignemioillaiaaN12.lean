/- Maps: every Find and Give; the map that was handed in stays as it is, and what came out is the caller's. -/
import Derived.Test.YtignemioillaiaaN11
namespace Go.Proofs.Ytignemioillaiaa
open Go.RowKit

theorem later_grown' {w w' : World} (hg : w.grownBy w' none) : Below w.heap.size w w' := ⟨hg.os, hg.tape, hg.output, hg.size, fun k hk => hg.block k hk (by simp)⟩

theorem hide {p : Prop} (h : p) : Hid p := h

theorem own_len {w : World} {base : Nat} {e : TypeId} {size : Nat} {v : Value} {n : Nat} {xs : List Value} (h : w.ownsRow base e size v n xs) : xs.length = n * size := h.1

theorem own_whole2 {w : World} {base g n : Nat} {e : TypeId} {size : Nat} {xs : List Value} (h : w.ownsRow base e size (.slice (some ⟨g, 0, none⟩) n n) n xs) : w.heap[g]? = some (.cells xs.toArray e) := by
  rcases h.2 with ⟨h, _⟩ | ⟨g', cap, cur, hv, hb, hg, hnc, hcm, hcs, ht⟩
  · cases h
  · simp only [Value.slice.injEq, Option.some.injEq, Addr.mk.injEq, and_true] at hv
    obtain ⟨rfl, _, rfl⟩ := hv
    rw [hg]
    have : cur.toList = xs := by rw [← ht, List.take_of_length_le (by simp [hcs])]
    rw [← this]

theorem OwnP.mapin {base : Nat} {w : World} {a : Option Addr} {n c : Nat} {l : List Pc} (h : OwnP base w (.slice a n c) l) : MapIn w a n c l := by
  obtain ⟨a', n', c', e, hin, _⟩ := h.slin
  cases e
  exact hin

/-- The copy of the map, with its mark behind it. -/
def marked (m : List Pc) : List Value := (m.map Pc.cells).flatten ++ [.int .u64 77, .int .u8 0]

theorem flat_pcs (m : List Pc) : (m.map Pc.cells).flatten.length = m.length * 2 := by
  rw [flat_len _ (pcs_all m), List.length_map]

theorem marked_set {m : List Pc} {cur : List Value} (h : cur.length = (m.length + 1) * 2) :
    ((m.map Pc.cells).flatten ++ cur.drop (m.length * 2)).take (m.length * 2) ++ [.int .u64 77, .int .u8 0] ++ ((m.map Pc.cells).flatten ++ cur.drop (m.length * 2)).drop (m.length * 2 + 2) = marked m := by
  have hf := flat_pcs m
  rw [← hf, List.take_left, hf]
  have : ((m.map Pc.cells).flatten ++ cur.drop (m.length * 2)).drop (m.length * 2 + 2) = [] := by
    apply List.drop_of_length_le
    simp only [List.length_append, List.length_drop]
    omega
  rw [this, List.append_nil]; rfl

theorem marked_in {w : World} {B : Nat} {m : List Pc} {t : TypeId} (hW : w.heap[B]? = some (.cells (marked m).toArray t)) (hm : m.length + 1 ≤ maxLen) : MapIn w (some ⟨B, 0, none⟩) m.length (m.length + 1) m := by
  refine ⟨by simp, by show m.length ≤ m.length + 1; omega, hm, fun _ => ⟨B, 0, rfl, (Array.getElem?_eq_some_iff.1 hW).1, fun i x hx j u hu => ?_⟩⟩
  rw [blk_cell hW]
  have := flat_at _ (pcs_all m) i x j u hx hu
  have hlt := (List.getElem?_eq_some_iff.1 this).1
  rw [Nat.zero_add]
  simp only [List.getElem?_toArray, marked]
  rw [List.getElem?_append_left hlt]
  exact this

theorem marked_end {w : World} {B : Nat} {m : List Pc} {t : TypeId} (hW : w.heap[B]? = some (.cells (marked m).toArray t)) : w.cell? ⟨B, m.length * 2, none⟩ = some (.int .u64 77) ∧ w.cell? ⟨B, m.length * 2 + 1, none⟩ = some (.int .u8 0) := by
  have hf := flat_pcs m
  constructor
  · rw [blk_cell hW]
    simp only [List.getElem?_toArray, marked]
    rw [List.getElem?_append_right (by omega), hf, Nat.sub_self]; rfl
  · rw [blk_cell hW]
    simp only [List.getElem?_toArray, marked]
    rw [List.getElem?_append_right (by omega), hf, Nat.add_sub_cancel_left]; rfl

/-- A store into a row of the call's own: it is owned still. -/
theorem own_stored {w' : World} {base g n cap : Nat} {e : TypeId} {size : Nat} {cur : Array Value} {ys : List Value} (hb : base ≤ g) (hnc : n ≤ cap) (hcm : cap ≤ maxLen) (hcs : cur.size = cap * size) (hl : ys.length = cur.size) (hW : w'.heap[g]? = some (.cells ys.toArray e)) :
    w'.ownsRow base e size (.slice (some ⟨g, 0, none⟩) n cap) n (ys.take (n * size)) := by
  refine ⟨?_, .inr ⟨g, cap, ys.toArray, rfl, hb, hW, hnc, hcm, by simp; omega, by simp⟩⟩
  rw [List.length_take, hl, hcs]
  exact Nat.min_eq_left (Nat.mul_le_mul_right _ hnc)

set_option maxHeartbeats 2000000 in
set_option maxRecDepth 100000 in
theorem maps_any (a : Option Addr) (n c : Nat) (m : List Pc) (key lo hi g : Int) (w : World) (h : MapIn w a n c m) (hwf : ∀ (i : Nat) (x : Pc), m[i]? = some x → x.wf) (hk0 : 0 ≤ key) (hl0 : 0 ≤ lo) (hh0 : 0 ≤ hi) (hh1 : hi < 18446744073709551616) (hg0 : 0 ≤ g) (hbytes : n * 16 ≤ 140737488355328) :
    Calls Try.prog 5 #[.slice a n c, .int .u64 key, .int .u64 lo, .int .u64 hi, .int .u8 g] w fun e w' => e = .returned (.bool true) ∧ Below w.heap.size w w' := by
  obtain ⟨i0, hi0, hz0, hz1, hz2⟩ := info_parts info_pc
  have hlen : n = m.length := by simpa using h.len
  subst hlen
  have hlm : m.length ≤ 8796093022208 := by omega
  have HB : Hid (m.length * 16 ≤ 140737488355328) := hbytes
  clear hbytes
  go_enter Try.func5, Try.ntmps5
  go_wp2_with (first | (with_reducible show wpList _ _ _ ({ dst := some 29, op := Op.makeSlice _ _ _, type := _, pos := _, after := _, guard := none } :: _) _ _; go_must (refine wpList_make_full _ rfl _ _ _ rfl w.heap.size 64 i0 (.agg #[.int .u64 0, .int .u8 0]) 2 Try.underlying62 hi0 hz0 hz1 .i64 .i64 _ _ (m.length + 1) rfl rfl (by omega) (by omega) (by rw [hz2]; omega) (by unfold maxLen; omega) (Nat.le_refl _) ?_; intro w1 ho1 hg1; have hW1 := own_whole2 ho1; have hcl := own_len ho1; have hb1 := later_grown' hg1; generalize (madeCells (Value.agg #[.int .u64 0, .int .u8 0]).cells ((m.length + 1) * 2)).toList = cur at hW1 hcl; clear ho1 hg1)) | (with_reducible show wpList _ _ _ ({ dst := some 32, op := Op.call _, type := _, pos := _, after := _, guard := none } :: _) _ _; go_must (refine wpList_copy_in rfl _ _ _ _ rfl 64 2 Try.underlying62 sz_pc w.heap.size (m.length + 1) (m.length + 1) rfl a m.length c rfl cur _ hW1 w.heap.size _ (h.below hb1 (Nat.le_refl _)) (pcs_all m) (pcs_one m) (by omega) (by omega) ?_; intro w2 hW2 hO2)) | (with_reducible show wpList _ _ _ ({ dst := none, op := Op.store 64 _ _, type := _, pos := _, after := _, guard := none } :: _) _ _; go_must (refine wpList_store_blk rfl _ _ _ rfl rfl w.heap.size (m.length * 2) rfl [.int .u64 77, .int .u8 0] rfl _ sz_pc rfl rfl _ _ hW2 (by rw [List.length_append, flat_pcs, List.length_drop]; simp [Nat.ble_eq]; omega) _ (marked_set hcl) ?_; intro w3 hW3 hO3; have HW3 := hide hW3; clear hW3 hW2 hW1; have hn3 : Below w.heap.size w w3 := (hb1.trans ((hO2.below (Nat.le_refl _)).trans (hO3.below (Nat.le_refl _)))))) | (go_at_call 18; go_must (refine (find_any _ _ _ m _ _ (marked_in HW3.out (by unfold maxLen; omega)) hwf hk0).mono ?_; rintro e w4 ⟨rfl, hb4⟩; have hn4 := hn3.trans (hb4.mono hn3.size))) | (go_at_call 19; go_must (refine (ref_find_any _ _ _ m _ _ (h.later hn4) hwf).mono ?_; rintro e w5 ⟨rfl, hb5⟩; have hn5 := hn4.trans (hb5.mono hn4.size); have HW5 := hide (blk_later hb5 (blk_later hb4 HW3.out)))) | (go_at_call 20; go_must (refine (give_any _ _ _ m _ _ _ _ (marked_in HW5.out (by unfold maxLen; omega)) hwf hh0 hh1).mono ?_; rintro e w6 ⟨a6, n6, c6, rfl, ho6, hb6⟩; have hn6 := hn5.trans (hb6.mono hn5.size))) | (go_at_call 21; go_must (refine (ref_give_any _ _ _ m _ _ _ _ (h.later hn6) hwf hl0 hh1 hg0).mono ?_; rintro e w7 ⟨a7, n7, c7, rfl, ho7, hb7⟩; have ho6' := ownp_below ho6 hb7)) | (go_at_call 22; go_must (refine (samepieces_any _ _ _ _ _ _ _ _ (OwnP.mapin ho6') (OwnP.mapin ho7)).mono ?_; rintro e w8 ⟨rfl, hb8⟩)))
  have ho8 := ownp_below ho6' hb8
  have hn6' : n6 = (gL m lo hi g).length := by simpa using (OwnP.mapin ho8).len
  have hn6m : n6 ≤ 1000 := by rw [hn6']; exact gL_len
  have hT8 : Below w5.heap.size w5 w8 := hb6.trans ((hb7.mono hb6.size).trans (hb8.mono (Nat.le_trans hb6.size hb7.size)))
  have hown8 : w8.ownsRow w5.heap.size 64 2 (.slice a6 n6 c6) n6 ((gL m lo hi g).map Pc.cells).flatten := by have := ho8; unfold OwnP at this; rw [← hn6'] at this; exact this
  clear ho6 ho6' ho7 ho8 hb6 hb7 hb8 hn6 hn6' hcl hO2 hO3 hb1 hb4 hb5
  go_loopw [22] (fun i wr => ∃ k : Nat, k ≤ n6 ∧ i = .int .i64 k ∧ Hid (∃ ys, wr.ownsRow w5.heap.size 64 2 (.slice a6 n6 c6) n6 ys) ∧ Below w5.heap.size w5 wr) (fun i _ => n6 - (intOf i).toNat)
  case atStart => exact ⟨0, Nat.zero_le _, rfl, ⟨_, hown8⟩, hT8⟩
  case round =>
    clear hown8 hT8
    obtain ⟨k, hk, rfl, HO, hnx⟩ := hrel
    by_cases hlt : k < n6
    · obtain ⟨ys, hown⟩ := HO.out
      rcases hown.2 with ⟨_, hz⟩ | ⟨gb, cap, cur2, hv, hbg, hgg, hnc, hcm, hcs, _⟩
      · omega
      · simp only [Value.slice.injEq] at hv
        obtain ⟨rfl, _, rfl⟩ := hv
        have hW : wr.heap[gb]? = some (.cells cur2.toList.toArray 64) := by rw [hgg]
        have hdk : decide ((k : Int) < (n6 : Int)) = true := by simp; omega
        have hi1 : (0 : Int) ≤ (k : Int) := by omega
        have hi2 : (k : Int) < (n6 : Int) := by omega
        have hcl2 : cur2.toList.length = c6 * 2 := by simpa using hcs
        have hfit : Nat.ble (k * 2 + 2) cur2.toList.length = true := by rw [hcl2]; simp [Nat.ble_eq]; omega
        obtain ⟨zs, hzs⟩ : ∃ zs, zs = cur2.toList.take (k * 2) ++ [.int .u64 77, .int .u8 0] ++ cur2.toList.drop (k * 2 + 2) := ⟨_, rfl⟩
        have hzl : zs.length = cur2.size := by rw [hzs, hcs]; simp; omega
        clear hown hgg HO
        go_wp2_with (first | (with_reducible show wpList _ _ _ ({ dst := none, op := Op.store 64 _ _, type := _, pos := _, after := _, guard := none } :: _) _ _; go_must (refine wpList_store_blk rfl _ _ _ rfl rfl gb (k * 2) rfl [.int .u64 77, .int .u8 0] rfl _ sz_pc rfl rfl _ _ hW hfit zs hzs.symm ?_; intro w9 hW9 hO9)))
        go_roundw
        case rel => exact ⟨k + 1, by omega, by go_num, ⟨_, own_stored hbg hnc hcm hcs hzl hW9⟩, hnx.trans (hO9.below hbg)⟩
        case measure => simp [intOf]; omega
    · have hdk : decide ((k : Int) < (n6 : Int)) = false := by simp; omega
      go_wp2_with fail
      clear hlt hk
      go_loopw [17, 23] (fun va i wr2 => ∃ (q n9 : Nat), q ≤ 3 ∧ n9 ≤ 1000 + q ∧ i = .int .i64 q ∧ Hid (∃ ys, wr2.ownsRow w5.heap.size 64 2 va n9 ys) ∧ Below w5.heap.size w5 wr2) (fun _ i _ => 3 - (intOf i).toNat)
      case atStart => exact ⟨0, n6, by omega, by omega, rfl, HO, hnx⟩
      case round =>
        clear HO hnx
        obtain ⟨q, n9, hq, hn9, rfl, HO, hnx⟩ := hrel
        have hsz5 : w5.heap.size ≤ wr.heap.size := hnx.size
        by_cases hlt : q < 3
        · have hdq : decide ((q : Int) < 3) = true := by simp; omega
          obtain ⟨ys, hown⟩ := HO.out
          clear HO
          go_wp2_with (first | (at_builtin; go_must (refine wpList_append_new _ rfl _ _ 62 rfl w5.heap.size 64 i0 (.agg #[.int .u64 0, .int .u8 0]) 2 16 Try.underlying62 hi0 hz0 hz1 hz2 rfl (by decide) _ _ _ rfl (World.ownsRow.alloc hown _) _ 1 1 [.int .u64 77, .int .u8 0] rfl rfl ?_ ?_ ?_ ?_ ?_ ?_)))
          case refine_1 => exact pc_new rfl
          case refine_2 => exact pc_one1 77 0
          case refine_3 => unfold maxLen; omega
          case refine_4 => omega
          case refine_5 => simp; omega
          intro v' w9 ho9 hg9
          go_wp2
          go_roundw
          case rel =>
            refine ⟨q + 1, n9 + 1, by omega, by omega, by go_num, ⟨_, ho9⟩, ?_⟩
            have hA := World.ownsRow.alloc hown (.cells #[.int .u64 77, .int .u8 0] 64)
            exact hnx.trans ((Below.mono (later_alloc wr _) hsz5).trans ((Below.refl _ _).grown hg9.grown (by simp; omega) (fun k hk => (World.ownsRow.lt hA k hk).1)))
          case measure => simp [intOf]; omega
        · have hdq : decide ((q : Int) < 3) = false := by simp; omega
          have hn9' : Below w.heap.size w wr := hn5.trans (hnx.mono hn5.size)
          have HW9 := hide ((hnx.block w.heap.size (Array.getElem?_eq_some_iff.1 HW5.out).1).trans HW5.out)
          go_wp2_with (first | (go_at_call 22; go_must (refine (samepieces_any _ _ _ _ _ _ m _ (marked_in HW9.out (by unfold maxLen; omega)) (h.later hn9')).mono ?_; rintro e w10 ⟨rfl, hb10⟩; obtain ⟨hcA, hcB⟩ := marked_end (blk_later hb10 HW9.out))))
          go_ret
          exact ⟨rfl, hn9'.trans (hb10.mono hn9'.size)⟩

end Go.Proofs.Ytignemioillaiaa
