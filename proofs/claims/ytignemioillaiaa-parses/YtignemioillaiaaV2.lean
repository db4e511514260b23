/- The document's reader in the program: numbers. The document's reader in the program: ballots, requests, replies. -/
import Derived.Test.YtignemioillaiaaQ21
import Derived.Test.YtignemioillaiaaQ6
import Derived.Deep.QuietTactic
import Derived.BigQuiet
import Derived.Test.YtignemioillaiaaD4
namespace Go.Proofs.Ytignemioillaiaa
open Go.RowKit

theorem mul_byte {y x : Int} (h0 : 0 ≤ y) (h1 : y < 72057594037927936) (hx : 0 ≤ x ∧ x < 256) : IntKind.u64.wrap (IntKind.u64.wrap (256 * y) + x) = y * 256 + x := by
  have e1 : IntKind.u64.wrap (256 * y) = (256 * y) % 18446744073709551616 := rfl
  have e2 : ∀ z, IntKind.u64.wrap z = z % 18446744073709551616 := fun _ => rfl
  rw [e1, e2]; omega

set_option maxHeartbeats 1000000 in
set_option maxRecDepth 100000 in
theorem ref_value (l : List Int) (n : Nat) (w : World) (hb : Byt l) (hn : n ≤ 8) (hl : l.length ≤ 1000000000000000) :
    Calls Try.prog 100 #[.string (bstr l), .int .i64 n] w fun e w' => e = .returned (.tuple #[.int .u64 (num n l).1, .string (bstr (num n l).2), .bool (!decide (l.length < n))]) ∧ ∃ m, w' = w.drewN m := by
  have hsz := bstr_size l
  by_cases hs : l.length < n
  · have hd : decide (((bstr l).size : Int) < (n : Int)) = true := by rw [hsz]; simp; omega
    have e : num n l = (0, []) := by unfold num; rw [if_pos hs]
    have ed : decide (l.length < n) = true := by simp; omega
    rw [e, ed]
    go_enter Try.func100, Try.ntmps100
    go_wp2_with fail
    go_ret3
    exact ⟨rfl, 0, rfl⟩
  · have hd : decide (((bstr l).size : Int) < (n : Int)) = false := by rw [hsz]; simp; omega
    have ed : decide (l.length < n) = false := by simp; omega
    rw [ed]
    go_enter Try.func100, Try.ntmps100
    go_wp2_with fail
    have HB := hidQ hb
    have hln : n ≤ l.length := by omega
    go_loopw [7, 8] (fun acc i wr => ∃ (k : Nat) (y : Int), k ≤ n ∧ i = .int .i64 k ∧ acc = .int .u64 y ∧ Hid (y = be (l.take k)) ∧ 0 ≤ y ∧ Hid (y < 256 ^ k) ∧ w = wr) (fun _ i _ => n - (intOf i).toNat)
    case atStart => exact ⟨0, 0, Nat.zero_le _, rfl, rfl, rfl, Int.le_refl _, (by show (0 : Int) < 256 ^ 0; decide), rfl⟩
    case round =>
      obtain ⟨k, y, hk, rfl, rfl, HY, hy0, HY2, rfl⟩ := hrel
      by_cases hlt : k < n
      · have hks : k < (bstr l).size := by rw [hsz]; omega
        obtain ⟨x, hx⟩ : ∃ x, l[k]? = some x := ⟨l[k]'(by omega), by simp⟩
        have hxb := HB.out x (List.mem_of_getElem? hx)
        have hat : (((bstr l)[k]'hks).toNat : Int) = x := bstr_at' l k x hx hxb hks
        have hi1 : (0 : Int) ≤ (k : Int) := by omega
        have hp := pow256 (k := k) (by omega)
        have hy7 : y < 72057594037927936 := by have := HY2.out; omega
        have hor := mul_byte hy0 hy7 hxb
        have hx64 : IntKind.u64.wrap x = x := by have e : IntKind.u64.wrap x = x % 18446744073709551616 := rfl; rw [e]; omega
        have HY3 : Hid (y * 256 + x < 256 ^ (k + 1)) := by
          show y * 256 + x < 256 ^ (k + 1)
          rw [Int.pow_succ]; have := HY2.out; omega
        have HY4 : Hid (y * 256 + x = be (l.take (k + 1))) := by
          show _ = _
          rw [List.take_add_one, hx, Option.toList_some, be_snoc, HY.out]
        clear hx hp
        go_wp2_with fail
        go_roundw
        case rel => exact ⟨k + 1, y * 256 + x, by omega, by go_num, by rw [Int.mul_comm y 256], HY4, by omega, HY3, trivial⟩
        case measure => simp [intOf]; omega
      · obtain rfl : k = n := by omega
        have hle : (k : Int) ≤ ((bstr l).size : Int) := by rw [hsz]; omega
        have hk0 : (0 : Int) ≤ (k : Int) := by omega
        go_wp2_with fail
        go_quiet (fail)
        go_wp2_with fail
        go_ret3
        have e : num k l = (be (l.take k), l.drop k) := by unfold num; rw [if_neg (by omega)]
        rw [e, ← bstr_drop, ← HY.out]
        exact ⟨rfl, _, rfl⟩

/-- What is left of some bytes, in block B: the bytes s.1, and are they broken (s.2)? -/
structure Rst (B : Nat) (w : World) (s : List Int × Bool) : Prop where
  blk : w.heap[B]? = some (.cells #[.string (bstr s.1), .bool s.2] 122)
  byt : Byt s.1
  len : s.1.length ≤ 1000000000000000

theorem Rst.lt {B : Nat} {w : World} {s : List Int × Bool} (h : Rst B w s) : B < w.heap.size := (Array.getElem?_eq_some_iff.1 h.blk).1
theorem Rst.only {B C : Nat} {w w' : World} {s : List Int × Bool} (h : Rst B w s) (hO : Only C w w') (hne : B ≠ C) : Rst B w' s := ⟨(hO.block B hne).trans h.blk, h.byt, h.len⟩
theorem Rst.alloc {B : Nat} {w : World} {s : List Int × Bool} (h : Rst B w s) (o : Obj) : Rst B (w.alloc o) s := ⟨blk_later (later_alloc w o) h.blk, h.byt, h.len⟩
theorem byt_bnum {n : Nat} {s : List Int × Bool} (h : Byt s.1) : Byt (bnum n s).2.1 := byt_num h
theorem upd_drewN (B : Nat) (w : World) (m : Nat) : Upd B w (w.drewN m) := ⟨rfl, rfl, rfl, Nat.le_refl _, fun _ _ _ => rfl⟩

theorem drewN_blk {w w' : World} {m B : Nat} {o : Obj} (h : w' = w.drewN m) (hW : w.heap[B]? = some o) : w'.heap[B]? = some o := by subst h; exact hW
theorem upd_drewN' {B : Nat} {w w' : World} {m : Nat} (h : w' = w.drewN m) : Upd B w w' := by subst h; exact upd_drewN B w m

set_option maxHeartbeats 1000000 in
set_option maxRecDepth 100000 in
theorem rest_num (B : Nat) (l : List Int) (br : Bool) (n : Nat) (w : World) (h : Rst B w (l, br)) (hn : n ≤ 8) :
    Calls Try.prog 46 #[.pointer (some ⟨B, 0, none⟩), .int .i64 n] w fun e w' => e = .returned (.int .u64 (bnum n (l, br)).1) ∧ Rst B w' (bnum n (l, br)).2 ∧ Upd B w w' := by
  have hb := h.byt
  have hl := h.len
  have hW := h.blk
  dsimp only at hb hl hW
  have hc := blk_cell hW
  have HB := hidQ hb
  have HL := hidQ hl
  obtain ⟨x, hx⟩ : ∃ x, (num n l).1 = x := ⟨_, rfl⟩
  obtain ⟨r, hr⟩ : ∃ r, (num n l).2 = r := ⟨_, rfl⟩
  obtain ⟨d, hd⟩ : ∃ d, decide (l.length < n) = d := ⟨_, rfl⟩
  have HV : Hid (∀ w : World, Calls Try.prog 100 #[.string (bstr l), .int .i64 n] w fun e w' => e = .returned (.tuple #[.int .u64 x, .string (bstr r), .bool (!d)]) ∧ ∃ m, w' = w.drewN m) := fun w => by
    have := ref_value l n w hb hn hl
    rw [hx, hr, hd] at this
    exact this
  have HE : Hid (bnum n (l, br) = (x, (r, br || d))) := by
    show bnum n (l, br) = _
    unfold bnum
    simp only [hx, hr, hd]
  have hbr : Byt r := by rw [← hr]; exact byt_num hb
  have hlr : r.length ≤ 1000000000000000 := by rw [← hr]; exact Nat.le_trans len_num hl
  have HBR := hidQ hbr
  rw [HE.out]
  clear hx hr hd hb hl h hbr
  go_enter Try.func46, Try.ntmps46
  cases br <;> cases d <;> (
    go_wp2_with (first | (go_at_call 100; go_must (refine (HV.out _).mono ?_; rintro e w1 ⟨rfl, m, hm⟩; have hW1 := drewN_blk hm hW; have hU1 := upd_drewN' (B := B) hm; have hc1 := blk_cell hW1; clear hm)) | (with_reducible show wpList _ _ _ ({ dst := none, op := Op.store 9 _ _, type := _, pos := _, after := _, guard := none } :: _) _ _; go_must (refine wpList_store_cell rfl _ _ _ rfl rfl B 0 rfl (.string (bstr r)) rfl sz_str rfl _ _ hW1 rfl _ rfl ?_; intro w2 hW2 hO2; have hc2 := blk_cell hW2)) | (with_reducible show wpList _ _ _ ({ dst := none, op := Op.store 4 _ _, type := _, pos := _, after := _, guard := none } :: _) _ _; go_must (refine wpList_store_cell rfl _ _ _ rfl rfl B 1 rfl _ rfl sz_bool rfl _ _ hW2 rfl _ rfl ?_; intro w3 hW3 hO3)))
    go_ret
    exact ⟨rfl, ⟨hW3, HBR.out, hlr⟩, upd_trans hU1 (upd_trans (upd_only hO2) (upd_only hO3))⟩)


end Go.Proofs.Ytignemioillaiaa

namespace Go.Proofs.Ytignemioillaiaa
open Go.RowKit

theorem rest_k (B : Nat) (s : List Int × Bool) (k : Int) (w : World) (h : Rst B w s) (hk : k = 1 ∨ k = 4 ∨ k = 8) :
    Calls Try.prog 46 #[.pointer (some ⟨B, 0, none⟩), .int .i64 k] w fun e w' => e = .returned (.int .u64 (bnum k.toNat s).1) ∧ Rst B w' (bnum k.toNat s).2 ∧ Upd B w w' := by
  obtain ⟨l, br⟩ := s
  rcases hk with rfl | rfl | rfl
  · exact rest_num B l br 1 w h (by decide)
  · exact rest_num B l br 4 w h (by decide)
  · exact rest_num B l br 8 w h (by decide)

theorem b_u8 {s : List Int × Bool} (h : Byt s.1) : IntKind.u8.wrap (bnum 1 s).1 = (bnum 1 s).1 := by
  have := num1_in h
  have e : IntKind.u8.wrap (bnum 1 s).1 = (bnum 1 s).1 % 256 := rfl
  have e2 : (bnum 1 s).1 = (num 1 s.1).1 := rfl
  rw [e, e2]; omega
theorem b_u32 {s : List Int × Bool} (h : Byt s.1) : IntKind.u32.wrap (bnum 4 s).1 = (bnum 4 s).1 := by
  have := num4_in h
  have e : IntKind.u32.wrap (bnum 4 s).1 = (bnum 4 s).1 % 4294967296 := rfl
  have e2 : (bnum 4 s).1 = (num 4 s.1).1 := rfl
  rw [e, e2]; omega
theorem Rst.alloc2 {B : Nat} {w : World} {s : List Int × Bool} (h : Rst B w s) (o p : Obj) : Rst B ((w.alloc o).alloc p) s := (h.alloc o).alloc p
theorem upd_blk {B C : Nat} {w w' : World} {o : Obj} (h : Upd B w w') (hne : C ≠ B) (hW : w.heap[C]? = some o) : w'.heap[C]? = some o :=
  (h.block C (Array.getElem?_eq_some_iff.1 hW).1 (by simp; exact hne)).trans hW
theorem upd_alloc1 (B : Nat) (w : World) (o : Obj) : Upd B w (w.alloc o) := by
  have h := later_alloc w o
  exact ⟨h.os, h.tape, h.output, h.size, fun k hk _ => h.block k hk⟩

set_option maxHeartbeats 1000000 in
set_option maxRecDepth 100000 in
theorem rest_ballot (B : Nat) (s : List Int × Bool) (w : World) (h : Rst B w s) :
    Calls Try.prog 49 #[.pointer (some ⟨B, 0, none⟩)] w fun e w' => e = .returned (.agg #[.int .u32 (bnum 4 s).1, .int .u8 (bnum 1 (bnum 4 s).2).1]) ∧ Rst B w' (bnum 1 (bnum 4 s).2).2 ∧ Upd B w w' := by
  have hlt := h.lt
  have hneR : w.heap.size ≠ B := by omega
  have hneB' : B ≠ w.heap.size := by omega
  have hS := h.alloc (.cells #[.int .u32 0, .int .u8 0] 29)
  have hU := upd_alloc1 B w (.cells #[.int .u32 0, .int .u8 0] 29)
  have hR := heap_alloc_new w (.cells #[.int .u32 0, .int .u8 0] 29)
  have hq8 := b_u8 h.byt
  have hq4 := b_u32 h.byt
  go_enter Try.func49, Try.ntmps49
  go_wp2_with (first | (go_at_call 46; go_must (refine (rest_k B _ _ _ hS (by decide)).mono ?_; rintro e w1 ⟨rfl, hS1, hU1⟩; (try simp only [Int.reduceToNat] at hS1 ⊢); have hU := upd_trans hU hU1; have hR := upd_blk hU1 hneR hR; have hS := hS1; have hq8 := b_u8 hS.byt; have hq4 := b_u32 hS.byt)) | (with_reducible show wpList _ _ _ ({ dst := none, op := Op.store 29 _ _, type := _, pos := _, after := _, guard := none } :: _) _ _; go_must (refine wpList_store_blk rfl _ _ _ rfl rfl w.heap.size 0 rfl [.int .u32 (bnum 4 s).1, .int .u8 (bnum 1 (bnum 4 s).2).1] rfl _ sz_bal rfl rfl _ _ hR rfl [.int .u32 (bnum 4 s).1, .int .u8 (bnum 1 (bnum 4 s).2).1] rfl ?_; intro w1 hR1 hOr; have hU := upd_new hU hOr (Nat.le_refl _); have hS := hS.only hOr hneB')))
  exact bodyPost_ret (v := .agg #[.int .u32 (bnum 4 s).1, .int .u8 (bnum 1 (bnum 4 s).2).1]) (results_cell_row Try.results49 _ _ w.heap.size 29 _ (0, 0) _ rfl hR1 Try.underlying29 rfl sz_bal) rfl ⟨rfl, by assumption, by assumption⟩

set_option maxHeartbeats 1000000 in
set_option maxRecDepth 100000 in
theorem rest_req2 (B : Nat) (s : List Int × Bool) (w : World) (h : Rst B w s) (hk : ((bnum 1 (bnum 4 (bnum 1 s).2).2).1 == 2) = true) (hk4 : ((bnum 1 (bnum 4 (bnum 1 s).2).2).1 == 4) = false) :
    Calls Try.prog 47 #[.pointer (some ⟨B, 0, none⟩)] w fun e w' => e = .returned (.agg (List.toArray (rQ (bnum 1 s).1 (bnum 4 (bnum 1 s).2).1 (bnum 1 (bnum 4 (bnum 1 s).2).2).1 (bnum 8 (bnum 1 (bnum 4 (bnum 1 s).2).2).2).1 (bnum 8 (bnum 8 (bnum 1 (bnum 4 (bnum 1 s).2).2).2).2).1 0 0))) ∧ Rst B w' (bnum 8 (bnum 8 (bnum 1 (bnum 4 (bnum 1 s).2).2).2).2).2 ∧ Upd B w w' := by
  have hlt := h.lt
  have hneV : w.heap.size + 1 ≠ B := by omega
  have hneR : w.heap.size ≠ B := by omega
  have hneB : B ≠ w.heap.size + 1 := by omega
  have hneB' : B ≠ w.heap.size := by omega
  have hneW : w.heap.size ≠ w.heap.size + 1 := by omega
  have hS := h.alloc2 (.cells (List.toArray oxQ) 25) (.cells (List.toArray oxQ) 25)
  have hU := upd_alloc2 B w (.cells (List.toArray oxQ) 25) (.cells (List.toArray oxQ) 25)
  have hR : ((w.alloc (.cells (List.toArray oxQ) 25)).alloc (.cells (List.toArray oxQ) 25)).heap[w.heap.size]? = some (.cells (List.toArray oxQ) 25) := heap_alloc2_old w _ _
  have hV : ((w.alloc (.cells (List.toArray oxQ) 25)).alloc (.cells (List.toArray oxQ) 25)).heap[w.heap.size + 1]? = some (.cells (List.toArray oxQ) 25) := heap_alloc2_new w _ _
  have hq8 := b_u8 h.byt
  have hq4 := b_u32 h.byt
  go_enter Try.func47, Try.ntmps47
  go_wp2_with (first | (go_at_call 46; go_must (refine (rest_k B _ _ _ hS (by decide)).mono ?_; rintro e w1 ⟨rfl, hS1, hU1⟩; (try simp only [Int.reduceToNat] at hS1 ⊢); have hU := upd_trans hU hU1; have hV := upd_blk hU1 hneV hV; have hR := upd_blk hU1 hneR hR; have hVB := blk_cell hV; have hS := hS1; have hq8 := b_u8 hS.byt; have hq4 := b_u32 hS.byt)) | (with_reducible show AtS 5 7 ..; go_must (refine wpList_store_cell rfl _ _ _ rfl rfl (w.heap.size + 1) 0 rfl (.int .u8 (bnum 1 s).1) rfl sz_u8 rfl _ _ hV rfl (rQ (bnum 1 s).1 0 0 0 0 0 0) rfl ?_; intro w1 hV1 hOv; have hU := upd_new hU hOv (Nat.le_succ _); have hR := (hOv.block _ hneW).trans hR; have hS := hS.only hOv hneB; have hV := hV1; have hVB := blk_cell hV)) | (with_reducible show AtS 22 11 ..; go_must (refine wpList_store_cell rfl _ _ _ rfl rfl (w.heap.size + 1) 1 rfl (.int .u32 (bnum 4 (bnum 1 s).2).1) rfl sz_u32 rfl _ _ hV rfl (rQ (bnum 1 s).1 (bnum 4 (bnum 1 s).2).1 0 0 0 0 0) rfl ?_; intro w1 hV1 hOv; have hU := upd_new hU hOv (Nat.le_succ _); have hR := (hOv.block _ hneW).trans hR; have hS := hS.only hOv hneB; have hV := hV1; have hVB := blk_cell hV)) | (with_reducible show AtS 5 15 ..; go_must (refine wpList_store_cell rfl _ _ _ rfl rfl (w.heap.size + 1) 2 rfl (.int .u8 (bnum 1 (bnum 4 (bnum 1 s).2).2).1) rfl sz_u8 rfl _ _ hV rfl (rQ (bnum 1 s).1 (bnum 4 (bnum 1 s).2).1 (bnum 1 (bnum 4 (bnum 1 s).2).2).1 0 0 0 0) rfl ?_; intro w1 hV1 hOv; have hU := upd_new hU hOv (Nat.le_succ _); have hR := (hOv.block _ hneW).trans hR; have hS := hS.only hOv hneB; have hV := hV1; have hVB := blk_cell hV)) | (with_reducible show AtS 23 18 ..; go_must (refine wpList_store_cell rfl _ _ _ rfl rfl (w.heap.size + 1) 3 rfl (.int .u64 (bnum 8 (bnum 1 (bnum 4 (bnum 1 s).2).2).2).1) rfl sz_u64 rfl _ _ hV rfl (rQ (bnum 1 s).1 (bnum 4 (bnum 1 s).2).1 (bnum 1 (bnum 4 (bnum 1 s).2).2).1 (bnum 8 (bnum 1 (bnum 4 (bnum 1 s).2).2).2).1 0 0 0) rfl ?_; intro w1 hV1 hOv; have hU := upd_new hU hOv (Nat.le_succ _); have hR := (hOv.block _ hneW).trans hR; have hS := hS.only hOv hneB; have hV := hV1; have hVB := blk_cell hV)) | (with_reducible show AtS 23 24 ..; go_must (refine wpList_store_cell rfl _ _ _ rfl rfl (w.heap.size + 1) 4 rfl (.int .u64 (bnum 8 (bnum 8 (bnum 1 (bnum 4 (bnum 1 s).2).2).2).2).1) rfl sz_u64 rfl _ _ hV rfl (rQ (bnum 1 s).1 (bnum 4 (bnum 1 s).2).1 (bnum 1 (bnum 4 (bnum 1 s).2).2).1 (bnum 8 (bnum 1 (bnum 4 (bnum 1 s).2).2).2).1 (bnum 8 (bnum 8 (bnum 1 (bnum 4 (bnum 1 s).2).2).2).2).1 0 0) rfl ?_; intro w1 hV1 hOv; have hU := upd_new hU hOv (Nat.le_succ _); have hR := (hOv.block _ hneW).trans hR; have hS := hS.only hOv hneB; have hV := hV1; have hVB := blk_cell hV)) | (with_reducible show wpList _ _ _ ({ dst := _, op := Op.load 25 _, type := _, pos := _, after := _, guard := none } :: _) _ _; go_must (refine wpList_load_blk rfl _ _ rfl (w.heap.size + 1) 0 rfl 7 _ Try.underlying25 rfl sz_req _ _ hV rfl (rQ (bnum 1 s).1 (bnum 4 (bnum 1 s).2).1 (bnum 1 (bnum 4 (bnum 1 s).2).2).1 (bnum 8 (bnum 1 (bnum 4 (bnum 1 s).2).2).2).1 (bnum 8 (bnum 8 (bnum 1 (bnum 4 (bnum 1 s).2).2).2).2).1 0 0) rfl ?_)) | (with_reducible show wpList _ _ _ ({ dst := none, op := Op.store 25 _ _, type := _, pos := _, after := _, guard := none } :: _) _ _; go_must (refine wpList_store_blk rfl _ _ _ rfl rfl w.heap.size 0 rfl (rQ (bnum 1 s).1 (bnum 4 (bnum 1 s).2).1 (bnum 1 (bnum 4 (bnum 1 s).2).2).1 (bnum 8 (bnum 1 (bnum 4 (bnum 1 s).2).2).2).1 (bnum 8 (bnum 8 (bnum 1 (bnum 4 (bnum 1 s).2).2).2).2).1 0 0) rfl _ sz_req rfl rfl _ _ hR rfl (rQ (bnum 1 s).1 (bnum 4 (bnum 1 s).2).1 (bnum 1 (bnum 4 (bnum 1 s).2).2).1 (bnum 8 (bnum 1 (bnum 4 (bnum 1 s).2).2).2).1 (bnum 8 (bnum 8 (bnum 1 (bnum 4 (bnum 1 s).2).2).2).2).1 0 0) rfl ?_; intro w1 hR1 hOr; have hU := upd_new hU hOr (Nat.le_refl _); have hS := hS.only hOr hneB')))
  exact bodyPost_ret (v := .agg (List.toArray (rQ (bnum 1 s).1 (bnum 4 (bnum 1 s).2).1 (bnum 1 (bnum 4 (bnum 1 s).2).2).1 (bnum 8 (bnum 1 (bnum 4 (bnum 1 s).2).2).2).1 (bnum 8 (bnum 8 (bnum 1 (bnum 4 (bnum 1 s).2).2).2).2).1 0 0))) (results_cell_row Try.results47 _ _ w.heap.size 25 _ (0, 0) _ rfl hR1 Try.underlying25 rfl sz_req) rfl ⟨rfl, by assumption, by assumption⟩

set_option maxHeartbeats 1000000 in
set_option maxRecDepth 100000 in
theorem rest_req4 (B : Nat) (s : List Int × Bool) (w : World) (h : Rst B w s) (hk2 : ((bnum 1 (bnum 4 (bnum 1 s).2).2).1 == 2) = false) (hk : ((bnum 1 (bnum 4 (bnum 1 s).2).2).1 == 4) = true) :
    Calls Try.prog 47 #[.pointer (some ⟨B, 0, none⟩)] w fun e w' => e = .returned (.agg (List.toArray (rQ (bnum 1 s).1 (bnum 4 (bnum 1 s).2).1 (bnum 1 (bnum 4 (bnum 1 s).2).2).1 (bnum 8 (bnum 1 (bnum 4 (bnum 1 s).2).2).2).1 0 (bnum 8 (bnum 8 (bnum 1 (bnum 4 (bnum 1 s).2).2).2).2).1 (bnum 1 (bnum 8 (bnum 8 (bnum 1 (bnum 4 (bnum 1 s).2).2).2).2).2).1))) ∧ Rst B w' (bnum 1 (bnum 8 (bnum 8 (bnum 1 (bnum 4 (bnum 1 s).2).2).2).2).2).2 ∧ Upd B w w' := by
  have hlt := h.lt
  have hneV : w.heap.size + 1 ≠ B := by omega
  have hneR : w.heap.size ≠ B := by omega
  have hneB : B ≠ w.heap.size + 1 := by omega
  have hneB' : B ≠ w.heap.size := by omega
  have hneW : w.heap.size ≠ w.heap.size + 1 := by omega
  have hS := h.alloc2 (.cells (List.toArray oxQ) 25) (.cells (List.toArray oxQ) 25)
  have hU := upd_alloc2 B w (.cells (List.toArray oxQ) 25) (.cells (List.toArray oxQ) 25)
  have hR : ((w.alloc (.cells (List.toArray oxQ) 25)).alloc (.cells (List.toArray oxQ) 25)).heap[w.heap.size]? = some (.cells (List.toArray oxQ) 25) := heap_alloc2_old w _ _
  have hV : ((w.alloc (.cells (List.toArray oxQ) 25)).alloc (.cells (List.toArray oxQ) 25)).heap[w.heap.size + 1]? = some (.cells (List.toArray oxQ) 25) := heap_alloc2_new w _ _
  have hq8 := b_u8 h.byt
  have hq4 := b_u32 h.byt
  go_enter Try.func47, Try.ntmps47
  go_wp2_with (first | (go_at_call 46; go_must (refine (rest_k B _ _ _ hS (by decide)).mono ?_; rintro e w1 ⟨rfl, hS1, hU1⟩; (try simp only [Int.reduceToNat] at hS1 ⊢); have hU := upd_trans hU hU1; have hV := upd_blk hU1 hneV hV; have hR := upd_blk hU1 hneR hR; have hVB := blk_cell hV; have hS := hS1; have hq8 := b_u8 hS.byt; have hq4 := b_u32 hS.byt)) | (with_reducible show AtS 5 7 ..; go_must (refine wpList_store_cell rfl _ _ _ rfl rfl (w.heap.size + 1) 0 rfl (.int .u8 (bnum 1 s).1) rfl sz_u8 rfl _ _ hV rfl (rQ (bnum 1 s).1 0 0 0 0 0 0) rfl ?_; intro w1 hV1 hOv; have hU := upd_new hU hOv (Nat.le_succ _); have hR := (hOv.block _ hneW).trans hR; have hS := hS.only hOv hneB; have hV := hV1; have hVB := blk_cell hV)) | (with_reducible show AtS 22 11 ..; go_must (refine wpList_store_cell rfl _ _ _ rfl rfl (w.heap.size + 1) 1 rfl (.int .u32 (bnum 4 (bnum 1 s).2).1) rfl sz_u32 rfl _ _ hV rfl (rQ (bnum 1 s).1 (bnum 4 (bnum 1 s).2).1 0 0 0 0 0) rfl ?_; intro w1 hV1 hOv; have hU := upd_new hU hOv (Nat.le_succ _); have hR := (hOv.block _ hneW).trans hR; have hS := hS.only hOv hneB; have hV := hV1; have hVB := blk_cell hV)) | (with_reducible show AtS 5 15 ..; go_must (refine wpList_store_cell rfl _ _ _ rfl rfl (w.heap.size + 1) 2 rfl (.int .u8 (bnum 1 (bnum 4 (bnum 1 s).2).2).1) rfl sz_u8 rfl _ _ hV rfl (rQ (bnum 1 s).1 (bnum 4 (bnum 1 s).2).1 (bnum 1 (bnum 4 (bnum 1 s).2).2).1 0 0 0 0) rfl ?_; intro w1 hV1 hOv; have hU := upd_new hU hOv (Nat.le_succ _); have hR := (hOv.block _ hneW).trans hR; have hS := hS.only hOv hneB; have hV := hV1; have hVB := blk_cell hV)) | (with_reducible show AtS 23 18 ..; go_must (refine wpList_store_cell rfl _ _ _ rfl rfl (w.heap.size + 1) 3 rfl (.int .u64 (bnum 8 (bnum 1 (bnum 4 (bnum 1 s).2).2).2).1) rfl sz_u64 rfl _ _ hV rfl (rQ (bnum 1 s).1 (bnum 4 (bnum 1 s).2).1 (bnum 1 (bnum 4 (bnum 1 s).2).2).1 (bnum 8 (bnum 1 (bnum 4 (bnum 1 s).2).2).2).1 0 0 0) rfl ?_; intro w1 hV1 hOv; have hU := upd_new hU hOv (Nat.le_succ _); have hR := (hOv.block _ hneW).trans hR; have hS := hS.only hOv hneB; have hV := hV1; have hVB := blk_cell hV)) | (with_reducible show AtS 23 30 ..; go_must (refine wpList_store_cell rfl _ _ _ rfl rfl (w.heap.size + 1) 5 rfl (.int .u64 (bnum 8 (bnum 8 (bnum 1 (bnum 4 (bnum 1 s).2).2).2).2).1) rfl sz_u64 rfl _ _ hV rfl (rQ (bnum 1 s).1 (bnum 4 (bnum 1 s).2).1 (bnum 1 (bnum 4 (bnum 1 s).2).2).1 (bnum 8 (bnum 1 (bnum 4 (bnum 1 s).2).2).2).1 0 (bnum 8 (bnum 8 (bnum 1 (bnum 4 (bnum 1 s).2).2).2).2).1 0) rfl ?_; intro w1 hV1 hOv; have hU := upd_new hU hOv (Nat.le_succ _); have hR := (hOv.block _ hneW).trans hR; have hS := hS.only hOv hneB; have hV := hV1; have hVB := blk_cell hV)) | (with_reducible show AtS 5 34 ..; go_must (refine wpList_store_cell rfl _ _ _ rfl rfl (w.heap.size + 1) 6 rfl (.int .u8 (bnum 1 (bnum 8 (bnum 8 (bnum 1 (bnum 4 (bnum 1 s).2).2).2).2).2).1) rfl sz_u8 rfl _ _ hV rfl (rQ (bnum 1 s).1 (bnum 4 (bnum 1 s).2).1 (bnum 1 (bnum 4 (bnum 1 s).2).2).1 (bnum 8 (bnum 1 (bnum 4 (bnum 1 s).2).2).2).1 0 (bnum 8 (bnum 8 (bnum 1 (bnum 4 (bnum 1 s).2).2).2).2).1 (bnum 1 (bnum 8 (bnum 8 (bnum 1 (bnum 4 (bnum 1 s).2).2).2).2).2).1) rfl ?_; intro w1 hV1 hOv; have hU := upd_new hU hOv (Nat.le_succ _); have hR := (hOv.block _ hneW).trans hR; have hS := hS.only hOv hneB; have hV := hV1; have hVB := blk_cell hV)) | (with_reducible show wpList _ _ _ ({ dst := _, op := Op.load 25 _, type := _, pos := _, after := _, guard := none } :: _) _ _; go_must (refine wpList_load_blk rfl _ _ rfl (w.heap.size + 1) 0 rfl 7 _ Try.underlying25 rfl sz_req _ _ hV rfl (rQ (bnum 1 s).1 (bnum 4 (bnum 1 s).2).1 (bnum 1 (bnum 4 (bnum 1 s).2).2).1 (bnum 8 (bnum 1 (bnum 4 (bnum 1 s).2).2).2).1 0 (bnum 8 (bnum 8 (bnum 1 (bnum 4 (bnum 1 s).2).2).2).2).1 (bnum 1 (bnum 8 (bnum 8 (bnum 1 (bnum 4 (bnum 1 s).2).2).2).2).2).1) rfl ?_)) | (with_reducible show wpList _ _ _ ({ dst := none, op := Op.store 25 _ _, type := _, pos := _, after := _, guard := none } :: _) _ _; go_must (refine wpList_store_blk rfl _ _ _ rfl rfl w.heap.size 0 rfl (rQ (bnum 1 s).1 (bnum 4 (bnum 1 s).2).1 (bnum 1 (bnum 4 (bnum 1 s).2).2).1 (bnum 8 (bnum 1 (bnum 4 (bnum 1 s).2).2).2).1 0 (bnum 8 (bnum 8 (bnum 1 (bnum 4 (bnum 1 s).2).2).2).2).1 (bnum 1 (bnum 8 (bnum 8 (bnum 1 (bnum 4 (bnum 1 s).2).2).2).2).2).1) rfl _ sz_req rfl rfl _ _ hR rfl (rQ (bnum 1 s).1 (bnum 4 (bnum 1 s).2).1 (bnum 1 (bnum 4 (bnum 1 s).2).2).1 (bnum 8 (bnum 1 (bnum 4 (bnum 1 s).2).2).2).1 0 (bnum 8 (bnum 8 (bnum 1 (bnum 4 (bnum 1 s).2).2).2).2).1 (bnum 1 (bnum 8 (bnum 8 (bnum 1 (bnum 4 (bnum 1 s).2).2).2).2).2).1) rfl ?_; intro w1 hR1 hOr; have hU := upd_new hU hOr (Nat.le_refl _); have hS := hS.only hOr hneB')))
  exact bodyPost_ret (v := .agg (List.toArray (rQ (bnum 1 s).1 (bnum 4 (bnum 1 s).2).1 (bnum 1 (bnum 4 (bnum 1 s).2).2).1 (bnum 8 (bnum 1 (bnum 4 (bnum 1 s).2).2).2).1 0 (bnum 8 (bnum 8 (bnum 1 (bnum 4 (bnum 1 s).2).2).2).2).1 (bnum 1 (bnum 8 (bnum 8 (bnum 1 (bnum 4 (bnum 1 s).2).2).2).2).2).1))) (results_cell_row Try.results47 _ _ w.heap.size 25 _ (0, 0) _ rfl hR1 Try.underlying25 rfl sz_req) rfl ⟨rfl, by assumption, by assumption⟩

set_option maxHeartbeats 1000000 in
set_option maxRecDepth 100000 in
theorem rest_reqe (B : Nat) (s : List Int × Bool) (w : World) (h : Rst B w s) (hk2 : ((bnum 1 (bnum 4 (bnum 1 s).2).2).1 == 2) = false) (hk : ((bnum 1 (bnum 4 (bnum 1 s).2).2).1 == 4) = false) :
    Calls Try.prog 47 #[.pointer (some ⟨B, 0, none⟩)] w fun e w' => e = .returned (.agg (List.toArray (rQ (bnum 1 s).1 (bnum 4 (bnum 1 s).2).1 (bnum 1 (bnum 4 (bnum 1 s).2).2).1 (bnum 8 (bnum 1 (bnum 4 (bnum 1 s).2).2).2).1 0 0 0))) ∧ Rst B w' (bnum 8 (bnum 1 (bnum 4 (bnum 1 s).2).2).2).2 ∧ Upd B w w' := by
  have hlt := h.lt
  have hneV : w.heap.size + 1 ≠ B := by omega
  have hneR : w.heap.size ≠ B := by omega
  have hneB : B ≠ w.heap.size + 1 := by omega
  have hneB' : B ≠ w.heap.size := by omega
  have hneW : w.heap.size ≠ w.heap.size + 1 := by omega
  have hS := h.alloc2 (.cells (List.toArray oxQ) 25) (.cells (List.toArray oxQ) 25)
  have hU := upd_alloc2 B w (.cells (List.toArray oxQ) 25) (.cells (List.toArray oxQ) 25)
  have hR : ((w.alloc (.cells (List.toArray oxQ) 25)).alloc (.cells (List.toArray oxQ) 25)).heap[w.heap.size]? = some (.cells (List.toArray oxQ) 25) := heap_alloc2_old w _ _
  have hV : ((w.alloc (.cells (List.toArray oxQ) 25)).alloc (.cells (List.toArray oxQ) 25)).heap[w.heap.size + 1]? = some (.cells (List.toArray oxQ) 25) := heap_alloc2_new w _ _
  have hq8 := b_u8 h.byt
  have hq4 := b_u32 h.byt
  go_enter Try.func47, Try.ntmps47
  go_wp2_with (first | (go_at_call 46; go_must (refine (rest_k B _ _ _ hS (by decide)).mono ?_; rintro e w1 ⟨rfl, hS1, hU1⟩; (try simp only [Int.reduceToNat] at hS1 ⊢); have hU := upd_trans hU hU1; have hV := upd_blk hU1 hneV hV; have hR := upd_blk hU1 hneR hR; have hVB := blk_cell hV; have hS := hS1; have hq8 := b_u8 hS.byt; have hq4 := b_u32 hS.byt)) | (with_reducible show AtS 5 7 ..; go_must (refine wpList_store_cell rfl _ _ _ rfl rfl (w.heap.size + 1) 0 rfl (.int .u8 (bnum 1 s).1) rfl sz_u8 rfl _ _ hV rfl (rQ (bnum 1 s).1 0 0 0 0 0 0) rfl ?_; intro w1 hV1 hOv; have hU := upd_new hU hOv (Nat.le_succ _); have hR := (hOv.block _ hneW).trans hR; have hS := hS.only hOv hneB; have hV := hV1; have hVB := blk_cell hV)) | (with_reducible show AtS 22 11 ..; go_must (refine wpList_store_cell rfl _ _ _ rfl rfl (w.heap.size + 1) 1 rfl (.int .u32 (bnum 4 (bnum 1 s).2).1) rfl sz_u32 rfl _ _ hV rfl (rQ (bnum 1 s).1 (bnum 4 (bnum 1 s).2).1 0 0 0 0 0) rfl ?_; intro w1 hV1 hOv; have hU := upd_new hU hOv (Nat.le_succ _); have hR := (hOv.block _ hneW).trans hR; have hS := hS.only hOv hneB; have hV := hV1; have hVB := blk_cell hV)) | (with_reducible show AtS 5 15 ..; go_must (refine wpList_store_cell rfl _ _ _ rfl rfl (w.heap.size + 1) 2 rfl (.int .u8 (bnum 1 (bnum 4 (bnum 1 s).2).2).1) rfl sz_u8 rfl _ _ hV rfl (rQ (bnum 1 s).1 (bnum 4 (bnum 1 s).2).1 (bnum 1 (bnum 4 (bnum 1 s).2).2).1 0 0 0 0) rfl ?_; intro w1 hV1 hOv; have hU := upd_new hU hOv (Nat.le_succ _); have hR := (hOv.block _ hneW).trans hR; have hS := hS.only hOv hneB; have hV := hV1; have hVB := blk_cell hV)) | (with_reducible show AtS 23 18 ..; go_must (refine wpList_store_cell rfl _ _ _ rfl rfl (w.heap.size + 1) 3 rfl (.int .u64 (bnum 8 (bnum 1 (bnum 4 (bnum 1 s).2).2).2).1) rfl sz_u64 rfl _ _ hV rfl (rQ (bnum 1 s).1 (bnum 4 (bnum 1 s).2).1 (bnum 1 (bnum 4 (bnum 1 s).2).2).1 (bnum 8 (bnum 1 (bnum 4 (bnum 1 s).2).2).2).1 0 0 0) rfl ?_; intro w1 hV1 hOv; have hU := upd_new hU hOv (Nat.le_succ _); have hR := (hOv.block _ hneW).trans hR; have hS := hS.only hOv hneB; have hV := hV1; have hVB := blk_cell hV)) | (with_reducible show wpList _ _ _ ({ dst := _, op := Op.load 25 _, type := _, pos := _, after := _, guard := none } :: _) _ _; go_must (refine wpList_load_blk rfl _ _ rfl (w.heap.size + 1) 0 rfl 7 _ Try.underlying25 rfl sz_req _ _ hV rfl (rQ (bnum 1 s).1 (bnum 4 (bnum 1 s).2).1 (bnum 1 (bnum 4 (bnum 1 s).2).2).1 (bnum 8 (bnum 1 (bnum 4 (bnum 1 s).2).2).2).1 0 0 0) rfl ?_)) | (with_reducible show wpList _ _ _ ({ dst := none, op := Op.store 25 _ _, type := _, pos := _, after := _, guard := none } :: _) _ _; go_must (refine wpList_store_blk rfl _ _ _ rfl rfl w.heap.size 0 rfl (rQ (bnum 1 s).1 (bnum 4 (bnum 1 s).2).1 (bnum 1 (bnum 4 (bnum 1 s).2).2).1 (bnum 8 (bnum 1 (bnum 4 (bnum 1 s).2).2).2).1 0 0 0) rfl _ sz_req rfl rfl _ _ hR rfl (rQ (bnum 1 s).1 (bnum 4 (bnum 1 s).2).1 (bnum 1 (bnum 4 (bnum 1 s).2).2).1 (bnum 8 (bnum 1 (bnum 4 (bnum 1 s).2).2).2).1 0 0 0) rfl ?_; intro w1 hR1 hOr; have hU := upd_new hU hOr (Nat.le_refl _); have hS := hS.only hOr hneB')))
  exact bodyPost_ret (v := .agg (List.toArray (rQ (bnum 1 s).1 (bnum 4 (bnum 1 s).2).1 (bnum 1 (bnum 4 (bnum 1 s).2).2).1 (bnum 8 (bnum 1 (bnum 4 (bnum 1 s).2).2).2).1 0 0 0))) (results_cell_row Try.results47 _ _ w.heap.size 25 _ (0, 0) _ rfl hR1 Try.underlying25 rfl sz_req) rfl ⟨rfl, by assumption, by assumption⟩

/-- A request, read. -/
theorem rest_req (B : Nat) (s : List Int × Bool) (w : World) (h : Rst B w s) :
    Calls Try.prog 47 #[.pointer (some ⟨B, 0, none⟩)] w fun e w' => e = .returned (.agg (rbReq s).1.cells.toArray) ∧ Rst B w' (rbReq s).2 ∧ Upd B w w' := by
  by_cases h2 : (bnum 1 (bnum 4 (bnum 1 s).2).2).1 = 2
  · have e : rbReq s = (⟨(bnum 1 s).1, (bnum 4 (bnum 1 s).2).1, (bnum 1 (bnum 4 (bnum 1 s).2).2).1, (bnum 8 (bnum 1 (bnum 4 (bnum 1 s).2).2).2).1, (bnum 8 (bnum 8 (bnum 1 (bnum 4 (bnum 1 s).2).2).2).2).1, 0, 0⟩, (bnum 8 (bnum 8 (bnum 1 (bnum 4 (bnum 1 s).2).2).2).2).2) := by unfold rbReq; simp only []; rw [if_pos h2]
    rw [e]
    dsimp only [Req.cells]
    exact rest_req2 B s w h (by rw [h2]; rfl) (by rw [h2]; rfl)
  · by_cases h4 : (bnum 1 (bnum 4 (bnum 1 s).2).2).1 = 4
    · have e : rbReq s = (⟨(bnum 1 s).1, (bnum 4 (bnum 1 s).2).1, (bnum 1 (bnum 4 (bnum 1 s).2).2).1, (bnum 8 (bnum 1 (bnum 4 (bnum 1 s).2).2).2).1, 0, (bnum 8 (bnum 8 (bnum 1 (bnum 4 (bnum 1 s).2).2).2).2).1, (bnum 1 (bnum 8 (bnum 8 (bnum 1 (bnum 4 (bnum 1 s).2).2).2).2).2).1⟩, (bnum 1 (bnum 8 (bnum 8 (bnum 1 (bnum 4 (bnum 1 s).2).2).2).2).2).2) := by unfold rbReq; simp only []; rw [if_neg h2, if_pos h4]
      rw [e]
      dsimp only [Req.cells]
      exact rest_req4 B s w h (by rw [h4]; rfl) (by rw [h4]; rfl)
    · have e : rbReq s = (⟨(bnum 1 s).1, (bnum 4 (bnum 1 s).2).1, (bnum 1 (bnum 4 (bnum 1 s).2).2).1, (bnum 8 (bnum 1 (bnum 4 (bnum 1 s).2).2).2).1, 0, 0, 0⟩, (bnum 8 (bnum 1 (bnum 4 (bnum 1 s).2).2).2).2) := by unfold rbReq; simp only []; rw [if_neg h2, if_neg h4]
      rw [e]
      dsimp only [Req.cells]
      exact rest_reqe B s w h (by simp [h2]) (by simp [h4])

end Go.Proofs.Ytignemioillaiaa

