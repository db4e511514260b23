/- Round. -/
import Derived.Test.YtignemioillaiaaU4
import Derived.Test.YtignemioillaiaaU7
import Derived.Test.YtignemioillaiaaU9
import Derived.Deep.QuietTactic
import Derived.BigQuiet
import Derived.Deep.CutRange
import Derived.Deep.RegionHeld3
import Derived.Great.BuildSlice
namespace Go.Proofs.Ytignemioillaiaa
open Go.RowKit

theorem undrew {w w' : World} {v v' : Value} (h : Grew w.drew v w' v') : Grew w v w' v' := ⟨⟨h.grown.os, h.grown.tape, h.grown.output, h.grown.size, h.grown.block⟩, h.own⟩

theorem XB.alloc {W wr : World} {bx : Nat} {src dst seq v c u : Int} {vR vD : Value} {kr kd : List Int} (h : XB W wr bx src dst seq v c u vR vD kr kd) (o : Obj) : Below bx W (wr.alloc o) :=
  h.bel.trans (Below.mono (later_alloc wr o) (Nat.le_of_lt h.sz))
theorem XB.grown {W wr w' : World} {bx : Nat} {src dst seq v c u : Int} {vR vD x x' : Value} {kr kd : List Int} {e : TypeId} {size n : Nat} {xs : List Value} {o : Obj} (h : XB W wr bx src dst seq v c u vR vD kr kd) (ho : wr.ownsRow (bx + 1) e size x n xs) (hg : Grew (wr.alloc o) x w' x') : Below bx W w' :=
  (h.alloc o).trans (((Below.refl (bx + 1) _).grown hg.grown (by have := h.sz; simp; omega) (fun k hk => (World.ownsRow.lt (World.ownsRow.alloc ho o) k hk).1)).mono (Nat.le_succ _))

theorem info_msg : (Try.prog.info? 38).map (fun i => (i.zero, i.size, i.bytes)) = some (some (.agg (List.toArray (α := Value) (.int .u8 0 :: .int .u8 0 :: .int .u32 0 :: .int .u8 0 :: .int .u64 0 :: .int .u64 0 :: .int .u64 0 :: .int .u8 0 :: .int .u8 0 :: .int .u32 0 :: .int .u64 0 :: .int .u8 0 :: .bool false :: .int .u64 0 :: .int .u8 0 :: .int .u32 0 :: .int .u8 0 :: .int .u32 0 :: .int .u8 0 :: .int .u8 0 :: .int .u32 0 :: .int .u8 0 :: .int .u64 0 :: .int .u64 0 :: .int .u64 0 :: .int .u8 0 :: .int .u8 0 :: .int .u8 0 :: .int .u32 0 :: .int .u64 0 :: .int .u64 0 :: .slice none 0 0 :: .slice none 0 0 :: .int .u8 0 :: .int .u32 0 :: .slice none 0 0 :: .int .u8 0 :: .int .u8 0 :: .int .u32 0 :: .int .u64 0 :: .int .u64 0 :: .slice none 0 0 :: .slice none 0 0 :: .int .u8 0 :: .int .u32 0 :: []))), 45, 352) := by kernel_rfl

theorem fill_vs {s : Nat} (hs : 0 < s) (vs : List Value) (cells : Array Value) (h1 : ∀ v ∈ vs, v.cells.size = s) (hn : vs.length * s = cells.size) :
    Instr.fill (fun i => some (i * s, s)) cells ((vs.zipIdx 0).map fun x => (x.2, x.1)) = some (vs.flatMap fun v => v.cells.toList).toArray := Great.fill_whole hs vs cells h1 hn

theorem heap_alloc_new2 (w : World) (o p : Obj) : ((w.alloc o).alloc p).heap[w.heap.size + 1]? = some p := heap_alloc2_new w o p

theorem own_inD {w : World} {base : Nat} {bx : Nat} {c v : Int} {ks : List Int} {vR : Value} {a : Option Addr} {n cp : Nat} (h : w.ownsRow base bx 7 vR ks.length ((ks.map (dupOf c v)).map Rep.cells).flatten) (hv : vR = .slice a n cp) : SlIn w.heap.size w ⟨a, n, cp⟩ 7 ((ks.map (dupOf c v)).map Rep.cells) := by
  subst hv
  obtain ⟨a', n', c', e, hin, _⟩ := own_slin (xs := (ks.map (dupOf c v)).map Rep.cells) (by simpa using h) (dups_all _)
  cases e
  exact hin

theorem own_in' {w : World} {base : Nat} {bx : Nat} {v : Int} {ks : List Int} {vR : Value} {a : Option Addr} {n c : Nat} (h : w.ownsRow base bx 2 vR ks.length ((ks.map (rowOf v)).map Row.cells).flatten) (hv : vR = .slice a n c) : SlIn w.heap.size w ⟨a, n, c⟩ 2 ((ks.map (rowOf v)).map Row.cells) := by
  subst hv
  obtain ⟨a', n', c', e, hin, _⟩ := own_slin (xs := (ks.map (rowOf v)).map Row.cells) (by simpa using h) (rows_all _)
  cases e
  exact hin

set_option maxHeartbeats 40000000 in
set_option maxRecDepth 100000 in
theorem round_any (qc qs qk qkey qv qhi qto : Int) (bn bid slot : Int) (ka : Option Addr) (kn kc : Nat) (keys tl : List Int) (w : World) (hq : (Req.mk qc qs qk qkey qv qhi qto).wf) (hb1 : U32 bn) (hb2 : U8 bid) (hs : U32 slot)
    (hk : SlIn w.heap.size w ⟨ka, kn, kc⟩ 1 (keys.map (fun k => [Value.int .u64 k]))) (hkw : ∀ (i : Nat) (k : Int), keys[i]? = some k → 0 ≤ k ∧ k < 18446744073709551616) (htb : Byt tl) (htl : tl.length ≤ 1000000000000000) :
    Calls Try.prog 7 #[.agg #[.int .u8 qc, .int .u32 qs, .int .u8 qk, .int .u64 qkey, .int .u64 qv, .int .u64 qhi, .int .u8 qto], .agg #[.int .u32 bn, .int .u8 bid], .int .u32 slot, .slice ka kn kc, .string (bstr tl)] w fun e w' => e = .returned (.bool true) ∧ Below w.heap.size w w' := by
  obtain ⟨i0, hi0, hz0, hz1, hz2⟩ := info_parts info_row
  obtain ⟨j0, hj0, hy0, hy1, hy2⟩ := info_parts info_rep
  have HQ := hideU hq
  obtain ⟨r, hr⟩ : ∃ r, rightOf (Req.mk qc qs qk qkey qv qhi qto) = r := ⟨_, rfl⟩
  have hrok := rightOf_ok hq
  have hrwf := rightOf_wf hq
  rw [hr] at hrok hrwf
  obtain ⟨rc, rs, rk, rkey, rv, rhi, rto⟩ := r
  have HR := hideU hr
  have HRok := hideU hrok
  have HRwf := hideU hrwf
  clear hr hrok hrwf
  obtain ⟨q1, q2, q3, q4, q5, q6, q7⟩ := hq
  simp only [U8, U32, U64] at q1 q2 q3 q4 q5 q6 q7
  have m1 : qto.tmod 4 = qto % 4 := Int.tmod_eq_emod_of_nonneg q7.1
  have m2 : qc.tmod 4 = qc % 4 := Int.tmod_eq_emod_of_nonneg q1.1
  have m3 : qs.tmod 100 = qs % 100 := Int.tmod_eq_emod_of_nonneg q2.1
  have m4 : IntKind.u32.wrap (1 + qs % 100) = 1 + qs % 100 := by have e : IntKind.u32.wrap (1 + qs % 100) = (1 + qs % 100) % 4294967296 := rfl; rw [e]; omega
  have hT0 : Below w.heap.size w ((w.alloc (.cells #[.int .u8 qc, .int .u32 qs, .int .u8 qk, .int .u64 qkey, .int .u64 qv, .int .u64 qhi, .int .u8 qto] 25)).alloc (.cells #[.int .u32 bn, .int .u8 bid] 29)) := later_trans (later_alloc _ _) (later_alloc _ _)
  have hA0 : ((w.alloc (.cells #[.int .u8 qc, .int .u32 qs, .int .u8 qk, .int .u64 qkey, .int .u64 qv, .int .u64 qhi, .int .u8 qto] 25)).alloc (.cells #[.int .u32 bn, .int .u8 bid] 29)).heap[w.heap.size]? = some (.cells #[.int .u8 qc, .int .u32 qs, .int .u8 qk, .int .u64 qkey, .int .u64 qv, .int .u64 qhi, .int .u8 qto] 25) := heap_alloc2_old w _ _
  have hA1 : ((w.alloc (.cells #[.int .u8 qc, .int .u32 qs, .int .u8 qk, .int .u64 qkey, .int .u64 qv, .int .u64 qhi, .int .u8 qto] 25)).alloc (.cells #[.int .u32 bn, .int .u8 bid] 29)).heap[w.heap.size + 1]? = some (.cells #[.int .u32 bn, .int .u8 bid] 29) := heap_alloc2_new w _ _
  go_enter Try.func7, Try.ntmps7
  go_upto_region 2 with (first | (with_reducible show wpList _ _ _ ({ dst := some 36, op := Op.load 25 _, type := _, pos := _, after := _, guard := none } :: _) _ _; go_must (refine wpList_load_blk rfl _ _ rfl w.heap.size 0 rfl 7 _ Try.underlying25 rfl sz_req _ _ hA0 rfl [.int .u8 qc, .int .u32 qs, .int .u8 qk, .int .u64 qkey, .int .u64 qv, .int .u64 qhi, .int .u8 qto] rfl ?_)) | (go_at_call 26; go_must (refine (right_raw qc qs qk qkey qv qhi qto rc rs rk rkey rv rhi rto _ HQ.out HR.out).mono ?_; rintro e w1 ⟨rfl, hbw1⟩; have hA0' := blk_later hbw1 hA0; have hA1' := blk_later hbw1 hA1; have hT1 := later_trans hT0 hbw1)))
  have hT2 := later_trans hT1 (later_alloc w1 (.cells #[.int .u8 rc, .int .u32 rs, .int .u8 rk, .int .u64 rkey, .int .u64 rv, .int .u64 rhi, .int .u8 rto] 25))
  have hA0 := blk_later (later_alloc w1 (.cells #[.int .u8 rc, .int .u32 rs, .int .u8 rk, .int .u64 rkey, .int .u64 rv, .int .u64 rhi, .int .u8 rto] 25)) hA0'
  have hA1 := blk_later (later_alloc w1 (.cells #[.int .u8 rc, .int .u32 rs, .int .u8 rk, .int .u64 rkey, .int .u64 rv, .int .u64 rhi, .int .u8 rto] 25)) hA1'
  have hA2 := heap_alloc_new w1 (.cells #[.int .u8 rc, .int .u32 rs, .int .u8 rk, .int .u64 rkey, .int .u64 rv, .int .u64 rhi, .int .u8 rto] 25)
  have hsz2 : w.heap.size + 2 ≤ w1.heap.size := by have := hbw1.size; simp at this; omega
  obtain ⟨W1, hW1⟩ : ∃ W1, W1 = w1.alloc (.cells #[.int .u8 rc, .int .u32 rs, .int .u8 rk, .int .u64 rkey, .int .u64 rv, .int .u64 rhi, .int .u8 rto] 25) := ⟨_, rfl⟩
  rw [← hW1] at hT2 hA0 hA1 hA2 ⊢
  have hzW : W1.heap.size = w1.heap.size + 1 := by rw [hW1]; simp
  clear hW1 hA0' hA1' hT0 hT1 hbw1
  obtain ⟨bR, hbR⟩ : ∃ b, b = w1.heap.size := ⟨_, rfl⟩
  rw [← hbR] at hA2 hzW hsz2 ⊢
  clear hbR w1
  have hcQ := blk_cell hA0
  go_wp2_with fail
  have HX : Hid (XB W1 (W1.alloc (.cells #[.int .u8 (qto % 4), .int .u8 (qc % 4), .int .u32 (1 + qs % 100), .int .u64 0, .int .u64 18446744073709551615, .slice none 0 0, .slice none 0 0] 33)) (bR + 1) (qto % 4) (qc % 4) (1 + qs % 100) qv (qc % 4) qhi (.slice none 0 0) (.slice none 0 0) [] []) :=
    ⟨by rw [← hzW]; exact heap_alloc_new W1 _, World.ownsRow_nil _ _ _ _, World.ownsRow_nil _ _ _ _, by rw [← hzW]; exact later_alloc _ _, by rw [← hzW]; simp⟩
  have HA0 := hideU hA0
  have HA1 := hideU hA1
  have HA2 := hideU hA2
  have HQ0 : Hid (w.heap.size < bR + 1) := by show _ < _; omega
  have HKN : Hid (kn = keys.length) := by show _ = _; simpa using hk.len
  clear hcQ hA0 hA1 hA2
  have hkm : kn ≤ maxLen := Nat.le_trans hk.le hk.max
  unfold maxLen at hkm
  go_loopw [13] (fun i wr => ∃ (j : Nat) (vR vD : Value) (ks : List Int), j ≤ kn ∧ j ≤ 255 ∧ i = .int .i64 j ∧ Hid (XB W1 wr (bR + 1) (qto % 4) (qc % 4) (1 + qs % 100) qv (qc % 4) qhi vR vD ks ks) ∧ Hid (Rise ks ∧ ks.length ≤ j ∧ (0 < j → 0 < ks.length))) (fun i _ => kn - (intOf i).toNat)
  case atStart => exact ⟨0, _, _, [], Nat.zero_le _, Nat.zero_le _, rfl, HX, Rise.nil, Nat.le_refl _, fun h => absurd h (Nat.lt_irrefl 0)⟩
  case round =>
    clear HX
    obtain ⟨j, vR, vD, ks, hj, hj2, rfl, HX, HK⟩ := hrel
    have hcX := blk_cell HX.out.blk
    have hcQ := blk_cell ((HX.out.bel.block w.heap.size HQ0.out).trans HA0.out)
    by_cases hlt : j < kn ∧ j < 255
    · obtain ⟨hl1, hl2⟩ := hlt
      have hd1 : decide ((j : Int) < (kn : Int)) = true := by simp; omega
      have hd2 : decide ((j : Int) < 255) = true := by simp; omega
      obtain ⟨k, hkj⟩ : ∃ k, keys[j]? = some k := ⟨keys[j]'(by rw [← HKN.out]; exact hl1), by simp⟩
      have hkin := hkw j k hkj
      obtain ⟨b, off, ha, hbB, hck⟩ := hk.atK hkj
      obtain rfl : ka = some ⟨b, off, none⟩ := ha
      have HCK : Hid (∀ wx, Below (bR + 1) W1 wx → wx.cell? ⟨b, off + j, none⟩ = some (.int .u64 k)) := fun wx hbx => ((hbx.cell (p := ⟨b, off + j, none⟩) (show b < bR + 1 by omega)).trans (hT2.cell (p := ⟨b, off + j, none⟩) hbB)).trans hck
      have hc0 := HCK.out _ HX.out.bel
      have MK : Hid (∀ w', Below (bR + 1) W1 w' → (w'.cell? ⟨w.heap.size, 0, none⟩ = some (.int .u8 qc) ∧ w'.cell? ⟨w.heap.size, 4, none⟩ = some (.int .u64 qv) ∧ w'.cell? ⟨w.heap.size, 5, none⟩ = some (.int .u64 qhi) ∧ w'.cell? ⟨b, off + j, none⟩ = some (.int .u64 k))) := fun w' hb => by
        have h := blk_cell ((hb.block w.heap.size HQ0.out).trans HA0.out)
        exact ⟨h 0, h 4, h 5, HCK.out w' hb⟩
      clear hkj hck
      obtain ⟨ra, rn, rc', hvR⟩ := own_shape HX.out.oR
      have hrl : rn = ks.length := by
        have := HX.out.oR
        rw [hvR] at this
        rcases this.2 with ⟨h, h0⟩ | ⟨_, _, _, h, _⟩
        · cases h; omega
        · cases h; rfl
      go_upto_region 6 with fail
      go_cut [76] from 49 to 103 (fun s wx => ∃ tk : Bool, s = .bool tk ∧ Hid ((tk = true → ks = [] ∨ ∃ y, ks[ks.length - 1]? = some y ∧ y < k) ∧ (tk = false → 0 < ks.length)) ∧ Hid (XB W1 wx (bR + 1) (qto % 4) (qc % 4) (1 + qs % 100) qv (qc % 4) qhi vR vD ks ks))
      case first =>
        by_cases h0 : j = 0
        · have e0 : ((j : Int) == 0) = true := by simp [h0]
          have hz : ks = [] := List.eq_nil_of_length_eq_zero (by have := HK.out.2.1; omega)
          clear hz h0
          go_quiet (fail)
          go_wp2_with fail
          go_meet
          exact ⟨true, rfl, ⟨fun _ => .inl (List.eq_nil_of_length_eq_zero (by have := HK.out.2.1; have : j = 0 := (by simpa using e0); omega)), fun h => by cases h⟩, HX.out.drewN _⟩
        · have e0 : ((j : Int) == 0) = false := by simp; omega
          have hp := HK.out.2.2 (by omega)
          obtain ⟨y, hy⟩ : ∃ y, ks[ks.length - 1]? = some y := ⟨ks[ks.length - 1]'(by omega), by simp⟩
          have hin := own_in' HX.out.oR hvR
          obtain ⟨b2, off2, ha2, _, hcy, _⟩ := hin.at2 (i := ks.length - 1) (x := rowOf qv y) (by simp [hy])
          rw [← hrl] at hcy hy
          obtain rfl : ra = some ⟨b2, off2, none⟩ := ha2
          subst hvR
          have hj0 : (0 : Int) ≤ (rn : Int) - 1 := by omega
          have hj1 : (rn : Int) - 1 < (rn : Int) := by omega
          have hi0 : (0 : Int) ≤ (j : Int) := by omega
          have hi1 : (j : Int) < (kn : Int) := by omega
          have hn0 : 0 < rn := by omega
          have hrm : rn ≤ 255 := by have := HK.out.2.1; omega
          dsimp only [rowOf] at hcy
          have HRL := hideU hrl
          clear hrl hin
          go_quiet (fail)
          go_wp2_with fail
          go_meet
          rw [HRL.out] at hy
          exact ⟨decide (y < k), rfl, ⟨fun h => .inr ⟨y, hy, of_decide_eq_true h⟩, fun _ => hp⟩, HX.out.drewN _⟩
      case rest =>
        clear hcX hcQ hc0 HX
        obtain ⟨tk, rfl, HT, HX⟩ := hcut
        have hcX := blk_cell HX.out.blk
        have hcQ := blk_cell ((HX.out.bel.block w.heap.size HQ0.out).trans HA0.out)
        have hc0 := HCK.out _ HX.out.bel
        have hI0 : (0 : Int) ≤ (j : Int) := by omega
        have hI1 : (j : Int) < (kn : Int) := by omega
        have HRL := hideU hrl
        have HL : Hid (ks.length ≤ 255) := by have := HK.out.2.1; show _ ≤ _; omega
        subst hvR
        clear hrl
        cases tk
        · go_wp2_with fail
          go_roundw
          case rel => exact ⟨j + 1, _, vD, ks, by omega, by omega, by go_num, HX, HK.out.1, by have := HK.out.2.1; omega, fun _ => HT.out.2 rfl⟩
          case measure => simp [intOf]; omega
        · go_upto_region 7 with fail
          go_cut [12] from 49 to 103 (fun s wx => s = .pointer (some ⟨bR + 1, 0, none⟩) ∧ ∃ vR' : Value, Hid (XB W1 wx (bR + 1) (qto % 4) (qc % 4) (1 + qs % 100) qv (qc % 4) qhi vR' vD (ks ++ [k]) ks))
          case first =>
            have hzX := HX.out.sz
            have hfX := blkF (Below.refl _ wc) HX.out.blk
            have hbA := XB.alloc HX.out (.cells #[.int .u64 k, .int .u64 qv] 82)
            have hoA := World.ownsRow.alloc HX.out.oR (.cells #[.int .u64 k, .int .u64 qv] 82)
            refine wp_region_noPanic ?_
            refine wp_region_held_drew (S := (fun w' => w'.cell? ⟨w.heap.size, 0, none⟩ = some (.int .u8 qc) ∧ w'.cell? ⟨w.heap.size, 4, none⟩ = some (.int .u64 qv) ∧ w'.cell? ⟨w.heap.size, 5, none⟩ = some (.int .u64 qhi) ∧ w'.cell? ⟨b, off + j, none⟩ = some (.int .u64 k))) (by kernel_rfl) (MK.out _ HX.out.bel.drew) (fun hHeld => ?_)
            refine wpAnyH_take (i := 0) (oi := _) (v := ?_) rfl (by kernel_rfl) (by kernel_rfl) (by kernel_rfl) (fun _ _ _ h => h) (Or.inl ⟨by rfl, ?_⟩) (by assumption) ?_
            rotate_left 1
            · intro w hSw
              (try dsimp only at hSw)
              go_simp
              try with_reducible rfl
            try simp only [Act.put, List.setIfInBounds_toArray]
            refine wpAnyH_take (i := 2) (oi := _) (v := ?_) rfl (by kernel_rfl) (by kernel_rfl) (by kernel_rfl) (fun _ _ _ h => h) (Or.inl ⟨by rfl, ?_⟩) (by assumption) ?_
            rotate_left 1
            · intro w hSw
              (try dsimp only at hSw)
              go_simp
              try with_reducible rfl
            try simp only [Act.put]
            refine wpAnyH_take (i := 3) (oi := _) (v := ?_) rfl (by kernel_rfl) (by kernel_rfl) (by kernel_rfl) (fun _ _ _ h => h) (Or.inl ⟨by rfl, ?_⟩) (by assumption) ?_
            rotate_left 1
            · intro w hSw
              (try dsimp only at hSw)
              go_simp
              try with_reducible rfl
            try simp only [Act.put]
            refine wpAnyH_take (i := 4) (oi := _) (v := ?_) rfl (by kernel_rfl) (by kernel_rfl) (by kernel_rfl) (fun _ _ _ h => h) (Or.inl ⟨by rfl, ?_⟩) (by assumption) ?_
            rotate_left 1
            · intro w hSw
              (try dsimp only at hSw)
              go_simp
              try with_reducible rfl
            try simp only [Act.put]
            refine wpAnyH_take (i := 5) (oi := _) (v := ?_) rfl (by kernel_rfl) (by kernel_rfl) (by kernel_rfl) (fun _ _ _ h => h) (Or.inl ⟨by rfl, ?_⟩) (by assumption) ?_
            rotate_left 1
            · intro w hSw
              (try dsimp only at hSw)
              go_simp
              try with_reducible rfl
            try simp only [Act.put]
            refine wpAnyH_take (i := 6) (oi := _) (v := ?_) rfl (by kernel_rfl) (by kernel_rfl) (by kernel_rfl) (fun _ _ _ h => h) (Or.inl ⟨by rfl, ?_⟩) (by assumption) ?_
            rotate_left 1
            · intro w hSw
              (try dsimp only at hSw)
              go_simp
              try with_reducible rfl
            try simp only [Act.put]
            refine wpAnyH_take (i := 7) (oi := _) (v := ?_) rfl (by kernel_rfl) (by kernel_rfl) (by kernel_rfl) (fun _ _ _ h => h) (Or.inl ⟨by rfl, ?_⟩) (by assumption) ?_
            rotate_left 1
            · intro w hSw
              (try dsimp only at hSw)
              go_simp
              try with_reducible rfl
            try simp only [Act.put]
            refine wpAnyH_take (i := 8) (oi := _) (v := ?_) rfl (by kernel_rfl) (by kernel_rfl) (by kernel_rfl) (fun _ _ _ h => h) (Or.inl ⟨by rfl, ?_⟩) (by assumption) ?_
            rotate_left 1
            · intro w hSw
              (try dsimp only at hSw)
              go_simp
              try with_reducible rfl
            try simp only [Act.put]
            refine wpAnyH_ready (rs := [1, 9]) (by kernel_rfl) (by simp) ?_
            refine AllReadyH.cons (o := _) rfl (fun K hK => ?_) (AllReadyH.cons (o := _) rfl (fun K hK => ?_) AllReadyH.nil)
            · go_simp
              refine hK.out _ _ (MK.out _ HX.out.bel.drew) (fun hHeld => ?_)
              clear hK K
              try simp only [Act.put, List.setIfInBounds_toArray, List.set_cons_zero, List.set_cons_succ]
              refine wpAnyH_ready (rs := [9]) (by kernel_rfl) (by simp) ?_
              refine AllReadyH.cons (o := _) rfl (fun K hK => ?_) AllReadyH.nil
              go_simp
              refine hK.out _ _ (MK.out _ hbA.drew) (fun hHeld => ?_)
              clear hK K
              try simp only [Act.put, List.setIfInBounds_toArray, List.set_cons_zero, List.set_cons_succ]
              refine wpAnyH_ready (rs := [10]) (by kernel_rfl) (by simp) ?_
              refine AllReadyH.cons (o := _) rfl (fun K hK => ?_) AllReadyH.nil
              refine step_append_new rfl _ _ 30 rfl (bR + 1 + 1) 82 i0 (.agg #[.int .u64 0, .int .u64 0]) 2 16 Try.underlying30 hi0 hz0 hz1 hz2 rfl (by decide) (.slice ra rn rc') ks.length ((ks.map (rowOf qv)).map Row.cells).flatten rfl hoA ⟨wc.heap.size, 0, none⟩ 1 1 [.int .u64 k, .int .u64 qv] rfl rfl (new_cells rfl) (one_cellsU rfl) (by have := HL.out; unfold maxLen; omega) (by have := HL.out; omega) (by simp; omega) ?_; intro v' w' ho hg; obtain ⟨a1, n1, c1, rfl⟩ := own_shape ho; obtain ⟨hXn, hBn⟩ := XB.row HX.out ho (undrew hg); have hbn := XB.grown HX.out HX.out.oR (undrew hg); have hcn := blk_cell hBn; have hfn := blkF (Below.refl _ w') hBn; clear hBn ho hg
              refine hK.out _ _ (MK.out _ hbn) (fun hHeld => ?_)
              clear hK K
              try simp only [Act.put, List.setIfInBounds_toArray]
              refine wpAnyH_take (i := 11) (oi := _) (v := ?_) rfl (by kernel_rfl) (by kernel_rfl) (by kernel_rfl) (fun _ _ _ h => h) (Or.inl ⟨by rfl, ?_⟩) (by assumption) ?_
              rotate_left 1
              · intro w hSw
                (try dsimp only at hSw)
                go_simp
                try with_reducible rfl
              try simp only [Act.put]
              refine wpAnyH_ready (rs := [12]) (by kernel_rfl) (by simp) ?_
              refine AllReadyH.cons (o := _) rfl (fun K hK => ?_) AllReadyH.nil
              go_simp
              refine hK.out _ _ (MK.out _ hXn.bel) (fun hHeld => ?_)
              clear hK K
              try simp only [Act.put, List.setIfInBounds_toArray, List.set_cons_zero, List.set_cons_succ]
              refine wpAnyH_done (by kernel_rfl) ?_ _
              refine NoPanic.normal ?_
              go_wp2_with fail
              go_meet
              exact ⟨rfl, _, hXn⟩
            · go_simp
              refine hK.out _ _ (MK.out _ hbA.drew) (fun hHeld => ?_)
              clear hK K
              try simp only [Act.put, List.setIfInBounds_toArray, List.set_cons_zero, List.set_cons_succ]
              refine wpAnyH_ready (rs := [1]) (by kernel_rfl) (by simp) ?_
              refine AllReadyH.cons (o := _) rfl (fun K hK => ?_) AllReadyH.nil
              go_simp
              refine hK.out _ _ (MK.out _ hbA.drew) (fun hHeld => ?_)
              clear hK K
              try simp only [Act.put, List.setIfInBounds_toArray, List.set_cons_zero, List.set_cons_succ]
              refine wpAnyH_ready (rs := [10]) (by kernel_rfl) (by simp) ?_
              refine AllReadyH.cons (o := _) rfl (fun K hK => ?_) AllReadyH.nil
              refine step_append_new rfl _ _ 30 rfl (bR + 1 + 1) 82 i0 (.agg #[.int .u64 0, .int .u64 0]) 2 16 Try.underlying30 hi0 hz0 hz1 hz2 rfl (by decide) (.slice ra rn rc') ks.length ((ks.map (rowOf qv)).map Row.cells).flatten rfl hoA ⟨wc.heap.size, 0, none⟩ 1 1 [.int .u64 k, .int .u64 qv] rfl rfl (new_cells rfl) (one_cellsU rfl) (by have := HL.out; unfold maxLen; omega) (by have := HL.out; omega) (by simp; omega) ?_; intro v' w' ho hg; obtain ⟨a1, n1, c1, rfl⟩ := own_shape ho; obtain ⟨hXn, hBn⟩ := XB.row HX.out ho (undrew hg); have hbn := XB.grown HX.out HX.out.oR (undrew hg); have hcn := blk_cell hBn; have hfn := blkF (Below.refl _ w') hBn; clear hBn ho hg
              refine hK.out _ _ (MK.out _ hbn) (fun hHeld => ?_)
              clear hK K
              try simp only [Act.put, List.setIfInBounds_toArray]
              refine wpAnyH_take (i := 11) (oi := _) (v := ?_) rfl (by kernel_rfl) (by kernel_rfl) (by kernel_rfl) (fun _ _ _ h => h) (Or.inl ⟨by rfl, ?_⟩) (by assumption) ?_
              rotate_left 1
              · intro w hSw
                (try dsimp only at hSw)
                go_simp
                try with_reducible rfl
              try simp only [Act.put]
              refine wpAnyH_ready (rs := [12]) (by kernel_rfl) (by simp) ?_
              refine AllReadyH.cons (o := _) rfl (fun K hK => ?_) AllReadyH.nil
              go_simp
              refine hK.out _ _ (MK.out _ hXn.bel) (fun hHeld => ?_)
              clear hK K
              try simp only [Act.put, List.setIfInBounds_toArray, List.set_cons_zero, List.set_cons_succ]
              refine wpAnyH_done (by kernel_rfl) ?_ _
              refine NoPanic.normal ?_
              go_wp2_with fail
              go_meet
              exact ⟨rfl, _, hXn⟩
          case rest =>
            clear hcX hcQ hc0 HX
            obtain ⟨rfl, vR', HX⟩ := hcut
            have hcX := blk_cell HX.out.blk
            have hcQ := blk_cell ((HX.out.bel.block w.heap.size HQ0.out).trans HA0.out)
            have hc0 := HCK.out _ HX.out.bel
            go_upto_region 8 with fail
            obtain ⟨da, dn, dc, hvD⟩ := own_shape HX.out.oD
            subst hvD
            have hzX := HX.out.sz
            have hfX := blkF (Below.refl _ wc) HX.out.blk
            have hbA := XB.alloc HX.out (.cells #[.int .u8 (qc % 4), .int .u32 7, .int .u64 k, .int .u8 1, .bool true, .int .u64 qhi, .int .u8 0] 27)
            have hoA := World.ownsRow.alloc HX.out.oD (.cells #[.int .u8 (qc % 4), .int .u32 7, .int .u64 k, .int .u8 1, .bool true, .int .u64 qhi, .int .u8 0] 27)
            refine wp_region_noPanic ?_
            refine wp_region_held_drew (S := (fun w' => w'.cell? ⟨w.heap.size, 0, none⟩ = some (.int .u8 qc) ∧ w'.cell? ⟨w.heap.size, 4, none⟩ = some (.int .u64 qv) ∧ w'.cell? ⟨w.heap.size, 5, none⟩ = some (.int .u64 qhi) ∧ w'.cell? ⟨b, off + j, none⟩ = some (.int .u64 k))) (by kernel_rfl) (MK.out _ HX.out.bel.drew) (fun hHeld => ?_)
            refine wpAnyH_take (i := 0) (oi := _) (v := ?_) rfl (by kernel_rfl) (by kernel_rfl) (by kernel_rfl) (fun _ _ _ h => h) (Or.inl ⟨by rfl, ?_⟩) (by assumption) ?_
            rotate_left 1
            · intro w hSw
              (try dsimp only at hSw)
              go_simp
              try with_reducible rfl
            try simp only [Act.put, List.setIfInBounds_toArray]
            refine wpAnyH_take (i := 2) (oi := _) (v := ?_) rfl (by kernel_rfl) (by kernel_rfl) (by kernel_rfl) (fun _ _ _ h => h) (Or.inl ⟨by rfl, ?_⟩) (by assumption) ?_
            rotate_left 1
            · intro w hSw
              (try dsimp only at hSw)
              go_simp
              try with_reducible rfl
            try simp only [Act.put]
            refine wpAnyH_take (i := 3) (oi := _) (v := ?_) rfl (by kernel_rfl) (by kernel_rfl) (by kernel_rfl) (fun _ _ _ h => h) (Or.inl ⟨by rfl, ?_⟩) (by assumption) ?_
            rotate_left 1
            · intro w hSw
              (try dsimp only at hSw)
              go_simp
              try with_reducible rfl
            try simp only [Act.put]
            refine wpAnyH_take (i := 4) (oi := _) (v := ?_) rfl (by kernel_rfl) (by kernel_rfl) (by kernel_rfl) (fun _ _ _ h => h) (Or.inl ⟨by rfl, ?_⟩) (by assumption) ?_
            rotate_left 1
            · intro w hSw
              (try dsimp only at hSw)
              go_simp
              try with_reducible rfl
            try simp only [Act.put]
            refine wpAnyH_take (i := 5) (oi := _) (v := ?_) rfl (by kernel_rfl) (by kernel_rfl) (by kernel_rfl) (fun _ _ _ h => h) (Or.inl ⟨by rfl, ?_⟩) (by assumption) ?_
            rotate_left 1
            · intro w hSw
              (try dsimp only at hSw)
              go_simp
              try with_reducible rfl
            try simp only [Act.put]
            refine wpAnyH_take (i := 6) (oi := _) (v := ?_) rfl (by kernel_rfl) (by kernel_rfl) (by kernel_rfl) (fun _ _ _ h => h) (Or.inl ⟨by rfl, ?_⟩) (by assumption) ?_
            rotate_left 1
            · intro w hSw
              (try dsimp only at hSw)
              go_simp
              try with_reducible rfl
            try simp only [Act.put]
            refine wpAnyH_take (i := 7) (oi := _) (v := ?_) rfl (by kernel_rfl) (by kernel_rfl) (by kernel_rfl) (fun _ _ _ h => h) (Or.inl ⟨by rfl, ?_⟩) (by assumption) ?_
            rotate_left 1
            · intro w hSw
              (try dsimp only at hSw)
              go_simp
              try with_reducible rfl
            try simp only [Act.put]
            refine wpAnyH_take (i := 8) (oi := _) (v := ?_) rfl (by kernel_rfl) (by kernel_rfl) (by kernel_rfl) (fun _ _ _ h => h) (Or.inl ⟨by rfl, ?_⟩) (by assumption) ?_
            rotate_left 1
            · intro w hSw
              (try dsimp only at hSw)
              go_simp
              try with_reducible rfl
            try simp only [Act.put]
            refine wpAnyH_take (i := 9) (oi := _) (v := ?_) rfl (by kernel_rfl) (by kernel_rfl) (by kernel_rfl) (fun _ _ _ h => h) (Or.inl ⟨by rfl, ?_⟩) (by assumption) ?_
            rotate_left 1
            · intro w hSw
              (try dsimp only at hSw)
              go_simp
              try with_reducible rfl
            try simp only [Act.put]
            refine wpAnyH_take (i := 10) (oi := _) (v := ?_) rfl (by kernel_rfl) (by kernel_rfl) (by kernel_rfl) (fun _ _ _ h => h) (Or.inl ⟨by rfl, ?_⟩) (by assumption) ?_
            rotate_left 1
            · intro w hSw
              (try dsimp only at hSw)
              go_simp
              try with_reducible rfl
            try simp only [Act.put]
            refine wpAnyH_take (i := 11) (oi := _) (v := ?_) rfl (by kernel_rfl) (by kernel_rfl) (by kernel_rfl) (fun _ _ _ h => h) (Or.inl ⟨by rfl, ?_⟩) (by assumption) ?_
            rotate_left 1
            · intro w hSw
              (try dsimp only at hSw)
              go_simp
              try with_reducible rfl
            try simp only [Act.put]
            refine wpAnyH_ready (rs := [1, 12]) (by kernel_rfl) (by simp) ?_
            refine AllReadyH.cons (o := _) rfl (fun K hK => ?_) (AllReadyH.cons (o := _) rfl (fun K hK => ?_) AllReadyH.nil)
            · go_simp
              refine hK.out _ _ (MK.out _ HX.out.bel.drew) (fun hHeld => ?_)
              clear hK K
              try simp only [Act.put, List.setIfInBounds_toArray, List.set_cons_zero, List.set_cons_succ]
              refine wpAnyH_ready (rs := [12]) (by kernel_rfl) (by simp) ?_
              refine AllReadyH.cons (o := _) rfl (fun K hK => ?_) AllReadyH.nil
              go_simp
              refine hK.out _ _ (MK.out _ hbA.drew) (fun hHeld => ?_)
              clear hK K
              try simp only [Act.put, List.setIfInBounds_toArray, List.set_cons_zero, List.set_cons_succ]
              refine wpAnyH_ready (rs := [13]) (by kernel_rfl) (by simp) ?_
              refine AllReadyH.cons (o := _) rfl (fun K hK => ?_) AllReadyH.nil
              refine step_append_new rfl _ _ 31 rfl (bR + 1 + 1) 27 j0 (.agg #[.int .u8 0, .int .u32 0, .int .u64 0, .int .u8 0, .bool false, .int .u64 0, .int .u8 0]) 7 40 Try.underlying31 hj0 hy0 hy1 hy2 rfl (by decide) (.slice da dn dc) ks.length ((ks.map (dupOf (qc % 4) qhi)).map Rep.cells).flatten rfl hoA ⟨wc.heap.size, 0, none⟩ 1 1 [.int .u8 (qc % 4), .int .u32 7, .int .u64 k, .int .u8 1, .bool true, .int .u64 qhi, .int .u8 0] rfl rfl (new_cells rfl) (one_cellsU rfl) (by have := HL.out; unfold maxLen; omega) (by have := HL.out; omega) (by simp; omega) ?_; intro v' w' ho hg; obtain ⟨a1, n1, c1, rfl⟩ := own_shape ho; obtain ⟨hXn, hBn⟩ := XB.dup HX.out ho (undrew hg); have hbn := XB.grown HX.out HX.out.oD (undrew hg); have hcn := blk_cell hBn; have hfn := blkF (Below.refl _ w') hBn; clear hBn ho hg
              refine hK.out _ _ (MK.out _ hbn) (fun hHeld => ?_)
              clear hK K
              try simp only [Act.put, List.setIfInBounds_toArray]
              refine wpAnyH_take (i := 14) (oi := _) (v := ?_) rfl (by kernel_rfl) (by kernel_rfl) (by kernel_rfl) (fun _ _ _ h => h) (Or.inl ⟨by rfl, ?_⟩) (by assumption) ?_
              rotate_left 1
              · intro w hSw
                (try dsimp only at hSw)
                go_simp
                try with_reducible rfl
              try simp only [Act.put]
              refine wpAnyH_ready (rs := [15]) (by kernel_rfl) (by simp) ?_
              refine AllReadyH.cons (o := _) rfl (fun K hK => ?_) AllReadyH.nil
              go_simp
              refine hK.out _ _ (MK.out _ hXn.bel) (fun hHeld => ?_)
              clear hK K
              try simp only [Act.put, List.setIfInBounds_toArray, List.set_cons_zero, List.set_cons_succ]
              refine wpAnyH_done (by kernel_rfl) ?_ _
              refine NoPanic.normal ?_
              go_wp2_with fail
              go_roundw
              case rel => exact ⟨j + 1, _, _, _, by omega, by omega, by go_num, hXn, Rise.snoc HK.out.1 hkin (HT.out.1 rfl), by have := HK.out.2.1; simp; omega, fun _ => by simp⟩
              case measure => simp [intOf]; omega
            · go_simp
              refine hK.out _ _ (MK.out _ hbA.drew) (fun hHeld => ?_)
              clear hK K
              try simp only [Act.put, List.setIfInBounds_toArray, List.set_cons_zero, List.set_cons_succ]
              refine wpAnyH_ready (rs := [1]) (by kernel_rfl) (by simp) ?_
              refine AllReadyH.cons (o := _) rfl (fun K hK => ?_) AllReadyH.nil
              go_simp
              refine hK.out _ _ (MK.out _ hbA.drew) (fun hHeld => ?_)
              clear hK K
              try simp only [Act.put, List.setIfInBounds_toArray, List.set_cons_zero, List.set_cons_succ]
              refine wpAnyH_ready (rs := [13]) (by kernel_rfl) (by simp) ?_
              refine AllReadyH.cons (o := _) rfl (fun K hK => ?_) AllReadyH.nil
              refine step_append_new rfl _ _ 31 rfl (bR + 1 + 1) 27 j0 (.agg #[.int .u8 0, .int .u32 0, .int .u64 0, .int .u8 0, .bool false, .int .u64 0, .int .u8 0]) 7 40 Try.underlying31 hj0 hy0 hy1 hy2 rfl (by decide) (.slice da dn dc) ks.length ((ks.map (dupOf (qc % 4) qhi)).map Rep.cells).flatten rfl hoA ⟨wc.heap.size, 0, none⟩ 1 1 [.int .u8 (qc % 4), .int .u32 7, .int .u64 k, .int .u8 1, .bool true, .int .u64 qhi, .int .u8 0] rfl rfl (new_cells rfl) (one_cellsU rfl) (by have := HL.out; unfold maxLen; omega) (by have := HL.out; omega) (by simp; omega) ?_; intro v' w' ho hg; obtain ⟨a1, n1, c1, rfl⟩ := own_shape ho; obtain ⟨hXn, hBn⟩ := XB.dup HX.out ho (undrew hg); have hbn := XB.grown HX.out HX.out.oD (undrew hg); have hcn := blk_cell hBn; have hfn := blkF (Below.refl _ w') hBn; clear hBn ho hg
              refine hK.out _ _ (MK.out _ hbn) (fun hHeld => ?_)
              clear hK K
              try simp only [Act.put, List.setIfInBounds_toArray]
              refine wpAnyH_take (i := 14) (oi := _) (v := ?_) rfl (by kernel_rfl) (by kernel_rfl) (by kernel_rfl) (fun _ _ _ h => h) (Or.inl ⟨by rfl, ?_⟩) (by assumption) ?_
              rotate_left 1
              · intro w hSw
                (try dsimp only at hSw)
                go_simp
                try with_reducible rfl
              try simp only [Act.put]
              refine wpAnyH_ready (rs := [15]) (by kernel_rfl) (by simp) ?_
              refine AllReadyH.cons (o := _) rfl (fun K hK => ?_) AllReadyH.nil
              go_simp
              refine hK.out _ _ (MK.out _ hXn.bel) (fun hHeld => ?_)
              clear hK K
              try simp only [Act.put, List.setIfInBounds_toArray, List.set_cons_zero, List.set_cons_succ]
              refine wpAnyH_done (by kernel_rfl) ?_ _
              refine NoPanic.normal ?_
              go_wp2_with fail
              go_roundw
              case rel => exact ⟨j + 1, _, _, _, by omega, by omega, by go_num, hXn, Rise.snoc HK.out.1 hkin (HT.out.1 rfl), by have := HK.out.2.1; simp; omega, fun _ => by simp⟩
              case measure => simp [intOf]; omega
    · have HL : Hid (ks.length ≤ 255) := by have := HK.out.2.1; show _ ≤ _; omega
      go_upto_region 4 with fail
      go_cut [56] from 49 to 103 (fun s wx => s = .bool false ∧ wx = wr)
      case first =>
        by_cases h1 : j < kn
        · have h2 : ¬ j < 255 := fun h => hlt ⟨h1, h⟩
          have hd1 : decide ((j : Int) < (kn : Int)) = true := by simp; omega
          have hd2 : decide ((j : Int) < 255) = false := by simp; omega
          go_wp2_with fail
          go_meet
          exact ⟨rfl, rfl⟩
        · have hd1 : decide ((j : Int) < (kn : Int)) = false := by simp; omega
          go_wp2_with fail
          go_meet
          exact ⟨rfl, rfl⟩
      case rest =>
        obtain ⟨rfl, rfl⟩ := hcut
        clear hlt hj hj2
        go_upto_region 9 with fail
        obtain ⟨xa, xn, xc, hvR⟩ := own_shape HX.out.oR
        obtain ⟨ya, yn, yc, hvD⟩ := own_shape HX.out.oD
        subst hvR; subst hvD
        have hw1 : w.heap.size + 1 < bR + 1 := by omega
        have hQ9 := (HX.out.bel.block w.heap.size HQ0.out).trans HA0.out
        have hB9 := (HX.out.bel.block (w.heap.size + 1) hw1).trans HA1.out
        have hR9 := (HX.out.bel.block bR (Nat.lt_succ_self _)).trans HA2.out
        have hX9 := HX.out.blk
        have hcQ2 := blk_cell hQ9
        clear hcX hcQ
        go_upto_region 12 with (first | (with_reducible show wpList _ _ _ ({ dst := some 104, op := Op.load 25 _, type := _, pos := _, after := _, guard := none } :: _) _ _; go_must (refine wpList_load_blk rfl _ _ rfl bR 0 rfl 7 _ Try.underlying25 rfl sz_req _ _ hR9 rfl [.int .u8 rc, .int .u32 rs, .int .u8 rk, .int .u64 rkey, .int .u64 rv, .int .u64 rhi, .int .u8 rto] rfl ?_)) | (with_reducible show wpList _ _ _ ({ dst := none, op := Op.store 35 (Operand.tmp 14) _, type := _, pos := _, after := _, guard := none } :: _) _ _; go_must (refine wpList_store_blk rfl _ _ _ rfl rfl wc.heap.size 0 rfl [.int .u8 1, .int .u8 rc, .int .u32 rs, .int .u8 rk, .int .u64 rkey, .int .u64 rv, .int .u64 rhi, .int .u8 rto, .int .u8 0, .int .u8 0, .int .u32 0, .int .u64 0, .int .u64 0, .slice none 0 0, .slice none 0 0, .int .u8 0, .int .u32 0] rfl _ sz_cmd rfl rfl _ _ (heap_alloc_new wc (.cells #[.int .u8 0, .int .u8 0, .int .u32 0, .int .u8 0, .int .u64 0, .int .u64 0, .int .u64 0, .int .u8 0, .int .u8 0, .int .u8 0, .int .u32 0, .int .u64 0, .int .u64 0, .slice none 0 0, .slice none 0 0, .int .u8 0, .int .u32 0] 35)) rfl [.int .u8 1, .int .u8 rc, .int .u32 rs, .int .u8 rk, .int .u64 rkey, .int .u64 rv, .int .u64 rhi, .int .u8 rto, .int .u8 0, .int .u8 0, .int .u32 0, .int .u64 0, .int .u64 0, .slice none 0 0, .slice none 0 0, .int .u8 0, .int .u32 0] rfl ?_; intro w5 hW hO; have hl1 := stored_later hO; have hC1 := hW; have hX10 := blk_later hl1 hX9; clear hW hO)) | (with_reducible show wpList _ _ _ ({ dst := some 106, op := Op.load 33 _, type := _, pos := _, after := _, guard := none } :: _) _ _; go_must (refine wpList_load_blk rfl _ _ rfl (bR + 1) 0 rfl 7 _ Try.underlying33 rfl sz_rng _ _ hX10 rfl [.int .u8 (qto % 4), .int .u8 (qc % 4), .int .u32 (1 + qs % 100), .int .u64 0, .int .u64 18446744073709551615, .slice xa xn xc, .slice ya yn yc] rfl ?_)) | (with_reducible show wpList _ _ _ ({ dst := none, op := Op.store 35 (Operand.tmp 15) _, type := _, pos := _, after := _, guard := none } :: _) _ _; go_must (refine wpList_store_blk rfl _ _ _ rfl rfl w5.heap.size 0 rfl [.int .u8 2, .int .u8 0, .int .u32 0, .int .u8 0, .int .u64 0, .int .u64 0, .int .u64 0, .int .u8 0, .int .u8 (qto % 4), .int .u8 (qc % 4), .int .u32 (1 + qs % 100), .int .u64 0, .int .u64 18446744073709551615, .slice xa xn xc, .slice ya yn yc, .int .u8 0, .int .u32 0] rfl _ sz_cmd rfl rfl _ _ (heap_alloc_new w5 (.cells #[.int .u8 0, .int .u8 0, .int .u32 0, .int .u8 0, .int .u64 0, .int .u64 0, .int .u64 0, .int .u8 0, .int .u8 0, .int .u8 0, .int .u32 0, .int .u64 0, .int .u64 0, .slice none 0 0, .slice none 0 0, .int .u8 0, .int .u32 0] 35)) rfl [.int .u8 2, .int .u8 0, .int .u32 0, .int .u8 0, .int .u64 0, .int .u64 0, .int .u64 0, .int .u8 0, .int .u8 (qto % 4), .int .u8 (qc % 4), .int .u32 (1 + qs % 100), .int .u64 0, .int .u64 18446744073709551615, .slice xa xn xc, .slice ya yn yc, .int .u8 0, .int .u32 0] rfl ?_; intro w6 hW hO; have hl2 := stored_later hO; have hC2 := hW; have hcQ6 := blk_cell (blk_later hl2 (blk_later hl1 hQ9)); clear hW hO hcQ2 hX10)) | (with_reducible show wpList _ _ _ ({ dst := none, op := Op.store 35 (Operand.tmp 16) _, type := _, pos := _, after := _, guard := none } :: _) _ _; go_must (refine wpList_store_blk rfl _ _ _ rfl rfl w6.heap.size 0 rfl [.int .u8 3, .int .u8 0, .int .u32 0, .int .u8 0, .int .u64 0, .int .u64 0, .int .u64 0, .int .u8 0, .int .u8 0, .int .u8 0, .int .u32 0, .int .u64 0, .int .u64 0, .slice none 0 0, .slice none 0 0, .int .u8 (qto % 4), .int .u32 qs] rfl _ sz_cmd rfl rfl _ _ (heap_alloc_new w6 (.cells #[.int .u8 0, .int .u8 0, .int .u32 0, .int .u8 0, .int .u64 0, .int .u64 0, .int .u64 0, .int .u8 0, .int .u8 0, .int .u8 0, .int .u32 0, .int .u64 0, .int .u64 0, .slice none 0 0, .slice none 0 0, .int .u8 0, .int .u32 0] 35)) rfl [.int .u8 3, .int .u8 0, .int .u32 0, .int .u8 0, .int .u64 0, .int .u64 0, .int .u64 0, .int .u8 0, .int .u8 0, .int .u8 0, .int .u32 0, .int .u64 0, .int .u64 0, .slice none 0 0, .slice none 0 0, .int .u8 (qto % 4), .int .u32 qs] rfl ?_; intro w7 hW hO; have hl3 := stored_later hO; have hC3 := hW; clear hW hO hcQ6)))
        have hl13 := later_trans hl1 (later_trans hl2 hl3)
        have hC1 := blk_later (later_trans hl2 hl3) hC1
        have hC2 := blk_later hl3 hC2
        have hQ12 := blk_later hl13 hQ9
        have hB12 := blk_later hl13 hB9
        have hR12 := blk_later hl13 hR9
        have hX12 := blk_later hl13 hX9
        clear hQ9 hB9 hR9 hX9
        have hcQ12 := blk_cell hQ12
        have hcQ13 := fun (o : Obj) => blk_cell (blk_later (later_alloc w7 o) hQ12)
        have hdv : slot.tdiv 2 = slot / 2 := Int.tdiv_eq_ediv_of_nonneg hs.1
        have hdw : IntKind.u32.wrap (slot / 2 + 1) = slot / 2 + 1 := by have e : IntKind.u32.wrap (slot / 2 + 1) = (slot / 2 + 1) % 4294967296 := rfl; rw [e]; have := hs.1; have := hs.2; omega
        have hdw0 : IntKind.u32.wrap (slot / 2) = slot / 2 := by have e : IntKind.u32.wrap (slot / 2) = (slot / 2) % 4294967296 := rfl; rw [e]; have := hs.1; have := hs.2; omega
        obtain ⟨im, him, hmz0, hmz1, hmz2⟩ := info_parts info_msg
        have hF2 : ∀ v ∈ ([.agg (List.toArray (α := Value) (.int .u8 1 :: .int .u8 rc :: .int .u32 rs :: .int .u8 rk :: .int .u64 rkey :: .int .u64 rv :: .int .u64 rhi :: .int .u8 rto :: .int .u8 0 :: .int .u32 0 :: .int .u64 0 :: .int .u8 0 :: .bool false :: .int .u64 0 :: .int .u8 0 :: .int .u32 0 :: .int .u8 0 :: .int .u32 0 :: .int .u8 0 :: .int .u8 0 :: .int .u32 0 :: .int .u8 0 :: .int .u64 0 :: .int .u64 0 :: .int .u64 0 :: .int .u8 0 :: .int .u8 0 :: .int .u8 0 :: .int .u32 0 :: .int .u64 0 :: .int .u64 0 :: .slice none 0 0 :: .slice none 0 0 :: .int .u8 0 :: .int .u32 0 :: .slice none 0 0 :: .int .u8 0 :: .int .u8 0 :: .int .u32 0 :: .int .u64 0 :: .int .u64 0 :: .slice none 0 0 :: .slice none 0 0 :: .int .u8 0 :: .int .u32 0 :: [])), .agg (List.toArray (α := Value) (.int .u8 9 :: .int .u8 0 :: .int .u32 0 :: .int .u8 0 :: .int .u64 0 :: .int .u64 0 :: .int .u64 0 :: .int .u8 0 :: .int .u8 0 :: .int .u32 0 :: .int .u64 0 :: .int .u8 0 :: .bool false :: .int .u64 0 :: .int .u8 0 :: .int .u32 0 :: .int .u8 0 :: .int .u32 0 :: .int .u8 0 :: .int .u8 0 :: .int .u32 0 :: .int .u8 0 :: .int .u64 0 :: .int .u64 0 :: .int .u64 0 :: .int .u8 0 :: .int .u8 0 :: .int .u8 0 :: .int .u32 0 :: .int .u64 0 :: .int .u64 0 :: .slice none 0 0 :: .slice none 0 0 :: .int .u8 0 :: .int .u32 0 :: .slice none 0 0 :: .int .u8 (qto % 4) :: .int .u8 (qc % 4) :: .int .u32 (1 + qs % 100) :: .int .u64 0 :: .int .u64 18446744073709551615 :: .slice xa xn xc :: .slice ya yn yc :: .int .u8 0 :: .int .u32 0 :: [])), .agg (List.toArray (α := Value) (.int .u8 3 :: .int .u8 0 :: .int .u32 0 :: .int .u8 0 :: .int .u64 0 :: .int .u64 0 :: .int .u64 0 :: .int .u8 0 :: .int .u8 0 :: .int .u32 0 :: .int .u64 0 :: .int .u8 0 :: .bool false :: .int .u64 0 :: .int .u8 0 :: .int .u32 bn :: .int .u8 bid :: .int .u32 0 :: .int .u8 0 :: .int .u8 0 :: .int .u32 0 :: .int .u8 0 :: .int .u64 0 :: .int .u64 0 :: .int .u64 0 :: .int .u8 0 :: .int .u8 0 :: .int .u8 0 :: .int .u32 0 :: .int .u64 0 :: .int .u64 0 :: .slice none 0 0 :: .slice none 0 0 :: .int .u8 0 :: .int .u32 0 :: .slice none 0 0 :: .int .u8 0 :: .int .u8 0 :: .int .u32 0 :: .int .u64 0 :: .int .u64 0 :: .slice none 0 0 :: .slice none 0 0 :: .int .u8 0 :: .int .u32 0 :: [])), .agg (List.toArray (α := Value) (.int .u8 6 :: .int .u8 0 :: .int .u32 0 :: .int .u8 0 :: .int .u64 0 :: .int .u64 0 :: .int .u64 0 :: .int .u8 0 :: .int .u8 0 :: .int .u32 0 :: .int .u64 0 :: .int .u8 0 :: .bool false :: .int .u64 0 :: .int .u8 0 :: .int .u32 bn :: .int .u8 bid :: .int .u32 slot :: .int .u8 2 :: .int .u8 0 :: .int .u32 0 :: .int .u8 0 :: .int .u64 0 :: .int .u64 0 :: .int .u64 0 :: .int .u8 0 :: .int .u8 (qto % 4) :: .int .u8 (qc % 4) :: .int .u32 (1 + qs % 100) :: .int .u64 0 :: .int .u64 18446744073709551615 :: .slice xa xn xc :: .slice ya yn yc :: .int .u8 0 :: .int .u32 0 :: .slice none 0 0 :: .int .u8 0 :: .int .u8 0 :: .int .u32 0 :: .int .u64 0 :: .int .u64 0 :: .slice none 0 0 :: .slice none 0 0 :: .int .u8 0 :: .int .u32 0 :: [])), .agg (List.toArray (α := Value) (.int .u8 8 :: .int .u8 0 :: .int .u32 0 :: .int .u8 0 :: .int .u64 0 :: .int .u64 0 :: .int .u64 0 :: .int .u8 0 :: .int .u8 0 :: .int .u32 0 :: .int .u64 0 :: .int .u8 0 :: .bool false :: .int .u64 0 :: .int .u8 0 :: .int .u32 0 :: .int .u8 0 :: .int .u32 slot :: .int .u8 3 :: .int .u8 0 :: .int .u32 0 :: .int .u8 0 :: .int .u64 0 :: .int .u64 0 :: .int .u64 0 :: .int .u8 0 :: .int .u8 0 :: .int .u8 0 :: .int .u32 0 :: .int .u64 0 :: .int .u64 0 :: .slice none 0 0 :: .slice none 0 0 :: .int .u8 (qto % 4) :: .int .u32 qs :: .slice none 0 0 :: .int .u8 0 :: .int .u8 0 :: .int .u32 0 :: .int .u64 0 :: .int .u64 0 :: .slice none 0 0 :: .slice none 0 0 :: .int .u8 0 :: .int .u32 0 :: [])), .agg (List.toArray (α := Value) (.int .u8 4 :: .int .u8 0 :: .int .u32 0 :: .int .u8 0 :: .int .u64 0 :: .int .u64 0 :: .int .u64 0 :: .int .u8 0 :: .int .u8 0 :: .int .u32 0 :: .int .u64 0 :: .int .u8 0 :: .bool false :: .int .u64 0 :: .int .u8 0 :: .int .u32 bn :: .int .u8 bid :: .int .u32 0 :: .int .u8 0 :: .int .u8 0 :: .int .u32 0 :: .int .u8 0 :: .int .u64 0 :: .int .u64 0 :: .int .u64 0 :: .int .u8 0 :: .int .u8 0 :: .int .u8 0 :: .int .u32 0 :: .int .u64 0 :: .int .u64 0 :: .slice none 0 0 :: .slice none 0 0 :: .int .u8 0 :: .int .u32 0 :: .slice (some ⟨w7.heap.size, 0, none⟩) 2 2 :: .int .u8 0 :: .int .u8 0 :: .int .u32 0 :: .int .u64 0 :: .int .u64 0 :: .slice none 0 0 :: .slice none 0 0 :: .int .u8 0 :: .int .u32 0 :: [])), .agg (List.toArray (α := Value) (.int .u8 7 :: .int .u8 0 :: .int .u32 0 :: .int .u8 0 :: .int .u64 0 :: .int .u64 0 :: .int .u64 0 :: .int .u8 0 :: .int .u8 0 :: .int .u32 0 :: .int .u64 0 :: .int .u8 0 :: .bool false :: .int .u64 0 :: .int .u8 0 :: .int .u32 bn :: .int .u8 bid :: .int .u32 slot :: .int .u8 0 :: .int .u8 0 :: .int .u32 0 :: .int .u8 0 :: .int .u64 0 :: .int .u64 0 :: .int .u64 0 :: .int .u8 0 :: .int .u8 0 :: .int .u8 0 :: .int .u32 0 :: .int .u64 0 :: .int .u64 0 :: .slice none 0 0 :: .slice none 0 0 :: .int .u8 0 :: .int .u32 0 :: .slice none 0 0 :: .int .u8 0 :: .int .u8 0 :: .int .u32 0 :: .int .u64 0 :: .int .u64 0 :: .slice none 0 0 :: .slice none 0 0 :: .int .u8 0 :: .int .u32 0 :: [])), .agg (List.toArray (α := Value) (.int .u8 10 :: .int .u8 0 :: .int .u32 0 :: .int .u8 0 :: .int .u64 0 :: .int .u64 0 :: .int .u64 0 :: .int .u8 0 :: .int .u8 0 :: .int .u32 0 :: .int .u64 0 :: .int .u8 0 :: .bool false :: .int .u64 0 :: .int .u8 0 :: .int .u32 0 :: .int .u8 0 :: .int .u32 0 :: .int .u8 0 :: .int .u8 0 :: .int .u32 0 :: .int .u8 0 :: .int .u64 0 :: .int .u64 0 :: .int .u64 0 :: .int .u8 0 :: .int .u8 0 :: .int .u8 0 :: .int .u32 0 :: .int .u64 0 :: .int .u64 0 :: .slice none 0 0 :: .slice none 0 0 :: .int .u8 0 :: .int .u32 0 :: .slice none 0 0 :: .int .u8 0 :: .int .u8 0 :: .int .u32 0 :: .int .u64 0 :: .int .u64 0 :: .slice none 0 0 :: .slice none 0 0 :: .int .u8 (qto % 4) :: .int .u32 qs :: []))] : List Value), v.cells.size = 45 := by simp [Value.cells]
        go_cut [17] from 36 (fun s wx => s = .slice (some ⟨w7.heap.size + 1, 0, none⟩) 8 8 ∧ Hid (wx.heap[w7.heap.size]? = some (.cells (List.toArray (α := Value) (List.append (α := Value) [.int .u32 (slot / 2), .int .u32 0, .int .u8 0, .int .u8 1, .int .u8 rc, .int .u32 rs, .int .u8 rk, .int .u64 rkey, .int .u64 rv, .int .u64 rhi, .int .u8 rto, .int .u8 0, .int .u8 0, .int .u32 0, .int .u64 0, .int .u64 0, .slice none 0 0, .slice none 0 0, .int .u8 0, .int .u32 0] [.int .u32 (slot / 2 + 1), .int .u32 bn, .int .u8 bid, .int .u8 2, .int .u8 0, .int .u32 0, .int .u8 0, .int .u64 0, .int .u64 0, .int .u64 0, .int .u8 0, .int .u8 (qto % 4), .int .u8 (qc % 4), .int .u32 (1 + qs % 100), .int .u64 0, .int .u64 18446744073709551615, .slice xa xn xc, .slice ya yn yc, .int .u8 0, .int .u32 0])) 84) ∧ wx.heap[w7.heap.size + 1]? = some (.cells (List.toArray (α := Value) (List.append (α := Value) (.int .u8 1 :: .int .u8 rc :: .int .u32 rs :: .int .u8 rk :: .int .u64 rkey :: .int .u64 rv :: .int .u64 rhi :: .int .u8 rto :: .int .u8 0 :: .int .u32 0 :: .int .u64 0 :: .int .u8 0 :: .bool false :: .int .u64 0 :: .int .u8 0 :: .int .u32 0 :: .int .u8 0 :: .int .u32 0 :: .int .u8 0 :: .int .u8 0 :: .int .u32 0 :: .int .u8 0 :: .int .u64 0 :: .int .u64 0 :: .int .u64 0 :: .int .u8 0 :: .int .u8 0 :: .int .u8 0 :: .int .u32 0 :: .int .u64 0 :: .int .u64 0 :: .slice none 0 0 :: .slice none 0 0 :: .int .u8 0 :: .int .u32 0 :: .slice none 0 0 :: .int .u8 0 :: .int .u8 0 :: .int .u32 0 :: .int .u64 0 :: .int .u64 0 :: .slice none 0 0 :: .slice none 0 0 :: .int .u8 0 :: .int .u32 0 :: []) (List.append (α := Value) (.int .u8 9 :: .int .u8 0 :: .int .u32 0 :: .int .u8 0 :: .int .u64 0 :: .int .u64 0 :: .int .u64 0 :: .int .u8 0 :: .int .u8 0 :: .int .u32 0 :: .int .u64 0 :: .int .u8 0 :: .bool false :: .int .u64 0 :: .int .u8 0 :: .int .u32 0 :: .int .u8 0 :: .int .u32 0 :: .int .u8 0 :: .int .u8 0 :: .int .u32 0 :: .int .u8 0 :: .int .u64 0 :: .int .u64 0 :: .int .u64 0 :: .int .u8 0 :: .int .u8 0 :: .int .u8 0 :: .int .u32 0 :: .int .u64 0 :: .int .u64 0 :: .slice none 0 0 :: .slice none 0 0 :: .int .u8 0 :: .int .u32 0 :: .slice none 0 0 :: .int .u8 (qto % 4) :: .int .u8 (qc % 4) :: .int .u32 (1 + qs % 100) :: .int .u64 0 :: .int .u64 18446744073709551615 :: .slice xa xn xc :: .slice ya yn yc :: .int .u8 0 :: .int .u32 0 :: []) (List.append (α := Value) (.int .u8 3 :: .int .u8 0 :: .int .u32 0 :: .int .u8 0 :: .int .u64 0 :: .int .u64 0 :: .int .u64 0 :: .int .u8 0 :: .int .u8 0 :: .int .u32 0 :: .int .u64 0 :: .int .u8 0 :: .bool false :: .int .u64 0 :: .int .u8 0 :: .int .u32 bn :: .int .u8 bid :: .int .u32 0 :: .int .u8 0 :: .int .u8 0 :: .int .u32 0 :: .int .u8 0 :: .int .u64 0 :: .int .u64 0 :: .int .u64 0 :: .int .u8 0 :: .int .u8 0 :: .int .u8 0 :: .int .u32 0 :: .int .u64 0 :: .int .u64 0 :: .slice none 0 0 :: .slice none 0 0 :: .int .u8 0 :: .int .u32 0 :: .slice none 0 0 :: .int .u8 0 :: .int .u8 0 :: .int .u32 0 :: .int .u64 0 :: .int .u64 0 :: .slice none 0 0 :: .slice none 0 0 :: .int .u8 0 :: .int .u32 0 :: []) (List.append (α := Value) (.int .u8 6 :: .int .u8 0 :: .int .u32 0 :: .int .u8 0 :: .int .u64 0 :: .int .u64 0 :: .int .u64 0 :: .int .u8 0 :: .int .u8 0 :: .int .u32 0 :: .int .u64 0 :: .int .u8 0 :: .bool false :: .int .u64 0 :: .int .u8 0 :: .int .u32 bn :: .int .u8 bid :: .int .u32 slot :: .int .u8 2 :: .int .u8 0 :: .int .u32 0 :: .int .u8 0 :: .int .u64 0 :: .int .u64 0 :: .int .u64 0 :: .int .u8 0 :: .int .u8 (qto % 4) :: .int .u8 (qc % 4) :: .int .u32 (1 + qs % 100) :: .int .u64 0 :: .int .u64 18446744073709551615 :: .slice xa xn xc :: .slice ya yn yc :: .int .u8 0 :: .int .u32 0 :: .slice none 0 0 :: .int .u8 0 :: .int .u8 0 :: .int .u32 0 :: .int .u64 0 :: .int .u64 0 :: .slice none 0 0 :: .slice none 0 0 :: .int .u8 0 :: .int .u32 0 :: []) (List.append (α := Value) (.int .u8 8 :: .int .u8 0 :: .int .u32 0 :: .int .u8 0 :: .int .u64 0 :: .int .u64 0 :: .int .u64 0 :: .int .u8 0 :: .int .u8 0 :: .int .u32 0 :: .int .u64 0 :: .int .u8 0 :: .bool false :: .int .u64 0 :: .int .u8 0 :: .int .u32 0 :: .int .u8 0 :: .int .u32 slot :: .int .u8 3 :: .int .u8 0 :: .int .u32 0 :: .int .u8 0 :: .int .u64 0 :: .int .u64 0 :: .int .u64 0 :: .int .u8 0 :: .int .u8 0 :: .int .u8 0 :: .int .u32 0 :: .int .u64 0 :: .int .u64 0 :: .slice none 0 0 :: .slice none 0 0 :: .int .u8 (qto % 4) :: .int .u32 qs :: .slice none 0 0 :: .int .u8 0 :: .int .u8 0 :: .int .u32 0 :: .int .u64 0 :: .int .u64 0 :: .slice none 0 0 :: .slice none 0 0 :: .int .u8 0 :: .int .u32 0 :: []) (List.append (α := Value) (.int .u8 4 :: .int .u8 0 :: .int .u32 0 :: .int .u8 0 :: .int .u64 0 :: .int .u64 0 :: .int .u64 0 :: .int .u8 0 :: .int .u8 0 :: .int .u32 0 :: .int .u64 0 :: .int .u8 0 :: .bool false :: .int .u64 0 :: .int .u8 0 :: .int .u32 bn :: .int .u8 bid :: .int .u32 0 :: .int .u8 0 :: .int .u8 0 :: .int .u32 0 :: .int .u8 0 :: .int .u64 0 :: .int .u64 0 :: .int .u64 0 :: .int .u8 0 :: .int .u8 0 :: .int .u8 0 :: .int .u32 0 :: .int .u64 0 :: .int .u64 0 :: .slice none 0 0 :: .slice none 0 0 :: .int .u8 0 :: .int .u32 0 :: .slice (some ⟨w7.heap.size, 0, none⟩) 2 2 :: .int .u8 0 :: .int .u8 0 :: .int .u32 0 :: .int .u64 0 :: .int .u64 0 :: .slice none 0 0 :: .slice none 0 0 :: .int .u8 0 :: .int .u32 0 :: []) (List.append (α := Value) (.int .u8 7 :: .int .u8 0 :: .int .u32 0 :: .int .u8 0 :: .int .u64 0 :: .int .u64 0 :: .int .u64 0 :: .int .u8 0 :: .int .u8 0 :: .int .u32 0 :: .int .u64 0 :: .int .u8 0 :: .bool false :: .int .u64 0 :: .int .u8 0 :: .int .u32 bn :: .int .u8 bid :: .int .u32 slot :: .int .u8 0 :: .int .u8 0 :: .int .u32 0 :: .int .u8 0 :: .int .u64 0 :: .int .u64 0 :: .int .u64 0 :: .int .u8 0 :: .int .u8 0 :: .int .u8 0 :: .int .u32 0 :: .int .u64 0 :: .int .u64 0 :: .slice none 0 0 :: .slice none 0 0 :: .int .u8 0 :: .int .u32 0 :: .slice none 0 0 :: .int .u8 0 :: .int .u8 0 :: .int .u32 0 :: .int .u64 0 :: .int .u64 0 :: .slice none 0 0 :: .slice none 0 0 :: .int .u8 0 :: .int .u32 0 :: []) (.int .u8 10 :: .int .u8 0 :: .int .u32 0 :: .int .u8 0 :: .int .u64 0 :: .int .u64 0 :: .int .u64 0 :: .int .u8 0 :: .int .u8 0 :: .int .u32 0 :: .int .u64 0 :: .int .u8 0 :: .bool false :: .int .u64 0 :: .int .u8 0 :: .int .u32 0 :: .int .u8 0 :: .int .u32 0 :: .int .u8 0 :: .int .u8 0 :: .int .u32 0 :: .int .u8 0 :: .int .u64 0 :: .int .u64 0 :: .int .u64 0 :: .int .u8 0 :: .int .u8 0 :: .int .u8 0 :: .int .u32 0 :: .int .u64 0 :: .int .u64 0 :: .slice none 0 0 :: .slice none 0 0 :: .int .u8 0 :: .int .u32 0 :: .slice none 0 0 :: .int .u8 0 :: .int .u8 0 :: .int .u32 0 :: .int .u64 0 :: .int .u64 0 :: .slice none 0 0 :: .slice none 0 0 :: .int .u8 (qto % 4) :: .int .u32 qs :: []))))))))) 38) ∧ Below w7.heap.size w7 wx))
        case first =>
          go_wp2_with (first | (with_reducible show wpList _ _ _ ({ dst := some 114, op := Op.load 25 _, type := _, pos := _, after := _, guard := none } :: _) _ _; go_must (refine wpList_load_blk rfl _ _ rfl bR 0 rfl 7 _ Try.underlying25 rfl sz_req _ _ hR12 rfl [.int .u8 rc, .int .u32 rs, .int .u8 rk, .int .u64 rkey, .int .u64 rv, .int .u64 rhi, .int .u8 rto] rfl ?_)) | (with_reducible show wpList _ _ _ ({ dst := some 116, op := Op.load 33 _, type := _, pos := _, after := _, guard := none } :: _) _ _; go_must (refine wpList_load_blk rfl _ _ rfl (bR + 1) 0 rfl 7 _ Try.underlying33 rfl sz_rng _ _ hX12 rfl [.int .u8 (qto % 4), .int .u8 (qc % 4), .int .u32 (1 + qs % 100), .int .u64 0, .int .u64 18446744073709551615, .slice xa xn xc, .slice ya yn yc] rfl ?_)) | (with_reducible show wpList _ _ _ ({ dst := some 118, op := Op.load 29 _, type := _, pos := _, after := _, guard := none } :: _) _ _; go_must (refine wpList_load_blk rfl _ _ rfl (w.heap.size + 1) 0 rfl 2 _ Try.underlying29 rfl sz_bal _ _ hB12 rfl [.int .u32 bn, .int .u8 bid] rfl ?_)) | (with_reducible show wpList _ _ _ ({ dst := some 120, op := Op.load 29 _, type := _, pos := _, after := _, guard := none } :: _) _ _; go_must (refine wpList_load_blk rfl _ _ rfl (w.heap.size + 1) 0 rfl 2 _ Try.underlying29 rfl sz_bal _ _ hB12 rfl [.int .u32 bn, .int .u8 bid] rfl ?_)) | (with_reducible show wpList _ _ _ ({ dst := some 127, op := Op.load 29 _, type := _, pos := _, after := _, guard := none } :: _) _ _; go_must (refine wpList_load_blk rfl _ _ rfl (w.heap.size + 1) 0 rfl 2 _ Try.underlying29 rfl sz_bal _ _ hB12 rfl [.int .u32 bn, .int .u8 bid] rfl ?_)) | (with_reducible show wpList _ _ _ ({ dst := some 135, op := Op.load 29 _, type := _, pos := _, after := _, guard := none } :: _) _ _; go_must (refine wpList_load_blk rfl _ _ rfl (w.heap.size + 1) 0 rfl 2 _ Try.underlying29 rfl sz_bal _ _ hB12 rfl [.int .u32 bn, .int .u8 bid] rfl ?_)) | (with_reducible show wpList _ _ _ ({ dst := some 140, op := Op.load 29 _, type := _, pos := _, after := _, guard := none } :: _) _ _; go_must (refine wpList_load_blk rfl _ _ rfl (w.heap.size + 1) 0 rfl 2 _ Try.underlying29 rfl sz_bal _ _ (blk_later (later_alloc _ _) hB12) rfl [.int .u32 bn, .int .u8 bid] rfl ?_)) | (with_reducible show wpList _ _ _ ({ dst := some 122, op := Op.load 35 _, type := _, pos := _, after := _, guard := none } :: _) _ _; go_must (refine wpList_load_blk rfl _ _ rfl w5.heap.size 0 rfl 17 _ Try.underlying35 rfl sz_cmd _ _ hC2 rfl [.int .u8 2, .int .u8 0, .int .u32 0, .int .u8 0, .int .u64 0, .int .u64 0, .int .u64 0, .int .u8 0, .int .u8 (qto % 4), .int .u8 (qc % 4), .int .u32 (1 + qs % 100), .int .u64 0, .int .u64 18446744073709551615, .slice xa xn xc, .slice ya yn yc, .int .u8 0, .int .u32 0] rfl ?_)) | (with_reducible show wpList _ _ _ ({ dst := some 125, op := Op.load 35 _, type := _, pos := _, after := _, guard := none } :: _) _ _; go_must (refine wpList_load_blk rfl _ _ rfl w6.heap.size 0 rfl 17 _ Try.underlying35 rfl sz_cmd _ _ hC3 rfl [.int .u8 3, .int .u8 0, .int .u32 0, .int .u8 0, .int .u64 0, .int .u64 0, .int .u64 0, .int .u8 0, .int .u8 0, .int .u8 0, .int .u32 0, .int .u64 0, .int .u64 0, .slice none 0 0, .slice none 0 0, .int .u8 (qto % 4), .int .u32 qs] rfl ?_)) | (with_reducible show wpList _ _ _ ({ dst := some 130, op := Op.load 35 _, type := _, pos := _, after := _, guard := none } :: _) _ _; go_must (refine wpList_load_blk rfl _ _ rfl wc.heap.size 0 rfl 17 _ Try.underlying35 rfl sz_cmd _ _ hC1 rfl [.int .u8 1, .int .u8 rc, .int .u32 rs, .int .u8 rk, .int .u64 rkey, .int .u64 rv, .int .u64 rhi, .int .u8 rto, .int .u8 0, .int .u8 0, .int .u32 0, .int .u64 0, .int .u64 0, .slice none 0 0, .slice none 0 0, .int .u8 0, .int .u32 0] rfl ?_)) | (with_reducible show wpList _ _ _ ({ dst := some 136, op := Op.load 35 _, type := _, pos := _, after := _, guard := none } :: _) _ _; go_must (refine wpList_load_blk rfl _ _ rfl w5.heap.size 0 rfl 17 _ Try.underlying35 rfl sz_cmd _ _ hC2 rfl [.int .u8 2, .int .u8 0, .int .u32 0, .int .u8 0, .int .u64 0, .int .u64 0, .int .u64 0, .int .u8 0, .int .u8 (qto % 4), .int .u8 (qc % 4), .int .u32 (1 + qs % 100), .int .u64 0, .int .u64 18446744073709551615, .slice xa xn xc, .slice ya yn yc, .int .u8 0, .int .u32 0] rfl ?_)))
          refine wp_buildSlice _ 38 8 _ rfl (List.toArray (α := Value) (List.append (α := Value) (.int .u8 1 :: .int .u8 rc :: .int .u32 rs :: .int .u8 rk :: .int .u64 rkey :: .int .u64 rv :: .int .u64 rhi :: .int .u8 rto :: .int .u8 0 :: .int .u32 0 :: .int .u64 0 :: .int .u8 0 :: .bool false :: .int .u64 0 :: .int .u8 0 :: .int .u32 0 :: .int .u8 0 :: .int .u32 0 :: .int .u8 0 :: .int .u8 0 :: .int .u32 0 :: .int .u8 0 :: .int .u64 0 :: .int .u64 0 :: .int .u64 0 :: .int .u8 0 :: .int .u8 0 :: .int .u8 0 :: .int .u32 0 :: .int .u64 0 :: .int .u64 0 :: .slice none 0 0 :: .slice none 0 0 :: .int .u8 0 :: .int .u32 0 :: .slice none 0 0 :: .int .u8 0 :: .int .u8 0 :: .int .u32 0 :: .int .u64 0 :: .int .u64 0 :: .slice none 0 0 :: .slice none 0 0 :: .int .u8 0 :: .int .u32 0 :: []) (List.append (α := Value) (.int .u8 9 :: .int .u8 0 :: .int .u32 0 :: .int .u8 0 :: .int .u64 0 :: .int .u64 0 :: .int .u64 0 :: .int .u8 0 :: .int .u8 0 :: .int .u32 0 :: .int .u64 0 :: .int .u8 0 :: .bool false :: .int .u64 0 :: .int .u8 0 :: .int .u32 0 :: .int .u8 0 :: .int .u32 0 :: .int .u8 0 :: .int .u8 0 :: .int .u32 0 :: .int .u8 0 :: .int .u64 0 :: .int .u64 0 :: .int .u64 0 :: .int .u8 0 :: .int .u8 0 :: .int .u8 0 :: .int .u32 0 :: .int .u64 0 :: .int .u64 0 :: .slice none 0 0 :: .slice none 0 0 :: .int .u8 0 :: .int .u32 0 :: .slice none 0 0 :: .int .u8 (qto % 4) :: .int .u8 (qc % 4) :: .int .u32 (1 + qs % 100) :: .int .u64 0 :: .int .u64 18446744073709551615 :: .slice xa xn xc :: .slice ya yn yc :: .int .u8 0 :: .int .u32 0 :: []) (List.append (α := Value) (.int .u8 3 :: .int .u8 0 :: .int .u32 0 :: .int .u8 0 :: .int .u64 0 :: .int .u64 0 :: .int .u64 0 :: .int .u8 0 :: .int .u8 0 :: .int .u32 0 :: .int .u64 0 :: .int .u8 0 :: .bool false :: .int .u64 0 :: .int .u8 0 :: .int .u32 bn :: .int .u8 bid :: .int .u32 0 :: .int .u8 0 :: .int .u8 0 :: .int .u32 0 :: .int .u8 0 :: .int .u64 0 :: .int .u64 0 :: .int .u64 0 :: .int .u8 0 :: .int .u8 0 :: .int .u8 0 :: .int .u32 0 :: .int .u64 0 :: .int .u64 0 :: .slice none 0 0 :: .slice none 0 0 :: .int .u8 0 :: .int .u32 0 :: .slice none 0 0 :: .int .u8 0 :: .int .u8 0 :: .int .u32 0 :: .int .u64 0 :: .int .u64 0 :: .slice none 0 0 :: .slice none 0 0 :: .int .u8 0 :: .int .u32 0 :: []) (List.append (α := Value) (.int .u8 6 :: .int .u8 0 :: .int .u32 0 :: .int .u8 0 :: .int .u64 0 :: .int .u64 0 :: .int .u64 0 :: .int .u8 0 :: .int .u8 0 :: .int .u32 0 :: .int .u64 0 :: .int .u8 0 :: .bool false :: .int .u64 0 :: .int .u8 0 :: .int .u32 bn :: .int .u8 bid :: .int .u32 slot :: .int .u8 2 :: .int .u8 0 :: .int .u32 0 :: .int .u8 0 :: .int .u64 0 :: .int .u64 0 :: .int .u64 0 :: .int .u8 0 :: .int .u8 (qto % 4) :: .int .u8 (qc % 4) :: .int .u32 (1 + qs % 100) :: .int .u64 0 :: .int .u64 18446744073709551615 :: .slice xa xn xc :: .slice ya yn yc :: .int .u8 0 :: .int .u32 0 :: .slice none 0 0 :: .int .u8 0 :: .int .u8 0 :: .int .u32 0 :: .int .u64 0 :: .int .u64 0 :: .slice none 0 0 :: .slice none 0 0 :: .int .u8 0 :: .int .u32 0 :: []) (List.append (α := Value) (.int .u8 8 :: .int .u8 0 :: .int .u32 0 :: .int .u8 0 :: .int .u64 0 :: .int .u64 0 :: .int .u64 0 :: .int .u8 0 :: .int .u8 0 :: .int .u32 0 :: .int .u64 0 :: .int .u8 0 :: .bool false :: .int .u64 0 :: .int .u8 0 :: .int .u32 0 :: .int .u8 0 :: .int .u32 slot :: .int .u8 3 :: .int .u8 0 :: .int .u32 0 :: .int .u8 0 :: .int .u64 0 :: .int .u64 0 :: .int .u64 0 :: .int .u8 0 :: .int .u8 0 :: .int .u8 0 :: .int .u32 0 :: .int .u64 0 :: .int .u64 0 :: .slice none 0 0 :: .slice none 0 0 :: .int .u8 (qto % 4) :: .int .u32 qs :: .slice none 0 0 :: .int .u8 0 :: .int .u8 0 :: .int .u32 0 :: .int .u64 0 :: .int .u64 0 :: .slice none 0 0 :: .slice none 0 0 :: .int .u8 0 :: .int .u32 0 :: []) (List.append (α := Value) (.int .u8 4 :: .int .u8 0 :: .int .u32 0 :: .int .u8 0 :: .int .u64 0 :: .int .u64 0 :: .int .u64 0 :: .int .u8 0 :: .int .u8 0 :: .int .u32 0 :: .int .u64 0 :: .int .u8 0 :: .bool false :: .int .u64 0 :: .int .u8 0 :: .int .u32 bn :: .int .u8 bid :: .int .u32 0 :: .int .u8 0 :: .int .u8 0 :: .int .u32 0 :: .int .u8 0 :: .int .u64 0 :: .int .u64 0 :: .int .u64 0 :: .int .u8 0 :: .int .u8 0 :: .int .u8 0 :: .int .u32 0 :: .int .u64 0 :: .int .u64 0 :: .slice none 0 0 :: .slice none 0 0 :: .int .u8 0 :: .int .u32 0 :: .slice (some ⟨w7.heap.size, 0, none⟩) 2 2 :: .int .u8 0 :: .int .u8 0 :: .int .u32 0 :: .int .u64 0 :: .int .u64 0 :: .slice none 0 0 :: .slice none 0 0 :: .int .u8 0 :: .int .u32 0 :: []) (List.append (α := Value) (.int .u8 7 :: .int .u8 0 :: .int .u32 0 :: .int .u8 0 :: .int .u64 0 :: .int .u64 0 :: .int .u64 0 :: .int .u8 0 :: .int .u8 0 :: .int .u32 0 :: .int .u64 0 :: .int .u8 0 :: .bool false :: .int .u64 0 :: .int .u8 0 :: .int .u32 bn :: .int .u8 bid :: .int .u32 slot :: .int .u8 0 :: .int .u8 0 :: .int .u32 0 :: .int .u8 0 :: .int .u64 0 :: .int .u64 0 :: .int .u64 0 :: .int .u8 0 :: .int .u8 0 :: .int .u8 0 :: .int .u32 0 :: .int .u64 0 :: .int .u64 0 :: .slice none 0 0 :: .slice none 0 0 :: .int .u8 0 :: .int .u32 0 :: .slice none 0 0 :: .int .u8 0 :: .int .u8 0 :: .int .u32 0 :: .int .u64 0 :: .int .u64 0 :: .slice none 0 0 :: .slice none 0 0 :: .int .u8 0 :: .int .u32 0 :: []) (.int .u8 10 :: .int .u8 0 :: .int .u32 0 :: .int .u8 0 :: .int .u64 0 :: .int .u64 0 :: .int .u64 0 :: .int .u8 0 :: .int .u8 0 :: .int .u32 0 :: .int .u64 0 :: .int .u8 0 :: .bool false :: .int .u64 0 :: .int .u8 0 :: .int .u32 0 :: .int .u8 0 :: .int .u32 0 :: .int .u8 0 :: .int .u8 0 :: .int .u32 0 :: .int .u8 0 :: .int .u64 0 :: .int .u64 0 :: .int .u64 0 :: .int .u8 0 :: .int .u8 0 :: .int .u8 0 :: .int .u32 0 :: .int .u64 0 :: .int .u64 0 :: .slice none 0 0 :: .slice none 0 0 :: .int .u8 0 :: .int .u32 0 :: .slice none 0 0 :: .int .u8 0 :: .int .u8 0 :: .int .u32 0 :: .int .u64 0 :: .int .u64 0 :: .slice none 0 0 :: .slice none 0 0 :: .int .u8 (qto % 4) :: .int .u32 qs :: []))))))))) im _ Try.underlying85 him hmz0 ?_ ?_ ?_ ?_
          · rw [hmz1]; decide
          · rw [hmz1]; decide
          · rw [hmz1, Array.toList_map]
            exact fill_vs (s := 45) (by decide) [.agg (List.toArray (α := Value) (.int .u8 1 :: .int .u8 rc :: .int .u32 rs :: .int .u8 rk :: .int .u64 rkey :: .int .u64 rv :: .int .u64 rhi :: .int .u8 rto :: .int .u8 0 :: .int .u32 0 :: .int .u64 0 :: .int .u8 0 :: .bool false :: .int .u64 0 :: .int .u8 0 :: .int .u32 0 :: .int .u8 0 :: .int .u32 0 :: .int .u8 0 :: .int .u8 0 :: .int .u32 0 :: .int .u8 0 :: .int .u64 0 :: .int .u64 0 :: .int .u64 0 :: .int .u8 0 :: .int .u8 0 :: .int .u8 0 :: .int .u32 0 :: .int .u64 0 :: .int .u64 0 :: .slice none 0 0 :: .slice none 0 0 :: .int .u8 0 :: .int .u32 0 :: .slice none 0 0 :: .int .u8 0 :: .int .u8 0 :: .int .u32 0 :: .int .u64 0 :: .int .u64 0 :: .slice none 0 0 :: .slice none 0 0 :: .int .u8 0 :: .int .u32 0 :: [])), .agg (List.toArray (α := Value) (.int .u8 9 :: .int .u8 0 :: .int .u32 0 :: .int .u8 0 :: .int .u64 0 :: .int .u64 0 :: .int .u64 0 :: .int .u8 0 :: .int .u8 0 :: .int .u32 0 :: .int .u64 0 :: .int .u8 0 :: .bool false :: .int .u64 0 :: .int .u8 0 :: .int .u32 0 :: .int .u8 0 :: .int .u32 0 :: .int .u8 0 :: .int .u8 0 :: .int .u32 0 :: .int .u8 0 :: .int .u64 0 :: .int .u64 0 :: .int .u64 0 :: .int .u8 0 :: .int .u8 0 :: .int .u8 0 :: .int .u32 0 :: .int .u64 0 :: .int .u64 0 :: .slice none 0 0 :: .slice none 0 0 :: .int .u8 0 :: .int .u32 0 :: .slice none 0 0 :: .int .u8 (qto % 4) :: .int .u8 (qc % 4) :: .int .u32 (1 + qs % 100) :: .int .u64 0 :: .int .u64 18446744073709551615 :: .slice xa xn xc :: .slice ya yn yc :: .int .u8 0 :: .int .u32 0 :: [])), .agg (List.toArray (α := Value) (.int .u8 3 :: .int .u8 0 :: .int .u32 0 :: .int .u8 0 :: .int .u64 0 :: .int .u64 0 :: .int .u64 0 :: .int .u8 0 :: .int .u8 0 :: .int .u32 0 :: .int .u64 0 :: .int .u8 0 :: .bool false :: .int .u64 0 :: .int .u8 0 :: .int .u32 bn :: .int .u8 bid :: .int .u32 0 :: .int .u8 0 :: .int .u8 0 :: .int .u32 0 :: .int .u8 0 :: .int .u64 0 :: .int .u64 0 :: .int .u64 0 :: .int .u8 0 :: .int .u8 0 :: .int .u8 0 :: .int .u32 0 :: .int .u64 0 :: .int .u64 0 :: .slice none 0 0 :: .slice none 0 0 :: .int .u8 0 :: .int .u32 0 :: .slice none 0 0 :: .int .u8 0 :: .int .u8 0 :: .int .u32 0 :: .int .u64 0 :: .int .u64 0 :: .slice none 0 0 :: .slice none 0 0 :: .int .u8 0 :: .int .u32 0 :: [])), .agg (List.toArray (α := Value) (.int .u8 6 :: .int .u8 0 :: .int .u32 0 :: .int .u8 0 :: .int .u64 0 :: .int .u64 0 :: .int .u64 0 :: .int .u8 0 :: .int .u8 0 :: .int .u32 0 :: .int .u64 0 :: .int .u8 0 :: .bool false :: .int .u64 0 :: .int .u8 0 :: .int .u32 bn :: .int .u8 bid :: .int .u32 slot :: .int .u8 2 :: .int .u8 0 :: .int .u32 0 :: .int .u8 0 :: .int .u64 0 :: .int .u64 0 :: .int .u64 0 :: .int .u8 0 :: .int .u8 (qto % 4) :: .int .u8 (qc % 4) :: .int .u32 (1 + qs % 100) :: .int .u64 0 :: .int .u64 18446744073709551615 :: .slice xa xn xc :: .slice ya yn yc :: .int .u8 0 :: .int .u32 0 :: .slice none 0 0 :: .int .u8 0 :: .int .u8 0 :: .int .u32 0 :: .int .u64 0 :: .int .u64 0 :: .slice none 0 0 :: .slice none 0 0 :: .int .u8 0 :: .int .u32 0 :: [])), .agg (List.toArray (α := Value) (.int .u8 8 :: .int .u8 0 :: .int .u32 0 :: .int .u8 0 :: .int .u64 0 :: .int .u64 0 :: .int .u64 0 :: .int .u8 0 :: .int .u8 0 :: .int .u32 0 :: .int .u64 0 :: .int .u8 0 :: .bool false :: .int .u64 0 :: .int .u8 0 :: .int .u32 0 :: .int .u8 0 :: .int .u32 slot :: .int .u8 3 :: .int .u8 0 :: .int .u32 0 :: .int .u8 0 :: .int .u64 0 :: .int .u64 0 :: .int .u64 0 :: .int .u8 0 :: .int .u8 0 :: .int .u8 0 :: .int .u32 0 :: .int .u64 0 :: .int .u64 0 :: .slice none 0 0 :: .slice none 0 0 :: .int .u8 (qto % 4) :: .int .u32 qs :: .slice none 0 0 :: .int .u8 0 :: .int .u8 0 :: .int .u32 0 :: .int .u64 0 :: .int .u64 0 :: .slice none 0 0 :: .slice none 0 0 :: .int .u8 0 :: .int .u32 0 :: [])), .agg (List.toArray (α := Value) (.int .u8 4 :: .int .u8 0 :: .int .u32 0 :: .int .u8 0 :: .int .u64 0 :: .int .u64 0 :: .int .u64 0 :: .int .u8 0 :: .int .u8 0 :: .int .u32 0 :: .int .u64 0 :: .int .u8 0 :: .bool false :: .int .u64 0 :: .int .u8 0 :: .int .u32 bn :: .int .u8 bid :: .int .u32 0 :: .int .u8 0 :: .int .u8 0 :: .int .u32 0 :: .int .u8 0 :: .int .u64 0 :: .int .u64 0 :: .int .u64 0 :: .int .u8 0 :: .int .u8 0 :: .int .u8 0 :: .int .u32 0 :: .int .u64 0 :: .int .u64 0 :: .slice none 0 0 :: .slice none 0 0 :: .int .u8 0 :: .int .u32 0 :: .slice (some ⟨w7.heap.size, 0, none⟩) 2 2 :: .int .u8 0 :: .int .u8 0 :: .int .u32 0 :: .int .u64 0 :: .int .u64 0 :: .slice none 0 0 :: .slice none 0 0 :: .int .u8 0 :: .int .u32 0 :: [])), .agg (List.toArray (α := Value) (.int .u8 7 :: .int .u8 0 :: .int .u32 0 :: .int .u8 0 :: .int .u64 0 :: .int .u64 0 :: .int .u64 0 :: .int .u8 0 :: .int .u8 0 :: .int .u32 0 :: .int .u64 0 :: .int .u8 0 :: .bool false :: .int .u64 0 :: .int .u8 0 :: .int .u32 bn :: .int .u8 bid :: .int .u32 slot :: .int .u8 0 :: .int .u8 0 :: .int .u32 0 :: .int .u8 0 :: .int .u64 0 :: .int .u64 0 :: .int .u64 0 :: .int .u8 0 :: .int .u8 0 :: .int .u8 0 :: .int .u32 0 :: .int .u64 0 :: .int .u64 0 :: .slice none 0 0 :: .slice none 0 0 :: .int .u8 0 :: .int .u32 0 :: .slice none 0 0 :: .int .u8 0 :: .int .u8 0 :: .int .u32 0 :: .int .u64 0 :: .int .u64 0 :: .slice none 0 0 :: .slice none 0 0 :: .int .u8 0 :: .int .u32 0 :: [])), .agg (List.toArray (α := Value) (.int .u8 10 :: .int .u8 0 :: .int .u32 0 :: .int .u8 0 :: .int .u64 0 :: .int .u64 0 :: .int .u64 0 :: .int .u8 0 :: .int .u8 0 :: .int .u32 0 :: .int .u64 0 :: .int .u8 0 :: .bool false :: .int .u64 0 :: .int .u8 0 :: .int .u32 0 :: .int .u8 0 :: .int .u32 0 :: .int .u8 0 :: .int .u8 0 :: .int .u32 0 :: .int .u8 0 :: .int .u64 0 :: .int .u64 0 :: .int .u64 0 :: .int .u8 0 :: .int .u8 0 :: .int .u8 0 :: .int .u32 0 :: .int .u64 0 :: .int .u64 0 :: .slice none 0 0 :: .slice none 0 0 :: .int .u8 0 :: .int .u32 0 :: .slice none 0 0 :: .int .u8 0 :: .int .u8 0 :: .int .u32 0 :: .int .u64 0 :: .int .u64 0 :: .slice none 0 0 :: .slice none 0 0 :: .int .u8 (qto % 4) :: .int .u32 qs :: []))] _ hF2 (by simp)
          apply_assumption
          go_wp2_with fail
          go_meet
          exact ⟨rfl, blk_later (later_alloc _ _) (heap_alloc_new w7 _), heap_alloc_new2 w7 _ _, later_trans (later_alloc _ _) (later_alloc _ _)⟩
        case rest =>
          obtain ⟨rfl, H7⟩ := hcut
          have hbl7 := H7.out.2.2
          have hT7 : Below w.heap.size w w7 := (hT2.trans (HX.out.bel.mono (Nat.le_of_lt HQ0.out))).trans (hl13.mono (Nat.le_of_lt (Nat.lt_trans HQ0.out HX.out.sz)))
          have hT8 := hT7.trans (hbl7.mono hT7.size)
          have HM : Hid (MsIn wc (w7.heap.size + 1) (eight (Req.mk rc rs rk rkey rv rhi rto) ⟨qto % 4, qc % 4, 1 + qs % 100, 0, 18446744073709551615, ⟨xa, xn, xc⟩, ⟨ya, yn, yc⟩, ks.map (rowOf qv), ks.map (dupOf (qc % 4) qhi)⟩ bn bid slot w7.heap.size (qto % 4) qs)) := by
            refine ⟨H7.out.2.1, of_eight (eight_ok HRok.out (rise_rng _ _ _ _ _ HK.out.1 HL.out (by omega) (by omega) (by omega) (by omega)) (by omega)), of_eight (eight_wf HRwf.out (rise_wf HK.out.1 (by unfold U8; omega) (by unfold U8; omega) (by unfold U32; omega) q5 (by unfold U8; omega) q6) hb1 hb2 hs (by unfold U8; omega) q2), of_eight (eight_in ⟨?_, ?_⟩ H7.out.1)⟩
            · exact ((own_in' HX.out.oR rfl).later hl13).later hbl7
            · exact ((own_inD HX.out.oD rfl).later hl13).later hbl7
          obtain ⟨L, hL⟩ : ∃ L, L = eight (Req.mk rc rs rk rkey rv rhi rto) ⟨qto % 4, qc % 4, 1 + qs % 100, 0, 18446744073709551615, ⟨xa, xn, xc⟩, ⟨ya, yn, yc⟩, ks.map (rowOf qv), ks.map (dupOf (qc % 4) qhi)⟩ bn bid slot w7.heap.size (qto % 4) qs := ⟨_, rfl⟩
          have HLL : Hid (L.length = 8) := by rw [hL]; exact rfl
          rw [← hL] at HM
          have HT8 := hideU hT8
          obtain ⟨bL, hbL⟩ : ∃ b, b = w7.heap.size + 1 := ⟨_, rfl⟩
          rw [← hbL] at HM ⊢
          clear hL hbL hT8 hT7 hbl7 H7 hdw hdw0 hdv hcQ12 hcQ13 hX12 hR12 hB12 hQ12 hC1 hC2 hC3 hl13 hl1 hl2 hl3 HX HK HL hw1 hT2 HA0 HA1 HA2 HQ0 HR HRok HRwf HQ HKN hk hkw hkm m1 m2 m3 m4
          apply_assumption
          exact round_tail rfl _ _ _ _ _ _ _ _ _ _ _ _ _ _ _ _ _ _ _ _ _ _ _ _ _ _ _ _ _ _ _ _ _ _ _ _ _ _ _ _ _ _ _ _ _ _ _ _ _ _ _ _ _ _ _ _ _ _ _ _ _ _ _ _ _ _ _ _ _ _ _ _ _ _ _ _ _ _ _ _ _ _ _ _ _ _ _ _ _ _ _ _ _ _ _ _ _ _ _ _ _ _ _ _ _ _ _ _ _ _ _ _ _ _ _ _ _ _ _ _ _ _ _ _ _ _ _ _ _ _ _ _ _ _ _ _ _ _ _ _ _ _ _ _ _ _ _ _ _ _ _ _ _ _ _ _ _ _ _ _ _ _ _ _ _ _ _ _ _ _ _ _ _ _ _ _ _ _ _ _ _ _ _ _ _ _ _ _ _ _ _ _ _ _ _ _ _ _ _ _ _ _ _ _ _ _ _ _ _ _ _ _ _ _ _ _ _ _ _ _ _ _ _ _ _ _ _ _ _ _ _ _ _ _ _ _ _ _ _ _ _ _ _ _ _ _ _ _ _ _ _ _ _ _ _ _ _ _ _ _ _ _ _ _ _ _ _ _ _ _ _ _ _ _ _ _ _ _ _ _ _ _ _ _ _ _ _ _ _ _ _ _ _ _ _ _ _ _ _ _ _ _ _ _ _ _ _ _ _ _ _ _ _ _ _ _ _ _ _ _ _ _ _ _ _ _ _ _ _ _ _ _ _ _ _ _ _ w wc bL L tl HM HLL HT8 htb htl

end Go.Proofs.Ytignemioillaiaa
