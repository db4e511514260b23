/- Held: whatever is given, each key belongs to whom it was given last; and no map has more pieces than it needs. -/
import Derived.Test.YtignemioillaiaaH2
namespace Go.Proofs.Ytignemioillaiaa
open Go.RowKit

theorem own_keep1 {w w' : World} {base B : Nat} {v : Value} {l : List Pc} (h : OwnP base w v l) (hO : Only B w w') (hB : B < base) : OwnP base w' v l :=
  ownp_only h hO (by intro e; have := (World.ownsRow.lt h B e.symm).1; omega)

theorem ups {o : Nat → Int} {lo q : Nat} {g : Int} (hq : lo ≤ q) : (fun i => if i = q then g else if lo ≤ i ∧ i < q then g else o i) = fun i => if lo ≤ i ∧ i < q + 1 then g else o i := by
  funext i
  by_cases h1 : i = q
  · subst h1; rw [if_pos rfl, if_pos (by omega)]
  · rw [if_neg h1]
    by_cases h2 : lo ≤ i ∧ i < q
    · rw [if_pos h2, if_pos (by omega)]
    · rw [if_neg h2, if_neg (by omega)]
theorem ups_end {o : Nat → Int} {lo hi : Nat} {g : Int} : (fun i => if lo ≤ i ∧ i < hi + 1 then g else o i) = fun i => if lo ≤ i ∧ i ≤ hi then g else o i := by
  funext i
  by_cases h2 : lo ≤ i ∧ i ≤ hi
  · rw [if_pos h2, if_pos (by omega)]
  · rw [if_neg h2, if_neg (by omega)]
theorem ups_start {o : Nat → Int} {lo : Nat} {g : Int} : (fun i => if lo ≤ i ∧ i < lo then g else o i) = o := by
  funext i; rw [if_neg (by omega)]

set_option maxHeartbeats 4000000 in
set_option maxRecDepth 100000 in
theorem held_any (ga : Option Addr) (gn gc : Nat) (gifts : List Gf) (base : Int) (w : World) (h : SlIn w.heap.size w ⟨ga, gn, gc⟩ 3 (gifts.map Gf.cells)) (hwf : ∀ (i : Nat) (x : Gf), gifts[i]? = some x → x.wf) (h0 : 0 ≤ base) (h1 : base < 18446744073709551616) :
    Calls Try.prog 8 #[.slice ga gn gc, .int .u64 base] w fun e w' => e = .returned (.bool true) ∧ Below w.heap.size w w' := by
  obtain ⟨i0, hi, hz0, hz1, hz2⟩ := info_parts info_u8
  obtain ⟨hA0, hA1⟩ := atB_range h0 h1
  have hlen : gn = gifts.length := by simpa using h.len
  have hlm : gn ≤ maxLen := Nat.le_trans h.le h.max
  unfold maxLen at hlm
  have HL : Hid (gn = gifts.length) := hlen
  have HF : Hid (∀ (i : Nat) (x : Gf), gifts[i]? = some x → x.wf) := hwf
  clear hlen hwf
  go_enter Try.func8, Try.ntmps8
  go_wp2_with (first | (with_reducible show wpList _ _ _ ({ dst := _, op := Op.makeSlice _ _ _, type := _, pos := _, after := _, guard := none } :: _) _ _; go_must (refine wpList_make_full _ rfl _ _ _ rfl (w.heap.size + 1) 5 i0 (.int .u8 0) 1 Try.underlying90 hi hz0 hz1 .i64 .i64 40 40 40 rfl rfl rfl rfl (by rw [hz2]; decide) (by decide) (by simp) ?_; intro w1 ho1 hg1)))
  rw [made_owners] at ho1
  have hW1 : w1.heap[w.heap.size + 1]? = some (.cells (mkO fun _ => 0).toArray 5) := by
    have := own_whole ho1
    simpa using this
  have hb1 : Below (w.heap.size + 1) (w.alloc (.cells #[.int .u64 0, .int .u8 0] 64)) w1 := ⟨hg1.os, hg1.tape, hg1.output, hg1.size, fun k hk => hg1.block k (by simpa using hk) (by simp)⟩
  have hm1 : MapIn w1 (some ⟨w.heap.size, 0, none⟩) 1 1 (pack (atB base) fun _ => 0) := by
    rw [← pack_start hA0 hA1]
    have hc := blk_of (heap_alloc_new w (.cells #[.int .u64 0, .int .u8 0] 64)) hb1
    refine ⟨rfl, Nat.le_refl _, by show (1 : Nat) ≤ maxLen; decide, fun _ => ⟨w.heap.size, 0, rfl, ?_, ?_⟩⟩
    · have := hb1.size; simp at this; omega
    · intro i x hx j u hu
      match i, hx with
      | 0, hx =>
        simp [Pc.cells] at hx; subst hx
        match j, hu with
        | 0, hu => simp at hu; subst hu; exact hc 0
        | 1, hu => simp at hu; subst hu; exact hc 1
  have hn1 : Below w.heap.size w w1 := (later_alloc w _).trans (hb1.mono (by omega))
  clear ho1 hb1 hg1
  go_loopw [5, 7] (fun vm i wr => ∃ (k : Nat) (o : Nat → Int) (a5 : Option Addr) (n5 c5 : Nat), k ≤ gn ∧ k ≤ 300 ∧ i = .int .i64 k ∧ vm = .slice a5 n5 c5 ∧ Hid (MapIn wr a5 n5 c5 (pack (atB base) o)) ∧ Hid (∀ j, 0 ≤ o j ∧ o j < 4) ∧ Hid (wr.heap[w.heap.size + 1]? = some (.cells (mkO o).toArray 5)) ∧ Below w.heap.size w wr) (fun _ i _ => gn - (intOf i).toNat)
  case atStart => exact ⟨0, fun _ => 0, _, _, _, Nat.zero_le _, Nat.zero_le _, rfl, rfl, hm1, (by intro j; show (0 : Int) ≤ 0 ∧ (0 : Int) < 4; decide), hW1, hn1⟩
  case round =>
    obtain ⟨k, o, a5, n5, c5, hk, hk3, rfl, rfl, HM, HO, HW, hnx⟩ := hrel
    have hsz : w.heap.size + 1 < wr.heap.size := (Array.getElem?_eq_some_iff.1 HW.out).1
    by_cases hlt : k < gn
    · have hd1 : decide ((k : Int) < (gn : Int)) = true := by simp; omega
      by_cases hlt3 : k < 300
      · have hd2 : decide ((k : Int) < 300) = true := by simp; omega
        obtain ⟨x, hx⟩ : ∃ x, gifts[k]? = some x := ⟨gifts[k]'(by rw [← HL.out]; exact hlt), by simp⟩
        have hxw := HF.out k x hx
        obtain ⟨b, off, ha, hbB, hc0, hc1, hc2⟩ := (h.below hnx (Nat.le_refl _)).atG hx
        obtain rfl : ga = some ⟨b, off, none⟩ := ha
        clear hx
        obtain ⟨xlo, xhi, xg⟩ := x
        dsimp only at hc0 hc1 hc2
        obtain ⟨x1, x2, x3, x4, x5, x6⟩ := hxw
        dsimp only at x1 x2 x3 x4 x5 x6
        have hi1 : (0 : Int) ≤ (k : Int) := by omega
        have hi2 : (k : Int) < (gn : Int) := by omega
        obtain ⟨lo, elo⟩ : ∃ n : Nat, xlo % 40 = (n : Int) := ⟨(xlo % 40).toNat, by omega⟩
        obtain ⟨hi', ehi⟩ : ∃ n : Nat, xhi % 40 = (n : Int) := ⟨(xhi % 40).toNat, by omega⟩
        obtain ⟨g, eg⟩ : ∃ n : Int, xg % 4 = n := ⟨_, rfl⟩
        have hlo : lo ≤ 39 := by omega
        have hhi : hi' ≤ 39 := by omega
        have hg : 0 ≤ g ∧ g < 4 := by omega
        by_cases hsw : hi' < lo
        · have hds : decide ((hi' : Int) < (lo : Int)) = true := by simp; omega
          go_wp2_with (first | (go_at_call 29; go_must (refine (at_any _ _ _ h0 h1 (by omega) (by omega)).mono ?_; rintro e w9 ⟨rfl, he⟩; rw [he]; clear he w9)) | (go_at_call 20; go_must (refine (give_packed (atB base) o hi' lo g hA0 hA1 HO.out (by omega) (by omega) hg a5 n5 c5 _ HM.out).mono ?_; rintro e w2 ⟨a6, n6, c6, rfl, ho2, hb2⟩)))
          obtain ⟨bs, hbs⟩ : ∃ n, n = wr.heap.size := ⟨_, rfl⟩
          have hW2 := blk_later hb2 HW.out
          have hn2 : Below w.heap.size w w2 := hnx.trans (hb2.mono hnx.size)
          rw [← hbs] at ho2 hb2 hsz
          have HK : Hid (k < gn ∧ k < 300) := ⟨hlt, hlt3⟩
          clear hnx HW HM hbs hc0 hc1 hc2 hd1 hd2 hi1 hi2 elo ehi eg hlt hlt3
          go_loopw [13] (fun i wr2 => ∃ q : Nat, hi' ≤ q ∧ q ≤ lo + 1 ∧ i = .int .u64 q ∧ Hid (OwnP bs wr2 (.slice a6 n6 c6) (pack (atB base) fun j => if hi' ≤ j ∧ j ≤ lo then g else o j)) ∧ Hid (wr2.heap[w.heap.size + 1]? = some (.cells (mkO fun j => if hi' ≤ j ∧ j < q then g else o j).toArray 5)) ∧ Below w.heap.size w wr2) (fun i _ => lo + 1 - (intOf i).toNat)
          case atStart => exact ⟨hi', Nat.le_refl _, by omega, rfl, ho2, (by show w2.heap[w.heap.size + 1]? = _; rw [hW2, ups_start]), hn2⟩
          case round =>
            obtain ⟨q, hq1, hq2, rfl, HP, HW, hny⟩ := hrel
            by_cases hle : q ≤ lo
            · have hdq : decide ((q : Int) ≤ (lo : Int)) = true := by simp; omega
              have hq0 : (0 : Int) ≤ (q : Int) := by omega
              have hq4 : (q : Int) < 40 := by omega
              have hWo := HW.out
              go_wp2_with (first | (with_reducible show wpList _ _ _ ({ dst := none, op := Op.store 5 _ _, type := _, pos := _, after := _, guard := none } :: _) _ _; go_must (refine wpList_store_cell rfl _ _ _ rfl rfl (w.heap.size + 1) q rfl (.int .u8 g) rfl sz_u8 rfl _ _ hWo (by rw [mkO_len]; simp [Nat.ble_eq]; omega) _ (mkO_set (by omega)) ?_; intro w3 hW3 hO3)))
              go_roundw
              case rel => exact ⟨q + 1, by omega, by omega, by go_num, own_keep1 HP.out hO3 (by omega), (by show w3.heap[w.heap.size + 1]? = _; rw [hW3, ups hq1]), hny.trans (hO3.below (by omega))⟩
              case measure => simp [intOf]; omega
            · have hdq : decide ((q : Int) ≤ (lo : Int)) = false := by simp; omega
              obtain rfl : q = lo + 1 := by omega
              go_wp2
              go_roundw
              case rel =>
                obtain ⟨a7, n7, c7, e7, hm7, _⟩ := HP.out.slin
                cases e7
                refine ⟨k + 1, fun j => if hi' ≤ j ∧ j ≤ lo then g else o j, a6, n6, c6, by have := HK.out; omega, by have := HK.out; omega, by go_num, rfl, hm7, ?_, ?_, hny⟩
                · intro j
                  dsimp only
                  split
                  · exact hg
                  · exact HO.out j
                · have := HW.out; rw [ups_end] at this; exact this
              case measure => have := HK.out; simp [intOf]; omega
        · have hds : decide ((hi' : Int) < (lo : Int)) = false := by simp; omega
          go_wp2_with (first | (go_at_call 29; go_must (refine (at_any _ _ _ h0 h1 (by omega) (by omega)).mono ?_; rintro e w9 ⟨rfl, he⟩; rw [he]; clear he w9)) | (go_at_call 20; go_must (refine (give_packed (atB base) o lo hi' g hA0 hA1 HO.out (by omega) (by omega) hg a5 n5 c5 _ HM.out).mono ?_; rintro e w2 ⟨a6, n6, c6, rfl, ho2, hb2⟩)))
          obtain ⟨bs, hbs⟩ : ∃ n, n = wr.heap.size := ⟨_, rfl⟩
          have hW2 := blk_later hb2 HW.out
          have hn2 : Below w.heap.size w w2 := hnx.trans (hb2.mono hnx.size)
          rw [← hbs] at ho2 hb2 hsz
          have HK : Hid (k < gn ∧ k < 300) := ⟨hlt, hlt3⟩
          clear hnx HW HM hbs hc0 hc1 hc2 hd1 hd2 hi1 hi2 elo ehi eg hlt hlt3
          go_loopw [13] (fun i wr2 => ∃ q : Nat, lo ≤ q ∧ q ≤ hi' + 1 ∧ i = .int .u64 q ∧ Hid (OwnP bs wr2 (.slice a6 n6 c6) (pack (atB base) fun j => if lo ≤ j ∧ j ≤ hi' then g else o j)) ∧ Hid (wr2.heap[w.heap.size + 1]? = some (.cells (mkO fun j => if lo ≤ j ∧ j < q then g else o j).toArray 5)) ∧ Below w.heap.size w wr2) (fun i _ => hi' + 1 - (intOf i).toNat)
          case atStart => exact ⟨lo, Nat.le_refl _, by omega, rfl, ho2, (by show w2.heap[w.heap.size + 1]? = _; rw [hW2, ups_start]), hn2⟩
          case round =>
            obtain ⟨q, hq1, hq2, rfl, HP, HW, hny⟩ := hrel
            by_cases hle : q ≤ hi'
            · have hdq : decide ((q : Int) ≤ (hi' : Int)) = true := by simp; omega
              have hq0 : (0 : Int) ≤ (q : Int) := by omega
              have hq4 : (q : Int) < 40 := by omega
              have hWo := HW.out
              go_wp2_with (first | (with_reducible show wpList _ _ _ ({ dst := none, op := Op.store 5 _ _, type := _, pos := _, after := _, guard := none } :: _) _ _; go_must (refine wpList_store_cell rfl _ _ _ rfl rfl (w.heap.size + 1) q rfl (.int .u8 g) rfl sz_u8 rfl _ _ hWo (by rw [mkO_len]; simp [Nat.ble_eq]; omega) _ (mkO_set (by omega)) ?_; intro w3 hW3 hO3)))
              go_roundw
              case rel => exact ⟨q + 1, by omega, by omega, by go_num, own_keep1 HP.out hO3 (by omega), (by show w3.heap[w.heap.size + 1]? = _; rw [hW3, ups hq1]), hny.trans (hO3.below (by omega))⟩
              case measure => simp [intOf]; omega
            · have hdq : decide ((q : Int) ≤ (hi' : Int)) = false := by simp; omega
              obtain rfl : q = hi' + 1 := by omega
              go_wp2
              go_roundw
              case rel =>
                obtain ⟨a7, n7, c7, e7, hm7, _⟩ := HP.out.slin
                cases e7
                refine ⟨k + 1, fun j => if lo ≤ j ∧ j ≤ hi' then g else o j, a6, n6, c6, by have := HK.out; omega, by have := HK.out; omega, by go_num, rfl, hm7, ?_, ?_, hny⟩
                · intro j
                  dsimp only
                  split
                  · exact hg
                  · exact HO.out j
                · have := HW.out; rw [ups_end] at this; exact this
              case measure => have := HK.out; simp [intOf]; omega
      · have hd2 : decide ((k : Int) < 300) = false := by simp; omega
        have hWo := HW.out
        have hco : wr.cell? ⟨w.heap.size + 1, 0, none⟩ = some (.int .u8 (o 0)) := (blk_cell hWo 0).trans (mkO_at (by omega))
        by_cases hA : atB base = 0
        · have hdA : (atB base == 0) = true := by simp [hA]
          go_wp2_with (go_at_call 29; go_must (refine (at_any _ _ _ h0 h1 (by omega) (by omega)).mono ?_; rintro e w9 ⟨rfl, he⟩; rw [he, Int.add_zero]; clear he w9))
          have hp0 : Hid (1 = (packN (atB base) o 0).length) := by show _ = _; rw [packN_count0, if_pos hA]
          have hl0 : Hid (o 0 = o 0) := by show _ = _; rfl
          clear hA hdA hco hWo
          go_loopw [14, 15, 16] (fun vp vl i wr3 => ∃ (q p : Nat) (l : Int), q ≤ 40 ∧ p ≤ 41 ∧ i = .int .u64 q ∧ vp = .int .i64 p ∧ vl = .int .u8 l ∧ Hid (p = (packN (atB base) o (q - 1)).length) ∧ Hid (l = o (q - 1)) ∧ Hid (MapIn wr3 a5 n5 c5 (pack (atB base) o)) ∧ Hid (wr3.heap[w.heap.size + 1]? = some (.cells (mkO o).toArray 5)) ∧ Below w.heap.size w wr3) (fun _ _ i _ => 40 - (intOf i).toNat)
          case atStart => exact ⟨0, 1, o 0, by omega, by omega, rfl, rfl, rfl, hp0, hl0, HM, HW, hnx⟩
          case round =>
            clear hp0 hl0 hnx HW HM hsz
            obtain ⟨q, p, l, hq, hp41, rfl, rfl, rfl, HP, HQ, HM, HW, hnx⟩ := hrel
            by_cases hq4 : q < 40
            · have hdq : decide ((q : Int) < 40) = true := by simp; omega
              have hq0 : (0 : Int) ≤ (q : Int) := by omega
              have hqi : (q : Int) < 40 := by omega
              by_cases hl : o q = l
              · have hdl : (o q != l) = false := by simp [hl]
                go_wp2_with (first | (go_at_call 29; go_must (refine (at_any _ _ _ h0 h1 (by omega) (by omega)).mono ?_; rintro e w9 ⟨rfl, he⟩; rw [he]; clear he w9)) | (go_at_call 18; go_must (refine (find_packed (atB base) o q hA0 hA1 HO.out (by omega) a5 n5 c5 _ HM.out).mono ?_; rintro e w2 ⟨rfl, hb2⟩; have hcq : w2.cell? ⟨w.heap.size + 1, q, none⟩ = some (.int .u8 (o q)) := (blk_cell (blk_later hb2 HW.out) q).trans (mkO_at hq4))))
                go_roundw
                case rel =>
                  refine ⟨q + 1, p, l, by omega, hp41, by go_num, rfl, rfl, ?_, (by show l = o (q + 1 - 1); rw [Nat.add_sub_cancel]; exact hl.symm), HM.out.later hb2, blk_later hb2 HW.out, hnx.trans (hb2.mono hnx.size)⟩
                  show p = (packN (atB base) o (q + 1 - 1)).length
                  rw [Nat.add_sub_cancel, HP.out]
                  cases q with
                  | zero => rfl
                  | succ q =>
                    rw [Nat.add_sub_cancel, packN_count hA0 hA1 HO.out (by omega), if_pos]
                    have := HQ.out; rw [Nat.add_sub_cancel] at this; rw [hl, this]
                case measure => simp [intOf]; omega
              · have hdl : (o q != l) = true := by simp [hl]
                have hq1 : 0 < q := by
                  rcases Nat.eq_zero_or_pos q with h9 | h9
                  · subst h9; exact (hl HQ.out.symm).elim
                  · exact h9
                have HP' : Hid (p + 1 = (packN (atB base) o q).length) := by
                  show _ = _
                  obtain ⟨q', rfl⟩ : ∃ n, q = n + 1 := ⟨q - 1, by omega⟩
                  have h8 := HQ.out
                  rw [Nat.add_sub_cancel] at h8
                  rw [packN_count hA0 hA1 HO.out (by omega), if_neg (by rw [← h8]; exact fun e => hl e.symm), HP.out, Nat.add_sub_cancel]
                have hp40 : p + 1 ≤ 41 := by have := packN_len (a := atB base) (o := o) q; have := HP'.out; omega
                go_wp2_with (first | (go_at_call 29; go_must (refine (at_any _ _ _ h0 h1 (by omega) (by omega)).mono ?_; rintro e w9 ⟨rfl, he⟩; rw [he]; clear he w9)) | (go_at_call 18; go_must (refine (find_packed (atB base) o q hA0 hA1 HO.out (by omega) a5 n5 c5 _ HM.out).mono ?_; rintro e w2 ⟨rfl, hb2⟩; have hcq : w2.cell? ⟨w.heap.size + 1, q, none⟩ = some (.int .u8 (o q)) := (blk_cell (blk_later hb2 HW.out) q).trans (mkO_at hq4))))
                go_roundw
                case rel => exact ⟨q + 1, p + 1, o q, by omega, hp40, by go_num, by go_num, rfl, HP', rfl, HM.out.later hb2, blk_later hb2 HW.out, hnx.trans (hb2.mono hnx.size)⟩
                case measure => simp [intOf]; omega
            · have hdq : decide ((q : Int) < 40) = false := by simp; omega
              obtain rfl : q = 40 := by omega
              have hn5 : n5 = (pack (atB base) o).length := by simpa using HM.out.len
              have hpc := pack_count hA0 hA1 HO.out
              have hpp : p = (packN (atB base) o 39).length := HP.out
              have hll : l = o 39 := HQ.out
              rw [← hpp, ← hn5, ← hll] at hpc
              have HPC : Hid (n5 = if atB base + 39 < 18446744073709551615 ∧ l ≠ 0 then p + 1 else p) := hpc
              clear hn5 hpc hpp hll HP HQ
              by_cases he : atB base + 39 < 18446744073709551615
              · have hde : decide (atB base + 39 < 18446744073709551615) = true := by simp [he]
                have hw1 : atB base + 39 + 1 < 18446744073709551616 := by omega
                by_cases hl : l = 0
                · have hdl : (l != 0) = false := by simp [hl]
                  go_wp2_with (first | (go_at_call 29; go_must (refine (at_any _ _ _ h0 h1 (by omega) (by omega)).mono ?_; rintro e w9 ⟨rfl, he'⟩; rw [he']; clear he' w9)) | (go_at_call 18; go_must (refine (find_packed_end (atB base) o hA0 he HO.out a5 n5 c5 _ HM.out).mono ?_; rintro e w2 ⟨rfl, hb2⟩)))
                  go_ret
                  refine ⟨ret_bool ?_, hnx.trans (hb2.mono hnx.size)⟩
                  have := HPC.out
                  rw [if_neg (by simp [hl])] at this
                  simp [this]
                · have hdl : (l != 0) = true := by simp [hl]
                  go_wp2_with (first | (go_at_call 29; go_must (refine (at_any _ _ _ h0 h1 (by omega) (by omega)).mono ?_; rintro e w9 ⟨rfl, he'⟩; rw [he']; clear he' w9)) | (go_at_call 18; go_must (refine (find_packed_end (atB base) o hA0 he HO.out a5 n5 c5 _ HM.out).mono ?_; rintro e w2 ⟨rfl, hb2⟩)))
                  go_ret
                  refine ⟨ret_bool ?_, hnx.trans (hb2.mono hnx.size)⟩
                  have := HPC.out
                  rw [if_pos ⟨he, hl⟩] at this
                  simp [this]
              · have hde : decide (atB base + 39 < 18446744073709551615) = false := by simp; omega
                go_wp2_with (first | (go_at_call 29; go_must (refine (at_any _ _ _ h0 h1 (by omega) (by omega)).mono ?_; rintro e w9 ⟨rfl, he'⟩; rw [he']; clear he' w9)))
                go_ret
                refine ⟨ret_bool ?_, hnx⟩
                have := HPC.out
                rw [if_neg (by omega)] at this
                simp [this]
        · have hdA : (atB base == 0) = false := by simp [hA]
          by_cases hz : o 0 = 0
          · have hdz : (o 0 != 0) = false := by simp [hz]
            go_wp2_with (go_at_call 29; go_must (refine (at_any _ _ _ h0 h1 (by omega) (by omega)).mono ?_; rintro e w9 ⟨rfl, he⟩; rw [he, Int.add_zero]; clear he w9))
            have hp0 : Hid (1 = (packN (atB base) o 0).length) := by show _ = _; rw [packN_count0, if_neg hA, if_pos hz]
            have hl0 : Hid (0 = o 0) := by show _ = _; exact hz.symm
            clear hA hdA hz hdz hco hWo
            go_loopw [14, 15, 16] (fun vp vl i wr3 => ∃ (q p : Nat) (l : Int), q ≤ 40 ∧ p ≤ 41 ∧ i = .int .u64 q ∧ vp = .int .i64 p ∧ vl = .int .u8 l ∧ Hid (p = (packN (atB base) o (q - 1)).length) ∧ Hid (l = o (q - 1)) ∧ Hid (MapIn wr3 a5 n5 c5 (pack (atB base) o)) ∧ Hid (wr3.heap[w.heap.size + 1]? = some (.cells (mkO o).toArray 5)) ∧ Below w.heap.size w wr3) (fun _ _ i _ => 40 - (intOf i).toNat)
            case atStart => exact ⟨0, 1, 0, by omega, by omega, rfl, rfl, rfl, hp0, hl0, HM, HW, hnx⟩
            case round =>
              clear hp0 hl0 hnx HW HM hsz
              obtain ⟨q, p, l, hq, hp41, rfl, rfl, rfl, HP, HQ, HM, HW, hnx⟩ := hrel
              by_cases hq4 : q < 40
              · have hdq : decide ((q : Int) < 40) = true := by simp; omega
                have hq0 : (0 : Int) ≤ (q : Int) := by omega
                have hqi : (q : Int) < 40 := by omega
                by_cases hl : o q = l
                · have hdl : (o q != l) = false := by simp [hl]
                  go_wp2_with (first | (go_at_call 29; go_must (refine (at_any _ _ _ h0 h1 (by omega) (by omega)).mono ?_; rintro e w9 ⟨rfl, he⟩; rw [he]; clear he w9)) | (go_at_call 18; go_must (refine (find_packed (atB base) o q hA0 hA1 HO.out (by omega) a5 n5 c5 _ HM.out).mono ?_; rintro e w2 ⟨rfl, hb2⟩; have hcq : w2.cell? ⟨w.heap.size + 1, q, none⟩ = some (.int .u8 (o q)) := (blk_cell (blk_later hb2 HW.out) q).trans (mkO_at hq4))))
                  go_roundw
                  case rel =>
                    refine ⟨q + 1, p, l, by omega, hp41, by go_num, rfl, rfl, ?_, (by show l = o (q + 1 - 1); rw [Nat.add_sub_cancel]; exact hl.symm), HM.out.later hb2, blk_later hb2 HW.out, hnx.trans (hb2.mono hnx.size)⟩
                    show p = (packN (atB base) o (q + 1 - 1)).length
                    rw [Nat.add_sub_cancel, HP.out]
                    cases q with
                    | zero => rfl
                    | succ q =>
                      rw [Nat.add_sub_cancel, packN_count hA0 hA1 HO.out (by omega), if_pos]
                      have := HQ.out; rw [Nat.add_sub_cancel] at this; rw [hl, this]
                  case measure => simp [intOf]; omega
                · have hdl : (o q != l) = true := by simp [hl]
                  have hq1 : 0 < q := by
                    rcases Nat.eq_zero_or_pos q with h9 | h9
                    · subst h9; exact (hl HQ.out.symm).elim
                    · exact h9
                  have HP' : Hid (p + 1 = (packN (atB base) o q).length) := by
                    show _ = _
                    obtain ⟨q', rfl⟩ : ∃ n, q = n + 1 := ⟨q - 1, by omega⟩
                    have h8 := HQ.out
                    rw [Nat.add_sub_cancel] at h8
                    rw [packN_count hA0 hA1 HO.out (by omega), if_neg (by rw [← h8]; exact fun e => hl e.symm), HP.out, Nat.add_sub_cancel]
                  have hp40 : p + 1 ≤ 41 := by have := packN_len (a := atB base) (o := o) q; have := HP'.out; omega
                  go_wp2_with (first | (go_at_call 29; go_must (refine (at_any _ _ _ h0 h1 (by omega) (by omega)).mono ?_; rintro e w9 ⟨rfl, he⟩; rw [he]; clear he w9)) | (go_at_call 18; go_must (refine (find_packed (atB base) o q hA0 hA1 HO.out (by omega) a5 n5 c5 _ HM.out).mono ?_; rintro e w2 ⟨rfl, hb2⟩; have hcq : w2.cell? ⟨w.heap.size + 1, q, none⟩ = some (.int .u8 (o q)) := (blk_cell (blk_later hb2 HW.out) q).trans (mkO_at hq4))))
                  go_roundw
                  case rel => exact ⟨q + 1, p + 1, o q, by omega, hp40, by go_num, by go_num, rfl, HP', rfl, HM.out.later hb2, blk_later hb2 HW.out, hnx.trans (hb2.mono hnx.size)⟩
                  case measure => simp [intOf]; omega
              · have hdq : decide ((q : Int) < 40) = false := by simp; omega
                obtain rfl : q = 40 := by omega
                have hn5 : n5 = (pack (atB base) o).length := by simpa using HM.out.len
                have hpc := pack_count hA0 hA1 HO.out
                have hpp : p = (packN (atB base) o 39).length := HP.out
                have hll : l = o 39 := HQ.out
                rw [← hpp, ← hn5, ← hll] at hpc
                have HPC : Hid (n5 = if atB base + 39 < 18446744073709551615 ∧ l ≠ 0 then p + 1 else p) := hpc
                clear hn5 hpc hpp hll HP HQ
                by_cases he : atB base + 39 < 18446744073709551615
                · have hde : decide (atB base + 39 < 18446744073709551615) = true := by simp [he]
                  have hw1 : atB base + 39 + 1 < 18446744073709551616 := by omega
                  by_cases hl : l = 0
                  · have hdl : (l != 0) = false := by simp [hl]
                    go_wp2_with (first | (go_at_call 29; go_must (refine (at_any _ _ _ h0 h1 (by omega) (by omega)).mono ?_; rintro e w9 ⟨rfl, he'⟩; rw [he']; clear he' w9)) | (go_at_call 18; go_must (refine (find_packed_end (atB base) o hA0 he HO.out a5 n5 c5 _ HM.out).mono ?_; rintro e w2 ⟨rfl, hb2⟩)))
                    go_ret
                    refine ⟨ret_bool ?_, hnx.trans (hb2.mono hnx.size)⟩
                    have := HPC.out
                    rw [if_neg (by simp [hl])] at this
                    simp [this]
                  · have hdl : (l != 0) = true := by simp [hl]
                    go_wp2_with (first | (go_at_call 29; go_must (refine (at_any _ _ _ h0 h1 (by omega) (by omega)).mono ?_; rintro e w9 ⟨rfl, he'⟩; rw [he']; clear he' w9)) | (go_at_call 18; go_must (refine (find_packed_end (atB base) o hA0 he HO.out a5 n5 c5 _ HM.out).mono ?_; rintro e w2 ⟨rfl, hb2⟩)))
                    go_ret
                    refine ⟨ret_bool ?_, hnx.trans (hb2.mono hnx.size)⟩
                    have := HPC.out
                    rw [if_pos ⟨he, hl⟩] at this
                    simp [this]
                · have hde : decide (atB base + 39 < 18446744073709551615) = false := by simp; omega
                  go_wp2_with (first | (go_at_call 29; go_must (refine (at_any _ _ _ h0 h1 (by omega) (by omega)).mono ?_; rintro e w9 ⟨rfl, he'⟩; rw [he']; clear he' w9)))
                  go_ret
                  refine ⟨ret_bool ?_, hnx⟩
                  have := HPC.out
                  rw [if_neg (by omega)] at this
                  simp [this]
          · have hdz : (o 0 != 0) = true := by simp [hz]
            go_wp2_with (go_at_call 29; go_must (refine (at_any _ _ _ h0 h1 (by omega) (by omega)).mono ?_; rintro e w9 ⟨rfl, he⟩; rw [he, Int.add_zero]; clear he w9))
            have hp0 : Hid (2 = (packN (atB base) o 0).length) := by show _ = _; rw [packN_count0, if_neg hA, if_neg hz]
            have hl0 : Hid (o 0 = o 0) := by show _ = _; rfl
            clear hA hdA hz hdz hco hWo
            go_loopw [14, 15, 16] (fun vp vl i wr3 => ∃ (q p : Nat) (l : Int), q ≤ 40 ∧ p ≤ 41 ∧ i = .int .u64 q ∧ vp = .int .i64 p ∧ vl = .int .u8 l ∧ Hid (p = (packN (atB base) o (q - 1)).length) ∧ Hid (l = o (q - 1)) ∧ Hid (MapIn wr3 a5 n5 c5 (pack (atB base) o)) ∧ Hid (wr3.heap[w.heap.size + 1]? = some (.cells (mkO o).toArray 5)) ∧ Below w.heap.size w wr3) (fun _ _ i _ => 40 - (intOf i).toNat)
            case atStart => exact ⟨0, 2, o 0, by omega, by omega, rfl, rfl, rfl, hp0, hl0, HM, HW, hnx⟩
            case round =>
              clear hp0 hl0 hnx HW HM hsz
              obtain ⟨q, p, l, hq, hp41, rfl, rfl, rfl, HP, HQ, HM, HW, hnx⟩ := hrel
              by_cases hq4 : q < 40
              · have hdq : decide ((q : Int) < 40) = true := by simp; omega
                have hq0 : (0 : Int) ≤ (q : Int) := by omega
                have hqi : (q : Int) < 40 := by omega
                by_cases hl : o q = l
                · have hdl : (o q != l) = false := by simp [hl]
                  go_wp2_with (first | (go_at_call 29; go_must (refine (at_any _ _ _ h0 h1 (by omega) (by omega)).mono ?_; rintro e w9 ⟨rfl, he⟩; rw [he]; clear he w9)) | (go_at_call 18; go_must (refine (find_packed (atB base) o q hA0 hA1 HO.out (by omega) a5 n5 c5 _ HM.out).mono ?_; rintro e w2 ⟨rfl, hb2⟩; have hcq : w2.cell? ⟨w.heap.size + 1, q, none⟩ = some (.int .u8 (o q)) := (blk_cell (blk_later hb2 HW.out) q).trans (mkO_at hq4))))
                  go_roundw
                  case rel =>
                    refine ⟨q + 1, p, l, by omega, hp41, by go_num, rfl, rfl, ?_, (by show l = o (q + 1 - 1); rw [Nat.add_sub_cancel]; exact hl.symm), HM.out.later hb2, blk_later hb2 HW.out, hnx.trans (hb2.mono hnx.size)⟩
                    show p = (packN (atB base) o (q + 1 - 1)).length
                    rw [Nat.add_sub_cancel, HP.out]
                    cases q with
                    | zero => rfl
                    | succ q =>
                      rw [Nat.add_sub_cancel, packN_count hA0 hA1 HO.out (by omega), if_pos]
                      have := HQ.out; rw [Nat.add_sub_cancel] at this; rw [hl, this]
                  case measure => simp [intOf]; omega
                · have hdl : (o q != l) = true := by simp [hl]
                  have hq1 : 0 < q := by
                    rcases Nat.eq_zero_or_pos q with h9 | h9
                    · subst h9; exact (hl HQ.out.symm).elim
                    · exact h9
                  have HP' : Hid (p + 1 = (packN (atB base) o q).length) := by
                    show _ = _
                    obtain ⟨q', rfl⟩ : ∃ n, q = n + 1 := ⟨q - 1, by omega⟩
                    have h8 := HQ.out
                    rw [Nat.add_sub_cancel] at h8
                    rw [packN_count hA0 hA1 HO.out (by omega), if_neg (by rw [← h8]; exact fun e => hl e.symm), HP.out, Nat.add_sub_cancel]
                  have hp40 : p + 1 ≤ 41 := by have := packN_len (a := atB base) (o := o) q; have := HP'.out; omega
                  go_wp2_with (first | (go_at_call 29; go_must (refine (at_any _ _ _ h0 h1 (by omega) (by omega)).mono ?_; rintro e w9 ⟨rfl, he⟩; rw [he]; clear he w9)) | (go_at_call 18; go_must (refine (find_packed (atB base) o q hA0 hA1 HO.out (by omega) a5 n5 c5 _ HM.out).mono ?_; rintro e w2 ⟨rfl, hb2⟩; have hcq : w2.cell? ⟨w.heap.size + 1, q, none⟩ = some (.int .u8 (o q)) := (blk_cell (blk_later hb2 HW.out) q).trans (mkO_at hq4))))
                  go_roundw
                  case rel => exact ⟨q + 1, p + 1, o q, by omega, hp40, by go_num, by go_num, rfl, HP', rfl, HM.out.later hb2, blk_later hb2 HW.out, hnx.trans (hb2.mono hnx.size)⟩
                  case measure => simp [intOf]; omega
              · have hdq : decide ((q : Int) < 40) = false := by simp; omega
                obtain rfl : q = 40 := by omega
                have hn5 : n5 = (pack (atB base) o).length := by simpa using HM.out.len
                have hpc := pack_count hA0 hA1 HO.out
                have hpp : p = (packN (atB base) o 39).length := HP.out
                have hll : l = o 39 := HQ.out
                rw [← hpp, ← hn5, ← hll] at hpc
                have HPC : Hid (n5 = if atB base + 39 < 18446744073709551615 ∧ l ≠ 0 then p + 1 else p) := hpc
                clear hn5 hpc hpp hll HP HQ
                by_cases he : atB base + 39 < 18446744073709551615
                · have hde : decide (atB base + 39 < 18446744073709551615) = true := by simp [he]
                  have hw1 : atB base + 39 + 1 < 18446744073709551616 := by omega
                  by_cases hl : l = 0
                  · have hdl : (l != 0) = false := by simp [hl]
                    go_wp2_with (first | (go_at_call 29; go_must (refine (at_any _ _ _ h0 h1 (by omega) (by omega)).mono ?_; rintro e w9 ⟨rfl, he'⟩; rw [he']; clear he' w9)) | (go_at_call 18; go_must (refine (find_packed_end (atB base) o hA0 he HO.out a5 n5 c5 _ HM.out).mono ?_; rintro e w2 ⟨rfl, hb2⟩)))
                    go_ret
                    refine ⟨ret_bool ?_, hnx.trans (hb2.mono hnx.size)⟩
                    have := HPC.out
                    rw [if_neg (by simp [hl])] at this
                    simp [this]
                  · have hdl : (l != 0) = true := by simp [hl]
                    go_wp2_with (first | (go_at_call 29; go_must (refine (at_any _ _ _ h0 h1 (by omega) (by omega)).mono ?_; rintro e w9 ⟨rfl, he'⟩; rw [he']; clear he' w9)) | (go_at_call 18; go_must (refine (find_packed_end (atB base) o hA0 he HO.out a5 n5 c5 _ HM.out).mono ?_; rintro e w2 ⟨rfl, hb2⟩)))
                    go_ret
                    refine ⟨ret_bool ?_, hnx.trans (hb2.mono hnx.size)⟩
                    have := HPC.out
                    rw [if_pos ⟨he, hl⟩] at this
                    simp [this]
                · have hde : decide (atB base + 39 < 18446744073709551615) = false := by simp; omega
                  go_wp2_with (first | (go_at_call 29; go_must (refine (at_any _ _ _ h0 h1 (by omega) (by omega)).mono ?_; rintro e w9 ⟨rfl, he'⟩; rw [he']; clear he' w9)))
                  go_ret
                  refine ⟨ret_bool ?_, hnx⟩
                  have := HPC.out
                  rw [if_neg (by omega)] at this
                  simp [this]
    · have hd1 : decide ((k : Int) < (gn : Int)) = false := by simp; omega
      have hWo := HW.out
      have hco : wr.cell? ⟨w.heap.size + 1, 0, none⟩ = some (.int .u8 (o 0)) := (blk_cell hWo 0).trans (mkO_at (by omega))
      by_cases hA : atB base = 0
      · have hdA : (atB base == 0) = true := by simp [hA]
        go_wp2_with (go_at_call 29; go_must (refine (at_any _ _ _ h0 h1 (by omega) (by omega)).mono ?_; rintro e w9 ⟨rfl, he⟩; rw [he, Int.add_zero]; clear he w9))
        have hp0 : Hid (1 = (packN (atB base) o 0).length) := by show _ = _; rw [packN_count0, if_pos hA]
        have hl0 : Hid (o 0 = o 0) := by show _ = _; rfl
        clear hA hdA hco hWo
        go_loopw [14, 15, 16] (fun vp vl i wr3 => ∃ (q p : Nat) (l : Int), q ≤ 40 ∧ p ≤ 41 ∧ i = .int .u64 q ∧ vp = .int .i64 p ∧ vl = .int .u8 l ∧ Hid (p = (packN (atB base) o (q - 1)).length) ∧ Hid (l = o (q - 1)) ∧ Hid (MapIn wr3 a5 n5 c5 (pack (atB base) o)) ∧ Hid (wr3.heap[w.heap.size + 1]? = some (.cells (mkO o).toArray 5)) ∧ Below w.heap.size w wr3) (fun _ _ i _ => 40 - (intOf i).toNat)
        case atStart => exact ⟨0, 1, o 0, by omega, by omega, rfl, rfl, rfl, hp0, hl0, HM, HW, hnx⟩
        case round =>
          clear hp0 hl0 hnx HW HM hsz
          obtain ⟨q, p, l, hq, hp41, rfl, rfl, rfl, HP, HQ, HM, HW, hnx⟩ := hrel
          by_cases hq4 : q < 40
          · have hdq : decide ((q : Int) < 40) = true := by simp; omega
            have hq0 : (0 : Int) ≤ (q : Int) := by omega
            have hqi : (q : Int) < 40 := by omega
            by_cases hl : o q = l
            · have hdl : (o q != l) = false := by simp [hl]
              go_wp2_with (first | (go_at_call 29; go_must (refine (at_any _ _ _ h0 h1 (by omega) (by omega)).mono ?_; rintro e w9 ⟨rfl, he⟩; rw [he]; clear he w9)) | (go_at_call 18; go_must (refine (find_packed (atB base) o q hA0 hA1 HO.out (by omega) a5 n5 c5 _ HM.out).mono ?_; rintro e w2 ⟨rfl, hb2⟩; have hcq : w2.cell? ⟨w.heap.size + 1, q, none⟩ = some (.int .u8 (o q)) := (blk_cell (blk_later hb2 HW.out) q).trans (mkO_at hq4))))
              go_roundw
              case rel =>
                refine ⟨q + 1, p, l, by omega, hp41, by go_num, rfl, rfl, ?_, (by show l = o (q + 1 - 1); rw [Nat.add_sub_cancel]; exact hl.symm), HM.out.later hb2, blk_later hb2 HW.out, hnx.trans (hb2.mono hnx.size)⟩
                show p = (packN (atB base) o (q + 1 - 1)).length
                rw [Nat.add_sub_cancel, HP.out]
                cases q with
                | zero => rfl
                | succ q =>
                  rw [Nat.add_sub_cancel, packN_count hA0 hA1 HO.out (by omega), if_pos]
                  have := HQ.out; rw [Nat.add_sub_cancel] at this; rw [hl, this]
              case measure => simp [intOf]; omega
            · have hdl : (o q != l) = true := by simp [hl]
              have hq1 : 0 < q := by
                rcases Nat.eq_zero_or_pos q with h9 | h9
                · subst h9; exact (hl HQ.out.symm).elim
                · exact h9
              have HP' : Hid (p + 1 = (packN (atB base) o q).length) := by
                show _ = _
                obtain ⟨q', rfl⟩ : ∃ n, q = n + 1 := ⟨q - 1, by omega⟩
                have h8 := HQ.out
                rw [Nat.add_sub_cancel] at h8
                rw [packN_count hA0 hA1 HO.out (by omega), if_neg (by rw [← h8]; exact fun e => hl e.symm), HP.out, Nat.add_sub_cancel]
              have hp40 : p + 1 ≤ 41 := by have := packN_len (a := atB base) (o := o) q; have := HP'.out; omega
              go_wp2_with (first | (go_at_call 29; go_must (refine (at_any _ _ _ h0 h1 (by omega) (by omega)).mono ?_; rintro e w9 ⟨rfl, he⟩; rw [he]; clear he w9)) | (go_at_call 18; go_must (refine (find_packed (atB base) o q hA0 hA1 HO.out (by omega) a5 n5 c5 _ HM.out).mono ?_; rintro e w2 ⟨rfl, hb2⟩; have hcq : w2.cell? ⟨w.heap.size + 1, q, none⟩ = some (.int .u8 (o q)) := (blk_cell (blk_later hb2 HW.out) q).trans (mkO_at hq4))))
              go_roundw
              case rel => exact ⟨q + 1, p + 1, o q, by omega, hp40, by go_num, by go_num, rfl, HP', rfl, HM.out.later hb2, blk_later hb2 HW.out, hnx.trans (hb2.mono hnx.size)⟩
              case measure => simp [intOf]; omega
          · have hdq : decide ((q : Int) < 40) = false := by simp; omega
            obtain rfl : q = 40 := by omega
            have hn5 : n5 = (pack (atB base) o).length := by simpa using HM.out.len
            have hpc := pack_count hA0 hA1 HO.out
            have hpp : p = (packN (atB base) o 39).length := HP.out
            have hll : l = o 39 := HQ.out
            rw [← hpp, ← hn5, ← hll] at hpc
            have HPC : Hid (n5 = if atB base + 39 < 18446744073709551615 ∧ l ≠ 0 then p + 1 else p) := hpc
            clear hn5 hpc hpp hll HP HQ
            by_cases he : atB base + 39 < 18446744073709551615
            · have hde : decide (atB base + 39 < 18446744073709551615) = true := by simp [he]
              have hw1 : atB base + 39 + 1 < 18446744073709551616 := by omega
              by_cases hl : l = 0
              · have hdl : (l != 0) = false := by simp [hl]
                go_wp2_with (first | (go_at_call 29; go_must (refine (at_any _ _ _ h0 h1 (by omega) (by omega)).mono ?_; rintro e w9 ⟨rfl, he'⟩; rw [he']; clear he' w9)) | (go_at_call 18; go_must (refine (find_packed_end (atB base) o hA0 he HO.out a5 n5 c5 _ HM.out).mono ?_; rintro e w2 ⟨rfl, hb2⟩)))
                go_ret
                refine ⟨ret_bool ?_, hnx.trans (hb2.mono hnx.size)⟩
                have := HPC.out
                rw [if_neg (by simp [hl])] at this
                simp [this]
              · have hdl : (l != 0) = true := by simp [hl]
                go_wp2_with (first | (go_at_call 29; go_must (refine (at_any _ _ _ h0 h1 (by omega) (by omega)).mono ?_; rintro e w9 ⟨rfl, he'⟩; rw [he']; clear he' w9)) | (go_at_call 18; go_must (refine (find_packed_end (atB base) o hA0 he HO.out a5 n5 c5 _ HM.out).mono ?_; rintro e w2 ⟨rfl, hb2⟩)))
                go_ret
                refine ⟨ret_bool ?_, hnx.trans (hb2.mono hnx.size)⟩
                have := HPC.out
                rw [if_pos ⟨he, hl⟩] at this
                simp [this]
            · have hde : decide (atB base + 39 < 18446744073709551615) = false := by simp; omega
              go_wp2_with (first | (go_at_call 29; go_must (refine (at_any _ _ _ h0 h1 (by omega) (by omega)).mono ?_; rintro e w9 ⟨rfl, he'⟩; rw [he']; clear he' w9)))
              go_ret
              refine ⟨ret_bool ?_, hnx⟩
              have := HPC.out
              rw [if_neg (by omega)] at this
              simp [this]
      · have hdA : (atB base == 0) = false := by simp [hA]
        by_cases hz : o 0 = 0
        · have hdz : (o 0 != 0) = false := by simp [hz]
          go_wp2_with (go_at_call 29; go_must (refine (at_any _ _ _ h0 h1 (by omega) (by omega)).mono ?_; rintro e w9 ⟨rfl, he⟩; rw [he, Int.add_zero]; clear he w9))
          have hp0 : Hid (1 = (packN (atB base) o 0).length) := by show _ = _; rw [packN_count0, if_neg hA, if_pos hz]
          have hl0 : Hid (0 = o 0) := by show _ = _; exact hz.symm
          clear hA hdA hz hdz hco hWo
          go_loopw [14, 15, 16] (fun vp vl i wr3 => ∃ (q p : Nat) (l : Int), q ≤ 40 ∧ p ≤ 41 ∧ i = .int .u64 q ∧ vp = .int .i64 p ∧ vl = .int .u8 l ∧ Hid (p = (packN (atB base) o (q - 1)).length) ∧ Hid (l = o (q - 1)) ∧ Hid (MapIn wr3 a5 n5 c5 (pack (atB base) o)) ∧ Hid (wr3.heap[w.heap.size + 1]? = some (.cells (mkO o).toArray 5)) ∧ Below w.heap.size w wr3) (fun _ _ i _ => 40 - (intOf i).toNat)
          case atStart => exact ⟨0, 1, 0, by omega, by omega, rfl, rfl, rfl, hp0, hl0, HM, HW, hnx⟩
          case round =>
            clear hp0 hl0 hnx HW HM hsz
            obtain ⟨q, p, l, hq, hp41, rfl, rfl, rfl, HP, HQ, HM, HW, hnx⟩ := hrel
            by_cases hq4 : q < 40
            · have hdq : decide ((q : Int) < 40) = true := by simp; omega
              have hq0 : (0 : Int) ≤ (q : Int) := by omega
              have hqi : (q : Int) < 40 := by omega
              by_cases hl : o q = l
              · have hdl : (o q != l) = false := by simp [hl]
                go_wp2_with (first | (go_at_call 29; go_must (refine (at_any _ _ _ h0 h1 (by omega) (by omega)).mono ?_; rintro e w9 ⟨rfl, he⟩; rw [he]; clear he w9)) | (go_at_call 18; go_must (refine (find_packed (atB base) o q hA0 hA1 HO.out (by omega) a5 n5 c5 _ HM.out).mono ?_; rintro e w2 ⟨rfl, hb2⟩; have hcq : w2.cell? ⟨w.heap.size + 1, q, none⟩ = some (.int .u8 (o q)) := (blk_cell (blk_later hb2 HW.out) q).trans (mkO_at hq4))))
                go_roundw
                case rel =>
                  refine ⟨q + 1, p, l, by omega, hp41, by go_num, rfl, rfl, ?_, (by show l = o (q + 1 - 1); rw [Nat.add_sub_cancel]; exact hl.symm), HM.out.later hb2, blk_later hb2 HW.out, hnx.trans (hb2.mono hnx.size)⟩
                  show p = (packN (atB base) o (q + 1 - 1)).length
                  rw [Nat.add_sub_cancel, HP.out]
                  cases q with
                  | zero => rfl
                  | succ q =>
                    rw [Nat.add_sub_cancel, packN_count hA0 hA1 HO.out (by omega), if_pos]
                    have := HQ.out; rw [Nat.add_sub_cancel] at this; rw [hl, this]
                case measure => simp [intOf]; omega
              · have hdl : (o q != l) = true := by simp [hl]
                have hq1 : 0 < q := by
                  rcases Nat.eq_zero_or_pos q with h9 | h9
                  · subst h9; exact (hl HQ.out.symm).elim
                  · exact h9
                have HP' : Hid (p + 1 = (packN (atB base) o q).length) := by
                  show _ = _
                  obtain ⟨q', rfl⟩ : ∃ n, q = n + 1 := ⟨q - 1, by omega⟩
                  have h8 := HQ.out
                  rw [Nat.add_sub_cancel] at h8
                  rw [packN_count hA0 hA1 HO.out (by omega), if_neg (by rw [← h8]; exact fun e => hl e.symm), HP.out, Nat.add_sub_cancel]
                have hp40 : p + 1 ≤ 41 := by have := packN_len (a := atB base) (o := o) q; have := HP'.out; omega
                go_wp2_with (first | (go_at_call 29; go_must (refine (at_any _ _ _ h0 h1 (by omega) (by omega)).mono ?_; rintro e w9 ⟨rfl, he⟩; rw [he]; clear he w9)) | (go_at_call 18; go_must (refine (find_packed (atB base) o q hA0 hA1 HO.out (by omega) a5 n5 c5 _ HM.out).mono ?_; rintro e w2 ⟨rfl, hb2⟩; have hcq : w2.cell? ⟨w.heap.size + 1, q, none⟩ = some (.int .u8 (o q)) := (blk_cell (blk_later hb2 HW.out) q).trans (mkO_at hq4))))
                go_roundw
                case rel => exact ⟨q + 1, p + 1, o q, by omega, hp40, by go_num, by go_num, rfl, HP', rfl, HM.out.later hb2, blk_later hb2 HW.out, hnx.trans (hb2.mono hnx.size)⟩
                case measure => simp [intOf]; omega
            · have hdq : decide ((q : Int) < 40) = false := by simp; omega
              obtain rfl : q = 40 := by omega
              have hn5 : n5 = (pack (atB base) o).length := by simpa using HM.out.len
              have hpc := pack_count hA0 hA1 HO.out
              have hpp : p = (packN (atB base) o 39).length := HP.out
              have hll : l = o 39 := HQ.out
              rw [← hpp, ← hn5, ← hll] at hpc
              have HPC : Hid (n5 = if atB base + 39 < 18446744073709551615 ∧ l ≠ 0 then p + 1 else p) := hpc
              clear hn5 hpc hpp hll HP HQ
              by_cases he : atB base + 39 < 18446744073709551615
              · have hde : decide (atB base + 39 < 18446744073709551615) = true := by simp [he]
                have hw1 : atB base + 39 + 1 < 18446744073709551616 := by omega
                by_cases hl : l = 0
                · have hdl : (l != 0) = false := by simp [hl]
                  go_wp2_with (first | (go_at_call 29; go_must (refine (at_any _ _ _ h0 h1 (by omega) (by omega)).mono ?_; rintro e w9 ⟨rfl, he'⟩; rw [he']; clear he' w9)) | (go_at_call 18; go_must (refine (find_packed_end (atB base) o hA0 he HO.out a5 n5 c5 _ HM.out).mono ?_; rintro e w2 ⟨rfl, hb2⟩)))
                  go_ret
                  refine ⟨ret_bool ?_, hnx.trans (hb2.mono hnx.size)⟩
                  have := HPC.out
                  rw [if_neg (by simp [hl])] at this
                  simp [this]
                · have hdl : (l != 0) = true := by simp [hl]
                  go_wp2_with (first | (go_at_call 29; go_must (refine (at_any _ _ _ h0 h1 (by omega) (by omega)).mono ?_; rintro e w9 ⟨rfl, he'⟩; rw [he']; clear he' w9)) | (go_at_call 18; go_must (refine (find_packed_end (atB base) o hA0 he HO.out a5 n5 c5 _ HM.out).mono ?_; rintro e w2 ⟨rfl, hb2⟩)))
                  go_ret
                  refine ⟨ret_bool ?_, hnx.trans (hb2.mono hnx.size)⟩
                  have := HPC.out
                  rw [if_pos ⟨he, hl⟩] at this
                  simp [this]
              · have hde : decide (atB base + 39 < 18446744073709551615) = false := by simp; omega
                go_wp2_with (first | (go_at_call 29; go_must (refine (at_any _ _ _ h0 h1 (by omega) (by omega)).mono ?_; rintro e w9 ⟨rfl, he'⟩; rw [he']; clear he' w9)))
                go_ret
                refine ⟨ret_bool ?_, hnx⟩
                have := HPC.out
                rw [if_neg (by omega)] at this
                simp [this]
        · have hdz : (o 0 != 0) = true := by simp [hz]
          go_wp2_with (go_at_call 29; go_must (refine (at_any _ _ _ h0 h1 (by omega) (by omega)).mono ?_; rintro e w9 ⟨rfl, he⟩; rw [he, Int.add_zero]; clear he w9))
          have hp0 : Hid (2 = (packN (atB base) o 0).length) := by show _ = _; rw [packN_count0, if_neg hA, if_neg hz]
          have hl0 : Hid (o 0 = o 0) := by show _ = _; rfl
          clear hA hdA hz hdz hco hWo
          go_loopw [14, 15, 16] (fun vp vl i wr3 => ∃ (q p : Nat) (l : Int), q ≤ 40 ∧ p ≤ 41 ∧ i = .int .u64 q ∧ vp = .int .i64 p ∧ vl = .int .u8 l ∧ Hid (p = (packN (atB base) o (q - 1)).length) ∧ Hid (l = o (q - 1)) ∧ Hid (MapIn wr3 a5 n5 c5 (pack (atB base) o)) ∧ Hid (wr3.heap[w.heap.size + 1]? = some (.cells (mkO o).toArray 5)) ∧ Below w.heap.size w wr3) (fun _ _ i _ => 40 - (intOf i).toNat)
          case atStart => exact ⟨0, 2, o 0, by omega, by omega, rfl, rfl, rfl, hp0, hl0, HM, HW, hnx⟩
          case round =>
            clear hp0 hl0 hnx HW HM hsz
            obtain ⟨q, p, l, hq, hp41, rfl, rfl, rfl, HP, HQ, HM, HW, hnx⟩ := hrel
            by_cases hq4 : q < 40
            · have hdq : decide ((q : Int) < 40) = true := by simp; omega
              have hq0 : (0 : Int) ≤ (q : Int) := by omega
              have hqi : (q : Int) < 40 := by omega
              by_cases hl : o q = l
              · have hdl : (o q != l) = false := by simp [hl]
                go_wp2_with (first | (go_at_call 29; go_must (refine (at_any _ _ _ h0 h1 (by omega) (by omega)).mono ?_; rintro e w9 ⟨rfl, he⟩; rw [he]; clear he w9)) | (go_at_call 18; go_must (refine (find_packed (atB base) o q hA0 hA1 HO.out (by omega) a5 n5 c5 _ HM.out).mono ?_; rintro e w2 ⟨rfl, hb2⟩; have hcq : w2.cell? ⟨w.heap.size + 1, q, none⟩ = some (.int .u8 (o q)) := (blk_cell (blk_later hb2 HW.out) q).trans (mkO_at hq4))))
                go_roundw
                case rel =>
                  refine ⟨q + 1, p, l, by omega, hp41, by go_num, rfl, rfl, ?_, (by show l = o (q + 1 - 1); rw [Nat.add_sub_cancel]; exact hl.symm), HM.out.later hb2, blk_later hb2 HW.out, hnx.trans (hb2.mono hnx.size)⟩
                  show p = (packN (atB base) o (q + 1 - 1)).length
                  rw [Nat.add_sub_cancel, HP.out]
                  cases q with
                  | zero => rfl
                  | succ q =>
                    rw [Nat.add_sub_cancel, packN_count hA0 hA1 HO.out (by omega), if_pos]
                    have := HQ.out; rw [Nat.add_sub_cancel] at this; rw [hl, this]
                case measure => simp [intOf]; omega
              · have hdl : (o q != l) = true := by simp [hl]
                have hq1 : 0 < q := by
                  rcases Nat.eq_zero_or_pos q with h9 | h9
                  · subst h9; exact (hl HQ.out.symm).elim
                  · exact h9
                have HP' : Hid (p + 1 = (packN (atB base) o q).length) := by
                  show _ = _
                  obtain ⟨q', rfl⟩ : ∃ n, q = n + 1 := ⟨q - 1, by omega⟩
                  have h8 := HQ.out
                  rw [Nat.add_sub_cancel] at h8
                  rw [packN_count hA0 hA1 HO.out (by omega), if_neg (by rw [← h8]; exact fun e => hl e.symm), HP.out, Nat.add_sub_cancel]
                have hp40 : p + 1 ≤ 41 := by have := packN_len (a := atB base) (o := o) q; have := HP'.out; omega
                go_wp2_with (first | (go_at_call 29; go_must (refine (at_any _ _ _ h0 h1 (by omega) (by omega)).mono ?_; rintro e w9 ⟨rfl, he⟩; rw [he]; clear he w9)) | (go_at_call 18; go_must (refine (find_packed (atB base) o q hA0 hA1 HO.out (by omega) a5 n5 c5 _ HM.out).mono ?_; rintro e w2 ⟨rfl, hb2⟩; have hcq : w2.cell? ⟨w.heap.size + 1, q, none⟩ = some (.int .u8 (o q)) := (blk_cell (blk_later hb2 HW.out) q).trans (mkO_at hq4))))
                go_roundw
                case rel => exact ⟨q + 1, p + 1, o q, by omega, hp40, by go_num, by go_num, rfl, HP', rfl, HM.out.later hb2, blk_later hb2 HW.out, hnx.trans (hb2.mono hnx.size)⟩
                case measure => simp [intOf]; omega
            · have hdq : decide ((q : Int) < 40) = false := by simp; omega
              obtain rfl : q = 40 := by omega
              have hn5 : n5 = (pack (atB base) o).length := by simpa using HM.out.len
              have hpc := pack_count hA0 hA1 HO.out
              have hpp : p = (packN (atB base) o 39).length := HP.out
              have hll : l = o 39 := HQ.out
              rw [← hpp, ← hn5, ← hll] at hpc
              have HPC : Hid (n5 = if atB base + 39 < 18446744073709551615 ∧ l ≠ 0 then p + 1 else p) := hpc
              clear hn5 hpc hpp hll HP HQ
              by_cases he : atB base + 39 < 18446744073709551615
              · have hde : decide (atB base + 39 < 18446744073709551615) = true := by simp [he]
                have hw1 : atB base + 39 + 1 < 18446744073709551616 := by omega
                by_cases hl : l = 0
                · have hdl : (l != 0) = false := by simp [hl]
                  go_wp2_with (first | (go_at_call 29; go_must (refine (at_any _ _ _ h0 h1 (by omega) (by omega)).mono ?_; rintro e w9 ⟨rfl, he'⟩; rw [he']; clear he' w9)) | (go_at_call 18; go_must (refine (find_packed_end (atB base) o hA0 he HO.out a5 n5 c5 _ HM.out).mono ?_; rintro e w2 ⟨rfl, hb2⟩)))
                  go_ret
                  refine ⟨ret_bool ?_, hnx.trans (hb2.mono hnx.size)⟩
                  have := HPC.out
                  rw [if_neg (by simp [hl])] at this
                  simp [this]
                · have hdl : (l != 0) = true := by simp [hl]
                  go_wp2_with (first | (go_at_call 29; go_must (refine (at_any _ _ _ h0 h1 (by omega) (by omega)).mono ?_; rintro e w9 ⟨rfl, he'⟩; rw [he']; clear he' w9)) | (go_at_call 18; go_must (refine (find_packed_end (atB base) o hA0 he HO.out a5 n5 c5 _ HM.out).mono ?_; rintro e w2 ⟨rfl, hb2⟩)))
                  go_ret
                  refine ⟨ret_bool ?_, hnx.trans (hb2.mono hnx.size)⟩
                  have := HPC.out
                  rw [if_pos ⟨he, hl⟩] at this
                  simp [this]
              · have hde : decide (atB base + 39 < 18446744073709551615) = false := by simp; omega
                go_wp2_with (first | (go_at_call 29; go_must (refine (at_any _ _ _ h0 h1 (by omega) (by omega)).mono ?_; rintro e w9 ⟨rfl, he'⟩; rw [he']; clear he' w9)))
                go_ret
                refine ⟨ret_bool ?_, hnx⟩
                have := HPC.out
                rw [if_neg (by omega)] at this
                simp [this]

end Go.Proofs.Ytignemioillaiaa
