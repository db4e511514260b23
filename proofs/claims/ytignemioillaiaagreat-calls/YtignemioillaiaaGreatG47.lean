/- A shard at work (11): settle. -/
import Derived.Test.YtignemioillaiaaGreatG46
namespace Go.Proofs.YtignemioillaiaaGreat
set_option maxHeartbeats 8000000
set_option maxRecDepth 100000
section
open Go Go.Conc
section
variable {Λ : Lam} {w0 w : World} {b : Nat} {s : St}
theorem keep_map (sq : Int) (rs : List Ra) : (rs.filter (keepB sq)).map (·.1) = keepR sq (rs.map (·.1)) := by
  unfold keepR
  rw [List.filter_map]
  rfl
theorem settle_ok (h : Sk Λ w0 b s w) (hk : StOk s) (hz : ∀ o ∈ s.O, o.2.length ≤ 100000) {peer sq : Int} (h0 : 0 ≤ peer) : CY 46 #[.pointer (some ⟨b, 0, none⟩), .int .u8 peer, .int .u32 sq] w (fun v w' => v = .tuple #[] ∧ Sk Λ w0 b (setS s peer sq) w') := by
  obtain ⟨j, rfl⟩ := Int.eq_ofNat_of_zero_le h0
  have hol := hk.ol
  have hn4 := hk.n4
  refine callE Tryz.func46 rfl rfl ?_
  refine fun w1 b1 m1 g1 l1 => ?_
  obtain ⟨hb, hu⟩ := h.box g1 m1 l1
  obtain ⟨T, M, D, O, I, ls, h⟩ := hb
  unfold setS
  refine ⟨_, _, h.mem, _, rfl, spl (fun e => ?_) (fun e => ?_)⟩
  · have e1 := of_decide_eq_true e
    rw [if_neg (by omega)]
    exact ⟨rfl, _, _, _, _, _, _, h.drop hu⟩
  · have e1 := of_decide_eq_false e
    rw [if_pos (by omega), Int.toNat_natCast]
    obtain ⟨o, ho⟩ : ∃ o, s.O[j]? = some o := ⟨s.O[j]'(by omega), by simp [show j < s.O.length by omega]⟩
    obtain ⟨l, hl, hlo⟩ := h.lane ho
    have hll := h.ll
    obtain ⟨g, cap, cur, ev, hg, hcur, hcut, hsz⟩ := h.sa.o.at (f := laA) (fun _ => rfl) hl
    subst ev
    have hq := h.sa.q l (List.mem_of_getElem? hl)
    obtain ⟨qa, qc, eq⟩ := own_slice hq.q.own
    have hlan : lanAt s.O (j : Int) = o := by unfold lanAt; rw [Int.toNat_natCast, ho]; rfl
    have hz' := hz o (List.mem_of_getElem? ho)
    rw [hlan, ← hlo]
    have hrl : l.2.2.length ≤ 100000 := by rw [← hlo] at hz'; simpa using hz'
    obtain ⟨nx, qv, rs⟩ := l
    have eq : qv = .slice qa rs.length qc := eq
    subst eq
    dsimp only at hq hrl
    refine ⟨_, _, h.mem, _, rfl, ⟨by omega, by omega⟩, ?_⟩
    have hc1 : cur.toList[0 + (j : Int).toNat * 2 + 1]? = some (.slice qa rs.length qc) := cut_one hcut rfl (by decide)
    refine ⟨_, _, hcur, .slice qa rs.length qc, hc1, _, delf_ok h.at hq hrl, ?_⟩
    rintro q' w2 ⟨Q, g2, n2⟩
    obtain ⟨qa', qc', rfl⟩ := own_slice Q.q.own
    have hne : (Value.slice qa rs.length qc).ownBlock ≠ some g := fun z => ne_own hq.q h.sa.o (by decide) g z rfl
    have hcur2 : w2.heap[g]? = some (.cells cur 103) := g2.get hcur fun z => hne z.symm
    have gw2 : GB none w0 w2 := Q.q.gb
    have O2 := h.sa.o.off g2 (ne_own hq.q h.sa.o (by decide)) gw2
    refine ⟨_, _, _, hcur2, okSt_one rfl rfl (by rw [Array.length_toList]; show 0 + (j : Int).toNat * 2 + 1 < _; omega), rfl, fun w3 m3 g3 => ?_⟩
    have L3 := O2.set (f := laA) (j := 1) (x' := (nx, .slice qa' _ qc', rs.filter (keepB sq))) (fun _ => rfl) hcur2 hl (by decide) rfl m3 (by show 0 + (j : Int).toNat * 2 + 1 = j * 2 + 1; rw [Int.toNat_natCast, Nat.zero_add]) rfl rfl g3
    have hmm := List.mem_of_getElem? hl
    have L3' : LN 103 2 w0 w3 (.slice (some ⟨g, 0, none⟩) ls.length cap) (ls.set j (nx, Value.slice qa' (rs.filter (keepB sq)).length qc', rs.filter (keepB sq))).length ((ls.set j (nx, Value.slice qa' (rs.filter (keepB sq)).length qc', rs.filter (keepB sq))).map laA).flatten := by
      have := L3
      rw [List.length_set] at this ⊢
      exact this
    have S := h.setL hl g2 Q (fun x hx => .inl (n2.symm.trans hx)) (fun x hx => h.sa.sT _ hmm x (List.mem_filter.1 hx).1) (fun x hx => h.sa.sD _ hmm x (List.mem_filter.1 hx).1) (fun x hx => .inl (List.mem_filter.1 hx).1) L3' g3
    rw [keep_map] at S
    exact ⟨rfl, _, _, _, _, _, _, S.drop hu⟩
end
def handS (s : St) (q : Req) : St := { s with T := dlgT s.T q.key q.hi, D := dlgD s.D q.key q.hi, O := s.O.set q.to.toNat ((lanAt s.O q.to).1 + 1, (lanAt s.O q.to).2 ++ [dlgR s.g q.to (lanAt s.O q.to).1 q.key q.hi s.T s.D]) }
theorem cat2 {α : Type} (v1 v2 : Value) (a b : List α) : (([(v1, a), (v2, b)] : List (Value × List α)).map (·.2)).flatten = a ++ b := by simp
theorem filt3 {α : Type} (f : α → Int) (lo hi : Int) (l : List α) : (sB f lo l).length ≤ l.length ∧ (sW f lo hi l).length ≤ l.length ∧ (sA f lo hi l).length ≤ l.length := ⟨List.length_filter_le _ _, List.length_filter_le _ _, List.length_filter_le _ _⟩
theorem Lam.none {Λ : Lam} {b x : Nat} {o o' : Obj} (h : (Λ.add b o) x = none) : (Λ.add b o') x = none := by
  unfold Lam.add at h ⊢
  split at h
  · cases h
  · rename_i e; rw [if_neg e]; exact h
section
variable {Λ : Lam} {w0 w : World} {b : Nat} {s : St}
theorem handOver_ok (h : Sk Λ w0 b s w) (hk : StOk s) (hT : s.T.length ≤ 100000) (hD : s.D.length ≤ 100000) {q : Req} (h3 : 0 ≤ q.to) (h4 : q.to < s.n) (hq4 : (lanAt s.O q.to).2.length ≤ 1000) (hnx : 0 ≤ (lanAt s.O q.to).1 ∧ (lanAt s.O q.to).1 < 4294967295) : CY 180 #[.pointer (some ⟨b, 0, none⟩), .agg q.cells.toArray] w (fun v w' => v = .tuple #[] ∧ Sk Λ w0 b (handS s q) w') := by
  obtain ⟨c, sq, k, key, v, hi, to⟩ := q
  obtain ⟨j, rfl⟩ := Int.eq_ofNat_of_zero_le h3
  dsimp only at h4 hq4 hnx
  have hn4 := hk.n4
  have hol := hk.ol
  obtain ⟨o, ho⟩ : ∃ o, s.O[j]? = some o := ⟨s.O[j]'(by omega), by simp [show j < s.O.length by omega]⟩
  have hlan : lanAt s.O (j : Int) = o := by unfold lanAt; rw [Int.toNat_natCast, ho]; rfl
  rw [hlan] at hq4 hnx
  refine callE Tryz.func180 rfl rfl ?_
  refine fun w1 b1 m1 g1 l1 => ?_
  have hs0 : w0.heap.size ≤ w.heap.size := by obtain ⟨_, _, _, _, _, _, h⟩ := h; exact h.gb.size
  obtain ⟨hb, hu⟩ := h.box g1 m1 l1
  obtain ⟨T, M, D, O, I, ls, h⟩ := hb
  have n1 : w0.heap.size ≤ b1 := Nat.le_trans hs0 l1
  obtain ⟨l, hl, hlo⟩ := h.lane ho
  have hll := h.ll
  obtain ⟨g, cap, cur, ev, hg, hcur, hcut, hsz⟩ := h.sa.o.at (f := laA) (fun _ => rfl) hl
  subst ev
  obtain ⟨nx, qv, rs⟩ := l
  obtain ⟨qa, qc, eq⟩ := own_slice (h.sa.q _ (List.mem_of_getElem? hl)).q.own
  have eq : qv = .slice qa rs.length qc := eq
  subst eq
  have enx : o.1 = nx := by rw [← hlo]
  have eq2 : o.2 = rs.map (·.1) := by rw [← hlo]
  have hc0 : cur.toList[0 + (j : Int).toNat * 2 + 0]? = some (.int .u32 nx) := cut_one hcut rfl (by decide)
  refine ⟨by kernel_rfl, _, _, h.mem, _, rfl, _, _, h.at, .int .u8 j, rfl, ⟨by omega, by omega⟩, ?_⟩
  refine ⟨by kernel_rfl, _, _, h.mem, _, rfl, _, _, h.at, .int .u8 j, rfl, _, _, hcur, .int .u32 nx, hc0, _, _, h.at, .int .u64 key, rfl, _, _, h.at, .int .u64 hi, rfl, fun w2 b5 m5 g2 l2 => ?_⟩
  refine ⟨⟨g2.get h.at nofun, g2.get h.at nofun, g2.get hcur nofun, g2.get h.at nofun, g2.get h.mem nofun, trivial⟩, _, _, _, m5, rfl, rfl, fun w3 m6 g3 => ?_⟩
  replace m6 : Hl w3 b5 (rgC ⟨s.g, j, nx, key, hi, [], []⟩ (.slice none 0 0) (.slice none 0 0)) 52 := m6
  have hu5 := h.unp l2
  have n5 : w0.heap.size ≤ b5 := Nat.le_trans h.gb.size l2
  replace h := h.box (g2.new g3 l2) m6 l2
  clear hcur hcut hsz hc0 m5 m6 g2 g3
  obtain ⟨f1, f2, f3⟩ := filt3 (fun x : Row => x.key) key hi s.T
  obtain ⟨e1, e2, e3⟩ := filt3 (fun x : Rep => x.key) key hi s.D
  refine ⟨by kernel_rfl, _, _, h.mem, _, rfl, _, _, h.at, .int .u64 key, rfl, _, _, h.at, .int .u64 hi, rfl, _, split_row rfl rfl rfl h.sa.t.fz (Nat.le_trans hT (by decide)) key hi, ?_⟩
  rintro _ w4 ⟨v1, v2, v3, rfl, L1, L2, L3, sp⟩
  obtain ⟨a1, c1, rfl⟩ := own_slice L1.own
  obtain ⟨a2, c2, rfl⟩ := own_slice L2.own
  obtain ⟨a3, c3, rfl⟩ := own_slice L3.own
  have u2 : ∀ x, (Value.slice a2 (sW (fun x : Row => x.key) key hi s.T).length c2).ownBlock = some x → (((Λ.add b1 _).add b5 _) : Lam) x = none := fun x hx => h.unp (L2.new x hx)
  replace L2 := L2.base h.gb
  replace h := h.gb0 L1.gb
  refine fun w5 vb mvb g5 lvb => ?_
  replace h := h.gb0 g5
  replace L2 := L2.gb0 g5
  refine ⟨_, concat_row rfl (xs := [(_, sB (fun x : Row => x.key) key s.T), (_, sA (fun x : Row => x.key) key hi s.T)]) mvb ?_ (by rw [show catX _ = _ from cat2 _ _ _ _, List.length_append]; omega) (by show 2 ≤ 100; decide), ?_⟩
  · intro x hx
    simp only [List.mem_cons, List.not_mem_nil, or_false] at hx
    rcases hx with rfl | rfl
    · exact (L1.gb0 g5).fz
    · exact (L3.gb0 g5).fz
  intro T' w6 LT
  rw [show catX [_, _] = _ from cat2 _ _ _ _] at LT
  have b2 : ∀ x, T'.ownBlock = some x → (Value.slice a2 (sW (fun x : Row => x.key) key hi s.T).length c2).ownBlock ≠ some x := fun x hx he => by
    have := LT.new x hx
    have := L2.lt he
    omega
  obtain ⟨ta, tc, rfl⟩ := own_slice LT.own
  refine ⟨_, _, _, LT.gb.get h.mem nofun, rfl, rfl, fun w7 m7 g7 => ?_⟩
  have mb6 : w6.heap[b]? = _ := LT.gb.get h.mem nofun
  replace L2 := (L2.gb0 LT.gb).gbt g7 mb6 (by decide) h.nb
  replace h := h.setT (t' := dlgT s.T key hi) (LT.base h.gb) LT.gb.weak (fun x hx => .inr (LT.new x hx)) m7 g7
  refine ⟨_, _, _, h.at, rfl, rfl, fun w8 m8 g8 => ?_⟩
  replace m8 : Hl w8 b5 (rgC ⟨s.g, j, nx, key, hi, sW (fun x : Row => x.key) key hi s.T, []⟩ (.slice a2 _ c2) (.slice none 0 0)) 52 := m8
  replace L2 := L2.gbt g8 h.at (by decide) n5
  replace h := h.other hu5 g8 m8 n5
  clear m7 g7 m8 g8 mb6 L1 L3 LT mvb g5 lvb sp
  refine ⟨by kernel_rfl, _, _, h.mem, _, rfl, _, _, h.at, .int .u64 key, rfl, _, _, h.at, .int .u64 hi, rfl, _, split_rep rfl rfl rfl h.sa.d.fz (Nat.le_trans hD (by decide)) key hi, ?_⟩
  rintro _ w4 ⟨v1, v4, v3, rfl, L1, L4, L3, sp⟩
  obtain ⟨a1, c1, rfl⟩ := own_slice L1.own
  obtain ⟨a4, c4, rfl⟩ := own_slice L4.own
  obtain ⟨a3, c3, rfl⟩ := own_slice L3.own
  have u4 : ∀ x, (Value.slice a4 (sW (fun x : Rep => x.key) key hi s.D).length c4).ownBlock = some x → (((Λ.add b1 _).add b5 _) : Lam) x = none := fun x hx => h.unp (L4.new x hx)
  replace L4 := L4.base h.gb
  replace h := h.gb0 L1.gb
  replace L2 := L2.gb0 L1.gb
  refine fun w5 vb mvb g5 lvb => ?_
  replace h := h.gb0 g5
  replace L2 := L2.gb0 g5
  replace L4 := L4.gb0 g5
  refine ⟨_, concat_rep rfl (xs := [(_, sB (fun x : Rep => x.key) key s.D), (_, sA (fun x : Rep => x.key) key hi s.D)]) mvb ?_ (by rw [show catX _ = _ from cat2 _ _ _ _, List.length_append]; omega) (by show 2 ≤ 100; decide), ?_⟩
  · intro x hx
    simp only [List.mem_cons, List.not_mem_nil, or_false] at hx
    rcases hx with rfl | rfl
    · exact (L1.gb0 g5).fz
    · exact (L3.gb0 g5).fz
  intro D' w6 LD
  rw [show catX [_, _] = _ from cat2 _ _ _ _] at LD
  have b4 : ∀ x, D'.ownBlock = some x → (Value.slice a4 (sW (fun x : Rep => x.key) key hi s.D).length c4).ownBlock ≠ some x := fun x hx he => by
    have := LD.new x hx
    have := L4.lt he
    omega
  obtain ⟨da, dc, rfl⟩ := own_slice LD.own
  refine ⟨_, _, _, LD.gb.get h.mem nofun, rfl, rfl, fun w7 m7 g7 => ?_⟩
  have mb6 : w6.heap[b]? = _ := LD.gb.get h.mem nofun
  replace L2 := (L2.gb0 LD.gb).gbt g7 mb6 (by decide) h.nb
  replace L4 := (L4.gb0 LD.gb).gbt g7 mb6 (by decide) h.nb
  replace h := h.setD (d' := dlgD s.D key hi) (LD.base h.gb) LD.gb.weak (fun x hx => .inr (LD.new x hx)) m7 g7
  refine ⟨_, _, _, h.at, rfl, rfl, fun w8 m8 g8 => ?_⟩
  replace m8 : Hl w8 b5 (rgC (dlgR s.g j nx key hi s.T s.D) (.slice a2 _ c2) (.slice a4 _ c4)) 52 := m8
  replace L2 := L2.gbt g8 h.at (by decide) n5
  replace L4 := L4.gbt g8 h.at (by decide) n5
  replace h := h.other hu5 g8 m8 n5
  clear m7 g7 m8 g8 mb6 L1 L3 LD mvb g5 lvb sp
  obtain ⟨g', cap', cur, ev, hg', hcur, hcut, hsz⟩ := h.sa.o.at (f := laA) (fun _ => rfl) hl
  injection ev with ea _ ec
  injection ea with ea
  injection ea with ea
  subst ea ec
  have hq := h.sa.q _ (List.mem_of_getElem? hl)
  dsimp only at hq
  have hrl : rs.length ≤ 1000 := by rw [eq2, List.length_map] at hq4; exact hq4
  have hc1 : cur.toList[0 + (j : Int).toNat * 2 + 1]? = some (.slice qa rs.length qc) := cut_one hcut rfl (by decide)
  refine ⟨by kernel_rfl, _, _, hcur, .slice qa rs.length qc, hc1, _, _, h.at, rgC (dlgR s.g j nx key hi s.T s.D) (.slice a2 _ c2) (.slice a4 _ c4), rfl, rfl, fun w9 b9 m9 g9 l9 => ?_⟩
  have hq9 := hq.gb0 g9
  refine ⟨⟨g9.get h.at nofun, g9.get hcur nofun, trivial⟩, _, rgC (dlgR s.g j nx key hi s.T s.D) (.slice a2 _ c2) (.slice a4 _ c4), hq9.q.own, ⟨_, _, m9, rfl, rfl, rfl⟩, by omega, fun q' w10 ho10 g10 n10 => ?_⟩
  have L10 := hq9.q.app ho10 g10 n10
  obtain ⟨qa', qc', rfl⟩ := own_slice ho10
  have gw10 := L10.gb
  have tR : ∀ x ∈ rs, RgN w0 w10 x := fun x hx => (hq9.r x hx).off g10 (ne_own hq9.q (hq9.r x hx).r (by decide)) (ne_own hq9.q (hq9.r x hx).d (by decide)) gw10
  have r2 := (L2.gb0 g9).off g10 (ne_own hq9.q (L2.gb0 g9) (by decide)) gw10
  have r4 := (L4.gb0 g9).off g10 (ne_own hq9.q (L4.gb0 g9) (by decide)) gw10
  have Q10 : QN w0 w10 (.slice qa' (rs.length + 1) qc') (rs ++ [(dlgR s.g j nx key hi s.T s.D, .slice a2 (sW (fun x : Row => x.key) key hi s.T).length c2, .slice a4 (sW (fun x : Rep => x.key) key hi s.D).length c4)]) := by
    refine ⟨?_, fun x hx => ?_⟩
    · rw [List.length_append, List.map_append, List.flatten_append]
      simpa using (show LN 52 7 w0 w10 _ _ _ from L10)
    · rcases List.mem_append.1 hx with hx | hx
      · exact tR x hx
      · rw [List.mem_singleton] at hx
        subst hx
        exact ⟨r2, r4⟩
  have hcur10 : w10.heap[g]? = some (.cells cur 103) := g10.get (g9.get hcur nofun) fun z => by
    obtain ⟨c', hc'⟩ := own_obj hq9.q.own z.symm
    exact ne_ty hc' (g9.get hcur nofun) (by decide) rfl
  have O10 := (h.gb0 g9).sa.o.off g10 (ne_own hq9.q (h.gb0 g9).sa.o (by decide)) gw10
  refine ⟨_, _, _, hcur10, okSt_one rfl rfl (by rw [Array.length_toList]; show 0 + (j : Int).toNat * 2 + 1 < _; omega), rfl, fun w11 m11 g11 => ?_⟩
  have L11 := O10.set (f := laA) (j := 1) (x' := (nx, .slice qa' (rs.length + 1) qc', rs ++ [(dlgR s.g j nx key hi s.T s.D, .slice a2 (sW (fun x : Row => x.key) key hi s.T).length c2, .slice a4 (sW (fun x : Rep => x.key) key hi s.D).length c4)])) (fun _ => rfl) hcur10 hl (by decide) rfl m11 (by show 0 + (j : Int).toNat * 2 + 1 = j * 2 + 1; rw [Int.toNat_natCast, Nat.zero_add]) rfl rfl g11
  generalize hrs : rs ++ [(dlgR s.g j nx key hi s.T s.D, Value.slice a2 (sW (fun x : Row => x.key) key hi s.T).length c2, Value.slice a4 (sW (fun x : Rep => x.key) key hi s.D).length c4)] = rs' at *
  rw [List.length_set] at L11
  have S := (h.gb0 g9).setL (nx' := nx) hl g10 Q10 (fun x hx => n10.own x hx) (fun x hx => ?_) (fun x hx => ?_) (fun x hx => ?_) (by rw [List.length_set]; exact L11) g11
  rotate_left
  · rw [← hrs] at hx
    rcases List.mem_append.1 hx with hx | hx
    · exact h.sa.sT _ (List.mem_of_getElem? hl) x hx
    · rw [List.mem_singleton] at hx
      subst hx
      exact b2
  · rw [← hrs] at hx
    rcases List.mem_append.1 hx with hx | hx
    · exact h.sa.sD _ (List.mem_of_getElem? hl) x hx
    · rw [List.mem_singleton] at hx
      subst hx
      exact b4
  · rw [← hrs] at hx
    rcases List.mem_append.1 hx with hx | hx
    · exact .inl hx
    · rw [List.mem_singleton] at hx
      subst hx
      exact .inr fun y hy => hy.elim (fun z => Lam.none (u2 y z)) (fun z => Lam.none (u4 y z))
  have hl' : (ls.set j (nx, Value.slice qa' (rs.length + 1) qc', rs'))[j]? = some (nx, .slice qa' (rs.length + 1) qc', rs') := by rw [set_get (by omega), if_pos rfl]
  obtain ⟨g', cap', cur', ev, hg', hcur', hcut', hsz'⟩ := S.sa.o.at (f := laA) (fun _ => rfl) hl'
  rw [List.length_set] at ev hsz'
  injection ev with ea _ ec
  injection ea with ea
  injection ea with ea
  subst ea ec
  have hc0 : cur'.toList[0 + (j : Int).toNat * 2 + 0]? = some (.int .u32 nx) := cut_one hcut' rfl (by decide)
  refine ⟨_, _, hcur', .int .u32 nx, hc0, ⟨by omega, by omega⟩, _, _, _, hcur', okSt_one rfl rfl (by rw [Array.length_toList]; show 0 + (j : Int).toNat * 2 + 0 < _; omega), rfl, fun w12 m12 g12 => ?_⟩
  have O11 := S.sa.o
  rw [List.length_set] at O11
  have L12 := (show LN 103 2 w0 w11 (.slice (some ⟨g, 0, none⟩) (ls.set j (nx, Value.slice qa' (rs.length + 1) qc', rs')).length cap) (ls.set j (nx, Value.slice qa' (rs.length + 1) qc', rs')).length _ by rw [List.length_set]; exact O11).set (f := laA) (j := 0) (x' := (nx + 1, .slice qa' (rs.length + 1) qc', rs')) (fun _ => rfl) hcur' hl' (by decide) rfl m12 (by show 0 + (j : Int).toNat * 2 + 0 = j * 2 + 0; rw [Int.toNat_natCast, Nat.zero_add]) rfl rfl g12
  rw [List.length_set, List.length_set] at L12
  have hmm := List.mem_of_getElem? hl'
  have S2 := S.setL (nx' := nx + 1) hl' (GB.refl _ _) (S.sa.q _ hmm) (fun x hx => .inl hx) (S.sa.sT _ hmm) (S.sa.sD _ hmm) (fun x hx => .inl hx) (by rw [List.length_set, List.length_set]; exact L12) g12
  have hfin : handS s ⟨c, sq, k, key, v, hi, j⟩ = { s with T := dlgT s.T key hi, D := dlgD s.D key hi, O := (s.O.set j (nx, rs'.map (·.1))).set j (nx + 1, rs'.map (·.1)) } := by
    unfold handS
    dsimp only
    rw [hlan, Int.toNat_natCast, List.set_set, enx, eq2, ← hrs, List.map_append]
    rfl
  rw [hfin]
  exact ⟨rfl, _, _, _, _, _, _, (S2.drop hu5).drop hu⟩
end
theorem Lam.eq (Λ : Lam) (b : Nat) (o : Obj) : (Λ.add b o) b = some o := by unfold Lam.add; simp
theorem Lam.ne {Λ : Lam} {b x : Nat} {o : Obj} (h : x ≠ b) : (Λ.add b o) x = Λ x := by unfold Lam.add; rw [if_neg h]
section
variable {Λ Λ' : Lam} {w0 w w' : World} {b : Nat} {s : St}
theorem Sk.g (h : Sk Λ w0 b s w) {x : Nat} {o : Obj} (hx : Λ x = some o) : w.heap[x]? = some o := by obtain ⟨_, _, _, _, _, _, h⟩ := h; exact (h.pr x o hx).1
theorem Sk.sz (h : Sk Λ w0 b s w) : w0.heap.size ≤ w.heap.size := by obtain ⟨_, _, _, _, _, _, h⟩ := h; exact h.gb.size
theorem Sk.weak (h : Sk Λ' w0 b s w) (hw : ∀ x o, Λ x = some o → Λ' x = some o) : Sk Λ w0 b s w := by
  obtain ⟨T, M, D, O, I, ls, h⟩ := h
  exact ⟨T, M, D, O, I, ls, h.mem, h.nb, h.sa, fun x o hx => h.pr x o (hw x o hx), fun x o hx => h.rd x o (hw x o hx)⟩
theorem Sk.over (h : Sk Λ w0 b s w) {x t : Nat} {c : Array Value} {o' : Obj} (hx : Λ x = some (.cells c t)) (g : GB (some x) w w') (m : w'.heap[x]? = some o') (hn : w0.heap.size ≤ x) : Sk (Λ.add x o') w0 b s w' := by
  obtain ⟨T, M, D, O, I, ls, h⟩ := h
  obtain ⟨Λ0, h0, e⟩ : ∃ Λ0 : Lam, Λ0 x = none ∧ Λ = Λ0.add x (.cells c t) := ⟨fun y => if y = x then none else Λ y, by simp, by
    funext y
    unfold Lam.add
    split
    · rename_i e; rw [e]; exact hx
    · rename_i e; simp [e]⟩
  rw [e] at h
  have h1 := h.other h0 g m hn
  have e2 : Λ.add x o' = Λ0.add x o' := by
    funext y
    rw [e]
    unfold Lam.add
    split <;> rfl
  rw [e2]
  exact ⟨T, M, D, O, I, ls, h1⟩
theorem wrap_u32 {x : Int} (h : 0 ≤ x ∧ x < 4294967296) : IntKind.u32.wrap x = x := by
  show x % 4294967296 = x
  omega
/-- Sizes of what a request meets. -/
structure StB2 (s : St) : Prop where
  t : s.T.length ≤ 100000
  d : s.D.length ≤ 90000
  q : ∀ o ∈ s.O, o.2.length ≤ 100 ∧ 0 ≤ o.1 ∧ o.1 < 4294967295
def dlg2 (s : St) (q : Req) (p : Rep) : St × Rep := if fitsB s q = true then ({ handS { s with D := remD s.D { p with k := 2 } } q with M := giveL s.M q.key q.hi q.to }, { p with k := 2 }) else ({ s with D := remD s.D { p with k := 5 } }, { p with k := 5 })
end
end
end Go.Proofs.YtignemioillaiaaGreat
