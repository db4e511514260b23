/- shard.remember. -/
import Derived.Test.YtignemioillaiaaJ10
import Derived.Deep.RegionWith
namespace Go.Proofs.Ytignemioillaiaa
open Go.RowKit Go.Lib

theorem setCell_row {w : World} {g o : Nat} {cur : List Value} {t : TypeId} {v : Value} (hg : w.heap[g]? = some (.cells cur.toArray t)) : (w.setCell ⟨g, o, none⟩ v).heap[g]? = some (.cells (cur.set o v).toArray t) ∧ Only g w (w.setCell ⟨g, o, none⟩ v) := by
  rw [setCell_eq_setRow w g o cur.toArray t (0, 0) v hg]
  have h := setRow_heap w g cur.toArray (cur.toArray.setIfInBounds o v) t (0, 0) hg
  exact ⟨by simpa using h, Only.setRow w g _⟩

theorem own_shapeJ {w : World} {base : Nat} {e : TypeId} {size : Nat} {v : Value} {n : Nat} {xs : List Value} (h : w.ownsRow base e size v n xs) : ∃ a m c, v = .slice a m c := by
  rcases h.2 with ⟨rfl, _⟩ | ⟨g, cap, cur, rfl, _⟩ <;> exact ⟨_, _, _, rfl⟩

def remD (D : List Rep) (q : Rep) : List Rep := if hasD D q then D.set (atD D q) q else insL D (atD D q) q

/-- What a call leaves: the shard with other replies. -/
def OutD (base lim b : Nat) (g n : Int) (vT vM vD vO vI : Value) (T : List Row) (D : List Rep) (w w' : World) : Prop := ∃ vD', Shd w' base b g n vT vM vD' vO vI T D ∧ Mod base lim w w' ∧ Fresh w vD vD'

theorem Shd.only_d {w w' : World} {base b : Nat} {g n : Int} {vT vM vD vO vI : Value} {T : List Row} {D' : List Rep} {vD' : Value}
    (hT : w.ownsRow base 82 2 vT T.length (T.map Row.cells).flatten) (hD : w.ownsRow base 27 7 vD' D'.length (D'.map Rep.cells).flatten)
    (h0 : w.heap[b]? = some (.cells #[.int .u8 g, .int .u8 n, vT, vM, vD, vO, vI] 74))
    (hb : w'.heap[b]? = some (.cells #[.int .u8 g, .int .u8 n, vT, vM, vD', vO, vI] 74)) (ho : Only b w w') (b1 : base ≤ b) : Shd w' base b g n vT vM vD' vO vI T D' :=
  ⟨hb, hT.kept (grown_onlyJ ho) (.inr (shd_off h0 (by decide) hT)), hD.kept (grown_onlyJ ho) (.inr (shd_off h0 (by decide) hD)), b1⟩

set_option maxHeartbeats 1000000 in
set_option maxRecDepth 100000 in
theorem remember_new (w : World) (base lim b : Nat) (g n : Int) (vT vM vD vO vI : Value) (T : List Row) (D : List Rep) (qc qs qkey qk : Int) (qf : Bool) (qv qg : Int) (h : Shd w base b g n vT vM vD vO vI T D) (hs : SortD D) (hb : base ≤ w.heap.size) (hbl : b < lim) (hlD : ∀ k, vD.ownBlock = some k → k < lim) (hn : D.length < 1000000) (hh : hasD D (Rep.mk qc qs qkey qk qf qv qg) = false) :
    Calls Try.prog 147 #[.pointer (some ⟨b, 0, none⟩), .agg #[.int .u8 qc, .int .u32 qs, .int .u64 qkey, .int .u8 qk, .bool qf, .int .u64 qv, .int .u8 qg]] w fun e w' => e = .returned (.tuple #[]) ∧ OutD base lim b g n vT vM vD vO vI T (remD D (Rep.mk qc qs qkey qk qf qv qg)) w w' := by
  obtain ⟨p, hp⟩ : ∃ p, p = atD D (Rep.mk qc qs qkey qk qf qv qg) := ⟨_, rfl⟩
  have HP : Hid (atD D (Rep.mk qc qs qkey qk qf qv qg) = p) := hp.symm
  have hpl : p ≤ D.length := by rw [hp]; exact posB_le _ _
  clear hp
  obtain ⟨W, hW⟩ : ∃ W, W = w.alloc (.cells #[.int .u8 qc, .int .u32 qs, .int .u64 qkey, .int .u8 qk, .bool qf, .int .u64 qv, .int .u8 qg] 27) := ⟨_, rfl⟩
  have hWq : W.heap[w.heap.size]? = some (.cells #[.int .u8 qc, .int .u32 qs, .int .u64 qkey, .int .u8 qk, .bool qf, .int .u64 qv, .int .u8 qg] 27) := by rw [hW]; exact heap_alloc_new w _
  have hWl : Below w.heap.size w W := by rw [hW]; exact later_alloc w _
  have HS : Hid (SortD D) := hs
  have HH : Hid (Shd W base b g n vT vM vD vO vI T D) := h.later hWl
  have HOB : Hid (∀ k, vD.ownBlock = some k → base ≤ k ∧ k < w.heap.size) := h.oD.lt
  obtain ⟨a, m, c, hv, hm, hin⟩ := own_slinJ h.oD (fun y => rfl)
  have HB : Hid (∀ w1, Below W.heap.size W w1 → w1.heap[b]? = some (.cells #[.int .u8 g, .int .u8 n, vT, vM, vD, vO, vI] 74)) := fun w1 hb1 => blk_later hb1 HH.out.cell
  have HQ : Hid (∀ w1, Below W.heap.size W w1 → w1.heap[w.heap.size]? = some (.cells #[.int .u8 qc, .int .u32 qs, .int .u64 qkey, .int .u8 qk, .bool qf, .int .u64 qv, .int .u8 qg] 27)) := fun w1 hb1 => blk_later hb1 hWq
  have HSZ : Hid (w.heap.size ≤ W.heap.size) := hWl.size
  have hcq := blk_cell hWq
  clear h hs hin hm
  subst hv
  go_enter Try.func147, Try.ntmps147
  go_wp2_with (first
    | (go_at_call 110; go_must (rw [← hW]; clear hW; refine (dup_any _ base b g n vT vM (.slice a m c) vO vI T D qc qs qkey qk qf qv qg HH.out HS.out).mono ?_; rintro e w1 ⟨rfl, hb1⟩; rw [hh, HP.out]; have hcS := blk_cell (HB.out w1 hb1) 4; have hcQ0 := blk_cell (HQ.out w1 hb1) 0; have hcQ1 := blk_cell (HQ.out w1 hb1) 1; have hcQ2 := blk_cell (HQ.out w1 hb1) 2; have hcQ3 := blk_cell (HQ.out w1 hb1) 3; have hcQ4 := blk_cell (HQ.out w1 hb1) 4; have hcQ5 := blk_cell (HQ.out w1 hb1) 5; have hcQ6 := blk_cell (HQ.out w1 hb1) 6; have hbB := (Array.getElem?_eq_some_iff.1 (HB.out w1 hb1)).1; have hqB := (Array.getElem?_eq_some_iff.1 (HQ.out w1 hb1)).1)))
  simp at hcS hcQ0 hcQ1 hcQ2 hcQ3 hcQ4 hcQ5 hcQ6
  have HWL : Hid (Below w.heap.size w W) := hWl
  clear hcq hWq hWl
  have HB1 : Hid (w1.heap[b]? = some (.cells #[.int .u8 g, .int .u8 n, vT, vM, .slice a m c, vO, vI] 74)) := HB.out w1 hb1
  have HD1 : Hid (w1.ownsRow base 27 7 (.slice a m c) D.length (D.map Rep.cells).flatten) := own_keepJ HH.out.oD hb1
  have HT1 : Hid (w1.ownsRow base 82 2 vT T.length (T.map Row.cells).flatten) := own_keepJ HH.out.oT hb1
  have HOF : Hid ((Value.slice a m c).ownBlock ≠ some b) := shd_off HB1.out (by decide) HD1.out
  have hbs : base ≤ w1.heap.size := Nat.le_trans hb (Nat.le_trans HSZ.out hb1.size)
  have HNE : Hid ((Value.slice a m c).ownBlock ≠ some w1.heap.size) := fun e => by have := (HOB.out _ e).2; omega
  go_region_with (go_at_call 161; refine (ins_dup base (.slice a m c) D.length p (D.map Rep.cells).flatten [.int .u8 qc, .int .u32 qs, .int .u64 qkey, .int .u8 qk, .bool qf, .int .u64 qv, .int .u8 qg] w1.heap.size (w1.drew.alloc (.cells #[.int .u8 qc, .int .u32 qs, .int .u64 qkey, .int .u8 qk, .bool qf, .int .u64 qv, .int .u8 qg] 27)) (own_keepJ HD1.out ((Below.refl _ w1).drew.alloc (Nat.le_refl _) _)) (reps_oneJ D) rfl (by simp [Value.oneCell']) (heap_alloc_new w1.drew _) HNE.out hpl (by simp; omega) hn).mono ?_; rintro e w2 ⟨vD', rfl, hoD, hgr⟩; obtain ⟨da, dm, dc, rfl⟩ := own_shapeJ hoD; have HOD : Hid (w2.ownsRow base 27 7 (.slice da dm dc) (D.length + 1) (((D.map Rep.cells).flatten).take (p * 7) ++ ([.int .u8 qc, .int .u32 qs, .int .u64 qkey, .int .u8 qk, .bool qf, .int .u64 qv, .int .u8 qg] ++ ((D.map Rep.cells).flatten).drop (p * 7)))) := hideJ hoD; have HGR : Hid (Grew (w1.drew.alloc (.cells #[.int .u8 qc, .int .u32 qs, .int .u64 qkey, .int .u8 qk, .bool qf, .int .u64 qv, .int .u8 qg] 27)) (.slice a m c) w2 (.slice da dm dc)) := hideJ hgr; have HB2 : Hid (w2.heap[b]? = some (.cells #[.int .u8 g, .int .u8 n, vT, vM, .slice a m c, vO, vI] 74)) := hideJ (hgr.blk (blk_later ((Below.refl _ w1).drew.alloc (Nat.le_refl _) _) HB1.out) (Ne.symm HOF.out)); have hc4 : w2.cell? ⟨b, 4, none⟩ = some (.slice a m c) := blk_cell HB2.out 4; have hf4 := blkF (Below.refl _ w2) HB2.out 4; clear hoD hgr)
  all_goals (
    go_end0
    obtain ⟨hs1, hs2⟩ := setCell_row (o := 4) (v := .slice da dm dc) HB2.out
    have hTw : w2.ownsRow base 82 2 vT T.length (T.map Row.cells).flatten := (own_keepJ HT1.out ((Below.refl _ w1).drew.alloc (Nat.le_refl _) _)).kept HGR.out.grown (own_apartJ (own_keepJ HT1.out ((Below.refl _ w1).drew.alloc (Nat.le_refl _) (.cells #[.int .u8 qc, .int .u32 qs, .int .u64 qkey, .int .u8 qk, .bool qf, .int .u64 qv, .int .u8 qg] 27))) (own_keepJ HD1.out ((Below.refl _ w1).drew.alloc (Nat.le_refl _) _)) (by decide))
    refine ⟨rfl, .slice da dm dc, ?_, (Mod.later (later_trans HWL.out hb1)).trans ((Mod.later ((Below.refl _ w1).drew.alloc (Nat.le_refl _) _)).trans ((Mod.grew HGR.out (fun k hk => ⟨(HOB.out k hk).1, hlD k hk⟩) (own_keepJ HD1.out ((Below.refl _ w1).drew.alloc (Nat.le_refl _) _)) kdD).trans (Mod.only hs2 HH.out.b1 hbl HB2.out kdS))), HGR.out.fresh (Nat.le_trans HSZ.out (Nat.le_trans hb1.size ((Below.refl _ w1).drew.alloc (Nat.le_refl _) _).size))⟩
    rw [show remD D (Rep.mk qc qs qkey qk qf qv qg) = insL D p (Rep.mk qc qs qkey qk qf qv qg) by simp only [remD, hh, HP.out]; rw [if_neg (by simp)]]
    refine Shd.only_d hTw ?_ HB2.out (by simpa using hs1) hs2 HH.out.b1
    rw [insL_len, flat_insL rep_k]
    exact HOD.out)

end Go.Proofs.Ytignemioillaiaa
