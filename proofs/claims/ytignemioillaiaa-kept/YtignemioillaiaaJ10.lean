/- shard.set and shard.remove. -/
import Derived.Test.YtignemioillaiaaJ9
namespace Go.Proofs.Ytignemioillaiaa
open Go.RowKit Go.Lib

theorem flat_insL {α : Type} {f : α → List Value} {k : Nat} (hf : ∀ y, (f y).length = k) (l : List α) (i : Nat) (x : α) :
    ((insL l i x).map f).flatten = ((l.map f).flatten).take (i * k) ++ (f x ++ ((l.map f).flatten).drop (i * k)) := by
  rw [flat_takeK hf, flat_dropK hf]; simp [insL]
theorem flat_erase {α : Type} {f : α → List Value} {k : Nat} (hf : ∀ y, (f y).length = k) (l : List α) (i : Nat) :
    ((l.eraseIdx i).map f).flatten = ((l.map f).flatten).take (i * k) ++ ((l.map f).flatten).drop (i * k + k) := by
  rw [flat_takeK hf, show i * k + k = (i + 1) * k from (Nat.succ_mul i k).symm, flat_dropK hf, List.eraseIdx_eq_take_drop_succ]; simp
theorem flat_set {α : Type} {f : α → List Value} {k : Nat} (hf : ∀ y, (f y).length = k) (l : List α) (i : Nat) (x : α) (hi : i < l.length) :
    ((l.set i x).map f).flatten = splice (l.map f).flatten (i * k) (f x) := by
  unfold splice
  rw [flat_takeK hf, hf, show i * k + k = (i + 1) * k from (Nat.succ_mul i k).symm, flat_dropK hf, List.set_eq_take_append_cons_drop, if_pos hi]; simp
theorem flat_len' {α : Type} {f : α → List Value} {k : Nat} (hf : ∀ y, (f y).length = k) (l : List α) : ((l.map f).flatten).length = l.length * k := by
  induction l with
  | nil => simp
  | cons a r ih => simp only [List.map_cons, List.flatten_cons, List.length_append, ih, hf, List.length_cons, Nat.succ_mul]; omega
theorem splice_take {α : Type} (cur xs cs : List α) (m o : Nat) (htk : cur.take m = xs) (hm : m ≤ cur.length) (ho : o + cs.length ≤ m) : (splice cur o cs).take m = splice xs o cs := by
  obtain ⟨A, B, C, hcur, hA, hB, hT, hC⟩ := cut3 cur o m (by omega) hm
  have hx : xs = A ++ B := by rw [← htk, hT]
  unfold splice
  have e1 : cur.take o = A := by rw [hcur, ← hA, List.take_left]
  have e2 : xs.take o = A := by rw [hx, ← hA, List.take_left]
  have e3 : cur.drop (o + cs.length) = B.drop cs.length ++ C := by
    rw [hcur, ← hA, List.drop_length_add_append, List.drop_append_of_le_length (by omega)]
  have e4 : xs.drop (o + cs.length) = B.drop cs.length := by rw [hx, ← hA, List.drop_length_add_append]
  rw [e1, e2, e3, e4]
  have hl : (A ++ (cs ++ B.drop cs.length)).length = m := by simp [hA, hB]; omega
  rw [show A ++ (cs ++ (B.drop cs.length ++ C)) = (A ++ (cs ++ B.drop cs.length)) ++ C by simp, ← hl, List.take_left]

theorem row_k : ∀ y : Row, (Row.cells y).length = 2 := fun _ => rfl
theorem rep_k : ∀ y : Rep, (Rep.cells y).length = 7 := fun _ => rfl
theorem rows_oneJ (rows : List Row) : ∀ u ∈ (rows.map Row.cells).flatten, u.oneCell' = true := by
  intro u hu
  obtain ⟨l, hl, hu⟩ := List.mem_flatten.1 hu
  obtain ⟨r, _, rfl⟩ := List.mem_map.1 hl
  simp [Row.cells] at hu
  rcases hu with rfl | rfl <;> rfl
theorem reps_oneJ (reps : List Rep) : ∀ u ∈ (reps.map Rep.cells).flatten, u.oneCell' = true := by
  intro u hu
  obtain ⟨l, hl, hu⟩ := List.mem_flatten.1 hu
  obtain ⟨r, _, rfl⟩ := List.mem_map.1 hl
  simp [Rep.cells] at hu
  rcases hu with rfl | rfl | rfl | rfl | rfl | rfl | rfl <;> rfl
theorem own_oneJ {w : World} {base : Nat} {e : TypeId} {size : Nat} {v : Value} {n : Nat} {xs : List Value} (h : w.ownsRow base e size v n xs) : v.oneCell' = true := by
  rcases h.2 with ⟨rfl, _⟩ | ⟨g, cap, cur, rfl, _⟩ <;> rfl
/-- The shard's own block is none of a list's. -/
theorem shd_off {w : World} {base b : Nat} {e : TypeId} {k m : Nat} {v : Value} {xs cs : List Value} (h0 : w.heap[b]? = some (.cells cs.toArray 74)) (hne : e ≠ 74) (hown : w.ownsRow base e k v m xs) : v.ownBlock ≠ some b := by
  rcases hown.2 with ⟨rfl, _⟩ | ⟨q, cap, cur, rfl, _, hq, _⟩
  · simp [Value.ownBlock]
  · intro e2
    simp [Value.ownBlock] at e2
    subst e2
    rw [h0] at hq
    simp at hq
    exact hne hq.2.symm
theorem own_apartJ {w : World} {b1 b2 : Nat} {e1 e2 : TypeId} {s1 s2 : Nat} {v1 v2 : Value} {n1 n2 : Nat} {x1 x2 : List Value} (h1 : w.ownsRow b1 e1 s1 v1 n1 x1) (h2 : w.ownsRow b2 e2 s2 v2 n2 x2) (hne : e1 ≠ e2) : v1.ownBlock = none ∨ v1.ownBlock ≠ v2.ownBlock := by
  rcases h1.2 with ⟨rfl, _⟩ | ⟨g, cap, cur, rfl, _, hg, _⟩
  · exact .inl rfl
  · right
    rcases h2.2 with ⟨rfl, _⟩ | ⟨g', cap', cur', rfl, _, hg', _⟩
    · intro e; cases e
    · intro e
      simp only [Value.ownBlock, Option.some.injEq] at e
      subst e
      rw [hg] at hg'
      injection hg' with hg'
      injection hg' with _ h9 _
      exact hne h9
theorem hideJ {p : Prop} (h : p) : Hid p := h

/-- What a call leaves: the shard with other rows. -/
def Fresh (w : World) (v v' : Value) : Prop := v'.ownBlock = v.ownBlock ∨ ∀ k, v'.ownBlock = some k → w.heap.size ≤ k
theorem Grew.fresh {w a b : World} {v v' : Value} (h : Grew a v b v') (hs : w.heap.size ≤ a.heap.size) : Fresh w v v' := h.own.imp id fun hk k e => Nat.le_trans hs (hk k e)
def OutT (base lim b : Nat) (g n : Int) (vT vM vD vO vI : Value) (T : List Row) (D : List Rep) (w w' : World) : Prop := ∃ vT', Shd w' base b g n vT' vM vD vO vI T D ∧ Mod base lim w w' ∧ Fresh w vT vT'

def setK (T : List Row) (key : Int) : Int := if hasT T key then 2 else if 8 ≤ T.length then 5 else 2
def setT (T : List Row) (key v : Int) : List Row := if hasT T key then T.set (atT T key) ⟨key, v⟩ else if 8 ≤ T.length then T else insL T (atT T key) ⟨key, v⟩
def delT (T : List Row) (key : Int) : List Row := if hasT T key then T.eraseIdx (atT T key) else T

theorem Shd.only_b {w w' : World} {base b : Nat} {g n : Int} {vT vM vD vO vI : Value} {T' : List Row} {D : List Rep} {vT' : Value}
    (hD : w.ownsRow base 27 7 vD D.length (D.map Rep.cells).flatten) (hT : w.ownsRow base 82 2 vT' T'.length (T'.map Row.cells).flatten)
    (h0 : w.heap[b]? = some (.cells #[.int .u8 g, .int .u8 n, vT, vM, vD, vO, vI] 74))
    (hb : w'.heap[b]? = some (.cells #[.int .u8 g, .int .u8 n, vT', vM, vD, vO, vI] 74)) (ho : Only b w w') (b1 : base ≤ b) : Shd w' base b g n vT' vM vD vO vI T' D := by
  have off : ∀ {e : TypeId} {k m : Nat} {v : Value} {xs : List Value}, e ≠ 74 → w.ownsRow base e k v m xs → w'.ownsRow base e k v m xs := by
    intro e k m v xs hne hown
    refine hown.kept (grown_onlyJ ho) ?_
    rcases hown.2 with ⟨rfl, _⟩ | ⟨q, cap, cur, rfl, _, hq, _⟩
    · exact .inl rfl
    · right
      intro e2
      simp [Value.ownBlock] at e2
      subst e2
      rw [h0] at hq
      cases hq
      exact hne rfl
  exact ⟨hb, off (by decide) hT, off (by decide) hD, b1⟩

set_option maxHeartbeats 400000 in
set_option maxRecDepth 100000 in
theorem set_any (w : World) (base lim b : Nat) (g n : Int) (vT vM vD vO vI : Value) (T : List Row) (D : List Rep) (key v : Int) (h : Shd w base b g n vT vM vD vO vI T D) (hs : SortT T) (hb : base ≤ w.heap.size) (hbl : b < lim) (hlT : ∀ k, vT.ownBlock = some k → k < lim) (hn : T.length < 1000000) :
    Calls Try.prog 144 #[.pointer (some ⟨b, 0, none⟩), .int .u64 key, .int .u64 v] w fun e w' => e = .returned (.int .u8 (setK T key)) ∧ OutT base lim b g n vT vM vD vO vI (setT T key v) D w w' := by
  obtain ⟨p, hp⟩ : ∃ p, p = atT T key := ⟨_, rfl⟩
  have HP : Hid (atT T key = p) := hp.symm
  have HS : Hid (SortT T) := hs
  have HH : Hid (Shd w base b g n vT vM vD vO vI T D) := h
  have HB : Hid (∀ w1, Below w.heap.size w w1 → w1.heap[b]? = some (.cells #[.int .u8 g, .int .u8 n, vT, vM, vD, vO, vI] 74)) := fun w1 hb1 => blk_later hb1 h.cell
  have hpl : p ≤ T.length := by rw [hp]; exact posB_le _ _
  clear hp
  cases hh : hasT T key with
  | true =>
    obtain ⟨x, hx, hxe⟩ := hitB_some hh
    rw [cmpI_eq] at hxe
    change T[atT T key]? = some x at hx
    rw [HP.out] at hx
    have hxl := (List.getElem?_eq_some_iff.1 hx).1
    rcases h.oT.2 with ⟨_, h0⟩ | ⟨gT, cap, cur, hv2, hbg, hgT, hnc, hcm, hcs, htake⟩
    · omega
    subst hv2
    have hi1 : (0 : Int) ≤ (p : Int) := by omega
    have hi2 : (p : Int) < (T.length : Int) := by omega
    have HG : Hid (∀ w1, Below w.heap.size w w1 → w1.heap[gT]? = some (.cells cur.toList.toArray 82)) := fun w1 hb1 => by rw [Array.toArray_toList]; exact blk_later hb1 hgT
    have hcl : p * 2 + 1 + 1 ≤ cur.toList.length := by rw [Array.length_toList, hcs]; omega
    have hcl3 : cur.toList.length = cap * 2 := by rw [Array.length_toList]; exact hcs
    have hcl2 : T.length * 2 ≤ cur.toList.length := by omega
    have HF : Hid (Nat.ble (p * 2 + 1 + 1) cur.toList.length = true) := by show _ = _; rw [Nat.ble_eq]; exact hcl
    obtain ⟨ys, hys⟩ : ∃ ys, ys = cur.toList.take (p * 2 + 1) ++ [Value.int .u64 v] ++ cur.toList.drop (p * 2 + 1 + 1) := ⟨_, rfl⟩
    have HY : Hid (cur.toList.take (p * 2 + 1) ++ [Value.int .u64 v] ++ cur.toList.drop (p * 2 + 1 + 1) = ys) := hys.symm
    have hc2 := fun w1 hb1 => blk_cell (HB.out w1 hb1) 2
    clear h hs hgT
    go_enter Try.func144, Try.ntmps144
    go_wp2_with (first
      | (go_at_call 156; go_must (refine (row_any _ base b g n (.slice (some ⟨gT, 0, none⟩) T.length cap) vM vD vO vI T D key HH.out HS.out).mono ?_; rintro e w1 ⟨rfl, hb1⟩; rw [hh, HP.out]; have hcS1 := hc2 w1 hb1; clear hc2))
      | (with_reducible show wpList _ _ _ ({ dst := _, op := Op.store 23 _ _, type := _, pos := _, after := _, guard := none } :: _) _ _; go_must (refine wpList_store_cell rfl _ _ _ rfl rfl gT (p * 2 + 1) rfl (.int .u64 v) rfl (by kernel_rfl) rfl _ _ (HG.out w1 hb1) HF.out ys HY.out ?_; intro w2 hw2 ho2; have HW2 : Hid (w2.heap[gT]? = some (.cells ys.toArray 82)) := hideJ hw2; have HO2 : Hid (Only gT w1 w2) := hideJ ho2; clear hw2 ho2)))
    go_ret
    refine ⟨by rw [show setK T key = 2 by simp [setK, hh]]; rfl, .slice (some ⟨gT, 0, none⟩) T.length cap, ?_, (Mod.later hb1).trans (Mod.only HO2.out hbg (hlT gT rfl) (HG.out w1 hb1) kdT), .inl rfl⟩
    have hne : b ≠ gT := by
      intro e
      have h1 := HB.out w1 hb1
      rw [e, HG.out w1 hb1] at h1
      simp at h1
    have hD1 := (HH.out.later hb1).oD
    rw [show setT T key v = T.set p ⟨key, v⟩ by simp [setT, hh, HP.out]]
    have hlen : (T.set p ⟨key, v⟩).length = T.length := List.length_set
    have hfx : ((T.set p ⟨key, v⟩).map Row.cells).flatten = splice (T.map Row.cells).flatten (p * 2 + 1) [Value.int .u64 v] := by
      rw [flat_set row_k T p _ hxl]
      have hTs : T = T.take p ++ (x :: T.drop (p + 1)) := by
        have e := List.take_append_drop p T
        rw [List.drop_eq_getElem_cons hxl, (List.getElem?_eq_some_iff.1 hx).2] at e
        exact e.symm
      have hXs : (T.map Row.cells).flatten = ((T.take p).map Row.cells).flatten ++ (Value.int .u64 key :: Value.int .u64 x.val :: ((T.drop (p + 1)).map Row.cells).flatten) := by
        conv => lhs; rw [hTs]
        simp [Row.cells, hxe]
      have hAl : (((T.take p).map Row.cells).flatten).length = p * 2 := by rw [flat_len' row_k, List.length_take, Nat.min_eq_left (by omega)]
      rw [hXs]
      generalize ((T.take p).map Row.cells).flatten = A at hAl
      unfold splice
      rw [← hAl]
      simp [Row.cells, List.take_append, List.drop_append, List.take_of_length_le, List.drop_eq_nil_of_le]
      rw [show List.drop (A.length + 1 + 1) A = [] from List.drop_eq_nil_of_le (by omega), show A.length + 1 + 1 - A.length = 2 by omega]; rfl
    refine ⟨(HO2.out.block b hne).trans (HB.out w1 hb1), ⟨by rw [flat_len' row_k], .inr ⟨gT, cap, ys.toArray, by rw [hlen], hbg, HW2.out, by rw [hlen]; exact hnc, hcm, ?_, ?_⟩⟩, ?_, HH.out.b1⟩
    · rw [List.size_toArray, ← HY.out, List.length_append, List.length_append, List.length_take, List.length_drop, Array.length_toList, hcs]
      rw [Array.length_toList, hcs] at hcl
      simp only [List.length_cons, List.length_nil]
      omega
    · rw [hlen, hfx, ← splice_take cur.toList _ [Value.int .u64 v] (T.length * 2) (p * 2 + 1) htake hcl2 (by simp only [List.length_cons, List.length_nil]; omega)]
      show ys.take _ = _
      rw [← HY.out, List.append_assoc]; rfl
    · refine hD1.kept (grown_onlyJ HO2.out) ?_
      have hT1 := (HH.out.later hb1).oT
      exact own_apartJ hD1 hT1 (by decide)
  | false =>
    have hc2 := fun w1 hb1 => blk_cell (HB.out w1 hb1) 2
    obtain ⟨a, m, c, hv, hm, hin⟩ := own_slinJ h.oT (fun y => rfl)
    have HM : Hid (m = T.length) := hm
    by_cases h8 : 8 ≤ m
    · have hd8 : decide ((8 : Int) ≤ (m : Int)) = true := by simp; omega
      clear h hs hin hm
      subst hv
      go_enter Try.func144, Try.ntmps144
      go_wp2_with (go_at_call 156; go_must (refine (row_any _ base b g n (.slice a m c) vM vD vO vI T D key HH.out HS.out).mono ?_; rintro e w1 ⟨rfl, hb1⟩; rw [hh, HP.out]; have hcS1 := hc2 w1 hb1; clear hc2))
      go_ret
      exact ⟨by rw [show setK T key = 5 by simp [setK, hh, ← HM.out, h8]]; rfl, .slice a m c, by rw [show setT T key v = T by simp [setT, hh, ← HM.out, h8]]; exact HH.out.later hb1, Mod.later hb1, .inl rfl⟩
    · have hd8 : decide ((8 : Int) ≤ (m : Int)) = false := by simp; omega
      clear h hs hin hm
      have hb0 : Below w.heap.size w w := Below.refl _ _
      have HOB : Hid (∀ k, vT.ownBlock = some k → base ≤ k ∧ k < w.heap.size) := HH.out.oT.lt
      have HV : Hid (vT = .slice a m c) := hv
      subst hv
      go_enter Try.func144, Try.ntmps144
      go_wp2_with (first
        | (go_at_call 156; go_must (refine (row_any _ base b g n (.slice a m c) vM vD vO vI T D key HH.out HS.out).mono ?_; rintro e w1 ⟨rfl, hb1⟩; rw [hh, HP.out]; have hcS1 := hc2 w1 hb1; clear hc2))
        | (go_at_call 157; go_must (refine (ins_row base (.slice a m c) T.length p (T.map Row.cells).flatten [.int .u64 key, .int .u64 v] w1.heap.size _ (own_keepJ (own_keepJ HH.out.oT hb1) (later_alloc _ _)) (rows_oneJ T) rfl (by simp [Value.oneCell']) (heap_alloc_new w1 _) (fun e => by have := (HOB.out _ e).2; have := hb1.size; omega) hpl (by simp; have := hb1.size; omega) hn).mono ?_; rintro e w2 ⟨vT', rfl, hoT, hgr⟩; have HOT : Hid (w2.ownsRow base 82 2 vT' (T.length + 1) (((T.map Row.cells).flatten).take (p * 2) ++ ([.int .u64 key, .int .u64 v] ++ ((T.map Row.cells).flatten).drop (p * 2)))) := hideJ hoT; have HGR : Hid (Grew (w1.alloc (.cells #[.int .u64 key, .int .u64 v] 82)) (.slice a m c) w2 vT') := hideJ hgr; have h1v := own_oneJ hoT; clear hoT hgr; have HB2 : Hid (w2.heap[b]? = some (.cells #[.int .u8 g, .int .u8 n, .slice a m c, vM, vD, vO, vI] 74)) := hideJ (HGR.out.blk (blk_later (later_alloc _ _) (HB.out w1 hb1)) (Ne.symm (shd_off (HB.out w hb0) (by decide) HH.out.oT)))))
        | (with_reducible show wpList _ _ _ ({ dst := _, op := Op.store 30 _ _, type := _, pos := _, after := _, guard := none } :: _) _ _; go_must (refine wpList_store_cell rfl _ _ _ rfl rfl b 2 rfl vT' rfl (by kernel_rfl) h1v [.int .u8 g, .int .u8 n, .slice a m c, vM, vD, vO, vI] 74 HB2.out rfl [.int .u8 g, .int .u8 n, vT', vM, vD, vO, vI] rfl ?_; intro w3 hw3 ho3; have HW3 : Hid (w3.heap[b]? = some (.cells #[.int .u8 g, .int .u8 n, vT', vM, vD, vO, vI] 74)) := hideJ hw3; have HO3 : Hid (Only b w2 w3) := hideJ ho3; clear hw3 ho3)))
      go_ret
      have hTe : setT T key v = insL T p ⟨key, v⟩ := by simp only [setT, hh, HP.out]; rw [if_neg (by simp), if_neg (by rw [← HM.out]; exact h8)]
      have hDw : w2.ownsRow base 27 7 vD D.length (D.map Rep.cells).flatten := by
        have hD1 := own_keepJ (own_keepJ HH.out.oD hb1) (later_alloc w1 (.cells #[.int .u64 key, .int .u64 v] 82))
        have hT1 := own_keepJ (own_keepJ HH.out.oT hb1) (later_alloc w1 (.cells #[.int .u64 key, .int .u64 v] 82))
        exact hD1.kept HGR.out.grown (own_apartJ hD1 hT1 (by decide))
      refine ⟨by rw [show setK T key = 2 by simp only [setK, hh]; rw [if_neg (by simp), if_neg (by rw [← HM.out]; exact h8)]]; rfl, vT', ?_, (Mod.later hb1).trans ((Mod.later (later_alloc _ _)).trans ((Mod.grew HGR.out (fun k hk => ⟨(HOB.out k hk).1, hlT k hk⟩) (own_keepJ (own_keepJ HH.out.oT hb1) (later_alloc w1 _)) kdT).trans (Mod.only HO3.out HH.out.b1 hbl HB2.out kdS))), HGR.out.fresh (Nat.le_trans hb1.size (later_alloc w1 _).size)⟩
      rw [hTe]
      refine Shd.only_b hDw ?_ HB2.out HW3.out HO3.out HH.out.b1
      rw [insL_len, flat_insL row_k]
      exact HOT.out

set_option maxHeartbeats 400000 in
set_option maxRecDepth 100000 in
theorem remove_any (w : World) (base lim b : Nat) (g n : Int) (vT vM vD vO vI : Value) (T : List Row) (D : List Rep) (key : Int) (h : Shd w base b g n vT vM vD vO vI T D) (hs : SortT T) (hbl : b < lim) (hlT : ∀ k, vT.ownBlock = some k → k < lim) (hn : T.length < 1000000) :
    Calls Try.prog 145 #[.pointer (some ⟨b, 0, none⟩), .int .u64 key] w fun e w' => e = .returned (.int .u8 2) ∧ OutT base lim b g n vT vM vD vO vI (delT T key) D w w' := by
  obtain ⟨p, hp⟩ : ∃ p, p = atT T key := ⟨_, rfl⟩
  have HP : Hid (atT T key = p) := hp.symm
  have HS : Hid (SortT T) := hs
  have HH : Hid (Shd w base b g n vT vM vD vO vI T D) := h
  have HB : Hid (∀ w1, Below w.heap.size w w1 → w1.heap[b]? = some (.cells #[.int .u8 g, .int .u8 n, vT, vM, vD, vO, vI] 74)) := fun w1 hb1 => blk_later hb1 h.cell
  have hpl : p ≤ T.length := by rw [hp]; exact posB_le _ _
  clear hp
  obtain ⟨a, m, c, hv, hm, hin⟩ := own_slinJ h.oT (fun y => rfl)
  have hb0 : Below w.heap.size w w := Below.refl _ _
  have HOB : Hid (∀ k, vT.ownBlock = some k → base ≤ k ∧ k < w.heap.size) := HH.out.oT.lt
  have hc2 := fun w1 hb1 => blk_cell (HB.out w1 hb1) 2
  cases hh : hasT T key with
  | true =>
    obtain ⟨x, hx, hxe⟩ := hitB_some hh
    change T[atT T key]? = some x at hx
    rw [HP.out] at hx
    have hxl := (List.getElem?_eq_some_iff.1 hx).1
    have hw1 : wrap64 ((p : Int) + 1) = (p : Int) + 1 := by unfold wrap64; omega
    clear h hs hin hm hx hxe
    subst hv
    go_enter Try.func145, Try.ntmps145
    go_wp2_with (first
      | (go_at_call 156; go_must (refine (row_any _ base b g n (.slice a m c) vM vD vO vI T D key HH.out HS.out).mono ?_; rintro e w1 ⟨rfl, hb1⟩; rw [hh, HP.out]; have hcS1 := hc2 w1 hb1; clear hc2))
      | (go_at_call 158; go_must (refine (del_row base (.slice a m c) T.length p (T.map Row.cells).flatten _ (own_keepJ HH.out.oT hb1) (rows_oneJ T) hxl hn).mono ?_; rintro e w2 ⟨vT', rfl, hoT, hgr⟩; have HOT : Hid (w2.ownsRow base 82 2 vT' (T.length - 1) (((T.map Row.cells).flatten).take (p * 2) ++ ((T.map Row.cells).flatten).drop (p * 2 + 2))) := hideJ hoT; have HGR : Hid (Grew w1 (.slice a m c) w2 vT') := hideJ hgr; have h1v := own_oneJ hoT; clear hoT hgr; have HB2 : Hid (w2.heap[b]? = some (.cells #[.int .u8 g, .int .u8 n, .slice a m c, vM, vD, vO, vI] 74)) := hideJ (HGR.out.blk (HB.out w1 hb1) (Ne.symm (shd_off (HB.out w hb0) (by decide) HH.out.oT)))))
      | (with_reducible show wpList _ _ _ ({ dst := _, op := Op.store 30 _ _, type := _, pos := _, after := _, guard := none } :: _) _ _; go_must (refine wpList_store_cell rfl _ _ _ rfl rfl b 2 rfl vT' rfl (by kernel_rfl) h1v [.int .u8 g, .int .u8 n, .slice a m c, vM, vD, vO, vI] 74 HB2.out rfl [.int .u8 g, .int .u8 n, vT', vM, vD, vO, vI] rfl ?_; intro w3 hw3 ho3; have HW3 : Hid (w3.heap[b]? = some (.cells #[.int .u8 g, .int .u8 n, vT', vM, vD, vO, vI] 74)) := hideJ hw3; have HO3 : Hid (Only b w2 w3) := hideJ ho3; clear hw3 ho3)))
    go_ret
    have hTe : delT T key = T.eraseIdx p := by simp [delT, hh, HP.out]
    have hDw : w2.ownsRow base 27 7 vD D.length (D.map Rep.cells).flatten := by
      have hD1 := own_keepJ HH.out.oD hb1
      have hT1 := own_keepJ HH.out.oT hb1
      exact hD1.kept HGR.out.grown (own_apartJ hD1 hT1 (by decide))
    refine ⟨rfl, vT', ?_, (Mod.later hb1).trans ((Mod.grew HGR.out (fun k hk => ⟨(HOB.out k hk).1, hlT k hk⟩) (own_keepJ HH.out.oT hb1) kdT).trans (Mod.only HO3.out HH.out.b1 hbl HB2.out kdS)), HGR.out.fresh hb1.size⟩
    rw [hTe]
    refine Shd.only_b hDw ?_ HB2.out HW3.out HO3.out HH.out.b1
    rw [List.length_eraseIdx_of_lt hxl, flat_erase row_k]
    exact HOT.out
  | false =>
    clear h hs hin hm
    subst hv
    go_enter Try.func145, Try.ntmps145
    go_wp2_with (go_at_call 156; go_must (refine (row_any _ base b g n (.slice a m c) vM vD vO vI T D key HH.out HS.out).mono ?_; rintro e w1 ⟨rfl, hb1⟩; rw [hh, HP.out]; have hcS1 := hc2 w1 hb1; clear hc2))
    go_ret
    exact ⟨rfl, .slice a m c, by rw [show delT T key = T by simp [delT, hh]]; exact HH.out.later hb1, Mod.later hb1, .inl rfl⟩

end Go.Proofs.Ytignemioillaiaa
