/- shard.ask whole (a right request, the group's own key), and shard.sound of a group alone. -/
import Derived.Test.YtignemioillaiaaJ19
namespace Go.Proofs.Ytignemioillaiaa
open Go.RowKit Go.Lib

/-- What a group does with a right request for a key of its own. -/
def AskOut (T : List Row) (D : List Rep) (q : Req) (T' : List Row) (D' : List Rep) (p : Rep) : Prop :=
  (∃ x, hasD D ⟨q.c, q.s, q.key, 0, false, 0, 0⟩ = true ∧ D[atD D ⟨q.c, q.s, q.key, 0, false, 0, 0⟩]? = some x ∧ q.s ≤ x.s ∧ T' = T ∧ D' = D ∧ p = if x.s = q.s then x else ⟨q.c, q.s, q.key, 4, false, 0, 0⟩) ∨
  ((hasD D ⟨q.c, q.s, q.key, 0, false, 0, 0⟩ = false ∨ ∃ x, hasD D ⟨q.c, q.s, q.key, 0, false, 0, 0⟩ = true ∧ D[atD D ⟨q.c, q.s, q.key, 0, false, 0, 0⟩]? = some x ∧ x.s < q.s) ∧
    ∃ pk pf pv, Done T q.k q.key false 0 pk pf pv ∧ p = ⟨q.c, q.s, q.key, pk, pf, pv, 0⟩ ∧ T' = doT T q.k q.key q.v ∧ D' = remD D p)

theorem ask_any (w : World) (base lim b : Nat) (g n : Int) (vT vD vO vI : Value) (ma : Option Addr) (mn mc : Nat) (m : List Pc) (T : List Row) (D : List Rep) (qc qs qk qkey qv qhi qto : Int) (h : Shd w base b g n vT (.slice ma mn mc) vD vO vI T D) (hM : MapIn w ma mn mc m) (hmok : mapOk m = true) (hcan : Can m) (hk0 : 0 ≤ qkey) (hok : (Req.mk qc qs qk qkey qv qhi qto).ok = true) (mx : Int) (hmx : qkey < qhi ∧ mx = qhi ∨ qhi ≤ qkey ∧ mx = qkey) (hst : strB m g qkey mx = false) (hsT : SortT T) (hsD : SortD D) (hb : base ≤ w.heap.size) (hlw : lim ≤ w.heap.size) (hbl : b < lim) (hlT : ∀ k, vT.ownBlock = some k → k < lim) (hlD : ∀ k, vD.ownBlock = some k → k < lim) (hnT : T.length < 1000000) (hnD : D.length < 1000000)
    (hkind : qk = 1 ∨ qk = 2 ∨ qk = 3 ∨ qk = 4) (hto : qk = 4 → qto = g ∨ n ≤ qto) :
    Calls Try.prog 66 #[.pointer (some ⟨b, 0, none⟩), .agg #[.int .u8 qc, .int .u32 qs, .int .u8 qk, .int .u64 qkey, .int .u64 qv, .int .u64 qhi, .int .u8 qto]] w fun e w' => ∃ pc ps pkey pk pf pv pg T' D', e = .returned (.agg #[.int .u8 pc, .int .u32 ps, .int .u64 pkey, .int .u8 pk, .bool pf, .int .u64 pv, .int .u8 pg]) ∧ AskOut T D (Req.mk qc qs qk qkey qv qhi qto) T' D' (Rep.mk pc ps pkey pk pf pv pg) ∧ OutS base lim b g n vT (.slice ma mn mc) vD vO vI T' D' w w' := by
  cases hh : hasD D (Rep.mk qc qs qkey 0 false 0 0) with
  | false =>
    refine (ask_new w base lim b g n vT vD vO vI ma mn mc m T D qc qs qk qkey qv qhi qto h hM hmok hcan hk0 hok mx hmx hst hsD hlw hbl hlT hlD hsT hb hnT hnD hkind hto hh).mono ?_
    rintro e w' ⟨pk, pf, pv, rfl, hd, ho⟩
    exact ⟨_, _, _, _, _, _, _, _, _, rfl, .inr ⟨.inl hh, pk, pf, pv, hd, rfl, rfl, rfl⟩, ho⟩
  | true =>
    obtain ⟨x, hx, _⟩ := hitB_some hh
    obtain ⟨xc, xs, xkey, xk, xf, xv, xg⟩ := x
    rcases Int.lt_trichotomy xs qs with hlt | heq | hgt
    · refine (ask_old w base lim b g n vT vD vO vI ma mn mc m T D qc qs qk qkey qv qhi qto h hM hmok hcan hk0 hok mx hmx hst hsD hlw hbl hlT hlD hsT hb hnT hnD hkind hto hh xc xs xkey xk xf xv xg hx hlt).mono ?_
      rintro e w' ⟨pk, pf, pv, rfl, hd, ho⟩
      exact ⟨_, _, _, _, _, _, _, _, _, rfl, .inr ⟨.inr ⟨_, hh, hx, hlt⟩, pk, pf, pv, hd, rfl, rfl, rfl⟩, ho⟩
    · refine (ask_same w base lim b g n vT vD vO vI ma mn mc m T D qc qs qk qkey qv qhi qto h hM hmok hcan hk0 hok mx hmx hst hsD hlw hbl hlT hlD hh xc xs xkey xk xf xv xg hx heq).mono ?_
      rintro e w' ⟨rfl, ho⟩
      exact ⟨_, _, _, _, _, _, _, _, _, rfl, .inl ⟨_, hh, hx, by show qs ≤ xs; omega, rfl, rfl, by rw [if_pos heq]⟩, ho⟩
    · refine (ask_stale w base lim b g n vT vD vO vI ma mn mc m T D qc qs qk qkey qv qhi qto h hM hmok hcan hk0 hok mx hmx hst hsD hlw hbl hlT hlD hh xc xs xkey xk xf xv xg hx hgt).mono ?_
      rintro e w' ⟨rfl, ho⟩
      exact ⟨_, _, _, _, _, _, _, _, _, rfl, .inl ⟨_, hh, hx, by show qs ≤ xs; omega, rfl, rfl, by rw [if_neg (by show ¬ xs = qs; omega)]⟩, ho⟩

/-- The map of a group that is alone. -/
def oneMap : List Pc := [⟨0, 0⟩]
theorem oneMap_ok : mapOk oneMap = true := by decide
theorem oneMap_can : Can oneMap := ⟨rfl, by decide, by decide, trivial⟩
theorem oneMap_str (lo hi : Int) (h : 0 ≤ lo) : strB oneMap 0 lo hi = false := by
  have e : own 0 oneMap lo = 0 := by simp [own, oneMap]
  have f : inP lo hi ⟨0, 0⟩ = false := by simp [inP]; omega
  rw [strB, e, if_neg (by simp)]
  simp [oneMap, f]

theorem one_map {w : World} {base : Nat} {ma : Option Addr} {mn mc : Nat} (h : w.ownsRow base 64 2 (.slice ma mn mc) 1 [[Value.int .u64 0, .int .u8 0]].flatten) : MapIn w ma mn mc oneMap := by
  obtain ⟨a, n, c, e, hin, _⟩ := own_slin (xs := [[Value.int .u64 0, .int .u8 0]]) h (by simp)
  cases e
  exact hin

theorem own_num {w : World} {base : Nat} {e : TypeId} {k n m : Nat} {a : Option Addr} {c : Nat} {xs : List Value} (h : w.ownsRow base e k (.slice a m c) n xs) : m = n := by
  rcases h.2 with ⟨h1, h2⟩ | ⟨_, _, _, h1, _⟩
  · cases h1; exact h2.symm
  · cases h1; rfl

set_option maxHeartbeats 400000 in
set_option maxRecDepth 100000 in
theorem sound_one (w : World) (base : Nat) (vT vM vD vO vI : Value) (T : List Row) (D : List Rep) (h : One w base vT vM vD vO vI T D) :
    Calls Try.prog 65 #[.agg #[.int .u8 0, .int .u8 1, vT, vM, vD, vO, vI]] w fun e w' => e = .returned (.bool true) ∧ Below w.heap.size w w' := by
  obtain ⟨xa, xn, xc, rfl⟩ := own_shapeJ h.oM
  obtain ⟨oa, on, oc, rfl⟩ := own_shapeJ h.oO
  obtain ⟨ia, il, ic, rfl⟩ := own_shapeJ h.oI
  obtain rfl := own_num h.oO
  obtain rfl := own_num h.oI
  obtain ⟨W, hW⟩ : ∃ W, W = w.alloc (.cells #[.int .u8 0, .int .u8 1, vT, .slice xa xn xc, vD, .slice oa 1 oc, .slice ia 1 ic] 74) := ⟨_, rfl⟩
  have hQ : W.heap[w.heap.size]? = some (.cells #[.int .u8 0, .int .u8 1, vT, .slice xa xn xc, vD, .slice oa 1 oc, .slice ia 1 ic] 74) := by rw [hW]; exact heap_alloc_new w _
  have hWl : Below w.heap.size w W := by rw [hW]; exact later_alloc w _
  have HM : Hid (MapIn W xa xn xc oneMap) := (one_map h.oM).later hWl
  have HQ : Hid (W.heap[w.heap.size]? = some (.cells #[.int .u8 0, .int .u8 1, vT, .slice xa xn xc, vD, .slice oa 1 oc, .slice ia 1 ic] 74)) := hQ
  have HWL : Hid (Below w.heap.size w W) := hWl
  have hc3 : W.cell? ⟨w.heap.size, 3, none⟩ = some (.slice xa xn xc) := blk_cell hQ 3
  have h1T := own_oneJ h.oT
  have h1D := own_oneJ h.oD
  obtain ⟨ta, tn, tc, rfl⟩ := own_shapeJ h.oT
  obtain ⟨da, dn, dc, rfl⟩ := own_shapeJ h.oD
  clear h hWl hQ
  go_enter Try.func65, Try.ntmps65
  go_upto_region 1 with fail
  rw [← hW]
  clear hW
  go_wp2_with (go_at_call 18; go_must (refine (find_yes xa xn xc oneMap 0 _ HM.out oneMap_ok oneMap_can (by decide)).mono ?_; rintro e w1 ⟨rfl, hb1⟩; have e1 : w1.cell? ⟨w.heap.size, 1, none⟩ = some (.int .u8 1) := blk hb1 HQ.out 1; have e0 : w1.cell? ⟨w.heap.size, 0, none⟩ = some (.int .u8 0) := blk hb1 HQ.out 0; have e5 : w1.cell? ⟨w.heap.size, 5, none⟩ = some (.slice oa 1 oc) := blk hb1 HQ.out 5; have e6 : w1.cell? ⟨w.heap.size, 6, none⟩ = some (.slice ia 1 ic) := blk hb1 HQ.out 6))
  go_ret
  exact ⟨rfl, later_trans HWL.out hb1⟩

end Go.Proofs.Ytignemioillaiaa
