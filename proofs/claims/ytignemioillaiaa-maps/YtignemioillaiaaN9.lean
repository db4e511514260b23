/- The document's answer: Give, from border to border. -/
import Derived.Test.YtignemioillaiaaN8
import Derived.Deep.CutRange
namespace Go.Proofs.Ytignemioillaiaa
open Go.RowKit

def need (out : List Pc) (g : Int) : Bool := match out.getLast? with
  | none => true
  | some y => !(y.g == g)

theorem join_need {out : List Pc} {f g : Int} : join out ⟨f, g⟩ = if need out g then out ++ [⟨f, g⟩] else out := by
  unfold join need
  cases h : out.getLast? with
  | none => simp
  | some y => by_cases h : y.g = g <;> simp [h]

set_option maxHeartbeats 4000000 in
set_option maxRecDepth 100000 in
theorem ref_give_yes (a : Option Addr) (n c : Nat) (m : List Pc) (lo hi g : Int) (w : World) (h : MapIn w a n c m) (hwf : ∀ (i : Nat) (x : Pc), m[i]? = some x → x.wf) (hyes : mapOk m = true) (hcan : Can m) (hm : m.length ≤ 1000) (h0 : 0 ≤ lo) (hlh : lo ≤ hi) (h1 : hi < 18446744073709551616) (hg0 : 0 ≤ g) (hg4 : g < 4) :
    Calls Try.prog 21 #[.slice a n c, .int .u64 lo, .int .u64 hi, .int .u8 g] w fun e w' => ∃ v', e = .returned (.tuple #[v', .int .i64 (lateE (giveL m lo hi g))]) ∧ OwnP w.heap.size w' v' (lateL (giveL m lo hi g)) ∧ Below w.heap.size w w' := by
  obtain ⟨i0, hi0, hz0, hz1, hz2⟩ := info_parts info_pc
  have hlen : n = m.length := by simpa using h.len
  have hlm : n ≤ 1000 := by omega
  have HL : Hid (n = m.length) := hlen
  have HC : Hid (Can m) := hcan
  have hd1 : decide (hi < lo) = false := by simp; omega
  have hd2 : decide (3 < g) = false := by simp; omega
  clear hlen hcan
  go_enter Try.func21, Try.ntmps21
  go_wp2_with (go_at_call 56; go_must (refine (ref_ismap _ _ _ m _ h hwf).mono ?_; rintro e w1 ⟨rfl, hb1⟩; rw [hyes]))
  go_loopw [11, 12] (fun vo va wr => ∃ (out : List Pc) (at' : Int), va = .int .u64 at' ∧ 0 ≤ at' ∧ at' < 18446744073709551616 ∧ Hid (OwnP w.heap.size wr vo out) ∧ Hid (Came (giv m lo hi g) out at') ∧ Hid (out.length ≤ (0 :: borders m lo hi).countP fun x => decide (x < at')) ∧ Hid (at' ∈ 0 :: borders m lo hi) ∧ Below w.heap.size w wr) (fun _ va _ => (18446744073709551616 - intOf va).toNat)
  case atStart => exact ⟨[], 0, rfl, Int.le_refl _, by decide, ownp_nil _ _, .inl ⟨rfl, rfl⟩, Nat.zero_le _, by show (0 : Int) ∈ _; simp, hb1⟩
  case round =>
    obtain ⟨out, at', rfl, ha0, ha1, HO, HK, HN, HI, hnx⟩ := hrel
    have hS : MapIn wr a n c m := h.later hnx
    go_upto_region 9 with (go_at_call 57; go_must (refine (ref_owner _ _ _ m _ _ hS).mono ?_; rintro e w2 ⟨rfl, hb2⟩))
    go_cut [37] from 27 to 132 (fun s wx => s = .bool (decide (lo ≤ at' ∧ at' ≤ hi)) ∧ w2 = wx)
    case first =>
      by_cases e1 : lo ≤ at'
      · have d1 : decide (lo ≤ at') = true := by simp [e1]
        by_cases e2 : at' ≤ hi
        · have d2 : decide (at' ≤ hi) = true := by simp [e2]
          go_wp2_with fail
          go_meet
          exact ⟨congrArg Value.bool (decide_eq_true (p := lo ≤ at' ∧ at' ≤ hi) (by omega)).symm, rfl⟩
        · have d2 : decide (at' ≤ hi) = false := by simp; omega
          go_wp2_with fail
          go_meet
          exact ⟨congrArg Value.bool (decide_eq_false (p := lo ≤ at' ∧ at' ≤ hi) (by omega)).symm, rfl⟩
      · have d1 : decide (lo ≤ at') = false := by simp; omega
        go_wp2_with fail
        go_meet
        exact ⟨congrArg Value.bool (decide_eq_false (p := lo ≤ at' ∧ at' ≤ hi) (by omega)).symm, rfl⟩
    case rest =>
      obtain ⟨rfl, rfl⟩ := hcut
      go_upto_if 37 with fail
      go_cut [13] from 27 to 132 (fun s wx => s = .int .u8 (giv m lo hi g at') ∧ w2 = wx)
      case first =>
        by_cases e1 : lo ≤ at' ∧ at' ≤ hi
        · have d1 : decide (lo ≤ at' ∧ at' ≤ hi) = true := by simp [e1]
          go_wp2_with fail
          go_meet
          exact ⟨by unfold giv; rw [if_pos e1], rfl⟩
        · have d1 : decide (lo ≤ at' ∧ at' ≤ hi) = false := decide_eq_false e1
          go_wp2_with fail
          go_meet
          exact ⟨by unfold giv; rw [if_neg e1], rfl⟩
      case rest =>
        obtain ⟨rfl, rfl⟩ := hcut
        have hgv := giv_grp HC.out (lo := lo) (hi := hi) ⟨hg0, hg4⟩ at'
        have HJ : Hid (Inv (join out ⟨at', giv m lo hi g at'⟩) at' (giv m lo hi g)) := came_join HK.out ha1 hgv
        have HM : Hid ((join out ⟨at', giv m lo hi g at'⟩).length ≤ ((0 :: borders m lo hi).countP fun x => decide (x < at')) + 1) := Nat.le_trans (join_len _ _) (Nat.add_le_add_right HN.out 1)
        have HB : Hid (out.length ≤ 1003) := by
          have e1 := List.countP_le_length (p := fun x => decide (x < at')) (l := 0 :: borders m lo hi)
          have e2 : (0 :: borders m lo hi).length ≤ m.length + 3 := by unfold borders; split <;> simp
          have := HN.out
          show out.length ≤ 1003
          omega
        obtain ⟨gv, egv⟩ : ∃ x, x = giv m lo hi g at' := ⟨_, rfl⟩
        rw [← egv] at HJ HM ⊢
        have ho2 := ownp_below HO.out hb2
        have hn2 : Below w.heap.size w w2 := hnx.trans (hb2.mono hnx.size)
        obtain ⟨a1, n1, c1, ev, hin1, _⟩ := ho2.slin
        subst ev
        have hn1 : Hid (n1 = out.length) := by show _ = _; simpa using hin1.len
        have hn1m : n1 ≤ 1003 := by rw [hn1.out]; exact HB.out
        have hsw := hn2.size
        clear egv hgv HK HN HO hb2 hnx hS
        go_upto_region 11 with fail
        go_cut [52] from 27 to 132 (fun s wx => s = .bool (need out gv) ∧ w2 = wx)
        case first =>
          by_cases hz : n1 = 0
          · subst hz
            have : need out gv = true := by
              have : out = [] := List.eq_nil_of_length_eq_zero hn1.out.symm
              subst this; rfl
            go_wp2_with fail
            go_meet
            exact ⟨congrArg Value.bool this.symm, rfl⟩
          · obtain ⟨y, hy⟩ : ∃ y, out[out.length - 1]? = some y := ⟨out[out.length - 1]'(by rw [← hn1.out]; omega), by simp⟩
            obtain ⟨b, off, ha, hbB, hc0, hc1⟩ := hin1.atP hy
            obtain rfl : a1 = some ⟨b, off, none⟩ := ha
            rw [← hn1.out] at hc1
            have hnd : need out gv = !(y.g == gv) := by unfold need; rw [List.getLast?_eq_getElem?, hy]
            clear hy hc0
            obtain ⟨yf, yg⟩ := y
            dsimp only at hc1 hnd
            have hj0 : (0 : Int) ≤ (n1 : Int) - 1 := by omega
            have hj1 : (n1 : Int) - 1 < (n1 : Int) := by omega
            have hzd : ((n1 : Int) == 0) = false := by simp; omega
            have hn0 : 0 < n1 := by omega
            go_wp2_with fail
            go_meet
            exact ⟨congrArg Value.bool (by rw [hnd]; rfl), rfl⟩
        case rest =>
          obtain ⟨rfl, rfl⟩ := hcut
          go_upto_if 52 with fail
          go_cut [11] from 27 to 132 (fun s wx => Hid (OwnP w.heap.size wx s (join out ⟨at', gv⟩)) ∧ Below w.heap.size w wx)
          case first =>
            cases hnd : need out gv
            · go_wp2_with fail
              go_meet
              refine ⟨?_, hn2⟩
              show OwnP _ _ _ _
              rw [join_need, hnd]; exact ho2
            · go_wp2_with (first | (at_builtin; go_must (refine wpList_append_new _ rfl _ _ 62 rfl w.heap.size 64 i0 (.agg #[.int .u64 0, .int .u8 0]) 2 16 Try.underlying62 hi0 hz0 hz1 hz2 rfl (by decide) _ _ _ rfl (ownp_alloc ho2 _) _ 1 1 [.int .u64 at', .int .u8 gv] rfl rfl ?_ ?_ ?_ ?_ ?_ ?_)))
              case refine_1 => exact pc_new rfl
              case refine_2 => exact pc_one1 at' gv
              case refine_3 => unfold maxLen; have := hn1.out; omega
              case refine_4 => have := hn1.out; omega
              case refine_5 => simp; omega
              intro v' w3 ho3 hg3
              go_wp2
              go_meet
              refine ⟨?_, ?_⟩
              · show OwnP _ _ _ _
                rw [join_need, hnd]; exact ownp_snoc ho3
              · exact hn2.trans ((Below.mono (later_alloc w2 _) (by omega)).trans (hg3.belowP (ownp_alloc ho2 _) (by simp; omega)))
          case rest =>
            obtain ⟨HO2, hn3⟩ := hcut
            obtain ⟨a2, n2, c2, ev, hin2, _⟩ := HO2.out.slin
            subst ev
            have hn2' : Hid (n2 = (join out ⟨at', gv⟩).length) := by show _ = _; simpa using hin2.len
            have hn2m : n2 ≤ 1004 := by have := hn2'.out; have := HB.out; have := join_len out ⟨at', gv⟩; omega
            have hS' : MapIn wc a n c m := h.later hn3
            clear hin2 hin1 ho2 hn2 hsw hn1 hn1m HB
            go_wp2_with fail
            go_loopw [14, 15] (fun vn i wr2 => ∃ (k : Nat) (nx : Int), k ≤ n ∧ i = .int .i64 k ∧ vn = .int .u64 nx ∧ at' ≤ nx ∧ nx < 18446744073709551616 ∧ Hid (Nx ((m.take k).map Pc.f) at' nx) ∧ wc = wr2) (fun _ i _ => n - (intOf i).toNat)
            case atStart => exact ⟨0, at', Nat.zero_le _, rfl, rfl, Int.le_refl _, ha1, nx_nil at', rfl⟩
            case round =>
              obtain ⟨k, nx, hk, rfl, rfl, hx0, hx1, HX, rfl⟩ := hrel
              by_cases hlt : k < n
              · have hdk : decide ((k : Int) < (n : Int)) = true := by simp; omega
                obtain ⟨x, hx⟩ : ∃ x, m[k]? = some x := ⟨m[k]'(by rw [← HL.out]; exact hlt), by simp⟩
                obtain ⟨b, off, ha, hbB', hc0, hc1⟩ := hS'.atP hx
                obtain rfl : a = some ⟨b, off, none⟩ := ha
                have hxw := hwf k x hx
                have HT : Hid ((m.take (k + 1)).map Pc.f = (m.take k).map Pc.f ++ [x.f]) := by
                  show _ = _
                  rw [List.take_add_one, hx]; simp
                clear hx hc1
                obtain ⟨xf, xg⟩ := x
                dsimp only at hc0 HT
                obtain ⟨xw0, xw1, _, _⟩ := hxw
                dsimp only at xw0 xw1
                have hi1 : (0 : Int) ≤ (k : Int) := by omega
                have hi2 : (k : Int) < (n : Int) := by omega
                by_cases e1 : at' < xf
                · have d1 : decide (at' < xf) = true := by simp [e1]
                  by_cases e2 : nx = at'
                  · have d2 : (nx == at') = true := by simp [e2]
                    have HX' : Hid (Nx ((m.take (k + 1)).map Pc.f) at' xf) := by show Nx _ _ _; rw [HT.out]; exact nx_take HX.out e1 (.inl e2)
                    go_wp2_with fail
                    go_roundw
                    case rel => exact ⟨k + 1, xf, by omega, by go_num, rfl, by omega, xw1, HX', trivial⟩
                    case measure => simp [intOf]; omega
                  · have d2 : (nx == at') = false := by simp [e2]
                    by_cases e3 : xf < nx
                    · have d3 : decide (xf < nx) = true := by simp [e3]
                      have HX' : Hid (Nx ((m.take (k + 1)).map Pc.f) at' xf) := by show Nx _ _ _; rw [HT.out]; exact nx_take HX.out e1 (.inr e3)
                      go_wp2_with fail
                      go_roundw
                      case rel => exact ⟨k + 1, xf, by omega, by go_num, rfl, by omega, xw1, HX', trivial⟩
                      case measure => simp [intOf]; omega
                    · have d3 : decide (xf < nx) = false := by simp; omega
                      have HX' : Hid (Nx ((m.take (k + 1)).map Pc.f) at' nx) := by show Nx _ _ _; rw [HT.out]; exact nx_leave HX.out (by omega)
                      go_wp2_with fail
                      go_roundw
                      case rel => exact ⟨k + 1, nx, by omega, by go_num, rfl, hx0, hx1, HX', trivial⟩
                      case measure => simp [intOf]; omega
                · have d1 : decide (at' < xf) = false := by simp; omega
                  have HX' : Hid (Nx ((m.take (k + 1)).map Pc.f) at' nx) := by show Nx _ _ _; rw [HT.out]; exact nx_leave HX.out (by omega)
                  go_wp2_with fail
                  go_roundw
                  case rel => exact ⟨k + 1, nx, by omega, by go_num, rfl, hx0, hx1, HX', trivial⟩
                  case measure => simp [intOf]; omega
              · have hdk : decide ((k : Int) < (n : Int)) = false := by simp; omega
                obtain rfl : k = n := by omega
                have HX1 : Hid (Nx (m.map Pc.f) at' nx) := by have := HX.out; rw [HL.out, List.take_length] at this; exact this
                clear HX hdk hk hlt
                go_upto_region 19 with fail
                go_cut [104] from 27 to 132 (fun s wx => s = .bool (decide (at' < lo ∧ (nx = at' ∨ lo < nx))) ∧ wc = wx)
                case first =>
                  by_cases e1 : at' < lo
                  · have d1 : decide (at' < lo) = true := by simp [e1]
                    by_cases e2 : nx = at'
                    · have d2 : (nx == at') = true := by simp [e2]
                      have E : decide (at' < lo ∧ (nx = at' ∨ lo < nx)) = true := decide_eq_true (by omega)
                      clear e2
                      go_wp2_with fail
                      go_meet
                      exact ⟨congrArg Value.bool E.symm, rfl⟩
                    · have d2 : (nx == at') = false := by simp [e2]
                      by_cases e3 : lo < nx
                      · have d3 : decide (lo < nx) = true := by simp [e3]
                        have E : decide (at' < lo ∧ (nx = at' ∨ lo < nx)) = true := decide_eq_true (by omega)
                        go_wp2_with fail
                        go_meet
                        exact ⟨congrArg Value.bool E.symm, rfl⟩
                      · have d3 : decide (lo < nx) = false := by simp; omega
                        have E : decide (at' < lo ∧ (nx = at' ∨ lo < nx)) = false := decide_eq_false (by omega)
                        go_wp2_with fail
                        go_meet
                        exact ⟨congrArg Value.bool E.symm, rfl⟩
                  · have d1 : decide (at' < lo) = false := by simp; omega
                    have E : decide (at' < lo ∧ (nx = at' ∨ lo < nx)) = false := decide_eq_false (by omega)
                    go_wp2_with fail
                    go_meet
                    exact ⟨congrArg Value.bool E.symm, rfl⟩
                case rest =>
                  obtain ⟨rfl, rfl⟩ := hcut
                  go_upto_if 104 with fail
                  go_cut [14] from 27 to 132 (fun s wx => (∃ nx1, s = .int .u64 nx1 ∧ at' ≤ nx1 ∧ nx1 < 18446744073709551616 ∧ Hid (Nx (m.map Pc.f ++ [lo]) at' nx1)) ∧ wc = wx)
                  case first =>
                    by_cases e1 : at' < lo ∧ (nx = at' ∨ lo < nx)
                    · have d1 : decide (at' < lo ∧ (nx = at' ∨ lo < nx)) = true := decide_eq_true e1
                      have HX2 : Hid (Nx (m.map Pc.f ++ [lo]) at' lo) := nx_take HX1.out e1.1 e1.2
                      have e1' : at' < lo := e1.1
                      generalize decide (at' < lo ∧ (nx = at' ∨ lo < nx)) = dd at d1
                      subst d1
                      clear e1
                      go_wp2_with fail
                      go_meet
                      exact ⟨⟨lo, rfl, by omega, by omega, HX2⟩, rfl⟩
                    · have d1 : decide (at' < lo ∧ (nx = at' ∨ lo < nx)) = false := decide_eq_false e1
                      have HX2 : Hid (Nx (m.map Pc.f ++ [lo]) at' nx) := nx_leave HX1.out e1
                      generalize decide (at' < lo ∧ (nx = at' ∨ lo < nx)) = dd at d1
                      subst d1
                      clear e1
                      go_wp2_with fail
                      go_meet
                      exact ⟨⟨nx, rfl, hx0, hx1, HX2⟩, rfl⟩
                  case rest =>
                    clear HX1 hx0 hx1
                    obtain ⟨⟨nx1, rfl, hx0, hx1, HX2⟩, rfl⟩ := hcut
                    go_upto_region 21 with fail
                    go_cut [126] from 27 to 132 (fun s wx => s = .bool (decide (hi ≠ 18446744073709551615 ∧ at' < hi + 1 ∧ (nx1 = at' ∨ hi + 1 < nx1))) ∧ wc = wx)
                    case first =>
                      by_cases hmax : hi = 18446744073709551615
                      · have d1 : decide (at' < 0) = false := by simp; omega
                        have hwz : IntKind.u64.wrap 18446744073709551616 = 0 := by decide
                        subst hmax
                        go_wp2_with fail
                        go_meet
                        exact ⟨congrArg Value.bool (decide_eq_false (fun h => h.1 rfl)).symm, rfl⟩
                      · have hh : hi + 1 < 18446744073709551616 := by omega
                        have d9 : decide (hi < hi + 1) = true := by simp; omega
                        by_cases e1 : at' < hi + 1
                        · have d1 : decide (at' < hi + 1) = true := by simp [e1]
                          by_cases e2 : nx1 = at'
                          · have d2 : (nx1 == at') = true := by simp [e2]
                            have E : decide (hi ≠ 18446744073709551615 ∧ at' < hi + 1 ∧ (nx1 = at' ∨ hi + 1 < nx1)) = true := decide_eq_true (by omega)
                            clear e2
                            go_wp2_with fail
                            go_meet
                            exact ⟨congrArg Value.bool E.symm, rfl⟩
                          · have d2 : (nx1 == at') = false := by simp [e2]
                            by_cases e3 : hi + 1 < nx1
                            · have d3 : decide (hi + 1 < nx1) = true := by simp [e3]
                              have E : decide (hi ≠ 18446744073709551615 ∧ at' < hi + 1 ∧ (nx1 = at' ∨ hi + 1 < nx1)) = true := decide_eq_true (by omega)
                              go_wp2_with fail
                              go_meet
                              exact ⟨congrArg Value.bool E.symm, rfl⟩
                            · have d3 : decide (hi + 1 < nx1) = false := by simp; omega
                              have E : decide (hi ≠ 18446744073709551615 ∧ at' < hi + 1 ∧ (nx1 = at' ∨ hi + 1 < nx1)) = false := decide_eq_false (by omega)
                              go_wp2_with fail
                              go_meet
                              exact ⟨congrArg Value.bool E.symm, rfl⟩
                        · have d1 : decide (at' < hi + 1) = false := by simp; omega
                          have E : decide (hi ≠ 18446744073709551615 ∧ at' < hi + 1 ∧ (nx1 = at' ∨ hi + 1 < nx1)) = false := decide_eq_false (by omega)
                          go_wp2_with fail
                          go_meet
                          exact ⟨congrArg Value.bool E.symm, rfl⟩
                    case rest =>
                      obtain ⟨rfl, rfl⟩ := hcut
                      go_upto_if 126 with fail
                      go_cut [14] from 27 to 132 (fun s wx => (∃ nx2, s = .int .u64 nx2 ∧ at' ≤ nx2 ∧ nx2 < 18446744073709551616 ∧ Hid (Nx (borders m lo hi) at' nx2)) ∧ wc = wx)
                      case first =>
                        by_cases e1 : hi ≠ 18446744073709551615 ∧ at' < hi + 1 ∧ (nx1 = at' ∨ hi + 1 < nx1)
                        · have d1 : decide (hi ≠ 18446744073709551615 ∧ at' < hi + 1 ∧ (nx1 = at' ∨ hi + 1 < nx1)) = true := decide_eq_true e1
                          have HX3 : Hid (Nx (borders m lo hi) at' (hi + 1)) := by
                            show Nx _ _ _
                            unfold borders; rw [if_neg e1.1]; exact nx_take HX2.out e1.2.1 e1.2.2
                          have e1' : at' < hi + 1 := e1.2.1
                          have hh : hi + 1 < 18446744073709551616 := by have := e1.1; omega
                          generalize decide (hi ≠ 18446744073709551615 ∧ at' < hi + 1 ∧ (nx1 = at' ∨ hi + 1 < nx1)) = dd at d1
                          subst d1
                          clear e1
                          go_wp2_with fail
                          go_meet
                          exact ⟨⟨hi + 1, rfl, by omega, hh, HX3⟩, rfl⟩
                        · have d1 : decide (hi ≠ 18446744073709551615 ∧ at' < hi + 1 ∧ (nx1 = at' ∨ hi + 1 < nx1)) = false := decide_eq_false e1
                          have HX3 : Hid (Nx (borders m lo hi) at' nx1) := by
                            show Nx _ _ _
                            unfold borders
                            by_cases hmax : hi = 18446744073709551615
                            · rw [if_pos hmax, List.append_nil]; exact HX2.out
                            · rw [if_neg hmax]; exact nx_leave HX2.out (fun hc => e1 ⟨hmax, hc.1, hc.2⟩)
                          generalize decide (hi ≠ 18446744073709551615 ∧ at' < hi + 1 ∧ (nx1 = at' ∨ hi + 1 < nx1)) = dd at d1
                          subst d1
                          clear e1
                          go_wp2_with fail
                          go_meet
                          exact ⟨⟨nx1, rfl, hx0, hx1, HX3⟩, rfl⟩
                      case rest =>
                        clear HX2 hx0 hx1
                        obtain ⟨⟨nx2, rfl, hx0, hx1, HX3⟩, rfl⟩ := hcut
                        by_cases e : nx2 = at'
                        · have d : (nx2 == at') = true := by simp [e]
                          have HE : Hid (join out ⟨at', gv⟩ = giveL m lo hi g) := came_end HC.out h0 hlh h1 ⟨hg0, hg4⟩ HJ.out (by have := HX3.out; rw [e] at this; exact this)
                          clear e
                          go_wp2_with fail
                          · go_ret2
                            have hlt : 1000 < n2 := by omega
                            rw [hn2'.out, HE.out] at hlt
                            refine ⟨.slice none 0 0, ?_, ?_, hn3⟩
                            · unfold lateE; rw [if_pos hlt]; rfl
                            · unfold lateL; rw [if_pos hlt]; exact ownp_nil _ _
                          · go_ret2
                            have hlt : ¬ 1000 < n2 := by omega
                            rw [hn2'.out, HE.out] at hlt
                            refine ⟨.slice a2 n2 c2, ?_, ?_, hn3⟩
                            · unfold lateE; rw [if_neg hlt]; rfl
                            · unfold lateL; rw [if_neg hlt]; have := HO2.out; rw [HE.out] at this; exact this
                        · have d : (nx2 == at') = false := by simp [e]
                          have hlt2 : at' < nx2 := by omega
                          go_wp2_with fail
                          go_roundw
                          case rel =>
                            have HR : nx2 ∈ 0 :: borders m lo hi := by
                              rcases HX3.out with ⟨h9, _⟩ | ⟨_, h9, _⟩
                              · exact (e h9).elim
                              · exact List.mem_cons_of_mem _ h9
                            exact ⟨_, _, rfl, by omega, hx1, HO2, came_next HJ.out HX3.out e hx1, Nat.le_trans HM.out (count_next HI.out hlt2), HR, hn3⟩
                          case measure => simp [intOf]; omega

end Go.Proofs.Ytignemioillaiaa
