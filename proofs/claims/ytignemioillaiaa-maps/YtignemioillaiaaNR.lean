/- Maps, as the row says it: for every map, key, range and group the law answers true, and all five arguments read behind the call as they read before. No condition. -/
import Derived.Test.YtignemioillaiaaR
import Derived.Test.YtignemioillaiaaN12
import Derived.SizedLaws
namespace Go.Proofs.Ytignemioillaiaa
open Go.ChangeShapes Go.WideShapes Go.ChangeAt Go.RowKit

theorem Try.cells64 : Try.prog.cellsOf 64 = 2 := by kernel_rfl
theorem Try.bytes64 : Try.prog.bytesOf 64 = 16 := by kernel_rfl

theorem list_two {l : List Value} (h : l.length = 2) : ∃ a b, l = [a, b] := by
  match l, h with
  | [a, b], _ => exact ⟨a, b, rfl⟩

instance : Inhabited Pc := ⟨⟨0, 0⟩⟩

set_option maxRecDepth 100000 in
theorem piece_cells {H : Type} {enc : TypeId × Value → H} {w : World} {n : Nat} {cs : List Value} {x : DataW H × List MemPlace} (h : DataW.trod enc Try.prog w 0 (fun _ => true) true n 64 cs = some x) : ∃ g : Pc, cs = g.cells ∧ g.wf := by
  obtain ⟨y0, y1, m, _, hl, h0, h1⟩ := trod_struct2 Try.underlying64 h
  rw [Try.cells64] at hl
  obtain ⟨c0, c1, rfl⟩ := list_two hl
  simp only [Try.cells23, Try.cells5, List.drop_zero, List.drop_succ_cons, List.take_succ_cons, List.take_zero] at h0 h1
  obtain ⟨a, e0, _, w0⟩ := DataW.trod_int Try.underlying23 h0
  obtain ⟨b, e1, _, w1⟩ := DataW.trod_int Try.underlying5 h1
  simp only [List.cons.injEq, and_true] at e0 e1
  subst e0; subst e1
  have u0 := wf_u64 w0
  have u1 := wf_u8 w1
  exact ⟨⟨a, b⟩, rfl, u0.1, u0.2, u1.1, u1.2⟩

theorem open_len {H : Type} {enc : TypeId × Value → H} {P : Program} {w : World} {t e : TypeId} {fuel : Nat} {a : Option Addr} {len cap : Nat} {x : DataW H × List MemPlace} (ht : P.underlying t = some (.slice e)) (h : DataW.trod enc P w 0 (fun _ => true) true fuel t [.slice a len cap] = some x) :
    len = 0 ∨ ∃ elems spare, x.1 = .slice elems spare ∧ elems.length = len := by
  rcases Go.Deep.open_slice ht h with ⟨h1, _⟩ | ⟨a', len', cap', m, n, D, Pl, h1, _, _, _, _, hx, _⟩
  · simp only [List.cons.injEq, and_true, Value.slice.injEq] at h1
    exact .inl h1.2.1
  · simp only [List.cons.injEq, and_true, Value.slice.injEq] at h1
    subst hx
    exact .inr ⟨_, _, rfl, by simp [h1.2.1]⟩

set_option maxRecDepth 100000 in
theorem maps_lifted (os : Os) (started : os.Started) (H : Type) (enc : TypeId × Value → H) :
    ReturnsInHanded {} Try.checked os 5 .any (Rows.mapsSpec.pre6 enc Try.prog Try.f5 Rows.mapsRow.domain false) (Rows.mapsSpec.post enc Try.prog Try.f5 false true false false) := by
  refine returnsInHanded_of_change_sized (C := Try.checked) Try.own started (by kernel_rfl) Try.func5
    (ChangeSpec.witness6 (enc := enc) (C := Try.checked) false ⟨#[], #[.slice none 0 0, .int .u64 0, .int .u64 0, .int .u64 0, .int .u8 0], []⟩ 8 (by kernel_rfl) (by kernel_rfl) (by kernel_rfl) (by kernel_rfl)) ?_
  intro W base args ds gs before hval0 hW hcnd hsized0 _
  have hval : ∀ (j : Nat) t v, Try.f5.params[j]? = some t → args[j]? = some v → Value.okWide Try.prog W .any base t v := hval0
  have hW' := hW
  obtain ⟨p, q, hA0, hV, rfl, hfz, hnd⟩ := hW
  have hA : DataW.TrodAll enc Try.prog W 0 (fun _ => true) true Try.f5.params.toList args.toList ds p := hA0
  rw [Try.params5] at hA hval
  obtain ⟨v0, vs1, d0, ds1, p0, q1, e1, rfl, rfl, h0, hA1⟩ := trodAll_cons hA
  obtain ⟨v1, vs2, d1, ds2, p1, q2, rfl, rfl, rfl, h1, hA2⟩ := trodAll_cons hA1
  obtain ⟨v2, vs3, d2, ds3, p2, q3, rfl, rfl, rfl, h2, hA3⟩ := trodAll_cons hA2
  obtain ⟨v3, vs4, d3, ds4, p3, q4, rfl, rfl, rfl, h3, hA4⟩ := trodAll_cons hA3
  obtain ⟨v4, vs5, d4, ds5, p4, q5, rfl, rfl, rfl, h4, hA5⟩ := trodAll_cons hA4
  obtain ⟨rfl, rfl, rfl⟩ := trodAll_nil hA5
  obtain rfl : args = #[v0, v1, v2, v3, v4] := Array.toList_inj.1 e1
  obtain ⟨rfl, rfl⟩ := trodVars_none hV
  obtain ⟨key, rfl, rfl, rfl, wk⟩ := open_int Try.underlying23 (hval 1 23 v1 rfl rfl) h1
  obtain ⟨lo, rfl, rfl, rfl, wl⟩ := open_int Try.underlying23 (hval 2 23 v2 rfl rfl) h2
  obtain ⟨hi, rfl, rfl, rfl, wh⟩ := open_int Try.underlying23 (hval 3 23 v3 rfl rfl) h3
  obtain ⟨g, rfl, rfl, rfl, wg⟩ := open_int Try.underlying5 (hval 4 5 v4 rfl rfl) h4
  obtain ⟨a0, len, cap, rfl⟩ := okWide_slice Try.underlying62 (hval 0 62 v0 rfl rfl)
  have h0k := h0
  obtain ⟨fuel, hf⟩ := h0
  obtain ⟨a1, len1, cap1, m, he, hin, _, hwf⟩ := open_slin Pc.cells Pc.wf Try.underlying62 Try.cells64 (by decide) (fun n cs x h => piece_cells h) hf
  cases he
  have hbytes : len * 16 ≤ 140737488355328 := by
    rcases open_len Try.underlying62 hf with rfl | ⟨elems, spare, hd, hl⟩
    · decide
    · have hs := sized_slice (P := Try.prog) (j := 0) hsized0 (t := 62) (e := 64) (elems := elems) (spare := spare) (by kernel_rfl) (by show some d0 = _; rw [← hd]) Try.underlying62
      rw [Try.bytes64] at hs
      have := reachBytes_lt
      omega
  have uk := wf_u64 wk
  have ul := wf_u64 wl
  have uh := wf_u64 wh
  have ug := wf_u8 wg
  clear hA0 hval0
  simp only [List.append_nil] at hW'
  have hlt : ∀ x ∈ p0, x.block < W.heap.size := fun x hx => by simpa using hW'.lt x (by simpa using hx)
  refine (maps_any a0 len cap m key lo hi g W hin hwf uk.1 ul.1 uh.1 uh.2 ug.1 hbytes).mono fun e W' ⟨he, bel⟩ => ?_
  subst he
  refine ⟨_, rfl, _, _, _, [], p0 ++ [], [], hW', ?_, ?_, rfl, bel.frame _, fun h => by cases h⟩
  · exact trodAll_mk1 (shut_true true)
  · exact ⟨p0, [], Below.trod Try.laidOut (by kernel_rfl) (of_decide_eq_true (by kernel_rfl)) h0k bel hlt, ⟨[], [], shut_int Try.underlying23 wk, ⟨[], [], shut_int Try.underlying23 wl, ⟨[], [], shut_int Try.underlying23 wh, ⟨[], [], shut_int Try.underlying5 wg, rfl, rfl⟩, rfl⟩, rfl⟩, rfl⟩, rfl⟩

theorem maps_holds : Rows.MapsSaid :=
  OpenClaim.holds_of_wide 5 Try.f5 rfl rfl rfl rfl rfl rfl rfl ⟨rfl, rfl, rfl, rfl, rfl⟩ rfl rfl rfl rfl rfl (by kernel_rfl) Try.func5 (by kernel_rfl)
    (of_decide_eq_true (by kernel_rfl)) (by unfold Func.isWrapper; first | (rw [if_pos (by decide +kernel)]; kernel_rfl) | (rw [if_neg (by decide +kernel)]; exact ⟨rfl, rfl⟩))
    (fun os started H enc _ => maps_lifted os started H enc)

end Go.Proofs.Ytignemioillaiaa
