/- Round, as the row says it: for every request, ballot, slot, list of keys and text the law answers true, and all five arguments read behind the call as they read before. No condition. -/
import Derived.Test.YtignemioillaiaaU8
import Derived.Test.YtignemioillaiaaR
import Derived.Test.YtignemioillaiaaU5
import Derived.SizedLaws
import Derived.ChangeMaps5
namespace Go.Proofs.Ytignemioillaiaa
open Go.ChangeShapes Go.WideShapes Go.ChangeAt Go.RowKit

theorem bstr_toList (s : ByteArray) : ∃ l : List Int, bstr l = s ∧ Byt l ∧ l.length = s.data.toList.length := by
  refine ⟨s.data.toList.map (fun b => (b.toNat : Int)), ?_, ?_, by simp⟩
  · apply ByteArray.ext
    rw [bstr_data, List.map_map]
    have : (fun b : UInt8 => (fun n : Int => UInt8.ofNat n.toNat) (b.toNat : Int)) = id := by
      funext b; simp
    have e : ((fun n : Int => UInt8.ofNat n.toNat) ∘ fun b : UInt8 => (b.toNat : Int)) = id := this
    rw [e, List.map_id]
  · intro x hx
    obtain ⟨b, _, rfl⟩ := List.mem_map.1 hx
    have := b.toNat_lt
    omega

theorem key_cells {H : Type} {enc : TypeId × Value → H} {w : World} {n : Nat} {cs : List Value} {x : DataW H × List MemPlace} (h : DataW.trod enc Try.prog w 0 (fun _ => true) true n 23 cs = some x) : ∃ k : Int, cs = [Value.int .u64 k] ∧ (0 ≤ k ∧ k < 18446744073709551616) := by
  obtain ⟨a, e0, _, w0⟩ := DataW.trod_int Try.underlying23 h
  exact ⟨a, e0, wf_u64 w0⟩

set_option maxRecDepth 100000 in
theorem round_lifted (os : Os) (started : os.Started) (H : Type) (enc : TypeId × Value → H) :
    ReturnsInHanded {} Try.checked os 7 .any (Rows.roundSpec.pre6 enc Try.prog Try.f7 Rows.roundRow.domain false) (Rows.roundSpec.post enc Try.prog Try.f7 false true false false) := by
  refine returnsInHanded_of_change_sized (C := Try.checked) Try.own started (by kernel_rfl) Try.func7
    (ChangeSpec.witness6 (enc := enc) (C := Try.checked) false ⟨#[], #[.agg #[.int .u8 0, .int .u32 0, .int .u8 0, .int .u64 0, .int .u64 0, .int .u64 0, .int .u8 0], .agg #[.int .u32 0, .int .u8 0], .int .u32 0, .slice none 0 0, .string ByteArray.empty], []⟩ 8 (by kernel_rfl) (by kernel_rfl) (by kernel_rfl) (by kernel_rfl)) ?_
  intro W base args ds gs before hval0 hW hcnd hsized0 _
  have hval : ∀ (j : Nat) t v, Try.f7.params[j]? = some t → args[j]? = some v → Value.okWide Try.prog W .any base t v := hval0
  have hW' := hW
  obtain ⟨p, q, hA0, hV, rfl, hfz, hnd⟩ := hW
  have hA : DataW.TrodAll enc Try.prog W 0 (fun _ => true) true Try.f7.params.toList args.toList ds p := hA0
  rw [Try.params7] at hA hval
  obtain ⟨v0, vs1, d0, ds1, p0, q1, e1, rfl, rfl, h0, hA1⟩ := trodAll_cons hA
  obtain ⟨v1, vs2, d1, ds2, p1, q2, rfl, rfl, rfl, h1, hA2⟩ := trodAll_cons hA1
  obtain ⟨v2, vs3, d2, ds3, p2, q3, rfl, rfl, rfl, h2, hA3⟩ := trodAll_cons hA2
  obtain ⟨v3, vs4, d3, ds4, p3, q4, rfl, rfl, rfl, h3, hA4⟩ := trodAll_cons hA3
  obtain ⟨v4, vs5, d4, ds5, p4, q5, rfl, rfl, rfl, h4, hA5⟩ := trodAll_cons hA4
  obtain ⟨rfl, rfl, rfl⟩ := trodAll_nil hA5
  obtain rfl : args = #[v0, v1, v2, v3, v4] := Array.toList_inj.1 e1
  obtain ⟨rfl, rfl⟩ := trodVars_none hV
  obtain ⟨slot, rfl, rfl, rfl, wslot⟩ := open_int Try.underlying22 (hval 2 22 v2 rfl rfl) h2
  obtain ⟨text, rfl, rfl, rfl, wtext⟩ := Go.ChangeMaps.open_string Try.underlying9 (hval 4 9 v4 rfl rfl) h4
  obtain ⟨a3, len, cap, rfl⟩ := okWide_slice Try.underlying79 (hval 3 79 v3 rfl rfl)
  obtain ⟨cs0, rfl, _⟩ := okWide_struct Try.underlying25 (hval 0 25 v0 rfl rfl)
  obtain ⟨cs1, rfl, _⟩ := okWide_struct Try.underlying29 (hval 1 29 v1 rfl rfl)
  have h0k := h0
  have h1k := h1
  have h3k := h3
  obtain ⟨f0, hf0⟩ := h0
  obtain ⟨f1, hf1⟩ := h1
  obtain ⟨f3, hf3⟩ := h3
  have hw0 : ∀ k ∈ d0.weights Try.prog 25, k ≤ reachBytes := by
    intro k hk
    have := List.all_eq_true.1 hsized0 k (DataW.weights_mem_each (P := Try.prog) (j := 0) (t := 25) (d := d0) (by kernel_rfl) rfl k hk)
    simpa using this
  have hw1 : ∀ k ∈ d1.weights Try.prog 29, k ≤ reachBytes := by
    intro k hk
    have := List.all_eq_true.1 hsized0 k (DataW.weights_mem_each (P := Try.prog) (j := 1) (t := 29) (d := d1) (by kernel_rfl) rfl k hk)
    simpa using this
  obtain ⟨q, hq, hqwf⟩ := req_open hf0 hw0
  obtain ⟨b, hb, hb1, hb2⟩ := bal_open hf1 hw1
  obtain ⟨a1, len1, cap1, keys, he, hin, _, hkw⟩ := open_slin (fun k : Int => [Value.int .u64 k]) (fun k : Int => 0 ≤ k ∧ k < 18446744073709551616) Try.underlying79 Try.cells23 (by decide) (fun n cs x h => key_cells h) hf3
  cases he
  have hq' : cs0.toList = _ := hq
  obtain rfl : cs0 = _ := Array.toList_inj.1 (hq'.trans (List.toList_toArray).symm)
  have hb' : cs1.toList = _ := hb
  obtain rfl : cs1 = _ := Array.toList_inj.1 (hb'.trans (List.toList_toArray).symm)
  have hts := sized_string (P := Try.prog) (j := 4) hsized0 (t := 9) (bytes := text.data.toList) (by kernel_rfl) rfl
  have := reachBytes_lt
  obtain ⟨tl, rfl, htb, htl⟩ := bstr_toList text
  have us := wf_u32 wslot
  clear hA0 hval0 hq hq' hb hb'
  have hlt : ∀ x ∈ p0 ++ (p1 ++ ([] ++ (p3 ++ ([] ++ [])))), x.block < W.heap.size := fun x hx => by simpa using hW'.lt x (by simpa using hx)
  obtain ⟨qc, qs, qk, qkey, qv, qhi, qto⟩ := q
  obtain ⟨bn, bid⟩ := b
  refine Calls.mono (round_any qc qs qk qkey qv qhi qto bn bid slot a3 len cap keys tl W hqwf hb1 hb2 us hin hkw htb (by omega)) fun e W' ⟨he, bel⟩ => ?_
  subst he
  refine ⟨_, rfl, _, _, _, [], p0 ++ (p1 ++ ([] ++ (p3 ++ ([] ++ [])))), [], hW', ?_, ?_, rfl, bel.frame _, fun h => by cases h⟩
  · exact trodAll_mk1 (shut_true true)
  · exact ⟨p0, _, Below.trod Try.laidOut (by kernel_rfl) (of_decide_eq_true (by kernel_rfl)) h0k bel (fun x hx => hlt x (by simp [hx])), ⟨p1, _, Below.trod Try.laidOut (by kernel_rfl) (of_decide_eq_true (by kernel_rfl)) h1k bel (fun x hx => hlt x (by simp [hx])), ⟨[], _, shut_int Try.underlying22 wslot, ⟨p3, _, Below.trod Try.laidOut (by kernel_rfl) (of_decide_eq_true (by kernel_rfl)) h3k bel (fun x hx => hlt x (by simp [hx])), ⟨[], [], Go.ChangeMaps.shut_string Try.underlying9 wtext, rfl, rfl⟩, rfl⟩, rfl⟩, rfl⟩, rfl⟩

theorem round_holds : Rows.RoundSaid :=
  OpenClaim.holds_of_wide 7 Try.f7 rfl rfl rfl rfl rfl rfl rfl ⟨rfl, rfl, rfl, rfl, rfl⟩ rfl rfl rfl rfl rfl (by kernel_rfl) Try.func7 (by kernel_rfl)
    (of_decide_eq_true (by kernel_rfl)) (by unfold Func.isWrapper; first | (rw [if_pos (by decide +kernel)]; kernel_rfl) | (rw [if_neg (by decide +kernel)]; exact ⟨rfl, rfl⟩))
    (fun os started H enc _ => round_lifted os started H enc)

end Go.Proofs.Ytignemioillaiaa
