/- Parses, as the row says it: for any two strings the law answers true, and both read behind the call as they read before. No condition. -/
import Derived.Test.YtignemioillaiaaR
import Derived.Test.YtignemioillaiaaX14
import Derived.SizedLaws
import Derived.ChangeMaps5
namespace Go.Proofs.Ytignemioillaiaa
open Go.ChangeShapes Go.WideShapes Go.ChangeAt Go.RowKit

theorem bstr_toListP (s : ByteArray) : ∃ l : List Int, bstr l = s ∧ Byt l ∧ l.length = s.data.toList.length := by
  refine ⟨s.data.toList.map (fun b => (b.toNat : Int)), ?_, ?_, by simp⟩
  · apply ByteArray.ext
    rw [bstr_data, List.map_map]
    have : (fun b : UInt8 => (fun n : Int => UInt8.ofNat n.toNat) (b.toNat : Int)) = id := by
      funext b; simp
    have e : ((fun n : Int => UInt8.ofNat n.toNat) ∘ fun b : UInt8 => (b.toNat : Int)) = id := this
    rw [e, List.map_id]
  · intro x hx
    obtain ⟨b, _, rfl⟩ := List.mem_map.1 hx
    have := b.toNat_lt
    omega

set_option maxRecDepth 100000 in
theorem parses_lifted (os : Os) (started : os.Started) (H : Type) (enc : TypeId × Value → H) :
    ReturnsInHanded {} Try.checked os 4 .any (Rows.parsesSpec.pre6 enc Try.prog Try.f4 Rows.parsesRow.domain false) (Rows.parsesSpec.post enc Try.prog Try.f4 false true false false) := by
  refine returnsInHanded_of_change_sized (C := Try.checked) Try.own started (by kernel_rfl) Try.func4
    (ChangeSpec.witness6 (enc := enc) (C := Try.checked) false ⟨#[], #[.string ByteArray.empty, .string ByteArray.empty], []⟩ 8 (by kernel_rfl) (by kernel_rfl) (by kernel_rfl) (by kernel_rfl)) ?_
  intro W base args ds gs before hval0 hW hcnd hsized0 _
  have hval : ∀ (j : Nat) t v, Try.f4.params[j]? = some t → args[j]? = some v → Value.okWide Try.prog W .any base t v := hval0
  have hW' := hW
  obtain ⟨p, q, hA0, hV, rfl, hfz, hnd⟩ := hW
  have hA : DataW.TrodAll enc Try.prog W 0 (fun _ => true) true Try.f4.params.toList args.toList ds p := hA0
  rw [Try.params4] at hA hval
  obtain ⟨v0, vs1, d0, ds1, p0, q1, e1, rfl, rfl, h0, hA1⟩ := trodAll_cons hA
  obtain ⟨v1, vs2, d1, ds2, p1, q2, rfl, rfl, rfl, h1, hA2⟩ := trodAll_cons hA1
  obtain ⟨rfl, rfl, rfl⟩ := trodAll_nil hA2
  obtain rfl : args = #[v0, v1] := Array.toList_inj.1 e1
  obtain ⟨rfl, rfl⟩ := trodVars_none hV
  obtain ⟨s0, rfl, rfl, rfl, ws0⟩ := Go.ChangeMaps.open_string Try.underlying9 (hval 0 9 v0 rfl rfl) h0
  obtain ⟨s1, rfl, rfl, rfl, ws1⟩ := Go.ChangeMaps.open_string Try.underlying9 (hval 1 9 v1 rfl rfl) h1
  have ht0 := sized_string (P := Try.prog) (j := 0) hsized0 (t := 9) (bytes := s0.data.toList) (by kernel_rfl) rfl
  have ht1 := sized_string (P := Try.prog) (j := 1) hsized0 (t := 9) (bytes := s1.data.toList) (by kernel_rfl) rfl
  have := reachBytes_lt
  obtain ⟨l0, rfl, hb0, hl0⟩ := bstr_toListP s0
  obtain ⟨l1, rfl, hb1, hl1⟩ := bstr_toListP s1
  clear hA0 hval0
  refine Calls.mono (parses_any l0 l1 W hb0 (by omega) hb1 (by omega)) fun e W' ⟨he, bel⟩ => ?_
  subst he
  refine ⟨_, rfl, _, _, _, [], [] ++ ([] ++ []), [], hW', ?_, ?_, rfl, bel.frame _, fun h => by cases h⟩
  · exact trodAll_mk1 (shut_true true)
  · exact ⟨[], _, Go.ChangeMaps.shut_string Try.underlying9 ws0, ⟨[], [], Go.ChangeMaps.shut_string Try.underlying9 ws1, rfl, rfl⟩, rfl⟩

theorem parses_holds : Rows.ParsesSaid :=
  OpenClaim.holds_of_wide 4 Try.f4 rfl rfl rfl rfl rfl rfl rfl ⟨rfl, rfl, rfl, rfl, rfl⟩ rfl rfl rfl rfl rfl (by kernel_rfl) Try.func4 (by kernel_rfl)
    (of_decide_eq_true (by kernel_rfl)) (by unfold Func.isWrapper; first | (rw [if_pos (by decide +kernel)]; kernel_rfl) | (rw [if_neg (by decide +kernel)]; exact ⟨rfl, rfl⟩))
    (fun os started H enc _ => parses_lifted os started H enc)

end Go.Proofs.Ytignemioillaiaa

