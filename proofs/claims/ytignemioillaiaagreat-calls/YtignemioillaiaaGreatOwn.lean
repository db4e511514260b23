/- Calls, as the row says it: for any numbers of groups and faults, any address, any number of a packet and any bytes the law answers true, and all arguments read behind the call as they read before; whoever else still runs only leaves. No condition. -/
import Derived.Test.YtignemioillaiaaGreatG54
import Derived.SizedLaws
import Derived.ChangeMaps5
import Derived.ClaimOpenTies
namespace Go.Proofs.YtignemioillaiaaGreat
set_option maxHeartbeats 8000000
set_option maxRecDepth 100000
section
open Go Go.ChangeShapes Go.WideShapes Go.ChangeAt Go.RowKit Go.Conc
theorem list_two {l : List Value} (h : l.length = 2) : ∃ a b, l = [a, b] := by
  match l, h with
  | [a, b], _ => exact ⟨a, b, rfl⟩
/-- An address as an argument. -/
theorem addr_open {H : Type} {enc : TypeId × Value → H} {w : World} {n : Nat} {cs : List Value} {x : DataW H × List MemPlace} (h : DataW.trod enc Tryz.prog w 0 (fun _ => true) true n 66 cs = some x) : ∃ a b : Nat, cs = [.int .u8 a, .int .u8 b] ∧ a < 256 ∧ b < 256 := by
  have c8 : Tryz.prog.cellsOf 5 = 1 := by kernel_rfl
  obtain ⟨y0, y1, m, _, hl, h0, h1⟩ := trod_struct2 Tryz.underlying66 h
  rw [(by kernel_rfl : Tryz.prog.cellsOf 66 = 2)] at hl
  obtain ⟨c0, c1, rfl⟩ := list_two hl
  simp only [c8, List.drop_zero, List.drop_succ_cons, List.take_succ_cons, List.take_zero] at h0 h1
  obtain ⟨a, e0, _, w0⟩ := DataW.trod_int Tryz.underlying5 h0
  obtain ⟨b, e1, _, w1⟩ := DataW.trod_int Tryz.underlying5 h1
  simp only [List.cons.injEq, and_true] at e0 e1
  subst e0; subst e1
  have u0 := wf_u8 w0
  have u1 := wf_u8 w1
  obtain ⟨a, rfl⟩ : ∃ n : Nat, a = n := ⟨a.toNat, by omega⟩
  obtain ⟨b, rfl⟩ : ∃ n : Nat, b = n := ⟨b.toNat, by omega⟩
  exact ⟨a, b, rfl, by omega, by omega⟩
theorem wf_i64c {n : Int} (h : (Lit.int .i64 n).wf = true) : I64 n := by
  have h' : IntKind.min .i64 ≤ n ∧ n ≤ IntKind.max .i64 := by simpa [Lit.wf] using h
  have e1 : IntKind.min .i64 = -9223372036854775808 := by decide
  have e2 : IntKind.max .i64 = 9223372036854775807 := by decide
  unfold I64
  omega
theorem calls_lifted (os : Os) (started : os.Started) (H : Type) (enc : TypeId × Value → H) :
    ReturnsInLeavingWide {} Tryz.checked os 4 .any (Rows.callsSpec.pre6 enc Tryz.prog Tryz.f4 Rows.callsRow.domain false) (Rows.callsSpec.post enc Tryz.prog Tryz.f4 false true false false) := by
  refine returnsInLeavingWide_of_good Tryz.own started
    (ChangeSpec.witness6 (enc := enc) (C := Tryz.checked) false ⟨#[], #[.int .i64 0, .int .i64 0, .agg #[.int .u8 0, .int .u8 0], .int .i64 0, .string ByteArray.empty], []⟩ 8 (by kernel_rfl) (by kernel_rfl) (by kernel_rfl) (by kernel_rfl)) ?_
  intro w tape i _ _ _ hok hpre _
  obtain ⟨_, _, _, fn', hfn', _, _, _, _, hval0⟩ := hok
  have e : fn' = Tryz.f4 := Option.some.inj (hfn'.symm.trans Tryz.func4)
  subst e
  obtain ⟨⟨ds, gs, before, hw, hc⟩, hz⟩ := hpre
  have hW := DataW.Whole.of_heap (w' := w.forCall tape i) (by rfl) hw
  obtain ⟨ai, args, vi⟩ := i
  dsimp only at *
  generalize hWW : w.forCall tape ⟨ai, args, vi⟩ = W at *
  have hval : ∀ (j : Nat) t v, Tryz.f4.params[j]? = some t → args[j]? = some v → Value.okWide Tryz.prog W .any w.heap.size t v := hval0
  have hW' := hW
  obtain ⟨p, q, hA0, hV, rfl, hfz, hnd⟩ := hW
  have hA : DataW.TrodAll enc Tryz.prog W 0 (fun _ => true) true Tryz.f4.params.toList args.toList ds p := hA0
  rw [Tryz.params4] at hA hval
  obtain ⟨v0, vs0, d0, ds0, p0, q0, hargs, rfl, rfl, h0, r0⟩ := trodAll_cons hA
  obtain ⟨v1, vs1, d1, ds1, p1, q1, rfl, rfl, rfl, h1, r1⟩ := trodAll_cons r0
  obtain ⟨v2, vs2, d2, ds2, p2, q2, rfl, rfl, rfl, h2, r2⟩ := trodAll_cons r1
  obtain ⟨v3, vs3, d3, ds3, p3, q3, rfl, rfl, rfl, h3, r3⟩ := trodAll_cons r2
  obtain ⟨v4, vs4, d4, ds4, p4, q4, rfl, rfl, rfl, h4, r4⟩ := trodAll_cons r3
  obtain ⟨rfl, rfl, rfl⟩ := trodAll_nil r4
  obtain rfl : args = #[v0, v1, v2, v3, v4] := by cases args; simp_all
  obtain ⟨rfl, rfl⟩ := trodVars_none hV
  obtain ⟨z0, rfl, rfl, rfl, wz0⟩ := open_int Tryz.underlying3 (hval 0 3 v0 rfl rfl) h0
  obtain ⟨z1, rfl, rfl, rfl, wz1⟩ := open_int Tryz.underlying3 (hval 1 3 v1 rfl rfl) h1
  obtain ⟨cs2, rfl, hcs2⟩ := okWide_struct Tryz.underlying66 (hval 2 66 v2 rfl rfl)
  obtain ⟨pk, rfl, rfl, rfl, wpk⟩ := open_int Tryz.underlying3 (hval 3 3 v3 rfl rfl) h3
  obtain ⟨d, rfl, rfl, rfl, wd⟩ := Go.ChangeMaps.open_string Tryz.underlying9 (hval 4 9 v4 rfl rfl) h4
  have h2k := h2
  obtain ⟨fuel2, hf2⟩ := h2
  obtain ⟨ga, gb, he, hga, hgb⟩ := addr_open hf2
  obtain rfl : cs2 = #[.int .u8 ga, .int .u8 gb] := Array.toList_inj.1 he
  have b0 := wf_i64c wz0
  have b1 := wf_i64c wz1
  have hlt2 : ∀ x ∈ p2, x.block < W.heap.size := fun x hx => hW'.lt x (by simp [hx])
  clear hA0 hval0
  refine start_XR (@callS Tryz.prog (serX Tryz.prog) eng 4 Tryz.f4 _ [.int .i64 z0, .int .i64 z1, .agg #[.int .u8 ga, .int .u8 gb], .int .i64 pk, .string d] W _ Tryz.func4 rfl (by kernel_rfl) (calls_CS b0 b1 hga hgb pk d) true OkE _ (@SX.mk Tryz.prog (serX Tryz.prog) true OkE _ shut_XR ⟨rfl, rfl, _, rfl⟩) [] ?_)
  rintro fr v w' hfn hl ⟨rfl, hg⟩
  refine ends_XR rfl (step_last (by rw [hfn]; exact Tryz.func4) (by rw [hfn]; kernel_rfl) rfl hl) fun w₁ hs => ?_
  obtain ⟨pp, rfl⟩ := hs
  have bel : Below W.heap.size W { w' with tape := W.tape } := ⟨hg.os, rfl, hg.out, hg.size, fun x hx => hg.block x hx nofun⟩
  show Rows.callsSpec.post enc Tryz.prog Tryz.f4 false true false false W.blind _ _ ({ w' with tape := W.tape } : World).blind
  refine ChangeSpec.post_blind ⟨_, _, _, [], [] ++ ([] ++ (p2 ++ ([] ++ ([] ++ [])))), [], hW', ?_, ?_, rfl, bel.frame _, fun h => by cases h⟩
  · exact trodAll_mk1 (shut_true true)
  · exact ⟨[], _, shut_int Tryz.underlying3 wz0, ⟨[], _, shut_int Tryz.underlying3 wz1, ⟨p2, _, Below.trod Tryz.laidOut (by kernel_rfl) (of_decide_eq_true (by kernel_rfl)) h2k bel hlt2, ⟨[], _, shut_int Tryz.underlying3 wpk, ⟨[], [], Go.ChangeMaps.shut_string Tryz.underlying9 wd, rfl, rfl⟩, rfl⟩, rfl⟩, rfl⟩, rfl⟩
theorem calls_holds : Rows.CallsSaid :=
  OpenClaim.holds_of_wide_leaving 4 Tryz.f4 rfl rfl rfl rfl rfl rfl rfl ⟨rfl, rfl, rfl, rfl, rfl⟩ rfl rfl rfl rfl rfl (by kernel_rfl) Tryz.func4 (by kernel_rfl)
    (of_decide_eq_true (by kernel_rfl)) (by unfold Func.isWrapper; first | (rw [if_pos (by decide +kernel)]; kernel_rfl) | (rw [if_neg (by decide +kernel)]; exact ⟨rfl, rfl⟩))
    (fun os started H enc _ => calls_lifted os started H enc)
end
end Go.Proofs.YtignemioillaiaaGreat
