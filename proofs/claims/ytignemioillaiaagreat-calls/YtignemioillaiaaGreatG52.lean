/- The law Calls, whole: what it says of the walk. -/
import Derived.Test.YtignemioillaiaaGreatG50
import Derived.Test.YtignemioillaiaaGreatG51
namespace Go.Proofs.YtignemioillaiaaGreat
set_option maxHeartbeats 8000000
set_option maxRecDepth 100000
section
open Go Go.Conc Go.RowKit
theorem Ey.cs {L : Nat} {w : World} {bc n sz : Nat} {gv : Value} (h : Ey L w bc gv n n sz) (hn : 0 < n) (hs : 0 < sz) : ∃ B F, CS w bc gv (.slice none 0 0) [] n sz B F ∧ ∀ g i, g < n → i < sz → Fr (F g i) ∧ L ≤ B g i := by
  obtain ⟨h1, gl, h2, h3⟩ := h
  have key : ∀ g i, ∃ br r, g < n → i < sz → Ptr w gv n sz g i br ∧ RS w br r g i n sz ∧ Fr r ∧ L ≤ br := fun g i => by
    by_cases hg : g < n
    · by_cases hi : i < sz
      · obtain ⟨s, hgs, pl, hpl, hrs⟩ := h3 g hg
        obtain ⟨br, r, e1, e2, e3, e4⟩ := hrs i hi
        obtain ⟨bg, cg, cur, rfl, k1, k2, k3⟩ := u7 h2 hn
        obtain ⟨bs, ct, cur', rfl, k4, k5, k6⟩ := u7 hpl hs
        refine ⟨br, r, fun _ _ => ⟨⟨bg, cg, cur, bs, ct, cur', rfl, k1, ?_, k4, ?_⟩, e2, e3, e4⟩⟩
        · rw [← k2, List.getElem?_take] at hgs
          split at hgs
          · simpa using hgs
          · cases hgs
        · rw [← k5, List.getElem?_take] at e1
          split at e1
          · simpa using e1
          · cases e1
      · exact ⟨0, ⟨0, 0, 0, 0, 0, 0, 0, 0, 0, 0, 0, 0, undef, 0, 0, undef, undef, undef, undef, undef, undef, 0, 0, 0, 0, 0, 0⟩, fun _ h => absurd h hi⟩
    · exact ⟨0, ⟨0, 0, 0, 0, 0, 0, 0, 0, 0, 0, 0, 0, undef, 0, 0, undef, undef, undef, undef, undef, undef, 0, 0, 0, 0, 0, 0⟩, fun h => absurd h hg⟩
  refine ⟨fun g i => (key g i).choose, fun g i => (key g i).choose_spec.choose, ⟨h1, qj _ _ _, by simp, fun g i hg hi => ((key g i).choose_spec.choose_spec hg hi).1, fun g i hg hi => ((key g i).choose_spec.choose_spec hg hi).2.1⟩, fun g i hg hi => ((key g i).choose_spec.choose_spec hg hi).2.2⟩
section
variable {K : Machine → Trace → Prop} {pb pq : Int → Int → ByteArray} {W w : World} {bc b7 n f sz g i : Nat} {gv : Value} {pk : Int} {d : ByteArray} {a : Act} {cs : List Frame}
theorem CZ {L : Nat} (mK : uA pb pq) (hL : GB none W w) (YN : W.heap.size ≤ L) (hbc : W.heap.size ≤ bc) (h : Ey L w bc gv n n sz) (hn1 : 1 ≤ n) (hn : n ≤ 4) (hf : f ≤ 2) (hsz : sz = 2 * f + 1) (ll : g < 256) (ng : i < 256) (hb : w.heap[b7]? = some (.cells #[.int .u8 g, .int .u8 i] 66))
    (hk : ∀ fr w', fr.fn = 4 → fr.leaving Tryz.prog w' (.returned (.bool true)) → GB none W w' → XR Tryz.prog K (G fr cs) w') (ha : ∃ ys : Nat → Value, a = ⟨#[.int .i64 n, .int .i64 f, ys 2, .int .i64 pk, .string d, ys 5, ys 6, .pointer (some ⟨b7, 0, none⟩), ys 8, ys 9, .bool false, .pointer (some ⟨bc, 0, none⟩), ys 12, ys 13, ys 14, ys 15, ys 16, ys 17, ys 18, ys 19, ys 20, ys 21, ys 22, ys 23, ys 24, ys 25, ys 26, ys 27, ys 28, ys 29, ys 30, ys 31, ys 32, ys 33, ys 34, ys 35, ys 36, ys 37, ys 38, ys 39, ys 40, ys 41, ys 42, ys 43, ys 44, ys 45, ys 46, ys 47, ys 48, ys 49, ys 50, ys 51, ys 52, ys 53, ys 54, ys 55, ys 56, ys 57, ys 58, ys 59, ys 60, ys 61, ys 62, ys 63, ys 64, ys 65, ys 66, .pointer (some ⟨b7, 0, none⟩), ys 68, ys 69, ys 70, ys 71, ys 72, ys 73, ys 74, ys 75, ys 76, ys 77, ys 78, ys 79, ys 80, ys 81, ys 82, ys 83, ys 84, ys 85, ys 86, ys 87, ys 88, ys 89, ys 90, ys 91, ys 92, ys 93, ys 94, ys 95, ys 96, ys 97, ys 98, ys 99, ys 100, ys 101, ys 102, ys 103, ys 104, ys 105, ys 106, ys 107, ys 108, ys 109, ys 110, ys 111, ys 112, ys 113, ys 114, ys 115, ys 116, ys 117, ys 118, ys 119, ys 120, ys 121, ys 122, ys 123, ys 124, ys 125, ys 126, ys 127, ys 128, ys 129, ys 130, ys 131, ys 132, ys 133, ys 134, ys 135, ys 136, ys 137, ys 138, ys 139, ys 140, ys 141, ys 142, ys 143, ys 144, ys 145, ys 146, ys 147, ys 148, ys 149, ys 150, ys 151, ys 152, ys 153, ys 154, ys 155, ys 156, ys 157, ys 158, ys 159, ys 160, ys 161, ys 162, ys 163, ys 164, ys 165, ys 166, ys 167, ys 168, ys 169, ys 170, ys 171, ys 172, ys 173, ys 174, ys 175, ys 176, ys 177, ys 178, ys 179, ys 180, ys 181, ys 182, ys 183, ys 184, ys 185, ys 186, ys 187, ys 188, ys 189, ys 190, ys 191, ys 192, ys 193, ys 194, ys 195, ys 196, ys 197, ys 198, ys 199, ys 200, ys 201, ys 202, ys 203, ys 204, ys 205, ys 206, ys 207, ys 208, ys 209, ys 210, ys 211, ys 212, ys 213, ys 214, ys 215, ys 216, ys 217, ys 218, ys 219, ys 220], []⟩) :
    XR Tryz.prog K (G ((Go.Conc.base 4).at a [.inRegion (co (cl CY)) [1, 2, 3, 4, 5, 6, 7, 8, 9, 10, 11, 12, 13], .code (cr CY)]) cs) w := by
  obtain ⟨ys, rfl⟩ := ha
  obtain ⟨B, F, hc, hF⟩ := h.cs (by omega) (by omega)
  have YO : Lw W w bc n sz B (.slice none 0 0) := ⟨hL, hbc, fun g i hg hi => Nat.le_trans YN (hF g i hg hi).2, nofun⟩
  have hX : Shut Tryz.prog true qd (XR Tryz.prog K) := jc
  simp only [CY, c4, Tryz.f4, cl, cr, co, Option.getD]
  have hwg : IntKind.i64.wrap (g : Int) = g := kF _ (by omega) (by omega)
  have Zg : IntKind.i64.wrap (i : Int) = i := kF _ (by omega) (by omega)
  have hwf : IntKind.i64.wrap (2 * (f : Int)) = 2 * f := kF _ (by omega) (by omega)
  by_cases hg : g < n
  · have hg' : (g : Int) < n := by omega
    refine Shut.bY hX rfl rfl xB rfl rfl hb (by kernel_rfl) (v := .int .u8 g) rfl ?_
    refine xn ?_
    refine Shut.still hX rfl rfl xB xO _ (fun _ _ => by go_simp <;> with_reducible rfl) ?_
    refine xn ?_
    refine Shut.still hX rfl rfl xB xO _ (fun _ _ => by go_simp <;> with_reducible rfl) ?_
    refine xn ?_
    refine Shut.still hX rfl rfl xB xO _ (fun _ _ => by go_simp <;> with_reducible rfl) ?_
    refine xn ?_
    refine Shut.still hX rfl rfl xB xO _ (fun _ _ => by go_simp <;> with_reducible rfl) ?_
    refine xn ?_
    refine Shut.still hX rfl rfl xB xO _ (fun _ _ => by go_simp <;> with_reducible rfl) ?_
    refine xn ?_
    refine Shut.bY hX rfl rfl xB rfl rfl hb (by kernel_rfl) (v := .int .u8 i) rfl ?_
    refine xn ?_
    by_cases hi : i < sz
    · have hi' : (i : Int) ≤ 2 * (f : Int) := by omega
      refine Shut.still hX rfl rfl xB xO _ (fun _ _ => by go_simp <;> with_reducible rfl) ?_
      refine xn ?_
      refine Shut.still hX rfl rfl xB xO _ (fun _ _ => by go_simp <;> with_reducible rfl) ?_
      refine xn ?_
      refine Shut.still hX rfl rfl xB xO _ (fun _ _ => by go_simp <;> with_reducible rfl) ?_
      refine xn ?_
      refine Shut.still hX rfl rfl xB xO _ (fun _ _ => by go_simp <;> with_reducible rfl) ?_
      refine xn ?_
      refine Shut.still hX rfl rfl xB xO _ (fun _ _ => by go_simp <;> with_reducible rfl) ?_
      refine xn ?_
      refine Shut.still hX rfl rfl xB xO _ (fun _ _ => by go_simp <;> with_reducible rfl) ?_
      refine xn ?_
      refine aj.regionEnd hX.c ?_
      exact Qj mK YO hc hn (by omega) hg hi (fun j hj => (hF g j hg hj).1) hb hk (dM rfl)
    · have hi' : ¬ (i : Int) ≤ 2 * (f : Int) := by omega
      refine Shut.still hX rfl rfl xB xO _ (fun _ _ => by go_simp <;> with_reducible rfl) ?_
      refine xn ?_
      refine Shut.still hX rfl rfl xB xO _ (fun _ _ => by go_simp <;> with_reducible rfl) ?_
      refine xn ?_
      refine Shut.still hX rfl rfl xB xO _ (fun _ _ => by go_simp <;> with_reducible rfl) ?_
      refine xn ?_
      refine Shut.still hX rfl rfl xB xO _ (fun _ _ => by go_simp <;> with_reducible rfl) ?_
      refine xn ?_
      refine Shut.still hX rfl rfl xB xO _ (fun _ _ => by go_simp <;> with_reducible rfl) ?_
      refine xn ?_
      refine Shut.still hX rfl rfl xB xO _ (fun _ _ => by go_simp <;> with_reducible rfl) ?_
      refine xn ?_
      refine aj.regionEnd hX.c ?_
      exact Ew hL hc hn1 hn hf hsz ll ng hb (.inr ⟨hg, by omega⟩) hk (dM rfl)
  · have hg' : ¬ (g : Int) < n := by omega
    refine Shut.bY hX rfl rfl xB rfl rfl hb (by kernel_rfl) (v := .int .u8 g) rfl ?_
    refine xn ?_
    refine Shut.still hX rfl rfl xB xO _ (fun _ _ => by go_simp <;> with_reducible rfl) ?_
    refine xn ?_
    refine Shut.still hX rfl rfl xB xO _ (fun _ _ => by go_simp <;> with_reducible rfl) ?_
    refine xn ?_
    refine Shut.still hX rfl rfl xB xO _ (fun _ _ => by go_simp <;> with_reducible rfl) ?_
    refine xn ?_
    refine Shut.still hX rfl rfl xB xO _ (fun _ _ => by go_simp <;> with_reducible rfl) ?_
    refine xn ?_
    refine aj.Gq hX.c rfl rfl ?_
    refine xn ?_
    refine aj.Gq hX.c rfl rfl ?_
    refine xn ?_
    refine aj.Gq hX.c rfl rfl ?_
    refine xn ?_
    refine aj.Gq hX.c rfl rfl ?_
    refine xn ?_
    refine aj.Gq hX.c rfl rfl ?_
    refine xn ?_
    refine aj.Gq hX.c rfl rfl ?_
    refine xn ?_
    refine Shut.still hX rfl rfl xB xO _ (fun _ _ => by go_simp <;> with_reducible rfl) ?_
    refine xn ?_
    refine Shut.still hX rfl rfl xB xO _ (fun _ _ => by go_simp <;> with_reducible rfl) ?_
    refine xn ?_
    refine aj.regionEnd hX.c ?_
    exact Ew hL hc hn1 hn hf hsz ll ng hb (.inl (by omega)) hk (dM rfl)
end
end
end Go.Proofs.YtignemioillaiaaGreat
