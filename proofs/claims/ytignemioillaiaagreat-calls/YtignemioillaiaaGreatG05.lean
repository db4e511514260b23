/- Package right: the small functions. -/
import Derived.Test.YtignemioillaiaaGreatG01
import Derived.Deep.QuietTactic
import Derived.BigQuiet
import Derived.Deep.RegionWith
namespace Go.Proofs.YtignemioillaiaaGreat
set_option maxHeartbeats 8000000
set_option maxRecDepth 100000
section
open Go.RowKit
theorem ny (g : Int) (w : World) :
    Calls Tryz.prog 133 #[.int .u8 g] w fun e w' => e = .returned (.bool (decide (g < 4))) ∧ w' = w := by
  go_enter Tryz.func133, Tryz.ntmps133
  go_wp2
  go_ret
  exact ⟨rfl, rfl⟩
theorem DR (c s : Int) (w : World) :
    Calls Tryz.prog 132 #[.int .u8 c, .int .u32 s] w fun e w' => e = .returned (.bool (decide (c < 4) && decide (1 ≤ s))) ∧ w' = w := by
  go_enter Tryz.func132, Tryz.ntmps132
  go_wp2
  all_goals go_ret
  all_goals exact ⟨bG (by simp [*] <;> omega), rfl⟩
theorem qH (qc qs qk fF qv je jf : Int) (w : World) :
    Calls Tryz.prog 82 #[.agg (List.toArray (rQ qc qs qk fF qv je jf))] w fun e w' => e = .returned (.bool (aD.mk qc qs qk fF qv je jf).ok) ∧ Below w.heap.size w w' := by
  go_enter Tryz.func82, Tryz.ntmps82
  go_wp2_with (first | (go_at_call 132; refine (DR _ _ _).mono ?_; rintro e w' ⟨rfl, rfl⟩) | (go_at_call 133; refine (ny _ _).mono ?_; rintro e w' ⟨rfl, rfl⟩))
  all_goals go_ret
  all_goals refine ⟨bG ?_, ?_⟩
  all_goals first | exact ((((Below.refl _ _).alloc (Nat.le_refl _) _).setCell (Nat.le_refl _) _).setCell (Nat.le_refl _) _) | exact (((Below.refl _ _).alloc (Nat.le_refl _) _).setCell (Nat.le_refl _) _) | exact ((Below.refl _ _).alloc (Nat.le_refl _) _) | skip
  all_goals simp_all [aD.ok]
  all_goals omega
theorem sV (pc ps dV pk : Int) (pf : Bool) (pv pg : Int) (w : World) :
    Calls Tryz.prog 183 #[.agg (List.toArray (rP pc ps dV pk pf pv pg))] w fun e w' => e = .returned (.bool (ay.mk pc ps dV pk pf pv pg).ok) ∧ Below w.heap.size w w' := by
  go_enter Tryz.func183, Tryz.ntmps183
  go_wp2_with (first | (go_at_call 132; refine (DR _ _ _).mono ?_; rintro e w' ⟨rfl, rfl⟩) | (go_at_call 133; refine (ny _ _).mono ?_; rintro e w' ⟨rfl, rfl⟩))
  all_goals go_ret
  all_goals refine ⟨bG ?_, ?_⟩
  all_goals first | exact ((((Below.refl _ _).alloc (Nat.le_refl _) _).setCell (Nat.le_refl _) _).setCell (Nat.le_refl _) _) | exact (((Below.refl _ _).alloc (Nat.le_refl _) _).setCell (Nat.le_refl _) _) | exact ((Below.refl _ _).alloc (Nat.le_refl _) _) | skip
  all_goals cases pf <;> simp_all [ay.ok]
  all_goals omega
theorem uF (k : Int) (w : World) :
    Calls Tryz.prog 184 #[.int .u8 k] w fun e w' => e = .returned (.bool (kept k)) ∧ w' = w := by
  go_enter Tryz.func184, Tryz.ntmps184
  go_wp2
  all_goals go_ret
  all_goals exact ⟨bG (by simp_all [kept] <;> omega), rfl⟩
theorem KZ (pc ps dV pk : Int) (pf : Bool) (pv pg : Int) (qc qs fF qk : Int) (qf : Bool) (qv qg : Int) (w : World) :
    Calls Tryz.prog 185 #[.agg (List.toArray (rP pc ps dV pk pf pv pg)), .agg (List.toArray (rP qc qs fF qk qf qv qg))] w fun e w' => e = .returned (.bool (ahead (ay.mk pc ps dV pk pf pv pg) (ay.mk qc qs fF qk qf qv qg))) ∧ Below w.heap.size w w' := by
  go_enter Tryz.func185, Tryz.ntmps185
  go_wp2
  all_goals go_ret
  all_goals refine ⟨bG ?_, ?_⟩
  all_goals first | exact ((((Below.refl _ _).alloc (Nat.le_refl _) _).alloc (by simp) _)) | skip
  all_goals simp_all [ahead]
  all_goals omega
theorem rA (iW iX iY j5 j6 : Int) (kE : Option Addr) (iQ kK : Nat) (kL : Option Addr) (iK kP : Nat) (key : Int) (w : World) :
    Calls Tryz.prog 182 #[.agg (List.toArray (rR iW iX iY j5 j6 kE iQ kK kL iK kP)), .int .u64 key] w fun e w' => e = .returned (.bool (decide (j5 ≤ key) && decide (key ≤ j6))) ∧ Below w.heap.size w w' := by
  go_enter Tryz.func182, Tryz.ntmps182
  go_wp2
  all_goals go_ret
  all_goals refine ⟨bG ?_, ?_⟩
  all_goals first | exact ((Below.refl _ _).alloc (Nat.le_refl _) _) | skip
  all_goals simp [*]
  all_goals omega
theorem zz (iW iX iY j5 j6 : Int) (kE : Option Addr) (iQ kK : Nat) (kL : Option Addr) (iK kP : Nat) (gu : List Row) (iD : List ay) (w : World) :
    Calls Tryz.prog 233 #[.agg (List.toArray (rR iW iX iY j5 j6 kE iQ kK kL iK kP))] w fun e w' => e = .returned (.bool (ax.mk iW iX iY j5 j6 ⟨kE, iQ, kK⟩ ⟨kL, iK, kP⟩ gu iD).no) ∧ Below w.heap.size w w' := by
  go_enter Tryz.func233, Tryz.ntmps233
  go_wp2
  all_goals go_ret
  all_goals refine ⟨bG ?_, ?_⟩
  all_goals first | exact ((Below.refl _ _).alloc (Nat.le_refl _) _) | skip
  all_goals simp_all [ax.no]
  all_goals (rw [Bool.eq_iff_iff]; simp)
theorem qQ (gR : Int) (gI gJ gK gM gN gP gQ : Int) (jU jV jW jX jY : Int) (jZ : Option Addr) (gA gB : Nat) (gC : Option Addr) (gD gF : Nat) (gS gT : Int) (gG : List Row) (gH : List ay) (w : World) :
    Calls Tryz.prog 232 #[.agg (List.toArray (rC gR gI gJ gK gM gN gP gQ jU jV jW jX jY jZ gA gB gC gD gF gS gT))] w fun e w' => e = .returned (.bool (aR.mk gR (aD.mk gI gJ gK gM gN gP gQ) (ax.mk jU jV jW jX jY ⟨jZ, gA, gB⟩ ⟨gC, gD, gF⟩ gG gH) gS gT).bare) ∧ Below w.heap.size w w' := by
  go_enter Tryz.func232, Tryz.ntmps232
  go_wp2_with (first | (go_at_call 233; refine (zz _ _ _ _ _ _ _ _ _ _ _ gG gH _).mono ?_; rintro e w' ⟨rfl, hbel⟩; have hB := blk hbel (heap_alloc_new w _)))
  all_goals go_ret
  all_goals refine ⟨bG ?_, ?_⟩
  all_goals first | exact ((Below.refl _ _).alloc (Nat.le_refl _) _) | exact ((Below.refl _ _).alloc (Nat.le_refl _) _).trans (Below.mono ‹_› (by simp)) | skip
  all_goals simp_all [aR.bare, aD.no]
theorem DT {lo hi : Int} {rows : List Row} {k : Nat} {x : Row} (hx : rows[k]? = some x) (h : (!decide (lo ≤ x.key)) = true ∨ (!decide (x.key ≤ hi)) = true) : rowAt lo hi rows k = false := by
  unfold rowAt; rw [hx]
  rcases h with h | h <;> simp at h <;> simp <;> intros <;> omega
theorem JC {lo hi : Int} {rows : List Row} {k : Nat} {x y : Row} (hx : rows[k]? = some x) (h0 : 0 < k) (hy : rows[k - 1]? = some y) (h : x.key ≤ y.key) : rowAt lo hi rows k = false := by
  have : (k == 0) = false := by simp; omega
  unfold rowAt; rw [hx]
  simp [hy, this]; intros; omega
theorem BL {lo hi : Int} {rows : List Row} {k : Nat} {x : Row} (hx : rows[k]? = some x) (h : (!decide (lo ≤ x.key)) = false ∧ (!decide (x.key ≤ hi)) = false) (hy : k = 0 ∨ ∃ y, rows[k - 1]? = some y ∧ y.key < x.key) : rowAt lo hi rows k = true := by
  unfold rowAt; rw [hx]
  simp at h
  rcases hy with rfl | ⟨y, hy, hlt⟩
  · simp [h]
  · simp [h, hy, hlt]
theorem NM (iW iX iY j5 j6 : Int) (kE : Option Addr) (iQ kK : Nat) (kL : Option Addr) (iK kP : Nat) (gu : List Row) (w : World) (h : cz w.heap.size w ⟨kE, iQ, kK⟩ 2 (gu.map Row.cells)) :
    Calls Tryz.prog 144 #[.agg (List.toArray (rR iW iX iY j5 j6 kE iQ kK kL iK kP))] w fun e w' => e = .returned (.bool (pM j5 j6 gu)) ∧ Below w.heap.size w w' := by
  have hlen : iQ = gu.length := by simpa using h.len
  have hlm : iQ ≤ maxLen := Nat.le_trans h.le h.max
  unfold maxLen at hlm
  have HL : Hid (iQ = gu.length) := hlen
  clear hlen
  go_enter Tryz.func144, Tryz.ntmps144
  go_wp2_with fail
  · go_ret
    exact ⟨bG (by have := HL.out; simp [pM]; omega), ((Below.refl _ _).alloc (Nat.le_refl _) _)⟩
  · generalize hW : w.alloc (Obj.cells (List.toArray (rR iW iX iY j5 j6 kE iQ kK kL iK kP)) 52) = W
    have hW0 : W.heap[w.heap.size]? = some (Obj.cells (List.toArray (rR iW iX iY j5 j6 kE iQ kK kL iK kP)) 52) := by rw [← hW]; exact heap_alloc_new w _
    have hW1 : Below w.heap.size w W := by rw [← hW]; exact (Below.refl _ _).alloc (Nat.le_refl _) _
    have hW2 : W.heap.size = w.heap.size + 1 := by rw [← hW]; simp
    clear hW
    go_loopw [12] (fun i wr => ∃ k : Nat, k ≤ iQ ∧ i = .int .i64 k ∧ (List.range k).all (rowAt j5 j6 gu) = true ∧ Below (w.heap.size + 1) W wr) (fun i _ => iQ - (intOf i).toNat)
    case atStart => exact ⟨0, Nat.zero_le _, rfl, by simp, Below.refl _ _⟩
    case round =>
      obtain ⟨k, hk, rfl, hall, hnx⟩ := hrel
      have hB := KX hW0 hnx
      have hsz : w.heap.size < wr.heap.size := by have := hnx.size; omega
      have HA : Hid ((List.range k).all (rowAt j5 j6 gu) = true) := hall
      clear hall
      by_cases hlt : k < iQ
      · obtain ⟨x, hx⟩ : ∃ x, gu[k]? = some x := ⟨gu[k]'(by rw [← HL.out]; exact hlt), by simp⟩
        have hS := h.below (hW1.trans (hnx.mono (by omega))) (Nat.le_refl _)
        obtain ⟨b, off, ha, Ih, hc0, hc1⟩ := hS.at2 hx
        obtain rfl : kE = some ⟨b, off, none⟩ := ha
        have HX : Hid (gu[k]? = some x) := hx
        clear hx
        have hbz : b < wr.heap.size := by omega
        by_cases hk0 : 0 < k
        · obtain ⟨y, hy⟩ : ∃ y, gu[k - 1]? = some y := ⟨gu[k - 1]'(by rw [← HL.out]; omega), by simp⟩
          obtain ⟨b', off', ha', _, hd0, _⟩ := hS.at2 hy
          simp only [Option.some.injEq, Addr.mk.injEq, and_true] at ha'
          obtain ⟨rfl, rfl⟩ := ha'
          have HY : Hid (gu[k - 1]? = some y) := hy
          clear hy
          go_wp2_with (first | (go_at_call 182; refine (rA _ _ _ _ _ _ _ _ _ _ _ _ _).mono ?_; rintro e w1 ⟨rfl, hbel⟩; have hl : Below wr.heap.size wr w1 := aQ (av _ _) hbel; have hB1 : ∀ o, w1.cell? ⟨w.heap.size, o, none⟩ = _ := fun o => (eD hl hsz o).trans (hB o); have hX1 := blk hbel (heap_alloc_new wr _); have hd1 := (eD hl hbz _).trans hd0))
          · go_ret
            refine ⟨bG (AA (k := k) (by rw [← HL.out]; exact hlt) (DT HX.out (by assumption))).symm, hW1.trans ((hnx.mono (by omega)).trans (hl.mono (by omega)))⟩
          · go_quiet (fail)
            go_wp2
            · go_ret
              exact ⟨bG (AA (k := k) (by rw [← HL.out]; exact hlt) (JC HX.out hk0 HY.out (by assumption))).symm, below_drewN (hW1.trans ((hnx.mono (by omega)).trans (hl.mono (by omega)))) _⟩
            · go_roundw
              case rel => exact ⟨k + 1, by omega, by go_num, qw HA.out (BL HX.out (by assumption) (.inr ⟨_, HY.out, by assumption⟩)), below_drewN (hnx.trans (hl.mono (by omega))) _⟩
              case measure => simp [intOf]; omega
        · have hd : decide ((0 : Int) < (k : Int)) = false := by simp; omega
          go_wp2_with (first | (go_at_call 182; refine (rA _ _ _ _ _ _ _ _ _ _ _ _ _).mono ?_; rintro e w1 ⟨rfl, hbel⟩; have hl : Below wr.heap.size wr w1 := aQ (av _ _) hbel; have hB1 : ∀ o, w1.cell? ⟨w.heap.size, o, none⟩ = _ := fun o => (eD hl hsz o).trans (hB o); have hX1 := blk hbel (heap_alloc_new wr _)))
          · go_ret
            refine ⟨bG (AA (k := k) (by rw [← HL.out]; exact hlt) (DT HX.out (by assumption))).symm, hW1.trans ((hnx.mono (by omega)).trans (hl.mono (by omega)))⟩
          · go_quiet (fail)
            go_wp2
            go_roundw
            case rel => exact ⟨k + 1, by omega, by go_num, qw HA.out (BL HX.out (by assumption) (.inl (by omega))), below_drewN (hnx.trans (hl.mono (by omega))) _⟩
            case measure => simp [intOf]; omega
      · go_wp2
        go_ret
        obtain rfl : k = iQ := by omega
        exact ⟨bG (by have := HL.out; have h2 := HA.out; rw [this] at h2; simp [pM, h2]; omega), hW1.trans (hnx.mono (by omega))⟩
theorem DU {lo hi : Int} {bC : List ay} {k : Nat} {x : ay} (hx : bC[k]? = some x) (h : (!decide (lo ≤ x.key)) = true ∨ (!decide (x.key ≤ hi)) = true) : lU lo hi bC k = false := by
  unfold lU; rw [hx]
  rcases h with h | h <;> simp at h <;> simp <;> intros <;> omega
theorem FB {lo hi : Int} {bC : List ay} {k : Nat} {x : ay} (hx : bC[k]? = some x) (h : ¬ kept x.k = true) : lU lo hi bC k = false := by
  unfold lU; rw [hx]
  simp at h; simp [h]
theorem DV {lo hi : Int} {bC : List ay} {k : Nat} {x : ay} (hx : bC[k]? = some x) (h : ¬ x.ok = true) : lU lo hi bC k = false := by
  unfold lU; rw [hx]
  simp at h; simp [h]
theorem JD {lo hi : Int} {bC : List ay} {k : Nat} {x y : ay} (hx : bC[k]? = some x) (h0 : 0 < k) (hy : bC[k - 1]? = some y) (h : ahead y x = false) : lU lo hi bC k = false := by
  have : (k == 0) = false := by simp; omega
  unfold lU; rw [hx]
  simp [hy, this, h]
theorem BM {lo hi : Int} {bC : List ay} {k : Nat} {x : ay} (hx : bC[k]? = some x) (h1 : x.ok = true) (h2 : kept x.k = true) (h : (!decide (lo ≤ x.key)) = false ∧ (!decide (x.key ≤ hi)) = false) (hy : k = 0 ∨ ∃ y, bC[k - 1]? = some y ∧ ahead y x = true) : lU lo hi bC k = true := by
  unfold lU; rw [hx]
  simp at h
  rcases hy with rfl | ⟨y, hy, hlt⟩
  · simp [h, h1, h2]
  · simp [h, h1, h2, hy, hlt]
theorem NN (iW iX iY j5 j6 : Int) (kE : Option Addr) (iQ kK : Nat) (kL : Option Addr) (iK kP : Nat) (iD : List ay) (w : World) (h : cz w.heap.size w ⟨kL, iK, kP⟩ 7 (iD.map ay.cells)) :
    Calls Tryz.prog 145 #[.agg (List.toArray (rR iW iX iY j5 j6 kE iQ kK kL iK kP))] w fun e w' => e = .returned (.bool (pO j5 j6 iD)) ∧ Below w.heap.size w w' := by
  have hlen : iK = iD.length := by simpa using h.len
  have hlm : iK ≤ maxLen := Nat.le_trans h.le h.max
  unfold maxLen at hlm
  have HL : Hid (iK = iD.length) := hlen
  clear hlen
  go_enter Tryz.func145, Tryz.ntmps145
  go_wp2_with fail
  · go_ret
    exact ⟨bG (by have := HL.out; simp [pO]; omega), ((Below.refl _ _).alloc (Nat.le_refl _) _)⟩
  · generalize hW : w.alloc (Obj.cells (List.toArray (rR iW iX iY j5 j6 kE iQ kK kL iK kP)) 52) = W
    have hW0 : W.heap[w.heap.size]? = some (Obj.cells (List.toArray (rR iW iX iY j5 j6 kE iQ kK kL iK kP)) 52) := by rw [← hW]; exact heap_alloc_new w _
    have hW1 : Below w.heap.size w W := by rw [← hW]; exact (Below.refl _ _).alloc (Nat.le_refl _) _
    have hW2 : W.heap.size = w.heap.size + 1 := by rw [← hW]; simp
    clear hW
    go_loopw [12] (fun i wr => ∃ k : Nat, k ≤ iK ∧ i = .int .i64 k ∧ (List.range k).all (lU j5 j6 iD) = true ∧ Below (w.heap.size + 1) W wr) (fun i _ => iK - (intOf i).toNat)
    case atStart => exact ⟨0, Nat.zero_le _, rfl, by simp, Below.refl _ _⟩
    case round =>
      obtain ⟨k, hk, rfl, hall, hnx⟩ := hrel
      have hB := KX hW0 hnx
      have hsz : w.heap.size < wr.heap.size := by have := hnx.size; omega
      have HA : Hid ((List.range k).all (lU j5 j6 iD) = true) := hall
      clear hall
      by_cases hlt : k < iK
      · obtain ⟨x, hx⟩ : ∃ x, iD[k]? = some x := ⟨iD[k]'(by rw [← HL.out]; exact hlt), by simp⟩
        have hS := h.below (hW1.trans (hnx.mono (by omega))) (Nat.le_refl _)
        obtain ⟨b, off, ha, Ih, hc0, hc1, hc2, hc3, hc4, Vy, hc6⟩ := hS.Vx hx
        obtain rfl : kL = some ⟨b, off, none⟩ := ha
        have HX : Hid (iD[k]? = some x) := hx
        clear hx
        have hbz : b < wr.heap.size := by omega
        obtain ⟨xc, xs, mR, xk, xf, xv, xg⟩ := x
        by_cases hk0 : 0 < k
        · obtain ⟨j, rfl⟩ : ∃ j, k = j + 1 := ⟨k - 1, by omega⟩
          obtain ⟨y, hy⟩ : ∃ y, iD[j]? = some y := ⟨iD[j]'(by rw [← HL.out]; omega), by simp⟩
          have hj1 : (0 : Int) ≤ (j : Int) := by omega
          have hj2 : (j : Int) < (iK : Int) := by omega
          have YY : j < iK := by omega
          have YZ : IntKind.i64.wrap (j : Int) = (j : Int) := IntWalk.i64_in _ ⟨by omega, by omega⟩
          obtain ⟨b', off', ha', _, hd0, hd1, hd2, hd3, hd4, hd5, hd6⟩ := hS.Vx hy
          simp only [Option.some.injEq, Addr.mk.injEq, and_true] at ha'
          obtain ⟨rfl, rfl⟩ := ha'
          have HY : Hid (iD[j]? = some y) := hy
          clear hy
          obtain ⟨yc, ys, EZ, yk, yf, yv, yg⟩ := y
          dsimp only at hc0 hc1 hc2 hc3 hc4 Vy hc6 hd0 hd1 hd2 hd3 hd4 hd5 hd6
          go_wp2_with (first | (go_at_call 183; refine (sV _ _ _ _ _ _ _ _).mono ?_; rintro e w1 ⟨rfl, hbel⟩; have hl : Below wr.heap.size wr w1 := aQ (av _ _) hbel; have hB1 : ∀ o, w1.cell? ⟨w.heap.size, o, none⟩ = _ := fun o => (eD hl hsz o).trans (hB o); have hX1 := blk hbel (heap_alloc_new wr _); have hz1 : wr.heap.size < w1.heap.size := (by have := hbel.size; simp at this; omega)) | (go_at_call 184; refine (uF _ _).mono ?_; rintro e w1 ⟨rfl, rfl⟩) | (go_at_call 182; refine (rA _ _ _ _ _ _ _ _ _ _ _ _ _).mono ?_; rintro e w2 ⟨rfl, pQ⟩; have hl2 : Below wr.heap.size wr w2 := aQ hl pQ; have hB2 : ∀ o, w2.cell? ⟨w.heap.size, o, none⟩ = _ := fun o => (eD hl2 hsz o).trans (hB o); have hX2 : ∀ o, w2.cell? ⟨wr.heap.size, o, none⟩ = _ := fun o => (eD pQ hz1 o).trans (hX1 o); have he0 := (eD hl2 hbz _).trans hd0; have he1 := (eD hl2 hbz _).trans hd1; have he2 := (eD hl2 hbz _).trans hd2; have Y0 := (eD hl2 hbz _).trans hd3; have Y1 := (eD hl2 hbz _).trans hd4; have Y2 := (eD hl2 hbz _).trans hd5; have Y3 := (eD hl2 hbz _).trans hd6))
          · go_ret; exact ⟨bG (oK (k := j + 1) (by rw [← HL.out]; exact hlt) (DU HX.out (by assumption))).symm, hW1.trans ((hnx.mono (by omega)).trans (hl2.mono (by omega)))⟩
          · go_region_with (first | (go_at_call 185; refine (KZ _ _ _ _ _ _ _ _ _ _ _ _ _ _ _).mono ?_; rintro e w3 ⟨rfl, mW⟩))
            all_goals go_wp2
            all_goals first | (go_ret; exact ⟨bG (oK (k := j + 1) (by rw [← HL.out]; exact hlt) (JD HX.out hk0 HY.out (by first | assumption | simp_all))).symm, hW1.trans ((hnx.mono (by omega)).trans ((hl2.drew.trans (Below.mono ‹Below (World.drew _).heap.size _ _› hl2.size)).mono (by omega)))⟩) | skip
            all_goals go_roundw
            all_goals first | exact ⟨j + 1 + 1, by omega, by go_num, qw HA.out (BM HX.out (by assumption) (by assumption) (by assumption) (.inr ⟨_, HY.out, by first | assumption | simp_all⟩)), hnx.trans ((hl2.drew.trans (Below.mono ‹Below (World.drew _).heap.size _ _› hl2.size)).mono (by omega))⟩ | (simp [intOf]; omega) | skip
            all_goals go_ways
          · go_ret; exact ⟨bG (oK (k := j + 1) (by rw [← HL.out]; exact hlt) (FB HX.out (by assumption))).symm, hW1.trans ((hnx.mono (by omega)).trans (hl.mono (by omega)))⟩
          · go_ret; exact ⟨bG (oK (k := j + 1) (by rw [← HL.out]; exact hlt) (DV HX.out (by assumption))).symm, hW1.trans ((hnx.mono (by omega)).trans (hl.mono (by omega)))⟩
        · have hd : decide ((0 : Int) < (k : Int)) = false := by simp; omega
          dsimp only at hc0 hc1 hc2 hc3 hc4 Vy hc6
          go_wp2_with (first | (go_at_call 183; refine (sV _ _ _ _ _ _ _ _).mono ?_; rintro e w1 ⟨rfl, hbel⟩; have hl : Below wr.heap.size wr w1 := aQ (av _ _) hbel; have hB1 : ∀ o, w1.cell? ⟨w.heap.size, o, none⟩ = _ := fun o => (eD hl hsz o).trans (hB o); have hX1 := blk hbel (heap_alloc_new wr _); have hz1 : wr.heap.size < w1.heap.size := (by have := hbel.size; simp at this; omega)) | (go_at_call 184; refine (uF _ _).mono ?_; rintro e w1 ⟨rfl, rfl⟩) | (go_at_call 182; refine (rA _ _ _ _ _ _ _ _ _ _ _ _ _).mono ?_; rintro e w2 ⟨rfl, pQ⟩; have hl2 : Below wr.heap.size wr w2 := aQ hl pQ; have hB2 : ∀ o, w2.cell? ⟨w.heap.size, o, none⟩ = _ := fun o => (eD hl2 hsz o).trans (hB o); have hX2 : ∀ o, w2.cell? ⟨wr.heap.size, o, none⟩ = _ := fun o => (eD pQ hz1 o).trans (hX1 o)))
          · go_ret; exact ⟨bG (oK (k := k) (by rw [← HL.out]; exact hlt) (DU HX.out (by assumption))).symm, hW1.trans ((hnx.mono (by omega)).trans (hl2.mono (by omega)))⟩
          · go_quiet (fail)
            go_wp2
            go_roundw
            case rel => exact ⟨k + 1, by omega, by go_num, qw HA.out (BM HX.out (by assumption) (by assumption) (by assumption) (.inl (by omega))), below_drewN (hnx.trans (hl2.mono (by omega))) _⟩
            case measure => simp [intOf]; omega
          · go_ret; exact ⟨bG (oK (k := k) (by rw [← HL.out]; exact hlt) (FB HX.out (by assumption))).symm, hW1.trans ((hnx.mono (by omega)).trans (hl.mono (by omega)))⟩
          · go_ret; exact ⟨bG (oK (k := k) (by rw [← HL.out]; exact hlt) (DV HX.out (by assumption))).symm, hW1.trans ((hnx.mono (by omega)).trans (hl.mono (by omega)))⟩
      · go_wp2
        go_ret
        obtain rfl : k = iK := by omega
        exact ⟨bG (by have := HL.out; have h2 := HA.out; rw [this] at h2; simp [pO, h2]; omega), hW1.trans (hnx.mono (by omega))⟩
theorem p8 (iW iX iY j5 j6 : Int) (kE : Option Addr) (iQ kK : Nat) (kL : Option Addr) (iK kP : Nat) (gu : List Row) (iD : List ay) (w : World) (h1 : cz w.heap.size w ⟨kE, iQ, kK⟩ 2 (gu.map Row.cells)) (h2 : cz w.heap.size w ⟨kL, iK, kP⟩ 7 (iD.map ay.cells)) :
    Calls Tryz.prog 86 #[.agg (List.toArray (rR iW iX iY j5 j6 kE iQ kK kL iK kP))] w fun e w' => e = .returned (.bool (ax.mk iW iX iY j5 j6 ⟨kE, iQ, kK⟩ ⟨kL, iK, kP⟩ gu iD).ok) ∧ Below w.heap.size w w' := by
  have hr1 : cz (w.alloc (.cells (List.toArray (rR iW iX iY j5 j6 kE iQ kK kL iK kP)) 52)).heap.size (w.alloc (.cells (List.toArray (rR iW iX iY j5 j6 kE iQ kK kL iK kP)) 52)) ⟨kE, iQ, kK⟩ 2 (gu.map Row.cells) := h1.later (av _ _)
  go_enter Tryz.func86, Tryz.ntmps86
  go_wp2_with (first | (go_at_call 133; refine (ny _ _).mono ?_; rintro e w1 ⟨rfl, rfl⟩) | (go_at_call 144; refine (NM _ _ _ _ _ _ _ _ _ _ _ gu _ hr1).mono ?_; rintro e w1 ⟨rfl, hbel⟩; have hB := blk hbel (heap_alloc_new w _); have hd1 := h2.later (aQ (av w _) hbel)) | (go_at_call 145; refine (NN _ _ _ _ _ _ _ _ _ _ _ iD _ (by assumption)).mono ?_; rintro e w2 ⟨rfl, pQ⟩))
  all_goals go_ret
  all_goals refine ⟨bG ?_, ?_⟩
  all_goals first | exact aQ (aQ (av _ _) ‹Below (World.alloc _ _).heap.size _ _›) ‹_› | exact aQ (av _ _) ‹_› | exact av _ _ | skip
  all_goals simp_all [ax.ok]
  all_goals omega
theorem K3 (gR : Int) (gI gJ gK gM gN gP gQ : Int) (jU jV jW jX jY : Int) (jZ : Option Addr) (gA gB : Nat) (gC : Option Addr) (gD gF : Nat) (gS gT : Int) (gG : List Row) (gH : List ay) (w : World) (hk : gR = 0) :
    Calls Tryz.prog 212 #[.agg (List.toArray (rC gR gI gJ gK gM gN gP gQ jU jV jW jX jY jZ gA gB gC gD gF gS gT))] w fun e w' => e = .returned (.bool (aR.mk gR (aD.mk gI gJ gK gM gN gP gQ) (ax.mk jU jV jW jX jY ⟨jZ, gA, gB⟩ ⟨gC, gD, gF⟩ gG gH) gS gT).ok) ∧ Below w.heap.size w w' := by
  subst hk
  have hT := av w (.cells (List.toArray (rC 0 gI gJ gK gM gN gP gQ jU jV jW jX jY jZ gA gB gC gD gF gS gT)) 54)
  have hW := heap_alloc_new w (.cells (List.toArray (rC 0 gI gJ gK gM gN gP gQ jU jV jW jX jY jZ gA gB gC gD gF gS gT)) 54)
  go_enter Tryz.func212, Tryz.ntmps212
  go_wp2_with (first | (with_reducible show wpList _ _ _ ({ dst := _, op := Op.load 54 _, type := _, pos := _, after := _, guard := _ } :: _) _ _; go_must (refine ak rfl _ _ rfl w.heap.size 0 rfl 17 _ Tryz.underlying54 rfl dS _ _ (by assumption) rfl (rC 0 gI gJ gK gM gN gP gQ jU jV jW jX jY jZ gA gB gC gD gF gS gT) rfl ?_)) | (go_at_call 232; go_must (refine (qQ _ _ _ _ _ _ _ _ _ _ _ _ _ _ _ _ _ _ _ _ _ gG gH _).mono ?_; rintro e w3 ⟨rfl, mW⟩)))
  go_ret
  exact ⟨bG (by simp [aR.ok, aR.bare]), aQ hT mW⟩
theorem JE (gR : Int) (gI gJ gK gM gN gP gQ : Int) (jU jV jW jX jY : Int) (jZ : Option Addr) (gA gB : Nat) (gC : Option Addr) (gD gF : Nat) (gS gT : Int) (gG : List Row) (gH : List ay) (w : World) (hk : gR = 1) (hq : (aD.mk gI gJ gK gM gN gP gQ).ok = true) :
    Calls Tryz.prog 212 #[.agg (List.toArray (rC gR gI gJ gK gM gN gP gQ jU jV jW jX jY jZ gA gB gC gD gF gS gT))] w fun e w' => e = .returned (.bool (aR.mk gR (aD.mk gI gJ gK gM gN gP gQ) (ax.mk jU jV jW jX jY ⟨jZ, gA, gB⟩ ⟨gC, gD, gF⟩ gG gH) gS gT).ok) ∧ Below w.heap.size w w' := by
  subst hk
  have hT := av w (.cells (List.toArray (rC 1 gI gJ gK gM gN gP gQ jU jV jW jX jY jZ gA gB gC gD gF gS gT)) 54)
  have hW := heap_alloc_new w (.cells (List.toArray (rC 1 gI gJ gK gM gN gP gQ jU jV jW jX jY jZ gA gB gC gD gF gS gT)) 54)
  go_enter Tryz.func212, Tryz.ntmps212
  go_wp2_with (first | (go_at_call 82; go_must (refine (qH _ _ _ _ _ _ _ _).mono ?_; rintro e w1 ⟨rfl, hbel⟩; have hW1 := bF hbel hW; have hT1 := aQ hT hbel; clear hbel hW hT)) | (with_reducible show wpList _ _ _ ({ dst := _, op := Op.store 50 _ _, type := _, pos := _, after := _, guard := none } :: _) _ _; go_must (refine ae rfl _ _ _ rfl rfl w.heap.size 1 rfl j4 rfl _ jm rfl rfl _ _ (by assumption) rfl (rC 1 0 0 0 0 0 0 0 jU jV jW jX jY jZ gA gB gC gD gF gS gT) rfl ?_; intro w2 hW2 hO2; have eB := hT1.trans (hO2.below (Nat.le_refl _)); clear hO2)) | (with_reducible show wpList _ _ _ ({ dst := _, op := Op.load 54 _, type := _, pos := _, after := _, guard := _ } :: _) _ _; go_must (refine ak rfl _ _ rfl w.heap.size 0 rfl 17 _ Tryz.underlying54 rfl dS _ _ (by assumption) rfl (rC 1 0 0 0 0 0 0 0 jU jV jW jX jY jZ gA gB gC gD gF gS gT) rfl ?_)) | (go_at_call 232; go_must (refine (qQ _ _ _ _ _ _ _ _ _ _ _ _ _ _ _ _ _ _ _ _ _ gG gH _).mono ?_; rintro e w3 ⟨rfl, mW⟩)))
  go_ret
  exact ⟨bG (by simp [aR.ok, aR.bare, aD.no, hq]), aQ eB mW⟩
theorem JF (gR : Int) (gI gJ gK gM gN gP gQ : Int) (jU jV jW jX jY : Int) (jZ : Option Addr) (gA gB : Nat) (gC : Option Addr) (gD gF : Nat) (gS gT : Int) (gG : List Row) (gH : List ay) (w : World) (hk : gR = 1) (hq : (aD.mk gI gJ gK gM gN gP gQ).ok = false) :
    Calls Tryz.prog 212 #[.agg (List.toArray (rC gR gI gJ gK gM gN gP gQ jU jV jW jX jY jZ gA gB gC gD gF gS gT))] w fun e w' => e = .returned (.bool (aR.mk gR (aD.mk gI gJ gK gM gN gP gQ) (ax.mk jU jV jW jX jY ⟨jZ, gA, gB⟩ ⟨gC, gD, gF⟩ gG gH) gS gT).ok) ∧ Below w.heap.size w w' := by
  subst hk
  have hT := av w (.cells (List.toArray (rC 1 gI gJ gK gM gN gP gQ jU jV jW jX jY jZ gA gB gC gD gF gS gT)) 54)
  have hW := heap_alloc_new w (.cells (List.toArray (rC 1 gI gJ gK gM gN gP gQ jU jV jW jX jY jZ gA gB gC gD gF gS gT)) 54)
  go_enter Tryz.func212, Tryz.ntmps212
  go_wp2_with (first | (go_at_call 82; go_must (refine (qH _ _ _ _ _ _ _ _).mono ?_; rintro e w1 ⟨rfl, hbel⟩; have hW1 := bF hbel hW; have hT1 := aQ hT hbel; clear hbel hW hT)) | (with_reducible show wpList _ _ _ ({ dst := _, op := Op.store 50 _ _, type := _, pos := _, after := _, guard := none } :: _) _ _; go_must (refine ae rfl _ _ _ rfl rfl w.heap.size 1 rfl j4 rfl _ jm rfl rfl _ _ (by assumption) rfl (rC 1 0 0 0 0 0 0 0 jU jV jW jX jY jZ gA gB gC gD gF gS gT) rfl ?_; intro w2 hW2 hO2; have eB := hT1.trans (hO2.below (Nat.le_refl _)); clear hO2)))
  go_ret
  exact ⟨bG (by simp [aR.ok, hq]), eB⟩
theorem JG (gR : Int) (gI gJ gK gM gN gP gQ : Int) (jU jV jW jX jY : Int) (jZ : Option Addr) (gA gB : Nat) (gC : Option Addr) (gD gF : Nat) (gS gT : Int) (gG : List Row) (gH : List ay) (w : World) (hk : gR = 2) (h1 : cz w.heap.size w ⟨jZ, gA, gB⟩ 2 (gG.map Row.cells)) (h2 : cz w.heap.size w ⟨gC, gD, gF⟩ 7 (gH.map ay.cells)) (hq : (ax.mk jU jV jW jX jY ⟨jZ, gA, gB⟩ ⟨gC, gD, gF⟩ gG gH).ok = true) :
    Calls Tryz.prog 212 #[.agg (List.toArray (rC gR gI gJ gK gM gN gP gQ jU jV jW jX jY jZ gA gB gC gD gF gS gT))] w fun e w' => e = .returned (.bool (aR.mk gR (aD.mk gI gJ gK gM gN gP gQ) (ax.mk jU jV jW jX jY ⟨jZ, gA, gB⟩ ⟨gC, gD, gF⟩ gG gH) gS gT).ok) ∧ Below w.heap.size w w' := by
  subst hk
  have hT := av w (.cells (List.toArray (rC 2 gI gJ gK gM gN gP gQ jU jV jW jX jY jZ gA gB gC gD gF gS gT)) 54)
  have hW := heap_alloc_new w (.cells (List.toArray (rC 2 gI gJ gK gM gN gP gQ jU jV jW jX jY jZ gA gB gC gD gF gS gT)) 54)
  go_enter Tryz.func212, Tryz.ntmps212
  go_wp2_with (first | (go_at_call 86; go_must (refine (p8 _ _ _ _ _ _ _ _ _ _ _ gG gH _ (h1.later hT) (h2.later hT)).mono ?_; rintro e w1 ⟨rfl, hbel⟩; have hW1 := bF hbel hW; have hT1 := aQ hT hbel; clear hbel hW hT)) | (with_reducible show wpList _ _ _ ({ dst := _, op := Op.store 52 _ _, type := _, pos := _, after := _, guard := none } :: _) _ _; go_must (refine ae rfl _ _ _ rfl rfl w.heap.size 8 rfl q9 rfl _ nk rfl rfl _ _ (by assumption) rfl (rC 2 gI gJ gK gM gN gP gQ 0 0 0 0 0 none 0 0 none 0 0 gS gT) rfl ?_; intro w2 hW2 hO2; have eB := hT1.trans (hO2.below (Nat.le_refl _)); clear hO2)) | (with_reducible show wpList _ _ _ ({ dst := _, op := Op.load 54 _, type := _, pos := _, after := _, guard := _ } :: _) _ _; go_must (refine ak rfl _ _ rfl w.heap.size 0 rfl 17 _ Tryz.underlying54 rfl dS _ _ (by assumption) rfl (rC 2 gI gJ gK gM gN gP gQ 0 0 0 0 0 none 0 0 none 0 0 gS gT) rfl ?_)) | (go_at_call 232; go_must (refine (qQ _ _ _ _ _ _ _ _ _ _ _ _ _ _ _ _ _ _ _ _ _ [] [] _).mono ?_; rintro e w3 ⟨rfl, mW⟩)))
  go_ret
  exact ⟨bG (by simp [aR.ok, aR.bare, ax.no, hq]), aQ eB mW⟩
theorem JH (gR : Int) (gI gJ gK gM gN gP gQ : Int) (jU jV jW jX jY : Int) (jZ : Option Addr) (gA gB : Nat) (gC : Option Addr) (gD gF : Nat) (gS gT : Int) (gG : List Row) (gH : List ay) (w : World) (hk : gR = 2) (h1 : cz w.heap.size w ⟨jZ, gA, gB⟩ 2 (gG.map Row.cells)) (h2 : cz w.heap.size w ⟨gC, gD, gF⟩ 7 (gH.map ay.cells)) (hq : (ax.mk jU jV jW jX jY ⟨jZ, gA, gB⟩ ⟨gC, gD, gF⟩ gG gH).ok = false) :
    Calls Tryz.prog 212 #[.agg (List.toArray (rC gR gI gJ gK gM gN gP gQ jU jV jW jX jY jZ gA gB gC gD gF gS gT))] w fun e w' => e = .returned (.bool (aR.mk gR (aD.mk gI gJ gK gM gN gP gQ) (ax.mk jU jV jW jX jY ⟨jZ, gA, gB⟩ ⟨gC, gD, gF⟩ gG gH) gS gT).ok) ∧ Below w.heap.size w w' := by
  subst hk
  have hT := av w (.cells (List.toArray (rC 2 gI gJ gK gM gN gP gQ jU jV jW jX jY jZ gA gB gC gD gF gS gT)) 54)
  have hW := heap_alloc_new w (.cells (List.toArray (rC 2 gI gJ gK gM gN gP gQ jU jV jW jX jY jZ gA gB gC gD gF gS gT)) 54)
  go_enter Tryz.func212, Tryz.ntmps212
  go_wp2_with (first | (go_at_call 86; go_must (refine (p8 _ _ _ _ _ _ _ _ _ _ _ gG gH _ (h1.later hT) (h2.later hT)).mono ?_; rintro e w1 ⟨rfl, hbel⟩; have hW1 := bF hbel hW; have hT1 := aQ hT hbel; clear hbel hW hT)) | (with_reducible show wpList _ _ _ ({ dst := _, op := Op.store 52 _ _, type := _, pos := _, after := _, guard := none } :: _) _ _; go_must (refine ae rfl _ _ _ rfl rfl w.heap.size 8 rfl q9 rfl _ nk rfl rfl _ _ (by assumption) rfl (rC 2 gI gJ gK gM gN gP gQ 0 0 0 0 0 none 0 0 none 0 0 gS gT) rfl ?_; intro w2 hW2 hO2; have eB := hT1.trans (hO2.below (Nat.le_refl _)); clear hO2)))
  go_ret
  exact ⟨bG (by simp [aR.ok, hq]), eB⟩
theorem JJ (gR : Int) (gI gJ gK gM gN gP gQ : Int) (jU jV jW jX jY : Int) (jZ : Option Addr) (gA gB : Nat) (gC : Option Addr) (gD gF : Nat) (gS gT : Int) (gG : List Row) (gH : List ay) (w : World) (hk : gR = 3) (hq : gS < 4) :
    Calls Tryz.prog 212 #[.agg (List.toArray (rC gR gI gJ gK gM gN gP gQ jU jV jW jX jY jZ gA gB gC gD gF gS gT))] w fun e w' => e = .returned (.bool (aR.mk gR (aD.mk gI gJ gK gM gN gP gQ) (ax.mk jU jV jW jX jY ⟨jZ, gA, gB⟩ ⟨gC, gD, gF⟩ gG gH) gS gT).ok) ∧ Below w.heap.size w w' := by
  subst hk
  have hT := av w (.cells (List.toArray (rC 3 gI gJ gK gM gN gP gQ jU jV jW jX jY jZ gA gB gC gD gF gS gT)) 54)
  have hW := heap_alloc_new w (.cells (List.toArray (rC 3 gI gJ gK gM gN gP gQ jU jV jW jX jY jZ gA gB gC gD gF gS gT)) 54)
  go_enter Tryz.func212, Tryz.ntmps212
  go_wp2_with (first | (go_at_call 133; refine (ny _ _).mono ?_; rintro e w1 ⟨rfl, rfl⟩) | (with_reducible show wpList _ _ _ ({ dst := _, op := Op.store 5 _ _, type := _, pos := _, after := _, guard := none } :: _) _ _; go_must (refine ah rfl _ _ _ rfl rfl w.heap.size 15 rfl (.int .u8 0) rfl iC rfl _ _ (by assumption) rfl (rC 3 gI gJ gK gM gN gP gQ jU jV jW jX jY jZ gA gB gC gD gF 0 gT) rfl ?_; intro w2 hW2 hO2; have eB := hT.trans (hO2.below (Nat.le_refl _)); clear hO2)) | (with_reducible show wpList _ _ _ ({ dst := _, op := Op.store 47 _ _, type := _, pos := _, after := _, guard := none } :: _) _ _; go_must (refine ah rfl _ _ _ rfl rfl w.heap.size 16 rfl (.int .u32 0) rfl fK rfl _ _ (by assumption) rfl (rC 3 gI gJ gK gM gN gP gQ jU jV jW jX jY jZ gA gB gC gD gF 0 0) rfl ?_; intro w2 hW3 hO2; have oh := eB.trans (hO2.below (Nat.le_refl _)); clear hO2)) | (with_reducible show wpList _ _ _ ({ dst := _, op := Op.load 54 _, type := _, pos := _, after := _, guard := _ } :: _) _ _; go_must (refine ak rfl _ _ rfl w.heap.size 0 rfl 17 _ Tryz.underlying54 rfl dS _ _ (by assumption) rfl (rC 3 gI gJ gK gM gN gP gQ jU jV jW jX jY jZ gA gB gC gD gF 0 0) rfl ?_)) | (go_at_call 232; go_must (refine (qQ _ _ _ _ _ _ _ _ _ _ _ _ _ _ _ _ _ _ _ _ _ gG gH _).mono ?_; rintro e w3 ⟨rfl, mW⟩)))
  go_ret
  exact ⟨bG (by simp [aR.ok, aR.bare, hq]), aQ oh mW⟩
theorem JK (gR : Int) (gI gJ gK gM gN gP gQ : Int) (jU jV jW jX jY : Int) (jZ : Option Addr) (gA gB : Nat) (gC : Option Addr) (gD gF : Nat) (gS gT : Int) (gG : List Row) (gH : List ay) (w : World) (hk : gR = 3) (hq : ¬ gS < 4) :
    Calls Tryz.prog 212 #[.agg (List.toArray (rC gR gI gJ gK gM gN gP gQ jU jV jW jX jY jZ gA gB gC gD gF gS gT))] w fun e w' => e = .returned (.bool (aR.mk gR (aD.mk gI gJ gK gM gN gP gQ) (ax.mk jU jV jW jX jY ⟨jZ, gA, gB⟩ ⟨gC, gD, gF⟩ gG gH) gS gT).ok) ∧ Below w.heap.size w w' := by
  subst hk
  have hT := av w (.cells (List.toArray (rC 3 gI gJ gK gM gN gP gQ jU jV jW jX jY jZ gA gB gC gD gF gS gT)) 54)
  have hW := heap_alloc_new w (.cells (List.toArray (rC 3 gI gJ gK gM gN gP gQ jU jV jW jX jY jZ gA gB gC gD gF gS gT)) 54)
  go_enter Tryz.func212, Tryz.ntmps212
  go_wp2_with (first | (go_at_call 133; refine (ny _ _).mono ?_; rintro e w1 ⟨rfl, rfl⟩) | (with_reducible show wpList _ _ _ ({ dst := _, op := Op.store 5 _ _, type := _, pos := _, after := _, guard := none } :: _) _ _; go_must (refine ah rfl _ _ _ rfl rfl w.heap.size 15 rfl (.int .u8 0) rfl iC rfl _ _ (by assumption) rfl (rC 3 gI gJ gK gM gN gP gQ jU jV jW jX jY jZ gA gB gC gD gF 0 gT) rfl ?_; intro w2 hW2 hO2; have eB := hT.trans (hO2.below (Nat.le_refl _)); clear hO2)) | (with_reducible show wpList _ _ _ ({ dst := _, op := Op.store 47 _ _, type := _, pos := _, after := _, guard := none } :: _) _ _; go_must (refine ah rfl _ _ _ rfl rfl w.heap.size 16 rfl (.int .u32 0) rfl fK rfl _ _ (by assumption) rfl (rC 3 gI gJ gK gM gN gP gQ jU jV jW jX jY jZ gA gB gC gD gF 0 0) rfl ?_; intro w2 hW3 hO2; have oh := eB.trans (hO2.below (Nat.le_refl _)); clear hO2)))
  go_ret
  exact ⟨bG (by simp [aR.ok]; omega), oh⟩
theorem K4 (gR : Int) (gI gJ gK gM gN gP gQ : Int) (jU jV jW jX jY : Int) (jZ : Option Addr) (gA gB : Nat) (gC : Option Addr) (gD gF : Nat) (gS gT : Int) (gG : List Row) (gH : List ay) (w : World) (k0 : (gR == 0) = false) (k1 : (gR == 1) = false) (k2 : (gR == 2) = false) (k3 : (gR == 3) = false) :
    Calls Tryz.prog 212 #[.agg (List.toArray (rC gR gI gJ gK gM gN gP gQ jU jV jW jX jY jZ gA gB gC gD gF gS gT))] w fun e w' => e = .returned (.bool (aR.mk gR (aD.mk gI gJ gK gM gN gP gQ) (ax.mk jU jV jW jX jY ⟨jZ, gA, gB⟩ ⟨gC, gD, gF⟩ gG gH) gS gT).ok) ∧ Below w.heap.size w w' := by
  go_enter Tryz.func212, Tryz.ntmps212
  go_wp2
  go_ret
  exact ⟨bG (by simp [aR.ok, k0, k1, k2, k3]), av _ _⟩
theorem mO (gR : Int) (gI gJ gK gM gN gP gQ : Int) (jU jV jW jX jY : Int) (jZ : Option Addr) (gA gB : Nat) (gC : Option Addr) (gD gF : Nat) (gS gT : Int) (gG : List Row) (gH : List ay) (w : World) (h1 : cz w.heap.size w ⟨jZ, gA, gB⟩ 2 (gG.map Row.cells)) (h2 : cz w.heap.size w ⟨gC, gD, gF⟩ 7 (gH.map ay.cells)) :
    Calls Tryz.prog 212 #[.agg (List.toArray (rC gR gI gJ gK gM gN gP gQ jU jV jW jX jY jZ gA gB gC gD gF gS gT))] w fun e w' => e = .returned (.bool (aR.mk gR (aD.mk gI gJ gK gM gN gP gQ) (ax.mk jU jV jW jX jY ⟨jZ, gA, gB⟩ ⟨gC, gD, gF⟩ gG gH) gS gT).ok) ∧ Below w.heap.size w w' := by
  by_cases k0 : gR = 0
  · exact K3 _ _ _ _ _ _ _ _ _ _ _ _ _ _ _ _ _ _ _ _ _ _ _ _ k0
  by_cases k1 : gR = 1
  · by_cases hq : (aD.mk gI gJ gK gM gN gP gQ).ok = true
    · exact JE _ _ _ _ _ _ _ _ _ _ _ _ _ _ _ _ _ _ _ _ _ _ _ _ k1 hq
    · exact JF _ _ _ _ _ _ _ _ _ _ _ _ _ _ _ _ _ _ _ _ _ _ _ _ k1 (by simpa using hq)
  by_cases k2 : gR = 2
  · by_cases hq : (ax.mk jU jV jW jX jY ⟨jZ, gA, gB⟩ ⟨gC, gD, gF⟩ gG gH).ok = true
    · exact JG _ _ _ _ _ _ _ _ _ _ _ _ _ _ _ _ _ _ _ _ _ _ _ _ k2 h1 h2 hq
    · exact JH _ _ _ _ _ _ _ _ _ _ _ _ _ _ _ _ _ _ _ _ _ _ _ _ k2 h1 h2 (by simpa using hq)
  by_cases k3 : gR = 3
  · by_cases hq : gS < 4
    · exact JJ _ _ _ _ _ _ _ _ _ _ _ _ _ _ _ _ _ _ _ _ _ _ _ _ k3 hq
    · exact JK _ _ _ _ _ _ _ _ _ _ _ _ _ _ _ _ _ _ _ _ _ _ _ _ k3 hq
  exact K4 _ _ _ _ _ _ _ _ _ _ _ _ _ _ _ _ _ _ _ _ _ _ _ _ (by simpa using k0) (by simpa using k1) (by simpa using k2) (by simpa using k3)
theorem DX {w : World} {B : Nat} {o : Option Obj} (h : w.heap[B]? = o) (n : Nat) : (w.drewN n).heap[B]? = o := h
theorem DY (va : Option Addr) (vn vc : Nat) (aV : List bz) (w : World) (h : gq w.heap.size w ⟨va, vn, vc⟩ aV) :
    Calls Tryz.prog 211 #[.slice va vn vc] w fun e w' => e = .returned (.bool (iP aV)) ∧ Below w.heap.size w w' := by
  have hlen : vn = aV.length := by simpa using h.sl.len
  have hlm : vn ≤ maxLen := Nat.le_trans h.sl.le h.sl.max
  unfold maxLen at hlm
  have HL : Hid (vn = aV.length) := hlen
  clear hlen
  go_enter Tryz.func211, Tryz.ntmps211
  go_wp2_with fail
  · go_ret
    exact ⟨bG (by have := HL.out; simp [iP]; omega), Below.refl _ _⟩
  · go_loopw [10] (fun i wr => ∃ k : Nat, k ≤ vn ∧ i = .int .i64 k ∧ (List.range k).all (kJ aV) = true ∧ Below w.heap.size w wr) (fun i _ => vn - (intOf i).toNat)
    case atStart => exact ⟨0, Nat.zero_le _, rfl, by simp, Below.refl _ _⟩
    case round =>
      obtain ⟨k, hk, rfl, hall, hnx⟩ := hrel
      have HA : Hid ((List.range k).all (kJ aV) = true) := hall
      clear hall
      by_cases hlt : k < vn
      · obtain ⟨x, hx⟩ : ∃ x, aV[k]? = some x := ⟨aV[k]'(by rw [← HL.out]; exact hlt), by simp⟩
        have hS := h.later hnx
        obtain ⟨b, off, ha, Ih, hc⟩ := hS.sl.el (i := k) (x := x.cells) (by simp [hx])
        have hR := hS.all k x hx
        obtain rfl : va = some ⟨b, off, none⟩ := ha
        have HX : Hid (aV[k]? = some x) := hx
        clear hx
        obtain ⟨sW, xn, DZ, ⟨oo, ⟨uj, uk, um, ou, uo, qI, qJ⟩, ⟨jH, jI, jJ, jK, jL, ⟨jM, jN, jO⟩, ⟨jP, jQ, jR⟩, jS, jT⟩, ow, uq⟩⟩ := x
        simp only [bz.cells, aR.cells, aD.cells, ax.cells, Sl.val, List.cons_append, List.nil_append] at hc
        have hW := heap_alloc_new wr (.cells (List.toArray pK) 196)
        have hT := av wr (.cells (List.toArray pK) 196)
        by_cases hk0 : 0 < k
        · obtain ⟨y, hy⟩ : ∃ y, aV[k - 1]? = some y := ⟨aV[k - 1]'(by rw [← HL.out]; omega), by simp⟩
          obtain ⟨b', off', ha', _, hd⟩ := hS.sl.el (i := k - 1) (x := y.cells) (by simp [hy])
          simp only [Option.some.injEq, Addr.mk.injEq, and_true] at ha'
          obtain ⟨rfl, rfl⟩ := ha'
          have hd0 := hd 0 (.int .u32 y.slot) rfl
          have HY : Hid (aV[k - 1]? = some y) := hy
          clear hy hd
          simp only [Nat.add_zero] at hd0
          go_wp2_with (first | (with_reducible show wpList _ _ _ ({ dst := _, op := Op.load 196 _, type := _, pos := _, after := _, guard := none } :: _) _ _; go_must (refine kS rfl _ _ rfl b (off + k * 20) rfl 20 _ Tryz.underlying196 rfl nV (rV sW xn DZ oo uj uk um ou uo qI qJ jH jI jJ jK jL jM jN jO jP jQ jR ow uq) rfl hc ?_)) | (with_reducible show wpList _ _ _ ({ dst := _, op := Op.store 196 _ _, type := _, pos := _, after := _, guard := none } :: _) _ _; go_must (refine ae rfl _ _ _ rfl rfl wr.heap.size 0 rfl (rV sW xn DZ oo uj uk um ou uo qI qJ jH jI jJ jK jL jM jN jO jP jQ jR ow uq) rfl _ nV rfl rfl _ _ hW rfl (rV sW xn DZ oo uj uk um ou uo qI qJ jH jI jJ jK jL jM jN jO jP jQ jR ow uq) rfl ?_; intro w2 hW2 hO2; have eB := hT.trans (hO2.below (Nat.le_refl _)); have hB2 := af hW2; have he0 := (eD eB Ih _).trans hd0)))
          go_quiet (fail)
          go_wp2_with (first | (with_reducible show wpList _ _ _ ({ dst := _, op := Op.load 54 _, type := _, pos := _, after := _, guard := none } :: _) _ _; go_must (refine ak rfl _ _ rfl wr.heap.size 3 rfl 17 _ Tryz.underlying54 rfl dS _ _ (DX hW2 _) rfl (rC oo uj uk um ou uo qI qJ jH jI jJ jK jL jM jN jO jP jQ jR ow uq) rfl ?_)) | (go_at_call 212; go_must (refine (mO _ _ _ _ _ _ _ _ _ _ _ _ _ _ _ _ _ _ _ _ _ jS jT _ (hR.rows.later (below_drewN eB _)) (hR.bC.later (below_drewN eB _))).mono ?_; rintro e w3 ⟨rfl, mW⟩)))
          · go_ret
            exact ⟨bG (wy (k := k) (by rw [← HL.out]; exact hlt) (G9 HX.out hk0 HY.out (by assumption))).symm, aQ hnx (below_drewN eB _)⟩
          · go_ret
            exact ⟨bG (wy (k := k) (by rw [← HL.out]; exact hlt) (Bz HX.out (by first | assumption | simp_all))).symm, aQ hnx (aQ (below_drewN eB _) mW)⟩
          · go_roundw
            case rel => exact ⟨k + 1, by omega, by go_num, qw HA.out (zu HX.out (by first | assumption | simp_all) (.inr ⟨_, HY.out, by assumption⟩)), aQ hnx (aQ (below_drewN eB _) mW)⟩
            case measure => simp [intOf]; omega
        · have hd : decide ((0 : Int) < (k : Int)) = false := by simp; omega
          go_wp2_with (first | (with_reducible show wpList _ _ _ ({ dst := _, op := Op.load 196 _, type := _, pos := _, after := _, guard := none } :: _) _ _; go_must (refine kS rfl _ _ rfl b (off + k * 20) rfl 20 _ Tryz.underlying196 rfl nV (rV sW xn DZ oo uj uk um ou uo qI qJ jH jI jJ jK jL jM jN jO jP jQ jR ow uq) rfl hc ?_)) | (with_reducible show wpList _ _ _ ({ dst := _, op := Op.store 196 _ _, type := _, pos := _, after := _, guard := none } :: _) _ _; go_must (refine ae rfl _ _ _ rfl rfl wr.heap.size 0 rfl (rV sW xn DZ oo uj uk um ou uo qI qJ jH jI jJ jK jL jM jN jO jP jQ jR ow uq) rfl _ nV rfl rfl _ _ hW rfl (rV sW xn DZ oo uj uk um ou uo qI qJ jH jI jJ jK jL jM jN jO jP jQ jR ow uq) rfl ?_; intro w2 hW2 hO2; have eB := hT.trans (hO2.below (Nat.le_refl _)); have hB2 := af hW2)))
          go_quiet (fail)
          go_wp2_with (first | (with_reducible show wpList _ _ _ ({ dst := _, op := Op.load 54 _, type := _, pos := _, after := _, guard := none } :: _) _ _; go_must (refine ak rfl _ _ rfl wr.heap.size 3 rfl 17 _ Tryz.underlying54 rfl dS _ _ (DX hW2 _) rfl (rC oo uj uk um ou uo qI qJ jH jI jJ jK jL jM jN jO jP jQ jR ow uq) rfl ?_)) | (go_at_call 212; go_must (refine (mO _ _ _ _ _ _ _ _ _ _ _ _ _ _ _ _ _ _ _ _ _ jS jT _ (hR.rows.later (below_drewN eB _)) (hR.bC.later (below_drewN eB _))).mono ?_; rintro e w3 ⟨rfl, mW⟩)))
          · go_ret
            exact ⟨bG (wy (k := k) (by rw [← HL.out]; exact hlt) (Bz HX.out (by first | assumption | simp_all))).symm, aQ hnx (aQ (below_drewN eB _) mW)⟩
          · go_roundw
            case rel => exact ⟨k + 1, by omega, by go_num, qw HA.out (zu HX.out (by first | assumption | simp_all) (.inl (by omega))), aQ hnx (aQ (below_drewN eB _) mW)⟩
            case measure => simp [intOf]; omega
      · go_wp2
        go_ret
        obtain rfl : k = vn := by omega
        exact ⟨bG (by have := HL.out; have h2 := HA.out; rw [this] at h2; simp [iP, h2]; omega), hnx⟩
def aM.none (m : aM) : Bool := m.aL.no && m.rep.no && (m.n == 0 && m.id == 0) && m.slot == 0 && m.cmd.kind == 0 && m.cmd.bare && m.vs.len == 0 && m.aH.no && m.peer == 0 && m.seq == 0
theorem iB (zY : Int) (zH zI zJ zK zL zM zN : Int) (zO zP zQ zR : Int) (zS : Bool) (zT zU : Int) (mn zZ jA : Int) (zV : Int) (zA zB zC zD zE zF zG : Int) (yA yB yC yD yE : Int) (yF : Option Addr) (yG yH : Nat) (yI : Option Addr) (yJ yK : Nat) (zW zX : Int) (jE : Option Addr) (jF jG : Nat) (yN yO yP yQ yR : Int) (yS : Option Addr) (yT yU : Nat) (yV : Option Addr) (yW yX : Nat) (jB jC : Int) (yL yY : List Row) (yM yZ : List ay) (jD : List bz) (w : World) :
    Calls Tryz.prog 213 #[.agg (List.toArray (rM zY zH zI zJ zK zL zM zN zO zP zQ zR zS zT zU mn zZ jA zV zA zB zC zD zE zF zG yA yB yC yD yE yF yG yH yI yJ yK zW zX jE jF jG yN yO yP yQ yR yS yT yU yV yW yX jB jC))] w fun e w' => e = .returned (.bool (aM.mk zY (aD.mk zH zI zJ zK zL zM zN) (ay.mk zO zP zQ zR zS zT zU) mn zZ jA (aR.mk zV (aD.mk zA zB zC zD zE zF zG) (ax.mk yA yB yC yD yE ⟨yF, yG, yH⟩ ⟨yI, yJ, yK⟩ yL yM) zW zX) ⟨jE, jF, jG⟩ (ax.mk yN yO yP yQ yR ⟨yS, yT, yU⟩ ⟨yV, yW, yX⟩ yY yZ) jB jC jD).none) ∧ Below w.heap.size w w' := by
  go_enter Tryz.func213, Tryz.ntmps213
  go_wp2_with (first | (with_reducible show wpList _ _ _ ({ dst := _, op := Op.load 54 _, type := _, pos := _, after := _, guard := _ } :: _) _ _; refine ak rfl _ _ rfl w.heap.size 18 rfl 17 _ Tryz.underlying54 rfl dS _ _ (heap_alloc_new w _) rfl _ rfl ?_) | (go_at_call 232; go_must (refine (qQ _ _ _ _ _ _ _ _ _ _ _ _ _ _ _ _ _ _ _ _ _ yL yM _).mono ?_; rintro e w1 ⟨rfl, nL⟩; have hW1 := bF nL (heap_alloc_new w _); have hB1 := af hW1; have hT1 := aQ (av w _) nL)) | (go_at_call 233; go_must (refine (zz _ _ _ _ _ _ _ _ _ _ _ yY yZ _).mono ?_; rintro e w2 ⟨rfl, pQ⟩; have hW2 := bF pQ hW1; have hB2 := af hW2; have eB := aQ hT1 pQ)))
  all_goals go_ret
  all_goals refine ⟨bG ?_, ?_⟩
  all_goals first | exact av _ _ | assumption | skip
  all_goals simp_all [aM.none, aD.no, ay.no]
end
end Go.Proofs.YtignemioillaiaaGreat
