/- Package wire: Marshal. -/
import Derived.Test.YtignemioillaiaaGreatG04
import Derived.Test.YtignemioillaiaaGreatG07
import Derived.Laws.BytesString
namespace Go.Proofs.YtignemioillaiaaGreat
set_option maxHeartbeats 8000000
set_option maxRecDepth 100000
section
open Go.RowKit
theorem JZ {lo hi : Int} {rows : List Row} (h : pM lo hi rows = true) : rows.length ≤ 255 := by
  unfold pM at h; simp only [Bool.and_eq_true, decide_eq_true_eq] at h; exact h.1
theorem J2 {lo hi : Int} {bC : List ay} (h : pO lo hi bC = true) : bC.length ≤ 255 := by
  unfold pO at h; simp only [Bool.and_eq_true, decide_eq_true_eq] at h; exact h.1
theorem ax.FC {r : ax} (h : r.ok = true) : r.rows.length ≤ 255 ∧ r.bC.length ≤ 255 := by
  unfold ax.ok at h; simp only [Bool.and_eq_true] at h; exact ⟨JZ h.1.2, J2 h.2⟩
theorem aR.rZ {c : aR} (h : c.ok = true) : c.short := by
  intro hk
  unfold aR.ok at h
  have : c.aH.ok = true := by simp [hk] at h; exact h.1.1.2
  exact ax.FC this
theorem Aa {aV : List bz} (h : iP aV = true) : aV.length ≤ 255 ∧ ∀ (i : Nat) (x : bz), aV[i]? = some x → x.cmd.short := by
  unfold iP at h; simp only [Bool.and_eq_true, decide_eq_true_eq] at h
  refine ⟨h.1, fun i x hx => aR.rZ ?_⟩
  have hv := List.all_eq_true.1 h.2 i (List.mem_range.2 (List.getElem?_eq_some_iff.1 hx).1)
  unfold kJ at hv; rw [hx] at hv
  simp only [Bool.and_eq_true] at hv; exact hv.1
theorem Il (base : Nat) (w : World) : aY base w (.slice none 0 0) [] := World.ownsRow_nil w base _ _
def dI (l : List Int) : ByteArray := l.foldl (fun r n => r.push (UInt8.ofNat n.toNat)) ByteArray.empty
theorem NP {P : Program} {base : Nat} {w : World} {v : Value} {l : List Int} (src dst : TypeId) (hs : P.underlying src = some (.slice 5)) (he : P.underlying 5 = some (.int .u8)) (hd : P.underlying dst = some .string) (hown : aY base w v l) :
    (convert src dst v).run P w = .ok (.string (dI l)) w := by
  rcases hown.2 with ⟨rfl, hn⟩ | ⟨g, cap, cur, rfl, _, hgg, _, _, _, _⟩
  · have hl : l = [] := List.eq_nil_of_length_eq_zero hn
    subst hl
    rw [run_convert_bytes_string w src dst 5 none 0 0 hs he hd]; rfl
  · rw [run_convert_bytes_string w src dst 5 _ _ _ hs he hd]
    refine run_bytesToString w _ _ _ l ?_
    have := run_loadCells_list (P := P) w ⟨g, 0, none⟩ (l.map lG) (World.ownsRow.cells hown (g := g) rfl)
    rw [List.length_map] at this
    exact this
theorem vX {P : Program} {ops : Array Oper} {rest : List Oper} {op : Oper} {a : Act} {w : World} {Q : Exit → Act → World → Prop} (hgd : op.guard = none) (src dst : TypeId) (x : Operand) (ho : op.op = .convert src dst x)
    (hs : P.underlying src = some (.slice 5)) (he : P.underlying 5 = some (.int .u8)) (hd : P.underlying dst = some .string) (base : Nat) (v : Value) (l : List Int) (hx : a.eval x = v) (hown : aY base w v l)
    (h : wpList P ops Q rest (a.put op.dst (.string (dI l))) w) : wpList P ops Q (op :: rest) a w :=
  wpList_plain hgd fun _ hK => by
    unfold Oper.wp execOp
    simp only [ho, hx, Sem.run_bind, NP src dst hs he hd hown, Result.andThen_ok, Sem.run_pure, Oper.upon]
    exact hK _ _ h
theorem Da (base : Nat) (v : Value) (l : List Int) (zY : Int) (zH zI zJ zK zL zM zN : Int) (zO zP zQ zR : Int) (zS : Bool) (zT zU : Int) (mn zZ jA : Int) (zV : Int) (zA zB zC zD zE zF zG : Int) (yA yB yC yD yE : Int) (yF : Option Addr) (yG yH : Nat) (yI : Option Addr) (yJ yK : Nat) (zW zX : Int) (jE : Option Addr) (jF jG : Nat) (yN yO yP yQ yR : Int) (yS : Option Addr) (yT yU : Nat) (yV : Option Addr) (yW yX : Nat) (jB jC : Int) (yL yY : List Row) (yM yZ : List ay) (jD : List bz) (w : World) (hown : aY base w v l) (hb0 : base ≤ w.heap.size) (hl : l.length < 1000000000) (hv : gq base w ⟨jE, jF, jG⟩ jD) (hc1 : cz base w ⟨yF, yG, yH⟩ 2 (yL.map Row.cells)) (hc2 : cz base w ⟨yI, yJ, yK⟩ 7 (yM.map ay.cells)) (hr1 : cz base w ⟨yS, yT, yU⟩ 2 (yY.map Row.cells)) (hr2 : cz base w ⟨yV, yW, yX⟩ 7 (yZ.map ay.cells)) (hwf : (aM.mk zY (aD.mk zH zI zJ zK zL zM zN) (ay.mk zO zP zQ zR zS zT zU) mn zZ jA (aR.mk zV (aD.mk zA zB zC zD zE zF zG) (ax.mk yA yB yC yD yE ⟨yF, yG, yH⟩ ⟨yI, yJ, yK⟩ yL yM) zW zX) ⟨jE, jF, jG⟩ (ax.mk yN yO yP yQ yR ⟨yS, yT, yU⟩ ⟨yV, yW, yX⟩ yY yZ) jB jC jD).wf) (hok : (aM.mk zY (aD.mk zH zI zJ zK zL zM zN) (ay.mk zO zP zQ zR zS zT zU) mn zZ jA (aR.mk zV (aD.mk zA zB zC zD zE zF zG) (ax.mk yA yB yC yD yE ⟨yF, yG, yH⟩ ⟨yI, yJ, yK⟩ yL yM) zW zX) ⟨jE, jF, jG⟩ (ax.mk yN yO yP yQ yR ⟨yS, yT, yU⟩ ⟨yV, yW, yX⟩ yY yZ) jB jC jD).ok = true) :
    Calls Tryz.prog 190 #[v, .agg (List.toArray (rM zY zH zI zJ zK zL zM zN zO zP zQ zR zS zT zU mn zZ jA zV zA zB zC zD zE zF zG yA yB yC yD yE yF yG yH yI yJ yK zW zX jE jF jG yN yO yP yQ yR yS yT yU yV yW yX jB jC))] w fun e w' => ∃ v', e = .returned v' ∧ aY base w' v' (l ++ (aM.mk zY (aD.mk zH zI zJ zK zL zM zN) (ay.mk zO zP zQ zR zS zT zU) mn zZ jA (aR.mk zV (aD.mk zA zB zC zD zE zF zG) (ax.mk yA yB yC yD yE ⟨yF, yG, yH⟩ ⟨yI, yJ, yK⟩ yL yM) zW zX) ⟨jE, jF, jG⟩ (ax.mk yN yO yP yQ yR ⟨yS, yT, yU⟩ ⟨yV, yW, yX⟩ yY yZ) jB jC jD).bytes) ∧ bD w v w' v' := by
  by_cases k1 : zY = 1
  · exact Fp _ _ _ _ _ _ _ _ _ _ _ _ _ _ _ _ _ _ _ _ _ _ _ _ _ _ _ _ _ _ _ _ _ _ _ _ _ _ _ _ _ _ _ _ _ _ _ _ _ _ _ _ _ _ _ _ _ _ _ _ _ _ _ _ hown hb0 hl hwf k1
  by_cases k2 : zY = 2
  · exact Fq _ _ _ _ _ _ _ _ _ _ _ _ _ _ _ _ _ _ _ _ _ _ _ _ _ _ _ _ _ _ _ _ _ _ _ _ _ _ _ _ _ _ _ _ _ _ _ _ _ _ _ _ _ _ _ _ _ _ _ _ _ _ _ _ hown hb0 hl hwf k2
  by_cases k3 : zY = 3
  · exact Fs _ _ _ _ _ _ _ _ _ _ _ _ _ _ _ _ _ _ _ _ _ _ _ _ _ _ _ _ _ _ _ _ _ _ _ _ _ _ _ _ _ _ _ _ _ _ _ _ _ _ _ _ _ _ _ _ _ _ _ _ _ _ _ _ hown hb0 hl hwf k3
  by_cases k4 : zY = 4
  · have ho : iP jD = true := by simp [aM.ok, k4] at hok; simp [hok]
    exact Fv _ _ _ _ _ _ _ _ _ _ _ _ _ _ _ _ _ _ _ _ _ _ _ _ _ _ _ _ _ _ _ _ _ _ _ _ _ _ _ _ _ _ _ _ _ _ _ _ _ _ _ _ _ _ _ _ _ _ _ _ _ _ _ _ hown hb0 hl hv (Aa ho).1 (Aa ho).2 hwf k4
  by_cases k5 : zY = 5
  · exact Fu _ _ _ _ _ _ _ _ _ _ _ _ _ _ _ _ _ _ _ _ _ _ _ _ _ _ _ _ _ _ _ _ _ _ _ _ _ _ _ _ _ _ _ _ _ _ _ _ _ _ _ _ _ _ _ _ _ _ _ _ _ _ _ _ hown hb0 hl hwf k5
  by_cases k6 : zY = 6
  · have ho : (aR.mk zV (aD.mk zA zB zC zD zE zF zG) (ax.mk yA yB yC yD yE ⟨yF, yG, yH⟩ ⟨yI, yJ, yK⟩ yL yM) zW zX).ok = true := by simp [aM.ok, k6] at hok; simp [hok]
    exact Fw _ _ _ _ _ _ _ _ _ _ _ _ _ _ _ _ _ _ _ _ _ _ _ _ _ _ _ _ _ _ _ _ _ _ _ _ _ _ _ _ _ _ _ _ _ _ _ _ _ _ _ _ _ _ _ _ _ _ _ _ _ _ _ _ hown hb0 hl hc1 hc2 (fun e => (aR.rZ ho e).1) (fun e => (aR.rZ ho e).2) hwf k6
  by_cases k7 : zY = 7
  · exact Fx _ _ _ _ _ _ _ _ _ _ _ _ _ _ _ _ _ _ _ _ _ _ _ _ _ _ _ _ _ _ _ _ _ _ _ _ _ _ _ _ _ _ _ _ _ _ _ _ _ _ _ _ _ _ _ _ _ _ _ _ _ _ _ _ hown hb0 hl hwf k7
  by_cases k8 : zY = 8
  · have ho : (aR.mk zV (aD.mk zA zB zC zD zE zF zG) (ax.mk yA yB yC yD yE ⟨yF, yG, yH⟩ ⟨yI, yJ, yK⟩ yL yM) zW zX).ok = true := by simp [aM.ok, k8] at hok; simp [hok]
    exact Fy _ _ _ _ _ _ _ _ _ _ _ _ _ _ _ _ _ _ _ _ _ _ _ _ _ _ _ _ _ _ _ _ _ _ _ _ _ _ _ _ _ _ _ _ _ _ _ _ _ _ _ _ _ _ _ _ _ _ _ _ _ _ _ _ hown hb0 hl hc1 hc2 (fun e => (aR.rZ ho e).1) (fun e => (aR.rZ ho e).2) hwf k8
  by_cases k9 : zY = 9
  · have ho : (ax.mk yN yO yP yQ yR ⟨yS, yT, yU⟩ ⟨yV, yW, yX⟩ yY yZ).ok = true := by simp [aM.ok, k9] at hok; simp [hok]
    exact Fz _ _ _ _ _ _ _ _ _ _ _ _ _ _ _ _ _ _ _ _ _ _ _ _ _ _ _ _ _ _ _ _ _ _ _ _ _ _ _ _ _ _ _ _ _ _ _ _ _ _ _ _ _ _ _ _ _ _ _ _ _ _ _ _ hown hb0 hl hr1 hr2 (ax.FC ho).1 (ax.FC ho).2 hwf k9
  by_cases k10 : zY = 10
  · exact EA _ _ _ _ _ _ _ _ _ _ _ _ _ _ _ _ _ _ _ _ _ _ _ _ _ _ _ _ _ _ _ _ _ _ _ _ _ _ _ _ _ _ _ _ _ _ _ _ _ _ _ _ _ _ _ _ _ _ _ _ _ _ _ _ hown hb0 hl hwf k10
  simp [aM.ok, k1, k2, k3, k4, k5, k6, k7, k8, k9, k10] at hok
theorem wK (zY : Int) (zH zI zJ zK zL zM zN : Int) (zO zP zQ zR : Int) (zS : Bool) (zT zU : Int) (mn zZ jA : Int) (zV : Int) (zA zB zC zD zE zF zG : Int) (yA yB yC yD yE : Int) (yF : Option Addr) (yG yH : Nat) (yI : Option Addr) (yJ yK : Nat) (zW zX : Int) (jE : Option Addr) (jF jG : Nat) (yN yO yP yQ yR : Int) (yS : Option Addr) (yT yU : Nat) (yV : Option Addr) (yW yX : Nat) (jB jC : Int) (yL yY : List Row) (yM yZ : List ay) (jD : List bz) (w : World) (hv : gq w.heap.size w ⟨jE, jF, jG⟩ jD) (hc1 : cz w.heap.size w ⟨yF, yG, yH⟩ 2 (yL.map Row.cells)) (hc2 : cz w.heap.size w ⟨yI, yJ, yK⟩ 7 (yM.map ay.cells)) (hr1 : cz w.heap.size w ⟨yS, yT, yU⟩ 2 (yY.map Row.cells)) (hr2 : cz w.heap.size w ⟨yV, yW, yX⟩ 7 (yZ.map ay.cells)) (hwf : (aM.mk zY (aD.mk zH zI zJ zK zL zM zN) (ay.mk zO zP zQ zR zS zT zU) mn zZ jA (aR.mk zV (aD.mk zA zB zC zD zE zF zG) (ax.mk yA yB yC yD yE ⟨yF, yG, yH⟩ ⟨yI, yJ, yK⟩ yL yM) zW zX) ⟨jE, jF, jG⟩ (ax.mk yN yO yP yQ yR ⟨yS, yT, yU⟩ ⟨yV, yW, yX⟩ yY yZ) jB jC jD).wf) (hok : (aM.mk zY (aD.mk zH zI zJ zK zL zM zN) (ay.mk zO zP zQ zR zS zT zU) mn zZ jA (aR.mk zV (aD.mk zA zB zC zD zE zF zG) (ax.mk yA yB yC yD yE ⟨yF, yG, yH⟩ ⟨yI, yJ, yK⟩ yL yM) zW zX) ⟨jE, jF, jG⟩ (ax.mk yN yO yP yQ yR ⟨yS, yT, yU⟩ ⟨yV, yW, yX⟩ yY yZ) jB jC jD).ok = true) :
    Calls Tryz.prog 158 #[.agg (List.toArray (rM zY zH zI zJ zK zL zM zN zO zP zQ zR zS zT zU mn zZ jA zV zA zB zC zD zE zF zG yA yB yC yD yE yF yG yH yI yJ yK zW zX jE jF jG yN yO yP yQ yR yS yT yU yV yW yX jB jC))] w fun e w' => e = .returned (.tuple #[.string (dI (aM.mk zY (aD.mk zH zI zJ zK zL zM zN) (ay.mk zO zP zQ zR zS zT zU) mn zZ jA (aR.mk zV (aD.mk zA zB zC zD zE zF zG) (ax.mk yA yB yC yD yE ⟨yF, yG, yH⟩ ⟨yI, yJ, yK⟩ yL yM) zW zX) ⟨jE, jF, jG⟩ (ax.mk yN yO yP yQ yR ⟨yS, yT, yU⟩ ⟨yV, yW, yX⟩ yY yZ) jB jC jD).bytes), .int .i64 0]) ∧ Below w.heap.size w w' := by
  have hT := av w (.cells (List.toArray (rM zY zH zI zJ zK zL zM zN zO zP zQ zR zS zT zU mn zZ jA zV zA zB zC zD zE zF zG yA yB yC yD yE yF yG yH yI yJ yK zW zX jE jF jG yN yO yP yQ yR yS yT yU yV yW yX jB jC)) 203)
  have hW := heap_alloc_new w (.cells (List.toArray (rM zY zH zI zJ zK zL zM zN zO zP zQ zR zS zT zU mn zZ jA zV zA zB zC zD zE zF zG yA yB yC yD yE yF yG yH yI yJ yK zW zX jE jF jG yN yO yP yQ yR yS yT yU yV yW yX jB jC)) 203)
  have D5 : Hid ((aM.mk zY (aD.mk zH zI zJ zK zL zM zN) (ay.mk zO zP zQ zR zS zT zU) mn zZ jA (aR.mk zV (aD.mk zA zB zC zD zE zF zG) (ax.mk yA yB yC yD yE ⟨yF, yG, yH⟩ ⟨yI, yJ, yK⟩ yL yM) zW zX) ⟨jE, jF, jG⟩ (ax.mk yN yO yP yQ yR ⟨yS, yT, yU⟩ ⟨yV, yW, yX⟩ yY yZ) jB jC jD).wf) := hwf
  clear hwf
  go_enter Tryz.func158, Tryz.ntmps158
  go_wp2_with (first | (with_reducible show Bw 4 203 ..; go_must (refine ak rfl _ _ rfl w.heap.size 0 rfl 45 _ Tryz.underlying203 rfl bX _ _ hW rfl (rM zY zH zI zJ zK zL zM zN zO zP zQ zR zS zT zU mn zZ jA zV zA zB zC zD zE zF zG yA yB yC yD yE yF yG yH yI yJ yK zW zX jE jF jG yN yO yP yQ yR yS yT yU yV yW yX jB jC) rfl ?_)) | (with_reducible show Bw 7 203 ..; go_must (refine ak rfl _ _ rfl w.heap.size 0 rfl 45 _ Tryz.underlying203 rfl bX _ _ hW1 rfl (rM zY zH zI zJ zK zL zM zN zO zP zQ zR zS zT zU mn zZ jA zV zA zB zC zD zE zF zG yA yB yC yD yE yF yG yH yI yJ yK zW zX jE jF jG yN yO yP yQ yR yS yT yU yV yW yX jB jC) rfl ?_)) | (go_at_call 189; go_must (refine (z8 _ _ _ _ _ _ _ _ _ _ _ _ _ _ _ _ _ _ _ _ _ _ _ _ _ _ _ _ _ _ _ _ _ _ _ _ _ _ _ _ _ _ _ _ _ _ _ _ _ _ _ _ _ _ _ yL yY yM yZ jD _ (hv.later hT) (hc1.later hT) (hc2.later hT) (hr1.later hT) (hr2.later hT)).mono ?_; rintro e w1 ⟨rfl, nL⟩; have hW1 := bF nL hW; have hT1 := aQ hT nL)) | (go_at_call 190; go_must (refine (Da w1.heap.size _ [] _ _ _ _ _ _ _ _ _ _ _ _ _ _ _ _ _ _ _ _ _ _ _ _ _ _ _ _ _ _ _ _ _ _ _ _ _ _ _ _ _ _ _ _ _ _ _ _ _ _ _ _ _ _ _ yL yY yM yZ jD _ (Il _ _) (Nat.le_refl _) (by decide) (hv.later hT1) (hc1.later hT1) (hc2.later hT1) (hr1.later hT1) (hr2.later hT1) D5.out hok).mono ?_; rintro e w2 ⟨v2, rfl, ho2, hg2⟩; have eB := hT1.trans ((hg2.below (Il w1.heap.size w1) (Nat.le_refl _)).mono hT1.size))) | (with_reducible show wpList _ _ _ ({ dst := _, op := Op.convert _ _ _, type := _, pos := _, after := _, guard := none } :: _) _ _; go_must (refine vX rfl _ _ _ rfl Tryz.underlying277 Tryz.underlying5 Tryz.underlying9 w1.heap.size v2 _ rfl ho2 ?_)))
  go_ret2
  exact ⟨by simp, eB⟩
theorem La (zY : Int) (zH zI zJ zK zL zM zN : Int) (zO zP zQ zR : Int) (zS : Bool) (zT zU : Int) (mn zZ jA : Int) (zV : Int) (zA zB zC zD zE zF zG : Int) (yA yB yC yD yE : Int) (yF : Option Addr) (yG yH : Nat) (yI : Option Addr) (yJ yK : Nat) (zW zX : Int) (jE : Option Addr) (jF jG : Nat) (yN yO yP yQ yR : Int) (yS : Option Addr) (yT yU : Nat) (yV : Option Addr) (yW yX : Nat) (jB jC : Int) (yL yY : List Row) (yM yZ : List ay) (jD : List bz) (w : World) (hv : gq w.heap.size w ⟨jE, jF, jG⟩ jD) (hc1 : cz w.heap.size w ⟨yF, yG, yH⟩ 2 (yL.map Row.cells)) (hc2 : cz w.heap.size w ⟨yI, yJ, yK⟩ 7 (yM.map ay.cells)) (hr1 : cz w.heap.size w ⟨yS, yT, yU⟩ 2 (yY.map Row.cells)) (hr2 : cz w.heap.size w ⟨yV, yW, yX⟩ 7 (yZ.map ay.cells)) (hwf : (aM.mk zY (aD.mk zH zI zJ zK zL zM zN) (ay.mk zO zP zQ zR zS zT zU) mn zZ jA (aR.mk zV (aD.mk zA zB zC zD zE zF zG) (ax.mk yA yB yC yD yE ⟨yF, yG, yH⟩ ⟨yI, yJ, yK⟩ yL yM) zW zX) ⟨jE, jF, jG⟩ (ax.mk yN yO yP yQ yR ⟨yS, yT, yU⟩ ⟨yV, yW, yX⟩ yY yZ) jB jC jD).wf) (hok : (aM.mk zY (aD.mk zH zI zJ zK zL zM zN) (ay.mk zO zP zQ zR zS zT zU) mn zZ jA (aR.mk zV (aD.mk zA zB zC zD zE zF zG) (ax.mk yA yB yC yD yE ⟨yF, yG, yH⟩ ⟨yI, yJ, yK⟩ yL yM) zW zX) ⟨jE, jF, jG⟩ (ax.mk yN yO yP yQ yR ⟨yS, yT, yU⟩ ⟨yV, yW, yX⟩ yY yZ) jB jC jD).ok = false) :
    Calls Tryz.prog 158 #[.agg (List.toArray (rM zY zH zI zJ zK zL zM zN zO zP zQ zR zS zT zU mn zZ jA zV zA zB zC zD zE zF zG yA yB yC yD yE yF yG yH yI yJ yK zW zX jE jF jG yN yO yP yQ yR yS yT yU yV yW yX jB jC))] w fun e w' => e = .returned (.tuple #[.string ByteArray.empty, .int .i64 1]) ∧ Below w.heap.size w w' := by
  have hT := av w (.cells (List.toArray (rM zY zH zI zJ zK zL zM zN zO zP zQ zR zS zT zU mn zZ jA zV zA zB zC zD zE zF zG yA yB yC yD yE yF yG yH yI yJ yK zW zX jE jF jG yN yO yP yQ yR yS yT yU yV yW yX jB jC)) 203)
  have hW := heap_alloc_new w (.cells (List.toArray (rM zY zH zI zJ zK zL zM zN zO zP zQ zR zS zT zU mn zZ jA zV zA zB zC zD zE zF zG yA yB yC yD yE yF yG yH yI yJ yK zW zX jE jF jG yN yO yP yQ yR yS yT yU yV yW yX jB jC)) 203)
  have D5 : Hid ((aM.mk zY (aD.mk zH zI zJ zK zL zM zN) (ay.mk zO zP zQ zR zS zT zU) mn zZ jA (aR.mk zV (aD.mk zA zB zC zD zE zF zG) (ax.mk yA yB yC yD yE ⟨yF, yG, yH⟩ ⟨yI, yJ, yK⟩ yL yM) zW zX) ⟨jE, jF, jG⟩ (ax.mk yN yO yP yQ yR ⟨yS, yT, yU⟩ ⟨yV, yW, yX⟩ yY yZ) jB jC jD).wf) := hwf
  clear hwf
  go_enter Tryz.func158, Tryz.ntmps158
  go_wp2_with (first | (with_reducible show Bw 4 203 ..; go_must (refine ak rfl _ _ rfl w.heap.size 0 rfl 45 _ Tryz.underlying203 rfl bX _ _ hW rfl (rM zY zH zI zJ zK zL zM zN zO zP zQ zR zS zT zU mn zZ jA zV zA zB zC zD zE zF zG yA yB yC yD yE yF yG yH yI yJ yK zW zX jE jF jG yN yO yP yQ yR yS yT yU yV yW yX jB jC) rfl ?_)) | (go_at_call 189; go_must (refine (z8 _ _ _ _ _ _ _ _ _ _ _ _ _ _ _ _ _ _ _ _ _ _ _ _ _ _ _ _ _ _ _ _ _ _ _ _ _ _ _ _ _ _ _ _ _ _ _ _ _ _ _ _ _ _ _ yL yY yM yZ jD _ (hv.later hT) (hc1.later hT) (hc2.later hT) (hr1.later hT) (hr2.later hT)).mono ?_; rintro e w1 ⟨rfl, nL⟩; have hW1 := bF nL hW; have hT1 := aQ hT nL)))
  go_ret2
  exact ⟨rfl, hT1⟩
end
end Go.Proofs.YtignemioillaiaaGreat
