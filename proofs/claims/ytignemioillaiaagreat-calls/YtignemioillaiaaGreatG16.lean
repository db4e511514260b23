/- Package wire: Parse. -/
import Derived.Test.YtignemioillaiaaGreatG15
namespace Go.Proofs.YtignemioillaiaaGreat
set_option maxHeartbeats 8000000
set_option maxRecDepth 100000
section
open Go.RowKit
theorem FM : (Tryz.prog.info? 249).map (·.size) = some 1 := by kernel_rfl
theorem Df {B n : Nat} {w w' : World} (h : n < w.heap.size) (hO : Only B w w') : n < w'.heap.size := by rw [hO.size]; exact h
theorem mh {P : Program} {fn : Func} {p u : Tmp} {ty : TypeId} (h : fn.results = #[.cell p ty, .tmp u]) (tmps : Array Value) (w : World) (g : Nat) (t : TypeId) (cs : Array Value) (fr : Nat × Nat) (d : TypeDesc)
    (hp : tmps.getD p undef = .pointer (some ⟨g, 0, none⟩)) (hg : w.heap[g]? = some (.cells cs t fr))
    (hu : P.underlying ty = some d) (hd : (match d with | .struct _ | .array _ _ => true | _ => false) = true) (hi : (P.info? ty).map (·.size) = some cs.size) :
    (results fn tmps).run P w = .ok (.tuple #[.agg cs, tmps.getD u undef]) w := by
  have hp' : tmps[p]?.getD undef = .pointer (some ⟨g, 0, none⟩) := by simpa using hp
  simp [results, h, hp', asAddr, run_loadVar_row w g t ty cs fr d hg hu hd hi]
theorem TE {a b : ByteArray} (h : a ≠ b) : (!a.toList == b.toList) = true := by
  have h1 : ¬ a.toList = b.toList := by
    intro e
    rw [ByteArray.toList_eq, ByteArray.toList_eq] at e
    obtain ⟨⟨x⟩⟩ := a
    obtain ⟨⟨y⟩⟩ := b
    exact h (congrArg (fun z => ByteArray.mk (Array.mk z)) e)
  simpa using h1
theorem vC {a b : List bz} (h : a.map bz.strip = b) (hb : ∀ (i : Nat) (x : bz), b[i]? = some x → x.wf) : ∀ (i : Nat) (x : bz), a[i]? = some x → x.wf := by
  intro i x hx
  have h1 : b[i]? = some x.strip := by rw [← h, List.getElem?_map, hx]; rfl
  have := hb i _ h1
  revert this
  rintro ⟨a, b, c, ⟨d, e, ⟨r1, r2, r3, r4, r5, r6, r7⟩, p, q⟩⟩
  exact ⟨a, b, c, ⟨d, e, ⟨r1, r2, r3, r4, r5, r6, r7⟩, p, q⟩⟩
theorem AU (zY : Int) (zH zI zJ zK zL zM zN : Int) (zO zP zQ zR : Int) (zS : Bool) (zT zU : Int) (mn zZ jA : Int) (zV : Int) (zA zB zC zD zE zF zG : Int) (yA yB yC yD yE : Int) (yF : Option Addr) (yG yH : Nat) (yI : Option Addr) (yJ yK : Nat) (zW zX : Int) (jE : Option Addr) (jF jG : Nat) (yN yO yP yQ yR : Int) (yS : Option Addr) (yT yU : Nat) (yV : Option Addr) (yW yX : Nat) (jB jC : Int) (yL yY : List Row) (yM yZ : List ay) (jD : List bz) (l : List Int) (hm : (bT l).1 = (aM.mk zY (aD.mk zH zI zJ zK zL zM zN) (ay.mk zO zP zQ zR zS zT zU) mn zZ jA (aR.mk zV (aD.mk zA zB zC zD zE zF zG) (ax.mk yA yB yC yD yE ⟨yF, yG, yH⟩ ⟨yI, yJ, yK⟩ yL yM) zW zX) ⟨jE, jF, jG⟩ (ax.mk yN yO yP yQ yR ⟨yS, yT, yU⟩ ⟨yV, yW, yX⟩ yY yZ) jB jC jD)) (B : Nat) (w : World) (h : Src B w l) :
    Calls Tryz.prog 161 #[.pointer (some ⟨B, 0, none⟩)] w fun e w' => ∃ (fO : Option Addr) (gV gX : Nat) (fP : Option Addr) (gY gZ : Nat) (c1a : Option Addr) (ib ig : Nat) (fQ : Option Addr) (ik il : Nat) (va : Option Addr) (vn vc : Nat) (eQ : List bz), e = .returned (.agg (List.toArray (rM zY zH zI zJ zK zL zM zN zO zP zQ zR zS zT zU mn zZ jA zV zA zB zC zD zE zF zG yA yB yC yD yE c1a ib ig fQ ik il zW zX va vn vc yN yO yP yQ yR fO gV gX fP gY gZ jB jC))) ∧ w'.ownsRow w.heap.size 128 2 (.slice fO gV gX) yY.length (yY.map Row.cells).flatten ∧ w'.ownsRow w.heap.size 57 7 (.slice fP gY gZ) yZ.length (yZ.map ay.cells).flatten ∧ w'.ownsRow w.heap.size 128 2 (.slice c1a ib ig) yL.length (yL.map Row.cells).flatten ∧ w'.ownsRow w.heap.size 57 7 (.slice fQ ik il) yM.length (yM.map ay.cells).flatten ∧ w'.ownsRow w.heap.size 196 20 (.slice va vn vc) eQ.length (eQ.map bz.cells).flatten ∧ (kz w.heap.size w' eQ ∧ One fO fP c1a fQ va) ∧ eQ.map bz.strip = jD ∧ Src B w' (bT l).2 ∧ fD B w w' := by
  have h9 := RU B l w h
  rw [hm] at h9
  exact h9
theorem IA (zY : Int) (zH zI zJ zK zL zM zN : Int) (zO zP zQ zR : Int) (zS : Bool) (zT zU : Int) (mn zZ jA : Int) (zV : Int) (zA zB zC zD zE zF zG : Int) (yA yB yC yD yE : Int) (yF : Option Addr) (yG yH : Nat) (yI : Option Addr) (yJ yK : Nat) (zW zX : Int) (jE : Option Addr) (jF jG : Nat) (yN yO yP yQ yR : Int) (yS : Option Addr) (yT yU : Nat) (yV : Option Addr) (yW yX : Nat) (jB jC : Int) (yL yY : List Row) (yM yZ : List ay) (jD : List bz) (l : List Int) (w : World) (hb : fU l) (hl : l.length ≤ 1000000000000000) (hm : (bT l).1 = (aM.mk zY (aD.mk zH zI zJ zK zL zM zN) (ay.mk zO zP zQ zR zS zT zU) mn zZ jA (aR.mk zV (aD.mk zA zB zC zD zE zF zG) (ax.mk yA yB yC yD yE ⟨yF, yG, yH⟩ ⟨yI, yJ, yK⟩ yL yM) zW zX) ⟨jE, jF, jG⟩ (ax.mk yN yO yP yQ yR ⟨yS, yT, yU⟩ ⟨yV, yW, yX⟩ yY yZ) jB jC jD)) (hg : (aM.mk zY (aD.mk zH zI zJ zK zL zM zN) (ay.mk zO zP zQ zR zS zT zU) mn zZ jA (aR.mk zV (aD.mk zA zB zC zD zE zF zG) (ax.mk yA yB yC yD yE ⟨yF, yG, yH⟩ ⟨yI, yJ, yK⟩ yL yM) zW zX) ⟨jE, jF, jG⟩ (ax.mk yN yO yP yQ yR ⟨yS, yT, yU⟩ ⟨yV, yW, yX⟩ yY yZ) jB jC jD).ok = true) (hy : dI ((aM.mk zY (aD.mk zH zI zJ zK zL zM zN) (ay.mk zO zP zQ zR zS zT zU) mn zZ jA (aR.mk zV (aD.mk zA zB zC zD zE zF zG) (ax.mk yA yB yC yD yE ⟨yF, yG, yH⟩ ⟨yI, yJ, yK⟩ yL yM) zW zX) ⟨jE, jF, jG⟩ (ax.mk yN yO yP yQ yR ⟨yS, yT, yU⟩ ⟨yV, yW, yX⟩ yY yZ) jB jC jD).bytes) = dI l) :
    Calls Tryz.prog 113 #[.string (dI l)] w fun e w' => ∃ (fO : Option Addr) (gV gX : Nat) (fP : Option Addr) (gY gZ : Nat) (c1a : Option Addr) (ib ig : Nat) (fQ : Option Addr) (ik il : Nat) (va : Option Addr) (vn vc : Nat) (eQ : List bz), e = .returned (.tuple #[.agg (List.toArray (rM zY zH zI zJ zK zL zM zN zO zP zQ zR zS zT zU mn zZ jA zV zA zB zC zD zE zF zG yA yB yC yD yE c1a ib ig fQ ik il zW zX va vn vc yN yO yP yQ yR fO gV gX fP gY gZ jB jC)), .int .i64 0]) ∧ w'.ownsRow w.heap.size 128 2 (.slice fO gV gX) yY.length (yY.map Row.cells).flatten ∧ w'.ownsRow w.heap.size 57 7 (.slice fP gY gZ) yZ.length (yZ.map ay.cells).flatten ∧ w'.ownsRow w.heap.size 128 2 (.slice c1a ib ig) yL.length (yL.map Row.cells).flatten ∧ w'.ownsRow w.heap.size 57 7 (.slice fQ ik il) yM.length (yM.map ay.cells).flatten ∧ w'.ownsRow w.heap.size 196 20 (.slice va vn vc) eQ.length (eQ.map bz.cells).flatten ∧ (kz w.heap.size w' eQ ∧ One fO fP c1a fQ va) ∧ eQ.map bz.strip = jD ∧ Below w.heap.size w w' := by
  have hwf := (FL hb).1
  rw [hm] at hwf
  have hstr := wS l
  rw [hm] at hstr
  have HM := kY hm
  have dh : w.heap.size ≠ w.heap.size + 1 := by omega
  have dW : some w.heap.size ≠ some (w.heap.size + 1) := by simp
  have hR0 : ((w.alloc (.cells (List.toArray cZ) 203)).alloc (.cells #[.string (ByteArray.mk #[])] 249)).heap[w.heap.size]? = some (.cells (List.toArray cZ) 203) := heap_alloc2_old w _ _
  have Ec : ((w.alloc (.cells (List.toArray cZ) 203)).alloc (.cells #[.string (ByteArray.mk #[])] 249)).heap[w.heap.size + 1]? = some (.cells #[.string (ByteArray.mk #[])] 249) := heap_alloc2_new w _ _
  have hT0 : Below w.heap.size w ((w.alloc (.cells (List.toArray cZ) 203)).alloc (.cells #[.string (ByteArray.mk #[])] 249)) := aQ (av w _) (av _ _)
  have oO : w.heap.size < ((w.alloc (.cells (List.toArray cZ) 203)).alloc (.cells #[.string (ByteArray.mk #[])] 249)).heap.size := (Array.getElem?_eq_some_iff.1 hR0).1
  have D5 := kY hwf
  have wT := kY hstr
  clear hwf hstr hm
  go_enter Tryz.func113, Tryz.ntmps113
  go_upto_region 3 with (first | (with_reducible show wpList _ _ _ ({ dst := none, op := Op.store 249 _ _, type := _, pos := _, after := _, guard := none } :: _) _ _; go_must (refine ae rfl _ _ _ rfl rfl (w.heap.size + 1) 0 rfl [.string (dI l)] rfl _ FM rfl rfl _ _ Ec rfl [.string (dI l)] rfl ?_; intro w1 hV1 aJ; have dZ := (aJ.block _ dh).trans hR0; have hS1 : Src (w.heap.size + 1) w1 l := ⟨hV1, hb, hl⟩; have hlt1 : w.heap.size < w1.heap.size := Df oO aJ)) | (go_at_call 161; go_must (refine (AU _ _ _ _ _ _ _ _ _ _ _ _ _ _ _ _ _ _ _ _ _ _ _ _ _ _ _ _ _ _ _ _ _ _ _ _ _ _ _ _ _ _ _ _ _ _ _ _ _ _ _ _ _ _ _ yL yY yM yZ jD l HM.out _ _ hS1).mono ?_; rintro e w2 ⟨fO, gV, gX, fP, gY, gZ, c1a, ib, ig, fQ, ik, il, va, vn, vc, eQ, rfl, ho1, ho2, ho3, wU, hov, ⟨su, Oy⟩, hT, hS2, iN⟩; have hR2 := (iN.block _ hlt1 dW).trans dZ; have hA2 := heap_alloc_new w2 (.cells (List.toArray cZ) 203))) | (with_reducible show wpList _ _ _ ({ dst := none, op := Op.store 203 _ _, type := _, pos := _, after := _, guard := none } :: _) _ _; go_must (refine ae rfl _ _ _ rfl rfl (w2.heap.size) 0 rfl (rM zY zH zI zJ zK zL zM zN zO zP zQ zR zS zT zU mn zZ jA zV zA zB zC zD zE zF zG yA yB yC yD yE c1a ib ig fQ ik il zW zX va vn vc yN yO yP yQ yR fO gV gX fP gY gZ jB jC) rfl _ bX rfl rfl _ _ hA2 rfl (rM zY zH zI zJ zK zL zM zN zO zP zQ zR zS zT zU mn zZ jA zV zA zB zC zD zE zF zG yA yB yC yD yE c1a ib ig fQ ik il zW zX va vn vc yN yO yP yQ yR fO gV gX fP gY gZ jB jC) rfl ?_; intro w3 hW3 hO3)))
  have hb3 : Below w2.heap.size w2 w3 := (av w2 _).trans (hO3.below (Nat.le_refl _))
  have hV2 : gq w2.heap.size w2 ⟨va, vn, vc⟩ eQ := ⟨fC (by rw [List.length_map]; exact hov) (AQ _), fun i x hx => (su.all i x hx).In⟩
  have h1 : cz w2.heap.size w2 ⟨fO, gV, gX⟩ 2 (yY.map Row.cells) := fC (by rw [List.length_map]; exact ho1) (oL _)
  have h2 : cz w2.heap.size w2 ⟨fP, gY, gZ⟩ 7 (yZ.map ay.cells) := fC (by rw [List.length_map]; exact ho2) (oN _)
  have h3 : cz w2.heap.size w2 ⟨c1a, ib, ig⟩ 2 (yL.map Row.cells) := fC (by rw [List.length_map]; exact ho3) (oL _)
  have h4 : cz w2.heap.size w2 ⟨fQ, ik, il⟩ 7 (yM.map ay.cells) := fC (by rw [List.length_map]; exact wU) (oN _)
  have hf : aM.fit (aM.mk zY (aD.mk zH zI zJ zK zL zM zN) (ay.mk zO zP zQ zR zS zT zU) mn zZ jA (aR.mk zV (aD.mk zA zB zC zD zE zF zG) (ax.mk yA yB yC yD yE ⟨c1a, ib, ig⟩ ⟨fQ, ik, il⟩ yL yM) zW zX) ⟨va, vn, vc⟩ (ax.mk yN yO yP yQ yR ⟨fO, gV, gX⟩ ⟨fP, gY, gZ⟩ yY yZ) jB jC eQ) := ⟨⟨by simpa using h3.len, by simpa using h4.len⟩, ⟨by simpa using h1.len, by simpa using h2.len⟩, by simpa using hV2.sl.len, fun i x hx => ⟨by simpa using (hV2.all i x hx).rows.len, by simpa using (hV2.all i x hx).bC.len⟩⟩
  have hs : aM.strip (aM.mk zY (aD.mk zH zI zJ zK zL zM zN) (ay.mk zO zP zQ zR zS zT zU) mn zZ jA (aR.mk zV (aD.mk zA zB zC zD zE zF zG) (ax.mk yA yB yC yD yE ⟨c1a, ib, ig⟩ ⟨fQ, ik, il⟩ yL yM) zW zX) ⟨va, vn, vc⟩ (ax.mk yN yO yP yQ yR ⟨fO, gV, gX⟩ ⟨fP, gY, gZ⟩ yY yZ) jB jC eQ) = (aM.mk zY (aD.mk zH zI zJ zK zL zM zN) (ay.mk zO zP zQ zR zS zT zU) mn zZ jA (aR.mk zV (aD.mk zA zB zC zD zE zF zG) (ax.mk yA yB yC yD yE ⟨yF, yG, yH⟩ ⟨yI, yJ, yK⟩ yL yM) zW zX) ⟨jE, jF, jG⟩ (ax.mk yN yO yP yQ yR ⟨yS, yT, yU⟩ ⟨yV, yW, yX⟩ yY yZ) jB jC jD) := by
    rw [← wT.out]
    have Lt : jD.map bz.strip = jD := by have := congrArg aM.aV wT.out; exact this
    have hlen : eQ.length = jD.length := by have := congrArg List.length hT; simpa using this
    simp only [aM.strip, aR.strip, ax.strip, hT, Lt, hlen]
  have hok : aM.ok (aM.mk zY (aD.mk zH zI zJ zK zL zM zN) (ay.mk zO zP zQ zR zS zT zU) mn zZ jA (aR.mk zV (aD.mk zA zB zC zD zE zF zG) (ax.mk yA yB yC yD yE ⟨c1a, ib, ig⟩ ⟨fQ, ik, il⟩ yL yM) zW zX) ⟨va, vn, vc⟩ (ax.mk yN yO yP yQ yR ⟨fO, gV, gX⟩ ⟨fP, gY, gZ⟩ yY yZ) jB jC eQ) = aM.ok (aM.mk zY (aD.mk zH zI zJ zK zL zM zN) (ay.mk zO zP zQ zR zS zT zU) mn zZ jA (aR.mk zV (aD.mk zA zB zC zD zE zF zG) (ax.mk yA yB yC yD yE ⟨yF, yG, yH⟩ ⟨yI, yJ, yK⟩ yL yM) zW zX) ⟨jE, jF, jG⟩ (ax.mk yN yO yP yQ yR ⟨yS, yT, yU⟩ ⟨yV, yW, yX⟩ yY yZ) jB jC jD) := by rw [← aM.lX hf, hs]
  have hby : aM.bytes (aM.mk zY (aD.mk zH zI zJ zK zL zM zN) (ay.mk zO zP zQ zR zS zT zU) mn zZ jA (aR.mk zV (aD.mk zA zB zC zD zE zF zG) (ax.mk yA yB yC yD yE ⟨c1a, ib, ig⟩ ⟨fQ, ik, il⟩ yL yM) zW zX) ⟨va, vn, vc⟩ (ax.mk yN yO yP yQ yR ⟨fO, gV, gX⟩ ⟨fP, gY, gZ⟩ yY yZ) jB jC eQ) = aM.bytes (aM.mk zY (aD.mk zH zI zJ zK zL zM zN) (ay.mk zO zP zQ zR zS zT zU) mn zZ jA (aR.mk zV (aD.mk zA zB zC zD zE zF zG) (ax.mk yA yB yC yD yE ⟨yF, yG, yH⟩ ⟨yI, yJ, yK⟩ yL yM) zW zX) ⟨jE, jF, jG⟩ (ax.mk yN yO yP yQ yR ⟨yS, yT, yU⟩ ⟨yV, yW, yX⟩ yY yZ) jB jC jD) := by rw [← aM.lu, hs]
  have hw2 : aM.wf (aM.mk zY (aD.mk zH zI zJ zK zL zM zN) (ay.mk zO zP zQ zR zS zT zU) mn zZ jA (aR.mk zV (aD.mk zA zB zC zD zE zF zG) (ax.mk yA yB yC yD yE ⟨c1a, ib, ig⟩ ⟨fQ, ik, il⟩ yL yM) zW zX) ⟨va, vn, vc⟩ (ax.mk yN yO yP yQ yR ⟨fO, gV, gX⟩ ⟨fP, gY, gZ⟩ yY yZ) jB jC eQ) := by
    obtain ⟨q1, q2, q3, q4, q5, q6, ⟨d, e, ⟨r1, r2, r3, r4, r5, r6, r7⟩, p, q⟩, q8, ⟨s1, s2, s3, s4, s5, s6, s7⟩, Lu, Lv⟩ := D5.out
    exact ⟨q1, q2, q3, q4, q5, q6, ⟨d, e, ⟨r1, r2, r3, r4, r5, r6, r7⟩, p, q⟩, vC hT q8, ⟨s1, s2, s3, s4, s5, s6, s7⟩, Lu, Lv⟩
  have HW2 := kY hw2
  have wV := bF hb3 hR2
  have hbel : Below w.heap.size w w3 := ((hT0.trans (aJ.below (Nat.le_succ _))).trans ⟨iN.os, iN.tape, iN.output, iN.size, fun k hk => iN.block k (Nat.lt_trans hk hlt1) (by simp; omega)⟩).trans (hb3.mono (Nat.le_trans (Nat.le_of_lt hlt1) iN.size))
  have Lx := kY (hok.trans hg)
  have TF := kY ((congrArg dI hby).trans hy)
  clear hs hf hok hby hw2 hA2 hR0 Ec dZ hV1 hR2 hS1
  go_wp2_with (first | (with_reducible show wpList _ _ _ ({ dst := some 12, op := Op.load 203 _, type := _, pos := _, after := _, guard := _ } :: _) _ _; go_must (refine ak rfl _ _ rfl (w2.heap.size) 0 rfl 45 _ Tryz.underlying203 rfl bX _ _ hW3 rfl (rM zY zH zI zJ zK zL zM zN zO zP zQ zR zS zT zU mn zZ jA zV zA zB zC zD zE zF zG yA yB yC yD yE c1a ib ig fQ ik il zW zX va vn vc yN yO yP yQ yR fO gV gX fP gY gZ jB jC) rfl ?_)) | (go_at_call 158; go_must (refine (wK _ _ _ _ _ _ _ _ _ _ _ _ _ _ _ _ _ _ _ _ _ _ _ _ _ _ _ _ _ _ _ _ _ _ _ _ _ _ _ _ _ _ _ _ _ _ _ _ _ _ _ _ _ _ _ yL yY yM yZ eQ _ (hV2.later hb3) (h3.later hb3) (h4.later hb3) (h1.later hb3) (h2.later hb3) HW2.out Lx.out).mono ?_; rintro e w4 ⟨rfl, hb4⟩; rw [TF.out]; have K7 := bF hb4 hW3; have LA := bF hb4 wV)) | (with_reducible show wpList _ _ _ ({ dst := some 24, op := Op.load 203 _, type := _, pos := _, after := _, guard := _ } :: _) _ _; go_must (refine ak rfl _ _ rfl (w2.heap.size) 0 rfl 45 _ Tryz.underlying203 rfl bX _ _ K7 rfl (rM zY zH zI zJ zK zL zM zN zO zP zQ zR zS zT zU mn zZ jA zV zA zB zC zD zE zF zG yA yB yC yD yE c1a ib ig fQ ik il zW zX va vn vc yN yO yP yQ yR fO gV gX fP gY gZ jB jC) rfl ?_)) | (with_reducible show wpList _ _ _ ({ dst := none, op := Op.store 203 _ _, type := _, pos := _, after := _, guard := none } :: _) _ _; go_must (refine ae rfl _ _ _ rfl rfl (w.heap.size) 0 rfl (rM zY zH zI zJ zK zL zM zN zO zP zQ zR zS zT zU mn zZ jA zV zA zB zC zD zE zF zG yA yB yC yD yE c1a ib ig fQ ik il zW zX va vn vc yN yO yP yQ yR fO gV gX fP gY gZ jB jC) rfl _ bX rfl rfl _ _ LA rfl (rM zY zH zI zJ zK zL zM zN zO zP zQ zR zS zT zU mn zZ jA zV zA zB zC zD zE zF zG yA yB yC yD yE c1a ib ig fQ ik il zW zX va vn vc yN yO yP yQ yR fO gV gX fP gY gZ jB jC) rfl ?_; intro w5 LB wW)))
  have hlt2 : w.heap.size < w3.heap.size := Nat.lt_of_lt_of_le hlt1 (Nat.le_trans iN.size hb3.size)
  have BU : Below w.heap.size w w5 := (hbel.trans (hb4.mono (Nat.le_of_lt hlt2))).trans (wW.below (Nat.le_refl _))
  refine bodyPost_ret (v := .tuple #[.agg (List.toArray (rM zY zH zI zJ zK zL zM zN zO zP zQ zR zS zT zU mn zZ jA zV zA zB zC zD zE zF zG yA yB yC yD yE c1a ib ig fQ ik il zW zX va vn vc yN yO yP yQ yR fO gV gX fP gY gZ jB jC)), .int .i64 0]) (mh Tryz.results113 _ _ w.heap.size 203 _ (0, 0) _ rfl LB Tryz.underlying203 rfl bX) rfl ⟨fO, gV, gX, fP, gY, gZ, c1a, ib, ig, fQ, ik, il, va, vn, vc, eQ, rfl, dA (dB (own_below (own_below ho1 hb3) hb4) wW hlt1) (Nat.le_of_lt hlt1), dA (dB (own_below (own_below ho2 hb3) hb4) wW hlt1) (Nat.le_of_lt hlt1), dA (dB (own_below (own_below ho3 hb3) hb4) wW hlt1) (Nat.le_of_lt hlt1), dA (dB (own_below (own_below wU hb3) hb4) wW hlt1) (Nat.le_of_lt hlt1), dA (dB (own_below (own_below hov hb3) hb4) wW hlt1) (Nat.le_of_lt hlt1), ⟨⟨fun i x hx => ((((su.all i x hx).below hb3).below hb4).only wW hlt1).mono (Nat.le_of_lt hlt1), su.ap⟩, Oy⟩, hT, BU⟩
theorem Oz (zY : Int) (zH zI zJ zK zL zM zN : Int) (zO zP zQ zR : Int) (zS : Bool) (zT zU : Int) (mn zZ jA : Int) (zV : Int) (zA zB zC zD zE zF zG : Int) (yA yB yC yD yE : Int) (yF : Option Addr) (yG yH : Nat) (yI : Option Addr) (yJ yK : Nat) (zW zX : Int) (jE : Option Addr) (jF jG : Nat) (yN yO yP yQ yR : Int) (yS : Option Addr) (yT yU : Nat) (yV : Option Addr) (yW yX : Nat) (jB jC : Int) (yL yY : List Row) (yM yZ : List ay) (jD : List bz) (l : List Int) (w : World) (hb : fU l) (hl : l.length ≤ 1000000000000000) (hm : (bT l).1 = (aM.mk zY (aD.mk zH zI zJ zK zL zM zN) (ay.mk zO zP zQ zR zS zT zU) mn zZ jA (aR.mk zV (aD.mk zA zB zC zD zE zF zG) (ax.mk yA yB yC yD yE ⟨yF, yG, yH⟩ ⟨yI, yJ, yK⟩ yL yM) zW zX) ⟨jE, jF, jG⟩ (ax.mk yN yO yP yQ yR ⟨yS, yT, yU⟩ ⟨yV, yW, yX⟩ yY yZ) jB jC jD)) (hg : (aM.mk zY (aD.mk zH zI zJ zK zL zM zN) (ay.mk zO zP zQ zR zS zT zU) mn zZ jA (aR.mk zV (aD.mk zA zB zC zD zE zF zG) (ax.mk yA yB yC yD yE ⟨yF, yG, yH⟩ ⟨yI, yJ, yK⟩ yL yM) zW zX) ⟨jE, jF, jG⟩ (ax.mk yN yO yP yQ yR ⟨yS, yT, yU⟩ ⟨yV, yW, yX⟩ yY yZ) jB jC jD).ok = false) :
    Calls Tryz.prog 113 #[.string (dI l)] w fun e w' => e = .returned (.tuple #[.agg (List.toArray cZ), .int .i64 2]) ∧ Below w.heap.size w w' := by
  have hwf := (FL hb).1
  rw [hm] at hwf
  have hstr := wS l
  rw [hm] at hstr
  have HM := kY hm
  have dh : w.heap.size ≠ w.heap.size + 1 := by omega
  have dW : some w.heap.size ≠ some (w.heap.size + 1) := by simp
  have hR0 : ((w.alloc (.cells (List.toArray cZ) 203)).alloc (.cells #[.string (ByteArray.mk #[])] 249)).heap[w.heap.size]? = some (.cells (List.toArray cZ) 203) := heap_alloc2_old w _ _
  have Ec : ((w.alloc (.cells (List.toArray cZ) 203)).alloc (.cells #[.string (ByteArray.mk #[])] 249)).heap[w.heap.size + 1]? = some (.cells #[.string (ByteArray.mk #[])] 249) := heap_alloc2_new w _ _
  have hT0 : Below w.heap.size w ((w.alloc (.cells (List.toArray cZ) 203)).alloc (.cells #[.string (ByteArray.mk #[])] 249)) := aQ (av w _) (av _ _)
  have oO : w.heap.size < ((w.alloc (.cells (List.toArray cZ) 203)).alloc (.cells #[.string (ByteArray.mk #[])] 249)).heap.size := (Array.getElem?_eq_some_iff.1 hR0).1
  have D5 := kY hwf
  have wT := kY hstr
  clear hwf hstr hm
  go_enter Tryz.func113, Tryz.ntmps113
  go_upto_region 3 with (first | (with_reducible show wpList _ _ _ ({ dst := none, op := Op.store 249 _ _, type := _, pos := _, after := _, guard := none } :: _) _ _; go_must (refine ae rfl _ _ _ rfl rfl (w.heap.size + 1) 0 rfl [.string (dI l)] rfl _ FM rfl rfl _ _ Ec rfl [.string (dI l)] rfl ?_; intro w1 hV1 aJ; have dZ := (aJ.block _ dh).trans hR0; have hS1 : Src (w.heap.size + 1) w1 l := ⟨hV1, hb, hl⟩; have hlt1 : w.heap.size < w1.heap.size := Df oO aJ)) | (go_at_call 161; go_must (refine (AU _ _ _ _ _ _ _ _ _ _ _ _ _ _ _ _ _ _ _ _ _ _ _ _ _ _ _ _ _ _ _ _ _ _ _ _ _ _ _ _ _ _ _ _ _ _ _ _ _ _ _ _ _ _ _ yL yY yM yZ jD l HM.out _ _ hS1).mono ?_; rintro e w2 ⟨fO, gV, gX, fP, gY, gZ, c1a, ib, ig, fQ, ik, il, va, vn, vc, eQ, rfl, ho1, ho2, ho3, wU, hov, ⟨su, Oy⟩, hT, hS2, iN⟩; have hR2 := (iN.block _ hlt1 dW).trans dZ; have hA2 := heap_alloc_new w2 (.cells (List.toArray cZ) 203))) | (with_reducible show wpList _ _ _ ({ dst := none, op := Op.store 203 _ _, type := _, pos := _, after := _, guard := none } :: _) _ _; go_must (refine ae rfl _ _ _ rfl rfl (w2.heap.size) 0 rfl (rM zY zH zI zJ zK zL zM zN zO zP zQ zR zS zT zU mn zZ jA zV zA zB zC zD zE zF zG yA yB yC yD yE c1a ib ig fQ ik il zW zX va vn vc yN yO yP yQ yR fO gV gX fP gY gZ jB jC) rfl _ bX rfl rfl _ _ hA2 rfl (rM zY zH zI zJ zK zL zM zN zO zP zQ zR zS zT zU mn zZ jA zV zA zB zC zD zE zF zG yA yB yC yD yE c1a ib ig fQ ik il zW zX va vn vc yN yO yP yQ yR fO gV gX fP gY gZ jB jC) rfl ?_; intro w3 hW3 hO3)))
  have hb3 : Below w2.heap.size w2 w3 := (av w2 _).trans (hO3.below (Nat.le_refl _))
  have hV2 : gq w2.heap.size w2 ⟨va, vn, vc⟩ eQ := ⟨fC (by rw [List.length_map]; exact hov) (AQ _), fun i x hx => (su.all i x hx).In⟩
  have h1 : cz w2.heap.size w2 ⟨fO, gV, gX⟩ 2 (yY.map Row.cells) := fC (by rw [List.length_map]; exact ho1) (oL _)
  have h2 : cz w2.heap.size w2 ⟨fP, gY, gZ⟩ 7 (yZ.map ay.cells) := fC (by rw [List.length_map]; exact ho2) (oN _)
  have h3 : cz w2.heap.size w2 ⟨c1a, ib, ig⟩ 2 (yL.map Row.cells) := fC (by rw [List.length_map]; exact ho3) (oL _)
  have h4 : cz w2.heap.size w2 ⟨fQ, ik, il⟩ 7 (yM.map ay.cells) := fC (by rw [List.length_map]; exact wU) (oN _)
  have hf : aM.fit (aM.mk zY (aD.mk zH zI zJ zK zL zM zN) (ay.mk zO zP zQ zR zS zT zU) mn zZ jA (aR.mk zV (aD.mk zA zB zC zD zE zF zG) (ax.mk yA yB yC yD yE ⟨c1a, ib, ig⟩ ⟨fQ, ik, il⟩ yL yM) zW zX) ⟨va, vn, vc⟩ (ax.mk yN yO yP yQ yR ⟨fO, gV, gX⟩ ⟨fP, gY, gZ⟩ yY yZ) jB jC eQ) := ⟨⟨by simpa using h3.len, by simpa using h4.len⟩, ⟨by simpa using h1.len, by simpa using h2.len⟩, by simpa using hV2.sl.len, fun i x hx => ⟨by simpa using (hV2.all i x hx).rows.len, by simpa using (hV2.all i x hx).bC.len⟩⟩
  have hs : aM.strip (aM.mk zY (aD.mk zH zI zJ zK zL zM zN) (ay.mk zO zP zQ zR zS zT zU) mn zZ jA (aR.mk zV (aD.mk zA zB zC zD zE zF zG) (ax.mk yA yB yC yD yE ⟨c1a, ib, ig⟩ ⟨fQ, ik, il⟩ yL yM) zW zX) ⟨va, vn, vc⟩ (ax.mk yN yO yP yQ yR ⟨fO, gV, gX⟩ ⟨fP, gY, gZ⟩ yY yZ) jB jC eQ) = (aM.mk zY (aD.mk zH zI zJ zK zL zM zN) (ay.mk zO zP zQ zR zS zT zU) mn zZ jA (aR.mk zV (aD.mk zA zB zC zD zE zF zG) (ax.mk yA yB yC yD yE ⟨yF, yG, yH⟩ ⟨yI, yJ, yK⟩ yL yM) zW zX) ⟨jE, jF, jG⟩ (ax.mk yN yO yP yQ yR ⟨yS, yT, yU⟩ ⟨yV, yW, yX⟩ yY yZ) jB jC jD) := by
    rw [← wT.out]
    have Lt : jD.map bz.strip = jD := by have := congrArg aM.aV wT.out; exact this
    have hlen : eQ.length = jD.length := by have := congrArg List.length hT; simpa using this
    simp only [aM.strip, aR.strip, ax.strip, hT, Lt, hlen]
  have hok : aM.ok (aM.mk zY (aD.mk zH zI zJ zK zL zM zN) (ay.mk zO zP zQ zR zS zT zU) mn zZ jA (aR.mk zV (aD.mk zA zB zC zD zE zF zG) (ax.mk yA yB yC yD yE ⟨c1a, ib, ig⟩ ⟨fQ, ik, il⟩ yL yM) zW zX) ⟨va, vn, vc⟩ (ax.mk yN yO yP yQ yR ⟨fO, gV, gX⟩ ⟨fP, gY, gZ⟩ yY yZ) jB jC eQ) = aM.ok (aM.mk zY (aD.mk zH zI zJ zK zL zM zN) (ay.mk zO zP zQ zR zS zT zU) mn zZ jA (aR.mk zV (aD.mk zA zB zC zD zE zF zG) (ax.mk yA yB yC yD yE ⟨yF, yG, yH⟩ ⟨yI, yJ, yK⟩ yL yM) zW zX) ⟨jE, jF, jG⟩ (ax.mk yN yO yP yQ yR ⟨yS, yT, yU⟩ ⟨yV, yW, yX⟩ yY yZ) jB jC jD) := by rw [← aM.lX hf, hs]
  have hby : aM.bytes (aM.mk zY (aD.mk zH zI zJ zK zL zM zN) (ay.mk zO zP zQ zR zS zT zU) mn zZ jA (aR.mk zV (aD.mk zA zB zC zD zE zF zG) (ax.mk yA yB yC yD yE ⟨c1a, ib, ig⟩ ⟨fQ, ik, il⟩ yL yM) zW zX) ⟨va, vn, vc⟩ (ax.mk yN yO yP yQ yR ⟨fO, gV, gX⟩ ⟨fP, gY, gZ⟩ yY yZ) jB jC eQ) = aM.bytes (aM.mk zY (aD.mk zH zI zJ zK zL zM zN) (ay.mk zO zP zQ zR zS zT zU) mn zZ jA (aR.mk zV (aD.mk zA zB zC zD zE zF zG) (ax.mk yA yB yC yD yE ⟨yF, yG, yH⟩ ⟨yI, yJ, yK⟩ yL yM) zW zX) ⟨jE, jF, jG⟩ (ax.mk yN yO yP yQ yR ⟨yS, yT, yU⟩ ⟨yV, yW, yX⟩ yY yZ) jB jC jD) := by rw [← aM.lu, hs]
  have hw2 : aM.wf (aM.mk zY (aD.mk zH zI zJ zK zL zM zN) (ay.mk zO zP zQ zR zS zT zU) mn zZ jA (aR.mk zV (aD.mk zA zB zC zD zE zF zG) (ax.mk yA yB yC yD yE ⟨c1a, ib, ig⟩ ⟨fQ, ik, il⟩ yL yM) zW zX) ⟨va, vn, vc⟩ (ax.mk yN yO yP yQ yR ⟨fO, gV, gX⟩ ⟨fP, gY, gZ⟩ yY yZ) jB jC eQ) := by
    obtain ⟨q1, q2, q3, q4, q5, q6, ⟨d, e, ⟨r1, r2, r3, r4, r5, r6, r7⟩, p, q⟩, q8, ⟨s1, s2, s3, s4, s5, s6, s7⟩, Lu, Lv⟩ := D5.out
    exact ⟨q1, q2, q3, q4, q5, q6, ⟨d, e, ⟨r1, r2, r3, r4, r5, r6, r7⟩, p, q⟩, vC hT q8, ⟨s1, s2, s3, s4, s5, s6, s7⟩, Lu, Lv⟩
  have HW2 := kY hw2
  have wV := bF hb3 hR2
  have hbel : Below w.heap.size w w3 := ((hT0.trans (aJ.below (Nat.le_succ _))).trans ⟨iN.os, iN.tape, iN.output, iN.size, fun k hk => iN.block k (Nat.lt_trans hk hlt1) (by simp; omega)⟩).trans (hb3.mono (Nat.le_trans (Nat.le_of_lt hlt1) iN.size))
  have Lx := kY (hok.trans hg)
  clear hs hf hok hby hw2 hA2 hR0 Ec dZ hV1 hR2 hS1
  go_wp2_with (first | (with_reducible show wpList _ _ _ ({ dst := some 12, op := Op.load 203 _, type := _, pos := _, after := _, guard := _ } :: _) _ _; go_must (refine ak rfl _ _ rfl (w2.heap.size) 0 rfl 45 _ Tryz.underlying203 rfl bX _ _ hW3 rfl (rM zY zH zI zJ zK zL zM zN zO zP zQ zR zS zT zU mn zZ jA zV zA zB zC zD zE zF zG yA yB yC yD yE c1a ib ig fQ ik il zW zX va vn vc yN yO yP yQ yR fO gV gX fP gY gZ jB jC) rfl ?_)) | (go_at_call 158; go_must (refine (La _ _ _ _ _ _ _ _ _ _ _ _ _ _ _ _ _ _ _ _ _ _ _ _ _ _ _ _ _ _ _ _ _ _ _ _ _ _ _ _ _ _ _ _ _ _ _ _ _ _ _ _ _ _ _ yL yY yM yZ eQ _ (hV2.later hb3) (h3.later hb3) (h4.later hb3) (h1.later hb3) (h2.later hb3) HW2.out Lx.out).mono ?_; rintro e w4 ⟨rfl, hb4⟩; have K7 := bF hb4 hW3; have LA := bF hb4 wV)) | (with_reducible show wpList _ _ _ ({ dst := none, op := Op.store 203 _ _, type := _, pos := _, after := _, guard := none } :: _) _ _; go_must (refine ae rfl _ _ _ rfl rfl (w.heap.size) 0 rfl cZ rfl _ bX rfl rfl _ _ LA rfl cZ rfl ?_; intro w5 LB wW)))
  have hlt2 : w.heap.size < w3.heap.size := Nat.lt_of_lt_of_le hlt1 (Nat.le_trans iN.size hb3.size)
  have BU : Below w.heap.size w w5 := (hbel.trans (hb4.mono (Nat.le_of_lt hlt2))).trans (wW.below (Nat.le_refl _))
  exact bodyPost_ret (v := .tuple #[.agg (List.toArray cZ), .int .i64 2]) (mh Tryz.results113 _ _ w.heap.size 203 _ (0, 0) _ rfl LB Tryz.underlying203 rfl bX) rfl ⟨rfl, BU⟩
theorem OA (zY : Int) (zH zI zJ zK zL zM zN : Int) (zO zP zQ zR : Int) (zS : Bool) (zT zU : Int) (mn zZ jA : Int) (zV : Int) (zA zB zC zD zE zF zG : Int) (yA yB yC yD yE : Int) (yF : Option Addr) (yG yH : Nat) (yI : Option Addr) (yJ yK : Nat) (zW zX : Int) (jE : Option Addr) (jF jG : Nat) (yN yO yP yQ yR : Int) (yS : Option Addr) (yT yU : Nat) (yV : Option Addr) (yW yX : Nat) (jB jC : Int) (yL yY : List Row) (yM yZ : List ay) (jD : List bz) (l : List Int) (w : World) (hb : fU l) (hl : l.length ≤ 1000000000000000) (hm : (bT l).1 = (aM.mk zY (aD.mk zH zI zJ zK zL zM zN) (ay.mk zO zP zQ zR zS zT zU) mn zZ jA (aR.mk zV (aD.mk zA zB zC zD zE zF zG) (ax.mk yA yB yC yD yE ⟨yF, yG, yH⟩ ⟨yI, yJ, yK⟩ yL yM) zW zX) ⟨jE, jF, jG⟩ (ax.mk yN yO yP yQ yR ⟨yS, yT, yU⟩ ⟨yV, yW, yX⟩ yY yZ) jB jC jD)) (hg : (aM.mk zY (aD.mk zH zI zJ zK zL zM zN) (ay.mk zO zP zQ zR zS zT zU) mn zZ jA (aR.mk zV (aD.mk zA zB zC zD zE zF zG) (ax.mk yA yB yC yD yE ⟨yF, yG, yH⟩ ⟨yI, yJ, yK⟩ yL yM) zW zX) ⟨jE, jF, jG⟩ (ax.mk yN yO yP yQ yR ⟨yS, yT, yU⟩ ⟨yV, yW, yX⟩ yY yZ) jB jC jD).ok = true) (hy : dI ((aM.mk zY (aD.mk zH zI zJ zK zL zM zN) (ay.mk zO zP zQ zR zS zT zU) mn zZ jA (aR.mk zV (aD.mk zA zB zC zD zE zF zG) (ax.mk yA yB yC yD yE ⟨yF, yG, yH⟩ ⟨yI, yJ, yK⟩ yL yM) zW zX) ⟨jE, jF, jG⟩ (ax.mk yN yO yP yQ yR ⟨yS, yT, yU⟩ ⟨yV, yW, yX⟩ yY yZ) jB jC jD).bytes) ≠ dI l) :
    Calls Tryz.prog 113 #[.string (dI l)] w fun e w' => e = .returned (.tuple #[.agg (List.toArray cZ), .int .i64 2]) ∧ Below w.heap.size w w' := by
  have hwf := (FL hb).1
  rw [hm] at hwf
  have hstr := wS l
  rw [hm] at hstr
  have HM := kY hm
  have dh : w.heap.size ≠ w.heap.size + 1 := by omega
  have dW : some w.heap.size ≠ some (w.heap.size + 1) := by simp
  have hR0 : ((w.alloc (.cells (List.toArray cZ) 203)).alloc (.cells #[.string (ByteArray.mk #[])] 249)).heap[w.heap.size]? = some (.cells (List.toArray cZ) 203) := heap_alloc2_old w _ _
  have Ec : ((w.alloc (.cells (List.toArray cZ) 203)).alloc (.cells #[.string (ByteArray.mk #[])] 249)).heap[w.heap.size + 1]? = some (.cells #[.string (ByteArray.mk #[])] 249) := heap_alloc2_new w _ _
  have hT0 : Below w.heap.size w ((w.alloc (.cells (List.toArray cZ) 203)).alloc (.cells #[.string (ByteArray.mk #[])] 249)) := aQ (av w _) (av _ _)
  have oO : w.heap.size < ((w.alloc (.cells (List.toArray cZ) 203)).alloc (.cells #[.string (ByteArray.mk #[])] 249)).heap.size := (Array.getElem?_eq_some_iff.1 hR0).1
  have D5 := kY hwf
  have wT := kY hstr
  clear hwf hstr hm
  go_enter Tryz.func113, Tryz.ntmps113
  go_upto_region 3 with (first | (with_reducible show wpList _ _ _ ({ dst := none, op := Op.store 249 _ _, type := _, pos := _, after := _, guard := none } :: _) _ _; go_must (refine ae rfl _ _ _ rfl rfl (w.heap.size + 1) 0 rfl [.string (dI l)] rfl _ FM rfl rfl _ _ Ec rfl [.string (dI l)] rfl ?_; intro w1 hV1 aJ; have dZ := (aJ.block _ dh).trans hR0; have hS1 : Src (w.heap.size + 1) w1 l := ⟨hV1, hb, hl⟩; have hlt1 : w.heap.size < w1.heap.size := Df oO aJ)) | (go_at_call 161; go_must (refine (AU _ _ _ _ _ _ _ _ _ _ _ _ _ _ _ _ _ _ _ _ _ _ _ _ _ _ _ _ _ _ _ _ _ _ _ _ _ _ _ _ _ _ _ _ _ _ _ _ _ _ _ _ _ _ _ yL yY yM yZ jD l HM.out _ _ hS1).mono ?_; rintro e w2 ⟨fO, gV, gX, fP, gY, gZ, c1a, ib, ig, fQ, ik, il, va, vn, vc, eQ, rfl, ho1, ho2, ho3, wU, hov, ⟨su, Oy⟩, hT, hS2, iN⟩; have hR2 := (iN.block _ hlt1 dW).trans dZ; have hA2 := heap_alloc_new w2 (.cells (List.toArray cZ) 203))) | (with_reducible show wpList _ _ _ ({ dst := none, op := Op.store 203 _ _, type := _, pos := _, after := _, guard := none } :: _) _ _; go_must (refine ae rfl _ _ _ rfl rfl (w2.heap.size) 0 rfl (rM zY zH zI zJ zK zL zM zN zO zP zQ zR zS zT zU mn zZ jA zV zA zB zC zD zE zF zG yA yB yC yD yE c1a ib ig fQ ik il zW zX va vn vc yN yO yP yQ yR fO gV gX fP gY gZ jB jC) rfl _ bX rfl rfl _ _ hA2 rfl (rM zY zH zI zJ zK zL zM zN zO zP zQ zR zS zT zU mn zZ jA zV zA zB zC zD zE zF zG yA yB yC yD yE c1a ib ig fQ ik il zW zX va vn vc yN yO yP yQ yR fO gV gX fP gY gZ jB jC) rfl ?_; intro w3 hW3 hO3)))
  have hb3 : Below w2.heap.size w2 w3 := (av w2 _).trans (hO3.below (Nat.le_refl _))
  have hV2 : gq w2.heap.size w2 ⟨va, vn, vc⟩ eQ := ⟨fC (by rw [List.length_map]; exact hov) (AQ _), fun i x hx => (su.all i x hx).In⟩
  have h1 : cz w2.heap.size w2 ⟨fO, gV, gX⟩ 2 (yY.map Row.cells) := fC (by rw [List.length_map]; exact ho1) (oL _)
  have h2 : cz w2.heap.size w2 ⟨fP, gY, gZ⟩ 7 (yZ.map ay.cells) := fC (by rw [List.length_map]; exact ho2) (oN _)
  have h3 : cz w2.heap.size w2 ⟨c1a, ib, ig⟩ 2 (yL.map Row.cells) := fC (by rw [List.length_map]; exact ho3) (oL _)
  have h4 : cz w2.heap.size w2 ⟨fQ, ik, il⟩ 7 (yM.map ay.cells) := fC (by rw [List.length_map]; exact wU) (oN _)
  have hf : aM.fit (aM.mk zY (aD.mk zH zI zJ zK zL zM zN) (ay.mk zO zP zQ zR zS zT zU) mn zZ jA (aR.mk zV (aD.mk zA zB zC zD zE zF zG) (ax.mk yA yB yC yD yE ⟨c1a, ib, ig⟩ ⟨fQ, ik, il⟩ yL yM) zW zX) ⟨va, vn, vc⟩ (ax.mk yN yO yP yQ yR ⟨fO, gV, gX⟩ ⟨fP, gY, gZ⟩ yY yZ) jB jC eQ) := ⟨⟨by simpa using h3.len, by simpa using h4.len⟩, ⟨by simpa using h1.len, by simpa using h2.len⟩, by simpa using hV2.sl.len, fun i x hx => ⟨by simpa using (hV2.all i x hx).rows.len, by simpa using (hV2.all i x hx).bC.len⟩⟩
  have hs : aM.strip (aM.mk zY (aD.mk zH zI zJ zK zL zM zN) (ay.mk zO zP zQ zR zS zT zU) mn zZ jA (aR.mk zV (aD.mk zA zB zC zD zE zF zG) (ax.mk yA yB yC yD yE ⟨c1a, ib, ig⟩ ⟨fQ, ik, il⟩ yL yM) zW zX) ⟨va, vn, vc⟩ (ax.mk yN yO yP yQ yR ⟨fO, gV, gX⟩ ⟨fP, gY, gZ⟩ yY yZ) jB jC eQ) = (aM.mk zY (aD.mk zH zI zJ zK zL zM zN) (ay.mk zO zP zQ zR zS zT zU) mn zZ jA (aR.mk zV (aD.mk zA zB zC zD zE zF zG) (ax.mk yA yB yC yD yE ⟨yF, yG, yH⟩ ⟨yI, yJ, yK⟩ yL yM) zW zX) ⟨jE, jF, jG⟩ (ax.mk yN yO yP yQ yR ⟨yS, yT, yU⟩ ⟨yV, yW, yX⟩ yY yZ) jB jC jD) := by
    rw [← wT.out]
    have Lt : jD.map bz.strip = jD := by have := congrArg aM.aV wT.out; exact this
    have hlen : eQ.length = jD.length := by have := congrArg List.length hT; simpa using this
    simp only [aM.strip, aR.strip, ax.strip, hT, Lt, hlen]
  have hok : aM.ok (aM.mk zY (aD.mk zH zI zJ zK zL zM zN) (ay.mk zO zP zQ zR zS zT zU) mn zZ jA (aR.mk zV (aD.mk zA zB zC zD zE zF zG) (ax.mk yA yB yC yD yE ⟨c1a, ib, ig⟩ ⟨fQ, ik, il⟩ yL yM) zW zX) ⟨va, vn, vc⟩ (ax.mk yN yO yP yQ yR ⟨fO, gV, gX⟩ ⟨fP, gY, gZ⟩ yY yZ) jB jC eQ) = aM.ok (aM.mk zY (aD.mk zH zI zJ zK zL zM zN) (ay.mk zO zP zQ zR zS zT zU) mn zZ jA (aR.mk zV (aD.mk zA zB zC zD zE zF zG) (ax.mk yA yB yC yD yE ⟨yF, yG, yH⟩ ⟨yI, yJ, yK⟩ yL yM) zW zX) ⟨jE, jF, jG⟩ (ax.mk yN yO yP yQ yR ⟨yS, yT, yU⟩ ⟨yV, yW, yX⟩ yY yZ) jB jC jD) := by rw [← aM.lX hf, hs]
  have hby : aM.bytes (aM.mk zY (aD.mk zH zI zJ zK zL zM zN) (ay.mk zO zP zQ zR zS zT zU) mn zZ jA (aR.mk zV (aD.mk zA zB zC zD zE zF zG) (ax.mk yA yB yC yD yE ⟨c1a, ib, ig⟩ ⟨fQ, ik, il⟩ yL yM) zW zX) ⟨va, vn, vc⟩ (ax.mk yN yO yP yQ yR ⟨fO, gV, gX⟩ ⟨fP, gY, gZ⟩ yY yZ) jB jC eQ) = aM.bytes (aM.mk zY (aD.mk zH zI zJ zK zL zM zN) (ay.mk zO zP zQ zR zS zT zU) mn zZ jA (aR.mk zV (aD.mk zA zB zC zD zE zF zG) (ax.mk yA yB yC yD yE ⟨yF, yG, yH⟩ ⟨yI, yJ, yK⟩ yL yM) zW zX) ⟨jE, jF, jG⟩ (ax.mk yN yO yP yQ yR ⟨yS, yT, yU⟩ ⟨yV, yW, yX⟩ yY yZ) jB jC jD) := by rw [← aM.lu, hs]
  have hw2 : aM.wf (aM.mk zY (aD.mk zH zI zJ zK zL zM zN) (ay.mk zO zP zQ zR zS zT zU) mn zZ jA (aR.mk zV (aD.mk zA zB zC zD zE zF zG) (ax.mk yA yB yC yD yE ⟨c1a, ib, ig⟩ ⟨fQ, ik, il⟩ yL yM) zW zX) ⟨va, vn, vc⟩ (ax.mk yN yO yP yQ yR ⟨fO, gV, gX⟩ ⟨fP, gY, gZ⟩ yY yZ) jB jC eQ) := by
    obtain ⟨q1, q2, q3, q4, q5, q6, ⟨d, e, ⟨r1, r2, r3, r4, r5, r6, r7⟩, p, q⟩, q8, ⟨s1, s2, s3, s4, s5, s6, s7⟩, Lu, Lv⟩ := D5.out
    exact ⟨q1, q2, q3, q4, q5, q6, ⟨d, e, ⟨r1, r2, r3, r4, r5, r6, r7⟩, p, q⟩, vC hT q8, ⟨s1, s2, s3, s4, s5, s6, s7⟩, Lu, Lv⟩
  have HW2 := kY hw2
  have wV := bF hb3 hR2
  have hbel : Below w.heap.size w w3 := ((hT0.trans (aJ.below (Nat.le_succ _))).trans ⟨iN.os, iN.tape, iN.output, iN.size, fun k hk => iN.block k (Nat.lt_trans hk hlt1) (by simp; omega)⟩).trans (hb3.mono (Nat.le_trans (Nat.le_of_lt hlt1) iN.size))
  have Lx := kY (hok.trans hg)
  obtain ⟨sB, TG⟩ : ∃ s, s = dI ((aM.mk zY (aD.mk zH zI zJ zK zL zM zN) (ay.mk zO zP zQ zR zS zT zU) mn zZ jA (aR.mk zV (aD.mk zA zB zC zD zE zF zG) (ax.mk yA yB yC yD yE ⟨yF, yG, yH⟩ ⟨yI, yJ, yK⟩ yL yM) zW zX) ⟨jE, jF, jG⟩ (ax.mk yN yO yP yQ yR ⟨yS, yT, yU⟩ ⟨yV, yW, yX⟩ yY yZ) jB jC jD).bytes) := ⟨_, rfl⟩
  have TF := kY ((congrArg dI hby).trans TG.symm)
  rw [← TG] at hy
  have hne := TE hy
  clear TG hy
  clear hs hf hok hby hw2 hA2 hR0 Ec dZ hV1 hR2 hS1
  go_wp2_with (first | (with_reducible show wpList _ _ _ ({ dst := some 12, op := Op.load 203 _, type := _, pos := _, after := _, guard := _ } :: _) _ _; go_must (refine ak rfl _ _ rfl (w2.heap.size) 0 rfl 45 _ Tryz.underlying203 rfl bX _ _ hW3 rfl (rM zY zH zI zJ zK zL zM zN zO zP zQ zR zS zT zU mn zZ jA zV zA zB zC zD zE zF zG yA yB yC yD yE c1a ib ig fQ ik il zW zX va vn vc yN yO yP yQ yR fO gV gX fP gY gZ jB jC) rfl ?_)) | (go_at_call 158; go_must (refine (wK _ _ _ _ _ _ _ _ _ _ _ _ _ _ _ _ _ _ _ _ _ _ _ _ _ _ _ _ _ _ _ _ _ _ _ _ _ _ _ _ _ _ _ _ _ _ _ _ _ _ _ _ _ _ _ yL yY yM yZ eQ _ (hV2.later hb3) (h3.later hb3) (h4.later hb3) (h1.later hb3) (h2.later hb3) HW2.out Lx.out).mono ?_; rintro e w4 ⟨rfl, hb4⟩; rw [TF.out]; have K7 := bF hb4 hW3; have LA := bF hb4 wV)) | (with_reducible show wpList _ _ _ ({ dst := none, op := Op.store 203 _ _, type := _, pos := _, after := _, guard := none } :: _) _ _; go_must (refine ae rfl _ _ _ rfl rfl (w.heap.size) 0 rfl cZ rfl _ bX rfl rfl _ _ LA rfl cZ rfl ?_; intro w5 LB wW)))
  have hlt2 : w.heap.size < w3.heap.size := Nat.lt_of_lt_of_le hlt1 (Nat.le_trans iN.size hb3.size)
  have BU : Below w.heap.size w w5 := (hbel.trans (hb4.mono (Nat.le_of_lt hlt2))).trans (wW.below (Nat.le_refl _))
  exact bodyPost_ret (v := .tuple #[.agg (List.toArray cZ), .int .i64 2]) (mh Tryz.results113 _ _ w.heap.size 203 _ (0, 0) _ rfl LB Tryz.underlying203 rfl bX) rfl ⟨rfl, BU⟩
end
end Go.Proofs.YtignemioillaiaaGreat
