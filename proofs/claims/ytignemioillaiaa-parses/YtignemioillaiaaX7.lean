/- The book: the lists of a message. -/
import Derived.Test.YtignemioillaiaaD4
import Derived.Test.YtignemioillaiaaX6
import Derived.Test.YtignemioillaiaaO2
namespace Go.Proofs.Ytignemioillaiaa
open Go.RowKit

theorem info_votsX : (Try.prog.info? 36).map (fun i => (i.zero, i.size, i.bytes)) = some (some (.slice none 0 0), 1, 24) := by kernel_rfl
theorem sz_votssX : (Try.prog.info? 51).map (·.size) = some 1 := by kernel_rfl
theorem Mst.keepX {w wr w' : World} {A : Nat → Prop} {K n B : Nat} {vR vP vV m0 m1 m3 : Value} {R P V : List (Sl × Int)} {x : Rng} {L : List Rng} {ZR ZP : Nat → Prop} {cur : Array Value} (h : Mst w wr A K n vR vP vV m0 m1 m3 R P V (x :: L) ZR ZP) (hF : Fr (Arng K x.rs.val x.ds.val vR vP m0 m1) wr w') (hX : wr.heap[B]? = some (.cells cur 38)) : w'.heap[B]? = some (.cells cur 38) :=
  blk_fr hX hF (arng_blk h.bk (h.pend.all x (List.mem_cons_self ..)).1.rows (h.pend.all x (List.mem_cons_self ..)).1.dups hX (by decide) (by decide) (by decide) (by decide) (by decide) (by decide))
theorem Mst.keepV {w wr w' : World} {A : Nat → Prop} {K n k : Nat} {vR vP vV m0 m1 m3 v : Value} {R P V : List (Sl × Int)} {x : Rng} {L : List Rng} {ZR ZP : Nat → Prop} {xs : List Value} (h : Mst w wr A K n vR vP vV m0 m1 m3 R P V (x :: L) ZR ZP) (hF : Fr (Arng K x.rs.val x.ds.val vR vP m0 m1) wr w') (hV : wr.ownsRow 0 84 20 v k xs) : w'.ownsRow 0 84 20 v k xs :=
  own_fr hV hF (not_arng h.bk (h.pend.all x (List.mem_cons_self ..)).1.rows (h.pend.all x (List.mem_cons_self ..)).1.dups hV (by decide) (by decide) (by decide) (by decide) (own_apartX hV (h.pend.all x (List.mem_cons_self ..)).1.rows (by decide)) (own_apartX hV (h.pend.all x (List.mem_cons_self ..)).1.dups (by decide)))

set_option maxHeartbeats 16000000 in
set_option maxRecDepth 100000 in
theorem book_message (Kb n0 : Nat) (uR uP vV u0 u1 m3 : Value) (QR QP R : List (Sl × Int)) (zY : Int) (zH zI zJ zK zL zM zN : Int) (zO zP zQ zR : Int) (zS : Bool) (zT zU : Int) (mn zZ jA : Int) (zV : Int) (zA zB zC zD zE zF zG : Int) (yA yB yC yD yE : Int) (yF : Option Addr) (yG yH : Nat) (yI : Option Addr) (yJ yK : Nat) (zW zX : Int) (sa : Option Addr) (sn sc : Nat) (yN yO yP yQ yR : Int) (yS : Option Addr) (yT yU : Nat) (yV : Option Addr) (yW yX : Nat) (jB jC : Int) (yL yY : List Row) (yM yZ : List Rep) (votes : List Vot) (w0 : World) (LL : List Rng) (hLL : LL = ((Rng.mk yN yO yP yQ yR ⟨yS, yT, yU⟩ ⟨yV, yW, yX⟩ yY yZ) :: (Rng.mk yA yB yC yD yE ⟨yF, yG, yH⟩ ⟨yI, yJ, yK⟩ yL yM) :: votes.map fun v => v.cmd.rng))
    (hB : Bk w0 Kb n0 uR uP vV u0 u1 m3 QR QP R) (hP : Pend w0 QR QP LL) (hV : w0.ownsRow 0 84 20 (.slice sa sn sc) sn (votes.map Vot.cells).flatten) (hvn : votes.length = sn) (hoff : OffB (Value.ownBlock (.slice sa sn sc)) R) (hn0 : n0 ≤ 5000) (hsn : sn ≤ 255) (hq1 : QR.length ≤ 5000) (hq2 : QP.length ≤ 5000) (hRl : R.length ≤ 5000) :
    Calls Try.prog 16 #[.pointer (some ⟨Kb, 0, none⟩), .agg (List.toArray (rM zY zH zI zJ zK zL zM zN zO zP zQ zR zS zT zU mn zZ jA zV zA zB zC zD zE zF zG yA yB yC yD yE yF yG yH yI yJ yK zW zX sa sn sc yN yO yP yQ yR yS yT yU yV yW yX jB jC))] w0 fun e w' => e = .returned (.tuple #[]) ∧ ∃ (vR' vP' vV' m0' m1' m3' : Value) (R' P' V' : List (Sl × Int)) (N : Nat), Bk w' Kb (N + 1) vR' vP' vV' m0' m1' m3' R' P' V' ∧ N = n0 + 4 + 2 * sn ∧ R'.length = QR.length + 8 + 4 * sn ∧ P'.length = QP.length + 8 + 4 * sn ∧ V'.length = R.length + 4 ∧ Fr (Amsg Kb uR uP vV u0 u1 m3 (.slice sa sn sc) LL) w0 w' ∧
      (∀ c, c < w0.heap.size → ¬ (Amsg Kb uR uP vV u0 u1 m3 (.slice sa sn sc) LL) c → OffB (some c) QR → OffB (some c) R') ∧ (∀ c, c < w0.heap.size → ¬ (Amsg Kb uR uP vV u0 u1 m3 (.slice sa sn sc) LL) c → OffB (some c) QP → OffB (some c) P') ∧ (∀ c, c < w0.heap.size → ¬ (Amsg Kb uR uP vV u0 u1 m3 (.slice sa sn sc) LL) c → OffB (some c) R → OffB (some c) V') ∧ (∀ k, vR'.ownBlock = some k ∨ vP'.ownBlock = some k ∨ vV'.ownBlock = some k ∨ m0'.ownBlock = some k ∨ m1'.ownBlock = some k ∨ m3'.ownBlock = some k → (Amsg Kb uR uP vV u0 u1 m3 (.slice sa sn sc) LL) k ∨ w0.heap.size ≤ k) := by
  have hM : Mst w0 w0 (Amsg Kb uR uP vV u0 u1 m3 (.slice sa sn sc) LL) Kb n0 uR uP vV u0 u1 m3 QR QP R LL (fun c => OffB (some c) QR) (fun c => OffB (some c) QP) := ⟨hB, hP, Fr.refl _ _, .inl rfl, fun x hx k hk => .inl (.inr (.inr (.inr (.inr (.inr (.inr (.inr (.inr ⟨x, hx, hk⟩)))))))), (by
    rintro k (h | h | h | h)
    · exact .inl (.inr (.inl h.symm))
    · exact .inl (.inr (.inr (.inl h.symm)))
    · exact .inl (.inr (.inr (.inr (.inr (.inl h.symm)))))
    · exact .inl (.inr (.inr (.inr (.inr (.inr (.inl h.symm)))))))
    , fun c _ _ h => h, fun c _ _ h => h⟩
  have hb0 := later_alloc w0 (.cells (List.toArray (rM zY zH zI zJ zK zL zM zN zO zP zQ zR zS zT zU mn zZ jA zV zA zB zC zD zE zF zG yA yB yC yD yE yF yG yH yI yJ yK zW zX sa sn sc yN yO yP yQ yR yS yT yU yV yW yX jB jC)) 38)
  have HM := hideU (hM.later hb0)
  have hX := heap_alloc_new w0 (.cells (List.toArray (rM zY zH zI zJ zK zL zM zN zO zP zQ zR zS zT zU mn zZ jA zV zA zB zC zD zE zF zG yA yB yC yD yE yF yG yH yI yJ yK zW zX sa sn sc yN yO yP yQ yR yS yT yU yV yW yX jB jC)) 38)
  have HV := hideU (own_below hV hb0)
  have HVN := hideU hvn
  obtain ⟨A, hA⟩ : ∃ A, A = (Amsg Kb uR uP vV u0 u1 m3 (.slice sa sn sc) LL) := ⟨_, rfl⟩
  rw [← hA] at HM
  have HA := hideU hA
  have HL := hideU hLL
  clear hM hB hP hV hb0 hvn hA
  rw [hLL] at HM
  clear hLL
  go_enter Try.func16, Try.ntmps16
  go_upto_region 2 with (first | (with_reducible show AtL 11 33 ..; go_must (refine wpList_load_blk rfl _ _ rfl w0.heap.size 36 rfl 7 _ Try.underlying33 rfl sz_rng _ _ hX rfl (rR yN yO yP yQ yR yS yT yU yV yW yX) rfl ?_)) | (go_at_call 52; go_must (refine (mst_ranged HM.out (by omega) (by omega) (by omega)).mono ?_; rintro e w1 ⟨rfl, vR1, vP1, m01, m11, R1, P1, hM1, hl1, hl2, hF1⟩)))
  replace hX := HM.out.keepX hF1 hX
  replace HV := hideU (HM.out.keepV hF1 HV.out)
  replace HM := hideU hM1
  clear hM1 hF1
  go_upto_region 3 with (first | (with_reducible show AtL 16 33 ..; go_must (refine wpList_load_blk rfl _ _ rfl w0.heap.size 26 rfl 7 _ Try.underlying33 rfl sz_rng _ _ hX rfl (rR yA yB yC yD yE yF yG yH yI yJ yK) rfl ?_)) | (go_at_call 52; go_must (refine (mst_ranged HM.out (by omega) (by omega) (by omega)).mono ?_; rintro e w1 ⟨rfl, vR2, vP2, m02, m12, R2, P2, hM1, hl3, hl4, hF1⟩)))
  replace hX := HM.out.keepX hF1 hX
  replace HV := hideU (HM.out.keepV hF1 HV.out)
  replace HM := hideU hM1
  have HLr := hideU (show R2.length = QR.length + 8 by omega)
  have HLp := hideU (show P2.length = QP.length + 8 by omega)
  have hcX := blk_cell hX
  clear hM1 hF1 hl1 hl2 hl3 hl4
  go_wp2_with fail
  go_loopw [4] (fun i wr => ∃ (k : Nat) (vR vP m0 m1 : Value) (QR' QP' : List (Sl × Int)), k ≤ sn ∧ i = .int .i64 k ∧ Hid (Mst w0 wr A Kb (n0 + 4 + 2 * k) vR vP vV m0 m1 m3 QR' QP' R ((votes.drop k).map fun v => v.cmd.rng) (fun c => OffB (some c) QR) (fun c => OffB (some c) QP)) ∧ Hid (QR'.length = QR.length + 8 + 4 * k) ∧ Hid (QP'.length = QP.length + 8 + 4 * k) ∧ wr.heap[w0.heap.size]? = some (.cells (List.toArray (rM zY zH zI zJ zK zL zM zN zO zP zQ zR zS zT zU mn zZ jA zV zA zB zC zD zE zF zG yA yB yC yD yE yF yG yH yI yJ yK zW zX sa sn sc yN yO yP yQ yR yS yT yU yV yW yX jB jC)) 38) ∧ Hid (wr.ownsRow 0 84 20 (.slice sa sn sc) sn (votes.map Vot.cells).flatten)) (fun i _ => sn - (intOf i).toNat)
  case atStart => exact ⟨0, _, _, _, _, _, _, Nat.zero_le _, rfl, HM, HLr, HLp, hX, HV⟩
  case round =>
    clear HM HLr HLp hX HV hcX
    obtain ⟨k, vR, vP, m0, m1, QR', QP', hk, rfl, HM, HLr, HLp, hX, HV⟩ := hrel
    have hcX := blk_cell hX
    by_cases hlt : k < sn
    · have hdk : decide ((k : Int) < (sn : Int)) = true := by simp; omega
      have hi1 : (0 : Int) ≤ (k : Int) := by omega
      have hi2 : (k : Int) < (sn : Int) := by omega
      obtain ⟨x, hx⟩ : ∃ x, votes[k]? = some x := ⟨votes[k]'(by have := HVN.out; omega), by simp⟩
      have hdr : votes.drop k = x :: votes.drop (k + 1) := by
        obtain ⟨h2, h3⟩ := List.getElem?_eq_some_iff.1 hx
        rw [List.drop_eq_getElem_cons h2, h3]
      have hSl := own_slin' (s := ⟨sa, sn, sc⟩) (xs := votes.map Vot.cells) (by rw [List.length_map, HVN.out]; exact HV.out) (vots_all _)
      obtain ⟨b, off, ha, hbB, hc⟩ := hSl.el (i := k) (x := x.cells) (by simp [hx])
      obtain rfl : sa = some ⟨b, off, none⟩ := ha
      rw [hdr, List.map_cons] at HM
      clear hdr hx hSl
      obtain ⟨xslot, xn, xid, ⟨xckind, ⟨xcqc, xcqs, xcqk, xcqkey, xcqv, xcqhi, xcqto⟩, ⟨jH, jI, jJ, jK, jL, ⟨jM, jN, jO⟩, ⟨jP, jQ, jR⟩, jS, jT⟩, xcpeer, xcsq⟩⟩ := x
      simp only [Vot.cells, Cmd.cells, Req.cells, Rng.cells, Sl.val, List.cons_append, List.nil_append] at hc
      have hcr : ∀ (j : Nat) (u : Value), ((rR jH jI jJ jK jL jM jN jO jP jQ jR) : List Value)[j]? = some u → wr.cell? ⟨b, off + k * 20 + 11 + j, none⟩ = some u := fun j u hj => by
        rw [Nat.add_assoc (off + k * 20)]
        refine hc (11 + j) u ?_
        rcases j with _ | _ | _ | _ | _ | _ | _ | j
        all_goals first | exact hj | (simp at hj)
      clear hc
      have hq3 := HLr.out
      have hq4 := HLp.out
      go_wp2_with (first | (with_reducible show AtL 32 33 ..; go_must (refine wpList_load_mem rfl _ _ rfl b (off + k * 20 + 11) rfl 7 _ Try.underlying33 rfl sz_rng (rR jH jI jJ jK jL jM jN jO jP jQ jR) rfl hcr ?_)) | (go_at_call 52; go_must (refine (mst_ranged HM.out (by omega) (by omega) (by omega)).mono ?_; rintro e w1 ⟨rfl, vR1, vP1, m01, m11, R1, P1, hM1, hl1, hl2, hF1⟩)))
      have hX := HM.out.keepX hF1 hX
      have HV := hideU (HM.out.keepV hF1 HV.out)
      go_roundw
      case rel => exact ⟨k + 1, _, _, _, _, _, _, by omega, by go_num, (by rw [show n0 + 4 + 2 * (k + 1) = n0 + 4 + 2 * k + 2 by omega]; exact hM1), (by show _ = _; omega), (by show _ = _; omega), hX, HV⟩
      case measure => simp [intOf]; omega
    · have hdk : decide ((k : Int) < (sn : Int)) = false := by simp; omega
      have hkn : sn = k := by omega
      subst hkn
      obtain ⟨w, rfl⟩ : ∃ x, x = wr := ⟨_, rfl⟩
      obtain ⟨n, hnn⟩ : ∃ n, n = n0 + 4 + 2 * sn := ⟨_, rfl⟩
      rw [← hnn] at HM
      have HNn := hideU hnn
      have hn : n ≤ 10000 := by omega
      have HMs := HM
      have HVs := HV
      have hK := HMs.out.bk.blk
      have hC := HMs.out.bk.cV
      have hs := HVs.out
      have hneX : w0.heap.size ≠ Kb := by
        intro e
        have h1 := hK
        rw [← e, hX] at h1
        cases h1
      clear HM HV hnn hlt hk hdk
      obtain ⟨i0, hi0, hz0, hz1, hz2⟩ := info_parts info_vot
      obtain ⟨ir, hir, hrz0, hrz1, hrz2⟩ := info_parts info_votsX
      obtain ⟨ii, hii, hiz0, hiz1, hiz2⟩ := info_parts info_intX
      have hkin : Kinds 84 36 := ⟨by decide, by decide, by decide, by decide, by decide⟩
      have hKlt : Kb < w.heap.size := (Array.getElem?_eq_some_iff.1 hK).1
      have hw1 : IntKind.i64.wrap (77 + (n : Int)) = 77 + (n : Int) := by rw [IntKind.wrap_i64]; omega
      have hw2 : IntKind.u32.wrap (77 + (n : Int)) = 77 + (n : Int) := by have e : IntKind.u32.wrap (77 + (n : Int)) = (77 + (n : Int)) % 4294967296 := rfl; rw [e]; omega
      have hw3 : IntKind.i64.wrap ((n : Int) + 1) = (n : Int) + 1 := by rw [IntKind.wrap_i64]; omega
      have hcK := blk_cell hK
      go_upto_region 10 with (first | (with_reducible show AtS 84 5 ..; go_must (refine wpList_store_blk rfl _ _ _ rfl rfl w.heap.size 0 rfl (rV (77 + (n : Int)) 0 0 0 0 0 0 0 0 0 0 0 0 0 0 0 none 0 0 none 0 0 0 0) rfl _ sz_vot rfl rfl _ _ (heap_alloc_new w (.cells (List.toArray oxV) 84)) rfl (rV (77 + (n : Int)) 0 0 0 0 0 0 0 0 0 0 0 0 0 0 0 none 0 0 none 0 0 0 0) rfl ?_; intro w1 hM1 hO1; have hb1 := (later_alloc w (.cells (List.toArray oxV) 84)).trans (hO1.below (Nat.le_refl _)); have hK1 := blk_later hb1 hK; have hcK1 := blk_cell hK1)) | (with_reducible show AtS 3 47 ..; go_must (refine wpList_store_cell rfl _ _ _ rfl rfl Kb 0 rfl (.int .i64 ((n : Int) + 1)) rfl sz_intX rfl _ _ hK1 rfl [.int .i64 ((n : Int) + 1), vR, vP, .slice none 0 0, vV, .slice none 0 0, .slice none 0 0, .slice none 0 0, m0, m1, .slice none 0 0, m3, .slice none 0 0, .slice none 0 0, .slice none 0 0] rfl ?_; intro w2 hK2 hO2; have hcX2 := blk_cell ((hO2.block w0.heap.size hneX).trans (blk_later hb1 hX)))))
      have hM2 := (hO2.block w.heap.size (by omega)).trans hM1
      have hC1 := hC.below hb1
      have gO2 := grown_only hO2
      have hC2 := hC1.kept gO2 (.inr (own_notin hC1.own hK1 hkin.sb)) (.inr (own_notin hC1.marks hK1 (by decide))) (hC1.off hK1 hkin.eb)
      have hs1 := own_below hs hb1
      have hs2 := World.ownsRow.kept hs1 gO2 (.inr (own_notin hs1 hK1 hkin.eb))
      have hF2 : Fr (Abook Kb (.slice sa sn sc) vV m3) w w2 := ((Fr.refl _ w).later hb1).grown gO2 (fun k e => .inl (.inl (by injection e with e; exact e.symm)))
      have hsz2 : w.heap.size < w2.heap.size := by rw [hO2.size]; exact (Array.getElem?_eq_some_iff.1 hM1).1
      have hsM : Value.ownBlock (.slice sa sn sc) ≠ some w.heap.size := fun e => by have := (World.ownsRow.lt hs _ e).2; omega
      have HC2 := hideU hC2
      have HF2 := hideU hF2
      have HS2 := hideU hs2
      have hneK : Value.ownBlock (.slice sa sn sc) ≠ some Kb := own_notin hs2 hK2 hkin.eb
      clear hcX2 hC2 hF2 hC1 hs1 hcK hcK1 hK1 hM1 hO1 hO2 hb1 hs hC gO2
      go_wp2_with fail
      go_loopw [7] (fun i wr => ∃ k : Nat, k ≤ sn ∧ i = .int .i64 k ∧ Hid (∃ ys, wr.ownsRow 0 84 20 (.slice sa sn sc) sn ys ∧ ys.take (k * 20) = (List.replicate k (votMk n)).flatten) ∧ Hid (w2.grownBy wr (Value.ownBlock (.slice sa sn sc)))) (fun i _ => sn - (intOf i).toNat)
      case atStart => exact ⟨0, Nat.zero_le _, rfl, ⟨_, hs2, by simp⟩, ⟨rfl, rfl, rfl, Nat.le_refl _, fun _ _ _ => rfl⟩⟩
      case round =>
        clear hs2
        obtain ⟨k, hk, rfl, HO, HG⟩ := hrel
        have hMr := (HG.out.block w.heap.size hsz2 (Ne.symm hsM)).trans hM2
        by_cases hlt : k < sn
        · obtain ⟨ys, hown, hys⟩ := HO.out
          rcases hown.2 with ⟨_, hz⟩ | ⟨gb, cap, cur2, hv, hbg, hgg, hnc, hcm, hcs, htk⟩
          · omega
          · simp only [Value.slice.injEq] at hv
            obtain ⟨rfl, _, rfl⟩ := hv
            have hW : wr.heap[gb]? = some (.cells cur2.toList.toArray 84) := by rw [hgg]
            have hdk : decide ((k : Int) < (sn : Int)) = true := by simp; omega
            have hi1 : (0 : Int) ≤ (k : Int) := by omega
            have hi2 : (k : Int) < (sn : Int) := by omega
            have hcl2 : cur2.toList.length = sc * 20 := by simpa using hcs
            have hfit : Nat.ble (k * 20 + 20) cur2.toList.length = true := by rw [hcl2]; simp [Nat.ble_eq]; omega
            obtain ⟨zs, hzs⟩ : ∃ zs, zs = cur2.toList.take (k * 20) ++ (rV (77 + (n : Int)) 0 0 0 0 0 0 0 0 0 0 0 0 0 0 0 none 0 0 none 0 0 0 0) ++ cur2.toList.drop (k * 20 + 20) := ⟨_, rfl⟩
            have hzl : zs.length = cur2.size := by rw [hzs, hcs]; simp; omega
            have HYS : Hid (zs.take ((k + 1) * 20) = (List.replicate (k + 1) (votMk n)).flatten) := by
              show _ = _
              rw [hzs]
              refine fill_step (cs := votMk n) rfl ?_ (by rw [hcl2]; exact Nat.mul_le_mul_right _ (Nat.le_trans hlt hnc))
              rw [← hys, ← htk, List.take_take, Nat.min_eq_left (Nat.mul_le_mul_right _ hk)]
            clear hown hgg HO hys htk
            go_wp2_with (first | (with_reducible show AtL 58 84 ..; go_must (refine wpList_load_blk rfl _ _ rfl w.heap.size 0 rfl 20 _ Try.underlying84 rfl sz_vot _ _ hMr rfl (rV (77 + (n : Int)) 0 0 0 0 0 0 0 0 0 0 0 0 0 0 0 none 0 0 none 0 0 0 0) rfl ?_)) | (with_reducible show AtS 84 59 ..; go_must (refine wpList_store_blk rfl _ _ _ rfl rfl gb (k * 20) rfl (rV (77 + (n : Int)) 0 0 0 0 0 0 0 0 0 0 0 0 0 0 0 none 0 0 none 0 0 0 0) rfl _ sz_vot rfl rfl _ _ hW hfit zs hzs.symm ?_; intro w9 hW9 hO9)))
            go_roundw
            case rel =>
              refine ⟨k + 1, by omega, by go_num, ⟨_, own_storedX hbg hnc hcm hcs hzl hW9, ?_⟩, ?_⟩
              · rw [List.take_take, Nat.min_eq_left (Nat.mul_le_mul_right _ hlt)]
                exact HYS.out
              · exact ⟨hO9.os.trans HG.out.os, hO9.tape.trans HG.out.tape, hO9.output.trans HG.out.output, by rw [hO9.size]; exact HG.out.size, fun b hb hne => (hO9.block b (fun e => hne (by rw [e]; rfl))).trans (HG.out.block b hb hne)⟩
            case measure => simp [intOf]; omega
        · have hdk : decide ((k : Int) < (sn : Int)) = false := by simp; omega
          have hkn : sn = k := by omega
          subst hkn
          have hm : Marked wr 84 20 ⟨sa, sn, sc⟩ (votMk n) := by
            obtain ⟨ys, hown, hys⟩ := HO.out
            have : ys = (List.replicate sn (votMk n)).flatten := by rw [← hys, List.take_of_length_le (by rw [hown.1]; exact Nat.le_refl _)]
            rw [this] at hown
            exact hown
          have RS : Hid (RowSt 84 36 20 votMk (fun S M => #[.int .i64 ((n : Int) + 1), vR, vP, .slice none 0 0, S, .slice none 0 0, .slice none 0 0, .slice none 0 0, m0, m1, .slice none 0 0, M, .slice none 0 0, .slice none 0 0, .slice none 0 0]) w wr (Abook Kb (.slice sa sn sc) vV m3) Kb w.heap.size n vV m3 ⟨sa, sn, sc⟩ R R (fun c => OffB (some c) R)) := by
            have o1 := own_apartX HC2.out.own HS2.out (Ne.symm hkin.es)
            have o2 := own_apartX HC2.out.marks HS2.out (Ne.symm hkin.ei)
            have hC3 := HC2.out.kept HG.out o1 o2 hoff
            refine ⟨(HG.out.block Kb (by omega) (Ne.symm hneK)).trans hK2, hMr, hC3.own, hC3.marks, hC3.all, fun i s m hi => ?_, hm, HF2.out.grown HG.out (fun k e => .inl (.inr (.inl e.symm))), .inl rfl, by omega, fun k e => .inl (.inr (.inr (.inl e.symm))), fun k e => .inl (.inr (.inr (.inr e.symm))), fun k e => .inl (.inr (.inl e.symm)), fun c _ _ h => h, hsM, hC3.bnd, by omega⟩
            cases hb : s.val.ownBlock with
            | none => exact .inl rfl
            | some c => exact .inr (.inl fun e => hoff i s m hi c hb e.symm)
          clear hm HO HG hMr hM2 hK2 hneK hsM
          go_wp2_with fail
          go_loopw [6, 8] (fun v i wx => ∃ (j : Nat) (S M : Value) (ta : Option Addr) (tl tc : Nat) (E : List (Sl × Int)), v = .slice ta tl tc ∧ i = .int .i64 j ∧ j ≤ 4 ∧ Hid (tl = sn + j) ∧ Hid (E.length = R.length + j) ∧ Hid (RowSt 84 36 20 votMk (fun S M => #[.int .i64 ((n : Int) + 1), vR, vP, .slice none 0 0, S, .slice none 0 0, .slice none 0 0, .slice none 0 0, m0, m1, .slice none 0 0, M, .slice none 0 0, .slice none 0 0, .slice none 0 0]) w wx (Abook Kb (.slice sa sn sc) vV m3) Kb w.heap.size n S M ⟨ta, tl, tc⟩ E E (fun c => OffB (some c) R))) (fun _ i _ => 4 - (intOf i).toNat)
          case atStart => exact ⟨0, _, _, sa, sn, sc, R, rfl, rfl, by omega, rfl, rfl, RS⟩
          case round =>
            clear RS hdk
            obtain ⟨j, S, M, ta, tl, tc, E, rfl, rfl, hj, HTL, HEL0, RS⟩ := hrel
            have HEL : Hid (E.length ≤ 10004) := by have := HEL0.out; show _ ≤ _; omega
            have hcK9 := blk_cell RS.out.blk
            by_cases hj4 : j < 4
            · have hdj : decide ((j : Int) < 4) = true := by simp; omega
              go_upto_region 18 with (first | (with_reducible show wpList _ _ _ ({ dst := some 71, op := Op.call _, type := _, pos := _, after := _, guard := none } :: _) _ _; go_must (refine wpList_append_new _ rfl _ _ 51 rfl 0 36 ir (.slice none 0 0) 1 24 Try.underlying51 hir hrz0 hrz1 hrz2 rfl (by decide) S E.length (E.map fun (x : Sl × Int) => x.1.val) rfl (World.ownsRow.alloc RS.out.own _) _ 1 1 [.slice ta tl tc] rfl rfl ?_ ?_ ?_ ?_ (Nat.zero_le _) ?_; (· exact new_cells rfl); (· exact one_cellsU rfl); (· (have := HEL.out; unfold maxLen; omega)); (· (have := HEL.out; omega)); intro S' w5 ho5 hg5; have hK5 := hg5.blk (blk_later (later_alloc _ _) RS.out.blk) (Ne.symm (own_notin RS.out.own RS.out.blk hkin.sb)))) | (with_reducible show AtS 51 73 ..; go_must (refine wpList_store_cell rfl _ _ _ rfl rfl Kb 4 rfl S' rfl sz_votssX (own_oneV ho5) _ _ hK5 rfl [.int .i64 ((n : Int) + 1), vR, vP, .slice none 0 0, S', .slice none 0 0, .slice none 0 0, .slice none 0 0, m0, m1, .slice none 0 0, M, .slice none 0 0, .slice none 0 0, .slice none 0 0] rfl ?_; intro w6 hW6 hO6)))
              have RS1 := hideU (RowSt.join hkin RS.out ho5 hg5 hW6 hO6)
              clear RS ho5 hg5 hW6 hO6 hK5 hcK9
              have hcK9 := blk_cell RS1.out.blk
              have hfK9 := blkF (Below.refl _ w6) RS1.out.blk
              have hltK := (Array.getElem?_eq_some_iff.1 RS1.out.blk).1
              have hc0 : w6.cell? ⟨Kb, 0, none⟩ = some (.int .i64 ((n : Int) + 1)) := hcK9 0
              have hcA := fun (o : Obj) => blk_cell (blk_later (later_alloc w6 o) RS1.out.blk)
              have hw4 : (n : Int) + 1 - 1 = (n : Int) := by omega
              have hw5 : IntKind.i64.wrap (n : Int) = (n : Int) := by rw [IntKind.wrap_i64]; omega
              have hoA := World.ownsRow.alloc RS1.out.marks (.cells #[.int .i64 n] 3)
              go_cut [5] from 60 to 93 (fun s wx => s = .pointer (some ⟨w.heap.size, 0, none⟩) ∧ ∃ M' : Value, Hid (RowSt 84 36 20 votMk (fun S M => #[.int .i64 ((n : Int) + 1), vR, vP, .slice none 0 0, S, .slice none 0 0, .slice none 0 0, .slice none 0 0, m0, m1, .slice none 0 0, M, .slice none 0 0, .slice none 0 0, .slice none 0 0]) w wx (Abook Kb (.slice sa sn sc) vV m3) Kb w.heap.size n S' M' ⟨ta, tl, tc⟩ (E ++ [(⟨ta, tl, tc⟩, (n : Int))]) (E ++ [(⟨ta, tl, tc⟩, (n : Int))]) (fun c => OffB (some c) R)))
              case first =>
                refine wp_region_noPanic ?_
                refine wp_region_held_drew (S := (fun w' => w'.cell? ⟨Kb, 0, none⟩ = some (.int .i64 ((n : Int) + 1)))) (by kernel_rfl) (hc0) (fun hHeld => ?_)
                refine wpAnyH_take (i := 0) (oi := _) (v := ?_) rfl (by kernel_rfl) (by kernel_rfl) (by kernel_rfl) (fun _ _ _ h => h) (Or.inl ⟨by rfl, ?_⟩) (by assumption) ?_
                rotate_left 1
                · intro w hSw
                  (try dsimp only at hSw)
                  go_simp
                  try with_reducible rfl
                try simp only [Act.put, List.setIfInBounds_toArray]
                refine wpAnyH_take (i := 1) (oi := _) (v := ?_) rfl (by kernel_rfl) (by kernel_rfl) (by kernel_rfl) (fun _ _ _ h => h) (Or.inl ⟨by rfl, ?_⟩) (by assumption) ?_
                rotate_left 1
                · intro w hSw
                  (try dsimp only at hSw)
                  go_simp
                  try with_reducible rfl
                try simp only [Act.put]
                refine wpAnyH_take (i := 2) (oi := _) (v := ?_) rfl (by kernel_rfl) (by kernel_rfl) (by kernel_rfl) (fun _ _ _ h => h) (Or.inl ⟨by rfl, ?_⟩) (by assumption) ?_
                rotate_left 1
                · intro w hSw
                  (try dsimp only at hSw)
                  go_simp
                  try with_reducible rfl
                try simp only [Act.put]
                refine wpAnyH_take (i := 3) (oi := _) (v := ?_) rfl (by kernel_rfl) (by kernel_rfl) (by kernel_rfl) (fun _ _ _ h => h) (Or.inl ⟨by rfl, ?_⟩) (by assumption) ?_
                rotate_left 1
                · intro w hSw
                  (try dsimp only at hSw)
                  go_simp
                  try with_reducible rfl
                try simp only [Act.put]
                refine wpAnyH_take (i := 4) (oi := _) (v := ?_) rfl (by kernel_rfl) (by kernel_rfl) (by kernel_rfl) (fun _ _ _ h => h) (Or.inl ⟨by rfl, ?_⟩) (by assumption) ?_
                rotate_left 1
                · intro w hSw
                  (try dsimp only at hSw)
                  go_simp
                  try with_reducible rfl
                try simp only [Act.put]
                refine wpAnyH_take (i := 6) (oi := _) (v := ?_) rfl (by kernel_rfl) (by kernel_rfl) (by kernel_rfl) (fun _ _ _ h => h) (Or.inl ⟨by rfl, ?_⟩) (by assumption) ?_
                rotate_left 1
                · intro w hSw
                  (try dsimp only at hSw)
                  go_simp
                  try with_reducible rfl
                try simp only [Act.put]
                refine wpAnyH_take (i := 7) (oi := _) (v := ?_) rfl (by kernel_rfl) (by kernel_rfl) (by kernel_rfl) (fun _ _ _ h => h) (Or.inl ⟨by rfl, ?_⟩) (by assumption) ?_
                rotate_left 1
                · intro w hSw
                  (try dsimp only at hSw)
                  go_simp
                  try with_reducible rfl
                try simp only [Act.put]
                refine wpAnyH_take (i := 8) (oi := _) (v := ?_) rfl (by kernel_rfl) (by kernel_rfl) (by kernel_rfl) (fun _ _ _ h => h) (Or.inl ⟨by rfl, ?_⟩) (by assumption) ?_
                rotate_left 1
                · intro w hSw
                  (try dsimp only at hSw)
                  go_simp
                  try with_reducible rfl
                try simp only [Act.put]
                refine wpAnyH_take (i := 9) (oi := _) (v := ?_) rfl (by kernel_rfl) (by kernel_rfl) (by kernel_rfl) (fun _ _ _ h => h) (Or.inl ⟨by rfl, ?_⟩) (by assumption) ?_
                rotate_left 1
                · intro w hSw
                  (try dsimp only at hSw)
                  go_simp
                  try with_reducible rfl
                try simp only [Act.put]
                refine wpAnyH_take (i := 10) (oi := _) (v := ?_) rfl (by kernel_rfl) (by kernel_rfl) (by kernel_rfl) (fun _ _ _ h => h) (Or.inl ⟨by rfl, ?_⟩) (by assumption) ?_
                rotate_left 1
                · intro w hSw
                  (try dsimp only at hSw)
                  go_simp
                  try with_reducible rfl
                try simp only [Act.put]
                refine wpAnyH_take (i := 13) (oi := _) (v := ?_) rfl (by kernel_rfl) (by kernel_rfl) (by kernel_rfl) (fun _ _ _ h => h) (Or.inl ⟨by rfl, ?_⟩) (by assumption) ?_
                rotate_left 1
                · intro w hSw
                  (try dsimp only at hSw)
                  go_simp
                  try with_reducible rfl
                try simp only [Act.put]
                refine wpAnyH_take (i := 14) (oi := _) (v := ?_) rfl (by kernel_rfl) (by kernel_rfl) (by kernel_rfl) (fun _ _ _ h => h) (Or.inl ⟨by rfl, ?_⟩) (by assumption) ?_
                rotate_left 1
                · intro w hSw
                  (try dsimp only at hSw)
                  go_simp
                  try with_reducible rfl
                try simp only [Act.put]
                refine wpAnyH_ready (rs := [5, 11]) (by kernel_rfl) (by simp) ?_
                refine AllReadyH.cons (o := _) rfl (fun K hK => ?_) (AllReadyH.cons (o := _) rfl (fun K hK => ?_) AllReadyH.nil)
                · go_simp
                  refine hK.out _ _ (hc0) (fun hHeld => ?_)
                  clear hK K
                  try simp only [Act.put, List.setIfInBounds_toArray, List.set_cons_zero, List.set_cons_succ]
                  refine wpAnyH_ready (rs := [11]) (by kernel_rfl) (by simp) ?_
                  refine AllReadyH.cons (o := _) rfl (fun K hK => ?_) AllReadyH.nil
                  go_simp
                  refine hK.out _ _ (hcA _ 0) (fun hHeld => ?_)
                  clear hK K
                  try simp only [Act.put, List.setIfInBounds_toArray, List.set_cons_zero, List.set_cons_succ]
                  refine wpAnyH_ready (rs := [12]) (by kernel_rfl) (by simp) ?_
                  refine AllReadyH.cons (o := _) rfl (fun K hK => ?_) AllReadyH.nil
                  refine step_append_new rfl _ _ 55 rfl 0 3 ii (.int .i64 0) 1 8 Try.underlying55 hii hiz0 hiz1 hiz2 rfl (by decide) M E.length (E.map fun (x : Sl × Int) => Value.int .i64 x.2) rfl hoA ⟨w6.heap.size, 0, none⟩ 1 1 [.int .i64 n] rfl rfl (new_cells rfl) (one_cellsU rfl) (by have := HEL.out; unfold maxLen; omega) (by have := HEL.out; omega) (Nat.zero_le _) ?_; intro M' w' ho hg; obtain ⟨ma, ml, mc, rfl⟩ := own_shape ho; have hKn := (undrewX hg).blk (blk_later (later_alloc w6 _) RS1.out.blk) (Ne.symm (own_notin RS1.out.marks RS1.out.blk (by decide))); have RS2 := hideU (RowSt.count hkin RS1.out ho (undrewX hg) (by rw [heap_setCell_same w' Kb 11 _ _ _ hKn]; rfl) (setCell_only w' Kb 11 (.slice ma ml mc))); have hcn := blk_cell hKn; have hfn := blkF (Below.refl _ w') hKn; clear ho hg hKn
                  refine hK.out _ _ (hcn 0) (fun hHeld => ?_)
                  clear hK K
                  try simp only [Act.put, List.setIfInBounds_toArray]
                  refine wpAnyH_take (i := 15) (oi := _) (v := ?_) rfl (by kernel_rfl) (by kernel_rfl) (by kernel_rfl) (fun _ _ _ h => h) (Or.inl ⟨by rfl, ?_⟩) (by assumption) ?_
                  rotate_left 1
                  · intro w hSw
                    (try dsimp only at hSw)
                    go_simp
                    try with_reducible rfl
                  try simp only [Act.put]
                  refine wpAnyH_ready (rs := [16]) (by kernel_rfl) (by simp) ?_
                  refine AllReadyH.cons (o := _) rfl (fun K hK => ?_) AllReadyH.nil
                  go_simp
                  refine hK.out _ _ ((blk_cell RS2.out.blk 0)) (fun hHeld => ?_)
                  clear hK K
                  try simp only [Act.put, List.setIfInBounds_toArray, List.set_cons_zero, List.set_cons_succ]
                  refine wpAnyH_done (by kernel_rfl) ?_ _
                  refine NoPanic.normal ?_
                  go_wp2_with fail
                  go_meet
                  exact ⟨rfl, _, RS2⟩
                · go_simp
                  refine hK.out _ _ (hcA _ 0) (fun hHeld => ?_)
                  clear hK K
                  try simp only [Act.put, List.setIfInBounds_toArray, List.set_cons_zero, List.set_cons_succ]
                  refine wpAnyH_ready (rs := [5]) (by kernel_rfl) (by simp) ?_
                  refine AllReadyH.cons (o := _) rfl (fun K hK => ?_) AllReadyH.nil
                  go_simp
                  refine hK.out _ _ (hcA _ 0) (fun hHeld => ?_)
                  clear hK K
                  try simp only [Act.put, List.setIfInBounds_toArray, List.set_cons_zero, List.set_cons_succ]
                  refine wpAnyH_ready (rs := [12]) (by kernel_rfl) (by simp) ?_
                  refine AllReadyH.cons (o := _) rfl (fun K hK => ?_) AllReadyH.nil
                  refine step_append_new rfl _ _ 55 rfl 0 3 ii (.int .i64 0) 1 8 Try.underlying55 hii hiz0 hiz1 hiz2 rfl (by decide) M E.length (E.map fun (x : Sl × Int) => Value.int .i64 x.2) rfl hoA ⟨w6.heap.size, 0, none⟩ 1 1 [.int .i64 n] rfl rfl (new_cells rfl) (one_cellsU rfl) (by have := HEL.out; unfold maxLen; omega) (by have := HEL.out; omega) (Nat.zero_le _) ?_; intro M' w' ho hg; obtain ⟨ma, ml, mc, rfl⟩ := own_shape ho; have hKn := (undrewX hg).blk (blk_later (later_alloc w6 _) RS1.out.blk) (Ne.symm (own_notin RS1.out.marks RS1.out.blk (by decide))); have RS2 := hideU (RowSt.count hkin RS1.out ho (undrewX hg) (by rw [heap_setCell_same w' Kb 11 _ _ _ hKn]; rfl) (setCell_only w' Kb 11 (.slice ma ml mc))); have hcn := blk_cell hKn; have hfn := blkF (Below.refl _ w') hKn; clear ho hg hKn
                  refine hK.out _ _ (hcn 0) (fun hHeld => ?_)
                  clear hK K
                  try simp only [Act.put, List.setIfInBounds_toArray]
                  refine wpAnyH_take (i := 15) (oi := _) (v := ?_) rfl (by kernel_rfl) (by kernel_rfl) (by kernel_rfl) (fun _ _ _ h => h) (Or.inl ⟨by rfl, ?_⟩) (by assumption) ?_
                  rotate_left 1
                  · intro w hSw
                    (try dsimp only at hSw)
                    go_simp
                    try with_reducible rfl
                  try simp only [Act.put]
                  refine wpAnyH_ready (rs := [16]) (by kernel_rfl) (by simp) ?_
                  refine AllReadyH.cons (o := _) rfl (fun K hK => ?_) AllReadyH.nil
                  go_simp
                  refine hK.out _ _ ((blk_cell RS2.out.blk 0)) (fun hHeld => ?_)
                  clear hK K
                  try simp only [Act.put, List.setIfInBounds_toArray, List.set_cons_zero, List.set_cons_succ]
                  refine wpAnyH_done (by kernel_rfl) ?_ _
                  refine NoPanic.normal ?_
                  go_wp2_with fail
                  go_meet
                  exact ⟨rfl, _, RS2⟩

              case rest =>
                obtain ⟨rfl, M', RS2⟩ := hcut
                clear RS1 hcK9 hfK9 hltK hc0 hcA hoA
                have hMk : wc.heap[w.heap.size]? = some (.cells (List.toArray (rV (77 + (n : Int)) 0 0 0 0 0 0 0 0 0 0 0 0 0 0 0 none 0 0 none 0 0 0 0)) 84) := RS2.out.mark
                have htm : wc.ownsRow 0 84 20 (.slice ta tl tc) tl (List.replicate tl (votMk n)).flatten := RS2.out.tm
                have HTB : Hid (tl ≤ 260) := by have := HTL.out; show _ ≤ _; omega
                go_wp2_with (first | (with_reducible show AtL 91 84 ..; go_must (refine wpList_load_blk rfl _ _ rfl w.heap.size 0 rfl 20 _ Try.underlying84 rfl sz_vot _ _ hMk rfl (rV (77 + (n : Int)) 0 0 0 0 0 0 0 0 0 0 0 0 0 0 0 none 0 0 none 0 0 0 0) rfl ?_)) | (with_reducible show wpList _ _ _ ({ dst := some 93, op := Op.call _, type := _, pos := _, after := _, guard := none } :: _) _ _; go_must (refine wpList_append_keep _ rfl _ _ 36 rfl 0 84 i0 (.agg (List.toArray oxV)) 20 152 Try.underlying36 hi0 hz0 hz1 hz2 rfl (by decide) (.slice ta tl tc) tl (List.replicate tl (votMk n)).flatten rfl (World.ownsRow.alloc htm _) _ 1 1 (rV (77 + (n : Int)) 0 0 0 0 0 0 0 0 0 0 0 0 0 0 0 none 0 0 none 0 0 0 0) rfl rfl ?_ ?_ ?_ ?_ (Nat.zero_le _) ?_; (· exact new_cells rfl); (· exact one_cellsU rfl); (· (have := HTB.out; unfold maxLen; omega)); (· (have := HTB.out; omega)); intro v' w7 ho7 hg7 hk7; obtain ⟨ua, ul, uc, rfl⟩ := own_shape ho7)))
                have hul := own_lenX ho7
                go_roundw
                case rel => exact ⟨j + 1, _, _, ua, ul, uc, E ++ [(⟨ta, tl, tc⟩, (n : Int))], rfl, by go_num, by omega, (by have := HTL.out; show _ = _; omega), (by have := HEL0.out; show _ = _; simp; omega), RowSt.longer (t := ⟨ta, tl, tc⟩) (t' := ⟨ua, ul, uc⟩) hkin rfl (by decide) RS2.out hul ho7 hg7 hk7⟩
                case measure => simp [intOf]; omega
            · have hdj : decide ((j : Int) < 4) = false := by simp; omega
              have hj5 : j = 4 := by omega
              subst hj5
              go_wp2_with fail
              go_end0
              have hA2 := HA.out
              subst hA2
              have hBF := HMs.out.bk.vote HVs.out RS.out.blk ⟨RS.out.own, RS.out.marks, RS.out.all, RS.out.bnd⟩ RS.out.fr RS.out.sM
              have hsub : ∀ b, Abook Kb (.slice sa sn sc) vV m3 b → Amsg Kb uR uP vV u0 u1 m3 (.slice sa sn sc) LL b ∨ w0.heap.size ≤ b := by
                rintro b (h | h | h | h)
                · exact .inl (.inl h)
                · exact .inl (.inr (.inr (.inr (.inr (.inr (.inr (.inr (.inl h))))))))
                · exact .inl (.inr (.inr (.inr (.inl h))))
                · exact .inl (.inr (.inr (.inr (.inr (.inr (.inr (.inl h)))))))
              refine ⟨rfl, vR, vP, S, m0, m1, M, QR', QP', E, n, hBF, HNn.out, HLr.out, HLp.out, HEL0.out, HMs.out.fr.trans RS.out.fr hsub, HMs.out.oR, HMs.out.oP, fun c hc hA ho => RS.out.off c (Nat.lt_of_lt_of_le hc HMs.out.fr.size) (fun h => by rcases hsub c h with h5 | h5; exact hA h5; omega) ho, ?_⟩
              rintro k (hk | hk | hk | hk | hk | hk)
              · exact HMs.out.org k (.inl hk)
              · exact HMs.out.org k (.inr (.inl hk))
              · rcases RS.out.sS k hk with h5 | h5
                · exact hsub k h5
                · exact .inr (Nat.le_trans HMs.out.fr.size h5)
              · exact HMs.out.org k (.inr (.inr (.inl hk)))
              · exact HMs.out.org k (.inr (.inr (.inr hk)))
              · rcases RS.out.sM k hk with h5 | h5
                · exact hsub k h5
                · exact .inr (Nat.le_trans HMs.out.fr.size h5)


end Go.Proofs.Ytignemioillaiaa

