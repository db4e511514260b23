/- What is read is within bounds, and fits: no program text here. Package wire: Parse. -/
import Derived.Test.YtignemioillaiaaQ13
import Derived.Test.YtignemioillaiaaD4
namespace Go.Proofs.Ytignemioillaiaa
open Go.RowKit

theorem n1 {l : List Int} (h : Byt l) : U8 (num 1 l).1 := num1_in h
theorem n4 {l : List Int} (h : Byt l) : U32 (num 4 l).1 := num4_in h
theorem n8 {l : List Int} (h : Byt l) : U64 (num 8 l).1 := num8_in h
theorem u8_0 : U8 0 := by unfold U8; decide
theorem u32_0 : U32 0 := by unfold U32; decide
theorem u64_0 : U64 0 := by unfold U64; decide

/-- What is read keeps P, and what is left is bytes. -/
structure Rdw {α : Type} (P : α → Prop) (x : α × List Int) : Prop where
  a : P x.1
  b : Byt x.2

theorem Rdw.ite {α : Type} {P : α → Prop} {p : Prop} [Decidable p] {x y : α × List Int} (h1 : Rdw P x) (h2 : Rdw P y) : Rdw P (if p then x else y) := by
  by_cases h : p
  · rw [if_pos h]; exact h1
  · rw [if_neg h]; exact h2

theorem Rdw.of {α : Type} {P : α → Prop} {x : α} {r : List Int} (h1 : P x) (h2 : Byt r) : Rdw P (x, r) := ⟨h1, h2⟩

theorem req_wf {c s k key v hi t : Int} (h1 : U8 c) (h2 : U32 s) (h3 : U8 k) (h4 : U64 key) (h5 : U64 v) (h6 : U64 hi) (h7 : U8 t) : Req.wf ⟨c, s, k, key, v, hi, t⟩ := ⟨h1, h2, h3, h4, h5, h6, h7⟩
theorem rep_wf {c s key k v g : Int} {f : Bool} (h1 : U8 c) (h2 : U32 s) (h3 : U64 key) (h4 : U8 k) (h5 : U64 v) (h6 : U8 g) : Rep.wf ⟨c, s, key, k, f, v, g⟩ := ⟨h1, h2, h3, h4, h5, h6⟩
theorem row_wf {k v : Int} (h1 : U64 k) (h2 : U64 v) : Row.wf ⟨k, v⟩ := ⟨h1, h2⟩
theorem cmd_wf {k p s : Int} {q : Req} {r : Rng} (h1 : U8 k) (h2 : q.wf) (h3 : r.wf) (h4 : U8 p) (h5 : U32 s) : Cmd.wf ⟨k, q, r, p, s⟩ := ⟨h1, h2, h3, h4, h5⟩
theorem vot_wf {s n i : Int} {c : Cmd} (h1 : U32 s) (h2 : U32 n) (h3 : U8 i) (h4 : c.wf) : Vot.wf ⟨s, n, i, c⟩ := ⟨h1, h2, h3, h4⟩

theorem wf_req {l : List Int} (h : Byt l) : Rdw Req.wf (rdReq l) := by
  unfold rdReq
  exact Rdw.ite (Rdw.of (req_wf (n1 h) (n4 (byt_num h)) (n1 (byt_num (byt_num h))) (n8 (byt_num (byt_num (byt_num h)))) (n8 (byt_num (byt_num (byt_num (byt_num h))))) u64_0 u8_0) (byt_num (byt_num (byt_num (byt_num (byt_num h))))))
    (Rdw.ite (Rdw.of (req_wf (n1 h) (n4 (byt_num h)) (n1 (byt_num (byt_num h))) (n8 (byt_num (byt_num (byt_num h)))) u64_0 (n8 (byt_num (byt_num (byt_num (byt_num h))))) (n1 (byt_num (byt_num (byt_num (byt_num (byt_num h))))))) (byt_num (byt_num (byt_num (byt_num (byt_num (byt_num h)))))))
      (Rdw.of (req_wf (n1 h) (n4 (byt_num h)) (n1 (byt_num (byt_num h))) (n8 (byt_num (byt_num (byt_num h)))) u64_0 u64_0 u8_0) (byt_num (byt_num (byt_num (byt_num h))))))

theorem wf_rep {l : List Int} (h : Byt l) : Rdw Rep.wf (rdRep l) := by
  have b1 : Byt (num 1 l).2 := byt_num h
  have b2 : Byt (num 4 (num 1 l).2).2 := byt_num b1
  have b3 : Byt (num 8 (num 4 (num 1 l).2).2).2 := byt_num b2
  have b4 : Byt (num 1 (num 8 (num 4 (num 1 l).2).2).2).2 := byt_num b3
  have b5 : Byt (num 1 (num 1 (num 8 (num 4 (num 1 l).2).2).2).2).2 := byt_num b4
  unfold rdRep
  exact Rdw.ite (Rdw.ite (Rdw.of (rep_wf (n1 h) (n4 b1) (n8 b2) (n1 b3) u64_0 u8_0) b5) (Rdw.of (rep_wf (n1 h) (n4 b1) (n8 b2) (n1 b3) (n8 b5) u8_0) (byt_num b5)))
    (Rdw.ite (Rdw.of (rep_wf (n1 h) (n4 b1) (n8 b2) (n1 b3) u64_0 (n1 b4)) b5) (Rdw.of (rep_wf (n1 h) (n4 b1) (n8 b2) (n1 b3) u64_0 u8_0) b4))

theorem wf_row {l : List Int} (h : Byt l) : Rdw Row.wf (rdRow l) := by
  unfold rdRow
  exact Rdw.of (row_wf (n8 h) (n8 (byt_num h))) (byt_num (byt_num h))

/-- Each element keeps P. -/
def Each {α : Type} (P : α → Prop) (xs : List α) : Prop := ∀ (i : Nat) (x : α), xs[i]? = some x → P x

theorem wf_list {α : Type} {f : Rd α} {P : α → Prop} (hf : ∀ l, Byt l → Rdw P (f l)) : ∀ (n : Nat) (l : List Int), Byt l → Rdw (Each P) (rdList f n l) := by
  intro n
  induction n with
  | zero => intro l h; exact ⟨by intro i x hx; simp [rdList] at hx, h⟩
  | succ n ih =>
    intro l h
    unfold rdList
    by_cases hl : l = []
    · rw [if_pos hl]
      exact ⟨by intro i x hx; simp at hx, by intro x hx; simp at hx⟩
    · rw [if_neg hl]
      dsimp only
      obtain ⟨h1, h2⟩ := hf l h
      obtain ⟨h3, h4⟩ := ih _ h2
      refine ⟨?_, h4⟩
      intro i x hx
      cases i with
      | zero => simp at hx; subst hx; exact h1
      | succ i => exact h3 i x (by simpa using hx)

theorem rng_wf {a b s lo hi : Int} {rs ds : Sl} {rows : List Row} {dups : List Rep} (h1 : U8 a) (h2 : U8 b) (h3 : U32 s) (h4 : U64 lo) (h5 : U64 hi) (h6 : Each Row.wf rows) (h7 : Each Rep.wf dups) : Rng.wf ⟨a, b, s, lo, hi, rs, ds, rows, dups⟩ := ⟨h1, h2, h3, h4, h5, h6, h7⟩

theorem wf_rng {l : List Int} (h : Byt l) : Rdw Rng.wf (rdRng l) := by
  have b1 : Byt (num 1 l).2 := byt_num h
  have b2 : Byt (num 1 (num 1 l).2).2 := byt_num b1
  have b3 : Byt (num 4 (num 1 (num 1 l).2).2).2 := byt_num b2
  have b4 : Byt (num 8 (num 4 (num 1 (num 1 l).2).2).2).2 := byt_num b3
  have b5 : Byt (num 8 (num 8 (num 4 (num 1 (num 1 l).2).2).2).2).2 := byt_num b4
  have w1 := wf_list (f := rdRow) (P := Row.wf) (fun l h => wf_row h) (num 1 (num 8 (num 8 (num 4 (num 1 (num 1 l).2).2).2).2).2).1.toNat _ (byt_num (n := 1) b5)
  have w2 := wf_list (f := rdRep) (P := Rep.wf) (fun l h => wf_rep h) (num 1 (rdList rdRow (num 1 (num 8 (num 8 (num 4 (num 1 (num 1 l).2).2).2).2).2).1.toNat (num 1 (num 8 (num 8 (num 4 (num 1 (num 1 l).2).2).2).2).2).2).2).1.toNat _ (byt_num (n := 1) w1.2)
  unfold rdRng
  exact Rdw.of (rng_wf (n1 h) (n1 b1) (n4 b2) (n8 b3) (n8 b4) w1.1 w2.1) w2.2

theorem noReq_wf : noReq.wf := ⟨u8_0, u32_0, u8_0, u64_0, u64_0, u64_0, u8_0⟩
theorem noRep_wf : noRep.wf := ⟨u8_0, u32_0, u64_0, u8_0, u64_0, u8_0⟩
theorem noRng_wf : noRng.wf := ⟨u8_0, u8_0, u32_0, u64_0, u64_0, by intro i x hx; simp [noRng] at hx, by intro i x hx; simp [noRng] at hx⟩
theorem noCmd_wf : noCmd.wf := ⟨u8_0, noReq_wf, noRng_wf, u8_0, u32_0⟩

theorem wf_cmd {l : List Int} (h : Byt l) : Rdw Cmd.wf (rdCmd l) := by
  have b1 : Byt (num 1 l).2 := byt_num h
  unfold rdCmd
  exact Rdw.ite (Rdw.of (cmd_wf (n1 h) (wf_req b1).1 noRng_wf u8_0 u32_0) (wf_req b1).2)
    (Rdw.ite (Rdw.of (cmd_wf (n1 h) noReq_wf (wf_rng b1).1 u8_0 u32_0) (wf_rng b1).2)
      (Rdw.ite (Rdw.of (cmd_wf (n1 h) noReq_wf noRng_wf (n1 b1) (n4 (byt_num b1))) (byt_num (byt_num b1)))
        (Rdw.of (cmd_wf (n1 h) noReq_wf noRng_wf u8_0 u32_0) b1)))

theorem wf_vot {l : List Int} (h : Byt l) : Rdw Vot.wf (rdVot l) := by
  have b1 : Byt (num 4 l).2 := byt_num h
  have b2 : Byt (num 4 (num 4 l).2).2 := byt_num b1
  have b3 : Byt (num 1 (num 4 (num 4 l).2).2).2 := byt_num b2
  unfold rdVot
  exact Rdw.of (vot_wf (n4 h) (n4 b1) (n1 b2) (wf_cmd b3).1) (wf_cmd b3).2

theorem msg_wf {k n i s p q : Int} {a : Req} {b : Rep} {c : Cmd} {r : Rng} {vs : Sl} {votes : List Vot} (h1 : U8 k) (h2 : a.wf) (h3 : b.wf) (h4 : U32 n) (h5 : U8 i) (h6 : U32 s) (h7 : c.wf) (h8 : Each Vot.wf votes) (h9 : r.wf) (h10 : U8 p) (h11 : U32 q) : Msg.wf ⟨k, a, b, n, i, s, c, vs, r, p, q, votes⟩ := ⟨h1, h2, h3, h4, h5, h6, h7, h8, h9, h10, h11⟩

theorem each_nil : Each Vot.wf [] := by intro i x hx; simp at hx

theorem wf_msg {l : List Int} (h : Byt l) : Rdw Msg.wf (rdMsg l) := by
  have b1 : Byt (num 1 l).2 := byt_num h
  have b2 : Byt (num 4 (num 1 l).2).2 := byt_num b1
  have b3 : Byt (num 1 (num 4 (num 1 l).2).2).2 := byt_num b2
  have b4 : Byt (num 4 (num 1 (num 4 (num 1 l).2).2).2).2 := byt_num b3
  have w1 := wf_list (f := rdVot) (P := Vot.wf) (fun l h => wf_vot h) (num 1 (num 1 (num 4 (num 1 l).2).2).2).1.toNat _ (byt_num (n := 1) b3)
  unfold rdMsg
  refine Rdw.ite ?_ (Rdw.ite ?_ (Rdw.ite ?_ (Rdw.ite ?_ (Rdw.ite ?_ (Rdw.ite ?_ (Rdw.ite ?_ (Rdw.ite ?_ (Rdw.ite ?_ ?_))))))))
  · exact Rdw.of (msg_wf (n1 h) (wf_req b1).1 noRep_wf u32_0 u8_0 u32_0 noCmd_wf each_nil noRng_wf u8_0 u32_0) (wf_req b1).2
  · exact Rdw.of (msg_wf (n1 h) noReq_wf (wf_rep b1).1 u32_0 u8_0 u32_0 noCmd_wf each_nil noRng_wf u8_0 u32_0) (wf_rep b1).2
  · exact Rdw.of (msg_wf (n1 h) noReq_wf noRep_wf (n4 b1) (n1 b2) u32_0 noCmd_wf each_nil noRng_wf u8_0 u32_0) b3
  · exact Rdw.of (msg_wf (n1 h) noReq_wf noRep_wf (n4 b1) (n1 b2) u32_0 noCmd_wf w1.1 noRng_wf u8_0 u32_0) w1.2
  · exact Rdw.of (msg_wf (n1 h) noReq_wf noRep_wf (n4 b1) (n1 b2) (n4 b3) (wf_cmd b4).1 each_nil noRng_wf u8_0 u32_0) (wf_cmd b4).2
  · exact Rdw.of (msg_wf (n1 h) noReq_wf noRep_wf (n4 b1) (n1 b2) (n4 b3) noCmd_wf each_nil noRng_wf u8_0 u32_0) b4
  · exact Rdw.of (msg_wf (n1 h) noReq_wf noRep_wf u32_0 u8_0 (n4 b1) (wf_cmd b2).1 each_nil noRng_wf u8_0 u32_0) (wf_cmd b2).2
  · exact Rdw.of (msg_wf (n1 h) noReq_wf noRep_wf u32_0 u8_0 u32_0 noCmd_wf each_nil (wf_rng b1).1 u8_0 u32_0) (wf_rng b1).2
  · exact Rdw.of (msg_wf (n1 h) noReq_wf noRep_wf u32_0 u8_0 u32_0 noCmd_wf each_nil noRng_wf (n1 b1) (n4 (byt_num b1))) (byt_num (byt_num b1))
  · exact Rdw.of (msg_wf (n1 h) noReq_wf noRep_wf u32_0 u8_0 u32_0 noCmd_wf each_nil noRng_wf u8_0 u32_0) b1

theorem msg_strip (l : List Int) : (rdMsg l).1.strip = (rdMsg l).1 := by
  have hv : ∀ (n : Nat) (l : List Int), ((rdList rdVot n l).1.map Vot.strip) = (rdList rdVot n l).1 := by
    intro n
    induction n with
    | zero => intro l; rfl
    | succ n ih =>
      intro l
      unfold rdList
      by_cases hl : l = []
      · rw [if_pos hl]; rfl
      · rw [if_neg hl]; dsimp only
        rw [List.map_cons, vot_strip, ih]
  have hm : ∀ (k n i s p q : Int) (a : Req) (b : Rep) (c : Cmd) (r : Rng) (votes : List Vot), c.strip = c → r.strip = r → votes.map Vot.strip = votes → (Msg.mk k a b n i s c ⟨none, votes.length, votes.length⟩ r p q votes).strip = Msg.mk k a b n i s c ⟨none, votes.length, votes.length⟩ r p q votes := by
    intro k n i s p q a b c r votes h1 h2 h3
    simp only [Msg.strip, h1, h2, h3]
  have hite : ∀ {p : Prop} [Decidable p] {x y : Msg × List Int}, x.1.strip = x.1 → y.1.strip = y.1 → (if p then x else y).1.strip = (if p then x else y).1 := by
    intro p _ x y h1 h2
    by_cases h : p
    · rw [if_pos h]; exact h1
    · rw [if_neg h]; exact h2
  unfold rdMsg
  refine hite ?_ (hite ?_ (hite ?_ (hite ?_ (hite ?_ (hite ?_ (hite ?_ (hite ?_ (hite ?_ ?_))))))))
  · exact hm _ _ _ _ _ _ _ _ _ _ [] rfl rfl rfl
  · exact hm _ _ _ _ _ _ _ _ _ _ [] rfl rfl rfl
  · exact hm _ _ _ _ _ _ _ _ _ _ [] rfl rfl rfl
  · exact hm _ _ _ _ _ _ _ _ _ _ _ rfl rfl (hv _ _)
  · exact hm _ _ _ _ _ _ _ _ _ _ [] (cmd_strip _) rfl rfl
  · exact hm _ _ _ _ _ _ _ _ _ _ [] rfl rfl rfl
  · exact hm _ _ _ _ _ _ _ _ _ _ [] (cmd_strip _) rfl rfl
  · exact hm _ _ _ _ _ _ _ _ _ _ [] rfl (rng_strip _) rfl
  · exact hm _ _ _ _ _ _ _ _ _ _ [] rfl rfl rfl
  · exact hm _ _ _ _ _ _ _ _ _ _ [] rfl rfl rfl

end Go.Proofs.Ytignemioillaiaa

namespace Go.Proofs.Ytignemioillaiaa
open Go.RowKit

theorem sz_src : (Try.prog.info? 118).map (·.size) = some 1 := by kernel_rfl
theorem lt_only {B n : Nat} {w w' : World} (h : n < w.heap.size) (hO : Only B w w') : n < w'.heap.size := by rw [hO.size]; exact h

theorem results_cell_row_tmp {P : Program} {fn : Func} {p u : Tmp} {ty : TypeId} (h : fn.results = #[.cell p ty, .tmp u]) (tmps : Array Value) (w : World) (g : Nat) (t : TypeId) (cs : Array Value) (fr : Nat × Nat) (d : TypeDesc)
    (hp : tmps.getD p undef = .pointer (some ⟨g, 0, none⟩)) (hg : w.heap[g]? = some (.cells cs t fr))
    (hu : P.underlying ty = some d) (hd : (match d with | .struct _ | .array _ _ => true | _ => false) = true) (hi : (P.info? ty).map (·.size) = some cs.size) :
    (results fn tmps).run P w = .ok (.tuple #[.agg cs, tmps.getD u undef]) w := by
  have hp' : tmps[p]?.getD undef = .pointer (some ⟨g, 0, none⟩) := by simpa using hp
  simp [results, h, hp', asAddr, run_loadVar_row w g t ty cs fr d hg hu hd hi]

theorem str_ne {a b : ByteArray} (h : a ≠ b) : (!a.toList == b.toList) = true := by
  have h1 : ¬ a.toList = b.toList := by
    intro e
    rw [ByteArray.toList_eq, ByteArray.toList_eq] at e
    obtain ⟨⟨x⟩⟩ := a
    obtain ⟨⟨y⟩⟩ := b
    exact h (congrArg (fun z => ByteArray.mk (Array.mk z)) e)
  simpa using h1

theorem each_strip {a b : List Vot} (h : a.map Vot.strip = b) (hb : ∀ (i : Nat) (x : Vot), b[i]? = some x → x.wf) : ∀ (i : Nat) (x : Vot), a[i]? = some x → x.wf := by
  intro i x hx
  have h1 : b[i]? = some x.strip := by rw [← h, List.getElem?_map, hx]; rfl
  have := hb i _ h1
  revert this
  rintro ⟨a, b, c, ⟨d, e, ⟨r1, r2, r3, r4, r5, r6, r7⟩, p, q⟩⟩
  exact ⟨a, b, c, ⟨d, e, ⟨r1, r2, r3, r4, r5, r6, r7⟩, p, q⟩⟩

theorem src_msgr (zY : Int) (zH zI zJ zK zL zM zN : Int) (zO zP zQ zR : Int) (zS : Bool) (zT zU : Int) (mn zZ jA : Int) (zV : Int) (zA zB zC zD zE zF zG : Int) (yA yB yC yD yE : Int) (yF : Option Addr) (yG yH : Nat) (yI : Option Addr) (yJ yK : Nat) (zW zX : Int) (jE : Option Addr) (jF jG : Nat) (yN yO yP yQ yR : Int) (yS : Option Addr) (yT yU : Nat) (yV : Option Addr) (yW yX : Nat) (jB jC : Int) (yL yY : List Row) (yM yZ : List Rep) (jD : List Vot) (l : List Int) (hm : (rdMsg l).1 = (Msg.mk zY (Req.mk zH zI zJ zK zL zM zN) (Rep.mk zO zP zQ zR zS zT zU) mn zZ jA (Cmd.mk zV (Req.mk zA zB zC zD zE zF zG) (Rng.mk yA yB yC yD yE ⟨yF, yG, yH⟩ ⟨yI, yJ, yK⟩ yL yM) zW zX) ⟨jE, jF, jG⟩ (Rng.mk yN yO yP yQ yR ⟨yS, yT, yU⟩ ⟨yV, yW, yX⟩ yY yZ) jB jC jD)) (B : Nat) (w : World) (h : Src B w l) :
    Calls Try.prog 45 #[.pointer (some ⟨B, 0, none⟩)] w fun e w' => ∃ (r1a : Option Addr) (r1n r1c : Nat) (r2a : Option Addr) (r2n r2c : Nat) (c1a : Option Addr) (c1n c1c : Nat) (c2a : Option Addr) (c2n c2c : Nat) (va : Option Addr) (vn vc : Nat) (ovs : List Vot), e = .returned (.agg (List.toArray (rM zY zH zI zJ zK zL zM zN zO zP zQ zR zS zT zU mn zZ jA zV zA zB zC zD zE zF zG yA yB yC yD yE c1a c1n c1c c2a c2n c2c zW zX va vn vc yN yO yP yQ yR r1a r1n r1c r2a r2n r2c jB jC))) ∧ w'.ownsRow w.heap.size 82 2 (.slice r1a r1n r1c) yY.length (yY.map Row.cells).flatten ∧ w'.ownsRow w.heap.size 27 7 (.slice r2a r2n r2c) yZ.length (yZ.map Rep.cells).flatten ∧ w'.ownsRow w.heap.size 82 2 (.slice c1a c1n c1c) yL.length (yL.map Row.cells).flatten ∧ w'.ownsRow w.heap.size 27 7 (.slice c2a c2n c2c) yM.length (yM.map Rep.cells).flatten ∧ w'.ownsRow w.heap.size 84 20 (.slice va vn vc) ovs.length (ovs.map Vot.cells).flatten ∧ (VOwn w.heap.size w' ovs ∧ One r1a r2a c1a c2a va) ∧ ovs.map Vot.strip = jD ∧ Src B w' (rdMsg l).2 ∧ Upd B w w' := by
  have h9 := src_msg B l w h
  rw [hm] at h9
  exact h9

set_option maxHeartbeats 2000000 in
set_option maxRecDepth 100000 in
theorem parse_t (zY : Int) (zH zI zJ zK zL zM zN : Int) (zO zP zQ zR : Int) (zS : Bool) (zT zU : Int) (mn zZ jA : Int) (zV : Int) (zA zB zC zD zE zF zG : Int) (yA yB yC yD yE : Int) (yF : Option Addr) (yG yH : Nat) (yI : Option Addr) (yJ yK : Nat) (zW zX : Int) (jE : Option Addr) (jF jG : Nat) (yN yO yP yQ yR : Int) (yS : Option Addr) (yT yU : Nat) (yV : Option Addr) (yW yX : Nat) (jB jC : Int) (yL yY : List Row) (yM yZ : List Rep) (jD : List Vot) (l : List Int) (w : World) (hb : Byt l) (hl : l.length ≤ 1000000000000000) (hm : (rdMsg l).1 = (Msg.mk zY (Req.mk zH zI zJ zK zL zM zN) (Rep.mk zO zP zQ zR zS zT zU) mn zZ jA (Cmd.mk zV (Req.mk zA zB zC zD zE zF zG) (Rng.mk yA yB yC yD yE ⟨yF, yG, yH⟩ ⟨yI, yJ, yK⟩ yL yM) zW zX) ⟨jE, jF, jG⟩ (Rng.mk yN yO yP yQ yR ⟨yS, yT, yU⟩ ⟨yV, yW, yX⟩ yY yZ) jB jC jD)) (hg : (Msg.mk zY (Req.mk zH zI zJ zK zL zM zN) (Rep.mk zO zP zQ zR zS zT zU) mn zZ jA (Cmd.mk zV (Req.mk zA zB zC zD zE zF zG) (Rng.mk yA yB yC yD yE ⟨yF, yG, yH⟩ ⟨yI, yJ, yK⟩ yL yM) zW zX) ⟨jE, jF, jG⟩ (Rng.mk yN yO yP yQ yR ⟨yS, yT, yU⟩ ⟨yV, yW, yX⟩ yY yZ) jB jC jD).ok = true) (hy : bstr ((Msg.mk zY (Req.mk zH zI zJ zK zL zM zN) (Rep.mk zO zP zQ zR zS zT zU) mn zZ jA (Cmd.mk zV (Req.mk zA zB zC zD zE zF zG) (Rng.mk yA yB yC yD yE ⟨yF, yG, yH⟩ ⟨yI, yJ, yK⟩ yL yM) zW zX) ⟨jE, jF, jG⟩ (Rng.mk yN yO yP yQ yR ⟨yS, yT, yU⟩ ⟨yV, yW, yX⟩ yY yZ) jB jC jD).bytes) = bstr l) :
    Calls Try.prog 14 #[.string (bstr l)] w fun e w' => ∃ (r1a : Option Addr) (r1n r1c : Nat) (r2a : Option Addr) (r2n r2c : Nat) (c1a : Option Addr) (c1n c1c : Nat) (c2a : Option Addr) (c2n c2c : Nat) (va : Option Addr) (vn vc : Nat) (ovs : List Vot), e = .returned (.tuple #[.agg (List.toArray (rM zY zH zI zJ zK zL zM zN zO zP zQ zR zS zT zU mn zZ jA zV zA zB zC zD zE zF zG yA yB yC yD yE c1a c1n c1c c2a c2n c2c zW zX va vn vc yN yO yP yQ yR r1a r1n r1c r2a r2n r2c jB jC)), .int .i64 0]) ∧ w'.ownsRow w.heap.size 82 2 (.slice r1a r1n r1c) yY.length (yY.map Row.cells).flatten ∧ w'.ownsRow w.heap.size 27 7 (.slice r2a r2n r2c) yZ.length (yZ.map Rep.cells).flatten ∧ w'.ownsRow w.heap.size 82 2 (.slice c1a c1n c1c) yL.length (yL.map Row.cells).flatten ∧ w'.ownsRow w.heap.size 27 7 (.slice c2a c2n c2c) yM.length (yM.map Rep.cells).flatten ∧ w'.ownsRow w.heap.size 84 20 (.slice va vn vc) ovs.length (ovs.map Vot.cells).flatten ∧ (VOwn w.heap.size w' ovs ∧ One r1a r2a c1a c2a va) ∧ ovs.map Vot.strip = jD ∧ Below w.heap.size w w' := by
  have hwf := (wf_msg hb).1
  rw [hm] at hwf
  have hstr := msg_strip l
  rw [hm] at hstr
  have HM := hide' hm
  have hneR : w.heap.size ≠ w.heap.size + 1 := by omega
  have hneR' : some w.heap.size ≠ some (w.heap.size + 1) := by simp
  have hR0 : ((w.alloc (.cells (List.toArray oxM) 38)).alloc (.cells #[.string (ByteArray.mk #[])] 118)).heap[w.heap.size]? = some (.cells (List.toArray oxM) 38) := heap_alloc2_old w _ _
  have hV0 : ((w.alloc (.cells (List.toArray oxM) 38)).alloc (.cells #[.string (ByteArray.mk #[])] 118)).heap[w.heap.size + 1]? = some (.cells #[.string (ByteArray.mk #[])] 118) := heap_alloc2_new w _ _
  have hT0 : Below w.heap.size w ((w.alloc (.cells (List.toArray oxM) 38)).alloc (.cells #[.string (ByteArray.mk #[])] 118)) := later_trans (later_alloc w _) (later_alloc _ _)
  have hlt0 : w.heap.size < ((w.alloc (.cells (List.toArray oxM) 38)).alloc (.cells #[.string (ByteArray.mk #[])] 118)).heap.size := (Array.getElem?_eq_some_iff.1 hR0).1
  have HWF := hide' hwf
  have HSTR := hide' hstr
  clear hwf hstr hm
  go_enter Try.func14, Try.ntmps14
  go_upto_region 3 with (first | (with_reducible show wpList _ _ _ ({ dst := none, op := Op.store 118 _ _, type := _, pos := _, after := _, guard := none } :: _) _ _; go_must (refine wpList_store_blk rfl _ _ _ rfl rfl (w.heap.size + 1) 0 rfl [.string (bstr l)] rfl _ sz_src rfl rfl _ _ hV0 rfl [.string (bstr l)] rfl ?_; intro w1 hV1 hO1; have hR1 := (hO1.block _ hneR).trans hR0; have hS1 : Src (w.heap.size + 1) w1 l := ⟨hV1, hb, hl⟩; have hlt1 : w.heap.size < w1.heap.size := lt_only hlt0 hO1)) | (go_at_call 45; go_must (refine (src_msgr _ _ _ _ _ _ _ _ _ _ _ _ _ _ _ _ _ _ _ _ _ _ _ _ _ _ _ _ _ _ _ _ _ _ _ _ _ _ _ _ _ _ _ _ _ _ _ _ _ _ _ _ _ _ _ yL yY yM yZ jD l HM.out _ _ hS1).mono ?_; rintro e w2 ⟨r1a, r1n, r1c, r2a, r2n, r2c, c1a, c1n, c1c, c2a, c2n, c2c, va, vn, vc, ovs, rfl, ho1, ho2, ho3, ho4, hov, ⟨hoI, hOne⟩, hT, hS2, hU2⟩; have hR2 := (hU2.block _ hlt1 hneR').trans hR1; have hA2 := heap_alloc_new w2 (.cells (List.toArray oxM) 38))) | (with_reducible show wpList _ _ _ ({ dst := none, op := Op.store 38 _ _, type := _, pos := _, after := _, guard := none } :: _) _ _; go_must (refine wpList_store_blk rfl _ _ _ rfl rfl (w2.heap.size) 0 rfl (rM zY zH zI zJ zK zL zM zN zO zP zQ zR zS zT zU mn zZ jA zV zA zB zC zD zE zF zG yA yB yC yD yE c1a c1n c1c c2a c2n c2c zW zX va vn vc yN yO yP yQ yR r1a r1n r1c r2a r2n r2c jB jC) rfl _ sz_msg rfl rfl _ _ hA2 rfl (rM zY zH zI zJ zK zL zM zN zO zP zQ zR zS zT zU mn zZ jA zV zA zB zC zD zE zF zG yA yB yC yD yE c1a c1n c1c c2a c2n c2c zW zX va vn vc yN yO yP yQ yR r1a r1n r1c r2a r2n r2c jB jC) rfl ?_; intro w3 hW3 hO3)))
  have hb3 : Below w2.heap.size w2 w3 := (later_alloc w2 _).trans (hO3.below (Nat.le_refl _))
  have hV2 : VotesIn w2.heap.size w2 ⟨va, vn, vc⟩ ovs := ⟨own_slin' (by rw [List.length_map]; exact hov) (vots_all _), fun i x hx => (hoI.all i x hx).In⟩
  have h1 : SlIn w2.heap.size w2 ⟨r1a, r1n, r1c⟩ 2 (yY.map Row.cells) := own_slin' (by rw [List.length_map]; exact ho1) (rows_all _)
  have h2 : SlIn w2.heap.size w2 ⟨r2a, r2n, r2c⟩ 7 (yZ.map Rep.cells) := own_slin' (by rw [List.length_map]; exact ho2) (dups_all _)
  have h3 : SlIn w2.heap.size w2 ⟨c1a, c1n, c1c⟩ 2 (yL.map Row.cells) := own_slin' (by rw [List.length_map]; exact ho3) (rows_all _)
  have h4 : SlIn w2.heap.size w2 ⟨c2a, c2n, c2c⟩ 7 (yM.map Rep.cells) := own_slin' (by rw [List.length_map]; exact ho4) (dups_all _)
  have hf : Msg.fit (Msg.mk zY (Req.mk zH zI zJ zK zL zM zN) (Rep.mk zO zP zQ zR zS zT zU) mn zZ jA (Cmd.mk zV (Req.mk zA zB zC zD zE zF zG) (Rng.mk yA yB yC yD yE ⟨c1a, c1n, c1c⟩ ⟨c2a, c2n, c2c⟩ yL yM) zW zX) ⟨va, vn, vc⟩ (Rng.mk yN yO yP yQ yR ⟨r1a, r1n, r1c⟩ ⟨r2a, r2n, r2c⟩ yY yZ) jB jC ovs) := ⟨⟨by simpa using h3.len, by simpa using h4.len⟩, ⟨by simpa using h1.len, by simpa using h2.len⟩, by simpa using hV2.sl.len, fun i x hx => ⟨by simpa using (hV2.all i x hx).rows.len, by simpa using (hV2.all i x hx).dups.len⟩⟩
  have hs : Msg.strip (Msg.mk zY (Req.mk zH zI zJ zK zL zM zN) (Rep.mk zO zP zQ zR zS zT zU) mn zZ jA (Cmd.mk zV (Req.mk zA zB zC zD zE zF zG) (Rng.mk yA yB yC yD yE ⟨c1a, c1n, c1c⟩ ⟨c2a, c2n, c2c⟩ yL yM) zW zX) ⟨va, vn, vc⟩ (Rng.mk yN yO yP yQ yR ⟨r1a, r1n, r1c⟩ ⟨r2a, r2n, r2c⟩ yY yZ) jB jC ovs) = (Msg.mk zY (Req.mk zH zI zJ zK zL zM zN) (Rep.mk zO zP zQ zR zS zT zU) mn zZ jA (Cmd.mk zV (Req.mk zA zB zC zD zE zF zG) (Rng.mk yA yB yC yD yE ⟨yF, yG, yH⟩ ⟨yI, yJ, yK⟩ yL yM) zW zX) ⟨jE, jF, jG⟩ (Rng.mk yN yO yP yQ yR ⟨yS, yT, yU⟩ ⟨yV, yW, yX⟩ yY yZ) jB jC jD) := by
    rw [← HSTR.out]
    have hv9 : jD.map Vot.strip = jD := by have := congrArg Msg.votes HSTR.out; exact this
    have hlen : ovs.length = jD.length := by have := congrArg List.length hT; simpa using this
    simp only [Msg.strip, Cmd.strip, Rng.strip, hT, hv9, hlen]
  have hok : Msg.ok (Msg.mk zY (Req.mk zH zI zJ zK zL zM zN) (Rep.mk zO zP zQ zR zS zT zU) mn zZ jA (Cmd.mk zV (Req.mk zA zB zC zD zE zF zG) (Rng.mk yA yB yC yD yE ⟨c1a, c1n, c1c⟩ ⟨c2a, c2n, c2c⟩ yL yM) zW zX) ⟨va, vn, vc⟩ (Rng.mk yN yO yP yQ yR ⟨r1a, r1n, r1c⟩ ⟨r2a, r2n, r2c⟩ yY yZ) jB jC ovs) = Msg.ok (Msg.mk zY (Req.mk zH zI zJ zK zL zM zN) (Rep.mk zO zP zQ zR zS zT zU) mn zZ jA (Cmd.mk zV (Req.mk zA zB zC zD zE zF zG) (Rng.mk yA yB yC yD yE ⟨yF, yG, yH⟩ ⟨yI, yJ, yK⟩ yL yM) zW zX) ⟨jE, jF, jG⟩ (Rng.mk yN yO yP yQ yR ⟨yS, yT, yU⟩ ⟨yV, yW, yX⟩ yY yZ) jB jC jD) := by rw [← Msg.ok_strip hf, hs]
  have hby : Msg.bytes (Msg.mk zY (Req.mk zH zI zJ zK zL zM zN) (Rep.mk zO zP zQ zR zS zT zU) mn zZ jA (Cmd.mk zV (Req.mk zA zB zC zD zE zF zG) (Rng.mk yA yB yC yD yE ⟨c1a, c1n, c1c⟩ ⟨c2a, c2n, c2c⟩ yL yM) zW zX) ⟨va, vn, vc⟩ (Rng.mk yN yO yP yQ yR ⟨r1a, r1n, r1c⟩ ⟨r2a, r2n, r2c⟩ yY yZ) jB jC ovs) = Msg.bytes (Msg.mk zY (Req.mk zH zI zJ zK zL zM zN) (Rep.mk zO zP zQ zR zS zT zU) mn zZ jA (Cmd.mk zV (Req.mk zA zB zC zD zE zF zG) (Rng.mk yA yB yC yD yE ⟨yF, yG, yH⟩ ⟨yI, yJ, yK⟩ yL yM) zW zX) ⟨jE, jF, jG⟩ (Rng.mk yN yO yP yQ yR ⟨yS, yT, yU⟩ ⟨yV, yW, yX⟩ yY yZ) jB jC jD) := by rw [← Msg.bytes_strip, hs]
  have hw2 : Msg.wf (Msg.mk zY (Req.mk zH zI zJ zK zL zM zN) (Rep.mk zO zP zQ zR zS zT zU) mn zZ jA (Cmd.mk zV (Req.mk zA zB zC zD zE zF zG) (Rng.mk yA yB yC yD yE ⟨c1a, c1n, c1c⟩ ⟨c2a, c2n, c2c⟩ yL yM) zW zX) ⟨va, vn, vc⟩ (Rng.mk yN yO yP yQ yR ⟨r1a, r1n, r1c⟩ ⟨r2a, r2n, r2c⟩ yY yZ) jB jC ovs) := by
    obtain ⟨q1, q2, q3, q4, q5, q6, ⟨d, e, ⟨r1, r2, r3, r4, r5, r6, r7⟩, p, q⟩, q8, ⟨s1, s2, s3, s4, s5, s6, s7⟩, q10, q11⟩ := HWF.out
    exact ⟨q1, q2, q3, q4, q5, q6, ⟨d, e, ⟨r1, r2, r3, r4, r5, r6, r7⟩, p, q⟩, each_strip hT q8, ⟨s1, s2, s3, s4, s5, s6, s7⟩, q10, q11⟩
  have HW2 := hide' hw2
  have hR3 := blk_later hb3 hR2
  have hbel : Below w.heap.size w w3 := ((hT0.trans (hO1.below (Nat.le_succ _))).trans ⟨hU2.os, hU2.tape, hU2.output, hU2.size, fun k hk => hU2.block k (Nat.lt_trans hk hlt1) (by simp; omega)⟩).trans (hb3.mono (Nat.le_trans (Nat.le_of_lt hlt1) hU2.size))
  have HOK := hide' (hok.trans hg)
  have HBB := hide' ((congrArg bstr hby).trans hy)
  clear hs hf hok hby hw2 hA2 hR0 hV0 hR1 hV1 hR2 hS1
  go_wp2_with (first | (with_reducible show wpList _ _ _ ({ dst := some 12, op := Op.load 38 _, type := _, pos := _, after := _, guard := _ } :: _) _ _; go_must (refine wpList_load_blk rfl _ _ rfl (w2.heap.size) 0 rfl 45 _ Try.underlying38 rfl sz_msg _ _ hW3 rfl (rM zY zH zI zJ zK zL zM zN zO zP zQ zR zS zT zU mn zZ jA zV zA zB zC zD zE zF zG yA yB yC yD yE c1a c1n c1c c2a c2n c2c zW zX va vn vc yN yO yP yQ yR r1a r1n r1c r2a r2n r2c jB jC) rfl ?_)) | (go_at_call 11; go_must (refine (marshal_t _ _ _ _ _ _ _ _ _ _ _ _ _ _ _ _ _ _ _ _ _ _ _ _ _ _ _ _ _ _ _ _ _ _ _ _ _ _ _ _ _ _ _ _ _ _ _ _ _ _ _ _ _ _ _ yL yY yM yZ ovs _ (hV2.later hb3) (h3.later hb3) (h4.later hb3) (h1.later hb3) (h2.later hb3) HW2.out HOK.out).mono ?_; rintro e w4 ⟨rfl, hb4⟩; rw [HBB.out]; have hW4 := blk_later hb4 hW3; have hR4 := blk_later hb4 hR3)) | (with_reducible show wpList _ _ _ ({ dst := some 24, op := Op.load 38 _, type := _, pos := _, after := _, guard := _ } :: _) _ _; go_must (refine wpList_load_blk rfl _ _ rfl (w2.heap.size) 0 rfl 45 _ Try.underlying38 rfl sz_msg _ _ hW4 rfl (rM zY zH zI zJ zK zL zM zN zO zP zQ zR zS zT zU mn zZ jA zV zA zB zC zD zE zF zG yA yB yC yD yE c1a c1n c1c c2a c2n c2c zW zX va vn vc yN yO yP yQ yR r1a r1n r1c r2a r2n r2c jB jC) rfl ?_)) | (with_reducible show wpList _ _ _ ({ dst := none, op := Op.store 38 _ _, type := _, pos := _, after := _, guard := none } :: _) _ _; go_must (refine wpList_store_blk rfl _ _ _ rfl rfl (w.heap.size) 0 rfl (rM zY zH zI zJ zK zL zM zN zO zP zQ zR zS zT zU mn zZ jA zV zA zB zC zD zE zF zG yA yB yC yD yE c1a c1n c1c c2a c2n c2c zW zX va vn vc yN yO yP yQ yR r1a r1n r1c r2a r2n r2c jB jC) rfl _ sz_msg rfl rfl _ _ hR4 rfl (rM zY zH zI zJ zK zL zM zN zO zP zQ zR zS zT zU mn zZ jA zV zA zB zC zD zE zF zG yA yB yC yD yE c1a c1n c1c c2a c2n c2c zW zX va vn vc yN yO yP yQ yR r1a r1n r1c r2a r2n r2c jB jC) rfl ?_; intro w5 hR5 hO5)))
  have hlt2 : w.heap.size < w3.heap.size := Nat.lt_of_lt_of_le hlt1 (Nat.le_trans hU2.size hb3.size)
  have hbel5 : Below w.heap.size w w5 := (hbel.trans (hb4.mono (Nat.le_of_lt hlt2))).trans (hO5.below (Nat.le_refl _))
  refine bodyPost_ret (v := .tuple #[.agg (List.toArray (rM zY zH zI zJ zK zL zM zN zO zP zQ zR zS zT zU mn zZ jA zV zA zB zC zD zE zF zG yA yB yC yD yE c1a c1n c1c c2a c2n c2c zW zX va vn vc yN yO yP yQ yR r1a r1n r1c r2a r2n r2c jB jC)), .int .i64 0]) (results_cell_row_tmp Try.results14 _ _ w.heap.size 38 _ (0, 0) _ rfl hR5 Try.underlying38 rfl sz_msg) rfl ⟨r1a, r1n, r1c, r2a, r2n, r2c, c1a, c1n, c1c, c2a, c2n, c2c, va, vn, vc, ovs, rfl, own_mono (own_keep (own_below (own_below ho1 hb3) hb4) hO5 hlt1) (Nat.le_of_lt hlt1), own_mono (own_keep (own_below (own_below ho2 hb3) hb4) hO5 hlt1) (Nat.le_of_lt hlt1), own_mono (own_keep (own_below (own_below ho3 hb3) hb4) hO5 hlt1) (Nat.le_of_lt hlt1), own_mono (own_keep (own_below (own_below ho4 hb3) hb4) hO5 hlt1) (Nat.le_of_lt hlt1), own_mono (own_keep (own_below (own_below hov hb3) hb4) hO5 hlt1) (Nat.le_of_lt hlt1), ⟨⟨fun i x hx => ((((hoI.all i x hx).below hb3).below hb4).only hO5 hlt1).mono (Nat.le_of_lt hlt1), hoI.ap⟩, hOne⟩, hT, hbel5⟩

set_option maxHeartbeats 2000000 in
set_option maxRecDepth 100000 in
theorem parse_f1 (zY : Int) (zH zI zJ zK zL zM zN : Int) (zO zP zQ zR : Int) (zS : Bool) (zT zU : Int) (mn zZ jA : Int) (zV : Int) (zA zB zC zD zE zF zG : Int) (yA yB yC yD yE : Int) (yF : Option Addr) (yG yH : Nat) (yI : Option Addr) (yJ yK : Nat) (zW zX : Int) (jE : Option Addr) (jF jG : Nat) (yN yO yP yQ yR : Int) (yS : Option Addr) (yT yU : Nat) (yV : Option Addr) (yW yX : Nat) (jB jC : Int) (yL yY : List Row) (yM yZ : List Rep) (jD : List Vot) (l : List Int) (w : World) (hb : Byt l) (hl : l.length ≤ 1000000000000000) (hm : (rdMsg l).1 = (Msg.mk zY (Req.mk zH zI zJ zK zL zM zN) (Rep.mk zO zP zQ zR zS zT zU) mn zZ jA (Cmd.mk zV (Req.mk zA zB zC zD zE zF zG) (Rng.mk yA yB yC yD yE ⟨yF, yG, yH⟩ ⟨yI, yJ, yK⟩ yL yM) zW zX) ⟨jE, jF, jG⟩ (Rng.mk yN yO yP yQ yR ⟨yS, yT, yU⟩ ⟨yV, yW, yX⟩ yY yZ) jB jC jD)) (hg : (Msg.mk zY (Req.mk zH zI zJ zK zL zM zN) (Rep.mk zO zP zQ zR zS zT zU) mn zZ jA (Cmd.mk zV (Req.mk zA zB zC zD zE zF zG) (Rng.mk yA yB yC yD yE ⟨yF, yG, yH⟩ ⟨yI, yJ, yK⟩ yL yM) zW zX) ⟨jE, jF, jG⟩ (Rng.mk yN yO yP yQ yR ⟨yS, yT, yU⟩ ⟨yV, yW, yX⟩ yY yZ) jB jC jD).ok = false) :
    Calls Try.prog 14 #[.string (bstr l)] w fun e w' => e = .returned (.tuple #[.agg (List.toArray oxM), .int .i64 2]) ∧ Below w.heap.size w w' := by
  have hwf := (wf_msg hb).1
  rw [hm] at hwf
  have hstr := msg_strip l
  rw [hm] at hstr
  have HM := hide' hm
  have hneR : w.heap.size ≠ w.heap.size + 1 := by omega
  have hneR' : some w.heap.size ≠ some (w.heap.size + 1) := by simp
  have hR0 : ((w.alloc (.cells (List.toArray oxM) 38)).alloc (.cells #[.string (ByteArray.mk #[])] 118)).heap[w.heap.size]? = some (.cells (List.toArray oxM) 38) := heap_alloc2_old w _ _
  have hV0 : ((w.alloc (.cells (List.toArray oxM) 38)).alloc (.cells #[.string (ByteArray.mk #[])] 118)).heap[w.heap.size + 1]? = some (.cells #[.string (ByteArray.mk #[])] 118) := heap_alloc2_new w _ _
  have hT0 : Below w.heap.size w ((w.alloc (.cells (List.toArray oxM) 38)).alloc (.cells #[.string (ByteArray.mk #[])] 118)) := later_trans (later_alloc w _) (later_alloc _ _)
  have hlt0 : w.heap.size < ((w.alloc (.cells (List.toArray oxM) 38)).alloc (.cells #[.string (ByteArray.mk #[])] 118)).heap.size := (Array.getElem?_eq_some_iff.1 hR0).1
  have HWF := hide' hwf
  have HSTR := hide' hstr
  clear hwf hstr hm
  go_enter Try.func14, Try.ntmps14
  go_upto_region 3 with (first | (with_reducible show wpList _ _ _ ({ dst := none, op := Op.store 118 _ _, type := _, pos := _, after := _, guard := none } :: _) _ _; go_must (refine wpList_store_blk rfl _ _ _ rfl rfl (w.heap.size + 1) 0 rfl [.string (bstr l)] rfl _ sz_src rfl rfl _ _ hV0 rfl [.string (bstr l)] rfl ?_; intro w1 hV1 hO1; have hR1 := (hO1.block _ hneR).trans hR0; have hS1 : Src (w.heap.size + 1) w1 l := ⟨hV1, hb, hl⟩; have hlt1 : w.heap.size < w1.heap.size := lt_only hlt0 hO1)) | (go_at_call 45; go_must (refine (src_msgr _ _ _ _ _ _ _ _ _ _ _ _ _ _ _ _ _ _ _ _ _ _ _ _ _ _ _ _ _ _ _ _ _ _ _ _ _ _ _ _ _ _ _ _ _ _ _ _ _ _ _ _ _ _ _ yL yY yM yZ jD l HM.out _ _ hS1).mono ?_; rintro e w2 ⟨r1a, r1n, r1c, r2a, r2n, r2c, c1a, c1n, c1c, c2a, c2n, c2c, va, vn, vc, ovs, rfl, ho1, ho2, ho3, ho4, hov, ⟨hoI, hOne⟩, hT, hS2, hU2⟩; have hR2 := (hU2.block _ hlt1 hneR').trans hR1; have hA2 := heap_alloc_new w2 (.cells (List.toArray oxM) 38))) | (with_reducible show wpList _ _ _ ({ dst := none, op := Op.store 38 _ _, type := _, pos := _, after := _, guard := none } :: _) _ _; go_must (refine wpList_store_blk rfl _ _ _ rfl rfl (w2.heap.size) 0 rfl (rM zY zH zI zJ zK zL zM zN zO zP zQ zR zS zT zU mn zZ jA zV zA zB zC zD zE zF zG yA yB yC yD yE c1a c1n c1c c2a c2n c2c zW zX va vn vc yN yO yP yQ yR r1a r1n r1c r2a r2n r2c jB jC) rfl _ sz_msg rfl rfl _ _ hA2 rfl (rM zY zH zI zJ zK zL zM zN zO zP zQ zR zS zT zU mn zZ jA zV zA zB zC zD zE zF zG yA yB yC yD yE c1a c1n c1c c2a c2n c2c zW zX va vn vc yN yO yP yQ yR r1a r1n r1c r2a r2n r2c jB jC) rfl ?_; intro w3 hW3 hO3)))
  have hb3 : Below w2.heap.size w2 w3 := (later_alloc w2 _).trans (hO3.below (Nat.le_refl _))
  have hV2 : VotesIn w2.heap.size w2 ⟨va, vn, vc⟩ ovs := ⟨own_slin' (by rw [List.length_map]; exact hov) (vots_all _), fun i x hx => (hoI.all i x hx).In⟩
  have h1 : SlIn w2.heap.size w2 ⟨r1a, r1n, r1c⟩ 2 (yY.map Row.cells) := own_slin' (by rw [List.length_map]; exact ho1) (rows_all _)
  have h2 : SlIn w2.heap.size w2 ⟨r2a, r2n, r2c⟩ 7 (yZ.map Rep.cells) := own_slin' (by rw [List.length_map]; exact ho2) (dups_all _)
  have h3 : SlIn w2.heap.size w2 ⟨c1a, c1n, c1c⟩ 2 (yL.map Row.cells) := own_slin' (by rw [List.length_map]; exact ho3) (rows_all _)
  have h4 : SlIn w2.heap.size w2 ⟨c2a, c2n, c2c⟩ 7 (yM.map Rep.cells) := own_slin' (by rw [List.length_map]; exact ho4) (dups_all _)
  have hf : Msg.fit (Msg.mk zY (Req.mk zH zI zJ zK zL zM zN) (Rep.mk zO zP zQ zR zS zT zU) mn zZ jA (Cmd.mk zV (Req.mk zA zB zC zD zE zF zG) (Rng.mk yA yB yC yD yE ⟨c1a, c1n, c1c⟩ ⟨c2a, c2n, c2c⟩ yL yM) zW zX) ⟨va, vn, vc⟩ (Rng.mk yN yO yP yQ yR ⟨r1a, r1n, r1c⟩ ⟨r2a, r2n, r2c⟩ yY yZ) jB jC ovs) := ⟨⟨by simpa using h3.len, by simpa using h4.len⟩, ⟨by simpa using h1.len, by simpa using h2.len⟩, by simpa using hV2.sl.len, fun i x hx => ⟨by simpa using (hV2.all i x hx).rows.len, by simpa using (hV2.all i x hx).dups.len⟩⟩
  have hs : Msg.strip (Msg.mk zY (Req.mk zH zI zJ zK zL zM zN) (Rep.mk zO zP zQ zR zS zT zU) mn zZ jA (Cmd.mk zV (Req.mk zA zB zC zD zE zF zG) (Rng.mk yA yB yC yD yE ⟨c1a, c1n, c1c⟩ ⟨c2a, c2n, c2c⟩ yL yM) zW zX) ⟨va, vn, vc⟩ (Rng.mk yN yO yP yQ yR ⟨r1a, r1n, r1c⟩ ⟨r2a, r2n, r2c⟩ yY yZ) jB jC ovs) = (Msg.mk zY (Req.mk zH zI zJ zK zL zM zN) (Rep.mk zO zP zQ zR zS zT zU) mn zZ jA (Cmd.mk zV (Req.mk zA zB zC zD zE zF zG) (Rng.mk yA yB yC yD yE ⟨yF, yG, yH⟩ ⟨yI, yJ, yK⟩ yL yM) zW zX) ⟨jE, jF, jG⟩ (Rng.mk yN yO yP yQ yR ⟨yS, yT, yU⟩ ⟨yV, yW, yX⟩ yY yZ) jB jC jD) := by
    rw [← HSTR.out]
    have hv9 : jD.map Vot.strip = jD := by have := congrArg Msg.votes HSTR.out; exact this
    have hlen : ovs.length = jD.length := by have := congrArg List.length hT; simpa using this
    simp only [Msg.strip, Cmd.strip, Rng.strip, hT, hv9, hlen]
  have hok : Msg.ok (Msg.mk zY (Req.mk zH zI zJ zK zL zM zN) (Rep.mk zO zP zQ zR zS zT zU) mn zZ jA (Cmd.mk zV (Req.mk zA zB zC zD zE zF zG) (Rng.mk yA yB yC yD yE ⟨c1a, c1n, c1c⟩ ⟨c2a, c2n, c2c⟩ yL yM) zW zX) ⟨va, vn, vc⟩ (Rng.mk yN yO yP yQ yR ⟨r1a, r1n, r1c⟩ ⟨r2a, r2n, r2c⟩ yY yZ) jB jC ovs) = Msg.ok (Msg.mk zY (Req.mk zH zI zJ zK zL zM zN) (Rep.mk zO zP zQ zR zS zT zU) mn zZ jA (Cmd.mk zV (Req.mk zA zB zC zD zE zF zG) (Rng.mk yA yB yC yD yE ⟨yF, yG, yH⟩ ⟨yI, yJ, yK⟩ yL yM) zW zX) ⟨jE, jF, jG⟩ (Rng.mk yN yO yP yQ yR ⟨yS, yT, yU⟩ ⟨yV, yW, yX⟩ yY yZ) jB jC jD) := by rw [← Msg.ok_strip hf, hs]
  have hby : Msg.bytes (Msg.mk zY (Req.mk zH zI zJ zK zL zM zN) (Rep.mk zO zP zQ zR zS zT zU) mn zZ jA (Cmd.mk zV (Req.mk zA zB zC zD zE zF zG) (Rng.mk yA yB yC yD yE ⟨c1a, c1n, c1c⟩ ⟨c2a, c2n, c2c⟩ yL yM) zW zX) ⟨va, vn, vc⟩ (Rng.mk yN yO yP yQ yR ⟨r1a, r1n, r1c⟩ ⟨r2a, r2n, r2c⟩ yY yZ) jB jC ovs) = Msg.bytes (Msg.mk zY (Req.mk zH zI zJ zK zL zM zN) (Rep.mk zO zP zQ zR zS zT zU) mn zZ jA (Cmd.mk zV (Req.mk zA zB zC zD zE zF zG) (Rng.mk yA yB yC yD yE ⟨yF, yG, yH⟩ ⟨yI, yJ, yK⟩ yL yM) zW zX) ⟨jE, jF, jG⟩ (Rng.mk yN yO yP yQ yR ⟨yS, yT, yU⟩ ⟨yV, yW, yX⟩ yY yZ) jB jC jD) := by rw [← Msg.bytes_strip, hs]
  have hw2 : Msg.wf (Msg.mk zY (Req.mk zH zI zJ zK zL zM zN) (Rep.mk zO zP zQ zR zS zT zU) mn zZ jA (Cmd.mk zV (Req.mk zA zB zC zD zE zF zG) (Rng.mk yA yB yC yD yE ⟨c1a, c1n, c1c⟩ ⟨c2a, c2n, c2c⟩ yL yM) zW zX) ⟨va, vn, vc⟩ (Rng.mk yN yO yP yQ yR ⟨r1a, r1n, r1c⟩ ⟨r2a, r2n, r2c⟩ yY yZ) jB jC ovs) := by
    obtain ⟨q1, q2, q3, q4, q5, q6, ⟨d, e, ⟨r1, r2, r3, r4, r5, r6, r7⟩, p, q⟩, q8, ⟨s1, s2, s3, s4, s5, s6, s7⟩, q10, q11⟩ := HWF.out
    exact ⟨q1, q2, q3, q4, q5, q6, ⟨d, e, ⟨r1, r2, r3, r4, r5, r6, r7⟩, p, q⟩, each_strip hT q8, ⟨s1, s2, s3, s4, s5, s6, s7⟩, q10, q11⟩
  have HW2 := hide' hw2
  have hR3 := blk_later hb3 hR2
  have hbel : Below w.heap.size w w3 := ((hT0.trans (hO1.below (Nat.le_succ _))).trans ⟨hU2.os, hU2.tape, hU2.output, hU2.size, fun k hk => hU2.block k (Nat.lt_trans hk hlt1) (by simp; omega)⟩).trans (hb3.mono (Nat.le_trans (Nat.le_of_lt hlt1) hU2.size))
  have HOK := hide' (hok.trans hg)
  clear hs hf hok hby hw2 hA2 hR0 hV0 hR1 hV1 hR2 hS1
  go_wp2_with (first | (with_reducible show wpList _ _ _ ({ dst := some 12, op := Op.load 38 _, type := _, pos := _, after := _, guard := _ } :: _) _ _; go_must (refine wpList_load_blk rfl _ _ rfl (w2.heap.size) 0 rfl 45 _ Try.underlying38 rfl sz_msg _ _ hW3 rfl (rM zY zH zI zJ zK zL zM zN zO zP zQ zR zS zT zU mn zZ jA zV zA zB zC zD zE zF zG yA yB yC yD yE c1a c1n c1c c2a c2n c2c zW zX va vn vc yN yO yP yQ yR r1a r1n r1c r2a r2n r2c jB jC) rfl ?_)) | (go_at_call 11; go_must (refine (marshal_f _ _ _ _ _ _ _ _ _ _ _ _ _ _ _ _ _ _ _ _ _ _ _ _ _ _ _ _ _ _ _ _ _ _ _ _ _ _ _ _ _ _ _ _ _ _ _ _ _ _ _ _ _ _ _ yL yY yM yZ ovs _ (hV2.later hb3) (h3.later hb3) (h4.later hb3) (h1.later hb3) (h2.later hb3) HW2.out HOK.out).mono ?_; rintro e w4 ⟨rfl, hb4⟩; have hW4 := blk_later hb4 hW3; have hR4 := blk_later hb4 hR3)) | (with_reducible show wpList _ _ _ ({ dst := none, op := Op.store 38 _ _, type := _, pos := _, after := _, guard := none } :: _) _ _; go_must (refine wpList_store_blk rfl _ _ _ rfl rfl (w.heap.size) 0 rfl oxM rfl _ sz_msg rfl rfl _ _ hR4 rfl oxM rfl ?_; intro w5 hR5 hO5)))
  have hlt2 : w.heap.size < w3.heap.size := Nat.lt_of_lt_of_le hlt1 (Nat.le_trans hU2.size hb3.size)
  have hbel5 : Below w.heap.size w w5 := (hbel.trans (hb4.mono (Nat.le_of_lt hlt2))).trans (hO5.below (Nat.le_refl _))
  exact bodyPost_ret (v := .tuple #[.agg (List.toArray oxM), .int .i64 2]) (results_cell_row_tmp Try.results14 _ _ w.heap.size 38 _ (0, 0) _ rfl hR5 Try.underlying38 rfl sz_msg) rfl ⟨rfl, hbel5⟩

set_option maxHeartbeats 2000000 in
set_option maxRecDepth 100000 in
theorem parse_f2 (zY : Int) (zH zI zJ zK zL zM zN : Int) (zO zP zQ zR : Int) (zS : Bool) (zT zU : Int) (mn zZ jA : Int) (zV : Int) (zA zB zC zD zE zF zG : Int) (yA yB yC yD yE : Int) (yF : Option Addr) (yG yH : Nat) (yI : Option Addr) (yJ yK : Nat) (zW zX : Int) (jE : Option Addr) (jF jG : Nat) (yN yO yP yQ yR : Int) (yS : Option Addr) (yT yU : Nat) (yV : Option Addr) (yW yX : Nat) (jB jC : Int) (yL yY : List Row) (yM yZ : List Rep) (jD : List Vot) (l : List Int) (w : World) (hb : Byt l) (hl : l.length ≤ 1000000000000000) (hm : (rdMsg l).1 = (Msg.mk zY (Req.mk zH zI zJ zK zL zM zN) (Rep.mk zO zP zQ zR zS zT zU) mn zZ jA (Cmd.mk zV (Req.mk zA zB zC zD zE zF zG) (Rng.mk yA yB yC yD yE ⟨yF, yG, yH⟩ ⟨yI, yJ, yK⟩ yL yM) zW zX) ⟨jE, jF, jG⟩ (Rng.mk yN yO yP yQ yR ⟨yS, yT, yU⟩ ⟨yV, yW, yX⟩ yY yZ) jB jC jD)) (hg : (Msg.mk zY (Req.mk zH zI zJ zK zL zM zN) (Rep.mk zO zP zQ zR zS zT zU) mn zZ jA (Cmd.mk zV (Req.mk zA zB zC zD zE zF zG) (Rng.mk yA yB yC yD yE ⟨yF, yG, yH⟩ ⟨yI, yJ, yK⟩ yL yM) zW zX) ⟨jE, jF, jG⟩ (Rng.mk yN yO yP yQ yR ⟨yS, yT, yU⟩ ⟨yV, yW, yX⟩ yY yZ) jB jC jD).ok = true) (hy : bstr ((Msg.mk zY (Req.mk zH zI zJ zK zL zM zN) (Rep.mk zO zP zQ zR zS zT zU) mn zZ jA (Cmd.mk zV (Req.mk zA zB zC zD zE zF zG) (Rng.mk yA yB yC yD yE ⟨yF, yG, yH⟩ ⟨yI, yJ, yK⟩ yL yM) zW zX) ⟨jE, jF, jG⟩ (Rng.mk yN yO yP yQ yR ⟨yS, yT, yU⟩ ⟨yV, yW, yX⟩ yY yZ) jB jC jD).bytes) ≠ bstr l) :
    Calls Try.prog 14 #[.string (bstr l)] w fun e w' => e = .returned (.tuple #[.agg (List.toArray oxM), .int .i64 2]) ∧ Below w.heap.size w w' := by
  have hwf := (wf_msg hb).1
  rw [hm] at hwf
  have hstr := msg_strip l
  rw [hm] at hstr
  have HM := hide' hm
  have hneR : w.heap.size ≠ w.heap.size + 1 := by omega
  have hneR' : some w.heap.size ≠ some (w.heap.size + 1) := by simp
  have hR0 : ((w.alloc (.cells (List.toArray oxM) 38)).alloc (.cells #[.string (ByteArray.mk #[])] 118)).heap[w.heap.size]? = some (.cells (List.toArray oxM) 38) := heap_alloc2_old w _ _
  have hV0 : ((w.alloc (.cells (List.toArray oxM) 38)).alloc (.cells #[.string (ByteArray.mk #[])] 118)).heap[w.heap.size + 1]? = some (.cells #[.string (ByteArray.mk #[])] 118) := heap_alloc2_new w _ _
  have hT0 : Below w.heap.size w ((w.alloc (.cells (List.toArray oxM) 38)).alloc (.cells #[.string (ByteArray.mk #[])] 118)) := later_trans (later_alloc w _) (later_alloc _ _)
  have hlt0 : w.heap.size < ((w.alloc (.cells (List.toArray oxM) 38)).alloc (.cells #[.string (ByteArray.mk #[])] 118)).heap.size := (Array.getElem?_eq_some_iff.1 hR0).1
  have HWF := hide' hwf
  have HSTR := hide' hstr
  clear hwf hstr hm
  go_enter Try.func14, Try.ntmps14
  go_upto_region 3 with (first | (with_reducible show wpList _ _ _ ({ dst := none, op := Op.store 118 _ _, type := _, pos := _, after := _, guard := none } :: _) _ _; go_must (refine wpList_store_blk rfl _ _ _ rfl rfl (w.heap.size + 1) 0 rfl [.string (bstr l)] rfl _ sz_src rfl rfl _ _ hV0 rfl [.string (bstr l)] rfl ?_; intro w1 hV1 hO1; have hR1 := (hO1.block _ hneR).trans hR0; have hS1 : Src (w.heap.size + 1) w1 l := ⟨hV1, hb, hl⟩; have hlt1 : w.heap.size < w1.heap.size := lt_only hlt0 hO1)) | (go_at_call 45; go_must (refine (src_msgr _ _ _ _ _ _ _ _ _ _ _ _ _ _ _ _ _ _ _ _ _ _ _ _ _ _ _ _ _ _ _ _ _ _ _ _ _ _ _ _ _ _ _ _ _ _ _ _ _ _ _ _ _ _ _ yL yY yM yZ jD l HM.out _ _ hS1).mono ?_; rintro e w2 ⟨r1a, r1n, r1c, r2a, r2n, r2c, c1a, c1n, c1c, c2a, c2n, c2c, va, vn, vc, ovs, rfl, ho1, ho2, ho3, ho4, hov, ⟨hoI, hOne⟩, hT, hS2, hU2⟩; have hR2 := (hU2.block _ hlt1 hneR').trans hR1; have hA2 := heap_alloc_new w2 (.cells (List.toArray oxM) 38))) | (with_reducible show wpList _ _ _ ({ dst := none, op := Op.store 38 _ _, type := _, pos := _, after := _, guard := none } :: _) _ _; go_must (refine wpList_store_blk rfl _ _ _ rfl rfl (w2.heap.size) 0 rfl (rM zY zH zI zJ zK zL zM zN zO zP zQ zR zS zT zU mn zZ jA zV zA zB zC zD zE zF zG yA yB yC yD yE c1a c1n c1c c2a c2n c2c zW zX va vn vc yN yO yP yQ yR r1a r1n r1c r2a r2n r2c jB jC) rfl _ sz_msg rfl rfl _ _ hA2 rfl (rM zY zH zI zJ zK zL zM zN zO zP zQ zR zS zT zU mn zZ jA zV zA zB zC zD zE zF zG yA yB yC yD yE c1a c1n c1c c2a c2n c2c zW zX va vn vc yN yO yP yQ yR r1a r1n r1c r2a r2n r2c jB jC) rfl ?_; intro w3 hW3 hO3)))
  have hb3 : Below w2.heap.size w2 w3 := (later_alloc w2 _).trans (hO3.below (Nat.le_refl _))
  have hV2 : VotesIn w2.heap.size w2 ⟨va, vn, vc⟩ ovs := ⟨own_slin' (by rw [List.length_map]; exact hov) (vots_all _), fun i x hx => (hoI.all i x hx).In⟩
  have h1 : SlIn w2.heap.size w2 ⟨r1a, r1n, r1c⟩ 2 (yY.map Row.cells) := own_slin' (by rw [List.length_map]; exact ho1) (rows_all _)
  have h2 : SlIn w2.heap.size w2 ⟨r2a, r2n, r2c⟩ 7 (yZ.map Rep.cells) := own_slin' (by rw [List.length_map]; exact ho2) (dups_all _)
  have h3 : SlIn w2.heap.size w2 ⟨c1a, c1n, c1c⟩ 2 (yL.map Row.cells) := own_slin' (by rw [List.length_map]; exact ho3) (rows_all _)
  have h4 : SlIn w2.heap.size w2 ⟨c2a, c2n, c2c⟩ 7 (yM.map Rep.cells) := own_slin' (by rw [List.length_map]; exact ho4) (dups_all _)
  have hf : Msg.fit (Msg.mk zY (Req.mk zH zI zJ zK zL zM zN) (Rep.mk zO zP zQ zR zS zT zU) mn zZ jA (Cmd.mk zV (Req.mk zA zB zC zD zE zF zG) (Rng.mk yA yB yC yD yE ⟨c1a, c1n, c1c⟩ ⟨c2a, c2n, c2c⟩ yL yM) zW zX) ⟨va, vn, vc⟩ (Rng.mk yN yO yP yQ yR ⟨r1a, r1n, r1c⟩ ⟨r2a, r2n, r2c⟩ yY yZ) jB jC ovs) := ⟨⟨by simpa using h3.len, by simpa using h4.len⟩, ⟨by simpa using h1.len, by simpa using h2.len⟩, by simpa using hV2.sl.len, fun i x hx => ⟨by simpa using (hV2.all i x hx).rows.len, by simpa using (hV2.all i x hx).dups.len⟩⟩
  have hs : Msg.strip (Msg.mk zY (Req.mk zH zI zJ zK zL zM zN) (Rep.mk zO zP zQ zR zS zT zU) mn zZ jA (Cmd.mk zV (Req.mk zA zB zC zD zE zF zG) (Rng.mk yA yB yC yD yE ⟨c1a, c1n, c1c⟩ ⟨c2a, c2n, c2c⟩ yL yM) zW zX) ⟨va, vn, vc⟩ (Rng.mk yN yO yP yQ yR ⟨r1a, r1n, r1c⟩ ⟨r2a, r2n, r2c⟩ yY yZ) jB jC ovs) = (Msg.mk zY (Req.mk zH zI zJ zK zL zM zN) (Rep.mk zO zP zQ zR zS zT zU) mn zZ jA (Cmd.mk zV (Req.mk zA zB zC zD zE zF zG) (Rng.mk yA yB yC yD yE ⟨yF, yG, yH⟩ ⟨yI, yJ, yK⟩ yL yM) zW zX) ⟨jE, jF, jG⟩ (Rng.mk yN yO yP yQ yR ⟨yS, yT, yU⟩ ⟨yV, yW, yX⟩ yY yZ) jB jC jD) := by
    rw [← HSTR.out]
    have hv9 : jD.map Vot.strip = jD := by have := congrArg Msg.votes HSTR.out; exact this
    have hlen : ovs.length = jD.length := by have := congrArg List.length hT; simpa using this
    simp only [Msg.strip, Cmd.strip, Rng.strip, hT, hv9, hlen]
  have hok : Msg.ok (Msg.mk zY (Req.mk zH zI zJ zK zL zM zN) (Rep.mk zO zP zQ zR zS zT zU) mn zZ jA (Cmd.mk zV (Req.mk zA zB zC zD zE zF zG) (Rng.mk yA yB yC yD yE ⟨c1a, c1n, c1c⟩ ⟨c2a, c2n, c2c⟩ yL yM) zW zX) ⟨va, vn, vc⟩ (Rng.mk yN yO yP yQ yR ⟨r1a, r1n, r1c⟩ ⟨r2a, r2n, r2c⟩ yY yZ) jB jC ovs) = Msg.ok (Msg.mk zY (Req.mk zH zI zJ zK zL zM zN) (Rep.mk zO zP zQ zR zS zT zU) mn zZ jA (Cmd.mk zV (Req.mk zA zB zC zD zE zF zG) (Rng.mk yA yB yC yD yE ⟨yF, yG, yH⟩ ⟨yI, yJ, yK⟩ yL yM) zW zX) ⟨jE, jF, jG⟩ (Rng.mk yN yO yP yQ yR ⟨yS, yT, yU⟩ ⟨yV, yW, yX⟩ yY yZ) jB jC jD) := by rw [← Msg.ok_strip hf, hs]
  have hby : Msg.bytes (Msg.mk zY (Req.mk zH zI zJ zK zL zM zN) (Rep.mk zO zP zQ zR zS zT zU) mn zZ jA (Cmd.mk zV (Req.mk zA zB zC zD zE zF zG) (Rng.mk yA yB yC yD yE ⟨c1a, c1n, c1c⟩ ⟨c2a, c2n, c2c⟩ yL yM) zW zX) ⟨va, vn, vc⟩ (Rng.mk yN yO yP yQ yR ⟨r1a, r1n, r1c⟩ ⟨r2a, r2n, r2c⟩ yY yZ) jB jC ovs) = Msg.bytes (Msg.mk zY (Req.mk zH zI zJ zK zL zM zN) (Rep.mk zO zP zQ zR zS zT zU) mn zZ jA (Cmd.mk zV (Req.mk zA zB zC zD zE zF zG) (Rng.mk yA yB yC yD yE ⟨yF, yG, yH⟩ ⟨yI, yJ, yK⟩ yL yM) zW zX) ⟨jE, jF, jG⟩ (Rng.mk yN yO yP yQ yR ⟨yS, yT, yU⟩ ⟨yV, yW, yX⟩ yY yZ) jB jC jD) := by rw [← Msg.bytes_strip, hs]
  have hw2 : Msg.wf (Msg.mk zY (Req.mk zH zI zJ zK zL zM zN) (Rep.mk zO zP zQ zR zS zT zU) mn zZ jA (Cmd.mk zV (Req.mk zA zB zC zD zE zF zG) (Rng.mk yA yB yC yD yE ⟨c1a, c1n, c1c⟩ ⟨c2a, c2n, c2c⟩ yL yM) zW zX) ⟨va, vn, vc⟩ (Rng.mk yN yO yP yQ yR ⟨r1a, r1n, r1c⟩ ⟨r2a, r2n, r2c⟩ yY yZ) jB jC ovs) := by
    obtain ⟨q1, q2, q3, q4, q5, q6, ⟨d, e, ⟨r1, r2, r3, r4, r5, r6, r7⟩, p, q⟩, q8, ⟨s1, s2, s3, s4, s5, s6, s7⟩, q10, q11⟩ := HWF.out
    exact ⟨q1, q2, q3, q4, q5, q6, ⟨d, e, ⟨r1, r2, r3, r4, r5, r6, r7⟩, p, q⟩, each_strip hT q8, ⟨s1, s2, s3, s4, s5, s6, s7⟩, q10, q11⟩
  have HW2 := hide' hw2
  have hR3 := blk_later hb3 hR2
  have hbel : Below w.heap.size w w3 := ((hT0.trans (hO1.below (Nat.le_succ _))).trans ⟨hU2.os, hU2.tape, hU2.output, hU2.size, fun k hk => hU2.block k (Nat.lt_trans hk hlt1) (by simp; omega)⟩).trans (hb3.mono (Nat.le_trans (Nat.le_of_lt hlt1) hU2.size))
  have HOK := hide' (hok.trans hg)
  obtain ⟨sB, esB⟩ : ∃ s, s = bstr ((Msg.mk zY (Req.mk zH zI zJ zK zL zM zN) (Rep.mk zO zP zQ zR zS zT zU) mn zZ jA (Cmd.mk zV (Req.mk zA zB zC zD zE zF zG) (Rng.mk yA yB yC yD yE ⟨yF, yG, yH⟩ ⟨yI, yJ, yK⟩ yL yM) zW zX) ⟨jE, jF, jG⟩ (Rng.mk yN yO yP yQ yR ⟨yS, yT, yU⟩ ⟨yV, yW, yX⟩ yY yZ) jB jC jD).bytes) := ⟨_, rfl⟩
  have HBB := hide' ((congrArg bstr hby).trans esB.symm)
  rw [← esB] at hy
  have hne := str_ne hy
  clear esB hy
  clear hs hf hok hby hw2 hA2 hR0 hV0 hR1 hV1 hR2 hS1
  go_wp2_with (first | (with_reducible show wpList _ _ _ ({ dst := some 12, op := Op.load 38 _, type := _, pos := _, after := _, guard := _ } :: _) _ _; go_must (refine wpList_load_blk rfl _ _ rfl (w2.heap.size) 0 rfl 45 _ Try.underlying38 rfl sz_msg _ _ hW3 rfl (rM zY zH zI zJ zK zL zM zN zO zP zQ zR zS zT zU mn zZ jA zV zA zB zC zD zE zF zG yA yB yC yD yE c1a c1n c1c c2a c2n c2c zW zX va vn vc yN yO yP yQ yR r1a r1n r1c r2a r2n r2c jB jC) rfl ?_)) | (go_at_call 11; go_must (refine (marshal_t _ _ _ _ _ _ _ _ _ _ _ _ _ _ _ _ _ _ _ _ _ _ _ _ _ _ _ _ _ _ _ _ _ _ _ _ _ _ _ _ _ _ _ _ _ _ _ _ _ _ _ _ _ _ _ yL yY yM yZ ovs _ (hV2.later hb3) (h3.later hb3) (h4.later hb3) (h1.later hb3) (h2.later hb3) HW2.out HOK.out).mono ?_; rintro e w4 ⟨rfl, hb4⟩; rw [HBB.out]; have hW4 := blk_later hb4 hW3; have hR4 := blk_later hb4 hR3)) | (with_reducible show wpList _ _ _ ({ dst := none, op := Op.store 38 _ _, type := _, pos := _, after := _, guard := none } :: _) _ _; go_must (refine wpList_store_blk rfl _ _ _ rfl rfl (w.heap.size) 0 rfl oxM rfl _ sz_msg rfl rfl _ _ hR4 rfl oxM rfl ?_; intro w5 hR5 hO5)))
  have hlt2 : w.heap.size < w3.heap.size := Nat.lt_of_lt_of_le hlt1 (Nat.le_trans hU2.size hb3.size)
  have hbel5 : Below w.heap.size w w5 := (hbel.trans (hb4.mono (Nat.le_of_lt hlt2))).trans (hO5.below (Nat.le_refl _))
  exact bodyPost_ret (v := .tuple #[.agg (List.toArray oxM), .int .i64 2]) (results_cell_row_tmp Try.results14 _ _ w.heap.size 38 _ (0, 0) _ rfl hR5 Try.underlying38 rfl sz_msg) rfl ⟨rfl, hbel5⟩

end Go.Proofs.Ytignemioillaiaa

