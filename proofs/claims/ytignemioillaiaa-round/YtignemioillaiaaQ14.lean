/- What is read is within bounds, and fits: no program text here. -/
import Derived.Test.YtignemioillaiaaQ13
namespace Go.Proofs.Ytignemioillaiaa
open Go.RowKit

theorem n1 {l : List Int} (h : Byt l) : U8 (num 1 l).1 := num1_in h
theorem n4 {l : List Int} (h : Byt l) : U32 (num 4 l).1 := num4_in h
theorem n8 {l : List Int} (h : Byt l) : U64 (num 8 l).1 := num8_in h
theorem u8_0 : U8 0 := by unfold U8; decide
theorem u32_0 : U32 0 := by unfold U32; decide
theorem u64_0 : U64 0 := by unfold U64; decide

/-- What is read keeps P, and what is left is bytes. -/
structure Rdw {α : Type} (P : α → Prop) (x : α × List Int) : Prop where
  a : P x.1
  b : Byt x.2

theorem Rdw.ite {α : Type} {P : α → Prop} {p : Prop} [Decidable p] {x y : α × List Int} (h1 : Rdw P x) (h2 : Rdw P y) : Rdw P (if p then x else y) := by
  by_cases h : p
  · rw [if_pos h]; exact h1
  · rw [if_neg h]; exact h2

theorem Rdw.of {α : Type} {P : α → Prop} {x : α} {r : List Int} (h1 : P x) (h2 : Byt r) : Rdw P (x, r) := ⟨h1, h2⟩

theorem req_wf {c s k key v hi t : Int} (h1 : U8 c) (h2 : U32 s) (h3 : U8 k) (h4 : U64 key) (h5 : U64 v) (h6 : U64 hi) (h7 : U8 t) : Req.wf ⟨c, s, k, key, v, hi, t⟩ := ⟨h1, h2, h3, h4, h5, h6, h7⟩
theorem rep_wf {c s key k v g : Int} {f : Bool} (h1 : U8 c) (h2 : U32 s) (h3 : U64 key) (h4 : U8 k) (h5 : U64 v) (h6 : U8 g) : Rep.wf ⟨c, s, key, k, f, v, g⟩ := ⟨h1, h2, h3, h4, h5, h6⟩
theorem row_wf {k v : Int} (h1 : U64 k) (h2 : U64 v) : Row.wf ⟨k, v⟩ := ⟨h1, h2⟩
theorem cmd_wf {k p s : Int} {q : Req} {r : Rng} (h1 : U8 k) (h2 : q.wf) (h3 : r.wf) (h4 : U8 p) (h5 : U32 s) : Cmd.wf ⟨k, q, r, p, s⟩ := ⟨h1, h2, h3, h4, h5⟩
theorem vot_wf {s n i : Int} {c : Cmd} (h1 : U32 s) (h2 : U32 n) (h3 : U8 i) (h4 : c.wf) : Vot.wf ⟨s, n, i, c⟩ := ⟨h1, h2, h3, h4⟩

theorem wf_req {l : List Int} (h : Byt l) : Rdw Req.wf (rdReq l) := by
  unfold rdReq
  exact Rdw.ite (Rdw.of (req_wf (n1 h) (n4 (byt_num h)) (n1 (byt_num (byt_num h))) (n8 (byt_num (byt_num (byt_num h)))) (n8 (byt_num (byt_num (byt_num (byt_num h))))) u64_0 u8_0) (byt_num (byt_num (byt_num (byt_num (byt_num h))))))
    (Rdw.ite (Rdw.of (req_wf (n1 h) (n4 (byt_num h)) (n1 (byt_num (byt_num h))) (n8 (byt_num (byt_num (byt_num h)))) u64_0 (n8 (byt_num (byt_num (byt_num (byt_num h))))) (n1 (byt_num (byt_num (byt_num (byt_num (byt_num h))))))) (byt_num (byt_num (byt_num (byt_num (byt_num (byt_num h)))))))
      (Rdw.of (req_wf (n1 h) (n4 (byt_num h)) (n1 (byt_num (byt_num h))) (n8 (byt_num (byt_num (byt_num h)))) u64_0 u64_0 u8_0) (byt_num (byt_num (byt_num (byt_num h))))))

theorem wf_rep {l : List Int} (h : Byt l) : Rdw Rep.wf (rdRep l) := by
  have b1 : Byt (num 1 l).2 := byt_num h
  have b2 : Byt (num 4 (num 1 l).2).2 := byt_num b1
  have b3 : Byt (num 8 (num 4 (num 1 l).2).2).2 := byt_num b2
  have b4 : Byt (num 1 (num 8 (num 4 (num 1 l).2).2).2).2 := byt_num b3
  have b5 : Byt (num 1 (num 1 (num 8 (num 4 (num 1 l).2).2).2).2).2 := byt_num b4
  unfold rdRep
  exact Rdw.ite (Rdw.ite (Rdw.of (rep_wf (n1 h) (n4 b1) (n8 b2) (n1 b3) u64_0 u8_0) b5) (Rdw.of (rep_wf (n1 h) (n4 b1) (n8 b2) (n1 b3) (n8 b5) u8_0) (byt_num b5)))
    (Rdw.ite (Rdw.of (rep_wf (n1 h) (n4 b1) (n8 b2) (n1 b3) u64_0 (n1 b4)) b5) (Rdw.of (rep_wf (n1 h) (n4 b1) (n8 b2) (n1 b3) u64_0 u8_0) b4))

theorem wf_row {l : List Int} (h : Byt l) : Rdw Row.wf (rdRow l) := by
  unfold rdRow
  exact Rdw.of (row_wf (n8 h) (n8 (byt_num h))) (byt_num (byt_num h))

/-- Each element keeps P. -/
def Each {α : Type} (P : α → Prop) (xs : List α) : Prop := ∀ (i : Nat) (x : α), xs[i]? = some x → P x

theorem wf_list {α : Type} {f : Rd α} {P : α → Prop} (hf : ∀ l, Byt l → Rdw P (f l)) : ∀ (n : Nat) (l : List Int), Byt l → Rdw (Each P) (rdList f n l) := by
  intro n
  induction n with
  | zero => intro l h; exact ⟨by intro i x hx; simp [rdList] at hx, h⟩
  | succ n ih =>
    intro l h
    unfold rdList
    by_cases hl : l = []
    · rw [if_pos hl]
      exact ⟨by intro i x hx; simp at hx, by intro x hx; simp at hx⟩
    · rw [if_neg hl]
      dsimp only
      obtain ⟨h1, h2⟩ := hf l h
      obtain ⟨h3, h4⟩ := ih _ h2
      refine ⟨?_, h4⟩
      intro i x hx
      cases i with
      | zero => simp at hx; subst hx; exact h1
      | succ i => exact h3 i x (by simpa using hx)

theorem rng_wf {a b s lo hi : Int} {rs ds : Sl} {rows : List Row} {dups : List Rep} (h1 : U8 a) (h2 : U8 b) (h3 : U32 s) (h4 : U64 lo) (h5 : U64 hi) (h6 : Each Row.wf rows) (h7 : Each Rep.wf dups) : Rng.wf ⟨a, b, s, lo, hi, rs, ds, rows, dups⟩ := ⟨h1, h2, h3, h4, h5, h6, h7⟩

theorem wf_rng {l : List Int} (h : Byt l) : Rdw Rng.wf (rdRng l) := by
  have b1 : Byt (num 1 l).2 := byt_num h
  have b2 : Byt (num 1 (num 1 l).2).2 := byt_num b1
  have b3 : Byt (num 4 (num 1 (num 1 l).2).2).2 := byt_num b2
  have b4 : Byt (num 8 (num 4 (num 1 (num 1 l).2).2).2).2 := byt_num b3
  have b5 : Byt (num 8 (num 8 (num 4 (num 1 (num 1 l).2).2).2).2).2 := byt_num b4
  have w1 := wf_list (f := rdRow) (P := Row.wf) (fun l h => wf_row h) (num 1 (num 8 (num 8 (num 4 (num 1 (num 1 l).2).2).2).2).2).1.toNat _ (byt_num (n := 1) b5)
  have w2 := wf_list (f := rdRep) (P := Rep.wf) (fun l h => wf_rep h) (num 1 (rdList rdRow (num 1 (num 8 (num 8 (num 4 (num 1 (num 1 l).2).2).2).2).2).1.toNat (num 1 (num 8 (num 8 (num 4 (num 1 (num 1 l).2).2).2).2).2).2).2).1.toNat _ (byt_num (n := 1) w1.2)
  unfold rdRng
  exact Rdw.of (rng_wf (n1 h) (n1 b1) (n4 b2) (n8 b3) (n8 b4) w1.1 w2.1) w2.2

theorem noReq_wf : noReq.wf := ⟨u8_0, u32_0, u8_0, u64_0, u64_0, u64_0, u8_0⟩
theorem noRep_wf : noRep.wf := ⟨u8_0, u32_0, u64_0, u8_0, u64_0, u8_0⟩
theorem noRng_wf : noRng.wf := ⟨u8_0, u8_0, u32_0, u64_0, u64_0, by intro i x hx; simp [noRng] at hx, by intro i x hx; simp [noRng] at hx⟩
theorem noCmd_wf : noCmd.wf := ⟨u8_0, noReq_wf, noRng_wf, u8_0, u32_0⟩

theorem wf_cmd {l : List Int} (h : Byt l) : Rdw Cmd.wf (rdCmd l) := by
  have b1 : Byt (num 1 l).2 := byt_num h
  unfold rdCmd
  exact Rdw.ite (Rdw.of (cmd_wf (n1 h) (wf_req b1).1 noRng_wf u8_0 u32_0) (wf_req b1).2)
    (Rdw.ite (Rdw.of (cmd_wf (n1 h) noReq_wf (wf_rng b1).1 u8_0 u32_0) (wf_rng b1).2)
      (Rdw.ite (Rdw.of (cmd_wf (n1 h) noReq_wf noRng_wf (n1 b1) (n4 (byt_num b1))) (byt_num (byt_num b1)))
        (Rdw.of (cmd_wf (n1 h) noReq_wf noRng_wf u8_0 u32_0) b1)))

theorem wf_vot {l : List Int} (h : Byt l) : Rdw Vot.wf (rdVot l) := by
  have b1 : Byt (num 4 l).2 := byt_num h
  have b2 : Byt (num 4 (num 4 l).2).2 := byt_num b1
  have b3 : Byt (num 1 (num 4 (num 4 l).2).2).2 := byt_num b2
  unfold rdVot
  exact Rdw.of (vot_wf (n4 h) (n4 b1) (n1 b2) (wf_cmd b3).1) (wf_cmd b3).2

theorem msg_wf {k n i s p q : Int} {a : Req} {b : Rep} {c : Cmd} {r : Rng} {vs : Sl} {votes : List Vot} (h1 : U8 k) (h2 : a.wf) (h3 : b.wf) (h4 : U32 n) (h5 : U8 i) (h6 : U32 s) (h7 : c.wf) (h8 : Each Vot.wf votes) (h9 : r.wf) (h10 : U8 p) (h11 : U32 q) : Msg.wf ⟨k, a, b, n, i, s, c, vs, r, p, q, votes⟩ := ⟨h1, h2, h3, h4, h5, h6, h7, h8, h9, h10, h11⟩

theorem each_nil : Each Vot.wf [] := by intro i x hx; simp at hx

theorem wf_msg {l : List Int} (h : Byt l) : Rdw Msg.wf (rdMsg l) := by
  have b1 : Byt (num 1 l).2 := byt_num h
  have b2 : Byt (num 4 (num 1 l).2).2 := byt_num b1
  have b3 : Byt (num 1 (num 4 (num 1 l).2).2).2 := byt_num b2
  have b4 : Byt (num 4 (num 1 (num 4 (num 1 l).2).2).2).2 := byt_num b3
  have w1 := wf_list (f := rdVot) (P := Vot.wf) (fun l h => wf_vot h) (num 1 (num 1 (num 4 (num 1 l).2).2).2).1.toNat _ (byt_num (n := 1) b3)
  unfold rdMsg
  refine Rdw.ite ?_ (Rdw.ite ?_ (Rdw.ite ?_ (Rdw.ite ?_ (Rdw.ite ?_ (Rdw.ite ?_ (Rdw.ite ?_ (Rdw.ite ?_ (Rdw.ite ?_ ?_))))))))
  · exact Rdw.of (msg_wf (n1 h) (wf_req b1).1 noRep_wf u32_0 u8_0 u32_0 noCmd_wf each_nil noRng_wf u8_0 u32_0) (wf_req b1).2
  · exact Rdw.of (msg_wf (n1 h) noReq_wf (wf_rep b1).1 u32_0 u8_0 u32_0 noCmd_wf each_nil noRng_wf u8_0 u32_0) (wf_rep b1).2
  · exact Rdw.of (msg_wf (n1 h) noReq_wf noRep_wf (n4 b1) (n1 b2) u32_0 noCmd_wf each_nil noRng_wf u8_0 u32_0) b3
  · exact Rdw.of (msg_wf (n1 h) noReq_wf noRep_wf (n4 b1) (n1 b2) u32_0 noCmd_wf w1.1 noRng_wf u8_0 u32_0) w1.2
  · exact Rdw.of (msg_wf (n1 h) noReq_wf noRep_wf (n4 b1) (n1 b2) (n4 b3) (wf_cmd b4).1 each_nil noRng_wf u8_0 u32_0) (wf_cmd b4).2
  · exact Rdw.of (msg_wf (n1 h) noReq_wf noRep_wf (n4 b1) (n1 b2) (n4 b3) noCmd_wf each_nil noRng_wf u8_0 u32_0) b4
  · exact Rdw.of (msg_wf (n1 h) noReq_wf noRep_wf u32_0 u8_0 (n4 b1) (wf_cmd b2).1 each_nil noRng_wf u8_0 u32_0) (wf_cmd b2).2
  · exact Rdw.of (msg_wf (n1 h) noReq_wf noRep_wf u32_0 u8_0 u32_0 noCmd_wf each_nil (wf_rng b1).1 u8_0 u32_0) (wf_rng b1).2
  · exact Rdw.of (msg_wf (n1 h) noReq_wf noRep_wf u32_0 u8_0 u32_0 noCmd_wf each_nil noRng_wf (n1 b1) (n4 (byt_num b1))) (byt_num (byt_num b1))
  · exact Rdw.of (msg_wf (n1 h) noReq_wf noRep_wf u32_0 u8_0 u32_0 noCmd_wf each_nil noRng_wf u8_0 u32_0) b1

theorem msg_strip (l : List Int) : (rdMsg l).1.strip = (rdMsg l).1 := by
  have hv : ∀ (n : Nat) (l : List Int), ((rdList rdVot n l).1.map Vot.strip) = (rdList rdVot n l).1 := by
    intro n
    induction n with
    | zero => intro l; rfl
    | succ n ih =>
      intro l
      unfold rdList
      by_cases hl : l = []
      · rw [if_pos hl]; rfl
      · rw [if_neg hl]; dsimp only
        rw [List.map_cons, vot_strip, ih]
  have hm : ∀ (k n i s p q : Int) (a : Req) (b : Rep) (c : Cmd) (r : Rng) (votes : List Vot), c.strip = c → r.strip = r → votes.map Vot.strip = votes → (Msg.mk k a b n i s c ⟨none, votes.length, votes.length⟩ r p q votes).strip = Msg.mk k a b n i s c ⟨none, votes.length, votes.length⟩ r p q votes := by
    intro k n i s p q a b c r votes h1 h2 h3
    simp only [Msg.strip, h1, h2, h3]
  have hite : ∀ {p : Prop} [Decidable p] {x y : Msg × List Int}, x.1.strip = x.1 → y.1.strip = y.1 → (if p then x else y).1.strip = (if p then x else y).1 := by
    intro p _ x y h1 h2
    by_cases h : p
    · rw [if_pos h]; exact h1
    · rw [if_neg h]; exact h2
  unfold rdMsg
  refine hite ?_ (hite ?_ (hite ?_ (hite ?_ (hite ?_ (hite ?_ (hite ?_ (hite ?_ (hite ?_ ?_))))))))
  · exact hm _ _ _ _ _ _ _ _ _ _ [] rfl rfl rfl
  · exact hm _ _ _ _ _ _ _ _ _ _ [] rfl rfl rfl
  · exact hm _ _ _ _ _ _ _ _ _ _ [] rfl rfl rfl
  · exact hm _ _ _ _ _ _ _ _ _ _ _ rfl rfl (hv _ _)
  · exact hm _ _ _ _ _ _ _ _ _ _ [] (cmd_strip _) rfl rfl
  · exact hm _ _ _ _ _ _ _ _ _ _ [] rfl rfl rfl
  · exact hm _ _ _ _ _ _ _ _ _ _ [] (cmd_strip _) rfl rfl
  · exact hm _ _ _ _ _ _ _ _ _ _ [] rfl (rng_strip _) rfl
  · exact hm _ _ _ _ _ _ _ _ _ _ [] rfl rfl rfl
  · exact hm _ _ _ _ _ _ _ _ _ _ [] rfl rfl rfl

end Go.Proofs.Ytignemioillaiaa
