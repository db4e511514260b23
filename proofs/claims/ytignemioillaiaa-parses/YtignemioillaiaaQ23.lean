/- What the document's reader reads is within bounds: no program text here. What the document's reader reads has no addresses: no program text here. -/
import Derived.Test.YtignemioillaiaaQ21
namespace Go.Proofs.Ytignemioillaiaa
open Go.RowKit

theorem m1 {s : List Int × Bool} (h : Byt s.1) : U8 (bnum 1 s).1 := n1 h
theorem m4 {s : List Int × Bool} (h : Byt s.1) : U32 (bnum 4 s).1 := n4 h
theorem m8 {s : List Int × Bool} (h : Byt s.1) : U64 (bnum 8 s).1 := n8 h
theorem byt_bnum {n : Nat} {s : List Int × Bool} (h : Byt s.1) : Byt (bnum n s).2.1 := byt_num h

/-- What is read keeps P, and what is left is bytes. -/
structure Rbw {α : Type} (P : α → Prop) (x : α × (List Int × Bool)) : Prop where
  a : P x.1
  b : Byt x.2.1

theorem Rbw.ite {α : Type} {P : α → Prop} {p : Prop} [Decidable p] {x y : α × (List Int × Bool)} (h1 : Rbw P x) (h2 : Rbw P y) : Rbw P (if p then x else y) := by
  by_cases h : p
  · rw [if_pos h]; exact h1
  · rw [if_neg h]; exact h2

theorem Rbw.of {α : Type} {P : α → Prop} {x : α} {r : List Int × Bool} (h1 : P x) (h2 : Byt r.1) : Rbw P (x, r) := ⟨h1, h2⟩

theorem bwf_req {l : List Int × Bool} (h : Byt l.1) : Rbw Req.wf (rbReq l) := by
  unfold rbReq
  exact Rbw.ite (Rbw.of (req_wf (m1 h) (m4 (byt_bnum h)) (m1 (byt_bnum (byt_bnum h))) (m8 (byt_bnum (byt_bnum (byt_bnum h)))) (m8 (byt_bnum (byt_bnum (byt_bnum (byt_bnum h))))) u64_0 u8_0) (byt_bnum (byt_bnum (byt_bnum (byt_bnum (byt_bnum h))))))
    (Rbw.ite (Rbw.of (req_wf (m1 h) (m4 (byt_bnum h)) (m1 (byt_bnum (byt_bnum h))) (m8 (byt_bnum (byt_bnum (byt_bnum h)))) u64_0 (m8 (byt_bnum (byt_bnum (byt_bnum (byt_bnum h))))) (m1 (byt_bnum (byt_bnum (byt_bnum (byt_bnum (byt_bnum h))))))) (byt_bnum (byt_bnum (byt_bnum (byt_bnum (byt_bnum (byt_bnum h)))))))
      (Rbw.of (req_wf (m1 h) (m4 (byt_bnum h)) (m1 (byt_bnum (byt_bnum h))) (m8 (byt_bnum (byt_bnum (byt_bnum h)))) u64_0 u64_0 u8_0) (byt_bnum (byt_bnum (byt_bnum (byt_bnum h))))))

theorem bwf_rep {l : List Int × Bool} (h : Byt l.1) : Rbw Rep.wf (rbRep l) := by
  have b1 : Byt (bnum 1 l).2.1 := byt_bnum h
  have b2 : Byt (bnum 4 (bnum 1 l).2).2.1 := byt_bnum b1
  have b3 : Byt (bnum 8 (bnum 4 (bnum 1 l).2).2).2.1 := byt_bnum b2
  have b4 : Byt (bnum 1 (bnum 8 (bnum 4 (bnum 1 l).2).2).2).2.1 := byt_bnum b3
  have b5 : Byt (bnum 1 (bnum 1 (bnum 8 (bnum 4 (bnum 1 l).2).2).2).2).2.1 := byt_bnum b4
  unfold rbRep
  have b6 : Byt ((bnum 1 (bnum 1 (bnum 8 (bnum 4 (bnum 1 l).2).2).2).2).2.1, ((bnum 1 (bnum 1 (bnum 8 (bnum 4 (bnum 1 l).2).2).2).2).2.2 || decide (1 < (bnum 1 (bnum 1 (bnum 8 (bnum 4 (bnum 1 l).2).2).2).2).1))).1 := b5
  exact Rbw.ite (Rbw.ite (Rbw.of (rep_wf (m1 h) (m4 b1) (m8 b2) (m1 b3) (m8 b6) u8_0) (byt_bnum b6)) (Rbw.of (rep_wf (m1 h) (m4 b1) (m8 b2) (m1 b3) u64_0 u8_0) b6))
    (Rbw.ite (Rbw.of (rep_wf (m1 h) (m4 b1) (m8 b2) (m1 b3) u64_0 (m1 b4)) b5) (Rbw.of (rep_wf (m1 h) (m4 b1) (m8 b2) (m1 b3) u64_0 u8_0) b4))

theorem bwf_row {l : List Int × Bool} (h : Byt l.1) : Rbw Row.wf (rbRow l) := by
  unfold rbRow
  exact Rbw.of (row_wf (m8 h) (m8 (byt_bnum h))) (byt_bnum (byt_bnum h))

theorem bwf_list {α : Type} {f : Rb α} {P : α → Prop} (hf : ∀ l, Byt l.1 → Rbw P (f l)) : ∀ (n : Nat) (l : List Int × Bool), Byt l.1 → Rbw (Each P) (rbList f n l) := by
  intro n
  induction n with
  | zero => intro l h; exact ⟨by intro i x hx; simp [rbList] at hx, h⟩
  | succ n ih =>
    intro l h
    unfold rbList
    by_cases hl : l.2 = true
    · rw [if_pos hl]
      exact ⟨by intro i x hx; simp at hx, h⟩
    · rw [if_neg hl]
      dsimp only
      obtain ⟨h1, h2⟩ := hf l h
      obtain ⟨h3, h4⟩ := ih _ h2
      refine ⟨?_, h4⟩
      intro i x hx
      cases i with
      | zero => simp at hx; subst hx; exact h1
      | succ i => exact h3 i x (by simpa using hx)

theorem bwf_rng {l : List Int × Bool} (h : Byt l.1) : Rbw Rng.wf (rbRng l) := by
  have b1 : Byt (bnum 1 l).2.1 := byt_bnum h
  have b2 : Byt (bnum 1 (bnum 1 l).2).2.1 := byt_bnum b1
  have b3 : Byt (bnum 4 (bnum 1 (bnum 1 l).2).2).2.1 := byt_bnum b2
  have b4 : Byt (bnum 8 (bnum 4 (bnum 1 (bnum 1 l).2).2).2).2.1 := byt_bnum b3
  have b5 : Byt (bnum 8 (bnum 8 (bnum 4 (bnum 1 (bnum 1 l).2).2).2).2).2.1 := byt_bnum b4
  have w1 := bwf_list (f := rbRow) (P := Row.wf) (fun l h => bwf_row h) (bnum 1 (bnum 8 (bnum 8 (bnum 4 (bnum 1 (bnum 1 l).2).2).2).2).2).1.toNat _ (byt_bnum (n := 1) b5)
  have w2 := bwf_list (f := rbRep) (P := Rep.wf) (fun l h => bwf_rep h) (bnum 1 (rbList rbRow (bnum 1 (bnum 8 (bnum 8 (bnum 4 (bnum 1 (bnum 1 l).2).2).2).2).2).1.toNat (bnum 1 (bnum 8 (bnum 8 (bnum 4 (bnum 1 (bnum 1 l).2).2).2).2).2).2).2).1.toNat _ (byt_bnum (n := 1) w1.2)
  unfold rbRng
  exact Rbw.of (rng_wf (m1 h) (m1 b1) (m4 b2) (m8 b3) (m8 b4) w1.1 w2.1) w2.2

theorem bwf_cmd {l : List Int × Bool} (h : Byt l.1) : Rbw Cmd.wf (rbCmd l) := by
  have b1 : Byt (bnum 1 l).2.1 := byt_bnum h
  unfold rbCmd
  exact Rbw.ite (Rbw.of (cmd_wf (m1 h) (bwf_req b1).1 noRng_wf u8_0 u32_0) (bwf_req b1).2)
    (Rbw.ite (Rbw.of (cmd_wf (m1 h) noReq_wf (bwf_rng b1).1 u8_0 u32_0) (bwf_rng b1).2)
      (Rbw.ite (Rbw.of (cmd_wf (m1 h) noReq_wf noRng_wf (m1 b1) (m4 (byt_bnum b1))) (byt_bnum (byt_bnum b1)))
        (Rbw.of (cmd_wf (m1 h) noReq_wf noRng_wf u8_0 u32_0) b1)))

theorem bwf_vot {l : List Int × Bool} (h : Byt l.1) : Rbw Vot.wf (rbVot l) := by
  have b1 : Byt (bnum 4 l).2.1 := byt_bnum h
  have b2 : Byt (bnum 4 (bnum 4 l).2).2.1 := byt_bnum b1
  have b3 : Byt (bnum 1 (bnum 4 (bnum 4 l).2).2).2.1 := byt_bnum b2
  unfold rbVot
  exact Rbw.of (vot_wf (m4 h) (m4 b1) (m1 b2) (bwf_cmd b3).1) (bwf_cmd b3).2

theorem bwf_msg {l : List Int × Bool} (h : Byt l.1) : Rbw Msg.wf (rbMsg l) := by
  have b1 : Byt (bnum 1 l).2.1 := byt_bnum h
  have b2 : Byt (bnum 4 (bnum 1 l).2).2.1 := byt_bnum b1
  have b3 : Byt (bnum 1 (bnum 4 (bnum 1 l).2).2).2.1 := byt_bnum b2
  have b4 : Byt (bnum 4 (bnum 1 (bnum 4 (bnum 1 l).2).2).2).2.1 := byt_bnum b3
  have w1 := bwf_list (f := rbVot) (P := Vot.wf) (fun l h => bwf_vot h) (bnum 1 (bnum 1 (bnum 4 (bnum 1 l).2).2).2).1.toNat _ (byt_bnum (n := 1) b3)
  unfold rbMsg
  refine Rbw.ite ?_ (Rbw.ite ?_ (Rbw.ite ?_ (Rbw.ite ?_ (Rbw.ite ?_ (Rbw.ite ?_ (Rbw.ite ?_ (Rbw.ite ?_ (Rbw.ite ?_ ?_))))))))
  · exact Rbw.of (msg_wf (m1 h) (bwf_req b1).1 noRep_wf u32_0 u8_0 u32_0 noCmd_wf each_nil noRng_wf u8_0 u32_0) (bwf_req b1).2
  · exact Rbw.of (msg_wf (m1 h) noReq_wf (bwf_rep b1).1 u32_0 u8_0 u32_0 noCmd_wf each_nil noRng_wf u8_0 u32_0) (bwf_rep b1).2
  · exact Rbw.of (msg_wf (m1 h) noReq_wf noRep_wf (m4 b1) (m1 b2) u32_0 noCmd_wf each_nil noRng_wf u8_0 u32_0) b3
  · exact Rbw.of (msg_wf (m1 h) noReq_wf noRep_wf (m4 b1) (m1 b2) u32_0 noCmd_wf w1.1 noRng_wf u8_0 u32_0) w1.2
  · exact Rbw.of (msg_wf (m1 h) noReq_wf noRep_wf (m4 b1) (m1 b2) (m4 b3) (bwf_cmd b4).1 each_nil noRng_wf u8_0 u32_0) (bwf_cmd b4).2
  · exact Rbw.of (msg_wf (m1 h) noReq_wf noRep_wf (m4 b1) (m1 b2) (m4 b3) noCmd_wf each_nil noRng_wf u8_0 u32_0) b4
  · exact Rbw.of (msg_wf (m1 h) noReq_wf noRep_wf u32_0 u8_0 (m4 b1) (bwf_cmd b2).1 each_nil noRng_wf u8_0 u32_0) (bwf_cmd b2).2
  · exact Rbw.of (msg_wf (m1 h) noReq_wf noRep_wf u32_0 u8_0 u32_0 noCmd_wf each_nil (bwf_rng b1).1 u8_0 u32_0) (bwf_rng b1).2
  · exact Rbw.of (msg_wf (m1 h) noReq_wf noRep_wf u32_0 u8_0 u32_0 noCmd_wf each_nil noRng_wf (m1 b1) (m4 (byt_bnum b1))) (byt_bnum (byt_bnum b1))
  · exact Rbw.of (msg_wf (m1 h) noReq_wf noRep_wf u32_0 u8_0 u32_0 noCmd_wf each_nil noRng_wf u8_0 u32_0) b1

end Go.Proofs.Ytignemioillaiaa

namespace Go.Proofs.Ytignemioillaiaa
open Go.RowKit

theorem brng_strip (l : List Int × Bool) : (rbRng l).1.strip = (rbRng l).1 := by unfold rbRng Rng.strip; dsimp only
theorem bcmd_strip (l : List Int × Bool) : (rbCmd l).1.strip = (rbCmd l).1 := by
  unfold rbCmd; dsimp only
  split
  · rfl
  · split
    · unfold Cmd.strip; dsimp only; rw [brng_strip]
    · split <;> rfl
theorem bvot_strip (l : List Int × Bool) : (rbVot l).1.strip = (rbVot l).1 := by
  unfold rbVot; dsimp only
  unfold Vot.strip; dsimp only; rw [bcmd_strip]

theorem bmsg_strip (l : List Int × Bool) : (rbMsg l).1.strip = (rbMsg l).1 := by
  have hv : ∀ (n : Nat) (l : List Int × Bool), ((rbList rbVot n l).1.map Vot.strip) = (rbList rbVot n l).1 := by
    intro n
    induction n with
    | zero => intro l; rfl
    | succ n ih =>
      intro l
      unfold rbList
      by_cases hl : l.2 = true
      · rw [if_pos hl]; rfl
      · rw [if_neg hl]; dsimp only
        rw [List.map_cons, bvot_strip, ih]
  have hm : ∀ (k n i s p q : Int) (a : Req) (b : Rep) (c : Cmd) (r : Rng) (votes : List Vot), c.strip = c → r.strip = r → votes.map Vot.strip = votes → (Msg.mk k a b n i s c ⟨none, votes.length, votes.length⟩ r p q votes).strip = Msg.mk k a b n i s c ⟨none, votes.length, votes.length⟩ r p q votes := by
    intro k n i s p q a b c r votes h1 h2 h3
    simp only [Msg.strip, h1, h2, h3]
  have hite : ∀ {p : Prop} [Decidable p] {x y : Msg × (List Int × Bool)}, x.1.strip = x.1 → y.1.strip = y.1 → (if p then x else y).1.strip = (if p then x else y).1 := by
    intro p _ x y h1 h2
    by_cases h : p
    · rw [if_pos h]; exact h1
    · rw [if_neg h]; exact h2
  unfold rbMsg
  refine hite ?_ (hite ?_ (hite ?_ (hite ?_ (hite ?_ (hite ?_ (hite ?_ (hite ?_ (hite ?_ ?_))))))))
  · exact hm _ _ _ _ _ _ _ _ _ _ [] rfl rfl rfl
  · exact hm _ _ _ _ _ _ _ _ _ _ [] rfl rfl rfl
  · exact hm _ _ _ _ _ _ _ _ _ _ [] rfl rfl rfl
  · exact hm _ _ _ _ _ _ _ _ _ _ _ rfl rfl (hv _ _)
  · exact hm _ _ _ _ _ _ _ _ _ _ [] (bcmd_strip _) rfl rfl
  · exact hm _ _ _ _ _ _ _ _ _ _ [] rfl rfl rfl
  · exact hm _ _ _ _ _ _ _ _ _ _ [] (bcmd_strip _) rfl rfl
  · exact hm _ _ _ _ _ _ _ _ _ _ [] rfl (brng_strip _) rfl
  · exact hm _ _ _ _ _ _ _ _ _ _ [] rfl rfl rfl
  · exact hm _ _ _ _ _ _ _ _ _ _ [] rfl rfl rfl

end Go.Proofs.Ytignemioillaiaa

