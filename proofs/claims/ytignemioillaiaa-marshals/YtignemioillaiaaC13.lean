/- The document's answer: when a message is right, every one. -/
import Derived.Test.YtignemioillaiaaC10a
import Derived.Test.YtignemioillaiaaC10b
import Derived.Test.YtignemioillaiaaC10c
import Derived.Test.YtignemioillaiaaC10d
import Derived.Test.YtignemioillaiaaC10e
import Derived.Test.YtignemioillaiaaC12
namespace Go.Proofs.Ytignemioillaiaa
open Go.RowKit

set_option maxHeartbeats 1000000 in
set_option maxRecDepth 100000 in
theorem ref_message_e (mkind : Int) (mqc mqs mqk mqkey mqv mqhi mqto : Int) (mpc mps mpkey mpk : Int) (mpf : Bool) (mpv mpg : Int) (mn mid mslot : Int) (mckind : Int) (mcqc mcqs mcqk mcqkey mcqv mcqhi mcqto : Int) (mcrsrc mcrdst mcrseq mcrlo mcrhi : Int) (mcrra : Option Addr) (mcrrn mcrrc : Nat) (mcrda : Option Addr) (mcrdn mcrdc : Nat) (mcpeer mcsq : Int) (mva : Option Addr) (mvn mvc : Nat) (mrsrc mrdst mrseq mrlo mrhi : Int) (mrra : Option Addr) (mrrn mrrc : Nat) (mrda : Option Addr) (mrdn mrdc : Nat) (mpeer msq : Int) (mcrrows mrrows : List Row) (mcrdups mrdups : List Rep) (mvotes : List Vot) (w : World) (h : (mkind == 0) = true ∨ 10 < mkind) :
    Calls Try.prog 35 #[.agg (List.toArray (α := Value) (.int .u8 mkind :: .int .u8 mqc :: .int .u32 mqs :: .int .u8 mqk :: .int .u64 mqkey :: .int .u64 mqv :: .int .u64 mqhi :: .int .u8 mqto :: .int .u8 mpc :: .int .u32 mps :: .int .u64 mpkey :: .int .u8 mpk :: .bool mpf :: .int .u64 mpv :: .int .u8 mpg :: .int .u32 mn :: .int .u8 mid :: .int .u32 mslot :: .int .u8 mckind :: .int .u8 mcqc :: .int .u32 mcqs :: .int .u8 mcqk :: .int .u64 mcqkey :: .int .u64 mcqv :: .int .u64 mcqhi :: .int .u8 mcqto :: .int .u8 mcrsrc :: .int .u8 mcrdst :: .int .u32 mcrseq :: .int .u64 mcrlo :: .int .u64 mcrhi :: .slice mcrra mcrrn mcrrc :: .slice mcrda mcrdn mcrdc :: .int .u8 mcpeer :: .int .u32 mcsq :: .slice mva mvn mvc :: .int .u8 mrsrc :: .int .u8 mrdst :: .int .u32 mrseq :: .int .u64 mrlo :: .int .u64 mrhi :: .slice mrra mrrn mrrc :: .slice mrda mrdn mrdc :: .int .u8 mpeer :: .int .u32 msq :: []))] w fun e w' => e = .returned (.bool (Msg.mk mkind (Req.mk mqc mqs mqk mqkey mqv mqhi mqto) (Rep.mk mpc mps mpkey mpk mpf mpv mpg) mn mid mslot (Cmd.mk mckind (Req.mk mcqc mcqs mcqk mcqkey mcqv mcqhi mcqto) (Rng.mk mcrsrc mcrdst mcrseq mcrlo mcrhi ⟨mcrra, mcrrn, mcrrc⟩ ⟨mcrda, mcrdn, mcrdc⟩ mcrrows mcrdups) mcpeer mcsq) ⟨mva, mvn, mvc⟩ (Rng.mk mrsrc mrdst mrseq mrlo mrhi ⟨mrra, mrrn, mrrc⟩ ⟨mrda, mrdn, mrdc⟩ mrrows mrdups) mpeer msq mvotes).ok) ∧ Below w.heap.size w w' := by
  have hz : mkind = 0 ∨ 10 < mkind := by
    rcases h with h | h
    · exact .inl (by simpa using h)
    · exact .inr h
  have hno : (Msg.mk mkind (Req.mk mqc mqs mqk mqkey mqv mqhi mqto) (Rep.mk mpc mps mpkey mpk mpf mpv mpg) mn mid mslot (Cmd.mk mckind (Req.mk mcqc mcqs mcqk mcqkey mcqv mcqhi mcqto) (Rng.mk mcrsrc mcrdst mcrseq mcrlo mcrhi ⟨mcrra, mcrrn, mcrrc⟩ ⟨mcrda, mcrdn, mcrdc⟩ mcrrows mcrdups) mcpeer mcsq) ⟨mva, mvn, mvc⟩ (Rng.mk mrsrc mrdst mrseq mrlo mrhi ⟨mrra, mrrn, mrrc⟩ ⟨mrda, mrdn, mrdc⟩ mrrows mrdups) mpeer msq mvotes).ok = false := by
    have h1 : (mkind == 1) = false := by simp; omega
    have h2 : (mkind == 2) = false := by simp; omega
    have h3 : (mkind == 3) = false := by simp; omega
    have h4 : (mkind == 4) = false := by simp; omega
    have h5 : (mkind == 5) = false := by simp; omega
    have h6 : (mkind == 6) = false := by simp; omega
    have h7 : (mkind == 7) = false := by simp; omega
    have h8 : (mkind == 8) = false := by simp; omega
    have h9 : (mkind == 9) = false := by simp; omega
    have h10 : (mkind == 10) = false := by simp; omega
    simp [Msg.ok, h1, h2, h3, h4, h5, h6, h7, h8, h9, h10]
  rw [hno]
  have hT := later_alloc w (.cells (List.toArray (α := Value) (.int .u8 mkind :: .int .u8 mqc :: .int .u32 mqs :: .int .u8 mqk :: .int .u64 mqkey :: .int .u64 mqv :: .int .u64 mqhi :: .int .u8 mqto :: .int .u8 mpc :: .int .u32 mps :: .int .u64 mpkey :: .int .u8 mpk :: .bool mpf :: .int .u64 mpv :: .int .u8 mpg :: .int .u32 mn :: .int .u8 mid :: .int .u32 mslot :: .int .u8 mckind :: .int .u8 mcqc :: .int .u32 mcqs :: .int .u8 mcqk :: .int .u64 mcqkey :: .int .u64 mcqv :: .int .u64 mcqhi :: .int .u8 mcqto :: .int .u8 mcrsrc :: .int .u8 mcrdst :: .int .u32 mcrseq :: .int .u64 mcrlo :: .int .u64 mcrhi :: .slice mcrra mcrrn mcrrc :: .slice mcrda mcrdn mcrdc :: .int .u8 mcpeer :: .int .u32 mcsq :: .slice mva mvn mvc :: .int .u8 mrsrc :: .int .u8 mrdst :: .int .u32 mrseq :: .int .u64 mrlo :: .int .u64 mrhi :: .slice mrra mrrn mrrc :: .slice mrda mrdn mrdc :: .int .u8 mpeer :: .int .u32 msq :: [])) 38)
  go_enter Try.func35, Try.ntmps35
  go_wp2_with (go_at_call 36; go_must (refine (ref_letters_e _ _ h).mono ?_; rintro e w1 ⟨rfl, hbel⟩))
  go_ret
  exact ⟨rfl, later_trans hT hbel⟩

set_option maxHeartbeats 1000000 in
set_option maxRecDepth 100000 in
theorem ref_message_any (mkind : Int) (mqc mqs mqk mqkey mqv mqhi mqto : Int) (mpc mps mpkey mpk : Int) (mpf : Bool) (mpv mpg : Int) (mn mid mslot : Int) (mckind : Int) (mcqc mcqs mcqk mcqkey mcqv mcqhi mcqto : Int) (mcrsrc mcrdst mcrseq mcrlo mcrhi : Int) (mcrra : Option Addr) (mcrrn mcrrc : Nat) (mcrda : Option Addr) (mcrdn mcrdc : Nat) (mcpeer mcsq : Int) (mva : Option Addr) (mvn mvc : Nat) (mrsrc mrdst mrseq mrlo mrhi : Int) (mrra : Option Addr) (mrrn mrrc : Nat) (mrda : Option Addr) (mrdn mrdc : Nat) (mpeer msq : Int) (mcrrows mrrows : List Row) (mcrdups mrdups : List Rep) (mvotes : List Vot) (w : World) (hv : VotesIn w.heap.size w ⟨mva, mvn, mvc⟩ mvotes) (hc1 : SlIn w.heap.size w ⟨mcrra, mcrrn, mcrrc⟩ 2 (mcrrows.map Row.cells)) (hc2 : SlIn w.heap.size w ⟨mcrda, mcrdn, mcrdc⟩ 7 (mcrdups.map Rep.cells)) (hr1 : SlIn w.heap.size w ⟨mrra, mrrn, mrrc⟩ 2 (mrrows.map Row.cells)) (hr2 : SlIn w.heap.size w ⟨mrda, mrdn, mrdc⟩ 7 (mrdups.map Rep.cells)) (hwf : (Msg.mk mkind (Req.mk mqc mqs mqk mqkey mqv mqhi mqto) (Rep.mk mpc mps mpkey mpk mpf mpv mpg) mn mid mslot (Cmd.mk mckind (Req.mk mcqc mcqs mcqk mcqkey mcqv mcqhi mcqto) (Rng.mk mcrsrc mcrdst mcrseq mcrlo mcrhi ⟨mcrra, mcrrn, mcrrc⟩ ⟨mcrda, mcrdn, mcrdc⟩ mcrrows mcrdups) mcpeer mcsq) ⟨mva, mvn, mvc⟩ (Rng.mk mrsrc mrdst mrseq mrlo mrhi ⟨mrra, mrrn, mrrc⟩ ⟨mrda, mrdn, mrdc⟩ mrrows mrdups) mpeer msq mvotes).wf) :
    Calls Try.prog 35 #[.agg (List.toArray (α := Value) (.int .u8 mkind :: .int .u8 mqc :: .int .u32 mqs :: .int .u8 mqk :: .int .u64 mqkey :: .int .u64 mqv :: .int .u64 mqhi :: .int .u8 mqto :: .int .u8 mpc :: .int .u32 mps :: .int .u64 mpkey :: .int .u8 mpk :: .bool mpf :: .int .u64 mpv :: .int .u8 mpg :: .int .u32 mn :: .int .u8 mid :: .int .u32 mslot :: .int .u8 mckind :: .int .u8 mcqc :: .int .u32 mcqs :: .int .u8 mcqk :: .int .u64 mcqkey :: .int .u64 mcqv :: .int .u64 mcqhi :: .int .u8 mcqto :: .int .u8 mcrsrc :: .int .u8 mcrdst :: .int .u32 mcrseq :: .int .u64 mcrlo :: .int .u64 mcrhi :: .slice mcrra mcrrn mcrrc :: .slice mcrda mcrdn mcrdc :: .int .u8 mcpeer :: .int .u32 mcsq :: .slice mva mvn mvc :: .int .u8 mrsrc :: .int .u8 mrdst :: .int .u32 mrseq :: .int .u64 mrlo :: .int .u64 mrhi :: .slice mrra mrrn mrrc :: .slice mrda mrdn mrdc :: .int .u8 mpeer :: .int .u32 msq :: []))] w fun e w' => e = .returned (.bool (Msg.mk mkind (Req.mk mqc mqs mqk mqkey mqv mqhi mqto) (Rep.mk mpc mps mpkey mpk mpf mpv mpg) mn mid mslot (Cmd.mk mckind (Req.mk mcqc mcqs mcqk mcqkey mcqv mcqhi mcqto) (Rng.mk mcrsrc mcrdst mcrseq mcrlo mcrhi ⟨mcrra, mcrrn, mcrrc⟩ ⟨mcrda, mcrdn, mcrdc⟩ mcrrows mcrdups) mcpeer mcsq) ⟨mva, mvn, mvc⟩ (Rng.mk mrsrc mrdst mrseq mrlo mrhi ⟨mrra, mrrn, mrrc⟩ ⟨mrda, mrdn, mrdc⟩ mrrows mrdups) mpeer msq mvotes).ok) ∧ Below w.heap.size w w' := by
  by_cases k1 : mkind = 1
  · by_cases h0 : mvn = 0
    · apply ref_message_1z <;> assumption
    · apply ref_message_1n <;> assumption
  by_cases k2 : mkind = 2
  · by_cases h0 : mvn = 0
    · apply ref_message_2z <;> assumption
    · apply ref_message_2n <;> assumption
  by_cases k3 : mkind = 3
  · by_cases h0 : mvn = 0
    · apply ref_message_3z <;> assumption
    · apply ref_message_3n <;> assumption
  by_cases k4 : mkind = 4
  · by_cases h0 : mvn ≤ 255
    · apply ref_message_4l <;> assumption
    · have h0' : 255 < mvn := by omega
      apply ref_message_4g <;> assumption
  by_cases k5 : mkind = 5
  · by_cases h0 : mvn = 0
    · apply ref_message_5z <;> assumption
    · apply ref_message_5n <;> assumption
  by_cases k6 : mkind = 6
  · by_cases h0 : mvn = 0
    · apply ref_message_6z <;> assumption
    · apply ref_message_6n <;> assumption
  by_cases k7 : mkind = 7
  · by_cases h0 : mvn = 0
    · apply ref_message_7z <;> assumption
    · apply ref_message_7n <;> assumption
  by_cases k8 : mkind = 8
  · by_cases h0 : mvn = 0
    · apply ref_message_8z <;> assumption
    · apply ref_message_8n <;> assumption
  by_cases k9 : mkind = 9
  · by_cases h0 : mvn = 0
    · apply ref_message_9z <;> assumption
    · apply ref_message_9n <;> assumption
  by_cases k10 : mkind = 10
  · by_cases h0 : mvn = 0
    · apply ref_message_10z <;> assumption
    · apply ref_message_10n <;> assumption
  have hkd := hwf.kind
  simp only [U8] at hkd
  have h9 : (mkind == 0) = true ∨ 10 < mkind := by
    by_cases h0 : mkind = 0
    · exact .inl (by simp [h0])
    · exact .inr (by omega)
  apply ref_message_e
  exact h9

end Go.Proofs.Ytignemioillaiaa
