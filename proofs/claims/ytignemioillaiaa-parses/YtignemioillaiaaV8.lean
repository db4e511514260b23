/- What the document's Parse needs: its answer, and the reader's calls by their values. -/
import Derived.Test.YtignemioillaiaaD4
import Derived.Test.YtignemioillaiaaV7
import Derived.Test.YtignemioillaiaaQ15
import Derived.Test.YtignemioillaiaaQ21
import Derived.Test.YtignemioillaiaaQ23
import Derived.Test.YtignemioillaiaaY1
import Derived.Test.YtignemioillaiaaK18
import Derived.Test.YtignemioillaiaaC9
namespace Go.Proofs.Ytignemioillaiaa
open Go.RowKit

/-- A message whose lists are owned. -/
structure Msg.Own (S : Nat) (w : World) (m : Msg) : Prop where
  vs : w.ownsRow S 84 20 m.vs.val m.votes.length (m.votes.map Vot.cells).flatten
  all : ∀ (i : Nat) (x : Vot), m.votes[i]? = some x → x.cmd.rng.Own S w
  cmd : m.cmd.rng.Own S w
  rng : m.rng.Own S w
theorem Msg.Own.In {S : Nat} {w : World} {m : Msg} (h : m.Own S w) : m.In w := ⟨⟨own_slin' (by rw [List.length_map]; exact h.vs) (vots_all _), fun i x hx => (h.all i x hx).In⟩, h.cmd.In, h.rng.In⟩

/-- The document's Parse of the bytes l has answered: M was read (br: and it was broken). -/
def RefOut (l : List Int) (M : Msg) (br : Bool) (w w' : World) (e : Ending) : Prop :=
  Below w.heap.size w w' ∧ ((br = false ∧ M.ok = true ∧ M.bytes = l) ∧ (∃ m : Msg, m.strip = M.strip ∧ m.wf ∧ m.Own w.heap.size w' ∧ e = .returned (.tuple #[.agg m.cells.toArray, .int .i64 0])) ∨
    ¬ (br = false ∧ M.ok = true ∧ M.bytes = l) ∧ e = .returned (.tuple #[.agg (bareMsg 0).cells.toArray, .int .i64 2]))

theorem wrap32 {v : Int} (h : U32 v) : IntKind.u32.wrap v = v := by unfold U32 at h; have e : IntKind.u32.wrap v = v % 4294967296 := rfl; rw [e]; omega
theorem wrap8 {v : Int} (h : U8 v) : IntKind.u8.wrap v = v := by unfold U8 at h; have e : IntKind.u8.wrap v = v % 256 := rfl; rw [e]; omega
theorem upd_of_below {B : Nat} {w w' : World} (h : Below w.heap.size w w') : Upd B w w' := ⟨h.os, h.tape, h.output, h.size, fun k hk _ => h.block k hk⟩
theorem below_of_upd {w w' : World} (h : Upd (w.heap.size + 1) w w') : Below w.heap.size w w' := ⟨h.os, h.tape, h.output, h.size, fun k hk => h.block k hk (by simp; omega)⟩
theorem Rst.later {B : Nat} {w w' : World} {s : List Int × Bool} (h : Rst B w s) (hb : Below w.heap.size w w') : Rst B w' s := ⟨blk_later hb h.blk, h.byt, h.len⟩
theorem mE_yes {m : Msg} (h : m.ok = true) : mE m = 0 := by unfold mE; rw [h]; rfl
theorem mE_no {m : Msg} (h : ¬ m.ok = true) : mE m = 1 := by unfold mE; rw [if_neg h]
theorem mS_yes {m : Msg} (h : m.ok = true) : mS m = bstr m.bytes := by unfold mS; rw [h]; rfl
theorem str_eqV (a : ByteArray) : (!a.toList == a.toList) = false := by simp

set_option maxRecDepth 100000 in
theorem rest_raw {B n : Nat} {v : Int} {s st : List Int × Bool} (h : bnum n s = (v, st)) (w : World) (hr : Rst B w s) (hk : (n : Int) = 1 ∨ (n : Int) = 4 ∨ (n : Int) = 8) :
    Calls Try.prog 46 #[.pointer (some ⟨B, 0, none⟩), .int .i64 n] w fun e w' => e = .returned (.int .u64 v) ∧ Rst B w' st ∧ Upd B w w' := by
  have := rest_k B s n w hr hk
  simp only [Int.toNat_natCast] at this
  rw [h] at this
  exact this
theorem req_raw {B : Nat} {qc qs qk qkey qv qhi qto : Int} {s st : List Int × Bool} (h : rbReq s = ((Req.mk qc qs qk qkey qv qhi qto), st)) (w : World) (hr : Rst B w s) :
    Calls Try.prog 47 #[.pointer (some ⟨B, 0, none⟩)] w fun e w' => e = .returned (.agg (List.toArray (rQ qc qs qk qkey qv qhi qto))) ∧ Rst B w' st ∧ Upd B w w' := by
  have := rest_req B s w hr
  rw [h] at this
  exact this
theorem rep_raw {B : Nat} {pc ps pkey pk : Int} {pf : Bool} {pv pg : Int} {s st : List Int × Bool} (h : rbRep s = ((Rep.mk pc ps pkey pk pf pv pg), st)) (w : World) (hr : Rst B w s) :
    Calls Try.prog 48 #[.pointer (some ⟨B, 0, none⟩)] w fun e w' => e = .returned (.agg (List.toArray (rP pc ps pkey pk pf pv pg))) ∧ Rst B w' st ∧ Upd B w w' := by
  have := rest_rep B s w hr
  rw [h] at this
  exact this
theorem bal_raw {B : Nat} {n i : Int} {s sa st : List Int × Bool} (h : bnum 4 s = (n, sa)) (h2 : bnum 1 sa = (i, st)) (w : World) (hr : Rst B w s) :
    Calls Try.prog 49 #[.pointer (some ⟨B, 0, none⟩)] w fun e w' => e = .returned (.agg #[.int .u32 n, .int .u8 i]) ∧ Rst B w' st ∧ Upd B w w' := by
  have := rest_ballot B s w hr
  rw [h, h2] at this
  exact this
theorem rng_raw {B : Nat} {rsrc rdst rseq rlo rhi : Int} {rs ds : Sl} {rrows : List Row} {rdups : List Rep} {s st : List Int × Bool} (h : rbRng s = (⟨rsrc, rdst, rseq, rlo, rhi, rs, ds, rrows, rdups⟩, st)) (w : World) (hr : Rst B w s) :
    Calls Try.prog 51 #[.pointer (some ⟨B, 0, none⟩)] w fun e w' => ∃ (ra : Option Addr) (rn rc : Nat) (da : Option Addr) (dn dc : Nat), e = .returned (.agg (List.toArray (rR rsrc rdst rseq rlo rhi ra rn rc da dn dc))) ∧ w'.ownsRow w.heap.size 82 2 (.slice ra rn rc) rrows.length (rrows.map Row.cells).flatten ∧ w'.ownsRow w.heap.size 27 7 (.slice da dn dc) rdups.length (rdups.map Rep.cells).flatten ∧ Rst B w' st ∧ Upd B w w' := by
  have := rest_rng B s w hr
  rw [h] at this
  exact this

theorem ref_ans {a b : Msg} (h : a.strip = b.strip) (hb : b.strip = b) (ha : a.fit) : mS a = mS b ∧ mE a = mE b := msg_twin h ha (by rw [← hb]; exact strip_fit b)
theorem wf_strip {a b : Msg} (h : a.strip = b.strip) (hw : b.wf) : a.wf := by
  have h1 : b.strip.wf := by
    obtain ⟨q1, q2, q3, q4, q5, q6, ⟨d, e, ⟨r1, r2, r3, r4, r5, r6, r7⟩, p, q⟩, q8, ⟨s1, s2, s3, s4, s5, s6, s7⟩, q10, q11⟩ := hw
    exact ⟨q1, q2, q3, q4, q5, q6, ⟨d, e, ⟨r1, r2, r3, r4, r5, r6, r7⟩, p, q⟩, (fun i x hx => by
      simp only [Msg.strip, List.getElem?_map, Option.map_eq_some_iff] at hx
      obtain ⟨y, hy, rfl⟩ := hx
      obtain ⟨a, b, c, ⟨d, e, ⟨r1, r2, r3, r4, r5, r6, r7⟩, p, q⟩⟩ := q8 i y hy
      exact ⟨a, b, c, ⟨d, e, ⟨r1, r2, r3, r4, r5, r6, r7⟩, p, q⟩⟩), ⟨s1, s2, s3, s4, s5, s6, s7⟩, q10, q11⟩
  rw [← h] at h1
  obtain ⟨q1, q2, q3, q4, q5, q6, ⟨d, e, ⟨r1, r2, r3, r4, r5, r6, r7⟩, p, q⟩, q8, ⟨s1, s2, s3, s4, s5, s6, s7⟩, q10, q11⟩ := h1
  exact ⟨q1, q2, q3, q4, q5, q6, ⟨d, e, ⟨r1, r2, r3, r4, r5, r6, r7⟩, p, q⟩, each_strip rfl q8, ⟨s1, s2, s3, s4, s5, s6, s7⟩, q10, q11⟩
end Go.Proofs.Ytignemioillaiaa

