/- Votes and messages: when they are right; a struct read out of a slice. -/
import Derived.Test.YtbdmodeccbklpaaD2
namespace Go.Proofs.Ytbdmodeccbklpaa
open Go.RowKit

def voteAt (votes : List Vot) (i : Nat) : Bool :=
  match votes[i]? with
  | none => true
  | some x => x.cmd.ok && (i == 0 || match votes[i - 1]? with
    | none => true
    | some y => decide (y.slot < x.slot))

def votesOk (votes : List Vot) : Bool := decide (votes.length ≤ 255) && (List.range votes.length).all (voteAt votes)

structure VotesIn (B : Nat) (w : World) (s : Sl) (votes : List Vot) : Prop where
  sl : SlIn B w s 20 (votes.map Vot.cells)
  all : ∀ (i : Nat) (v : Vot), votes[i]? = some v → v.cmd.rng.In B w

theorem VotesIn.below {B B' : Nat} {w w' : World} {s : Sl} {votes : List Vot} (h : VotesIn B w s votes) (hb : Below B' w w') (hB : B ≤ B') : VotesIn B w' s votes :=
  ⟨h.sl.below hb hB, fun i v hv => (h.all i v hv).below hb hB⟩

theorem VotesIn.later {w w' : World} {s : Sl} {votes : List Vot} (h : VotesIn w.heap.size w s votes) (hb : Below w.heap.size w w') : VotesIn w'.heap.size w' s votes :=
  ⟨h.sl.later hb, fun i v hv => ⟨(h.all i v hv).rows.later hb, (h.all i v hv).dups.later hb⟩⟩

def Msg.ok (m : Msg) : Bool :=
  let q := m.req.no; let p := m.rep.no; let b := m.n == 0 && m.id == 0; let s := m.slot == 0; let c := m.cmd.kind == 0 && m.cmd.bare; let v := m.vs.len == 0; let r := m.rng.no; let e := m.peer == 0 && m.seq == 0
  (m.kind == 1 && m.req.ok && p && b && s && c && v && r && e) || (m.kind == 2 && q && m.rep.ok && b && s && c && v && r && e) ||
  ((m.kind == 3 || m.kind == 5) && q && p && s && c && v && r && e) || (m.kind == 4 && q && p && s && c && votesOk m.votes && r && e) ||
  (m.kind == 6 && q && p && m.cmd.ok && v && r && e) || (m.kind == 7 && q && p && c && v && r && e) || (m.kind == 8 && q && p && b && m.cmd.ok && v && r && e) ||
  (m.kind == 9 && q && p && b && s && c && v && m.rng.ok && e) || (m.kind == 10 && q && p && b && s && c && v && r && decide (m.peer < 4))

theorem votes_bad {votes : List Vot} {k : Nat} (h : k < votes.length) (hb : voteAt votes k = false) : votesOk votes = false := by
  unfold votesOk
  rw [all_bad h hb, Bool.and_false]
theorem voteAt_nok {votes : List Vot} {k : Nat} {x : Vot} (hx : votes[k]? = some x) (h : ¬ x.cmd.ok = true) : voteAt votes k = false := by
  unfold voteAt; rw [hx]
  simp at h; simp [h]
theorem voteAt_prev {votes : List Vot} {k : Nat} {x y : Vot} (hx : votes[k]? = some x) (h0 : 0 < k) (hy : votes[k - 1]? = some y) (h : x.slot ≤ y.slot) : voteAt votes k = false := by
  have : (k == 0) = false := by simp; omega
  unfold voteAt; rw [hx]
  simp [hy, this]; intros; omega
theorem voteAt_good {votes : List Vot} {k : Nat} {x : Vot} (hx : votes[k]? = some x) (h : x.cmd.ok = true) (hy : k = 0 ∨ ∃ y, votes[k - 1]? = some y ∧ y.slot < x.slot) : voteAt votes k = true := by
  unfold voteAt; rw [hx]
  rcases hy with rfl | ⟨y, hy, hlt⟩
  · simp [h]
  · simp [h, hy, hlt]

theorem load_mem {P : Program} (ty : TypeId) {w : World} {b o : Nat} (n : Nat) (d : TypeDesc) (hu : P.underlying ty = some d)
    (hd : (match d with | .struct _ | .array _ _ => true | _ => false) = true) (hi : (P.info? ty).map (·.size) = some n) (cs : List Value) (hn : cs.length = n) (hc : ∀ (j : Nat) (u : Value), cs[j]? = some u → w.cell? ⟨b, o + j, none⟩ = some u) :
    (Instr.loadAt ty (.pointer (some ⟨b, o, none⟩))).run P w = .ok (.agg cs.toArray) w := by
  have hl : (loadCells ⟨b, o, none⟩ cs.length).run P w = .ok cs.toArray w :=
    run_loadCells_list (P := P) w ⟨b, o, none⟩ _ (fun j v hv => by
      have hadd : (⟨b, o, none⟩ : Addr).add j = ⟨b, o + j, none⟩ := by unfold Addr.add; split <;> simp_all
      rw [hadd]; exact hc j v hv)
  rw [hn] at hl
  cases hq : P.info? ty with
  | none => simp [hq] at hi
  | some i =>
    have hs : i.size = n := by simpa [hq] using hi
    have hagg : (isAgg ty).run P w = .ok true w := by
      unfold isAgg
      rw [Sem.run_bind, run_underlying hu w]
      cases d <;> simp_all
    simp [Instr.loadAt, Instr.sureAddr, loadVar, Sem.run_bind, hagg, sizeOf, typeInfo, hq, hs, hl]

theorem wpList_load_mem {P : Program} {ops : Array Oper} {rest : List Oper} {op : Oper} {a : Act} {w : World} {Q : Exit → Act → World → Prop} (hw : Region.wanted op (yielded ops a.tmps) = true) (ty : TypeId) (x : Operand) (ho : op.op = .load ty x)
    (b o : Nat) (hx : a.eval x = .pointer (some ⟨b, o, none⟩)) (n : Nat) (d : TypeDesc) (hu : P.underlying ty = some d) (hd : (match d with | .struct _ | .array _ _ => true | _ => false) = true) (hi : (P.info? ty).map (·.size) = some n)
    (cs : List Value) (hn : cs.length = n) (hc : ∀ (j : Nat) (u : Value), cs[j]? = some u → w.cell? ⟨b, o + j, none⟩ = some u)
    (h : wpList P ops Q rest (a.put op.dst (.agg cs.toArray)) w) : wpList P ops Q (op :: rest) a w :=
  wpList_step fun K hK => by
    have hr := load_mem (P := P) ty n d hu hd hi cs hn hc
    rw [if_pos hw]
    unfold Oper.wp execOp
    simp only [ho, hx, Sem.run_bind, hr, Result.andThen_ok, Sem.run_pure, Oper.upon]
    exact hK _ _ h

theorem SlIn.el {B : Nat} {w : World} {s : Sl} {size : Nat} {xs : List (List Value)} (h : SlIn B w s size xs) {i : Nat} {x : List Value} (hx : xs[i]? = some x) :
    ∃ b off, s.a = some ⟨b, off, none⟩ ∧ b < B ∧ ∀ (j : Nat) (u : Value), x[j]? = some u → w.cell? ⟨b, off + i * size + j, none⟩ = some u := by
  have hi := (List.getElem?_eq_some_iff.1 hx).1
  obtain ⟨b, off, ha, hlt, hc⟩ := h.at' (by rw [h.len]; omega)
  exact ⟨b, off, ha, hlt, hc i x hx⟩

end Go.Proofs.Ytbdmodeccbklpaa
