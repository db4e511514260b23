/- A struct held against the empty one: one answer, not one a field. -/
import Derived.Test.YtignemioillaiaaC8
namespace Go.Proofs.Ytignemioillaiaa
open Go.RowKit

/-- An operation that yields a value and leaves the world. -/
theorem wpList_val {P : Program} {ops : Array Oper} {rest : List Oper} {op : Oper} {a : Act} {w : World} {Q : Exit → Act → World → Prop} (hw : Region.wanted op (yielded ops a.tmps) = true) (v : Value)
    (hrun : (execOp a.eval op).run P w = .ok (.value v) w) (h : wpList P ops Q rest (a.put op.dst v) w) : wpList P ops Q (op :: rest) a w :=
  wpList_step fun K hK => by
    rw [if_pos hw]
    unfold Oper.wp
    rw [hrun]
    exact hK _ _ h

theorem run_eql {P : Program} (op : Oper) (a : Act) (w : World) (t : TypeId) (x y : Operand) (ho : op.op = .binOp .eql t x y t) (us vs : Array Value) (r : Value) (hx : a.eval x = .agg us) (hy : a.eval y = .agg vs) (hm : P.eqGuardType P.depth t = false)
    (h : (binOp .eql t (.agg us) (.agg vs)).run P w = Result.ok r w) : (execOp a.eval op).run P w = .ok (.value r) w := by
  unfold execOp
  simp only [ho, hx, hy, Sem.run_bind, run_eqGuard_agg w .eql t x y us vs hm, h, Result.andThen_ok, Sem.run_pure]

theorem gd_req : Try.prog.eqGuardType Try.prog.depth 25 = false := by kernel_rfl
theorem gd_rep : Try.prog.eqGuardType Try.prog.depth 27 = false := by kernel_rfl
theorem gd_bal : Try.prog.eqGuardType Try.prog.depth 29 = false := by kernel_rfl

set_option maxRecDepth 100000 in
theorem eql_req (qc qs qk qkey qv qhi qto : Int) (w : World) : (binOp .eql 25 (.agg #[.int .u8 qc, .int .u32 qs, .int .u8 qk, .int .u64 qkey, .int .u64 qv, .int .u64 qhi, .int .u8 qto]) (.agg #[.int .u8 0, .int .u32 0, .int .u8 0, .int .u64 0, .int .u64 0, .int .u64 0, .int .u8 0])).run Try.prog w = Result.ok (.bool (Req.mk qc qs qk qkey qv qhi qto).no) w := by
  go_simp
  simp only [Req.no]
  repeat' split
  all_goals simp_all

set_option maxRecDepth 100000 in
theorem eql_rep (pc ps pkey pk : Int) (pf : Bool) (pv pg : Int) (w : World) : (binOp .eql 27 (.agg #[.int .u8 pc, .int .u32 ps, .int .u64 pkey, .int .u8 pk, .bool pf, .int .u64 pv, .int .u8 pg]) (.agg #[.int .u8 0, .int .u32 0, .int .u64 0, .int .u8 0, .bool false, .int .u64 0, .int .u8 0])).run Try.prog w = Result.ok (.bool (Rep.mk pc ps pkey pk pf pv pg).no) w := by
  go_simp
  simp only [Rep.no]
  repeat' split
  all_goals simp_all

set_option maxRecDepth 100000 in
theorem eql_bal (n id : Int) (w : World) : (binOp .eql 29 (.agg #[.int .u32 n, .int .u8 id]) (.agg #[.int .u32 0, .int .u8 0])).run Try.prog w = Result.ok (.bool (n == 0 && id == 0)) w := by
  go_simp
  repeat' split
  all_goals simp_all

end Go.Proofs.Ytignemioillaiaa
