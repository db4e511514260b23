/- The code of the program that is allowed: which functions, which slots hold functions. -/
import Derived.Test.YtignemioillaiaaGreatG25
import Derived.Test.YtignemioillaiaaGreatProg
import Derived.KernelRfl
namespace Go.Proofs.YtignemioillaiaaGreat
set_option maxHeartbeats 8000000
set_option maxRecDepth 100000
section
open Go Go.Conc
def slotsOf : FuncId → List Nat
  | 46 => [24]
  | 89 | 92 => [1, 20]
  | 95 => [1, 9, 26]
  | 134 | 204 => [2, 24, 40]
  | 151 => [1, 11]
  | 161 => [32]
  | 195 | 225 | 227 => [1, 16]
  | 199 => [21, 26]
  | 218 | 236 | 238 => [2, 20]
  | _ => []
def kH (f : FuncId) : Bool := decide (f < 241) && !([0, 1, 2, 4, 5, 6, 7, 20, 24, 27, 59, 69, 70, 106, 124, 127, 154, 172].contains f)
def isRow (f : FuncId) : Bool := f == 206 || f == 208
def Gl (f : FuncId) (fn : Func) : Bool := !kH f || isRow f || (!(fn.name == "runtime.NumGoroutine") && (fn.body.map (iO kH slotsOf f)).getD false)
theorem Mq : (List.range Tryz.prog.funcs.size).all (fun f => (Tryz.prog.funcs[f]?).any (Gl f)) = true := by kernel_rfl
end
end Go.Proofs.YtignemioillaiaaGreat
