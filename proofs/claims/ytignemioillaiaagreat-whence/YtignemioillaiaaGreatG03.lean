/- The operations are plain. -/
import Derived.Test.YtignemioillaiaaGreatG02
namespace Go.Proofs.YtignemioillaiaaGreat
set_option maxHeartbeats 8000000
set_option maxRecDepth 100000
section
open Go
section
variable{kn:List Nat}
theorem Lf(x0:Go.UnOp)(x1:Go.Value):Plain kn (Go.Op.unary x0 x1:Go.Sem Go.Value):=by
 unfold Go.Op.unary;repeat' (first|(with_reducible first|apply aA|apply xA|apply zC|apply aU|apply aP)|split)
theorem CW(x0:Go.IntKind)(x1:Int):Plain kn (Go.Conv.intToInt x0 x1:Go.Sem Go.Value):=by
 unfold Go.Conv.intToInt;repeat' (with_reducible apply aA)
theorem Ab(x0:Go.FloatKind)(x1:Int):Plain kn (Go.Conv.intToFloat x0 x1:Go.Sem Go.Value):=by
 unfold Go.Conv.intToFloat;repeat' (with_reducible apply aA)
theorem Ac(x0:Go.FloatKind)(x1:Nat)(x2:Go.IntKind):Plain kn (Go.Conv.floatToInt x0 x1 x2:Go.Sem Go.Value):=by
 unfold Go.Conv.floatToInt;repeat' (first|(with_reducible first|apply aA|apply fB|refine Plain.bind' ?_ λ_=>?_)|split)
theorem uT(x0:Go.FloatKind)(x1:Nat)(x2:Nat)(x3:Go.FloatKind):Plain kn (Go.Conv.complexToComplex x0 x1 x2 x3:Go.Sem Go.Value):=by
 unfold Go.Conv.complexToComplex;repeat' (first|(with_reducible first|apply aA|apply lG|apply aP|refine Plain.bind' ?_ λ_=>?_)|split)
theorem zS(x0:Int):Plain kn (Go.Conv.intToString x0:Go.Sem Go.Value):=by
 unfold Go.Conv.intToString;repeat' (with_reducible apply aA)
theorem PO(x0:Go.Addr)(x1:Nat):Plain kn (Go.freeze x0 x1:Go.Sem Unit):=trivial
theorem uU(x0:Go.Addr):Plain kn (Go.markStringish x0:Go.Sem Unit):=by
 unfold Go.markStringish;repeat' (first|(with_reducible first|apply aA|apply iD|apply PO|refine Plain.bind' ?_ λ_=>?_)|split)
theorem xD(x0:Go.TypeId)(x1:ByteArray):Plain kn (Go.Conv.stringToBytes x0 x1:Go.Sem Go.Value):=by
 unfold Go.Conv.stringToBytes;repeat' ((with_reducible first|apply aA|apply fB|apply pY|apply uU|refine Plain.bind' ?_ λ_=>?_))
theorem xE(x0:Go.TypeId)(x1:ByteArray):Plain kn (Go.Conv.stringToRunes x0 x1:Go.Sem Go.Value):=by
 unfold Go.Conv.stringToRunes;repeat' ((with_reducible first|apply aA|apply fB|apply pY|refine Plain.bind' ?_ λ_=>?_))
theorem xG(x0:Go.Value):Plain kn (Go.Conv.bytesToString x0:Go.Sem Go.Value):=by
 unfold Go.Conv.bytesToString;repeat' (first|(with_reducible first|apply aA|apply qC|apply aP|refine Plain.bind' ?_ λ_=>?_|refine cu _ _ _ λ_ _=>?_)|split)
theorem xH(x0:Go.Value):Plain kn (Go.Conv.runesToString x0:Go.Sem Go.Value):=by
 unfold Go.Conv.runesToString;repeat' (first|(with_reducible first|apply aA|apply qC|apply aP|refine Plain.bind' ?_ λ_=>?_|refine cu _ _ _ λ_ _=>?_)|split)
theorem FN(x0:Go.Addr):Plain kn (Go.Conv.seenAt x0:Go.Sem Go.Addr):=by
 unfold Go.Conv.seenAt;repeat' (first|(with_reducible first|apply aA|apply zZ|apply aU|apply fT|apply iD|refine Plain.bind' ?_ λ_=>?_)|split)
theorem NM(x0:Nat):Plain kn (Go.cellsIn x0:Go.Sem (Option Nat)):=by
 unfold Go.cellsIn;repeat' (first|(with_reducible first|apply aA|apply iD|apply iO|refine Plain.bind' ?_ λ_=>?_)|split)
theorem FO(x0:Go.Addr)(x1:Go.TypeId)(x2:Nat):Plain kn (Go.variablesAt x0 x1 x2:Go.Sem Bool):=by
 unfold Go.variablesAt;repeat' (first|(with_reducible first|apply aA|apply fT|apply iD|refine Plain.bind' ?_ λ_=>?_)|split)
theorem xI(x0:Go.TypeId)(x1:Go.TypeId)(x2:Go.Value):Plain kn (Go.Conv.unsafePointer x0 x1 x2:Go.Sem Go.Value):=by
 unfold Go.Conv.unsafePointer;repeat' (first|((with_reducible refine vX _ ?_);rfl)|(with_reducible first|apply aA|apply aT|apply FN|apply NM|apply dV|apply FO|apply iD|apply fT|apply aU|apply Co|apply aP|refine Plain.bind' ?_ λ_=>?_)|split)
theorem NN(x0:Go.TypeId)(x1:Go.TypeId)(x2:Go.Value):Plain kn (Go.convert x0 x1 x2:Go.Sem Go.Value):=by
 unfold Go.convert;repeat' (first|(with_reducible first|apply aA|apply aT|apply CW|apply Ab|apply Ac|apply lG|apply uT|apply zS|apply xD|apply xE|apply aP|apply uU|apply aU|apply xG|apply xH|apply xI|refine Plain.bind' ?_ λ_=>?_)|split)
theorem PQ(x0:Go.Addr)(x1:Nat)(x2:Nat):Plain kn (Go.partAt x0 x1 x2:Go.Sem Go.Addr):=by
 unfold Go.partAt;repeat' ((with_reducible first|apply aA|apply vZ|refine Plain.bind' ?_ λ_=>?_))
theorem Iu(x0:Go.Addr)(x1:Go.Field):Plain kn (Go.fieldPlace x0 x1:Go.Sem Go.Addr):=by
 unfold Go.fieldPlace;repeat' (first|(with_reducible first|apply aA|apply dV|apply PQ|refine Plain.bind' ?_ λ_=>?_)|split)
theorem CX(x0:Go.TypeId)(x1:Go.Value)(x2:Nat):Plain kn (Go.Instr.fieldAt x0 x1 x2:Go.Sem Go.Value):=by
 unfold Go.Instr.fieldAt;repeat' (first|(with_reducible first|apply aA|apply aT|apply jm|apply Iu|apply aP|refine Plain.bind' ?_ λ_=>?_)|split)
theorem Tf(x0:Go.Value):Plain kn (Go.asAgg x0:Go.Sem (Array Go.Value)):=by
 unfold Go.asAgg;repeat' (first|(with_reducible first|apply aA|apply aP)|split)
theorem FP(x0:Go.TypeId)(x1:Go.Value)(x2:Nat):Plain kn (Go.Instr.field x0 x1 x2:Go.Sem Go.Value):=by
 unfold Go.Instr.field;repeat' (first|(with_reducible first|apply aT|apply Tf|apply uK|apply aP|refine Plain.bind' ?_ λ_=>?_)|split)
theorem rM{α:Type}(x1:Go.IntKind)(x2:Int)(x3:Int)(x4:Go.BoundsCode):Plain kn (Go.boundsPanic x1 x2 x3 x4:Go.Sem α):=by
 unfold Go.boundsPanic;repeat' (first|(with_reducible first|apply aA|apply dZ|apply fB|refine Plain.bind' ?_ λ_=>?_|refine Plain.map' ?_)|split)
theorem CY(x0:Go.TypeId)(x1:Go.Value)(x2:Go.Value):Plain kn (Go.Instr.indexAt x0 x1 x2:Go.Sem Go.Value):=by
 unfold Go.Instr.indexAt;repeat' (first|(with_reducible first|apply aA|apply uC|apply aT|apply dV|apply aU|apply rM|apply jm|apply aP|refine Plain.bind' ?_ λ_=>?_)|split|dsimp only)
theorem FQ(x0:Go.TypeId)(x1:Go.Value)(x2:Go.Value):Plain kn (Go.Instr.index x0 x1 x2:Go.Sem Go.Value):=by
 unfold Go.Instr.index;repeat' (first|(with_reducible first|apply aA|apply uC|apply aT|apply dV|apply uK|apply rM|apply aP|refine Plain.bind' ?_ λ_=>?_)|split)
theorem zT(x0:Go.Value)(x1:Nat)(x2:Go.BoundsCode):Plain kn (Go.Instr.sliceBound x0 x1 x2:Go.Sem Nat):=by
 unfold Go.Instr.sliceBound;repeat' (first|(with_reducible first|apply aA|apply uC|apply rM|refine Plain.bind' ?_ λ_=>?_)|split)
theorem qE(x0:Bool)(x1:Nat)(x2:Nat)(x3:Option Go.Value)(x4:Option Go.Value)(x5:Option Go.Value):Plain kn (Go.Instr.sliceBounds x0 x1 x2 x3 x4 x5:Go.Sem (Nat×Nat×Nat)):=by
 unfold Go.Instr.sliceBounds;repeat' (first|(with_reducible first|apply aA|apply zT|apply aP|refine Plain.bind' ?_ λ_=>?_)|split)
theorem Gz(x0:Go.Value):Plain kn (Go.asAddr x0:Go.Sem Go.Addr):=by
 unfold Go.asAddr;repeat' (first|(with_reducible first|apply aA|apply dZ|apply aP)|split)
theorem FR(x0:Go.TypeId)(x1:Go.Value)(x2:Option Go.Value)(x3:Option Go.Value)(x4:Option Go.Value):Plain kn (Go.Instr.slice x0 x1 x2 x3 x4:Go.Sem Go.Value):=by
 unfold Go.Instr.slice;repeat' (first|(with_reducible first|apply aA|apply aT|apply qE|apply aP|apply dV|apply Gz|refine Plain.bind' ?_ λ_=>?_)|split)
theorem CZ(x0:Go.TypeId)(x1:Go.Value)(x2:Option Go.Value)(x3:Option Go.Value)(x4:Option Go.Value):Plain kn (Go.Instr.sliceAt x0 x1 x2 x3 x4:Go.Sem Go.Value):=by
 unfold Go.Instr.sliceAt;repeat' (first|(with_reducible first|apply aA|apply aT|apply jm|apply qE|apply dV|apply FR|refine Plain.bind' ?_ λ_=>?_)|split)
end
end
