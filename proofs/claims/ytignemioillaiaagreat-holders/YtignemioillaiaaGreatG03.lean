/- Lemmas. -/
import Derived.Test.YtignemioillaiaaGreatG02
namespace Go.Proofs.YtignemioillaiaaGreat
set_option maxHeartbeats 8000000
set_option maxRecDepth 100000
open List
section
open Go
section
variable{kn:List Nat}
theorem Mf(x0:Go.UnOp)(x1:Value):Plain kn (Op.unary x0 x1:Sem Value):=by
 unfold Op.unary;repeat' (first|(with_reducible first|apply az|apply xS|apply zX|apply aU|apply aP)|split)
theorem Dv(x0:IntKind)(x1:Int):Plain kn (Conv.intToInt x0 x1:Sem Value):=by
 unfold Conv.intToInt;repeat' (with_reducible apply az)
theorem Aw(x0:FloatKind)(x1:Int):Plain kn (Conv.intToFloat x0 x1:Sem Value):=by
 unfold Conv.intToFloat;repeat' (with_reducible apply az)
theorem Ay(x0:FloatKind)(x1:Nat)(x2:IntKind):Plain kn (Conv.floatToInt x0 x1 x2:Sem Value):=by
 unfold Conv.floatToInt;repeat' (first|(with_reducible first|apply az|apply fJ|refine Plain.bind' ?_ λ_=>?_)|split)
theorem vF(x0:FloatKind)(x1:Nat)(x2:Nat)(x3:FloatKind):Plain kn (Conv.complexToComplex x0 x1 x2 x3:Sem Value):=by
 unfold Conv.complexToComplex;repeat' (first|(with_reducible first|apply az|apply lY|apply aP|refine Plain.bind' ?_ λ_=>?_)|split)
theorem Aj(x0:Int):Plain kn (Conv.intToString x0:Sem Value):=by
 unfold Conv.intToString;repeat' (with_reducible apply az)
theorem Qp(x0:Addr)(x1:Nat):Plain kn (Go.freeze x0 x1:Sem Unit):=trivial
theorem vG(x0:Addr):Plain kn (Go.markStringish x0:Sem Unit):=by
 unfold Go.markStringish;repeat' (first|(with_reducible first|apply az|apply iK|apply Qp|refine Plain.bind' ?_ λ_=>?_)|split)
theorem xW(x0:TypeId)(x1:ByteArray):Plain kn (Conv.stringToBytes x0 x1:Sem Value):=by
 unfold Conv.stringToBytes;repeat' ((with_reducible first|apply az|apply fJ|apply qy|apply vG|refine Plain.bind' ?_ λ_=>?_))
theorem xX(x0:TypeId)(x1:ByteArray):Plain kn (Conv.stringToRunes x0 x1:Sem Value):=by
 unfold Conv.stringToRunes;repeat' ((with_reducible first|apply az|apply fJ|apply qy|refine Plain.bind' ?_ λ_=>?_))
theorem xY(x0:Value):Plain kn (Conv.bytesToString x0:Sem Value):=by
 unfold Conv.bytesToString;repeat' (first|(with_reducible first|apply az|apply qP|apply aP|refine Plain.bind' ?_ λ_=>?_|refine cu _ _ _ λ_ _=>?_)|split)
theorem xZ(x0:Value):Plain kn (Conv.runesToString x0:Sem Value):=by
 unfold Conv.runesToString;repeat' (first|(with_reducible first|apply az|apply qP|apply aP|refine Plain.bind' ?_ λ_=>?_|refine cu _ _ _ λ_ _=>?_)|split)
theorem Gm(x0:Addr):Plain kn (Conv.seenAt x0:Sem Addr):=by
 unfold Conv.seenAt;repeat' (first|(with_reducible first|apply az|apply Au|apply aU|apply gz|apply iK|refine Plain.bind' ?_ λ_=>?_)|split)
theorem Oy(x0:Nat):Plain kn (Go.cellsIn x0:Sem (Option Nat)):=by
 unfold Go.cellsIn;repeat' (first|(with_reducible first|apply az|apply iK|apply iV|refine Plain.bind' ?_ λ_=>?_)|split)
theorem Gn(x0:Addr)(x1:TypeId)(x2:Nat):Plain kn (Go.variablesAt x0 x1 x2:Sem Bool):=by
 unfold Go.variablesAt;repeat' (first|(with_reducible first|apply az|apply gz|apply iK|refine Plain.bind' ?_ λ_=>?_)|split)
theorem yc(x0:TypeId)(x1:TypeId)(x2:Value):Plain kn (Conv.unsafePointer x0 x1 x2:Sem Value):=by
 unfold Conv.unsafePointer;repeat' (first|((with_reducible refine wJ _ ?_);rfl)|(with_reducible first|apply az|apply aS|apply Gm|apply Oy|apply dV|apply Gn|apply iK|apply gz|apply aU|apply CU|apply aP|refine Plain.bind' ?_ λ_=>?_)|split)
theorem Oz(x0:TypeId)(x1:TypeId)(x2:Value):Plain kn (Go.convert x0 x1 x2:Sem Value):=by
 unfold Go.convert;repeat' (first|(with_reducible first|apply az|apply aS|apply Dv|apply Aw|apply Ay|apply lY|apply vF|apply Aj|apply xW|apply xX|apply aP|apply vG|apply aU|apply xY|apply xZ|apply yc|refine Plain.bind' ?_ λ_=>?_)|split)
theorem Qq(x0:Addr)(x1:Nat)(x2:Nat):Plain kn (Go.partAt x0 x1 x2:Sem Addr):=by
 unfold Go.partAt;repeat' ((with_reducible first|apply az|apply wL|refine Plain.bind' ?_ λ_=>?_))
theorem I6(x0:Addr)(x1:Go.Field):Plain kn (Go.fieldPlace x0 x1:Sem Addr):=by
 unfold Go.fieldPlace;repeat' (first|(with_reducible first|apply az|apply dV|apply Qq|refine Plain.bind' ?_ λ_=>?_)|split)
theorem Dw(x0:TypeId)(x1:Value)(x2:Nat):Plain kn (Instr.fieldAt x0 x1 x2:Sem Value):=by
 unfold Instr.fieldAt;repeat' (first|(with_reducible first|apply az|apply aS|apply jB|apply I6|apply aP|refine Plain.bind' ?_ λ_=>?_)|split)
theorem TS(x0:Value):Plain kn (Go.asAgg x0:Sem (Array Value)):=by
 unfold Go.asAgg;repeat' (first|(with_reducible first|apply az|apply aP)|split)
theorem Gp(x0:TypeId)(x1:Value)(x2:Nat):Plain kn (Instr.field x0 x1 x2:Sem Value):=by
 unfold Instr.field;repeat' (first|(with_reducible first|apply aS|apply TS|apply u7|apply aP|refine Plain.bind' ?_ λ_=>?_)|split)
theorem sH{α:Type}(x1:IntKind)(x2:Int)(x3:Int)(x4:BoundsCode):Plain kn (Go.boundsPanic x1 x2 x3 x4:Sem α):=by
 unfold Go.boundsPanic;repeat' (first|(with_reducible first|apply az|apply eB|apply fJ|refine Plain.bind' ?_ λ_=>?_|refine Plain.map' ?_)|split)
theorem Dx(x0:TypeId)(x1:Value)(x2:Value):Plain kn (Instr.indexAt x0 x1 x2:Sem Value):=by
 unfold Instr.indexAt;repeat' (first|(with_reducible first|apply az|apply uU|apply aS|apply dV|apply aU|apply sH|apply jB|apply aP|refine Plain.bind' ?_ λ_=>?_)|split|dsimp only)
theorem Gq(x0:TypeId)(x1:Value)(x2:Value):Plain kn (Instr.index x0 x1 x2:Sem Value):=by
 unfold Instr.index;repeat' (first|(with_reducible first|apply az|apply uU|apply aS|apply dV|apply u7|apply sH|apply aP|refine Plain.bind' ?_ λ_=>?_)|split)
theorem Ak(x0:Value)(x1:Nat)(x2:BoundsCode):Plain kn (Instr.sliceBound x0 x1 x2:Sem Nat):=by
 unfold Instr.sliceBound;repeat' (first|(with_reducible first|apply az|apply uU|apply sH|refine Plain.bind' ?_ λ_=>?_)|split)
theorem qR(x0:Bool)(x1:Nat)(x2:Nat)(x3:Option Value)(x4:Option Value)(x5:Option Value):Plain kn (Instr.sliceBounds x0 x1 x2 x3 x4 x5:Sem (Nat×Nat×Nat)):=by
 unfold Instr.sliceBounds;repeat' (first|(with_reducible first|apply az|apply Ak|apply aP|refine Plain.bind' ?_ λ_=>?_)|split)
theorem Hr(x0:Value):Plain kn (Go.asAddr x0:Sem Addr):=by
 unfold Go.asAddr;repeat' (first|(with_reducible first|apply az|apply eB|apply aP)|split)
theorem Gs(x0:TypeId)(x1:Value)(x2:Option Value)(x3:Option Value)(x4:Option Value):Plain kn (Instr.slice x0 x1 x2 x3 x4:Sem Value):=by
 unfold Instr.slice;repeat' (first|(with_reducible first|apply az|apply aS|apply qR|apply aP|apply dV|apply Hr|refine Plain.bind' ?_ λ_=>?_)|split)
theorem Dy(x0:TypeId)(x1:Value)(x2:Option Value)(x3:Option Value)(x4:Option Value):Plain kn (Instr.sliceAt x0 x1 x2 x3 x4:Sem Value):=by
 unfold Instr.sliceAt;repeat' (first|(with_reducible first|apply az|apply aS|apply jB|apply qR|apply dV|apply Gs|refine Plain.bind' ?_ λ_=>?_)|split)
end
end
