/- Lemmas. -/
import Derived.Test.YtignemioillaiabGreatG02
namespace Go.Proofs.YtignemioillaiabGreat
set_option maxHeartbeats 8000000
set_option maxRecDepth 100000
open List
section
open Go
section
variable{kn:List Nat}
theorem NM(x0:Go.UnOp)(x1:Value):Plain kn (Op.unary x0 x1:Sem Value):=by
 unfold Op.unary;repeat' (first|(with_reducible first|apply az|apply yM|apply Ba|apply aT|apply aN)|split)
theorem EA(x0:IntKind)(x1:Int):Plain kn (Conv.intToInt x0 x1:Sem Value):=by
 unfold Conv.intToInt;repeat' (with_reducible apply az)
theorem BC(x0:FloatKind)(x1:Int):Plain kn (Conv.intToFloat x0 x1:Sem Value):=by
 unfold Conv.intToFloat;repeat' (with_reducible apply az)
theorem BD(x0:FloatKind)(x1:Nat)(x2:IntKind):Plain kn (Conv.floatToInt x0 x1 x2:Sem Value):=by
 unfold Conv.floatToInt;repeat' (first|(with_reducible first|apply az|apply fH|refine Plain.bind' ?_ λ_=>?_)|split)
theorem wH(x0:FloatKind)(x1:Nat)(x2:Nat)(x3:FloatKind):Plain kn (Conv.complexToComplex x0 x1 x2 x3:Sem Value):=by
 unfold Conv.complexToComplex;repeat' (first|(with_reducible first|apply az|apply mE|apply aN|refine Plain.bind' ?_ λ_=>?_)|split)
theorem Bp(x0:Int):Plain kn (Conv.intToString x0:Sem Value):=by
 unfold Conv.intToString;repeat' (with_reducible apply az)
theorem Sn(x0:Addr)(x1:Nat):Plain kn (Go.freeze x0 x1:Sem Unit):=trivial
theorem wI(x0:Addr):Plain kn (Go.markStringish x0:Sem Unit):=by
 unfold Go.markStringish;repeat' (first|(with_reducible first|apply az|apply iR|apply Sn|refine Plain.bind' ?_ λ_=>?_)|split)
theorem yP(x0:TypeId)(x1:ByteArray):Plain kn (Conv.stringToBytes x0 x1:Sem Value):=by
 unfold Conv.stringToBytes;repeat' ((with_reducible first|apply az|apply fH|apply qV|apply wI|refine Plain.bind' ?_ λ_=>?_))
theorem yQ(x0:TypeId)(x1:ByteArray):Plain kn (Conv.stringToRunes x0 x1:Sem Value):=by
 unfold Conv.stringToRunes;repeat' ((with_reducible first|apply az|apply fH|apply qV|refine Plain.bind' ?_ λ_=>?_))
theorem yR(x0:Value):Plain kn (Conv.bytesToString x0:Sem Value):=by
 unfold Conv.bytesToString;repeat' (first|(with_reducible first|apply az|apply rF|apply aN|refine Plain.bind' ?_ λ_=>?_|refine bZ _ _ _ λ_ _=>?_)|split)
theorem yS(x0:Value):Plain kn (Conv.runesToString x0:Sem Value):=by
 unfold Conv.runesToString;repeat' (first|(with_reducible first|apply az|apply rF|apply aN|refine Plain.bind' ?_ λ_=>?_|refine bZ _ _ _ λ_ _=>?_)|split)
theorem Ik(x0:Addr):Plain kn (Conv.seenAt x0:Sem Addr):=by
 unfold Conv.seenAt;repeat' (first|(with_reducible first|apply az|apply BA|apply aT|apply gK|apply iR|refine Plain.bind' ?_ λ_=>?_)|split)
theorem Qg(x0:Nat):Plain kn (Go.cellsIn x0:Sem (Option Nat)):=by
 unfold Go.cellsIn;repeat' (first|(with_reducible first|apply az|apply iR|apply jd|refine Plain.bind' ?_ λ_=>?_)|split)
theorem Il(x0:Addr)(x1:TypeId)(x2:Nat):Plain kn (Go.variablesAt x0 x1 x2:Sem Bool):=by
 unfold Go.variablesAt;repeat' (first|(with_reducible first|apply az|apply gK|apply iR|refine Plain.bind' ?_ λ_=>?_)|split)
theorem yT(x0:TypeId)(x1:TypeId)(x2:Value):Plain kn (Conv.unsafePointer x0 x1 x2:Sem Value):=by
 unfold Conv.unsafePointer;repeat' (first|((with_reducible refine xw _ ?_);rfl)|(with_reducible first|apply az|apply aQ|apply Ik|apply Qg|apply dY|apply Il|apply iR|apply gK|apply aT|apply D8|apply aN|refine Plain.bind' ?_ λ_=>?_)|split)
theorem Qh(x0:TypeId)(x1:TypeId)(x2:Value):Plain kn (Go.convert x0 x1 x2:Sem Value):=by
 unfold Go.convert;repeat' (first|(with_reducible first|apply az|apply aQ|apply EA|apply BC|apply BD|apply mE|apply wH|apply Bp|apply yP|apply yQ|apply aN|apply wI|apply aT|apply yR|apply yS|apply yT|refine Plain.bind' ?_ λ_=>?_)|split)
theorem Sq(x0:Addr)(x1:Nat)(x2:Nat):Plain kn (Go.partAt x0 x1 x2:Sem Addr):=by
 unfold Go.partAt;repeat' ((with_reducible first|apply az|apply xy|refine Plain.bind' ?_ λ_=>?_))
theorem Kg(x0:Addr)(x1:Go.Field):Plain kn (Go.fieldPlace x0 x1:Sem Addr):=by
 unfold Go.fieldPlace;repeat' (first|(with_reducible first|apply az|apply dY|apply Sq|refine Plain.bind' ?_ λ_=>?_)|split)
theorem EB(x0:TypeId)(x1:Value)(x2:Nat):Plain kn (Instr.fieldAt x0 x1 x2:Sem Value):=by
 unfold Instr.fieldAt;repeat' (first|(with_reducible first|apply az|apply aQ|apply jG|apply Kg|apply aN|refine Plain.bind' ?_ λ_=>?_)|split)
theorem VG(x0:Value):Plain kn (Go.asAgg x0:Sem (Array Value)):=by
 unfold Go.asAgg;repeat' (first|(with_reducible first|apply az|apply aN)|split)
theorem Im(x0:TypeId)(x1:Value)(x2:Nat):Plain kn (Instr.field x0 x1 x2:Sem Value):=by
 unfold Instr.field;repeat' (first|(with_reducible first|apply aQ|apply VG|apply wu|apply aN|refine Plain.bind' ?_ λ_=>?_)|split)
theorem tQ{α:Type}(x1:IntKind)(x2:Int)(x3:Int)(x4:BoundsCode):Plain kn (Go.boundsPanic x1 x2 x3 x4:Sem α):=by
 unfold Go.boundsPanic;repeat' (first|(with_reducible first|apply az|apply eB|apply fH|refine Plain.bind' ?_ λ_=>?_|refine Plain.map' ?_)|split)
theorem EC(x0:TypeId)(x1:Value)(x2:Value):Plain kn (Instr.indexAt x0 x1 x2:Sem Value):=by
 unfold Instr.indexAt;repeat' (first|(with_reducible first|apply az|apply vS|apply aQ|apply dY|apply aT|apply tQ|apply jG|apply aN|refine Plain.bind' ?_ λ_=>?_)|split|dsimp only)
theorem Io(x0:TypeId)(x1:Value)(x2:Value):Plain kn (Instr.index x0 x1 x2:Sem Value):=by
 unfold Instr.index;repeat' (first|(with_reducible first|apply az|apply vS|apply aQ|apply dY|apply wu|apply tQ|apply aN|refine Plain.bind' ?_ λ_=>?_)|split)
theorem Bq(x0:Value)(x1:Nat)(x2:BoundsCode):Plain kn (Instr.sliceBound x0 x1 x2:Sem Nat):=by
 unfold Instr.sliceBound;repeat' (first|(with_reducible first|apply az|apply vS|apply tQ|refine Plain.bind' ?_ λ_=>?_)|split)
theorem rH(x0:Bool)(x1:Nat)(x2:Nat)(x3:Option Value)(x4:Option Value)(x5:Option Value):Plain kn (Instr.sliceBounds x0 x1 x2 x3 x4 x5:Sem (Nat×Nat×Nat)):=by
 unfold Instr.sliceBounds;repeat' (first|(with_reducible first|apply az|apply Bq|apply aN|refine Plain.bind' ?_ λ_=>?_)|split)
theorem Jg(x0:Value):Plain kn (Go.asAddr x0:Sem Addr):=by
 unfold Go.asAddr;repeat' (first|(with_reducible first|apply az|apply eB|apply aN)|split)
theorem Ip(x0:TypeId)(x1:Value)(x2:Option Value)(x3:Option Value)(x4:Option Value):Plain kn (Instr.slice x0 x1 x2 x3 x4:Sem Value):=by
 unfold Instr.slice;repeat' (first|(with_reducible first|apply az|apply aQ|apply rH|apply aN|apply dY|apply Jg|refine Plain.bind' ?_ λ_=>?_)|split)
theorem ED(x0:TypeId)(x1:Value)(x2:Option Value)(x3:Option Value)(x4:Option Value):Plain kn (Instr.sliceAt x0 x1 x2 x3 x4:Sem Value):=by
 unfold Instr.sliceAt;repeat' (first|(with_reducible first|apply az|apply aQ|apply jG|apply rH|apply dY|apply Ip|refine Plain.bind' ?_ λ_=>?_)|split)
end
end
