/- The operations are plain. -/
import Derived.Test.YtignemioillaiaaGreatG02
namespace Go.Proofs.YtignemioillaiaaGreat
set_option maxHeartbeats 8000000
set_option maxRecDepth 100000
section
open Go
section
variable {kn:List Nat}
theorem KF (x0:Go.UnOp) (x1:Go.Value):Plain kn (Go.Op.unary x0 x1:Go.Sem Go.Value):=by
 unfold Go.Op.unary;repeat' (first | (with_reducible first | apply ay | apply wX | apply zf | apply aU | apply aO) | split)
theorem Cx (x0:Go.IntKind) (x1:Int):Plain kn (Go.Conv.intToInt x0 x1:Go.Sem Go.Value):=by
 unfold Go.Conv.intToInt;repeat' (with_reducible apply ay)
theorem zJ (x0:Go.FloatKind) (x1:Int):Plain kn (Go.Conv.intToFloat x0 x1:Go.Sem Go.Value):=by
 unfold Go.Conv.intToFloat;repeat' (with_reducible apply ay)
theorem zK (x0:Go.FloatKind) (x1:Nat) (x2:Go.IntKind):Plain kn (Go.Conv.floatToInt x0 x1 x2:Go.Sem Go.Value):=by
 unfold Go.Conv.floatToInt;repeat' (first | (with_reducible first | apply ay | apply fw | refine Plain.bind' ?_ λ _=>?_) | split)
theorem uC (x0:Go.FloatKind) (x1:Nat) (x2:Nat) (x3:Go.FloatKind):Plain kn (Go.Conv.complexToComplex x0 x1 x2 x3:Go.Sem Go.Value):=by
 unfold Go.Conv.complexToComplex;repeat' (first | (with_reducible first | apply ay | apply kS | apply aO | refine Plain.bind' ?_ λ _=>?_) | split)
theorem zz (x0:Int):Plain kn (Go.Conv.intToString x0:Go.Sem Go.Value):=by
 unfold Go.Conv.intToString;repeat' (with_reducible apply ay)
theorem O8 (x0:Go.Addr) (x1:Nat):Plain kn (Go.freeze x0 x1:Go.Sem Unit):=trivial
theorem uD (x0:Go.Addr):Plain kn (Go.markStringish x0:Go.Sem Unit):=by
 unfold Go.markStringish;repeat' (first | (with_reducible first | apply ay | apply iA | apply O8 | refine Plain.bind' ?_ λ _=>?_) | split)
theorem xe (x0:Go.TypeId) (x1:ByteArray):Plain kn (Go.Conv.stringToBytes x0 x1:Go.Sem Go.Value):=by
 unfold Go.Conv.stringToBytes;repeat' ((with_reducible first | apply ay | apply fw | apply oZ | apply uD | refine Plain.bind' ?_ λ _=>?_))
theorem xg (x0:Go.TypeId) (x1:ByteArray):Plain kn (Go.Conv.stringToRunes x0 x1:Go.Sem Go.Value):=by
 unfold Go.Conv.stringToRunes;repeat' ((with_reducible first | apply ay | apply fw | apply oZ | refine Plain.bind' ?_ λ _=>?_))
theorem xh (x0:Go.Value):Plain kn (Go.Conv.bytesToString x0:Go.Sem Go.Value):=by
 unfold Go.Conv.bytesToString;repeat' (first | (with_reducible first | apply ay | apply pV | apply aO | refine Plain.bind' ?_ λ _=>?_ | refine bY _ _ _ λ _ _=>?_) | split)
theorem xk (x0:Go.Value):Plain kn (Go.Conv.runesToString x0:Go.Sem Go.Value):=by
 unfold Go.Conv.runesToString;repeat' (first | (with_reducible first | apply ay | apply pV | apply aO | refine Plain.bind' ?_ λ _=>?_ | refine bY _ _ _ λ _ _=>?_) | split)
theorem Fv (x0:Go.Addr):Plain kn (Go.Conv.seenAt x0:Go.Sem Go.Addr):=by
 unfold Go.Conv.seenAt;repeat' (first | (with_reducible first | apply ay | apply zH | apply aU | apply fH | apply iA | refine Plain.bind' ?_ λ _=>?_) | split)
theorem Ng (x0:Nat):Plain kn (Go.cellsIn x0:Go.Sem (Option Nat)):=by
 unfold Go.cellsIn;repeat' (first | (with_reducible first | apply ay | apply iA | apply iN | refine Plain.bind' ?_ λ _=>?_) | split)
theorem Fw (x0:Go.Addr) (x1:Go.TypeId) (x2:Nat):Plain kn (Go.variablesAt x0 x1 x2:Go.Sem Bool):=by
 unfold Go.variablesAt;repeat' (first | (with_reducible first | apply ay | apply fH | apply iA | refine Plain.bind' ?_ λ _=>?_) | split)
theorem xm (x0:Go.TypeId) (x1:Go.TypeId) (x2:Go.Value):Plain kn (Go.Conv.unsafePointer x0 x1 x2:Go.Sem Go.Value):=by
 unfold Go.Conv.unsafePointer;repeat' (first | ((with_reducible refine vG _ ?_);rfl) | (with_reducible first | apply ay | apply aS | apply Fv | apply Ng | apply dS | apply Fw | apply iA | apply fH | apply aU | apply BU | apply aO | refine Plain.bind' ?_ λ _=>?_) | split)
theorem Nh (x0:Go.TypeId) (x1:Go.TypeId) (x2:Go.Value):Plain kn (Go.convert x0 x1 x2:Go.Sem Go.Value):=by
 unfold Go.convert;repeat' (first | (with_reducible first | apply ay | apply aS | apply Cx | apply zJ | apply zK | apply kS | apply uC | apply zz | apply xe | apply xg | apply aO | apply uD | apply aU | apply xh | apply xk | apply xm | refine Plain.bind' ?_ λ _=>?_) | split)
theorem O9 (x0:Go.Addr) (x1:Nat) (x2:Nat):Plain kn (Go.partAt x0 x1 x2:Go.Sem Go.Addr):=by
 unfold Go.partAt;repeat' ((with_reducible first | apply ay | apply vJ | refine Plain.bind' ?_ λ _=>?_))
theorem HY (x0:Go.Addr) (x1:Go.Field):Plain kn (Go.fieldPlace x0 x1:Go.Sem Go.Addr):=by
 unfold Go.fieldPlace;repeat' (first | (with_reducible first | apply ay | apply dS | apply O9 | refine Plain.bind' ?_ λ _=>?_) | split)
theorem Cy (x0:Go.TypeId) (x1:Go.Value) (x2:Nat):Plain kn (Go.Instr.fieldAt x0 x1 x2:Go.Sem Go.Value):=by
 unfold Go.Instr.fieldAt;repeat' (first | (with_reducible first | apply ay | apply aS | apply ji | apply HY | apply aO | refine Plain.bind' ?_ λ _=>?_) | split)
theorem R9 (x0:Go.Value):Plain kn (Go.asAgg x0:Go.Sem (Array Go.Value)):=by
 unfold Go.asAgg;repeat' (first | (with_reducible first | apply ay | apply aO) | split)
theorem Fx (x0:Go.TypeId) (x1:Go.Value) (x2:Nat):Plain kn (Go.Instr.field x0 x1 x2:Go.Sem Go.Value):=by
 unfold Go.Instr.field;repeat' (first | (with_reducible first | apply aS | apply R9 | apply uo | apply aO | refine Plain.bind' ?_ λ _=>?_) | split)
theorem qW {α:Type} (x1:Go.IntKind) (x2:Int) (x3:Int) (x4:Go.BoundsCode):Plain kn (Go.boundsPanic x1 x2 x3 x4:Go.Sem α):=by
 unfold Go.boundsPanic;repeat' (first | (with_reducible first | apply ay | apply dY | apply fw | refine Plain.bind' ?_ λ _=>?_ | refine Plain.map' ?_) | split)
theorem Cz (x0:Go.TypeId) (x1:Go.Value) (x2:Go.Value):Plain kn (Go.Instr.indexAt x0 x1 x2:Go.Sem Go.Value):=by
 unfold Go.Instr.indexAt;repeat' (first | (with_reducible first | apply ay | apply tY | apply aS | apply dS | apply aU | apply qW | apply ji | apply aO | refine Plain.bind' ?_ λ _=>?_) | split | dsimp only)
theorem Fy (x0:Go.TypeId) (x1:Go.Value) (x2:Go.Value):Plain kn (Go.Instr.index x0 x1 x2:Go.Sem Go.Value):=by
 unfold Go.Instr.index;repeat' (first | (with_reducible first | apply ay | apply tY | apply aS | apply dS | apply uo | apply qW | apply aO | refine Plain.bind' ?_ λ _=>?_) | split)
theorem zA (x0:Go.Value) (x1:Nat) (x2:Go.BoundsCode):Plain kn (Go.Instr.sliceBound x0 x1 x2:Go.Sem Nat):=by
 unfold Go.Instr.sliceBound;repeat' (first | (with_reducible first | apply ay | apply tY | apply qW | refine Plain.bind' ?_ λ _=>?_) | split)
theorem pX (x0:Bool) (x1:Nat) (x2:Nat) (x3:Option Go.Value) (x4:Option Go.Value) (x5:Option Go.Value):Plain kn (Go.Instr.sliceBounds x0 x1 x2 x3 x4 x5:Go.Sem (Nat×Nat×Nat)):=by
 unfold Go.Instr.sliceBounds;repeat' (first | (with_reducible first | apply ay | apply zA | apply aO | refine Plain.bind' ?_ λ _=>?_) | split)
theorem Gb (x0:Go.Value):Plain kn (Go.asAddr x0:Go.Sem Go.Addr):=by
 unfold Go.asAddr;repeat' (first | (with_reducible first | apply ay | apply dY | apply aO) | split)
theorem FB (x0:Go.TypeId) (x1:Go.Value) (x2:Option Go.Value) (x3:Option Go.Value) (x4:Option Go.Value):Plain kn (Go.Instr.slice x0 x1 x2 x3 x4:Go.Sem Go.Value):=by
 unfold Go.Instr.slice;repeat' (first | (with_reducible first | apply ay | apply aS | apply pX | apply aO | apply dS | apply Gb | refine Plain.bind' ?_ λ _=>?_) | split)
theorem CB (x0:Go.TypeId) (x1:Go.Value) (x2:Option Go.Value) (x3:Option Go.Value) (x4:Option Go.Value):Plain kn (Go.Instr.sliceAt x0 x1 x2 x3 x4:Go.Sem Go.Value):=by
 unfold Go.Instr.sliceAt;repeat' (first | (with_reducible first | apply ay | apply aS | apply ji | apply pX | apply dS | apply FB | refine Plain.bind' ?_ λ _=>?_) | split)
end
end
end Go.Proofs.YtignemioillaiaaGreat
