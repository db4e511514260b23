/- The operations are plain. -/
import Derived.Test.YtignemioillaiabGreatG02
namespace Go.Proofs.YtignemioillaiabGreat
set_option maxHeartbeats 8000000
set_option maxRecDepth 100000
section
open Go
section
variable {kn:List Nat}
theorem Kr (x0:Go.UnOp) (x1:Go.Value):Plain kn (Go.Op.unary x0 x1:Go.Sem Go.Value):=by
 unfold Go.Op.unary;repeat' (first | (with_reducible first | apply ay | apply wR | apply yX | apply aU | apply aN) | split)
theorem Cq (x0:Go.IntKind) (x1:Int):Plain kn (Go.Conv.intToInt x0 x1:Go.Sem Go.Value):=by
 unfold Go.Conv.intToInt;repeat' (with_reducible apply ay)
theorem zB (x0:Go.FloatKind) (x1:Int):Plain kn (Go.Conv.intToFloat x0 x1:Go.Sem Go.Value):=by
 unfold Go.Conv.intToFloat;repeat' (with_reducible apply ay)
theorem zC (x0:Go.FloatKind) (x1:Nat) (x2:Go.IntKind):Plain kn (Go.Conv.floatToInt x0 x1 x2:Go.Sem Go.Value):=by
 unfold Go.Conv.floatToInt;repeat' (first | (with_reducible first | apply ay | apply eY | refine Plain.bind' ?_ λ _=>?_) | split)
theorem uy (x0:Go.FloatKind) (x1:Nat) (x2:Nat) (x3:Go.FloatKind):Plain kn (Go.Conv.complexToComplex x0 x1 x2 x3:Go.Sem Go.Value):=by
 unfold Go.Conv.complexToComplex;repeat' (first | (with_reducible first | apply ay | apply kQ | apply aN | refine Plain.bind' ?_ λ _=>?_) | split)
theorem zo (x0:Int):Plain kn (Go.Conv.intToString x0:Go.Sem Go.Value):=by
 unfold Go.Conv.intToString;repeat' (with_reducible apply ay)
theorem OX (x0:Go.Addr) (x1:Nat):Plain kn (Go.freeze x0 x1:Go.Sem Unit):=trivial
theorem uz (x0:Go.Addr):Plain kn (Go.markStringish x0:Go.Sem Unit):=by
 unfold Go.markStringish;repeat' (first | (with_reducible first | apply ay | apply iq | apply OX | refine Plain.bind' ?_ λ _=>?_) | split)
theorem wU (x0:Go.TypeId) (x1:ByteArray):Plain kn (Go.Conv.stringToBytes x0 x1:Go.Sem Go.Value):=by
 unfold Go.Conv.stringToBytes;repeat' ((with_reducible first | apply ay | apply eY | apply oZ | apply uz | refine Plain.bind' ?_ λ _=>?_))
theorem wV (x0:Go.TypeId) (x1:ByteArray):Plain kn (Go.Conv.stringToRunes x0 x1:Go.Sem Go.Value):=by
 unfold Go.Conv.stringToRunes;repeat' ((with_reducible first | apply ay | apply eY | apply oZ | refine Plain.bind' ?_ λ _=>?_))
theorem wW (x0:Go.Value):Plain kn (Go.Conv.bytesToString x0:Go.Sem Go.Value):=by
 unfold Go.Conv.bytesToString;repeat' (first | (with_reducible first | apply ay | apply pR | apply aN | refine Plain.bind' ?_ λ _=>?_ | refine bX _ _ _ λ _ _=>?_) | split)
theorem wX (x0:Go.Value):Plain kn (Go.Conv.runesToString x0:Go.Sem Go.Value):=by
 unfold Go.Conv.runesToString;repeat' (first | (with_reducible first | apply ay | apply pR | apply aN | refine Plain.bind' ?_ λ _=>?_ | refine bX _ _ _ λ _ _=>?_) | split)
theorem Fe (x0:Go.Addr):Plain kn (Go.Conv.seenAt x0:Go.Sem Go.Addr):=by
 unfold Go.Conv.seenAt;repeat' (first | (with_reducible first | apply ay | apply zz | apply aU | apply fE | apply iq | refine Plain.bind' ?_ λ _=>?_) | split)
theorem M6 (x0:Nat):Plain kn (Go.cellsIn x0:Go.Sem (Option Nat)):=by
 unfold Go.cellsIn;repeat' (first | (with_reducible first | apply ay | apply iq | apply iJ | refine Plain.bind' ?_ λ _=>?_) | split)
theorem Ff (x0:Go.Addr) (x1:Go.TypeId) (x2:Nat):Plain kn (Go.variablesAt x0 x1 x2:Go.Sem Bool):=by
 unfold Go.variablesAt;repeat' (first | (with_reducible first | apply ay | apply fE | apply iq | refine Plain.bind' ?_ λ _=>?_) | split)
theorem wY (x0:Go.TypeId) (x1:Go.TypeId) (x2:Go.Value):Plain kn (Go.Conv.unsafePointer x0 x1 x2:Go.Sem Go.Value):=by
 unfold Go.Conv.unsafePointer;repeat' (first | ((with_reducible refine vg _ ?_);rfl) | (with_reducible first | apply ay | apply aS | apply Fe | apply M6 | apply dR | apply Ff | apply iq | apply fE | apply aU | apply BM | apply aN | refine Plain.bind' ?_ λ _=>?_) | split)
theorem M7 (x0:Go.TypeId) (x1:Go.TypeId) (x2:Go.Value):Plain kn (Go.convert x0 x1 x2:Go.Sem Go.Value):=by
 unfold Go.convert;repeat' (first | (with_reducible first | apply ay | apply aS | apply Cq | apply zB | apply zC | apply kQ | apply uy | apply zo | apply wU | apply wV | apply aN | apply uz | apply aU | apply wW | apply wX | apply wY | refine Plain.bind' ?_ λ _=>?_) | split)
theorem OY (x0:Go.Addr) (x1:Nat) (x2:Nat):Plain kn (Go.partAt x0 x1 x2:Go.Sem Go.Addr):=by
 unfold Go.partAt;repeat' ((with_reducible first | apply ay | apply vz | refine Plain.bind' ?_ λ _=>?_))
theorem Hm (x0:Go.Addr) (x1:Go.Field):Plain kn (Go.fieldPlace x0 x1:Go.Sem Go.Addr):=by
 unfold Go.fieldPlace;repeat' (first | (with_reducible first | apply ay | apply dR | apply OY | refine Plain.bind' ?_ λ _=>?_) | split)
theorem Cr (x0:Go.TypeId) (x1:Go.Value) (x2:Nat):Plain kn (Go.Instr.fieldAt x0 x1 x2:Go.Sem Go.Value):=by
 unfold Go.Instr.fieldAt;repeat' (first | (with_reducible first | apply ay | apply aS | apply jf | apply Hm | apply aN | refine Plain.bind' ?_ λ _=>?_) | split)
theorem RB (x0:Go.Value):Plain kn (Go.asAgg x0:Go.Sem (Array Go.Value)):=by
 unfold Go.asAgg;repeat' (first | (with_reducible first | apply ay | apply aN) | split)
theorem Fg (x0:Go.TypeId) (x1:Go.Value) (x2:Nat):Plain kn (Go.Instr.field x0 x1 x2:Go.Sem Go.Value):=by
 unfold Go.Instr.field;repeat' (first | (with_reducible first | apply aS | apply RB | apply ui | apply aN | refine Plain.bind' ?_ λ _=>?_) | split)
theorem qR {α:Type} (x1:Go.IntKind) (x2:Int) (x3:Int) (x4:Go.BoundsCode):Plain kn (Go.boundsPanic x1 x2 x3 x4:Go.Sem α):=by
 unfold Go.boundsPanic;repeat' (first | (with_reducible first | apply ay | apply dX | apply eY | refine Plain.bind' ?_ λ _=>?_ | refine Plain.map' ?_) | split)
theorem Cs (x0:Go.TypeId) (x1:Go.Value) (x2:Go.Value):Plain kn (Go.Instr.indexAt x0 x1 x2:Go.Sem Go.Value):=by
 unfold Go.Instr.indexAt;repeat' (first | (with_reducible first | apply ay | apply tT | apply aS | apply dR | apply aU | apply qR | apply jf | apply aN | refine Plain.bind' ?_ λ _=>?_) | split | dsimp only)
theorem Fh (x0:Go.TypeId) (x1:Go.Value) (x2:Go.Value):Plain kn (Go.Instr.index x0 x1 x2:Go.Sem Go.Value):=by
 unfold Go.Instr.index;repeat' (first | (with_reducible first | apply ay | apply tT | apply aS | apply dR | apply ui | apply qR | apply aN | refine Plain.bind' ?_ λ _=>?_) | split)
theorem zq (x0:Go.Value) (x1:Nat) (x2:Go.BoundsCode):Plain kn (Go.Instr.sliceBound x0 x1 x2:Go.Sem Nat):=by
 unfold Go.Instr.sliceBound;repeat' (first | (with_reducible first | apply ay | apply tT | apply qR | refine Plain.bind' ?_ λ _=>?_) | split)
theorem pV (x0:Bool) (x1:Nat) (x2:Nat) (x3:Option Go.Value) (x4:Option Go.Value) (x5:Option Go.Value):Plain kn (Go.Instr.sliceBounds x0 x1 x2 x3 x4 x5:Go.Sem (Nat×Nat×Nat)):=by
 unfold Go.Instr.sliceBounds;repeat' (first | (with_reducible first | apply ay | apply zq | apply aN | refine Plain.bind' ?_ λ _=>?_) | split)
theorem FY (x0:Go.Value):Plain kn (Go.asAddr x0:Go.Sem Go.Addr):=by
 unfold Go.asAddr;repeat' (first | (with_reducible first | apply ay | apply dX | apply aN) | split)
theorem Fj (x0:Go.TypeId) (x1:Go.Value) (x2:Option Go.Value) (x3:Option Go.Value) (x4:Option Go.Value):Plain kn (Go.Instr.slice x0 x1 x2 x3 x4:Go.Sem Go.Value):=by
 unfold Go.Instr.slice;repeat' (first | (with_reducible first | apply ay | apply aS | apply pV | apply aN | apply dR | apply FY | refine Plain.bind' ?_ λ _=>?_) | split)
theorem Ct (x0:Go.TypeId) (x1:Go.Value) (x2:Option Go.Value) (x3:Option Go.Value) (x4:Option Go.Value):Plain kn (Go.Instr.sliceAt x0 x1 x2 x3 x4:Go.Sem Go.Value):=by
 unfold Go.Instr.sliceAt;repeat' (first | (with_reducible first | apply ay | apply aS | apply jf | apply pV | apply dR | apply Fj | refine Plain.bind' ?_ λ _=>?_) | split)
end
end
end Go.Proofs.YtignemioillaiabGreat
