/- The operations are plain. -/
import Derived.Test.YtignemioillaiabGreatG02
namespace Go.Proofs.YtignemioillaiabGreat
set_option maxHeartbeats 8000000
set_option maxRecDepth 100000
section
open Go
section
variable {kn:List Nat}
theorem Ke (x0:Go.UnOp) (x1:Go.Value):Plain kn (Go.Op.unary x0 x1:Go.Sem Go.Value):=by
 unfold Go.Op.unary;repeat' (first | (with_reducible first | apply az | apply wL | apply yN | apply aV | apply aR) | split)
theorem Ce (x0:Go.IntKind) (x1:Int):Plain kn (Go.Conv.intToInt x0 x1:Go.Sem Go.Value):=by
 unfold Go.Conv.intToInt;repeat' (with_reducible apply az)
theorem zq (x0:Go.FloatKind) (x1:Int):Plain kn (Go.Conv.intToFloat x0 x1:Go.Sem Go.Value):=by
 unfold Go.Conv.intToFloat;repeat' (with_reducible apply az)
theorem zt (x0:Go.FloatKind) (x1:Nat) (x2:Go.IntKind):Plain kn (Go.Conv.floatToInt x0 x1 x2:Go.Sem Go.Value):=by
 unfold Go.Conv.floatToInt;repeat' (first | (with_reducible first | apply az | apply eH | refine Plain.bind' ?_ fun _=>?_) | split)
theorem uq (x0:Go.FloatKind) (x1:Nat) (x2:Nat) (x3:Go.FloatKind):Plain kn (Go.Conv.complexToComplex x0 x1 x2 x3:Go.Sem Go.Value):=by
 unfold Go.Conv.complexToComplex;repeat' (first | (with_reducible first | apply az | apply kS | apply aR | refine Plain.bind' ?_ fun _=>?_) | split)
theorem ze (x0:Int):Plain kn (Go.Conv.intToString x0:Go.Sem Go.Value):=by
 unfold Go.Conv.intToString;repeat' (with_reducible apply az)
theorem OG (x0:Go.Addr) (x1:Nat):Plain kn (Go.freeze x0 x1:Go.Sem Unit):=trivial
theorem uu (x0:Go.Addr):Plain kn (Go.markStringish x0:Go.Sem Unit):=by
 unfold Go.markStringish;repeat' (first | (with_reducible first | apply az | apply gU | apply OG | refine Plain.bind' ?_ fun _=>?_) | split)
theorem wO (x0:Go.TypeId) (x1:ByteArray):Plain kn (Go.Conv.stringToBytes x0 x1:Go.Sem Go.Value):=by
 unfold Go.Conv.stringToBytes;repeat' ((with_reducible first | apply az | apply eH | apply oV | apply uu | refine Plain.bind' ?_ fun _=>?_))
theorem wP (x0:Go.TypeId) (x1:ByteArray):Plain kn (Go.Conv.stringToRunes x0 x1:Go.Sem Go.Value):=by
 unfold Go.Conv.stringToRunes;repeat' ((with_reducible first | apply az | apply eH | apply oV | refine Plain.bind' ?_ fun _=>?_))
theorem wQ (x0:Go.Value):Plain kn (Go.Conv.bytesToString x0:Go.Sem Go.Value):=by
 unfold Go.Conv.bytesToString;repeat' (first | (with_reducible first | apply az | apply pM | apply aR | refine Plain.bind' ?_ fun _=>?_ | refine aA _ _ _ fun _ _=>?_) | split)
theorem wR (x0:Go.Value):Plain kn (Go.Conv.runesToString x0:Go.Sem Go.Value):=by
 unfold Go.Conv.runesToString;repeat' (first | (with_reducible first | apply az | apply pM | apply aR | refine Plain.bind' ?_ fun _=>?_ | refine aA _ _ _ fun _ _=>?_) | split)
theorem EN (x0:Go.Addr):Plain kn (Go.Conv.seenAt x0:Go.Sem Go.Addr):=by
 unfold Go.Conv.seenAt;repeat' (first | (with_reducible first | apply az | apply zn | apply aV | apply fw | apply gU | refine Plain.bind' ?_ fun _=>?_) | split)
theorem MK (x0:Nat):Plain kn (Go.cellsIn x0:Go.Sem (Option Nat)):=by
 unfold Go.cellsIn;repeat' (first | (with_reducible first | apply az | apply gU | apply jf | refine Plain.bind' ?_ fun _=>?_) | split)
theorem EO (x0:Go.Addr) (x1:Go.TypeId) (x2:Nat):Plain kn (Go.variablesAt x0 x1 x2:Go.Sem Bool):=by
 unfold Go.variablesAt;repeat' (first | (with_reducible first | apply az | apply fw | apply gU | refine Plain.bind' ?_ fun _=>?_) | split)
theorem wS (x0:Go.TypeId) (x1:Go.TypeId) (x2:Go.Value):Plain kn (Go.Conv.unsafePointer x0 x1 x2:Go.Sem Go.Value):=by
 unfold Go.Conv.unsafePointer;repeat' (first | ((with_reducible refine u7 _ ?_);rfl) | (with_reducible first | apply az | apply aU | apply EN | apply MK | apply dM | apply EO | apply gU | apply fw | apply aV | apply BB | apply aR | refine Plain.bind' ?_ fun _=>?_) | split)
theorem ML (x0:Go.TypeId) (x1:Go.TypeId) (x2:Go.Value):Plain kn (Go.convert x0 x1 x2:Go.Sem Go.Value):=by
 unfold Go.convert;repeat' (first | (with_reducible first | apply az | apply aU | apply Ce | apply zq | apply zt | apply kS | apply uq | apply ze | apply wO | apply wP | apply aR | apply uu | apply aV | apply wQ | apply wR | apply wS | refine Plain.bind' ?_ fun _=>?_) | split)
theorem OH (x0:Go.Addr) (x1:Nat) (x2:Nat):Plain kn (Go.partAt x0 x1 x2:Go.Sem Go.Addr):=by
 unfold Go.partAt;repeat' ((with_reducible first | apply az | apply vg | refine Plain.bind' ?_ fun _=>?_))
theorem GK (x0:Go.Addr) (x1:Go.Field):Plain kn (Go.fieldPlace x0 x1:Go.Sem Go.Addr):=by
 unfold Go.fieldPlace;repeat' (first | (with_reducible first | apply az | apply dM | apply OH | refine Plain.bind' ?_ fun _=>?_) | split)
theorem Cf (x0:Go.TypeId) (x1:Go.Value) (x2:Nat):Plain kn (Go.Instr.fieldAt x0 x1 x2:Go.Sem Go.Value):=by
 unfold Go.Instr.fieldAt;repeat' (first | (with_reducible first | apply az | apply aU | apply iZ | apply GK | apply aR | refine Plain.bind' ?_ fun _=>?_) | split)
theorem Rk (x0:Go.Value):Plain kn (Go.asAgg x0:Go.Sem (Array Go.Value)):=by
 unfold Go.asAgg;repeat' (first | (with_reducible first | apply az | apply aR) | split)
theorem EP (x0:Go.TypeId) (x1:Go.Value) (x2:Nat):Plain kn (Go.Instr.field x0 x1 x2:Go.Sem Go.Value):=by
 unfold Go.Instr.field;repeat' (first | (with_reducible first | apply aU | apply Rk | apply uf | apply aR | refine Plain.bind' ?_ fun _=>?_) | split)
theorem qR {α:Type} (x1:Go.IntKind) (x2:Int) (x3:Int) (x4:Go.BoundsCode):Plain kn (Go.boundsPanic x1 x2 x3 x4:Go.Sem α):=by
 unfold Go.boundsPanic;repeat' (first | (with_reducible first | apply az | apply dQ | apply eH | refine Plain.bind' ?_ fun _=>?_ | refine Plain.map' ?_) | split)
theorem Cg (x0:Go.TypeId) (x1:Go.Value) (x2:Go.Value):Plain kn (Go.Instr.indexAt x0 x1 x2:Go.Sem Go.Value):=by
 unfold Go.Instr.indexAt;repeat' (first | (with_reducible first | apply az | apply tN | apply aU | apply dM | apply aV | apply qR | apply iZ | apply aR | refine Plain.bind' ?_ fun _=>?_) | split | dsimp only)
theorem ER (x0:Go.TypeId) (x1:Go.Value) (x2:Go.Value):Plain kn (Go.Instr.index x0 x1 x2:Go.Sem Go.Value):=by
 unfold Go.Instr.index;repeat' (first | (with_reducible first | apply az | apply tN | apply aU | apply dM | apply uf | apply qR | apply aR | refine Plain.bind' ?_ fun _=>?_) | split)
theorem zf (x0:Go.Value) (x1:Nat) (x2:Go.BoundsCode):Plain kn (Go.Instr.sliceBound x0 x1 x2:Go.Sem Nat):=by
 unfold Go.Instr.sliceBound;repeat' (first | (with_reducible first | apply az | apply tN | apply qR | refine Plain.bind' ?_ fun _=>?_) | split)
theorem pQ (x0:Bool) (x1:Nat) (x2:Nat) (x3:Option Go.Value) (x4:Option Go.Value) (x5:Option Go.Value):Plain kn (Go.Instr.sliceBounds x0 x1 x2 x3 x4 x5:Go.Sem (Nat×Nat×Nat)):=by
 unfold Go.Instr.sliceBounds;repeat' (first | (with_reducible first | apply az | apply zf | apply aR | refine Plain.bind' ?_ fun _=>?_) | split)
theorem FD (x0:Go.Value):Plain kn (Go.asAddr x0:Go.Sem Go.Addr):=by
 unfold Go.asAddr;repeat' (first | (with_reducible first | apply az | apply dQ | apply aR) | split)
theorem ES (x0:Go.TypeId) (x1:Go.Value) (x2:Option Go.Value) (x3:Option Go.Value) (x4:Option Go.Value):Plain kn (Go.Instr.slice x0 x1 x2 x3 x4:Go.Sem Go.Value):=by
 unfold Go.Instr.slice;repeat' (first | (with_reducible first | apply az | apply aU | apply pQ | apply aR | apply dM | apply FD | refine Plain.bind' ?_ fun _=>?_) | split)
theorem Ch (x0:Go.TypeId) (x1:Go.Value) (x2:Option Go.Value) (x3:Option Go.Value) (x4:Option Go.Value):Plain kn (Go.Instr.sliceAt x0 x1 x2 x3 x4:Go.Sem Go.Value):=by
 unfold Go.Instr.sliceAt;repeat' (first | (with_reducible first | apply az | apply aU | apply iZ | apply pQ | apply dM | apply ES | refine Plain.bind' ?_ fun _=>?_) | split)
end
end
end Go.Proofs.YtignemioillaiabGreat
