/- The operations are plain. -/
import Derived.Test.YtignemioillaiaaGreatG02
namespace Go.Proofs.YtignemioillaiaaGreat
set_option maxHeartbeats 8000000
set_option maxRecDepth 100000
section
open Go
section
variable {kn : List Nat}
theorem pl_Op_unary (x0 : Go.UnOp) (x1 : Go.Value) : Plain kn (Go.Op.unary x0 x1 : Go.Sem Go.Value) := by
  unfold Go.Op.unary
  repeat' (first | (with_reducible first | apply pl_pure | apply pl_Op_intArith | apply pl_Op_intBits | apply pl_unsupported | apply pl_stuck) | split)
theorem pl_Conv_intToInt (x0 : Go.IntKind) (x1 : Int) : Plain kn (Go.Conv.intToInt x0 x1 : Go.Sem Go.Value) := by
  unfold Go.Conv.intToInt
  repeat' (with_reducible apply pl_pure)
theorem pl_Conv_intToFloat (x0 : Go.FloatKind) (x1 : Int) : Plain kn (Go.Conv.intToFloat x0 x1 : Go.Sem Go.Value) := by
  unfold Go.Conv.intToFloat
  repeat' (with_reducible apply pl_pure)
theorem pl_Conv_floatToInt (x0 : Go.FloatKind) (x1 : Nat) (x2 : Go.IntKind) : Plain kn (Go.Conv.floatToInt x0 x1 x2 : Go.Sem Go.Value) := by
  unfold Go.Conv.floatToInt
  repeat' (first | (with_reducible first | apply pl_pure | apply pl_choose | refine Plain.bind' ?_ fun _ => ?_) | split)
theorem pl_Conv_complexToComplex (x0 : Go.FloatKind) (x1 : Nat) (x2 : Nat) (x3 : Go.FloatKind) : Plain kn (Go.Conv.complexToComplex x0 x1 x2 x3 : Go.Sem Go.Value) := by
  unfold Go.Conv.complexToComplex
  repeat' (first | (with_reducible first | apply pl_pure | apply pl_Conv_floatToFloat | apply pl_stuck | refine Plain.bind' ?_ fun _ => ?_) | split)
theorem pl_Conv_intToString (x0 : Int) : Plain kn (Go.Conv.intToString x0 : Go.Sem Go.Value) := by
  unfold Go.Conv.intToString
  repeat' (with_reducible apply pl_pure)
theorem pl_freeze (x0 : Go.Addr) (x1 : Nat) : Plain kn (Go.freeze x0 x1 : Go.Sem Unit) := trivial
theorem pl_markStringish (x0 : Go.Addr) : Plain kn (Go.markStringish x0 : Go.Sem Unit) := by
  unfold Go.markStringish
  repeat' (first | (with_reducible first | apply pl_pure | apply pl_shape | apply pl_freeze | refine Plain.bind' ?_ fun _ => ?_) | split)
theorem pl_Conv_stringToBytes (x0 : Go.TypeId) (x1 : ByteArray) : Plain kn (Go.Conv.stringToBytes x0 x1 : Go.Sem Go.Value) := by
  unfold Go.Conv.stringToBytes
  repeat' ((with_reducible first | apply pl_pure | apply pl_choose | apply pl_newRow | apply pl_markStringish | refine Plain.bind' ?_ fun _ => ?_))
theorem pl_Conv_stringToRunes (x0 : Go.TypeId) (x1 : ByteArray) : Plain kn (Go.Conv.stringToRunes x0 x1 : Go.Sem Go.Value) := by
  unfold Go.Conv.stringToRunes
  repeat' ((with_reducible first | apply pl_pure | apply pl_choose | apply pl_newRow | refine Plain.bind' ?_ fun _ => ?_))
theorem pl_Conv_bytesToString (x0 : Go.Value) : Plain kn (Go.Conv.bytesToString x0 : Go.Sem Go.Value) := by
  unfold Go.Conv.bytesToString
  repeat' (first | (with_reducible first | apply pl_pure | apply pl_loadCells | apply pl_stuck | refine Plain.bind' ?_ fun _ => ?_ | refine pl_forA _ _ _ fun _ _ => ?_) | split)
theorem pl_Conv_runesToString (x0 : Go.Value) : Plain kn (Go.Conv.runesToString x0 : Go.Sem Go.Value) := by
  unfold Go.Conv.runesToString
  repeat' (first | (with_reducible first | apply pl_pure | apply pl_loadCells | apply pl_stuck | refine Plain.bind' ?_ fun _ => ?_ | refine pl_forA _ _ _ fun _ _ => ?_) | split)
theorem pl_Conv_seenAt (x0 : Go.Addr) : Plain kn (Go.Conv.seenAt x0 : Go.Sem Go.Addr) := by
  unfold Go.Conv.seenAt
  repeat' (first | (with_reducible first | apply pl_pure | apply pl_viewAt | apply pl_unsupported | apply pl_program | apply pl_shape | refine Plain.bind' ?_ fun _ => ?_) | split)
theorem pl_cellsIn (x0 : Nat) : Plain kn (Go.cellsIn x0 : Go.Sem (Option Nat)) := by
  unfold Go.cellsIn
  repeat' (first | (with_reducible first | apply pl_pure | apply pl_shape | apply pl_getObj | refine Plain.bind' ?_ fun _ => ?_) | split)
theorem pl_variablesAt (x0 : Go.Addr) (x1 : Go.TypeId) (x2 : Nat) : Plain kn (Go.variablesAt x0 x1 x2 : Go.Sem Bool) := by
  unfold Go.variablesAt
  repeat' (first | (with_reducible first | apply pl_pure | apply pl_program | apply pl_shape | refine Plain.bind' ?_ fun _ => ?_) | split)
theorem pl_Conv_unsafePointer (x0 : Go.TypeId) (x1 : Go.TypeId) (x2 : Go.Value) : Plain kn (Go.Conv.unsafePointer x0 x1 x2 : Go.Sem Go.Value) := by
  unfold Go.Conv.unsafePointer
  repeat' (first | ((with_reducible refine pl_newObj _ ?_); rfl) | (with_reducible first | apply pl_pure | apply pl_underlying | apply pl_Conv_seenAt | apply pl_cellsIn | apply pl_sizeOf | apply pl_variablesAt | apply pl_shape | apply pl_program | apply pl_unsupported | apply pl_asNumber | apply pl_stuck | refine Plain.bind' ?_ fun _ => ?_) | split)
theorem pl_convert (x0 : Go.TypeId) (x1 : Go.TypeId) (x2 : Go.Value) : Plain kn (Go.convert x0 x1 x2 : Go.Sem Go.Value) := by
  unfold Go.convert
  repeat' (first | (with_reducible first | apply pl_pure | apply pl_underlying | apply pl_Conv_intToInt | apply pl_Conv_intToFloat | apply pl_Conv_floatToInt | apply pl_Conv_floatToFloat | apply pl_Conv_complexToComplex | apply pl_Conv_intToString | apply pl_Conv_stringToBytes | apply pl_Conv_stringToRunes | apply pl_stuck | apply pl_markStringish | apply pl_unsupported | apply pl_Conv_bytesToString | apply pl_Conv_runesToString | apply pl_Conv_unsafePointer | refine Plain.bind' ?_ fun _ => ?_) | split)
theorem pl_partAt (x0 : Go.Addr) (x1 : Nat) (x2 : Nat) : Plain kn (Go.partAt x0 x1 x2 : Go.Sem Go.Addr) := by
  unfold Go.partAt
  repeat' ((with_reducible first | apply pl_pure | apply pl_byteOf | refine Plain.bind' ?_ fun _ => ?_))
theorem pl_fieldPlace (x0 : Go.Addr) (x1 : Go.Field) : Plain kn (Go.fieldPlace x0 x1 : Go.Sem Go.Addr) := by
  unfold Go.fieldPlace
  repeat' (first | (with_reducible first | apply pl_pure | apply pl_sizeOf | apply pl_partAt | refine Plain.bind' ?_ fun _ => ?_) | split)
theorem pl_Instr_fieldAt (x0 : Go.TypeId) (x1 : Go.Value) (x2 : Nat) : Plain kn (Go.Instr.fieldAt x0 x1 x2 : Go.Sem Go.Value) := by
  unfold Go.Instr.fieldAt
  repeat' (first | (with_reducible first | apply pl_pure | apply pl_underlying | apply pl_Instr_sureAddr | apply pl_fieldPlace | apply pl_stuck | refine Plain.bind' ?_ fun _ => ?_) | split)
theorem pl_asAgg (x0 : Go.Value) : Plain kn (Go.asAgg x0 : Go.Sem (Array Go.Value)) := by
  unfold Go.asAgg
  repeat' (first | (with_reducible first | apply pl_pure | apply pl_stuck) | split)
theorem pl_Instr_field (x0 : Go.TypeId) (x1 : Go.Value) (x2 : Nat) : Plain kn (Go.Instr.field x0 x1 x2 : Go.Sem Go.Value) := by
  unfold Go.Instr.field
  repeat' (first | (with_reducible first | apply pl_underlying | apply pl_asAgg | apply pl_part | apply pl_stuck | refine Plain.bind' ?_ fun _ => ?_) | split)
theorem pl_boundsPanic {α : Type} (x1 : Go.IntKind) (x2 : Int) (x3 : Int) (x4 : Go.BoundsCode) : Plain kn (Go.boundsPanic x1 x2 x3 x4 : Go.Sem α) := by
  unfold Go.boundsPanic
  repeat' (first | (with_reducible first | apply pl_pure | apply pl_runtimePanic | apply pl_choose | refine Plain.bind' ?_ fun _ => ?_ | refine Plain.map' ?_) | split)
theorem pl_Instr_indexAt (x0 : Go.TypeId) (x1 : Go.Value) (x2 : Go.Value) : Plain kn (Go.Instr.indexAt x0 x1 x2 : Go.Sem Go.Value) := by
  unfold Go.Instr.indexAt
  repeat' (first | (with_reducible first | apply pl_pure | apply pl_asIntOf | apply pl_underlying | apply pl_sizeOf | apply pl_unsupported | apply pl_boundsPanic | apply pl_Instr_sureAddr | apply pl_stuck | refine Plain.bind' ?_ fun _ => ?_) | split | dsimp only)
theorem pl_Instr_index (x0 : Go.TypeId) (x1 : Go.Value) (x2 : Go.Value) : Plain kn (Go.Instr.index x0 x1 x2 : Go.Sem Go.Value) := by
  unfold Go.Instr.index
  repeat' (first | (with_reducible first | apply pl_pure | apply pl_asIntOf | apply pl_underlying | apply pl_sizeOf | apply pl_part | apply pl_boundsPanic | apply pl_stuck | refine Plain.bind' ?_ fun _ => ?_) | split)
theorem pl_Instr_sliceBound (x0 : Go.Value) (x1 : Nat) (x2 : Go.BoundsCode) : Plain kn (Go.Instr.sliceBound x0 x1 x2 : Go.Sem Nat) := by
  unfold Go.Instr.sliceBound
  repeat' (first | (with_reducible first | apply pl_pure | apply pl_asIntOf | apply pl_boundsPanic | refine Plain.bind' ?_ fun _ => ?_) | split)
theorem pl_Instr_sliceBounds (x0 : Bool) (x1 : Nat) (x2 : Nat) (x3 : Option Go.Value) (x4 : Option Go.Value) (x5 : Option Go.Value) : Plain kn (Go.Instr.sliceBounds x0 x1 x2 x3 x4 x5 : Go.Sem (Nat × Nat × Nat)) := by
  unfold Go.Instr.sliceBounds
  repeat' (first | (with_reducible first | apply pl_pure | apply pl_Instr_sliceBound | apply pl_stuck | refine Plain.bind' ?_ fun _ => ?_) | split)
theorem pl_asAddr (x0 : Go.Value) : Plain kn (Go.asAddr x0 : Go.Sem Go.Addr) := by
  unfold Go.asAddr
  repeat' (first | (with_reducible first | apply pl_pure | apply pl_runtimePanic | apply pl_stuck) | split)
theorem pl_Instr_slice (x0 : Go.TypeId) (x1 : Go.Value) (x2 : Option Go.Value) (x3 : Option Go.Value) (x4 : Option Go.Value) : Plain kn (Go.Instr.slice x0 x1 x2 x3 x4 : Go.Sem Go.Value) := by
  unfold Go.Instr.slice
  repeat' (first | (with_reducible first | apply pl_pure | apply pl_underlying | apply pl_Instr_sliceBounds | apply pl_stuck | apply pl_sizeOf | apply pl_asAddr | refine Plain.bind' ?_ fun _ => ?_) | split)
theorem pl_Instr_sliceAt (x0 : Go.TypeId) (x1 : Go.Value) (x2 : Option Go.Value) (x3 : Option Go.Value) (x4 : Option Go.Value) : Plain kn (Go.Instr.sliceAt x0 x1 x2 x3 x4 : Go.Sem Go.Value) := by
  unfold Go.Instr.sliceAt
  repeat' (first | (with_reducible first | apply pl_pure | apply pl_underlying | apply pl_Instr_sureAddr | apply pl_Instr_sliceBounds | apply pl_sizeOf | apply pl_Instr_slice | refine Plain.bind' ?_ fun _ => ?_) | split)
end
end
end Go.Proofs.YtignemioillaiaaGreat
