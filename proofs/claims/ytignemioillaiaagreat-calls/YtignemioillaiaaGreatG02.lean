/- The operations are plain. -/
import Derived.Test.YtignemioillaiaaGreatG01
namespace Go.Proofs.YtignemioillaiaaGreat
set_option maxHeartbeats 8000000
set_option maxRecDepth 100000
section
open Go
section
variable {kn : List Nat}
theorem Plain.map' {α β : Type} {f : α → β} {s : Sem α} (h : Plain kn s) : Plain kn (f <$> s) := by
  rw [map_eq_pure_bind]
  exact Plain.bind' h fun _ => trivial
theorem pl_forL {α β : Type} (f : α → β → Sem (ForInStep β)) (hf : ∀ a b, Plain kn (f a b)) : ∀ (l : List α) (b : β), Plain kn (forIn l b f) := by
  intro l
  induction l with
  | nil => intro b; exact trivial
  | cons a l ih =>
    intro b
    rw [List.forIn_cons]
    refine Plain.bind' (hf a b) fun r => ?_
    cases r with
    | done b => exact trivial
    | yield b => exact ih b
theorem pl_forA {α β : Type} (xs : Array α) (b : β) (f : α → β → Sem (ForInStep β)) (hf : ∀ a b, Plain kn (f a b)) : Plain kn (forIn xs b f) := by
  rw [← Array.forIn_toList]
  exact pl_forL f hf _ _
theorem pl_forR {β : Type} (r : Std.Legacy.Range) (b : β) (f : Nat → β → Sem (ForInStep β)) (hf : ∀ a b, Plain kn (f a b)) : Plain kn (forIn r b f) := by
  rw [Std.Legacy.Range.forIn_eq_forIn_range']
  exact pl_forL f hf _ _
theorem pl_mapA {α β : Type} (xs : Array α) (f : α → Sem β) (hf : ∀ a, Plain kn (f a)) : Plain kn (xs.mapM f) := by
  rw [Array.mapM_eq_mapM_toList]
  refine Plain.map' ?_
  generalize xs.toList = l
  induction l with
  | nil => exact trivial
  | cons a l ih =>
    rw [List.mapM_cons]
    exact Plain.bind' (hf a) fun _ => Plain.bind' ih fun _ => trivial
theorem pl_pure {α : Type} (a : α) : Plain kn (pure a : Sem α) := trivial
theorem pl_noRoom : Plain kn (mark .noRoom) := ⟨trivial, trivial⟩
theorem Plain.ite {α : Type} {c : Prop} [Decidable c] {a b : Sem α} (h1 : c → Plain kn a) (h2 : ¬ c → Plain kn b) : Plain kn (if c then a else b) := by
  split
  · exact h1 ‹_›
  · exact h2 ‹_›
theorem pl_foldL {α β : Type} (f : β → α → Sem β) (hf : ∀ b a, Plain kn (f b a)) : ∀ (l : List α) (b : β), Plain kn (List.foldlM f b l) := by
  intro l
  induction l with
  | nil => intro b; exact trivial
  | cons a l ih =>
    intro b
    rw [List.foldlM_cons]
    exact Plain.bind' (hf b a) fun _ => ih _
theorem pl_newObj (o : Obj) (h : o.isChan = false) : Plain kn (newObj o) := ⟨h, fun _ => trivial⟩
theorem pl_set (r : Nat) (o : Obj) (h : r ∈ kn) (ho : o.isChan = false) : Plain kn (setObj r o) := ⟨h, ho, trivial⟩
theorem pl_program : Plain kn (Go.program : Go.Sem Go.Program) := fun _ => trivial
theorem pl_stuck {α : Type} (x1 : String) : Plain kn (Go.stuck x1 : Go.Sem α) := trivial
theorem pl_typeInfo (x0 : Go.TypeId) : Plain kn (Go.typeInfo x0 : Go.Sem Go.TypeInfo) := by
  unfold Go.typeInfo
  repeat' (first | (with_reducible first | apply pl_pure | apply pl_program | apply pl_stuck | refine Plain.bind' ?_ fun _ => ?_) | split)
theorem pl_unsupported {α : Type} (x1 : Go.Unsupported) : Plain kn (Go.unsupported x1 : Go.Sem α) := trivial
theorem pl_zeroValue (x0 : Go.TypeId) : Plain kn (Go.zeroValue x0 : Go.Sem Go.Value) := by
  unfold Go.zeroValue
  repeat' (first | (with_reducible first | apply pl_pure | apply pl_typeInfo | apply pl_unsupported | refine Plain.bind' ?_ fun _ => ?_) | split)
theorem pl_sizeOf (x0 : Go.TypeId) : Plain kn (Go.sizeOf x0 : Go.Sem Nat) := by
  unfold Go.sizeOf
  repeat' ((with_reducible first | apply pl_pure | apply pl_typeInfo | refine Plain.bind' ?_ fun _ => ?_))
theorem pl_store (x0 : Go.Addr) (x1 : Go.Value) (x2 : Go.Mode) : Plain kn (Go.store x0 x1 x2 : Go.Sem Unit) := trivial
theorem pl_storeCells (a : Addr) : ∀ (vs : List Value) (i : Nat), Plain kn (storeCells a vs i) := by
  intro vs
  induction vs with
  | nil => intro i; unfold storeCells; exact trivial
  | cons v vs ih => intro i; unfold storeCells; exact Plain.bind' (pl_store _ _ _) fun _ => ih _
theorem pl_storeVar (x0 : Go.TypeId) (x1 : Go.Addr) (x2 : Go.Value) : Plain kn (Go.storeVar x0 x1 x2 : Go.Sem Unit) := by
  unfold Go.storeVar
  repeat' (first | (with_reducible first | apply pl_sizeOf | apply pl_storeCells | apply pl_stuck | refine Plain.bind' ?_ fun _ => ?_) | split)
theorem pl_newRow (x0 : Go.TypeId) (x1 : Array Go.Value) : Plain kn (Go.newRow x0 x1 : Go.Sem Go.Addr) := by
  unfold Go.newRow
  repeat' (first | ((with_reducible refine pl_newObj _ ?_); rfl) | (with_reducible first | apply pl_pure | refine Plain.bind' ?_ fun _ => ?_))
theorem pl_newVar (x0 : Go.TypeId) (x1 : Go.Value) : Plain kn (Go.newVar x0 x1 : Go.Sem Go.Addr) := by
  unfold Go.newVar
  repeat' (with_reducible apply pl_newRow)
theorem pl_Instr_alloc (x0 : Go.TypeId) (x1 : Bool) (x2 : Go.Value) : Plain kn (Go.Instr.alloc x0 x1 x2 : Go.Sem Go.Value) := by
  unfold Go.Instr.alloc
  repeat' (first | (with_reducible first | apply pl_pure | apply pl_zeroValue | apply pl_storeVar | apply pl_newVar | refine Plain.bind' ?_ fun _ => ?_) | split)
theorem pl_Instr_box (x0 : Go.TypeId) (x1 : Go.Value) : Plain kn (Go.Instr.box x0 x1 : Go.Sem Go.Value) := by
  unfold Go.Instr.box
  repeat' ((with_reducible first | apply pl_pure | apply pl_newVar | refine Plain.bind' ?_ fun _ => ?_))
theorem pl_underlying (x0 : Go.TypeId) : Plain kn (Go.underlying x0 : Go.Sem Go.TypeDesc) := by
  unfold Go.underlying
  repeat' (first | (with_reducible first | apply pl_pure | apply pl_program | apply pl_stuck | refine Plain.bind' ?_ fun _ => ?_) | split)
theorem pl_Instr_build (x0 : Go.TypeId) (x1 : Array (Nat × Go.Value)) : Plain kn (Go.Instr.build x0 x1 : Go.Sem Go.Value) := by
  unfold Go.Instr.build
  repeat' (first | (with_reducible first | apply pl_pure | apply pl_zeroValue | apply pl_underlying | apply pl_sizeOf | apply pl_stuck | refine Plain.bind' ?_ fun _ => ?_ | refine pl_mapA _ _ fun _ => ?_) | split)
theorem pl_Instr_buildSlice (x0 : Go.TypeId) (x1 : Nat) (x2 : Array (Nat × Go.Value)) : Plain kn (Go.Instr.buildSlice x0 x1 x2 : Go.Sem Go.Value) := by
  unfold Go.Instr.buildSlice
  repeat' (first | (with_reducible first | apply pl_pure | apply pl_underlying | apply pl_sizeOf | apply pl_newRow | apply pl_stuck | apply pl_zeroValue | apply pl_unsupported | refine Plain.bind' ?_ fun _ => ?_) | split | dsimp only)
theorem pl_Instr_sureAddr (x0 : Go.Value) : Plain kn (Go.Instr.sureAddr x0 : Go.Sem Go.Addr) := by
  unfold Go.Instr.sureAddr
  repeat' (first | (with_reducible first | apply pl_pure | apply pl_stuck) | split)
theorem pl_isAgg (x0 : Go.TypeId) : Plain kn (Go.isAgg x0 : Go.Sem Bool) := by
  unfold Go.isAgg
  repeat' (first | (with_reducible first | apply pl_pure | apply pl_underlying | refine Plain.bind' ?_ fun _ => ?_) | split)
theorem pl_load (x0 : Go.Addr) (x1 : Go.Mode) : Plain kn (Go.load x0 x1 : Go.Sem Go.Value) := fun _ => trivial
theorem pl_loadCellsFrom (a : Addr) : ∀ (i n : Nat) (acc : Array Value), Plain kn (loadCellsFrom a i n acc) := by
  intro i n
  induction n generalizing i with
  | zero => intro acc; exact trivial
  | succ n ih =>
    intro acc
    unfold loadCellsFrom
    exact Plain.bind' (pl_load _ _) fun v => ih _ _
theorem pl_loadCells (x0 : Go.Addr) (x1 : Nat) : Plain kn (Go.loadCells x0 x1 : Go.Sem (Array Go.Value)) := by
  unfold Go.loadCells
  repeat' (with_reducible apply pl_loadCellsFrom)
theorem pl_loadVar (x0 : Go.TypeId) (x1 : Go.Addr) : Plain kn (Go.loadVar x0 x1 : Go.Sem Go.Value) := by
  unfold Go.loadVar
  repeat' (first | (with_reducible first | apply pl_pure | apply pl_isAgg | apply pl_sizeOf | apply pl_loadCells | apply pl_load | refine Plain.bind' ?_ fun _ => ?_) | split)
theorem pl_Instr_loadAt (x0 : Go.TypeId) (x1 : Go.Value) : Plain kn (Go.Instr.loadAt x0 x1 : Go.Sem Go.Value) := by
  unfold Go.Instr.loadAt
  repeat' ((with_reducible first | apply pl_Instr_sureAddr | apply pl_loadVar | refine Plain.bind' ?_ fun _ => ?_))
theorem pl_Instr_storeAt (x0 : Go.TypeId) (x1 : Go.Value) (x2 : Go.Value) : Plain kn (Go.Instr.storeAt x0 x1 x2 : Go.Sem Unit) := by
  unfold Go.Instr.storeAt
  repeat' ((with_reducible first | apply pl_Instr_sureAddr | apply pl_storeVar | refine Plain.bind' ?_ fun _ => ?_))
theorem pl_part (x0 : Go.TypeId) (x1 : Array Go.Value) (x2 : Nat) : Plain kn (Go.part x0 x1 x2 : Go.Sem Go.Value) := by
  unfold Go.part
  repeat' (first | (with_reducible first | apply pl_pure | apply pl_isAgg | apply pl_sizeOf | apply pl_stuck | refine Plain.bind' ?_ fun _ => ?_) | split)
theorem pl_Op_eqGuardIn : ∀ (n : Nat) (t : TypeId) (x y : Value), Plain kn (Op.eqGuardIn n t x y) := by
  intro n
  induction n with
  | zero => intro t x y; exact trivial
  | succ n ih =>
    intro t x y
    unfold Op.eqGuardIn
    repeat' (first | (with_reducible first | apply ih | apply pl_pure | apply pl_underlying | apply pl_part | apply pl_sizeOf | refine Plain.bind' ?_ fun _ => ?_ | refine pl_forA _ _ _ fun _ _ => ?_ | refine pl_forR _ _ _ fun _ _ => ?_) | split | dsimp only)
theorem pl_eqGuard (x0 : Go.BinOp) (x1 : Go.TypeId) (x2 : Go.Operand) (x3 : Go.Operand) (x4 : Go.Value) (x5 : Go.Value) : Plain kn (Go.eqGuard x0 x1 x2 x3 x4 x5 : Go.Sem Unit) := by
  unfold Go.eqGuard
  repeat' (first | (with_reducible first | apply pl_pure | apply pl_Op_eqGuardIn | apply pl_unsupported | apply pl_program | refine Plain.bind' ?_ fun _ => ?_) | split)
theorem pl_goPanic {α : Type} (x1 : Go.Value) : Plain kn (Go.goPanic x1 : Go.Sem α) := trivial
theorem pl_elemOf (x0 : Go.TypeId) : Plain kn (Go.elemOf x0 : Go.Sem Go.TypeId) := by
  unfold Go.elemOf
  repeat' (first | (with_reducible first | apply pl_pure | apply pl_underlying | apply pl_stuck | refine Plain.bind' ?_ fun _ => ?_) | split)
theorem pl_runtimePanic {α : Type} (x1 : Go.RuntimeError) : Plain kn (Go.runtimePanic x1 : Go.Sem α) := by
  unfold Go.runtimePanic
  repeat' (first | (with_reducible first | apply pl_program | apply pl_goPanic | apply pl_elemOf | apply pl_newVar | refine Plain.bind' ?_ fun _ => ?_) | split)
theorem pl_Op_shift (x0 : Go.BinOp) (x1 : Go.IntKind) (x2 : Int) (x3 : Go.IntKind) (x4 : Int) : Plain kn (Go.Op.shift x0 x1 x2 x3 x4 : Go.Sem Go.Value) := by
  unfold Go.Op.shift
  repeat' (first | (with_reducible first | apply pl_pure | apply pl_runtimePanic | apply pl_stuck) | split)
theorem pl_Op_intArith (x0 : Go.BinOp) (x1 : Go.IntKind) (x2 : Int) (x3 : Int) : Plain kn (Go.Op.intArith x0 x1 x2 x3 : Go.Sem Go.Value) := by
  unfold Go.Op.intArith
  repeat' (first | (with_reducible first | apply pl_pure | apply pl_stuck) | split)
theorem pl_Op_intDiv (x0 : Go.BinOp) (x1 : Go.IntKind) (x2 : Int) (x3 : Int) : Plain kn (Go.Op.intDiv x0 x1 x2 x3 : Go.Sem Go.Value) := by
  unfold Go.Op.intDiv
  repeat' (first | (with_reducible first | apply pl_pure | apply pl_runtimePanic | apply pl_stuck) | split)
theorem pl_Op_intBits (x0 : Go.BinOp) (x1 : Go.IntKind) (x2 : Int) (x3 : Int) : Plain kn (Go.Op.intBits x0 x1 x2 x3 : Go.Sem Go.Value) := by
  unfold Go.Op.intBits
  repeat' (first | (with_reducible first | apply pl_pure | apply pl_stuck) | split)
theorem pl_Op_intCmp (x0 : Go.BinOp) (x1 : Int) (x2 : Int) : Plain kn (Go.Op.intCmp x0 x1 x2 : Go.Sem Go.Value) := by
  unfold Go.Op.intCmp
  repeat' (first | (with_reducible first | apply pl_pure | apply pl_stuck) | split)
theorem pl_choose (x0 : Go.Question) : Plain kn (Go.choose x0 : Go.Sem Nat) := fun _ => trivial
theorem pl_Op_floatArith (x0 : Go.BinOp) (x1 : Go.FloatKind) (x2 : Nat) (x3 : Nat) : Plain kn (Go.Op.floatArith x0 x1 x2 x3 : Go.Sem Go.Value) := by
  unfold Go.Op.floatArith
  repeat' (first | (with_reducible first | apply pl_pure | apply pl_choose | apply pl_stuck | refine Plain.bind' ?_ fun _ => ?_) | split | dsimp only)
theorem pl_Op_floatCmp (x0 : Go.BinOp) (x1 : Go.FloatKind) (x2 : Nat) (x3 : Nat) : Plain kn (Go.Op.floatCmp x0 x1 x2 x3 : Go.Sem Go.Value) := by
  unfold Go.Op.floatCmp
  repeat' (first | (with_reducible first | apply pl_pure | apply pl_stuck) | split)
theorem pl_Op_Complex_arith (x0 : Go.BinOp) (x1 : Go.FloatKind) (x2 : Nat) (x3 : Nat) : Plain kn (Go.Op.Complex.arith x0 x1 x2 x3 : Go.Sem Nat) := by
  unfold Go.Op.Complex.arith
  repeat' (first | (with_reducible first | apply pl_pure | apply pl_Op_floatArith | apply pl_stuck | refine Plain.bind' ?_ fun _ => ?_) | split)
theorem pl_Conv_floatToFloat (x0 : Go.FloatKind) (x1 : Nat) (x2 : Go.FloatKind) : Plain kn (Go.Conv.floatToFloat x0 x1 x2 : Go.Sem Go.Value) := by
  unfold Go.Conv.floatToFloat
  repeat' (first | (with_reducible first | apply pl_pure | apply pl_choose | refine Plain.bind' ?_ fun _ => ?_) | split | dsimp only)
theorem pl_Op_Complex_conv (x0 : Go.FloatKind) (x1 : Nat) (x2 : Go.FloatKind) : Plain kn (Go.Op.Complex.conv x0 x1 x2 : Go.Sem Nat) := by
  unfold Go.Op.Complex.conv
  repeat' (first | (with_reducible first | apply pl_pure | apply pl_Conv_floatToFloat | apply pl_stuck | refine Plain.bind' ?_ fun _ => ?_) | split)
theorem pl_Op_Complex_mul (x0 : Nat) (x1 : Nat) : Plain kn (Go.Op.Complex.mul x0 x1 : Go.Sem Nat) := by
  unfold Go.Op.Complex.mul
  repeat' (with_reducible apply pl_Op_Complex_arith)
theorem pl_Op_Complex_sub (x0 : Nat) (x1 : Nat) : Plain kn (Go.Op.Complex.sub x0 x1 : Go.Sem Nat) := by
  unfold Go.Op.Complex.sub
  repeat' (with_reducible apply pl_Op_Complex_arith)
theorem pl_Op_Complex_add (x0 : Nat) (x1 : Nat) : Plain kn (Go.Op.Complex.add x0 x1 : Go.Sem Nat) := by
  unfold Go.Op.Complex.add
  repeat' (with_reducible apply pl_Op_Complex_arith)
theorem pl_Op_Complex_product (x0 : Nat) (x1 : Nat) (x2 : Nat) (x3 : Nat) : Plain kn (Go.Op.Complex.product x0 x1 x2 x3 : Go.Sem (Nat × Nat)) := by
  unfold Go.Op.Complex.product
  repeat' ((with_reducible first | apply pl_pure | apply pl_Op_Complex_mul | apply pl_Op_Complex_sub | apply pl_Op_Complex_add | refine Plain.bind' ?_ fun _ => ?_))
theorem pl_asBool (x0 : Go.Value) : Plain kn (Go.asBool x0 : Go.Sem Bool) := by
  unfold Go.asBool
  repeat' (first | (with_reducible first | apply pl_pure | apply pl_stuck) | split)
theorem pl_Op_Complex_cmp (x0 : Go.BinOp) (x1 : Go.FloatKind) (x2 : Nat) (x3 : Nat) : Plain kn (Go.Op.Complex.cmp x0 x1 x2 x3 : Go.Sem Bool) := by
  unfold Go.Op.Complex.cmp
  repeat' ((with_reducible first | apply pl_Op_floatCmp | apply pl_asBool | refine Plain.bind' ?_ fun _ => ?_))
theorem pl_Op_Complex_corrected (x0 : Nat) (x1 : Nat) (x2 : Nat) (x3 : Nat) (x4 : Nat) : Plain kn (Go.Op.Complex.corrected x0 x1 x2 x3 x4 : Go.Sem (Nat × Nat)) := by
  unfold Go.Op.Complex.corrected
  repeat' ((with_reducible first | apply pl_pure | apply pl_Op_Complex_mul | apply pl_Op_Complex_add | apply pl_Op_Complex_sub | refine Plain.bind' ?_ fun _ => ?_))
theorem pl_Op_Complex_quo (x0 : Nat) (x1 : Nat) : Plain kn (Go.Op.Complex.quo x0 x1 : Go.Sem Nat) := by
  unfold Go.Op.Complex.quo
  repeat' (with_reducible apply pl_Op_Complex_arith)
theorem pl_Op_Complex_quotient (x0 : Nat) (x1 : Nat) (x2 : Nat) (x3 : Nat) : Plain kn (Go.Op.Complex.quotient x0 x1 x2 x3 : Go.Sem (Nat × Nat)) := by
  unfold Go.Op.Complex.quotient
  repeat' (first | (with_reducible first | apply pl_pure | apply pl_Op_Complex_cmp | apply pl_Op_Complex_mul | apply pl_Op_Complex_corrected | apply pl_Op_Complex_quo | apply pl_Op_Complex_add | apply pl_Op_Complex_sub | refine Plain.bind' ?_ fun _ => ?_) | split | dsimp only)
theorem pl_Op_complexOp (x0 : Go.BinOp) (x1 : Go.FloatKind) (x2 : Nat) (x3 : Nat) (x4 : Nat) (x5 : Nat) : Plain kn (Go.Op.complexOp x0 x1 x2 x3 x4 x5 : Go.Sem Go.Value) := by
  unfold Go.Op.complexOp
  repeat' (first | (with_reducible first | apply pl_pure | apply pl_Op_Complex_arith | apply pl_Op_Complex_conv | apply pl_Op_Complex_product | apply pl_Op_Complex_quotient | apply pl_Op_Complex_cmp | apply pl_stuck | refine Plain.bind' ?_ fun _ => ?_) | split)
theorem pl_Op_stringOp (x0 : Go.BinOp) (x1 : ByteArray) (x2 : ByteArray) : Plain kn (Go.Op.stringOp x0 x1 x2 : Go.Sem Go.Value) := by
  unfold Go.Op.stringOp
  repeat' (first | (with_reducible first | apply pl_pure | apply pl_unsupported | apply pl_stuck) | split)
theorem pl_shape (x0 : Nat) : Plain kn (Go.shape x0 : Go.Sem (Option (Go.TypeId × Nat))) := fun _ => trivial
theorem pl_getObj (x0 : Nat) : Plain kn (Go.getObj x0 : Go.Sem Go.Obj) := fun _ => trivial
theorem pl_numberAt (x0 : Nat) : Plain kn (Go.numberAt x0 : Go.Sem (Option (Go.Addr × Bool))) := by
  unfold Go.numberAt
  repeat' (first | (with_reducible first | apply pl_pure | apply pl_shape | apply pl_getObj | refine Plain.bind' ?_ fun _ => ?_) | split)
theorem pl_behindNumber (x0 : Go.Addr) : Plain kn (Go.behindNumber x0 : Go.Sem (Go.Addr × Bool)) := by
  unfold Go.behindNumber
  repeat' ((with_reducible first | apply pl_pure | apply pl_numberAt | refine Plain.bind' ?_ fun _ => ?_))
theorem pl_viewAt (x0 : Nat) : Plain kn (Go.viewAt x0 : Go.Sem (Option (Go.Addr × Go.TypeId))) := by
  unfold Go.viewAt
  repeat' (first | (with_reducible first | apply pl_pure | apply pl_shape | apply pl_getObj | refine Plain.bind' ?_ fun _ => ?_) | split)
theorem pl_noView (x0 : Go.Addr) : Plain kn (Go.noView x0 : Go.Sem Unit) := by
  unfold Go.noView
  repeat' (first | (with_reducible first | apply pl_pure | apply pl_viewAt | apply pl_unsupported | refine Plain.bind' ?_ fun _ => ?_) | split)
theorem pl_byteOf (x0 : Go.Addr) : Plain kn (Go.byteOf x0 : Go.Sem Nat) := by
  unfold Go.byteOf
  repeat' (first | (with_reducible first | apply pl_pure | apply pl_program | apply pl_noView | apply pl_shape | apply pl_stuck | refine Plain.bind' ?_ fun _ => ?_) | split | dsimp only)
theorem pl_frozen (x0 : Go.Addr) : Plain kn (Go.frozen x0 : Go.Sem Bool) := fun _ => trivial
theorem pl_stringish (x0 : Go.Addr) : Plain kn (Go.stringish x0 : Go.Sem Bool) := by
  unfold Go.stringish
  repeat' (first | (with_reducible first | apply pl_pure | apply pl_frozen | apply pl_shape | refine Plain.bind' ?_ fun _ => ?_) | split)
theorem pl_mayBeOne (x0 : Go.Addr) (x1 : Go.Addr) : Plain kn (Go.mayBeOne x0 x1 : Go.Sem Bool) := by
  unfold Go.mayBeOne
  repeat' ((with_reducible first | apply pl_pure | apply pl_shape | apply pl_stringish | refine Plain.bind' ?_ fun _ => ?_))
theorem pl_sameAddr (x0 : Go.Addr) (x1 : Go.Addr) : Plain kn (Go.sameAddr x0 x1 : Go.Sem Bool) := by
  unfold Go.sameAddr
  repeat' (first | (with_reducible first | apply pl_pure | apply pl_frozen | apply pl_noView | apply pl_mayBeOne | apply pl_choose | apply pl_unsupported | refine Plain.bind' ?_ fun _ => ?_) | split)
theorem pl_samePointer (x0 : Option Go.Addr) (x1 : Option Go.Addr) : Plain kn (Go.samePointer x0 x1 : Go.Sem Bool) := by
  unfold Go.samePointer
  repeat' (first | (with_reducible first | apply pl_pure | apply pl_sameAddr) | split)
theorem pl_typeStr (x0 : Go.TypeId) : Plain kn (Go.typeStr x0 : Go.Sem String) := by
  unfold Go.typeStr
  repeat' (first | (with_reducible first | apply pl_pure | apply pl_typeInfo | apply pl_unsupported | refine Plain.bind' ?_ fun _ => ?_) | split | dsimp only)
theorem pl_Op_equalIn : ∀ (n : Nat) (t : TypeId) (x y : Value), Plain kn (Op.equalIn n t x y) := by
  intro n
  induction n with
  | zero => intro t x y; exact trivial
  | succ n ih =>
    intro t x y
    unfold Op.equalIn
    repeat' (first | (with_reducible first | apply ih | apply pl_pure | apply pl_unsupported | apply pl_underlying | apply pl_stuck | apply pl_behindNumber | apply pl_program | apply pl_byteOf | apply pl_typeInfo | apply pl_sizeOf | apply pl_sameAddr | apply pl_choose | apply pl_samePointer | apply pl_typeStr | apply pl_runtimePanic | apply pl_part | refine Plain.bind' ?_ fun _ => ?_ | refine pl_forA _ _ _ fun _ _ => ?_ | refine pl_forR _ _ _ fun _ _ => ?_) | split | dsimp only)
theorem pl_Op_equal (x0 : Go.TypeId) (x1 : Go.Value) (x2 : Go.Value) : Plain kn (Go.Op.equal x0 x1 x2 : Go.Sem Bool) := by
  unfold Go.Op.equal
  repeat' (with_reducible apply pl_Op_equalIn)
theorem pl_asIntOf (x0 : Go.Value) : Plain kn (Go.asIntOf x0 : Go.Sem (Go.IntKind × Int)) := by
  unfold Go.asIntOf
  repeat' (first | (with_reducible first | apply pl_pure | apply pl_unsupported | apply pl_stuck) | split)
theorem pl_asInt (x0 : Go.Value) : Plain kn (Go.asInt x0 : Go.Sem Int) := by
  unfold Go.asInt
  repeat' ((with_reducible first | apply pl_pure | apply pl_asIntOf | refine Plain.bind' ?_ fun _ => ?_))
theorem pl_Builtin_unsafeAdd_ (x0 : Array TypeId) (x1 : TypeId) (x2 : Array Value) : Plain kn (Builtin.unsafeAdd_ x0 x1 x2) := by
  obtain ⟨l⟩ := x2
  rcases l with _ | ⟨a, _ | ⟨b, _ | ⟨c, l⟩⟩⟩
  · exact trivial
  · cases a <;> exact trivial
  · cases a <;> first | exact trivial | skip
    refine Plain.bind' (s := asInt b) (pl_asInt b) fun n => ?_
    repeat' (first | (with_reducible first | apply ih | apply pl_pure | apply pl_asInt | apply pl_shape | apply pl_program | apply pl_unsupported | apply pl_viewAt | refine Plain.bind' ?_ fun _ => ?_) | split)
  · cases a <;> exact trivial
theorem pl_movedPointer (x0 : Go.TypeId) (x1 : Go.Value) (x2 : Go.Value) : Plain kn (Go.movedPointer x0 x1 x2 : Go.Sem Go.Value) := by
  unfold Go.movedPointer
  repeat' (first | (with_reducible first | apply pl_Builtin_unsafeAdd_ | apply pl_numberAt | apply pl_unsupported | refine Plain.bind' ?_ fun _ => ?_) | split)
theorem pl_asNumber (x0 : Go.Addr) (x1 : Bool) : Plain kn (Go.asNumber x0 x1 : Go.Sem Go.Value) := by
  unfold Go.asNumber
  repeat' (first | ((with_reducible refine pl_newObj _ ?_); rfl) | (with_reducible first | apply pl_pure | refine Plain.bind' ?_ fun _ => ?_))
theorem pl_movedNumber (x0 : Go.TypeId) (x1 : Go.Value) (x2 : Go.Value) : Plain kn (Go.movedNumber x0 x1 x2 : Go.Sem Go.Value) := by
  unfold Go.movedNumber
  repeat' (first | (with_reducible first | apply pl_pure | apply pl_underlying | apply pl_behindNumber | apply pl_Builtin_unsafeAdd_ | apply pl_asNumber | apply pl_unsupported | refine Plain.bind' ?_ fun _ => ?_) | split)
theorem pl_Op_twoPlaces (x0 : Go.Addr) (x1 : Go.Addr) : Plain kn (Go.Op.twoPlaces x0 x1 : Go.Sem (Nat × Nat)) := by
  unfold Go.Op.twoPlaces
  repeat' (first | (with_reducible first | apply pl_pure | apply pl_program | apply pl_byteOf | apply pl_unsupported | refine Plain.bind' ?_ fun _ => ?_) | split)
theorem pl_Op_addrSub (x0 : Go.IntKind) (x1 : Go.Addr) (x2 : Go.Addr) : Plain kn (Go.Op.addrSub x0 x1 x2 : Go.Sem Go.Value) := by
  unfold Go.Op.addrSub
  repeat' ((with_reducible first | apply pl_pure | apply pl_Op_twoPlaces | refine Plain.bind' ?_ fun _ => ?_))
theorem pl_Op_addrCmp (x0 : Go.BinOp) (x1 : Go.Addr) (x2 : Go.Addr) : Plain kn (Go.Op.addrCmp x0 x1 x2 : Go.Sem Go.Value) := by
  unfold Go.Op.addrCmp
  repeat' (first | (with_reducible first | apply pl_pure | apply pl_Op_twoPlaces | apply pl_unsupported | refine Plain.bind' ?_ fun _ => ?_) | split)
theorem pl_Op_addrMod (x0 : Go.IntKind) (x1 : Go.Addr) (x2 : Int) : Plain kn (Go.Op.addrMod x0 x1 x2 : Go.Sem Go.Value) := by
  unfold Go.Op.addrMod
  repeat' (first | (with_reducible first | apply pl_pure | apply pl_shape | apply pl_typeInfo | apply pl_byteOf | apply pl_unsupported | refine Plain.bind' ?_ fun _ => ?_) | split | dsimp only)
theorem pl_binOp (x0 : Go.BinOp) (x1 : Go.TypeId) (x2 : Go.Value) (x3 : Go.Value) : Plain kn (Go.binOp x0 x1 x2 x3 : Go.Sem Go.Value) := by
  unfold Go.binOp
  repeat' (first | (with_reducible first | apply pl_pure | apply pl_Op_shift | apply pl_stuck | apply pl_Op_intArith | apply pl_Op_intDiv | apply pl_Op_intBits | apply pl_Op_intCmp | apply pl_Op_floatArith | apply pl_Op_floatCmp | apply pl_Op_complexOp | apply pl_Op_stringOp | apply pl_Op_equal | apply pl_underlying | apply pl_movedPointer | apply pl_movedNumber | apply pl_behindNumber | apply pl_Op_addrSub | apply pl_Op_addrCmp | apply pl_Op_addrMod | apply pl_unsupported | refine Plain.bind' ?_ fun _ => ?_) | split)
end
end
end Go.Proofs.YtignemioillaiaaGreat
