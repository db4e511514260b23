/- The operations are plain. -/
import Derived.Test.YtignemioillaiaaGreatG18
namespace Go.Proofs.YtignemioillaiaaGreat
set_option maxHeartbeats 8000000
set_option maxRecDepth 100000
section
open Go
section
variable {kn : List Nat}
theorem Plain.map' {α β : Type} {f : α → β} {s : Sem α} (h : Plain kn s) : Plain kn (f <$> s) := by
  rw [map_eq_pure_bind]
  exact Plain.bind' h fun _ => trivial
theorem IC {α β : Type} (f : α → β → Sem (ForInStep β)) (hf : ∀ a b, Plain kn (f a b)) : ∀ (l : List α) (b : β), Plain kn (forIn l b f) := by
  intro l
  induction l with
  | nil => intro b; exact trivial
  | cons a l ih =>
    intro b
    rw [List.forIn_cons]
    refine Plain.bind' (hf a b) fun r => ?_
    cases r with
    | done b => exact trivial
    | yield b => exact ih b
theorem aA {α β : Type} (xs : Array α) (b : β) (f : α → β → Sem (ForInStep β)) (hf : ∀ a b, Plain kn (f a b)) : Plain kn (forIn xs b f) := by
  rw [← Array.forIn_toList]
  exact IC f hf _ _
theorem aB {β : Type} (r : Std.Legacy.Range) (b : β) (f : Nat → β → Sem (ForInStep β)) (hf : ∀ a b, Plain kn (f a b)) : Plain kn (forIn r b f) := by
  rw [Std.Legacy.Range.forIn_eq_forIn_range']
  exact IC f hf _ _
theorem aC {α β : Type} (xs : Array α) (f : α → Sem β) (hf : ∀ a, Plain kn (f a)) : Plain kn (xs.mapM f) := by
  rw [Array.mapM_eq_mapM_toList]
  refine Plain.map' ?_
  generalize xs.toList = l
  induction l with
  | nil => exact trivial
  | cons a l ih =>
    rw [List.mapM_cons]
    exact Plain.bind' (hf a) fun _ => Plain.bind' ih fun _ => trivial
theorem az {α : Type} (a : α) : Plain kn (pure a : Sem α) := trivial
theorem Ed : Plain kn (mark .noRoom) := ⟨trivial, trivial⟩
theorem Plain.ite {α : Type} {c : Prop} [Decidable c] {a b : Sem α} (h1 : c → Plain kn a) (h2 : ¬ c → Plain kn b) : Plain kn (if c then a else b) := by
  split
  · exact h1 ‹_›
  · exact h2 ‹_›
theorem au {α β : Type} (f : β → α → Sem β) (hf : ∀ b a, Plain kn (f b a)) : ∀ (l : List α) (b : β), Plain kn (List.foldlM f b l) := by
  intro l
  induction l with
  | nil => intro b; exact trivial
  | cons a l ih =>
    intro b
    rw [List.foldlM_cons]
    exact Plain.bind' (hf b a) fun _ => ih _
theorem sZ (o : Obj) (h : o.isChan = false) : Plain kn (newObj o) := ⟨h, fun _ => trivial⟩
theorem BX (r : Nat) (o : Obj) (h : r ∈ kn) (ho : o.isChan = false) : Plain kn (setObj r o) := ⟨h, ho, trivial⟩
theorem iE : Plain kn (Go.program : Go.Sem Go.Program) := fun _ => trivial
theorem bu {α : Type} (x1 : String) : Plain kn (Go.stuck x1 : Go.Sem α) := trivial
theorem jh (x0 : Go.TypeId) : Plain kn (Go.typeInfo x0 : Go.Sem Go.TypeInfo) := by
  unfold Go.typeInfo
  repeat' (first | with_reducible apply az | with_reducible apply iE | with_reducible apply bu | (with_reducible refine Plain.obj fun _ => ?_) | (with_reducible refine Plain.bind' ?_ fun _ => ?_) | (with_reducible refine Plain.map' ?_) | (with_reducible refine aA _ _ _ fun _ _ => ?_) | (with_reducible refine aB _ _ _ fun _ _ => ?_) | (with_reducible refine aC _ _ fun _ => ?_) | (with_reducible refine Plain.ite (fun _ => ?_) (fun _ => ?_)) | (with_reducible refine au _ (fun _ _ => ?_) _ _) | split | dsimp only)
theorem bU {α : Type} (x1 : Go.Unsupported) : Plain kn (Go.unsupported x1 : Go.Sem α) := trivial
theorem kM (x0 : Go.TypeId) : Plain kn (Go.zeroValue x0 : Go.Sem Go.Value) := by
  unfold Go.zeroValue
  repeat' (first | with_reducible apply az | with_reducible apply jh | with_reducible apply bU | (with_reducible refine Plain.obj fun _ => ?_) | (with_reducible refine Plain.bind' ?_ fun _ => ?_) | (with_reducible refine Plain.map' ?_) | (with_reducible refine aA _ _ _ fun _ _ => ?_) | (with_reducible refine aB _ _ _ fun _ _ => ?_) | (with_reducible refine aC _ _ fun _ => ?_) | (with_reducible refine Plain.ite (fun _ => ?_) (fun _ => ?_)) | (with_reducible refine au _ (fun _ _ => ?_) _ _) | split | dsimp only)
theorem eZ (x0 : Go.TypeId) : Plain kn (Go.sizeOf x0 : Go.Sem Nat) := by
  unfold Go.sizeOf
  repeat' (first | with_reducible apply az | with_reducible apply jh | (with_reducible refine Plain.obj fun _ => ?_) | (with_reducible refine Plain.bind' ?_ fun _ => ?_) | (with_reducible refine Plain.map' ?_) | (with_reducible refine aA _ _ _ fun _ _ => ?_) | (with_reducible refine aB _ _ _ fun _ _ => ?_) | (with_reducible refine aC _ _ fun _ => ?_) | (with_reducible refine Plain.ite (fun _ => ?_) (fun _ => ?_)) | (with_reducible refine au _ (fun _ _ => ?_) _ _) | split | dsimp only)
theorem OG (x0 : Go.Addr) (x1 : Go.Value) (x2 : Go.Mode) : Plain kn (Go.store x0 x1 x2 : Go.Sem Unit) := trivial
theorem oG (a : Addr) : ∀ (vs : List Value) (i : Nat), Plain kn (storeCells a vs i) := by
  intro vs
  induction vs with
  | nil => intro i; unfold storeCells; exact trivial
  | cons v vs ih => intro i; unfold storeCells; exact Plain.bind' (OG _ _ _) fun _ => ih _
theorem Ag (x0 : Go.TypeId) (x1 : Go.Addr) (x2 : Go.Value) : Plain kn (Go.storeVar x0 x1 x2 : Go.Sem Unit) := by
  unfold Go.storeVar
  repeat' (first | with_reducible apply az | with_reducible apply eZ | with_reducible apply oG | with_reducible apply bu | (with_reducible refine Plain.obj fun _ => ?_) | (with_reducible refine Plain.bind' ?_ fun _ => ?_) | (with_reducible refine Plain.map' ?_) | (with_reducible refine aA _ _ _ fun _ _ => ?_) | (with_reducible refine aB _ _ _ fun _ _ => ?_) | (with_reducible refine aC _ _ fun _ => ?_) | (with_reducible refine Plain.ite (fun _ => ?_) (fun _ => ?_)) | (with_reducible refine au _ (fun _ _ => ?_) _ _) | split | dsimp only)
theorem pz (x0 : Go.TypeId) (x1 : Array Go.Value) : Plain kn (Go.newRow x0 x1 : Go.Sem Go.Addr) := by
  unfold Go.newRow
  repeat' (first | with_reducible apply az | ((with_reducible refine sZ _ ?_); rfl) | (with_reducible refine Plain.obj fun _ => ?_) | (with_reducible refine Plain.bind' ?_ fun _ => ?_) | (with_reducible refine Plain.map' ?_) | (with_reducible refine aA _ _ _ fun _ _ => ?_) | (with_reducible refine aB _ _ _ fun _ _ => ?_) | (with_reducible refine aC _ _ fun _ => ?_) | (with_reducible refine Plain.ite (fun _ => ?_) (fun _ => ?_)) | (with_reducible refine au _ (fun _ _ => ?_) _ _) | split | dsimp only)
theorem wY (x0 : Go.TypeId) (x1 : Go.Value) : Plain kn (Go.newVar x0 x1 : Go.Sem Go.Addr) := by
  unfold Go.newVar
  repeat' (first | with_reducible apply az | with_reducible apply pz | (with_reducible refine Plain.obj fun _ => ?_) | (with_reducible refine Plain.bind' ?_ fun _ => ?_) | (with_reducible refine Plain.map' ?_) | (with_reducible refine aA _ _ _ fun _ _ => ?_) | (with_reducible refine aB _ _ _ fun _ _ => ?_) | (with_reducible refine aC _ _ fun _ => ?_) | (with_reducible refine Plain.ite (fun _ => ?_) (fun _ => ?_)) | (with_reducible refine au _ (fun _ _ => ?_) _ _) | split | dsimp only)
theorem Dh (x0 : Go.TypeId) (x1 : Bool) (x2 : Go.Value) : Plain kn (Go.Instr.alloc x0 x1 x2 : Go.Sem Go.Value) := by
  unfold Go.Instr.alloc
  repeat' (first | with_reducible apply az | with_reducible apply kM | with_reducible apply Ag | with_reducible apply wY | (with_reducible refine Plain.obj fun _ => ?_) | (with_reducible refine Plain.bind' ?_ fun _ => ?_) | (with_reducible refine Plain.map' ?_) | (with_reducible refine aA _ _ _ fun _ _ => ?_) | (with_reducible refine aB _ _ _ fun _ _ => ?_) | (with_reducible refine aC _ _ fun _ => ?_) | (with_reducible refine Plain.ite (fun _ => ?_) (fun _ => ?_)) | (with_reducible refine au _ (fun _ _ => ?_) _ _) | split | dsimp only)
theorem FR (x0 : Go.TypeId) (x1 : Go.Value) : Plain kn (Go.Instr.box x0 x1 : Go.Sem Go.Value) := by
  unfold Go.Instr.box
  repeat' (first | with_reducible apply az | with_reducible apply wY | (with_reducible refine Plain.obj fun _ => ?_) | (with_reducible refine Plain.bind' ?_ fun _ => ?_) | (with_reducible refine Plain.map' ?_) | (with_reducible refine aA _ _ _ fun _ _ => ?_) | (with_reducible refine aB _ _ _ fun _ _ => ?_) | (with_reducible refine aC _ _ fun _ => ?_) | (with_reducible refine Plain.ite (fun _ => ?_) (fun _ => ?_)) | (with_reducible refine au _ (fun _ _ => ?_) _ _) | split | dsimp only)
theorem bH (x0 : Go.TypeId) : Plain kn (Go.underlying x0 : Go.Sem Go.TypeDesc) := by
  unfold Go.underlying
  repeat' (first | with_reducible apply az | with_reducible apply iE | with_reducible apply bu | (with_reducible refine Plain.obj fun _ => ?_) | (with_reducible refine Plain.bind' ?_ fun _ => ?_) | (with_reducible refine Plain.map' ?_) | (with_reducible refine aA _ _ _ fun _ _ => ?_) | (with_reducible refine aB _ _ _ fun _ _ => ?_) | (with_reducible refine aC _ _ fun _ => ?_) | (with_reducible refine Plain.ite (fun _ => ?_) (fun _ => ?_)) | (with_reducible refine au _ (fun _ _ => ?_) _ _) | split | dsimp only)
theorem Di (x0 : Go.TypeId) (x1 : Array (Nat × Go.Value)) : Plain kn (Go.Instr.build x0 x1 : Go.Sem Go.Value) := by
  unfold Go.Instr.build
  repeat' (first | with_reducible apply az | with_reducible apply kM | with_reducible apply bH | with_reducible apply eZ | with_reducible apply bu | (with_reducible refine Plain.obj fun _ => ?_) | (with_reducible refine Plain.bind' ?_ fun _ => ?_) | (with_reducible refine Plain.map' ?_) | (with_reducible refine aA _ _ _ fun _ _ => ?_) | (with_reducible refine aB _ _ _ fun _ _ => ?_) | (with_reducible refine aC _ _ fun _ => ?_) | (with_reducible refine Plain.ite (fun _ => ?_) (fun _ => ?_)) | (with_reducible refine au _ (fun _ _ => ?_) _ _) | split | dsimp only)
theorem vY (x0 : Go.TypeId) (x1 : Nat) (x2 : Array (Nat × Go.Value)) : Plain kn (Go.Instr.buildSlice x0 x1 x2 : Go.Sem Go.Value) := by
  unfold Go.Instr.buildSlice
  repeat' (first | with_reducible apply az | with_reducible apply bH | with_reducible apply eZ | with_reducible apply pz | with_reducible apply bu | with_reducible apply kM | with_reducible apply bU | (with_reducible refine Plain.obj fun _ => ?_) | (with_reducible refine Plain.bind' ?_ fun _ => ?_) | (with_reducible refine Plain.map' ?_) | (with_reducible refine aA _ _ _ fun _ _ => ?_) | (with_reducible refine aB _ _ _ fun _ _ => ?_) | (with_reducible refine aC _ _ fun _ => ?_) | (with_reducible refine Plain.ite (fun _ => ?_) (fun _ => ?_)) | (with_reducible refine au _ (fun _ _ => ?_) _ _) | split | dsimp only)
theorem kv (x0 : Go.Value) : Plain kn (Go.Instr.sureAddr x0 : Go.Sem Go.Addr) := by
  unfold Go.Instr.sureAddr
  repeat' (first | with_reducible apply az | with_reducible apply bu | (with_reducible refine Plain.obj fun _ => ?_) | (with_reducible refine Plain.bind' ?_ fun _ => ?_) | (with_reducible refine Plain.map' ?_) | (with_reducible refine aA _ _ _ fun _ _ => ?_) | (with_reducible refine aB _ _ _ fun _ _ => ?_) | (with_reducible refine aC _ _ fun _ => ?_) | (with_reducible refine Plain.ite (fun _ => ?_) (fun _ => ?_)) | (with_reducible refine au _ (fun _ _ => ?_) _ _) | split | dsimp only)
theorem FT (x0 : Go.TypeId) : Plain kn (Go.isAgg x0 : Go.Sem Bool) := by
  unfold Go.isAgg
  repeat' (first | with_reducible apply az | with_reducible apply bH | (with_reducible refine Plain.obj fun _ => ?_) | (with_reducible refine Plain.bind' ?_ fun _ => ?_) | (with_reducible refine Plain.map' ?_) | (with_reducible refine aA _ _ _ fun _ _ => ?_) | (with_reducible refine aB _ _ _ fun _ _ => ?_) | (with_reducible refine aC _ _ fun _ => ?_) | (with_reducible refine Plain.ite (fun _ => ?_) (fun _ => ?_)) | (with_reducible refine au _ (fun _ _ => ?_) _ _) | split | dsimp only)
theorem IE (x0 : Go.Addr) (x1 : Go.Mode) : Plain kn (Go.load x0 x1 : Go.Sem Go.Value) := fun _ => trivial
theorem AY (a : Addr) : ∀ (i n : Nat) (acc : Array Value), Plain kn (loadCellsFrom a i n acc) := by
  intro i n
  induction n generalizing i with
  | zero => intro acc; exact trivial
  | succ n ih =>
    intro acc
    unfold loadCellsFrom
    exact Plain.bind' (IE _ _) fun v => ih _ _
theorem p9 (x0 : Go.Addr) (x1 : Nat) : Plain kn (Go.loadCells x0 x1 : Go.Sem (Array Go.Value)) := by
  unfold Go.loadCells
  repeat' (first | with_reducible apply az | with_reducible apply AY | (with_reducible refine Plain.obj fun _ => ?_) | (with_reducible refine Plain.bind' ?_ fun _ => ?_) | (with_reducible refine Plain.map' ?_) | (with_reducible refine aA _ _ _ fun _ _ => ?_) | (with_reducible refine aB _ _ _ fun _ _ => ?_) | (with_reducible refine aC _ _ fun _ => ?_) | (with_reducible refine Plain.ite (fun _ => ?_) (fun _ => ?_)) | (with_reducible refine au _ (fun _ _ => ?_) _ _) | split | dsimp only)
theorem BZ (x0 : Go.TypeId) (x1 : Go.Addr) : Plain kn (Go.loadVar x0 x1 : Go.Sem Go.Value) := by
  unfold Go.loadVar
  repeat' (first | with_reducible apply az | with_reducible apply FT | with_reducible apply eZ | with_reducible apply p9 | with_reducible apply IE | (with_reducible refine Plain.obj fun _ => ?_) | (with_reducible refine Plain.bind' ?_ fun _ => ?_) | (with_reducible refine Plain.map' ?_) | (with_reducible refine aA _ _ _ fun _ _ => ?_) | (with_reducible refine aB _ _ _ fun _ _ => ?_) | (with_reducible refine aC _ _ fun _ => ?_) | (with_reducible refine Plain.ite (fun _ => ?_) (fun _ => ?_)) | (with_reducible refine au _ (fun _ _ => ?_) _ _) | split | dsimp only)
theorem Ca (x0 : Go.TypeId) (x1 : Go.Value) : Plain kn (Go.Instr.loadAt x0 x1 : Go.Sem Go.Value) := by
  unfold Go.Instr.loadAt
  repeat' (first | with_reducible apply az | with_reducible apply kv | with_reducible apply BZ | (with_reducible refine Plain.obj fun _ => ?_) | (with_reducible refine Plain.bind' ?_ fun _ => ?_) | (with_reducible refine Plain.map' ?_) | (with_reducible refine aA _ _ _ fun _ _ => ?_) | (with_reducible refine aB _ _ _ fun _ _ => ?_) | (with_reducible refine aC _ _ fun _ => ?_) | (with_reducible refine Plain.ite (fun _ => ?_) (fun _ => ?_)) | (with_reducible refine au _ (fun _ _ => ?_) _ _) | split | dsimp only)
theorem AZ (x0 : Go.TypeId) (x1 : Go.Value) (x2 : Go.Value) : Plain kn (Go.Instr.storeAt x0 x1 x2 : Go.Sem Unit) := by
  unfold Go.Instr.storeAt
  repeat' (first | with_reducible apply az | with_reducible apply kv | with_reducible apply Ag | (with_reducible refine Plain.obj fun _ => ?_) | (with_reducible refine Plain.bind' ?_ fun _ => ?_) | (with_reducible refine Plain.map' ?_) | (with_reducible refine aA _ _ _ fun _ _ => ?_) | (with_reducible refine aB _ _ _ fun _ _ => ?_) | (with_reducible refine aC _ _ fun _ => ?_) | (with_reducible refine Plain.ite (fun _ => ?_) (fun _ => ?_)) | (with_reducible refine au _ (fun _ _ => ?_) _ _) | split | dsimp only)
theorem rY (x0 : Go.TypeId) (x1 : Array Go.Value) (x2 : Nat) : Plain kn (Go.part x0 x1 x2 : Go.Sem Go.Value) := by
  unfold Go.part
  repeat' (first | with_reducible apply az | with_reducible apply FT | with_reducible apply eZ | with_reducible apply bu | (with_reducible refine Plain.obj fun _ => ?_) | (with_reducible refine Plain.bind' ?_ fun _ => ?_) | (with_reducible refine Plain.map' ?_) | (with_reducible refine aA _ _ _ fun _ _ => ?_) | (with_reducible refine aB _ _ _ fun _ _ => ?_) | (with_reducible refine aC _ _ fun _ => ?_) | (with_reducible refine Plain.ite (fun _ => ?_) (fun _ => ?_)) | (with_reducible refine au _ (fun _ _ => ?_) _ _) | split | dsimp only)
theorem Cb : ∀ (n : Nat) (t : TypeId) (x y : Value), Plain kn (Op.eqGuardIn n t x y) := by
  intro n
  induction n with
  | zero => intro t x y; exact trivial
  | succ n ih =>
    intro t x y
    unfold Op.eqGuardIn
    repeat' (first | with_reducible apply ih | with_reducible apply az | with_reducible apply bU | with_reducible apply bH | with_reducible apply rY | with_reducible apply eZ | (with_reducible refine Plain.obj fun _ => ?_) | (with_reducible refine Plain.bind' ?_ fun _ => ?_) | (with_reducible refine Plain.map' ?_) | (with_reducible refine aA _ _ _ fun _ _ => ?_) | (with_reducible refine aB _ _ _ fun _ _ => ?_) | (with_reducible refine aC _ _ fun _ => ?_) | (with_reducible refine Plain.ite (fun _ => ?_) (fun _ => ?_)) | (with_reducible refine au _ (fun _ _ => ?_) _ _) | split | dsimp only)
theorem J7 (x0 : Go.BinOp) (x1 : Go.TypeId) (x2 : Go.Operand) (x3 : Go.Operand) (x4 : Go.Value) (x5 : Go.Value) : Plain kn (Go.eqGuard x0 x1 x2 x3 x4 x5 : Go.Sem Unit) := by
  unfold Go.eqGuard
  repeat' (first | with_reducible apply az | with_reducible apply Cb | with_reducible apply bU | with_reducible apply iE | (with_reducible refine Plain.obj fun _ => ?_) | (with_reducible refine Plain.bind' ?_ fun _ => ?_) | (with_reducible refine Plain.map' ?_) | (with_reducible refine aA _ _ _ fun _ _ => ?_) | (with_reducible refine aB _ _ _ fun _ _ => ?_) | (with_reducible refine aC _ _ fun _ => ?_) | (with_reducible refine Plain.ite (fun _ => ?_) (fun _ => ?_)) | (with_reducible refine au _ (fun _ _ => ?_) _ _) | split | dsimp only)
theorem J8 {α : Type} (x1 : Go.Value) : Plain kn (Go.goPanic x1 : Go.Sem α) := trivial
theorem LJ (x0 : Go.TypeId) : Plain kn (Go.elemOf x0 : Go.Sem Go.TypeId) := by
  unfold Go.elemOf
  repeat' (first | with_reducible apply az | with_reducible apply bH | with_reducible apply bu | (with_reducible refine Plain.obj fun _ => ?_) | (with_reducible refine Plain.bind' ?_ fun _ => ?_) | (with_reducible refine Plain.map' ?_) | (with_reducible refine aA _ _ _ fun _ _ => ?_) | (with_reducible refine aB _ _ _ fun _ _ => ?_) | (with_reducible refine aC _ _ fun _ => ?_) | (with_reducible refine Plain.ite (fun _ => ?_) (fun _ => ?_)) | (with_reducible refine au _ (fun _ _ => ?_) _ _) | split | dsimp only)
theorem eH {α : Type} (x1 : Go.RuntimeError) : Plain kn (Go.runtimePanic x1 : Go.Sem α) := by
  unfold Go.runtimePanic
  repeat' (first | with_reducible apply az | with_reducible apply iE | with_reducible apply J8 | with_reducible apply LJ | with_reducible apply wY | (with_reducible refine Plain.obj fun _ => ?_) | (with_reducible refine Plain.bind' ?_ fun _ => ?_) | (with_reducible refine Plain.map' ?_) | (with_reducible refine aA _ _ _ fun _ _ => ?_) | (with_reducible refine aB _ _ _ fun _ _ => ?_) | (with_reducible refine aC _ _ fun _ => ?_) | (with_reducible refine Plain.ite (fun _ => ?_) (fun _ => ?_)) | (with_reducible refine au _ (fun _ _ => ?_) _ _) | split | dsimp only)
theorem Ht (x0 : Go.BinOp) (x1 : Go.IntKind) (x2 : Int) (x3 : Go.IntKind) (x4 : Int) : Plain kn (Go.Op.shift x0 x1 x2 x3 x4 : Go.Sem Go.Value) := by
  unfold Go.Op.shift
  repeat' (first | with_reducible apply az | with_reducible apply eH | with_reducible apply bu | (with_reducible refine Plain.obj fun _ => ?_) | (with_reducible refine Plain.bind' ?_ fun _ => ?_) | (with_reducible refine Plain.map' ?_) | (with_reducible refine aA _ _ _ fun _ _ => ?_) | (with_reducible refine aB _ _ _ fun _ _ => ?_) | (with_reducible refine aC _ _ fun _ => ?_) | (with_reducible refine Plain.ite (fun _ => ?_) (fun _ => ?_)) | (with_reducible refine au _ (fun _ _ => ?_) _ _) | split | dsimp only)
theorem uJ (x0 : Go.BinOp) (x1 : Go.IntKind) (x2 : Int) (x3 : Int) : Plain kn (Go.Op.intArith x0 x1 x2 x3 : Go.Sem Go.Value) := by
  unfold Go.Op.intArith
  repeat' (first | with_reducible apply az | with_reducible apply bu | (with_reducible refine Plain.obj fun _ => ?_) | (with_reducible refine Plain.bind' ?_ fun _ => ?_) | (with_reducible refine Plain.map' ?_) | (with_reducible refine aA _ _ _ fun _ _ => ?_) | (with_reducible refine aB _ _ _ fun _ _ => ?_) | (with_reducible refine aC _ _ fun _ => ?_) | (with_reducible refine Plain.ite (fun _ => ?_) (fun _ => ?_)) | (with_reducible refine au _ (fun _ _ => ?_) _ _) | split | dsimp only)
theorem FU (x0 : Go.BinOp) (x1 : Go.IntKind) (x2 : Int) (x3 : Int) : Plain kn (Go.Op.intDiv x0 x1 x2 x3 : Go.Sem Go.Value) := by
  unfold Go.Op.intDiv
  repeat' (first | with_reducible apply az | with_reducible apply eH | with_reducible apply bu | (with_reducible refine Plain.obj fun _ => ?_) | (with_reducible refine Plain.bind' ?_ fun _ => ?_) | (with_reducible refine Plain.map' ?_) | (with_reducible refine aA _ _ _ fun _ _ => ?_) | (with_reducible refine aB _ _ _ fun _ _ => ?_) | (with_reducible refine aC _ _ fun _ => ?_) | (with_reducible refine Plain.ite (fun _ => ?_) (fun _ => ?_)) | (with_reducible refine au _ (fun _ _ => ?_) _ _) | split | dsimp only)
theorem vO (x0 : Go.BinOp) (x1 : Go.IntKind) (x2 : Int) (x3 : Int) : Plain kn (Go.Op.intBits x0 x1 x2 x3 : Go.Sem Go.Value) := by
  unfold Go.Op.intBits
  repeat' (first | with_reducible apply az | with_reducible apply bu | (with_reducible refine Plain.obj fun _ => ?_) | (with_reducible refine Plain.bind' ?_ fun _ => ?_) | (with_reducible refine Plain.map' ?_) | (with_reducible refine aA _ _ _ fun _ _ => ?_) | (with_reducible refine aB _ _ _ fun _ _ => ?_) | (with_reducible refine aC _ _ fun _ => ?_) | (with_reducible refine Plain.ite (fun _ => ?_) (fun _ => ?_)) | (with_reducible refine au _ (fun _ _ => ?_) _ _) | split | dsimp only)
theorem FV (x0 : Go.BinOp) (x1 : Int) (x2 : Int) : Plain kn (Go.Op.intCmp x0 x1 x2 : Go.Sem Go.Value) := by
  unfold Go.Op.intCmp
  repeat' (first | with_reducible apply az | with_reducible apply bu | (with_reducible refine Plain.obj fun _ => ?_) | (with_reducible refine Plain.bind' ?_ fun _ => ?_) | (with_reducible refine Plain.map' ?_) | (with_reducible refine aA _ _ _ fun _ _ => ?_) | (with_reducible refine aB _ _ _ fun _ _ => ?_) | (with_reducible refine aC _ _ fun _ => ?_) | (with_reducible refine Plain.ite (fun _ => ?_) (fun _ => ?_)) | (with_reducible refine au _ (fun _ _ => ?_) _ _) | split | dsimp only)
theorem fI (x0 : Go.Question) : Plain kn (Go.choose x0 : Go.Sem Nat) := fun _ => trivial
theorem sF (x0 : Go.BinOp) (x1 : Go.FloatKind) (x2 : Nat) (x3 : Nat) : Plain kn (Go.Op.floatArith x0 x1 x2 x3 : Go.Sem Go.Value) := by
  unfold Go.Op.floatArith
  repeat' (first | with_reducible apply az | with_reducible apply fI | with_reducible apply bu | (with_reducible refine Plain.obj fun _ => ?_) | (with_reducible refine Plain.bind' ?_ fun _ => ?_) | (with_reducible refine Plain.map' ?_) | (with_reducible refine aA _ _ _ fun _ _ => ?_) | (with_reducible refine aB _ _ _ fun _ _ => ?_) | (with_reducible refine aC _ _ fun _ => ?_) | (with_reducible refine Plain.ite (fun _ => ?_) (fun _ => ?_)) | (with_reducible refine au _ (fun _ _ => ?_) _ _) | split | dsimp only)
theorem uK (x0 : Go.BinOp) (x1 : Go.FloatKind) (x2 : Nat) (x3 : Nat) : Plain kn (Go.Op.floatCmp x0 x1 x2 x3 : Go.Sem Go.Value) := by
  unfold Go.Op.floatCmp
  repeat' (first | with_reducible apply az | with_reducible apply bu | (with_reducible refine Plain.obj fun _ => ?_) | (with_reducible refine Plain.bind' ?_ fun _ => ?_) | (with_reducible refine Plain.map' ?_) | (with_reducible refine aA _ _ _ fun _ _ => ?_) | (with_reducible refine aB _ _ _ fun _ _ => ?_) | (with_reducible refine aC _ _ fun _ => ?_) | (with_reducible refine Plain.ite (fun _ => ?_) (fun _ => ?_)) | (with_reducible refine au _ (fun _ _ => ?_) _ _) | split | dsimp only)
theorem iV (x0 : Go.BinOp) (x1 : Go.FloatKind) (x2 : Nat) (x3 : Nat) : Plain kn (Go.Op.Complex.arith x0 x1 x2 x3 : Go.Sem Nat) := by
  unfold Go.Op.Complex.arith
  repeat' (first | with_reducible apply az | with_reducible apply sF | with_reducible apply bu | (with_reducible refine Plain.obj fun _ => ?_) | (with_reducible refine Plain.bind' ?_ fun _ => ?_) | (with_reducible refine Plain.map' ?_) | (with_reducible refine aA _ _ _ fun _ _ => ?_) | (with_reducible refine aB _ _ _ fun _ _ => ?_) | (with_reducible refine aC _ _ fun _ => ?_) | (with_reducible refine Plain.ite (fun _ => ?_) (fun _ => ?_)) | (with_reducible refine au _ (fun _ _ => ?_) _ _) | split | dsimp only)
theorem mi (x0 : Go.FloatKind) (x1 : Nat) (x2 : Go.FloatKind) : Plain kn (Go.Conv.floatToFloat x0 x1 x2 : Go.Sem Go.Value) := by
  unfold Go.Conv.floatToFloat
  repeat' (first | with_reducible apply az | with_reducible apply fI | (with_reducible refine Plain.obj fun _ => ?_) | (with_reducible refine Plain.bind' ?_ fun _ => ?_) | (with_reducible refine Plain.map' ?_) | (with_reducible refine aA _ _ _ fun _ _ => ?_) | (with_reducible refine aB _ _ _ fun _ _ => ?_) | (with_reducible refine aC _ _ fun _ => ?_) | (with_reducible refine Plain.ite (fun _ => ?_) (fun _ => ?_)) | (with_reducible refine au _ (fun _ _ => ?_) _ _) | split | dsimp only)
theorem wZ (x0 : Go.FloatKind) (x1 : Nat) (x2 : Go.FloatKind) : Plain kn (Go.Op.Complex.conv x0 x1 x2 : Go.Sem Nat) := by
  unfold Go.Op.Complex.conv
  repeat' (first | with_reducible apply az | with_reducible apply mi | with_reducible apply bu | (with_reducible refine Plain.obj fun _ => ?_) | (with_reducible refine Plain.bind' ?_ fun _ => ?_) | (with_reducible refine Plain.map' ?_) | (with_reducible refine aA _ _ _ fun _ _ => ?_) | (with_reducible refine aB _ _ _ fun _ _ => ?_) | (with_reducible refine aC _ _ fun _ => ?_) | (with_reducible refine Plain.ite (fun _ => ?_) (fun _ => ?_)) | (with_reducible refine au _ (fun _ _ => ?_) _ _) | split | dsimp only)
theorem nR (x0 : Nat) (x1 : Nat) : Plain kn (Go.Op.Complex.mul x0 x1 : Go.Sem Nat) := by
  unfold Go.Op.Complex.mul
  repeat' (first | with_reducible apply az | with_reducible apply iV | (with_reducible refine Plain.obj fun _ => ?_) | (with_reducible refine Plain.bind' ?_ fun _ => ?_) | (with_reducible refine Plain.map' ?_) | (with_reducible refine aA _ _ _ fun _ _ => ?_) | (with_reducible refine aB _ _ _ fun _ _ => ?_) | (with_reducible refine aC _ _ fun _ => ?_) | (with_reducible refine Plain.ite (fun _ => ?_) (fun _ => ?_)) | (with_reducible refine au _ (fun _ _ => ?_) _ _) | split | dsimp only)
theorem nS (x0 : Nat) (x1 : Nat) : Plain kn (Go.Op.Complex.sub x0 x1 : Go.Sem Nat) := by
  unfold Go.Op.Complex.sub
  repeat' (first | with_reducible apply az | with_reducible apply iV | (with_reducible refine Plain.obj fun _ => ?_) | (with_reducible refine Plain.bind' ?_ fun _ => ?_) | (with_reducible refine Plain.map' ?_) | (with_reducible refine aA _ _ _ fun _ _ => ?_) | (with_reducible refine aB _ _ _ fun _ _ => ?_) | (with_reducible refine aC _ _ fun _ => ?_) | (with_reducible refine Plain.ite (fun _ => ?_) (fun _ => ?_)) | (with_reducible refine au _ (fun _ _ => ?_) _ _) | split | dsimp only)
theorem nT (x0 : Nat) (x1 : Nat) : Plain kn (Go.Op.Complex.add x0 x1 : Go.Sem Nat) := by
  unfold Go.Op.Complex.add
  repeat' (first | with_reducible apply az | with_reducible apply iV | (with_reducible refine Plain.obj fun _ => ?_) | (with_reducible refine Plain.bind' ?_ fun _ => ?_) | (with_reducible refine Plain.map' ?_) | (with_reducible refine aA _ _ _ fun _ _ => ?_) | (with_reducible refine aB _ _ _ fun _ _ => ?_) | (with_reducible refine aC _ _ fun _ => ?_) | (with_reducible refine Plain.ite (fun _ => ?_) (fun _ => ?_)) | (with_reducible refine au _ (fun _ _ => ?_) _ _) | split | dsimp only)
theorem uL (x0 : Nat) (x1 : Nat) (x2 : Nat) (x3 : Nat) : Plain kn (Go.Op.Complex.product x0 x1 x2 x3 : Go.Sem (Nat × Nat)) := by
  unfold Go.Op.Complex.product
  repeat' (first | with_reducible apply az | with_reducible apply nR | with_reducible apply nS | with_reducible apply nT | (with_reducible refine Plain.obj fun _ => ?_) | (with_reducible refine Plain.bind' ?_ fun _ => ?_) | (with_reducible refine Plain.map' ?_) | (with_reducible refine aA _ _ _ fun _ _ => ?_) | (with_reducible refine aB _ _ _ fun _ _ => ?_) | (with_reducible refine aC _ _ fun _ => ?_) | (with_reducible refine Plain.ite (fun _ => ?_) (fun _ => ?_)) | (with_reducible refine au _ (fun _ _ => ?_) _ _) | split | dsimp only)
theorem tq (x0 : Go.Value) : Plain kn (Go.asBool x0 : Go.Sem Bool) := by
  unfold Go.asBool
  repeat' (first | with_reducible apply az | with_reducible apply bu | (with_reducible refine Plain.obj fun _ => ?_) | (with_reducible refine Plain.bind' ?_ fun _ => ?_) | (with_reducible refine Plain.map' ?_) | (with_reducible refine aA _ _ _ fun _ _ => ?_) | (with_reducible refine aB _ _ _ fun _ _ => ?_) | (with_reducible refine aC _ _ fun _ => ?_) | (with_reducible refine Plain.ite (fun _ => ?_) (fun _ => ?_)) | (with_reducible refine au _ (fun _ _ => ?_) _ _) | split | dsimp only)
theorem rf (x0 : Go.BinOp) (x1 : Go.FloatKind) (x2 : Nat) (x3 : Nat) : Plain kn (Go.Op.Complex.cmp x0 x1 x2 x3 : Go.Sem Bool) := by
  unfold Go.Op.Complex.cmp
  repeat' (first | with_reducible apply az | with_reducible apply uK | with_reducible apply tq | (with_reducible refine Plain.obj fun _ => ?_) | (with_reducible refine Plain.bind' ?_ fun _ => ?_) | (with_reducible refine Plain.map' ?_) | (with_reducible refine aA _ _ _ fun _ _ => ?_) | (with_reducible refine aB _ _ _ fun _ _ => ?_) | (with_reducible refine aC _ _ fun _ => ?_) | (with_reducible refine Plain.ite (fun _ => ?_) (fun _ => ?_)) | (with_reducible refine au _ (fun _ _ => ?_) _ _) | split | dsimp only)
theorem sS (x0 : Nat) (x1 : Nat) (x2 : Nat) (x3 : Nat) (x4 : Nat) : Plain kn (Go.Op.Complex.corrected x0 x1 x2 x3 x4 : Go.Sem (Nat × Nat)) := by
  unfold Go.Op.Complex.corrected
  repeat' (first | with_reducible apply az | with_reducible apply nR | with_reducible apply nT | with_reducible apply nS | (with_reducible refine Plain.obj fun _ => ?_) | (with_reducible refine Plain.bind' ?_ fun _ => ?_) | (with_reducible refine Plain.map' ?_) | (with_reducible refine aA _ _ _ fun _ _ => ?_) | (with_reducible refine aB _ _ _ fun _ _ => ?_) | (with_reducible refine aC _ _ fun _ => ?_) | (with_reducible refine Plain.ite (fun _ => ?_) (fun _ => ?_)) | (with_reducible refine au _ (fun _ _ => ?_) _ _) | split | dsimp only)
theorem zo (x0 : Nat) (x1 : Nat) : Plain kn (Go.Op.Complex.quo x0 x1 : Go.Sem Nat) := by
  unfold Go.Op.Complex.quo
  repeat' (first | with_reducible apply az | with_reducible apply iV | (with_reducible refine Plain.obj fun _ => ?_) | (with_reducible refine Plain.bind' ?_ fun _ => ?_) | (with_reducible refine Plain.map' ?_) | (with_reducible refine aA _ _ _ fun _ _ => ?_) | (with_reducible refine aB _ _ _ fun _ _ => ?_) | (with_reducible refine aC _ _ fun _ => ?_) | (with_reducible refine Plain.ite (fun _ => ?_) (fun _ => ?_)) | (with_reducible refine au _ (fun _ _ => ?_) _ _) | split | dsimp only)
theorem uu (x0 : Nat) (x1 : Nat) (x2 : Nat) (x3 : Nat) : Plain kn (Go.Op.Complex.quotient x0 x1 x2 x3 : Go.Sem (Nat × Nat)) := by
  unfold Go.Op.Complex.quotient
  repeat' (first | with_reducible apply az | with_reducible apply rf | with_reducible apply nR | with_reducible apply sS | with_reducible apply zo | with_reducible apply nT | with_reducible apply nS | (with_reducible refine Plain.obj fun _ => ?_) | (with_reducible refine Plain.bind' ?_ fun _ => ?_) | (with_reducible refine Plain.map' ?_) | (with_reducible refine aA _ _ _ fun _ _ => ?_) | (with_reducible refine aB _ _ _ fun _ _ => ?_) | (with_reducible refine aC _ _ fun _ => ?_) | (with_reducible refine Plain.ite (fun _ => ?_) (fun _ => ?_)) | (with_reducible refine au _ (fun _ _ => ?_) _ _) | split | dsimp only)
theorem Cc (x0 : Go.BinOp) (x1 : Go.FloatKind) (x2 : Nat) (x3 : Nat) (x4 : Nat) (x5 : Nat) : Plain kn (Go.Op.complexOp x0 x1 x2 x3 x4 x5 : Go.Sem Go.Value) := by
  unfold Go.Op.complexOp
  repeat' (first | with_reducible apply az | with_reducible apply iV | with_reducible apply wZ | with_reducible apply uL | with_reducible apply uu | with_reducible apply rf | with_reducible apply bu | (with_reducible refine Plain.obj fun _ => ?_) | (with_reducible refine Plain.bind' ?_ fun _ => ?_) | (with_reducible refine Plain.map' ?_) | (with_reducible refine aA _ _ _ fun _ _ => ?_) | (with_reducible refine aB _ _ _ fun _ _ => ?_) | (with_reducible refine aC _ _ fun _ => ?_) | (with_reducible refine Plain.ite (fun _ => ?_) (fun _ => ?_)) | (with_reducible refine au _ (fun _ _ => ?_) _ _) | split | dsimp only)
theorem qz (x0 : Go.BinOp) (x1 : ByteArray) (x2 : ByteArray) : Plain kn (Go.Op.stringOp x0 x1 x2 : Go.Sem Go.Value) := by
  unfold Go.Op.stringOp
  repeat' (first | with_reducible apply az | with_reducible apply bU | with_reducible apply bu | (with_reducible refine Plain.obj fun _ => ?_) | (with_reducible refine Plain.bind' ?_ fun _ => ?_) | (with_reducible refine Plain.map' ?_) | (with_reducible refine aA _ _ _ fun _ _ => ?_) | (with_reducible refine aB _ _ _ fun _ _ => ?_) | (with_reducible refine aC _ _ fun _ => ?_) | (with_reducible refine Plain.ite (fun _ => ?_) (fun _ => ?_)) | (with_reducible refine au _ (fun _ _ => ?_) _ _) | split | dsimp only)
theorem jb (x0 : Nat) : Plain kn (Go.shape x0 : Go.Sem (Option (Go.TypeId × Nat))) := fun _ => trivial
theorem jq (x0 : Nat) : Plain kn (Go.getObj x0 : Go.Sem Go.Obj) := fun _ => trivial
theorem Ah (x0 : Nat) : Plain kn (Go.numberAt x0 : Go.Sem (Option (Go.Addr × Bool))) := by
  unfold Go.numberAt
  repeat' (first | with_reducible apply az | with_reducible apply jb | with_reducible apply jq | (with_reducible refine Plain.obj fun _ => ?_) | (with_reducible refine Plain.bind' ?_ fun _ => ?_) | (with_reducible refine Plain.map' ?_) | (with_reducible refine aA _ _ _ fun _ _ => ?_) | (with_reducible refine aB _ _ _ fun _ _ => ?_) | (with_reducible refine aC _ _ fun _ => ?_) | (with_reducible refine Plain.ite (fun _ => ?_) (fun _ => ?_)) | (with_reducible refine au _ (fun _ _ => ?_) _ _) | split | dsimp only)
theorem qa (x0 : Go.Addr) : Plain kn (Go.behindNumber x0 : Go.Sem (Go.Addr × Bool)) := by
  unfold Go.behindNumber
  repeat' (first | with_reducible apply az | with_reducible apply Ah | (with_reducible refine Plain.obj fun _ => ?_) | (with_reducible refine Plain.bind' ?_ fun _ => ?_) | (with_reducible refine Plain.map' ?_) | (with_reducible refine aA _ _ _ fun _ _ => ?_) | (with_reducible refine aB _ _ _ fun _ _ => ?_) | (with_reducible refine aC _ _ fun _ => ?_) | (with_reducible refine Plain.ite (fun _ => ?_) (fun _ => ?_)) | (with_reducible refine au _ (fun _ _ => ?_) _ _) | split | dsimp only)
theorem xe (x0 : Nat) : Plain kn (Go.viewAt x0 : Go.Sem (Option (Go.Addr × Go.TypeId))) := by
  unfold Go.viewAt
  repeat' (first | with_reducible apply az | with_reducible apply jb | with_reducible apply jq | (with_reducible refine Plain.obj fun _ => ?_) | (with_reducible refine Plain.bind' ?_ fun _ => ?_) | (with_reducible refine Plain.map' ?_) | (with_reducible refine aA _ _ _ fun _ _ => ?_) | (with_reducible refine aB _ _ _ fun _ _ => ?_) | (with_reducible refine aC _ _ fun _ => ?_) | (with_reducible refine Plain.ite (fun _ => ?_) (fun _ => ?_)) | (with_reducible refine au _ (fun _ _ => ?_) _ _) | split | dsimp only)
theorem xh (x0 : Go.Addr) : Plain kn (Go.noView x0 : Go.Sem Unit) := by
  unfold Go.noView
  repeat' (first | with_reducible apply az | with_reducible apply xe | with_reducible apply bU | (with_reducible refine Plain.obj fun _ => ?_) | (with_reducible refine Plain.bind' ?_ fun _ => ?_) | (with_reducible refine Plain.map' ?_) | (with_reducible refine aA _ _ _ fun _ _ => ?_) | (with_reducible refine aB _ _ _ fun _ _ => ?_) | (with_reducible refine aC _ _ fun _ => ?_) | (with_reducible refine Plain.ite (fun _ => ?_) (fun _ => ?_)) | (with_reducible refine au _ (fun _ _ => ?_) _ _) | split | dsimp only)
theorem tu (x0 : Go.Addr) : Plain kn (Go.byteOf x0 : Go.Sem Nat) := by
  unfold Go.byteOf
  repeat' (first | with_reducible apply az | with_reducible apply iE | with_reducible apply xh | with_reducible apply jb | with_reducible apply bu | (with_reducible refine Plain.obj fun _ => ?_) | (with_reducible refine Plain.bind' ?_ fun _ => ?_) | (with_reducible refine Plain.map' ?_) | (with_reducible refine aA _ _ _ fun _ _ => ?_) | (with_reducible refine aB _ _ _ fun _ _ => ?_) | (with_reducible refine aC _ _ fun _ => ?_) | (with_reducible refine Plain.ite (fun _ => ?_) (fun _ => ?_)) | (with_reducible refine au _ (fun _ _ => ?_) _ _) | split | dsimp only)
theorem tC (x0 : Go.Addr) : Plain kn (Go.frozen x0 : Go.Sem Bool) := fun _ => trivial
theorem FX (x0 : Go.Addr) : Plain kn (Go.stringish x0 : Go.Sem Bool) := by
  unfold Go.stringish
  repeat' (first | with_reducible apply az | with_reducible apply tC | with_reducible apply jb | (with_reducible refine Plain.obj fun _ => ?_) | (with_reducible refine Plain.bind' ?_ fun _ => ?_) | (with_reducible refine Plain.map' ?_) | (with_reducible refine aA _ _ _ fun _ _ => ?_) | (with_reducible refine aB _ _ _ fun _ _ => ?_) | (with_reducible refine aC _ _ fun _ => ?_) | (with_reducible refine Plain.ite (fun _ => ?_) (fun _ => ?_)) | (with_reducible refine au _ (fun _ _ => ?_) _ _) | split | dsimp only)
theorem Ai (x0 : Go.Addr) (x1 : Go.Addr) : Plain kn (Go.mayBeOne x0 x1 : Go.Sem Bool) := by
  unfold Go.mayBeOne
  repeat' (first | with_reducible apply az | with_reducible apply jb | with_reducible apply FX | (with_reducible refine Plain.obj fun _ => ?_) | (with_reducible refine Plain.bind' ?_ fun _ => ?_) | (with_reducible refine Plain.map' ?_) | (with_reducible refine aA _ _ _ fun _ _ => ?_) | (with_reducible refine aB _ _ _ fun _ _ => ?_) | (with_reducible refine aC _ _ fun _ => ?_) | (with_reducible refine Plain.ite (fun _ => ?_) (fun _ => ?_)) | (with_reducible refine au _ (fun _ _ => ?_) _ _) | split | dsimp only)
theorem Aj (x0 : Go.Addr) (x1 : Go.Addr) : Plain kn (Go.sameAddr x0 x1 : Go.Sem Bool) := by
  unfold Go.sameAddr
  repeat' (first | with_reducible apply az | with_reducible apply tC | with_reducible apply xh | with_reducible apply Ai | with_reducible apply fI | with_reducible apply bU | (with_reducible refine Plain.obj fun _ => ?_) | (with_reducible refine Plain.bind' ?_ fun _ => ?_) | (with_reducible refine Plain.map' ?_) | (with_reducible refine aA _ _ _ fun _ _ => ?_) | (with_reducible refine aB _ _ _ fun _ _ => ?_) | (with_reducible refine aC _ _ fun _ => ?_) | (with_reducible refine Plain.ite (fun _ => ?_) (fun _ => ?_)) | (with_reducible refine au _ (fun _ _ => ?_) _ _) | split | dsimp only)
theorem Dj (x0 : Option Go.Addr) (x1 : Option Go.Addr) : Plain kn (Go.samePointer x0 x1 : Go.Sem Bool) := by
  unfold Go.samePointer
  repeat' (first | with_reducible apply az | with_reducible apply Aj | (with_reducible refine Plain.obj fun _ => ?_) | (with_reducible refine Plain.bind' ?_ fun _ => ?_) | (with_reducible refine Plain.map' ?_) | (with_reducible refine aA _ _ _ fun _ _ => ?_) | (with_reducible refine aB _ _ _ fun _ _ => ?_) | (with_reducible refine aC _ _ fun _ => ?_) | (with_reducible refine Plain.ite (fun _ => ?_) (fun _ => ?_)) | (with_reducible refine au _ (fun _ _ => ?_) _ _) | split | dsimp only)
theorem Ce (x0 : Go.TypeId) : Plain kn (Go.typeStr x0 : Go.Sem String) := by
  unfold Go.typeStr
  repeat' (first | with_reducible apply az | with_reducible apply jh | with_reducible apply bU | (with_reducible refine Plain.obj fun _ => ?_) | (with_reducible refine Plain.bind' ?_ fun _ => ?_) | (with_reducible refine Plain.map' ?_) | (with_reducible refine aA _ _ _ fun _ _ => ?_) | (with_reducible refine aB _ _ _ fun _ _ => ?_) | (with_reducible refine aC _ _ fun _ => ?_) | (with_reducible refine Plain.ite (fun _ => ?_) (fun _ => ?_)) | (with_reducible refine au _ (fun _ _ => ?_) _ _) | split | dsimp only)
theorem EC : ∀ (n : Nat) (t : TypeId) (x y : Value), Plain kn (Op.equalIn n t x y) := by
  intro n
  induction n with
  | zero => intro t x y; exact trivial
  | succ n ih =>
    intro t x y
    unfold Op.equalIn
    repeat' (first | with_reducible apply ih | with_reducible apply az | with_reducible apply bU | with_reducible apply bH | with_reducible apply bu | with_reducible apply qa | with_reducible apply iE | with_reducible apply tu | with_reducible apply jh | with_reducible apply eZ | with_reducible apply Aj | with_reducible apply fI | with_reducible apply Dj | with_reducible apply Ce | with_reducible apply eH | with_reducible apply rY | (with_reducible refine Plain.obj fun _ => ?_) | (with_reducible refine Plain.bind' ?_ fun _ => ?_) | (with_reducible refine Plain.map' ?_) | (with_reducible refine aA _ _ _ fun _ _ => ?_) | (with_reducible refine aB _ _ _ fun _ _ => ?_) | (with_reducible refine aC _ _ fun _ => ?_) | (with_reducible refine Plain.ite (fun _ => ?_) (fun _ => ?_)) | (with_reducible refine au _ (fun _ _ => ?_) _ _) | split | dsimp only)
theorem Ak (x0 : Go.TypeId) (x1 : Go.Value) (x2 : Go.Value) : Plain kn (Go.Op.equal x0 x1 x2 : Go.Sem Bool) := by
  unfold Go.Op.equal
  repeat' (first | with_reducible apply az | with_reducible apply EC | (with_reducible refine Plain.obj fun _ => ?_) | (with_reducible refine Plain.bind' ?_ fun _ => ?_) | (with_reducible refine Plain.map' ?_) | (with_reducible refine aA _ _ _ fun _ _ => ?_) | (with_reducible refine aB _ _ _ fun _ _ => ?_) | (with_reducible refine aC _ _ fun _ => ?_) | (with_reducible refine Plain.ite (fun _ => ?_) (fun _ => ?_)) | (with_reducible refine au _ (fun _ _ => ?_) _ _) | split | dsimp only)
theorem rF (x0 : Go.Value) : Plain kn (Go.asIntOf x0 : Go.Sem (Go.IntKind × Int)) := by
  unfold Go.asIntOf
  repeat' (first | with_reducible apply az | with_reducible apply bU | with_reducible apply bu | (with_reducible refine Plain.obj fun _ => ?_) | (with_reducible refine Plain.bind' ?_ fun _ => ?_) | (with_reducible refine Plain.map' ?_) | (with_reducible refine aA _ _ _ fun _ _ => ?_) | (with_reducible refine aB _ _ _ fun _ _ => ?_) | (with_reducible refine aC _ _ fun _ => ?_) | (with_reducible refine Plain.ite (fun _ => ?_) (fun _ => ?_)) | (with_reducible refine au _ (fun _ _ => ?_) _ _) | split | dsimp only)
theorem sG (x0 : Go.Value) : Plain kn (Go.asInt x0 : Go.Sem Int) := by
  unfold Go.asInt
  repeat' (first | with_reducible apply az | with_reducible apply rF | (with_reducible refine Plain.obj fun _ => ?_) | (with_reducible refine Plain.bind' ?_ fun _ => ?_) | (with_reducible refine Plain.map' ?_) | (with_reducible refine aA _ _ _ fun _ _ => ?_) | (with_reducible refine aB _ _ _ fun _ _ => ?_) | (with_reducible refine aC _ _ fun _ => ?_) | (with_reducible refine Plain.ite (fun _ => ?_) (fun _ => ?_)) | (with_reducible refine au _ (fun _ _ => ?_) _ _) | split | dsimp only)
theorem pE (x0 : Array TypeId) (x1 : TypeId) (x2 : Array Value) : Plain kn (Builtin.unsafeAdd_ x0 x1 x2) := by
  obtain ⟨l⟩ := x2
  rcases l with _ | ⟨a, _ | ⟨b, _ | ⟨c, l⟩⟩⟩
  · exact trivial
  · cases a <;> exact trivial
  · cases a <;> first | exact trivial | skip
    refine Plain.bind' (s := asInt b) (sG b) fun n => ?_
    repeat' (first | with_reducible apply ih | with_reducible apply az | with_reducible apply sG | with_reducible apply jb | with_reducible apply iE | with_reducible apply bU | with_reducible apply xe | with_reducible apply bu | (with_reducible refine Plain.obj fun _ => ?_) | (with_reducible refine Plain.bind' ?_ fun _ => ?_) | (with_reducible refine Plain.map' ?_) | (with_reducible refine aA _ _ _ fun _ _ => ?_) | (with_reducible refine aB _ _ _ fun _ _ => ?_) | (with_reducible refine aC _ _ fun _ => ?_) | (with_reducible refine Plain.ite (fun _ => ?_) (fun _ => ?_)) | (with_reducible refine au _ (fun _ _ => ?_) _ _) | split | dsimp only)
  · cases a <;> exact trivial
theorem Cf (x0 : Go.TypeId) (x1 : Go.Value) (x2 : Go.Value) : Plain kn (Go.movedPointer x0 x1 x2 : Go.Sem Go.Value) := by
  unfold Go.movedPointer
  repeat' (first | with_reducible apply az | with_reducible apply pE | with_reducible apply Ah | with_reducible apply bU | (with_reducible refine Plain.obj fun _ => ?_) | (with_reducible refine Plain.bind' ?_ fun _ => ?_) | (with_reducible refine Plain.map' ?_) | (with_reducible refine aA _ _ _ fun _ _ => ?_) | (with_reducible refine aB _ _ _ fun _ _ => ?_) | (with_reducible refine aC _ _ fun _ => ?_) | (with_reducible refine Plain.ite (fun _ => ?_) (fun _ => ?_)) | (with_reducible refine au _ (fun _ _ => ?_) _ _) | split | dsimp only)
theorem Am (x0 : Go.Addr) (x1 : Bool) : Plain kn (Go.asNumber x0 x1 : Go.Sem Go.Value) := by
  unfold Go.asNumber
  repeat' (first | with_reducible apply az | ((with_reducible refine sZ _ ?_); rfl) | (with_reducible refine Plain.obj fun _ => ?_) | (with_reducible refine Plain.bind' ?_ fun _ => ?_) | (with_reducible refine Plain.map' ?_) | (with_reducible refine aA _ _ _ fun _ _ => ?_) | (with_reducible refine aB _ _ _ fun _ _ => ?_) | (with_reducible refine aC _ _ fun _ => ?_) | (with_reducible refine Plain.ite (fun _ => ?_) (fun _ => ?_)) | (with_reducible refine au _ (fun _ _ => ?_) _ _) | split | dsimp only)
theorem Dk (x0 : Go.TypeId) (x1 : Go.Value) (x2 : Go.Value) : Plain kn (Go.movedNumber x0 x1 x2 : Go.Sem Go.Value) := by
  unfold Go.movedNumber
  repeat' (first | with_reducible apply az | with_reducible apply bH | with_reducible apply qa | with_reducible apply pE | with_reducible apply Am | with_reducible apply bU | (with_reducible refine Plain.obj fun _ => ?_) | (with_reducible refine Plain.bind' ?_ fun _ => ?_) | (with_reducible refine Plain.map' ?_) | (with_reducible refine aA _ _ _ fun _ _ => ?_) | (with_reducible refine aB _ _ _ fun _ _ => ?_) | (with_reducible refine aC _ _ fun _ => ?_) | (with_reducible refine Plain.ite (fun _ => ?_) (fun _ => ?_)) | (with_reducible refine au _ (fun _ _ => ?_) _ _) | split | dsimp only)
theorem tF (x0 : Go.Addr) (x1 : Go.Addr) : Plain kn (Go.Op.twoPlaces x0 x1 : Go.Sem (Nat × Nat)) := by
  unfold Go.Op.twoPlaces
  repeat' (first | with_reducible apply az | with_reducible apply iE | with_reducible apply tu | with_reducible apply bU | (with_reducible refine Plain.obj fun _ => ?_) | (with_reducible refine Plain.bind' ?_ fun _ => ?_) | (with_reducible refine Plain.map' ?_) | (with_reducible refine aA _ _ _ fun _ _ => ?_) | (with_reducible refine aB _ _ _ fun _ _ => ?_) | (with_reducible refine aC _ _ fun _ => ?_) | (with_reducible refine Plain.ite (fun _ => ?_) (fun _ => ?_)) | (with_reducible refine au _ (fun _ _ => ?_) _ _) | split | dsimp only)
theorem ED (x0 : Go.IntKind) (x1 : Go.Addr) (x2 : Go.Addr) : Plain kn (Go.Op.addrSub x0 x1 x2 : Go.Sem Go.Value) := by
  unfold Go.Op.addrSub
  repeat' (first | with_reducible apply az | with_reducible apply tF | (with_reducible refine Plain.obj fun _ => ?_) | (with_reducible refine Plain.bind' ?_ fun _ => ?_) | (with_reducible refine Plain.map' ?_) | (with_reducible refine aA _ _ _ fun _ _ => ?_) | (with_reducible refine aB _ _ _ fun _ _ => ?_) | (with_reducible refine aC _ _ fun _ => ?_) | (with_reducible refine Plain.ite (fun _ => ?_) (fun _ => ?_)) | (with_reducible refine au _ (fun _ _ => ?_) _ _) | split | dsimp only)
theorem EE (x0 : Go.BinOp) (x1 : Go.Addr) (x2 : Go.Addr) : Plain kn (Go.Op.addrCmp x0 x1 x2 : Go.Sem Go.Value) := by
  unfold Go.Op.addrCmp
  repeat' (first | with_reducible apply az | with_reducible apply tF | with_reducible apply bU | (with_reducible refine Plain.obj fun _ => ?_) | (with_reducible refine Plain.bind' ?_ fun _ => ?_) | (with_reducible refine Plain.map' ?_) | (with_reducible refine aA _ _ _ fun _ _ => ?_) | (with_reducible refine aB _ _ _ fun _ _ => ?_) | (with_reducible refine aC _ _ fun _ => ?_) | (with_reducible refine Plain.ite (fun _ => ?_) (fun _ => ?_)) | (with_reducible refine au _ (fun _ _ => ?_) _ _) | split | dsimp only)
theorem EF (x0 : Go.IntKind) (x1 : Go.Addr) (x2 : Int) : Plain kn (Go.Op.addrMod x0 x1 x2 : Go.Sem Go.Value) := by
  unfold Go.Op.addrMod
  repeat' (first | with_reducible apply az | with_reducible apply jb | with_reducible apply jh | with_reducible apply tu | with_reducible apply bU | (with_reducible refine Plain.obj fun _ => ?_) | (with_reducible refine Plain.bind' ?_ fun _ => ?_) | (with_reducible refine Plain.map' ?_) | (with_reducible refine aA _ _ _ fun _ _ => ?_) | (with_reducible refine aB _ _ _ fun _ _ => ?_) | (with_reducible refine aC _ _ fun _ => ?_) | (with_reducible refine Plain.ite (fun _ => ?_) (fun _ => ?_)) | (with_reducible refine au _ (fun _ _ => ?_) _ _) | split | dsimp only)
theorem OH (x0 : Go.BinOp) (x1 : Go.TypeId) (x2 : Go.Value) (x3 : Go.Value) : Plain kn (Go.binOp x0 x1 x2 x3 : Go.Sem Go.Value) := by
  unfold Go.binOp
  repeat' (first | with_reducible apply az | with_reducible apply Ht | with_reducible apply bu | with_reducible apply uJ | with_reducible apply FU | with_reducible apply vO | with_reducible apply FV | with_reducible apply sF | with_reducible apply uK | with_reducible apply Cc | with_reducible apply qz | with_reducible apply Ak | with_reducible apply bH | with_reducible apply Cf | with_reducible apply Dk | with_reducible apply qa | with_reducible apply ED | with_reducible apply EE | with_reducible apply EF | with_reducible apply bU | (with_reducible refine Plain.obj fun _ => ?_) | (with_reducible refine Plain.bind' ?_ fun _ => ?_) | (with_reducible refine Plain.map' ?_) | (with_reducible refine aA _ _ _ fun _ _ => ?_) | (with_reducible refine aB _ _ _ fun _ _ => ?_) | (with_reducible refine aC _ _ fun _ => ?_) | (with_reducible refine Plain.ite (fun _ => ?_) (fun _ => ?_)) | (with_reducible refine au _ (fun _ _ => ?_) _ _) | split | dsimp only)
end
end
end Go.Proofs.YtignemioillaiaaGreat
