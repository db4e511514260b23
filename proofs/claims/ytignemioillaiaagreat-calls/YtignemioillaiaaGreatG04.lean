/- The operations are plain. -/
import Derived.Test.YtignemioillaiaaGreatG03
namespace Go.Proofs.YtignemioillaiaaGreat
set_option maxHeartbeats 8000000
set_option maxRecDepth 100000
section
open Go
section
variable {kn : List Nat}
theorem pl_Instr_checkKey (b : Bool) : ∀ (n : Nat) (t : TypeId) (x : Value), Plain kn (Instr.checkKey b n t x) := by
  intro n
  induction n with
  | zero => intro t x; exact trivial
  | succ n ih =>
    intro t x
    unfold Instr.checkKey
    repeat' (first | with_reducible first | apply ih | apply pl_pure | apply pl_unsupported | apply pl_underlying | apply pl_typeInfo | apply pl_typeStr | apply pl_runtimePanic | apply pl_sizeOf | apply pl_part | apply pl_stuck | refine Plain.obj fun _ => ?_ | refine Plain.bind' ?_ fun _ => ?_ | refine Plain.map' ?_ | refine pl_forA _ _ _ fun _ _ => ?_ | refine pl_forR _ _ _ fun _ _ => ?_ | refine pl_mapA _ _ fun _ => ?_ | refine Plain.ite (fun _ => ?_) (fun _ => ?_) | refine pl_foldL _ (fun _ _ => ?_) _ _ | split)
theorem pl_Instr_findAsking (t : TypeId) (v : Value) : ∀ (l : List MapEntry) (i : Nat), Plain kn (Instr.findAsking t v l i) := by
  intro l
  induction l with
  | nil => intro i; exact trivial
  | cons e l ih =>
    intro i
    unfold Instr.findAsking
    repeat' (with_reducible first | apply ih | apply pl_pure | apply pl_Op_equal | refine Plain.obj fun _ => ?_ | refine Plain.bind' ?_ fun _ => ?_ | refine Plain.map' ?_ | refine pl_forA _ _ _ fun _ _ => ?_ | refine pl_forR _ _ _ fun _ _ => ?_ | refine pl_mapA _ _ fun _ => ?_ | refine Plain.ite (fun _ => ?_) (fun _ => ?_) | refine pl_foldL _ (fun _ _ => ?_) _ _)
theorem pl_Instr_findKey (x0 : Go.TypeId) (x1 : Go.Value) (x2 : List Go.MapEntry) : Plain kn (Go.Instr.findKey x0 x1 x2 : Go.Sem (Option (Nat × Go.Value))) := by
  unfold Go.Instr.findKey
  repeat' (first | with_reducible first | apply pl_pure | apply pl_underlying | apply pl_Instr_findAsking | refine Plain.obj fun _ => ?_ | refine Plain.bind' ?_ fun _ => ?_ | refine Plain.map' ?_ | refine pl_forA _ _ _ fun _ _ => ?_ | refine pl_forR _ _ _ fun _ _ => ?_ | refine pl_mapA _ _ fun _ => ?_ | refine Plain.ite (fun _ => ?_) (fun _ => ?_) | refine pl_foldL _ (fun _ _ => ?_) _ _ | split)
theorem pl_Instr_lookup (x0 : Go.TypeId) (x1 : Go.Value) (x2 : Go.Value) (x3 : Bool) : Plain kn (Go.Instr.lookup x0 x1 x2 x3 : Go.Sem Go.Value) := by
  unfold Go.Instr.lookup
  repeat' (first | with_reducible first | apply pl_pure | apply pl_underlying | apply pl_Instr_checkKey | apply pl_Instr_findKey | apply pl_zeroValue | apply pl_getObj | apply pl_stuck | refine Plain.obj fun _ => ?_ | refine Plain.bind' ?_ fun _ => ?_ | refine Plain.map' ?_ | refine pl_forA _ _ _ fun _ _ => ?_ | refine pl_forR _ _ _ fun _ _ => ?_ | refine pl_mapA _ _ fun _ => ?_ | refine Plain.ite (fun _ => ?_) (fun _ => ?_) | refine pl_foldL _ (fun _ _ => ?_) _ _ | split)
theorem pl_Instr_keyThatStays (x0 : Go.Value) (x1 : Go.Value) : Plain kn (Go.Instr.keyThatStays x0 x1 : Go.Sem Go.Value) := by
  unfold Go.Instr.keyThatStays
  repeat' (with_reducible first | apply pl_pure | apply pl_choose | refine Plain.obj fun _ => ?_ | refine Plain.bind' ?_ fun _ => ?_ | refine Plain.map' ?_ | refine pl_forA _ _ _ fun _ _ => ?_ | refine pl_forR _ _ _ fun _ _ => ?_ | refine pl_mapA _ _ fun _ => ?_ | refine Plain.ite (fun _ => ?_) (fun _ => ?_) | refine pl_foldL _ (fun _ _ => ?_) _ _)
theorem pl_Instr_mapUpdate (x0 : Go.TypeId) (x1 : Go.Value) (x2 : Go.Value) (x3 : Go.Value) : Plain kn (Go.Instr.mapUpdate x0 x1 x2 x3 : Go.Sem Unit) := by
  unfold Go.Instr.mapUpdate
  repeat' (first | (with_reducible first | apply pl_pure | apply pl_underlying | apply pl_runtimePanic | apply pl_getObj | apply pl_Instr_checkKey | apply pl_Instr_findKey | apply pl_Instr_keyThatStays | apply pl_stuck | refine Plain.obj fun _ => ?_ | refine Plain.bind' ?_ fun _ => ?_ | refine Plain.map' ?_ | refine pl_forA _ _ _ fun _ _ => ?_ | refine pl_forR _ _ _ fun _ _ => ?_ | refine pl_mapA _ _ fun _ => ?_ | refine Plain.ite (fun _ => ?_) (fun _ => ?_) | refine pl_foldL _ (fun _ _ => ?_) _ _) | exact pl_set _ _ (by first | exact List.mem_cons_self | exact List.mem_cons_of_mem _ List.mem_cons_self) rfl | split | dsimp only)
theorem pl_Instr_range (x0 : TypeId) (x1 : Value) : Plain kn (Instr.range x0 x1) := by
  unfold Instr.range
  refine Plain.bind' (pl_underlying _) fun d => ?_
  split
  · exact ⟨rfl, fun _ => trivial⟩
  · exact ⟨rfl, fun _ => trivial⟩
  · intro o
    cases o <;> first | exact trivial | exact ⟨rfl, fun _ => trivial⟩
  · exact trivial
theorem pl_Instr_next (x0 : Go.Value) (x1 : Bool) (x2 : Go.TypeId) : Plain kn (Go.Instr.next x0 x1 x2 : Go.Sem Go.Value) := by
  unfold Go.Instr.next
  repeat' (first | (with_reducible first | apply pl_pure | apply pl_getObj | apply pl_choose | apply pl_stuck | apply pl_unsupported | refine Plain.obj fun _ => ?_ | refine Plain.bind' ?_ fun _ => ?_ | refine Plain.map' ?_ | refine pl_forA _ _ _ fun _ _ => ?_ | refine pl_forR _ _ _ fun _ _ => ?_ | refine pl_mapA _ _ fun _ => ?_ | refine Plain.ite (fun _ => ?_) (fun _ => ?_) | refine pl_foldL _ (fun _ _ => ?_) _ _) | exact pl_set _ _ (by first | exact List.mem_cons_self | exact List.mem_cons_of_mem _ List.mem_cons_self) rfl | split | dsimp only)
theorem pl_Instr_entry (x0 : Go.Value) : Plain kn (Go.Instr.entry x0 : Go.Sem Go.Value) := by
  unfold Go.Instr.entry
  repeat' (first | with_reducible first | apply pl_pure | apply pl_getObj | apply pl_unsupported | apply pl_stuck | refine Plain.obj fun _ => ?_ | refine Plain.bind' ?_ fun _ => ?_ | refine Plain.map' ?_ | refine pl_forA _ _ _ fun _ _ => ?_ | refine pl_forR _ _ _ fun _ _ => ?_ | refine pl_mapA _ _ fun _ => ?_ | refine Plain.ite (fun _ => ?_) (fun _ => ?_) | refine pl_foldL _ (fun _ _ => ?_) _ _ | split)
theorem pl_Instr_makeInterface (x0 : Go.TypeId) (x1 : Go.Value) : Plain kn (Go.Instr.makeInterface x0 x1 : Go.Sem Go.Value) := by
  unfold Go.Instr.makeInterface
  repeat' (first | with_reducible first | apply pl_pure | apply pl_underlying | apply pl_stuck | refine Plain.obj fun _ => ?_ | refine Plain.bind' ?_ fun _ => ?_ | refine Plain.map' ?_ | refine pl_forA _ _ _ fun _ _ => ?_ | refine pl_forR _ _ _ fun _ _ => ?_ | refine pl_mapA _ _ fun _ => ?_ | refine Plain.ite (fun _ => ?_) (fun _ => ?_) | refine pl_foldL _ (fun _ _ => ?_) _ _ | split)
theorem pl_Instr_makeFunc (x0 : Go.Fn) (x1 : Array Go.Value) (x2 : Array Go.Value) : Plain kn (Go.Instr.makeFunc x0 x1 x2 : Go.Sem Go.Value) := by
  unfold Go.Instr.makeFunc
  repeat' (with_reducible first | apply pl_pure | refine Plain.obj fun _ => ?_ | refine Plain.bind' ?_ fun _ => ?_ | refine Plain.map' ?_ | refine pl_forA _ _ _ fun _ _ => ?_ | refine pl_forR _ _ _ fun _ _ => ?_ | refine pl_mapA _ _ fun _ => ?_ | refine Plain.ite (fun _ => ?_) (fun _ => ?_) | refine pl_foldL _ (fun _ _ => ?_) _ _)
theorem pl_Instr_makeMap (x0 : Go.TypeId) (x1 : Option Go.Value) : Plain kn (Go.Instr.makeMap x0 x1 : Go.Sem Go.Value) := by
  unfold Go.Instr.makeMap
  repeat' (first | ((with_reducible refine pl_newObj _ ?_); rfl) | with_reducible first | apply pl_pure | apply pl_underlying | apply pl_asInt | apply pl_stuck | refine Plain.obj fun _ => ?_ | refine Plain.bind' ?_ fun _ => ?_ | refine Plain.map' ?_ | refine pl_forA _ _ _ fun _ _ => ?_ | refine pl_forR _ _ _ fun _ _ => ?_ | refine pl_mapA _ _ fun _ => ?_ | refine Plain.ite (fun _ => ?_) (fun _ => ?_) | refine pl_foldL _ (fun _ _ => ?_) _ _ | split)
theorem pl_askRoom (n : Nat) : Plain kn (askRoom n) := by
  unfold askRoom
  split
  · exact pl_noRoom
  · exact trivial
theorem pl_Instr_makeSlice (x0 : Go.TypeId) (x1 : Go.Value) (x2 : Go.Value) : Plain kn (Go.Instr.makeSlice x0 x1 x2 : Go.Sem Go.Value) := by
  unfold Go.Instr.makeSlice
  repeat' (first | with_reducible first | apply pl_pure | apply pl_underlying | apply pl_asInt | apply pl_typeInfo | apply pl_askRoom | apply pl_sizeOf | apply pl_newRow | apply pl_zeroValue | apply pl_runtimePanic | apply pl_choose | apply pl_stuck | refine Plain.obj fun _ => ?_ | refine Plain.bind' ?_ fun _ => ?_ | refine Plain.map' ?_ | refine pl_forA _ _ _ fun _ _ => ?_ | refine pl_forR _ _ _ fun _ _ => ?_ | refine pl_mapA _ _ fun _ => ?_ | refine Plain.ite (fun _ => ?_) (fun _ => ?_) | refine pl_foldL _ (fun _ _ => ?_) _ _ | split)
theorem pl_Instr_extract (x0 : Go.Value) (x1 : Nat) : Plain kn (Go.Instr.extract x0 x1 : Go.Sem Go.Value) := by
  unfold Go.Instr.extract
  repeat' (first | with_reducible first | apply pl_pure | apply pl_stuck | refine Plain.obj fun _ => ?_ | refine Plain.bind' ?_ fun _ => ?_ | refine Plain.map' ?_ | refine pl_forA _ _ _ fun _ _ => ?_ | refine pl_forR _ _ _ fun _ _ => ?_ | refine pl_mapA _ _ fun _ => ?_ | refine Plain.ite (fun _ => ?_) (fun _ => ?_) | refine pl_foldL _ (fun _ _ => ?_) _ _ | split)
theorem pl_Builtin_firstCells (x0 : Nat) (x1 : Nat) (x2 : Go.Value) : Plain kn (Go.Builtin.firstCells x0 x1 x2 : Go.Sem (Array Go.Value)) := by
  unfold Go.Builtin.firstCells
  repeat' (first | with_reducible first | apply pl_pure | apply pl_loadCells | apply pl_stuck | refine Plain.obj fun _ => ?_ | refine Plain.bind' ?_ fun _ => ?_ | refine Plain.map' ?_ | refine pl_forA _ _ _ fun _ _ => ?_ | refine pl_forR _ _ _ fun _ _ => ?_ | refine pl_mapA _ _ fun _ => ?_ | refine Plain.ite (fun _ => ?_) (fun _ => ?_) | refine pl_foldL _ (fun _ _ => ?_) _ _ | split)
theorem pl_Builtin_holdsCells (x0 : Go.Addr) (x1 : Nat) : Plain kn (Go.Builtin.holdsCells x0 x1 : Go.Sem Bool) := by
  unfold Go.Builtin.holdsCells
  repeat' (first | with_reducible first | apply pl_pure | apply pl_shape | refine Plain.obj fun _ => ?_ | refine Plain.bind' ?_ fun _ => ?_ | refine Plain.map' ?_ | refine pl_forA _ _ _ fun _ _ => ?_ | refine pl_forR _ _ _ fun _ _ => ?_ | refine pl_mapA _ _ fun _ => ?_ | refine Plain.ite (fun _ => ?_) (fun _ => ?_) | refine pl_foldL _ (fun _ _ => ?_) _ _ | split)
theorem pl_Builtin_mayShare (x0 : Nat) (x1 : Nat) (x2 : Nat) (x3 : Option Go.Addr) (x4 : Go.Value) : Plain kn (Go.Builtin.mayShare x0 x1 x2 x3 x4 : Go.Sem Bool) := by
  unfold Go.Builtin.mayShare
  repeat' (first | with_reducible first | apply pl_pure | apply pl_Builtin_holdsCells | apply pl_frozen | refine Plain.obj fun _ => ?_ | refine Plain.bind' ?_ fun _ => ?_ | refine Plain.map' ?_ | refine pl_forA _ _ _ fun _ _ => ?_ | refine pl_forR _ _ _ fun _ _ => ?_ | refine pl_mapA _ _ fun _ => ?_ | refine Plain.ite (fun _ => ?_) (fun _ => ?_) | refine pl_foldL _ (fun _ _ => ?_) _ _ | split)
theorem pl_Builtin_lenOf (x0 : Go.Value) : Plain kn (Go.Builtin.lenOf x0 : Go.Sem Nat) := by
  unfold Go.Builtin.lenOf
  repeat' (first | with_reducible first | apply pl_pure | apply pl_stuck | refine Plain.obj fun _ => ?_ | refine Plain.bind' ?_ fun _ => ?_ | refine Plain.map' ?_ | refine pl_forA _ _ _ fun _ _ => ?_ | refine pl_forR _ _ _ fun _ _ => ?_ | refine pl_mapA _ _ fun _ => ?_ | refine Plain.ite (fun _ => ?_) (fun _ => ?_) | refine pl_foldL _ (fun _ _ => ?_) _ _ | split)
theorem pl_Builtin_append_ (x0 : Array Go.TypeId) (x1 : Go.TypeId) (x2 : Array Go.Value) : Plain kn (Go.Builtin.append_ x0 x1 x2 : Go.Sem Go.Value) := by
  unfold Go.Builtin.append_
  repeat' (first | with_reducible first | apply pl_pure | apply pl_underlying | apply pl_sizeOf | apply pl_Builtin_firstCells | apply pl_zeroValue | apply pl_storeCells | apply pl_typeInfo | apply pl_choose | apply pl_askRoom | apply pl_newRow | apply pl_runtimePanic | apply pl_Builtin_mayShare | apply pl_unsupported | apply pl_asInt | apply pl_Builtin_lenOf | apply pl_stuck | apply pl_noRoom | refine Plain.obj fun _ => ?_ | refine Plain.bind' ?_ fun _ => ?_ | refine Plain.map' ?_ | refine pl_forA _ _ _ fun _ _ => ?_ | refine pl_forR _ _ _ fun _ _ => ?_ | refine pl_mapA _ _ fun _ => ?_ | refine Plain.ite (fun _ => ?_) (fun _ => ?_) | refine pl_foldL _ (fun _ _ => ?_) _ _ | split)
theorem pl_Builtin_cap_ (x0 : Array Go.TypeId) (x1 : Go.TypeId) (x2 : Array Go.Value) : Plain kn (Go.Builtin.cap_ x0 x1 x2 : Go.Sem Go.Value) := by
  unfold Go.Builtin.cap_
  repeat' (first | with_reducible first | apply pl_pure | apply pl_underlying | apply pl_stuck | apply pl_getObj | refine Plain.obj fun _ => ?_ | refine Plain.bind' ?_ fun _ => ?_ | refine Plain.map' ?_ | refine pl_forA _ _ _ fun _ _ => ?_ | refine pl_forR _ _ _ fun _ _ => ?_ | refine pl_mapA _ _ fun _ => ?_ | refine Plain.ite (fun _ => ?_) (fun _ => ?_) | refine pl_foldL _ (fun _ _ => ?_) _ _ | split)
theorem pl_Builtin_clear_ (x0 : Array Go.TypeId) (x1 : Go.TypeId) (x2 : Array Go.Value) : Plain kn (Go.Builtin.clear_ x0 x1 x2 : Go.Sem Go.Value) := by
  unfold Go.Builtin.clear_
  repeat' (first | (with_reducible first | apply pl_pure | apply pl_underlying | apply pl_getObj | apply pl_stuck | apply pl_zeroValue | apply pl_storeCells | refine Plain.obj fun _ => ?_ | refine Plain.bind' ?_ fun _ => ?_ | refine Plain.map' ?_ | refine pl_forA _ _ _ fun _ _ => ?_ | refine pl_forR _ _ _ fun _ _ => ?_ | refine pl_mapA _ _ fun _ => ?_ | refine Plain.ite (fun _ => ?_) (fun _ => ?_) | refine pl_foldL _ (fun _ _ => ?_) _ _) | exact pl_set _ _ (by first | exact List.mem_cons_self | exact List.mem_cons_of_mem _ List.mem_cons_self) rfl | split | dsimp only)
theorem pl_Builtin_copy_ (x0 : Array Go.TypeId) (x1 : Go.TypeId) (x2 : Array Go.Value) : Plain kn (Go.Builtin.copy_ x0 x1 x2 : Go.Sem Go.Value) := by
  unfold Go.Builtin.copy_
  repeat' (first | with_reducible first | apply pl_pure | apply pl_underlying | apply pl_Builtin_lenOf | apply pl_sizeOf | apply pl_Builtin_firstCells | apply pl_storeCells | apply pl_stuck | refine Plain.obj fun _ => ?_ | refine Plain.bind' ?_ fun _ => ?_ | refine Plain.map' ?_ | refine pl_forA _ _ _ fun _ _ => ?_ | refine pl_forR _ _ _ fun _ _ => ?_ | refine pl_mapA _ _ fun _ => ?_ | refine Plain.ite (fun _ => ?_) (fun _ => ?_) | refine pl_foldL _ (fun _ _ => ?_) _ _ | split)
theorem pl_Builtin_delete_ (x0 : Array Go.TypeId) (x1 : Go.TypeId) (x2 : Array Go.Value) : Plain kn (Go.Builtin.delete_ x0 x1 x2 : Go.Sem Go.Value) := by
  unfold Go.Builtin.delete_
  repeat' (first | (with_reducible first | apply pl_pure | apply pl_underlying | apply pl_Instr_checkKey | apply pl_getObj | apply pl_Instr_findKey | apply pl_stuck | refine Plain.obj fun _ => ?_ | refine Plain.bind' ?_ fun _ => ?_ | refine Plain.map' ?_ | refine pl_forA _ _ _ fun _ _ => ?_ | refine pl_forR _ _ _ fun _ _ => ?_ | refine pl_mapA _ _ fun _ => ?_ | refine Plain.ite (fun _ => ?_) (fun _ => ?_) | refine pl_foldL _ (fun _ _ => ?_) _ _) | exact pl_set _ _ (by first | exact List.mem_cons_self | exact List.mem_cons_of_mem _ List.mem_cons_self) rfl | split | dsimp only)
theorem pl_Builtin_len_ (x0 : Array Go.TypeId) (x1 : Go.TypeId) (x2 : Array Go.Value) : Plain kn (Go.Builtin.len_ x0 x1 x2 : Go.Sem Go.Value) := by
  unfold Go.Builtin.len_
  repeat' (first | with_reducible first | apply pl_pure | apply pl_underlying | apply pl_stuck | apply pl_getObj | refine Plain.obj fun _ => ?_ | refine Plain.bind' ?_ fun _ => ?_ | refine Plain.map' ?_ | refine pl_forA _ _ _ fun _ _ => ?_ | refine pl_forR _ _ _ fun _ _ => ?_ | refine pl_mapA _ _ fun _ => ?_ | refine Plain.ite (fun _ => ?_) (fun _ => ?_) | refine pl_foldL _ (fun _ _ => ?_) _ _ | split)
theorem pl_Builtin_max2 (x0 : Go.Value) (x1 : Go.Value) : Plain kn (Go.Builtin.max2 x0 x1 : Go.Sem Go.Value) := by
  unfold Go.Builtin.max2
  repeat' (first | with_reducible first | apply pl_pure | apply pl_choose | apply pl_Op_stringOp | apply pl_asBool | apply pl_unsupported | apply pl_stuck | refine Plain.obj fun _ => ?_ | refine Plain.bind' ?_ fun _ => ?_ | refine Plain.map' ?_ | refine pl_forA _ _ _ fun _ _ => ?_ | refine pl_forR _ _ _ fun _ _ => ?_ | refine pl_mapA _ _ fun _ => ?_ | refine Plain.ite (fun _ => ?_) (fun _ => ?_) | refine pl_foldL _ (fun _ _ => ?_) _ _ | split)
theorem pl_Builtin_max_ (x0 : Array Go.TypeId) (x1 : Go.TypeId) (x2 : Array Go.Value) : Plain kn (Go.Builtin.max_ x0 x1 x2 : Go.Sem Go.Value) := by
  unfold Go.Builtin.max_
  repeat' (first | with_reducible first | apply pl_pure | apply pl_stuck | apply pl_Builtin_max2 | refine Plain.obj fun _ => ?_ | refine Plain.bind' ?_ fun _ => ?_ | refine Plain.map' ?_ | refine pl_forA _ _ _ fun _ _ => ?_ | refine pl_forR _ _ _ fun _ _ => ?_ | refine pl_mapA _ _ fun _ => ?_ | refine Plain.ite (fun _ => ?_) (fun _ => ?_) | refine pl_foldL _ (fun _ _ => ?_) _ _ | split)
theorem pl_Builtin_min2 (x0 : Go.Value) (x1 : Go.Value) : Plain kn (Go.Builtin.min2 x0 x1 : Go.Sem Go.Value) := by
  unfold Go.Builtin.min2
  repeat' (first | with_reducible first | apply pl_pure | apply pl_choose | apply pl_Op_stringOp | apply pl_asBool | apply pl_unsupported | apply pl_stuck | refine Plain.obj fun _ => ?_ | refine Plain.bind' ?_ fun _ => ?_ | refine Plain.map' ?_ | refine pl_forA _ _ _ fun _ _ => ?_ | refine pl_forR _ _ _ fun _ _ => ?_ | refine pl_mapA _ _ fun _ => ?_ | refine Plain.ite (fun _ => ?_) (fun _ => ?_) | refine pl_foldL _ (fun _ _ => ?_) _ _ | split)
theorem pl_Builtin_min_ (x0 : Array Go.TypeId) (x1 : Go.TypeId) (x2 : Array Go.Value) : Plain kn (Go.Builtin.min_ x0 x1 x2 : Go.Sem Go.Value) := by
  unfold Go.Builtin.min_
  repeat' (first | with_reducible first | apply pl_pure | apply pl_stuck | apply pl_Builtin_min2 | refine Plain.obj fun _ => ?_ | refine Plain.bind' ?_ fun _ => ?_ | refine Plain.map' ?_ | refine pl_forA _ _ _ fun _ _ => ?_ | refine pl_forR _ _ _ fun _ _ => ?_ | refine pl_mapA _ _ fun _ => ?_ | refine Plain.ite (fun _ => ?_) (fun _ => ?_) | refine pl_foldL _ (fun _ _ => ?_) _ _ | split)
theorem pl_results (x0 : Go.Func) (x1 : Array Go.Value) : Plain kn (Go.results x0 x1 : Go.Sem Go.Value) := by
  unfold Go.results
  repeat' (first | with_reducible first | apply pl_pure | apply pl_asAddr | apply pl_loadVar | refine Plain.obj fun _ => ?_ | refine Plain.bind' ?_ fun _ => ?_ | refine Plain.map' ?_ | refine pl_forA _ _ _ fun _ _ => ?_ | refine pl_forR _ _ _ fun _ _ => ?_ | refine pl_mapA _ _ fun _ => ?_ | refine Plain.ite (fun _ => ?_) (fun _ => ?_) | refine pl_foldL _ (fun _ _ => ?_) _ _ | split)
end
end
end Go.Proofs.YtignemioillaiaaGreat
