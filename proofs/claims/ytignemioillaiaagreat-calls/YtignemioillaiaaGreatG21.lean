/- The operations are plain. -/
import Derived.Test.YtignemioillaiaaGreatG20
namespace Go.Proofs.YtignemioillaiaaGreat
set_option maxHeartbeats 8000000
set_option maxRecDepth 100000
section
open Go
section
variable {kn : List Nat}
theorem nU (b : Bool) : ∀ (n : Nat) (t : TypeId) (x : Value), Plain kn (Instr.checkKey b n t x) := by
  intro n
  induction n with
  | zero => intro t x; exact trivial
  | succ n ih =>
    intro t x
    unfold Instr.checkKey
    repeat' (first | with_reducible apply ih | with_reducible apply az | with_reducible apply bU | with_reducible apply bH | with_reducible apply jh | with_reducible apply Ce | with_reducible apply eH | with_reducible apply eZ | with_reducible apply rY | with_reducible apply bu | (with_reducible refine Plain.obj fun _ => ?_) | (with_reducible refine Plain.bind' ?_ fun _ => ?_) | (with_reducible refine Plain.map' ?_) | (with_reducible refine aA _ _ _ fun _ _ => ?_) | (with_reducible refine aB _ _ _ fun _ _ => ?_) | (with_reducible refine aC _ _ fun _ => ?_) | (with_reducible refine Plain.ite (fun _ => ?_) (fun _ => ?_)) | (with_reducible refine au _ (fun _ _ => ?_) _ _) | split | dsimp only)
theorem wo (t : TypeId) (v : Value) : ∀ (l : List MapEntry) (i : Nat), Plain kn (Instr.findAsking t v l i) := by
  intro l
  induction l with
  | nil => intro i; exact trivial
  | cons e l ih =>
    intro i
    unfold Instr.findAsking
    repeat' (first | with_reducible apply ih | with_reducible apply az | with_reducible apply Ak | (with_reducible refine Plain.obj fun _ => ?_) | (with_reducible refine Plain.bind' ?_ fun _ => ?_) | (with_reducible refine Plain.map' ?_) | (with_reducible refine aA _ _ _ fun _ _ => ?_) | (with_reducible refine aB _ _ _ fun _ _ => ?_) | (with_reducible refine aC _ _ fun _ => ?_) | (with_reducible refine Plain.ite (fun _ => ?_) (fun _ => ?_)) | (with_reducible refine au _ (fun _ _ => ?_) _ _) | split | dsimp only)
theorem oP (x0 : Go.TypeId) (x1 : Go.Value) (x2 : List Go.MapEntry) : Plain kn (Go.Instr.findKey x0 x1 x2 : Go.Sem (Option (Nat × Go.Value))) := by
  unfold Go.Instr.findKey
  repeat' (first | with_reducible apply az | with_reducible apply bH | with_reducible apply wo | (with_reducible refine Plain.obj fun _ => ?_) | (with_reducible refine Plain.bind' ?_ fun _ => ?_) | (with_reducible refine Plain.map' ?_) | (with_reducible refine aA _ _ _ fun _ _ => ?_) | (with_reducible refine aB _ _ _ fun _ _ => ?_) | (with_reducible refine aC _ _ fun _ => ?_) | (with_reducible refine Plain.ite (fun _ => ?_) (fun _ => ?_)) | (with_reducible refine au _ (fun _ _ => ?_) _ _) | split | dsimp only)
theorem Cg (x0 : Go.TypeId) (x1 : Go.Value) (x2 : Go.Value) (x3 : Bool) : Plain kn (Go.Instr.lookup x0 x1 x2 x3 : Go.Sem Go.Value) := by
  unfold Go.Instr.lookup
  repeat' (first | with_reducible apply az | with_reducible apply bH | with_reducible apply nU | with_reducible apply oP | with_reducible apply kM | with_reducible apply jq | with_reducible apply bu | (with_reducible refine Plain.obj fun _ => ?_) | (with_reducible refine Plain.bind' ?_ fun _ => ?_) | (with_reducible refine Plain.map' ?_) | (with_reducible refine aA _ _ _ fun _ _ => ?_) | (with_reducible refine aB _ _ _ fun _ _ => ?_) | (with_reducible refine aC _ _ fun _ => ?_) | (with_reducible refine Plain.ite (fun _ => ?_) (fun _ => ?_)) | (with_reducible refine au _ (fun _ _ => ?_) _ _) | split | dsimp only)
theorem uR (x0 : Go.Value) (x1 : Go.Value) : Plain kn (Go.Instr.keyThatStays x0 x1 : Go.Sem Go.Value) := by
  unfold Go.Instr.keyThatStays
  repeat' (first | with_reducible apply az | with_reducible apply fI | (with_reducible refine Plain.obj fun _ => ?_) | (with_reducible refine Plain.bind' ?_ fun _ => ?_) | (with_reducible refine Plain.map' ?_) | (with_reducible refine aA _ _ _ fun _ _ => ?_) | (with_reducible refine aB _ _ _ fun _ _ => ?_) | (with_reducible refine aC _ _ fun _ => ?_) | (with_reducible refine Plain.ite (fun _ => ?_) (fun _ => ?_)) | (with_reducible refine au _ (fun _ _ => ?_) _ _) | split | dsimp only)
theorem xx (x0 : Go.TypeId) (x1 : Go.Value) (x2 : Go.Value) (x3 : Go.Value) : Plain kn (Go.Instr.mapUpdate x0 x1 x2 x3 : Go.Sem Unit) := by
  unfold Go.Instr.mapUpdate
  repeat' (first | with_reducible apply az | with_reducible apply bH | with_reducible apply eH | with_reducible apply jq | with_reducible apply nU | with_reducible apply oP | with_reducible apply uR | with_reducible apply bu | exact BX _ _ (by first | exact List.mem_cons_self | exact List.mem_cons_of_mem _ List.mem_cons_self) rfl | (with_reducible refine Plain.obj fun _ => ?_) | (with_reducible refine Plain.bind' ?_ fun _ => ?_) | (with_reducible refine Plain.map' ?_) | (with_reducible refine aA _ _ _ fun _ _ => ?_) | (with_reducible refine aB _ _ _ fun _ _ => ?_) | (with_reducible refine aC _ _ fun _ => ?_) | (with_reducible refine Plain.ite (fun _ => ?_) (fun _ => ?_)) | (with_reducible refine au _ (fun _ _ => ?_) _ _) | split | dsimp only)
theorem Dr (x0 : TypeId) (x1 : Value) : Plain kn (Instr.range x0 x1) := by
  unfold Instr.range
  refine Plain.bind' (bH _) fun d => ?_
  split
  · exact ⟨rfl, fun _ => trivial⟩
  · exact ⟨rfl, fun _ => trivial⟩
  · intro o
    cases o <;> first | exact trivial | exact ⟨rfl, fun _ => trivial⟩
  · exact trivial
theorem EH (x0 : Go.Value) (x1 : Bool) (x2 : Go.TypeId) : Plain kn (Go.Instr.next x0 x1 x2 : Go.Sem Go.Value) := by
  unfold Go.Instr.next
  repeat' (first | with_reducible apply az | with_reducible apply jq | with_reducible apply fI | with_reducible apply bu | with_reducible apply bU | exact BX _ _ (by first | exact List.mem_cons_self | exact List.mem_cons_of_mem _ List.mem_cons_self) rfl | (with_reducible refine Plain.obj fun _ => ?_) | (with_reducible refine Plain.bind' ?_ fun _ => ?_) | (with_reducible refine Plain.map' ?_) | (with_reducible refine aA _ _ _ fun _ _ => ?_) | (with_reducible refine aB _ _ _ fun _ _ => ?_) | (with_reducible refine aC _ _ fun _ => ?_) | (with_reducible refine Plain.ite (fun _ => ?_) (fun _ => ?_)) | (with_reducible refine au _ (fun _ _ => ?_) _ _) | split | dsimp only)
theorem Dt (x0 : Go.Value) : Plain kn (Go.Instr.entry x0 : Go.Sem Go.Value) := by
  unfold Go.Instr.entry
  repeat' (first | with_reducible apply az | with_reducible apply jq | with_reducible apply bU | with_reducible apply bu | (with_reducible refine Plain.obj fun _ => ?_) | (with_reducible refine Plain.bind' ?_ fun _ => ?_) | (with_reducible refine Plain.map' ?_) | (with_reducible refine aA _ _ _ fun _ _ => ?_) | (with_reducible refine aB _ _ _ fun _ _ => ?_) | (with_reducible refine aC _ _ fun _ => ?_) | (with_reducible refine Plain.ite (fun _ => ?_) (fun _ => ?_)) | (with_reducible refine au _ (fun _ _ => ?_) _ _) | split | dsimp only)
theorem uw (x0 : Go.TypeId) (x1 : Go.Value) : Plain kn (Go.Instr.makeInterface x0 x1 : Go.Sem Go.Value) := by
  unfold Go.Instr.makeInterface
  repeat' (first | with_reducible apply az | with_reducible apply bH | with_reducible apply bu | (with_reducible refine Plain.obj fun _ => ?_) | (with_reducible refine Plain.bind' ?_ fun _ => ?_) | (with_reducible refine Plain.map' ?_) | (with_reducible refine aA _ _ _ fun _ _ => ?_) | (with_reducible refine aB _ _ _ fun _ _ => ?_) | (with_reducible refine aC _ _ fun _ => ?_) | (with_reducible refine Plain.ite (fun _ => ?_) (fun _ => ?_)) | (with_reducible refine au _ (fun _ _ => ?_) _ _) | split | dsimp only)
theorem zq (x0 : Go.Fn) (x1 : Array Go.Value) (x2 : Array Go.Value) : Plain kn (Go.Instr.makeFunc x0 x1 x2 : Go.Sem Go.Value) := by
  unfold Go.Instr.makeFunc
  repeat' (first | with_reducible apply az | (with_reducible refine Plain.obj fun _ => ?_) | (with_reducible refine Plain.bind' ?_ fun _ => ?_) | (with_reducible refine Plain.map' ?_) | (with_reducible refine aA _ _ _ fun _ _ => ?_) | (with_reducible refine aB _ _ _ fun _ _ => ?_) | (with_reducible refine aC _ _ fun _ => ?_) | (with_reducible refine Plain.ite (fun _ => ?_) (fun _ => ?_)) | (with_reducible refine au _ (fun _ _ => ?_) _ _) | split | dsimp only)
theorem Bb (x0 : Go.TypeId) (x1 : Option Go.Value) : Plain kn (Go.Instr.makeMap x0 x1 : Go.Sem Go.Value) := by
  unfold Go.Instr.makeMap
  repeat' (first | with_reducible apply az | with_reducible apply bH | with_reducible apply sG | with_reducible apply bu | ((with_reducible refine sZ _ ?_); rfl) | (with_reducible refine Plain.obj fun _ => ?_) | (with_reducible refine Plain.bind' ?_ fun _ => ?_) | (with_reducible refine Plain.map' ?_) | (with_reducible refine aA _ _ _ fun _ _ => ?_) | (with_reducible refine aB _ _ _ fun _ _ => ?_) | (with_reducible refine aC _ _ fun _ => ?_) | (with_reducible refine Plain.ite (fun _ => ?_) (fun _ => ?_)) | (with_reducible refine au _ (fun _ _ => ?_) _ _) | split | dsimp only)
theorem Ch (n : Nat) : Plain kn (askRoom n) := by
  unfold askRoom
  split
  · exact Ed
  · exact trivial
theorem xy (x0 : Go.TypeId) (x1 : Go.Value) (x2 : Go.Value) : Plain kn (Go.Instr.makeSlice x0 x1 x2 : Go.Sem Go.Value) := by
  unfold Go.Instr.makeSlice
  repeat' (first | with_reducible apply az | with_reducible apply bH | with_reducible apply sG | with_reducible apply jh | with_reducible apply Ch | with_reducible apply eZ | with_reducible apply pz | with_reducible apply kM | with_reducible apply eH | with_reducible apply fI | with_reducible apply bu | (with_reducible refine Plain.obj fun _ => ?_) | (with_reducible refine Plain.bind' ?_ fun _ => ?_) | (with_reducible refine Plain.map' ?_) | (with_reducible refine aA _ _ _ fun _ _ => ?_) | (with_reducible refine aB _ _ _ fun _ _ => ?_) | (with_reducible refine aC _ _ fun _ => ?_) | (with_reducible refine Plain.ite (fun _ => ?_) (fun _ => ?_)) | (with_reducible refine au _ (fun _ _ => ?_) _ _) | split | dsimp only)
theorem Bc (x0 : Go.Value) (x1 : Nat) : Plain kn (Go.Instr.extract x0 x1 : Go.Sem Go.Value) := by
  unfold Go.Instr.extract
  repeat' (first | with_reducible apply az | with_reducible apply bu | (with_reducible refine Plain.obj fun _ => ?_) | (with_reducible refine Plain.bind' ?_ fun _ => ?_) | (with_reducible refine Plain.map' ?_) | (with_reducible refine aA _ _ _ fun _ _ => ?_) | (with_reducible refine aB _ _ _ fun _ _ => ?_) | (with_reducible refine aC _ _ fun _ => ?_) | (with_reducible refine Plain.ite (fun _ => ?_) (fun _ => ?_)) | (with_reducible refine au _ (fun _ _ => ?_) _ _) | split | dsimp only)
theorem pF (x0 : Nat) (x1 : Nat) (x2 : Go.Value) : Plain kn (Go.Builtin.firstCells x0 x1 x2 : Go.Sem (Array Go.Value)) := by
  unfold Go.Builtin.firstCells
  repeat' (first | with_reducible apply az | with_reducible apply p9 | with_reducible apply bu | (with_reducible refine Plain.obj fun _ => ?_) | (with_reducible refine Plain.bind' ?_ fun _ => ?_) | (with_reducible refine Plain.map' ?_) | (with_reducible refine aA _ _ _ fun _ _ => ?_) | (with_reducible refine aB _ _ _ fun _ _ => ?_) | (with_reducible refine aC _ _ fun _ => ?_) | (with_reducible refine Plain.ite (fun _ => ?_) (fun _ => ?_)) | (with_reducible refine au _ (fun _ _ => ?_) _ _) | split | dsimp only)
theorem uS (x0 : Go.Addr) (x1 : Nat) : Plain kn (Go.Builtin.holdsCells x0 x1 : Go.Sem Bool) := by
  unfold Go.Builtin.holdsCells
  repeat' (first | with_reducible apply az | with_reducible apply jb | (with_reducible refine Plain.obj fun _ => ?_) | (with_reducible refine Plain.bind' ?_ fun _ => ?_) | (with_reducible refine Plain.map' ?_) | (with_reducible refine aA _ _ _ fun _ _ => ?_) | (with_reducible refine aB _ _ _ fun _ _ => ?_) | (with_reducible refine aC _ _ fun _ => ?_) | (with_reducible refine Plain.ite (fun _ => ?_) (fun _ => ?_)) | (with_reducible refine au _ (fun _ _ => ?_) _ _) | split | dsimp only)
theorem wu (x0 : Nat) (x1 : Nat) (x2 : Nat) (x3 : Option Go.Addr) (x4 : Go.Value) : Plain kn (Go.Builtin.mayShare x0 x1 x2 x3 x4 : Go.Sem Bool) := by
  unfold Go.Builtin.mayShare
  repeat' (first | with_reducible apply az | with_reducible apply uS | with_reducible apply tC | (with_reducible refine Plain.obj fun _ => ?_) | (with_reducible refine Plain.bind' ?_ fun _ => ?_) | (with_reducible refine Plain.map' ?_) | (with_reducible refine aA _ _ _ fun _ _ => ?_) | (with_reducible refine aB _ _ _ fun _ _ => ?_) | (with_reducible refine aC _ _ fun _ => ?_) | (with_reducible refine Plain.ite (fun _ => ?_) (fun _ => ?_)) | (with_reducible refine au _ (fun _ _ => ?_) _ _) | split | dsimp only)
theorem sK (x0 : Go.Value) : Plain kn (Go.Builtin.lenOf x0 : Go.Sem Nat) := by
  unfold Go.Builtin.lenOf
  repeat' (first | with_reducible apply az | with_reducible apply bu | (with_reducible refine Plain.obj fun _ => ?_) | (with_reducible refine Plain.bind' ?_ fun _ => ?_) | (with_reducible refine Plain.map' ?_) | (with_reducible refine aA _ _ _ fun _ _ => ?_) | (with_reducible refine aB _ _ _ fun _ _ => ?_) | (with_reducible refine aC _ _ fun _ => ?_) | (with_reducible refine Plain.ite (fun _ => ?_) (fun _ => ?_)) | (with_reducible refine au _ (fun _ _ => ?_) _ _) | split | dsimp only)
theorem xz (x0 : Array Go.TypeId) (x1 : Go.TypeId) (x2 : Array Go.Value) : Plain kn (Go.Builtin.append_ x0 x1 x2 : Go.Sem Go.Value) := by
  unfold Go.Builtin.append_
  repeat' (first | with_reducible apply az | with_reducible apply bH | with_reducible apply eZ | with_reducible apply pF | with_reducible apply kM | with_reducible apply oG | with_reducible apply jh | with_reducible apply fI | with_reducible apply Ch | with_reducible apply pz | with_reducible apply eH | with_reducible apply wu | with_reducible apply bU | with_reducible apply sG | with_reducible apply sK | with_reducible apply bu | with_reducible apply Ed | (with_reducible refine Plain.obj fun _ => ?_) | (with_reducible refine Plain.bind' ?_ fun _ => ?_) | (with_reducible refine Plain.map' ?_) | (with_reducible refine aA _ _ _ fun _ _ => ?_) | (with_reducible refine aB _ _ _ fun _ _ => ?_) | (with_reducible refine aC _ _ fun _ => ?_) | (with_reducible refine Plain.ite (fun _ => ?_) (fun _ => ?_)) | (with_reducible refine au _ (fun _ _ => ?_) _ _) | split | dsimp only)
theorem Ci (x0 : Array Go.TypeId) (x1 : Go.TypeId) (x2 : Array Go.Value) : Plain kn (Go.Builtin.cap_ x0 x1 x2 : Go.Sem Go.Value) := by
  unfold Go.Builtin.cap_
  repeat' (first | with_reducible apply az | with_reducible apply bH | with_reducible apply bu | with_reducible apply jq | (with_reducible refine Plain.obj fun _ => ?_) | (with_reducible refine Plain.bind' ?_ fun _ => ?_) | (with_reducible refine Plain.map' ?_) | (with_reducible refine aA _ _ _ fun _ _ => ?_) | (with_reducible refine aB _ _ _ fun _ _ => ?_) | (with_reducible refine aC _ _ fun _ => ?_) | (with_reducible refine Plain.ite (fun _ => ?_) (fun _ => ?_)) | (with_reducible refine au _ (fun _ _ => ?_) _ _) | split | dsimp only)
theorem zt (x0 : Array Go.TypeId) (x1 : Go.TypeId) (x2 : Array Go.Value) : Plain kn (Go.Builtin.clear_ x0 x1 x2 : Go.Sem Go.Value) := by
  unfold Go.Builtin.clear_
  repeat' (first | with_reducible apply az | with_reducible apply bH | with_reducible apply jq | with_reducible apply bu | with_reducible apply kM | with_reducible apply oG | exact BX _ _ (by first | exact List.mem_cons_self | exact List.mem_cons_of_mem _ List.mem_cons_self) rfl | (with_reducible refine Plain.obj fun _ => ?_) | (with_reducible refine Plain.bind' ?_ fun _ => ?_) | (with_reducible refine Plain.map' ?_) | (with_reducible refine aA _ _ _ fun _ _ => ?_) | (with_reducible refine aB _ _ _ fun _ _ => ?_) | (with_reducible refine aC _ _ fun _ => ?_) | (with_reducible refine Plain.ite (fun _ => ?_) (fun _ => ?_)) | (with_reducible refine au _ (fun _ _ => ?_) _ _) | split | dsimp only)
theorem Be (x0 : Array Go.TypeId) (x1 : Go.TypeId) (x2 : Array Go.Value) : Plain kn (Go.Builtin.copy_ x0 x1 x2 : Go.Sem Go.Value) := by
  unfold Go.Builtin.copy_
  repeat' (first | with_reducible apply az | with_reducible apply bH | with_reducible apply sK | with_reducible apply eZ | with_reducible apply pF | with_reducible apply oG | with_reducible apply bu | (with_reducible refine Plain.obj fun _ => ?_) | (with_reducible refine Plain.bind' ?_ fun _ => ?_) | (with_reducible refine Plain.map' ?_) | (with_reducible refine aA _ _ _ fun _ _ => ?_) | (with_reducible refine aB _ _ _ fun _ _ => ?_) | (with_reducible refine aC _ _ fun _ => ?_) | (with_reducible refine Plain.ite (fun _ => ?_) (fun _ => ?_)) | (with_reducible refine au _ (fun _ _ => ?_) _ _) | split | dsimp only)
theorem xA (x0 : Array Go.TypeId) (x1 : Go.TypeId) (x2 : Array Go.Value) : Plain kn (Go.Builtin.delete_ x0 x1 x2 : Go.Sem Go.Value) := by
  unfold Go.Builtin.delete_
  repeat' (first | with_reducible apply az | with_reducible apply bH | with_reducible apply nU | with_reducible apply jq | with_reducible apply oP | with_reducible apply bu | exact BX _ _ (by first | exact List.mem_cons_self | exact List.mem_cons_of_mem _ List.mem_cons_self) rfl | (with_reducible refine Plain.obj fun _ => ?_) | (with_reducible refine Plain.bind' ?_ fun _ => ?_) | (with_reducible refine Plain.map' ?_) | (with_reducible refine aA _ _ _ fun _ _ => ?_) | (with_reducible refine aB _ _ _ fun _ _ => ?_) | (with_reducible refine aC _ _ fun _ => ?_) | (with_reducible refine Plain.ite (fun _ => ?_) (fun _ => ?_)) | (with_reducible refine au _ (fun _ _ => ?_) _ _) | split | dsimp only)
theorem Cj (x0 : Array Go.TypeId) (x1 : Go.TypeId) (x2 : Array Go.Value) : Plain kn (Go.Builtin.len_ x0 x1 x2 : Go.Sem Go.Value) := by
  unfold Go.Builtin.len_
  repeat' (first | with_reducible apply az | with_reducible apply bH | with_reducible apply bu | with_reducible apply jq | (with_reducible refine Plain.obj fun _ => ?_) | (with_reducible refine Plain.bind' ?_ fun _ => ?_) | (with_reducible refine Plain.map' ?_) | (with_reducible refine aA _ _ _ fun _ _ => ?_) | (with_reducible refine aB _ _ _ fun _ _ => ?_) | (with_reducible refine aC _ _ fun _ => ?_) | (with_reducible refine Plain.ite (fun _ => ?_) (fun _ => ?_)) | (with_reducible refine au _ (fun _ _ => ?_) _ _) | split | dsimp only)
theorem Ck (x0 : Go.Value) (x1 : Go.Value) : Plain kn (Go.Builtin.max2 x0 x1 : Go.Sem Go.Value) := by
  unfold Go.Builtin.max2
  repeat' (first | with_reducible apply az | with_reducible apply fI | with_reducible apply qz | with_reducible apply tq | with_reducible apply bU | with_reducible apply bu | (with_reducible refine Plain.obj fun _ => ?_) | (with_reducible refine Plain.bind' ?_ fun _ => ?_) | (with_reducible refine Plain.map' ?_) | (with_reducible refine aA _ _ _ fun _ _ => ?_) | (with_reducible refine aB _ _ _ fun _ _ => ?_) | (with_reducible refine aC _ _ fun _ => ?_) | (with_reducible refine Plain.ite (fun _ => ?_) (fun _ => ?_)) | (with_reducible refine au _ (fun _ _ => ?_) _ _) | split | dsimp only)
theorem Cn (x0 : Array Go.TypeId) (x1 : Go.TypeId) (x2 : Array Go.Value) : Plain kn (Go.Builtin.max_ x0 x1 x2 : Go.Sem Go.Value) := by
  unfold Go.Builtin.max_
  repeat' (first | with_reducible apply az | with_reducible apply bu | with_reducible apply Ck | (with_reducible refine Plain.obj fun _ => ?_) | (with_reducible refine Plain.bind' ?_ fun _ => ?_) | (with_reducible refine Plain.map' ?_) | (with_reducible refine aA _ _ _ fun _ _ => ?_) | (with_reducible refine aB _ _ _ fun _ _ => ?_) | (with_reducible refine aC _ _ fun _ => ?_) | (with_reducible refine Plain.ite (fun _ => ?_) (fun _ => ?_)) | (with_reducible refine au _ (fun _ _ => ?_) _ _) | split | dsimp only)
theorem Co (x0 : Go.Value) (x1 : Go.Value) : Plain kn (Go.Builtin.min2 x0 x1 : Go.Sem Go.Value) := by
  unfold Go.Builtin.min2
  repeat' (first | with_reducible apply az | with_reducible apply fI | with_reducible apply qz | with_reducible apply tq | with_reducible apply bU | with_reducible apply bu | (with_reducible refine Plain.obj fun _ => ?_) | (with_reducible refine Plain.bind' ?_ fun _ => ?_) | (with_reducible refine Plain.map' ?_) | (with_reducible refine aA _ _ _ fun _ _ => ?_) | (with_reducible refine aB _ _ _ fun _ _ => ?_) | (with_reducible refine aC _ _ fun _ => ?_) | (with_reducible refine Plain.ite (fun _ => ?_) (fun _ => ?_)) | (with_reducible refine au _ (fun _ _ => ?_) _ _) | split | dsimp only)
theorem Cq (x0 : Array Go.TypeId) (x1 : Go.TypeId) (x2 : Array Go.Value) : Plain kn (Go.Builtin.min_ x0 x1 x2 : Go.Sem Go.Value) := by
  unfold Go.Builtin.min_
  repeat' (first | with_reducible apply az | with_reducible apply bu | with_reducible apply Co | (with_reducible refine Plain.obj fun _ => ?_) | (with_reducible refine Plain.bind' ?_ fun _ => ?_) | (with_reducible refine Plain.map' ?_) | (with_reducible refine aA _ _ _ fun _ _ => ?_) | (with_reducible refine aB _ _ _ fun _ _ => ?_) | (with_reducible refine aC _ _ fun _ => ?_) | (with_reducible refine Plain.ite (fun _ => ?_) (fun _ => ?_)) | (with_reducible refine au _ (fun _ _ => ?_) _ _) | split | dsimp only)
theorem vD (x0 : Go.Func) (x1 : Array Go.Value) : Plain kn (Go.results x0 x1 : Go.Sem Go.Value) := by
  unfold Go.results
  repeat' (first | with_reducible apply az | with_reducible apply Ee | with_reducible apply BZ | (with_reducible refine Plain.obj fun _ => ?_) | (with_reducible refine Plain.bind' ?_ fun _ => ?_) | (with_reducible refine Plain.map' ?_) | (with_reducible refine aA _ _ _ fun _ _ => ?_) | (with_reducible refine aB _ _ _ fun _ _ => ?_) | (with_reducible refine aC _ _ fun _ => ?_) | (with_reducible refine Plain.ite (fun _ => ?_) (fun _ => ?_)) | (with_reducible refine au _ (fun _ _ => ?_) _ _) | split | dsimp only)
end
end
end Go.Proofs.YtignemioillaiaaGreat
