/- The operations are plain. -/
import Derived.Test.YtignemioillaiaaGreatG03
namespace Go.Proofs.YtignemioillaiaaGreat
set_option maxHeartbeats 8000000
set_option maxRecDepth 100000
section
open Go
section
variable{kn:List Nat}
theorem oq(b:Bool):∀(n:Nat) (t:TypeId) (x:Value),Plain kn (Instr.checkKey b n t x):=by
 intro n;induction n with
 |zero=>intro t x;exact trivial
 |succ n ih =>
  intro t x;unfold Instr.checkKey;repeat' (first|(with_reducible first|apply ih|apply aA|apply aU|apply aT|apply iH|apply Ea|apply dZ|apply dV|apply uK|apply aP|refine Plain.obj λ_=>?_|refine Plain.bind' ?_ λ_=>?_|refine Plain.map' ?_|refine cu _ _ _ λ_ _=>?_|refine df _ _ _ λ_ _=>?_|refine di _ _ λ_=>?_|refine Plain.ite (λ_=>?_) (λ_=>?_)|refine bZ _ (λ_ _=>?_) _ _)|split|dsimp only)
theorem zU(t:TypeId)(v:Value):∀(l:List MapEntry) (i:Nat),Plain kn (Instr.findAsking t v l i):=by
 intro l;induction l with
 |nil=>intro i;exact trivial
 |cons e l ih =>
  intro i;unfold Instr.findAsking;repeat' (first|(with_reducible first|apply ih|apply aA|apply Cn|refine Plain.obj λ_=>?_|refine Plain.bind' ?_ λ_=>?_|refine Plain.map' ?_|refine cu _ _ _ λ_ _=>?_|refine df _ _ _ λ_ _=>?_|refine di _ _ λ_=>?_|refine Plain.ite (λ_=>?_) (λ_=>?_)|refine bZ _ (λ_ _=>?_) _ _)|split|dsimp only)
theorem pK(x0:Go.TypeId)(x1:Go.Value)(x2:List Go.MapEntry):Plain kn (Go.Instr.findKey x0 x1 x2:Go.Sem (Option (Nat×Go.Value))):=by
 unfold Go.Instr.findKey;repeat' (first|(with_reducible first|apply aA|apply aT|apply zU|refine Plain.obj λ_=>?_|refine Plain.bind' ?_ λ_=>?_|refine Plain.map' ?_|refine cu _ _ _ λ_ _=>?_|refine df _ _ _ λ_ _=>?_|refine di _ _ λ_=>?_|refine Plain.ite (λ_=>?_) (λ_=>?_)|refine bZ _ (λ_ _=>?_) _ _)|split|dsimp only)
theorem Ec(x0:Go.TypeId)(x1:Go.Value)(x2:Go.Value)(x3:Bool):Plain kn (Go.Instr.lookup x0 x1 x2 x3:Go.Sem Go.Value):=by
 unfold Go.Instr.lookup;repeat' (first|(with_reducible first|apply aA|apply aT|apply oq|apply pK|apply jJ|apply iO|apply aP|refine Plain.obj λ_=>?_|refine Plain.bind' ?_ λ_=>?_|refine Plain.map' ?_|refine cu _ _ _ λ_ _=>?_|refine df _ _ _ λ_ _=>?_|refine di _ _ λ_=>?_|refine Plain.ite (λ_=>?_) (λ_=>?_)|refine bZ _ (λ_ _=>?_) _ _)|split|dsimp only)
theorem xJ(x0:Go.Value)(x1:Go.Value):Plain kn (Go.Instr.keyThatStays x0 x1:Go.Sem Go.Value):=by
 unfold Go.Instr.keyThatStays;repeat' (first|(with_reducible first|apply aA|apply fB|refine Plain.obj λ_=>?_|refine Plain.bind' ?_ λ_=>?_|refine Plain.map' ?_|refine cu _ _ _ λ_ _=>?_|refine df _ _ _ λ_ _=>?_|refine di _ _ λ_=>?_|refine Plain.ite (λ_=>?_) (λ_=>?_)|refine bZ _ (λ_ _=>?_) _ _)|split|dsimp only)
theorem Ad(x0:Go.TypeId)(x1:Go.Value)(x2:Go.Value)(x3:Go.Value):Plain kn (Go.Instr.mapUpdate x0 x1 x2 x3:Go.Sem Unit):=by
 unfold Go.Instr.mapUpdate;repeat' (first|(with_reducible first|apply aA|apply aT|apply dZ|apply iO|apply oq|apply pK|apply xJ|apply aP|refine Plain.obj λ_=>?_|refine Plain.bind' ?_ λ_=>?_|refine Plain.map' ?_|refine cu _ _ _ λ_ _=>?_|refine df _ _ _ λ_ _=>?_|refine di _ _ λ_=>?_|refine Plain.ite (λ_=>?_) (λ_=>?_)|refine bZ _ (λ_ _=>?_) _ _)|exact DZ _ _ (by first|exact List.mem_cons_self|exact List.mem_cons_of_mem _ List.mem_cons_self) rfl|split|dsimp only)
theorem FT(x0:TypeId)(x1:Value):Plain kn (Instr.range x0 x1):=by
 unfold Instr.range;refine Plain.bind' (aT _) λd=>?_
 split
 ·exact⟨rfl,λ_=>trivial⟩
 ·exact⟨rfl,λ_=>trivial⟩
 ·intro o
  cases o<;>first|exact trivial|exact⟨rfl,λ_=>trivial⟩
 ·exact trivial
theorem Iw(x0:Go.Value)(x1:Bool)(x2:Go.TypeId):Plain kn (Go.Instr.next x0 x1 x2:Go.Sem Go.Value):=by
 unfold Go.Instr.next;repeat' (first|(with_reducible first|apply aA|apply iO|apply fB|apply aP|apply aU|refine Plain.obj λ_=>?_|refine Plain.bind' ?_ λ_=>?_|refine Plain.map' ?_|refine cu _ _ _ λ_ _=>?_|refine df _ _ _ λ_ _=>?_|refine di _ _ λ_=>?_|refine Plain.ite (λ_=>?_) (λ_=>?_)|refine bZ _ (λ_ _=>?_) _ _)|exact DZ _ _ (by first|exact List.mem_cons_self|exact List.mem_cons_of_mem _ List.mem_cons_self) rfl|split|dsimp only)
theorem FU(x0:Go.Value):Plain kn (Go.Instr.entry x0:Go.Sem Go.Value):=by
 unfold Go.Instr.entry;repeat' (first|(with_reducible first|apply aA|apply iO|apply aU|apply aP|refine Plain.obj λ_=>?_|refine Plain.bind' ?_ λ_=>?_|refine Plain.map' ?_|refine cu _ _ _ λ_ _=>?_|refine df _ _ _ λ_ _=>?_|refine di _ _ λ_=>?_|refine Plain.ite (λ_=>?_) (λ_=>?_)|refine bZ _ (λ_ _=>?_) _ _)|split|dsimp only)
theorem xg(x0:Go.TypeId)(x1:Go.Value):Plain kn (Go.Instr.makeInterface x0 x1:Go.Sem Go.Value):=by
 unfold Go.Instr.makeInterface;repeat' (first|(with_reducible first|apply aA|apply aT|apply aP|refine Plain.obj λ_=>?_|refine Plain.bind' ?_ λ_=>?_|refine Plain.map' ?_|refine cu _ _ _ λ_ _=>?_|refine df _ _ _ λ_ _=>?_|refine di _ _ λ_=>?_|refine Plain.ite (λ_=>?_) (λ_=>?_)|refine bZ _ (λ_ _=>?_) _ _)|split|dsimp only)
theorem Cg(x0:Go.Fn)(x1:Array Go.Value)(x2:Array Go.Value):Plain kn (Go.Instr.makeFunc x0 x1 x2:Go.Sem Go.Value):=by
 unfold Go.Instr.makeFunc;repeat' (first|(with_reducible first|apply aA|refine Plain.obj λ_=>?_|refine Plain.bind' ?_ λ_=>?_|refine Plain.map' ?_|refine cu _ _ _ λ_ _=>?_|refine df _ _ _ λ_ _=>?_|refine di _ _ λ_=>?_|refine Plain.ite (λ_=>?_) (λ_=>?_)|refine bZ _ (λ_ _=>?_) _ _)|split|dsimp only)
theorem C8(x0:Go.TypeId)(x1:Option Go.Value):Plain kn (Go.Instr.makeMap x0 x1:Go.Sem Go.Value):=by
 unfold Go.Instr.makeMap;repeat' (first|((with_reducible refine vX _ ?_);rfl)|(with_reducible first|apply aA|apply aT|apply uS|apply aP|refine Plain.obj λ_=>?_|refine Plain.bind' ?_ λ_=>?_|refine Plain.map' ?_|refine cu _ _ _ λ_ _=>?_|refine df _ _ _ λ_ _=>?_|refine di _ _ λ_=>?_|refine Plain.ite (λ_=>?_) (λ_=>?_)|refine bZ _ (λ_ _=>?_) _ _)|split|dsimp only)
theorem Ed(n:Nat):Plain kn (askRoom n):=by
 unfold askRoom;split
 ·exact Gy
 ·exact trivial
theorem Ae(x0:Go.TypeId)(x1:Go.Value)(x2:Go.Value):Plain kn (Go.Instr.makeSlice x0 x1 x2:Go.Sem Go.Value):=by
 unfold Go.Instr.makeSlice;repeat' (first|(with_reducible first|apply aA|apply aT|apply uS|apply iH|apply Ed|apply dV|apply pY|apply jJ|apply dZ|apply fB|apply aP|refine Plain.obj λ_=>?_|refine Plain.bind' ?_ λ_=>?_|refine Plain.map' ?_|refine cu _ _ _ λ_ _=>?_|refine df _ _ _ λ_ _=>?_|refine di _ _ λ_=>?_|refine Plain.ite (λ_=>?_) (λ_=>?_)|refine bZ _ (λ_ _=>?_) _ _)|split|dsimp only)
theorem C9(x0:Go.Value)(x1:Nat):Plain kn (Go.Instr.extract x0 x1:Go.Sem Go.Value):=by
 unfold Go.Instr.extract;repeat' (first|(with_reducible first|apply aA|apply aP|refine Plain.obj λ_=>?_|refine Plain.bind' ?_ λ_=>?_|refine Plain.map' ?_|refine cu _ _ _ λ_ _=>?_|refine df _ _ _ λ_ _=>?_|refine di _ _ λ_=>?_|refine Plain.ite (λ_=>?_) (λ_=>?_)|refine bZ _ (λ_ _=>?_) _ _)|split|dsimp only)
theorem p9(x0:Nat)(x1:Nat)(x2:Go.Value):Plain kn (Go.Builtin.firstCells x0 x1 x2:Go.Sem (Array Go.Value)):=by
 unfold Go.Builtin.firstCells;repeat' (first|(with_reducible first|apply aA|apply qC|apply aP|refine Plain.obj λ_=>?_|refine Plain.bind' ?_ λ_=>?_|refine Plain.map' ?_|refine cu _ _ _ λ_ _=>?_|refine df _ _ _ λ_ _=>?_|refine di _ _ λ_=>?_|refine Plain.ite (λ_=>?_) (λ_=>?_)|refine bZ _ (λ_ _=>?_) _ _)|split|dsimp only)
theorem xK(x0:Go.Addr)(x1:Nat):Plain kn (Go.Builtin.holdsCells x0 x1:Go.Sem Bool):=by
 unfold Go.Builtin.holdsCells;repeat' (first|(with_reducible first|apply aA|apply iD|refine Plain.obj λ_=>?_|refine Plain.bind' ?_ λ_=>?_|refine Plain.map' ?_|refine cu _ _ _ λ_ _=>?_|refine df _ _ _ λ_ _=>?_|refine di _ _ λ_=>?_|refine Plain.ite (λ_=>?_) (λ_=>?_)|refine bZ _ (λ_ _=>?_) _ _)|split|dsimp only)
theorem zV(x0:Nat)(x1:Nat)(x2:Nat)(x3:Option Go.Addr)(x4:Go.Value):Plain kn (Go.Builtin.mayShare x0 x1 x2 x3 x4:Go.Sem Bool):=by
 unfold Go.Builtin.mayShare;repeat' (first|(with_reducible first|apply aA|apply xK|apply wo|refine Plain.obj λ_=>?_|refine Plain.bind' ?_ λ_=>?_|refine Plain.map' ?_|refine cu _ _ _ λ_ _=>?_|refine df _ _ _ λ_ _=>?_|refine di _ _ λ_=>?_|refine Plain.ite (λ_=>?_) (λ_=>?_)|refine bZ _ (λ_ _=>?_) _ _)|split|dsimp only)
theorem uV(x0:Go.Value):Plain kn (Go.Builtin.lenOf x0:Go.Sem Nat):=by
 unfold Go.Builtin.lenOf;repeat' (first|(with_reducible first|apply aA|apply aP|refine Plain.obj λ_=>?_|refine Plain.bind' ?_ λ_=>?_|refine Plain.map' ?_|refine cu _ _ _ λ_ _=>?_|refine df _ _ _ λ_ _=>?_|refine di _ _ λ_=>?_|refine Plain.ite (λ_=>?_) (λ_=>?_)|refine bZ _ (λ_ _=>?_) _ _)|split|dsimp only)
theorem Af(x0:Array Go.TypeId)(x1:Go.TypeId)(x2:Array Go.Value):Plain kn (Go.Builtin.append_ x0 x1 x2:Go.Sem Go.Value):=by
 unfold Go.Builtin.append_;repeat' (first|(with_reducible first|apply aA|apply aT|apply dV|apply p9|apply jJ|apply pF|apply iH|apply fB|apply Ed|apply pY|apply dZ|apply zV|apply aU|apply uS|apply uV|apply aP|apply Gy|refine Plain.obj λ_=>?_|refine Plain.bind' ?_ λ_=>?_|refine Plain.map' ?_|refine cu _ _ _ λ_ _=>?_|refine df _ _ _ λ_ _=>?_|refine di _ _ λ_=>?_|refine Plain.ite (λ_=>?_) (λ_=>?_)|refine bZ _ (λ_ _=>?_) _ _)|split|dsimp only)
theorem Ee(x0:Array Go.TypeId)(x1:Go.TypeId)(x2:Array Go.Value):Plain kn (Go.Builtin.cap_ x0 x1 x2:Go.Sem Go.Value):=by
 unfold Go.Builtin.cap_;repeat' (first|(with_reducible first|apply aA|apply aT|apply aP|apply iO|refine Plain.obj λ_=>?_|refine Plain.bind' ?_ λ_=>?_|refine Plain.map' ?_|refine cu _ _ _ λ_ _=>?_|refine df _ _ _ λ_ _=>?_|refine di _ _ λ_=>?_|refine Plain.ite (λ_=>?_) (λ_=>?_)|refine bZ _ (λ_ _=>?_) _ _)|split|dsimp only)
theorem Ch(x0:Array Go.TypeId)(x1:Go.TypeId)(x2:Array Go.Value):Plain kn (Go.Builtin.clear_ x0 x1 x2:Go.Sem Go.Value):=by
 unfold Go.Builtin.clear_;repeat' (first|(with_reducible first|apply aA|apply aT|apply iO|apply aP|apply jJ|apply pF|refine Plain.obj λ_=>?_|refine Plain.bind' ?_ λ_=>?_|refine Plain.map' ?_|refine cu _ _ _ λ_ _=>?_|refine df _ _ _ λ_ _=>?_|refine di _ _ λ_=>?_|refine Plain.ite (λ_=>?_) (λ_=>?_)|refine bZ _ (λ_ _=>?_) _ _)|exact DZ _ _ (by first|exact List.mem_cons_self|exact List.mem_cons_of_mem _ List.mem_cons_self) rfl|split|dsimp only)
theorem Db(x0:Array Go.TypeId)(x1:Go.TypeId)(x2:Array Go.Value):Plain kn (Go.Builtin.copy_ x0 x1 x2:Go.Sem Go.Value):=by
 unfold Go.Builtin.copy_;repeat' (first|(with_reducible first|apply aA|apply aT|apply uV|apply dV|apply p9|apply pF|apply aP|refine Plain.obj λ_=>?_|refine Plain.bind' ?_ λ_=>?_|refine Plain.map' ?_|refine cu _ _ _ λ_ _=>?_|refine df _ _ _ λ_ _=>?_|refine di _ _ λ_=>?_|refine Plain.ite (λ_=>?_) (λ_=>?_)|refine bZ _ (λ_ _=>?_) _ _)|split|dsimp only)
theorem Ag(x0:Array Go.TypeId)(x1:Go.TypeId)(x2:Array Go.Value):Plain kn (Go.Builtin.delete_ x0 x1 x2:Go.Sem Go.Value):=by
 unfold Go.Builtin.delete_;repeat' (first|(with_reducible first|apply aA|apply aT|apply oq|apply iO|apply pK|apply aP|refine Plain.obj λ_=>?_|refine Plain.bind' ?_ λ_=>?_|refine Plain.map' ?_|refine cu _ _ _ λ_ _=>?_|refine df _ _ _ λ_ _=>?_|refine di _ _ λ_=>?_|refine Plain.ite (λ_=>?_) (λ_=>?_)|refine bZ _ (λ_ _=>?_) _ _)|exact DZ _ _ (by first|exact List.mem_cons_self|exact List.mem_cons_of_mem _ List.mem_cons_self) rfl|split|dsimp only)
theorem Ef(x0:Array Go.TypeId)(x1:Go.TypeId)(x2:Array Go.Value):Plain kn (Go.Builtin.len_ x0 x1 x2:Go.Sem Go.Value):=by
 unfold Go.Builtin.len_;repeat' (first|(with_reducible first|apply aA|apply aT|apply aP|apply iO|refine Plain.obj λ_=>?_|refine Plain.bind' ?_ λ_=>?_|refine Plain.map' ?_|refine cu _ _ _ λ_ _=>?_|refine df _ _ _ λ_ _=>?_|refine di _ _ λ_=>?_|refine Plain.ite (λ_=>?_) (λ_=>?_)|refine bZ _ (λ_ _=>?_) _ _)|split|dsimp only)
theorem Eg(x0:Go.Value)(x1:Go.Value):Plain kn (Go.Builtin.max2 x0 x1:Go.Sem Go.Value):=by
 unfold Go.Builtin.max2;repeat' (first|(with_reducible first|apply aA|apply fB|apply rJ|apply vY|apply aU|apply aP|refine Plain.obj λ_=>?_|refine Plain.bind' ?_ λ_=>?_|refine Plain.map' ?_|refine cu _ _ _ λ_ _=>?_|refine df _ _ _ λ_ _=>?_|refine di _ _ λ_=>?_|refine Plain.ite (λ_=>?_) (λ_=>?_)|refine bZ _ (λ_ _=>?_) _ _)|split|dsimp only)
theorem Eh(x0:Array Go.TypeId)(x1:Go.TypeId)(x2:Array Go.Value):Plain kn (Go.Builtin.max_ x0 x1 x2:Go.Sem Go.Value):=by
 unfold Go.Builtin.max_;repeat' (first|(with_reducible first|apply aA|apply aP|apply Eg|refine Plain.obj λ_=>?_|refine Plain.bind' ?_ λ_=>?_|refine Plain.map' ?_|refine cu _ _ _ λ_ _=>?_|refine df _ _ _ λ_ _=>?_|refine di _ _ λ_=>?_|refine Plain.ite (λ_=>?_) (λ_=>?_)|refine bZ _ (λ_ _=>?_) _ _)|split|dsimp only)
theorem Ei(x0:Go.Value)(x1:Go.Value):Plain kn (Go.Builtin.min2 x0 x1:Go.Sem Go.Value):=by
 unfold Go.Builtin.min2;repeat' (first|(with_reducible first|apply aA|apply fB|apply rJ|apply vY|apply aU|apply aP|refine Plain.obj λ_=>?_|refine Plain.bind' ?_ λ_=>?_|refine Plain.map' ?_|refine cu _ _ _ λ_ _=>?_|refine df _ _ _ λ_ _=>?_|refine di _ _ λ_=>?_|refine Plain.ite (λ_=>?_) (λ_=>?_)|refine bZ _ (λ_ _=>?_) _ _)|split|dsimp only)
theorem Ej(x0:Array Go.TypeId)(x1:Go.TypeId)(x2:Array Go.Value):Plain kn (Go.Builtin.min_ x0 x1 x2:Go.Sem Go.Value):=by
 unfold Go.Builtin.min_;repeat' (first|(with_reducible first|apply aA|apply aP|apply Ei|refine Plain.obj λ_=>?_|refine Plain.bind' ?_ λ_=>?_|refine Plain.map' ?_|refine cu _ _ _ λ_ _=>?_|refine df _ _ _ λ_ _=>?_|refine di _ _ λ_=>?_|refine Plain.ite (λ_=>?_) (λ_=>?_)|refine bZ _ (λ_ _=>?_) _ _)|split|dsimp only)
theorem El(x0:Go.Func)(x1:Array Go.Value):Plain kn (Go.results x0 x1:Go.Sem Go.Value):=by
 unfold Go.results;repeat' (first|(with_reducible first|apply aA|apply Gz|apply D6|refine Plain.obj λ_=>?_|refine Plain.bind' ?_ λ_=>?_|refine Plain.map' ?_|refine cu _ _ _ λ_ _=>?_|refine df _ _ _ λ_ _=>?_|refine di _ _ λ_=>?_|refine Plain.ite (λ_=>?_) (λ_=>?_)|refine bZ _ (λ_ _=>?_) _ _)|split|dsimp only)
end
end
