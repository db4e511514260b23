/- Lemmas. -/
import Derived.Test.YtignemioillaiaaGreatG03
namespace Go.Proofs.YtignemioillaiaaGreat
set_option maxHeartbeats 8000000
set_option maxRecDepth 100000
open List
section
open Go
section
variable{kn:List Nat}
theorem oW(b:Bool):∀(n:Nat) (t:TypeId) (x:Value),Plain kn (Instr.checkKey b n t x):=by
 intro n;induction n with
 |zero=>intro t x;exact trivial
 |succ n ih =>
  intro t x;unfold Instr.checkKey;repeat' (first|(with_reducible first|apply ih|apply az|apply aU|apply aS|apply iO|apply Ez|apply eB|apply dV|apply u7|apply aP|refine Plain.obj λ_=>?_|refine Plain.bind' ?_ λ_=>?_|refine Plain.map' ?_|refine cu _ _ _ λ_ _=>?_|refine cZ _ _ _ λ_ _=>?_|refine di _ _ λ_=>?_|refine Plain.ite (λ_=>?_) (λ_=>?_)|refine bZ _ (λ_ _=>?_) _ _)|split|dsimp only)
theorem Am(t:TypeId)(v:Value):∀(l:List MapEntry) (i:Nat),Plain kn (Instr.findAsking t v l i):=by
 intro l;induction l with
 |nil=>intro i;exact trivial
 |cons e l ih =>
  intro i;unfold Instr.findAsking;repeat' (first|(with_reducible first|apply ih|apply az|apply CR|refine Plain.obj λ_=>?_|refine Plain.bind' ?_ λ_=>?_|refine Plain.map' ?_|refine cu _ _ _ λ_ _=>?_|refine cZ _ _ _ λ_ _=>?_|refine di _ _ λ_=>?_|refine Plain.ite (λ_=>?_) (λ_=>?_)|refine bZ _ (λ_ _=>?_) _ _)|split|dsimp only)
theorem qd(x0:TypeId)(x1:Value)(x2:List MapEntry):Plain kn (Instr.findKey x0 x1 x2:Sem (Option (Nat×Value))):=by
 unfold Instr.findKey;repeat' (first|(with_reducible first|apply az|apply aS|apply Am|refine Plain.obj λ_=>?_|refine Plain.bind' ?_ λ_=>?_|refine Plain.map' ?_|refine cu _ _ _ λ_ _=>?_|refine cZ _ _ _ λ_ _=>?_|refine di _ _ λ_=>?_|refine Plain.ite (λ_=>?_) (λ_=>?_)|refine bZ _ (λ_ _=>?_) _ _)|split|dsimp only)
theorem EB(x0:TypeId)(x1:Value)(x2:Value)(x3:Bool):Plain kn (Instr.lookup x0 x1 x2 x3:Sem Value):=by
 unfold Instr.lookup;repeat' (first|(with_reducible first|apply az|apply aS|apply oW|apply qd|apply jS|apply iV|apply aP|refine Plain.obj λ_=>?_|refine Plain.bind' ?_ λ_=>?_|refine Plain.map' ?_|refine cu _ _ _ λ_ _=>?_|refine cZ _ _ _ λ_ _=>?_|refine di _ _ λ_=>?_|refine Plain.ite (λ_=>?_) (λ_=>?_)|refine bZ _ (λ_ _=>?_) _ _)|split|dsimp only)
theorem yf(x0:Value)(x1:Value):Plain kn (Instr.keyThatStays x0 x1:Sem Value):=by
 unfold Instr.keyThatStays;repeat' (first|(with_reducible first|apply az|apply fJ|refine Plain.obj λ_=>?_|refine Plain.bind' ?_ λ_=>?_|refine Plain.map' ?_|refine cu _ _ _ λ_ _=>?_|refine cZ _ _ _ λ_ _=>?_|refine di _ _ λ_=>?_|refine Plain.ite (λ_=>?_) (λ_=>?_)|refine bZ _ (λ_ _=>?_) _ _)|split|dsimp only)
theorem Az(x0:TypeId)(x1:Value)(x2:Value)(x3:Value):Plain kn (Instr.mapUpdate x0 x1 x2 x3:Sem Unit):=by
 unfold Instr.mapUpdate;repeat' (first|(with_reducible first|apply az|apply aS|apply eB|apply iV|apply oW|apply qd|apply yf|apply aP|refine Plain.obj λ_=>?_|refine Plain.bind' ?_ λ_=>?_|refine Plain.map' ?_|refine cu _ _ _ λ_ _=>?_|refine cZ _ _ _ λ_ _=>?_|refine di _ _ λ_=>?_|refine Plain.ite (λ_=>?_) (λ_=>?_)|refine bZ _ (λ_ _=>?_) _ _)|exact Et _ _ (by first|exact mem_cons_self|exact mem_cons_of_mem _ mem_cons_self) rfl|split|dsimp only)
theorem Gt(x0:TypeId)(x1:Value):Plain kn (Instr.range x0 x1):=by
 unfold Instr.range;refine Plain.bind' (aS _) λd=>?_
 split
 ·exact⟨rfl,λ_=>trivial⟩
 ·exact⟨rfl,λ_=>trivial⟩
 ·intro o
  cases o<;>first|exact trivial|exact⟨rfl,λ_=>trivial⟩
 ·exact trivial
theorem I7(x0:Value)(x1:Bool)(x2:TypeId):Plain kn (Instr.next x0 x1 x2:Sem Value):=by
 unfold Instr.next;repeat' (first|(with_reducible first|apply az|apply iV|apply fJ|apply aP|apply aU|refine Plain.obj λ_=>?_|refine Plain.bind' ?_ λ_=>?_|refine Plain.map' ?_|refine cu _ _ _ λ_ _=>?_|refine cZ _ _ _ λ_ _=>?_|refine di _ _ λ_=>?_|refine Plain.ite (λ_=>?_) (λ_=>?_)|refine bZ _ (λ_ _=>?_) _ _)|exact Et _ _ (by first|exact mem_cons_self|exact mem_cons_of_mem _ mem_cons_self) rfl|split|dsimp only)
theorem Gu(x0:Value):Plain kn (Instr.entry x0:Sem Value):=by
 unfold Instr.entry;repeat' (first|(with_reducible first|apply az|apply iV|apply aU|apply aP|refine Plain.obj λ_=>?_|refine Plain.bind' ?_ λ_=>?_|refine Plain.map' ?_|refine cu _ _ _ λ_ _=>?_|refine cZ _ _ _ λ_ _=>?_|refine di _ _ λ_=>?_|refine Plain.ite (λ_=>?_) (λ_=>?_)|refine bZ _ (λ_ _=>?_) _ _)|split|dsimp only)
theorem xJ(x0:TypeId)(x1:Value):Plain kn (Instr.makeInterface x0 x1:Sem Value):=by
 unfold Instr.makeInterface;repeat' (first|(with_reducible first|apply az|apply aS|apply aP|refine Plain.obj λ_=>?_|refine Plain.bind' ?_ λ_=>?_|refine Plain.map' ?_|refine cu _ _ _ λ_ _=>?_|refine cZ _ _ _ λ_ _=>?_|refine di _ _ λ_=>?_|refine Plain.ite (λ_=>?_) (λ_=>?_)|refine bZ _ (λ_ _=>?_) _ _)|split|dsimp only)
theorem CJ(x0:Go.Fn)(x1:Array Value)(x2:Array Value):Plain kn (Instr.makeFunc x0 x1 x2:Sem Value):=by
 unfold Instr.makeFunc;repeat' (first|(with_reducible first|apply az|refine Plain.obj λ_=>?_|refine Plain.bind' ?_ λ_=>?_|refine Plain.map' ?_|refine cu _ _ _ λ_ _=>?_|refine cZ _ _ _ λ_ _=>?_|refine di _ _ λ_=>?_|refine Plain.ite (λ_=>?_) (λ_=>?_)|refine bZ _ (λ_ _=>?_) _ _)|split|dsimp only)
theorem Dz(x0:TypeId)(x1:Option Value):Plain kn (Instr.makeMap x0 x1:Sem Value):=by
 unfold Instr.makeMap;repeat' (first|((with_reducible refine wJ _ ?_);rfl)|(with_reducible first|apply az|apply aS|apply vE|apply aP|refine Plain.obj λ_=>?_|refine Plain.bind' ?_ λ_=>?_|refine Plain.map' ?_|refine cu _ _ _ λ_ _=>?_|refine cZ _ _ _ λ_ _=>?_|refine di _ _ λ_=>?_|refine Plain.ite (λ_=>?_) (λ_=>?_)|refine bZ _ (λ_ _=>?_) _ _)|split|dsimp only)
theorem EC(n:Nat):Plain kn (askRoom n):=by
 unfold askRoom;split
 ·exact Hq
 ·exact trivial
theorem AA(x0:TypeId)(x1:Value)(x2:Value):Plain kn (Instr.makeSlice x0 x1 x2:Sem Value):=by
 unfold Instr.makeSlice;repeat' (first|(with_reducible first|apply az|apply aS|apply vE|apply iO|apply EC|apply dV|apply qy|apply jS|apply eB|apply fJ|apply aP|refine Plain.obj λ_=>?_|refine Plain.bind' ?_ λ_=>?_|refine Plain.map' ?_|refine cu _ _ _ λ_ _=>?_|refine cZ _ _ _ λ_ _=>?_|refine di _ _ λ_=>?_|refine Plain.ite (λ_=>?_) (λ_=>?_)|refine bZ _ (λ_ _=>?_) _ _)|split|dsimp only)
theorem DC(x0:Value)(x1:Nat):Plain kn (Instr.extract x0 x1:Sem Value):=by
 unfold Instr.extract;repeat' (first|(with_reducible first|apply az|apply aP|refine Plain.obj λ_=>?_|refine Plain.bind' ?_ λ_=>?_|refine Plain.map' ?_|refine cu _ _ _ λ_ _=>?_|refine cZ _ _ _ λ_ _=>?_|refine di _ _ λ_=>?_|refine Plain.ite (λ_=>?_) (λ_=>?_)|refine bZ _ (λ_ _=>?_) _ _)|split|dsimp only)
theorem qA(x0:Nat)(x1:Nat)(x2:Value):Plain kn (Builtin.firstCells x0 x1 x2:Sem (Array Value)):=by
 unfold Builtin.firstCells;repeat' (first|(with_reducible first|apply az|apply qP|apply aP|refine Plain.obj λ_=>?_|refine Plain.bind' ?_ λ_=>?_|refine Plain.map' ?_|refine cu _ _ _ λ_ _=>?_|refine cZ _ _ _ λ_ _=>?_|refine di _ _ λ_=>?_|refine Plain.ite (λ_=>?_) (λ_=>?_)|refine bZ _ (λ_ _=>?_) _ _)|split|dsimp only)
theorem yg(x0:Addr)(x1:Nat):Plain kn (Builtin.holdsCells x0 x1:Sem Bool):=by
 unfold Builtin.holdsCells;repeat' (first|(with_reducible first|apply az|apply iK|refine Plain.obj λ_=>?_|refine Plain.bind' ?_ λ_=>?_|refine Plain.map' ?_|refine cu _ _ _ λ_ _=>?_|refine cZ _ _ _ λ_ _=>?_|refine di _ _ λ_=>?_|refine Plain.ite (λ_=>?_) (λ_=>?_)|refine bZ _ (λ_ _=>?_) _ _)|split|dsimp only)
theorem Ao(x0:Nat)(x1:Nat)(x2:Nat)(x3:Option Addr)(x4:Value):Plain kn (Builtin.mayShare x0 x1 x2 x3 x4:Sem Bool):=by
 unfold Builtin.mayShare;repeat' (first|(with_reducible first|apply az|apply yg|apply wM|refine Plain.obj λ_=>?_|refine Plain.bind' ?_ λ_=>?_|refine Plain.map' ?_|refine cu _ _ _ λ_ _=>?_|refine cZ _ _ _ λ_ _=>?_|refine di _ _ λ_=>?_|refine Plain.ite (λ_=>?_) (λ_=>?_)|refine bZ _ (λ_ _=>?_) _ _)|split|dsimp only)
theorem vH(x0:Value):Plain kn (Builtin.lenOf x0:Sem Nat):=by
 unfold Builtin.lenOf;repeat' (first|(with_reducible first|apply az|apply aP|refine Plain.obj λ_=>?_|refine Plain.bind' ?_ λ_=>?_|refine Plain.map' ?_|refine cu _ _ _ λ_ _=>?_|refine cZ _ _ _ λ_ _=>?_|refine di _ _ λ_=>?_|refine Plain.ite (λ_=>?_) (λ_=>?_)|refine bZ _ (λ_ _=>?_) _ _)|split|dsimp only)
theorem AB(x0:Array TypeId)(x1:TypeId)(x2:Array Value):Plain kn (Builtin.append_ x0 x1 x2:Sem Value):=by
 unfold Builtin.append_;repeat' (first|(with_reducible first|apply az|apply aS|apply dV|apply qA|apply jS|apply pX|apply iO|apply fJ|apply EC|apply qy|apply eB|apply Ao|apply aU|apply vE|apply vH|apply aP|apply Hq|refine Plain.obj λ_=>?_|refine Plain.bind' ?_ λ_=>?_|refine Plain.map' ?_|refine cu _ _ _ λ_ _=>?_|refine cZ _ _ _ λ_ _=>?_|refine di _ _ λ_=>?_|refine Plain.ite (λ_=>?_) (λ_=>?_)|refine bZ _ (λ_ _=>?_) _ _)|split|dsimp only)
theorem ED(x0:Array TypeId)(x1:TypeId)(x2:Array Value):Plain kn (Builtin.cap_ x0 x1 x2:Sem Value):=by
 unfold Builtin.cap_;repeat' (first|(with_reducible first|apply az|apply aS|apply aP|apply iV|refine Plain.obj λ_=>?_|refine Plain.bind' ?_ λ_=>?_|refine Plain.map' ?_|refine cu _ _ _ λ_ _=>?_|refine cZ _ _ _ λ_ _=>?_|refine di _ _ λ_=>?_|refine Plain.ite (λ_=>?_) (λ_=>?_)|refine bZ _ (λ_ _=>?_) _ _)|split|dsimp only)
theorem CK(x0:Array TypeId)(x1:TypeId)(x2:Array Value):Plain kn (Builtin.clear_ x0 x1 x2:Sem Value):=by
 unfold Builtin.clear_;repeat' (first|(with_reducible first|apply az|apply aS|apply iV|apply aP|apply jS|apply pX|refine Plain.obj λ_=>?_|refine Plain.bind' ?_ λ_=>?_|refine Plain.map' ?_|refine cu _ _ _ λ_ _=>?_|refine cZ _ _ _ λ_ _=>?_|refine di _ _ λ_=>?_|refine Plain.ite (λ_=>?_) (λ_=>?_)|refine bZ _ (λ_ _=>?_) _ _)|exact Et _ _ (by first|exact mem_cons_self|exact mem_cons_of_mem _ mem_cons_self) rfl|split|dsimp only)
theorem DD(x0:Array TypeId)(x1:TypeId)(x2:Array Value):Plain kn (Builtin.copy_ x0 x1 x2:Sem Value):=by
 unfold Builtin.copy_;repeat' (first|(with_reducible first|apply az|apply aS|apply vH|apply dV|apply qA|apply pX|apply aP|refine Plain.obj λ_=>?_|refine Plain.bind' ?_ λ_=>?_|refine Plain.map' ?_|refine cu _ _ _ λ_ _=>?_|refine cZ _ _ _ λ_ _=>?_|refine di _ _ λ_=>?_|refine Plain.ite (λ_=>?_) (λ_=>?_)|refine bZ _ (λ_ _=>?_) _ _)|split|dsimp only)
theorem AJ(x0:Array TypeId)(x1:TypeId)(x2:Array Value):Plain kn (Builtin.delete_ x0 x1 x2:Sem Value):=by
 unfold Builtin.delete_;repeat' (first|(with_reducible first|apply az|apply aS|apply oW|apply iV|apply qd|apply aP|refine Plain.obj λ_=>?_|refine Plain.bind' ?_ λ_=>?_|refine Plain.map' ?_|refine cu _ _ _ λ_ _=>?_|refine cZ _ _ _ λ_ _=>?_|refine di _ _ λ_=>?_|refine Plain.ite (λ_=>?_) (λ_=>?_)|refine bZ _ (λ_ _=>?_) _ _)|exact Et _ _ (by first|exact mem_cons_self|exact mem_cons_of_mem _ mem_cons_self) rfl|split|dsimp only)
theorem EE(x0:Array TypeId)(x1:TypeId)(x2:Array Value):Plain kn (Builtin.len_ x0 x1 x2:Sem Value):=by
 unfold Builtin.len_;repeat' (first|(with_reducible first|apply az|apply aS|apply aP|apply iV|refine Plain.obj λ_=>?_|refine Plain.bind' ?_ λ_=>?_|refine Plain.map' ?_|refine cu _ _ _ λ_ _=>?_|refine cZ _ _ _ λ_ _=>?_|refine di _ _ λ_=>?_|refine Plain.ite (λ_=>?_) (λ_=>?_)|refine bZ _ (λ_ _=>?_) _ _)|split|dsimp only)
theorem EF(x0:Value)(x1:Value):Plain kn (Builtin.max2 x0 x1:Sem Value):=by
 unfold Builtin.max2;repeat' (first|(with_reducible first|apply az|apply fJ|apply sG|apply wK|apply aU|apply aP|refine Plain.obj λ_=>?_|refine Plain.bind' ?_ λ_=>?_|refine Plain.map' ?_|refine cu _ _ _ λ_ _=>?_|refine cZ _ _ _ λ_ _=>?_|refine di _ _ λ_=>?_|refine Plain.ite (λ_=>?_) (λ_=>?_)|refine bZ _ (λ_ _=>?_) _ _)|split|dsimp only)
theorem EG(x0:Array TypeId)(x1:TypeId)(x2:Array Value):Plain kn (Builtin.max_ x0 x1 x2:Sem Value):=by
 unfold Builtin.max_;repeat' (first|(with_reducible first|apply az|apply aP|apply EF|refine Plain.obj λ_=>?_|refine Plain.bind' ?_ λ_=>?_|refine Plain.map' ?_|refine cu _ _ _ λ_ _=>?_|refine cZ _ _ _ λ_ _=>?_|refine di _ _ λ_=>?_|refine Plain.ite (λ_=>?_) (λ_=>?_)|refine bZ _ (λ_ _=>?_) _ _)|split|dsimp only)
theorem EH(x0:Value)(x1:Value):Plain kn (Builtin.min2 x0 x1:Sem Value):=by
 unfold Builtin.min2;repeat' (first|(with_reducible first|apply az|apply fJ|apply sG|apply wK|apply aU|apply aP|refine Plain.obj λ_=>?_|refine Plain.bind' ?_ λ_=>?_|refine Plain.map' ?_|refine cu _ _ _ λ_ _=>?_|refine cZ _ _ _ λ_ _=>?_|refine di _ _ λ_=>?_|refine Plain.ite (λ_=>?_) (λ_=>?_)|refine bZ _ (λ_ _=>?_) _ _)|split|dsimp only)
theorem EI(x0:Array TypeId)(x1:TypeId)(x2:Array Value):Plain kn (Builtin.min_ x0 x1 x2:Sem Value):=by
 unfold Builtin.min_;repeat' (first|(with_reducible first|apply az|apply aP|apply EH|refine Plain.obj λ_=>?_|refine Plain.bind' ?_ λ_=>?_|refine Plain.map' ?_|refine cu _ _ _ λ_ _=>?_|refine cZ _ _ _ λ_ _=>?_|refine di _ _ λ_=>?_|refine Plain.ite (λ_=>?_) (λ_=>?_)|refine bZ _ (λ_ _=>?_) _ _)|split|dsimp only)
theorem EJ(x0:Go.Func)(x1:Array Value):Plain kn (Go.results x0 x1:Sem Value):=by
 unfold Go.results;repeat' (first|(with_reducible first|apply az|apply Hr|apply Eu|refine Plain.obj λ_=>?_|refine Plain.bind' ?_ λ_=>?_|refine Plain.map' ?_|refine cu _ _ _ λ_ _=>?_|refine cZ _ _ _ λ_ _=>?_|refine di _ _ λ_=>?_|refine Plain.ite (λ_=>?_) (λ_=>?_)|refine bZ _ (λ_ _=>?_) _ _)|split|dsimp only)
end
end
