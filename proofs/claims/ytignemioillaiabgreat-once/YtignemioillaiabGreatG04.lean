/- Lemmas. -/
import Derived.Test.YtignemioillaiabGreatG03
namespace Go.Proofs.YtignemioillaiabGreat
set_option maxHeartbeats 8000000
set_option maxRecDepth 100000
open List
section
open Go
section
variable{kn:List Nat}
theorem pQ(b:Bool):∀(n:Nat) (t:TypeId) (x:Value),Plain kn (Instr.checkKey b n t x):=by
 intro n;induction n with
 |zero=>intro t x;exact trivial
 |succ n ih =>
  intro t x;unfold Instr.checkKey;repeat' (first|with_reducible first|apply ih|apply az|apply aT|apply aQ|apply iX|apply FM|apply eB|apply dY|apply wu|apply aN|refine Plain.obj λ_=>?_|refine Plain.bind' ?_ λ_=>?_|refine Plain.map' ?_|refine bZ _ _ _ λ_ _=>?_|refine df _ _ _ λ_ _=>?_|refine di _ _ λ_=>?_|refine Plain.ite (λ_=>?_) (λ_=>?_)|refine bY _ (λ_ _=>?_) _ _|split)
theorem Br(t:TypeId)(v:Value):∀(l:List MapEntry) (i:Nat),Plain kn (Instr.findAsking t v l i):=by
 intro l;induction l with
 |nil=>intro i;exact trivial
 |cons e l ih =>
  intro i;unfold Instr.findAsking;repeat' (with_reducible first|apply ih|apply az|apply D7|refine Plain.obj λ_=>?_|refine Plain.bind' ?_ λ_=>?_|refine Plain.map' ?_|refine bZ _ _ _ λ_ _=>?_|refine df _ _ _ λ_ _=>?_|refine di _ _ λ_=>?_|refine Plain.ite (λ_=>?_) (λ_=>?_)|refine bY _ (λ_ _=>?_) _ _)
theorem qK(x0:TypeId)(x1:Value)(x2:List MapEntry):Plain kn (Instr.findKey x0 x1 x2:Sem (Option (Nat×Value))):=by
 unfold Instr.findKey;repeat' (first|with_reducible first|apply az|apply aQ|apply Br|refine Plain.obj λ_=>?_|refine Plain.bind' ?_ λ_=>?_|refine Plain.map' ?_|refine bZ _ _ _ λ_ _=>?_|refine df _ _ _ λ_ _=>?_|refine di _ _ λ_=>?_|refine Plain.ite (λ_=>?_) (λ_=>?_)|refine bY _ (λ_ _=>?_) _ _|split)
theorem FO(x0:TypeId)(x1:Value)(x2:Value)(x3:Bool):Plain kn (Instr.lookup x0 x1 x2 x3:Sem Value):=by
 unfold Instr.lookup;repeat' (first|with_reducible first|apply az|apply aQ|apply pQ|apply qK|apply jY|apply jd|apply aN|refine Plain.obj λ_=>?_|refine Plain.bind' ?_ λ_=>?_|refine Plain.map' ?_|refine bZ _ _ _ λ_ _=>?_|refine df _ _ _ λ_ _=>?_|refine di _ _ λ_=>?_|refine Plain.ite (λ_=>?_) (λ_=>?_)|refine bY _ (λ_ _=>?_) _ _|split)
theorem yU(x0:Value)(x1:Value):Plain kn (Instr.keyThatStays x0 x1:Sem Value):=by
 unfold Instr.keyThatStays;repeat' (with_reducible first|apply az|apply fH|refine Plain.obj λ_=>?_|refine Plain.bind' ?_ λ_=>?_|refine Plain.map' ?_|refine bZ _ _ _ λ_ _=>?_|refine df _ _ _ λ_ _=>?_|refine di _ _ λ_=>?_|refine Plain.ite (λ_=>?_) (λ_=>?_)|refine bY _ (λ_ _=>?_) _ _)
theorem BF(x0:TypeId)(x1:Value)(x2:Value)(x3:Value):Plain kn (Instr.mapUpdate x0 x1 x2 x3:Sem Unit):=by
 unfold Instr.mapUpdate;repeat' (first|(with_reducible first|apply az|apply aQ|apply eB|apply jd|apply pQ|apply qK|apply yU|apply aN|refine Plain.obj λ_=>?_|refine Plain.bind' ?_ λ_=>?_|refine Plain.map' ?_|refine bZ _ _ _ λ_ _=>?_|refine df _ _ _ λ_ _=>?_|refine di _ _ λ_=>?_|refine Plain.ite (λ_=>?_) (λ_=>?_)|refine bY _ (λ_ _=>?_) _ _)|exact FE _ _ (by first|exact Jb4|exact Jb2 _ Jb4) rfl|split|dsimp only)
theorem Iq(x0:TypeId)(x1:Value):Plain kn (Instr.range x0 x1):=by
 unfold Instr.range;refine Plain.bind' (aQ _) λd=>?_
 split
 .exact⟨rfl,λ_=>trivial⟩
 .exact⟨rfl,λ_=>trivial⟩
 .intro o
  cases o<;>first|exact trivial|exact⟨rfl,λ_=>trivial⟩
 .exact trivial
theorem Kh(x0:Value)(x1:Bool)(x2:TypeId):Plain kn (Instr.next x0 x1 x2:Sem Value):=by
 unfold Instr.next;repeat' (first|(with_reducible first|apply az|apply jd|apply fH|apply aN|apply aT|refine Plain.obj λ_=>?_|refine Plain.bind' ?_ λ_=>?_|refine Plain.map' ?_|refine bZ _ _ _ λ_ _=>?_|refine df _ _ _ λ_ _=>?_|refine di _ _ λ_=>?_|refine Plain.ite (λ_=>?_) (λ_=>?_)|refine bY _ (λ_ _=>?_) _ _)|exact FE _ _ (by first|exact Jb4|exact Jb2 _ Jb4) rfl|split|dsimp only)
theorem Ir(x0:Value):Plain kn (Instr.entry x0:Sem Value):=by
 unfold Instr.entry;repeat' (first|with_reducible first|apply az|apply jd|apply aT|apply aN|refine Plain.obj λ_=>?_|refine Plain.bind' ?_ λ_=>?_|refine Plain.map' ?_|refine bZ _ _ _ λ_ _=>?_|refine df _ _ _ λ_ _=>?_|refine di _ _ λ_=>?_|refine Plain.ite (λ_=>?_) (λ_=>?_)|refine bY _ (λ_ _=>?_) _ _|split)
theorem yw(x0:TypeId)(x1:Value):Plain kn (Instr.makeInterface x0 x1:Sem Value):=by
 unfold Instr.makeInterface;repeat' (first|with_reducible first|apply az|apply aQ|apply aN|refine Plain.obj λ_=>?_|refine Plain.bind' ?_ λ_=>?_|refine Plain.map' ?_|refine bZ _ _ _ λ_ _=>?_|refine df _ _ _ λ_ _=>?_|refine di _ _ λ_=>?_|refine Plain.ite (λ_=>?_) (λ_=>?_)|refine bY _ (λ_ _=>?_) _ _|split)
theorem DU(x0:Go.Fn)(x1:Array Value)(x2:Array Value):Plain kn (Instr.makeFunc x0 x1 x2:Sem Value):=by
 unfold Instr.makeFunc;repeat' (with_reducible first|apply az|refine Plain.obj λ_=>?_|refine Plain.bind' ?_ λ_=>?_|refine Plain.map' ?_|refine bZ _ _ _ λ_ _=>?_|refine df _ _ _ λ_ _=>?_|refine di _ _ λ_=>?_|refine Plain.ite (λ_=>?_) (λ_=>?_)|refine bY _ (λ_ _=>?_) _ _)
theorem EE(x0:TypeId)(x1:Option Value):Plain kn (Instr.makeMap x0 x1:Sem Value):=by
 unfold Instr.makeMap;repeat' (first|((with_reducible refine xw _ ?_);rfl)|with_reducible first|apply az|apply aQ|apply wG|apply aN|refine Plain.obj λ_=>?_|refine Plain.bind' ?_ λ_=>?_|refine Plain.map' ?_|refine bZ _ _ _ λ_ _=>?_|refine df _ _ _ λ_ _=>?_|refine di _ _ λ_=>?_|refine Plain.ite (λ_=>?_) (λ_=>?_)|refine bY _ (λ_ _=>?_) _ _|split)
theorem FP(n:Nat):Plain kn (askRoom n):=by
 unfold askRoom;split
 .exact Jf
 .exact trivial
theorem BG(x0:TypeId)(x1:Value)(x2:Value):Plain kn (Instr.makeSlice x0 x1 x2:Sem Value):=by
 unfold Instr.makeSlice;repeat' (first|with_reducible first|apply az|apply aQ|apply wG|apply iX|apply FP|apply dY|apply qV|apply jY|apply eB|apply fH|apply aN|refine Plain.obj λ_=>?_|refine Plain.bind' ?_ λ_=>?_|refine Plain.map' ?_|refine bZ _ _ _ λ_ _=>?_|refine df _ _ _ λ_ _=>?_|refine di _ _ λ_=>?_|refine Plain.ite (λ_=>?_) (λ_=>?_)|refine bY _ (λ_ _=>?_) _ _|split)
theorem EF(x0:Value)(x1:Nat):Plain kn (Instr.extract x0 x1:Sem Value):=by
 unfold Instr.extract;repeat' (first|with_reducible first|apply az|apply aN|refine Plain.obj λ_=>?_|refine Plain.bind' ?_ λ_=>?_|refine Plain.map' ?_|refine bZ _ _ _ λ_ _=>?_|refine df _ _ _ λ_ _=>?_|refine di _ _ λ_=>?_|refine Plain.ite (λ_=>?_) (λ_=>?_)|refine bY _ (λ_ _=>?_) _ _|split)
theorem qX(x0:Nat)(x1:Nat)(x2:Value):Plain kn (Builtin.firstCells x0 x1 x2:Sem (Array Value)):=by
 unfold Builtin.firstCells;repeat' (first|with_reducible first|apply az|apply rF|apply aN|refine Plain.obj λ_=>?_|refine Plain.bind' ?_ λ_=>?_|refine Plain.map' ?_|refine bZ _ _ _ λ_ _=>?_|refine df _ _ _ λ_ _=>?_|refine di _ _ λ_=>?_|refine Plain.ite (λ_=>?_) (λ_=>?_)|refine bY _ (λ_ _=>?_) _ _|split)
theorem yV(x0:Addr)(x1:Nat):Plain kn (Builtin.holdsCells x0 x1:Sem Bool):=by
 unfold Builtin.holdsCells;repeat' (first|with_reducible first|apply az|apply iR|refine Plain.obj λ_=>?_|refine Plain.bind' ?_ λ_=>?_|refine Plain.map' ?_|refine bZ _ _ _ λ_ _=>?_|refine df _ _ _ λ_ _=>?_|refine di _ _ λ_=>?_|refine Plain.ite (λ_=>?_) (λ_=>?_)|refine bY _ (λ_ _=>?_) _ _|split)
theorem Bt(x0:Nat)(x1:Nat)(x2:Nat)(x3:Option Addr)(x4:Value):Plain kn (Builtin.mayShare x0 x1 x2 x3 x4:Sem Bool):=by
 unfold Builtin.mayShare;repeat' (first|with_reducible first|apply az|apply yV|apply xz|refine Plain.obj λ_=>?_|refine Plain.bind' ?_ λ_=>?_|refine Plain.map' ?_|refine bZ _ _ _ λ_ _=>?_|refine df _ _ _ λ_ _=>?_|refine di _ _ λ_=>?_|refine Plain.ite (λ_=>?_) (λ_=>?_)|refine bY _ (λ_ _=>?_) _ _|split)
theorem wJ(x0:Value):Plain kn (Builtin.lenOf x0:Sem Nat):=by
 unfold Builtin.lenOf;repeat' (first|with_reducible first|apply az|apply aN|refine Plain.obj λ_=>?_|refine Plain.bind' ?_ λ_=>?_|refine Plain.map' ?_|refine bZ _ _ _ λ_ _=>?_|refine df _ _ _ λ_ _=>?_|refine di _ _ λ_=>?_|refine Plain.ite (λ_=>?_) (λ_=>?_)|refine bY _ (λ_ _=>?_) _ _|split)
theorem BH(x0:Array TypeId)(x1:TypeId)(x2:Array Value):Plain kn (Builtin.append_ x0 x1 x2:Sem Value):=by
 unfold Builtin.append_;repeat' (first|with_reducible first|apply az|apply aQ|apply dY|apply qX|apply jY|apply qD|apply iX|apply fH|apply FP|apply qV|apply eB|apply Bt|apply aT|apply wG|apply wJ|apply aN|apply Jf|refine Plain.obj λ_=>?_|refine Plain.bind' ?_ λ_=>?_|refine Plain.map' ?_|refine bZ _ _ _ λ_ _=>?_|refine df _ _ _ λ_ _=>?_|refine di _ _ λ_=>?_|refine Plain.ite (λ_=>?_) (λ_=>?_)|refine bY _ (λ_ _=>?_) _ _|split)
theorem FQ(x0:Array TypeId)(x1:TypeId)(x2:Array Value):Plain kn (Builtin.cap_ x0 x1 x2:Sem Value):=by
 unfold Builtin.cap_;repeat' (first|with_reducible first|apply az|apply aQ|apply aN|apply jd|refine Plain.obj λ_=>?_|refine Plain.bind' ?_ λ_=>?_|refine Plain.map' ?_|refine bZ _ _ _ λ_ _=>?_|refine df _ _ _ λ_ _=>?_|refine di _ _ λ_=>?_|refine Plain.ite (λ_=>?_) (λ_=>?_)|refine bY _ (λ_ _=>?_) _ _|split)
theorem DV(x0:Array TypeId)(x1:TypeId)(x2:Array Value):Plain kn (Builtin.clear_ x0 x1 x2:Sem Value):=by
 unfold Builtin.clear_;repeat' (first|(with_reducible first|apply az|apply aQ|apply jd|apply aN|apply jY|apply qD|refine Plain.obj λ_=>?_|refine Plain.bind' ?_ λ_=>?_|refine Plain.map' ?_|refine bZ _ _ _ λ_ _=>?_|refine df _ _ _ λ_ _=>?_|refine di _ _ λ_=>?_|refine Plain.ite (λ_=>?_) (λ_=>?_)|refine bY _ (λ_ _=>?_) _ _)|exact FE _ _ (by first|exact Jb4|exact Jb2 _ Jb4) rfl|split|dsimp only)
theorem EG(x0:Array TypeId)(x1:TypeId)(x2:Array Value):Plain kn (Builtin.copy_ x0 x1 x2:Sem Value):=by
 unfold Builtin.copy_;repeat' (first|with_reducible first|apply az|apply aQ|apply wJ|apply dY|apply qX|apply qD|apply aN|refine Plain.obj λ_=>?_|refine Plain.bind' ?_ λ_=>?_|refine Plain.map' ?_|refine bZ _ _ _ λ_ _=>?_|refine df _ _ _ λ_ _=>?_|refine di _ _ λ_=>?_|refine Plain.ite (λ_=>?_) (λ_=>?_)|refine bY _ (λ_ _=>?_) _ _|split)
theorem BI(x0:Array TypeId)(x1:TypeId)(x2:Array Value):Plain kn (Builtin.delete_ x0 x1 x2:Sem Value):=by
 unfold Builtin.delete_;repeat' (first|(with_reducible first|apply az|apply aQ|apply pQ|apply jd|apply qK|apply aN|refine Plain.obj λ_=>?_|refine Plain.bind' ?_ λ_=>?_|refine Plain.map' ?_|refine bZ _ _ _ λ_ _=>?_|refine df _ _ _ λ_ _=>?_|refine di _ _ λ_=>?_|refine Plain.ite (λ_=>?_) (λ_=>?_)|refine bY _ (λ_ _=>?_) _ _)|exact FE _ _ (by first|exact Jb4|exact Jb2 _ Jb4) rfl|split|dsimp only)
theorem FR(x0:Array TypeId)(x1:TypeId)(x2:Array Value):Plain kn (Builtin.len_ x0 x1 x2:Sem Value):=by
 unfold Builtin.len_;repeat' (first|with_reducible first|apply az|apply aQ|apply aN|apply jd|refine Plain.obj λ_=>?_|refine Plain.bind' ?_ λ_=>?_|refine Plain.map' ?_|refine bZ _ _ _ λ_ _=>?_|refine df _ _ _ λ_ _=>?_|refine di _ _ λ_=>?_|refine Plain.ite (λ_=>?_) (λ_=>?_)|refine bY _ (λ_ _=>?_) _ _|split)
theorem FT(x0:Value)(x1:Value):Plain kn (Builtin.max2 x0 x1:Sem Value):=by
 unfold Builtin.max2;repeat' (first|with_reducible first|apply az|apply fH|apply tO|apply xx|apply aT|apply aN|refine Plain.obj λ_=>?_|refine Plain.bind' ?_ λ_=>?_|refine Plain.map' ?_|refine bZ _ _ _ λ_ _=>?_|refine df _ _ _ λ_ _=>?_|refine di _ _ λ_=>?_|refine Plain.ite (λ_=>?_) (λ_=>?_)|refine bY _ (λ_ _=>?_) _ _|split)
theorem FU(x0:Array TypeId)(x1:TypeId)(x2:Array Value):Plain kn (Builtin.max_ x0 x1 x2:Sem Value):=by
 unfold Builtin.max_;repeat' (first|with_reducible first|apply az|apply aN|apply FT|refine Plain.obj λ_=>?_|refine Plain.bind' ?_ λ_=>?_|refine Plain.map' ?_|refine bZ _ _ _ λ_ _=>?_|refine df _ _ _ λ_ _=>?_|refine di _ _ λ_=>?_|refine Plain.ite (λ_=>?_) (λ_=>?_)|refine bY _ (λ_ _=>?_) _ _|split)
theorem FV(x0:Value)(x1:Value):Plain kn (Builtin.min2 x0 x1:Sem Value):=by
 unfold Builtin.min2;repeat' (first|with_reducible first|apply az|apply fH|apply tO|apply xx|apply aT|apply aN|refine Plain.obj λ_=>?_|refine Plain.bind' ?_ λ_=>?_|refine Plain.map' ?_|refine bZ _ _ _ λ_ _=>?_|refine df _ _ _ λ_ _=>?_|refine di _ _ λ_=>?_|refine Plain.ite (λ_=>?_) (λ_=>?_)|refine bY _ (λ_ _=>?_) _ _|split)
theorem FX(x0:Array TypeId)(x1:TypeId)(x2:Array Value):Plain kn (Builtin.min_ x0 x1 x2:Sem Value):=by
 unfold Builtin.min_;repeat' (first|with_reducible first|apply az|apply aN|apply FV|refine Plain.obj λ_=>?_|refine Plain.bind' ?_ λ_=>?_|refine Plain.map' ?_|refine bZ _ _ _ λ_ _=>?_|refine df _ _ _ λ_ _=>?_|refine di _ _ λ_=>?_|refine Plain.ite (λ_=>?_) (λ_=>?_)|refine bY _ (λ_ _=>?_) _ _|split)
theorem FY(x0:Go.Func)(x1:Array Value):Plain kn (Go.results x0 x1:Sem Value):=by
 unfold Go.results;repeat' (first|with_reducible first|apply az|apply Jg|apply FI|refine Plain.obj λ_=>?_|refine Plain.bind' ?_ λ_=>?_|refine Plain.map' ?_|refine bZ _ _ _ λ_ _=>?_|refine df _ _ _ λ_ _=>?_|refine di _ _ λ_=>?_|refine Plain.ite (λ_=>?_) (λ_=>?_)|refine bY _ (λ_ _=>?_) _ _|split)
end
end
