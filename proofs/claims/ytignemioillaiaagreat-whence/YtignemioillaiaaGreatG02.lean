/- The operations are plain. -/
import Derived.Test.YtignemioillaiaaGreatG01
namespace Go.Proofs.YtignemioillaiaaGreat
set_option maxHeartbeats 8000000
set_option maxRecDepth 100000
section
open Go
section
variable{kn:List Nat}
theorem Plain.map'{α β:Type}{f:α->β}{s:Sem α}(h:Plain kn s):Plain kn (f <$> s):=by
 rw[map_eq_pure_bind];exact Plain.bind' h λ_=>trivial
theorem L9{α β:Type}(f:α->β->Sem (ForInStep β))(hf:∀a b,Plain kn (f a b)):∀(l:List α) (b:β),Plain kn (forIn l b f):=by
 intro l;induction l with
 |nil=>intro b;exact trivial
 |cons a l ih =>
  intro b;rw[List.forIn_cons];refine Plain.bind' (hf a b) λr=>?_
  cases r with
  |done b=>exact trivial
  |yield b=>exact ih b
theorem cu{α β:Type}(xs:Array α)(b:β)(f:α->β->Sem (ForInStep β))(hf:∀a b,Plain kn (f a b)):Plain kn (forIn xs b f):=by
 rw[<-Array.forIn_toList];exact L9 f hf _ _
theorem df{β:Type}(r:Std.Legacy.Range)(b:β)(f:Nat->β->Sem (ForInStep β))(hf:∀a b,Plain kn (f a b)):Plain kn (forIn r b f):=by
 rw[Std.Legacy.Range.forIn_eq_forIn_range'];exact L9 f hf _ _
theorem di{α β:Type}(xs:Array α)(f:α->Sem β)(hf:∀a,Plain kn (f a)):Plain kn (xs.mapM f):=by
 rw[Array.mapM_eq_mapM_toList];refine Plain.map' ?_;generalize xs.toList=l;induction l with
 |nil=>exact trivial
 |cons a l ih =>
  rw[List.mapM_cons];exact Plain.bind' (hf a) λ_=>Plain.bind' ih λ_=>trivial
theorem aA{α:Type}(a:α):Plain kn (pure a:Sem α):=trivial
theorem Gy:Plain kn (mark .noRoom):=⟨trivial,trivial⟩
theorem Plain.ite{α:Type}{c:Prop}[Decidable c]{a b:Sem α}(h1:c->Plain kn a)(h2:¬c->Plain kn b):Plain kn (if c then a else b):=by
 split
 ·exact h1 ‹_›
 ·exact h2 ‹_›
theorem bZ{α β:Type}(f:β->α->Sem β)(hf:∀b a,Plain kn (f b a)):∀(l:List α) (b:β),Plain kn (List.foldlM f b l):=by
 intro l;induction l with
 |nil=>intro b;exact trivial
 |cons a l ih =>
  intro b;rw[List.foldlM_cons];exact Plain.bind' (hf b a) λ_=>ih _
theorem vX(o:Obj)(h:o.isChan=false):Plain kn (newObj o):=⟨h,λ_=>trivial⟩
theorem DZ(r:Nat)(o:Obj)(h:r∈kn)(ho:o.isChan=false):Plain kn (setObj r o):=⟨h,ho,trivial⟩
theorem fT:Plain kn (Go.program:Go.Sem Go.Program):=λ_=>trivial
theorem aP{α:Type}(x1:String):Plain kn (Go.stuck x1:Go.Sem α):=trivial
theorem iH(x0:Go.TypeId):Plain kn (Go.typeInfo x0:Go.Sem Go.TypeInfo):=by
 unfold Go.typeInfo;repeat' (first|(with_reducible first|apply aA|apply fT|apply aP|refine Plain.bind' ?_ λ_=>?_)|split)
theorem aU{α:Type}(x1:Go.Unsupported):Plain kn (Go.unsupported x1:Go.Sem α):=trivial
theorem jJ(x0:Go.TypeId):Plain kn (Go.zeroValue x0:Go.Sem Go.Value):=by
 unfold Go.zeroValue;repeat' (first|(with_reducible first|apply aA|apply iH|apply aU|refine Plain.bind' ?_ λ_=>?_)|split)
theorem dV(x0:Go.TypeId):Plain kn (Go.sizeOf x0:Go.Sem Nat):=by
 unfold Go.sizeOf;repeat' ((with_reducible first|apply aA|apply iH|refine Plain.bind' ?_ λ_=>?_))
theorem Td(x0:Go.Addr)(x1:Go.Value)(x2:Go.Mode):Plain kn (Go.store x0 x1 x2:Go.Sem Unit):=trivial
theorem pF(a:Addr):∀(vs:List Value) (i:Nat),Plain kn (storeCells a vs i):=by
 intro vs;induction vs with
 |nil=>intro i;unfold storeCells;exact trivial
 |cons v vs ih=>intro i;unfold storeCells;exact Plain.bind' (Td _ _ _) λ_=>ih _
theorem Ci(x0:Go.TypeId)(x1:Go.Addr)(x2:Go.Value):Plain kn (Go.storeVar x0 x1 x2:Go.Sem Unit):=by
 unfold Go.storeVar;repeat' (first|(with_reducible first|apply dV|apply pF|apply aP|refine Plain.bind' ?_ λ_=>?_)|split)
theorem pY(x0:Go.TypeId)(x1:Array Go.Value):Plain kn (Go.newRow x0 x1:Go.Sem Go.Addr):=by
 unfold Go.newRow;repeat' (first|((with_reducible refine vX _ ?_);rfl)|(with_reducible first|apply aA|refine Plain.bind' ?_ λ_=>?_))
theorem zX(x0:Go.TypeId)(x1:Go.Value):Plain kn (Go.newVar x0 x1:Go.Sem Go.Addr):=by
 unfold Go.newVar;repeat' (with_reducible apply pY)
theorem FJ(x0:Go.TypeId)(x1:Bool)(x2:Go.Value):Plain kn (Go.Instr.alloc x0 x1 x2:Go.Sem Go.Value):=by
 unfold Go.Instr.alloc;repeat' (first|(with_reducible first|apply aA|apply jJ|apply Ci|apply zX|refine Plain.bind' ?_ λ_=>?_)|split)
theorem I1(x0:Go.TypeId)(x1:Go.Value):Plain kn (Go.Instr.box x0 x1:Go.Sem Go.Value):=by
 unfold Go.Instr.box;repeat' ((with_reducible first|apply aA|apply zX|refine Plain.bind' ?_ λ_=>?_))
theorem aT(x0:Go.TypeId):Plain kn (Go.underlying x0:Go.Sem Go.TypeDesc):=by
 unfold Go.underlying;repeat' (first|(with_reducible first|apply aA|apply fT|apply aP|refine Plain.bind' ?_ λ_=>?_)|split)
theorem FK(x0:Go.TypeId)(x1:Array (Nat×Go.Value)):Plain kn (Go.Instr.build x0 x1:Go.Sem Go.Value):=by
 unfold Go.Instr.build;repeat' (first|(with_reducible first|apply aA|apply jJ|apply aT|apply dV|apply aP|refine Plain.bind' ?_ λ_=>?_|refine di _ _ λ_=>?_)|split)
theorem zQ(x0:Go.TypeId)(x1:Nat)(x2:Array (Nat×Go.Value)):Plain kn (Go.Instr.buildSlice x0 x1 x2:Go.Sem Go.Value):=by
 unfold Go.Instr.buildSlice;repeat' (first|(with_reducible first|apply aA|apply aT|apply dV|apply pY|apply aP|apply jJ|apply aU|refine Plain.bind' ?_ λ_=>?_)|split|dsimp only)
theorem jm(x0:Go.Value):Plain kn (Go.Instr.sureAddr x0:Go.Sem Go.Addr):=by
 unfold Go.Instr.sureAddr;repeat' (first|(with_reducible first|apply aA|apply aP)|split)
theorem I4(x0:Go.TypeId):Plain kn (Go.isAgg x0:Go.Sem Bool):=by
 unfold Go.isAgg;repeat' (first|(with_reducible first|apply aA|apply aT|refine Plain.bind' ?_ λ_=>?_)|split)
theorem Md(x0:Go.Addr)(x1:Go.Mode):Plain kn (Go.load x0 x1:Go.Sem Go.Value):=λ_=>trivial
theorem CU(a:Addr):∀(i n:Nat) (acc:Array Value),Plain kn (loadCellsFrom a i n acc):=by
 intro i n;induction n generalizing i with
 |zero=>intro acc;exact trivial
 |succ n ih =>
  intro acc;unfold loadCellsFrom;exact Plain.bind' (Md _ _) λv=>ih _ _
theorem qC(x0:Go.Addr)(x1:Nat):Plain kn (Go.loadCells x0 x1:Go.Sem (Array Go.Value)):=by
 unfold Go.loadCells;repeat' (with_reducible apply CU)
theorem D6(x0:Go.TypeId)(x1:Go.Addr):Plain kn (Go.loadVar x0 x1:Go.Sem Go.Value):=by
 unfold Go.loadVar;repeat' (first|(with_reducible first|apply aA|apply I4|apply dV|apply qC|apply Md|refine Plain.bind' ?_ λ_=>?_)|split)
theorem D7(x0:Go.TypeId)(x1:Go.Value):Plain kn (Go.Instr.loadAt x0 x1:Go.Sem Go.Value):=by
 unfold Go.Instr.loadAt;repeat' ((with_reducible first|apply jm|apply D6|refine Plain.bind' ?_ λ_=>?_))
theorem CV(x0:Go.TypeId)(x1:Go.Value)(x2:Go.Value):Plain kn (Go.Instr.storeAt x0 x1 x2:Go.Sem Unit):=by
 unfold Go.Instr.storeAt;repeat' ((with_reducible first|apply jm|apply Ci|refine Plain.bind' ?_ λ_=>?_))
theorem uK(x0:Go.TypeId)(x1:Array Go.Value)(x2:Nat):Plain kn (Go.part x0 x1 x2:Go.Sem Go.Value):=by
 unfold Go.part;repeat' (first|(with_reducible first|apply aA|apply I4|apply dV|apply aP|refine Plain.bind' ?_ λ_=>?_)|split)
theorem D8:∀(n:Nat) (t:TypeId) (x y:Value),Plain kn (Op.eqGuardIn n t x y):=by
 intro n;induction n with
 |zero=>intro t x y;exact trivial
 |succ n ih =>
  intro t x y;unfold Op.eqGuardIn;repeat' (first|(with_reducible first|apply ih|apply aA|apply aT|apply uK|apply dV|refine Plain.bind' ?_ λ_=>?_|refine cu _ _ _ λ_ _=>?_|refine df _ _ _ λ_ _=>?_)|split|dsimp only)
theorem NK(x0:Go.BinOp)(x1:Go.TypeId)(x2:Go.Operand)(x3:Go.Operand)(x4:Go.Value)(x5:Go.Value):Plain kn (Go.eqGuard x0 x1 x2 x3 x4 x5:Go.Sem Unit):=by
 unfold Go.eqGuard;repeat' (first|(with_reducible first|apply aA|apply D8|apply aU|apply fT|refine Plain.bind' ?_ λ_=>?_)|split)
theorem NL{α:Type}(x1:Go.Value):Plain kn (Go.goPanic x1:Go.Sem α):=trivial
theorem PL(x0:Go.TypeId):Plain kn (Go.elemOf x0:Go.Sem Go.TypeId):=by
 unfold Go.elemOf;repeat' (first|(with_reducible first|apply aA|apply aT|apply aP|refine Plain.bind' ?_ λ_=>?_)|split)
theorem dZ{α:Type}(x1:Go.RuntimeError):Plain kn (Go.runtimePanic x1:Go.Sem α):=by
 unfold Go.runtimePanic;repeat' (first|(with_reducible first|apply fT|apply NL|apply PL|apply zX|refine Plain.bind' ?_ λ_=>?_)|split)
theorem Le(x0:Go.BinOp)(x1:Go.IntKind)(x2:Int)(x3:Go.IntKind)(x4:Int):Plain kn (Go.Op.shift x0 x1 x2 x3 x4:Go.Sem Go.Value):=by
 unfold Go.Op.shift;repeat' (first|(with_reducible first|apply aA|apply dZ|apply aP)|split)
theorem xA(x0:Go.BinOp)(x1:Go.IntKind)(x2:Int)(x3:Int):Plain kn (Go.Op.intArith x0 x1 x2 x3:Go.Sem Go.Value):=by
 unfold Go.Op.intArith;repeat' (first|(with_reducible first|apply aA|apply aP)|split)
theorem I5(x0:Go.BinOp)(x1:Go.IntKind)(x2:Int)(x3:Int):Plain kn (Go.Op.intDiv x0 x1 x2 x3:Go.Sem Go.Value):=by
 unfold Go.Op.intDiv;repeat' (first|(with_reducible first|apply aA|apply dZ|apply aP)|split)
theorem zC(x0:Go.BinOp)(x1:Go.IntKind)(x2:Int)(x3:Int):Plain kn (Go.Op.intBits x0 x1 x2 x3:Go.Sem Go.Value):=by
 unfold Go.Op.intBits;repeat' (first|(with_reducible first|apply aA|apply aP)|split)
theorem I6(x0:Go.BinOp)(x1:Int)(x2:Int):Plain kn (Go.Op.intCmp x0 x1 x2:Go.Sem Go.Value):=by
 unfold Go.Op.intCmp;repeat' (first|(with_reducible first|apply aA|apply aP)|split)
theorem fB(x0:Go.Question):Plain kn (Go.choose x0:Go.Sem Nat):=λ_=>trivial
theorem uR(x0:Go.BinOp)(x1:Go.FloatKind)(x2:Nat)(x3:Nat):Plain kn (Go.Op.floatArith x0 x1 x2 x3:Go.Sem Go.Value):=by
 unfold Go.Op.floatArith;repeat' (first|(with_reducible first|apply aA|apply fB|apply aP|refine Plain.bind' ?_ λ_=>?_)|split|dsimp only)
theorem xB(x0:Go.BinOp)(x1:Go.FloatKind)(x2:Nat)(x3:Nat):Plain kn (Go.Op.floatCmp x0 x1 x2 x3:Go.Sem Go.Value):=by
 unfold Go.Op.floatCmp;repeat' (first|(with_reducible first|apply aA|apply aP)|split)
theorem iB(x0:Go.BinOp)(x1:Go.FloatKind)(x2:Nat)(x3:Nat):Plain kn (Go.Op.Complex.arith x0 x1 x2 x3:Go.Sem Nat):=by
 unfold Go.Op.Complex.arith;repeat' (first|(with_reducible first|apply aA|apply uR|apply aP|refine Plain.bind' ?_ λ_=>?_)|split)
theorem lG(x0:Go.FloatKind)(x1:Nat)(x2:Go.FloatKind):Plain kn (Go.Conv.floatToFloat x0 x1 x2:Go.Sem Go.Value):=by
 unfold Go.Conv.floatToFloat;repeat' (first|(with_reducible first|apply aA|apply fB|refine Plain.bind' ?_ λ_=>?_)|split|dsimp only)
theorem zY(x0:Go.FloatKind)(x1:Nat)(x2:Go.FloatKind):Plain kn (Go.Op.Complex.conv x0 x1 x2:Go.Sem Nat):=by
 unfold Go.Op.Complex.conv;repeat' (first|(with_reducible first|apply aA|apply lG|apply aP|refine Plain.bind' ?_ λ_=>?_)|split)
theorem og(x0:Nat)(x1:Nat):Plain kn (Go.Op.Complex.mul x0 x1:Go.Sem Nat):=by
 unfold Go.Op.Complex.mul;repeat' (with_reducible apply iB)
theorem oh(x0:Nat)(x1:Nat):Plain kn (Go.Op.Complex.sub x0 x1:Go.Sem Nat):=by
 unfold Go.Op.Complex.sub;repeat' (with_reducible apply iB)
theorem oo(x0:Nat)(x1:Nat):Plain kn (Go.Op.Complex.add x0 x1:Go.Sem Nat):=by
 unfold Go.Op.Complex.add;repeat' (with_reducible apply iB)
theorem xC(x0:Nat)(x1:Nat)(x2:Nat)(x3:Nat):Plain kn (Go.Op.Complex.product x0 x1 x2 x3:Go.Sem (Nat×Nat)):=by
 unfold Go.Op.Complex.product;repeat' ((with_reducible first|apply aA|apply og|apply oh|apply oo|refine Plain.bind' ?_ λ_=>?_))
theorem vY(x0:Go.Value):Plain kn (Go.asBool x0:Go.Sem Bool):=by
 unfold Go.asBool;repeat' (first|(with_reducible first|apply aA|apply aP)|split)
theorem ui(x0:Go.BinOp)(x1:Go.FloatKind)(x2:Nat)(x3:Nat):Plain kn (Go.Op.Complex.cmp x0 x1 x2 x3:Go.Sem Bool):=by
 unfold Go.Op.Complex.cmp;repeat' ((with_reducible first|apply xB|apply vY|refine Plain.bind' ?_ λ_=>?_))
theorem vW(x0:Nat)(x1:Nat)(x2:Nat)(x3:Nat)(x4:Nat):Plain kn (Go.Op.Complex.corrected x0 x1 x2 x3 x4:Go.Sem (Nat×Nat)):=by
 unfold Go.Op.Complex.corrected;repeat' ((with_reducible first|apply aA|apply og|apply oo|apply oh|refine Plain.bind' ?_ λ_=>?_))
theorem Cf(x0:Nat)(x1:Nat):Plain kn (Go.Op.Complex.quo x0 x1:Go.Sem Nat):=by
 unfold Go.Op.Complex.quo;repeat' (with_reducible apply iB)
theorem xe(x0:Nat)(x1:Nat)(x2:Nat)(x3:Nat):Plain kn (Go.Op.Complex.quotient x0 x1 x2 x3:Go.Sem (Nat×Nat)):=by
 unfold Go.Op.Complex.quotient;repeat' (first|(with_reducible first|apply aA|apply ui|apply og|apply vW|apply Cf|apply oo|apply oh|refine Plain.bind' ?_ λ_=>?_)|split|dsimp only)
theorem D9(x0:Go.BinOp)(x1:Go.FloatKind)(x2:Nat)(x3:Nat)(x4:Nat)(x5:Nat):Plain kn (Go.Op.complexOp x0 x1 x2 x3 x4 x5:Go.Sem Go.Value):=by
 unfold Go.Op.complexOp;repeat' (first|(with_reducible first|apply aA|apply iB|apply zY|apply xC|apply xe|apply ui|apply aP|refine Plain.bind' ?_ λ_=>?_)|split)
theorem rJ(x0:Go.BinOp)(x1:ByteArray)(x2:ByteArray):Plain kn (Go.Op.stringOp x0 x1 x2:Go.Sem Go.Value):=by
 unfold Go.Op.stringOp;repeat' (first|(with_reducible first|apply aA|apply aU|apply aP)|split)
theorem iD(x0:Nat):Plain kn (Go.shape x0:Go.Sem (Option (Go.TypeId×Nat))):=λ_=>trivial
theorem iO(x0:Nat):Plain kn (Go.getObj x0:Go.Sem Go.Obj):=λ_=>trivial
theorem Cj(x0:Nat):Plain kn (Go.numberAt x0:Go.Sem (Option (Go.Addr×Bool))):=by
 unfold Go.numberAt;repeat' (first|(with_reducible first|apply aA|apply iD|apply iO|refine Plain.bind' ?_ λ_=>?_)|split)
theorem qD(x0:Go.Addr):Plain kn (Go.behindNumber x0:Go.Sem (Go.Addr×Bool)):=by
 unfold Go.behindNumber;repeat' ((with_reducible first|apply aA|apply Cj|refine Plain.bind' ?_ λ_=>?_))
theorem zZ(x0:Nat):Plain kn (Go.viewAt x0:Go.Sem (Option (Go.Addr×Go.TypeId))):=by
 unfold Go.viewAt;repeat' (first|(with_reducible first|apply aA|apply iD|apply iO|refine Plain.bind' ?_ λ_=>?_)|split)
theorem Aa(x0:Go.Addr):Plain kn (Go.noView x0:Go.Sem Unit):=by
 unfold Go.noView;repeat' (first|(with_reducible first|apply aA|apply zZ|apply aU|refine Plain.bind' ?_ λ_=>?_)|split)
theorem vZ(x0:Go.Addr):Plain kn (Go.byteOf x0:Go.Sem Nat):=by
 unfold Go.byteOf;repeat' (first|(with_reducible first|apply aA|apply fT|apply Aa|apply iD|apply aP|refine Plain.bind' ?_ λ_=>?_)|split|dsimp only)
theorem wo(x0:Go.Addr):Plain kn (Go.frozen x0:Go.Sem Bool):=λ_=>trivial
theorem I7(x0:Go.Addr):Plain kn (Go.stringish x0:Go.Sem Bool):=by
 unfold Go.stringish;repeat' (first|(with_reducible first|apply aA|apply wo|apply iD|refine Plain.bind' ?_ λ_=>?_)|split)
theorem Ck(x0:Go.Addr)(x1:Go.Addr):Plain kn (Go.mayBeOne x0 x1:Go.Sem Bool):=by
 unfold Go.mayBeOne;repeat' ((with_reducible first|apply aA|apply iD|apply I7|refine Plain.bind' ?_ λ_=>?_))
theorem Cm(x0:Go.Addr)(x1:Go.Addr):Plain kn (Go.sameAddr x0 x1:Go.Sem Bool):=by
 unfold Go.sameAddr;repeat' (first|(with_reducible first|apply aA|apply wo|apply Aa|apply Ck|apply fB|apply aU|refine Plain.bind' ?_ λ_=>?_)|split)
theorem FL(x0:Option Go.Addr)(x1:Option Go.Addr):Plain kn (Go.samePointer x0 x1:Go.Sem Bool):=by
 unfold Go.samePointer;repeat' (first|(with_reducible first|apply aA|apply Cm)|split)
theorem Ea(x0:Go.TypeId):Plain kn (Go.typeStr x0:Go.Sem String):=by
 unfold Go.typeStr;repeat' (first|(with_reducible first|apply aA|apply iH|apply aU|refine Plain.bind' ?_ λ_=>?_)|split|dsimp only)
theorem Io:∀(n:Nat) (t:TypeId) (x y:Value),Plain kn (Op.equalIn n t x y):=by
 intro n;induction n with
 |zero=>intro t x y;exact trivial
 |succ n ih =>
  intro t x y;unfold Op.equalIn;repeat' (first|(with_reducible first|apply ih|apply aA|apply aU|apply aT|apply aP|apply qD|apply fT|apply vZ|apply iH|apply dV|apply Cm|apply fB|apply FL|apply Ea|apply dZ|apply uK|refine Plain.bind' ?_ λ_=>?_|refine cu _ _ _ λ_ _=>?_|refine df _ _ _ λ_ _=>?_)|split|dsimp only)
theorem Cn(x0:Go.TypeId)(x1:Go.Value)(x2:Go.Value):Plain kn (Go.Op.equal x0 x1 x2:Go.Sem Bool):=by
 unfold Go.Op.equal;repeat' (with_reducible apply Io)
theorem uC(x0:Go.Value):Plain kn (Go.asIntOf x0:Go.Sem (Go.IntKind×Int)):=by
 unfold Go.asIntOf;repeat' (first|(with_reducible first|apply aA|apply aU|apply aP)|split)
theorem uS(x0:Go.Value):Plain kn (Go.asInt x0:Go.Sem Int):=by
 unfold Go.asInt;repeat' ((with_reducible first|apply aA|apply uC|refine Plain.bind' ?_ λ_=>?_))
theorem p8(x0:Array TypeId)(x1:TypeId)(x2:Array Value):Plain kn (Builtin.unsafeAdd_ x0 x1 x2):=by
 obtain⟨l⟩:=x2;rcases l with _|⟨a,_|⟨b,_|⟨c,l⟩⟩⟩
 ·exact trivial
 ·cases a<;>exact trivial
 ·cases a<;>first|exact trivial|skip
  refine Plain.bind' (s:=asInt b) (uS b) λn=>?_
  repeat' (first|(with_reducible first|apply ih|apply aA|apply uS|apply iD|apply fT|apply aU|apply zZ|refine Plain.bind' ?_ λ_=>?_)|split)
 ·cases a<;>exact trivial
theorem Eb(x0:Go.TypeId)(x1:Go.Value)(x2:Go.Value):Plain kn (Go.movedPointer x0 x1 x2:Go.Sem Go.Value):=by
 unfold Go.movedPointer;repeat' (first|(with_reducible first|apply p8|apply Cj|apply aU|refine Plain.bind' ?_ λ_=>?_)|split)
theorem Co(x0:Go.Addr)(x1:Bool):Plain kn (Go.asNumber x0 x1:Go.Sem Go.Value):=by
 unfold Go.asNumber;repeat' (first|((with_reducible refine vX _ ?_);rfl)|(with_reducible first|apply aA|refine Plain.bind' ?_ λ_=>?_))
theorem FM(x0:Go.TypeId)(x1:Go.Value)(x2:Go.Value):Plain kn (Go.movedNumber x0 x1 x2:Go.Sem Go.Value):=by
 unfold Go.movedNumber;repeat' (first|(with_reducible first|apply aA|apply aT|apply qD|apply p8|apply Co|apply aU|refine Plain.bind' ?_ λ_=>?_)|split)
theorem wu(x0:Go.Addr)(x1:Go.Addr):Plain kn (Go.Op.twoPlaces x0 x1:Go.Sem (Nat×Nat)):=by
 unfold Go.Op.twoPlaces;repeat' (first|(with_reducible first|apply aA|apply fT|apply vZ|apply aU|refine Plain.bind' ?_ λ_=>?_)|split)
theorem Ip(x0:Go.IntKind)(x1:Go.Addr)(x2:Go.Addr):Plain kn (Go.Op.addrSub x0 x1 x2:Go.Sem Go.Value):=by
 unfold Go.Op.addrSub;repeat' ((with_reducible first|apply aA|apply wu|refine Plain.bind' ?_ λ_=>?_))
theorem Iq(x0:Go.BinOp)(x1:Go.Addr)(x2:Go.Addr):Plain kn (Go.Op.addrCmp x0 x1 x2:Go.Sem Go.Value):=by
 unfold Go.Op.addrCmp;repeat' (first|(with_reducible first|apply aA|apply wu|apply aU|refine Plain.bind' ?_ λ_=>?_)|split)
theorem Ir(x0:Go.IntKind)(x1:Go.Addr)(x2:Int):Plain kn (Go.Op.addrMod x0 x1 x2:Go.Sem Go.Value):=by
 unfold Go.Op.addrMod;repeat' (first|(with_reducible first|apply aA|apply iD|apply iH|apply vZ|apply aU|refine Plain.bind' ?_ λ_=>?_)|split|dsimp only)
theorem Te(x0:Go.BinOp)(x1:Go.TypeId)(x2:Go.Value)(x3:Go.Value):Plain kn (Go.binOp x0 x1 x2 x3:Go.Sem Go.Value):=by
 unfold Go.binOp;repeat' (first|(with_reducible first|apply aA|apply Le|apply aP|apply xA|apply I5|apply zC|apply I6|apply uR|apply xB|apply D9|apply rJ|apply Cn|apply aT|apply Eb|apply FM|apply qD|apply Ip|apply Iq|apply Ir|apply aU|refine Plain.bind' ?_ λ_=>?_)|split)
end
end
