/- Lemmas. -/
import Derived.Test.YtignemioillaiaaGreatG01
namespace Go.Proofs.YtignemioillaiaaGreat
set_option maxHeartbeats 8000000
set_option maxRecDepth 100000
open List
section
open Go
section
variable{kn:List Nat}
theorem Plain.map'{α β:Type}{f:α->β}{s:Sem α}(h:Plain kn s):Plain kn (f <$> s):=by
 rw[map_eq_pure_bind];exact Plain.bind' h λ_=>trivial
theorem MW{α β:Type}(f:α->β->Sem (ForInStep β))(hf:∀a b,Plain kn (f a b)):∀(l:List α) (b:β),Plain kn (forIn l b f):=by
 intro l;induction l with
 |nil=>intro b;exact trivial
 |cons a l ih =>
  intro b;rw[forIn_cons];refine Plain.bind' (hf a b) λr=>?_
  cases r with
  |done b=>exact trivial
  |yield b=>exact ih b
theorem cu{α β:Type}(xs:Array α)(b:β)(f:α->β->Sem (ForInStep β))(hf:∀a b,Plain kn (f a b)):Plain kn (forIn xs b f):=by
 rw[<-Array.forIn_toList];exact MW f hf _ _
theorem cZ{β:Type}(r:Std.Legacy.Range)(b:β)(f:Nat->β->Sem (ForInStep β))(hf:∀a b,Plain kn (f a b)):Plain kn (forIn r b f):=by
 rw[Std.Legacy.Range.forIn_eq_forIn_range'];exact MW f hf _ _
theorem di{α β:Type}(xs:Array α)(f:α->Sem β)(hf:∀a,Plain kn (f a)):Plain kn (xs.mapM f):=by
 rw[Array.mapM_eq_mapM_toList];refine Plain.map' ?_;generalize xs.toList=l;induction l with
 |nil=>exact trivial
 |cons a l ih =>
  rw[mapM_cons];exact Plain.bind' (hf a) λ_=>Plain.bind' ih λ_=>trivial
theorem az{α:Type}(a:α):Plain kn (pure a:Sem α):=trivial
theorem Hq:Plain kn (mark .noRoom):=⟨trivial,trivial⟩
theorem Plain.ite{α:Type}{c:Prop}[Decidable c]{a b:Sem α}(h1:c->Plain kn a)(h2:¬c->Plain kn b):Plain kn (if c then a else b):=by
 split
 ·exact h1 ‹_›
 ·exact h2 ‹_›
theorem bZ{α β:Type}(f:β->α->Sem β)(hf:∀b a,Plain kn (f b a)):∀(l:List α) (b:β),Plain kn (foldlM f b l):=by
 intro l;induction l with
 |nil=>intro b;exact trivial
 |cons a l ih =>
  intro b;rw[foldlM_cons];exact Plain.bind' (hf b a) λ_=>ih _
theorem wJ(o:Obj)(h:o.isChan=false):Plain kn (newObj o):=⟨h,λ_=>trivial⟩
theorem Et(r:Nat)(o:Obj)(h:r∈kn)(ho:o.isChan=false):Plain kn (setObj r o):=⟨h,ho,trivial⟩
theorem gz:Plain kn (Go.program:Sem Go.Program):=λ_=>trivial
theorem aP{α:Type}(x1:String):Plain kn (Go.stuck x1:Sem α):=trivial
theorem iO(x0:TypeId):Plain kn (Go.typeInfo x0:Sem Go.TypeInfo):=by
 unfold Go.typeInfo;repeat' (first|(with_reducible first|apply az|apply gz|apply aP|refine Plain.bind' ?_ λ_=>?_)|split)
theorem aU{α:Type}(x1:Go.Unsupported):Plain kn (Go.unsupported x1:Sem α):=trivial
theorem jS(x0:TypeId):Plain kn (Go.zeroValue x0:Sem Value):=by
 unfold Go.zeroValue;repeat' (first|(with_reducible first|apply az|apply iO|apply aU|refine Plain.bind' ?_ λ_=>?_)|split)
theorem dV(x0:TypeId):Plain kn (Go.sizeOf x0:Sem Nat):=by
 unfold Go.sizeOf;repeat' ((with_reducible first|apply az|apply iO|refine Plain.bind' ?_ λ_=>?_))
theorem TP(x0:Addr)(x1:Value)(x2:Mode):Plain kn (Go.store x0 x1 x2:Sem Unit):=trivial
theorem pX(a:Addr):∀(vs:List Value) (i:Nat),Plain kn (storeCells a vs i):=by
 intro vs;induction vs with
 |nil=>intro i;unfold storeCells;exact trivial
 |cons v vs ih=>intro i;unfold storeCells;exact Plain.bind' (TP _ _ _) λ_=>ih _
theorem CL(x0:TypeId)(x1:Addr)(x2:Value):Plain kn (Go.storeVar x0 x1 x2:Sem Unit):=by
 unfold Go.storeVar;repeat' (first|(with_reducible first|apply dV|apply pX|apply aP|refine Plain.bind' ?_ λ_=>?_)|split)
theorem qy(x0:TypeId)(x1:Array Value):Plain kn (Go.newRow x0 x1:Sem Addr):=by
 unfold Go.newRow;repeat' (first|((with_reducible refine wJ _ ?_);rfl)|(with_reducible first|apply az|refine Plain.bind' ?_ λ_=>?_))
theorem Aq(x0:TypeId)(x1:Value):Plain kn (Go.newVar x0 x1:Sem Addr):=by
 unfold Go.newVar;repeat' (with_reducible apply qy)
theorem Gf(x0:TypeId)(x1:Bool)(x2:Value):Plain kn (Instr.alloc x0 x1 x2:Sem Value):=by
 unfold Instr.alloc;repeat' (first|(with_reducible first|apply az|apply jS|apply CL|apply Aq|refine Plain.bind' ?_ λ_=>?_)|split)
theorem Jr(x0:TypeId)(x1:Value):Plain kn (Instr.box x0 x1:Sem Value):=by
 unfold Instr.box;repeat' ((with_reducible first|apply az|apply Aq|refine Plain.bind' ?_ λ_=>?_))
theorem aS(x0:TypeId):Plain kn (Go.underlying x0:Sem Go.TypeDesc):=by
 unfold Go.underlying;repeat' (first|(with_reducible first|apply az|apply gz|apply aP|refine Plain.bind' ?_ λ_=>?_)|split)
theorem Gg(x0:TypeId)(x1:Array (Nat×Value)):Plain kn (Instr.build x0 x1:Sem Value):=by
 unfold Instr.build;repeat' (first|(with_reducible first|apply az|apply jS|apply aS|apply dV|apply aP|refine Plain.bind' ?_ λ_=>?_|refine di _ _ λ_=>?_)|split)
theorem Ai(x0:TypeId)(x1:Nat)(x2:Array (Nat×Value)):Plain kn (Instr.buildSlice x0 x1 x2:Sem Value):=by
 unfold Instr.buildSlice;repeat' (first|(with_reducible first|apply az|apply aS|apply dV|apply qy|apply aP|apply jS|apply aU|refine Plain.bind' ?_ λ_=>?_)|split|dsimp only)
theorem jB(x0:Value):Plain kn (Instr.sureAddr x0:Sem Addr):=by
 unfold Instr.sureAddr;repeat' (first|(with_reducible first|apply az|apply aP)|split)
theorem Js(x0:TypeId):Plain kn (Go.isAgg x0:Sem Bool):=by
 unfold Go.isAgg;repeat' (first|(with_reducible first|apply az|apply aS|refine Plain.bind' ?_ λ_=>?_)|split)
theorem MX(x0:Addr)(x1:Mode):Plain kn (Go.load x0 x1:Sem Value):=λ_=>trivial
theorem Dt(a:Addr):∀(i n:Nat) (acc:Array Value),Plain kn (loadCellsFrom a i n acc):=by
 intro i n;induction n generalizing i with
 |zero=>intro acc;exact trivial
 |succ n ih =>
  intro acc;unfold loadCellsFrom;exact Plain.bind' (MX _ _) λv=>ih _ _
theorem qP(x0:Addr)(x1:Nat):Plain kn (Go.loadCells x0 x1:Sem (Array Value)):=by
 unfold Go.loadCells;repeat' (with_reducible apply Dt)
theorem Eu(x0:TypeId)(x1:Addr):Plain kn (Go.loadVar x0 x1:Sem Value):=by
 unfold Go.loadVar;repeat' (first|(with_reducible first|apply az|apply Js|apply dV|apply qP|apply MX|refine Plain.bind' ?_ λ_=>?_)|split)
theorem Ev(x0:TypeId)(x1:Value):Plain kn (Instr.loadAt x0 x1:Sem Value):=by
 unfold Instr.loadAt;repeat' ((with_reducible first|apply jB|apply Eu|refine Plain.bind' ?_ λ_=>?_))
theorem Du(x0:TypeId)(x1:Value)(x2:Value):Plain kn (Instr.storeAt x0 x1 x2:Sem Unit):=by
 unfold Instr.storeAt;repeat' ((with_reducible first|apply jB|apply CL|refine Plain.bind' ?_ λ_=>?_))
theorem u7(x0:TypeId)(x1:Array Value)(x2:Nat):Plain kn (Go.part x0 x1 x2:Sem Value):=by
 unfold Go.part;repeat' (first|(with_reducible first|apply az|apply Js|apply dV|apply aP|refine Plain.bind' ?_ λ_=>?_)|split)
theorem Ew:∀(n:Nat) (t:TypeId) (x y:Value),Plain kn (Op.eqGuardIn n t x y):=by
 intro n;induction n with
 |zero=>intro t x y;exact trivial
 |succ n ih =>
  intro t x y;unfold Op.eqGuardIn;repeat' (first|(with_reducible first|apply ih|apply az|apply aS|apply u7|apply dV|refine Plain.bind' ?_ λ_=>?_|refine cu _ _ _ λ_ _=>?_|refine cZ _ _ _ λ_ _=>?_)|split|dsimp only)
theorem Ow(x0:BinOp)(x1:TypeId)(x2:Operand)(x3:Operand)(x4:Value)(x5:Value):Plain kn (Go.eqGuard x0 x1 x2 x3 x4 x5:Sem Unit):=by
 unfold Go.eqGuard;repeat' (first|(with_reducible first|apply az|apply Ew|apply aU|apply gz|refine Plain.bind' ?_ λ_=>?_)|split)
theorem Ox{α:Type}(x1:Value):Plain kn (Go.goPanic x1:Sem α):=trivial
theorem Qo(x0:TypeId):Plain kn (Go.elemOf x0:Sem TypeId):=by
 unfold Go.elemOf;repeat' (first|(with_reducible first|apply az|apply aS|apply aP|refine Plain.bind' ?_ λ_=>?_)|split)
theorem eB{α:Type}(x1:Go.RuntimeError):Plain kn (Go.runtimePanic x1:Sem α):=by
 unfold Go.runtimePanic;repeat' (first|(with_reducible first|apply gz|apply Ox|apply Qo|apply Aq|refine Plain.bind' ?_ λ_=>?_)|split)
theorem Me(x0:BinOp)(x1:IntKind)(x2:Int)(x3:IntKind)(x4:Int):Plain kn (Op.shift x0 x1 x2 x3 x4:Sem Value):=by
 unfold Op.shift;repeat' (first|(with_reducible first|apply az|apply eB|apply aP)|split)
theorem xS(x0:BinOp)(x1:IntKind)(x2:Int)(x3:Int):Plain kn (Op.intArith x0 x1 x2 x3:Sem Value):=by
 unfold Op.intArith;repeat' (first|(with_reducible first|apply az|apply aP)|split)
theorem Jt(x0:BinOp)(x1:IntKind)(x2:Int)(x3:Int):Plain kn (Op.intDiv x0 x1 x2 x3:Sem Value):=by
 unfold Op.intDiv;repeat' (first|(with_reducible first|apply az|apply eB|apply aP)|split)
theorem zX(x0:BinOp)(x1:IntKind)(x2:Int)(x3:Int):Plain kn (Op.intBits x0 x1 x2 x3:Sem Value):=by
 unfold Op.intBits;repeat' (first|(with_reducible first|apply az|apply aP)|split)
theorem Ju(x0:BinOp)(x1:Int)(x2:Int):Plain kn (Op.intCmp x0 x1 x2:Sem Value):=by
 unfold Op.intCmp;repeat' (first|(with_reducible first|apply az|apply aP)|split)
theorem fJ(x0:Go.Question):Plain kn (Go.choose x0:Sem Nat):=λ_=>trivial
theorem vC(x0:BinOp)(x1:FloatKind)(x2:Nat)(x3:Nat):Plain kn (Op.floatArith x0 x1 x2 x3:Sem Value):=by
 unfold Op.floatArith;repeat' (first|(with_reducible first|apply az|apply fJ|apply aP|refine Plain.bind' ?_ λ_=>?_)|split|dsimp only)
theorem xU(x0:BinOp)(x1:FloatKind)(x2:Nat)(x3:Nat):Plain kn (Op.floatCmp x0 x1 x2 x3:Sem Value):=by
 unfold Op.floatCmp;repeat' (first|(with_reducible first|apply az|apply aP)|split)
theorem iI(x0:BinOp)(x1:FloatKind)(x2:Nat)(x3:Nat):Plain kn (Op.Complex.arith x0 x1 x2 x3:Sem Nat):=by
 unfold Op.Complex.arith;repeat' (first|(with_reducible first|apply az|apply vC|apply aP|refine Plain.bind' ?_ λ_=>?_)|split)
theorem lY(x0:FloatKind)(x1:Nat)(x2:FloatKind):Plain kn (Conv.floatToFloat x0 x1 x2:Sem Value):=by
 unfold Conv.floatToFloat;repeat' (first|(with_reducible first|apply az|apply fJ|refine Plain.bind' ?_ λ_=>?_)|split|dsimp only)
theorem Ar(x0:FloatKind)(x1:Nat)(x2:FloatKind):Plain kn (Op.Complex.conv x0 x1 x2:Sem Nat):=by
 unfold Op.Complex.conv;repeat' (first|(with_reducible first|apply az|apply lY|apply aP|refine Plain.bind' ?_ λ_=>?_)|split)
theorem oQ(x0:Nat)(x1:Nat):Plain kn (Op.Complex.mul x0 x1:Sem Nat):=by
 unfold Op.Complex.mul;repeat' (with_reducible apply iI)
theorem oU(x0:Nat)(x1:Nat):Plain kn (Op.Complex.sub x0 x1:Sem Nat):=by
 unfold Op.Complex.sub;repeat' (with_reducible apply iI)
theorem oV(x0:Nat)(x1:Nat):Plain kn (Op.Complex.add x0 x1:Sem Nat):=by
 unfold Op.Complex.add;repeat' (with_reducible apply iI)
theorem xV(x0:Nat)(x1:Nat)(x2:Nat)(x3:Nat):Plain kn (Op.Complex.product x0 x1 x2 x3:Sem (Nat×Nat)):=by
 unfold Op.Complex.product;repeat' ((with_reducible first|apply az|apply oQ|apply oU|apply oV|refine Plain.bind' ?_ λ_=>?_))
theorem wK(x0:Value):Plain kn (Go.asBool x0:Sem Bool):=by
 unfold Go.asBool;repeat' (first|(with_reducible first|apply az|apply aP)|split)
theorem uH(x0:BinOp)(x1:FloatKind)(x2:Nat)(x3:Nat):Plain kn (Op.Complex.cmp x0 x1 x2 x3:Sem Bool):=by
 unfold Op.Complex.cmp;repeat' ((with_reducible first|apply xU|apply wK|refine Plain.bind' ?_ λ_=>?_))
theorem wI(x0:Nat)(x1:Nat)(x2:Nat)(x3:Nat)(x4:Nat):Plain kn (Op.Complex.corrected x0 x1 x2 x3 x4:Sem (Nat×Nat)):=by
 unfold Op.Complex.corrected;repeat' ((with_reducible first|apply az|apply oQ|apply oV|apply oU|refine Plain.bind' ?_ λ_=>?_))
theorem CG(x0:Nat)(x1:Nat):Plain kn (Op.Complex.quo x0 x1:Sem Nat):=by
 unfold Op.Complex.quo;repeat' (with_reducible apply iI)
theorem xI(x0:Nat)(x1:Nat)(x2:Nat)(x3:Nat):Plain kn (Op.Complex.quotient x0 x1 x2 x3:Sem (Nat×Nat)):=by
 unfold Op.Complex.quotient;repeat' (first|(with_reducible first|apply az|apply uH|apply oQ|apply wI|apply CG|apply oV|apply oU|refine Plain.bind' ?_ λ_=>?_)|split|dsimp only)
theorem Ey(x0:BinOp)(x1:FloatKind)(x2:Nat)(x3:Nat)(x4:Nat)(x5:Nat):Plain kn (Op.complexOp x0 x1 x2 x3 x4 x5:Sem Value):=by
 unfold Op.complexOp;repeat' (first|(with_reducible first|apply az|apply iI|apply Ar|apply xV|apply xI|apply uH|apply aP|refine Plain.bind' ?_ λ_=>?_)|split)
theorem sG(x0:BinOp)(x1:ByteArray)(x2:ByteArray):Plain kn (Op.stringOp x0 x1 x2:Sem Value):=by
 unfold Op.stringOp;repeat' (first|(with_reducible first|apply az|apply aU|apply aP)|split)
theorem iK(x0:Nat):Plain kn (Go.shape x0:Sem (Option (TypeId×Nat))):=λ_=>trivial
theorem iV(x0:Nat):Plain kn (Go.getObj x0:Sem Go.Obj):=λ_=>trivial
theorem CO(x0:Nat):Plain kn (Go.numberAt x0:Sem (Option (Addr×Bool))):=by
 unfold Go.numberAt;repeat' (first|(with_reducible first|apply az|apply iK|apply iV|refine Plain.bind' ?_ λ_=>?_)|split)
theorem qQ(x0:Addr):Plain kn (Go.behindNumber x0:Sem (Addr×Bool)):=by
 unfold Go.behindNumber;repeat' ((with_reducible first|apply az|apply CO|refine Plain.bind' ?_ λ_=>?_))
theorem Au(x0:Nat):Plain kn (Go.viewAt x0:Sem (Option (Addr×TypeId))):=by
 unfold Go.viewAt;repeat' (first|(with_reducible first|apply az|apply iK|apply iV|refine Plain.bind' ?_ λ_=>?_)|split)
theorem Av(x0:Addr):Plain kn (Go.noView x0:Sem Unit):=by
 unfold Go.noView;repeat' (first|(with_reducible first|apply az|apply Au|apply aU|refine Plain.bind' ?_ λ_=>?_)|split)
theorem wL(x0:Addr):Plain kn (Go.byteOf x0:Sem Nat):=by
 unfold Go.byteOf;repeat' (first|(with_reducible first|apply az|apply gz|apply Av|apply iK|apply aP|refine Plain.bind' ?_ λ_=>?_)|split|dsimp only)
theorem wM(x0:Addr):Plain kn (Go.frozen x0:Sem Bool):=λ_=>trivial
theorem Jv(x0:Addr):Plain kn (Go.stringish x0:Sem Bool):=by
 unfold Go.stringish;repeat' (first|(with_reducible first|apply az|apply wM|apply iK|refine Plain.bind' ?_ λ_=>?_)|split)
theorem CP(x0:Addr)(x1:Addr):Plain kn (Go.mayBeOne x0 x1:Sem Bool):=by
 unfold Go.mayBeOne;repeat' ((with_reducible first|apply az|apply iK|apply Jv|refine Plain.bind' ?_ λ_=>?_))
theorem CQ(x0:Addr)(x1:Addr):Plain kn (Go.sameAddr x0 x1:Sem Bool):=by
 unfold Go.sameAddr;repeat' (first|(with_reducible first|apply az|apply wM|apply Av|apply CP|apply fJ|apply aU|refine Plain.bind' ?_ λ_=>?_)|split)
theorem Gi(x0:Option Addr)(x1:Option Addr):Plain kn (Go.samePointer x0 x1:Sem Bool):=by
 unfold Go.samePointer;repeat' (first|(with_reducible first|apply az|apply CQ)|split)
theorem Ez(x0:TypeId):Plain kn (Go.typeStr x0:Sem String):=by
 unfold Go.typeStr;repeat' (first|(with_reducible first|apply az|apply iO|apply aU|refine Plain.bind' ?_ λ_=>?_)|split|dsimp only)
theorem IZ:∀(n:Nat) (t:TypeId) (x y:Value),Plain kn (Op.equalIn n t x y):=by
 intro n;induction n with
 |zero=>intro t x y;exact trivial
 |succ n ih =>
  intro t x y;unfold Op.equalIn;repeat' (first|(with_reducible first|apply ih|apply az|apply aU|apply aS|apply aP|apply qQ|apply gz|apply wL|apply iO|apply dV|apply CQ|apply fJ|apply Gi|apply Ez|apply eB|apply u7|refine Plain.bind' ?_ λ_=>?_|refine cu _ _ _ λ_ _=>?_|refine cZ _ _ _ λ_ _=>?_)|split|dsimp only)
theorem CR(x0:TypeId)(x1:Value)(x2:Value):Plain kn (Op.equal x0 x1 x2:Sem Bool):=by
 unfold Op.equal;repeat' (with_reducible apply IZ)
theorem uU(x0:Value):Plain kn (Go.asIntOf x0:Sem (IntKind×Int)):=by
 unfold Go.asIntOf;repeat' (first|(with_reducible first|apply az|apply aU|apply aP)|split)
theorem vE(x0:Value):Plain kn (Go.asInt x0:Sem Int):=by
 unfold Go.asInt;repeat' ((with_reducible first|apply az|apply uU|refine Plain.bind' ?_ λ_=>?_))
theorem qz(x0:Array TypeId)(x1:TypeId)(x2:Array Value):Plain kn (Builtin.unsafeAdd_ x0 x1 x2):=by
 obtain⟨l⟩:=x2;rcases l with _|⟨a,_|⟨b,_|⟨c,l⟩⟩⟩
 ·exact trivial
 ·cases a<;>exact trivial
 ·cases a<;>first|exact trivial|skip
  refine Plain.bind' (s:=asInt b) (vE b) λn=>?_
  repeat' (first|(with_reducible first|apply ih|apply az|apply vE|apply iK|apply gz|apply aU|apply Au|refine Plain.bind' ?_ λ_=>?_)|split)
 ·cases a<;>exact trivial
theorem EA(x0:TypeId)(x1:Value)(x2:Value):Plain kn (Go.movedPointer x0 x1 x2:Sem Value):=by
 unfold Go.movedPointer;repeat' (first|(with_reducible first|apply qz|apply CO|apply aU|refine Plain.bind' ?_ λ_=>?_)|split)
theorem CU(x0:Addr)(x1:Bool):Plain kn (Go.asNumber x0 x1:Sem Value):=by
 unfold Go.asNumber;repeat' (first|((with_reducible refine wJ _ ?_);rfl)|(with_reducible first|apply az|refine Plain.bind' ?_ λ_=>?_))
theorem Gj(x0:TypeId)(x1:Value)(x2:Value):Plain kn (Go.movedNumber x0 x1 x2:Sem Value):=by
 unfold Go.movedNumber;repeat' (first|(with_reducible first|apply az|apply aS|apply qQ|apply qz|apply CU|apply aU|refine Plain.bind' ?_ λ_=>?_)|split)
theorem wN(x0:Addr)(x1:Addr):Plain kn (Op.twoPlaces x0 x1:Sem (Nat×Nat)):=by
 unfold Op.twoPlaces;repeat' (first|(with_reducible first|apply az|apply gz|apply wL|apply aU|refine Plain.bind' ?_ λ_=>?_)|split)
theorem I1(x0:IntKind)(x1:Addr)(x2:Addr):Plain kn (Op.addrSub x0 x1 x2:Sem Value):=by
 unfold Op.addrSub;repeat' ((with_reducible first|apply az|apply wN|refine Plain.bind' ?_ λ_=>?_))
theorem I4(x0:BinOp)(x1:Addr)(x2:Addr):Plain kn (Op.addrCmp x0 x1 x2:Sem Value):=by
 unfold Op.addrCmp;repeat' (first|(with_reducible first|apply az|apply wN|apply aU|refine Plain.bind' ?_ λ_=>?_)|split)
theorem I5(x0:IntKind)(x1:Addr)(x2:Int):Plain kn (Op.addrMod x0 x1 x2:Sem Value):=by
 unfold Op.addrMod;repeat' (first|(with_reducible first|apply az|apply iK|apply iO|apply wL|apply aU|refine Plain.bind' ?_ λ_=>?_)|split|dsimp only)
theorem TQ(x0:BinOp)(x1:TypeId)(x2:Value)(x3:Value):Plain kn (Go.binOp x0 x1 x2 x3:Sem Value):=by
 unfold Go.binOp;repeat' (first|(with_reducible first|apply az|apply Me|apply aP|apply xS|apply Jt|apply zX|apply Ju|apply vC|apply xU|apply Ey|apply sG|apply CR|apply aS|apply EA|apply Gj|apply qQ|apply I1|apply I4|apply I5|apply aU|refine Plain.bind' ?_ λ_=>?_)|split)
end
end
