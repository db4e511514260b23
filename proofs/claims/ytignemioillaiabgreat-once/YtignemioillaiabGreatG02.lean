/- Lemmas. -/
import Derived.Test.YtignemioillaiabGreatG01
namespace Go.Proofs.YtignemioillaiabGreat
set_option maxHeartbeats 8000000
set_option maxRecDepth 100000
open List
section
open Go
section
variable{kn:List Nat}
theorem Plain.map'{α β:Type}{f:α->β}{s:Sem α}(h:Plain kn s):Plain kn (f <$> s):=by
 rw[map_eq_pure_bind];exact Plain.bind' h λ_=>trivial
theorem Ou{α β:Type}(f:α->β->Sem (ForInStep β))(hf:∀a b,Plain kn (f a b)):∀(l:List α) (b:β),Plain kn (forIn l b f):=by
 intro l;induction l with
 |nil=>intro b;exact trivial
 |cons a l ih =>
  intro b;rw[forIn_cons];refine Plain.bind' (hf a b) λr=>?_
  cases r with
  |done b=>exact trivial
  |yield b=>exact ih b
theorem bZ{α β:Type}(xs:Array α)(b:β)(f:α->β->Sem (ForInStep β))(hf:∀a b,Plain kn (f a b)):Plain kn (forIn xs b f):=by
 rw[<-Array.forIn_toList];exact Ou f hf _ _
theorem df{β:Type}(r:Std.Legacy.Range)(b:β)(f:Nat->β->Sem (ForInStep β))(hf:∀a b,Plain kn (f a b)):Plain kn (forIn r b f):=by
 rw[Std.Legacy.Range.forIn_eq_forIn_range'];exact Ou f hf _ _
theorem di{α β:Type}(xs:Array α)(f:α->Sem β)(hf:∀a,Plain kn (f a)):Plain kn (xs.mapM f):=by
 rw[Jb7];refine Plain.map' ?_;generalize xs.toList=l;induction l with
 |nil=>exact trivial
 |cons a l ih =>
  rw[mapM_cons];exact Plain.bind' (hf a) λ_=>Plain.bind' ih λ_=>trivial
theorem az{α:Type}(a:α):Plain kn (pure a:Sem α):=trivial
theorem Jf:Plain kn (mark .noRoom):=⟨trivial,trivial⟩
theorem Plain.ite{α:Type}{c:Prop}[Decidable c]{a b:Sem α}(h1:c->Plain kn a)(h2:¬c->Plain kn b):Plain kn (if c then a else b):=by
 split
 .exact h1 ‹_›
 .exact h2 ‹_›
theorem bY{α β:Type}(f:β->α->Sem β)(hf:∀b a,Plain kn (f b a)):∀(l:List α) (b:β),Plain kn (foldlM f b l):=by
 intro l;induction l with
 |nil=>intro b;exact trivial
 |cons a l ih =>
  intro b;rw[foldlM_cons];exact Plain.bind' (hf b a) λ_=>ih _
theorem xw(o:Obj)(h:o.isChan=false):Plain kn (newObj o):=⟨h,λ_=>trivial⟩
theorem FE(r:Nat)(o:Obj)(h:r∈kn)(ho:o.isChan=false):Plain kn (setObj r o):=⟨h,ho,trivial⟩
theorem gK:Plain kn (Go.program:Sem Go.Program):=λ_=>trivial
theorem aN{α:Type}(x1:String):Plain kn (Go.stuck x1:Sem α):=trivial
theorem iX(x0:TypeId):Plain kn (Go.typeInfo x0:Sem Go.TypeInfo):=by
 unfold Go.typeInfo;repeat' (first|(with_reducible first|apply az|apply gK|apply aN|refine Plain.bind' ?_ λ_=>?_)|split)
theorem aT{α:Type}(x1:Go.Unsupported):Plain kn (Go.unsupported x1:Sem α):=trivial
theorem jY(x0:TypeId):Plain kn (Go.zeroValue x0:Sem Value):=by
 unfold Go.zeroValue;repeat' (first|(with_reducible first|apply az|apply iX|apply aT|refine Plain.bind' ?_ λ_=>?_)|split)
theorem dY(x0:TypeId):Plain kn (Go.sizeOf x0:Sem Nat):=by
 unfold Go.sizeOf;repeat' ((with_reducible first|apply az|apply iX|refine Plain.bind' ?_ λ_=>?_))
theorem VE(x0:Addr)(x1:Value)(x2:Mode):Plain kn (Go.store x0 x1 x2:Sem Unit):=trivial
theorem qD(a:Addr):∀(vs:List Value) (i:Nat),Plain kn (storeCells a vs i):=by
 intro vs;induction vs with
 |nil=>intro i;unfold storeCells;exact trivial
 |cons v vs ih=>intro i;unfold storeCells;exact Plain.bind' (VE _ _ _) λ_=>ih _
theorem DX(x0:TypeId)(x1:Addr)(x2:Value):Plain kn (Go.storeVar x0 x1 x2:Sem Unit):=by
 unfold Go.storeVar;repeat' (first|(with_reducible first|apply dY|apply qD|apply aN|refine Plain.bind' ?_ λ_=>?_)|split)
theorem qV(x0:TypeId)(x1:Array Value):Plain kn (Go.newRow x0 x1:Sem Addr):=by
 unfold Go.newRow;repeat' (first|((with_reducible refine xw _ ?_);rfl)|(with_reducible first|apply az|refine Plain.bind' ?_ λ_=>?_))
theorem Bw(x0:TypeId)(x1:Value):Plain kn (Go.newVar x0 x1:Sem Addr):=by
 unfold Go.newVar;repeat' (with_reducible apply qV)
theorem Ig(x0:TypeId)(x1:Bool)(x2:Value):Plain kn (Instr.alloc x0 x1 x2:Sem Value):=by
 unfold Instr.alloc;repeat' (first|(with_reducible first|apply az|apply jY|apply DX|apply Bw|refine Plain.bind' ?_ λ_=>?_)|split)
theorem KJ(x0:TypeId)(x1:Value):Plain kn (Instr.box x0 x1:Sem Value):=by
 unfold Instr.box;repeat' ((with_reducible first|apply az|apply Bw|refine Plain.bind' ?_ λ_=>?_))
theorem aQ(x0:TypeId):Plain kn (Go.underlying x0:Sem Go.TypeDesc):=by
 unfold Go.underlying;repeat' (first|(with_reducible first|apply az|apply gK|apply aN|refine Plain.bind' ?_ λ_=>?_)|split)
theorem Ih(x0:TypeId)(x1:Array (Nat×Value)):Plain kn (Instr.build x0 x1:Sem Value):=by
 unfold Instr.build;repeat' (first|(with_reducible first|apply az|apply jY|apply aQ|apply dY|apply aN|refine Plain.bind' ?_ λ_=>?_|refine di _ _ λ_=>?_)|split)
theorem Bo(x0:TypeId)(x1:Nat)(x2:Array (Nat×Value)):Plain kn (Instr.buildSlice x0 x1 x2:Sem Value):=by
 unfold Instr.buildSlice;repeat' (first|(with_reducible first|apply az|apply aQ|apply dY|apply qV|apply aN|apply jY|apply aT|refine Plain.bind' ?_ λ_=>?_)|split|dsimp only)
theorem jG(x0:Value):Plain kn (Instr.sureAddr x0:Sem Addr):=by
 unfold Instr.sureAddr;repeat' (first|(with_reducible first|apply az|apply aN)|split)
theorem KL(x0:TypeId):Plain kn (Go.isAgg x0:Sem Bool):=by
 unfold Go.isAgg;repeat' (first|(with_reducible first|apply az|apply aQ|refine Plain.bind' ?_ λ_=>?_)|split)
theorem Ov(x0:Addr)(x1:Mode):Plain kn (Go.load x0 x1:Sem Value):=λ_=>trivial
theorem Ey(a:Addr):∀(i n:Nat) (acc:Array Value),Plain kn (loadCellsFrom a i n acc):=by
 intro i n;induction n generalizing i with
 |zero=>intro acc;exact trivial
 |succ n ih =>
  intro acc;unfold loadCellsFrom;exact Plain.bind' (Ov _ _) λv=>ih _ _
theorem rF(x0:Addr)(x1:Nat):Plain kn (Go.loadCells x0 x1:Sem (Array Value)):=by
 unfold Go.loadCells;repeat' (with_reducible apply Ey)
theorem FI(x0:TypeId)(x1:Addr):Plain kn (Go.loadVar x0 x1:Sem Value):=by
 unfold Go.loadVar;repeat' (first|(with_reducible first|apply az|apply KL|apply dY|apply rF|apply Ov|refine Plain.bind' ?_ λ_=>?_)|split)
theorem FJ(x0:TypeId)(x1:Value):Plain kn (Instr.loadAt x0 x1:Sem Value):=by
 unfold Instr.loadAt;repeat' ((with_reducible first|apply jG|apply FI|refine Plain.bind' ?_ λ_=>?_))
theorem Ez(x0:TypeId)(x1:Value)(x2:Value):Plain kn (Instr.storeAt x0 x1 x2:Sem Unit):=by
 unfold Instr.storeAt;repeat' ((with_reducible first|apply jG|apply DX|refine Plain.bind' ?_ λ_=>?_))
theorem wu(x0:TypeId)(x1:Array Value)(x2:Nat):Plain kn (Go.part x0 x1 x2:Sem Value):=by
 unfold Go.part;repeat' (first|(with_reducible first|apply az|apply KL|apply dY|apply aN|refine Plain.bind' ?_ λ_=>?_)|split)
theorem FK:∀(n:Nat) (t:TypeId) (x y:Value),Plain kn (Op.eqGuardIn n t x y):=by
 intro n;induction n with
 |zero=>intro t x y;exact trivial
 |succ n ih =>
  intro t x y;unfold Op.eqGuardIn;repeat' (first|(with_reducible first|apply ih|apply az|apply aQ|apply wu|apply dY|refine Plain.bind' ?_ λ_=>?_|refine bZ _ _ _ λ_ _=>?_|refine df _ _ _ λ_ _=>?_)|split|dsimp only)
theorem Qe(x0:BinOp)(x1:TypeId)(x2:Operand)(x3:Operand)(x4:Value)(x5:Value):Plain kn (Go.eqGuard x0 x1 x2 x3 x4 x5:Sem Unit):=by
 unfold Go.eqGuard;repeat' (first|(with_reducible first|apply az|apply FK|apply aT|apply gK|refine Plain.bind' ?_ λ_=>?_)|split)
theorem Qf{α:Type}(x1:Value):Plain kn (Go.goPanic x1:Sem α):=trivial
theorem Sm(x0:TypeId):Plain kn (Go.elemOf x0:Sem TypeId):=by
 unfold Go.elemOf;repeat' (first|(with_reducible first|apply az|apply aQ|apply aN|refine Plain.bind' ?_ λ_=>?_)|split)
theorem eB{α:Type}(x1:Go.RuntimeError):Plain kn (Go.runtimePanic x1:Sem α):=by
 unfold Go.runtimePanic;repeat' (first|(with_reducible first|apply gK|apply Qf|apply Sm|apply Bw|refine Plain.bind' ?_ λ_=>?_)|split)
theorem NL(x0:BinOp)(x1:IntKind)(x2:Int)(x3:IntKind)(x4:Int):Plain kn (Op.shift x0 x1 x2 x3 x4:Sem Value):=by
 unfold Op.shift;repeat' (first|(with_reducible first|apply az|apply eB|apply aN)|split)
theorem yM(x0:BinOp)(x1:IntKind)(x2:Int)(x3:Int):Plain kn (Op.intArith x0 x1 x2 x3:Sem Value):=by
 unfold Op.intArith;repeat' (first|(with_reducible first|apply az|apply aN)|split)
theorem KM(x0:BinOp)(x1:IntKind)(x2:Int)(x3:Int):Plain kn (Op.intDiv x0 x1 x2 x3:Sem Value):=by
 unfold Op.intDiv;repeat' (first|(with_reducible first|apply az|apply eB|apply aN)|split)
theorem Ba(x0:BinOp)(x1:IntKind)(x2:Int)(x3:Int):Plain kn (Op.intBits x0 x1 x2 x3:Sem Value):=by
 unfold Op.intBits;repeat' (first|(with_reducible first|apply az|apply aN)|split)
theorem KN(x0:BinOp)(x1:Int)(x2:Int):Plain kn (Op.intCmp x0 x1 x2:Sem Value):=by
 unfold Op.intCmp;repeat' (first|(with_reducible first|apply az|apply aN)|split)
theorem fH(x0:Go.Question):Plain kn (Go.choose x0:Sem Nat):=λ_=>trivial
theorem wF(x0:BinOp)(x1:FloatKind)(x2:Nat)(x3:Nat):Plain kn (Op.floatArith x0 x1 x2 x3:Sem Value):=by
 unfold Op.floatArith;repeat' (first|(with_reducible first|apply az|apply fH|apply aN|refine Plain.bind' ?_ λ_=>?_)|split|dsimp only)
theorem yN(x0:BinOp)(x1:FloatKind)(x2:Nat)(x3:Nat):Plain kn (Op.floatCmp x0 x1 x2 x3:Sem Value):=by
 unfold Op.floatCmp;repeat' (first|(with_reducible first|apply az|apply aN)|split)
theorem iO(x0:BinOp)(x1:FloatKind)(x2:Nat)(x3:Nat):Plain kn (Op.Complex.arith x0 x1 x2 x3:Sem Nat):=by
 unfold Op.Complex.arith;repeat' (first|(with_reducible first|apply az|apply wF|apply aN|refine Plain.bind' ?_ λ_=>?_)|split)
theorem mE(x0:FloatKind)(x1:Nat)(x2:FloatKind):Plain kn (Conv.floatToFloat x0 x1 x2:Sem Value):=by
 unfold Conv.floatToFloat;repeat' (first|(with_reducible first|apply az|apply fH|refine Plain.bind' ?_ λ_=>?_)|split|dsimp only)
theorem Bz(x0:FloatKind)(x1:Nat)(x2:FloatKind):Plain kn (Op.Complex.conv x0 x1 x2:Sem Nat):=by
 unfold Op.Complex.conv;repeat' (first|(with_reducible first|apply az|apply mE|apply aN|refine Plain.bind' ?_ λ_=>?_)|split)
theorem pK(x0:Nat)(x1:Nat):Plain kn (Op.Complex.mul x0 x1:Sem Nat):=by
 unfold Op.Complex.mul;repeat' (with_reducible apply iO)
theorem pM(x0:Nat)(x1:Nat):Plain kn (Op.Complex.sub x0 x1:Sem Nat):=by
 unfold Op.Complex.sub;repeat' (with_reducible apply iO)
theorem pO(x0:Nat)(x1:Nat):Plain kn (Op.Complex.add x0 x1:Sem Nat):=by
 unfold Op.Complex.add;repeat' (with_reducible apply iO)
theorem yO(x0:Nat)(x1:Nat)(x2:Nat)(x3:Nat):Plain kn (Op.Complex.product x0 x1 x2 x3:Sem (Nat×Nat)):=by
 unfold Op.Complex.product;repeat' ((with_reducible first|apply az|apply pK|apply pM|apply pO|refine Plain.bind' ?_ λ_=>?_))
theorem xx(x0:Value):Plain kn (Go.asBool x0:Sem Bool):=by
 unfold Go.asBool;repeat' (first|(with_reducible first|apply az|apply aN)|split)
theorem vB(x0:BinOp)(x1:FloatKind)(x2:Nat)(x3:Nat):Plain kn (Op.Complex.cmp x0 x1 x2 x3:Sem Bool):=by
 unfold Op.Complex.cmp;repeat' ((with_reducible first|apply yN|apply xx|refine Plain.bind' ?_ λ_=>?_))
theorem xu(x0:Nat)(x1:Nat)(x2:Nat)(x3:Nat)(x4:Nat):Plain kn (Op.Complex.corrected x0 x1 x2 x3 x4:Sem (Nat×Nat)):=by
 unfold Op.Complex.corrected;repeat' ((with_reducible first|apply az|apply pK|apply pO|apply pM|refine Plain.bind' ?_ λ_=>?_))
theorem DT(x0:Nat)(x1:Nat):Plain kn (Op.Complex.quo x0 x1:Sem Nat):=by
 unfold Op.Complex.quo;repeat' (with_reducible apply iO)
theorem yu(x0:Nat)(x1:Nat)(x2:Nat)(x3:Nat):Plain kn (Op.Complex.quotient x0 x1 x2 x3:Sem (Nat×Nat)):=by
 unfold Op.Complex.quotient;repeat' (first|(with_reducible first|apply az|apply vB|apply pK|apply xu|apply DT|apply pO|apply pM|refine Plain.bind' ?_ λ_=>?_)|split|dsimp only)
theorem FL(x0:BinOp)(x1:FloatKind)(x2:Nat)(x3:Nat)(x4:Nat)(x5:Nat):Plain kn (Op.complexOp x0 x1 x2 x3 x4 x5:Sem Value):=by
 unfold Op.complexOp;repeat' (first|(with_reducible first|apply az|apply iO|apply Bz|apply yO|apply yu|apply vB|apply aN|refine Plain.bind' ?_ λ_=>?_)|split)
theorem tO(x0:BinOp)(x1:ByteArray)(x2:ByteArray):Plain kn (Op.stringOp x0 x1 x2:Sem Value):=by
 unfold Op.stringOp;repeat' (first|(with_reducible first|apply az|apply aT|apply aN)|split)
theorem iR(x0:Nat):Plain kn (Go.shape x0:Sem (Option (TypeId×Nat))):=λ_=>trivial
theorem jd(x0:Nat):Plain kn (Go.getObj x0:Sem Go.Obj):=λ_=>trivial
theorem DY(x0:Nat):Plain kn (Go.numberAt x0:Sem (Option (Addr×Bool))):=by
 unfold Go.numberAt;repeat' (first|(with_reducible first|apply az|apply iR|apply jd|refine Plain.bind' ?_ λ_=>?_)|split)
theorem rG(x0:Addr):Plain kn (Go.behindNumber x0:Sem (Addr×Bool)):=by
 unfold Go.behindNumber;repeat' ((with_reducible first|apply az|apply DY|refine Plain.bind' ?_ λ_=>?_))
theorem BA(x0:Nat):Plain kn (Go.viewAt x0:Sem (Option (Addr×TypeId))):=by
 unfold Go.viewAt;repeat' (first|(with_reducible first|apply az|apply iR|apply jd|refine Plain.bind' ?_ λ_=>?_)|split)
theorem BB(x0:Addr):Plain kn (Go.noView x0:Sem Unit):=by
 unfold Go.noView;repeat' (first|(with_reducible first|apply az|apply BA|apply aT|refine Plain.bind' ?_ λ_=>?_)|split)
theorem xy(x0:Addr):Plain kn (Go.byteOf x0:Sem Nat):=by
 unfold Go.byteOf;repeat' (first|(with_reducible first|apply az|apply gK|apply BB|apply iR|apply aN|refine Plain.bind' ?_ λ_=>?_)|split|dsimp only)
theorem xz(x0:Addr):Plain kn (Go.frozen x0:Sem Bool):=λ_=>trivial
theorem KO(x0:Addr):Plain kn (Go.stringish x0:Sem Bool):=by
 unfold Go.stringish;repeat' (first|(with_reducible first|apply az|apply xz|apply iR|refine Plain.bind' ?_ λ_=>?_)|split)
theorem DZ(x0:Addr)(x1:Addr):Plain kn (Go.mayBeOne x0 x1:Sem Bool):=by
 unfold Go.mayBeOne;repeat' ((with_reducible first|apply az|apply iR|apply KO|refine Plain.bind' ?_ λ_=>?_))
theorem D6(x0:Addr)(x1:Addr):Plain kn (Go.sameAddr x0 x1:Sem Bool):=by
 unfold Go.sameAddr;repeat' (first|(with_reducible first|apply az|apply xz|apply BB|apply DZ|apply fH|apply aT|refine Plain.bind' ?_ λ_=>?_)|split)
theorem Ii(x0:Option Addr)(x1:Option Addr):Plain kn (Go.samePointer x0 x1:Sem Bool):=by
 unfold Go.samePointer;repeat' (first|(with_reducible first|apply az|apply D6)|split)
theorem FM(x0:TypeId):Plain kn (Go.typeStr x0:Sem String):=by
 unfold Go.typeStr;repeat' (first|(with_reducible first|apply az|apply iX|apply aT|refine Plain.bind' ?_ λ_=>?_)|split|dsimp only)
theorem Ka:∀(n:Nat) (t:TypeId) (x y:Value),Plain kn (Op.equalIn n t x y):=by
 intro n;induction n with
 |zero=>intro t x y;exact trivial
 |succ n ih =>
  intro t x y;unfold Op.equalIn;repeat' (first|(with_reducible first|apply ih|apply az|apply aT|apply aQ|apply aN|apply rG|apply gK|apply xy|apply iX|apply dY|apply D6|apply fH|apply Ii|apply FM|apply eB|apply wu|refine Plain.bind' ?_ λ_=>?_|refine bZ _ _ _ λ_ _=>?_|refine df _ _ _ λ_ _=>?_)|split|dsimp only)
theorem D7(x0:TypeId)(x1:Value)(x2:Value):Plain kn (Op.equal x0 x1 x2:Sem Bool):=by
 unfold Op.equal;repeat' (with_reducible apply Ka)
theorem vS(x0:Value):Plain kn (Go.asIntOf x0:Sem (IntKind×Int)):=by
 unfold Go.asIntOf;repeat' (first|(with_reducible first|apply az|apply aT|apply aN)|split)
theorem wG(x0:Value):Plain kn (Go.asInt x0:Sem Int):=by
 unfold Go.asInt;repeat' ((with_reducible first|apply az|apply vS|refine Plain.bind' ?_ λ_=>?_))
theorem qW(x0:Array TypeId)(x1:TypeId)(x2:Array Value):Plain kn (Builtin.unsafeAdd_ x0 x1 x2):=by
 obtain⟨l⟩:=x2;rcases l with _|⟨a,_|⟨b,_|⟨c,l⟩⟩⟩
 .exact trivial
 .cases a<;>exact trivial
 .cases a<;>first|exact trivial|skip
  refine Plain.bind' (s:=asInt b) (wG b) λn=>?_
  repeat' (first|(with_reducible first|apply ih|apply az|apply wG|apply iR|apply gK|apply aT|apply BA|refine Plain.bind' ?_ λ_=>?_)|split)
 .cases a<;>exact trivial
theorem FN(x0:TypeId)(x1:Value)(x2:Value):Plain kn (Go.movedPointer x0 x1 x2:Sem Value):=by
 unfold Go.movedPointer;repeat' (first|(with_reducible first|apply qW|apply DY|apply aT|refine Plain.bind' ?_ λ_=>?_)|split)
theorem D8(x0:Addr)(x1:Bool):Plain kn (Go.asNumber x0 x1:Sem Value):=by
 unfold Go.asNumber;repeat' (first|((with_reducible refine xw _ ?_);rfl)|(with_reducible first|apply az|refine Plain.bind' ?_ λ_=>?_))
theorem Ij(x0:TypeId)(x1:Value)(x2:Value):Plain kn (Go.movedNumber x0 x1 x2:Sem Value):=by
 unfold Go.movedNumber;repeat' (first|(with_reducible first|apply az|apply aQ|apply rG|apply qW|apply D8|apply aT|refine Plain.bind' ?_ λ_=>?_)|split)
theorem xA(x0:Addr)(x1:Addr):Plain kn (Op.twoPlaces x0 x1:Sem (Nat×Nat)):=by
 unfold Op.twoPlaces;repeat' (first|(with_reducible first|apply az|apply gK|apply xy|apply aT|refine Plain.bind' ?_ λ_=>?_)|split)
theorem Kb(x0:IntKind)(x1:Addr)(x2:Addr):Plain kn (Op.addrSub x0 x1 x2:Sem Value):=by
 unfold Op.addrSub;repeat' ((with_reducible first|apply az|apply xA|refine Plain.bind' ?_ λ_=>?_))
theorem Kc(x0:BinOp)(x1:Addr)(x2:Addr):Plain kn (Op.addrCmp x0 x1 x2:Sem Value):=by
 unfold Op.addrCmp;repeat' (first|(with_reducible first|apply az|apply xA|apply aT|refine Plain.bind' ?_ λ_=>?_)|split)
theorem Ke(x0:IntKind)(x1:Addr)(x2:Int):Plain kn (Op.addrMod x0 x1 x2:Sem Value):=by
 unfold Op.addrMod;repeat' (first|(with_reducible first|apply az|apply iR|apply iX|apply xy|apply aT|refine Plain.bind' ?_ λ_=>?_)|split|dsimp only)
theorem VF(x0:BinOp)(x1:TypeId)(x2:Value)(x3:Value):Plain kn (Go.binOp x0 x1 x2 x3:Sem Value):=by
 unfold Go.binOp;repeat' (first|(with_reducible first|apply az|apply NL|apply aN|apply yM|apply KM|apply Ba|apply KN|apply wF|apply yN|apply FL|apply tO|apply D7|apply aQ|apply FN|apply Ij|apply rG|apply Kb|apply Kc|apply Ke|apply aT|refine Plain.bind' ?_ λ_=>?_)|split)
end
end
