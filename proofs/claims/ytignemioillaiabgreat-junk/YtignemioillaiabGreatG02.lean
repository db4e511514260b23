/- The operations are plain. -/
import Derived.Test.YtignemioillaiabGreatG01
namespace Go.Proofs.YtignemioillaiabGreat
set_option maxHeartbeats 8000000
set_option maxRecDepth 100000
section
open Go
section
variable {kn:List Nat}
theorem Plain.map' {α β:Type} {f:α->β} {s:Sem α} (h:Plain kn s):Plain kn (f <$> s):=by
 rw [map_eq_pure_bind];exact Plain.bind' h λ _=>trivial
theorem KX {α β:Type} (f:α->β->Sem (ForInStep β)) (hf:∀ a b,Plain kn (f a b)):∀ (l:List α) (b:β),Plain kn (forIn l b f):=by
 intro l;induction l with
 | nil=>intro b;exact trivial
 | cons a l ih =>
  intro b;rw [List.forIn_cons];refine Plain.bind' (hf a b) λ r=>?_
  cases r with
  | done b=>exact trivial
  | yield b=>exact ih b
theorem bX {α β:Type} (xs:Array α) (b:β) (f:α->β->Sem (ForInStep β)) (hf:∀ a b,Plain kn (f a b)):Plain kn (forIn xs b f):=by
 rw [<- Array.forIn_toList];exact KX f hf _ _
theorem cK {β:Type} (r:Std.Legacy.Range) (b:β) (f:Nat->β->Sem (ForInStep β)) (hf:∀ a b,Plain kn (f a b)):Plain kn (forIn r b f):=by
 rw [Std.Legacy.Range.forIn_eq_forIn_range'];exact KX f hf _ _
theorem cZ {α β:Type} (xs:Array α) (f:α->Sem β) (hf:∀ a,Plain kn (f a)):Plain kn (xs.mapM f):=by
 rw [Array.mapM_eq_mapM_toList];refine Plain.map' ?_;generalize xs.toList=l;induction l with
 | nil=>exact trivial
 | cons a l ih =>
  rw [List.mapM_cons];exact Plain.bind' (hf a) λ _=>Plain.bind' ih λ _=>trivial
theorem ay {α:Type} (a:α):Plain kn (pure a:Sem α):=trivial
theorem FX:Plain kn (mark .noRoom):=⟨trivial,trivial⟩
theorem Plain.ite {α:Type} {c:Prop} [Decidable c] {a b:Sem α} (h1:c->Plain kn a) (h2:¬ c->Plain kn b):Plain kn (if c then a else b):=by
 split
 ·exact h1 ‹_›
 ·exact h2 ‹_›
theorem bW {α β:Type} (f:β->α->Sem β) (hf:∀ b a,Plain kn (f b a)):∀ (l:List α) (b:β),Plain kn (List.foldlM f b l):=by
 intro l;induction l with
 | nil=>intro b;exact trivial
 | cons a l ih =>
  intro b;rw [List.foldlM_cons];exact Plain.bind' (hf b a) λ _=>ih _
theorem vg (o:Obj) (h:o.isChan=false):Plain kn (newObj o):=⟨h,λ _=>trivial⟩
theorem Dt (r:Nat) (o:Obj) (h:r∈kn) (ho:o.isChan=false):Plain kn (setObj r o):=⟨h,ho,trivial⟩
theorem fE:Plain kn (Go.program:Go.Sem Go.Program):=λ _=>trivial
theorem aN {α:Type} (x1:String):Plain kn (Go.stuck x1:Go.Sem α):=trivial
theorem iB (x0:Go.TypeId):Plain kn (Go.typeInfo x0:Go.Sem Go.TypeInfo):=by
 unfold Go.typeInfo;repeat' (first | (with_reducible first | apply ay | apply fE | apply aN | refine Plain.bind' ?_ λ _=>?_) | split)
theorem aU {α:Type} (x1:Go.Unsupported):Plain kn (Go.unsupported x1:Go.Sem α):=trivial
theorem jw (x0:Go.TypeId):Plain kn (Go.zeroValue x0:Go.Sem Go.Value):=by
 unfold Go.zeroValue;repeat' (first | (with_reducible first | apply ay | apply iB | apply aU | refine Plain.bind' ?_ λ _=>?_) | split)
theorem dR (x0:Go.TypeId):Plain kn (Go.sizeOf x0:Go.Sem Nat):=by
 unfold Go.sizeOf;repeat' ((with_reducible first | apply ay | apply iB | refine Plain.bind' ?_ λ _=>?_))
theorem Rz (x0:Go.Addr) (x1:Go.Value) (x2:Go.Mode):Plain kn (Go.store x0 x1 x2:Go.Sem Unit):=trivial
theorem oG (a:Addr):∀ (vs:List Value) (i:Nat),Plain kn (storeCells a vs i):=by
 intro vs;induction vs with
 | nil=>intro i;unfold storeCells;exact trivial
 | cons v vs ih=>intro i;unfold storeCells;exact Plain.bind' (Rz _ _ _) λ _=>ih _
theorem BH (x0:Go.TypeId) (x1:Go.Addr) (x2:Go.Value):Plain kn (Go.storeVar x0 x1 x2:Go.Sem Unit):=by
 unfold Go.storeVar;repeat' (first | (with_reducible first | apply dR | apply oG | apply aN | refine Plain.bind' ?_ λ _=>?_) | split)
theorem oZ (x0:Go.TypeId) (x1:Array Go.Value):Plain kn (Go.newRow x0 x1:Go.Sem Go.Addr):=by
 unfold Go.newRow;repeat' (first | ((with_reducible refine vg _ ?_);rfl) | (with_reducible first | apply ay | refine Plain.bind' ?_ λ _=>?_))
theorem zx (x0:Go.TypeId) (x1:Go.Value):Plain kn (Go.newVar x0 x1:Go.Sem Go.Addr):=by
 unfold Go.newVar;repeat' (with_reducible apply oZ)
theorem E8 (x0:Go.TypeId) (x1:Bool) (x2:Go.Value):Plain kn (Go.Instr.alloc x0 x1 x2:Go.Sem Go.Value):=by
 unfold Go.Instr.alloc;repeat' (first | (with_reducible first | apply ay | apply jw | apply BH | apply zx | refine Plain.bind' ?_ λ _=>?_) | split)
theorem Ig (x0:Go.TypeId) (x1:Go.Value):Plain kn (Go.Instr.box x0 x1:Go.Sem Go.Value):=by
 unfold Go.Instr.box;repeat' ((with_reducible first | apply ay | apply zx | refine Plain.bind' ?_ λ _=>?_))
theorem aS (x0:Go.TypeId):Plain kn (Go.underlying x0:Go.Sem Go.TypeDesc):=by
 unfold Go.underlying;repeat' (first | (with_reducible first | apply ay | apply fE | apply aN | refine Plain.bind' ?_ λ _=>?_) | split)
theorem E9 (x0:Go.TypeId) (x1:Array (Nat×Go.Value)):Plain kn (Go.Instr.build x0 x1:Go.Sem Go.Value):=by
 unfold Go.Instr.build;repeat' (first | (with_reducible first | apply ay | apply jw | apply aS | apply dR | apply aN | refine Plain.bind' ?_ λ _=>?_ | refine cZ _ _ λ _=>?_) | split)
theorem zn (x0:Go.TypeId) (x1:Nat) (x2:Array (Nat×Go.Value)):Plain kn (Go.Instr.buildSlice x0 x1 x2:Go.Sem Go.Value):=by
 unfold Go.Instr.buildSlice;repeat' (first | (with_reducible first | apply ay | apply aS | apply dR | apply oZ | apply aN | apply jw | apply aU | refine Plain.bind' ?_ λ _=>?_) | split | dsimp only)
theorem jf (x0:Go.Value):Plain kn (Go.Instr.sureAddr x0:Go.Sem Go.Addr):=by
 unfold Go.Instr.sureAddr;repeat' (first | (with_reducible first | apply ay | apply aN) | split)
theorem Ih (x0:Go.TypeId):Plain kn (Go.isAgg x0:Go.Sem Bool):=by
 unfold Go.isAgg;repeat' (first | (with_reducible first | apply ay | apply aS | refine Plain.bind' ?_ λ _=>?_) | split)
theorem KY (x0:Go.Addr) (x1:Go.Mode):Plain kn (Go.load x0 x1:Go.Sem Go.Value):=λ _=>trivial
theorem Cn (a:Addr):∀ (i n:Nat) (acc:Array Value),Plain kn (loadCellsFrom a i n acc):=by
 intro i n;induction n generalizing i with
 | zero=>intro acc;exact trivial
 | succ n ih =>
  intro acc;unfold loadCellsFrom;exact Plain.bind' (KY _ _) λ v=>ih _ _
theorem pR (x0:Go.Addr) (x1:Nat):Plain kn (Go.loadCells x0 x1:Go.Sem (Array Go.Value)):=by
 unfold Go.loadCells;repeat' (with_reducible apply Cn)
theorem Du (x0:Go.TypeId) (x1:Go.Addr):Plain kn (Go.loadVar x0 x1:Go.Sem Go.Value):=by
 unfold Go.loadVar;repeat' (first | (with_reducible first | apply ay | apply Ih | apply dR | apply pR | apply KY | refine Plain.bind' ?_ λ _=>?_) | split)
theorem Dv (x0:Go.TypeId) (x1:Go.Value):Plain kn (Go.Instr.loadAt x0 x1:Go.Sem Go.Value):=by
 unfold Go.Instr.loadAt;repeat' ((with_reducible first | apply jf | apply Du | refine Plain.bind' ?_ λ _=>?_))
theorem Co (x0:Go.TypeId) (x1:Go.Value) (x2:Go.Value):Plain kn (Go.Instr.storeAt x0 x1 x2:Go.Sem Unit):=by
 unfold Go.Instr.storeAt;repeat' ((with_reducible first | apply jf | apply BH | refine Plain.bind' ?_ λ _=>?_))
theorem ui (x0:Go.TypeId) (x1:Array Go.Value) (x2:Nat):Plain kn (Go.part x0 x1 x2:Go.Sem Go.Value):=by
 unfold Go.part;repeat' (first | (with_reducible first | apply ay | apply Ih | apply dR | apply aN | refine Plain.bind' ?_ λ _=>?_) | split)
theorem Dw:∀ (n:Nat) (t:TypeId) (x y:Value),Plain kn (Op.eqGuardIn n t x y):=by
 intro n;induction n with
 | zero=>intro t x y;exact trivial
 | succ n ih =>
  intro t x y;unfold Op.eqGuardIn;repeat' (first | (with_reducible first | apply ih | apply ay | apply aS | apply ui | apply dR | refine Plain.bind' ?_ λ _=>?_ | refine bX _ _ _ λ _ _=>?_ | refine cK _ _ _ λ _ _=>?_) | split | dsimp only)
theorem M4 (x0:Go.BinOp) (x1:Go.TypeId) (x2:Go.Operand) (x3:Go.Operand) (x4:Go.Value) (x5:Go.Value):Plain kn (Go.eqGuard x0 x1 x2 x3 x4 x5:Go.Sem Unit):=by
 unfold Go.eqGuard;repeat' (first | (with_reducible first | apply ay | apply Dw | apply aU | apply fE | refine Plain.bind' ?_ λ _=>?_) | split)
theorem M5 {α:Type} (x1:Go.Value):Plain kn (Go.goPanic x1:Go.Sem α):=trivial
theorem OW (x0:Go.TypeId):Plain kn (Go.elemOf x0:Go.Sem Go.TypeId):=by
 unfold Go.elemOf;repeat' (first | (with_reducible first | apply ay | apply aS | apply aN | refine Plain.bind' ?_ λ _=>?_) | split)
theorem dX {α:Type} (x1:Go.RuntimeError):Plain kn (Go.runtimePanic x1:Go.Sem α):=by
 unfold Go.runtimePanic;repeat' (first | (with_reducible first | apply fE | apply M5 | apply OW | apply zx | refine Plain.bind' ?_ λ _=>?_) | split)
theorem Kq (x0:Go.BinOp) (x1:Go.IntKind) (x2:Int) (x3:Go.IntKind) (x4:Int):Plain kn (Go.Op.shift x0 x1 x2 x3 x4:Go.Sem Go.Value):=by
 unfold Go.Op.shift;repeat' (first | (with_reducible first | apply ay | apply dX | apply aN) | split)
theorem wR (x0:Go.BinOp) (x1:Go.IntKind) (x2:Int) (x3:Int):Plain kn (Go.Op.intArith x0 x1 x2 x3:Go.Sem Go.Value):=by
 unfold Go.Op.intArith;repeat' (first | (with_reducible first | apply ay | apply aN) | split)
theorem Ii (x0:Go.BinOp) (x1:Go.IntKind) (x2:Int) (x3:Int):Plain kn (Go.Op.intDiv x0 x1 x2 x3:Go.Sem Go.Value):=by
 unfold Go.Op.intDiv;repeat' (first | (with_reducible first | apply ay | apply dX | apply aN) | split)
theorem yX (x0:Go.BinOp) (x1:Go.IntKind) (x2:Int) (x3:Int):Plain kn (Go.Op.intBits x0 x1 x2 x3:Go.Sem Go.Value):=by
 unfold Go.Op.intBits;repeat' (first | (with_reducible first | apply ay | apply aN) | split)
theorem Ij (x0:Go.BinOp) (x1:Int) (x2:Int):Plain kn (Go.Op.intCmp x0 x1 x2:Go.Sem Go.Value):=by
 unfold Go.Op.intCmp;repeat' (first | (with_reducible first | apply ay | apply aN) | split)
theorem eY (x0:Go.Question):Plain kn (Go.choose x0:Go.Sem Nat):=λ _=>trivial
theorem uu (x0:Go.BinOp) (x1:Go.FloatKind) (x2:Nat) (x3:Nat):Plain kn (Go.Op.floatArith x0 x1 x2 x3:Go.Sem Go.Value):=by
 unfold Go.Op.floatArith;repeat' (first | (with_reducible first | apply ay | apply eY | apply aN | refine Plain.bind' ?_ λ _=>?_) | split | dsimp only)
theorem wS (x0:Go.BinOp) (x1:Go.FloatKind) (x2:Nat) (x3:Nat):Plain kn (Go.Op.floatCmp x0 x1 x2 x3:Go.Sem Go.Value):=by
 unfold Go.Op.floatCmp;repeat' (first | (with_reducible first | apply ay | apply aN) | split)
theorem ig (x0:Go.BinOp) (x1:Go.FloatKind) (x2:Nat) (x3:Nat):Plain kn (Go.Op.Complex.arith x0 x1 x2 x3:Go.Sem Nat):=by
 unfold Go.Op.Complex.arith;repeat' (first | (with_reducible first | apply ay | apply uu | apply aN | refine Plain.bind' ?_ λ _=>?_) | split)
theorem kQ (x0:Go.FloatKind) (x1:Nat) (x2:Go.FloatKind):Plain kn (Go.Conv.floatToFloat x0 x1 x2:Go.Sem Go.Value):=by
 unfold Go.Conv.floatToFloat;repeat' (first | (with_reducible first | apply ay | apply eY | refine Plain.bind' ?_ λ _=>?_) | split | dsimp only)
theorem zy (x0:Go.FloatKind) (x1:Nat) (x2:Go.FloatKind):Plain kn (Go.Op.Complex.conv x0 x1 x2:Go.Sem Nat):=by
 unfold Go.Op.Complex.conv;repeat' (first | (with_reducible first | apply ay | apply kQ | apply aN | refine Plain.bind' ?_ λ _=>?_) | split)
theorem nK (x0:Nat) (x1:Nat):Plain kn (Go.Op.Complex.mul x0 x1:Go.Sem Nat):=by
 unfold Go.Op.Complex.mul;repeat' (with_reducible apply ig)
theorem nL (x0:Nat) (x1:Nat):Plain kn (Go.Op.Complex.sub x0 x1:Go.Sem Nat):=by
 unfold Go.Op.Complex.sub;repeat' (with_reducible apply ig)
theorem nM (x0:Nat) (x1:Nat):Plain kn (Go.Op.Complex.add x0 x1:Go.Sem Nat):=by
 unfold Go.Op.Complex.add;repeat' (with_reducible apply ig)
theorem wT (x0:Nat) (x1:Nat) (x2:Nat) (x3:Nat):Plain kn (Go.Op.Complex.product x0 x1 x2 x3:Go.Sem (Nat×Nat)):=by
 unfold Go.Op.Complex.product;repeat' ((with_reducible first | apply ay | apply nK | apply nL | apply nM | refine Plain.bind' ?_ λ _=>?_))
theorem vw (x0:Go.Value):Plain kn (Go.asBool x0:Go.Sem Bool):=by
 unfold Go.asBool;repeat' (first | (with_reducible first | apply ay | apply aN) | split)
theorem tq (x0:Go.BinOp) (x1:Go.FloatKind) (x2:Nat) (x3:Nat):Plain kn (Go.Op.Complex.cmp x0 x1 x2 x3:Go.Sem Bool):=by
 unfold Go.Op.Complex.cmp;repeat' ((with_reducible first | apply wS | apply vw | refine Plain.bind' ?_ λ _=>?_))
theorem ve (x0:Nat) (x1:Nat) (x2:Nat) (x3:Nat) (x4:Nat):Plain kn (Go.Op.Complex.corrected x0 x1 x2 x3 x4:Go.Sem (Nat×Nat)):=by
 unfold Go.Op.Complex.corrected;repeat' ((with_reducible first | apply ay | apply nK | apply nM | apply nL | refine Plain.bind' ?_ λ _=>?_))
theorem BD (x0:Nat) (x1:Nat):Plain kn (Go.Op.Complex.quo x0 x1:Go.Sem Nat):=by
 unfold Go.Op.Complex.quo;repeat' (with_reducible apply ig)
theorem wG (x0:Nat) (x1:Nat) (x2:Nat) (x3:Nat):Plain kn (Go.Op.Complex.quotient x0 x1 x2 x3:Go.Sem (Nat×Nat)):=by
 unfold Go.Op.Complex.quotient;repeat' (first | (with_reducible first | apply ay | apply tq | apply nK | apply ve | apply BD | apply nM | apply nL | refine Plain.bind' ?_ λ _=>?_) | split | dsimp only)
theorem Dx (x0:Go.BinOp) (x1:Go.FloatKind) (x2:Nat) (x3:Nat) (x4:Nat) (x5:Nat):Plain kn (Go.Op.complexOp x0 x1 x2 x3 x4 x5:Go.Sem Go.Value):=by
 unfold Go.Op.complexOp;repeat' (first | (with_reducible first | apply ay | apply ig | apply zy | apply wT | apply wG | apply tq | apply aN | refine Plain.bind' ?_ λ _=>?_) | split)
theorem qQ (x0:Go.BinOp) (x1:ByteArray) (x2:ByteArray):Plain kn (Go.Op.stringOp x0 x1 x2:Go.Sem Go.Value):=by
 unfold Go.Op.stringOp;repeat' (first | (with_reducible first | apply ay | apply aU | apply aN) | split)
theorem iq (x0:Nat):Plain kn (Go.shape x0:Go.Sem (Option (Go.TypeId×Nat))):=λ _=>trivial
theorem iJ (x0:Nat):Plain kn (Go.getObj x0:Go.Sem Go.Obj):=λ _=>trivial
theorem BI (x0:Nat):Plain kn (Go.numberAt x0:Go.Sem (Option (Go.Addr×Bool))):=by
 unfold Go.numberAt;repeat' (first | (with_reducible first | apply ay | apply iq | apply iJ | refine Plain.bind' ?_ λ _=>?_) | split)
theorem pU (x0:Go.Addr):Plain kn (Go.behindNumber x0:Go.Sem (Go.Addr×Bool)):=by
 unfold Go.behindNumber;repeat' ((with_reducible first | apply ay | apply BI | refine Plain.bind' ?_ λ _=>?_))
theorem zz (x0:Nat):Plain kn (Go.viewAt x0:Go.Sem (Option (Go.Addr×Go.TypeId))):=by
 unfold Go.viewAt;repeat' (first | (with_reducible first | apply ay | apply iq | apply iJ | refine Plain.bind' ?_ λ _=>?_) | split)
theorem zA (x0:Go.Addr):Plain kn (Go.noView x0:Go.Sem Unit):=by
 unfold Go.noView;repeat' (first | (with_reducible first | apply ay | apply zz | apply aU | refine Plain.bind' ?_ λ _=>?_) | split)
theorem vz (x0:Go.Addr):Plain kn (Go.byteOf x0:Go.Sem Nat):=by
 unfold Go.byteOf;repeat' (first | (with_reducible first | apply ay | apply fE | apply zA | apply iq | apply aN | refine Plain.bind' ?_ λ _=>?_) | split | dsimp only)
theorem vB (x0:Go.Addr):Plain kn (Go.frozen x0:Go.Sem Bool):=λ _=>trivial
theorem Ik (x0:Go.Addr):Plain kn (Go.stringish x0:Go.Sem Bool):=by
 unfold Go.stringish;repeat' (first | (with_reducible first | apply ay | apply vB | apply iq | refine Plain.bind' ?_ λ _=>?_) | split)
theorem BJ (x0:Go.Addr) (x1:Go.Addr):Plain kn (Go.mayBeOne x0 x1:Go.Sem Bool):=by
 unfold Go.mayBeOne;repeat' ((with_reducible first | apply ay | apply iq | apply Ik | refine Plain.bind' ?_ λ _=>?_))
theorem BK (x0:Go.Addr) (x1:Go.Addr):Plain kn (Go.sameAddr x0 x1:Go.Sem Bool):=by
 unfold Go.sameAddr;repeat' (first | (with_reducible first | apply ay | apply vB | apply zA | apply BJ | apply eY | apply aU | refine Plain.bind' ?_ λ _=>?_) | split)
theorem Fa (x0:Option Go.Addr) (x1:Option Go.Addr):Plain kn (Go.samePointer x0 x1:Go.Sem Bool):=by
 unfold Go.samePointer;repeat' (first | (with_reducible first | apply ay | apply BK) | split)
theorem Dy (x0:Go.TypeId):Plain kn (Go.typeStr x0:Go.Sem String):=by
 unfold Go.typeStr;repeat' (first | (with_reducible first | apply ay | apply iB | apply aU | refine Plain.bind' ?_ λ _=>?_) | split | dsimp only)
theorem He:∀ (n:Nat) (t:TypeId) (x y:Value),Plain kn (Op.equalIn n t x y):=by
 intro n;induction n with
 | zero=>intro t x y;exact trivial
 | succ n ih =>
  intro t x y;unfold Op.equalIn;repeat' (first | (with_reducible first | apply ih | apply ay | apply aU | apply aS | apply aN | apply pU | apply fE | apply vz | apply iB | apply dR | apply BK | apply eY | apply Fa | apply Dy | apply dX | apply ui | refine Plain.bind' ?_ λ _=>?_ | refine bX _ _ _ λ _ _=>?_ | refine cK _ _ _ λ _ _=>?_) | split | dsimp only)
theorem BL (x0:Go.TypeId) (x1:Go.Value) (x2:Go.Value):Plain kn (Go.Op.equal x0 x1 x2:Go.Sem Bool):=by
 unfold Go.Op.equal;repeat' (with_reducible apply He)
theorem tT (x0:Go.Value):Plain kn (Go.asIntOf x0:Go.Sem (Go.IntKind×Int)):=by
 unfold Go.asIntOf;repeat' (first | (with_reducible first | apply ay | apply aU | apply aN) | split)
theorem uw (x0:Go.Value):Plain kn (Go.asInt x0:Go.Sem Int):=by
 unfold Go.asInt;repeat' ((with_reducible first | apply ay | apply tT | refine Plain.bind' ?_ λ _=>?_))
theorem pg (x0:Array TypeId) (x1:TypeId) (x2:Array Value):Plain kn (Builtin.unsafeAdd_ x0 x1 x2):=by
 obtain ⟨l⟩:=x2;rcases l with _ | ⟨a,_ | ⟨b,_ | ⟨c,l⟩⟩⟩
 ·exact trivial
 ·cases a <;> exact trivial
 ·cases a <;> first | exact trivial | skip
  refine Plain.bind' (s:=asInt b) (uw b) λ n=>?_
  repeat' (first | (with_reducible first | apply ih | apply ay | apply uw | apply iq | apply fE | apply aU | apply zz | refine Plain.bind' ?_ λ _=>?_) | split)
 ·cases a <;> exact trivial
theorem Dz (x0:Go.TypeId) (x1:Go.Value) (x2:Go.Value):Plain kn (Go.movedPointer x0 x1 x2:Go.Sem Go.Value):=by
 unfold Go.movedPointer;repeat' (first | (with_reducible first | apply pg | apply BI | apply aU | refine Plain.bind' ?_ λ _=>?_) | split)
theorem BM (x0:Go.Addr) (x1:Bool):Plain kn (Go.asNumber x0 x1:Go.Sem Go.Value):=by
 unfold Go.asNumber;repeat' (first | ((with_reducible refine vg _ ?_);rfl) | (with_reducible first | apply ay | refine Plain.bind' ?_ λ _=>?_))
theorem Fb (x0:Go.TypeId) (x1:Go.Value) (x2:Go.Value):Plain kn (Go.movedNumber x0 x1 x2:Go.Sem Go.Value):=by
 unfold Go.movedNumber;repeat' (first | (with_reducible first | apply ay | apply aS | apply pU | apply pg | apply BM | apply aU | refine Plain.bind' ?_ λ _=>?_) | split)
theorem vC (x0:Go.Addr) (x1:Go.Addr):Plain kn (Go.Op.twoPlaces x0 x1:Go.Sem (Nat×Nat)):=by
 unfold Go.Op.twoPlaces;repeat' (first | (with_reducible first | apply ay | apply fE | apply vz | apply aU | refine Plain.bind' ?_ λ _=>?_) | split)
theorem Hf (x0:Go.IntKind) (x1:Go.Addr) (x2:Go.Addr):Plain kn (Go.Op.addrSub x0 x1 x2:Go.Sem Go.Value):=by
 unfold Go.Op.addrSub;repeat' ((with_reducible first | apply ay | apply vC | refine Plain.bind' ?_ λ _=>?_))
theorem Hg (x0:Go.BinOp) (x1:Go.Addr) (x2:Go.Addr):Plain kn (Go.Op.addrCmp x0 x1 x2:Go.Sem Go.Value):=by
 unfold Go.Op.addrCmp;repeat' (first | (with_reducible first | apply ay | apply vC | apply aU | refine Plain.bind' ?_ λ _=>?_) | split)
theorem Hl (x0:Go.IntKind) (x1:Go.Addr) (x2:Int):Plain kn (Go.Op.addrMod x0 x1 x2:Go.Sem Go.Value):=by
 unfold Go.Op.addrMod;repeat' (first | (with_reducible first | apply ay | apply iq | apply iB | apply vz | apply aU | refine Plain.bind' ?_ λ _=>?_) | split | dsimp only)
theorem RA (x0:Go.BinOp) (x1:Go.TypeId) (x2:Go.Value) (x3:Go.Value):Plain kn (Go.binOp x0 x1 x2 x3:Go.Sem Go.Value):=by
 unfold Go.binOp;repeat' (first | (with_reducible first | apply ay | apply Kq | apply aN | apply wR | apply Ii | apply yX | apply Ij | apply uu | apply wS | apply Dx | apply qQ | apply BL | apply aS | apply Dz | apply Fb | apply pU | apply Hf | apply Hg | apply Hl | apply aU | refine Plain.bind' ?_ λ _=>?_) | split)
end
end
end Go.Proofs.YtignemioillaiabGreat
