/- The operations are plain. -/
import Derived.Test.YtignemioillaiaaGreatG01
namespace Go.Proofs.YtignemioillaiaaGreat
set_option maxHeartbeats 8000000
set_option maxRecDepth 100000
section
open Go
section
variable {kn:List Nat}
theorem Plain.map' {α β:Type} {f:α->β} {s:Sem α} (h:Plain kn s):Plain kn (f <$> s):=by
 rw [map_eq_pure_bind];exact Plain.bind' h λ _=>trivial
theorem Li {α β:Type} (f:α->β->Sem (ForInStep β)) (hf:∀ a b,Plain kn (f a b)):∀ (l:List α) (b:β),Plain kn (forIn l b f):=by
 intro l;induction l with
 | nil=>intro b;exact trivial
 | cons a l ih =>
  intro b;rw [List.forIn_cons];refine Plain.bind' (hf a b) λ r=>?_
  cases r with
  | done b=>exact trivial
  | yield b=>exact ih b
theorem bY {α β:Type} (xs:Array α) (b:β) (f:α->β->Sem (ForInStep β)) (hf:∀ a b,Plain kn (f a b)):Plain kn (forIn xs b f):=by
 rw [<- Array.forIn_toList];exact Li f hf _ _
theorem cO {β:Type} (r:Std.Legacy.Range) (b:β) (f:Nat->β->Sem (ForInStep β)) (hf:∀ a b,Plain kn (f a b)):Plain kn (forIn r b f):=by
 rw [Std.Legacy.Range.forIn_eq_forIn_range'];exact Li f hf _ _
theorem df {α β:Type} (xs:Array α) (f:α->Sem β) (hf:∀ a,Plain kn (f a)):Plain kn (xs.mapM f):=by
 rw [Array.mapM_eq_mapM_toList];refine Plain.map' ?_;generalize xs.toList=l;induction l with
 | nil=>exact trivial
 | cons a l ih =>
  rw [List.mapM_cons];exact Plain.bind' (hf a) λ _=>Plain.bind' ih λ _=>trivial
theorem ay {α:Type} (a:α):Plain kn (pure a:Sem α):=trivial
theorem Ga:Plain kn (mark .noRoom):=⟨trivial,trivial⟩
theorem Plain.ite {α:Type} {c:Prop} [Decidable c] {a b:Sem α} (h1:c->Plain kn a) (h2:¬ c->Plain kn b):Plain kn (if c then a else b):=by
 split
 ·exact h1 ‹_›
 ·exact h2 ‹_›
theorem bX {α β:Type} (f:β->α->Sem β) (hf:∀ b a,Plain kn (f b a)):∀ (l:List α) (b:β),Plain kn (List.foldlM f b l):=by
 intro l;induction l with
 | nil=>intro b;exact trivial
 | cons a l ih =>
  intro b;rw [List.foldlM_cons];exact Plain.bind' (hf b a) λ _=>ih _
theorem vG (o:Obj) (h:o.isChan=false):Plain kn (newObj o):=⟨h,λ _=>trivial⟩
theorem DC (r:Nat) (o:Obj) (h:r∈kn) (ho:o.isChan=false):Plain kn (setObj r o):=⟨h,ho,trivial⟩
theorem fH:Plain kn (Go.program:Go.Sem Go.Program):=λ _=>trivial
theorem aO {α:Type} (x1:String):Plain kn (Go.stuck x1:Go.Sem α):=trivial
theorem iF (x0:Go.TypeId):Plain kn (Go.typeInfo x0:Go.Sem Go.TypeInfo):=by
 unfold Go.typeInfo;repeat' (first | (with_reducible first | apply ay | apply fH | apply aO | refine Plain.bind' ?_ λ _=>?_) | split)
theorem aU {α:Type} (x1:Go.Unsupported):Plain kn (Go.unsupported x1:Go.Sem α):=trivial
theorem jA (x0:Go.TypeId):Plain kn (Go.zeroValue x0:Go.Sem Go.Value):=by
 unfold Go.zeroValue;repeat' (first | (with_reducible first | apply ay | apply iF | apply aU | refine Plain.bind' ?_ λ _=>?_) | split)
theorem dS (x0:Go.TypeId):Plain kn (Go.sizeOf x0:Go.Sem Nat):=by
 unfold Go.sizeOf;repeat' ((with_reducible first | apply ay | apply iF | refine Plain.bind' ?_ λ _=>?_))
theorem R7 (x0:Go.Addr) (x1:Go.Value) (x2:Go.Mode):Plain kn (Go.store x0 x1 x2:Go.Sem Unit):=trivial
theorem oG (a:Addr):∀ (vs:List Value) (i:Nat),Plain kn (storeCells a vs i):=by
 intro vs;induction vs with
 | nil=>intro i;unfold storeCells;exact trivial
 | cons v vs ih=>intro i;unfold storeCells;exact Plain.bind' (R7 _ _ _) λ _=>ih _
theorem BO (x0:Go.TypeId) (x1:Go.Addr) (x2:Go.Value):Plain kn (Go.storeVar x0 x1 x2:Go.Sem Unit):=by
 unfold Go.storeVar;repeat' (first | (with_reducible first | apply dS | apply oG | apply aO | refine Plain.bind' ?_ λ _=>?_) | split)
theorem oZ (x0:Go.TypeId) (x1:Array Go.Value):Plain kn (Go.newRow x0 x1:Go.Sem Go.Addr):=by
 unfold Go.newRow;repeat' (first | ((with_reducible refine vG _ ?_);rfl) | (with_reducible first | apply ay | refine Plain.bind' ?_ λ _=>?_))
theorem zF (x0:Go.TypeId) (x1:Go.Value):Plain kn (Go.newVar x0 x1:Go.Sem Go.Addr):=by
 unfold Go.newVar;repeat' (with_reducible apply oZ)
theorem Fp (x0:Go.TypeId) (x1:Bool) (x2:Go.Value):Plain kn (Go.Instr.alloc x0 x1 x2:Go.Sem Go.Value):=by
 unfold Go.Instr.alloc;repeat' (first | (with_reducible first | apply ay | apply jA | apply BO | apply zF | refine Plain.bind' ?_ λ _=>?_) | split)
theorem Iw (x0:Go.TypeId) (x1:Go.Value):Plain kn (Go.Instr.box x0 x1:Go.Sem Go.Value):=by
 unfold Go.Instr.box;repeat' ((with_reducible first | apply ay | apply zF | refine Plain.bind' ?_ λ _=>?_))
theorem aS (x0:Go.TypeId):Plain kn (Go.underlying x0:Go.Sem Go.TypeDesc):=by
 unfold Go.underlying;repeat' (first | (with_reducible first | apply ay | apply fH | apply aO | refine Plain.bind' ?_ λ _=>?_) | split)
theorem Fq (x0:Go.TypeId) (x1:Array (Nat×Go.Value)):Plain kn (Go.Instr.build x0 x1:Go.Sem Go.Value):=by
 unfold Go.Instr.build;repeat' (first | (with_reducible first | apply ay | apply jA | apply aS | apply dS | apply aO | refine Plain.bind' ?_ λ _=>?_ | refine df _ _ λ _=>?_) | split)
theorem zy (x0:Go.TypeId) (x1:Nat) (x2:Array (Nat×Go.Value)):Plain kn (Go.Instr.buildSlice x0 x1 x2:Go.Sem Go.Value):=by
 unfold Go.Instr.buildSlice;repeat' (first | (with_reducible first | apply ay | apply aS | apply dS | apply oZ | apply aO | apply jA | apply aU | refine Plain.bind' ?_ λ _=>?_) | split | dsimp only)
theorem ji (x0:Go.Value):Plain kn (Go.Instr.sureAddr x0:Go.Sem Go.Addr):=by
 unfold Go.Instr.sureAddr;repeat' (first | (with_reducible first | apply ay | apply aO) | split)
theorem Iy (x0:Go.TypeId):Plain kn (Go.isAgg x0:Go.Sem Bool):=by
 unfold Go.isAgg;repeat' (first | (with_reducible first | apply ay | apply aS | refine Plain.bind' ?_ λ _=>?_) | split)
theorem Lj (x0:Go.Addr) (x1:Go.Mode):Plain kn (Go.load x0 x1:Go.Sem Go.Value):=λ _=>trivial
theorem Cv (a:Addr):∀ (i n:Nat) (acc:Array Value),Plain kn (loadCellsFrom a i n acc):=by
 intro i n;induction n generalizing i with
 | zero=>intro acc;exact trivial
 | succ n ih =>
  intro acc;unfold loadCellsFrom;exact Plain.bind' (Lj _ _) λ v=>ih _ _
theorem pV (x0:Go.Addr) (x1:Nat):Plain kn (Go.loadCells x0 x1:Go.Sem (Array Go.Value)):=by
 unfold Go.loadCells;repeat' (with_reducible apply Cv)
theorem DD (x0:Go.TypeId) (x1:Go.Addr):Plain kn (Go.loadVar x0 x1:Go.Sem Go.Value):=by
 unfold Go.loadVar;repeat' (first | (with_reducible first | apply ay | apply Iy | apply dS | apply pV | apply Lj | refine Plain.bind' ?_ λ _=>?_) | split)
theorem DF (x0:Go.TypeId) (x1:Go.Value):Plain kn (Go.Instr.loadAt x0 x1:Go.Sem Go.Value):=by
 unfold Go.Instr.loadAt;repeat' ((with_reducible first | apply ji | apply DD | refine Plain.bind' ?_ λ _=>?_))
theorem Cw (x0:Go.TypeId) (x1:Go.Value) (x2:Go.Value):Plain kn (Go.Instr.storeAt x0 x1 x2:Go.Sem Unit):=by
 unfold Go.Instr.storeAt;repeat' ((with_reducible first | apply ji | apply BO | refine Plain.bind' ?_ λ _=>?_))
theorem uo (x0:Go.TypeId) (x1:Array Go.Value) (x2:Nat):Plain kn (Go.part x0 x1 x2:Go.Sem Go.Value):=by
 unfold Go.part;repeat' (first | (with_reducible first | apply ay | apply Iy | apply dS | apply aO | refine Plain.bind' ?_ λ _=>?_) | split)
theorem DI:∀ (n:Nat) (t:TypeId) (x y:Value),Plain kn (Op.eqGuardIn n t x y):=by
 intro n;induction n with
 | zero=>intro t x y;exact trivial
 | succ n ih =>
  intro t x y;unfold Op.eqGuardIn;repeat' (first | (with_reducible first | apply ih | apply ay | apply aS | apply uo | apply dS | refine Plain.bind' ?_ λ _=>?_ | refine bY _ _ _ λ _ _=>?_ | refine cO _ _ _ λ _ _=>?_) | split | dsimp only)
theorem Nc (x0:Go.BinOp) (x1:Go.TypeId) (x2:Go.Operand) (x3:Go.Operand) (x4:Go.Value) (x5:Go.Value):Plain kn (Go.eqGuard x0 x1 x2 x3 x4 x5:Go.Sem Unit):=by
 unfold Go.eqGuard;repeat' (first | (with_reducible first | apply ay | apply DI | apply aU | apply fH | refine Plain.bind' ?_ λ _=>?_) | split)
theorem Nf {α:Type} (x1:Go.Value):Plain kn (Go.goPanic x1:Go.Sem α):=trivial
theorem O7 (x0:Go.TypeId):Plain kn (Go.elemOf x0:Go.Sem Go.TypeId):=by
 unfold Go.elemOf;repeat' (first | (with_reducible first | apply ay | apply aS | apply aO | refine Plain.bind' ?_ λ _=>?_) | split)
theorem dY {α:Type} (x1:Go.RuntimeError):Plain kn (Go.runtimePanic x1:Go.Sem α):=by
 unfold Go.runtimePanic;repeat' (first | (with_reducible first | apply fH | apply Nf | apply O7 | apply zF | refine Plain.bind' ?_ λ _=>?_) | split)
theorem KE (x0:Go.BinOp) (x1:Go.IntKind) (x2:Int) (x3:Go.IntKind) (x4:Int):Plain kn (Go.Op.shift x0 x1 x2 x3 x4:Go.Sem Go.Value):=by
 unfold Go.Op.shift;repeat' (first | (with_reducible first | apply ay | apply dY | apply aO) | split)
theorem wX (x0:Go.BinOp) (x1:Go.IntKind) (x2:Int) (x3:Int):Plain kn (Go.Op.intArith x0 x1 x2 x3:Go.Sem Go.Value):=by
 unfold Go.Op.intArith;repeat' (first | (with_reducible first | apply ay | apply aO) | split)
theorem Iz (x0:Go.BinOp) (x1:Go.IntKind) (x2:Int) (x3:Int):Plain kn (Go.Op.intDiv x0 x1 x2 x3:Go.Sem Go.Value):=by
 unfold Go.Op.intDiv;repeat' (first | (with_reducible first | apply ay | apply dY | apply aO) | split)
theorem zf (x0:Go.BinOp) (x1:Go.IntKind) (x2:Int) (x3:Int):Plain kn (Go.Op.intBits x0 x1 x2 x3:Go.Sem Go.Value):=by
 unfold Go.Op.intBits;repeat' (first | (with_reducible first | apply ay | apply aO) | split)
theorem IA (x0:Go.BinOp) (x1:Int) (x2:Int):Plain kn (Go.Op.intCmp x0 x1 x2:Go.Sem Go.Value):=by
 unfold Go.Op.intCmp;repeat' (first | (with_reducible first | apply ay | apply aO) | split)
theorem fw (x0:Go.Question):Plain kn (Go.choose x0:Go.Sem Nat):=λ _=>trivial
theorem uA (x0:Go.BinOp) (x1:Go.FloatKind) (x2:Nat) (x3:Nat):Plain kn (Go.Op.floatArith x0 x1 x2 x3:Go.Sem Go.Value):=by
 unfold Go.Op.floatArith;repeat' (first | (with_reducible first | apply ay | apply fw | apply aO | refine Plain.bind' ?_ λ _=>?_) | split | dsimp only)
theorem wY (x0:Go.BinOp) (x1:Go.FloatKind) (x2:Nat) (x3:Nat):Plain kn (Go.Op.floatCmp x0 x1 x2 x3:Go.Sem Go.Value):=by
 unfold Go.Op.floatCmp;repeat' (first | (with_reducible first | apply ay | apply aO) | split)
theorem iw (x0:Go.BinOp) (x1:Go.FloatKind) (x2:Nat) (x3:Nat):Plain kn (Go.Op.Complex.arith x0 x1 x2 x3:Go.Sem Nat):=by
 unfold Go.Op.Complex.arith;repeat' (first | (with_reducible first | apply ay | apply uA | apply aO | refine Plain.bind' ?_ λ _=>?_) | split)
theorem kS (x0:Go.FloatKind) (x1:Nat) (x2:Go.FloatKind):Plain kn (Go.Conv.floatToFloat x0 x1 x2:Go.Sem Go.Value):=by
 unfold Go.Conv.floatToFloat;repeat' (first | (with_reducible first | apply ay | apply fw | refine Plain.bind' ?_ λ _=>?_) | split | dsimp only)
theorem zG (x0:Go.FloatKind) (x1:Nat) (x2:Go.FloatKind):Plain kn (Go.Op.Complex.conv x0 x1 x2:Go.Sem Nat):=by
 unfold Go.Op.Complex.conv;repeat' (first | (with_reducible first | apply ay | apply kS | apply aO | refine Plain.bind' ?_ λ _=>?_) | split)
theorem nM (x0:Nat) (x1:Nat):Plain kn (Go.Op.Complex.mul x0 x1:Go.Sem Nat):=by
 unfold Go.Op.Complex.mul;repeat' (with_reducible apply iw)
theorem nN (x0:Nat) (x1:Nat):Plain kn (Go.Op.Complex.sub x0 x1:Go.Sem Nat):=by
 unfold Go.Op.Complex.sub;repeat' (with_reducible apply iw)
theorem nO (x0:Nat) (x1:Nat):Plain kn (Go.Op.Complex.add x0 x1:Go.Sem Nat):=by
 unfold Go.Op.Complex.add;repeat' (with_reducible apply iw)
theorem wZ (x0:Nat) (x1:Nat) (x2:Nat) (x3:Nat):Plain kn (Go.Op.Complex.product x0 x1 x2 x3:Go.Sem (Nat×Nat)):=by
 unfold Go.Op.Complex.product;repeat' ((with_reducible first | apply ay | apply nM | apply nN | apply nO | refine Plain.bind' ?_ λ _=>?_))
theorem vH (x0:Go.Value):Plain kn (Go.asBool x0:Go.Sem Bool):=by
 unfold Go.asBool;repeat' (first | (with_reducible first | apply ay | apply aO) | split)
theorem tH (x0:Go.BinOp) (x1:Go.FloatKind) (x2:Nat) (x3:Nat):Plain kn (Go.Op.Complex.cmp x0 x1 x2 x3:Go.Sem Bool):=by
 unfold Go.Op.Complex.cmp;repeat' ((with_reducible first | apply wY | apply vH | refine Plain.bind' ?_ λ _=>?_))
theorem vF (x0:Nat) (x1:Nat) (x2:Nat) (x3:Nat) (x4:Nat):Plain kn (Go.Op.Complex.corrected x0 x1 x2 x3 x4:Go.Sem (Nat×Nat)):=by
 unfold Go.Op.Complex.corrected;repeat' ((with_reducible first | apply ay | apply nM | apply nO | apply nN | refine Plain.bind' ?_ λ _=>?_))
theorem BL (x0:Nat) (x1:Nat):Plain kn (Go.Op.Complex.quo x0 x1:Go.Sem Nat):=by
 unfold Go.Op.Complex.quo;repeat' (with_reducible apply iw)
theorem wM (x0:Nat) (x1:Nat) (x2:Nat) (x3:Nat):Plain kn (Go.Op.Complex.quotient x0 x1 x2 x3:Go.Sem (Nat×Nat)):=by
 unfold Go.Op.Complex.quotient;repeat' (first | (with_reducible first | apply ay | apply tH | apply nM | apply vF | apply BL | apply nO | apply nN | refine Plain.bind' ?_ λ _=>?_) | split | dsimp only)
theorem DJ (x0:Go.BinOp) (x1:Go.FloatKind) (x2:Nat) (x3:Nat) (x4:Nat) (x5:Nat):Plain kn (Go.Op.complexOp x0 x1 x2 x3 x4 x5:Go.Sem Go.Value):=by
 unfold Go.Op.complexOp;repeat' (first | (with_reducible first | apply ay | apply iw | apply zG | apply wZ | apply wM | apply tH | apply aO | refine Plain.bind' ?_ λ _=>?_) | split)
theorem qV (x0:Go.BinOp) (x1:ByteArray) (x2:ByteArray):Plain kn (Go.Op.stringOp x0 x1 x2:Go.Sem Go.Value):=by
 unfold Go.Op.stringOp;repeat' (first | (with_reducible first | apply ay | apply aU | apply aO) | split)
theorem iA (x0:Nat):Plain kn (Go.shape x0:Go.Sem (Option (Go.TypeId×Nat))):=λ _=>trivial
theorem iN (x0:Nat):Plain kn (Go.getObj x0:Go.Sem Go.Obj):=λ _=>trivial
theorem BP (x0:Nat):Plain kn (Go.numberAt x0:Go.Sem (Option (Go.Addr×Bool))):=by
 unfold Go.numberAt;repeat' (first | (with_reducible first | apply ay | apply iA | apply iN | refine Plain.bind' ?_ λ _=>?_) | split)
theorem pW (x0:Go.Addr):Plain kn (Go.behindNumber x0:Go.Sem (Go.Addr×Bool)):=by
 unfold Go.behindNumber;repeat' ((with_reducible first | apply ay | apply BP | refine Plain.bind' ?_ λ _=>?_))
theorem zH (x0:Nat):Plain kn (Go.viewAt x0:Go.Sem (Option (Go.Addr×Go.TypeId))):=by
 unfold Go.viewAt;repeat' (first | (with_reducible first | apply ay | apply iA | apply iN | refine Plain.bind' ?_ λ _=>?_) | split)
theorem zI (x0:Go.Addr):Plain kn (Go.noView x0:Go.Sem Unit):=by
 unfold Go.noView;repeat' (first | (with_reducible first | apply ay | apply zH | apply aU | refine Plain.bind' ?_ λ _=>?_) | split)
theorem vJ (x0:Go.Addr):Plain kn (Go.byteOf x0:Go.Sem Nat):=by
 unfold Go.byteOf;repeat' (first | (with_reducible first | apply ay | apply fH | apply zI | apply iA | apply aO | refine Plain.bind' ?_ λ _=>?_) | split | dsimp only)
theorem vK (x0:Go.Addr):Plain kn (Go.frozen x0:Go.Sem Bool):=λ _=>trivial
theorem IB (x0:Go.Addr):Plain kn (Go.stringish x0:Go.Sem Bool):=by
 unfold Go.stringish;repeat' (first | (with_reducible first | apply ay | apply vK | apply iA | refine Plain.bind' ?_ λ _=>?_) | split)
theorem BQ (x0:Go.Addr) (x1:Go.Addr):Plain kn (Go.mayBeOne x0 x1:Go.Sem Bool):=by
 unfold Go.mayBeOne;repeat' ((with_reducible first | apply ay | apply iA | apply IB | refine Plain.bind' ?_ λ _=>?_))
theorem BR (x0:Go.Addr) (x1:Go.Addr):Plain kn (Go.sameAddr x0 x1:Go.Sem Bool):=by
 unfold Go.sameAddr;repeat' (first | (with_reducible first | apply ay | apply vK | apply zI | apply BQ | apply fw | apply aU | refine Plain.bind' ?_ λ _=>?_) | split)
theorem Fs (x0:Option Go.Addr) (x1:Option Go.Addr):Plain kn (Go.samePointer x0 x1:Go.Sem Bool):=by
 unfold Go.samePointer;repeat' (first | (with_reducible first | apply ay | apply BR) | split)
theorem DK (x0:Go.TypeId):Plain kn (Go.typeStr x0:Go.Sem String):=by
 unfold Go.typeStr;repeat' (first | (with_reducible first | apply ay | apply iF | apply aU | refine Plain.bind' ?_ λ _=>?_) | split | dsimp only)
theorem Hu:∀ (n:Nat) (t:TypeId) (x y:Value),Plain kn (Op.equalIn n t x y):=by
 intro n;induction n with
 | zero=>intro t x y;exact trivial
 | succ n ih =>
  intro t x y;unfold Op.equalIn;repeat' (first | (with_reducible first | apply ih | apply ay | apply aU | apply aS | apply aO | apply pW | apply fH | apply vJ | apply iF | apply dS | apply BR | apply fw | apply Fs | apply DK | apply dY | apply uo | refine Plain.bind' ?_ λ _=>?_ | refine bY _ _ _ λ _ _=>?_ | refine cO _ _ _ λ _ _=>?_) | split | dsimp only)
theorem BS (x0:Go.TypeId) (x1:Go.Value) (x2:Go.Value):Plain kn (Go.Op.equal x0 x1 x2:Go.Sem Bool):=by
 unfold Go.Op.equal;repeat' (with_reducible apply Hu)
theorem tY (x0:Go.Value):Plain kn (Go.asIntOf x0:Go.Sem (Go.IntKind×Int)):=by
 unfold Go.asIntOf;repeat' (first | (with_reducible first | apply ay | apply aU | apply aO) | split)
theorem uB (x0:Go.Value):Plain kn (Go.asInt x0:Go.Sem Int):=by
 unfold Go.asInt;repeat' ((with_reducible first | apply ay | apply tY | refine Plain.bind' ?_ λ _=>?_))
theorem pg (x0:Array TypeId) (x1:TypeId) (x2:Array Value):Plain kn (Builtin.unsafeAdd_ x0 x1 x2):=by
 obtain ⟨l⟩:=x2;rcases l with _ | ⟨a,_ | ⟨b,_ | ⟨c,l⟩⟩⟩
 ·exact trivial
 ·cases a <;> exact trivial
 ·cases a <;> first | exact trivial | skip
  refine Plain.bind' (s:=asInt b) (uB b) λ n=>?_
  repeat' (first | (with_reducible first | apply ih | apply ay | apply uB | apply iA | apply fH | apply aU | apply zH | refine Plain.bind' ?_ λ _=>?_) | split)
 ·cases a <;> exact trivial
theorem DL (x0:Go.TypeId) (x1:Go.Value) (x2:Go.Value):Plain kn (Go.movedPointer x0 x1 x2:Go.Sem Go.Value):=by
 unfold Go.movedPointer;repeat' (first | (with_reducible first | apply pg | apply BP | apply aU | refine Plain.bind' ?_ λ _=>?_) | split)
theorem BU (x0:Go.Addr) (x1:Bool):Plain kn (Go.asNumber x0 x1:Go.Sem Go.Value):=by
 unfold Go.asNumber;repeat' (first | ((with_reducible refine vG _ ?_);rfl) | (with_reducible first | apply ay | refine Plain.bind' ?_ λ _=>?_))
theorem Fu (x0:Go.TypeId) (x1:Go.Value) (x2:Go.Value):Plain kn (Go.movedNumber x0 x1 x2:Go.Sem Go.Value):=by
 unfold Go.movedNumber;repeat' (first | (with_reducible first | apply ay | apply aS | apply pW | apply pg | apply BU | apply aU | refine Plain.bind' ?_ λ _=>?_) | split)
theorem vL (x0:Go.Addr) (x1:Go.Addr):Plain kn (Go.Op.twoPlaces x0 x1:Go.Sem (Nat×Nat)):=by
 unfold Go.Op.twoPlaces;repeat' (first | (with_reducible first | apply ay | apply fH | apply vJ | apply aU | refine Plain.bind' ?_ λ _=>?_) | split)
theorem Hw (x0:Go.IntKind) (x1:Go.Addr) (x2:Go.Addr):Plain kn (Go.Op.addrSub x0 x1 x2:Go.Sem Go.Value):=by
 unfold Go.Op.addrSub;repeat' ((with_reducible first | apply ay | apply vL | refine Plain.bind' ?_ λ _=>?_))
theorem Hy (x0:Go.BinOp) (x1:Go.Addr) (x2:Go.Addr):Plain kn (Go.Op.addrCmp x0 x1 x2:Go.Sem Go.Value):=by
 unfold Go.Op.addrCmp;repeat' (first | (with_reducible first | apply ay | apply vL | apply aU | refine Plain.bind' ?_ λ _=>?_) | split)
theorem Hz (x0:Go.IntKind) (x1:Go.Addr) (x2:Int):Plain kn (Go.Op.addrMod x0 x1 x2:Go.Sem Go.Value):=by
 unfold Go.Op.addrMod;repeat' (first | (with_reducible first | apply ay | apply iA | apply iF | apply vJ | apply aU | refine Plain.bind' ?_ λ _=>?_) | split | dsimp only)
theorem R8 (x0:Go.BinOp) (x1:Go.TypeId) (x2:Go.Value) (x3:Go.Value):Plain kn (Go.binOp x0 x1 x2 x3:Go.Sem Go.Value):=by
 unfold Go.binOp;repeat' (first | (with_reducible first | apply ay | apply KE | apply aO | apply wX | apply Iz | apply zf | apply IA | apply uA | apply wY | apply DJ | apply qV | apply BS | apply aS | apply DL | apply Fu | apply pW | apply Hw | apply Hy | apply Hz | apply aU | refine Plain.bind' ?_ λ _=>?_) | split)
end
end
end Go.Proofs.YtignemioillaiaaGreat
