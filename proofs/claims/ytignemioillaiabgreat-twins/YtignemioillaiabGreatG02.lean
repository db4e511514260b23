/- The operations are plain. -/
import Derived.Test.YtignemioillaiabGreatG01
namespace Go.Proofs.YtignemioillaiabGreat
set_option maxHeartbeats 8000000
set_option maxRecDepth 100000
section
open Go
section
variable {kn:List Nat}
theorem Plain.map' {α β:Type} {f:α→β} {s:Sem α} (h:Plain kn s):Plain kn (f <$> s):=by
 rw [map_eq_pure_bind];exact Plain.bind' h fun _=>trivial
theorem KN {α β:Type} (f:α→β→Sem (ForInStep β)) (hf:∀ a b,Plain kn (f a b)):∀ (l:List α) (b:β),Plain kn (forIn l b f):=by
 intro l;induction l with
 | nil=>intro b;exact trivial
 | cons a l ih =>
  intro b;rw [List.forIn_cons];refine Plain.bind' (hf a b) fun r=>?_
  cases r with
  | done b=>exact trivial
  | yield b=>exact ih b
theorem aA {α β:Type} (xs:Array α) (b:β) (f:α→β→Sem (ForInStep β)) (hf:∀ a b,Plain kn (f a b)):Plain kn (forIn xs b f):=by
 rw [← Array.forIn_toList];exact KN f hf _ _
theorem aB {β:Type} (r:Std.Legacy.Range) (b:β) (f:Nat→β→Sem (ForInStep β)) (hf:∀ a b,Plain kn (f a b)):Plain kn (forIn r b f):=by
 rw [Std.Legacy.Range.forIn_eq_forIn_range'];exact KN f hf _ _
theorem aC {α β:Type} (xs:Array α) (f:α→Sem β) (hf:∀ a,Plain kn (f a)):Plain kn (xs.mapM f):=by
 rw [Array.mapM_eq_mapM_toList];refine Plain.map' ?_;generalize xs.toList=l;induction l with
 | nil=>exact trivial
 | cons a l ih =>
  rw [List.mapM_cons];exact Plain.bind' (hf a) fun _=>Plain.bind' ih fun _=>trivial
theorem az {α:Type} (a:α):Plain kn (pure a:Sem α):=trivial
theorem FC:Plain kn (mark .noRoom):=⟨trivial,trivial⟩
theorem Plain.ite {α:Type} {c:Prop} [Decidable c] {a b:Sem α} (h1:c→Plain kn a) (h2:¬ c→Plain kn b):Plain kn (if c then a else b):=by
 split
 ·exact h1 ‹_›
 ·exact h2 ‹_›
theorem ay {α β:Type} (f:β→α→Sem β) (hf:∀ b a,Plain kn (f b a)):∀ (l:List α) (b:β),Plain kn (List.foldlM f b l):=by
 intro l;induction l with
 | nil=>intro b;exact trivial
 | cons a l ih =>
  intro b;rw [List.foldlM_cons];exact Plain.bind' (hf b a) fun _=>ih _
theorem u7 (o:Obj) (h:o.isChan=false):Plain kn (newObj o):=⟨h,fun _=>trivial⟩
theorem Db (r:Nat) (o:Obj) (h:r∈kn) (ho:o.isChan=false):Plain kn (setObj r o):=⟨h,ho,trivial⟩
theorem fw:Plain kn (Go.program:Go.Sem Go.Program):=fun _=>trivial
theorem aR {α:Type} (x1:String):Plain kn (Go.stuck x1:Go.Sem α):=trivial
theorem iq (x0:Go.TypeId):Plain kn (Go.typeInfo x0:Go.Sem Go.TypeInfo):=by
 unfold Go.typeInfo;repeat' (first | (with_reducible first | apply az | apply fw | apply aR | refine Plain.bind' ?_ fun _=>?_) | split)
theorem aV {α:Type} (x1:Go.Unsupported):Plain kn (Go.unsupported x1:Go.Sem α):=trivial
theorem jk (x0:Go.TypeId):Plain kn (Go.zeroValue x0:Go.Sem Go.Value):=by
 unfold Go.zeroValue;repeat' (first | (with_reducible first | apply az | apply iq | apply aV | refine Plain.bind' ?_ fun _=>?_) | split)
theorem dM (x0:Go.TypeId):Plain kn (Go.sizeOf x0:Go.Sem Nat):=by
 unfold Go.sizeOf;repeat' ((with_reducible first | apply az | apply iq | refine Plain.bind' ?_ fun _=>?_))
theorem Ri (x0:Go.Addr) (x1:Go.Value) (x2:Go.Mode):Plain kn (Go.store x0 x1 x2:Go.Sem Unit):=trivial
theorem oC (a:Addr):∀ (vs:List Value) (i:Nat),Plain kn (storeCells a vs i):=by
 intro vs;induction vs with
 | nil=>intro i;unfold storeCells;exact trivial
 | cons v vs ih=>intro i;unfold storeCells;exact Plain.bind' (Ri _ _ _) fun _=>ih _
theorem Bt (x0:Go.TypeId) (x1:Go.Addr) (x2:Go.Value):Plain kn (Go.storeVar x0 x1 x2:Go.Sem Unit):=by
 unfold Go.storeVar;repeat' (first | (with_reducible first | apply dM | apply oC | apply aR | refine Plain.bind' ?_ fun _=>?_) | split)
theorem oV (x0:Go.TypeId) (x1:Array Go.Value):Plain kn (Go.newRow x0 x1:Go.Sem Go.Addr):=by
 unfold Go.newRow;repeat' (first | ((with_reducible refine u7 _ ?_);rfl) | (with_reducible first | apply az | refine Plain.bind' ?_ fun _=>?_))
theorem zk (x0:Go.TypeId) (x1:Go.Value):Plain kn (Go.newVar x0 x1:Go.Sem Go.Addr):=by
 unfold Go.newVar;repeat' (with_reducible apply oV)
theorem EJ (x0:Go.TypeId) (x1:Bool) (x2:Go.Value):Plain kn (Go.Instr.alloc x0 x1 x2:Go.Sem Go.Value):=by
 unfold Go.Instr.alloc;repeat' (first | (with_reducible first | apply az | apply jk | apply Bt | apply zk | refine Plain.bind' ?_ fun _=>?_) | split)
theorem Ho (x0:Go.TypeId) (x1:Go.Value):Plain kn (Go.Instr.box x0 x1:Go.Sem Go.Value):=by
 unfold Go.Instr.box;repeat' ((with_reducible first | apply az | apply zk | refine Plain.bind' ?_ fun _=>?_))
theorem aU (x0:Go.TypeId):Plain kn (Go.underlying x0:Go.Sem Go.TypeDesc):=by
 unfold Go.underlying;repeat' (first | (with_reducible first | apply az | apply fw | apply aR | refine Plain.bind' ?_ fun _=>?_) | split)
theorem EK (x0:Go.TypeId) (x1:Array (Nat×Go.Value)):Plain kn (Go.Instr.build x0 x1:Go.Sem Go.Value):=by
 unfold Go.Instr.build;repeat' (first | (with_reducible first | apply az | apply jk | apply aU | apply dM | apply aR | refine Plain.bind' ?_ fun _=>?_ | refine aC _ _ fun _=>?_) | split)
theorem zb (x0:Go.TypeId) (x1:Nat) (x2:Array (Nat×Go.Value)):Plain kn (Go.Instr.buildSlice x0 x1 x2:Go.Sem Go.Value):=by
 unfold Go.Instr.buildSlice;repeat' (first | (with_reducible first | apply az | apply aU | apply dM | apply oV | apply aR | apply jk | apply aV | refine Plain.bind' ?_ fun _=>?_) | split | dsimp only)
theorem iZ (x0:Go.Value):Plain kn (Go.Instr.sureAddr x0:Go.Sem Go.Addr):=by
 unfold Go.Instr.sureAddr;repeat' (first | (with_reducible first | apply az | apply aR) | split)
theorem Hq (x0:Go.TypeId):Plain kn (Go.isAgg x0:Go.Sem Bool):=by
 unfold Go.isAgg;repeat' (first | (with_reducible first | apply az | apply aU | refine Plain.bind' ?_ fun _=>?_) | split)
theorem KO (x0:Go.Addr) (x1:Go.Mode):Plain kn (Go.load x0 x1:Go.Sem Go.Value):=fun _=>trivial
theorem Cb (a:Addr):∀ (i n:Nat) (acc:Array Value),Plain kn (loadCellsFrom a i n acc):=by
 intro i n;induction n generalizing i with
 | zero=>intro acc;exact trivial
 | succ n ih =>
  intro acc;unfold loadCellsFrom;exact Plain.bind' (KO _ _) fun v=>ih _ _
theorem pM (x0:Go.Addr) (x1:Nat):Plain kn (Go.loadCells x0 x1:Go.Sem (Array Go.Value)):=by
 unfold Go.loadCells;repeat' (with_reducible apply Cb)
theorem De (x0:Go.TypeId) (x1:Go.Addr):Plain kn (Go.loadVar x0 x1:Go.Sem Go.Value):=by
 unfold Go.loadVar;repeat' (first | (with_reducible first | apply az | apply Hq | apply dM | apply pM | apply KO | refine Plain.bind' ?_ fun _=>?_) | split)
theorem Df (x0:Go.TypeId) (x1:Go.Value):Plain kn (Go.Instr.loadAt x0 x1:Go.Sem Go.Value):=by
 unfold Go.Instr.loadAt;repeat' ((with_reducible first | apply iZ | apply De | refine Plain.bind' ?_ fun _=>?_))
theorem Cc (x0:Go.TypeId) (x1:Go.Value) (x2:Go.Value):Plain kn (Go.Instr.storeAt x0 x1 x2:Go.Sem Unit):=by
 unfold Go.Instr.storeAt;repeat' ((with_reducible first | apply iZ | apply Bt | refine Plain.bind' ?_ fun _=>?_))
theorem uf (x0:Go.TypeId) (x1:Array Go.Value) (x2:Nat):Plain kn (Go.part x0 x1 x2:Go.Sem Go.Value):=by
 unfold Go.part;repeat' (first | (with_reducible first | apply az | apply Hq | apply dM | apply aR | refine Plain.bind' ?_ fun _=>?_) | split)
theorem Dh:∀ (n:Nat) (t:TypeId) (x y:Value),Plain kn (Op.eqGuardIn n t x y):=by
 intro n;induction n with
 | zero=>intro t x y;exact trivial
 | succ n ih =>
  intro t x y;unfold Op.eqGuardIn;repeat' (first | (with_reducible first | apply ih | apply az | apply aU | apply uf | apply dM | refine Plain.bind' ?_ fun _=>?_ | refine aA _ _ _ fun _ _=>?_ | refine aB _ _ _ fun _ _=>?_) | split | dsimp only)
theorem MI (x0:Go.BinOp) (x1:Go.TypeId) (x2:Go.Operand) (x3:Go.Operand) (x4:Go.Value) (x5:Go.Value):Plain kn (Go.eqGuard x0 x1 x2 x3 x4 x5:Go.Sem Unit):=by
 unfold Go.eqGuard;repeat' (first | (with_reducible first | apply az | apply Dh | apply aV | apply fw | refine Plain.bind' ?_ fun _=>?_) | split)
theorem MJ {α:Type} (x1:Go.Value):Plain kn (Go.goPanic x1:Go.Sem α):=trivial
theorem OE (x0:Go.TypeId):Plain kn (Go.elemOf x0:Go.Sem Go.TypeId):=by
 unfold Go.elemOf;repeat' (first | (with_reducible first | apply az | apply aU | apply aR | refine Plain.bind' ?_ fun _=>?_) | split)
theorem dQ {α:Type} (x1:Go.RuntimeError):Plain kn (Go.runtimePanic x1:Go.Sem α):=by
 unfold Go.runtimePanic;repeat' (first | (with_reducible first | apply fw | apply MJ | apply OE | apply zk | refine Plain.bind' ?_ fun _=>?_) | split)
theorem Kc (x0:Go.BinOp) (x1:Go.IntKind) (x2:Int) (x3:Go.IntKind) (x4:Int):Plain kn (Go.Op.shift x0 x1 x2 x3 x4:Go.Sem Go.Value):=by
 unfold Go.Op.shift;repeat' (first | (with_reducible first | apply az | apply dQ | apply aR) | split)
theorem wL (x0:Go.BinOp) (x1:Go.IntKind) (x2:Int) (x3:Int):Plain kn (Go.Op.intArith x0 x1 x2 x3:Go.Sem Go.Value):=by
 unfold Go.Op.intArith;repeat' (first | (with_reducible first | apply az | apply aR) | split)
theorem Hr (x0:Go.BinOp) (x1:Go.IntKind) (x2:Int) (x3:Int):Plain kn (Go.Op.intDiv x0 x1 x2 x3:Go.Sem Go.Value):=by
 unfold Go.Op.intDiv;repeat' (first | (with_reducible first | apply az | apply dQ | apply aR) | split)
theorem yN (x0:Go.BinOp) (x1:Go.IntKind) (x2:Int) (x3:Int):Plain kn (Go.Op.intBits x0 x1 x2 x3:Go.Sem Go.Value):=by
 unfold Go.Op.intBits;repeat' (first | (with_reducible first | apply az | apply aR) | split)
theorem Ht (x0:Go.BinOp) (x1:Int) (x2:Int):Plain kn (Go.Op.intCmp x0 x1 x2:Go.Sem Go.Value):=by
 unfold Go.Op.intCmp;repeat' (first | (with_reducible first | apply az | apply aR) | split)
theorem eH (x0:Go.Question):Plain kn (Go.choose x0:Go.Sem Nat):=fun _=>trivial
theorem um (x0:Go.BinOp) (x1:Go.FloatKind) (x2:Nat) (x3:Nat):Plain kn (Go.Op.floatArith x0 x1 x2 x3:Go.Sem Go.Value):=by
 unfold Go.Op.floatArith;repeat' (first | (with_reducible first | apply az | apply eH | apply aR | refine Plain.bind' ?_ fun _=>?_) | split | dsimp only)
theorem wM (x0:Go.BinOp) (x1:Go.FloatKind) (x2:Nat) (x3:Nat):Plain kn (Go.Op.floatCmp x0 x1 x2 x3:Go.Sem Go.Value):=by
 unfold Go.Op.floatCmp;repeat' (first | (with_reducible first | apply az | apply aR) | split)
theorem gP (x0:Go.BinOp) (x1:Go.FloatKind) (x2:Nat) (x3:Nat):Plain kn (Go.Op.Complex.arith x0 x1 x2 x3:Go.Sem Nat):=by
 unfold Go.Op.Complex.arith;repeat' (first | (with_reducible first | apply az | apply um | apply aR | refine Plain.bind' ?_ fun _=>?_) | split)
theorem kS (x0:Go.FloatKind) (x1:Nat) (x2:Go.FloatKind):Plain kn (Go.Conv.floatToFloat x0 x1 x2:Go.Sem Go.Value):=by
 unfold Go.Conv.floatToFloat;repeat' (first | (with_reducible first | apply az | apply eH | refine Plain.bind' ?_ fun _=>?_) | split | dsimp only)
theorem zm (x0:Go.FloatKind) (x1:Nat) (x2:Go.FloatKind):Plain kn (Go.Op.Complex.conv x0 x1 x2:Go.Sem Nat):=by
 unfold Go.Op.Complex.conv;repeat' (first | (with_reducible first | apply az | apply kS | apply aR | refine Plain.bind' ?_ fun _=>?_) | split)
theorem nQ (x0:Nat) (x1:Nat):Plain kn (Go.Op.Complex.mul x0 x1:Go.Sem Nat):=by
 unfold Go.Op.Complex.mul;repeat' (with_reducible apply gP)
theorem nR (x0:Nat) (x1:Nat):Plain kn (Go.Op.Complex.sub x0 x1:Go.Sem Nat):=by
 unfold Go.Op.Complex.sub;repeat' (with_reducible apply gP)
theorem nS (x0:Nat) (x1:Nat):Plain kn (Go.Op.Complex.add x0 x1:Go.Sem Nat):=by
 unfold Go.Op.Complex.add;repeat' (with_reducible apply gP)
theorem wN (x0:Nat) (x1:Nat) (x2:Nat) (x3:Nat):Plain kn (Go.Op.Complex.product x0 x1 x2 x3:Go.Sem (Nat×Nat)):=by
 unfold Go.Op.Complex.product;repeat' ((with_reducible first | apply az | apply nQ | apply nR | apply nS | refine Plain.bind' ?_ fun _=>?_))
theorem ve (x0:Go.Value):Plain kn (Go.asBool x0:Go.Sem Bool):=by
 unfold Go.asBool;repeat' (first | (with_reducible first | apply az | apply aR) | split)
theorem sZ (x0:Go.BinOp) (x1:Go.FloatKind) (x2:Nat) (x3:Nat):Plain kn (Go.Op.Complex.cmp x0 x1 x2 x3:Go.Sem Bool):=by
 unfold Go.Op.Complex.cmp;repeat' ((with_reducible first | apply wM | apply ve | refine Plain.bind' ?_ fun _=>?_))
theorem uZ (x0:Nat) (x1:Nat) (x2:Nat) (x3:Nat) (x4:Nat):Plain kn (Go.Op.Complex.corrected x0 x1 x2 x3 x4:Go.Sem (Nat×Nat)):=by
 unfold Go.Op.Complex.corrected;repeat' ((with_reducible first | apply az | apply nQ | apply nS | apply nR | refine Plain.bind' ?_ fun _=>?_))
theorem Bp (x0:Nat) (x1:Nat):Plain kn (Go.Op.Complex.quo x0 x1:Go.Sem Nat):=by
 unfold Go.Op.Complex.quo;repeat' (with_reducible apply gP)
theorem wy (x0:Nat) (x1:Nat) (x2:Nat) (x3:Nat):Plain kn (Go.Op.Complex.quotient x0 x1 x2 x3:Go.Sem (Nat×Nat)):=by
 unfold Go.Op.Complex.quotient;repeat' (first | (with_reducible first | apply az | apply sZ | apply nQ | apply uZ | apply Bp | apply nS | apply nR | refine Plain.bind' ?_ fun _=>?_) | split | dsimp only)
theorem Di (x0:Go.BinOp) (x1:Go.FloatKind) (x2:Nat) (x3:Nat) (x4:Nat) (x5:Nat):Plain kn (Go.Op.complexOp x0 x1 x2 x3 x4 x5:Go.Sem Go.Value):=by
 unfold Go.Op.complexOp;repeat' (first | (with_reducible first | apply az | apply gP | apply zm | apply wN | apply wy | apply sZ | apply aR | refine Plain.bind' ?_ fun _=>?_) | split)
theorem qQ (x0:Go.BinOp) (x1:ByteArray) (x2:ByteArray):Plain kn (Go.Op.stringOp x0 x1 x2:Go.Sem Go.Value):=by
 unfold Go.Op.stringOp;repeat' (first | (with_reducible first | apply az | apply aV | apply aR) | split)
theorem gU (x0:Nat):Plain kn (Go.shape x0:Go.Sem (Option (Go.TypeId×Nat))):=fun _=>trivial
theorem jf (x0:Nat):Plain kn (Go.getObj x0:Go.Sem Go.Obj):=fun _=>trivial
theorem Bu (x0:Nat):Plain kn (Go.numberAt x0:Go.Sem (Option (Go.Addr×Bool))):=by
 unfold Go.numberAt;repeat' (first | (with_reducible first | apply az | apply gU | apply jf | refine Plain.bind' ?_ fun _=>?_) | split)
theorem pO (x0:Go.Addr):Plain kn (Go.behindNumber x0:Go.Sem (Go.Addr×Bool)):=by
 unfold Go.behindNumber;repeat' ((with_reducible first | apply az | apply Bu | refine Plain.bind' ?_ fun _=>?_))
theorem zn (x0:Nat):Plain kn (Go.viewAt x0:Go.Sem (Option (Go.Addr×Go.TypeId))):=by
 unfold Go.viewAt;repeat' (first | (with_reducible first | apply az | apply gU | apply jf | refine Plain.bind' ?_ fun _=>?_) | split)
theorem zo (x0:Go.Addr):Plain kn (Go.noView x0:Go.Sem Unit):=by
 unfold Go.noView;repeat' (first | (with_reducible first | apply az | apply zn | apply aV | refine Plain.bind' ?_ fun _=>?_) | split)
theorem vg (x0:Go.Addr):Plain kn (Go.byteOf x0:Go.Sem Nat):=by
 unfold Go.byteOf;repeat' (first | (with_reducible first | apply az | apply fw | apply zo | apply gU | apply aR | refine Plain.bind' ?_ fun _=>?_) | split | dsimp only)
theorem vw (x0:Go.Addr):Plain kn (Go.frozen x0:Go.Sem Bool):=fun _=>trivial
theorem Hu (x0:Go.Addr):Plain kn (Go.stringish x0:Go.Sem Bool):=by
 unfold Go.stringish;repeat' (first | (with_reducible first | apply az | apply vw | apply gU | refine Plain.bind' ?_ fun _=>?_) | split)
theorem Bw (x0:Go.Addr) (x1:Go.Addr):Plain kn (Go.mayBeOne x0 x1:Go.Sem Bool):=by
 unfold Go.mayBeOne;repeat' ((with_reducible first | apply az | apply gU | apply Hu | refine Plain.bind' ?_ fun _=>?_))
theorem Bz (x0:Go.Addr) (x1:Go.Addr):Plain kn (Go.sameAddr x0 x1:Go.Sem Bool):=by
 unfold Go.sameAddr;repeat' (first | (with_reducible first | apply az | apply vw | apply zo | apply Bw | apply eH | apply aV | refine Plain.bind' ?_ fun _=>?_) | split)
theorem EL (x0:Option Go.Addr) (x1:Option Go.Addr):Plain kn (Go.samePointer x0 x1:Go.Sem Bool):=by
 unfold Go.samePointer;repeat' (first | (with_reducible first | apply az | apply Bz) | split)
theorem Dj (x0:Go.TypeId):Plain kn (Go.typeStr x0:Go.Sem String):=by
 unfold Go.typeStr;repeat' (first | (with_reducible first | apply az | apply iq | apply aV | refine Plain.bind' ?_ fun _=>?_) | split | dsimp only)
theorem GD:∀ (n:Nat) (t:TypeId) (x y:Value),Plain kn (Op.equalIn n t x y):=by
 intro n;induction n with
 | zero=>intro t x y;exact trivial
 | succ n ih =>
  intro t x y;unfold Op.equalIn;repeat' (first | (with_reducible first | apply ih | apply az | apply aV | apply aU | apply aR | apply pO | apply fw | apply vg | apply iq | apply dM | apply Bz | apply eH | apply EL | apply Dj | apply dQ | apply uf | refine Plain.bind' ?_ fun _=>?_ | refine aA _ _ _ fun _ _=>?_ | refine aB _ _ _ fun _ _=>?_) | split | dsimp only)
theorem BA (x0:Go.TypeId) (x1:Go.Value) (x2:Go.Value):Plain kn (Go.Op.equal x0 x1 x2:Go.Sem Bool):=by
 unfold Go.Op.equal;repeat' (with_reducible apply GD)
theorem tN (x0:Go.Value):Plain kn (Go.asIntOf x0:Go.Sem (Go.IntKind×Int)):=by
 unfold Go.asIntOf;repeat' (first | (with_reducible first | apply az | apply aV | apply aR) | split)
theorem uo (x0:Go.Value):Plain kn (Go.asInt x0:Go.Sem Int):=by
 unfold Go.asInt;repeat' ((with_reducible first | apply az | apply tN | refine Plain.bind' ?_ fun _=>?_))
theorem oW (x0:Array TypeId) (x1:TypeId) (x2:Array Value):Plain kn (Builtin.unsafeAdd_ x0 x1 x2):=by
 obtain ⟨l⟩:=x2;rcases l with _ | ⟨a,_ | ⟨b,_ | ⟨c,l⟩⟩⟩
 ·exact trivial
 ·cases a <;> exact trivial
 ·cases a <;> first | exact trivial | skip
  refine Plain.bind' (s:=asInt b) (uo b) fun n=>?_
  repeat' (first | (with_reducible first | apply ih | apply az | apply uo | apply gU | apply fw | apply aV | apply zn | refine Plain.bind' ?_ fun _=>?_) | split)
 ·cases a <;> exact trivial
theorem Dl (x0:Go.TypeId) (x1:Go.Value) (x2:Go.Value):Plain kn (Go.movedPointer x0 x1 x2:Go.Sem Go.Value):=by
 unfold Go.movedPointer;repeat' (first | (with_reducible first | apply oW | apply Bu | apply aV | refine Plain.bind' ?_ fun _=>?_) | split)
theorem BB (x0:Go.Addr) (x1:Bool):Plain kn (Go.asNumber x0 x1:Go.Sem Go.Value):=by
 unfold Go.asNumber;repeat' (first | ((with_reducible refine u7 _ ?_);rfl) | (with_reducible first | apply az | refine Plain.bind' ?_ fun _=>?_))
theorem EM (x0:Go.TypeId) (x1:Go.Value) (x2:Go.Value):Plain kn (Go.movedNumber x0 x1 x2:Go.Sem Go.Value):=by
 unfold Go.movedNumber;repeat' (first | (with_reducible first | apply az | apply aU | apply pO | apply oW | apply BB | apply aV | refine Plain.bind' ?_ fun _=>?_) | split)
theorem vz (x0:Go.Addr) (x1:Go.Addr):Plain kn (Go.Op.twoPlaces x0 x1:Go.Sem (Nat×Nat)):=by
 unfold Go.Op.twoPlaces;repeat' (first | (with_reducible first | apply az | apply fw | apply vg | apply aV | refine Plain.bind' ?_ fun _=>?_) | split)
theorem GH (x0:Go.IntKind) (x1:Go.Addr) (x2:Go.Addr):Plain kn (Go.Op.addrSub x0 x1 x2:Go.Sem Go.Value):=by
 unfold Go.Op.addrSub;repeat' ((with_reducible first | apply az | apply vz | refine Plain.bind' ?_ fun _=>?_))
theorem GI (x0:Go.BinOp) (x1:Go.Addr) (x2:Go.Addr):Plain kn (Go.Op.addrCmp x0 x1 x2:Go.Sem Go.Value):=by
 unfold Go.Op.addrCmp;repeat' (first | (with_reducible first | apply az | apply vz | apply aV | refine Plain.bind' ?_ fun _=>?_) | split)
theorem GJ (x0:Go.IntKind) (x1:Go.Addr) (x2:Int):Plain kn (Go.Op.addrMod x0 x1 x2:Go.Sem Go.Value):=by
 unfold Go.Op.addrMod;repeat' (first | (with_reducible first | apply az | apply gU | apply iq | apply vg | apply aV | refine Plain.bind' ?_ fun _=>?_) | split | dsimp only)
theorem Rj (x0:Go.BinOp) (x1:Go.TypeId) (x2:Go.Value) (x3:Go.Value):Plain kn (Go.binOp x0 x1 x2 x3:Go.Sem Go.Value):=by
 unfold Go.binOp;repeat' (first | (with_reducible first | apply az | apply Kc | apply aR | apply wL | apply Hr | apply yN | apply Ht | apply um | apply wM | apply Di | apply qQ | apply BA | apply aU | apply Dl | apply EM | apply pO | apply GH | apply GI | apply GJ | apply aV | refine Plain.bind' ?_ fun _=>?_) | split)
end
end
end Go.Proofs.YtignemioillaiabGreat
