/- Quiet operations, reckoned: types by a table, slots by a list. -/
import Derived.WalkKit
import Derived.IntWalk
import Derived.Conc.Events
namespace Go.Proofs.YtignemioillaiaaGreat
set_option maxHeartbeats 8000000
set_option maxRecDepth 100000
section
open Go
/-- What a Sem gives that touches nothing. -/
def quietS {α : Type} (P : Program) : Sem α → Option α
  | .pure a => some a
  | .program k => quietS P (k P)
  | _ => none
theorem quietS_ok {α : Type} {P : Program} {s : Sem α} {a : α} (h : quietS P s = some a) (w : World) (es : Array Event) : s.runT P w es = (.ok a w, es) := by
  induction s with
  | pure b => simp only [quietS, Option.some.injEq] at h; subst h; rfl
  | program k ih => exact ih P h
  | _ => cases h
theorem quietS_run {α : Type} {P : Program} {s : Sem α} {a : α} (h : quietS P s = some a) (w : World) : s.run P w = .ok a w := by
  rw [← Sem.runT_fst P s w #[], quietS_ok h]
theorem quietS_ev {α : Type} {P : Program} {s : Sem α} {a : α} (h : quietS P s = some a) (w : World) : s.events P w #[] = #[] := by
  unfold Sem.events
  rw [quietS_ok h]
theorem quietS_bind {α β : Type} (P : Program) (s : Sem α) (f : α → Sem β) : quietS P (s >>= f) = (quietS P s).bind fun a => quietS P (f a) := by
  change quietS P (s.bind f) = _
  induction s with
  | pure b => rfl
  | program k ih => exact ih P
  | _ => rfl
theorem quietS_pure {α : Type} (P : Program) (a : α) : quietS P (pure a : Sem α) = some a := rfl
theorem quietS_under {P : Program} {t : TypeId} {d : TypeDesc} (h : P.underlying t = some d) : quietS P (underlying t) = some d := by
  show quietS P (match P.underlying t with | some d => pure d | none => stuck "no such type") = _
  rw [h]; rfl
theorem quietS_info {P : Program} {t : TypeId} {i : TypeInfo} (h : P.info? t = some i) : quietS P (typeInfo t) = some i := by
  show quietS P (match P.info? t with | some i => pure i | none => stuck "no such type") = _
  rw [h]; rfl
theorem quietS_size {P : Program} {t : TypeId} {i : TypeInfo} (h : P.info? t = some i) : quietS P (sizeOf t) = some i.size := by
  unfold sizeOf; rw [quietS_bind, quietS_info h]; rfl
theorem quietS_zero {P : Program} {t : TypeId} {i : TypeInfo} {z : Value} (h : P.info? t = some i) (hz : i.zero = some z) : quietS P (zeroValue t) = some z := by
  unfold zeroValue; rw [quietS_bind, quietS_info h]
  show quietS P (match i.zero with | some v => pure v | none => _) = _
  rw [hz]; rfl

/-- A type, as far as it is wanted. -/
inductive Ty where
  | i (k : IntKind) | o | t | p | f | l (e : Nat) | m (k v : Nat) | s (fs : List Nat) | a (n e : Nat)
abbrev Tys := List (Nat × Ty)
noncomputable def Tys.get (T : Tys) (t : Nat) : Option Ty := List.rec none (fun p _ ih => bif Nat.beq t p.1 then some p.2 else ih) T
theorem Tys.get_cons (u : Nat) (x : Ty) (r : Tys) (t : Nat) : Tys.get ((u, x) :: r) t = bif Nat.beq t u then some x else Tys.get r t := rfl
noncomputable def zer (T : Tys) : Nat → Nat → List Value
  | 0, _ => []
  | n + 1, t => match T.get t with
    | none => []
    | some (.i k) => [.int k 0]
    | some .o => [.bool false]
    | some .t => [.string ⟨#[]⟩]
    | some .p => [.pointer none]
    | some .f => [.nilFunc]
    | some (.l _) => [.slice none 0 0]
    | some (.m _ _) => [.map none]
    | some (.s fs) => fs.flatMap (zer T n)
    | some (.a k e) => (List.replicate k (zer T n e)).flatten
noncomputable def zc (T : Tys) (t : Nat) : List Value := zer T 6 t
noncomputable def szT (T : Tys) (t : Nat) : Nat := (zc T t).length
noncomputable def offs (T : Tys) : List Nat → Nat → List (Nat × Nat)
  | [], _ => []
  | t :: ts, o => (o, t) :: offs T ts (o + szT T t)
/-- A type's kind. -/
inductive Dk where
  | i (k : IntKind) | o | t | p | f | l (e : Nat) | m (k v : Nat) | s (fs : List (Nat × Nat × Bool)) | a (n e : Nat) | no
def dk : TypeDesc → Dk
  | .int k => .i k
  | .bool => .o
  | .string => .t
  | .pointer _ => .p
  | .func _ _ _ => .f
  | .slice e => .l e
  | .map k v => .m k v
  | .struct fs => .s (fs.toList.map fun f => (f.offset, f.type, f.name == "_"))
  | .array n e => .a n e
  | _ => .no
noncomputable def dkT (T : Tys) : Ty → Dk
  | .i k => .i k
  | .o => .o
  | .t => .t
  | .p => .p
  | .f => .f
  | .l e => .l e
  | .m k v => .m k v
  | .s fs => .s ((offs T fs 0).map fun p => (p.1, p.2, false))
  | .a n e => .a n e
def isS : Ty → Bool
  | .s _ => true
  | .a _ _ => true
  | _ => false
noncomputable def zv (T : Tys) (t : Nat) (x : Ty) : Value := match isS x, zc T t with
  | false, v :: _ => v
  | _, l => .agg l.toArray
/-- The table says what the program says. -/
structure TyOk (P : Program) (T : Tys) : Prop where
  eq : (T.map fun p => ((P.info? p.1).map fun i => (i.zero, i.size, decide (i.bytes ≤ 2400)), (P.underlying p.1).map dk)) = T.map fun p => (some (some (zv T p.1 p.2), szT T p.1, true), some (dkT T p.2))
section
variable {P : Program} {T : Tys}
theorem Tys.mem {T : Tys} {t : Nat} {x : Ty} (h : T.get t = some x) : (t, x) ∈ T := by
  induction T with
  | nil => cases h
  | cons p r ih =>
    obtain ⟨u, y⟩ := p
    rw [Tys.get_cons] at h
    cases hb : Nat.beq t u with
    | true =>
      rw [hb] at h
      have := Nat.eq_of_beq_eq_true hb
      simp only [cond_true, Option.some.injEq] at h
      subst this h
      exact List.mem_cons_self
    | false => rw [hb] at h; exact List.mem_cons_of_mem _ (ih h)
/-- What is known of a type in the table. -/
structure TyIs (P : Program) (T : Tys) (t : Nat) (x : Ty) (i : TypeInfo) (d : TypeDesc) : Prop where
  info : P.info? t = some i
  zero : i.zero = some (zv T t x)
  size : i.size = szT T t
  bytes : i.bytes ≤ 2400
  under : P.underlying t = some d
  kind : dk d = dkT T x
theorem TyOk.is (h : TyOk P T) {t : Nat} {x : Ty} (hx : T.get t = some x) : ∃ i d, TyIs P T t x i d := by
  have h1 := List.map_inj_left.1 h.eq (t, x) (Tys.mem hx)
  dsimp only at h1
  cases hi : P.info? t with
  | none => rw [hi] at h1; simp at h1
  | some i =>
    cases hu : P.underlying t with
    | none => rw [hu] at h1; simp at h1
    | some d =>
      rw [hi, hu] at h1
      simp only [Option.map_some, Prod.mk.injEq, Option.some.injEq, decide_eq_true_eq] at h1
      obtain ⟨⟨h2, h3, h4⟩, h5⟩ := h1
      exact ⟨i, d, hi, h2, h3, h4, hu, h5⟩
theorem dk_i {d : TypeDesc} {k : IntKind} (h : dk d = .i k) : d = .int k := by cases d <;> simp_all [dk]
theorem dk_o {d : TypeDesc} (h : dk d = .o) : d = .bool := by cases d <;> simp_all [dk]
theorem dk_t {d : TypeDesc} (h : dk d = .t) : d = .string := by cases d <;> simp_all [dk]
theorem dk_p {d : TypeDesc} (h : dk d = .p) : ∃ e, d = .pointer e := by cases d <;> simp_all [dk]
theorem dk_f {d : TypeDesc} (h : dk d = .f) : ∃ a b c, d = .func a b c := by cases d <;> simp_all [dk]
theorem dk_l {d : TypeDesc} {e : Nat} (h : dk d = .l e) : d = .slice e := by cases d <;> simp_all [dk]
theorem dk_m {d : TypeDesc} {k v : Nat} (h : dk d = .m k v) : d = .map k v := by cases d <;> simp_all [dk]
theorem dk_s {d : TypeDesc} {l : List (Nat × Nat × Bool)} (h : dk d = .s l) : ∃ fs, d = .struct fs ∧ fs.toList.map (fun f => (f.offset, f.type, f.name == "_")) = l := by cases d <;> simp_all [dk]
theorem dk_a {d : TypeDesc} {n e : Nat} (h : dk d = .a n e) : d = .array n e := by cases d <;> simp_all [dk]
theorem quietS_agg (h : TyOk P T) {t : Nat} {x : Ty} (hx : T.get t = some x) : quietS P (isAgg t) = some (isS x) := by
  obtain ⟨i, d, hd⟩ := h.is hx
  unfold isAgg
  rw [quietS_bind, quietS_under hd.under]
  have hk := hd.kind
  cases x <;> simp only [dkT] at hk
  · rw [dk_i hk]; rfl
  · rw [dk_o hk]; rfl
  · rw [dk_t hk]; rfl
  · obtain ⟨_, rfl⟩ := dk_p hk; rfl
  · obtain ⟨_, _, _, rfl⟩ := dk_f hk; rfl
  · rw [dk_l hk]; rfl
  · rw [dk_m hk]; rfl
  · obtain ⟨_, rfl, _⟩ := dk_s hk; rfl
  · rw [dk_a hk]; rfl
end
abbrev Sg := List (Nat × Value)
noncomputable def at? (s : Sg) (i : Nat) : Option Value := List.rec none (fun p _ ih => bif Nat.beq i p.1 then some p.2 else ih) s
theorem at?_cons (j : Nat) (v : Value) (s : Sg) (i : Nat) : at? ((j, v) :: s) i = bif Nat.beq i j then some v else at? s i := rfl
noncomputable def ev (s : Sg) : Operand → Option Value
  | .tmp t => at? s t
  | .const v => some v
  | .global g => some (.pointer (some ⟨g, 0, none⟩))
  | .func f => some (.func (.func f) #[] #[])
/-- What is reckoned: a value; one under a condition; one of two. -/
inductive Qr where
  | v (x : Value) | c (p : Prop) (x : Value) | d (p : Prop) (x y : Value) | no
def Qr.ok (P : Program) (s : Sem Next) : Qr → Prop
  | .v x => quietS P s = some (.value x)
  | .c p x => p → quietS P s = some (.value x)
  | .d p x y => quietS P s = some (.value y) ∧ (p → x = y)
  | .no => True
def rngQ (r : Int) : IntKind → Qr
  | .u8 => .c (0 ≤ r ∧ r ≤ 255) (.int .u8 r)
  | .u16 => .c (0 ≤ r ∧ r ≤ 65535) (.int .u16 r)
  | .u32 => .c (0 ≤ r ∧ r ≤ 4294967295) (.int .u32 r)
  | .u64 => .c (0 ≤ r ∧ r ≤ 18446744073709551615) (.int .u64 r)
  | .i64 => .c (-9223372036854775808 ≤ r ∧ r ≤ 9223372036854775807) (.int .i64 r)
  | _ => .no
def cvtQ (r : Int) : IntKind → Qr
  | .u8 => .d (0 ≤ r ∧ r ≤ 255) (.int .u8 r) (.int .u8 (IntKind.u8.wrap r))
  | .u32 => .d (0 ≤ r ∧ r ≤ 4294967295) (.int .u32 r) (.int .u32 (IntKind.u32.wrap r))
  | .u64 => .d (0 ≤ r ∧ r ≤ 18446744073709551615) (.int .u64 r) (.int .u64 (IntKind.u64.wrap r))
  | .i64 => .d (-9223372036854775808 ≤ r ∧ r ≤ 9223372036854775807) (.int .i64 r) (.int .i64 (IntKind.i64.wrap r))
  | _ => .no
def kEq : IntKind → IntKind → Bool
  | .i64, .i64 => true
  | .u8, .u8 => true
  | .u32, .u32 => true
  | .u64, .u64 => true
  | _, _ => false
theorem kEq_eq {k l : IntKind} (h : kEq k l = true) : k = l := by cases k <;> cases l <;> first | rfl | cases h
def qint (op : BinOp) (k : IntKind) (a c : Int) : Qr := match op with
  | .add => rngQ (a + c) k
  | .sub => rngQ (a - c) k
  | .mul => rngQ (a * c) k
  | .rem => .c (c ≠ 0) (.int k (a.tmod c))
  | .quo => .c (c ≠ 0) (.int k (k.wrap (a.tdiv c)))
  | .and => .v (.int k (k.wrap (BitVec.ofInt k.bits a &&& BitVec.ofInt k.bits c).toNat))
  | .or => .v (.int k (k.wrap (BitVec.ofInt k.bits a ||| BitVec.ofInt k.bits c).toNat))
  | .xor => .no
  | .andNot => .no
  | .eql => .v (.bool (a == c))
  | .neq => .v (.bool (a != c))
  | .lss => .v (.bool (decide (a < c)))
  | .leq => .v (.bool (decide (a ≤ c)))
  | .gtr => .v (.bool (decide (a > c)))
  | .geq => .v (.bool (decide (a ≥ c)))
  | _ => .no
/-- Cells that are alike. -/
def cellEq : Value → Value → Bool
  | .int _ a, .int _ b => a == b
  | .bool a, .bool b => a == b
  | .string a, .string b => a == b
  | _, _ => false
def allEq : List Value → List Value → Bool
  | x :: xs, y :: ys => cellEq x y && allEq xs ys
  | _, _ => true
/-- Types of structs that may be compared here: of numbers, truths, texts. -/
noncomputable def flatT (T : Tys) : Nat → Nat → Bool
  | 0, _ => false
  | n + 1, t => match T.get t with
    | some (.i _) => true
    | some .o => true
    | some .t => true
    | some (.s fs) => fs.all (flatT T n)
    | _ => false
/-- Cells of the kinds that the zeros have. -/
def kindEq : List Value → List Value → Bool
  | [], [] => true
  | .int k _ :: xs, .int l _ :: ys => kEq k l && kindEq xs ys
  | .bool _ :: xs, .bool _ :: ys => kindEq xs ys
  | .string _ :: xs, .string _ :: ys => kindEq xs ys
  | _, _ => false
noncomputable def qbin (T : Tys) (op : BinOp) (t : Nat) : Option Value → Option Value → Qr
  | some (.int k a), some (.int l c) => match op with
    | .shl => .c (0 ≤ c) (.int k (k.wrap (a * 2 ^ min c.toNat k.bits)))
    | .shr => .c (0 ≤ c) (.int k (a.fdiv (2 ^ min c.toNat k.bits)))
    | op => bif kEq k l then qint op k a c else .no
  | some (.bool a), some (.bool c) => match op, T.get t with
    | .eql, some .o => .v (.bool (a == c))
    | .neq, some .o => .v (.bool (!(a == c)))
    | _, _ => .no
  | some (.string a), some (.string c) => match op with
    | .eql => .v (.bool (a.toList == c.toList))
    | .neq => .v (.bool (!(a.toList == c.toList)))
    | _ => .no
  | some (.pointer a), some (.pointer none) => match op, T.get t with
    | .eql, some .p => .v (.bool a.isNone)
    | .neq, some .p => .v (.bool (!a.isNone))
    | _, _ => .no
  | some (.slice a _ _), some (.slice none _ _) => match op, T.get t with
    | .eql, some (.l _) => .v (.bool a.isNone)
    | .neq, some (.l _) => .v (.bool (!a.isNone))
    | _, _ => .no
  | _, _ => .no
/-- Is one of these the thing, all known? -/
def evL (ρ : Operand → Option Value) : List Operand → Option (List Value)
  | [] => some []
  | x :: xs => match ρ x, evL ρ xs with
    | some v, some vs => some (v :: vs)
    | _, _ => none
def cutL (l : List Value) (d n : Nat) : List Value := (l.drop d).take n
/-- A struct's zero, filled. -/
def fillL (places : List (Nat × Nat)) : List Value → List (Nat × Value) → Option (List Value)
  | cs, [] => some cs
  | cs, (i, v) :: rest => match places[i]? with
    | none => none
    | some (off, n) => bif Nat.beq v.cells.toList.length n && Nat.ble (off + n) cs.length then fillL places (cs.take off ++ v.cells.toList ++ cs.drop (off + n)) rest else none
def evP (ρ : Operand → Option Value) : List (Nat × Operand) → Option (List (Nat × Value))
  | [] => some []
  | (i, x) :: xs => match ρ x, evP ρ xs with
    | some v, some vs => some ((i, v) :: vs)
    | _, _ => none
noncomputable def qop (T : Tys) (ρ : Operand → Option Value) : Op → Qr
  | .move x => match ρ x with | some v => .v v | none => .no
  | .assign x => match ρ x with | some v => .v v | none => .no
  | .pick c a b => match ρ c, ρ a, ρ b with | some (.bool t), some u, some v => .v (bif t then u else v) | _, _, _ => .no
  | .fieldAddr s x f => match ρ x, T.get s with
    | some (.pointer (some ⟨b, o, none⟩)), some (.s fs) => match (offs T fs 0)[f]? with
      | some (d, u) => match T.get u with
        | some _ => bif Nat.beq (szT T u) 0 then .no else .v (.pointer (some ⟨b, o + d, none⟩))
        | none => .no
      | none => .no
    | _, _ => .no
  | .field s x f => match ρ x, T.get s with
    | some (.agg cs), some (.s fs) => match (offs T fs 0)[f]? with
      | some (d, u) => match T.get u with
        | some (.s _) => .v (.agg (cutL cs.toList d (szT T u)).toArray)
        | some (.a _ _) => .no
        | some _ => match cs.toList[d]? with | some v => .v v | none => .no
        | none => .no
      | none => .no
    | _, _ => .no
  | .indexAddr t x i => match ρ x, ρ i, T.get t with
    | some (.slice (some ⟨b, o, none⟩) n _), some (.int _ j), some (.l e) => match T.get e with
      | some _ => .c (0 ≤ j ∧ j < n) (.pointer (some ⟨b, o + j.toNat * szT T e, none⟩))
      | none => .no
    | some (.pointer (some ⟨b, o, none⟩)), some (.int _ j), some (.a n e) => match T.get e with
      | some _ => .c (0 ≤ j ∧ j < n) (.pointer (some ⟨b, o + j.toNat * szT T e, none⟩))
      | none => .no
    | _, _, _ => .no
  | .index t x i => match ρ x, ρ i, T.get t with
    | some (.string s), some (.int _ j), some .t => .c (0 ≤ j ∧ j < s.size) (.int .u8 (s.data.toList.getD j.toNat 0).toNat)
    | _, _, _ => .no
  | .binOp op t x y _ => qbin T op t (ρ x) (ρ y)
  | .unOp op _ x => match op, ρ x with | .not, some (.bool b) => .v (.bool (!b)) | .neg, some (.int .i64 n) => .c (-9223372036854775808 ≤ 0 - n ∧ 0 - n ≤ 9223372036854775807) (.int .i64 (0 - n)) | _, _ => .no
  | .convert s d x => match ρ x, T.get s, T.get d with
    | some (.int _ n), some (.i _), some (.i k) => cvtQ n k
    | some (.string u), some .t, some .t => .v (.string u)
    | _, _, _ => .no
  | .extract x i => match ρ x with
    | some (.tuple vs) => match vs.toList[i]? with | some v => .v v | none => .no
    | _ => .no
  | .build t ps => match T.get t, evP ρ ps.toList with
    | some (.s fs), some vs => match fillL ((offs T fs 0).map fun p => (p.1, szT T p.2)) (zc T t) vs with
      | some cs => bif fs.all (fun u => (T.get u).isSome) then .v (.agg cs.toArray) else .no
      | none => .no
    | _, _ => .no
  | .makeFunc fn a b => match evL ρ a.toList, evL ρ b.toList with | some u, some v => .v (.func fn u.toArray v.toArray) | _, _ => .no
  | .nilCheck x => match ρ x with
    | some (.pointer (some a)) => .v (.pointer (some a))
    | some (.func (.func f) u v) => .v (.func (.func f) u v)
    | _ => .no
  | .slice t x lo hi none => match ρ x, T.get t with
    | some (.string s), some .t => match lo.bind ρ, hi.bind ρ, lo.isNone, hi.isNone with
      | some (.int _ a), some (.int _ b), _, _ => .c (0 ≤ a ∧ a ≤ b ∧ b ≤ s.size) (.string (s.extract a.toNat b.toNat))
      | some (.int _ a), none, _, true => .c (0 ≤ a ∧ a ≤ s.size) (.string (s.extract a.toNat s.size))
      | _, _, _, _ => .no
    | some (.slice a n cap), some (.l e) => match T.get e with
      | some _ => match lo.bind ρ, hi.bind ρ, lo.isNone, hi.isNone with
        | some (.int _ l), some (.int _ h), _, _ => .c (0 ≤ l ∧ l ≤ h ∧ h ≤ cap) (.slice (if cap = l.toNat then a else a.map (·.add (l.toNat * szT T e))) (h.toNat - l.toNat) (cap - l.toNat))
        | some (.int _ l), none, _, true => .c (0 ≤ l ∧ l ≤ n ∧ n ≤ cap) (.slice (if cap = l.toNat then a else a.map (·.add (l.toNat * szT T e))) (n - l.toNat) (cap - l.toNat))
        | none, some (.int _ h), true, _ => .c (0 ≤ h ∧ h ≤ cap) (.slice a h.toNat cap)
        | _, _, _, _ => .no
      | none => .no
    | _, _ => .no
  | .slice t x (some lo) (some hi) (some mx) => match ρ x, T.get t with
    | some (.slice a _ cap), some (.l e) => match T.get e with
      | some _ => match ρ lo, ρ hi, ρ mx with
        | some (.int _ l), some (.int _ h), some (.int _ m) => .c (0 ≤ l ∧ l ≤ h ∧ h ≤ m ∧ m ≤ cap) (.slice (if m.toNat = l.toNat then a else a.map (·.add (l.toNat * szT T e))) (h.toNat - l.toNat) (m.toNat - l.toNat))
        | _, _, _ => .no
      | none => .no
    | _, _ => .no
  | .call { callee := .builtin b, args, argTypes } => match b, args.toList, argTypes.toList with
    | .len, [x], [t] => match ρ x, T.get t with
      | some (.string s), some .t => .v (.int .i64 s.size)
      | some (.slice _ n _), some (.l _) => .v (.int .i64 n)
      | _, _ => .no
    | .cap, [x], [t] => match ρ x, T.get t with
      | some (.slice _ _ n), some (.l _) => .v (.int .i64 n)
      | _, _ => .no
    | .max, [x, y], _ => match ρ x, ρ y with
      | some (.int k a), some (.int _ b) => .v (.int k (if b > a then b else a))
      | _, _ => .no
    | .min, [x, y], _ => match ρ x, ρ y with
      | some (.int k a), some (.int _ b) => .v (.int k (if b < a then b else a))
      | _, _ => .no
    | _, _, _ => .no
  | _ => .no
end
section
open Go Go.IntWalk
section
variable {P : Program} {T : Tys} {ρ : Operand → Option Value} {r : Operand → Value}
theorem q_int {op : BinOp} {k l : IntKind} {t : Nat} {a c : Int} (h : kEq k l = true) (h1 : op ≠ .shl) (h2 : op ≠ .shr) : ∀ x : Value, (qint op k a c = .v x → quietS P (binOp op t (.int k a) (.int l c)) = some x) ∧ (∀ p, qint op k a c = .c p x → p → quietS P (binOp op t (.int k a) (.int l c)) = some x) ∧ (∀ p y, qint op k a c ≠ .d p x y) := by
  have hk := kEq_eq h
  subst hk
  intro x
  have rg : ∀ r p, rngQ r k = .c p x → p → Value.int k (k.wrap r) = x := by
    intro r p he hp
    cases k <;> simp only [rngQ, Qr.c.injEq, reduceCtorEq] at he
    · obtain ⟨rfl, rfl⟩ := he; rw [i64_in _ hp]
    · obtain ⟨rfl, rfl⟩ := he; rw [u8_in _ hp]
    · obtain ⟨rfl, rfl⟩ := he; rw [u16_in _ hp]
    · obtain ⟨rfl, rfl⟩ := he; rw [u32_in _ hp]
    · obtain ⟨rfl, rfl⟩ := he; rw [u64_in _ hp]
  have rv : ∀ r, rngQ r k ≠ .v x := by intro r; cases k <;> simp [rngQ]
  have rd : ∀ r p y, rngQ r k ≠ .d p x y := by intro r p y; cases k <;> simp [rngQ]
  refine ⟨?_, ?_, ?_⟩
  · intro he
    cases op <;> simp only [qint, Qr.v.injEq, reduceCtorEq] at he <;> first | exact absurd he (rv _) | (subst he; simp [binOp, Op.intBits, Op.intCmp, quietS_pure]; done) | (exact absurd rfl h1) | (exact absurd rfl h2)
  · intro p he hp
    cases op <;> simp only [qint, Qr.c.injEq, reduceCtorEq] at he
    · simp [binOp, Op.intArith, quietS_pure, rg _ _ he hp]
    · simp [binOp, Op.intArith, quietS_pure, rg _ _ he hp]
    · simp [binOp, Op.intArith, quietS_pure, rg _ _ he hp]
    · obtain ⟨rfl, rfl⟩ := he
      simp [binOp, Op.intDiv, hp, quietS_pure]
    · obtain ⟨rfl, rfl⟩ := he
      simp [binOp, Op.intDiv, hp, quietS_pure]
  · intro p y he
    cases op <;> simp only [qint, reduceCtorEq] at he <;> exact rd _ _ _ he
theorem guard_off {op : BinOp} {t : TypeId} {x y : Operand} {a b : Value} (h1 : a ≠ .nilIface) (h2 : ∀ c, a ≠ .agg c) : quietS P (eqGuard op t x y a b) = some () := by
  cases a <;> first | exact absurd rfl h1 | exact absurd rfl (h2 _) | (cases op <;> rfl)
theorem q_value {s : Sem Value} {x : Value} (h : quietS P s = some x) : quietS P (do let v ← s; pure (Next.value v)) = some (.value x) := by
  rw [quietS_bind, h]; rfl
theorem eqO {t : TypeId} (h : P.underlying t = some .bool) (n : Nat) (a b : Bool) : quietS P (Op.equalIn (n + 1) t (.bool a) (.bool b)) = some (a == b) := by
  simp only [Op.equalIn, quietS_bind, quietS_under h, Option.bind_some, quietS_pure]
theorem eqP {t e : TypeId} (h : P.underlying t = some (.pointer e)) (n : Nat) (a : Option Addr) : quietS P (Op.equalIn (n + 1) t (.pointer a) (.pointer none)) = some a.isNone := by
  cases a <;> simp only [Op.equalIn, quietS_bind, quietS_under h, Option.bind_some, quietS_pure] <;> rfl
theorem eqL {t e : TypeId} (h : P.underlying t = some (.slice e)) (n : Nat) (a : Option Addr) (l c l' c' : Nat) : quietS P (Op.equalIn (n + 1) t (.slice a l c) (.slice none l' c')) = some a.isNone := by
  cases a <;> simp only [Op.equalIn, quietS_bind, quietS_under h, Option.bind_some, quietS_pure] <;> rfl
theorem q_bin (hT : TyOk P T) {op : BinOp} {t : Nat} {x y : Operand} {yt : TypeId} {dst : Option Tmp} {ty : TypeId} {pos : String} {after : Array Edge} {guard : Option (Nat × Bool)} (hr : ∀ x v, ρ x = some v → r x = v) : (qbin T op t (ρ x) (ρ y)).ok P (execOp r ⟨dst, .binOp op t x y yt, ty, pos, after, guard⟩) := by
  have base : execOp r ⟨dst, .binOp op t x y yt, ty, pos, after, guard⟩ = (do let v ← (do eqGuard op t x y (r x) (r y); binOp op t (r x) (r y)); pure (Next.value v)) := rfl
  rw [base]
  have go : ∀ {a b v : Value}, r x = a → r y = b → a ≠ .nilIface → (∀ c, a ≠ .agg c) → quietS P (binOp op t a b) = some v → quietS P (do let v ← (do eqGuard op t x y (r x) (r y); binOp op t (r x) (r y)); pure (Next.value v)) = some (.value v) := by
    intro a b v ha hb h1 h2 h3
    rw [ha, hb]
    refine q_value ?_
    rw [quietS_bind, guard_off h1 h2]
    exact h3
  have eq1 : ∀ {a b : Value} {v : Bool}, quietS P (Op.equal t a b) = some v → quietS P (do pure (Value.bool (← Op.equal t a b))) = some (.bool v) := fun h => by rw [quietS_bind, h]; rfl
  have eq2 : ∀ {a b : Value} {v : Bool}, quietS P (Op.equal t a b) = some v → quietS P (do pure (Value.bool (!(← Op.equal t a b)))) = some (.bool (!v)) := fun h => by rw [quietS_bind, h]; rfl
  cases hx : ρ x with
  | none => unfold qbin; trivial
  | some a =>
    cases hy : ρ y with
    | none => cases a <;> (unfold qbin; trivial)
    | some b =>
      have ha := hr _ _ hx
      have hb := hr _ _ hy
      unfold qbin
      split
      · rename_i k a k' c e1 e2
        cases e1; cases e2
        split
        · exact fun hp => go ha hb nofun nofun (by simp [binOp, Op.shift, Int.not_lt.2 hp, quietS_pure])
        · exact fun hp => go ha hb nofun nofun (by simp [binOp, Op.shift, Int.not_lt.2 hp, quietS_pure])
        · rename_i h1 h2
          cases hk : kEq k k' with
          | false => trivial
          | true =>
            dsimp only [cond_true]
            have q := fun z => q_int (P := P) (t := t) (a := a) (c := c) hk h1 h2 z
            cases hq : qint op k a c with
            | v z => exact go ha hb nofun nofun ((q z).1 hq)
            | c p z => exact fun hp => go ha hb nofun nofun ((q z).2.1 p hq hp)
            | d p z y => exact absurd hq ((q z).2.2 p y)
            | no => trivial
      · rename_i a c e1 e2
        cases e1; cases e2
        split
        · rename_i ht
          obtain ⟨i, d, hd⟩ := hT.is ht
          exact go ha hb nofun nofun (eq1 (eqO (dk_o hd.kind ▸ hd.under) 9999 a c))
        · rename_i ht
          obtain ⟨i, d, hd⟩ := hT.is ht
          exact go ha hb nofun nofun (eq2 (eqO (dk_o hd.kind ▸ hd.under) 9999 a c))
        · trivial
      · rename_i a c e1 e2
        cases e1; cases e2
        split
        · exact go ha hb nofun nofun (by simp [binOp, Op.stringOp, quietS_pure])
        · exact go ha hb nofun nofun (by simp [binOp, Op.stringOp, quietS_pure])
        · trivial
      · rename_i a e1 e2
        cases e1; cases e2
        split
        · rename_i ht
          obtain ⟨i, d, hd⟩ := hT.is ht
          obtain ⟨e, rfl⟩ := dk_p hd.kind
          exact go ha hb nofun nofun (eq1 (eqP hd.under 9999 a))
        · rename_i ht
          obtain ⟨i, d, hd⟩ := hT.is ht
          obtain ⟨e, rfl⟩ := dk_p hd.kind
          exact go ha hb nofun nofun (eq2 (eqP hd.under 9999 a))
        · trivial
      · rename_i a _ _ _ _ e1 e2
        cases e1; cases e2
        split
        · rename_i ht
          obtain ⟨i, d, hd⟩ := hT.is ht
          exact go ha hb nofun nofun (eq1 (eqL (dk_l hd.kind ▸ hd.under) 9999 a _ _ _ _))
        · rename_i ht
          obtain ⟨i, d, hd⟩ := hT.is ht
          exact go ha hb nofun nofun (eq2 (eqL (dk_l hd.kind ▸ hd.under) 9999 a _ _ _ _))
        · trivial
      · trivial
end
end
end Go.Proofs.YtignemioillaiaaGreat
