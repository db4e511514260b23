/- Quiet operations, all. -/
import Derived.Test.YtignemioillaiaaGreatG18
import Derived.Test.YtignemioillaiaaGreatG15
import Derived.Laws.CopyOwn
import Derived.Laws.BytesString
import Derived.Laws.MakeOwn
namespace Go.Proofs.YtignemioillaiaaGreat
set_option maxHeartbeats 8000000
set_option maxRecDepth 100000
section
open Go Go.IntWalk
/-- The table, and that its structs may be compared. -/
structure Tab (P : Program) (T : Tys) : Prop where
  ok : TyOk P T
  eq : (T.all fun p => !isS p.2 || (!P.stoodInHeld p.1 && !P.eqGuardType P.depth p.1)) = true
noncomputable def qagg (T : Tys) (op : BinOp) (t : Nat) (xs ys : Array Value) : Qr := match T.get t, eqTy T 5 t xs.toList ys.toList, op with
  | some (.s _), some b, .eql => .v (.bool b)
  | some (.s _), some b, .neq => .v (.bool (!b))
  | _, _, _ => .no
noncomputable def qall (T : Tys) (ρ : Operand → Option Value) : Op → Qr
  | .binOp op t x y _ => match ρ x, ρ y with
    | some (.agg xs), some (.agg ys) => qagg T op t xs ys
    | u, v => qbin T op t u v
  | op => qop T ρ op
section
variable {P : Program} {T : Tys} {ρ : Operand → Option Value} {r : Operand → Value}
theorem Tab.eqs (h : Tab P T) {t : Nat} {fs : List Nat} (ht : T.get t = some (.s fs)) : P.stoodInHeld t = false ∧ P.eqGuardType P.depth t = false := by
  have := List.all_eq_true.1 h.eq _ (Tys.mem ht)
  simpa [isS] using this
theorem guard_agg {t : Nat} (h : P.eqGuardType P.depth t = false) {op : BinOp} {x y : Operand} {xs ys : Array Value} : quietS P (eqGuard op t x y (.agg xs) (.agg ys)) = some () := by
  have e : quietS P (do
      if !(← program).eqGuardType (← program).depth t then return
      if ← Op.eqGuardIn Op.maxDepth t (.agg xs) (.agg ys) then unsupported (.noEntry "binop/eql: two nil values of an interface type with methods, in a part of a struct or an array")) = some () := by
    have hp : quietS P program = some P := rfl
    rw [quietS_bind, hp, Option.bind_some, quietS_bind, hp, Option.bind_some, h]
    rfl
  cases op <;> first | rfl | exact e
theorem q_agg (hT : Tab P T) {op : BinOp} {t : Nat} {x y : Operand} {yt : TypeId} {dst : Option Tmp} {ty : TypeId} {pos : String} {after : Array Edge} {guard : Option (Nat × Bool)} {xs ys : Array Value} (hx : r x = .agg xs) (hy : r y = .agg ys) : (qagg T op t xs ys).ok P (execOp r ⟨dst, .binOp op t x y yt, ty, pos, after, guard⟩) := by
  have base : execOp r ⟨dst, .binOp op t x y yt, ty, pos, after, guard⟩ = (do let v ← (do eqGuard op t x y (r x) (r y); binOp op t (r x) (r y)); pure (Next.value v)) := rfl
  rw [base, hx, hy]
  unfold qagg
  split
  · rename_i fs b h1 h2
    have he := q_eqIn hT.ok (fun t fs h => (hT.eqs h).1) 5 9995 t _ _ _ (.agg xs) (.agg ys) b h1 h2 (by simp [toV, isS]) (by simp [toV, isS])
    refine q_value ?_
    rw [quietS_bind, guard_agg (hT.eqs h1).2, Option.bind_some]
    show quietS P (do pure (Value.bool (← Op.equalIn (5 + 9995) t (.agg xs) (.agg ys)))) = _
    rw [quietS_bind, he]; rfl
  · rename_i fs b h1 h2
    have he := q_eqIn hT.ok (fun t fs h => (hT.eqs h).1) 5 9995 t _ _ _ (.agg xs) (.agg ys) b h1 h2 (by simp [toV, isS]) (by simp [toV, isS])
    refine q_value ?_
    rw [quietS_bind, guard_agg (hT.eqs h1).2, Option.bind_some]
    show quietS P (do pure (Value.bool (!(← Op.equalIn (5 + 9995) t (.agg xs) (.agg ys))))) = _
    rw [quietS_bind, he]; rfl
  · trivial
theorem q_conv (hT : TyOk P T) {s d : Nat} {k l m : IntKind} {n : Int} (hs : T.get s = some (.i k)) (hd : T.get d = some (.i l)) : quietS P (convert s d (.int m n)) = some (.int l (l.wrap n)) := by
  obtain ⟨_, _, h1⟩ := hT.is hs
  obtain ⟨_, _, h2⟩ := hT.is hd
  unfold convert
  simp only [quietS_bind, quietS_under (dk_i h1.kind ▸ h1.under), quietS_under (dk_i h2.kind ▸ h2.under), Option.bind_some, Conv.intToInt, quietS_pure]
theorem q_convS (hT : TyOk P T) {s d : Nat} {u : ByteArray} (hs : T.get s = some .t) (hd : T.get d = some .t) : quietS P (convert s d (.string u)) = some (.string u) := by
  obtain ⟨_, _, h1⟩ := hT.is hs
  obtain ⟨_, _, h2⟩ := hT.is hd
  unfold convert
  simp only [quietS_bind, quietS_under (dk_t h1.kind ▸ h1.under), quietS_under (dk_t h2.kind ▸ h2.under), Option.bind_some, quietS_pure]
theorem q_sb {k : IntKind} {i : Int} {y : Nat} {c : BoundsCode} (h : 0 ≤ i ∧ i ≤ y) : quietS P (Instr.sliceBound (.int k i) y c) = some i.toNat := by
  unfold Instr.sliceBound
  simp only [quietS_bind, asIntOf, quietS_pure, Option.bind_some, h, and_self, if_true]
theorem q_all (hT : Tab P T) (hr : ∀ x v, ρ x = some v → r x = v) (o : Oper) : (qall T ρ o.op).ok P (execOp r o) := by
  obtain ⟨dst, op, ty, pos, after, guard⟩ := o
  have V : ∀ {s : Sem Value} {x : Value}, quietS P s = some x → quietS P (do let v ← s; pure (Next.value v)) = some (.value x) := q_value
  cases op with
  | binOp op t x y yt =>
    show (match ρ x, ρ y with
      | some (.agg xs), some (.agg ys) => qagg T op t xs ys
      | u, v => qbin T op t u v).ok P _
    split
    · rename_i xs ys h1 h2
      exact q_agg hT (hr _ _ h1) (hr _ _ h2)
    · exact q_bin hT.ok hr
  | move x =>
    simp only [qall, qop]
    split
    · rename_i v h; simp only [Qr.ok, execOp, hr _ _ h, quietS_pure]
    · trivial
  | assign x =>
    simp only [qall, qop]
    split
    · rename_i v h; simp only [Qr.ok, execOp, hr _ _ h, quietS_pure]
    · trivial
  | pick c a b =>
    simp only [qall, qop]
    split
    · rename_i t u v h1 h2 h3
      simp only [Qr.ok, execOp, hr _ _ h1, hr _ _ h2, hr _ _ h3, asBool, quietS_bind, quietS_pure, Option.bind_some]
      cases t <;> rfl
    · trivial
  | fieldAddr s x f =>
    simp only [qall, qop]
    split
    · rename_i b o fs h1 h2
      split
      · rename_i d u h3
        split
        · rename_i z h4
          cases h0 : Nat.beq (szT T u) 0 with
          | true => trivial
          | false =>
            simp only [Qr.ok, execOp, hr _ _ h1, cond_false]
            exact V (q_fieldAddr hT.ok h2 h3 h4 fun e => by rw [e] at h0; cases h0)
        · trivial
      · trivial
    · trivial
  | field s x f =>
    simp only [qall, qop]
    split
    · rename_i cs fs h1 h2
      split
      · rename_i d u h3
        split
        · rename_i gs h4
          simp only [Qr.ok, execOp, hr _ _ h1]
          exact V (by rw [q_field hT.ok h2 h3 h4]; rfl)
        · trivial
        · rename_i z h4 h5' h5
          split
          · rename_i v h6
            simp only [Qr.ok, execOp, hr _ _ h1]
            refine V ?_
            rw [q_field hT.ok h2 h3 h5, if_neg, h6]
            cases z <;> simp_all [isS]
          · trivial
        · trivial
      · trivial
    · trivial
  | indexAddr t x i =>
    simp only [qall, qop]
    split
    · rename_i b o n c k j e h1 h2 h3
      split
      · rename_i z h4
        intro hp
        simp only [execOp, hr _ _ h1, hr _ _ h2]
        exact V (q_index hT.ok h3 h4 hp)
      · trivial
    · rename_i b o k j n e h1 h2 h3
      split
      · rename_i z h4
        intro hp
        simp only [execOp, hr _ _ h1, hr _ _ h2]
        exact V (q_indexA hT.ok h3 h4 hp)
      · trivial
    · trivial
  | index t x i =>
    simp only [qall, qop]
    split
    · rename_i s k j h1 h2 h3
      intro hp
      simp only [execOp, hr _ _ h1, hr _ _ h2]
      exact V (q_indexS hT.ok h3 hp)
    · trivial
  | unOp op t x =>
    simp only [qall, qop]
    split
    · rename_i b h1
      simp only [Qr.ok, execOp, hr _ _ h1, Op.unary]
      rfl
    · rename_i n h1
      intro hp
      simp only [execOp, hr _ _ h1, Op.unary, Op.intArith]
      show some (Next.value (.int .i64 (IntKind.i64.wrap (0 - n)))) = _
      rw [Go.IntWalk.i64_in _ hp]
    · trivial
  | convert s d x =>
    simp only [qall, qop]
    split
    · rename_i m n k l h1 h2 h3
      have e := q_conv hT.ok (m := m) (n := n) h2 h3
      have e' : quietS P (execOp r ⟨dst, .convert s d x, ty, pos, after, guard⟩) = some (.value (.int l (l.wrap n))) := by
        simp only [execOp, hr _ _ h1]
        exact V e
      cases l <;> first
        | trivial
        | exact ⟨e', fun hp => by rw [u8_in _ hp]⟩
        | exact ⟨e', fun hp => by rw [u32_in _ hp]⟩
        | exact ⟨e', fun hp => by rw [u64_in _ hp]⟩
        | exact ⟨e', fun hp => by rw [i64_in _ hp]⟩
    · rename_i u h1 h2 h3
      simp only [Qr.ok, execOp, hr _ _ h1]
      exact V (q_convS hT.ok h2 h3)
    · trivial
  | extract x i =>
    simp only [qall, qop]
    split
    · rename_i vs h1
      split
      · rename_i v h2
        simp only [Qr.ok, execOp, hr _ _ h1, Instr.extract]
        rw [Array.getElem?_toList] at h2
        rw [h2]; rfl
      · trivial
    · trivial
  | build t ps =>
    simp only [qall, qop]
    split
    · rename_i fs vs h1 h2
      split
      · rename_i cs h3
        cases h4 : fs.all (fun u => (T.get u).isSome) with
        | false => trivial
        | true =>
          simp only [Qr.ok, execOp, cond_true]
          have e : (ps.map fun (p : Nat × Operand) => (p.1, r p.2)) = vs.toArray := by
            apply Array.ext'
            rw [Array.toList_map]
            exact evP_map hr h2
          exact V (by rw [show (ps.map fun x => match x with | (i, x) => (i, r x)) = (ps.map fun (p : Nat × Operand) => (p.1, r p.2)) from rfl, e]; exact q_build hT.ok h1 h3 h4)
      · trivial
    · trivial
  | makeFunc fn a b =>
    simp only [qall, qop]
    split
    · rename_i u v h1 h2
      simp only [Qr.ok, execOp, Instr.makeFunc]
      have e1 : a.map r = u.toArray := by apply Array.ext'; rw [Array.toList_map]; exact evL_map hr h1
      have e2 : b.map r = v.toArray := by apply Array.ext'; rw [Array.toList_map]; exact evL_map hr h2
      rw [e1, e2]; rfl
    · trivial
  | nilCheck x =>
    simp only [qall, qop]
    split
    · rename_i a h1
      simp only [Qr.ok, execOp, hr _ _ h1, quietS_pure]
    · rename_i f u v h1
      simp only [Qr.ok, execOp, hr _ _ h1, quietS_pure]
    · trivial
  | slice t x lo hi mx =>
    cases mx with
    | some m =>
      cases lo with
      | none => trivial
      | some lo =>
        cases hi with
        | none => trivial
        | some hi =>
          simp only [qall, qop]
          split
          · rename_i a n cap e h1 h2
            obtain ⟨_, _, h3⟩ := hT.ok.is h2
            have hu : P.underlying t = some (.slice e) := dk_l h3.kind ▸ h3.under
            split
            · rename_i z hz
              obtain ⟨_, _, h3'⟩ := hT.ok.is hz
              split
              · rename_i k1 l k2 h k3 mm h4 h5 h6
                intro hp
                simp only [execOp, hr _ _ h1, Option.map_some, hr _ _ h4, hr _ _ h5, hr _ _ h6]
                refine V ?_
                simp only [Instr.sliceAt, quietS_bind, quietS_under hu, Option.bind_some, Instr.slice, Instr.sliceBounds, quietS_pure]
                rw [q_sb ⟨by omega, by omega⟩, Option.bind_some, q_sb ⟨by omega, by omega⟩, Option.bind_some, q_sb ⟨by omega, by omega⟩]
                simp only [Option.bind_some, quietS_size h3'.info, h3'.size]
              · trivial
            · trivial
          · trivial
    | none =>
      simp only [qall, qop]
      split
      · rename_i s h1 h2
        obtain ⟨_, _, h3⟩ := hT.ok.is h2
        have hu : P.underlying t = some .string := dk_t h3.kind ▸ h3.under
        split
        · rename_i k1 a k2 b h4 h5
          obtain ⟨l, rfl, h4⟩ := Option.bind_eq_some_iff.1 h4
          obtain ⟨h, rfl, h5⟩ := Option.bind_eq_some_iff.1 h5
          intro hp
          simp only [execOp, hr _ _ h1, Option.map_some, Option.map_none, hr _ _ h4, hr _ _ h5]
          refine V ?_
          simp only [Instr.sliceAt, quietS_bind, quietS_under hu, Option.bind_some, Instr.slice, Option.isSome_none, Bool.false_eq_true, if_false, Instr.sliceBounds, quietS_pure]
          rw [q_sb ⟨by omega, by omega⟩, Option.bind_some, q_sb ⟨by omega, by omega⟩]
          rfl
        · rename_i k1 a h4 h5 h6
          obtain ⟨l, rfl, h4⟩ := Option.bind_eq_some_iff.1 h4
          obtain rfl := Option.isNone_iff_eq_none.1 h6
          intro hp
          simp only [execOp, hr _ _ h1, Option.map_some, Option.map_none, hr _ _ h4]
          refine V ?_
          simp only [Instr.sliceAt, quietS_bind, quietS_under hu, Option.bind_some, Instr.slice, Option.isSome_none, Bool.false_eq_true, if_false, Instr.sliceBounds, quietS_pure]
          rw [q_sb ⟨by omega, by omega⟩]
          rfl
        · trivial
      · rename_i a n cap e h1 h2
        obtain ⟨_, _, h3⟩ := hT.ok.is h2
        have hu : P.underlying t = some (.slice e) := dk_l h3.kind ▸ h3.under
        split
        · rename_i z hz
          obtain ⟨_, _, h3'⟩ := hT.ok.is hz
          split
          · rename_i k1 l k2 h h4 h5
            obtain ⟨lo, rfl, h4⟩ := Option.bind_eq_some_iff.1 h4
            obtain ⟨hi, rfl, h5⟩ := Option.bind_eq_some_iff.1 h5
            intro hp
            simp only [execOp, hr _ _ h1, Option.map_some, Option.map_none, hr _ _ h4, hr _ _ h5]
            refine V ?_
            simp only [Instr.sliceAt, quietS_bind, quietS_under hu, Option.bind_some, Instr.slice, Instr.sliceBounds, quietS_pure]
            rw [q_sb ⟨by omega, by omega⟩, Option.bind_some, q_sb ⟨by omega, by omega⟩]
            simp only [Option.bind_some, quietS_size h3'.info, h3'.size]
          · rename_i k1 l h4 h5 h6
            obtain ⟨lo, rfl, h4⟩ := Option.bind_eq_some_iff.1 h4
            obtain rfl := Option.isNone_iff_eq_none.1 h6
            intro hp
            simp only [execOp, hr _ _ h1, Option.map_some, Option.map_none, hr _ _ h4]
            refine V ?_
            simp only [Instr.sliceAt, quietS_bind, quietS_under hu, Option.bind_some, Instr.slice, Instr.sliceBounds, quietS_pure]
            rw [q_sb ⟨by omega, by omega⟩]
            simp only [Option.bind_some, quietS_size h3'.info, h3'.size]
          · rename_i k1 h h4 h5 h6
            obtain rfl := Option.isNone_iff_eq_none.1 h6
            obtain ⟨hi, rfl, h5⟩ := Option.bind_eq_some_iff.1 h5
            intro hp
            simp only [execOp, hr _ _ h1, Option.map_some, Option.map_none, hr _ _ h5]
            refine V ?_
            simp only [Instr.sliceAt, quietS_bind, quietS_under hu, Option.bind_some, Instr.slice, Instr.sliceBounds, quietS_pure]
            rw [q_sb ⟨by omega, by omega⟩]
            simp only [Option.bind_some, quietS_size h3'.info, h3'.size, Nat.zero_mul, Nat.sub_zero]
            cases a with
            | none => simp
            | some a => simp [Addr.add]
          · trivial
        · trivial
      · trivial
  | call c =>
    obtain ⟨callee, args, ats⟩ := c
    cases callee with
    | builtin b =>
      simp only [qall, qop]
      split
      · rename_i x t ha ht
        split
        · rename_i s h1 h2
          obtain ⟨_, _, h3⟩ := hT.ok.is h2
          have hu : P.underlying t = some .string := dk_t h3.kind ▸ h3.under
          obtain rfl : args = #[x] := Array.ext' ha
          obtain rfl : ats = #[t] := Array.ext' ht
          simp only [Qr.ok, execOp, resolve, quietS_bind, quietS_pure, Option.bind_some, invoke, builtin, Builtin.len_]
          simp only [List.map_toArray, List.map_cons, List.map_nil, hr _ _ h1]
          simp [quietS_bind, quietS_under hu, quietS_pure, goInt]
        · rename_i a n c e h1 h2
          obtain ⟨_, _, h3⟩ := hT.ok.is h2
          have hu : P.underlying t = some (.slice e) := dk_l h3.kind ▸ h3.under
          obtain rfl : args = #[x] := Array.ext' ha
          obtain rfl : ats = #[t] := Array.ext' ht
          simp only [Qr.ok, execOp, resolve, quietS_bind, quietS_pure, Option.bind_some, invoke, builtin, Builtin.len_]
          simp only [List.map_toArray, List.map_cons, List.map_nil, hr _ _ h1]
          simp [quietS_bind, quietS_under hu, quietS_pure, goInt]
        · trivial
      · rename_i x t ha ht
        split
        · rename_i a n c e h1 h2
          obtain ⟨_, _, h3⟩ := hT.ok.is h2
          have hu : P.underlying t = some (.slice e) := dk_l h3.kind ▸ h3.under
          obtain rfl : args = #[x] := Array.ext' ha
          obtain rfl : ats = #[t] := Array.ext' ht
          simp only [Qr.ok, execOp, resolve, quietS_bind, quietS_pure, Option.bind_some, invoke, builtin, Builtin.cap_]
          simp only [List.map_toArray, List.map_cons, List.map_nil, hr _ _ h1]
          simp [quietS_bind, quietS_under hu, quietS_pure, goInt]
        · trivial
      · rename_i x y ha
        split
        · rename_i k a l b h1 h2
          obtain rfl : args = #[x, y] := Array.ext' ha
          simp only [Qr.ok, execOp, resolve, quietS_bind, quietS_pure, Option.bind_some, invoke, builtin, Builtin.max_]
          simp only [List.map_toArray, List.map_cons, List.map_nil, hr _ _ h1, hr _ _ h2]
          simp [quietS_pure, Builtin.max2]
        · trivial
      · rename_i x y ha
        split
        · rename_i k a l b h1 h2
          obtain rfl : args = #[x, y] := Array.ext' ha
          simp only [Qr.ok, execOp, resolve, quietS_bind, quietS_pure, Option.bind_some, invoke, builtin, Builtin.min_]
          simp only [List.map_toArray, List.map_cons, List.map_nil, hr _ _ h1, hr _ _ h2]
          simp [quietS_pure, Builtin.min2]
        · trivial
      · trivial
    | value => trivial
    | invoke => trivial
  | _ => trivial
end
end
section
open Go Go.Conc Go.RowKit
theorem run_copyK {P : Program} (w : World) (dT sT ty elem : TypeId) (size g off dLen dCap : Nat) (a : Addr) (sLen sCap : Nat) (cur : List Value) (t : TypeId) (cs : List Value)
    (hu : P.underlying dT = some (.slice elem)) (hs : (P.info? elem).map (·.size) = some size)
    (hg : w.heap[g]? = some (.cells cur.toArray t)) (hn : cs.length = Nat.min sLen dLen * size)
    (hsrc : ∀ j v, cs[j]? = some v → w.cell? (a.add j) = some v) (hfit : off + cs.length ≤ cur.length) (h1 : ∀ v ∈ cs, v.oneCell' = true) :
    (Builtin.copy_ #[dT, sT] ty #[.slice (some ⟨g, off, none⟩) dLen dCap, .slice (some a) sLen sCap]).run P w =
      .ok (goInt (Nat.min sLen dLen)) (w.setRow g (splice cur off cs).toArray) := by
  have hl := run_loadCells_list (P := P) w a cs hsrc
  have hst := run_storeCells_at P g off t cs 0 cur.toArray w hg (by simpa using hfit) h1
  cases hq : P.info? elem with
  | none => simp [hq] at hs
  | some i =>
    have hi : i.size = size := by simpa [hq] using hs
    simp [Builtin.copy_, run_underlying hu, Builtin.lenOf, Builtin.firstCells, sizeOf, typeInfo, hq, hi, ← hn, hl, hst, splice]
/-- clear of part of a row. -/
theorem run_clearK {P : Program} (w : World) (t ty e : TypeId) (i : TypeInfo) (z : Value) (ht : P.underlying t = some (.slice e)) (hi : P.info? e = some i) (hz : i.zero = some z) (hzs : z.cells.size = i.size) (h1 : ∀ v ∈ z.cells, v.oneCell' = true)
    (g off n c : Nat) (hn : 0 < n) (cur : List Value) (t' : TypeId) (hg : w.heap[g]? = some (.cells cur.toArray t')) (hfit : off + n * i.size ≤ cur.length) :
    ∃ zs : List Value, zs.length = n * i.size ∧ (Builtin.clear_ #[t] ty #[.slice (some ⟨g, off, none⟩) n c]).run P w = .ok (.tuple #[]) (w.setRow g (splice cur off zs).toArray) := by
  have hzl : (Builtin.zeroCells z.cells n).toList.length = n * i.size := by rw [Array.length_toList, size_zeroCells, hzs]
  refine ⟨(Builtin.zeroCells z.cells n).toList, hzl, ?_⟩
  have hone : ∀ v ∈ (Builtin.zeroCells z.cells n).toList, v.oneCell' = true := by
    intro v hv
    simp only [Builtin.zeroCells, Array.toList_map, List.mem_map] at hv
    obtain ⟨j, hj, rfl⟩ := hv
    have hp : 0 < z.cells.size := by
      rcases Nat.eq_zero_or_pos z.cells.size with h | h
      · simp [h] at hj
      · exact h
    rw [getElem!_pos z.cells (j % z.cells.size) (Nat.mod_lt _ hp)]
    exact h1 _ (Array.getElem_mem _)
  have hst := run_storeCells_at P g off t' (Builtin.zeroCells z.cells n).toList 0 cur.toArray w hg (by rw [hzl]; simpa using hfit) hone
  obtain ⟨k, rfl⟩ : ∃ k, n = k + 1 := ⟨n - 1, by omega⟩
  simp [Builtin.clear_, run_underlying ht, zeroValue, typeInfo, hi, hz, hst, splice]
/-- append(s, make(T, m)...) where there is no room: a new row that begins with what was there. -/
theorem run_zeros {P : Program} (w : World) (t tn ty e : TypeId) (i : TypeInfo) (z : Value) (k kn : IntKind) (ht : P.underlying t = some (.slice e)) (htn : P.underlying tn = some (.int kn)) (hi : P.info? e = some i) (hz : i.zero = some z) (hzs : z.cells.size = i.size)
    (v : Value) (n : Nat) (xs : List Value) (hown : w.ownsRow 0 e i.size v n xs) (m : Nat) (h0 : 0 < m) (hs : 0 < i.size) (hv : ∀ a c, v = .slice a n c → c < n + m) (hb : (n + m) * i.bytes ≤ 140737488355328) (h63 : n + m ≤ maxLen) :
    ∃ b cap cur w', (Builtin.append_ #[t, tn] ty #[v, .int k m]).run P w = .ok (.slice (some ⟨b, 0, none⟩) (n + m) cap) w' ∧ w'.heap[b]? = some (.cells cur e) ∧ cur.size = cap * i.size ∧ cur.toList.take (n * i.size) = xs ∧ n + m ≤ cap ∧ cap ≤ maxLen ∧ GB none w w' ∧ w.heap.size ≤ b := by
  have hmx : n + m ≤ 9223372036854775807 := by simpa [maxLen] using h63
  have hm : m ≠ 0 := by omega
  have hw : IntKind.i64.wrap (m : Int) = m := by rw [IntKind.wrap_i64]; omega
  have hneg : ¬ ((m : Int) < 0) := by omega
  have hns : ¬ (m * i.size = 0) := Nat.mul_ne_zero hm (by omega)
  have h48i : ¬ (281474976710656 < (m : Int) * (i.bytes : Int)) := by
    rw [← Int.natCast_mul]
    have : m * i.bytes ≤ (n + m) * i.bytes := Nat.mul_le_mul_right _ (by omega)
    omega
  have gal : ∀ (o : Obj), GB none w (w.drew.alloc o) := fun o => ⟨rfl, rfl, by simp, fun x hx _ => heap_alloc_old w.drew _ (show x < w.drew.heap.size from hx)⟩
  have key : ∀ (sCap : Nat), sCap < n + m → ∀ cs : Array Value, cs = xs.toArray ++ Builtin.zeroCells z.cells m ++ Builtin.zeroCells z.cells (grownCap w (n + m) sCap e - (n + m)) → (Builtin.append_ #[t, tn] ty #[v, .int k m]).run P w = .ok (.slice (some ⟨w.heap.size, 0, none⟩) (n + m) (grownCap w (n + m) sCap e)) (w.drew.alloc (.cells cs e)) → ∃ b cap cur w', (Builtin.append_ #[t, tn] ty #[v, .int k m]).run P w = .ok (.slice (some ⟨b, 0, none⟩) (n + m) cap) w' ∧ w'.heap[b]? = some (.cells cur e) ∧ cur.size = cap * i.size ∧ cur.toList.take (n * i.size) = xs ∧ n + m ≤ cap ∧ cap ≤ maxLen ∧ GB none w w' ∧ w.heap.size ≤ b := fun sCap hc cs hcs hr => by
    have hge := grownCap_ge w (n + m) sCap e
    refine ⟨_, _, _, _, hr, heap_alloc_new w.drew _, ?_, ?_, hge, grownCap_le_maxLen w (n + m) sCap e h63, gal _, Nat.le_refl _⟩
    · subst hcs
      simp only [Array.size_append, List.size_toArray, size_zeroCells, hzs, hown.1, ← Nat.add_mul]
      congr 1
      omega
    · subst hcs
      simp only [Array.toList_append, List.append_assoc]
      rw [← hown.1]
      exact List.take_left
  have h63' : ¬ (9223372036854775807 < ((n : Int) + (m : Int))) := by omega
  rcases hown.2 with ⟨rfl, rfl⟩ | ⟨g, cap, cur, rfl, _, hg, hnc, hcm, hcs, htake⟩
  · have hx : xs = [] := List.eq_nil_of_length_eq_zero (by simpa using hown.1)
    subst hx
    have h48' : ¬ (281474976710656 < Builtin.nextslicecap (0 + m) 0 * i.bytes) := by have := growslice_fits (need := 0 + m) (old := 0) (by omega) hb; omega
    refine key 0 (by omega) _ rfl ?_
    simp only [Nat.zero_add] at h48' h63' ⊢
    simp [Builtin.append_, run_underlying ht, run_underlying htn, sizeOf, typeInfo, zeroValue, hi, hz, asInt, asIntOf, hw, hm, hneg, hns, h48', h48i, Question.forced, newRow, grownCap, Builtin.firstCells, Builtin.lenOf]
    omega
  · have hc := hv _ _ rfl
    have hn : ¬ (n + m ≤ cap) := by omega
    have h48' : ¬ (281474976710656 < Builtin.nextslicecap (n + m) cap * i.bytes) := by have := growslice_fits hc hb; omega
    have hfo := run_firstCells_some (P := P) w.drew i.size n ⟨g, 0, none⟩ n cap xs hown.1 (by have := hown.cells (g := g) rfl; simpa using this)
    refine key cap hc _ rfl ?_
    simp [Builtin.append_, run_underlying ht, run_underlying htn, sizeOf, typeInfo, zeroValue, hi, hz, asInt, asIntOf, hw, hn, hneg, hns, h63', h48', h48i, Question.forced, hfo, newRow, grownCap]
def bstr (l : List Int) : ByteArray := l.foldl (fun r n => r.push (UInt8.ofNat n.toNat)) ByteArray.empty
theorem run_bstr {P : Program} {w : World} {v : Value} {n e : Nat} {l : List Int} (src dst : TypeId) (hs : P.underlying src = some (.slice e)) (he : P.underlying e = some (.int .u8)) (hd : P.underlying dst = some .string) (hown : w.ownsRow 0 e 1 v n (l.map fun b => .int .u8 b)) :
    (convert src dst v).run P w = .ok (.string (bstr l)) w := by
  have hn : l.length = n := by have := hown.1; simpa using this
  rcases hown.2 with ⟨rfl, h0⟩ | ⟨g, cap, cur, rfl, _, hgg, _, _, _, _⟩
  · have hl : l = [] := List.eq_nil_of_length_eq_zero (by omega)
    subst hl
    rw [run_convert_bytes_string w src dst e none 0 0 hs he hd]; rfl
  · rw [run_convert_bytes_string w src dst e _ _ _ hs he hd]
    refine run_bytesToString w _ _ _ l ?_
    have := run_loadCells_list (P := P) w ⟨g, 0, none⟩ (l.map fun b => .int .u8 b) (World.ownsRow.cells hown (g := g) rfl)
    rw [List.length_map, hn] at this
    exact this
end
end Go.Proofs.YtignemioillaiaaGreat
