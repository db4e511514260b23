/- Quiet operations: what is reckoned is what they leave (2). -/
import Derived.Test.YtignemioillaiaaGreatG17
namespace Go.Proofs.YtignemioillaiaaGreat
set_option maxHeartbeats 8000000
set_option maxRecDepth 100000
section
open Go Go.IntWalk
theorem add_spot (b o n : Nat) : (⟨b, o, none⟩ : Addr).add n = ⟨b, o + n, none⟩ := by
  unfold Addr.add
  split
  · subst_vars; rfl
  · rfl
theorem cut_extract (cs : Array Value) (d n : Nat) : cs.extract d (d + n) = (cutL cs.toList d n).toArray := by
  apply Array.ext'
  simp [cutL, Array.toList_extract, List.extract_eq_take_drop]
theorem quietS_map {α β : Type} (P : Program) (f : α → β) (s : Sem α) : quietS P (f <$> s) = (quietS P s).map f := by
  have h := quietS_bind P s fun a => (pure (f a) : Sem β)
  rw [Option.map_eq_bind]
  exact h
section
variable {P : Program} {T : Tys} {ρ : Operand → Option Value} {r : Operand → Value}
theorem offs_field (hT : TyOk P T) {s : Nat} {fs : List Nat} (hs : T.get s = some (.s fs)) : ∃ fl : Array Field, P.underlying s = some (.struct fl) ∧ ∀ (f d u : Nat), (offs T fs 0)[f]? = some (d, u) → ∃ x : Field, fl[f]? = some x ∧ x.offset = d ∧ x.type = u ∧ (x.name == "_") = false := by
  obtain ⟨i, d, hd⟩ := hT.is hs
  obtain ⟨fl, rfl, hfl⟩ := dk_s hd.kind
  refine ⟨fl, hd.under, fun f d u hf => ?_⟩
  have h1 : (fl.toList.map fun f => (f.offset, f.type, f.name == "_"))[f]? = some (d, u, false) := by
    rw [hfl, List.getElem?_map, hf]; rfl
  rw [List.getElem?_map, Array.getElem?_toList] at h1
  cases hx : fl[f]? with
  | none => rw [hx] at h1; cases h1
  | some x =>
    rw [hx] at h1
    simp only [Option.map_some, Option.some.injEq, Prod.mk.injEq] at h1
    exact ⟨x, rfl, h1.1, h1.2.1, h1.2.2⟩
theorem q_fieldAddr (hT : TyOk P T) {s f : Nat} {fs : List Nat} {b o d u : Nat} {z : Ty} (hs : T.get s = some (.s fs)) (hf : (offs T fs 0)[f]? = some (d, u)) (hu : T.get u = some z) (h0 : ¬ szT T u = 0) : quietS P (Instr.fieldAt s (.pointer (some ⟨b, o, none⟩)) f) = some (.pointer (some ⟨b, o + d, none⟩)) := by
  obtain ⟨fl, h1, h2⟩ := offs_field hT hs
  obtain ⟨x, hx, rfl, rfl, _⟩ := h2 f d u hf
  obtain ⟨i, dd, hd⟩ := hT.is hu
  unfold Instr.fieldAt
  simp only [quietS_bind, quietS_under h1, Option.bind_some, hx, Instr.sureAddr, quietS_pure, fieldPlace, quietS_size hd.info, hd.size, h0, if_false, add_spot]
theorem q_part (hT : TyOk P T) {u : Nat} {z : Ty} {cs : Array Value} {d : Nat} (hu : T.get u = some z) : quietS P (part u cs d) = if isS z then some (.agg (cutL cs.toList d (szT T u)).toArray) else cs.toList[d]? := by
  obtain ⟨i, dd, hd⟩ := hT.is hu
  unfold part
  rw [quietS_bind, quietS_agg hT hu]
  cases hz : isS z with
  | true => simp only [Option.bind_some, if_true, quietS_bind, quietS_size hd.info, hd.size, quietS_pure, cut_extract]
  | false =>
    simp only [Option.bind_some, Bool.false_eq_true, if_false]
    rw [Array.getElem?_toList]
    cases cs[d]? <;> rfl
theorem q_field (hT : TyOk P T) {s f : Nat} {fs : List Nat} {cs : Array Value} {d u : Nat} {z : Ty} (hs : T.get s = some (.s fs)) (hf : (offs T fs 0)[f]? = some (d, u)) (hu : T.get u = some z) : quietS P (Instr.field s (.agg cs) f) = if isS z then some (.agg (cutL cs.toList d (szT T u)).toArray) else cs.toList[d]? := by
  obtain ⟨fl, h1, h2⟩ := offs_field hT hs
  obtain ⟨x, hx, rfl, rfl, _⟩ := h2 f d u hf
  unfold Instr.field
  simp only [quietS_bind, quietS_under h1, Option.bind_some, hx, asAgg, quietS_pure, q_part hT hu]
theorem q_index (hT : TyOk P T) {t e : Nat} {z : Ty} {b o n c : Nat} {k : IntKind} {j : Int} (ht : T.get t = some (.l e)) (he : T.get e = some z) (hj : 0 ≤ j ∧ j < n) : quietS P (Instr.indexAt t (.slice (some ⟨b, o, none⟩) n c) (.int k j)) = some (.pointer (some ⟨b, o + j.toNat * szT T e, none⟩)) := by
  obtain ⟨i, d, hd⟩ := hT.is ht
  obtain ⟨i', d', hd'⟩ := hT.is he
  have hu : P.underlying t = some (.slice e) := dk_l hd.kind ▸ hd.under
  unfold Instr.indexAt
  simp only [quietS_bind, asIntOf, quietS_pure, Option.bind_some, quietS_under hu, hj, and_self, if_true, quietS_size hd'.info, hd'.size, add_spot]
theorem q_indexA (hT : TyOk P T) {t e : Nat} {z : Ty} {b o n : Nat} {k : IntKind} {j : Int} (ht : T.get t = some (.a n e)) (he : T.get e = some z) (hj : 0 ≤ j ∧ j < n) : quietS P (Instr.indexAt t (.pointer (some ⟨b, o, none⟩)) (.int k j)) = some (.pointer (some ⟨b, o + j.toNat * szT T e, none⟩)) := by
  obtain ⟨i, d, hd⟩ := hT.is ht
  obtain ⟨i', d', hd'⟩ := hT.is he
  have hu : P.underlying t = some (.array n e) := dk_a hd.kind ▸ hd.under
  unfold Instr.indexAt
  simp only [quietS_bind, asIntOf, quietS_pure, Option.bind_some, quietS_under hu, Instr.sureAddr, hj, and_self, if_true, quietS_size hd'.info, hd'.size, add_spot]
theorem q_indexS (hT : TyOk P T) {t : Nat} {s : ByteArray} {k : IntKind} {j : Int} (ht : T.get t = some .t) (hj : 0 ≤ j ∧ j < s.size) : quietS P (Instr.index t (.string s) (.int k j)) = some (.int .u8 (s.data.toList.getD j.toNat 0).toNat) := by
  obtain ⟨i, d, hd⟩ := hT.is ht
  have hu : P.underlying t = some .string := dk_t hd.kind ▸ hd.under
  have hl : j.toNat < s.size := by omega
  have h1 : s[j.toNat]? = some (s.data.toList.getD j.toNat 0) := by
    have h2 : j.toNat < s.data.toList.length := by simpa using hl
    rw [List.getD_eq_getElem?_getD, List.getElem?_eq_getElem h2]
    simp only [Option.getD_some]
    rw [getElem?_pos s j.toNat hl]
    congr 1
  unfold Instr.index
  simp only [quietS_bind, asIntOf, quietS_pure, Option.bind_some, quietS_under hu, hj.1, if_true, h1]
theorem evL_map {l : List Operand} {vs : List Value} (hr : ∀ x v, ρ x = some v → r x = v) (h : evL ρ l = some vs) : l.map r = vs := by
  induction l generalizing vs with
  | nil => simp only [evL, Option.some.injEq] at h; subst h; rfl
  | cons x xs ih =>
    simp only [evL] at h
    split at h
    · rename_i v vs' h1 h2
      simp only [Option.some.injEq] at h
      subst h
      simp [hr _ _ h1, ih h2]
    · cases h
theorem evP_map {l : List (Nat × Operand)} {vs : List (Nat × Value)} (hr : ∀ x v, ρ x = some v → r x = v) (h : evP ρ l = some vs) : l.map (fun p => (p.1, r p.2)) = vs := by
  induction l generalizing vs with
  | nil => simp only [evP, Option.some.injEq] at h; subst h; rfl
  | cons x xs ih =>
    obtain ⟨i, x⟩ := x
    simp only [evP] at h
    split at h
    · rename_i v vs' h1 h2
      simp only [Option.some.injEq] at h
      subst h
      simp [hr _ _ h1, ih h2]
    · cases h
theorem set_fold (vs : List Value) (cs : Array Value) (off j : Nat) (h : off + j + vs.length ≤ cs.size) : ((vs.zipIdx j).foldl (fun cs (p : Value × Nat) => cs.setIfInBounds (off + p.2) p.1) cs).toList = cs.toList.take (off + j) ++ vs ++ cs.toList.drop (off + j + vs.length) := by
  induction vs generalizing cs j with
  | nil => simp
  | cons v vs ih =>
    simp only [List.zipIdx_cons, List.foldl_cons, List.length_cons] at h ⊢
    rw [ih _ _ (by simp; omega)]
    simp only [Array.toList_setIfInBounds]
    have hl : off + j < cs.toList.length := by simp; omega
    rw [List.set_eq_take_append_cons_drop, if_pos hl]
    have e1 : (cs.toList.take (off + j)).length = off + j := by rw [List.length_take]; omega
    have e2 : off + (j + 1) = off + j + 1 := by omega
    rw [e2, List.take_append, List.take_of_length_le (by rw [e1]; omega), e1, show off + j + 1 - (off + j) = 1 by omega, List.take_succ_cons, List.take_zero]
    rw [List.drop_append, List.drop_of_length_le (by rw [e1]; omega), e1, show off + j + 1 + vs.length - (off + j) = vs.length + 1 by omega, List.drop_succ_cons, List.drop_drop]
    rw [show off + j + 1 + vs.length = off + j + (vs.length + 1) by omega]
    simp
theorem fill_L {pl : List (Nat × Nat)} {place : Nat → Option (Nat × Nat)} (hp : ∀ i, place i = pl[i]?) {cs : List Value} {vs : List (Nat × Value)} {out : List Value} (h : fillL pl cs vs = some out) : Instr.fill place cs.toArray vs = some out.toArray := by
  induction vs generalizing cs with
  | nil => simp only [fillL, Option.some.injEq] at h; subst h; rfl
  | cons p rest ih =>
    obtain ⟨i, v⟩ := p
    unfold fillL at h
    unfold Instr.fill
    rw [hp]
    cases hi : pl[i]? with
    | none => rw [hi] at h; cases h
    | some q =>
      obtain ⟨off, n⟩ := q
      rw [hi] at h
      dsimp only at h ⊢
      cases hb : (Nat.beq v.cells.toList.length n && Nat.ble (off + n) cs.length) with
      | false => rw [hb] at h; cases h
      | true =>
        rw [hb] at h
        simp only [Bool.and_eq_true] at hb
        have h1 := Nat.eq_of_beq_eq_true hb.1
        have h2 := Nat.le_of_ble_eq_true hb.2
        subst h1
        rw [Array.length_toList] at h2 h
        have hc : (decide (v.cells.size ≠ v.cells.toList.length) || decide (off + v.cells.size > cs.toArray.size)) = false := by
          simp; omega
        rw [if_neg (by rw [hc]; decide)]
        have e : (v.cells.zipIdx.foldl (fun cs (p : Value × Nat) => cs.setIfInBounds (off + p.2) p.1) cs.toArray) = (cs.take off ++ v.cells.toList ++ cs.drop (off + v.cells.size)).toArray := by
          apply Array.ext'
          have e2 : v.cells.zipIdx = v.cells.toList.zipIdx.toArray := by apply Array.ext'; simp
          rw [e2]
          have := set_fold v.cells.toList cs.toArray off 0 (by simp; omega)
          simpa using this
        exact (congrArg (fun z => Instr.fill place z rest) e).trans (ih h)
theorem q_build (hT : TyOk P T) {t : Nat} {fs : List Nat} (ht : T.get t = some (.s fs)) {vs : List (Nat × Value)} {cs : List Value} (hf : fillL ((offs T fs 0).map fun p => (p.1, szT T p.2)) (zc T t) vs = some cs) (ha : fs.all (fun u => (T.get u).isSome) = true) : quietS P (Instr.build t vs.toArray) = some (.agg cs.toArray) := by
  obtain ⟨i, d, hd⟩ := hT.is ht
  obtain ⟨fl, rfl, hfl⟩ := dk_s hd.kind
  have hz : quietS P (zeroValue t) = some (.agg (zc T t).toArray) := by
    rw [quietS_zero hd.info hd.zero]
    unfold zv isS
    rfl
  have hm : ∀ l : List Field, (∀ x ∈ l, (T.get x.type).isSome = true) → quietS P (l.mapM fun f => do pure (f.offset, ← sizeOf f.type)) = some (l.map fun f => (f.offset, szT T f.type)) := by
    intro l hl
    induction l with
    | nil => rfl
    | cons x xs ih =>
      obtain ⟨z, hz⟩ := Option.isSome_iff_exists.1 (hl x List.mem_cons_self)
      obtain ⟨i', d', hd'⟩ := hT.is hz
      rw [List.mapM_cons, quietS_bind, quietS_bind, quietS_size hd'.info, hd'.size]
      simp only [Option.bind_some, quietS_pure, quietS_bind]
      rw [ih fun y hy => hl y (List.mem_cons_of_mem _ hy)]
      rfl
  have hal : ∀ x ∈ fl.toList, (T.get x.type).isSome = true := by
    have h1 : ∀ (l : List Nat) (o : Nat), (offs T l o).map Prod.snd = l := by
      intro l
      induction l with
      | nil => intro; rfl
      | cons y ys ih => intro o; simp [offs, ih]
    intro x hx
    have h2 : x.type ∈ fs := by
      have h3 : (fl.toList.map fun f => (f.offset, f.type, f.name == "_")).map (fun p => p.2.1) = fs := by
        rw [hfl, List.map_map]
        exact (h1 fs 0)
      rw [← h3, List.map_map]
      exact List.mem_map.2 ⟨x, hx, rfl⟩
    exact List.all_eq_true.1 ha _ h2
  have hpl : (fl.toList.map fun f => (f.offset, szT T f.type)) = (offs T fs 0).map fun p => (p.1, szT T p.2) := by
    have : (fl.toList.map fun f => (f.offset, f.type, f.name == "_")).map (fun p => (p.1, szT T p.2.1)) = (offs T fs 0).map fun p => (p.1, szT T p.2) := by
      rw [hfl, List.map_map]; rfl
    rw [← this, List.map_map]; rfl
  unfold Instr.build
  rw [quietS_bind, hz]
  simp only [Option.bind_some, quietS_bind, quietS_under hd.under]
  rw [show (fl.mapM fun f => do pure (f.offset, ← sizeOf f.type) : Sem (Array (Nat × Nat))) = List.toArray <$> (fl.toList.mapM fun f => do pure (f.offset, ← sizeOf f.type)) from (Array.mapM_eq_mapM_toList ..)]
  rw [quietS_map, hm _ hal]
  simp only [Option.map_some, Option.bind_some]
  have hff := fill_L (pl := fl.toList.map fun f => (f.offset, szT T f.type)) (place := fun i => ((fl.toList.map fun f => (f.offset, szT T f.type)).toArray)[i]?) (fun i => by simp) (hpl ▸ hf)
  have e : Value.cells (.agg (zc T t).toArray) = (zc T t).toArray := rfl
  rw [e, hff]
  rfl
end
noncomputable def eqTy (T : Tys) : Nat → Nat → List Value → List Value → Option Bool
  | 0, _, _, _ => none
  | n + 1, t, xs, ys => match T.get t with
    | some (.i k) => match xs, ys with
      | [.int k1 a], [.int k2 b] => bif kEq k1 k && kEq k2 k then some (a == b) else none
      | _, _ => none
    | some .o => match xs, ys with
      | [.bool a], [.bool b] => some (a == b)
      | _, _ => none
    | some .t => match xs, ys with
      | [.string a], [.string b] => some (a == b)
      | _, _ => none
    | some (.s fs) => (offs T fs 0).foldr (fun p acc => match eqTy T n p.2 (cutL xs p.1 (szT T p.2)) (cutL ys p.1 (szT T p.2)), acc with
      | some a, some b => some (a && b)
      | _, _ => none) (some true)
    | _ => none
def toV (x : Ty) (l : List Value) : Option Value := if isS x then some (.agg l.toArray) else match l with
  | [v] => some v
  | _ => none
section
variable {P : Program} {T : Tys}
theorem cut1 {l : List Value} {d : Nat} {v : Value} (h : cutL l d 1 = [v]) : l[d]? = some v := by
  have : (cutL l d 1)[0]? = some v := by rw [h]; rfl
  unfold cutL at this
  rw [List.getElem?_take, if_pos (by decide), List.getElem?_drop] at this
  simpa using this
theorem eqTy_one {n t : Nat} {y : Ty} {xs ys : List Value} {a : Bool} (hy : T.get t = some y) (hs : isS y = false) (h : eqTy T n t xs ys = some a) : (∃ v, xs = [v]) ∧ ∃ v, ys = [v] := by
  cases n with
  | zero => cases h
  | succ n =>
    unfold eqTy at h
    rw [hy] at h
    cases y with
    | s => cases hs
    | i => dsimp only at h; split at h; exact ⟨⟨_, rfl⟩, ⟨_, rfl⟩⟩; cases h
    | o => dsimp only at h; split at h; exact ⟨⟨_, rfl⟩, ⟨_, rfl⟩⟩; cases h
    | t => dsimp only at h; split at h; exact ⟨⟨_, rfl⟩, ⟨_, rfl⟩⟩; cases h
    | _ => cases h
theorem q_eqIn (hT : TyOk P T) (hs : ∀ t fs, T.get t = some (.s fs) → P.stoodInHeld t = false) : ∀ (n m t : Nat) (x : Ty) (xs ys : List Value) (u v : Value) (b : Bool), T.get t = some x → eqTy T n t xs ys = some b → toV x xs = some u → toV x ys = some v → quietS P (Op.equalIn (n + m) t u v) = some b := by
  intro n
  induction n with
  | zero => intro m t x xs ys u v b _ h; cases h
  | succ n ih =>
    intro m t x xs ys u v b hx h hu hv
    obtain ⟨i, d, hd⟩ := hT.is hx
    rw [show n + 1 + m = (n + m) + 1 by omega]
    unfold eqTy at h
    rw [hx] at h
    have hk := hd.kind
    cases x with
    | i k =>
      dsimp only at h
      split at h
      · rename_i k1 a k2 c
        cases hb : (kEq k1 k && kEq k2 k) with
        | false => rw [hb] at h; cases h
        | true =>
          rw [hb] at h
          simp only [Bool.and_eq_true] at hb
          have e1 := kEq_eq hb.1
          have e2 := kEq_eq hb.2
          subst e1 e2
          simp only [toV, isS, Bool.false_eq_true, if_false, Option.some.injEq] at hu hv
          subst hu hv
          simp only [cond_true, Option.some.injEq] at h
          simp only [Op.equalIn, quietS_bind, quietS_under (dk_i hk ▸ hd.under), Option.bind_some, if_true, quietS_pure, h]
      · cases h
    | o =>
      dsimp only at h
      split at h
      · simp only [toV, isS, Bool.false_eq_true, if_false, Option.some.injEq] at hu hv
        subst hu hv
        simp only [Option.some.injEq] at h
        simp only [Op.equalIn, quietS_bind, quietS_under (dk_o hk ▸ hd.under), Option.bind_some, quietS_pure, h]
      · cases h
    | t =>
      dsimp only at h
      split at h
      · simp only [toV, isS, Bool.false_eq_true, if_false, Option.some.injEq] at hu hv
        subst hu hv
        simp only [Option.some.injEq] at h
        simp only [Op.equalIn, quietS_bind, quietS_under (dk_t hk ▸ hd.under), Option.bind_some, quietS_pure, h]
      · cases h
    | s fs =>
      dsimp only at h
      simp only [toV, isS, if_true, Option.some.injEq] at hu hv
      subst hu hv
      obtain ⟨fl, rfl, hfl⟩ := dk_s hk
      simp only [Op.equalIn, quietS_bind, quietS_under hd.under, Option.bind_some]
      have hp : quietS P program = some P := rfl
      rw [hp, Option.bind_some, hs t fs hx]
      simp only [Bool.false_eq_true, if_false, quietS_bind]
      rw [← Array.forIn_toList]
      have loop : ∀ (l : List Field) (ps : List (Nat × Nat)) (b : Bool), l.map (fun f => (f.offset, f.type, f.name == "_")) = ps.map (fun p => (p.1, p.2, false)) → ps.foldr (fun p acc => match eqTy T n p.2 (cutL xs p.1 (szT T p.2)) (cutL ys p.1 (szT T p.2)), acc with
          | some a, some b => some (a && b)
          | _, _ => none) (some true) = some b → quietS P (forIn l (none, ()) fun f (_ : Option Bool × Unit) =>
                if f.name ≠ "_" then do
                  let x ← part f.type xs.toArray f.offset
                  let y ← part f.type ys.toArray f.offset
                  let e ← Op.equalIn (n + m) f.type x y
                  if (!e) = true then pure (ForInStep.done (some false, ()))
                    else pure (ForInStep.yield (none, ()))
                else pure (ForInStep.yield (none, ()))) = some (if b then (none, ()) else (some false, ())) := by
        intro l
        induction l with
        | nil =>
          intro ps b hl hb
          cases ps with
          | nil => simp only [List.foldr_nil, Option.some.injEq] at hb; subst hb; rfl
          | cons => cases hl
        | cons f l ihl =>
          intro ps b hl hb
          cases ps with
          | nil => cases hl
          | cons p ps =>
            simp only [List.map_cons, List.cons.injEq, Prod.mk.injEq] at hl
            obtain ⟨⟨e1, e2, e3⟩, hl⟩ := hl
            rw [List.foldr_cons] at hb
            split at hb
            · rename_i a c h1 h2
              simp only [Option.some.injEq] at hb
              subst hb
              have hn : f.name ≠ "_" := by simpa using e3
              rw [List.forIn_cons, quietS_bind, if_pos hn]
              rw [← e2] at h1
              obtain ⟨y, hy⟩ : ∃ y, T.get f.type = some y := by
                cases hg : T.get f.type with
                | some y => exact ⟨y, rfl⟩
                | none => cases n <;> (unfold eqTy at h1; simp_all)
              have pt : ∀ zs : List Value, ∀ zs' : List Value, eqTy T n f.type (cutL zs p.1 (szT T f.type)) zs' = some a ∨ eqTy T n f.type zs' (cutL zs p.1 (szT T f.type)) = some a → ∃ u, quietS P (part f.type zs.toArray f.offset) = some u ∧ toV y (cutL zs p.1 (szT T f.type)) = some u := by
                intro zs zs' hz
                rw [q_part hT hy, e1]
                cases hys : isS y with
                | true => exact ⟨_, by rw [if_pos rfl], by simp [toV, hys]⟩
                | false =>
                  have hsz : szT T f.type = 1 := by
                    unfold szT zc zer
                    rw [hy]
                    cases y <;> first | rfl | cases hys
                  rw [hsz] at hz ⊢
                  have : ∃ v, cutL zs p.1 1 = [v] := by
                    rcases hz with hz | hz
                    · exact (eqTy_one hy hys hz).1
                    · exact (eqTy_one hy hys hz).2
                  obtain ⟨v, hv⟩ := this
                  refine ⟨v, ?_, by simp [toV, hys, hv]⟩
                  simp only [Bool.false_eq_true, if_false]
                  exact cut1 hv
              obtain ⟨u1, hu1, hv1⟩ := pt xs _ (.inl h1)
              obtain ⟨u2, hu2, hv2⟩ := pt ys _ (.inr h1)
              simp only [quietS_bind, hu1, hu2, Option.bind_some, ih m f.type y _ _ u1 u2 a hy h1 hv1 hv2]
              cases a with
              | true =>
                simp only [Bool.not_true, Bool.false_eq_true, if_false, quietS_pure, Option.bind_some, Bool.true_and]
                exact ihl ps c hl h2
              | false => rfl
            · cases hb
      rw [loop fl.toList _ b hfl h]
      cases b <;> rfl
    | _ => cases h
end
end
end Go.Proofs.YtignemioillaiaaGreat
