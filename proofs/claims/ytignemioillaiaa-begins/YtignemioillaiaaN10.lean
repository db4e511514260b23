/- 'copy' of a slice of structs into a row of the call's own; two lists of pieces that hold the same. -/
import Derived.Test.YtignemioillaiaaN
import Derived.WalkLawsBesides
import Derived.Laws.CopyOwn
namespace Go.Proofs.Ytignemioillaiaa
open Go.RowKit

theorem run_copy_rows {P : Program} (w : World) (dT sT ty elem : TypeId) (size g dLen dCap : Nat) (a : Addr) (sLen sCap : Nat) (cur : List Value) (t : TypeId) (cs : List Value)
    (hu : P.underlying dT = some (.slice elem)) (hs : (P.info? elem).map (·.size) = some size)
    (hg : w.heap[g]? = some (.cells cur.toArray t)) (hn : cs.length = Nat.min sLen dLen * size)
    (hsrc : ∀ j v, cs[j]? = some v → w.cell? (a.add j) = some v) (hfit : cs.length ≤ cur.length) (h1 : ∀ v ∈ cs, v.oneCell' = true) :
    (Builtin.copy_ #[dT, sT] ty #[.slice (some ⟨g, 0, none⟩) dLen dCap, .slice (some a) sLen sCap]).run P w =
      .ok (goInt (Nat.min sLen dLen)) (w.setRow g (cs ++ cur.drop cs.length).toArray) := by
  have hl := run_loadCells_list (P := P) w a cs hsrc
  have hst := run_storeCells_at P g 0 t cs 0 cur.toArray w hg (by simpa using hfit) h1
  cases hq : P.info? elem with
  | none => simp [hq] at hs
  | some i =>
    have hi : i.size = size := by simpa [hq] using hs
    simp [Builtin.copy_, run_underlying hu, Builtin.lenOf, Builtin.firstCells, sizeOf, typeInfo, hq, hi, ← hn, hl, hst]

theorem run_copy_zero {P : Program} (w : World) (dT sT ty elem : TypeId) (size : Nat) (d : Addr) (dLen dCap : Nat) (a : Option Addr) (sCap : Nat)
    (hu : P.underlying dT = some (.slice elem)) (hs : (P.info? elem).map (·.size) = some size) :
    (Builtin.copy_ #[dT, sT] ty #[.slice (some d) dLen dCap, .slice a 0 sCap]).run P w = .ok (goInt 0) w := by
  have h0 : Nat.min 0 dLen = 0 := Nat.min_eq_left (Nat.zero_le _)
  cases hq : P.info? elem with
  | none => simp [hq] at hs
  | some i =>
    have hl : ∀ (x : Addr), (loadCells x 0).run P w = .ok #[] w := fun x => by simpa using run_loadCells_list (P := P) w x [] (by simp)
    cases a <;> simp [Builtin.copy_, run_underlying hu, Builtin.lenOf, Builtin.firstCells, sizeOf, typeInfo, hq, h0, storeCells, hl]

theorem wpList_copy_in {P : Program} {w : World} {ops : Array Oper} {rest : List Oper} {o : Oper} {a : Act} {Q : Exit → Act → World → Prop} (hgd : o.guard = none) (d s : Operand) (dT sT : TypeId)
    (ho : o.op = .call { callee := .builtin .copy, args := #[d, s], argTypes := #[dT, sT] }) (elem : TypeId) (size : Nat) (hu : P.underlying dT = some (.slice elem)) (hsz : (P.info? elem).map (·.size) = some size)
    (g dLen dCap : Nat) (hd : a.eval d = .slice (some ⟨g, 0, none⟩) dLen dCap) (sa : Option Addr) (n c : Nat) (hs : a.eval s = .slice sa n c)
    (cur : List Value) (t : TypeId) (hg : w.heap[g]? = some (.cells cur.toArray t)) (B : Nat) (xs : List (List Value)) (hin : SlIn B w ⟨sa, n, c⟩ size xs) (hall : ∀ x ∈ xs, x.length = size) (h1 : ∀ u ∈ xs.flatten, u.oneCell' = true)
    (hnd : n ≤ dLen) (hfit : n * size ≤ cur.length)
    (h : ∀ w', w'.heap[g]? = some (.cells (xs.flatten ++ cur.drop (n * size)).toArray t) → Only g w w' → wpList P ops Q rest (a.put o.dst (goInt n)) w') : wpList P ops Q (o :: rest) a w := by
  have hlen : n = xs.length := hin.len
  have hfl := flat_len xs hall
  refine wpList_plain hgd fun K hK => ?_
  rcases Nat.eq_zero_or_pos n with h0 | h0
  · subst h0
    have hx : xs = [] := List.eq_nil_of_length_eq_zero hlen.symm
    subst hx
    have hrun := run_copy_zero (P := P) w dT sT o.type elem size ⟨g, 0, none⟩ dLen dCap sa c hu hsz
    unfold Oper.wp execOp
    simp only [ho, resolve, invoke, builtin, Sem.run_bind, Sem.run_pure, Result.andThen_ok, List.map_toArray, List.map_cons, List.map_nil, hd, hs, hrun]
    exact hK _ _ (h w (by simpa using hg) ⟨rfl, rfl, rfl, rfl, fun _ _ => rfl⟩)
  · obtain ⟨b, off, ha, _, _⟩ := hin.at' h0
    have ha' : sa = some ⟨b, off, none⟩ := ha
    subst ha'
    have hmin : Nat.min n dLen = n := Nat.min_eq_left hnd
    have hrun := run_copy_rows (P := P) w dT sT o.type elem size g dLen dCap ⟨b, off, none⟩ n c cur t xs.flatten hu hsz hg (by rw [hmin, hfl, hlen]) (hin.news hall _ rfl h0) (by rw [hfl, ← hlen]; exact hfit) h1
    rw [hmin] at hrun
    unfold Oper.wp execOp
    simp only [ho, resolve, invoke, builtin, Sem.run_bind, Sem.run_pure, Result.andThen_ok, List.map_toArray, List.map_cons, List.map_nil, hd, hs, hrun]
    refine hK _ _ (h _ ?_ (Only.setRow w g _))
    have := setRow_heap w g cur.toArray (xs.flatten ++ cur.drop xs.flatten.length).toArray t (0, 0) hg
    rw [hfl, ← hlen] at this
    simpa [hfl, ← hlen] using this

set_option maxHeartbeats 400000 in
set_option maxRecDepth 100000 in
theorem samepieces_any (a1 : Option Addr) (n1 c1 : Nat) (a2 : Option Addr) (n2 c2 : Nat) (m : List Pc) (w : World) (h1 : MapIn w a1 n1 c1 m) (h2 : MapIn w a2 n2 c2 m) :
    Calls Try.prog 22 #[.slice a1 n1 c1, .slice a2 n2 c2] w fun e w' => e = .returned (.bool true) ∧ Below w.heap.size w w' := by
  have hl1 : n1 = m.length := by simpa using h1.len
  have hl2 : n2 = m.length := by simpa using h2.len
  obtain rfl : n2 = n1 := by omega
  have hlm : n2 ≤ maxLen := Nat.le_trans h1.le h1.max
  unfold maxLen at hlm
  have HL : Hid (n2 = m.length) := hl1
  clear hl1 hl2
  go_enter Try.func22, Try.ntmps22
  go_wp2_with fail
  go_loopw [5] (fun i wr => ∃ k : Nat, k ≤ n2 ∧ i = .int .i64 k ∧ Below w.heap.size w wr) (fun i _ => n2 - (intOf i).toNat)
  case atStart => exact ⟨0, Nat.zero_le _, rfl, Below.refl _ _⟩
  case round =>
    obtain ⟨k, hk, rfl, hnx⟩ := hrel
    by_cases hlt : k < n2
    · obtain ⟨x, hx⟩ : ∃ x, m[k]? = some x := ⟨m[k]'(by rw [← HL.out]; exact hlt), by simp⟩
      obtain ⟨b, off, ha, hbB, hc0, hc1⟩ := (h1.later hnx).atP hx
      obtain ⟨b', off', ha', hbB', hd0, hd1⟩ := (h2.later hnx).atP hx
      obtain rfl : a1 = some ⟨b, off, none⟩ := ha
      obtain rfl : a2 = some ⟨b', off', none⟩ := ha'
      have hi0 : (0 : Int) ≤ (k : Int) := by omega
      have hi1 : (k : Int) < (n2 : Int) := by omega
      clear hx
      obtain ⟨xf, xg⟩ := x
      dsimp only at hc0 hc1 hd0 hd1
      go_wp2_with fail
      go_quiet (fail)
      go_wp2
      go_roundw
      case rel => exact ⟨k + 1, by omega, by go_num, below_drewN hnx _⟩
      case measure => simp [intOf]; omega
    · go_wp2
      go_ret
      exact ⟨rfl, hnx⟩

end Go.Proofs.Ytignemioillaiaa
