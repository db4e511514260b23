/- (*memory).answers where a group alone has answered, and what both know then. -/
import Derived.Test.YtignemioillaiaaJ25
namespace Go.Proofs.Ytignemioillaiaa
open Go.RowKit Go.Lib

/-- What a plain map says of what a group alone answered, and what both know then. -/
structure KStep (T : List Row) (K : List Mem) (n : Nat) (m : Mem) (qk pk : Int) (fr : Bool) (T' : List Row) (D' : List Rep) (m' : Mem) : Prop where
  inv : KInv T' D' (K.set n m')
  k3 : pk ≠ 3
  how : (fr = false ∧ m'.found = m.found ∧ T'.length = T.length) ∨
    (fr = true ∧ qk = 1 ∧ m'.found = m.found ∧ T'.length = T.length) ∨
    (fr = true ∧ qk = 2 ∧ pk = 2 ∧ m.found = true ∧ m'.found = true ∧ T'.length = T.length) ∨
    (fr = true ∧ qk = 2 ∧ pk = 2 ∧ m.found = false ∧ m'.found = true ∧ T.length < 8 ∧ T'.length = T.length + 1) ∨
    (fr = true ∧ qk = 2 ∧ pk = 5 ∧ m.found = false ∧ m'.found = false ∧ 8 ≤ T.length ∧ T'.length = T.length) ∨
    (fr = true ∧ qk = 3 ∧ m.found = true ∧ m'.found = false ∧ 1 ≤ T.length ∧ T'.length = T.length - 1) ∨
    (fr = true ∧ qk = 3 ∧ m.found = false ∧ m'.found = false ∧ T'.length = T.length) ∨
    (fr = true ∧ qk = 4 ∧ pk = 5 ∧ m'.found = m.found ∧ T'.length = T.length)

theorem set_self {K : List Mem} {n : Nat} {m : Mem} (h : K[n]? = some m) : K.set n m = K := by
  obtain ⟨h1, h2⟩ := List.getElem?_eq_some_iff.1 h
  rw [← h2, List.set_getElem_self]

theorem ans_any (w : World) (bK : Nat) (A B : List Value) (t : TypeId) (T : List Row) (D : List Rep) (K : List Mem) (n c : Nat) (m : Mem) (qs qk qv qhi qto : Int) (T' : List Row) (D' : List Rep) (pc ps pkey pk : Int) (pf : Bool) (pv pg : Int)
    (h : KInv T D K) (hn : n < 11) (hm : K[n]? = some m) (hc : c < 3) (hbK : w.heap[bK]? = some (.cells (A ++ (m.cells ++ B)).toArray t)) (hqs : 1 ≤ qs) (hkind : qk = 1 ∨ qk = 2 ∨ qk = 3 ∨ qk = 4)
    (haw : AskOut T D ⟨c, qs, qk, keyN n, qv, qhi, qto⟩ T' D' (Rep.mk pc ps pkey pk pf pv pg)) :
    Calls Try.prog 31 #[.pointer (some ⟨bK, A.length, none⟩), .agg #[.int .u8 (c : Int), .int .u32 qs, .int .u8 qk, .int .u64 (keyN n), .int .u64 qv, .int .u64 qhi, .int .u8 qto, .int .u8 pc, .int .u32 ps, .int .u64 pkey, .int .u8 pk, .bool pf, .int .u64 pv, .int .u8 pg]] w fun e w' =>
      ∃ fr m', e = .returned (.tuple #[.bool true, .bool fr]) ∧ AW w w' bK A B m' t ∧ KStep T K n m qk pk fr T' D' m' := by
  have hAW : AW w w bK A B m t := ⟨hbK, fun _ _ _ => rfl, rfl, rfl, rfl, Nat.le_refl _⟩
  have hc4 : c < 4 := by omega
  rcases haw with ⟨x, hh, hx, hle, rfl, rfl, hp⟩ | ⟨hnew, pk', pf', pv', hd, hp, rfl, rfl⟩
  · obtain ⟨_, hx0, he⟩ := hitB_some hh
    dsimp only at hx hx0
    rw [hx0] at hx
    cases hx
    rw [cmpP_eq] at he
    dsimp only at he hle hp
    have hxm := List.mem_of_getElem? hx0
    obtain ⟨h1, h2⟩ := h.dup1 n m c hm hc _ hxm he.1 he.2
    by_cases hs : x.s = qs
    · rw [if_pos hs] at hp
      obtain ⟨n', c', _, _, _, _, hk3⟩ := h.kD _ hxm
      obtain ⟨xc, xs, xkey, xk, xf, xv, xg⟩ := x
      dsimp only at he hs hk3
      obtain ⟨rfl, rfl⟩ := he
      cases hp
      refine (ans_same w bK A B m c hc4 t hbK qs qk (keyN n) qv qhi qto ps pk pf pv pg (by rw [h1]; exact hs.symm) h2 (by simpa using hk3)).mono ?_
      rintro e w' ⟨rfl, hb⟩
      exact ⟨false, m, rfl, hAW.later hb, by rw [set_self hm]; exact h, hk3, .inl ⟨rfl, rfl, rfl⟩⟩
    · rw [if_neg hs] at hp
      cases hp
      refine (ans_late w bK A B m c hc4 t hbK qs qk (keyN n) qv qhi qto (by rw [h1]; omega)).mono ?_
      rintro e w' ⟨rfl, hb⟩
      exact ⟨false, m, rfl, hAW.later hb, by rw [set_self hm]; exact h, by decide, .inl ⟨rfl, rfl, rfl⟩⟩
  · have hlt : m.s c < qs := by
      rcases hnew with hh | ⟨x, hh, hx, hl⟩
      · have := h.dup2 n m c hm hc (hitB_noneD h.sD hh)
        omega
      · obtain ⟨_, hx0, he⟩ := hitB_some hh
        dsimp only at hx hx0
        rw [hx0] at hx
        cases hx
        rw [cmpP_eq] at he
        have := (h.dup1 n m c hm hc _ (List.mem_of_getElem? hx0) he.1 he.2).1
        dsimp only at hl
        omega
    dsimp only at hp hd
    cases hp
    obtain ⟨e1, e2, e3⟩ := hd
    have hhas := h.has hm
    have hlT := h.lT
    have same : ∀ (f : Bool) (v : Int), f = m.found → v = m.val → pk ≠ 3 → KInv T (remD D ⟨c, qs, keyN n, pk, pf, pv, 0⟩) (K.set n (Mem.mk f v (m.put c qs ⟨c, qs, keyN n, pk, pf, pv, 0⟩).s (m.put c qs ⟨c, qs, keyN n, pk, pf, pv, 0⟩).said)) := by
      intro f v hf hv h3
      subst hf hv
      exact h.step hn hm hc (p := ⟨c, qs, keyN n, pk, pf, pv, 0⟩) rfl rfl h3 h.sT h.lT m.found m.val (fun x hx hk => h.tab1 n m hm x hx hk) (fun hno => h.tab2 n m hm hno) (fun _ _ => Iff.rfl)
    rcases hkind with rfl | rfl | rfl | rfl
    · simp only [if_true] at e1 e2 e3
      subst e1
      have hT : doT T 1 (keyN n) qv = T := rfl
      refine (ans_get w bK A B m c hc4 t hbK qs 1 (keyN n) qv qhi qto pf pv (by rw [e2, hhas]) (by rw [e3]; exact h.valT hm) hlt rfl).mono ?_
      rintro e w' ⟨rfl, ha⟩
      exact ⟨true, _, rfl, ha, ⟨by rw [hT]; exact same _ _ rfl rfl (by decide), by decide, .inr (.inl ⟨rfl, rfl, rfl, by rw [hT]⟩)⟩⟩
    · simp only [show ((2 : Int) = 1) = False by simp, if_false, if_true] at e1 e2 e3
      subst e2 e3
      have hT : doT T 2 (keyN n) qv = setT T (keyN n) qv := rfl
      rw [hT]
      cases hf : m.found with
      | true =>
        have hk : pk = 2 := by rw [e1, setK, hhas, hf]; rfl
        subst hk
        have hok : hasT T (keyN n) = true ∨ ¬ 8 ≤ T.length := .inl (by rw [hhas, hf])
        have hlen : (setT T (keyN n) qv).length = T.length := by unfold setT; rw [hhas, hf, if_pos rfl, List.length_set]
        refine (ans_set w bK A B m c hc4 t hbK qs 2 (keyN n) qv qhi qto hlt rfl rfl).mono ?_
        rintro e w' ⟨rfl, ha⟩
        refine ⟨true, _, rfl, ha, ⟨?_, by decide, .inr (.inr (.inl ⟨rfl, rfl, rfl, hf, rfl, hlen⟩))⟩⟩
        refine h.step hn hm hc (p := ⟨c, qs, keyN n, 2, false, 0, 0⟩) rfl rfl (by show (2 : Int) ≠ 3; decide) (sort_setT h.sT) (by rw [hlen]; exact hlT) true qv ?_ ?_ ?_
        · intro x hx hk
          rcases (mem_setT h.sT hok).1 hx with rfl | ⟨_, hne⟩
          · exact ⟨rfl, rfl⟩
          · exact absurd hk hne
        · intro hno
          exact absurd rfl (hno ⟨keyN n, qv⟩ ((mem_setT h.sT hok).2 (.inl rfl)))
        · intro x hx
          rw [mem_setT h.sT hok]
          exact ⟨fun hh => by rcases hh with rfl | hh; · exact absurd rfl hx
                              · exact hh.1, fun hh => .inr ⟨hh, hx⟩⟩
      | false =>
        by_cases h8 : 8 ≤ T.length
        · have hk : pk = 5 := by rw [e1, setK, hhas, hf, if_neg (by simp), if_pos h8]
          subst hk
          have hTT : setT T (keyN n) qv = T := by unfold setT; rw [hhas, hf, if_neg (by simp), if_pos h8]
          refine (ans_full w bK A B m c hc4 t hbK qs 2 (keyN n) qv qhi qto hf hlt rfl rfl).mono ?_
          rintro e w' ⟨rfl, ha⟩
          exact ⟨true, _, rfl, ha, ⟨by rw [hTT]; exact same _ _ rfl rfl (by decide), by decide, .inr (.inr (.inr (.inr (.inl ⟨rfl, rfl, rfl, hf, hf, h8, by rw [hTT]⟩))))⟩⟩
        · have hk : pk = 2 := by rw [e1, setK, hhas, hf, if_neg (by simp), if_neg h8]
          subst hk
          have hok : hasT T (keyN n) = true ∨ ¬ 8 ≤ T.length := .inr h8
          have hlen : (setT T (keyN n) qv).length = T.length + 1 := by unfold setT; rw [hhas, hf, if_neg (by simp), if_neg h8, insL_len]
          refine (ans_set w bK A B m c hc4 t hbK qs 2 (keyN n) qv qhi qto hlt rfl rfl).mono ?_
          rintro e w' ⟨rfl, ha⟩
          refine ⟨true, _, rfl, ha, ⟨?_, by decide, .inr (.inr (.inr (.inl ⟨rfl, rfl, rfl, hf, rfl, by omega, hlen⟩)))⟩⟩
          refine h.step hn hm hc (p := ⟨c, qs, keyN n, 2, false, 0, 0⟩) rfl rfl (by show (2 : Int) ≠ 3; decide) (sort_setT h.sT) (by rw [hlen]; omega) true qv ?_ ?_ ?_
          · intro x hx hk
            rcases (mem_setT h.sT hok).1 hx with rfl | ⟨_, hne⟩
            · exact ⟨rfl, rfl⟩
            · exact absurd hk hne
          · intro hno
            exact absurd rfl (hno ⟨keyN n, qv⟩ ((mem_setT h.sT hok).2 (.inl rfl)))
          · intro x hx
            rw [mem_setT h.sT hok]
            exact ⟨fun hh => by rcases hh with rfl | hh; · exact absurd rfl hx
                                · exact hh.1, fun hh => .inr ⟨hh, hx⟩⟩
    · simp only [show ((3 : Int) = 1) = False by simp, show ((3 : Int) = 2) = False by simp, if_false, if_true] at e1 e2 e3
      subst e1 e2 e3
      have hT : doT T 3 (keyN n) qv = delT T (keyN n) := rfl
      rw [hT]
      have hinv : (delT T (keyN n)).length ≤ 8 → KInv (delT T (keyN n)) (remD D ⟨c, qs, keyN n, 2, false, 0, 0⟩) (K.set n (Mem.mk false (m.put c qs ⟨c, qs, keyN n, 2, false, 0, 0⟩).val (m.put c qs ⟨c, qs, keyN n, 2, false, 0, 0⟩).s (m.put c qs ⟨c, qs, keyN n, 2, false, 0, 0⟩).said)) := fun hl => by
        refine h.step hn hm hc (p := ⟨c, qs, keyN n, 2, false, 0, 0⟩) rfl rfl (by show (2 : Int) ≠ 3; decide) (sort_delT h.sT) hl false _ ?_ (fun _ => rfl) ?_
        · intro x hx hk
          exact absurd hk ((mem_delT h.sT).1 hx).2
        · intro x hx
          rw [mem_delT h.sT]
          exact ⟨fun hh => hh.1, fun hh => ⟨hh, hx⟩⟩
      refine (ans_del w bK A B m c hc4 t hbK qs 3 (keyN n) qv qhi qto hlt rfl rfl rfl).mono ?_
      rintro e w' ⟨rfl, ha⟩
      cases hf : m.found with
      | true =>
        have hh : hasT T (keyN n) = true := by rw [hhas, hf]
        obtain ⟨y, hy, _⟩ := hitB_some hh
        have hyl := (List.getElem?_eq_some_iff.1 hy).1
        have hlen : (delT T (keyN n)).length = T.length - 1 := by unfold delT; rw [hh, if_pos rfl, List.length_eraseIdx_of_lt hyl]
        exact ⟨true, _, rfl, ha, ⟨hinv (by rw [hlen]; omega), by decide, .inr (.inr (.inr (.inr (.inr (.inl ⟨rfl, rfl, hf, rfl, by omega, hlen⟩)))))⟩⟩
      | false =>
        have hlen : (delT T (keyN n)).length = T.length := by unfold delT; rw [hhas, hf, if_neg (by simp)]
        exact ⟨true, _, rfl, ha, ⟨hinv (by rw [hlen]; omega), by decide, .inr (.inr (.inr (.inr (.inr (.inr (.inl ⟨rfl, rfl, hf, rfl, hlen⟩))))))⟩⟩
    · simp only [show ((4 : Int) = 1) = False by simp, show ((4 : Int) = 2) = False by simp, show ((4 : Int) = 3) = False by simp, if_false] at e1 e2 e3
      subst e1 e2 e3
      have hT : doT T 4 (keyN n) qv = T := rfl
      refine (ans_dlg w bK A B m c hc4 t hbK qs 4 (keyN n) qv qhi qto hlt rfl rfl rfl rfl).mono ?_
      rintro e w' ⟨rfl, ha⟩
      exact ⟨true, _, rfl, ha, ⟨by rw [hT]; exact same _ _ rfl rfl (by decide), by decide, .inr (.inr (.inr (.inr (.inr (.inr (.inr ⟨rfl, rfl, rfl, rfl, by rw [hT]⟩))))))⟩⟩

end Go.Proofs.Ytignemioillaiaa
