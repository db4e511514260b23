/- slices.Clone; Packets, State. -/
import Derived.Test.YtignemioillaiaaGreatG40
namespace Go.Proofs.YtignemioillaiaaGreat
set_option maxHeartbeats 8000000
set_option maxRecDepth 100000
section
open Go Go.Conc
theorem clone_pk {w : World} {v : Value} {n : Nat} {xs : List Value} (h : Fz w 139 5 v n xs) (ho : xs.all one = true) (hn : n ≤ 1000000) : CY 62 #[v] w (fun v' w' => w'.ownsRow 0 139 5 v' n xs ∧ GB none w w' ∧ ∀ x, v'.ownBlock = some x → w.heap.size ≤ x) := by
  obtain ⟨a, c, rfl, hc, hl, hv⟩ := h
  refine callE Tryz.func62 rfl rfl ?_
  rcases hv with ⟨rfl, rfl⟩ | ⟨b, off, cs, rfl, hb, hcut⟩
  · obtain rfl : xs = [] := List.eq_nil_of_length_eq_zero (by omega)
    exact ⟨own0 _ _ _, GB.refl _ _, nofun⟩
  · refine fun w1 b1 m1 g1 l1 => ?_
    refine ⟨_, xs, ⟨rfl, .inr ⟨b1, 0, #[], rfl, Nat.zero_le _, m1, Nat.zero_le _, Nat.zero_le _, rfl, rfl⟩⟩, ⟨_, _, g1.get hb nofun, hcut, hl, ho⟩, by omega, fun v' w2 ho2 g2 n2 => ?_⟩
    refine ⟨?_, g1.new g2 l1, fun x hx => ?_⟩
    · have e : 0 + n = n := Nat.zero_add n
      rw [e] at ho2
      exact ho2
    · rcases n2 x hx with e | e
      · have e : some b1 = some x := e
        cases e; exact l1
      · have := g1.size; omega
theorem clone_cm {w : World} {v : Value} {n : Nat} {xs : List Value} (h : Fz w 54 17 v n xs) (ho : xs.all one = true) (hn : n ≤ 1000000) : CY 66 #[v] w (fun v' w' => w'.ownsRow 0 54 17 v' n xs ∧ GB none w w' ∧ ∀ x, v'.ownBlock = some x → w.heap.size ≤ x) := by
  obtain ⟨a, c, rfl, hc, hl, hv⟩ := h
  refine callE Tryz.func66 rfl rfl ?_
  rcases hv with ⟨rfl, rfl⟩ | ⟨b, off, cs, rfl, hb, hcut⟩
  · obtain rfl : xs = [] := List.eq_nil_of_length_eq_zero (by omega)
    exact ⟨own0 _ _ _, GB.refl _ _, nofun⟩
  · refine fun w1 b1 m1 g1 l1 => ?_
    refine ⟨_, xs, ⟨rfl, .inr ⟨b1, 0, #[], rfl, Nat.zero_le _, m1, Nat.zero_le _, Nat.zero_le _, rfl, rfl⟩⟩, ⟨_, _, g1.get hb nofun, hcut, hl, ho⟩, by omega, fun v' w2 ho2 g2 n2 => ?_⟩
    refine ⟨?_, g1.new g2 l1, fun x hx => ?_⟩
    · have e : 0 + n = n := Nat.zero_add n
      rw [e] at ho2
      exact ho2
    · rcases n2 x hx with e | e
      · have e : some b1 = some x := e
        cases e; exact l1
      · have := g1.size; omega
theorem clone_row {w : World} {v : Value} {n : Nat} {xs : List Value} (h : Fz w 128 2 v n xs) (ho : xs.all one = true) (hn : n ≤ 1000000) : CY 67 #[v] w (fun v' w' => w'.ownsRow 0 128 2 v' n xs ∧ GB none w w' ∧ ∀ x, v'.ownBlock = some x → w.heap.size ≤ x) := by
  obtain ⟨a, c, rfl, hc, hl, hv⟩ := h
  refine callE Tryz.func67 rfl rfl ?_
  rcases hv with ⟨rfl, rfl⟩ | ⟨b, off, cs, rfl, hb, hcut⟩
  · obtain rfl : xs = [] := List.eq_nil_of_length_eq_zero (by omega)
    exact ⟨own0 _ _ _, GB.refl _ _, nofun⟩
  · refine fun w1 b1 m1 g1 l1 => ?_
    refine ⟨_, xs, ⟨rfl, .inr ⟨b1, 0, #[], rfl, Nat.zero_le _, m1, Nat.zero_le _, Nat.zero_le _, rfl, rfl⟩⟩, ⟨_, _, g1.get hb nofun, hcut, hl, ho⟩, by omega, fun v' w2 ho2 g2 n2 => ?_⟩
    refine ⟨?_, g1.new g2 l1, fun x hx => ?_⟩
    · have e : 0 + n = n := Nat.zero_add n
      rw [e] at ho2
      exact ho2
    · rcases n2 x hx with e | e
      · have e : some b1 = some x := e
        cases e; exact l1
      · have := g1.size; omega
theorem clone_rep {w : World} {v : Value} {n : Nat} {xs : List Value} (h : Fz w 57 7 v n xs) (ho : xs.all one = true) (hn : n ≤ 1000000) : CY 68 #[v] w (fun v' w' => w'.ownsRow 0 57 7 v' n xs ∧ GB none w w' ∧ ∀ x, v'.ownBlock = some x → w.heap.size ≤ x) := by
  obtain ⟨a, c, rfl, hc, hl, hv⟩ := h
  refine callE Tryz.func68 rfl rfl ?_
  rcases hv with ⟨rfl, rfl⟩ | ⟨b, off, cs, rfl, hb, hcut⟩
  · obtain rfl : xs = [] := List.eq_nil_of_length_eq_zero (by omega)
    exact ⟨own0 _ _ _, GB.refl _ _, nofun⟩
  · refine fun w1 b1 m1 g1 l1 => ?_
    refine ⟨_, xs, ⟨rfl, .inr ⟨b1, 0, #[], rfl, Nat.zero_le _, m1, Nat.zero_le _, Nat.zero_le _, rfl, rfl⟩⟩, ⟨_, _, g1.get hb nofun, hcut, hl, ho⟩, by omega, fun v' w2 ho2 g2 n2 => ?_⟩
    refine ⟨?_, g1.new g2 l1, fun x hx => ?_⟩
    · have e : 0 + n = n := Nat.zero_add n
      rw [e] at ho2
      exact ho2
    · rcases n2 x hx with e | e
      · have e : some b1 = some x := e
        cases e; exact l1
      · have := g1.size; omega
theorem flat_dropN (q : List Pkt) (t : Nat) : (flat q).drop (t * 5) = flat (q.drop t) := by
  induction q generalizing t with
  | nil => simp [flat]
  | cons p q ih =>
    cases t with
    | zero => simp
    | succ t =>
      rw [show flat (p :: q) = p.cells ++ flat q by simp [flat], List.drop_append, show p.cells.length = 5 from rfl, show (t + 1) * 5 - 5 = t * 5 by omega, ih]
      rw [List.drop_eq_nil_of_le (by show 5 ≤ _; omega)]
      simp
theorem flat_ones (q : List Pkt) : (flat q).all one = true := by
  rw [List.all_eq_true]
  intro u hu
  unfold flat at hu
  obtain ⟨p, _, hp⟩ := List.mem_flatMap.1 hu
  simp only [Pkt.cells, List.mem_cons, List.not_mem_nil, or_false] at hp
  rcases hp with rfl | rfl | rfl | rfl | rfl <;> rfl
theorem pk_fz {w : World} {q : List Pkt} {sa : Option Addr} {sc : Nat} (h : w.ownsRow 0 139 5 (.slice sa q.length sc) q.length (flat q)) {t : Nat} (ht : t ≤ q.length) : Fz w 139 5 (.slice (if sc = t then sa else sa.map (·.add (t * 5))) (q.length - t) (sc - t)) (q.length - t) (flat (q.drop t)) := by
  have hl : (flat (q.drop t)).length = (q.length - t) * 5 := by rw [pk_len, List.length_drop]
  rcases h.2 with ⟨e, h0⟩ | ⟨g, cap, cur, e, h0, h2, h3, h4, h5, h6⟩
  · injection e with e1 _ e3
    subst e1; subst e3
    exact ⟨none, 0 - t, by split <;> rfl, by omega, hl, .inl ⟨rfl, by omega⟩⟩
  · injection e with e1 _ e3
    subst e1; subst e3
    by_cases c : sc = t
    · have : q.length = t := by omega
      refine ⟨_, _, rfl, by omega, hl, .inr ⟨g, 0, cur, by rw [if_pos c], h2, ?_⟩⟩
      rw [show q.length - t = 0 by omega, Nat.zero_mul, List.drop_eq_nil_of_le (by omega)]
      simp [cutL, flat]
    · refine ⟨_, _, rfl, by omega, hl, .inr ⟨g, t * 5, cur, by rw [if_neg c]; simp [Addr.add]; omega, h2, ?_⟩⟩
      rw [← flat_dropN, ← h6]
      unfold cutL
      rw [List.drop_take, Nat.sub_mul]
section
variable {Λ : Snp} {w : World} {bc : Nat} {C : Clu}
theorem pkts_K (h : ClK Λ bc C w) (hlen : C.q.length ≤ 20000) (fr : Int) (hlo : -9223372036854775808 ≤ fr) (hhi : fr < 9223372036854775808) : CY 22 #[.pointer (some ⟨bc, 0, none⟩), .int .i64 fr] w (fun v w' => w'.ownsRow 0 139 5 v (C.q.length - min fr.toNat C.q.length) (flat (C.q.drop (min fr.toNat C.q.length))) ∧ GB none w w' ∧ ∀ x, v.ownBlock = some x → w.heap.size ≤ x) := by
  obtain ⟨gv, sv, B, ad, h⟩ := h
  refine callE Tryz.func22 rfl rfl ?_
  obtain ⟨sa, sc, rfl⟩ := own_slice h.ci.row
  refine ⟨_, _, h.ci.clu, _, rfl, _, _, h.ci.clu, _, rfl, ?_⟩
  obtain ⟨t, et⟩ : ∃ t, t = min fr.toNat C.q.length := ⟨_, rfl⟩
  rw [← et]
  have hl : (if (C.q.length : Int) < (if (0 : Int) > fr then 0 else fr) then (C.q.length : Int) else if (0 : Int) > fr then 0 else fr) = (t : Int) := by
    split
    · split at * <;> omega
    · split at * <;> omega
  have hc : C.q.length ≤ sc := by
    rcases h.ci.row.2 with ⟨e, h0⟩ | ⟨g, cap, cur, e, h0, h2, h3, _⟩
    · omega
    · injection e with _ _ e3; subst e3; exact h3
  have hz := pk_fz h.ci.row (t := t) (by omega)
  refine ⟨⟨by rw [hl]; omega, by rw [hl]; omega, hc⟩, ?_⟩
  refine ⟨_, ?_, fun v w' hp => hp⟩
  have := clone_pk hz (flat_ones _) (by omega)
  have e : ∀ l : Int, l = (t : Int) → CY 62 #[.slice (if sc = l.toNat then sa else sa.map (·.add (l.toNat * 5))) (C.q.length - l.toNat) (sc - l.toNat)] w _ := fun l hl => by subst hl; exact this
  exact e _ hl
end
section
variable {A : Apl} (HA : AplOK A) {Λ : Snp} {w : World} {bc : Nat} {C : Clu}
include HA
/-- A shard, plain, as a value in memory. -/
def ShV (w : World) (v : Value) (s : St) : Prop := ∃ T M D O I, v = .agg #[.int .u8 s.g, .int .u8 s.n, T, M, D, O, I] ∧ ShIn w T M D O I s
theorem state_K (h : ClK Λ bc C w) (hf : C.Fine A) (g i : Nat) (hg : g < C.n) (hi : i < C.sz) : CY 26 #[.pointer (some ⟨bc, 0, none⟩), .agg #[.int .u8 g, .int .u8 i]] w (fun v w' => ShV w' v (A.ap (C.F g i).st zMC).1 ∧ GB none w w') := by
  obtain ⟨gv, sv, B, ad, h⟩ := h
  have hn := hf.n
  have hz := hf.sz
  refine callE Tryz.func26 rfl rfl ?_
  refine fun w1 b1 m1 g1 l1 w2 b2 m2 g2 l2 => ?_
  have h2 := h.gb0 (g1.trans g2)
  refine ⟨_, _, g2.get m1 nofun, [.int .u8 g, .int .u8 i], rfl, rfl, _, find_ok h2.ci hf.n hf.sz g i (by omega) (by omega), ?_⟩
  rintro _ w3 ⟨rfl, g3⟩
  rw [if_pos ⟨hg, hi⟩]
  have h3 := h2.gb0 g3
  have hR := h3.ci.rep g i hg hi
  refine ⟨_, _, hR.mem, [.int .u8 (C.F g i).st.g, .int .u8 (C.F g i).st.n, (ad g i).sT, (ad g i).sM, (ad g i).sD, (ad g i).sO, (ad g i).sI], rfl, rfl, _, HA.call w3 (C.F g i).st zMC _ _ _ _ _ _ hR.st (hf.ok g i hg hi).st ⟨.slice none 0 0, .slice none 0 0, rfl, RgIn.zero _⟩ HA.nop, ?_⟩
  rintro _ w4 ⟨T, M, D, O, I, rfl, hS, g4⟩
  have hS4 := hS w4 fun _ _ _ => rfl
  obtain ⟨_, _, rfl, _⟩ := hS4.T
  obtain ⟨_, _, rfl, _⟩ := hS4.M
  obtain ⟨_, _, rfl, _⟩ := hS4.D
  obtain ⟨_, _, _, _, rfl, _⟩ : ∃ qs a c, _ ∧ O = .slice a _ c ∧ True := by obtain ⟨qs, h1, ⟨a, c, h2, _⟩, _⟩ := hS4.O; exact ⟨qs, a, c, h1, h2, trivial⟩
  obtain ⟨_, _, rfl, _⟩ := hS4.I
  refine fun w5 b5 m5 g5 l5 => ?_
  refine fun w6 b6 m6 g6 l6 => ?_
  have ne : b5 ≠ b6 := by have := lt_heap m5; omega
  refine ⟨_, _, _, g6.get m5 nofun, rfl, rfl, fun w7 m7 g7 => ?_⟩
  have m67 : w7.heap[b6]? = _ := g7.get m6 fun e => ne (Option.some.inj e).symm
  refine ⟨_, _, _, m67, rfl, rfl, fun w8 m8 g8 => ?_⟩
  have m78 : w8.heap[b5]? = _ := g8.get m7 fun e => ne (Option.some.inj e)
  refine ⟨_, _, m78, [.int .u8 (A.ap (C.F g i).st zMC).1.g, .int .u8 (A.ap (C.F g i).st zMC).1.n, _, _, _, _, _], rfl, rfl, ?_⟩
  have s4 := g4.size
  have s5 := g5.size
  have s3 := g3.size
  have q2 := lt_heap m2
  have G48 : GB none w4 w8 := ((g5.trans g6).new g7 l5).new g8 (by omega)
  have m28 : w8.heap[b2]? = _ := ((g3.trans g4).trans G48).get m2 nofun
  refine ⟨_, _, _, m28, rfl, rfl, fun w9 m9 g9 => ?_⟩
  refine ⟨_, _, m9, [.int .u8 (A.ap (C.F g i).st zMC).1.g, .int .u8 (A.ap (C.F g i).st zMC).1.n, _, _, _, _, _], rfl, rfl, ?_⟩
  refine ⟨⟨_, _, _, _, _, rfl, hS w9 fun x h1 h2 => ?_⟩, ?_⟩
  · exact (g9.block x (by have := G48.size; omega) fun e => by cases e; omega).trans (G48.block x h2 nofun)
  · exact (((g1.trans g2).trans ((g3.trans g4).trans G48))).new g9 (by have := g1.size; omega)
end
def lf (l : List MC) (vs : List (Value × Value)) : List Value := (List.zipWith (fun c p => mcC c p.1 p.2) l vs).flatten
theorem lf_cons (c : MC) (l : List MC) (p : Value × Value) (vs : List (Value × Value)) : lf (c :: l) (p :: vs) = mcC c p.1 p.2 ++ lf l vs := by simp [lf]
theorem lf_el : ∀ {l : List MC} {vs : List (Value × Value)} {k : Nat} {c : MC} {p : Value × Value}, l[k]? = some c → vs[k]? = some p → cutL (lf l vs) (k * 17) 17 = mcC c p.1 p.2
  | [], _, _, _, _, h, _ => by simp at h
  | _ :: _, [], _, _, _, _, h => by simp at h
  | c :: l, p :: vs, 0, _, _, h1, h2 => by
    simp at h1 h2; subst h1; subst h2
    rw [lf_cons]; unfold cutL; simp [mcC]
  | c :: l, p :: vs, k + 1, _, _, h1, h2 => by
    rw [lf_cons]; unfold cutL
    rw [List.drop_append, List.drop_eq_nil_of_le (by show 17 ≤ _; omega), List.nil_append, show (mcC c p.1 p.2).length = 17 from rfl, show (k + 1) * 17 - 17 = k * 17 by omega]
    exact lf_el (l := l) (vs := vs) (by simpa using h1) (by simpa using h2)
theorem lf_rows : ∀ {l : List MC} {vs : List (Value × Value)} {k : Nat} {p : Value × Value} (rv : Value), k < l.length → vs[k]? = some p → (lf l vs).set (k * 17 + 13) rv = lf l (vs.set k (rv, p.2))
  | [], _, _, _, _, h, _ => by simp at h
  | _ :: _, [], _, _, _, _, h => by simp at h
  | c :: l, p :: vs, 0, _, rv, _, h2 => by
    simp at h2; subst h2
    rw [List.set_cons_zero, lf_cons, lf_cons, List.set_append_left _ _ (by show 0 * 17 + 13 < 17; omega)]; rfl
  | c :: l, p :: vs, k + 1, _, rv, h1, h2 => by
    rw [List.set_cons_succ, lf_cons, lf_cons, List.set_append_right _ _ (by show 17 ≤ _; omega), show (k + 1) * 17 + 13 - (mcC c p.1 p.2).length = k * 17 + 13 by show _ - 17 = _; omega]
    rw [lf_rows (l := l) (vs := vs) rv (by simpa using h1) (by simpa using h2)]
theorem lf_dups : ∀ {l : List MC} {vs : List (Value × Value)} {k : Nat} {p : Value × Value} (dv : Value), k < l.length → vs[k]? = some p → (lf l vs).set (k * 17 + 14) dv = lf l (vs.set k (p.1, dv))
  | [], _, _, _, _, h, _ => by simp at h
  | _ :: _, [], _, _, _, _, h => by simp at h
  | c :: l, p :: vs, 0, _, rv, _, h2 => by
    simp at h2; subst h2
    rw [List.set_cons_zero, lf_cons, lf_cons, List.set_append_left _ _ (by show 0 * 17 + 14 < 17; omega)]; rfl
  | c :: l, p :: vs, k + 1, _, rv, h1, h2 => by
    rw [List.set_cons_succ, lf_cons, lf_cons, List.set_append_right _ _ (by show 17 ≤ _; omega), show (k + 1) * 17 + 14 - (mcC c p.1 p.2).length = k * 17 + 14 by show _ - 17 = _; omega]
    rw [lf_dups (l := l) (vs := vs) rv (by simpa using h1) (by simpa using h2)]
theorem lf_ones {w : World} : ∀ {l : List MC} {vs : List (Value × Value)}, (∀ (i : Nat) (c : MC) (p : Value × Value), l[i]? = some c → vs[i]? = some p → RgIn w c.r p.1 p.2) → (lf l vs).all one = true
  | [], _, _ => rfl
  | _ :: _, [], _ => rfl
  | c :: l, p :: vs, h => by
    rw [lf_cons, List.all_append, lf_ones (l := l) (vs := vs) fun i c p h1 h2 => h (i + 1) c p (by simpa using h1) (by simpa using h2), Bool.and_true]
    obtain ⟨rv, dv⟩ := p
    obtain ⟨ra, rn, rc, da, dn, dc, e1, e2⟩ := (h 0 c (rv, dv) rfl rfl).sl
    have e1 : rv = _ := e1
    have e2 : dv = _ := e2
    subst e1; subst e2
    rfl
theorem okSt_one {xs : List Value} {off : Nat} {v : Value} (hv : one v = true) (hc : v.cells.toList = [v]) (h : off < xs.length) : okSt xs off 1 v = true := by
  unfold okSt
  rw [hc]
  simp [hv]
  exact h
theorem own_set {w w' : World} {e : TypeId} {size n g cap off : Nat} {xs : List Value} {v : Value} {cur : Array Value} (h : w.ownsRow 0 e size (.slice (some ⟨g, 0, none⟩) n cap) n xs) (hcur : w.heap[g]? = some (.cells cur e)) (hw : Hl w' g (cur.toList.take off ++ [v] ++ cur.toList.drop (off + 1)) e) (ho : off < n * size) : w'.ownsRow 0 e size (.slice (some ⟨g, 0, none⟩) n cap) n (xs.set off v) := by
  rcases h.2 with ⟨q, h0⟩ | ⟨g', cap', cur', q, h0, h2, h3, h4, h5, h6⟩
  · cases q
  · injection q with q1 _ q3
    injection q1 with q1; injection q1 with q1
    subst q1; subst q3
    rw [hcur] at h2; injection h2 with h2; injection h2 with h2 _; subst h2
    have hlen : xs.length = n * size := h.1
    have hl : n * size ≤ cur.toList.length := by
      have := congrArg List.length h6
      rw [List.length_take] at this
      omega
    have hs : cur.toList.take off ++ [v] ++ cur.toList.drop (off + 1) = cur.toList.set off v := by
      rw [List.set_eq_take_append_cons_drop, if_pos (by omega)]; simp
    rw [hs] at hw
    refine ⟨by rw [List.length_set]; exact hlen, .inr ⟨g, cap, _, rfl, h0, hw, h3, h4, ?_, ?_⟩⟩
    · simp [h5]
    · show (cur.toList.set off v).take (n * size) = _
      rw [List.take_set, h6]
theorem ones_map {α : Type} {f : α → List Value} (hf : ∀ x, (f x).all one = true) (l : List α) : (l.map f).flatten.all one = true := by
  induction l with
  | nil => rfl
  | cons x l ih => rw [List.map_cons, List.flatten_cons, List.all_append, hf, ih]; rfl
theorem own_set' {w w' : World} {e : TypeId} {size n g cap off : Nat} {xs : List Value} {v : Value} {cur : Array Value} (h : w.ownsRow 0 e size (.slice (some ⟨g, 0, none⟩) n cap) n xs) (hcur : w.heap[g]? = some (.cells cur e)) {off' s1 : Nat} {vc : List Value} (hw : Hl w' g (cur.toList.take off' ++ vc ++ cur.toList.drop (off' + s1)) e) (e1 : off' = off) (e2 : s1 = 1) (e3 : vc = [v]) (ho : off < n * size) : w'.ownsRow 0 e size (.slice (some ⟨g, 0, none⟩) n cap) n (xs.set off v) := by
  subst e1; subst e2; subst e3
  exact own_set h hcur hw ho
section
variable {A : Apl} (HN : NetOK A) {Λ : Snp} {w : World} {bc : Nat} {C : Clu}
include HN
theorem log_K (h : ClK Λ bc C w) (hf : C.Fine A) (g i : Nat) (hg : g < C.n) (hi : i < C.sz) : CY 25 #[.pointer (some ⟨bc, 0, none⟩), .agg #[.int .u8 g, .int .u8 i]] w (fun v w' => LgIn w' v (C.F g i).log ∧ GB none w w' ∧ ∀ x, v.ownBlock = some x → w.heap.size ≤ x) := by
  obtain ⟨gv, sv, B, ad, h⟩ := h
  have hn := hf.n
  have hz := hf.sz
  have hok := hf.ok g i hg hi
  have hll := hok.lg
  refine callE Tryz.func25 rfl rfl ?_
  refine fun w1 b1 m1 g1 l1 => ?_
  have h1 := h.gb0 g1
  refine ⟨_, _, m1, [.int .u8 g, .int .u8 i], rfl, rfl, _, find_ok h1.ci hf.n hf.sz g i (by omega) (by omega), ?_⟩
  rintro _ w2 ⟨rfl, g2⟩
  rw [if_pos ⟨hg, hi⟩]
  have h2 := h1.gb0 g2
  have hR := h2.ci.rep g i hg hi
  obtain ⟨vs, v1, v2, v3⟩ := hR.lg
  refine ⟨_, _, hR.mem, _, rfl, _, clone_cm (own_fz v2) (lf_ones v3) (by omega), ?_⟩
  rintro lv w3 ⟨o3, g3, n3⟩
  have G3 := (g1.trans g2).trans g3
  have L3 : LgIn w3 lv (C.F g i).log := ⟨vs, v1, o3, fun i c p a b => (v3 i c p a b).kz g3.kz⟩
  obtain ⟨la, lc, rfl⟩ := own_slice o3
  have n3' : ∀ x, (Value.slice la (C.F g i).log.length lc).ownBlock = some x → w.heap.size ≤ x := fun x hx => by have := n3 x hx; have := (g1.trans g2).size; omega
  clear o3 v3 v2 v1 vs
  refine ⟨fun m s wk => ∃ k : Nat, m = (C.F g i).log.length - k ∧ k ≤ (C.F g i).log.length ∧ s = [(6, .slice la (C.F g i).log.length lc), (19, .slice la (C.F g i).log.length lc), (20, .int .i64 (C.F g i).log.length), (21, .int .i64 k)] ∧ LgIn wk (.slice la (C.F g i).log.length lc) (C.F g i).log ∧ GB none w wk, ⟨_, _, ⟨0, rfl, Nat.zero_le _, rfl, L3, G3⟩, sb rfl⟩, ?_⟩
  rintro m s wk ⟨k, rfl, hk, rfl, ⟨vs, v1, v2, v3⟩, gk⟩
  refine spl (fun c => ?_) (fun c => ?_)
  · have c1 : k < (C.F g i).log.length := by simp at c; omega
    obtain ⟨c, hc⟩ : ∃ c, (C.F g i).log[k]? = some c := ⟨(C.F g i).log[k], by simp [c1]⟩
    obtain ⟨p, hp⟩ : ∃ p, vs[k]? = some p := ⟨vs[k], by simp [v1, c1]⟩
    obtain ⟨gb, cap, cur, ev, hcur, htk, hsz, hcap⟩ := own_el v2 (by omega)
    injection ev with ev _ ev2
    subst ev; subst ev2
    have hel : cutL cur.toList (k * 17) 17 = mcC c p.1 p.2 := by
      rw [← lf_el hc hp, show lf (C.F g i).log vs = _ from htk.symm]
      unfold cutL
      rw [List.drop_take, List.take_take, Nat.min_eq_left (by omega)]
    have hrg := v3 k c p hc hp
    obtain ⟨rb1, rb2⟩ := HN.rl c (hok.lc c (List.mem_of_getElem? hc))
    obtain ⟨rv, dv⟩ := p
    obtain ⟨ra, rn, rc, da, dn, dc, e1, e2⟩ := hrg.sl
    have e1 : rv = _ := e1
    have e2 : dv = _ := e2
    subst e1; subst e2
    have lgb : w.heap.size ≤ gb := n3' gb rfl
    refine ⟨⟨by omega, by omega⟩, _, _, hcur, mcC c _ _, by show cutL cur.toList (0 + k * 17) 17 = _; rw [Nat.zero_add]; exact hel, rfl, fun w4 b4 m4 g4 l4 => ⟨_, _, _, m4, rfl, rfl, fun w5 m5 g5 => ?_⟩⟩
    have g45 : GB none wk w5 := g4.new g5 l4
    have nb : gb ≠ b4 := by have := lt_heap hcur; omega
    refine ⟨_, _, m5, _, rfl, _, clone_row (hrg.1.kz g45.kz (by decide)) (ones_map (fun _ => rfl) _) (by omega), ?_⟩
    rintro rv' w6 ⟨o6, g6, n6⟩
    have g46 := g45.trans g6
    have hcur6 := g46.get hcur nofun
    obtain ⟨ra', rc', rfl⟩ := own_slice o6
    refine ⟨⟨by omega, by omega⟩, _, _, _, hcur6, okSt_one rfl rfl (by rw [Array.length_toList]; show 0 + k * 17 + 13 < _; omega), rfl, fun w7 m7 g7 => ?_⟩
    have o7 := own_set' (off := k * 17 + 13) (owns_rely v2 fun x hx => by cases hx; exact g46.block gb (lt_heap hcur) nofun) hcur6 m7 (by show 0 + (k : Int).toNat * 17 + 8 + 5 = _; omega) rfl rfl (by omega)
    rw [show (List.zipWith (fun (c : MC) (p : Value × Value) => mcC c p.1 p.2) (C.F g i).log vs).flatten = lf (C.F g i).log vs from rfl, lf_rows _ c1 hp] at o7
    have m57 : w7.heap[b4]? = _ := g7.get (g6.get m5 nofun) fun e => nb (Option.some.inj e).symm
    have k67 : Kz w6 w7 := g7.kzs fun c' t ht hc' => by rw [hcur6] at hc'; injection hc' with hc'; injection hc' with _ hc'; subst hc'; revert ht; decide
    have G7 : GB none w w7 := (gk.trans g46).new g7 lgb
    have r7 := (own_fz o6).kz k67 (by decide)
    refine ⟨_, _, m57, _, rfl, _, clone_rep ((hrg.2.kz g46.kz (by decide)).kz k67 (by decide)) (ones_map (fun _ => rfl) _) (by omega), ?_⟩
    rintro dv' w8 ⟨o8, g8, n8⟩
    have hcur8 := g8.get m7 nofun
    obtain ⟨da', dc', rfl⟩ := own_slice o8
    refine ⟨⟨by omega, by omega⟩, _, _, _, hcur8, okSt_one rfl rfl ?_, rfl, fun w9 m9 g9 => ?_⟩
    · rw [Array.length_toList]
      obtain ⟨g7', _, cur7, e7, hc7, _, hs7, _⟩ := own_el o7 (by omega)
      injection e7 with e7 _ _
      injection e7 with e7
      injection e7 with e7
      subst e7
      rw [m7] at hc7
      injection hc7 with hc7
      injection hc7 with hc7 _
      rw [hc7]
      show 0 + (k : Int).toNat * 17 + 8 + 6 < _
      omega
    have o9 := own_set' (off := k * 17 + 14) (owns_rely o7 fun x hx => by cases hx; exact g8.block gb (lt_heap m7) nofun) hcur8 m9 (by show 0 + (k : Int).toNat * 17 + 8 + 6 = _; omega) rfl rfl (by omega)
    have hp' : (vs.set k (Value.slice ra' c.r.rows.length rc', Value.slice da dn dc))[k]? = some (Value.slice ra' c.r.rows.length rc', Value.slice da dn dc) := by simp [v1, c1]
    rw [lf_dups _ c1 hp', List.set_set] at o9
    have k89 : Kz w8 w9 := g9.kzs fun c' t ht hc' => by rw [hcur8] at hc'; injection hc' with hc'; injection hc' with _ hc'; subst hc'; revert ht; decide
    have k09 : Kz wk w9 := ((g46.kz.trans k67).trans g8.kz).trans k89
    refine ⟨by omega, _, _, ⟨k + 1, rfl, by omega, rfl, ⟨_, by rw [List.length_set]; exact v1, o9, fun j c' p' h1 h2 => ?_⟩, (G7.trans g8).new g9 lgb⟩, (sb rfl), by omega⟩
    by_cases e : j = k
    · subst e
      rw [hc] at h1
      cases h1
      rw [List.getElem?_set_self (by rw [v1]; exact c1)] at h2
      cases h2
      exact ⟨(r7.kz g8.kz (by decide)).kz k89 (by decide), (own_fz o8).kz k89 (by decide)⟩
    · rw [List.getElem?_set_ne (fun h => e h.symm)] at h2
      exact (v3 j c' p' h1 h2).kz k09
  · exact ⟨⟨vs, v1, v2, v3⟩, gk, n3'⟩
end
end
end Go.Proofs.YtignemioillaiaaGreat
