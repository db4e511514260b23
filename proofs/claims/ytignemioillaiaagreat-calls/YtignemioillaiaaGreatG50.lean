/- Begin. -/
import Derived.Test.YtignemioillaiaaGreatG49
namespace Go.Proofs.YtignemioillaiaaGreat
set_option maxHeartbeats 8000000
set_option maxRecDepth 100000
section
open Go Go.Conc
noncomputable def zl (m e : Nat) : Array Value := ((List.range (m * szT eng.T e)).map fun q => (zc eng.T e).getD (q % szT eng.T e) undef).toArray
theorem zl_lane {n : Nat} (hn : n ≤ 4) : (zl n 103).toList = ((List.replicate n ((0, .slice none 0 0, []) : La)).map laA).flatten := by
  have : n = 0 ∨ n = 1 ∨ n = 2 ∨ n = 3 ∨ n = 4 := by omega
  rcases this with rfl | rfl | rfl | rfl | rfl <;> rfl
theorem zl_num {n : Nat} (hn : n ≤ 4) : (zl n 47).toList = (List.replicate n (0 : Int)).map fun i => Value.int .u32 i := by
  have : n = 0 ∨ n = 1 ∨ n = 2 ∨ n = 3 ∨ n = 4 := by omega
  rcases this with rfl | rfl | rfl | rfl | rfl <;> rfl
structure Bgn (w : World) (g n b4 b6 bM bO bI : Nat) (w' : World) : Prop where
  m4 : Hl w' b4 (zc eng.T 31) 31
  m6 : w'.heap[b6]? = some (.cells #[.int .u8 g, .int .u8 n, .slice none 0 0, .slice (some ⟨bM, 0, none⟩) 1 1, .slice none 0 0, .slice (some ⟨bO, 0, none⟩) n n, .slice (some ⟨bI, 0, none⟩) n n] 31)
  mM : w'.heap[bM]? = some (.cells #[.int .u64 0, .int .u8 0] 107)
  mO : w'.heap[bO]? = some (.cells (zl n 103) 103)
  mI : w'.heap[bI]? = some (.cells (zl n 47) 47)
  gb : GB none w w'
  l4 : w.heap.size ≤ b4
  l6 : w.heap.size ≤ b6
  lM : w.heap.size ≤ bM
  lO : w.heap.size ≤ bO
  lI : w.heap.size ≤ bI
  ne : b4 ≠ b6
theorem GB.upl {r : Option Nat} {w w' : World} {b : Nat} (h : GB r w w') (l : w'.heap.size ≤ b) : w.heap.size ≤ b := Nat.le_trans h.size l
theorem bgn_end {w w1 v4 v5 : World} {g n b4 bB bP bO bI : Nat} {c : Array Value} (gA : GB none w w1) (k4 : GB none w1 v4) (l4 : w.heap.size ≤ b4) (m4 : Hl w1 b4 (zc eng.T 31) 31) (mP : v4.heap[bP]? = some (.cells #[.int .u64 0, .int .u8 0] 107)) (mO : v4.heap[bO]? = some (.cells (zl n 103) 103)) (mI : v4.heap[bI]? = some (.cells (zl n 47) 47)) (mB : v4.heap[bB]? = some (.cells c 31)) (LP : w1.heap.size ≤ bP) (LO : w1.heap.size ≤ bO) (LI : w1.heap.size ≤ bI) (LB : w1.heap.size ≤ bB) (m5 : v5.heap[bB]? = some (.cells #[.int .u8 g, .int .u8 n, .slice none 0 0, .slice (some ⟨bP, 0, none⟩) 1 1, .slice none 0 0, .slice (some ⟨bO, 0, none⟩) n n, .slice (some ⟨bI, 0, none⟩) n n] 31)) (K5 : GB (some bB) v4 v5) : Bgn w g n b4 bB bP bO bI v5 := by
  have j := lt_heap m4
  have z := gA.size
  have o : ∀ {x t : Nat} {c : Array Value}, v4.heap[x]? = some (.cells c t) → t ≠ 31 → v5.heap[x]? = some (.cells c t) := fun hx ht => K5.get hx fun e => ne_ty hx mB ht (Option.some.inj e)
  exact ⟨K5.get (k4.get m4 nofun) (fun e => by injection e with e; omega), m5, o mP (by decide), o mO (by decide), o mI (by decide), (gA.trans k4).new K5 (by omega), l4, by omega, by omega, by omega, by omega, by omega⟩
theorem begin_ok (w : World) {g n : Nat} (hg : g < n) (hn : n ≤ 4) : CY 8 #[.int .i64 g, .int .i64 n] w (fun v w' => ∃ T M D O I e, v = .tuple #[.agg (shC (bgS g n) T M D O I).toArray, .int .i64 e] ∧ (∀ w'' : World, (∀ x, w.heap.size ≤ x → x < w'.heap.size → w''.heap[x]? = w'.heap[x]?) → ShIn w'' T M D O I (bgS g n)) ∧ GB none w w') := by
  refine callYS eng Tryz.func8 rfl rfl ?_
  refine CS.piece (Q := fun q w' => ∃ b4, q = [(0, .int .i64 g), (1, .int .i64 n), (4, .pointer (some ⟨b4, 0, none⟩))] ∧ Hl w' b4 (zc eng.T 31) 31 ∧ GB none w w' ∧ w.heap.size ≤ b4) (CS.e (fun w1 b1 m1 g1 l1 => ⟨_, by exact sb rfl, b1, rfl, m1, g1, l1⟩)) ?_
  rintro q w1 ⟨b4, rfl, m4, g1, l4⟩
  refine CS.piece (Q := fun q w' => q = [(0, .int .i64 g), (1, .int .i64 n), (4, .pointer (some ⟨b4, 0, none⟩))] ∧ w' = w1) (CS.e ?_) ?_
  · refine spl (fun e => ?_) (fun e => ?_)
    · refine spl (fun e => ?_) (fun e => ?_)
      · refine spl (fun e => ?_) (fun e => ?_)
        · have := of_decide_eq_true e
          omega
        · exact ⟨_, by exact sb rfl, rfl, rfl⟩
      · have := of_decide_eq_true (b00 e)
        omega
    · have := of_decide_eq_true (b00 e)
      omega
  rintro q w1 ⟨rfl, rfl⟩
  refine CS.piece (Q := fun q w' => ∃ b6 bM bO bI, q = [(4, .pointer (some ⟨b4, 0, none⟩)), (6, .pointer (some ⟨b6, 0, none⟩))] ∧ Bgn w g n b4 b6 bM bO bI w') (CS.e ?_) ?_
  · refine ⟨by kernel_rfl, .inl ⟨⟨by omega, by omega⟩, .inl ⟨⟨by omega, by omega⟩, ?_⟩⟩⟩
    refine ⟨?_, ?_, ?_, ?_⟩
    all_goals first | refine ⟨rfl, by omega, by omega, fun v1 b1 m1 K1 L1 => ?_⟩ | refine fun v1 b1 m1 K1 L1 => ?_
    all_goals refine ⟨?_, ?_, ?_⟩
    all_goals first | refine ⟨rfl, by omega, by omega, fun v2 b2 m2 K2 L2 => ?_⟩ | refine fun v2 b2 m2 K2 L2 => ?_
    all_goals refine ⟨?_, ?_⟩
    all_goals first | refine ⟨rfl, by omega, by omega, fun v3 b3 m3 K3 L3 => ?_⟩ | refine fun v3 b3 m3 K3 L3 => ?_
    all_goals first | refine ⟨rfl, by omega, by omega, fun v4 b5 m5 K4 L5 => ?_⟩ | refine fun v4 b5 m5 K4 L5 => ?_
    all_goals
      have n1 := (K2.trans (K3.trans K4)).get m1 nofun
      have n2 := (K3.trans K4).get m2 nofun
      have n3 := K4.get m3 nofun
      have l2 := K1.upl L2
      have l3 := (K1.trans K2).upl L3
      have l5 := (K1.trans (K2.trans K3)).upl L5
      refine ⟨_, _, _, ‹_›, rfl, rfl, fun v6 m6 K6 => ⟨_, by exact sb rfl, _, ?_, ?_, ?_, rfl, bgn_end (c := ?_) g1 (K1.trans (K2.trans (K3.trans K4))) l4 m4 ?_ ?_ ?_ ?_ ?_ ?_ ?_ ?_ ?_ K6⟩⟩
      rotate_left 4
      iterate 8 assumption
      exact m6
  rintro q w2 ⟨b6, bM, bO, bI, rfl, B⟩
  have hO : LN 103 2 w w2 (.slice (some ⟨bO, 0, none⟩) n n) n ((List.replicate n ((0, .slice none 0 0, []) : La)).map laA).flatten := by
    have hl : (((List.replicate n ((0, .slice none 0 0, []) : La)).map laA).flatten).length = n * 2 := by rw [fl_size (f := laA) (size := 2) (fun _ => rfl), List.length_replicate]
    refine ⟨⟨hl, .inr ⟨bO, n, _, rfl, Nat.zero_le _, B.mO, Nat.le_refl _, Nat.le_trans hn (by decide), ?_, ?_⟩⟩, B.gb, fun y hy => by have := B.lO; simp [Value.ownBlock] at hy; omega⟩
    · rw [← Array.length_toList, zl_lane hn, hl]
    · rw [zl_lane hn, List.take_of_length_le (by rw [hl]; exact Nat.le_refl _)]
  have hI : LN 47 1 w w2 (.slice (some ⟨bI, 0, none⟩) n n) n ((List.replicate n (0 : Int)).map fun i => Value.int .u32 i) := by
    have hl : ((List.replicate n (0 : Int)).map fun i => Value.int .u32 i).length = n * 1 := by rw [List.length_map, List.length_replicate]; omega
    refine ⟨⟨hl, .inr ⟨bI, n, _, rfl, Nat.zero_le _, B.mI, Nat.le_refl _, Nat.le_trans hn (by decide), ?_, ?_⟩⟩, B.gb, fun y hy => by have := B.lI; simp [Value.ownBlock] at hy; omega⟩
    · rw [← Array.length_toList, zl_num hn, hl]
    · rw [zl_num hn, List.take_of_length_le (by rw [hl]; exact Nat.le_refl _)]
  have hM : PN w w2 (.slice (some ⟨bM, 0, none⟩) 1 1) [⟨0, 0⟩] := ⟨⟨rfl, .inr ⟨bM, 1, _, rfl, Nat.zero_le _, B.mM, Nat.le_refl _, by decide, rfl, rfl⟩⟩, B.gb, fun y hy => by have := B.lM; simp [Value.ownBlock] at hy; omega⟩
  refine CS.e ?_
  refine ⟨_, _, B.m6, _, rfl, ?_⟩
  refine ⟨fun m t wk => ∃ (i : Nat) (ls : List La), m = n - i ∧ i ≤ n ∧ t = [(4, .pointer (some ⟨b4, 0, none⟩)), (6, .pointer (some ⟨b6, 0, none⟩)), (37, .int .i64 n), (38, .int .i64 i)] ∧ ls.length = n ∧ LN 103 2 w wk (.slice (some ⟨bO, 0, none⟩) ls.length n) ls.length (ls.map laA).flatten ∧ (∀ j, ls[j]? = if j < i then some (1, .slice none 0 0, []) else if j < n then some (0, .slice none 0 0, []) else none) ∧ GB (some bO) w2 wk, ⟨_, _, ⟨0, List.replicate n (0, .slice none 0 0, []), rfl, Nat.zero_le _, rfl, List.length_replicate, by rw [List.length_replicate]; exact hO, fun j => ?_, GB.refl _ _⟩, sb rfl⟩, ?_⟩
  · rw [if_neg (by omega), List.getElem?_replicate]
  have nOM : ∀ {c : Array Value} {x t : Nat}, w2.heap[x]? = some (.cells c t) → t ≠ 103 → some x ≠ some bO := fun hx ht e => ne_ty hx B.mO ht (Option.some.inj e)
  rintro m t wk ⟨i, ls, rfl, hi, rfl, hll, L, hat, gk⟩
  have m6 := gk.get B.m6 (nOM B.m6 (by decide))
  refine spl (fun d => ?_) (fun d => ?_)
  · have d1 : i < n := by have := of_decide_eq_true d; omega
    have hx : ls[i]? = some (0, .slice none 0 0, []) := by rw [hat, if_neg (by omega), if_pos d1]
    obtain ⟨g', cap', cur, ev, hg', hcur, hcut, hsz⟩ := L.at (f := laA) (fun _ => rfl) hx
    injection ev with ea _ ec
    injection ea with ea
    injection ea with ea
    subst ea ec
    refine ⟨_, _, m6, _, rfl, ⟨by omega, by omega⟩, _, _, _, hcur, okSt_one rfl rfl (by rw [Array.length_toList]; show 0 + (i : Int).toNat * 2 + 0 < _; omega), rfl, fun w3 m3 g3 => ?_⟩
    have L3 := L.set (f := laA) (j := 0) (x' := (1, .slice none 0 0, [])) (fun _ => rfl) hcur hx (by decide) rfl m3 (by show 0 + (i : Int).toNat * 2 + 0 = i * 2 + 0; rw [Int.toNat_natCast, Nat.zero_add]) rfl rfl g3
    refine ⟨⟨by omega, by omega⟩, _, _, ⟨i + 1, ls.set i (1, .slice none 0 0, []), rfl, by omega, rfl, by rw [List.length_set]; exact hll, L3, fun j => ?_, gk.trans g3⟩, (sb rfl), by omega⟩
    rw [set_get (by omega), hat]
    by_cases e1 : j = i
    · rw [if_pos e1, if_pos (by omega)]
    · rw [if_neg e1]
      by_cases e2 : j < i
      · rw [if_pos e2, if_pos (by omega)]
      · rw [if_neg e2, if_neg (show ¬ j < i + 1 by omega)]
  · have d1 : i = n := by have := of_decide_eq_false d; omega
    subst d1
    have hls : ls = List.replicate i (1, .slice none 0 0, []) := by
      refine List.ext_getElem? fun j => ?_
      rw [hat, List.getElem?_replicate]
      by_cases e : j < i
      · rw [if_pos e, if_pos e]
      · rw [if_neg e, if_neg e, if_neg e]
    have gw : GB none w wk := L.gb
    have hIk := hI.off gk (fun x hx => by cases hx; exact fun z => nOM B.mI (by decide) (by simpa [Value.ownBlock] using z)) gw
    have hMk := hM.off gk (fun x hx => by cases hx; exact fun z => nOM B.mM (by decide) (by simpa [Value.ownBlock] using z)) gw
    have S : SA w wk (bgS g i) (.slice none 0 0) (.slice (some ⟨bM, 0, none⟩) 1 1) (.slice none 0 0) (.slice (some ⟨bO, 0, none⟩) i i) (.slice (some ⟨bI, 0, none⟩) i i) ls := by
      have hmem : ∀ l ∈ ls, l = (1, .slice none 0 0, []) := fun l hl => by rw [hls] at hl; exact List.eq_of_mem_replicate hl
      refine ⟨LN.nil gw, hMk, LN.nil gw, by rw [← hll]; rw [hll] at L ⊢; exact L, by show LN _ _ _ _ _ (List.replicate i (0 : Int)).length _; rw [List.length_replicate]; exact hIk, fun l hl => ?_, ?_, fun l hl x hx => ?_, fun l hl x hx => ?_, fun a b l l' _ hl _ y hy => ?_⟩
      · rw [hmem l hl]; exact ⟨LN.nil gw, fun x hx => by cases hx⟩
      · show ls.map laC = List.replicate i (1, [])
        rw [hls, List.map_replicate]; rfl
      · rw [hmem l hl] at hx; cases hx
      · rw [hmem l hl] at hx; cases hx
      · rw [hmem l (List.mem_of_getElem? hl)] at hy; cases hy
    have m4k := gk.get B.m4 (nOM B.m4 (by decide))
    refine ⟨_, _, m6, shC (bgS g i) (.slice none 0 0) (.slice (some ⟨bM, 0, none⟩) 1 1) (.slice none 0 0) (.slice (some ⟨bO, 0, none⟩) i i) (.slice (some ⟨bI, 0, none⟩) i i), rfl, rfl, _, _, _, m4k, rfl, rfl, fun w3 m3 g3 => ?_⟩
    refine ⟨_, _, m3, shC (bgS g i) (.slice none 0 0) (.slice (some ⟨bM, 0, none⟩) 1 1) (.slice none 0 0) (.slice (some ⟨bO, 0, none⟩) i i) (.slice (some ⟨bI, 0, none⟩) i i), rfl, rfl, _, _, _, _, _, _, rfl, fun w'' hw => ?_, gw.new g3 B.l4⟩
    have S3 := S.gbt g3 m4k (by decide) (by decide) (by decide) (by decide) (by decide) (by decide) B.l4
    exact S3.over hw
structure Row.b (x : Row) : Prop where
  k : U64 x.key
  v : U64 x.val
structure Rep.b (p : Rep) : Prop where
  c : U8 p.c
  s : U32 p.s
  key : U64 p.key
  k : U8 p.k
  v : U64 p.v
  g : U8 p.g
structure Req.b (q : Req) : Prop where
  c : U8 q.c
  s : U32 q.s
  k : U8 q.k
  key : U64 q.key
  v : U64 q.v
  hi : U64 q.hi
  to : U8 q.to
structure Rg.b (r : Rg) : Prop where
  src : U8 r.src
  dst : U8 r.dst
  seq : U32 r.seq
  lo : U64 r.lo
  hi : U64 r.hi
  rows : ∀ x ∈ r.rows, x.b
  dups : ∀ x ∈ r.dups, x.b
  rl : r.rows.length ≤ 20000
  dl : r.dups.length ≤ 20000
/-- A command that may be done in a cluster of N groups. -/
structure GcN (N : Nat) (c : MC) : Prop where
  kind : U8 c.kind
  q : c.q.b
  r : c.r.b
  peer : U8 c.peer
  seq : U32 c.seq
  src : c.kind = 2 → c.r.src < N
  ask : c.kind = 1 → okQ c.q = true
/-- A shard that k commands have made. -/
structure GoodN (N k : Nat) (s : St) : Prop where
  k61 : k ≤ 61
  ok : StOk s
  n : s.n = N
  t : s.T.length ≤ 256 * k
  tb : ∀ x ∈ s.T, x.b
  d : s.D.length ≤ 256 * k
  db : ∀ x ∈ s.D, x.b
  o : ∀ o ∈ s.O, o.2.length ≤ 4 ∧ 1 ≤ o.1 ∧ o.1 ≤ k + 1 ∧ ∀ r ∈ o.2, r.src = s.g ∧ r.b
  i : ∀ x ∈ s.I, 0 ≤ x ∧ x ≤ k
theorem mem_insL {α : Type} {l : List α} {i : Nat} {a x : α} (h : x ∈ insL l i a) : x = a ∨ x ∈ l := by
  unfold insL at h
  rcases List.mem_append.1 h with h | h
  · exact .inr (List.mem_of_mem_take h)
  · rcases List.mem_cons.1 h with h | h
    · exact .inl h
    · exact .inr (List.mem_of_mem_drop h)
theorem mem_setT {T : List Row} {key v : Int} {x : Row} (h : x ∈ setT T key v) : x = ⟨key, v⟩ ∨ x ∈ T := by
  unfold setT at h
  split at h
  · exact mem_setL h
  · split at h
    · exact .inr h
    · exact mem_insL h
theorem mem_delT {T : List Row} {key : Int} {x : Row} (h : x ∈ delT T key) : x ∈ T := by
  unfold delT at h
  split at h
  · exact (List.eraseIdx_sublist _ _).subset h
  · exact h
theorem mem_remD {D : List Rep} {q x : Rep} (h : x ∈ remD D q) : x = q ∨ x ∈ D := by
  unfold remD at h
  split at h
  · exact mem_setL h
  · exact mem_insL h
theorem mem_dlg {α : Type} {f : α → Int} {lo hi : Int} {l : List α} {x : α} (h : x ∈ sB f lo l ++ sA f lo hi l) : x ∈ l := by
  rcases List.mem_append.1 h with h | h
  · exact (List.mem_filter.1 h).1
  · exact (List.mem_filter.1 h).1
theorem valT_b {T : List Row} (h : ∀ x ∈ T, x.b) (key : Int) : U64 (valT T key) := by
  unfold valT
  split
  · cases hx : T[atT T key]? with
    | none => exact ⟨Int.le_refl 0, by decide⟩
    | some x => exact (h x (List.mem_of_getElem? hx)).v
  · exact ⟨Int.le_refl 0, by decide⟩
theorem doP_b {s : St} (hT : ∀ x ∈ s.T, x.b) {q : Req} (hq : q.b) : (doP s q).b := by
  have z : U64 0 := ⟨Int.le_refl 0, by decide⟩
  have z8 : U8 0 := ⟨Int.le_refl 0, by decide⟩
  have e1 : U8 1 := ⟨by decide, by decide⟩
  have e2 : U8 2 := ⟨by decide, by decide⟩
  have e5 : U8 5 := ⟨by decide, by decide⟩
  unfold doP
  split
  · exact ⟨hq.c, hq.s, hq.key, e1, valT_b hT _, z8⟩
  split
  · refine ⟨hq.c, hq.s, hq.key, ?_, z, z8⟩
    show U8 (setK _ _)
    unfold setK
    split
    · exact e2
    · split
      · exact e5
      · exact e2
  split
  · exact ⟨hq.c, hq.s, hq.key, e2, z, z8⟩
  split
  · exact ⟨hq.c, hq.s, hq.key, e2, z, z8⟩
  · exact ⟨hq.c, hq.s, hq.key, e5, z, z8⟩
section
variable {N k : Nat} {s : St}
theorem GoodN.up (h : GoodN N k s) (hk : k ≤ 60) : GoodN N (k + 1) s := ⟨by omega, h.ok, h.n, by have := h.t; omega, h.tb, by have := h.d; omega, h.db, fun o ho => by
  obtain ⟨a, b, c, d⟩ := h.o o ho
  exact ⟨a, b, by omega, d⟩, fun x hx => by have := h.i x hx; omega⟩
theorem okQ_dlg {q : Req} (h : okQ q = true) (h4 : q.k = 4) : q.key ≤ q.hi ∧ q.to < 4 := by
  unfold okQ at h
  rw [h4] at h
  simp at h
  exact ⟨h.2.1, h.2.2.1⟩
theorem GoodN.do (h : GoodN N k s) (hk : k ≤ 60) {q : Req} (hq : q.b) (ho : okQ q = true) : GoodN N (k + 1) (doS s q) := by
  have hr := ok_remD h.ok.sD (doP s q)
  have hpb := doP_b h.tb hq
  have hd := h.d
  have ht := h.t
  have u := h.up hk
  have ok := h.ok
  have db : ∀ x ∈ remD s.D (doP s q), x.b := fun x hx => by
    rcases mem_remD hx with rfl | hx
    · exact hpb
    · exact h.db x hx
  unfold doS
  split
  · have h1 := ok_setT ok.sT q.key q.v
    exact ⟨u.k61, ⟨ok.g0, ok.gn, ok.n4, h1.1, hr.1, ok.mok, ok.can, ok.ol, ok.il⟩, h.n, by have := h1.2; dsimp only; omega, fun x hx => (mem_setT hx).elim (fun e => by rw [e]; exact ⟨hq.key, hq.v⟩) (h.tb x), by have := hr.2; dsimp only; omega, db, u.o, u.i⟩
  split
  · have h1 := ok_delT ok.sT q.key
    exact ⟨u.k61, ⟨ok.g0, ok.gn, ok.n4, h1.1, hr.1, ok.mok, ok.can, ok.ol, ok.il⟩, h.n, by have := h1.2; dsimp only; omega, fun x hx => h.tb x (mem_delT hx), by have := hr.2; dsimp only; omega, db, u.o, u.i⟩
  split
  · rename_i c4
    obtain ⟨h4, hf⟩ := c4
    obtain ⟨hlh, hto⟩ := okQ_dlg ho h4
    obtain ⟨gc, _⟩ := give_spec ok.can hq.key.1 hlh (by have := hq.hi.2; omega) (g := q.to) ⟨hq.to.1, hto⟩
    have f8 : (giveL s.M q.key q.hi q.to).length ≤ 8 := by unfold fitsB at hf; simp at hf; exact hf.2
    have fq : (lanAt s.O q.to).2.length < 4 := by unfold fitsB at hf; simp at hf; exact hf.1.2
    have fn : q.to < s.n := by unfold fitsB at hf; simp at hf; exact hf.1.1.2
    have hlm : lanAt s.O q.to ∈ s.O := by
      unfold lanAt
      have hl : q.to.toNat < s.O.length := by have := ok.ol; have := hq.to.1; omega
      rw [List.getElem?_eq_getElem hl]
      exact List.getElem_mem hl
    obtain ⟨l1, l2, l3, l4⟩ := h.o _ hlm
    have hw : IntKind.u32.wrap ((lanAt s.O q.to).1 + 1) = (lanAt s.O q.to).1 + 1 := wrap_u32 (by omega)
    have a1 : (sW (fun x : Row => x.key) q.key q.hi s.T).length ≤ s.T.length := List.length_filter_le _ _
    have a2 : (sW (fun x : Rep => x.key) q.key q.hi (remD s.D (doP s q))).length ≤ (remD s.D (doP s q)).length := List.length_filter_le _ _
    have a3 : (dlgT s.T q.key q.hi).length ≤ s.T.length := by unfold dlgT; exact dlg_len hlh ok.sT.le
    have a4 : (dlgD (remD s.D (doP s q)) q.key q.hi).length ≤ (remD s.D (doP s q)).length := by unfold dlgD; exact dlg_len hlh hr.1.le
    have hr2 := hr.2
    refine ⟨u.k61, ⟨ok.g0, ok.gn, ok.n4, ?_, ?_, mapOk_canZ gc (Nat.le_trans f8 (by omega)), gc, ?_, ok.il⟩, h.n, ?_, fun x hx => h.tb x (mem_dlg hx), ?_, fun x hx => db x (mem_dlg hx), fun o ho' => ?_, u.i⟩
    · show SortT (dlgT _ _ _); unfold dlgT; rw [split_out hlh ok.sT.le]; exact ok.sT.sublist List.filter_sublist
    · show SortD (dlgD _ _ _); unfold dlgD; rw [split_out hlh hr.1.le]; exact hr.1.sublist List.filter_sublist
    · show ((List.set _ _ _).length : Int) = _; rw [List.length_set]; exact ok.ol
    · show (dlgT _ _ _).length ≤ _; omega
    · show (dlgD _ _ _).length ≤ _; omega
    · rcases mem_setL ho' with rfl | ho'
      · rw [hw]
        refine ⟨by simp only [List.length_append, List.length_singleton]; omega, by dsimp only; omega, by dsimp only; omega, fun r hr' => ?_⟩
        rcases List.mem_append.1 hr' with hr' | hr'
        · exact l4 r hr'
        · rw [List.mem_singleton] at hr'
          subst hr'
          have hg := ok.g0
          have hgn := ok.gn
          have hn4 := ok.n4
          exact ⟨rfl, ⟨⟨hg, by show s.g < 256; omega⟩, hq.to, ⟨by show 0 ≤ (lanAt s.O q.to).1; omega, by show (lanAt s.O q.to).1 < 4294967296; omega⟩, hq.key, hq.hi, fun x hx => h.tb x (List.mem_filter.1 hx).1, fun x hx => db x (List.mem_filter.1 hx).1, by show (sW _ _ _ _).length ≤ _; omega, by show (sW _ _ _ _).length ≤ _; omega⟩⟩
      · exact u.o o ho'
  · exact ⟨u.k61, ⟨ok.g0, ok.gn, ok.n4, ok.sT, hr.1, ok.mok, ok.can, ok.ol, ok.il⟩, h.n, u.t, h.tb, by have := hr.2; dsimp only; omega, db, u.o, u.i⟩
theorem GoodN.ask (h : GoodN N k s) (hk : k ≤ 60) {q : Req} (hq : q.b) : GoodN N (k + 1) (askS s q).1 := by
  have u := h.up hk
  unfold askS
  split
  · exact u
  · rename_i hok
    have hdo := h.do hk hq (by simpa using hok)
    split
    · exact u
    · split
      · split
        · split
          · exact hdo
          · split <;> exact u
        · exact u
      · exact hdo
theorem GoodN.rcv (h : GoodN N k s) (hk : k ≤ 60) {r : Rg} (hr : r.b) : GoodN N (k + 1) (recS s r) := by
  have u := h.up hk
  have ok := h.ok
  unfold recS
  split
  · rename_i c
    obtain ⟨hok, hn, hg⟩ := c
    obtain ⟨hlh, h1, h2⟩ := okR_parts hok
    obtain ⟨s1, i1, l1⟩ := rows_sorted h1
    obtain ⟨s2, i2, l2⟩ := dups_sorted h2
    have hg4 := ok.gn; have hn4 := ok.n4; have hg0 := ok.g0
    obtain ⟨gc, _⟩ := give_spec ok.can hr.lo.1 hlh (by have := hr.hi.2; omega) (g := s.g) ⟨hg0, by omega⟩
    have b1 : (sB (fun x : Row => x.key) r.lo s.T ++ sA (fun x : Row => x.key) r.lo r.hi s.T).length ≤ s.T.length := dlg_len hlh ok.sT.le
    have b2 : (sB (fun x : Rep => x.key) r.lo s.D ++ sA (fun x : Rep => x.key) r.lo r.hi s.D).length ≤ s.D.length := dlg_len hlh ok.sD.le
    simp only [List.length_append] at b1 b2
    have ht := h.t
    have hd := h.d
    refine ⟨u.k61, ⟨ok.g0, ok.gn, ok.n4, ok_mid (lo := r.lo) (hi := r.hi) (fun x hx => sB_lt hx) (fun x hx => sA_gt hx) i1 (ok.sT.sublist List.filter_sublist) s1 (ok.sT.sublist List.filter_sublist) hlh, ok_midD (lo := r.lo) (hi := r.hi) (fun x hx => sB_lt hx) (fun x hx => sA_gt hx) i2 (ok.sD.sublist List.filter_sublist) s2 (ok.sD.sublist List.filter_sublist) hlh, mapOk_canZ gc hg, gc, ok.ol, ?_⟩, h.n, ?_, fun x hx => ?_, ?_, fun x hx => ?_, u.o, fun x hx => ?_⟩
    · show ((List.set _ _ _).length : Int) = _; rw [List.length_set]; exact ok.il
    · simp only [List.length_append]; omega
    · rcases List.mem_append.1 hx with hx | hx
      · exact h.tb x (List.mem_filter.1 hx).1
      · rcases List.mem_append.1 hx with hx | hx
        · exact hr.rows x hx
        · exact h.tb x (List.mem_filter.1 hx).1
    · simp only [List.length_append]; omega
    · rcases List.mem_append.1 hx with hx | hx
      · exact h.db x (List.mem_filter.1 hx).1
      · rcases List.mem_append.1 hx with hx | hx
        · exact hr.dups x hx
        · exact h.db x (List.mem_filter.1 hx).1
    · rcases mem_setL hx with rfl | hx
      · have hsrc : r.seq = IntKind.u32.wrap (((s.I[r.src.toNat]?).getD 0) + 1) := by unfold nextB at hn; simp at hn; exact hn.2
        have hold : 0 ≤ (s.I[r.src.toNat]?).getD 0 ∧ (s.I[r.src.toNat]?).getD 0 ≤ k := by
          cases hx : s.I[r.src.toNat]? with
          | none => exact ⟨Int.le_refl 0, by show (0 : Int) ≤ k; omega⟩
          | some y => exact h.i y (List.mem_of_getElem? hx)
        rw [wrap_u32 (by omega)] at hsrc
        omega
      · exact u.i x hx
  · exact u
theorem GoodN.set (h : GoodN N k s) (hk : k ≤ 60) {peer : Int} (hp0 : 0 ≤ peer) (sq : Int) : GoodN N (k + 1) (setS s peer sq) := by
  have u := h.up hk
  have ok := h.ok
  unfold setS
  split
  · refine ⟨u.k61, ⟨ok.g0, ok.gn, ok.n4, ok.sT, ok.sD, ok.mok, ok.can, ?_, ok.il⟩, h.n, u.t, u.tb, u.d, u.db, fun o ho => ?_, u.i⟩
    · show ((List.set _ _ _).length : Int) = _; rw [List.length_set]; exact ok.ol
    · rcases mem_setL ho with rfl | ho
      · rename_i hpn
        have hlm : lanAt s.O peer ∈ s.O := by
          unfold lanAt
          have hl : peer.toNat < s.O.length := by have := ok.ol; omega
          rw [List.getElem?_eq_getElem hl]
          exact List.getElem_mem hl
        obtain ⟨l1, l2, l3, l4⟩ := u.o _ hlm
        exact ⟨Nat.le_trans (List.length_filter_le _ _) l1, l2, l3, fun r hr => l4 r (List.mem_filter.1 hr).1⟩
      · exact u.o o ho
  · exact u
theorem GoodN.app (h : GoodN N k s) (hk : k ≤ 60) {c : MC} (hc : GcN N c) : GoodN N (k + 1) (appS s c).1 := by
  unfold appS
  split
  · exact h.ask hk hc.q
  split
  · exact h.rcv hk hc.r
  split
  · exact h.set hk hc.peer.1 _
  · exact h.up hk
end
theorem RgIn.own {w w' : World} {r : Rg} {rv dv v : Value} {n : Nat} {xs : List Value} (h : RgIn w r rv dv) (ho : w.ownsRow 0 196 20 v n xs) (g : GB v.ownBlock w w') : RgIn w' r rv dv := by
  cases hv : v.ownBlock with
  | none => rw [hv] at g; exact h.kz g.kz
  | some x =>
    rw [hv] at g
    obtain ⟨c, hc⟩ := own_obj ho hv
    exact h.gbt g hc (by decide) (by decide)
theorem zip_map {α β γ : Type} (f : α → β → γ) : ∀ l : List (α × β), List.zipWith f (l.map (·.1)) (l.map (·.2)) = l.map fun x => f x.1 x.2
  | [] => rfl
  | _ :: l => by simp only [List.map_cons, List.zipWith_cons_cons, zip_map f l]
section
variable {w : World} {b : Nat} {l : List Nat}
abbrev mvA (x : MV × Value × Value) : List Value := mvC x.1 x.2.1 x.2.2
theorem VsIn.of {w : World} {v : Value} {acc : List (MV × Value × Value)} (ho : w.ownsRow 0 196 20 v acc.length (acc.map mvA).flatten) (hr : ∀ x ∈ acc, RgIn w x.1.c.r x.2.1 x.2.2) : VsIn w v (acc.map (·.1)) := by
  refine ⟨acc.map (·.2), by simp, ?_, fun i x p hx hp => ?_⟩
  · rw [zip_map (fun x (p : Value × Value) => mvC x p.1 p.2), List.length_map]
    exact own_fz ho
  · rw [List.getElem?_map] at hx hp
    cases ha : acc[i]? with
    | none => rw [ha] at hx; cases hx
    | some y =>
      rw [ha] at hx hp
      cases hx; cases hp
      exact hr y (List.mem_of_getElem? ha)
theorem votes_rd (hs : Src w b l) : CY 195 #[.pointer (some ⟨b, 0, none⟩), .func (.func 196) #[.pointer (some ⟨b, 0, none⟩)] #[]] w (fun v w' => ∃ x l', rdList rdVote l = (x, l') ∧ VsIn w' v x ∧ Src w' b l' ∧ GB (some b) w w') := by
  refine callE Tryz.func195 rfl rfl ?_
  refine ⟨_, n8_ok hs, ?_⟩
  rintro _ w1 ⟨n, l1, en, hn, rfl, s1, g1⟩
  refine ⟨fun m s wk => ∃ (i : Nat) (v : Value) (acc : List (MV × Value × Value)) (li : List Nat), m = n - i ∧ i ≤ n ∧ s = [(0, .pointer (some ⟨b, 0, none⟩)), (1, .func (.func 196) #[.pointer (some ⟨b, 0, none⟩)] #[]), (5, v), (7, .int .u8 n), (8, .int .u8 i)] ∧ wk.ownsRow 0 196 20 v acc.length (acc.map mvA).flatten ∧ Src wk b li ∧ GB (some b) w wk ∧ (∀ g, v.ownBlock = some g → w.heap.size ≤ g) ∧ rdL rdVote n l1 = (acc.map (·.1) ++ (rdL rdVote (n - i) li).1, (rdL rdVote (n - i) li).2) ∧ acc.length = i ∧ ∀ x ∈ acc, RgIn wk x.1.c.r x.2.1 x.2.2, ⟨_, _, ⟨0, _, [], l1, rfl, Nat.zero_le _, rfl, own0 _ _ _, s1, g1, nofun, rfl, rfl, fun _ h => by cases h⟩, sb rfl⟩, ?_⟩
  clear s1 g1
  rintro m s wk ⟨i, v, acc, li, rfl, hi, rfl, ho, sk, gk, nk, hr, hli, hrg⟩
  obtain ⟨va, vc, rfl⟩ := own_slice ho
  refine spl (fun e => ?_) (fun e => ?_)
  · have e1 : i < n := by have := of_decide_eq_true e; omega
    obtain ⟨d, hd, rfl⟩ := sk
    refine ⟨_, _, hd, _, rfl, spl (fun q => ?_) (fun q => ?_)⟩
    · rw [dl_nil.1 q, rdL_end, List.append_nil] at hr
      exact ⟨_, _, by rw [rdList, nx_eq en]; exact hr, VsIn.of ho hrg, ⟨d, hd, dl_nil.1 q⟩, gk⟩
    · have q1 : dl d ≠ [] := fun z => by rw [dl_nil.2 z] at q; cases q
      refine ⟨_, vote_rd ⟨d, hd, rfl⟩, ?_⟩
      rintro _ w2 ⟨x, l2, ex, ⟨rv, dv, rfl, hx⟩, s2, g2⟩
      obtain ⟨ra, rm, rc, da, dm, dc, rfl, rfl⟩ := hx.sl
      refine fun w3 b3 m3 g3 l3 => ?_
      have hb := hs.lt
      have ho3 := owns_rely (own_src ho g2 nk hb) fun x hx => by obtain ⟨c, hc⟩ := own_obj (own_src ho g2 nk hb) hx; exact g3.block x (lt_heap hc) nofun
      refine ⟨_, mvC x (.slice ra rm rc) (.slice da dm dc), ho3, ⟨_, _, m3, rfl, rfl, rfl⟩, by omega, fun v' w4 ho4 g4 n4 => ?_⟩
      obtain ⟨va', vc', rfl⟩ := own_slice ho4
      have gk2 : GB (some b) w w3 := (gk.trans g2).trans g3.weak
      have nk' : ∀ g, (Value.slice va' (acc.length + 1) vc').ownBlock = some g → w.heap.size ≤ g := fun g hg => (n4.own g hg).elim (nk g) fun z => Nat.le_trans gk2.size z
      have s4 : Src w4 b l2 := (s2.keep (g3.block b s2.lt nofun)).keep (g4.block b (Nat.lt_of_lt_of_le s2.lt g3.size) fun z => by have := nk b z.symm; omega)
      have g4' : GB (some b) w w4 := ⟨g4.os.trans gk2.os, g4.out.trans gk2.out, Nat.le_trans gk2.size g4.size, fun y hy hn => (g4.block y (Nat.lt_of_lt_of_le hy gk2.size) fun z => by have := nk y z.symm; omega).trans (gk2.block y hy hn)⟩
      have hrg' : ∀ y ∈ acc ++ [(x, Value.slice ra rm rc, Value.slice da dm dc)], RgIn w4 y.1.c.r y.2.1 y.2.2 := fun y hy => by
        rcases List.mem_append.1 hy with hy | hy
        · exact (((hrg y hy).gbt g2 hd (by decide) (by decide)).kz g3.kz).own ho3 g4
        · rw [List.mem_singleton] at hy
          subst hy
          exact (hx.kz g3.kz).own ho3 g4
      refine ⟨⟨by omega, by omega⟩, _, _, ⟨i + 1, _, acc ++ [(x, .slice ra rm rc, .slice da dm dc)], l2, rfl, by omega, rfl, by simpa using (show w4.ownsRow 0 196 20 _ _ _ from ho4), s4, g4', nk', ?_, by simp [hli], hrg'⟩, (sb rfl), by omega⟩
      rw [hr, show n - i = (n - (i + 1)) + 1 by omega, rdL_more ex q1]; simp
  · have e1 : i = n := by have := of_decide_eq_false e; omega
    rw [e1, Nat.sub_self] at hr
    exact ⟨_, _, by rw [rdList, nx_eq en]; simpa [rdL] using hr, VsIn.of ho hrg, sk, gk⟩
end
end
end Go.Proofs.YtignemioillaiaaGreat
