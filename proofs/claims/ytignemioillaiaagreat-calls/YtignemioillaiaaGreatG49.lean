/- A shard at work (16): ask. -/
import Derived.Test.YtignemioillaiaaGreatG48
namespace Go.Proofs.YtignemioillaiaaGreat
set_option maxHeartbeats 8000000
set_option maxRecDepth 100000
section
open Go Go.Conc
section
variable {Λ : Lam} {w0 w : World} {b : Nat} {s : St}
theorem lam2 {Λ : Lam} {b1 b2 : Nat} (hu : Λ b1 = none ∧ Λ b2 = none) : ∀ x o, Λ x = some o → x ≠ b1 ∧ x ≠ b2 := by
  intro x o hx
  refine ⟨fun e => ?_, fun e => ?_⟩
  · rw [e, hu.1] at hx; cases hx
  · rw [e, hu.2] at hx; cases hx
theorem ask_ok' (h : Sk Λ w0 b s w) (hk : StOk s) (hz : StB2 s) {q : Req} (hw : q.wfi) : CY 44 #[.pointer (some ⟨b, 0, none⟩), .agg q.cells.toArray] w (fun v w' => v = .agg (askS s q).2.cells.toArray ∧ Sk Λ w0 b (askS s q).1 w') := by
  refine callE Tryz.func44 rfl rfl ?_
  refine fun w1 b1 m1 g1 l1 w2 b2 m2 g2 l2 => ?_
  have hs0 := h.sz
  obtain ⟨h, u1⟩ := h.box g1 m1 l1
  obtain ⟨h, u2⟩ := h.box g2 m2 l2
  have n12 : b1 ≠ b2 := by have := lt_heap m1; omega
  have q2 : w0.heap.size ≤ b2 := by have := g1.size; omega
  rw [Lam.ne n12.symm] at u2
  have a1 := h.g (x := b1) (by rw [Lam.ne n12, Lam.eq])
  clear m1 g1 l1 m2 g2 l2
  refine ⟨_, _, a1, q.cells, rfl, rfl, _, request_ok w2 q, ?_⟩
  rintro _ w3 ⟨rfl, g3⟩
  replace h := h.gb0 g3
  replace a1 := g3.get a1 nofun
  have a2 := h.g (x := b2) (Lam.eq _ b2 _)
  have done : ∀ {Λ' : Lam} {s' : St} {w8 : World} (P : Rep), (∀ x o, Λ x = some o → Λ' x = some o) → ∀ {c : Array Value} {t : Nat}, Λ' b2 = some (.cells c t) → Sk Λ' w0 b s' w8 → ∀ w9 (m : Hl w9 b2 P.cells 57) (g : GB (some b2) w8 w9), Sk Λ w0 b s' w9 := fun P hwk _ _ h2 h w9 m g => (h.over h2 g m q2).weak fun x o hx => by
    rw [Lam.ne (lam2 ⟨u1, u2⟩ x o hx).2]; exact hwk x o hx
  have wk2 : ∀ {o1 o2 : Obj}, ∀ x o, Λ x = some o → ((Λ.add b1 o1).add b2 o2) x = some o := fun x o hx => by
    obtain ⟨e1, e2⟩ := lam2 ⟨u1, u2⟩ x o hx
    rw [Lam.ne e2, Lam.ne e1]; exact hx
  unfold askS
  obtain ⟨ok, hok⟩ : ∃ ok, okQ q = ok := ⟨_, rfl⟩
  rw [hok]
  cases ok
  · refine ⟨_, _, _, a2, rfl, rfl, fun w4 m4 g4 => ?_⟩
    exact ⟨_, _, m4, zRp.cells, rfl, rfl, rfl, done zRp wk2 (Lam.eq _ b2 _) h w4 m4 g4⟩
  simp only [Bool.true_eq_false, if_false]
  refine ⟨_, _, a1, .int .u8 q.c, rfl, _, _, a1, .int .u32 q.s, rfl, _, _, a1, .int .u64 q.key, rfl, fun w4 b5 m5 g5 l5 => ⟨_, _, _, m5, rfl, rfl, fun w5 m6 g6 => ?_⟩⟩
  replace m6 : w5.heap[b5]? = some (.cells (rep0 q).cells.toArray 57) := m6
  have q5 : w0.heap.size ≤ b5 := Nat.le_trans h.sz l5
  have n15 : b1 ≠ b5 := by have := lt_heap a1; omega
  have n25 : b2 ≠ b5 := by have := lt_heap a2; omega
  obtain ⟨h, u5⟩ := h.box (g5.new g6 l5) m6 l5
  rw [Lam.ne n25.symm, Lam.ne n15.symm] at u5
  replace a1 := (g5.new g6 l5).get a1 nofun
  clear a2 g5 g6 l5 m5
  have wk3 : ∀ {o1 o2 o3 : Obj}, ∀ x o, Λ x = some o → (((Λ.add b1 o1).add b2 o2).add b5 o3) x = some o := fun x o hx => by
    obtain ⟨e1, e2, e3⟩ := lam3 ⟨u1, u2, u5⟩ x o hx
    rw [Lam.ne e3, Lam.ne e2, Lam.ne e1]; exact hx
  obtain ⟨T, M, D, O, I, ls, hsw⟩ := h
  refine ⟨_, _, a1, .int .u64 q.key, rfl, _, _, a1, .int .u64 q.key, rfl, _, _, a1, .int .u64 q.hi, rfl, _, stranger_ok (hi := mxK q) hsw.mem hsw.sa.m.fz hk.mok hk.can hw.key.1, ?_⟩
  rintro _ w6 ⟨rfl, g6⟩
  replace hsw := hsw.gb0 g6
  replace a1 := g6.get a1 nofun
  replace m6 := g6.get m6 nofun
  have h : Sk (((Λ.add b1 _).add b2 _).add b5 _) w0 b s w6 := ⟨_, _, _, _, _, _, hsw⟩
  have a2 := h.g (x := b2) (by rw [Lam.ne n25, Lam.eq])
  obtain ⟨st, hst⟩ : ∃ st, strB s.M s.g q.key (mxK q) = st := ⟨_, rfl⟩
  rw [hst]
  cases st
  rotate_left
  · simp only [if_true]
    refine ⟨_, _, _, m6, rfl, rfl, fun w7 m7 g7 => ?_⟩
    replace h := h.over (Lam.eq _ b5 _) g7 m7 q5
    refine ⟨_, _, _, m7, rfl, rfl, fun w8 m8 g8 => ?_⟩
    replace h := h.over (Lam.eq _ b5 _) g8 m8 q5
    rw [Lam.twice, Lam.twice] at h
    have a2 := h.g (x := b2) (by rw [Lam.ne n25, Lam.eq])
    refine ⟨_, _, m8, Rep.cells ⟨q.c, q.s, q.key, 3, false, 0, strG s.M s.g q.key (mxK q)⟩, rfl, rfl, _, _, _, a2, rfl, rfl, fun w9 m9 g9 => ?_⟩
    exact ⟨_, _, m9, Rep.cells ⟨q.c, q.s, q.key, 3, false, 0, strG s.M s.g q.key (mxK q)⟩, rfl, rfl, rfl, done _ wk3 (by rw [Lam.ne n25, Lam.eq]) h w9 m9 g9⟩
  simp only [Bool.false_eq_true, if_false]
  refine ⟨_, _, m6, (rep0 q).cells, rfl, rfl, _, dup_ok hsw.mem hsw.sa.d.fz (Nat.le_trans hz.d (by decide)) hk.sD (rep0 q), ?_⟩
  rintro _ w7 ⟨rfl, g7⟩
  replace hsw := hsw.gb0 g7
  replace a1 := g7.get a1 nofun
  replace a2 := g7.get a2 nofun
  replace m6 := g7.get m6 nofun
  replace h : Sk (((Λ.add b1 _).add b2 _).add b5 _) w0 b s w7 := ⟨_, _, _, _, _, _, hsw⟩
  obtain ⟨hd, hhd⟩ : ∃ hd, hasD s.D (rep0 q) = hd := ⟨_, rfl⟩
  rw [hhd]
  cases hd
  · simp only [Bool.false_eq_true, if_false]
    refine ⟨by kernel_rfl, ?_⟩
    refine ⟨_, _, a1, q.cells, rfl, rfl, _, _, m6, (rep0 q).cells, rfl, rfl, _, sdo_ok h hk hz hok hw, ?_⟩
    rintro _ w8 ⟨rfl, h⟩
    have a2 := h.g (x := b2) (by rw [Lam.ne n25, Lam.eq])
    refine ⟨_, _, _, a2, rfl, rfl, fun w9 m9 g9 => ?_⟩
    exact ⟨_, _, m9, (doP s q).cells, rfl, rfl, rfl, done _ wk3 (by rw [Lam.ne n25, Lam.eq]) h w9 m9 g9⟩
  obtain ⟨x, hx, hx0⟩ := hit_at hhd
  have hi : atD s.D (rep0 q) < s.D.length := (List.getElem?_eq_some_iff.1 hx).1
  have hx' : s.D[atD s.D (rep0 q)]? = some x := hx
  simp only [if_true, hx']
  obtain ⟨g, cap, cur, ev, hg, hcur, hcut, hsz⟩ := hsw.sa.d.at (f := Rep.cells) (fun _ => rfl) hx
  subst ev
  have hcs : cur.toList[0 + ((atD s.D (rep0 q) : Nat) : Int).toNat * 7 + 1]? = some (.int .u32 x.s) := cut_one hcut rfl (by decide)
  refine ⟨by kernel_rfl, _, _, hsw.mem, _, rfl, ⟨by omega, by omega⟩, _, _, hcur, .int .u32 x.s, hcs, _, _, a1, .int .u32 q.s, rfl, spl (fun e => ?_) (fun e => ?_)⟩
  · have e1 := of_decide_eq_true e
    rw [if_neg (by omega)]
    refine ⟨by kernel_rfl, _, _, hsw.mem, _, rfl, ⟨by omega, by omega⟩, _, _, hcur, .int .u32 x.s, hcs, _, _, a1, .int .u32 q.s, rfl, spl (fun f => ?_) (fun f => ?_)⟩
    · rw [if_pos (eq_of_beq f)]
      refine ⟨_, _, hsw.mem, _, rfl, ⟨by omega, by omega⟩, _, _, hcur, x.cells, hcut, rfl, _, _, _, a2, rfl, rfl, fun w9 m9 g9 => ?_⟩
      exact ⟨_, _, m9, x.cells, rfl, rfl, rfl, done x wk3 (by rw [Lam.ne n25, Lam.eq]) h w9 m9 g9⟩
    · rw [if_neg (by simpa using f)]
      refine ⟨_, _, _, m6, rfl, rfl, fun w8 m8 g8 => ?_⟩
      replace h := h.over (Lam.eq _ b5 _) g8 m8 q5
      rw [Lam.twice] at h
      have a2 := h.g (x := b2) (by rw [Lam.ne n25, Lam.eq])
      refine ⟨_, _, m8, Rep.cells ⟨q.c, q.s, q.key, 4, false, 0, 0⟩, rfl, rfl, _, _, _, a2, rfl, rfl, fun w9 m9 g9 => ?_⟩
      exact ⟨_, _, m9, Rep.cells ⟨q.c, q.s, q.key, 4, false, 0, 0⟩, rfl, rfl, rfl, done _ wk3 (by rw [Lam.ne n25, Lam.eq]) h w9 m9 g9⟩
  · have e1 := of_decide_eq_false e
    rw [if_pos (by omega)]
    refine ⟨_, _, a1, q.cells, rfl, rfl, _, _, m6, (rep0 q).cells, rfl, rfl, _, sdo_ok h hk hz hok hw, ?_⟩
    rintro _ w8 ⟨rfl, h⟩
    have a2 := h.g (x := b2) (by rw [Lam.ne n25, Lam.eq])
    refine ⟨_, _, _, a2, rfl, rfl, fun w9 m9 g9 => ?_⟩
    exact ⟨_, _, m9, (doP s q).cells, rfl, rfl, rfl, done _ wk3 (by rw [Lam.ne n25, Lam.eq]) h w9 m9 g9⟩
end
theorem flat1 (l : List Int) : (l.map fun i => [Value.int .u32 i]).flatten = l.map fun i => Value.int .u32 i := by
  induction l with
  | nil => rfl
  | cons x l ih => rw [List.map_cons, List.flatten_cons, ih]; rfl
theorem cat3 {α : Type} (v1 v2 v3 : Value) (a b c : List α) : (([(v1, a), (v2, b), (v3, c)] : List (Value × List α)).map (·.2)).flatten = a ++ (b ++ c) := by simp
section
variable {Λ : Lam} {w0 w : World} {b : Nat} {s : St} {T M D O I : Value} {ls : List La}
theorem LN.one {w0 w : World} {v : Value} {l : List Int} (h : LN 47 1 w0 w v l.length (l.map fun i => Value.int .u32 i)) : LN 47 1 w0 w v l.length (l.map fun i => [Value.int .u32 i]).flatten := by rw [flat1]; exact h
theorem isNext_ok (h : Sw Λ w0 b s w T M D O I ls) (hk : StOk s) (hI : ∀ x ∈ s.I, 0 ≤ x ∧ x < 4294967295) {r : Rg} {ra da : Option Addr} {rn rc dn dc : Nat} (h0 : 0 ≤ r.src) : CY 87 #[.pointer (some ⟨b, 0, none⟩), .agg (rgC r (.slice ra rn rc) (.slice da dn dc)).toArray] w (fun v w' => v = .bool (nextB s.g s.n s.I r) ∧ GB none w w') := by
  have hn4 := hk.n4
  have hil := hk.il
  refine callE Tryz.func87 rfl rfl ?_
  refine fun w1 b1 m1 g1 l1 => ?_
  replace h := h.gb0 g1
  unfold nextB
  refine ⟨by kernel_rfl, _, _, m1, .int .u8 r.dst, rfl, _, _, h.mem, .int .u8 s.g, rfl, spl (fun e => ?_) (fun e => ?_)⟩
  · have e1 : r.dst = s.g := eq_of_beq (b11 e)
    refine ⟨_, _, m1, .int .u8 r.src, rfl, _, _, h.mem, .int .u8 s.g, rfl, spl (fun e => ?_) (fun e => ?_)⟩
    · have e2 : ¬ r.src = s.g := by simpa using b11 e
      refine ⟨_, _, m1, .int .u8 r.src, rfl, _, _, h.mem, .int .u8 s.n, rfl, spl (fun e => ?_) (fun e => ?_)⟩
      · have e3 : r.src < s.n := of_decide_eq_true (b11 e)
        obtain ⟨j, hj⟩ := Int.eq_ofNat_of_zero_le h0
        obtain ⟨x, hx⟩ : ∃ x, s.I[j]? = some x := ⟨s.I[j]'(by omega), by simp [show j < s.I.length by omega]⟩
        obtain ⟨g, cap, cur, ev, hg, hcur, hcut, hsz⟩ := h.sa.i.one.at (f := fun i => [Value.int .u32 i]) (fun _ => rfl) hx
        subst ev
        have hxb := hI x (List.mem_of_getElem? hx)
        have hcell : cur.toList[0 + r.src.toNat * 1]? = some (.int .u32 x) := by
          have := cut_one hcut (i := 0) rfl (by decide)
          rw [hj]; exact this
        have hw : IntKind.u32.wrap ((s.I[r.src.toNat]?).getD 0 + 1) = x + 1 := by
          rw [hj, Int.toNat_natCast, hx]
          exact wrap_u32 (by show 0 ≤ x + 1 ∧ x + 1 < _; omega)
        refine ⟨_, _, m1, .int .u32 r.seq, rfl, _, _, h.mem, _, rfl, _, _, m1, .int .u8 r.src, rfl, ⟨by omega, by omega⟩, _, _, hcur, .int .u32 x, hcell, ⟨by omega, by omega⟩, ?_⟩
        refine ⟨vb ?_, g1⟩
        rw [hw]
        simp [e1, e2, e3]
      · have e3 : ¬ r.src < s.n := of_decide_eq_false (b10 e)
        exact ⟨vb (by simp [e3]), g1⟩
    · have e2 : r.src = s.g := by simpa using b10 e
      exact ⟨vb (by simp [e2]), g1⟩
  · have e1 : ¬ r.dst = s.g := by simpa using b10 e
    exact ⟨vb (by simp [e1]), g1⟩
theorem okR_parts {r : Rg} (h : okR r = true) : r.lo ≤ r.hi ∧ rowsB r = true ∧ dupsB r = true := by
  unfold okR at h
  simp only [Bool.and_eq_true, decide_eq_true_eq] at h
  exact ⟨h.2.2.2.1, h.2.2.2.2.1, h.2.2.2.2.2⟩
theorem receive_ok (h : Sk Λ w0 b s w) (hk : StOk s) (hz : StB2 s) (hI : ∀ x ∈ s.I, 0 ≤ x ∧ x < 4294967295) {r : Rg} {rv dv : Value} (hr : RgIn w0 r rv dv) (h0 : 0 ≤ r.src) (h1 : 0 ≤ r.lo) (h2 : r.hi ≤ 18446744073709551615) : CY 45 #[.pointer (some ⟨b, 0, none⟩), .agg (rgC r rv dv).toArray] w (fun v w' => v = .tuple #[] ∧ Sk Λ w0 b (recS s r) w') := by
  obtain ⟨ra, rn, rc, da, dn, dc, rfl, rfl⟩ := hr.sl
  have hn4 := hk.n4
  have hil := hk.il
  have hgn := hk.gn
  refine callE Tryz.func45 rfl rfl ?_
  refine fun w1 b1 m1 g1 l1 => ?_
  have hs0 := h.sz
  obtain ⟨h, u1⟩ := h.box g1 m1 l1
  clear m1 g1 l1
  obtain ⟨T, M, D, O, I, ls, h⟩ := h
  refine ⟨_, _, h.at, rgC r _ _, rfl, rfl, _, range_ok (hr.kz h.gb.kz), ?_⟩
  rintro _ w2 ⟨rfl, g2⟩
  replace h := h.gb0 g2
  unfold recS
  obtain ⟨ok, hok⟩ : ∃ ok, okR r = ok := ⟨_, rfl⟩
  rw [hok]
  cases ok
  · rw [if_neg (by simp)]
    exact ⟨rfl, _, _, _, _, _, _, h.drop u1⟩
  obtain ⟨hlh, hrows, hdups⟩ := okR_parts hok
  obtain ⟨_, _, hrl⟩ := rows_sorted hrows
  obtain ⟨_, _, hdl⟩ := dups_sorted hdups
  refine ⟨_, _, h.at, rgC r _ _, rfl, rfl, _, isNext_ok h hk hI h0, ?_⟩
  rintro _ w3 ⟨rfl, g3⟩
  replace h := h.gb0 g3
  obtain ⟨nb, hnb⟩ : ∃ nb, nextB s.g s.n s.I r = nb := ⟨_, rfl⟩
  rw [hnb]
  cases nb
  · rw [if_neg (by simp)]
    exact ⟨rfl, _, _, _, _, _, _, h.drop u1⟩
  have hsrc : r.src < s.n := by unfold nextB at hnb; simp at hnb; exact hnb.1.2
  have hM : PIn w3 M s.M := h.sa.m.fz
  refine ⟨by kernel_rfl, _, _, h.mem, _, rfl, _, _, h.at, .int .u64 r.lo, rfl, _, _, h.at, .int .u64 r.hi, rfl, _, _, h.mem, .int .u8 s.g, rfl, _, Give_ok hM hk.mok hk.can h1 hlh h2 (by omega : s.g < 4), ?_⟩
  rintro _ w4 ⟨v', e', rfl, g4, hc⟩
  rcases hc with ⟨c1, rfl, P⟩ | ⟨c1, rfl, rfl⟩
  rotate_left
  · rw [if_neg (by rintro ⟨_, _, z⟩; omega)]
    exact ⟨rfl, _, _, _, _, _, _, (h.gb0 g4).drop u1⟩
  rw [if_pos ⟨rfl, rfl, c1⟩]
  have uM : ∀ x, v'.ownBlock = some x → _ := fun x hx => h.unp (P.new x hx)
  replace P := P.base h.gb
  obtain ⟨va, vc, rfl⟩ := own_slice P.own
  replace h := h.gb0 g4
  refine ⟨_, _, _, h.mem, rfl, rfl, fun w5 m5 g5 => ?_⟩
  replace h := h.setM P uM m5 g5
  clear m5 g5 P uM hM g2 g3 g4
  obtain ⟨j, hj⟩ := Int.eq_ofNat_of_zero_le h0
  obtain ⟨x, hx⟩ : ∃ x, s.I[j]? = some x := ⟨s.I[j]'(by omega), by simp [show j < s.I.length by omega]⟩
  obtain ⟨g, cap, cur, ev, hg, hcur, hcut, hsz⟩ := h.sa.i.one.at (f := fun i => [Value.int .u32 i]) (fun _ => rfl) hx
  subst ev
  refine ⟨by kernel_rfl, _, _, h.mem, _, rfl, _, _, h.at, .int .u8 r.src, rfl, _, _, h.at, .int .u32 r.seq, rfl, ⟨by omega, by show r.src < (s.I.length : Int); omega⟩, _, _, _, hcur, okSt_one rfl rfl (by rw [Array.length_toList]; show 0 + r.src.toNat * 1 < _; have hsz' : s.I.length * 1 ≤ cur.size := hsz; omega), rfl, fun w6 m6 g6 => ?_⟩
  have LI := h.sa.i.one.set (f := fun i => [Value.int .u32 i]) (j := 0) (x' := r.seq) (fun _ => rfl) hcur hx (by decide) rfl m6 (by show 0 + r.src.toNat * 1 = j * 1 + 0; omega) rfl rfl g6
  rw [flat1] at LI
  have ejn : r.src.toNat = j := by omega
  replace h := h.setI (i' := s.I.set r.src.toNat r.seq) (by rw [ejn]; simp only [List.length_set] at LI ⊢; exact LI) g6
  clear hcur hcut hsz m6 g6 LI
  obtain ⟨f1, f2, f3⟩ := filt3 (fun x : Row => x.key) r.lo r.hi s.T
  obtain ⟨e1, e2, e3⟩ := filt3 (fun x : Rep => x.key) r.lo r.hi s.D
  have hzt := hz.t
  have hzd := hz.d
  refine ⟨by kernel_rfl, _, _, h.mem, _, rfl, _, _, h.at, .int .u64 r.lo, rfl, _, _, h.at, .int .u64 r.hi, rfl, _, split_row rfl rfl rfl h.sa.t.fz (Nat.le_trans hzt (by decide)) r.lo r.hi, ?_⟩
  rintro _ w7 ⟨v1, v2, v3, rfl, L1, L2, L3, sp⟩
  obtain ⟨a1, c1', rfl⟩ := own_slice L1.own
  obtain ⟨a2, c2', rfl⟩ := own_slice L2.own
  obtain ⟨a3, c3', rfl⟩ := own_slice L3.own
  replace h := h.gb0 L1.gb
  refine ⟨_, _, h.at, (.slice ra rn rc), rfl, fun w8 vb mvb g8 lvb => ?_⟩
  replace h := h.gb0 g8
  refine ⟨_, concat_row rfl (xs := [(_, sB (fun x : Row => x.key) r.lo s.T), (_, r.rows), (_, sA (fun x : Row => x.key) r.lo r.hi s.T)]) mvb ?_ (by rw [show catX _ = _ from cat3 _ _ _ _ _ _, List.length_append, List.length_append]; omega) (by show 3 ≤ 100; decide), ?_⟩
  · intro x hx
    simp only [List.mem_cons, List.not_mem_nil, or_false] at hx
    rcases hx with rfl | rfl | rfl
    · exact (L1.gb0 g8).fz
    · exact hr.1.kz h.gb.kz (by decide)
    · exact (L3.gb0 g8).fz
  intro X' w9 LX
  rw [show catX [_, _, _] = _ from cat3 _ _ _ _ _ _] at LX
  obtain ⟨xa, xc, rfl⟩ := own_slice LX.own
  refine ⟨_, _, _, LX.gb.get h.mem nofun, rfl, rfl, fun w10 m10 g10 => ?_⟩
  replace h := h.setT (t' := sB (fun x : Row => x.key) r.lo s.T ++ (r.rows ++ sA (fun x : Row => x.key) r.lo r.hi s.T)) (LX.base h.gb) LX.gb.weak (fun x hx => .inr (LX.new x hx)) m10 g10
  clear L1 L2 L3 sp LX m10 g10 mvb g8 lvb
  refine ⟨by kernel_rfl, _, _, h.mem, _, rfl, _, _, h.at, .int .u64 r.lo, rfl, _, _, h.at, .int .u64 r.hi, rfl, _, split_rep rfl rfl rfl h.sa.d.fz (Nat.le_trans hzd (by decide)) r.lo r.hi, ?_⟩
  rintro _ w7 ⟨v1, v2, v3, rfl, L1, L2, L3, sp⟩
  obtain ⟨a1, c1', rfl⟩ := own_slice L1.own
  obtain ⟨a2, c2', rfl⟩ := own_slice L2.own
  obtain ⟨a3, c3', rfl⟩ := own_slice L3.own
  replace h := h.gb0 L1.gb
  refine ⟨_, _, h.at, (.slice da dn dc), rfl, fun w8 vb mvb g8 lvb => ?_⟩
  replace h := h.gb0 g8
  refine ⟨_, concat_rep rfl (xs := [(_, sB (fun x : Rep => x.key) r.lo s.D), (_, r.dups), (_, sA (fun x : Rep => x.key) r.lo r.hi s.D)]) mvb ?_ (by rw [show catX _ = _ from cat3 _ _ _ _ _ _, List.length_append, List.length_append]; omega) (by show 3 ≤ 100; decide), ?_⟩
  · intro x hx
    simp only [List.mem_cons, List.not_mem_nil, or_false] at hx
    rcases hx with rfl | rfl | rfl
    · exact (L1.gb0 g8).fz
    · exact hr.2.kz h.gb.kz (by decide)
    · exact (L3.gb0 g8).fz
  intro X' w9 LX
  rw [show catX [_, _, _] = _ from cat3 _ _ _ _ _ _] at LX
  obtain ⟨xa, xc, rfl⟩ := own_slice LX.own
  refine ⟨_, _, _, LX.gb.get h.mem nofun, rfl, rfl, fun w10 m10 g10 => ?_⟩
  replace h := h.setD (d' := sB (fun x : Rep => x.key) r.lo s.D ++ (r.dups ++ sA (fun x : Rep => x.key) r.lo r.hi s.D)) (LX.base h.gb) LX.gb.weak (fun x hx => .inr (LX.new x hx)) m10 g10
  clear L1 L2 L3 sp LX m10 g10 mvb g8 lvb
  exact ⟨rfl, _, _, _, _, _, _, h.drop u1⟩
end
section
variable {Λ : Lam} {w0 w : World} {b : Nat} {s : St} {T M D O I : Value} {ls : List La}
theorem Sw.old (h : Sw Λ w0 b s w T M D O I ls) {x : Nat} {o : Obj} (hx : w.heap[x]? = some o) (hl : x < w0.heap.size) : Sw (Λ.add x o) w0 b s w T M D O I ls := by
  refine ⟨h.mem, h.nb, h.sa, fun y q hy => ?_, fun y q hy => ?_⟩
  · unfold Lam.add at hy
    split at hy
    · rename_i e; subst e; cases hy; exact ⟨hx, fun ho => by have := h.new ho; omega⟩
    · exact h.pr y q hy
  · unfold Lam.add at hy
    split at hy
    · rename_i e; subst e
      intro hr
      rcases hr with hr | ⟨l, hl', z, hz, hr | hr⟩
      · have := h.sa.m.new _ hr; omega
      · have := ((h.sa.q l hl').r z hz).r.new _ hr; omega
      · have := ((h.sa.q l hl').r z hz).d.new _ hr; omega
    · exact h.rd y q hy
def lam0 : Lam := fun _ => none
/-- The result, laid where it is asked for. -/
theorem apply_end {w0 wf : World} (_hs : w0.heap.size ≤ wf.heap.size) (_gf : GB none w0 wf) {s : St} {T M D O I : Value} {ls : List La} {w : World} {b3 b4 : Nat} (n3 : w0.heap.size ≤ b3) (n4 : w0.heap.size ≤ b4) {w' : World} (S : SA wf w s T M D O I ls) (g3 : GB none w0 w) {w1 : World} (_m1 : Hl w1 b3 (shC s T M D O I) 31) (g1 : GB (some b3) w w1) (h3 : b3 < wf.heap.size) (h4 : b4 < wf.heap.size) (g2 : GB (some b4) w1 w') : (∀ w'' : World, (∀ x, w0.heap.size ≤ x → x < w'.heap.size → w''.heap[x]? = w'.heap[x]?) → ShIn w'' T M D O I s) ∧ GB none w0 w' := by
  refine ⟨fun w'' hw => S.over fun x hx hxl => ?_, (g3.new g1 n3).new g2 n4⟩
  have k1 := g1.size
  have k2 := g2.size
  rw [hw x (by omega) (by omega), g2.block x (by omega) (fun e => by injection e with e; omega), g1.block x hxl (fun e => by injection e with e; omega)]
end
theorem apply_ok {w : World} {s : St} {c : MC} {vT vM vD vO vI cv : Value} (h : ShIn w vT vM vD vO vI s) (hk : StOk s) (hz : StB2 s) (hS : StS s) (hI : ∀ x ∈ s.I, 0 ≤ x ∧ x < 4294967295) (hc : CIn w cv c) (hq : c.q.wfi) (hrb : 0 ≤ c.r.src ∧ 0 ≤ c.r.lo ∧ c.r.hi ≤ 18446744073709551615) (hp : 0 ≤ c.peer) : CY 12 #[.agg (shC s vT vM vD vO vI).toArray, cv] w (fun v w' => ∃ T M D O I, v = .tuple #[.agg (shC (appS s c).1 T M D O I).toArray, .agg (appS s c).2.cells.toArray] ∧ (∀ w'' : World, (∀ x, w.heap.size ≤ x → x < w'.heap.size → w''.heap[x]? = w'.heap[x]?) → ShIn w'' T M D O I (appS s c).1) ∧ GB none w w') := by
  obtain ⟨ta, tc, rfl, hT'⟩ := h.T
  obtain ⟨ma, mc', rfl, hM'⟩ := h.M
  obtain ⟨da, dc, rfl, hD'⟩ := h.D
  obtain ⟨_, _, ⟨oa, oc, rfl, hO'⟩, _⟩ := h.O
  obtain ⟨ia, ic, rfl, hI'⟩ := h.I
  obtain ⟨rv, dv, rfl, hr⟩ := hc
  obtain ⟨ra, rn, rc, da', dn', dc', e1, e2⟩ := hr.sl
  subst e1 e2
  refine callE Tryz.func12 rfl rfl ?_
  refine fun w1 b1 m1 g1 l1 w2 b2 m2 g2 l2 w3 b3 m3 g3 l3 w4 b4 m4 g4 l4 => ?_
  have j1 := lt_heap m1
  have j2 := lt_heap m2
  have j3 := lt_heap m3
  have k4 := lt_heap m4
  have z1 := g1.size
  have z2 := g2.size
  have z3 := g3.size
  have z4 := g4.size
  have n34 : b3 ≠ b4 := by omega
  have n23 : b2 ≠ b3 := by omega
  have n24 : b2 ≠ b4 := by omega
  have G4 := ((g1.trans g2).trans g3).trans g4
  have m1 := g4.get (g3.get (g2.get m1 nofun) nofun) nofun
  have m2 := g4.get (g3.get m2 nofun) nofun
  have m3 := g4.get m3 nofun
  refine ⟨_, _, m1, shC s (.slice ta _ tc) (.slice ma _ mc') (.slice da _ dc) (.slice oa _ oc) (.slice ia _ ic), rfl, rfl, _, fresh_ok (h.kz G4.kz) hS, ?_⟩
  rintro _ w5 ⟨T, M, D, O, I, ls, rfl, S⟩
  have S5 := S
  obtain ⟨Ta, Tc, rfl⟩ := own_slice S.t.own
  obtain ⟨Ma, Mc, rfl⟩ := own_slice S.m.own
  obtain ⟨Da, Dc, rfl⟩ := own_slice S.d.own
  obtain ⟨Oa, Oc, rfl⟩ := own_slice S.o.own
  obtain ⟨Ia, Ic, rfl⟩ := own_slice S.i.own
  have hll : ls.length = s.O.length := by rw [← S.core, List.length_map]
  refine fun w6 b6 m6 g6 l6 => ⟨_, _, _, m6, rfl, rfl, fun w7 m7 g7 => ?_⟩
  refine fun w8 b7 m8 g8 l8 => ?_
  have z5 := S.t.gb.size
  have z6 := g6.size
  have z7 := g7.size
  have h0 : Sw lam0 w4 b6 s w7 _ _ _ _ _ ls := ⟨m7, by omega, S.gb0 (g6.new g7 l6), (fun _ _ h => by cases h), (fun _ _ h => by cases h)⟩
  have G8 : GB none w4 w8 := (S.t.gb.trans (g6.new g7 l6)).trans g8
  have n72 : b7 ≠ b2 := by omega
  have n73 : b7 ≠ b3 := by omega
  have n74 : b7 ≠ b4 := by omega
  have q7 : w4.heap.size ≤ b7 := by omega
  have hsw := (((h0.box g8 m8 l8).old (G8.get m2 nofun) (by omega)).old (G8.get m3 nofun) (by omega)).old (G8.get m4 nofun) k4
  clear h0 m6 g6 l6 m7 g7 m8 g8 l8 S S5
  have hM8 : PIn w8 (.slice Ma s.M.length Mc) s.M := hsw.sa.m.fz
  refine ⟨_, _, hsw.mem, shC s (.slice Ta _ Tc) (.slice Ma _ Mc) (.slice Da _ Dc) (.slice Oa _ Oc) (.slice Ia _ Ic), rfl, rfl, _, sound_ok w8 hM8 hk.mok hk.can ⟨_, _, by rw [hll]⟩ ⟨_, _, rfl⟩ ⟨_, _, _, rfl⟩ ⟨_, _, _, rfl⟩ hk.gn hk.n4 (by have := hk.g0; have := hk.gn; omega) hk.ol hk.il, ?_⟩
  rintro _ w9 ⟨rfl, g9⟩
  have h : Sk ((((lam0.add b7 _).add b2 _).add b3 _).add b4 _) w4 b6 s w9 := ⟨_, _, _, _, _, _, hsw.gb0 g9⟩
  clear hsw hM8
  have a2 := h.g (x := b2) (by rw [Lam.ne n24, Lam.ne n23, Lam.eq])
  have hr4 := hr.kz G4.kz
  obtain ⟨kd, q, r, peer, seq⟩ := c
  dsimp only at hr hq hrb hp hr4
  unfold appS
  dsimp only
  by_cases k1 : kd = 1
  · subst k1
    simp only [if_true]
    refine ⟨_, _, a2, _, rfl, _, _, a2, q.cells, rfl, rfl, _, ask_ok' h hk hz hq, ?_⟩
    rintro _ w10 ⟨rfl, h⟩
    generalize askS s q = A at *
    obtain ⟨s', P⟩ := A
    dsimp only at h ⊢
    have a7 := h.g (x := b7) (by rw [Lam.ne n74, Lam.ne n73, Lam.ne n72, Lam.eq])
    refine ⟨_, _, _, a7, rfl, rfl, fun w10 m10 g10 => ?_⟩
    replace m10 : Hl w10 b7 P.cells 57 := m10
    replace h := h.over (by rw [Lam.ne n74, Lam.ne n73, Lam.ne n72, Lam.eq]) g10 m10 q7
    have a7 := h.g (x := b7) (Lam.eq _ b7 _)
    have a3 := h.g (x := b3) (by rw [Lam.ne n73.symm, Lam.ne n34, Lam.eq])
    have a4 := h.g (x := b4) (by rw [Lam.ne n74.symm, Lam.eq])
    obtain ⟨T, M, D, O, I, ls', hw⟩ := h
    obtain ⟨Ta, Tc, rfl⟩ := own_slice hw.sa.t.own
    obtain ⟨Ma, Mc, rfl⟩ := own_slice hw.sa.m.own
    obtain ⟨Da, Dc, rfl⟩ := own_slice hw.sa.d.own
    obtain ⟨Oa, Oc, rfl⟩ := own_slice hw.sa.o.own
    obtain ⟨Ia, Ic, rfl⟩ := own_slice hw.sa.i.own
    refine ⟨by kernel_rfl, _, _, hw.mem, shC s' (.slice Ta _ Tc) (.slice Ma _ Mc) (.slice Da _ Dc) (.slice Oa _ Oc) (.slice Ia _ Ic), rfl, rfl, _, _, a7, P.cells, rfl, rfl, _, _, _, a3, rfl, rfl, fun w11 m11 g11 => ?_⟩
    refine ⟨⟨g11.get a7 (fun e => n73 (Option.some.inj e)), g11.get hw.mem (fun e => by injection e with e; have := hw.nb; omega), trivial⟩, _, _, _, g11.get a4 (fun e => n34 (Option.some.inj e).symm), rfl, rfl, fun w12 m12 g12 => ?_⟩
    replace m11 : Hl w11 b3 (shC s' (.slice Ta _ Tc) (.slice Ma _ Mc) (.slice Da _ Dc) (.slice Oa _ Oc) (.slice Ia _ Ic)) 31 := m11
    obtain ⟨r1, r2⟩ := apply_end (w0 := w) (by have := G4.size; omega) G4 (by omega) (by omega) hw.sa (G4.trans hw.gb) m11 g11 (by omega) k4 g12
    exact ⟨_, _, g12.get m11 (fun e => n34 (Option.some.inj e)), shC s' (.slice Ta _ Tc) (.slice Ma _ Mc) (.slice Da _ Dc) (.slice Oa _ Oc) (.slice Ia _ Ic), rfl, rfl, _, _, m12, P.cells, rfl, rfl, _, _, _, _, _, rfl, r1, r2⟩
  by_cases k2 : kd = 2
  · subst k2
    rw [if_neg (by decide), if_pos rfl]
    refine ⟨_, _, a2, _, rfl, _, _, a2, rgC r (.slice ra rn rc) (.slice da' dn' dc'), rfl, rfl, _, receive_ok h hk hz hI hr4 hrb.1 hrb.2.1 hrb.2.2, ?_⟩
    rintro _ w10 ⟨rfl, h⟩
    generalize recS s r = s' at *
    have a7 := h.g (x := b7) (by rw [Lam.ne n74, Lam.ne n73, Lam.ne n72, Lam.eq])
    have a3 := h.g (x := b3) (by rw [Lam.ne n34, Lam.eq])
    have a4 := h.g (x := b4) (Lam.eq _ b4 _)
    obtain ⟨T, M, D, O, I, ls', hw⟩ := h
    obtain ⟨Ta, Tc, rfl⟩ := own_slice hw.sa.t.own
    obtain ⟨Ma, Mc, rfl⟩ := own_slice hw.sa.m.own
    obtain ⟨Da, Dc, rfl⟩ := own_slice hw.sa.d.own
    obtain ⟨Oa, Oc, rfl⟩ := own_slice hw.sa.o.own
    obtain ⟨Ia, Ic, rfl⟩ := own_slice hw.sa.i.own
    refine ⟨by kernel_rfl, _, _, hw.mem, shC s' (.slice Ta _ Tc) (.slice Ma _ Mc) (.slice Da _ Dc) (.slice Oa _ Oc) (.slice Ia _ Ic), rfl, rfl, _, _, a7, zRp.cells, rfl, rfl, _, _, _, a3, rfl, rfl, fun w11 m11 g11 => ?_⟩
    refine ⟨⟨g11.get a7 (fun e => n73 (Option.some.inj e)), g11.get hw.mem (fun e => by injection e with e; have := hw.nb; omega), trivial⟩, _, _, _, g11.get a4 (fun e => n34 (Option.some.inj e).symm), rfl, rfl, fun w12 m12 g12 => ?_⟩
    replace m11 : Hl w11 b3 (shC s' (.slice Ta _ Tc) (.slice Ma _ Mc) (.slice Da _ Dc) (.slice Oa _ Oc) (.slice Ia _ Ic)) 31 := m11
    obtain ⟨r1, r2⟩ := apply_end (w0 := w) (by have := G4.size; omega) G4 (by omega) (by omega) hw.sa (G4.trans hw.gb) m11 g11 (by omega) k4 g12
    exact ⟨_, _, g12.get m11 (fun e => n34 (Option.some.inj e)), shC s' (.slice Ta _ Tc) (.slice Ma _ Mc) (.slice Da _ Dc) (.slice Oa _ Oc) (.slice Ia _ Ic), rfl, rfl, _, _, m12, zRp.cells, rfl, rfl, _, _, _, _, _, rfl, r1, r2⟩
  by_cases k3 : kd = 3
  · subst k3
    rw [if_neg (by decide), if_neg (by decide), if_pos rfl]
    refine ⟨_, _, a2, _, rfl, _, _, a2, .int .u8 peer, rfl, _, _, a2, .int .u32 seq, rfl, _, settle_ok h hk (fun o ho => Nat.le_trans (hz.q o ho).1 (by decide)) hp, ?_⟩
    rintro _ w10 ⟨rfl, h⟩
    generalize setS s peer seq = s' at *
    have a7 := h.g (x := b7) (by rw [Lam.ne n74, Lam.ne n73, Lam.ne n72, Lam.eq])
    have a3 := h.g (x := b3) (by rw [Lam.ne n34, Lam.eq])
    have a4 := h.g (x := b4) (Lam.eq _ b4 _)
    obtain ⟨T, M, D, O, I, ls', hw⟩ := h
    obtain ⟨Ta, Tc, rfl⟩ := own_slice hw.sa.t.own
    obtain ⟨Ma, Mc, rfl⟩ := own_slice hw.sa.m.own
    obtain ⟨Da, Dc, rfl⟩ := own_slice hw.sa.d.own
    obtain ⟨Oa, Oc, rfl⟩ := own_slice hw.sa.o.own
    obtain ⟨Ia, Ic, rfl⟩ := own_slice hw.sa.i.own
    refine ⟨by kernel_rfl, _, _, hw.mem, shC s' (.slice Ta _ Tc) (.slice Ma _ Mc) (.slice Da _ Dc) (.slice Oa _ Oc) (.slice Ia _ Ic), rfl, rfl, _, _, a7, zRp.cells, rfl, rfl, _, _, _, a3, rfl, rfl, fun w11 m11 g11 => ?_⟩
    refine ⟨⟨g11.get a7 (fun e => n73 (Option.some.inj e)), g11.get hw.mem (fun e => by injection e with e; have := hw.nb; omega), trivial⟩, _, _, _, g11.get a4 (fun e => n34 (Option.some.inj e).symm), rfl, rfl, fun w12 m12 g12 => ?_⟩
    replace m11 : Hl w11 b3 (shC s' (.slice Ta _ Tc) (.slice Ma _ Mc) (.slice Da _ Dc) (.slice Oa _ Oc) (.slice Ia _ Ic)) 31 := m11
    obtain ⟨r1, r2⟩ := apply_end (w0 := w) (by have := G4.size; omega) G4 (by omega) (by omega) hw.sa (G4.trans hw.gb) m11 g11 (by omega) k4 g12
    exact ⟨_, _, g12.get m11 (fun e => n34 (Option.some.inj e)), shC s' (.slice Ta _ Tc) (.slice Ma _ Mc) (.slice Da _ Dc) (.slice Oa _ Oc) (.slice Ia _ Ic), rfl, rfl, _, _, m12, zRp.cells, rfl, rfl, _, _, _, _, _, rfl, r1, r2⟩
  · rw [if_neg k1, if_neg k2, if_neg k3]
    refine ⟨_, _, a2, .int .u8 kd, rfl, ?_⟩
    refine spl (fun e => absurd (by simpa using e) k1) (fun _ => ?_)
    refine spl (fun e => absurd (by simpa using e) k2) (fun _ => ?_)
    refine spl (fun e => absurd (by simpa using e) k3) (fun _ => ?_)
    have a7 := h.g (x := b7) (by rw [Lam.ne n74, Lam.ne n73, Lam.ne n72, Lam.eq])
    have a3 := h.g (x := b3) (by rw [Lam.ne n34, Lam.eq])
    have a4 := h.g (x := b4) (Lam.eq _ b4 _)
    obtain ⟨T, M, D, O, I, ls', hw⟩ := h
    obtain ⟨Ta, Tc, rfl⟩ := own_slice hw.sa.t.own
    obtain ⟨Ma, Mc, rfl⟩ := own_slice hw.sa.m.own
    obtain ⟨Da, Dc, rfl⟩ := own_slice hw.sa.d.own
    obtain ⟨Oa, Oc, rfl⟩ := own_slice hw.sa.o.own
    obtain ⟨Ia, Ic, rfl⟩ := own_slice hw.sa.i.own
    refine ⟨by kernel_rfl, _, _, hw.mem, shC s (.slice Ta _ Tc) (.slice Ma _ Mc) (.slice Da _ Dc) (.slice Oa _ Oc) (.slice Ia _ Ic), rfl, rfl, _, _, a7, zRp.cells, rfl, rfl, _, _, _, a3, rfl, rfl, fun w11 m11 g11 => ?_⟩
    refine ⟨⟨g11.get a7 (fun e => n73 (Option.some.inj e)), g11.get hw.mem (fun e => by injection e with e; have := hw.nb; omega), trivial⟩, _, _, _, g11.get a4 (fun e => n34 (Option.some.inj e).symm), rfl, rfl, fun w12 m12 g12 => ?_⟩
    replace m11 : Hl w11 b3 (shC s (.slice Ta _ Tc) (.slice Ma _ Mc) (.slice Da _ Dc) (.slice Oa _ Oc) (.slice Ia _ Ic)) 31 := m11
    obtain ⟨r1, r2⟩ := apply_end (w0 := w) (by have := G4.size; omega) G4 (by omega) (by omega) hw.sa (G4.trans hw.gb) m11 g11 (by omega) k4 g12
    exact ⟨_, _, g12.get m11 (fun e => n34 (Option.some.inj e)), shC s (.slice Ta _ Tc) (.slice Ma _ Mc) (.slice Da _ Dc) (.slice Oa _ Oc) (.slice Ia _ Ic), rfl, rfl, _, _, m12, zRp.cells, rfl, rfl, _, _, _, _, _, rfl, r1, r2⟩
end
end Go.Proofs.YtignemioillaiaaGreat
