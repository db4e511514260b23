/- A replica at work (2): the frame; standDown, raise, vote. -/
import Derived.Test.YtignemioillaiaaGreatG25
namespace Go.Proofs.YtignemioillaiaaGreat
set_option maxHeartbeats 8000000
set_option maxRecDepth 100000
section
open Go Go.Conc
/-- What is not to change. -/
structure Snp where
  pr : Nat → Option Obj
  os : Os
  out : Array (Nat × ByteArray)
def Snp.add (Λ : Snp) (b : Nat) (o : Obj) : Snp := { Λ with pr := fun x => if x = b then some o else Λ.pr x }
structure Wa (Λ : Snp) (br : Nat) (R : MR) (a : RAd) (w : World) : Prop where
  ri : RI w br R a
  pr : ∀ b o, Λ.pr b = some o → w.heap[b]? = some o ∧ ¬ Own br a b
  os : w.os = Λ.os
  out : w.output = Λ.out
def Wk (Λ : Snp) (br : Nat) (R : MR) (w : World) : Prop := ∃ a, Wa Λ br R a w
section
variable {Λ : Snp} {w w' : World} {br : Nat} {R R' : MR} {a : RAd}
theorem Wa.gb0 (h : Wa Λ br R a w) (g : GB none w w') : Wa Λ br R a w' := ⟨h.ri.gb0 g, fun b o hb => ⟨g.get (h.pr b o hb).1 nofun, (h.pr b o hb).2⟩, g.os.trans h.os, g.out.trans h.out⟩
theorem Wk.gb0 (h : Wk Λ br R w) (g : GB none w w') : Wk Λ br R w' := by obtain ⟨a, h⟩ := h; exact ⟨a, h.gb0 g⟩
theorem Wa.step (h : Wa Λ br R a w) {x : Nat} (ho : Own br a x) (g : GB (some x) w w') (hri : RI w' br R' a) : Wa Λ br R' a w' :=
  ⟨hri, fun b o hb => ⟨g.get (h.pr b o hb).1 fun e => (h.pr b o hb).2 (by cases e; exact ho), (h.pr b o hb).2⟩, g.os.trans h.os, g.out.trans h.out⟩
theorem Wa.cell (h : Wa Λ br R a w) {s' : Sc} (hm : Hl w' br (rcC { R with sc := s' } a) 152) (g : GB (some br) w w') : Wa Λ br { R with sc := s' } a w' := h.step h.ri.o_br g (h.ri.cell hm g)
theorem Wa.unp (h : Wa Λ br R a w) {b : Nat} (hb : w.heap.size ≤ b) : Λ.pr b = none := by
  cases hp : Λ.pr b with
  | none => rfl
  | some o => have := lt_heap (h.pr b o hp).1; omega
theorem Wa.add (h : Wa Λ br R a w) {b : Nat} {o : Obj} (hb : w.heap[b]? = some o) (hn : ¬ Own br a b) : Wa (Λ.add b o) br R a w := by
  refine ⟨h.ri, fun x q hx => ?_, h.os, h.out⟩
  unfold Snp.add at hx
  dsimp only at hx
  split at hx
  · rename_i e; subst e; cases hx; exact ⟨hb, hn⟩
  · exact h.pr x q hx
/-- A new block is laid aside. -/
theorem Wa.box (h : Wa Λ br R a w) {b : Nat} {o : Obj} (g : GB none w w') (hb : w'.heap[b]? = some o) (hl : w.heap.size ≤ b) : Wa (Λ.add b o) br R a w' := (h.gb0 g).add hb fun ho => by have := h.ri.lt ho; omega
theorem Wk.box (h : Wk Λ br R w) {b : Nat} {o : Obj} (g : GB none w w') (hb : w'.heap[b]? = some o) (hl : w.heap.size ≤ b) : Wk (Λ.add b o) br R w' ∧ Λ.pr b = none := by
  obtain ⟨a, h⟩ := h
  exact ⟨⟨a, h.box g hb hl⟩, h.unp hl⟩
theorem Wk.drop {b : Nat} {o : Obj} (h : Wk (Λ.add b o) br R w) (hb : Λ.pr b = none) : Wk Λ br R w := by
  obtain ⟨a, h⟩ := h
  refine ⟨a, h.ri, fun x q hx => h.pr x q ?_, h.os, h.out⟩
  unfold Snp.add
  dsimp only
  rw [if_neg (fun e => by subst e; rw [hb] at hx; cases hx)]
  exact hx
theorem Wk.at {b : Nat} {o : Obj} (h : Wk (Λ.add b o) br R w) : w.heap[b]? = some o := by
  obtain ⟨a, h⟩ := h
  exact (h.pr b o (by unfold Snp.add; simp)).1
end
/-- What a function of a replica that answers nothing does. -/
def DoesK (f : Nat) (args : List Value) (br : Nat) (R R' : MR) : Prop := ∀ Λ w, Wk Λ br R w → CY f (.pointer (some ⟨br, 0, none⟩) :: args).toArray w (fun v w' => v = .tuple #[] ∧ Wk Λ br R' w' ∧ Kz w w')
def mStand (R : MR) : MR := { R with sc := { R.sc with role := 0, prom := 0 }, met := fun _ => none, props := fun _ => none, acc := fun _ => none }
theorem stand_ok (br : Nat) (R : MR) : DoesK 111 [] br R (mStand R) := by
  rintro Λ w ⟨a, h⟩
  refine callE Tryz.func111 rfl rfl ?_
  refine ⟨_, _, _, h.ri.mem, rfl, rfl, fun w1 m1 g1 => ?_⟩
  have h1 := h.cell (s' := { R.sc with role := 0 }) m1 g1
  refine ⟨_, _, _, h1.ri.mem, rfl, rfl, fun w2 m2 g2 => ?_⟩
  have h2 := h1.cell (s' := { R.sc with role := 0, prom := 0 }) m2 g2
  have k2 := (h.ri.kz h.ri.o_br g1).trans (h1.ri.kz h1.ri.o_br g2)
  obtain ⟨f, e1, _⟩ := h2.ri.mt
  refine ⟨_, _, h2.ri.mem, _, rfl, f, e1, fun w3 m3 g3 => ?_⟩
  have h3 := h2.step h2.ri.o_mt g3 (h2.ri.mt' g3 (MapG.none m3))
  obtain ⟨f, e1, _⟩ := h3.ri.pp
  refine ⟨_, _, h3.ri.mem, _, rfl, f, e1, fun w4 m4 g4 => ?_⟩
  have h4 := h3.step h3.ri.o_pp g4 (h3.ri.pp' g4 (MapG.none m4))
  obtain ⟨f, e1, _⟩ := h4.ri.ac
  refine ⟨_, _, h4.ri.mem, _, rfl, f, e1, fun w5 m5 g5 => ?_⟩
  have h5 := h4.step h4.ri.o_ac g5 (h4.ri.ac' g5 (MapG.none m5))
  exact ⟨rfl, ⟨a, h5⟩, ((k2.trans (h2.ri.kz h2.ri.o_mt g3)).trans (h3.ri.kz h3.ri.o_pp g4)).trans (h4.ri.kz h4.ri.o_ac g5)⟩
/-- A crowd's number. -/
def pc (c : Nat) : Nat := (List.range 5).countP fun i => c.testBit i
def cwith (c r : Nat) : Nat := c ||| (1 <<< r)
theorem ones_ok (w : World) (c : Nat) (hc : c < 32) : CY 210 #[.int .u8 c] w (fun v w' => v = .int .i64 (pc c) ∧ w' = w) := by
  refine callE Tryz.func210 rfl rfl ?_
  refine ⟨⟨by omega, Int.lt_of_lt_of_le (b := 256) (by omega) (by decide)⟩, ?_⟩
  obtain rfl | rfl | rfl | rfl | rfl | rfl | rfl | rfl | rfl | rfl | rfl | rfl | rfl | rfl | rfl | rfl | rfl | rfl | rfl | rfl | rfl | rfl | rfl | rfl | rfl | rfl | rfl | rfl | rfl | rfl | rfl | rfl : c = 0 ∨ c = 1 ∨ c = 2 ∨ c = 3 ∨ c = 4 ∨ c = 5 ∨ c = 6 ∨ c = 7 ∨ c = 8 ∨ c = 9 ∨ c = 10 ∨ c = 11 ∨ c = 12 ∨ c = 13 ∨ c = 14 ∨ c = 15 ∨ c = 16 ∨ c = 17 ∨ c = 18 ∨ c = 19 ∨ c = 20 ∨ c = 21 ∨ c = 22 ∨ c = 23 ∨ c = 24 ∨ c = 25 ∨ c = 26 ∨ c = 27 ∨ c = 28 ∨ c = 29 ∨ c = 30 ∨ c = 31 := by omega
  all_goals exact .inr ⟨rfl, rfl⟩
theorem most_ok (w : World) (c n : Nat) (hc : c < 32) : CY 187 #[.int .u8 c, .int .i64 n] w (fun v w' => v = .bool (decide (2 * pc c > n)) ∧ w' = w) := by
  refine callE Tryz.func187 rfl rfl ?_
  refine ⟨_, ones_ok w c hc, ?_⟩
  rintro _ _ ⟨rfl, rfl⟩
  have : pc c ≤ 5 := by unfold pc; exact Nat.le_trans (List.countP_le_length ..) (by decide)
  exact ⟨by omega, vb (decide_eq_decide.2 ⟨fun h => by omega, fun h => by omega⟩), rfl⟩
theorem with_ok (w : World) (c r : Nat) (hc : c < 32) (hr : r < 5) : CY 186 #[.int .u8 c, .int .u8 r] w (fun v w' => v = .int .u8 (cwith c r) ∧ w' = w) := by
  refine callE Tryz.func186 rfl rfl ?_
  refine ⟨by omega, ?_, rfl⟩
  have key : ((List.range 32).all fun c => (List.range 5).all fun r => decide (IntKind.u8.wrap (BitVec.ofInt IntKind.u8.bits (c : Nat) ||| BitVec.ofInt IntKind.u8.bits (IntKind.u8.wrap (1 * 2 ^ min (r : Int).toNat IntKind.u8.bits))).toNat = (cwith c r : Nat))) = true := by kernel_rfl
  have h1 := List.all_eq_true.1 (List.all_eq_true.1 key c (List.mem_range.2 hc)) r (List.mem_range.2 hr)
  rw [of_decide_eq_true h1]
theorem cwith_lt {c r : Nat} (hc : c < 32) (hr : r < 5) : cwith c r < 32 := by
  have key : ((List.range 32).all fun c => (List.range 5).all fun r => decide (cwith c r < 32)) = true := by decide
  exact of_decide_eq_true (List.all_eq_true.1 (List.all_eq_true.1 key c (List.mem_range.2 hc)) r (List.mem_range.2 hr))
def mVote (R : MR) (s : Nat) (c : MC) : MR := { R with votes := upd R.votes s (some ⟨s, R.sc.b, c⟩) }
theorem vote_ok {Λ : Snp} {w : World} {br : Nat} {R : MR} (h : Wk Λ br R w) {s : Nat} {c : MC} {cv : Value} (hc : CIn w cv c) : CY 168 #[.pointer (some ⟨br, 0, none⟩), .int .u32 s, cv] w (fun v w' => v = .tuple #[] ∧ Wk Λ br (mVote R s c) w' ∧ Kz w w') := by
  obtain ⟨a, h⟩ := h
  obtain ⟨rv, dv, rfl, hr⟩ := hc
  refine callE Tryz.func168 rfl rfl ?_
  intro w1 b1 m1 g1 l1
  have h1 := h.gb0 g1
  refine ⟨by kernel_rfl, _, _, h1.ri.mem, _, rfl, _, _, h1.ri.mem, _, rfl, rfl, _, _, m1, _, rfl, rfl, ?_⟩
  obtain ⟨f, e1, e2, e3⟩ := h1.ri.vm
  refine ⟨f, e1, fun w2 m2 g2 => ?_⟩
  have k := h1.ri.kz h1.ri.o_vm g2
  exact ⟨rfl, ⟨a, h1.step h1.ri.o_vm g2 (h1.ri.vm' g2 (MapG.put (fun _ _ h => h.kz k) e2 e3 ⟨rv, dv, rfl, (hr.kz g1.kz).kz k⟩ m2))⟩, g1.kz.trans k⟩
def mRaise (R : MR) : MR := if R.sc.sz = 1 ∨ R.sc.seen = 4294967295 then R else { R with sc := { R.sc with seen := R.sc.seen + 1, b := ⟨R.sc.seen + 1, R.sc.i⟩ } }
theorem raise_ok {Λ : Snp} {w : World} {br : Nat} {R : MR} (h : Wk Λ br R w) (hs : R.sc.seen ≤ 4294967295) : CY 156 #[.pointer (some ⟨br, 0, none⟩)] w (fun v w' => v = .bool (decide (R.sc.sz = 1 ∨ R.sc.seen ≠ 4294967295)) ∧ Wk Λ br (mRaise R) w' ∧ Kz w w') := by
  obtain ⟨a, h⟩ := h
  refine callE Tryz.func156 rfl rfl ?_
  refine ⟨_, _, h.ri.mem, _, rfl, spl (fun c => ?_) (fun c => ?_)⟩
  · have c1 : R.sc.sz = 1 := by simp at c; omega
    exact ⟨by simp [c1], ⟨a, by unfold mRaise; rw [if_pos (.inl c1)]; exact h⟩, Kz.refl _⟩
  have c1 : ¬ R.sc.sz = 1 := by simp at c; omega
  refine ⟨_, _, h.ri.mem, _, rfl, spl (fun d => ?_) (fun d => ?_)⟩
  · have d1 : R.sc.seen = 4294967295 := by simp at d; omega
    exact ⟨by simp [c1, d1], ⟨a, by unfold mRaise; rw [if_pos (.inr d1)]; exact h⟩, Kz.refl _⟩
  have d1 : ¬ R.sc.seen = 4294967295 := by simp at d; omega
  refine ⟨_, _, h.ri.mem, _, rfl, by omega, _, _, _, h.ri.mem, rfl, rfl, fun w1 m1 g1 => ?_⟩
  have h1 := h.cell (s' := { R.sc with seen := R.sc.seen + 1 }) m1 g1
  refine ⟨by kernel_rfl, _, _, h1.ri.mem, _, rfl, _, _, h1.ri.mem, _, rfl, _, _, _, h1.ri.mem, rfl, rfl, fun w2 m2 g2 => ?_⟩
  have h2 := h1.cell (s' := { R.sc with seen := R.sc.seen + 1, b := ⟨R.sc.seen + 1, R.sc.i⟩ }) m2 g2
  exact ⟨by simp [d1], ⟨a, by unfold mRaise; rw [if_neg (by simp [c1, d1])]; exact h2⟩, (h.ri.kz h.ri.o_br g1).trans (h1.ri.kz h1.ri.o_br g2)⟩
theorem GB.ownB {v : Value} {w0 w w' : World} (h : GB none w0 w) (k : GB v.ownBlock w w') (hv : ∀ g, v.ownBlock = some g → w0.heap.size ≤ g) : GB none w0 w' :=
  ⟨k.os.trans h.os, k.out.trans h.out, Nat.le_trans h.size k.size, fun x hx _ => (k.block x (Nat.lt_of_lt_of_le hx h.size) (fun e => by have := hv x e.symm; omega)).trans (h.block x hx nofun)⟩
theorem own_fz {w : World} {e size n : Nat} {v : Value} {xs : List Value} (h : w.ownsRow 0 e size v n xs) : Fz w e size v n xs := by
  rcases h.2 with ⟨rfl, h1⟩ | ⟨g, cap, cur, rfl, _, hb, h3, h4, h5, h6⟩
  · subst h1
    have := h.1
    exact ⟨none, 0, rfl, Nat.le_refl _, this, .inl ⟨rfl, rfl⟩⟩
  · exact ⟨_, cap, rfl, h3, h.1, .inr ⟨g, 0, cur, rfl, hb, by unfold cutL; rw [List.drop_zero]; exact h6⟩⟩
theorem own_slice {w : World} {e : TypeId} {size n : Nat} {v : Value} {xs : List Value} (h : w.ownsRow 0 e size v n xs) : ∃ a c, v = .slice a n c := by
  rcases h.2 with ⟨rfl, rfl⟩ | ⟨g, cap, cur, rfl, _⟩
  · exact ⟨_, _, rfl⟩
  · exact ⟨_, _, rfl⟩
theorem own0 (w : World) (e : TypeId) (size : Nat) : w.ownsRow 0 e size (.slice none 0 0) 0 [] := ⟨by simp, .inl ⟨rfl, rfl⟩⟩
def adC (l : List (Nat × Nat)) : List Value := l.flatMap fun p => [.int .u8 p.1, .int .u8 p.2]
def oth (g i grp k : Nat) : List (Nat × Nat) := ((List.range k).filter fun j => !(grp == g && j == i)).map fun j => (grp, j)
theorem oth_succ (g i grp k : Nat) : oth g i grp (k + 1) = oth g i grp k ++ if grp = g ∧ k = i then [] else [(grp, k)] := by
  unfold oth
  rw [List.range_succ, List.filter_append, List.map_append]
  congr 1
  by_cases h : grp = g ∧ k = i
  · simp [h]
  · rw [if_neg h, List.filter_cons_of_pos (by by_cases h1 : grp = g <;> by_cases h2 : k = i <;> simp_all)]; rfl
theorem oth_len (g i grp k : Nat) : (oth g i grp k).length ≤ k := by
  unfold oth
  rw [List.length_map]
  exact Nat.le_trans (List.length_filter_le _ _) (by simp)
theorem others_ok {Λ : Snp} {w : World} {br : Nat} {R : MR} (h : Wk Λ br R w) (grp : Nat) (hz : R.sc.sz ≤ 5) : CY 159 #[.pointer (some ⟨br, 0, none⟩), .int .u8 grp] w (fun v w' => Fz w' 66 2 v (oth R.sc.g R.sc.i grp R.sc.sz).length (adC (oth R.sc.g R.sc.i grp R.sc.sz)) ∧ GB none w w') := by
  obtain ⟨a, h⟩ := h
  refine callE Tryz.func159 rfl rfl ?_
  refine ⟨_, _, h.ri.mem, _, rfl, fun m s w1 => ∃ (k : Nat) (lv : Value), m = R.sc.sz - k ∧ k ≤ R.sc.sz ∧ s = [(0, .pointer (some ⟨br, 0, none⟩)), (1, .int .u8 grp), (5, lv), (11, .int .i64 R.sc.sz), (12, .int .i64 k)] ∧ w1.ownsRow 0 66 2 lv (oth R.sc.g R.sc.i grp k).length (adC (oth R.sc.g R.sc.i grp k)) ∧ GB none w w1 ∧ ∀ g, lv.ownBlock = some g → w.heap.size ≤ g, ⟨_, _, ⟨0, .slice none 0 0, rfl, Nat.zero_le _, rfl, own0 _ _ _, GB.refl _ _, nofun⟩, sb rfl⟩, ?_⟩
  rintro m s w1 ⟨k, lv, rfl, hk, rfl, ho, g1, hn⟩
  refine spl (fun c => ?_) (fun c => ?_)
  · have c1 : k < R.sc.sz := by simp at c; omega
    refine .inl ⟨by omega, fun w2 b2 m2 g2 l2 => ⟨_, _, _, m2, rfl, rfl, fun w3 m3 g3 => ?_⟩⟩
    have g13 : GB none w1 w3 := ⟨g3.os.trans g2.os, g3.out.trans g2.out, Nat.le_trans g2.size g3.size, fun x hx _ => (g3.block x (Nat.lt_of_lt_of_le hx g2.size) (fun e => by cases e; omega)).trans (g2.block x hx nofun)⟩
    have h3 := h.gb0 (g1.trans g13)
    refine ⟨by kernel_rfl, _, _, m3, _, rfl, rfl, _, _, h3.ri.mem, _, rfl, rfl, spl (fun d => ?_) (fun d => ?_)⟩
    · have d1 : ¬ (grp = R.sc.g ∧ k = R.sc.i) := by rintro ⟨e1, e2⟩; simp [e1, e2] at d
      obtain ⟨oa, oc, rfl⟩ := own_slice ho
      refine ⟨_, _, m3, _, rfl, rfl, fun w4 b4 m4 g4 l4 => ?_⟩
      have ho4 := owns_rely ho (w1 := w4) fun g hg => by obtain ⟨cur, hc⟩ := own_obj ho hg; exact (g13.trans g4).block g (lt_heap hc) nofun
      have hol := oth_len R.sc.g R.sc.i grp k
      refine ⟨_, [.int .u8 grp, .int .u8 k], ho4, ⟨_, _, m4, rfl, rfl, rfl⟩, by omega, fun v' w5 ho5 g5 n5 => ?_⟩
      refine ⟨by omega, _, _, ⟨k + 1, v', rfl, by omega, rfl, ?_, GB.ownB ((g1.trans g13).trans g4) g5 hn, fun g hg => (n5 g hg).elim (hn g) (fun hl => ?_)⟩, (sb rfl), by omega⟩
      · rw [oth_succ, if_neg d1, List.length_append]
        have e : adC (oth R.sc.g R.sc.i grp k ++ [(grp, k)]) = adC (oth R.sc.g R.sc.i grp k) ++ [.int .u8 grp, .int .u8 k] := by unfold adC; rw [List.flatMap_append]; rfl
        rw [e]; exact ho5
      · have := ((g1.trans g13).trans g4).size; omega
    · have d1 : grp = R.sc.g ∧ k = R.sc.i := by simp at d; omega
      refine ⟨by omega, _, _, ⟨k + 1, lv, rfl, by omega, rfl, ?_, g1.trans g13, hn⟩, (sb rfl), by omega⟩
      rw [oth_succ, if_pos d1, List.append_nil]
      exact owns_rely ho fun g hg => by obtain ⟨cur, hc⟩ := own_obj ho hg; exact g13.block g (lt_heap hc) nofun
  · have c1 : k = R.sc.sz := by simp at c; omega
    subst c1
    exact ⟨own_fz ho, g1⟩
theorem peers_ok {Λ : Snp} {w : World} {br : Nat} {R : MR} (h : Wk Λ br R w) (hz : R.sc.sz ≤ 5) : CY 109 #[.pointer (some ⟨br, 0, none⟩)] w (fun v w' => Fz w' 66 2 v (oth R.sc.g R.sc.i R.sc.g R.sc.sz).length (adC (oth R.sc.g R.sc.i R.sc.g R.sc.sz)) ∧ GB none w w') := by
  have h0 := h
  obtain ⟨a, h⟩ := h
  refine callE Tryz.func109 rfl rfl ?_
  exact ⟨_, _, h.ri.mem, _, rfl, _, others_ok h0 R.sc.g hz, fun v w' hv => hv⟩
theorem cut_cut (cs : List Value) (off n k size : Nat) (h : k + size ≤ n) : cutL (cutL cs off n) k size = cutL cs (off + k) size := by
  unfold cutL
  rw [List.drop_take, List.drop_drop, List.take_take, Nat.min_eq_left (by omega)]
theorem elemL {α : Type} {f : α → List Value} {size : Nat} (hf : ∀ x, (f x).length = size) : ∀ (l : List α) (k : Nat) (x : α), l[k]? = some x → cutL (l.flatMap f) (k * size) size = f x
  | [], _, _, h => by simp at h
  | y :: l, 0, x, h => by
    simp only [List.getElem?_cons_zero, Option.some.injEq] at h
    subst h
    unfold cutL
    rw [Nat.zero_mul, List.drop_zero, List.flatMap_cons, List.take_append_of_le_length (by rw [hf]; omega), List.take_of_length_le (by rw [hf]; omega)]
  | y :: l, k + 1, x, h => by
    have ih := elemL hf l k x (by simpa using h)
    unfold cutL at ih ⊢
    rw [List.flatMap_cons, List.drop_append, List.drop_of_length_le (by rw [hf, Nat.succ_mul]; omega), List.nil_append, hf, Nat.succ_mul, Nat.add_sub_cancel]
    exact ih
/-- One of a list that is only read. -/
theorem Fz.elem {size n : Nat} {xs : List Value} {off : Nat} {cs : Array Value} (hc : cutL cs.toList off (n * size) = xs) {k : Nat} (hk : k < n) : cutL cs.toList (off + k * size) size = cutL xs (k * size) size := by
  rw [← hc, cut_cut _ _ _ _ _ (by have := Nat.mul_le_mul_right size hk; rw [Nat.succ_mul] at this; omega)]
theorem adC_at {tl : List (Nat × Nat)} {k : Nat} {p : Nat × Nat} (h : tl[k]? = some p) : cutL (adC tl) (k * 2) 2 = [.int .u8 p.1, .int .u8 p.2] := elemL (f := fun p : Nat × Nat => [Value.int .u8 p.1, Value.int .u8 p.2]) (fun _ => rfl) tl k p h
section
variable {Λ : Snp} {w w1 w2 : World} {br : Nat} {R : MR} {a : RAd}
/-- The packets laid anew. -/
theorem Wa.ob' (h : Wa Λ br R a w) {ob : Value} {ps : List Pkt} (g1 : GB a.ob.ownBlock w w1) (ho : w1.ownsRow 0 139 5 ob ps.length (flat ps)) (hn : ∀ g, ob.ownBlock = some g → a.ob.ownBlock = some g ∨ w.heap.size ≤ g) (m2 : Hl w2 br (rcC { R with out := ps } { a with ob := ob }) 152) (g2 : GB (some br) w1 w2) : Wa Λ br { R with out := ps } { a with ob := ob } w2 ∧ Kz w w2 := by
  have hobr : ∀ g, ob.ownBlock = some g → g ≠ br := fun g hg e => by
    subst e
    rcases hn g hg with h1 | h1
    · exact h.ri.ob_br h1 rfl
    · have := lt_heap h.ri.mem; omega
  have mbr : w1.heap[br]? = w.heap[br]? := g1.block br (lt_heap h.ri.mem) fun e => h.ri.ob_br e.symm rfl
  have kp : ∀ x, x < w.heap.size → some x ≠ a.ob.ownBlock → x ≠ br → w2.heap[x]? = w.heap[x]? := fun x hx h1 h2 => (g2.block x (Nat.lt_of_lt_of_le hx g1.size) fun e => h2 (Option.some.inj e)).trans (g1.block x hx h1)
  have k : Kz w w2 := fun t ht b c hb => by
    refine (kp b (lt_heap hb) (fun e => ?_) (fun e => ?_)).trans hb
    · exact h.ri.mut (h.ri.o_ob e.symm) t ht c hb
    · subst e; exact h.ri.mut h.ri.o_br t ht c hb
  have mp : ∀ m : Nat, (∃ es c, w.heap[m]? = some (Obj.map es c)) → w2.heap[m]? = w.heap[m]? := fun m hm => kp m (by obtain ⟨_, _, h⟩ := hm; exact lt_heap h) (fun e => ne_mc hm (h.ri.cob e.symm) rfl) (ne_mc hm h.ri.cbr)
  refine ⟨⟨⟨m2, h.ri.vm.keep (fun _ _ h => h.kz k) (mp _ h.ri.vm.obj), h.ri.wm.keep (fun _ _ h => h.kz k) (mp _ h.ri.wm.obj), h.ri.kn.keep (fun _ _ h => h.kz k) (mp _ h.ri.kn.obj), h.ri.mt.keep (fun _ _ h => h.kz k) (mp _ h.ri.mt.obj), h.ri.pp.keep (fun _ _ h => h.kz k) (mp _ h.ri.pp.obj), h.ri.ac.keep (w' := w2) (fun v x (h : NIn w v x) => (show NIn w2 v x from h)) (mp _ h.ri.ac.obj), h.ri.lg.kz k (fun g hg => ?_), h.ri.st.kz k, owns_rely ho (fun g hg => ?_), h.ri.sep⟩, fun b o hb => ?_, g2.os.trans (g1.os.trans h.os), g2.out.trans (g1.out.trans h.out)⟩, k⟩
  · exact kp g (h.ri.lt (h.ri.o_lg hg)) (fun e => h.ri.lg_ob hg e.symm rfl) (h.ri.lg_br hg)
  · obtain ⟨cur, hc⟩ := own_obj ho hg
    exact g2.block g (lt_heap hc) fun e => hobr g hg (Option.some.inj e)
  · obtain ⟨p1, p2⟩ := h.pr b o hb
    have hl := lt_heap p1
    refine ⟨(kp b hl (fun e => p2 (h.ri.o_ob e.symm)) (fun e => p2 (by rw [e]; exact h.ri.o_br))).trans p1, fun ho => ?_⟩
    rcases ho with e | e | e | e | e | e | e | e | e
    · exact p2 (.inl e)
    · exact p2 (.inr (.inl e))
    · exact p2 (.inr (.inr (.inl e)))
    · exact p2 (.inr (.inr (.inr (.inl e))))
    · exact p2 (.inr (.inr (.inr (.inr (.inl e)))))
    · exact p2 (.inr (.inr (.inr (.inr (.inr (.inl e))))))
    · exact p2 (.inr (.inr (.inr (.inr (.inr (.inr (.inl e)))))))
    · exact p2 (h.ri.o_lg e)
    · rcases hn b e with h1 | h1
      · exact p2 (h.ri.o_ob h1)
      · omega
end
def toP (R : MR) (d : ByteArray) (p : Nat × Nat) : Pkt := ⟨R.sc.g, R.sc.i, p.1, p.2, d⟩
def mSend (R : MR) (d : ByteArray) (tl : List (Nat × Nat)) : MR := { R with out := R.out ++ tl.map (toP R d) }
theorem send_ok {Λ : Snp} {w : World} {br : Nat} {R : MR} (h : Wk Λ br R w) {m : List Value} (hm : m.length = 45) {d : ByteArray} (hM : ∀ w1, Kz w w1 → CY 158 #[.agg m.toArray] w1 (fun v w' => (∃ e, v = .tuple #[.string d, .int .i64 e]) ∧ GB none w1 w')) {tv : Value} {tl : List (Nat × Nat)} (ht : Fz w 66 2 tv tl.length (adC tl)) (hb : R.out.length + tl.length ≤ 1000000) : CY 108 #[.pointer (some ⟨br, 0, none⟩), .agg m.toArray, tv] w (fun v w' => v = .tuple #[] ∧ Wk Λ br (mSend R d tl) w' ∧ Kz w w') := by
  refine callE Tryz.func108 rfl rfl ?_
  intro w1 b1 m1 g1 l1
  have hsz : szT eng.T 203 = 45 := by kernel_rfl
  refine ⟨_, _, m1, m, ?_, ?_, _, hM w1 g1.kz, ?_⟩
  · show cutL m 0 (szT eng.T 203) = m
    rw [hsz]; unfold cutL; rw [List.drop_zero]; exact List.take_of_length_le (by omega)
  · rw [hm]; exact hsz.symm
  rintro _ w2 ⟨⟨e, rfl⟩, g2⟩
  have g12 := g1.trans g2
  have ht2 := ht.kz g12.kz (by decide)
  obtain ⟨ta, tc, rfl, htc, htl, htd⟩ := ht2
  refine ⟨fun q s w3 => ∃ (k : Nat), q = tl.length - k ∧ k ≤ tl.length ∧ s = [(0, .pointer (some ⟨br, 0, none⟩)), (6, .string d), (15, .slice ta tl.length tc), (16, .int .i64 tl.length), (17, .int .i64 k)] ∧ Wk Λ br (mSend R d (tl.take k)) w3 ∧ Kz w2 w3, ⟨_, _, ⟨0, rfl, Nat.zero_le _, rfl, by have := h.gb0 g12; simpa [mSend] using this, Kz.refl _⟩, sb rfl⟩, ?_⟩
  rintro q s w3 ⟨k, rfl, hk, rfl, ⟨a, h3⟩, k3⟩
  refine spl (fun c => ?_) (fun c => ?_)
  · have c1 : k < tl.length := by simp at c; omega
    rcases htd with ⟨_, h0⟩ | ⟨B, off, cs, rfl, hB, hcut⟩
    · omega
    obtain ⟨p, hp⟩ : ∃ p, tl[k]? = some p := ⟨tl[k], by simp [c1]⟩
    have hB3 := k3 _ (by decide) _ _ hB
    refine ⟨⟨by omega, by omega⟩, _, _, hB3, [.int .u8 p.1, .int .u8 p.2], (Fz.elem hcut c1).trans (adC_at hp), rfl, fun w4 b4 m4 g4 l4 => ⟨_, _, _, m4, rfl, rfl, fun w5 m5 g5 => ?_⟩⟩
    have g35 : GB none w3 w5 := ⟨g5.os.trans g4.os, g5.out.trans g4.out, Nat.le_trans g4.size g5.size, fun x hx _ => (g5.block x (Nat.lt_of_lt_of_le hx g4.size) (fun e => by cases e; omega)).trans (g4.block x hx nofun)⟩
    have h5 := h3.gb0 g35
    obtain ⟨vm, wm, kn, mt, pp, ac, lg, ob, sT, sM, sD, sO, sI⟩ := a
    obtain ⟨oa, oc, rfl⟩ : ∃ oa oc, ob = .slice oa (mSend R d (tl.take k)).out.length oc := own_slice h5.ri.ob
    have hl : (mSend R d (tl.take k)).out.length ≤ R.out.length + k := by simp only [mSend, List.length_append, List.length_map, List.length_take]; omega
    refine ⟨by kernel_rfl, _, _, h5.ri.mem, _, rfl, _, _, h5.ri.mem, _, rfl, rfl, _, _, m5, _, rfl, rfl, fun w6 b6 m6 g6 l6 => ?_⟩
    have h6 := h5.gb0 g6
    refine ⟨⟨g6.get m5 nofun, h6.ri.mem, h6.ri.mem, trivial⟩, _, (toP R d p).cells, h6.ri.ob, ⟨_, _, m6, rfl, rfl, rfl⟩, by omega, fun ob' w7 ho7 g7 n7 => ?_⟩
    have m7 : Hl w7 br (rcC (mSend R d (tl.take k)) _) 152 := (g7.block br (lt_heap h6.ri.mem) fun e => h6.ri.ob_br e.symm rfl).trans h6.ri.mem
    obtain ⟨oa', oc', rfl⟩ := own_slice ho7
    refine ⟨_, _, _, m7, rfl, rfl, fun w8 m8 g8 => ?_⟩
    have hps : (mSend R d (tl.take (k + 1))).out = (mSend R d (tl.take k)).out ++ [toP R d p] := by
      unfold mSend
      rw [List.take_add_one, hp]; simp
    have ho7' : w7.ownsRow 0 139 5 (.slice oa' ((mSend R d (tl.take k)).out.length + 1) oc') (mSend R d (tl.take (k + 1))).out.length (flat (mSend R d (tl.take (k + 1))).out) := by
      rw [hps, List.length_append, show flat ((mSend R d (tl.take k)).out ++ [toP R d p]) = flat (mSend R d (tl.take k)).out ++ (toP R d p).cells by simp [flat]]
      exact ho7
    have fin := h6.ob' (ps := (mSend R d (tl.take (k + 1))).out) g7 ho7' n7 m8 g8
    refine ⟨by omega, _, _, ⟨k + 1, rfl, by omega, rfl, ⟨_, fin.1⟩, k3.trans (((g35.trans g6).kz).trans fin.2)⟩, (sb rfl), by omega⟩
  · have c1 : k = tl.length := by simp at c; omega
    subst c1
    rw [List.take_length] at h3
    exact ⟨rfl, ⟨a, h3⟩, g12.kz.trans k3⟩
/-- A message, without addresses. -/
structure MM where
  kind : Int
  q : Req
  p : Rep
  b : Bal
  s : Nat
  c : MC
  vs : List MV
  r : Rg
  (peer seq : Int)
def zRq : Req := ⟨0, 0, 0, 0, 0, 0, 0⟩
def zRp : Rep := ⟨0, 0, 0, 0, false, 0, 0⟩
def zRg : Rg := ⟨0, 0, 0, 0, 0, [], []⟩
def zMC : MC := ⟨0, zRq, zRg, 0, 0⟩
def zMM (k : Int) : MM := ⟨k, zRq, zRp, ⟨0, 0⟩, 0, zMC, [], zRg, 0, 0⟩
def mmC (m : MM) (rv dv vv rv' dv' : Value) : List Value := (.int .u8 m.kind :: m.q.cells) ++ m.p.cells ++ [.int .u32 m.b.n, .int .u8 m.b.id, .int .u32 m.s] ++ mcC m.c rv dv ++ [vv] ++ rgC m.r rv' dv' ++ [.int .u8 m.peer, .int .u32 m.seq]
def VsIn (w : World) (v : Value) (l : List MV) : Prop := ∃ ps : List (Value × Value), ps.length = l.length ∧ Fz w 196 20 v l.length (List.zipWith (fun x p => mvC x p.1 p.2) l ps).flatten ∧ ∀ (i : Nat) (x : MV) (p : Value × Value), l[i]? = some x → ps[i]? = some p → RgIn w x.c.r p.1 p.2
theorem VsIn.kz {w w' : World} {v : Value} {l : List MV} (h : VsIn w v l) (k : Kz w w') : VsIn w' v l := by
  obtain ⟨vs, h1, h2, h3⟩ := h
  exact ⟨vs, h1, h2.kz k (by decide), fun i r p hr hp => (h3 i r p hr hp).kz k⟩
def MIn (w : World) (v : Value) (m : MM) : Prop := ∃ rv dv vv rv' dv', v = .agg (mmC m rv dv vv rv' dv').toArray ∧ RgIn w m.c.r rv dv ∧ VsIn w vv m.vs ∧ RgIn w m.r rv' dv'
theorem MIn.kz {w w' : World} {v : Value} {m : MM} (h : MIn w v m) (k : Kz w w') : MIn w' v m := by
  obtain ⟨rv, dv, vv, rv', dv', h1, h2, h3, h4⟩ := h
  exact ⟨rv, dv, vv, rv', dv', h1, h2.kz k, h3.kz k, h4.kz k⟩
theorem RgIn.zero (w : World) : RgIn w zRg (.slice none 0 0) (.slice none 0 0) := ⟨Fz.nil _ _ _, Fz.nil _ _ _⟩
theorem VsIn.zero (w : World) : VsIn w (.slice none 0 0) [] := ⟨[], rfl, Fz.nil _ _ _, fun i x p h => by simp at h⟩
def MarshOK (enc : MM → ByteArray) : Prop := ∀ w v m, MIn w v m → CY 158 #[v] w (fun v w' => (∃ e, v = .tuple #[.string (enc m), .int .i64 e]) ∧ GB none w w')
def Snd (enc : MM → ByteArray) (R : MR) (m : MM) (tl : List (Nat × Nat)) : MR := mSend R (enc m) tl
section
variable {enc : MM → ByteArray} (HM : MarshOK enc) {Λ : Snp} {w : World} {br : Nat} {R : MR}
include HM
theorem snd_ok (h : Wk Λ br R w) {v : Value} {m : MM} (hv : MIn w v m) {tv : Value} {tl : List (Nat × Nat)} (ht : Fz w 66 2 tv tl.length (adC tl)) (hb : R.out.length + tl.length ≤ 1000000) : CY 108 #[.pointer (some ⟨br, 0, none⟩), v, tv] w (fun v w' => v = .tuple #[] ∧ Wk Λ br (Snd enc R m tl) w' ∧ Kz w w') := by
  have hv0 := hv
  obtain ⟨rv, dv, vv, rv', dv', rfl, _⟩ := hv
  exact send_ok h rfl (fun w1 k1 => HM w1 _ m (hv0.kz k1)) ht hb
def mTell (enc : MM → ByteArray) (R : MR) (p : Rep) : MR := Snd enc R { zMM 2 with p := p } [(255, p.c.toNat)]
theorem tell_ok (h : Wk Λ br R w) {p : Rep} (hp : 0 ≤ p.c) (hb : R.out.length ≤ 900000) : CY 163 #[.pointer (some ⟨br, 0, none⟩), .agg p.cells.toArray] w (fun v w' => v = .tuple #[] ∧ Wk Λ br (mTell enc R p) w' ∧ Kz w w') := by
  refine callE Tryz.func163 rfl rfl ?_
  intro w1 b1 m1 g1 l1
  refine ⟨_, _, m1, _, rfl, fun w2 b2 m2 g2 l2 => ⟨_, _, _, m2, rfl, rfl, fun w3 m3 g3 => ?_⟩⟩
  have g13 : GB none w1 w3 := ⟨g3.os.trans g2.os, g3.out.trans g2.out, Nat.le_trans g2.size g3.size, fun x hx _ => (g3.block x (Nat.lt_of_lt_of_le hx g2.size) (fun e => by cases e; omega)).trans (g2.block x hx nofun)⟩
  refine ⟨_, _, g13.get m1 nofun, _, rfl, rfl, _, _, m3, _, rfl, rfl, fun w4 b4 m4 g4 l4 => ?_⟩
  have g := (g1.trans g13).trans g4
  refine ⟨_, snd_ok HM (h.gb0 g) (m := { zMM 2 with p := p }) ⟨_, _, _, _, _, rfl, RgIn.zero _, VsIn.zero _, RgIn.zero _⟩ (tl := [(255, p.c.toNat)]) ⟨_, _, rfl, Nat.le_refl _, rfl, .inr ⟨_, _, _, rfl, m4, ?_⟩⟩ (by simp; omega), ?_⟩
  · show [Value.int .u8 255, Value.int .u8 p.c] = [.int .u8 255, .int .u8 (p.c.toNat : Int)]
    rw [Int.toNat_of_nonneg hp]
  · rintro v w5 ⟨rfl, h5, k5⟩
    exact ⟨rfl, h5, g.kz.trans k5⟩
def mAck (enc : MM → ByteArray) (R : MR) (src : Nat) (tl : List (Nat × Nat)) : MR := Snd enc R { zMM 10 with peer := R.sc.g, seq := R.st.I.getD src 0 } tl
theorem ack_ok (h : Wk Λ br R w) {src : Nat} (hs : src < R.st.I.length) {tv : Value} {tl : List (Nat × Nat)} (ht : Fz w 66 2 tv tl.length (adC tl)) (hb : R.out.length + tl.length ≤ 1000000) : CY 171 #[.pointer (some ⟨br, 0, none⟩), .int .u8 src, tv] w (fun v w' => v = .tuple #[] ∧ Wk Λ br (mAck enc R src tl) w' ∧ Kz w w') := by
  have h0 := h
  obtain ⟨a, h⟩ := h
  obtain ⟨vm, wm, kn, mt, pp, ac, lg, ob, sT, sM, sD, sO, sI⟩ := a
  obtain ⟨ia, ic, rfl, i1, i2, i3⟩ := h.ri.st.I
  rcases i3 with ⟨_, i3⟩ | ⟨B, off, cs, rfl, hB, hcut⟩
  · omega
  refine callE Tryz.func171 rfl rfl ?_
  obtain ⟨x, hx⟩ : ∃ x, R.st.I[src]? = some x := ⟨R.st.I[src], by simp [hs]⟩
  have hx2 : cs.toList[off + src]? = some (.int .u32 x) := by
    have h1 : (cutL cs.toList off (R.st.I.length * 1))[src]? = some (.int .u32 x) := by rw [hcut, List.getElem?_map, hx]; rfl
    unfold cutL at h1
    rw [List.getElem?_take, if_pos (by omega), List.getElem?_drop] at h1
    exact h1
  refine ⟨by kernel_rfl, _, _, h.ri.mem, _, rfl, _, _, h.ri.mem, _, rfl, ⟨by omega, by omega⟩, _, _, hB, .int .u32 x, by show cs.toList[off + src * 1]? = _; rw [Nat.mul_one]; exact hx2, ?_⟩
  refine ⟨_, snd_ok HM h0 (m := { zMM 10 with peer := R.sc.g, seq := R.st.I.getD src 0 }) ⟨_, _, _, _, _, ?_, RgIn.zero _, VsIn.zero _, RgIn.zero _⟩ ht hb, by rintro _ w' ⟨rfl, h, k⟩; exact ⟨rfl, h, k⟩⟩
  rw [List.getD_eq_getElem?_getD, hx]; rfl
def mSA (enc : MM → ByteArray) (R : MR) (s : Nat) (c : MC) : MR := Snd enc R { zMM 6 with b := R.sc.b, s := s, c := c } (oth R.sc.g R.sc.i R.sc.g R.sc.sz)
theorem sa_ok (h : Wk Λ br R w) (hz : R.sc.sz ≤ 5) {s : Nat} {c : MC} {cv : Value} (hc : CIn w cv c) (hb : R.out.length ≤ 900000) : CY 160 #[.pointer (some ⟨br, 0, none⟩), .int .u32 s, cv] w (fun v w' => v = .tuple #[] ∧ Wk Λ br (mSA enc R s c) w' ∧ Kz w w') := by
  obtain ⟨rv, dv, rfl, hr⟩ := hc
  refine callE Tryz.func160 rfl rfl ?_
  intro w1 b1 m1 g1 l1
  have h1 := h.gb0 g1
  have h10 := h1
  obtain ⟨a, h1⟩ := h1
  refine ⟨by kernel_rfl, _, _, h1.ri.mem, _, rfl, rfl, _, _, m1, _, rfl, rfl, _, peers_ok h10 hz, ?_⟩
  rintro v w2 ⟨hv, g2⟩
  have hol := oth_len R.sc.g R.sc.i R.sc.g R.sc.sz
  refine ⟨⟨g2.get m1 nofun, (h1.gb0 g2).ri.mem, trivial⟩, _, snd_ok HM (h10.gb0 g2) (m := { zMM 6 with b := R.sc.b, s := s, c := c }) ⟨_, _, _, _, _, rfl, (hr.kz g1.kz).kz g2.kz, VsIn.zero _, RgIn.zero _⟩ hv (by omega), ?_⟩
  rintro v w3 ⟨rfl, h3, k3⟩
  exact ⟨rfl, h3, (g1.trans g2).kz.trans k3⟩
end
end
end Go.Proofs.YtignemioillaiaaGreat
