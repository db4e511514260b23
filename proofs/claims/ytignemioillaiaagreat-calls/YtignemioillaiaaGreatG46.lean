/- A shard at work (7): the frame; set, remove, remember. -/
import Derived.Test.YtignemioillaiaaGreatG45
namespace Go.Proofs.YtignemioillaiaaGreat
set_option maxHeartbeats 8000000
set_option maxRecDepth 100000
section
open Go Go.Conc
theorem LN.off {e size n : Nat} {w0 w w1 : World} {v : Value} {ys : List Value} {vo : Option Nat} (k : LN e size w0 w v n ys) (g : GB vo w w1) (hne : ∀ x, vo = some x → v.ownBlock ≠ some x) (gw : GB none w0 w1) : LN e size w0 w1 v n ys :=
  ⟨owns_rely k.own fun y hy => by
    obtain ⟨c, hc⟩ := own_obj k.own hy
    exact g.block y (lt_heap hc) fun z => hne y z.symm hy, gw, k.new⟩
theorem ne_own {e e' size size' n n' : Nat} {w0 w0' w : World} {v v' : Value} {xs ys : List Value} (h : LN e size w0 w v n xs) (k : LN e' size' w0' w v' n' ys) (he : e ≠ e') : ∀ x, v.ownBlock = some x → v'.ownBlock ≠ some x := fun x hx hy => by
  obtain ⟨c, hc⟩ := own_obj h.own hx
  obtain ⟨c', hc'⟩ := own_obj k.own hy
  exact ne_ty hc hc' he rfl
theorem RgN.off {w0 w w1 : World} {x : Ra} {vo : Option Nat} (h : RgN w0 w x) (g : GB vo w w1) (h1 : ∀ y, vo = some y → x.2.1.ownBlock ≠ some y) (h2 : ∀ y, vo = some y → x.2.2.ownBlock ≠ some y) (gw : GB none w0 w1) : RgN w0 w1 x := ⟨h.r.off g h1 gw, h.d.off g h2 gw⟩
/-- Its own blocks. -/
def ShOw (b : Nat) (T D O I : Value) (ls : List La) (x : Nat) : Prop := x = b ∨ T.ownBlock = some x ∨ D.ownBlock = some x ∨ O.ownBlock = some x ∨ I.ownBlock = some x ∨ ∃ l ∈ ls, l.2.1.ownBlock = some x
abbrev Lam := Nat → Option Obj
def Lam.add (Λ : Lam) (b : Nat) (o : Obj) : Lam := fun x => if x = b then some o else Λ x
/-- What it only reads. -/
def SRd (M : Value) (ls : List La) (x : Nat) : Prop := M.ownBlock = some x ∨ ∃ l ∈ ls, ∃ y ∈ l.2.2, y.2.1.ownBlock = some x ∨ y.2.2.ownBlock = some x
structure Sw (Λ : Lam) (w0 : World) (b : Nat) (s : St) (w : World) (T M D O I : Value) (ls : List La) : Prop where
  mem : Hl w b (shC s T M D O I) 31
  nb : w0.heap.size ≤ b
  sa : SA w0 w s T M D O I ls
  pr : ∀ x o, Λ x = some o → w.heap[x]? = some o ∧ ¬ ShOw b T D O I ls x
  rd : ∀ x o, Λ x = some o → ¬ SRd M ls x
def Sk (Λ : Lam) (w0 : World) (b : Nat) (s : St) (w : World) : Prop := ∃ T M D O I ls, Sw Λ w0 b s w T M D O I ls
section
variable {Λ : Lam} {w0 w w1 w' : World} {b : Nat} {s : St} {T M D O I : Value} {ls : List La}
theorem Sw.gb (h : Sw Λ w0 b s w T M D O I ls) : GB none w0 w := h.sa.t.gb
theorem Sw.lt (h : Sw Λ w0 b s w T M D O I ls) {x : Nat} (hx : ShOw b T D O I ls x) : x < w.heap.size := by
  rcases hx with rfl | hx | hx | hx | hx | ⟨l, hl, hx⟩
  · exact lt_heap h.mem
  · exact h.sa.t.lt hx
  · exact h.sa.d.lt hx
  · exact h.sa.o.lt hx
  · exact h.sa.i.lt hx
  · exact (h.sa.q l hl).q.lt hx
theorem Sw.new (h : Sw Λ w0 b s w T M D O I ls) {x : Nat} (hx : ShOw b T D O I ls x) : w0.heap.size ≤ x := by
  rcases hx with rfl | hx | hx | hx | hx | ⟨l, hl, hx⟩
  · exact h.nb
  · exact h.sa.t.new _ hx
  · exact h.sa.d.new _ hx
  · exact h.sa.o.new _ hx
  · exact h.sa.i.new _ hx
  · exact (h.sa.q l hl).q.new _ hx
theorem Sw.gb0 (h : Sw Λ w0 b s w T M D O I ls) (g : GB none w w') : Sw Λ w0 b s w' T M D O I ls := ⟨g.get h.mem nofun, h.nb, h.sa.gb0 g, fun x o hx => ⟨g.get (h.pr x o hx).1 nofun, (h.pr x o hx).2⟩, h.rd⟩
theorem Sw.rlt (h : Sw Λ w0 b s w T M D O I ls) {x : Nat} (hx : SRd M ls x) : x < w.heap.size := by
  rcases hx with hx | ⟨l, hl, y, hy, hx | hx⟩
  · exact h.sa.m.lt hx
  · exact ((h.sa.q l hl).r y hy).r.lt hx
  · exact ((h.sa.q l hl).r y hy).d.lt hx
theorem Sw.box (h : Sw Λ w0 b s w T M D O I ls) {x : Nat} {o : Obj} (g : GB none w w') (hx : w'.heap[x]? = some o) (hl : w.heap.size ≤ x) : Sw (Λ.add x o) w0 b s w' T M D O I ls := by
  have h1 := h.gb0 g
  refine ⟨h1.mem, h1.nb, h1.sa, fun y q hy => ?_, fun y q hy => ?_⟩
  · unfold Lam.add at hy
    split at hy
    · rename_i e; subst e; cases hy; exact ⟨hx, fun ho => by have := h.lt ho; omega⟩
    · exact h1.pr y q hy
  · unfold Lam.add at hy
    split at hy
    · rename_i e; subst e; exact fun ho => by have := h.rlt ho; omega
    · exact h1.rd y q hy
theorem Sw.unp (h : Sw Λ w0 b s w T M D O I ls) {x : Nat} (hb : w.heap.size ≤ x) : Λ x = none := by
  cases hp : Λ x with
  | none => rfl
  | some o => have := lt_heap (h.pr x o hp).1; omega
theorem Sw.drop {x : Nat} {o : Obj} (h : Sw (Λ.add x o) w0 b s w T M D O I ls) (hx : Λ x = none) : Sw Λ w0 b s w T M D O I ls := ⟨h.mem, h.nb, h.sa, fun y q hy => h.pr y q (by
  unfold Lam.add
  rw [if_neg (fun e => by subst e; rw [hx] at hy; cases hy)]
  exact hy), fun y q hy => h.rd y q (by
  unfold Lam.add
  rw [if_neg (fun e => by subst e; rw [hx] at hy; cases hy)]
  exact hy)⟩
theorem Sw.at {x : Nat} {o : Obj} (h : Sw (Λ.add x o) w0 b s w T M D O I ls) : w.heap[x]? = some o := (h.pr x o (by unfold Lam.add; simp)).1
theorem Sk.gb0 (h : Sk Λ w0 b s w) (g : GB none w w') : Sk Λ w0 b s w' := by obtain ⟨T, M, D, O, I, ls, h⟩ := h; exact ⟨T, M, D, O, I, ls, h.gb0 g⟩
theorem Sk.box (h : Sk Λ w0 b s w) {x : Nat} {o : Obj} (g : GB none w w') (hx : w'.heap[x]? = some o) (hl : w.heap.size ≤ x) : Sk (Λ.add x o) w0 b s w' ∧ Λ x = none := by obtain ⟨T, M, D, O, I, ls, h⟩ := h; exact ⟨⟨T, M, D, O, I, ls, h.box g hx hl⟩, h.unp hl⟩
/-- What is not its own stays where an own block changes. -/
theorem Sw.prk (h : Sw Λ w0 b s w T M D O I ls) {vo : Option Nat} (ho : ∀ x, vo = some x → ShOw b T D O I ls x) (g : GB vo w w') : ∀ x o, Λ x = some o → w'.heap[x]? = some o := fun x o hx => g.get (h.pr x o hx).1 fun e => (h.pr x o hx).2 (ho x e.symm)
theorem Sw.bk (h : Sw Λ w0 b s w T M D O I ls) {e size n : Nat} {v : Value} {xs : List Value} (L : LN e size w0 w v n xs) (he : e ≠ 31) (g : GB v.ownBlock w w') : Hl w' b (shC s T M D O I) 31 := g.get h.mem fun z => by
  obtain ⟨c, hc⟩ := own_obj L.own z.symm
  exact ne_ty hc h.mem he rfl
theorem Sw.gwk (h : Sw Λ w0 b s w T M D O I ls) {vo : Option Nat} (ho : ∀ x, vo = some x → ShOw b T D O I ls x) (g : GB vo w w') : GB none w0 w' :=
  ⟨g.os.trans h.gb.os, g.out.trans h.gb.out, Nat.le_trans h.gb.size g.size, fun x hx _ => (g.block x (Nat.lt_of_lt_of_le hx h.gb.size) fun e => by have := h.new (ho x e.symm); omega).trans (h.gb.block x hx nofun)⟩
/-- The table laid anew. -/
theorem Sw.setT (h : Sw Λ w0 b s w T M D O I ls) {T' : Value} {t' : List Row} (L : LN 128 2 w0 w1 T' t'.length (t'.map Row.cells).flatten) (g : GB T.ownBlock w w1) (n : ∀ x, T'.ownBlock = some x → T.ownBlock = some x ∨ w.heap.size ≤ x) (m2 : Hl w' b (shC { s with T := t' } T' M D O I) 31) (g2 : GB (some b) w1 w') : Sw Λ w0 b { s with T := t' } w' T' M D O I ls := by
  have ho : ∀ x, T.ownBlock = some x → ShOw b T D O I ls x := fun x hx => .inr (.inl hx)
  have gw := h.gwk ho g
  have mb := h.bk h.sa.t (by decide) g
  have q1 : ∀ l ∈ ls, QN w0 w1 l.2.1 l.2.2 := fun l hl => ⟨(h.sa.q l hl).q.off g (ne_own h.sa.t (h.sa.q l hl).q (by decide)) gw, fun x hx => ((h.sa.q l hl).r x hx).off g (fun y hy => h.sa.sT l hl x hx y hy) (ne_own h.sa.t ((h.sa.q l hl).r x hx).d (by decide)) gw⟩
  have sT' : ∀ l ∈ ls, ∀ x ∈ l.2.2, ∀ g, T'.ownBlock = some g → x.2.1.ownBlock ≠ some g := fun l hl x hx y hy he => by
    rcases n y hy with q | q
    · exact h.sa.sT l hl x hx y q he
    · have := ((h.sa.q l hl).r x hx).r.lt he; omega
  have S : SA w0 w1 { s with T := t' } T' M D O I ls := ⟨L, h.sa.m.off g (ne_own h.sa.t h.sa.m (by decide)) gw, h.sa.d.off g (ne_own h.sa.t h.sa.d (by decide)) gw, h.sa.o.off g (ne_own h.sa.t h.sa.o (by decide)) gw, h.sa.i.off g (ne_own h.sa.t h.sa.i (by decide)) gw, q1, h.sa.core, sT', h.sa.sD, h.sa.sQ⟩
  refine ⟨m2, h.nb, S.gbt g2 mb (by decide) (by decide) (by decide) (by decide) (by decide) (by decide) h.nb, fun x o hx => ⟨g2.get (h.prk ho g x o hx) fun e => (h.pr x o hx).2 (.inl (Option.some.inj e)), fun hs => ?_⟩, h.rd⟩
  rcases hs with hs | hs | hs
  · exact (h.pr x o hx).2 (.inl hs)
  · rcases n x hs with q | q
    · exact (h.pr x o hx).2 (.inr (.inl q))
    · have := lt_heap (h.pr x o hx).1; omega
  · exact (h.pr x o hx).2 (.inr (.inr hs))
theorem Sw.setD (h : Sw Λ w0 b s w T M D O I ls) {D' : Value} {d' : List Rep} (L : LN 57 7 w0 w1 D' d'.length (d'.map Rep.cells).flatten) (g : GB D.ownBlock w w1) (n : ∀ x, D'.ownBlock = some x → D.ownBlock = some x ∨ w.heap.size ≤ x) (m2 : Hl w' b (shC { s with D := d' } T M D' O I) 31) (g2 : GB (some b) w1 w') : Sw Λ w0 b { s with D := d' } w' T M D' O I ls := by
  have ho : ∀ x, D.ownBlock = some x → ShOw b T D O I ls x := fun x hx => .inr (.inr (.inl hx))
  have gw := h.gwk ho g
  have mb := h.bk h.sa.d (by decide) g
  have q1 : ∀ l ∈ ls, QN w0 w1 l.2.1 l.2.2 := fun l hl => ⟨(h.sa.q l hl).q.off g (ne_own h.sa.d (h.sa.q l hl).q (by decide)) gw, fun x hx => ((h.sa.q l hl).r x hx).off g (ne_own h.sa.d ((h.sa.q l hl).r x hx).r (by decide)) (fun y hy => h.sa.sD l hl x hx y hy) gw⟩
  have sD' : ∀ l ∈ ls, ∀ x ∈ l.2.2, ∀ g, D'.ownBlock = some g → x.2.2.ownBlock ≠ some g := fun l hl x hx y hy he => by
    rcases n y hy with q | q
    · exact h.sa.sD l hl x hx y q he
    · have := ((h.sa.q l hl).r x hx).d.lt he; omega
  have S : SA w0 w1 { s with D := d' } T M D' O I ls := ⟨h.sa.t.off g (ne_own h.sa.d h.sa.t (by decide)) gw, h.sa.m.off g (ne_own h.sa.d h.sa.m (by decide)) gw, L, h.sa.o.off g (ne_own h.sa.d h.sa.o (by decide)) gw, h.sa.i.off g (ne_own h.sa.d h.sa.i (by decide)) gw, q1, h.sa.core, h.sa.sT, sD', h.sa.sQ⟩
  refine ⟨m2, h.nb, S.gbt g2 mb (by decide) (by decide) (by decide) (by decide) (by decide) (by decide) h.nb, fun x o hx => ⟨g2.get (h.prk ho g x o hx) fun e => (h.pr x o hx).2 (.inl (Option.some.inj e)), fun hs => ?_⟩, h.rd⟩
  rcases hs with hs | hs | hs | hs
  · exact (h.pr x o hx).2 (.inl hs)
  · exact (h.pr x o hx).2 (.inr (.inl hs))
  · rcases n x hs with q | q
    · exact (h.pr x o hx).2 (.inr (.inr (.inl q)))
    · have := lt_heap (h.pr x o hx).1; omega
  · exact (h.pr x o hx).2 (.inr (.inr (.inr hs)))
/-- The map laid anew. -/
theorem Sw.setM (h : Sw Λ w0 b s w T M D O I ls) {M' : Value} {m' : List Pc} (L : PN w0 w M' m') (hM : ∀ x, M'.ownBlock = some x → Λ x = none) (m2 : Hl w' b (shC { s with M := m' } T M' D O I) 31) (g2 : GB (some b) w w') : Sw Λ w0 b { s with M := m' } w' T M' D O I ls := by
  have S : SA w0 w { s with M := m' } T M' D O I ls := ⟨h.sa.t, L, h.sa.d, h.sa.o, h.sa.i, h.sa.q, h.sa.core, h.sa.sT, h.sa.sD, h.sa.sQ⟩
  exact ⟨m2, h.nb, S.gbt g2 h.mem (by decide) (by decide) (by decide) (by decide) (by decide) (by decide) h.nb, fun x o hx => ⟨g2.get (h.pr x o hx).1 fun e => (h.pr x o hx).2 (.inl (Option.some.inj e)), (h.pr x o hx).2⟩, fun x o hx hr => by
    rcases hr with hr | hr
    · rw [hM x hr] at hx; cases hx
    · exact h.rd x o hx (.inr hr)⟩
/-- A block that is laid aside is written. -/
theorem Sw.other {x t : Nat} {c : Array Value} {o' : Obj} (h : Sw (Λ.add x (.cells c t)) w0 b s w T M D O I ls) (hx : Λ x = none) (g : GB (some x) w w') (m : w'.heap[x]? = some o') (hn : w0.heap.size ≤ x) : Sw (Λ.add x o') w0 b s w' T M D O I ls := by
  have hxo : (Λ.add x (.cells c t)) x = some (.cells c t) := by unfold Lam.add; simp
  have no := (h.pr x _ hxo).2
  have nr := h.rd x _ hxo
  have gw : GB none w0 w' := h.gb.new g hn
  have st : ∀ {e size n : Nat} {v : Value} {xs : List Value}, LN e size w0 w v n xs → v.ownBlock ≠ some x → LN e size w0 w' v n xs := fun L hv => L.off g (fun y hy => by cases hy; exact hv) gw
  refine ⟨g.get h.mem fun e => no (.inl (Option.some.inj e).symm), h.nb, ⟨st h.sa.t fun z => no (.inr (.inl z)), st h.sa.m fun z => nr (.inl z), st h.sa.d fun z => no (.inr (.inr (.inl z))), st h.sa.o fun z => no (.inr (.inr (.inr (.inl z)))), st h.sa.i fun z => no (.inr (.inr (.inr (.inr (.inl z))))), fun l hl => ⟨st (h.sa.q l hl).q fun z => no (.inr (.inr (.inr (.inr (.inr ⟨l, hl, z⟩))))), fun y hy => ⟨st ((h.sa.q l hl).r y hy).r fun z => nr (.inr ⟨l, hl, y, hy, .inl z⟩), st ((h.sa.q l hl).r y hy).d fun z => nr (.inr ⟨l, hl, y, hy, .inr z⟩)⟩⟩, h.sa.core, h.sa.sT, h.sa.sD, h.sa.sQ⟩, fun y q hy => ?_, fun y q hy => ?_⟩
  · unfold Lam.add at hy
    split at hy
    · rename_i e; subst e; cases hy; exact ⟨m, no⟩
    · rename_i e
      have := h.pr y q (by unfold Lam.add; rw [if_neg e]; exact hy)
      exact ⟨g.get this.1 fun z => e (Option.some.inj z), this.2⟩
  · unfold Lam.add at hy
    split at hy
    · rename_i e; subst e; exact nr
    · rename_i e
      exact h.rd y q (by unfold Lam.add; rw [if_neg e]; exact hy)
end
theorem okSt_rep {xs : List Value} {off : Nat} {q : Rep} (h : off + 7 ≤ xs.length) : okSt xs off 7 (.agg q.cells.toArray) = true := by
  have h1 : Nat.ble (off + 7) xs.length = true := Nat.ble_eq_true_of_le h
  show (true && true && Nat.ble (off + 7) xs.length) = true
  rw [h1]; rfl
section
variable {Λ : Lam} {w0 w : World} {b : Nat} {s : St}
theorem set_ok (h : Sk Λ w0 b s w) (hs : SortT s.T) (hl : s.T.length ≤ 100000) (key val : Int) : CY 140 #[.pointer (some ⟨b, 0, none⟩), .int .u64 key, .int .u64 val] w (fun v w' => v = .int .u8 (setK s.T key) ∧ Sk Λ w0 b { s with T := setT s.T key val } w') := by
  obtain ⟨T, M, D, O, I, ls, h⟩ := h
  refine callE Tryz.func140 rfl rfl ?_
  refine ⟨_, row_ok h.mem h.sa.t.fz (Nat.le_trans hl (by decide)) hs key, ?_⟩
  rintro _ w1 ⟨rfl, g1⟩
  replace h := h.gb0 g1
  unfold setK setT
  obtain ⟨a, ha⟩ : ∃ a, hasT s.T key = a := ⟨_, rfl⟩
  rw [ha]
  cases a
  · obtain ⟨Ta, Tc, rfl⟩ := own_slice h.sa.t.own
    simp only [Bool.false_eq_true, if_false]
    refine ⟨_, _, h.mem, _, rfl, spl (fun e => ?_) (fun e => ?_)⟩
    · have e1 := of_decide_eq_true e
      rw [if_pos (by omega), if_pos (by omega)]
      exact ⟨rfl, _, _, _, _, _, _, h⟩
    · have e1 := of_decide_eq_false e
      rw [if_neg (by omega), if_neg (by omega)]
      refine ⟨_, _, h.mem, _, rfl, fun w2 b2 m2 g2 l2 => ?_⟩
      have h2 := h.gb0 g2
      refine ⟨_, ins_row h2.sa.t hl (i := atT s.T key) (posB_le _ _) (x := ⟨key, val⟩) m2 (fun z => by have := h.sa.t.lt z; omega), ?_⟩
      rintro T' w3 ⟨L, g3, n3⟩
      obtain ⟨Ta', Tc', rfl⟩ := own_slice L.own
      refine ⟨_, _, _, h2.bk h2.sa.t (by decide) g3, rfl, rfl, fun w4 m4 g4 => ?_⟩
      exact ⟨rfl, _, _, _, _, _, _, h2.setT L g3 n3 m4 g4⟩
  · obtain ⟨x, hx, hx0⟩ := hit_at ha
    have hxk : x.key = key := cmpI_eq.1 hx0
    have hi : atT s.T key < s.T.length := (List.getElem?_eq_some_iff.1 hx).1
    obtain ⟨g, cap, cur, ev, hg, hcur, hcut, hsz⟩ := h.sa.t.at (f := Row.cells) (fun _ => rfl) hx
    subst ev
    refine ⟨_, _, h.mem, _, rfl, ⟨by omega, by omega⟩, _, _, _, hcur, okSt_one rfl rfl (by rw [Array.length_toList]; show 0 + ((atT s.T key : Nat) : Int).toNat * 2 + 1 < _; omega), rfl, fun w2 m2 g2 => ?_⟩
    have L := h.sa.t.set (f := Row.cells) (j := 1) (x' := ⟨key, val⟩) (fun _ => rfl) hcur hx (by decide) (by rw [← hxk]; rfl) m2 (by show 0 + ((atT s.T key : Nat) : Int).toNat * 2 + 1 = atT s.T key * 2 + 1; rw [Int.toNat_natCast, Nat.zero_add]) rfl rfl g2
    have mb := h.bk h.sa.t (by decide) g2
    rw [if_pos rfl, if_pos rfl]
    refine ⟨rfl, _, _, _, _, _, _, h.setT (w1 := w2) (t' := s.T.set (atT s.T key) ⟨key, val⟩) (T' := .slice (some ⟨g, 0, none⟩) s.T.length cap) ?_ g2 (fun x hx => .inl hx) mb (GB.refl _ _)⟩
    rw [List.length_set] at L ⊢
    exact L
theorem remove_ok (h : Sk Λ w0 b s w) (hs : SortT s.T) (hl : s.T.length ≤ 100000) (key : Int) : CY 141 #[.pointer (some ⟨b, 0, none⟩), .int .u64 key] w (fun v w' => v = .int .u8 2 ∧ Sk Λ w0 b { s with T := delT s.T key } w') := by
  obtain ⟨T, M, D, O, I, ls, h⟩ := h
  refine callE Tryz.func141 rfl rfl ?_
  refine ⟨_, row_ok h.mem h.sa.t.fz (Nat.le_trans hl (by decide)) hs key, ?_⟩
  rintro _ w1 ⟨rfl, g1⟩
  replace h := h.gb0 g1
  unfold delT
  obtain ⟨a, ha⟩ : ∃ a, hasT s.T key = a := ⟨_, rfl⟩
  rw [ha]
  cases a
  · exact ⟨rfl, _, _, _, _, _, _, h⟩
  · obtain ⟨x, hx, hx0⟩ := hit_at ha
    have hi : atT s.T key < s.T.length := (List.getElem?_eq_some_iff.1 hx).1
    refine ⟨_, _, h.mem, _, rfl, ⟨by omega, by omega⟩, _, del_row h.sa.t hl hi, ?_⟩
    rintro T' w3 ⟨L, g3, n3⟩
    obtain ⟨Ta', Tc', rfl⟩ := own_slice L.own
    refine ⟨_, _, _, h.bk h.sa.t (by decide) g3, rfl, rfl, fun w4 m4 g4 => ?_⟩
    exact ⟨rfl, _, _, _, _, _, _, h.setT L g3 n3 m4 g4⟩
theorem remember_ok (h : Sk Λ w0 b s w) (hs : SortD s.D) (hl : s.D.length ≤ 100000) (q : Rep) : CY 143 #[.pointer (some ⟨b, 0, none⟩), .agg q.cells.toArray] w (fun v w' => v = .tuple #[] ∧ Sk Λ w0 b { s with D := remD s.D q } w') := by
  refine callE Tryz.func143 rfl rfl ?_
  refine fun w1 b1 m1 g1 l1 => ?_
  obtain ⟨hb, hu⟩ := h.box g1 m1 l1
  obtain ⟨T, M, D, O, I, ls, h⟩ := hb
  refine ⟨_, _, m1, q.cells, rfl, rfl, _, dup_ok h.mem h.sa.d.fz (Nat.le_trans hl (by decide)) hs q, ?_⟩
  rintro _ w2 ⟨rfl, g2⟩
  replace h := h.gb0 g2
  unfold remD
  obtain ⟨a, ha⟩ : ∃ a, hasD s.D q = a := ⟨_, rfl⟩
  rw [ha]
  cases a
  · simp only [Bool.false_eq_true, if_false]
    refine ⟨by kernel_rfl, _, _, h.mem, _, rfl, _, _, h.at, q.cells, rfl, rfl, fun w3 b3 m3 g3 l3 => ?_⟩
    have h3 := h.gb0 g3
    refine ⟨⟨h3.at, h3.mem, trivial⟩, _, ins_rep h3.sa.d hl (i := atD s.D q) (posB_le _ _) (x := q) m3 (fun z => by have := h.sa.d.lt z; omega), ?_⟩
    rintro D' w4 ⟨L, g4, n4⟩
    obtain ⟨Da', Dc', rfl⟩ := own_slice L.own
    refine ⟨_, _, _, h3.bk h3.sa.d (by decide) g4, rfl, rfl, fun w5 m5 g5 => ?_⟩
    exact ⟨rfl, _, _, _, _, _, _, (h3.setD L g4 n4 m5 g5).drop hu⟩
  · obtain ⟨x, hx, hx0⟩ := hit_at ha
    have hi : atD s.D q < s.D.length := (List.getElem?_eq_some_iff.1 hx).1
    obtain ⟨g, cap, cur, ev, hg, hcur, hcut, hsz⟩ := h.sa.d.at (f := Rep.cells) (fun _ => rfl) hx
    subst ev
    refine ⟨by kernel_rfl, _, _, h.mem, _, rfl, _, _, h.at, q.cells, rfl, rfl, ⟨by omega, by omega⟩, _, _, _, hcur, okSt_rep (by rw [Array.length_toList]; show 0 + ((atD s.D q : Nat) : Int).toNat * 7 + 7 ≤ _; omega), rfl, fun w3 m3 g3 => ?_⟩
    have L := h.sa.d.setE (f := Rep.cells) (x' := q) (fun _ => rfl) hcur hi m3 (by show 0 + ((atD s.D q : Nat) : Int).toNat * 7 = _; omega) rfl rfl g3
    have mb := h.bk h.sa.d (by decide) g3
    rw [if_pos rfl]
    refine ⟨rfl, _, _, _, _, _, _, (h.setD (w1 := w3) (d' := s.D.set (atD s.D q) q) (D' := .slice (some ⟨g, 0, none⟩) s.D.length cap) ?_ g3 (fun x hx => .inl hx) mb (GB.refl _ _)).drop hu⟩
    rw [List.length_set] at L ⊢
    exact L
end
/-- What is asked of a shard. -/
structure StOk (s : St) : Prop where
  g0 : 0 ≤ s.g
  gn : s.g < s.n
  n4 : s.n ≤ 4
  sT : SortT s.T
  sD : SortD s.D
  mok : mapOk s.M = true
  can : Can s.M
  ol : (s.O.length : Int) = s.n
  il : (s.I.length : Int) = s.n
section
variable {Λ : Lam} {w0 w : World} {b : Nat} {s : St} {T M D O I : Value} {ls : List La}
theorem Sw.lane (h : Sw Λ w0 b s w T M D O I ls) {j : Nat} {o : Int × List Rg} (ho : s.O[j]? = some o) : ∃ l, ls[j]? = some l ∧ laC l = o := by
  rw [← h.sa.core, List.getElem?_map] at ho
  cases hl : ls[j]? with
  | none => rw [hl] at ho; cases ho
  | some l => rw [hl] at ho; exact ⟨l, rfl, Option.some.inj ho⟩
theorem Sw.ll (h : Sw Λ w0 b s w T M D O I ls) : ls.length = s.O.length := by rw [← h.sa.core, List.length_map]
theorem parted_ok (h : Sw Λ w0 b s w T M D O I ls) (hk : StOk s) {q : Req} (h0 : 0 ≤ q.key) (h1 : q.key ≤ q.hi) (h2 : q.hi ≤ 18446744073709551615) (h3 : 0 ≤ q.to) : CY 179 #[.pointer (some ⟨b, 0, none⟩), .agg q.cells.toArray] w (fun x w' => GB none w w' ∧ ∃ a n c, x = .tuple #[.slice a n c, .bool (fitsB s q)] ∧ (fitsB s q = true → PN w w' (.slice a n c) (giveL s.M q.key q.hi q.to))) := by
  obtain ⟨c, sq, k, key, v, hi, to⟩ := q
  obtain ⟨j, rfl⟩ := Int.eq_ofNat_of_zero_le h3
  dsimp only at h0 h1 h2
  have hn4 := hk.n4
  have hol := hk.ol
  refine callE Tryz.func179 rfl rfl ?_
  refine fun w1 b1 m1 g1 l1 => ?_
  have h1' := h.gb0 g1
  refine ⟨by kernel_rfl, _, _, m1, .int .u8 j, rfl, _, _, h1'.mem, _, rfl, spl (fun e => ?_) (fun e => ?_)⟩
  · have e1 : ¬ (j : Int) = s.g := by have := b01 e; simpa using this
    refine ⟨_, _, m1, .int .u8 j, rfl, _, _, h1'.mem, _, rfl, spl (fun e => ?_) (fun e => ?_)⟩
    · have e2 : (j : Int) < s.n := by have := of_decide_eq_false (b01 e); omega
      obtain ⟨o, ho⟩ : ∃ o, s.O[j]? = some o := ⟨s.O[j]'(by omega), by simp [show j < s.O.length by omega]⟩
      obtain ⟨l, hl, hlo⟩ := h.lane ho
      have hll := h.ll
      obtain ⟨g, cap, cur, ev, hg, hcur, hcut, hsz⟩ := h1'.sa.o.at (f := laA) (fun _ => rfl) hl
      subst ev
      obtain ⟨qa, qc, eq⟩ := own_slice (h.sa.q l (List.mem_of_getElem? hl)).q.own
      have hlan : lanAt s.O (j : Int) = o := by unfold lanAt; rw [Int.toNat_natCast, ho]; rfl
      have hol2 : o.2.length = l.2.2.length := by rw [← hlo]; simp
      obtain ⟨nx, qv, rs⟩ := l
      have eq : qv = .slice qa rs.length qc := eq
      subst eq
      refine ⟨_, _, h1'.mem, _, rfl, _, _, m1, .int .u8 j, rfl, ⟨by omega, by omega⟩, _, _, hcur, .slice qa rs.length qc, cut_one hcut rfl (by decide), spl (fun e => ?_) (fun e => ?_)⟩
      · have e3 := of_decide_eq_true e
        have hfit : fitsB s ⟨c, sq, k, key, v, hi, j⟩ = false := by
          unfold fitsB
          dsimp only
          rw [hlan]
          simp [show ¬ o.2.length < 4 by dsimp only at hol2; omega]
        rw [hfit]
        exact ⟨g1, _, _, _, rfl, nofun⟩
      · have e3 := of_decide_eq_false e
        have hM : PIn w1 M s.M := h1'.sa.m.fz
        refine ⟨by kernel_rfl, _, _, h1'.mem, _, rfl, _, _, m1, .int .u64 key, rfl, _, _, m1, .int .u64 hi, rfl, _, _, m1, .int .u8 j, rfl, _, Give_ok hM hk.mok hk.can h0 h1 h2 (by omega : (j : Int) < 4), ?_⟩
        rintro _ w2 ⟨v', e', rfl, g2, hc⟩
        rcases hc with ⟨c1, rfl, P⟩ | ⟨c1, rfl, rfl⟩
        · obtain ⟨va, vc, rfl⟩ := own_slice P.own
          have hfit : fitsB s ⟨c, sq, k, key, v, hi, j⟩ = decide ((giveL s.M key hi j).length ≤ 8) := by
            unfold fitsB
            dsimp only
            rw [hlan]
            simp [e1, e2, show o.2.length < 4 by dsimp only at hol2; omega]
          rw [hfit]
          refine ⟨g1.trans g2, _, _, _, congrArg (fun z => Value.tuple #[_, .bool z]) ?_, fun _ => P.base g1⟩
          exact decide_eq_decide.2 (by omega)
        · have hfit : fitsB s ⟨c, sq, k, key, v, hi, j⟩ = false := by
            unfold fitsB
            dsimp only
            simp [show ¬ (giveL s.M key hi j).length ≤ 8 by omega]
          rw [hfit]
          exact ⟨g1.trans g2, _, _, _, rfl, nofun⟩
    · have e2 : ¬ (j : Int) < s.n := by have := of_decide_eq_true (b00 e); omega
      have hfit : fitsB s ⟨c, sq, k, key, v, hi, j⟩ = false := by
        unfold fitsB
        simp [e2]
      rw [hfit]
      exact ⟨g1, _, _, _, rfl, nofun⟩
  · have e1 : (j : Int) = s.g := eq_of_beq (b00 e)
    have hfit : fitsB s ⟨c, sq, k, key, v, hi, j⟩ = false := by
      unfold fitsB
      simp [e1]
    rw [hfit]
    exact ⟨g1, _, _, _, rfl, nofun⟩
end
section
variable {Λ : Lam} {w0 w w1 w' : World} {b : Nat} {s : St} {T M D O I : Value} {ls : List La}
theorem QN.off {vo : Option Nat} {q : Value} {rs : List Ra} (h : QN w0 w q rs) (g : GB vo w w1) (h0 : ∀ y, vo = some y → q.ownBlock ≠ some y) (h1 : ∀ x ∈ rs, ∀ y, vo = some y → x.2.1.ownBlock ≠ some y) (h2 : ∀ x ∈ rs, ∀ y, vo = some y → x.2.2.ownBlock ≠ some y) (gw : GB none w0 w1) : QN w0 w1 q rs := ⟨h.q.off g h0 gw, fun x hx => (h.r x hx).off g (h1 x hx) (h2 x hx) gw⟩
theorem Sw.setL (h : Sw Λ w0 b s w T M D O I ls) {j : Nat} {nx nx' : Int} {q q' : Value} {rs rs' : List Ra} (hl : ls[j]? = some (nx, q, rs)) (g : GB q.ownBlock w w1) (Q : QN w0 w1 q' rs') (n : ∀ x, q'.ownBlock = some x → q.ownBlock = some x ∨ w.heap.size ≤ x) (sT : ∀ x ∈ rs', ∀ y, T.ownBlock = some y → x.2.1.ownBlock ≠ some y) (sD : ∀ x ∈ rs', ∀ y, D.ownBlock = some y → x.2.2.ownBlock ≠ some y) (hΛ : ∀ x ∈ rs', x ∈ rs ∨ ∀ y, x.2.1.ownBlock = some y ∨ x.2.2.ownBlock = some y → Λ y = none) (L : LN 103 2 w0 w' O (ls.set j (nx', q', rs')).length ((ls.set j (nx', q', rs')).map laA).flatten) (g2 : GB O.ownBlock w1 w') : Sw Λ w0 b { s with O := s.O.set j (nx', rs'.map (·.1)) } w' T M D O I (ls.set j (nx', q', rs')) := by
  have hm := List.mem_of_getElem? hl
  have hj := (List.getElem?_eq_some_iff.1 hl).1
  have hq := h.sa.q _ hm
  have ho : ∀ x, q.ownBlock = some x → ShOw b T D O I ls x := fun x hx => .inr (.inr (.inr (.inr (.inr ⟨_, hm, hx⟩))))
  have gw := h.gwk ho g
  have mb := h.bk hq.q (by decide) g
  have t1 := h.sa.t.off g (ne_own hq.q h.sa.t (by decide)) gw
  have m1 := h.sa.m.off g (ne_own hq.q h.sa.m (by decide)) gw
  have d1 := h.sa.d.off g (ne_own hq.q h.sa.d (by decide)) gw
  have i1 := h.sa.i.off g (ne_own hq.q h.sa.i (by decide)) gw
  have o1 := h.sa.o.off g (ne_own hq.q h.sa.o (by decide)) gw
  have gw2 : GB none w0 w' := L.gb
  have mb2 : Hl w' b (shC s T M D O I) 31 := g2.get mb fun z => by
    obtain ⟨c, hc⟩ := own_obj o1.own z.symm
    exact ne_ty hc mb (by decide) rfl
  have ql : ∀ k l, k ≠ j → ls[k]? = some l → QN w0 w' l.2.1 l.2.2 := fun k l hk hkl => by
    have hlm := List.mem_of_getElem? hkl
    have hlq := h.sa.q l hlm
    have a1 : QN w0 w1 l.2.1 l.2.2 := hlq.off g (h.sa.sQ j k _ l hk.symm hl hkl) (fun x hx => ne_own hq.q (hlq.r x hx).r (by decide)) (fun x hx => ne_own hq.q (hlq.r x hx).d (by decide)) gw
    exact a1.off g2 (ne_own o1 a1.q (by decide)) (fun x hx => ne_own o1 (a1.r x hx).r (by decide)) (fun x hx => ne_own o1 (a1.r x hx).d (by decide)) gw2
  have Q2 : QN w0 w' q' rs' := Q.off g2 (ne_own o1 Q.q (by decide)) (fun x hx => ne_own o1 (Q.r x hx).r (by decide)) (fun x hx => ne_own o1 (Q.r x hx).d (by decide)) gw2
  have mem' : ∀ l ∈ ls.set j (nx', q', rs'), l = (nx', q', rs') ∨ ∃ k, k ≠ j ∧ ls[k]? = some l := fun l hl' => by
    obtain ⟨k, hk⟩ := List.getElem?_of_mem hl'
    rw [set_get hj] at hk
    split at hk
    · exact .inl (Option.some.inj hk).symm
    · exact .inr ⟨k, by assumption, hk⟩
  refine ⟨mb2, h.nb, ⟨t1.off g2 (ne_own o1 t1 (by decide)) gw2, m1.off g2 (ne_own o1 m1 (by decide)) gw2, d1.off g2 (ne_own o1 d1 (by decide)) gw2, L, i1.off g2 (ne_own o1 i1 (by decide)) gw2, fun l hl' => ?_, ?_, fun l hl' => ?_, fun l hl' => ?_, fun i k l l' hik hi hk y hy he => ?_⟩, fun x o hx => ⟨?_, fun hs => ?_⟩, fun x o hx hr => ?_⟩
  · rcases mem' l hl' with rfl | ⟨k, hk, hkl⟩
    · exact Q2
    · exact ql k l hk hkl
  · show (ls.set j (nx', q', rs')).map laC = s.O.set j (nx', rs'.map (·.1))
    rw [List.map_set, h.sa.core]
  · rcases mem' l hl' with rfl | ⟨k, hk, hkl⟩
    · exact sT
    · exact h.sa.sT l (List.mem_of_getElem? hkl)
  · rcases mem' l hl' with rfl | ⟨k, hk, hkl⟩
    · exact sD
    · exact h.sa.sD l (List.mem_of_getElem? hkl)
  · rw [set_get hj] at hi hk
    split at hi
    · cases hi
      split at hk
      · omega
      · rcases n y hy with z | z
        · exact h.sa.sQ j k _ l' (by omega) hl hk y z he
        · have := (h.sa.q l' (List.mem_of_getElem? hk)).q.lt he; omega
    · split at hk
      · cases hk
        rcases n y he with z | z
        · exact h.sa.sQ i j l _ (by omega) hi hl y hy z
        · have := (h.sa.q l (List.mem_of_getElem? hi)).q.lt hy; omega
      · exact h.sa.sQ i k l l' hik hi hk y hy he
  · exact g2.get (h.prk ho g x o hx) fun e => (h.pr x o hx).2 (.inr (.inr (.inr (.inl e.symm))))
  · rcases hs with hs | hs | hs | hs | hs | ⟨l, hl', hs⟩
    · exact (h.pr x o hx).2 (.inl hs)
    · exact (h.pr x o hx).2 (.inr (.inl hs))
    · exact (h.pr x o hx).2 (.inr (.inr (.inl hs)))
    · exact (h.pr x o hx).2 (.inr (.inr (.inr (.inl hs))))
    · exact (h.pr x o hx).2 (.inr (.inr (.inr (.inr (.inl hs)))))
    · rcases mem' l hl' with rfl | ⟨k, hk, hkl⟩
      · rcases n x hs with z | z
        · exact (h.pr x o hx).2 (ho x z)
        · have := lt_heap (h.pr x o hx).1; omega
      · exact (h.pr x o hx).2 (.inr (.inr (.inr (.inr (.inr ⟨l, List.mem_of_getElem? hkl, hs⟩)))))
  · rcases hr with hr | ⟨l, hl', y, hy, hr⟩
    · exact h.rd x o hx (.inl hr)
    · rcases mem' l hl' with rfl | ⟨k, hk, hkl⟩
      · rcases hΛ y hy with z | z
        · exact h.rd x o hx (.inr ⟨_, hm, y, z, hr⟩)
        · rw [z x hr] at hx; cases hx
      · exact h.rd x o hx (.inr ⟨l, List.mem_of_getElem? hkl, y, hy, hr⟩)
/-- What came in, laid anew. -/
theorem Sw.setI (h : Sw Λ w0 b s w T M D O I ls) {i' : List Int} (L : LN 47 1 w0 w' I i'.length (i'.map fun i => Value.int .u32 i)) (g : GB I.ownBlock w w') : Sw Λ w0 b { s with I := i' } w' T M D O I ls := by
  have ho : ∀ x, I.ownBlock = some x → ShOw b T D O I ls x := fun x hx => .inr (.inr (.inr (.inr (.inl hx))))
  have gw := h.gwk ho g
  have mb := h.bk h.sa.i (by decide) g
  refine ⟨mb, h.nb, ⟨h.sa.t.off g (ne_own h.sa.i h.sa.t (by decide)) gw, h.sa.m.off g (ne_own h.sa.i h.sa.m (by decide)) gw, h.sa.d.off g (ne_own h.sa.i h.sa.d (by decide)) gw, h.sa.o.off g (ne_own h.sa.i h.sa.o (by decide)) gw, L, fun l hl => (h.sa.q l hl).off g (ne_own h.sa.i (h.sa.q l hl).q (by decide)) (fun x hx => ne_own h.sa.i ((h.sa.q l hl).r x hx).r (by decide)) (fun x hx => ne_own h.sa.i ((h.sa.q l hl).r x hx).d (by decide)) gw, h.sa.core, h.sa.sT, h.sa.sD, h.sa.sQ⟩, fun x o hx => ⟨h.prk ho g x o hx, (h.pr x o hx).2⟩, h.rd⟩
end
end
end Go.Proofs.YtignemioillaiaaGreat
