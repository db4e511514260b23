/- Package wire: numbers put behind bytes. -/
import Derived.Test.YtignemioillaiaaGreatG13
import Derived.WalkLawsBesides
import Derived.Orders
import Derived.Conc.AppendWalk
namespace Go.Proofs.YtignemioillaiaaGreat
set_option maxHeartbeats 8000000
set_option maxRecDepth 100000
section
open Go.RowKit
/-- What an append, or some of them, leave: blocks that were there are as they were, but for the one that v owns; what comes out lies there still, or in a new block. -/
structure Grew (w : World) (v : Value) (w' : World) (v' : Value) : Prop where
  grown : w.grownBy w' v.ownBlock
  own : v'.ownBlock = v.ownBlock ∨ ∀ k, v'.ownBlock = some k → w.heap.size ≤ k

section
variable {P : Program} (w : World)
theorem run_append_new (base : Nat) (t ty e : TypeId) (i : TypeInfo) (z : Value) (size bytes : Nat) (ht : P.underlying t = some (.slice e)) (hi : P.info? e = some i) (hz : i.zero = some z)
    (hsize : i.size = size) (hby : i.bytes = bytes) (hzs : z.cells.size = size) (hsz : 0 < size) (v : Value) (n : Nat) (xs : List Value) (hown : w.ownsRow base e size v n xs)
    (a : Addr) (m c : Nat) (news : List Value) (hl : news.length = m * size) (hnews : ∀ j u, news[j]? = some u → w.cell? (a.add j) = some u) (h1 : ∀ u ∈ news, u.oneCell' = true)
    (h63 : n + m ≤ maxLen) (hbytes : (n + m) * bytes ≤ 140737488355328) (hbase : base ≤ w.heap.size) :
    ∃ v' w', (Builtin.append_ #[t, t] ty #[v, .slice (some a) m c]).run P w = .ok v' w' ∧ w'.ownsRow base e size v' (n + m) (xs ++ news) ∧ Grew w v w' v' := by
  obtain ⟨v', w', hr, ho, hg, _⟩ := run_append_own (P := P) w base t ty e i z size bytes ht hi hz hsize hby hzs hsz v n xs hown a m c news hl hnews h1 h63 hbytes hbase
  refine ⟨v', w', hr, ho, hg, ?_⟩
  rcases hown.2 with ⟨rfl, rfl⟩ | ⟨g, cap, cur, rfl, hbg, hgg, hnc, hcm, hcs, htake⟩
  · right
    have hx : xs = [] := List.eq_nil_of_length_eq_zero (by simpa using hown.1)
    subst hx
    obtain ⟨v2, w2, hr2, ho2, _, _⟩ := run_append_own (P := P) w w.heap.size t ty e i z size bytes ht hi hz hsize hby hzs hsz _ 0 [] (World.ownsRow_nil w w.heap.size e size) a m c news hl hnews h1 h63 hbytes (Nat.le_refl _)
    rw [hr2] at hr
    injection hr with e1 e2
    subst e1
    exact fun k hk => (ho2.lt k hk).1
  · have hsmall : n + m ≤ 9223372036854775807 := by simp only [maxLen] at h63; omega
    subst hsize; subst hby
    by_cases hroom : n + m ≤ cap
    · have hfit : n * i.size + news.length ≤ cur.size := by rw [hl, hcs, ← Nat.add_mul]; exact Nat.mul_le_mul_right _ hroom
      rw [run_append_room (P := P) w t ty e i ht hi g n cap cur hgg a m c news hl hnews h1 hroom hfit] at hr
      injection hr with e1 e2
      subst e1
      exact .inl rfl
    · rw [run_append_grow (P := P) w t ty e i z ht hi hz ⟨g, 0, none⟩ n cap xs hown.1 (hown.cells (g := g) rfl) a m c news hl hnews (by omega) (by omega) (growslice_fits (by omega) hbytes)] at hr
      injection hr with e1 e2
      subst e1
      exact .inr fun k hk => by simp [Value.ownBlock] at hk; omega

end
end
section
open Go Go.Conc
section
variable {P : Program} {main : Bool} {Stop : (Nat → Prop) → Goroutine → World → Prop} {F : Nat → Prop} {w : World} {b : Frame} {a : Act} {k : List Item} {cs : List Frame} {ops : Array Oper}
/-- A region that draws its order: n: how many operations are left. -/
theorem GoesF.drawn {id : Nat} (hm : P.follows .mixedOrders = true) (I : Nat → Array Bool → (Nat → Prop) → Act → World → Prop) (h0 : ∀ w1, RelF F w w1 → I ops.size (Array.replicate ops.size false) F a w1)
    (hstep : ∀ n l F a w i rest, I (n + 1) l F a w → l.getD i true = false → (∃ o, ops[i]? = some o ∧ ∀ e ∈ o.after, Region.binds .any e = true → l.getD e.on false = true) → (∀ F' a' w', I n (l.setIfInBounds i true) F' a' w' → GoesF P main Stop F' (G (b.at a' (.inRegion ops rest :: k)) cs) w') → GoesF P main Stop F (G (b.at a (.inRegion ops (i :: rest) :: k)) cs) w)
    (hend : ∀ n l F a w, I n l F a w → n = 0 ∨ Region.ready .any ops l = [] → GoesF P main Stop F (G (b.at a k) cs) w) : GoesF P main Stop F (G (b.at a (.code (.region id ops true) :: k)) cs) w := by
  have key : ∀ (n t : Nat) (l : Array Bool) (F : Nat → Prop) (a : Act) (w : World), I n l F a w → GoesF P main Stop F (G (b.at a (.inRegion ops (Region.linearise.go .any ops n t l []) :: k)) cs) w := by
    intro n
    induction n with
    | zero => exact fun t l F a w h => Ctl.regionEnd goesF_c (hend 0 l F a w h (.inl rfl))
    | succ n ih =>
      intro t l F a w h
      simp only [Region.linearise.go]
      change GoesF P main Stop F (G (b.at a (.inRegion ops (match (Region.ready .any ops l)[t % (Region.ready .any ops l).length]? with
        | some i => Region.linearise.go .any ops n (t / (Region.ready .any ops l).length) (l.setIfInBounds i true) [i]
        | none => [].reverse) :: k)) cs) w
      cases hi : (Region.ready .any ops l)[t % (Region.ready .any ops l).length]? with
      | none =>
        have hnil : Region.ready .any ops l = [] := by
          cases hr : Region.ready .any ops l with
          | nil => rfl
          | cons x xs =>
            rw [hr] at hi
            have := List.getElem?_eq_none_iff.1 hi
            have := Nat.mod_lt t (show 0 < (x :: xs).length by simp)
            omega
        exact Ctl.regionEnd goesF_c (hend _ l F a w h (.inr hnil))
      | some i =>
        have hmem := mem_ready.1 (List.mem_of_getElem? hi)
        simp only []
        rw [linearise_go_acc, List.reverse_singleton, List.singleton_append]
        exact hstep n l F a w i _ h hmem.1 hmem.2 fun F' a' w' h' => ih _ _ F' a' w' h'
  refine GoesF.step rfl fun w1 h1 => ?_
  have hs : stepG P main (G (b.at a (.code (.region id ops true) :: k)) cs) w1 = .go (G (b.at a (.inRegion ops (Region.schedule (P.follows .mixedOrders) ops (w1.tape w1.drawn (.order b.fn id))) :: k)) cs) { w1 with drawn := w1.drawn + 1 } #[] := by
    simp [G, stepG, stepG.exec, Frame.at, choose, Sem.run, Question.forced, Question.cut]
  have hgs : Grow F w1 { w1 with drawn := w1.drawn + 1 } = F := grow_same rfl
  rw [hs, goes_go, hgs]
  refine ⟨⟨Nat.le_refl _, fun _ _ _ => rfl, rfl, rfl, by simp⟩, ?_⟩
  simp only [Region.schedule, hm, Bool.true_or, if_true]
  exact key _ _ _ F a _ (h0 _ (h1.trans ⟨Nat.le_refl _, fun _ _ => rfl, rfl, rfl⟩))
/-- An append to a row of one's own. -/
theorem GoesF.appendK {i : Nat} {rest : List Nat} {o : Oper} (ho : ops[i]? = some o) (hw : Region.wanted o (yielded ops a.tmps) = true) (hk : b.kind ≠ .early) {s x : Operand} {t : TypeId} (hop : o.op = .call { callee := .builtin .append, args := #[s, x], argTypes := #[t, t] })
    (e : TypeId) (ii : TypeInfo) (z : Value) (size bytes : Nat) (ht : P.underlying t = some (.slice e)) (hi : P.info? e = some ii) (hz : ii.zero = some z) (hsize : ii.size = size) (hby : ii.bytes = bytes) (hzs : z.cells.size = size) (hsz : 0 < size)
    {v : Value} {n : Nat} {xs : List Value} (hs : a.eval s = v) (hown : w.ownsRow 0 e size v n xs) (hvF : ∀ g, v.ownBlock = some g → F g) {B m c : Nat} {news : List Value} (hx : a.eval x = .slice (some ⟨B, 0, none⟩) m c) (hB : F B) {nb : Array Value} {tb : TypeId} (hW : w.heap[B]? = some (.cells nb tb)) (hnb : nb.toList.take (m * size) = news) (hl : news.length = m * size) (h1 : ∀ u ∈ news, u.oneCell' = true)
    (h63 : n + m ≤ maxLen) (hbytes : (n + m) * bytes ≤ 140737488355328) (hin : ∀ x, F x → x < w.heap.size)
    (h : ∀ w1 F' v' w', RelF F w w1 → (∀ x, F x → F' x) → (∀ x, F' x → x < w'.heap.size) → (∀ x, F' x → F x ∨ w1.heap.size ≤ x) → w'.ownsRow 0 e size v' (n + m) (xs ++ news) → (∀ g, v'.ownBlock = some g → F' g) → (∀ x, F x → some x ≠ v.ownBlock → w'.heap[x]? = w1.heap[x]?) → GoesF P main Stop F' (G (b.at (a.put o.dst v') (.inRegion ops rest :: k)) cs) w') : GoesF P main Stop F (G (b.at a (.inRegion ops (i :: rest) :: k)) cs) w := by
  refine GoesF.opK ho hw hk fun w1 hr K hK => ?_
  have hown1 : w1.ownsRow 0 e size v n xs := owns_rely hown fun g hg => hr.own g (hvF g hg)
  have hW1 : w1.heap[B]? = some (.cells nb tb) := (hr.own B hB).trans hW
  have hnews : ∀ j u, news[j]? = some u → w1.cell? ((⟨B, 0, none⟩ : Addr).add j) = some u := fun j u hu => by
    have hadd : (⟨B, 0, none⟩ : Addr).add j = ⟨B, j, none⟩ := by unfold Addr.add; split <;> simp_all
    rw [hadd, blk_cell hW1]
    rw [← hnb, List.getElem?_take] at hu
    split at hu
    · simpa using hu
    · cases hu
  obtain ⟨v', w', hrun, ho', hg⟩ := run_append_new (P := P) w1 0 t o.type e ii z size bytes ht hi hz hsize hby hzs hsz v n xs hown1 ⟨B, 0, none⟩ m c news hl hnews h1 h63 hbytes (Nat.zero_le _)
  have hev := events_append_where (P := P) w1 0 t o.type e ii z size bytes ht hi hz hsize hby v n xs hown1 ⟨B, 0, none⟩ m c news hl hnews h1 h63 hbytes
  refine uponK_append s x t hop hs hx hrun (hK _ _ ⟨hg.grown.size, fun y hy hnF => hg.grown.block y hy fun e => hnF (hvF y e.symm), hg.grown.os, hg.grown.output, fun ev hev' => ?_⟩ ?_)
  · have h2 := seen_sub _ _ _ ev hev'
    rw [events_append_op s x t hop hs hx] at h2
    rcases hev ev h2 with ⟨ad, e1, e2⟩ | ⟨mk, rfl, hn⟩
    · refine evF_cell e1 (.inl ?_)
      rcases e2 with ⟨_, e2⟩ | e2
      · rw [e2]; exact hB
      · exact hvF _ e2.symm
    · exact evF_mark hn
  · refine h w1 _ v' w' hr (fun y hy => .inl hy) ?_ ?_ ho' ?_ ?_
    · rintro y (hy | hy)
      · have := hin y hy; have := hr.size; have := hg.grown.size; omega
      · exact hy.2
    · rintro y (hy | hy)
      · exact .inl hy
      · exact .inr hy.1
    · intro g hgo
      rcases hg.own with he | he
      · exact .inl (hvF g (he ▸ hgo))
      · refine .inr ⟨he g hgo, ?_⟩
        rcases ho'.2 with ⟨rfl, _⟩ | ⟨g', cap, cur, rfl, _, hb, _⟩
        · cases hgo
        · have : g' = g := by simpa [Value.ownBlock] using hgo
          subst this
          exact (Array.getElem?_eq_some_iff.1 hb).1
    · intro y hy hne
      exact hg.grown.block y (by have := hin y hy; have := hr.size; omega) hne
end
noncomputable def c63 : Code := Tryz.f63.body.getD .skip
theorem body63 : Tryz.f63.body = some c63 := by
  unfold c63
  rfl
theorem enter63 (x y : Value) : Frame.enter Tryz.prog 63 #[x, y] .normal = (Go.Conc.base 63).at ⟨#[x, y, undef, undef, undef, undef, undef, undef, undef, undef, undef, undef, undef, undef, undef, undef, undef, undef, undef, undef], []⟩ [.code c63] := by
  have h := enter_at (P := Tryz.prog) #[x, y] Tryz.func63 body63
  rw [show Tryz.f63.ntmps = 20 from rfl] at h
  rw [h]
  walk_nrm
theorem info_pkt : (Tryz.prog.info? 139).map (fun i => (i.zero, i.size, i.bytes)) = some (some (.agg #[.int .u8 0, .int .u8 0, .int .u8 0, .int .u8 0, .string ⟨#[]⟩]), 5, 24) := by kernel_rfl
/-- The region of join's append, at any point of any order. -/
structure JS (bc nb : Nat) (gv sv : Value) (p : Pkt) (q : List Pkt) (F0 : Nat → Prop) (b0 b1 b2 b3 b4 b5 b6 b7 b8 b9 b10 : Bool) (x10 x11 x12 x13 x14 x15 x16 x17 x18 x19 : Value) (F : Nat → Prop) (w : World) : Prop where
  i0 : b0 = true → x10 = .pointer (some ⟨bc, 0, none⟩)
  i1 : b1 = true → x11 = .pointer (some ⟨bc, 0, none⟩)
  i2 : b2 = true → x12 = .pointer (some ⟨bc, 0, none⟩)
  i3 : b3 = true → x13 = .pointer (some ⟨bc, 1, none⟩)
  i4 : b4 = true → x14 = sv
  i5 : b5 = true → x15 = p.val
  i8 : b8 = true → x18 = .pointer (some ⟨bc, 0, none⟩)
  i9 : b9 = true → x19 = .pointer (some ⟨bc, 1, none⟩)
  sub : ∀ x, F0 x → F x
  inb : ∀ x, F x → x < w.heap.size
  fc : F bc
  fb : b5 = false → F nb ∧ w.heap[nb]? = some (.cells p.cells.toArray 139)
  i65 : b6 = true → b5 = true
  i6 : b6 = true → b7 = false → ∃ ns, x16 = .slice (some ⟨ns, 0, none⟩) 1 1 ∧ F ns ∧ w.heap[ns]? = some (.cells p.cells.toArray 139)
  hc : ∃ y, w.heap[bc]? = some (.cells #[gv, y] 131) ∧ (b10 = false → y = sv) ∧ (b10 = true → y = x17)
  i74 : b7 = true → b4 = true ∧ b6 = true
  i7 : b7 = true → w.ownsRow 0 139 5 x17 (q.length + 1) (flat (q ++ [p])) ∧ ∀ g, x17.ownBlock = some g → F g
  n7 : b7 = false → w.ownsRow 0 139 5 sv q.length (flat q) ∧ ∀ g, sv.ownBlock = some g → F g
  i10 : b10 = true → b7 = true
section
variable {bc nb : Nat} {gv sv : Value} {p : Pkt} {q : List Pkt} {F0 : Nat → Prop} {b0 b1 b2 b3 b4 b5 b6 b7 b8 b9 b10 : Bool} {x10 x11 x12 x13 x14 x15 x16 x17 x18 x19 : Value} {F : Nat → Prop} {w : World}
theorem JS.grow (h : JS bc nb gv sv p q F0 b0 b1 b2 b3 b4 b5 b6 b7 b8 b9 b10 x10 x11 x12 x13 x14 x15 x16 x17 x18 x19 F w) {F' : Nat → Prop} {w1 : World} (hF : ∀ x, F x → F' x) (hw : ∀ x, F x → w1.heap[x]? = w.heap[x]?) (hin : ∀ x, F' x → x < w1.heap.size) : JS bc nb gv sv p q F0 b0 b1 b2 b3 b4 b5 b6 b7 b8 b9 b10 x10 x11 x12 x13 x14 x15 x16 x17 x18 x19 F' w1 :=
  { h with
    sub := fun x hx => hF x (h.sub x hx)
    inb := hin
    fc := hF _ h.fc
    fb := fun h5 => ⟨hF _ (h.fb h5).1, (hw _ (h.fb h5).1).trans (h.fb h5).2⟩
    i6 := fun h6 h7 => by obtain ⟨ns, e1, e2, e3⟩ := h.i6 h6 h7; exact ⟨ns, e1, hF _ e2, (hw _ e2).trans e3⟩
    hc := by obtain ⟨y, e1, e2⟩ := h.hc; exact ⟨y, (hw _ h.fc).trans e1, e2⟩
    i7 := fun h7 => ⟨owns_rely (h.i7 h7).1 fun g hg => hw g ((h.i7 h7).2 g hg), fun g hg => hF g ((h.i7 h7).2 g hg)⟩
    n7 := fun h7 => ⟨owns_rely (h.n7 h7).1 fun g hg => hw g ((h.n7 h7).2 g hg), fun g hg => hF g ((h.n7 h7).2 g hg)⟩ }
theorem JS.rely (h : JS bc nb gv sv p q F0 b0 b1 b2 b3 b4 b5 b6 b7 b8 b9 b10 x10 x11 x12 x13 x14 x15 x16 x17 x18 x19 F w) {w1 : World} (hr : RelF F w w1) : JS bc nb gv sv p q F0 b0 b1 b2 b3 b4 b5 b6 b7 b8 b9 b10 x10 x11 x12 x13 x14 x15 x16 x17 x18 x19 F w1 :=
  h.grow (fun _ hx => hx) hr.own fun x hx => Nat.lt_of_lt_of_le (h.inb x hx) hr.size
theorem flat_snoc (q : List Pkt) (p : Pkt) : flat (q ++ [p]) = flat q ++ p.cells := by simp [flat]
/-- A row of packets is not the cluster's own record. -/
theorem owns_ne {sv : Value} {n : Nat} {xs : List Value} {bc : Nat} {ys : Array Value} (h : w.ownsRow 0 139 5 sv n xs) (hb : w.heap[bc]? = some (.cells ys 131)) : some bc ≠ sv.ownBlock := by
  intro e
  rcases h.2 with ⟨rfl, _⟩ | ⟨g, cap, cur, rfl, _, hg, _⟩
  · cases e
  · obtain rfl : bc = g := by simpa [Value.ownBlock] using e
    rw [hb] at hg
    injection hg with hg
    injection hg with _ h2 _
    cases h2
end
def tm63 (bc nb : Nat) (p : Pkt) (sv : Value) (n : Nat) (x10 x11 x12 x13 x14 x15 x16 x17 x18 x19 : Value) : Array Value := #[.pointer (some ⟨bc, 0, none⟩), p.val, undef, .pointer (some ⟨nb, 0, none⟩), .pointer (some ⟨bc, 0, none⟩), .pointer (some ⟨bc, 0, none⟩), .pointer (some ⟨bc, 1, none⟩), sv, .int .i64 n, .bool true, x10, x11, x12, x13, x14, x15, x16, x17, x18, x19]
def JI (bc nb : Nat) (gv sv : Value) (p : Pkt) (q : List Pkt) (F0 : Nat → Prop) (n : Nat) (l : Array Bool) (F : Nat → Prop) (a : Act) (w : World) : Prop :=
  ∃ b0 b1 b2 b3 b4 b5 b6 b7 b8 b9 b10 x10 x11 x12 x13 x14 x15 x16 x17 x18 x19, l = #[b0, b1, b2, b3, b4, b5, b6, b7, b8, b9, b10] ∧ n + b0.toNat + b1.toNat + b2.toNat + b3.toNat + b4.toNat + b5.toNat + b6.toNat + b7.toNat + b8.toNat + b9.toNat + b10.toNat = 11 ∧
    a = ⟨tm63 bc nb p sv q.length x10 x11 x12 x13 x14 x15 x16 x17 x18 x19, []⟩ ∧ JS bc nb gv sv p q F0 b0 b1 b2 b3 b4 b5 b6 b7 b8 b9 b10 x10 x11 x12 x13 x14 x15 x16 x17 x18 x19 F w
noncomputable def R63 : Array Oper := co (match cr (cr c63) with | .cond _ x _ => x | c => c)
section
variable {bc nb : Nat} {gv sv : Value} {p : Pkt} {q : List Pkt} {F0 : Nat → Prop} {Stop : (Nat → Prop) → Goroutine → World → Prop} {k : List Item} {cs : List Frame}
theorem ji_step (hq : q.length < 20000) (n : Nat) (l : Array Bool) (F : Nat → Prop) (a : Act) (w : World) (i : Nat) (rest : List Nat) (h : JI bc nb gv sv p q F0 (n + 1) l F a w) (hi : l.getD i true = false) (hr : ∃ o, R63[i]? = some o ∧ ∀ e ∈ o.after, Region.binds .any e = true → l.getD e.on false = true)
    (hk : ∀ F' a' w', JI bc nb gv sv p q F0 n (l.setIfInBounds i true) F' a' w' → GoesF Tryz.prog true Stop F' (G ((Go.Conc.base 63).at a' (.inRegion R63 rest :: k)) cs) w') : GoesF Tryz.prog true Stop F (G ((Go.Conc.base 63).at a (.inRegion R63 (i :: rest) :: k)) cs) w := by
  obtain ⟨b0, b1, b2, b3, b4, b5, b6, b7, b8, b9, b10, x10, x11, x12, x13, x14, x15, x16, x17, x18, x19, rfl, hn, rfl, hJ⟩ := h
  obtain ⟨o, ho, hdep⟩ := hr
  unfold R63 at ho hk ⊢
  simp only [c63, Tryz.f63, cr, co, Option.getD] at ho hk ⊢
  have hlt : i < 11 := by
    have := (Array.getElem?_eq_some_iff.1 ho).1
    simpa using this
  have hcases : i = 0 ∨ i = 1 ∨ i = 2 ∨ i = 3 ∨ i = 4 ∨ i = 5 ∨ i = 6 ∨ i = 7 ∨ i = 8 ∨ i = 9 ∨ i = 10 := by omega
  have hb47 : b4 = false → b7 = false := fun h4 => by
    cases h7 : b7
    · rfl
    · rw [(hJ.i74 h7).1] at h4; cases h4
  have hb710 : b7 = false → b10 = false := fun h7 => by
    cases h10 : b10
    · rfl
    · rw [hJ.i10 h10] at h7; cases h7
  have hb56 : b5 = false → b6 = false := fun h5 => by
    cases h6 : b6
    · rfl
    · rw [hJ.i65 h6] at h5; cases h5
  have hb67 : b6 = false → b7 = false := fun h6 => by
    cases h7 : b7
    · rfl
    · rw [(hJ.i74 h7).2] at h6; cases h6
  unfold tm63
  rcases hcases with rfl | rfl | rfl | rfl | rfl | rfl | rfl | rfl | rfl | rfl | rfl <;> (obtain rfl := Option.some.inj ho; simp [Region.binds] at hi hdep; simp at hk; subst hi)
  · refine Ctl.quiet goesF_c rfl rfl (by decide) _ (fun _ => by go_simp <;> rfl) (fun _ => by simp [go_sem, *]) ?_
    simp [Act.put]
    exact hk F _ w ⟨true, b1, b2, b3, b4, b5, b6, b7, b8, b9, b10, _, x11, x12, x13, x14, x15, x16, x17, x18, x19, rfl, by simp at hn ⊢; omega, rfl, { hJ with i0 := fun _ => rfl }⟩
  · refine Ctl.quiet goesF_c rfl rfl (by decide) _ (fun _ => by go_simp <;> rfl) (fun _ => by simp [go_sem, *]) ?_
    simp [Act.put]
    exact hk F _ w ⟨b0, true, b2, b3, b4, b5, b6, b7, b8, b9, b10, x10, _, x12, x13, x14, x15, x16, x17, x18, x19, rfl, by simp at hn ⊢; omega, rfl, { hJ with i1 := fun _ => rfl }⟩
  · obtain rfl := hJ.i1 hdep
    refine Ctl.quiet goesF_c rfl rfl (by decide) _ (fun _ => by go_simp <;> rfl) (fun _ => by simp [go_sem, *]) ?_
    simp [Act.put]
    exact hk F _ w ⟨b0, b1, true, b3, b4, b5, b6, b7, b8, b9, b10, x10, _, _, x13, x14, x15, x16, x17, x18, x19, rfl, by simp at hn ⊢; omega, rfl, { hJ with i2 := fun _ => rfl }⟩
  · obtain rfl := hJ.i2 hdep
    refine Ctl.quiet goesF_c rfl rfl (by decide) _ (fun _ => by go_simp <;> rfl) (fun _ => by simp [go_sem, *]) ?_
    simp [Act.put]
    exact hk F _ w ⟨b0, b1, b2, true, b4, b5, b6, b7, b8, b9, b10, x10, x11, _, _, x14, x15, x16, x17, x18, x19, rfl, by simp at hn ⊢; omega, rfl, { hJ with i3 := fun _ => rfl }⟩
  · obtain rfl := hJ.i3 hdep
    obtain ⟨y, hy, hy1, _⟩ := hJ.hc
    obtain rfl := hy1 (hb710 (hb47 rfl))
    refine GoesF.load1 rfl rfl (by decide) 72 rfl rfl hJ.fc hy Tryz.underlying72 rfl rfl ?_
    simp [Act.put]
    exact hk F _ w ⟨b0, b1, b2, b3, true, b5, b6, b7, b8, b9, b10, x10, x11, x12, _, _, x15, x16, x17, x18, x19, rfl, by simp at hn ⊢; omega, rfl, { hJ with i4 := fun _ => rfl, i74 := fun h7 => ⟨rfl, (hJ.i74 h7).2⟩ }⟩
  · refine GoesF.loadS rfl rfl (by decide) 139 rfl rfl (hJ.fb rfl).1 (hJ.fb rfl).2 Tryz.underlying139 rfl (n := 5) (by kernel_rfl) (Nat.le_refl 5) p.cells rfl ?_
    simp [Act.put]
    exact hk F _ w ⟨b0, b1, b2, b3, b4, true, b6, b7, b8, b9, b10, x10, x11, x12, x13, x14, _, x16, x17, x18, x19, rfl, by simp at hn ⊢; omega, rfl, { hJ with i5 := fun _ => rfl, fb := fun h => (by cases h), i65 := fun _ => rfl }⟩
  · obtain rfl := hJ.i5 hdep
    refine GoesF.makeK rfl rfl (by decide) (ob := .cells p.cells.toArray 139) (v := fun n => .slice (some ⟨n, 0, none⟩) 1 1) (fun w1 => by simp [go_sem, Pkt.val]) (fun w1 => by unfold Pkt.val; go_simp; rfl) hJ.inb (fun w1 h1 => ?_)
    simp [Act.put]
    have hJ' := (hJ.rely h1).grow (F' := fun x => F x ∨ x = w1.heap.size) (w1 := w1.alloc (.cells p.cells.toArray 139)) (fun x hx => .inl hx) (fun x hx => alloc_old ((hJ.rely h1).inb x hx) _) (fun x hx => by rw [alloc_size]; rcases hx with hx | hx; exact Nat.lt_succ_of_lt ((hJ.rely h1).inb x hx); omega)
    exact hk _ _ _ ⟨b0, b1, b2, b3, b4, b5, true, b7, b8, b9, b10, x10, x11, x12, x13, x14, _, _, x17, x18, x19, rfl, by simp at hn ⊢; omega, rfl, { hJ' with i65 := fun _ => hdep, i6 := fun _ _ => ⟨_, rfl, .inr rfl, alloc_new w1 _⟩, i74 := fun h7 => ⟨(hJ.i74 h7).1, rfl⟩ }⟩
  · obtain rfl := hJ.i4 hdep.1
    obtain ⟨ns, rfl, hns, hnb⟩ := hJ.i6 hdep.2 rfl
    obtain ⟨y, hy, hy1, _⟩ := hJ.hc
    obtain rfl := hb710 rfl
    obtain rfl := hy1 rfl
    obtain ⟨ho, hof⟩ := hJ.n7 rfl
    obtain ⟨ii, hii, hz, hs, hb⟩ : ∃ ii, Tryz.prog.info? 139 = some ii ∧ ii.zero = some (.agg #[.int .u8 0, .int .u8 0, .int .u8 0, .int .u8 0, .string ⟨#[]⟩]) ∧ ii.size = 5 ∧ ii.bytes = 24 := by
      have := info_pkt
      cases hq : Tryz.prog.info? 139 with
      | none => rw [hq] at this; cases this
      | some ii =>
        rw [hq] at this
        simp only [Option.map_some, Option.some.injEq, Prod.mk.injEq] at this
        exact ⟨ii, rfl, this⟩
    refine GoesF.appendK rfl rfl (by decide) rfl 139 ii _ 5 24 Tryz.underlying72 hii hz hs hb rfl (by decide) rfl ho hof rfl hns hnb (news := p.cells) rfl rfl (by simp [Pkt.cells, Value.oneCell']) (by unfold maxLen; omega) (by omega) hJ.inb (fun w1 F' v' w' h1 hsub hin' hnew hown' hF' hkeep => ?_)
    simp [Act.put]
    have hyF : w'.heap[bc]? = some (.cells #[gv, y] 131) := by rw [hkeep bc hJ.fc (owns_ne ho hy), h1.own bc hJ.fc]; exact hy
    rw [← flat_snoc] at hown'
    exact hk F' _ w' ⟨b0, b1, b2, b3, b4, b5, b6, true, b8, b9, false, x10, x11, x12, x13, _, x15, _, v', x18, x19, rfl, by simp at hn ⊢; omega, rfl, { hJ with
      sub := fun x hx => hsub x (hJ.sub x hx)
      inb := hin'
      fc := hsub _ hJ.fc
      fb := fun h5 => by rw [hJ.i65 hdep.2] at h5; cases h5
      i6 := fun _ h => by cases h
      hc := ⟨y, hyF, fun _ => rfl, fun h => (by cases h)⟩
      i74 := fun _ => hdep
      i7 := fun _ => ⟨hown', hF'⟩
      n7 := fun h => by cases h
      i10 := fun h => by cases h }⟩
  · obtain rfl := hJ.i0 hdep.1
    refine Ctl.quiet goesF_c rfl rfl (by decide) _ (fun _ => by go_simp <;> rfl) (fun _ => by simp [go_sem, *]) ?_
    simp [Act.put]
    exact hk F _ w ⟨b0, b1, b2, b3, b4, b5, b6, b7, true, b9, b10, _, x11, x12, x13, x14, x15, x16, x17, _, x19, rfl, by simp at hn ⊢; omega, rfl, { hJ with i8 := fun _ => rfl }⟩
  · obtain rfl := hJ.i8 hdep.1
    refine Ctl.quiet goesF_c rfl rfl (by decide) _ (fun _ => by go_simp <;> rfl) (fun _ => by simp [go_sem, *]) ?_
    simp [Act.put]
    exact hk F _ w ⟨b0, b1, b2, b3, b4, b5, b6, b7, b8, true, b10, x10, x11, x12, x13, x14, x15, x16, x17, _, _, rfl, by simp at hn ⊢; omega, rfl, { hJ with i9 := fun _ => rfl }⟩
  · obtain rfl := hJ.i9 hdep.1
    obtain ⟨y, hy, _, _⟩ := hJ.hc
    have h7 : b7 = true := hdep.2.1
    obtain ⟨ho, hof⟩ := hJ.i7 h7
    have hv : x17.cells = #[x17] ∧ x17.oneCell' = true := by
      rcases ho.2 with ⟨rfl, _⟩ | ⟨g, cap, cur, rfl, _⟩ <;> exact ⟨rfl, rfl⟩
    refine GoesF.storeS rfl rfl (by decide) 72 rfl rfl (v := x17) rfl hJ.fc hy (by rw [hv.1]; kernel_rfl) (by rw [hv.1]; simp [hv.2]) (by rw [hv.1]; exact Nat.le_refl 2) [gv, x17] (by rw [hv.1]; rfl) (fun w1 w' h1 hb hne hsz hos hou => ?_)
    simp [Act.put]
    have hbc : ∀ g, x17.ownBlock = some g → g ≠ bc := fun g hg e => owns_ne ho hy (by rw [hg, e])
    exact hk F _ w' ⟨b0, b1, b2, b3, b4, b5, b6, b7, b8, b9, true, x10, x11, x12, x13, x14, x15, x16, x17, x18, _, rfl, by simp at hn ⊢; omega, rfl, { hJ with
      inb := fun x hx => by rw [hsz]; exact Nat.lt_of_lt_of_le (hJ.inb x hx) h1.size
      fb := fun h5 => by have := hb67 (hb56 h5); rw [h7] at this; cases this
      i6 := fun _ h => by rw [h7] at h; cases h
      hc := ⟨x17, hb, fun h => (by cases h), fun _ => rfl⟩
      i7 := fun _ => ⟨owns_rely ho fun g hg => by rw [hne g (hbc g hg), h1.own g (hof g hg)], hof⟩
      n7 := fun h => by rw [h7] at h; cases h
      i10 := fun _ => h7 }⟩
end
theorem ready_nil {ops : Array Oper} {l : Array Bool} (hr : Region.ready .any ops l = []) (i : Nat) {o : Oper} (ho : ops[i]? = some o) (hd : ∀ e ∈ o.after, Region.binds .any e = true → l.getD e.on false = true) : l.getD i true = true := by
  cases h : l.getD i true
  · have : i ∈ Region.ready .any ops l := mem_ready.2 ⟨h, o, ho, hd⟩
    rw [hr] at this
    cases this
  · rfl
section
variable {bc nb : Nat} {gv sv : Value} {p : Pkt} {q : List Pkt} {F F0 : Nat → Prop} {w : World} {Stop : (Nat → Prop) → Goroutine → World → Prop} {cs : List Frame}
theorem ji_end {n : Nat} {l : Array Bool} {a : Act} (h : JI bc nb gv sv p q F0 n l F a w) (hn : n = 0 ∨ Region.ready .any R63 l = []) : a.defers = [] ∧ (∀ x, F0 x → F x) ∧ (∀ x, F x → x < w.heap.size) ∧ ∃ sv', w.heap[bc]? = some (.cells #[gv, sv'] 131) ∧ w.ownsRow 0 139 5 sv' (q.length + 1) (flat (q ++ [p])) ∧ ∀ g, sv'.ownBlock = some g → F g := by
  obtain ⟨b0, b1, b2, b3, b4, b5, b6, b7, b8, b9, b10, x10, x11, x12, x13, x14, x15, x16, x17, x18, x19, rfl, hs, rfl, hJ⟩ := h
  have h10 : b10 = true := by
    rcases hn with rfl | hr
    · have tn : ∀ b : Bool, b.toNat ≤ 1 := fun b => by cases b <;> decide
      have := tn b0; have := tn b1; have := tn b2; have := tn b3; have := tn b4; have := tn b5; have := tn b6; have := tn b7; have := tn b8; have := tn b9
      cases b10
      · simp at hs; omega
      · rfl
    · have hh := fun i o ho hd => ready_nil (i := i) (o := o) hr ho hd
      unfold R63 at hh
      simp only [c63, Tryz.f63, cr, co, Option.getD] at hh
      have e0 := hh 0 _ rfl (by simp)
      have e1 := hh 1 _ rfl (by simp)
      have e5 := hh 5 _ rfl (by simp)
      simp only [Array.getD_eq_getD_getElem?, List.getElem?_toArray, List.getElem?_cons_succ, List.getElem?_cons_zero, Option.getD_some] at e0 e1 e5
      subst e0 e1 e5
      have e2 := hh 2 _ rfl (by simp)
      simp only [Array.getD_eq_getD_getElem?, List.getElem?_toArray, List.getElem?_cons_succ, List.getElem?_cons_zero, Option.getD_some] at e2
      subst e2
      have e3 := hh 3 _ rfl (by simp)
      simp only [Array.getD_eq_getD_getElem?, List.getElem?_toArray, List.getElem?_cons_succ, List.getElem?_cons_zero, Option.getD_some] at e3
      subst e3
      have e4 := hh 4 _ rfl (by simp)
      have e6 := hh 6 _ rfl (by simp)
      simp only [Array.getD_eq_getD_getElem?, List.getElem?_toArray, List.getElem?_cons_succ, List.getElem?_cons_zero, Option.getD_some] at e4 e6
      subst e4 e6
      have e7 := hh 7 _ rfl (by simp)
      simp only [Array.getD_eq_getD_getElem?, List.getElem?_toArray, List.getElem?_cons_succ, List.getElem?_cons_zero, Option.getD_some] at e7
      subst e7
      have e8 := hh 8 _ rfl (by simp)
      simp only [Array.getD_eq_getD_getElem?, List.getElem?_toArray, List.getElem?_cons_succ, List.getElem?_cons_zero, Option.getD_some] at e8
      subst e8
      have e9 := hh 9 _ rfl (by simp)
      simp only [Array.getD_eq_getD_getElem?, List.getElem?_toArray, List.getElem?_cons_succ, List.getElem?_cons_zero, Option.getD_some] at e9
      subst e9
      have e10 := hh 10 _ rfl (by simp)
      simpa using e10
  obtain ⟨y, hy, _, hy2⟩ := hJ.hc
  obtain rfl := hy2 h10
  exact ⟨rfl, hJ.sub, hJ.inb, y, hy, (hJ.i7 (hJ.i10 h10)).1, (hJ.i7 (hJ.i10 h10)).2⟩
/-- JOIN. -/
theorem join_F {cF : Frame} (hF : F bc) (hC : w.heap[bc]? = some (.cells #[gv, sv] 131)) (ho : w.ownsRow 0 139 5 sv q.length (flat q)) (hof : ∀ g, sv.ownBlock = some g → F g) (hin : ∀ x, F x → x < w.heap.size) (hq : q.length ≤ 20000)
    (h : ∀ F' w' sv', (∀ x, F x → F' x) → (∀ x, F' x → x < w'.heap.size) → w'.heap[bc]? = some (.cells #[gv, sv'] 131) → w'.ownsRow 0 139 5 sv' ((q ++ [p]).take 20000).length (flat ((q ++ [p]).take 20000)) → (∀ g, sv'.ownBlock = some g → F' g) → GoesF Tryz.prog true Stop F' (G (cF.finish (.tuple #[])) cs) w') :
    GoesF Tryz.prog true Stop F (G (Frame.enter Tryz.prog 63 #[.pointer (some ⟨bc, 0, none⟩), p.val] .normal) (cF :: cs)) w := by
  have hsl : ∃ sa cap, sv = .slice sa q.length cap := by
    rcases ho.2 with ⟨h, h0⟩ | ⟨g, cap, cur, h, _⟩
    · exact ⟨none, 0, by rw [h, h0]⟩
    · exact ⟨_, cap, h⟩
  obtain ⟨sa, cap, hsl⟩ := hsl
  have hlv : ∀ (a' : Act) (todo : List Item) (F' : Nat → Prop) (w' : World), a'.defers = [] → GoesF Tryz.prog true Stop F' (G (cF.finish (.tuple #[])) cs) w' → GoesF Tryz.prog true Stop F' (G { (Go.Conc.base 63).at a' todo with mode := .returning } (cF :: cs)) w' := fun a' todo F' w' hd hg =>
    goesF_c.go rfl (fun w => stepG_leave (b := Go.Conc.base 63) (fn := Tryz.f63) rfl hd Tryz.func63 (results_none rfl _ _ _) (events_results_none rfl _ _)) hg
  rw [enter63]
  simp only [c63, Tryz.f63, Option.getD]
  refine Ctl.seq goesF_c ?_
  refine Ctl.region goesF_c _ rfl ?_
  simp [List.range, List.range.loop]
  refine GoesF.makeK rfl rfl (by decide) (ob := .cells p.cells.toArray 139) (v := fun n => .pointer (some ⟨n, 0, none⟩)) (fun w1 => by simp [go_sem]) (fun w1 => by unfold Pkt.val; go_simp; rfl) hin (fun w1 h1 => ?_)
  simp [Act.put]
  have hst := ji_step (bc := bc) (nb := w1.heap.size) (gv := gv) (sv := sv) (p := p) (q := q) (F0 := F) (Stop := Stop) (k := []) (cs := cF :: cs)
  have hen := fun n l a F' w' => ji_end (bc := bc) (nb := w1.heap.size) (gv := gv) (sv := sv) (p := p) (q := q) (F0 := F) (n := n) (l := l) (a := a) (F := F') (w := w')
  unfold R63 at hst hen
  simp only [c63, Tryz.f63, cr, co, Option.getD] at hst hen
  have hC1 : (w1.alloc (.cells p.cells.toArray 139)).heap[bc]? = some (.cells #[gv, sv] 131) := by rw [alloc_old (Nat.lt_of_lt_of_le (hin bc hF) h1.size), h1.own bc hF]; exact hC
  refine Ctl.regionEnd goesF_c ?_
  refine Ctl.seq goesF_c ?_
  refine Ctl.region goesF_c _ rfl ?_
  simp [List.range, List.range.loop]
  refine Ctl.quiet goesF_c rfl rfl (by decide) _ (fun _ => by go_simp <;> rfl) (fun _ => by simp [go_sem, *]) ?_
  simp [Act.put]
  refine Ctl.quiet goesF_c rfl rfl (by decide) _ (fun _ => by go_simp <;> rfl) (fun _ => by simp [go_sem, *]) ?_
  simp [Act.put]
  refine Ctl.quiet goesF_c rfl rfl (by decide) _ (fun _ => by go_simp <;> rfl) (fun _ => by simp [go_sem, *]) ?_
  simp [Act.put]
  refine GoesF.load1 rfl rfl (by decide) 72 rfl rfl (.inl hF) hC1 Tryz.underlying72 rfl rfl ?_
  simp [Act.put]
  subst hsl
  refine Ctl.quiet goesF_c rfl rfl (by decide) _ (fun _ => by go_simp <;> rfl) (fun _ => by simp [go_sem, *]) ?_
  simp [Act.put]
  refine Ctl.quiet goesF_c rfl rfl (by decide) _ (fun _ => by go_simp <;> rfl) (fun _ => by simp [go_sem, *]) ?_
  simp [Act.put]
  refine Ctl.regionEnd goesF_c ?_
  refine Ctl.cond goesF_c (decide ((q.length : Int) < 20000)) rfl ?_
  have hg1 : ∀ x, F x → (w1.alloc (.cells p.cells.toArray 139)).heap[x]? = w.heap[x]? := fun x hx => by rw [alloc_old (Nat.lt_of_lt_of_le (hin x hx) h1.size), h1.own x hx]
  have hin1 : ∀ x, (F x ∨ x = w1.heap.size) → x < (w1.alloc (.cells p.cells.toArray 139)).heap.size := fun x hx => by
    rw [alloc_size]
    rcases hx with hx | hx
    · have := hin x hx; have := h1.size; omega
    · omega
  by_cases hlt : q.length < 20000
  · have hlt' : (q.length : Int) < 20000 := by omega
    simp only [hlt', decide_true, if_true]
    have htk : (q ++ [p]).take 20000 = q ++ [p] := List.take_of_length_le (by simp; omega)
    rw [htk] at h
    refine GoesF.drawn (by kernel_rfl) (JI bc w1.heap.size gv (.slice sa q.length cap) p q F) (fun w2 h2 => ?_) (fun n l F a w i rest => hst hlt n l F a w i rest) (fun n l F' a w' hI hn => ?_)
    · refine ⟨false, false, false, false, false, false, false, false, false, false, false, undef, undef, undef, undef, undef, undef, undef, undef, undef, undef, rfl, rfl, rfl, JS.rely ?_ h2⟩
      exact ⟨nofun, nofun, nofun, nofun, nofun, nofun, nofun, nofun, fun x hx => .inl hx, hin1, .inl hF, fun _ => ⟨.inr rfl, alloc_new _ _⟩, nofun, nofun, ⟨_, hC1, fun _ => rfl, nofun⟩, nofun, nofun, fun _ => ⟨owns_rely ho fun g hg => hg1 g (hof g hg), fun g hg => .inl (hof g hg)⟩, nofun⟩
    · obtain ⟨hd, hsub, hin', sv', e1, e2, e3⟩ := hen _ _ _ _ _ hI hn
      exact Ctl.fin goesF_c (hlv a _ F' w' hd (h F' w' sv' hsub hin' e1 (by simpa using e2) e3))
  · have hlt' : ¬ (q.length : Int) < 20000 := by omega
    simp only [hlt', decide_false, Bool.false_eq_true, if_false]
    have htk : (q ++ [p]).take 20000 = q := by
      rw [List.take_append_of_le_length (by omega), List.take_of_length_le (by omega)]
    rw [htk] at h
    refine Ctl.skip goesF_c ?_
    refine Ctl.fin goesF_c (hlv _ _ _ _ rfl (h _ _ _ (fun x hx => .inl hx) hin1 hC1 (owns_rely ho fun g hg => hg1 g (hof g hg)) fun g hg => .inl (hof g hg)))
end
end
end Go.Proofs.YtignemioillaiaaGreat
