/- others, peers, send. -/
import Derived.Test.YtignemioillaiaaGreatG33
namespace Go.Proofs.YtignemioillaiaaGreat
set_option maxHeartbeats 8000000
set_option maxRecDepth 100000
section
open Go Go.Conc Go.RowKit
structure GS (A : Nat → Prop) (w w' : World) : Prop where
  os : w'.os = w.os
  out : w'.output = w.output
  size : w.heap.size ≤ w'.heap.size
  block : ∀ x, x < w.heap.size → ¬ A x → w'.heap[x]? = w.heap[x]?
theorem GS.refl (A : Nat → Prop) (w : World) : GS A w w := ⟨rfl, rfl, Nat.le_refl _, fun _ _ _ => rfl⟩
theorem GS.then {A B : Nat → Prop} {a b c : World} (h : GS A a b) (k : GS B b c) (hB : ∀ x, B x → A x ∨ a.heap.size ≤ x) : GS A a c :=
  ⟨k.os.trans h.os, k.out.trans h.out, Nat.le_trans h.size k.size, fun x hx hA => (k.block x (Nat.lt_of_lt_of_le hx h.size) fun hb => (hB x hb).elim hA fun hl => absurd hx (by omega)).trans (h.block x hx hA)⟩
theorem GS.trans {A : Nat → Prop} {a b c : World} (h : GS A a b) (k : GS A b c) : GS A a c := h.then k fun _ hx => .inl hx
theorem GB.gs {r : Option Nat} {w w' : World} (h : GB r w w') : GS (fun x => some x = r) w w' := ⟨h.os, h.out, h.size, fun x hx hr => h.block x hx hr⟩
theorem GS.gb {A : Nat → Prop} {a b c : World} {r : Option Nat} (h : GS A a b) (k : GB r b c) (hr : ∀ x, r = some x → A x ∨ a.heap.size ≤ x) : GS A a c := h.then k.gs fun x hx => hr x hx.symm
theorem GS.ek {A : Nat → Prop} {a b c : World} (h : GS A a b) (k : GB none b c) : GS A a c := h.gb k nofun
theorem GS.get {A : Nat → Prop} {w w' : World} (h : GS A w w') {x : Nat} {o : Obj} (hx : w.heap[x]? = some o) (hr : ¬ A x) : w'.heap[x]? = some o := (h.block x (dz hx) hr).trans hx
structure WS (A : Nat → Prop) (w0 w : World) (br : Nat) (r : Rp) (ps : List cB) : Prop where
  mem : r.At w br
  at_ : A br
  gs : GS A w0 w
  own : w.ownsRow 0 139 5 r.ob ps.length (flat ps)
  new : ∀ g, r.ob.ownBlock = some g → w0.heap.size ≤ g
theorem WS.ek {A : Nat → Prop} {w0 w w' : World} {br : Nat} {r : Rp} {ps : List cB} (h : WS A w0 w br r ps) (k : GB none w w') : WS A w0 w' br r ps :=
  ⟨k.get h.mem nofun, h.at_, h.gs.ek k, (k.oF []).own h.own (by decide), h.new⟩
theorem WS.put {A : Nat → Prop} {w0 w w' : World} {br : Nat} {r r' : Rp} {ps : List cB} (h : WS A w0 w br r ps) (k : GB (some br) w w') (hm : r'.At w' br) (ho : r'.ob = r.ob) : WS A w0 w' br r' ps :=
  ⟨hm, h.at_, h.gs.gb k fun x hx => by cases hx; exact .inl h.at_, by rw [ho]; exact (k.kp (T := [152]) fun b hb => by cases hb; exact ⟨_, _, _, h.mem, by decide⟩).own h.own (by decide), by rw [ho]; exact h.new⟩
def lT (rg ri g : Int) : Nat → List (Int × Int)
  | 0 => []
  | k + 1 => lT rg ri g k ++ if rg = g ∧ ri = (k : Int) then [] else [(g, (k : Int))]
def yo (l : List (Int × Int)) : List Value := l.flatMap fun a => [.int .u8 a.1, .int .u8 a.2]
theorem zm (rg ri g : Int) (k : Nat) : (lT rg ri g k).length ≤ k := by
  induction k with
  | zero => exact Nat.le_refl _
  | succ k ih => unfold lT; rw [List.length_append]; split <;> simp <;> omega
theorem Pj {rg ri g : Int} {k : Nat} (h : rg = g ∧ ri = k) : lT rg ri g (k + 1) = lT rg ri g k := by
  show lT rg ri g k ++ _ = _
  rw [if_pos h, List.append_nil]
theorem Pk {rg ri g : Int} {k : Nat} (h : ¬(rg = g ∧ ri = k)) : lT rg ri g (k + 1) = lT rg ri g k ++ [(g, (k : Int))] := by
  show lT rg ri g k ++ _ = _
  rw [if_neg h]
theorem MO : (Tryz.prog.info? 66).map (fun i => (i.zero, i.size, i.bytes)) = some (some (.agg #[.int .u8 0, .int .u8 0]), 2, 2) := by kernel_rfl
def bE (b : Nat) (o : Obj) (c : Nat) (p : Obj) (w : World) : Prop := bR b o w ∧ bR c p w
theorem bE.same {b : Nat} {o : Obj} {c : Nat} {p : Obj} : ∀ w w', di w w' → bE b o c p w → bE b o c p w' := fun w w' hs h => ⟨bR.same w w' hs h.1, bR.same w w' hs h.2⟩
noncomputable def c159 : Code := Tryz.f159.body.getD .skip
theorem IZ : Tryz.f159.body = some c159 := by
  unfold c159
  rfl
theorem Pm (x0 x1 : Value) : Frame.enter Tryz.prog 159 #[x0, x1] .normal = (Go.Conc.base 159).at ⟨#[x0, x1, undef, undef, undef, undef, undef, undef, undef, undef, undef, undef, undef, undef, undef, undef, undef, undef, undef, undef, undef, undef, undef, undef, undef, undef, undef, undef, undef, undef, undef], []⟩ [.code c159] := by
  have h := enter_at (P := Tryz.prog) #[x0, x1] Tryz.func159 IZ
  rw [show Tryz.f159.ntmps = 31 from rfl] at h
  rw [h]
  walk_nrm
theorem KC (r : Rp) (w : World) (br : Nat) (hB : r.At w br) (g sz : Nat) (hsz : r.sz = sz) (_hs : sz ≤ 5) (_hg8 : g < 256) :
    aX Tryz.prog 159 #[.pointer (some ⟨br, 0, none⟩), .int .u8 g] w (fun v w' => w'.ownsRow 0 66 2 v (lT r.g r.i g sz).length (yo (lT r.g r.i g sz)) ∧ (∀ b, v.ownBlock = some b → w.heap.size ≤ b) ∧ GB none w w') := by
  intro main D X cs hX hk
  rw [Pm]
  simp only [c159, Tryz.f159, Option.getD]
  refine xw ?_
  refine Shut.bY hX rfl rfl xB rfl rfl hB (by kernel_rfl) (v := .int .i64 r.sz) rfl ?_
  refine xn ?_
  rw [hsz]
  refine xw ?_
  refine hX.vN (fun m a w' => ∃ (k : Nat) (s : Value), m = sz - k ∧ k ≤ sz ∧ (∃ ys : Nat → Value, a = ⟨#[.pointer (some ⟨br, 0, none⟩), .int .u8 g, ys 2, ys 3, ys 4, s, ys 6, ys 7, ys 8, ys 9, ys 10, .int .i64 sz, .int .i64 (k : Nat), ys 13, ys 14, ys 15, ys 16, ys 17, ys 18, ys 19, ys 20, ys 21, ys 22, ys 23, ys 24, ys 25, ys 26, ys 27, ys 28, ys 29, ys 30], []⟩) ∧  w'.ownsRow 0 66 2 s (lT r.g r.i g k).length (yo (lT r.g r.i g k)) ∧ (∀ b, s.ownBlock = some b → w.heap.size ≤ b) ∧ GB none w w') ?_ ⟨0, .slice none 0 0, rfl, Nat.zero_le _, dM rfl, qj _ _ _, nofun, GB.refl _ _⟩
  rintro m a w1 ⟨k, s, rfl, hk5, ⟨ys, rfl⟩, ho, hs0, g1⟩ hback
  refine xg ?_
  by_cases hlt : k < sz
  · have hlt' : (k : Int) < sz := by omega
    refine xw ?_
    rw [Bt k (by omega)]
    refine Shut.cK hX rfl rfl xB xO (ob := .cells #[.int .u8 0, .int .u8 0] 66) (v := fun b => .pointer (some ⟨b, 0, none⟩)) (fun w1 _ => by go_simp <;> rfl) (fun w2 b2 hb2 g2 l2 => ?_)
    refine xn ?_
    refine xw ?_
    refine Shut.df hX rfl rfl xB _ rfl rfl (v := .agg #[.int .u8 g, .int .u8 k]) rfl hb2 (by kernel_rfl) rfl (Nat.le_of_ble_eq_true rfl) [.int .u8 g, .int .u8 k] rfl (fun w3 hb3 o3 => ?_)
    refine xn ?_
    refine xw ?_
    have g13 : GB none w1 w3 := g2.fresh (GB.only o3) l2
    have g3 : GB none w w3 := g1.trans g13
    have ho3 := (g13.oF []).own ho (by decide)
    have hB3 : r.At w3 br := g3.get hB nofun
    have hS2 : bE b2 (.cells #[.int .u8 g, .int .u8 k] 66) br (.cells r.cells.toArray 152) w3 := ⟨hb3, hB3⟩
    refine xg ?_
    refine Shut.drawn hX xB (by kernel_rfl) (bE b2 (.cells #[.int .u8 g, .int .u8 k] 66) br (.cells r.cells.toArray 152)) 5 ?_ bE.same
    show AnyX _ _ _ _ _ _ _ _ 6 #[false, false, false, false, false, false] _ _
    refine AnyX.take hX bE.same 1 rfl (by decide) xK xK xK xY hS2 ?_
    refine xn ?_
    refine AnyX.take hX bE.same 2 rfl (by decide) xK xK xK xY hS2 ?_
    refine xn ?_
    refine AnyX.take hX bE.same 3 rfl (by decide) xK xK xK xY hS2 ?_
    refine xn ?_
    refine AnyX.fu hX bE.same 0 rfl rfl xK xK xK (by kernel_rfl) (.inl ⟨rfl, bZ rfl, fun _ h => iA rfl rfl h.1 (by kernel_rfl) [.int .u8 g, .int .u8 k] (by kernel_rfl) (Nat.le_of_ble_eq_true rfl) rfl⟩) hS2 ?_
    refine xn ?_
    refine AnyX.fu hX bE.same 4 rfl rfl xK xK xK (by kernel_rfl) (.inl ⟨rfl, bZ rfl, fun _ h => iA rfl rfl h.2 (by kernel_rfl) [.int .u8 r.g, .int .u8 r.i] (by kernel_rfl) (Nat.le_of_ble_eq_true rfl) rfl⟩) hS2 ?_
    refine xn ?_
    refine AnyX.fin hX 5 rfl rfl xK xK xK xO (.bool (!(decide ((g : Int) = r.g) && decide ((k : Int) = r.i)))) (fun w => ?_) ?_
    · go_simp
      by_cases e1 : (g : Int) = r.g <;> by_cases e2 : (k : Int) = r.i <;> simp [e1, e2]
    refine xm ?_
    by_cases hsame : r.g = g ∧ r.i = k
    · have e0 : (!(decide ((g : Int) = r.g) && decide ((k : Int) = r.i))) = false := by simp [hsame.1, hsame.2]
      rw [e0]
      refine xw ?_
      rw [oU k (by omega)]
      refine hback _ _ _ ?_ ⟨k + 1, s, rfl, by omega, dM rfl, ?_, hs0, g3⟩
      · omega
      · rw [Pj hsame]
        exact ho3
    · have e0 : (!(decide ((g : Int) = r.g) && decide ((k : Int) = r.i))) = true := by
        by_cases e1 : (g : Int) = r.g <;> by_cases e2 : (k : Int) = r.i <;> simp [e1, e2]
        exact hsame ⟨e1.symm, e2.symm⟩
      rw [e0]
      refine xw ?_
      refine Shut.dF hX rfl rfl xB rfl rfl hb3 (by kernel_rfl) [.int .u8 g, .int .u8 k] (by kernel_rfl) (Nat.le_of_ble_eq_true rfl) rfl ?_
      refine xn ?_
      refine xw ?_
      refine Shut.cK hX rfl rfl xB xO (ob := .cells #[.int .u8 g, .int .u8 k] 66) (v := fun b => .slice (some ⟨b, 0, none⟩) 1 1) (fun w1 _ => by go_simp <;> rfl) (fun w4 b4 hb4 g4 l4 => ?_)
      refine xn ?_
      refine xw ?_
      have wU := (g4.oF []).own ho3 (by decide)
      have hol := zm r.g r.i g k
      obtain ⟨ii, hii, hz, hs, hb⟩ := nQ MO
      refine Shut.mQ hX rfl rfl xB rfl 66 ii _ _ _ (by kernel_rfl) hii hz hs hb rfl (by decide) rfl wU rfl hb4 (news := [.int .u8 g, .int .u8 k]) rfl rfl (by first | assumption | simp [Value.oneCell']) (by unfold maxLen; omega) (by omega) (fun v' w5 Yn g5 l5 => ?_)
      clear hb hs hz hii ii
      refine xn ?_
      refine xw ?_
      rw [oU k (by omega)]
      refine hback _ _ _ ?_ ⟨k + 1, v', rfl, by omega, dM rfl, ?_, ?_, ?_⟩
      · omega
      · rw [Pk hsame]
        rw [List.length_append, show yo (lT r.g r.i g k ++ [((g : Int), (k : Int))]) = yo (lT r.g r.i g k) ++ [.int .u8 g, .int .u8 k] by simp [yo]]
        exact Yn
      · intro b hb
        rcases l5 b hb with h | h
        · exact hs0 b h
        · have := g3.size; have := g4.size; omega
      · exact (g3.trans g4).newer g5 hs0
  · have hlt' : ¬ (k : Int) < sz := by omega
    obtain rfl : k = sz := by omega
    refine xw ?_
    refine xg ?_
    refine aj.ret hX.c ?_
    exact hk _ _ _ rfl (cu rfl Tryz.func159 rfl) ⟨ho, hs0, g1⟩
noncomputable def c109 : Code := Tryz.f109.body.getD .skip
theorem I1 : Tryz.f109.body = some c109 := by
  unfold c109
  rfl
theorem Pn (x0 : Value) : Frame.enter Tryz.prog 109 #[x0] .normal = (Go.Conc.base 109).at ⟨#[x0, undef, undef, undef, undef, undef, undef, undef, undef, undef], []⟩ [.code c109] := by
  have h := enter_at (P := Tryz.prog) #[x0] Tryz.func109 I1
  rw [show Tryz.f109.ntmps = 10 from rfl] at h
  rw [h]
  walk_nrm
theorem MP (r : Rp) (w : World) (br : Nat) (hB : r.At w br) (g sz : Nat) (hg : r.g = g) (hsz : r.sz = sz) (hs : sz ≤ 5) (ll : g < 256) :
    aX Tryz.prog 109 #[.pointer (some ⟨br, 0, none⟩)] w (fun v w' => w'.ownsRow 0 66 2 v (lT r.g r.i r.g sz).length (yo (lT r.g r.i r.g sz)) ∧ (∀ b, v.ownBlock = some b → w.heap.size ≤ b) ∧ GB none w w') := by
  intro main D X cs hX hk
  rw [Pn]
  simp only [c109, Tryz.f109, Option.getD]
  refine xw ?_
  refine Shut.bY hX rfl rfl xB rfl rfl hB (by kernel_rfl) (v := .int .u8 r.g) rfl ?_
  refine xn ?_
  rw [hg] at hk ⊢
  have ho := KC r w br hB g sz hsz hs ll
  rw [hg] at ho
  refine xw ?_
  refine Shut.bQ hX rfl rfl xB rfl Tryz.func159 (by kernel_rfl) (by rw [IZ]; rfl) ho xk ?_
  rintro v w1 ⟨h1, h2, h3⟩
  refine xm ?_
  refine xw ?_
  refine xg ?_
  refine aj.ret hX.c ?_
  exact hk _ _ _ rfl (cu rfl Tryz.func109 rfl) ⟨h1, h2, h3⟩
theorem u7 {w : World} {e : TypeId} {size n : Nat} {v : Value} {xs : List Value} (h : w.ownsRow 0 e size v n xs) (_hn : 0 < n) : ∃ g cap cur, v = .slice (some ⟨g, 0, none⟩) n cap ∧ w.heap[g]? = some (.cells cur e) ∧ cur.toList.take (n * size) = xs ∧ n * size ≤ cur.size := by
  rcases h.2 with ⟨_, h1⟩ | ⟨g, cap, cur, h1, _, h2, h3, h4, h5, h6⟩
  · omega
  · refine ⟨g, cap, cur, h1, h2, h6, ?_⟩
    have := h.1
    have h7 := congrArg List.length h6
    rw [List.length_take, Array.length_toList] at h7
    omega
theorem DJ {cur xs : List Value} {n size k : Nat} (h : cur.take (n * size) = xs) (hk : k < n) : (cur.drop (k * size)).take size = (xs.drop (k * size)).take size := by
  subst h
  rw [List.drop_take, List.take_take]
  have : k * size + size ≤ n * size := by rw [← Nat.succ_mul]; exact Nat.mul_le_mul_right _ hk
  rw [Nat.min_eq_left (by omega)]
theorem I4 : ∀ {l : List (Int × Int)} {k : Nat} {a : Int × Int}, l[k]? = some a → ((yo l).drop (k * 2)).take 2 = [.int .u8 a.1, .int .u8 a.2]
  | [], _, _, h => by simp at h
  | x :: l, 0, a, h => by simp at h; subst h; simp [yo]
  | x :: l, k + 1, a, h => by
    have := I4 (l := l) (k := k) (a := a) (by simpa using h)
    rw [show (k + 1) * 2 = k * 2 + 1 + 1 by omega]
    simpa [yo] using this
noncomputable def KD : Code := Tryz.f108.body.getD .skip
theorem zn : Tryz.f108.body = some KD := by
  unfold KD
  rfl
theorem Po (x0 x1 x2 : Value) : Frame.enter Tryz.prog 108 #[x0, x1, x2] .normal = (Go.Conc.base 108).at ⟨#[x0, x1, x2, undef, undef, undef, undef, undef, undef, undef, undef, undef, undef, undef, undef, undef, undef, undef, undef, undef, undef, undef, undef, undef, undef, undef, undef, undef, undef, undef, undef, undef, undef, undef, undef, undef, undef, undef], []⟩ [.code KD] := by
  have h := enter_at (P := Tryz.prog) #[x0, x1, x2] Tryz.func108 zn
  rw [show Tryz.f108.ntmps = 38 from rfl] at h
  rw [h]
  walk_nrm
noncomputable def Uu : Code := Tryz.f158.body.getD .skip
theorem Sv : Tryz.f158.body = some Uu := by
  unfold Uu
  rfl
def lL (r : Rp) (d : ByteArray) (a : Int × Int) : cB := ⟨r.g, r.i, a.1, a.2, d⟩
theorem GR {w : World} {v : Value} {Q : List cB} {p : cB} (h : w.ownsRow 0 139 5 v (Q.length + 1) (flat Q ++ p.cells)) : w.ownsRow 0 139 5 v (Q ++ [p]).length (flat (Q ++ [p])) := by
  rw [List.length_append, show flat (Q ++ [p]) = flat Q ++ p.cells by simp [flat]]
  exact h
theorem Bu {A : Nat → Prop} {w0 : World} (m : List Value) (hm : m.length = 45) (d : ByteArray) (r : Rp) (w : World) (br : Nat) (ps : List cB) (h : WS A w0 w br r ps) (tv : Value) (tl : List (Int × Int)) (ht : w.ownsRow 0 66 2 tv tl.length (yo tl)) (_hps : ps.length + tl.length < 1000000)
    (hM : ∀ w1, GB none w w1 → aX Tryz.prog 158 #[.agg m.toArray] w1 (fun v w' => (∃ e, v = .tuple #[.string d, .int .i64 e]) ∧ GB none w1 w')) :
    aX Tryz.prog 108 #[.pointer (some ⟨br, 0, none⟩), .agg m.toArray, tv] w (fun v w' => v = .tuple #[] ∧ ∃ ob, WS A w0 w' br { r with ob := ob } (ps ++ tl.map (lL r d)) ∧ Kp [139, 152] w w') := by
  intro main D X cs hX hk
  obtain ⟨ta, tc, rfl⟩ := iU ht
  rw [Po]
  simp only [KD, Tryz.f108, Option.getD]
  refine xw ?_
  refine Shut.cK hX rfl rfl xB xO (ob := .cells m.toArray 203) (v := fun b => .pointer (some ⟨b, 0, none⟩)) (fun w1 _ => by go_simp <;> rfl) (fun w1 b1 hb1 g1 l1 => ?_)
  refine xn ?_
  refine xw ?_
  refine Shut.dF hX rfl rfl (by decide) rfl rfl hb1 (by kernel_rfl) m (by rw [hm]; kernel_rfl) (by simp) (by simp) ?_
  refine xm ?_
  refine xw ?_
  refine Shut.bQ hX rfl rfl xB rfl Tryz.func158 (by kernel_rfl) (by rw [Sv]; rfl) (hM w1 g1) xk ?_
  rintro v w2 ⟨⟨e, rfl⟩, g2⟩
  refine xm ?_
  refine xw ?_
  have h2 : WS A w0 w2 br r ps := (h.ek g1).ek g2
  have ht2 := ((g1.trans g2).oF []).own ht (by decide)
  have k2 : Kp [139, 152] w w2 := (g1.trans g2).oF _
  refine hX.vN (fun q a w' => ∃ (k : Nat) (ob : Value), q = tl.length - k ∧ k ≤ tl.length ∧ (∃ ys : Nat → Value, a = ⟨#[.pointer (some ⟨br, 0, none⟩), ys 1, .slice ta tl.length tc, ys 3, ys 4, ys 5, .string d, ys 7, ys 8, ys 9, ys 10, ys 11, ys 12, ys 13, ys 14, .slice ta tl.length tc, .int .i64 (tl.length : Nat), .int .i64 (k : Nat), ys 18, ys 19, ys 20, ys 21, ys 22, ys 23, ys 24, ys 25, ys 26, ys 27, ys 28, ys 29, ys 30, ys 31, ys 32, ys 33, ys 34, ys 35, ys 36, ys 37], []⟩) ∧  WS A w0 w' br { r with ob := ob } (ps ++ (tl.take k).map (lL r d)) ∧ Kp [139, 152] w w') ?_ ⟨0, r.ob, rfl, Nat.zero_le _, dM rfl, by simpa using h2, k2⟩
  clear h2 ht2 k2 g1 g2 hb1
  rintro q a w3 ⟨k, ob, rfl, hkl, ⟨ys, rfl⟩, h3, k3⟩ hback
  have ht3 := k3.own ht (by decide)
  refine xg ?_
  by_cases hlt : k < tl.length
  · have hlt' : (k : Int) < (tl.length : Int) := by omega
    obtain ⟨bt, Y7, cur, Uv, kN, htk, hcs⟩ := u7 ht3 (by omega)
    injection Uv with Uv YU W9
    subst Uv W9
    obtain ⟨⟨ag, ai⟩, hag⟩ : ∃ x, tl[k]? = some x := ⟨tl[k], by simp [hlt]⟩
    refine xw ?_
    refine Shut.dF hX rfl rfl (by decide) rfl rfl kN (by kernel_rfl) [.int .u8 ag, .int .u8 ai] (by kernel_rfl) (by show k * 2 + 2 ≤ cur.size; omega) ((DJ htk hlt).trans (I4 hag)) ?_
    refine xm ?_
    refine xw ?_
    refine Shut.cK hX rfl rfl xB xO (ob := .cells #[.int .u8 0, .int .u8 0] 66) (v := fun b => .pointer (some ⟨b, 0, none⟩)) (fun w1 _ => by go_simp <;> rfl) (fun w4 b4 hb4 g4 l4 => ?_)
    refine xn ?_
    refine xw ?_
    refine Shut.df hX rfl rfl xB _ rfl rfl (v := .agg #[.int .u8 ag, .int .u8 ai]) rfl hb4 (by kernel_rfl) rfl (Nat.le_of_ble_eq_true rfl) [.int .u8 ag, .int .u8 ai] rfl (fun w5 hb5 o5 => ?_)
    refine xn ?_
    have VM : GB none w3 w5 := g4.fresh (GB.only o5) l4
    have h5 := h3.ek VM
    have hS2 : bE b4 (.cells #[.int .u8 ag, .int .u8 ai] 66) br (.cells (Rp.cells { r with ob := ob }).toArray 152) w5 := ⟨hb5, h5.mem⟩
    refine xg ?_
    refine Shut.drawn hX xB (by kernel_rfl) (bE b4 (.cells #[.int .u8 ag, .int .u8 ai] 66) br (.cells (Rp.cells { r with ob := ob }).toArray 152)) 16 ?_ bE.same
    show AnyX _ _ _ _ _ _ _ _ 17 #[false, false, false, false, false, false, false, false, false, false, false, false, false, false, false, false, false] _ _
    refine AnyX.take hX bE.same 0 rfl (by decide) xK xK xK xY hS2 ?_
    refine xn ?_
    refine AnyX.take hX bE.same 1 rfl (by decide) xK xK xK xY hS2 ?_
    refine xn ?_
    refine AnyX.take hX bE.same 2 rfl (by decide) xK xK xK xY hS2 ?_
    refine xn ?_
    refine AnyX.take hX bE.same 3 rfl (by decide) xK xK xK xY hS2 ?_
    refine xn ?_
    refine AnyX.fu hX bE.same 4 rfl rfl xK xK xK (by kernel_rfl) (.inl ⟨rfl, bZ rfl, fun _ h => fe rfl rfl h.2 (by kernel_rfl) (v := ob) rfl⟩) hS2 ?_
    refine xn ?_
    refine AnyX.take hX bE.same 5 rfl (by decide) xK xK xK xY hS2 ?_
    refine xn ?_
    refine AnyX.take hX bE.same 6 rfl (by decide) xK xK xK xY hS2 ?_
    refine xn ?_
    refine AnyX.take hX bE.same 7 rfl (by decide) xK xK xK xY hS2 ?_
    refine xn ?_
    refine AnyX.fu hX bE.same 8 rfl rfl xK xK xK (by kernel_rfl) (.inl ⟨rfl, bZ rfl, fun _ h => iA rfl rfl h.2 (by kernel_rfl) [.int .u8 r.g, .int .u8 r.i] (by kernel_rfl) (Nat.le_of_ble_eq_true rfl) rfl⟩) hS2 ?_
    refine xn ?_
    refine AnyX.fu hX bE.same 9 rfl rfl xK xK xK (by kernel_rfl) (.inl ⟨rfl, bZ rfl, fun _ h => iA rfl rfl h.1 (by kernel_rfl) [.int .u8 ag, .int .u8 ai] (by kernel_rfl) (Nat.le_of_ble_eq_true rfl) rfl⟩) hS2 ?_
    refine xn ?_
    refine AnyX.take hX bE.same 10 rfl (by decide) xK xK xK xY hS2 ?_
    refine xn ?_
    refine AnyX.take hX bE.same 11 rfl (by decide) xK xK xK xY hS2 ?_
    refine xn ?_
    refine AnyX.one 12 (by kernel_rfl) ?_
    refine dL.cK rfl rfl xO (ob := .cells #[.int .u8 r.g, .int .u8 r.i, .int .u8 ag, .int .u8 ai, .string d] 139) (v := fun b => .slice (some ⟨b, 0, none⟩) 1 1) (fun w1 _ => by go_simp <;> rfl) (fun w6 b6 hb6 g6 l6 => ?_)
    refine xn ?_
    have h6 := h5.ek g6
    have MR : bE b4 (.cells #[.int .u8 ag, .int .u8 ai] 66) br (.cells (Rp.cells { r with ob := ob }).toArray 152) w6 := ⟨g6.get hb5 nofun, h6.mem⟩
    refine ⟨fun _ => MR, ?_⟩
    refine AnyX.one 13 (by kernel_rfl) ?_
    have hpl : (ps ++ (tl.take k).map (lL r d)).length < 999999 := by simp only [List.length_append, List.length_map, List.length_take]; omega
    obtain ⟨ii, hii, hz, hs, hb⟩ := nQ vL
    refine dL.mQ rfl rfl rfl 139 ii _ _ _ (by kernel_rfl) hii hz hs hb rfl (by decide) rfl h6.own rfl hb6 (news := (lL r d (ag, ai)).cells) rfl rfl (by first | assumption | simp [Value.oneCell', cB.cells]) (by unfold maxLen; omega) (by omega) (fun Y8 w7 QN g7 l7 => ?_)
    clear hb hs hz hii ii
    refine xn ?_
    obtain ⟨oa, oc, rfl⟩ := iU QN
    have hne : ∀ x, Value.ownBlock ob = some x → x ≠ b4 ∧ x ≠ br := fun x hx => by
      obtain ⟨c, hc⟩ := kI h6.own hx
      refine ⟨?_, ?_⟩
      · rintro rfl
        have := MR.1
        unfold bR at this
        rw [hc] at this
        cases this
      · rintro rfl
        have := MR.2
        unfold bR at this
        rw [hc] at this
        cases this
    have I5 : bE b4 (.cells #[.int .u8 ag, .int .u8 ai] 66) br (.cells (Rp.cells { r with ob := ob }).toArray 152) w7 := ⟨g7.get MR.1 fun e => (hne _ e.symm).1 rfl, g7.get MR.2 fun e => (hne _ e.symm).2 rfl⟩
    refine ⟨fun _ => I5, ?_⟩
    refine AnyX.take hX bE.same 14 rfl (by decide) xK xK xK xY I5 ?_
    refine xn ?_
    refine AnyX.take hX bE.same 15 rfl (by decide) xK xK xK xY I5 ?_
    refine xn ?_
    refine AnyX.one 16 (by kernel_rfl) ?_
    refine dL.df rfl rfl _ rfl rfl (v := .slice oa ((ps ++ (tl.take k).map (lL r d)).length + 1) oc) rfl I5.2 (by kernel_rfl) rfl (Nat.le_of_ble_eq_true rfl) (Rp.cells { r with ob := .slice oa ((ps ++ (tl.take k).map (lL r d)).length + 1) oc }) rfl (fun w8 w9 Yo Yp o9 => ?_)
    refine xn ?_
    refine ⟨fun h => (by cases h), AnyX.done (by kernel_rfl) ?_⟩
    refine xw ?_
    rw [oU k (by omega)]
    have Uw : GB (some br) w7 w9 := ((GB.refl _ w7).same Yo).trans (GB.only o9)
    have Yq : Kp [152] w7 w9 := Uw.kp fun b hb => by cases hb; exact ⟨_, _, _, I5.2, by decide⟩
    have Xa : ps ++ (tl.take (k + 1)).map (lL r d) = (ps ++ (tl.take k).map (lL r d)) ++ [lL r d (ag, ai)] := by
      rw [List.take_add_one, hag]; simp
    refine hback _ _ _ ?_ ⟨k + 1, .slice oa ((ps ++ (tl.take k).map (lL r d)).length + 1) oc, rfl, by omega, dM rfl, ⟨Yp, h.at_, ?_, ?_, ?_⟩, ?_⟩
    · omega
    · refine ((h6.gs.gb g7 fun x hx => .inr (h6.new x hx)).gb Uw fun x hx => ?_)
      cases hx
      exact .inl h.at_
    · rw [Xa]
      exact GR (Yq.own QN (by decide))
    · intro x hx
      rcases l7 x hx with hx | hx
      · exact h6.new x hx
      · have := h6.gs.size; omega
    · refine (k3.trans ((VM.trans g6).oF _)).trans (Kp.trans (GN h6.own g7 (by decide)) (Uw.kp fun b hb => by cases hb; exact ⟨_, _, _, I5.2, by decide⟩))
  · have hlt' : ¬ (k : Int) < (tl.length : Int) := by omega
    obtain rfl : k = tl.length := by omega
    refine xw ?_
    refine xg ?_
    refine aj.fin hX.c ?_
    rw [List.take_length] at h3
    exact hk _ _ _ rfl (fA rfl Tryz.func108 rfl) ⟨rfl, ob, h3, k3⟩
end
end Go.Proofs.YtignemioillaiaaGreat
