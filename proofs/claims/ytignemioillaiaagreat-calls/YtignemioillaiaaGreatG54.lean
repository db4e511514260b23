/- Calls: what is refused; the law. -/
import Derived.Test.YtignemioillaiaaGreatG53
import Derived.ProofKit
import Derived.Deep.Slices
import Derived.Deep.Strs
namespace Go.Proofs.YtignemioillaiaaGreat
set_option maxHeartbeats 8000000
set_option maxRecDepth 100000
section
open Go Go.Conc
theorem ClK.snap {w w' : World} {bc : Nat} {C : Clu} (h : ClK (snapW w) bc C w') : GB none w w' := by
  obtain ⟨_, _, _, _, h⟩ := h
  have kp : ∀ x, x < w.heap.size → w'.heap[x]? = w.heap[x]? := fun x hx => by
    obtain ⟨o, ho⟩ : ∃ o, w.heap[x]? = some o := ⟨w.heap[x], by simp [hx]⟩
    exact (h.pr x o ho).1.trans ho.symm
  refine ⟨h.os, h.out, ?_, fun x hx _ => kp x hx⟩
  by_cases h0 : w.heap.size = 0
  · omega
  · have h1 := kp (w.heap.size - 1) (by omega)
    obtain ⟨o, ho⟩ : ∃ o, w.heap[w.heap.size - 1]? = some o := ⟨w.heap[w.heap.size - 1]'(by omega), by simp [show w.heap.size - 1 < w.heap.size by omega]⟩
    rw [ho] at h1
    have := lt_heap h1
    omega
theorem ClK.at {w w' : World} {bc b : Nat} {C : Clu} {o : Obj} (h : ClK (snapW w) bc C w') (m : w.heap[b]? = some o) : w'.heap[b]? = some o := by
  obtain ⟨_, _, _, _, h⟩ := h
  exact (h.pr b o m).1
/-- How many packets a first tick brings. -/
def tickL (N sz g i : Nat) : Nat := (mTick (ApN N) (mNew (ApN N) g i N sz)).out.length
def tickB : Bool := [1, 2, 3, 4].all fun N => [0, 1, 2].all fun f => (List.range N).all fun g => (List.range (2 * f + 1)).all fun i => Nat.ble (tickL N (2 * f + 1) g i) 100
theorem tickB_ok : tickB = true := by kernel_rfl
theorem tick_few {N f g i : Nat} (hN : 1 ≤ N ∧ N ≤ 4) (hf : f ≤ 2) (hg : g < N) (hi : i < 2 * f + 1) : tickL N (2 * f + 1) g i ≤ 100 := by
  have h := tickB_ok
  unfold tickB at h
  have h1 := List.all_eq_true.1 h N (by simp; omega)
  have h2 := List.all_eq_true.1 h1 f (by simp; omega)
  have h3 := List.all_eq_true.1 h2 g (List.mem_range.2 hg)
  exact Nat.le_of_ble_eq_true (List.all_eq_true.1 h3 i (List.mem_range.2 hi))
theorem newR_ok (w : World) (g f : Int) (h : ¬ (1 ≤ g ∧ g ≤ 4 ∧ 0 ≤ f ∧ f ≤ 2)) : CY 18 #[.int .i64 g, .int .i64 f] w (fun v w' => v = .tuple #[.pointer none, .int .i64 5] ∧ w' = w) := by
  refine callE Tryz.func18 rfl rfl ?_
  refine spl (fun c1 => ?_) (fun _ => ⟨rfl, rfl⟩)
  refine spl (fun c2 => ?_) (fun _ => ⟨rfl, rfl⟩)
  refine spl (fun c3 => ?_) (fun _ => ⟨rfl, rfl⟩)
  refine spl (fun _ => ⟨rfl, rfl⟩) (fun c4 => (h ?_).elim)
  simp at c1 c2 c3 c4
  omega
section
variable {A : Apl} {Λ : Snp} {w : World} {bc : Nat} {C : Clu}
theorem pkts_N (h : ClK Λ bc C w) (hlen : C.q.length ≤ 20000) (fr : Int) (hlo : -9223372036854775808 ≤ fr) (hhi : fr < 9223372036854775808) (m : Nat) (hm : C.q.length - min fr.toNat C.q.length = m) : CallsX Tryz.prog 22 #[.pointer (some ⟨bc, 0, none⟩), .int .i64 fr] w (fun v w' => (∃ pa pc, v = .slice pa m pc) ∧ GB none w w') := by
  subst hm
  refine CallsY.x (CallsY.mono' (pkts_K h hlen fr hlo hhi) ?_)
  rintro v w' ⟨o, g, _⟩
  obtain ⟨a, c, rfl⟩ := own_slice o
  exact ⟨⟨a, c, rfl⟩, g⟩
theorem log_A (HN : NetOK A) (h : ClK Λ bc C w) (hf : C.Fine A) (g i : Nat) (hg : g < 256) (hi : i < 256) : CY 25 #[.pointer (some ⟨bc, 0, none⟩), .agg #[.int .u8 g, .int .u8 i]] w (fun v w' => (∃ a n c, v = .slice a n c ∧ (¬ (g < C.n ∧ i < C.sz) → n = 0)) ∧ GB none w w') := by
  by_cases c : g < C.n ∧ i < C.sz
  · refine CallsY.mono' (log_K HN h hf g i c.1 c.2) ?_
    rintro v w' ⟨⟨vs, v1, v2, v3⟩, g', _⟩
    obtain ⟨a, k, rfl⟩ := own_slice v2
    exact ⟨⟨_, _, _, rfl, fun e => (e c).elim⟩, g'⟩
  · obtain ⟨gv, sv, B, ad, h⟩ := h
    refine callE Tryz.func25 rfl rfl ?_
    refine fun w1 b1 m1 g1 l1 => ?_
    have h1 := h.gb0 g1
    refine ⟨_, _, m1, [.int .u8 g, .int .u8 i], rfl, rfl, _, find_ok h1.ci hf.n hf.sz g i hg hi, ?_⟩
    rintro _ w2 ⟨rfl, g2⟩
    rw [if_neg c]
    exact ⟨⟨_, _, _, rfl, fun _ => rfl⟩, g1.trans g2⟩
end
section
variable {N : Nat} {Λ : Snp} {w : World} {bc : Nat} {C : Clu}
/-- A shard's value, as much as is wanted of it. -/
def StL (l : List Value) (x y : Int) (k : Nat) : Prop := ∃ t1 t2 t3 m1 m3 d1 d2 d3 o1 o2 o3 i1 i2 i3, l = [.int .u8 x, .int .u8 y, .slice t1 t2 t3, .slice m1 k m3, .slice d1 d2 d3, .slice o1 o2 o3, .slice i1 i2 i3]
theorem state_A (h : ClK Λ bc C w) (hf : C.Fine (ApN N)) (g i : Nat) (hg : g < 256) (hi : i < 256) : CY 26 #[.pointer (some ⟨bc, 0, none⟩), .agg #[.int .u8 g, .int .u8 i]] w (fun v w' => (∃ l x y k, v = .agg l.toArray ∧ StL l x y k ∧ (g < C.n ∧ i < C.sz → x = g ∧ y = C.n) ∧ (¬ (g < C.n ∧ i < C.sz) → y = 0 ∧ k = 0)) ∧ GB none w w') := by
  by_cases c : g < C.n ∧ i < C.sz
  · refine CallsY.mono' (state_K (apl_ok N) h hf g i c.1 c.2) ?_
    rintro v w' ⟨⟨T, M, D, O, I, rfl, hS⟩, g'⟩
    obtain ⟨_, _, rfl, _⟩ := hS.T
    obtain ⟨_, _, rfl, _⟩ := hS.M
    obtain ⟨_, _, rfl, _⟩ := hS.D
    obtain ⟨_, _, _, _, rfl, _⟩ : ∃ qs a c, _ ∧ O = .slice a _ c ∧ True := by obtain ⟨qs, h1, ⟨a, c, h2, _⟩, _⟩ := hS.O; exact ⟨qs, a, c, h1, h2, trivial⟩
    obtain ⟨_, _, rfl, _⟩ := hS.I
    have e := app_n (C.F g i).st zMC
    have s := hf.sd g i c.1 c.2
    exact ⟨⟨_, _, _, _, rfl, ⟨_, _, _, _, _, _, _, _, _, _, _, _, _, _, rfl⟩, fun _ => ⟨e.2.trans s.2, e.1.trans s.1⟩, fun e => (e c).elim⟩, g'⟩
  · obtain ⟨gv, sv, B, ad, h⟩ := h
    refine callE Tryz.func26 rfl rfl ?_
    refine fun w1 b1 m1 g1 l1 w2 b2 m2 g2 l2 => ?_
    have h2 := h.gb0 (g1.trans g2)
    refine ⟨_, _, g2.get m1 nofun, [.int .u8 g, .int .u8 i], rfl, rfl, _, find_ok h2.ci hf.n hf.sz g i hg hi, ?_⟩
    rintro _ w3 ⟨rfl, g3⟩
    rw [if_neg c]
    refine ⟨_, _, _, g3.get m2 nofun, rfl, rfl, fun w9 m9 g9 => ?_⟩
    refine ⟨_, _, m9, [.int .u8 0, .int .u8 0, .slice none 0 0, .slice none 0 0, .slice none 0 0, .slice none 0 0, .slice none 0 0], rfl, rfl, ?_⟩
    exact ⟨⟨_, _, _, _, rfl, ⟨_, _, _, _, _, _, _, _, _, _, _, _, _, _, rfl⟩, fun e => (c e).elim, fun _ => ⟨rfl, rfl⟩⟩, ((g1.trans g2).trans g3).new g9 (by have := g1.size; omega)⟩
end
def cT (n k a b : Nat) : Clu := (Clu.new (ApN n) n (2 * k + 1)).tick (ApN n) a b
def cC (n k a b : Nat) : Clu := (cT n k a b).crash (ApN n) a b
theorem cC_n (n k a b : Nat) : (cC n k a b).n = n ∧ (cC n k a b).sz = 2 * k + 1 := ⟨(Clu.crash_n _ _ _ _).1.trans (Clu.tick_n _ _ _ _).1, (Clu.crash_n _ _ _ _).2.trans (Clu.tick_n _ _ _ _).2⟩
theorem cC_q {n k a b : Nat} (hn : 1 ≤ n ∧ n ≤ 4) (hk : k ≤ 2) : (cC n k a b).q.length ≤ 100 ∧ (¬ (a < n ∧ b < 2 * k + 1) → (cC n k a b).q.length = 0) := by
  have e1 : (cC n k a b).q = (cT n k a b).q := by unfold cC Clu.crash; split <;> rfl
  rw [e1]
  unfold cT Clu.tick
  by_cases c : a < n ∧ b < 2 * k + 1
  · rw [if_pos (show a < (Clu.new (ApN n) n (2 * k + 1)).n ∧ b < (Clu.new (ApN n) n (2 * k + 1)).sz from c)]
    refine ⟨?_, fun e => (e c).elim⟩
    show (List.take 20000 ([] ++ (mTick (ApN n) (mNew (ApN n) a b n (2 * k + 1))).out)).length ≤ 100
    have := tick_few hn hk c.1 c.2
    unfold tickL at this
    rw [List.length_take, List.nil_append]
    omega
  · rw [if_neg (show ¬ (a < (Clu.new (ApN n) n (2 * k + 1)).n ∧ b < (Clu.new (ApN n) n (2 * k + 1)).sz) from c)]
    exact ⟨Nat.zero_le _, fun _ => rfl⟩
theorem cS_q {n k a b : Nat} (hn : 1 ≤ n ∧ n ≤ 4) (hk : k ≤ 2) (d : ByteArray) : ((cC n k a b).send a b d).q.length = (cC n k a b).q.length + if (a < n ∧ b < 2 * k + 1) ∧ ¬ d.size > 1000 then 1 else 0 := by
  have h := (cC_q (a := a) (b := b) hn hk).1
  obtain ⟨e1, e2⟩ := cC_n n k a b
  unfold Clu.send
  rw [e1, e2]
  split
  · show (mJoin _ _).length = _
    rw [mJoin_yes (by omega)]
    simp
  · rfl
section
variable {W : World}
/-- What the law's slots hold while it calls. -/
abbrev cS (n f : Nat) (pk : Int) (d : ByteArray) (b7 bc : Nat) : Sg := [(0, .int .i64 n), (1, .int .i64 f), (3, .int .i64 pk), (4, .string d), (7, .pointer (some ⟨b7, 0, none⟩)), (11, .pointer (some ⟨bc, 0, none⟩))]
theorem calls_CS {g f : Int} (hg : I64 g) (hf : I64 f) {a b : Nat} (ha : a < 256) (hb : b < 256) (pk : Int) (d : ByteArray) : CSX Tryz.prog Tryz.f4.ntmps (Tryz.f4.body.getD .skip) (retW eng Tryz.f4.results.toList (fun v w' => v = .bool true ∧ GB none W w')) (argS [.int .i64 g, .int .i64 f, .agg #[.int .u8 a, .int .u8 b], .int .i64 pk, .string d] 0) W := by
  refine CSX.piece (Q := fun q w1 => ∃ b7, q = [(0, .int .i64 g), (1, .int .i64 f), (3, .int .i64 pk), (4, .string d), (7, .pointer (some ⟨b7, 0, none⟩))] ∧ Hl w1 b7 [.int .u8 a, .int .u8 b] 66 ∧ GB none W w1) (CSX.e ?_) ?_
  · intro w1 b1 m1 g1 l1
    exact ⟨_, by exact sb rfl, b1, rfl, m1, g1⟩
  rintro q w1 ⟨b7, rfl, m7, g7⟩
  refine CSX.piece (Q := fun q w2 => (∃ n k bc : Nat, (g = n ∧ f = k ∧ (1 ≤ n ∧ n ≤ 4) ∧ k ≤ 2) ∧ q = [(0, .int .i64 n), (1, .int .i64 k), (3, .int .i64 pk), (4, .string d), (7, .pointer (some ⟨b7, 0, none⟩)), (11, .pointer (some ⟨bc, 0, none⟩)), (12, .int .i64 0)] ∧ ClK (snapW w1) bc (Clu.new (ApN n) n (2 * k + 1)) w2) ∨ (¬ (1 ≤ g ∧ g ≤ 4 ∧ 0 ≤ f ∧ f ≤ 2) ∧ q = [(0, .int .i64 g), (1, .int .i64 f), (3, .int .i64 pk), (4, .string d), (7, .pointer (some ⟨b7, 0, none⟩)), (11, .pointer none), (12, .int .i64 5)] ∧ w2 = w1)) (CSX.e ?_) ?_
  · by_cases c : 1 ≤ g ∧ g ≤ 4 ∧ 0 ≤ f ∧ f ≤ 2
    · obtain ⟨n, rfl⟩ : ∃ n : Nat, g = n := ⟨g.toNat, by omega⟩
      obtain ⟨k, rfl⟩ : ∃ n : Nat, f = n := ⟨f.toNat, by omega⟩
      refine ⟨_, (new_K (apl_ok n) w1 n k (by omega) (by omega)).x, ?_⟩
      rintro _ w2 ⟨bc, rfl, _, h2, _⟩
      exact ⟨_, by exact sb rfl, .inl ⟨n, k, bc, ⟨rfl, rfl, by omega, by omega⟩, rfl, h2⟩⟩
    · refine ⟨_, (newR_ok w1 g f c).x, ?_⟩
      rintro _ w2 ⟨rfl, rfl⟩
      exact ⟨_, by exact sb rfl, .inr ⟨c, rfl, rfl⟩⟩
  intro q w2 hq
  refine CSX.piece (Q := fun q w3 => ∃ n k bc : Nat, ((1 ≤ n ∧ n ≤ 4) ∧ k ≤ 2) ∧ q = cS n k pk d b7 bc ++ [(12, .int .i64 0)] ∧ ClK (snapW w1) bc (Clu.new (ApN n) n (2 * k + 1)) w3) ?_ ?_
  · rcases hq with ⟨n, k, bc, ⟨rfl, rfl, hn, hk⟩, rfl, h2⟩ | ⟨c, rfl, rfl⟩
    · refine CSX.piece (Q := fun q w' => q = cS n k pk d b7 bc ++ [(12, .int .i64 0), (43, .bool false)] ∧ w' = w2) (CSX.e ?_) ?_
      · have c4 : decide ((k : Int) > 2) = false := by simp; omega
        refine spl (fun c => ?_) (fun c => ?_)
        · refine spl (fun c => ?_) (fun c => ?_)
          · exact ⟨_, by exact sb (by rw [c4]; rfl), rfl, rfl⟩
          · simp at c; omega
        · simp at c; omega
      rintro q w2 ⟨rfl, rfl⟩
      exact CSX.cond false rfl (CSX.e ⟨_, by exact sb rfl, n, k, bc, ⟨hn, hk⟩, rfl, h2⟩)
    · refine CSX.piece (Q := fun q w' => q = [(0, .int .i64 g), (1, .int .i64 f), (3, .int .i64 pk), (4, .string d), (7, .pointer (some ⟨b7, 0, none⟩)), (11, .pointer none), (12, .int .i64 5), (43, .bool true)] ∧ w' = w2) (CSX.e ?_) ?_
      · refine spl (fun c1 => ?_) (fun _ => ⟨_, by exact sb rfl, rfl, rfl⟩)
        refine spl (fun c2 => ?_) (fun _ => ⟨_, by exact sb rfl, rfl, rfl⟩)
        refine spl (fun c3 => ?_) (fun _ => ⟨_, by exact sb rfl, rfl, rfl⟩)
        have c4 : decide (f > 2) = true := by
          simp at c1 c2 c3
          simp
          omega
        exact ⟨_, by exact sb (by rw [c4]; rfl), rfl, rfl⟩
      rintro q w2 ⟨rfl, rfl⟩
      have p1 := pickN_lt g (n := 4) (by decide)
      have p2 := pickN_lt f (n := 3) (by decide)
      refine CSX.cond true rfl (CSX.e ⟨_, (pick_ok w2 g 4 (by decide) hg.1 hg.2).x, ?_⟩)
      rintro _ w3 ⟨rfl, rfl⟩
      refine ⟨by omega, _, (pick_ok w3 f 3 (by decide) hf.1 hf.2).x, ?_⟩
      rintro _ w4 ⟨rfl, rfl⟩
      have hK := new_K (apl_ok (1 + pickN g 4)) w4 (1 + pickN g 4) (pickN f 3) (by omega) (by omega)
      rw [Int.natCast_add] at hK
      refine ⟨_, hK.x, ?_⟩
      rintro _ w5 ⟨bc, rfl, _, h2, _⟩
      exact ⟨_, by exact sb rfl, 1 + pickN g 4, pickN f 3, bc, ⟨by omega, by omega⟩, rfl, h2⟩
  clear hq
  rintro q w3 ⟨n, k, bc, ⟨hn, hk⟩, rfl, h3⟩
  have HA := apl_ok n
  have HN := net_ok n
  have F0 : (Clu.new (ApN n) n (2 * k + 1)).Fine (ApN n) := Clu.Fine.new HA HN hn.2 rfl (by omega)
  refine CSX.piece (Q := fun q w' => q = cS n k pk d b7 bc ∧ w' = w3) (CSX.e ?_) ?_
  · exact ⟨_, by exact sb rfl, rfl, rfl⟩
  rintro q w3 ⟨rfl, rfl⟩
  obtain ⟨t, et⟩ : ∃ t, t = decide (a < n ∧ b < 2 * k + 1) := ⟨_, rfl⟩
  refine CSX.piece (Q := fun q w' => q = cS n k pk d b7 bc ++ [(13, .bool t)] ∧ w' = w3) (CSX.e ?_) ?_
  · have m := h3.at m7
    refine ⟨_, _, m, _, rfl, .inl ⟨by omega, spl (fun c1 => ?_) (fun c1 => ?_)⟩⟩
    · have d1 : a < n := by simp at c1; omega
      refine ⟨_, _, m, _, rfl, .inl ⟨by omega, by omega, ?_⟩⟩
      refine ⟨_, by exact sb (by rw [show t = decide ((b : Int) ≤ 2 * (k : Int)) by rw [et]; simp [d1]; omega]; rfl), rfl, rfl⟩
    · have d1 : ¬ a < n := by simp at c1; omega
      refine ⟨_, by exact sb (by rw [show t = false by rw [et]; simp [d1]]; rfl), rfl, rfl⟩
  rintro q w3 ⟨rfl, rfl⟩
  refine CSX.piece (Q := fun q w' => ∃ x, q = cS n k pk d b7 bc ++ [(13, .bool t), (14, .int .i64 x)] ∧ x = (if a < n ∧ b < 2 * k + 1 then 0 else 6) ∧ ClK (snapW w1) bc (cT n k a b) w') (CSX.e ⟨_, _, h3.at m7, [.int .u8 a, .int .u8 b], rfl, rfl, _, tick_X HA h3 F0 a b ha hb, ?_⟩) ?_
  · rintro _ w' ⟨rfl, h, _⟩
    exact ⟨_, by exact sb rfl, _, rfl, rfl, h⟩
  rintro q w4 ⟨x, rfl, ex, h4⟩
  have F1 : (cT n k a b).Fine (ApN n) := F0.tick HA HN a b
  have nT : (cT n k a b).n = n ∧ (cT n k a b).sz = 2 * k + 1 := Clu.tick_n _ _ _ _
  refine CSX.piece (Q := fun q w' => ∃ y, q = cS n k pk d b7 bc ++ [(13, .bool t), (14, .int .i64 x), (15, .int .i64 y)] ∧ y = (if a < n ∧ b < 2 * k + 1 then 0 else 6) ∧ ClK (snapW w1) bc (cC n k a b) w') (CSX.e ⟨_, _, h4.at m7, [.int .u8 a, .int .u8 b], rfl, rfl, _, (crash_K HA h4 F1 a b ha hb).x, ?_⟩) ?_
  · rintro _ w' ⟨rfl, h, _⟩
    exact ⟨_, by exact sb rfl, _, rfl, by rw [nT.1, nT.2], h⟩
  rintro q w5 ⟨y, rfl, ey, h5⟩
  have F2 : (cC n k a b).Fine (ApN n) := F1.crash HA HN a b
  refine CSX.piece (Q := fun q w' => q = cS n k pk d b7 bc ++ [(13, .bool t), (14, .int .i64 x), (15, .int .i64 y), (16, .int .i64 (cC n k a b).q.length)] ∧ ClK (snapW w1) bc (cC n k a b) w') (CSX.e ⟨_, pkts_N h5 F2.len 0 (by decide) (by decide) (cC n k a b).q.length (by simp), ?_⟩) ?_
  · rintro _ w' ⟨⟨pa, pc, rfl⟩, g'⟩
    exact ⟨_, by exact sb rfl, rfl, h5.gb0 g'⟩
  rintro q w6 ⟨rfl, h6⟩
  clear h3 h4 h5
  obtain ⟨L, eL⟩ : ∃ L, L = (cC n k a b).q.length := ⟨_, rfl⟩
  rw [← eL]
  refine CSX.piece (Q := fun q w' => ∃ u z, q = cS n k pk d b7 bc ++ [(13, .bool t), (14, .int .i64 x), (15, .int .i64 y), (16, .int .i64 L), (17, .int .i64 u), (18, .int .i64 z)] ∧ u = (if (a < n ∧ b < 2 * k + 1) ∧ ¬ d.size > 1000 then (L : Int) else 0) ∧ z = (if a < n ∧ b < 2 * k + 1 then (if d.size > 1000 then 2 else 0) else 6) ∧ ClK (snapW w1) bc ((cC n k a b).send a b d) w') (CSX.e ⟨_, _, h6.at m7, [.int .u8 a, .int .u8 b], rfl, rfl, _, (send_K h6 F2.n F2.sz a b ha hb d).x, ?_⟩) ?_
  · rintro _ w' ⟨rfl, h, _⟩
    exact ⟨_, by exact sb rfl, _, _, rfl, by rw [(cC_n n k a b).1, (cC_n n k a b).2, eL], by rw [(cC_n n k a b).1, (cC_n n k a b).2], h⟩
  rintro q w7 ⟨u, z, rfl, eu, ez, h7⟩
  have F3 := F2.send ha hb d
  have q3 := cS_q (a := a) (b := b) hn hk d
  have q2 := cC_q (a := a) (b := b) hn hk
  rw [← eL] at q3 q2
  obtain ⟨sn, esn⟩ : ∃ sn : Nat, sn = if (a < n ∧ b < 2 * k + 1) ∧ ¬ d.size > 1000 then 1 else 0 := ⟨_, rfl⟩
  rw [← esn] at q3
  refine CSX.piece (Q := fun q w' => q = cS n k pk d b7 bc ++ [(13, .bool t), (14, .int .i64 x), (15, .int .i64 y), (16, .int .i64 L), (17, .int .i64 u), (18, .int .i64 z), (19, .int .i64 sn)] ∧ ClK (snapW w1) bc ((cC n k a b).send a b d) w') (CSX.e ⟨_, pkts_N h7 F3.len L (by omega) (by omega) sn (by rw [show ((cC n k a b).send a b d).q.length = L + sn from q3]; simp), ?_⟩) ?_
  · rintro _ w' ⟨⟨pa, pc, rfl⟩, g'⟩
    exact ⟨_, by exact sb rfl, rfl, h7.gb0 g'⟩
  rintro q w8 ⟨rfl, h8⟩
  refine CSX.piece (Q := fun q w' => ∃ e, q = cS n k pk d b7 bc ++ [(13, .bool t), (14, .int .i64 x), (15, .int .i64 y), (16, .int .i64 L), (17, .int .i64 u), (18, .int .i64 z), (19, .int .i64 sn), (20, .int .i64 e)] ∧ e = (if 0 ≤ pk ∧ pk < ((L + sn : Nat) : Int) then 0 else 7) ∧ ClK (snapW w1) bc (((cC n k a b).send a b d).deliv (ApN n) pk) w') (CSX.e ⟨_, deliver_X HA HN h8 F3 pk, ?_⟩) ?_
  · rintro _ w' ⟨rfl, h, _⟩
    exact ⟨_, by exact sb rfl, _, rfl, by rw [show ((cC n k a b).send a b d).q.length = L + sn from q3], h⟩
  rintro q w9 ⟨e, rfl, ee, h9⟩
  clear h6 h7 h8
  have F4 := F3.deliv HA HN pk
  have n4 : (((cC n k a b).send a b d).deliv (ApN n) pk).n = n ∧ (((cC n k a b).send a b d).deliv (ApN n) pk).sz = 2 * k + 1 := ⟨((Clu.deliv_n _ _ _).1.trans (Clu.send_n _ _ _ _).1).trans (cC_n n k a b).1, ((Clu.deliv_n _ _ _).2.trans (Clu.send_n _ _ _ _).2).trans (cC_n n k a b).2⟩
  obtain ⟨C, eC⟩ : ∃ C, C = ((cC n k a b).send a b d).deliv (ApN n) pk := ⟨_, rfl⟩
  rw [← eC] at F4 n4 h9
  refine CSX.piece (Q := fun q w' => ∃ la ln lc, q = cS n k pk d b7 bc ++ [(13, .bool t), (14, .int .i64 x), (15, .int .i64 y), (16, .int .i64 L), (17, .int .i64 u), (18, .int .i64 z), (19, .int .i64 sn), (20, .int .i64 e), (21, .slice la ln lc)] ∧ (¬ (a < n ∧ b < 2 * k + 1) → ln = 0) ∧ ClK (snapW w1) bc C w') (CSX.e ⟨_, _, h9.at m7, [.int .u8 a, .int .u8 b], rfl, rfl, _, (log_A HN h9 F4 a b ha hb).x, ?_⟩) ?_
  · rintro _ w' ⟨⟨la, ln, lc, rfl, hl⟩, g'⟩
    rw [n4.1, n4.2] at hl
    exact ⟨_, by exact sb rfl, la, ln, lc, rfl, hl, h9.gb0 g'⟩
  rintro q w10 ⟨la, ln, lc, rfl, hl, h10⟩
  refine CSX.piece (Q := fun q w' => ∃ (b22 : Nat) (l : List Value) (sx sy : Int) (sk : Nat), q = cS n k pk d b7 bc ++ [(13, .bool t), (14, .int .i64 x), (15, .int .i64 y), (16, .int .i64 L), (17, .int .i64 u), (18, .int .i64 z), (19, .int .i64 sn), (20, .int .i64 e), (21, .slice la ln lc), (22, .pointer (some ⟨b22, 0, none⟩))] ∧ Hl w' b22 l 31 ∧ StL l sx sy sk ∧ (a < n ∧ b < 2 * k + 1 → sx = a ∧ sy = n) ∧ (¬ (a < n ∧ b < 2 * k + 1) → sy = 0 ∧ sk = 0) ∧ ClK (snapW w1) bc C w') (CSX.e ⟨_, _, h10.at m7, [.int .u8 a, .int .u8 b], rfl, rfl, _, (state_A h10 F4 a b ha hb).x, ?_⟩) ?_
  · rintro _ w' ⟨⟨l, sx, sy, sk, rfl, hL, hy, hno⟩, g'⟩
    rw [n4.1, n4.2] at hy hno
    have hL' := hL
    obtain ⟨t1, t2, t3, m1, m3, d1, d2, d3, o1, o2, o3, i1, i2, i3, rfl⟩ := hL
    refine fun w2 b2 m2 g2 l2 => ⟨_, _, _, m2, rfl, rfl, fun w3 m3 g3 => ?_⟩
    exact ⟨_, by exact sb rfl, b2, _, sx, sy, sk, rfl, m3, hL', hy, hno, h10.gb0 (g'.trans (g2.new g3 l2))⟩
  rintro q w11 ⟨b22, l, sx, sy, sk, rfl, m22, ⟨t1, t2, t3, m1, m3, d1, d2, d3, o1, o2, o3, i1, i2, i3, rfl⟩, hy, hno, h11⟩
  have G := g7.trans h11.snap
  by_cases c : a < n ∧ b < 2 * k + 1
  · rw [if_pos c] at ex ey
    rw [decide_eq_true c] at et
    obtain ⟨e1, e2⟩ := hy c
    subst et; subst ex; subst ey; subst e1; subst e2
    refine CSX.piece (Q := fun q w' => q = cS n k pk d b7 bc ++ [(14, .int .i64 0), (15, .int .i64 0), (16, .int .i64 L), (17, .int .i64 u), (18, .int .i64 z), (19, .int .i64 sn), (20, .int .i64 e), (22, .pointer (some ⟨b22, 0, none⟩))] ∧ w' = w11) (CSX.e ⟨_, by exact sb rfl, rfl, rfl⟩) ?_
    rintro q w11 ⟨rfl, rfl⟩
    refine CSX.piece (Q := fun q w' => q = cS n k pk d b7 bc ++ [(16, .int .i64 L), (17, .int .i64 u), (18, .int .i64 z), (19, .int .i64 sn), (20, .int .i64 e)] ∧ w' = w11) (CSX.e ?_) ?_
    · refine ⟨_, _, m22, _, rfl, .inl ⟨by omega, spl (fun c1 => ?_) (fun c1 => ?_)⟩⟩
      · refine ⟨_, _, m22, _, rfl, _, _, h11.at m7, _, rfl, ?_⟩
        refine spl (fun c2 => ?_) (fun c2 => ?_)
        · simp at c2
        · exact ⟨_, by exact sb rfl, rfl, rfl⟩
      · simp at c1
    rintro q w11 ⟨rfl, rfl⟩
    by_cases hd : d.size > 1000
    · rw [if_neg (fun x => x.2 hd)] at eu esn
      rw [if_pos c, if_pos hd] at ez
      subst eu; subst ez; subst esn
      refine CSX.e (spl (fun c1 => ?_) (fun c1 => ?_))
      · exact ⟨rfl, G⟩
      · simp at c1; omega
    · rw [if_pos ⟨c, hd⟩] at eu esn
      rw [if_pos c, if_neg hd] at ez
      subst eu; subst ez; subst esn
      refine CSX.piece (Q := fun q w' => q = cS n k pk d b7 bc ++ [(16, .int .i64 L), (17, .int .i64 L), (18, .int .i64 0), (19, .int .i64 1), (20, .int .i64 e)] ∧ w' = w11) (CSX.e (spl (fun c1 => ?_) (fun c1 => ⟨_, by exact sb rfl, rfl, rfl⟩))) ?_
      · simp at c1; omega
      rintro q w11 ⟨rfl, rfl⟩
      refine CSX.piece (Q := fun q w' => ∃ r : Bool, (e = 0 ∧ r = true ∨ e = 7 ∧ r = false) ∧ q = [(11, .pointer (some ⟨bc, 0, none⟩)), (16, .int .i64 L), (17, .int .i64 L), (18, .int .i64 0), (19, .int .i64 1), (20, .int .i64 e), (23, .bool r)] ∧ w' = w11) (CSX.e ?_) ?_
      · refine spl (fun c1 => ?_) (fun c1 => ?_)
        · have d1 : 0 ≤ pk := by simpa using c1
          refine ⟨_, by exact sb rfl, decide (pk ≤ (L : Int)), ?_, rfl, rfl⟩
          by_cases d2 : pk ≤ L
          · exact .inl ⟨by rw [ee, if_pos ⟨d1, by omega⟩], decide_eq_true d2⟩
          · exact .inr ⟨by rw [ee, if_neg (fun x => d2 (by omega))], decide_eq_false d2⟩
        · have d1 : ¬ 0 ≤ pk := by simpa using c1
          exact ⟨_, by exact sb rfl, _, .inr ⟨by rw [ee, if_neg (fun x => d1 x.1)], rfl⟩, rfl, rfl⟩
      rintro q w11 ⟨r, hr, rfl, rfl⟩
      have p1 := pkts_N h11 F4.len (-5) (by decide) (by decide) C.q.length (by simp)
      have hlen := F4.len
      rcases hr with ⟨rfl, rfl⟩ | ⟨rfl, rfl⟩
      all_goals
        refine CSX.e (spl (fun c1 => ?_) (fun c1 => (by simp at c1)))
        refine ⟨_, p1, ?_⟩
        rintro _ w12 ⟨⟨pa, pc, rfl⟩, g12⟩
        refine ⟨_, pkts_N (h11.gb0 g12) F4.len 0 (by decide) (by decide) C.q.length (by simp), ?_⟩
        rintro _ w13 ⟨⟨pa, pc, rfl⟩, g13⟩
        refine spl (fun c2 => ?_) (fun c2 => (by simp at c2))
        refine ⟨_, pkts_N ((h11.gb0 g12).gb0 g13) F4.len 1099511627776 (by decide) (by decide) 0 (by omega), ?_⟩
        rintro _ w14 ⟨⟨pa, pc, rfl⟩, g14⟩
        exact ⟨rfl, ((G.trans g12).trans g13).trans g14⟩
  · rw [if_neg c] at ex ey
    rw [decide_eq_false c] at et
    have eL0 := q2.2 c
    rw [if_neg (fun x => c x.1)] at eu esn
    rw [if_neg c] at ez
    obtain ⟨e1, e2⟩ := hno c
    have el := hl c
    subst eL0
    subst esn
    rw [if_neg (fun x => by omega)] at ee
    subst et; subst ex; subst ey; subst eu; subst ez; subst e1; subst e2; subst ee; subst el
    refine CSX.e ?_
    refine ⟨_, _, m22, _, rfl, _, _, m22, _, rfl, ?_⟩
    exact ⟨rfl, G⟩
end
end
section
open Go.ChangeShapes Go.WideShapes Go.ChangeAt Go.RowKit
theorem Tryz.own : ownKnob Tryz.prog.godebug = none := by kernel_rfl
theorem Tryz.laidOut : laidOutB Tryz.prog = true := by kernel_rfl


theorem wf_u8 {n : Int} (h : (Lit.int .u8 n).wf = true) : 0 ≤ n ∧ n < 256 := by
  have h' : IntKind.min .u8 ≤ n ∧ n ≤ IntKind.max .u8 := by simpa [Lit.wf] using h
  have e1 : IntKind.min .u8 = 0 := by decide
  have e2 : IntKind.max .u8 = 255 := by decide
  omega
theorem shut_true {H : Type} {enc : TypeId × Value → H} {W : World} {base : Nat} {sp : Nat → Bool} {held : Bool} (b : Bool) : DataW.Trod enc Tryz.prog W base sp held 4 (.bool b) (.lit (.bool b)) [] := ⟨1, by simp [DataW.trod, Value.cells, Tryz.underlying4]⟩
end
end Go.Proofs.YtignemioillaiaaGreat
