/- Contracts beside leavers; a cluster at work: what lies beside it; Tick, Deliver, Crash, Send. -/
import Derived.Test.YtignemioillaiaaGreatG35
namespace Go.Proofs.YtignemioillaiaaGreat
set_option maxHeartbeats 8000000
set_option maxRecDepth 100000
section
open Go Go.Conc
theorem CallsY.mono' {P : Program} {f : FuncId} {args : Array Value} {w : World} {Post Post' : Value → World → Prop} (h : CallsY P f args w Post) (hp : ∀ v w', Post v w' → Post' v w') : CallsY P f args w Post' := fun main D X cs hX hk => h main D X cs hX fun fr v w' e1 e2 e3 => hk fr v w' e1 e2 (hp v w' e3)
/-- A packet of the network. -/
def PkOk (A : Apl) (n sz : Nat) (p : Pkt) : Prop := (0 ≤ p.tg ∧ p.tg < 256 ∧ 0 ≤ p.tr ∧ p.tr < 256) ∧ ((p.fg = 255 ∧ p.fr = 255) ∨ ∃ g i, g < n ∧ i < sz ∧ PG A g i n p)
/-- Between calls. -/
structure Clu.Fine (A : Apl) (C : Clu) : Prop where
  n : C.n ≤ 4
  sz : C.sz ≤ 5
  ok : ∀ g i, g < C.n → i < C.sz → Ok A (C.F g i)
  out : ∀ g i, g < C.n → i < C.sz → (C.F g i).out = []
  at_ : ∀ g i, g < C.n → i < C.sz → (C.F g i).sc.g = g ∧ (C.F g i).sc.i = i ∧ (C.F g i).sc.gs = C.n ∧ (C.F g i).sc.sz = C.sz
  sd : ∀ g i, g < C.n → i < C.sz → (C.F g i).st.n = C.n ∧ (C.F g i).st.g = g
  len : C.q.length ≤ 20000
  net : ∀ p ∈ C.q, PkOk A C.n C.sz p
theorem upd2_all {α : Type} {n sz : Nat} {F : Nat → Nat → α} {P : Nat → Nat → α → Prop} (h : ∀ g i, g < n → i < sz → P g i (F g i)) {g i : Nat} {r : α} (hr : P g i r) : ∀ g' i', g' < n → i' < sz → P g' i' (upd2 F g i r g' i') := fun g' i' hg hi => by
  by_cases e : g' = g ∧ i' = i
  · obtain ⟨rfl, rfl⟩ := e; rw [upd2_same]; exact hr
  · rw [upd2_other _ _ e]; exact h g' i' hg hi
section
variable {A : Apl} {C : Clu}
theorem Clu.Fine.done (h : C.Fine A) {g i : Nat} (hg : g < C.n) (hi : i < C.sz) {R' : MR} (ho : Ok A R') (hx : Nx A (C.F g i) R') : (C.done g i R').Fine A := by
  obtain ⟨a1, a2, a3, a4⟩ := h.at_ g i hg hi
  obtain ⟨e1, e2, e3, e4⟩ := hx.id
  obtain ⟨s1, s2⟩ := h.sd g i hg hi
  refine ⟨h.n, h.sz, upd2_all (P := fun _ _ (R : MR) => Ok A R) h.ok ho.done, upd2_all (P := fun _ _ (R : MR) => R.out = []) h.out rfl, upd2_all (P := fun g i (R : MR) => R.sc.g = g ∧ R.sc.i = i ∧ R.sc.gs = C.n ∧ R.sc.sz = C.sz) h.at_ ⟨e1.trans a1, e2.trans a2, e3.trans a3, e4.trans a4⟩, upd2_all (P := fun g i (R : MR) => R.st.n = C.n ∧ R.st.g = g) h.sd ⟨hx.sd.1.trans s1, hx.sd.2.trans s2⟩, ?_, fun p hp => ?_⟩
  · show (List.take 20000 _).length ≤ 20000
    rw [List.length_take]; omega
  · rcases List.mem_append.1 (List.mem_of_mem_take hp) with q | q
    · exact h.net p q
    · rcases hx.ou p q with q | q
      · rw [h.out g i hg hi] at q; cases q
      · rw [a1, a2, a3] at q
        exact ⟨q.2.2.1, .inr ⟨g, i, hg, hi, q⟩⟩
theorem Clu.Fine.crash (HA : AplOK A) (HN : NetOK A) (h : C.Fine A) (g i : Nat) : (C.crash A g i).Fine A := by
  unfold Clu.crash
  split
  · rename_i c
    have o := h.ok _ _ c.1 c.2
    obtain ⟨e1, e2⟩ := HN.bgn _ _ o.i.2.1 o.i.2.2.1
    obtain ⟨a1, a2, a3, a4⟩ := h.at_ g i c.1 c.2
    refine ⟨h.n, h.sz, upd2_all (P := fun _ _ (R : MR) => Ok A R) h.ok (o.start HA), upd2_all (P := fun _ _ (R : MR) => R.out = []) h.out (h.out _ _ c.1 c.2), upd2_all (P := fun g i (R : MR) => R.sc.g = g ∧ R.sc.i = i ∧ R.sc.gs = C.n ∧ R.sc.sz = C.sz) h.at_ (h.at_ _ _ c.1 c.2), upd2_all (P := fun g i (R : MR) => R.st.n = C.n ∧ R.st.g = g) h.sd ⟨?_, ?_⟩, h.len, h.net⟩
    · rw [a1, a3] at e1; rw [show (mStart A (C.F g i)).st = A.bg (C.F g i).sc.g (C.F g i).sc.gs from rfl, a1, a3]; exact e1
    · rw [a1, a3] at e2; rw [show (mStart A (C.F g i)).st = A.bg (C.F g i).sc.g (C.F g i).sc.gs from rfl, a1, a3]; exact e2
  · exact h
theorem Clu.Fine.tick (HA : AplOK A) (HN : NetOK A) (h : C.Fine A) (g i : Nat) : (C.tick A g i).Fine A := by
  unfold Clu.tick
  split
  · rename_i c
    have o := h.ok _ _ c.1 c.2
    exact h.done c.1 c.2 (o.tick HA) (Nx.tick HA HN o ((h.sd g i c.1 c.2).2.trans (congrArg Int.ofNat (h.at_ g i c.1 c.2).1).symm))
  · exact h
theorem Clu.Fine.send (h : C.Fine A) {g i : Nat} (hg : g < 256) (hi : i < 256) (d : ByteArray) : (C.send g i d).Fine A := by
  unfold Clu.send
  split
  · rename_i c
    refine ⟨h.n, h.sz, h.ok, h.out, h.at_, h.sd, ?_, fun p hp => ?_⟩
    · have := h.len
      show (mJoin _ _).length ≤ _
      unfold mJoin
      split
      · simp; omega
      · exact this
    · have hp : p ∈ mJoin C.q ⟨255, 255, g, i, d⟩ := hp
      unfold mJoin at hp
      split at hp
      · rcases List.mem_append.1 hp with q | q
        · exact h.net p q
        · rw [List.mem_singleton] at q
          subst q
          exact ⟨⟨by show 0 ≤ (g : Int); omega, by show (g : Int) < 256; omega, by show 0 ≤ (i : Int); omega, by show (i : Int) < 256; omega⟩, .inl ⟨rfl, rfl⟩⟩
      · exact h.net p hp
  · exact h
theorem PkOk.gm (HN : NetOK A) {n sz : Nat} {p : Pkt} (h : PkOk A n sz p) (hz : sz ≤ 5) {R : MR} (ho : Ok A R) (hs : R.st.n = n) : ∀ m, A.dec p.d = some m → ¬ ((p.fg.toNat, p.fr.toNat).1 = 255 ∧ m.kind ≠ 1) → GM A R (p.fg.toNat, p.fr.toNat) m := by
  intro m hd hn
  obtain ⟨b1, b2⟩ := HN.ask _ _ hd
  obtain ⟨l1, l2, l3⟩ := HN.lens _ ho.st
  rcases h.2 with ⟨c1, c2⟩ | ⟨g, i, hg, hi, c1, c2, c3, m0, e1, e2⟩
  · have hk : m.kind = 1 := Classical.byContradiction fun e => hn ⟨by show p.fg.toNat = 255; rw [c1]; rfl, e⟩
    exact ⟨b1, b2, fun e => by omega, fun e => by omega, fun e => by omega, fun e => by omega, fun e => by omega, fun e => by omega⟩
  · rw [e1] at hd
    have e2 := HN.back _ _ _ e2 hd
    have f5 : (p.fg.toNat, p.fr.toNat).2 < 5 := by show p.fr.toNat < 5; omega
    exact ⟨b1, fun k => (e2.k1 k).elim, fun k => ⟨(e2.vs k).1, Nat.le_trans (e2.vs k).2 (by decide), f5⟩, e2.acc, fun k => ⟨e2.acd k, f5⟩, e2.dec, fun k => ⟨(e2.mov k).1, by have := (e2.mov k).2.1; omega, (e2.mov k).2.2⟩, fun k => ⟨(e2.ack k).1, by have := (e2.ack k).2.1; omega, (e2.ack k).2.2⟩⟩
theorem PkOk.f8 {n sz : Nat} {p : Pkt} (h : PkOk A n sz p) (hn : n ≤ 4) (hz : sz ≤ 5) : (p.fg.toNat < 256 ∧ p.fr.toNat < 256) ∧ p.fg = (p.fg.toNat : Int) ∧ p.fr = (p.fr.toNat : Int) := by
  rcases h.2 with ⟨c1, c2⟩ | ⟨g, i, hg, hi, c1, c2, _⟩ <;> omega
theorem Clu.Fine.deliver (HA : AplOK A) (HN : NetOK A) (h : C.Fine A) (k : Nat) : (C.deliver A k).Fine A := by
  unfold Clu.deliver
  split
  · exact h
  · rename_i p hp
    have hm := h.net p (List.mem_of_getElem? hp)
    split
    · rename_i c
      have o := h.ok _ _ c.1 c.2
      have gm := hm.gm HN h.sz o (h.sd _ _ c.1 c.2).1
      exact h.done c.1 c.2 (o.take HA gm) (Nx.take HA HN o (hm.f8 h.n h.sz).1 gm)
    · exact h
theorem Clu.Fine.new (HA : AplOK A) (HN : NetOK A) {n sz : Nat} (hn : n ≤ 4) (hN : n = A.N) (hz : sz ≤ 5) : (Clu.new A n sz).Fine A := by
  refine ⟨hn, hz, fun g i hg hi => Ok.new HA hg hn hN hi hz, fun _ _ _ _ => rfl, fun _ _ _ _ => ⟨rfl, rfl, rfl, rfl⟩, fun g i hg hi => ?_, Nat.zero_le _, fun _ h => by cases h⟩
  obtain ⟨e1, e2⟩ := HN.bgn g n hg hn
  exact ⟨e1, e2⟩
end
/-- A contract for one who has nobody beside him but such as leave. -/
def CallsX (P : Program) (f : FuncId) (args : Array Value) (w : World) (Post : Value → World → Prop) : Prop := ∀ (K : Machine → Trace → Prop) (cF : Frame) (cs : List Frame), (∀ v w', Post v w' → XR P K (G (cF.finish v) cs) w') → XR P K (G (Frame.enter P f args .normal) (cF :: cs)) w
@[reducible] def serX (P : Program) : Ser P := ⟨CallsX P, fun h hs K cF cs hk => shut_XR.rely hs (h K cF cs hk), fun main D X => main = true ∧ D = OkE ∧ ∃ K, X = XR P K, fun _ hφ => fun h hk => by
  obtain ⟨rfl, rfl, K, rfl⟩ := hφ
  exact h K _ _ hk⟩
theorem CallsY.x {P : Program} {f : FuncId} {args : Array Value} {w : World} {Post : Value → World → Prop} (h : CallsY P f args w Post) : CallsX P f args w Post := fun K cF cs hk => h true OkE (XR P K) (cF :: cs) shut_XR fun _ v w' _ hl hp => shut_XR.back hl (hk v w' hp)
theorem callX {P : Program} (E : Eng P) (hm : P.follows .mixedOrders = true) {f : FuncId} {fn : Func} {c : Code} {args : List Value} {w : World} {Post : Value → World → Prop} (hf : P.funcs[f]? = some fn) (hb : fn.body = some c) (hn : Nat.ble args.length fn.ntmps = true) (h : @codeW P (serX P) E fn.ntmps c (retW E fn.results.toList Post) (argS args 0) w) : CallsX P f args.toArray w Post :=
  fun K _cF _cs hk => @callV P (serX P) E hm _ _ _ _ _ _ hf hb hn h _ _ _ (@SX.mk P (serX P) true OkE (XR P K) shut_XR ⟨rfl, rfl, K, rfl⟩) _ fun _ v w' _ hl hp => shut_XR.back hl (hk v w' hp)
/-- A cluster, and all that must not change beside it. -/
structure ClA (Λ : Snp) (bc : Nat) (C : Clu) (gv sv : Value) (B : Nat → Nat → Nat) (ad : Nat → Nat → RAd) (w : World) : Prop where
  ci : CI w bc gv sv C.q C.n C.sz B ad C.F
  pr : ∀ b o, Λ.pr b = some o → w.heap[b]? = some o ∧ ¬ COwn C.n C.sz B bc sv ad b
  os : w.os = Λ.os
  out : w.output = Λ.out
def ClK (Λ : Snp) (bc : Nat) (C : Clu) (w : World) : Prop := ∃ gv sv B ad, ClA Λ bc C gv sv B ad w
section
variable {Λ : Snp} {w w' : World} {bc : Nat} {C C' : Clu} {gv sv sv' : Value} {B : Nat → Nat → Nat} {ad ad' : Nat → Nat → RAd}
theorem ClA.gb0 (h : ClA Λ bc C gv sv B ad w) (g : GB none w w') : ClA Λ bc C gv sv B ad w' := ⟨h.ci.gb0 g, fun b o hb => ⟨g.get (h.pr b o hb).1 nofun, (h.pr b o hb).2⟩, g.os.trans h.os, g.out.trans h.out⟩
theorem ClK.gb0 (h : ClK Λ bc C w) (g : GB none w w') : ClK Λ bc C w' := by obtain ⟨gv, sv, B, ad, h⟩ := h; exact ⟨gv, sv, B, ad, h.gb0 g⟩
theorem ClA.step (h : ClA Λ bc C gv sv B ad w) (hn : C'.n = C.n) (hz : C'.sz = C.sz) (hc : CI w' bc gv sv' C'.q C'.n C'.sz B ad' C'.F) (ho : w'.os = w.os) (hu : w'.output = w.output) (hf : CFr C.n C.sz B bc w sv ad w' sv' ad') : ClK Λ bc C' w' :=
  ⟨gv, sv', B, ad', hc, fun b o hb => by rw [hn, hz]; exact hf b o (h.pr b o hb).1 (h.pr b o hb).2, ho.trans h.os, hu.trans h.out⟩
end
section
variable {A : Apl} (HA : AplOK A) {Λ : Snp} {w : World} {bc : Nat} {C : Clu}
include HA
theorem crash_K (h : ClK Λ bc C w) (hf : C.Fine A) (g i : Nat) (hg : g < 256) (hi : i < 256) : CY 21 #[.pointer (some ⟨bc, 0, none⟩), .agg #[.int .u8 g, .int .u8 i]] w (fun v w' => v = .int .i64 (if g < C.n ∧ i < C.sz then 0 else 6) ∧ ClK Λ bc (C.crash A g i) w' ∧ Kz w w') := by
  obtain ⟨gv, sv, B, ad, h⟩ := h
  refine CallsY.mono' (crash_ok HA h.ci hf.n hf.sz g i hg hi fun a b => hf.ok g i a b) ?_
  rintro v w1 ⟨rfl, ⟨ad', h1, f1⟩, o1, u1, k1⟩
  refine ⟨rfl, ?_, k1⟩
  unfold Clu.crash
  split
  · rename_i c
    rw [if_pos c] at h1
    exact h.step rfl rfl h1 o1 u1 f1
  · rename_i c
    rw [if_neg c] at h1
    exact h.step rfl rfl h1 o1 u1 f1
omit HA in
theorem send_K (h : ClK Λ bc C w) (hn : C.n ≤ 4) (hs : C.sz ≤ 5) (g i : Nat) (hg : g < 256) (hi : i < 256) (d : ByteArray) : CY 23 #[.pointer (some ⟨bc, 0, none⟩), .agg #[.int .u8 g, .int .u8 i], .string d] w (fun v w' => v = .tuple #[.int .i64 (if (g < C.n ∧ i < C.sz) ∧ ¬ d.size > 1000 then (C.q.length : Int) else 0), .int .i64 (if g < C.n ∧ i < C.sz then (if d.size > 1000 then 2 else 0) else 6)] ∧ ClK Λ bc (C.send g i d) w' ∧ Kz w w') := by
  obtain ⟨gv, sv, B, ad, h⟩ := h
  refine CallsY.mono' (sendC_ok h.ci hn hs g i hg hi d) ?_
  rintro v w1 ⟨⟨sv', q', h1, f1, hc⟩, k1, o1, u1⟩
  unfold Clu.send
  rcases hc with ⟨c, rfl, rfl⟩ | ⟨c, e, rfl, rfl⟩ | ⟨c, e, rfl, rfl⟩
  · rw [if_neg (fun x => c x.1), if_neg c, if_neg (fun x => c x.1)]
    exact ⟨rfl, h.step rfl rfl h1 o1 u1 f1, k1⟩
  · rw [if_neg (fun x => x.2 e), if_pos c, if_pos e, if_neg (fun x => x.2 e)]
    exact ⟨rfl, h.step rfl rfl h1 o1 u1 f1, k1⟩
  · rw [if_pos ⟨c, e⟩, if_pos c, if_neg e, if_pos ⟨c, e⟩]
    exact ⟨rfl, h.step rfl rfl h1 o1 u1 f1, k1⟩
omit HA in
/-- A step in a cluster. -/
theorem step_X {gv sv : Value} {B : Nat → Nat → Nat} {ad : Nat → Nat → RAd} (h : ClA Λ bc C gv sv B ad w) {g i : Nat} (hg : g < C.n) (hi : i < C.sz) {f : FuncId} {fst cap : Array Value} {fn : Func}
    (hf : Tryz.prog.funcs[f]? = some fn) (hname : (fn.name == "runtime.NumGoroutine") = false) (hb : fn.body.isNone = false) {R' : MR} (hl : R'.out.length < 1000000)
    (hwork : ∀ w1, GB none w w1 → CY f (fst ++ cap) w1 (fun _ w' => Wk (rest w1 (B g i) (ad g i)) (B g i) R' w' ∧ Kz w1 w')) :
    CallsX Tryz.prog 59 #[.pointer (some ⟨bc, 0, none⟩), .pointer (some ⟨B g i, 0, none⟩), .func (.func f) fst cap] w (fun v w' => v = .tuple #[] ∧ ClK Λ bc (C.done g i R') w' ∧ Kz w w') := by
  intro K cF cs hk
  exact step_CI h.ci hg hi hf hname hb hl hwork fun w4 sv' ad' h4 o4 u4 k4 f4 => hk _ w4 ⟨rfl, h.step rfl rfl h4 o4 u4 f4, k4⟩
theorem tick_X (h : ClK Λ bc C w) (hf : C.Fine A) (g i : Nat) (hg : g < 256) (hi : i < 256) : CallsX Tryz.prog 20 #[.pointer (some ⟨bc, 0, none⟩), .agg #[.int .u8 g, .int .u8 i]] w (fun v w' => v = .int .i64 (if g < C.n ∧ i < C.sz then 0 else 6) ∧ ClK Λ bc (C.tick A g i) w' ∧ Kz w w') := by
  obtain ⟨gv, sv, B, ad, h⟩ := h
  refine callX eng mixed Tryz.func20 rfl rfl ?_
  intro w1 b1 m1 g1 l1
  have h1 := h.gb0 g1
  refine ⟨_, _, m1, [.int .u8 g, .int .u8 i], rfl, rfl, _, (find_ok h1.ci hf.n hf.sz g i hg hi).x, ?_⟩
  rintro _ w2 ⟨rfl, g2⟩
  have h2 := h1.gb0 g2
  have G := g1.trans g2
  unfold Clu.tick
  by_cases c : g < C.n ∧ i < C.sz
  · rw [if_pos c, if_pos c, if_pos c]
    have o := hf.ok g i c.1 c.2
    have e := hf.out g i c.1 c.2
    have hl := tick_len HA o
    rw [e] at hl
    refine ⟨_, step_X h2 c.1 c.2 (f := 60) Tryz.func60 (by kernel_rfl) (by kernel_rfl) (R' := mTick A (C.F g i)) (by simp only [List.length_nil] at hl; omega) (fun w3 g3 => CallsY.mono' (tick_ok HA ((h2.gb0 g3).ci.enter c.1 c.2) o (by rw [e]; exact Nat.zero_le _)) fun v w' hp => hp.2), ?_⟩
    rintro _ w3 ⟨rfl, h3, k3⟩
    exact ⟨rfl, h3, G.kz.trans k3⟩
  · rw [if_neg c, if_neg c, if_neg c]
    exact ⟨rfl, ⟨_, _, _, _, h2⟩, G.kz⟩
end
/-- The same, for those beside leavers alone. -/
abbrev CSX (P : Program) (n : Nat) (c : Code) (K : Ex → Sg → World → Prop) (s : Sg) (w : World) : Prop := @CS P (serX P) n c K s w
section
variable {P : Program} {n : Nat} {c x y : Code} {K K' : Ex → Sg → World → Prop} {s q : Sg} {w : World}
theorem CSX.of (E : Eng P) (hm : P.follows .mixedOrders = true) (h : @codeW P (serX P) E n c K s w) : CSX P n c K s w := @CS.of P (serX P) _ _ _ _ _ E hm h
theorem CSX.e (h : @codeW Tryz.prog (serX Tryz.prog) eng n c K s w) : CSX Tryz.prog n c K s w := CSX.of eng mixed h
theorem CSX.cond {o : Operand} (t : Bool) (he : ev s o = some (.bool t)) (h : CSX P n (bif t then x else y) K s w) : CSX P n (.cond o x y) K s w := @CS.cond P (serX P) _ _ _ _ _ _ _ t he h
theorem CSX.piece {Q : Sg → World → Prop} (h : CSX P n x (Thru Q) s w) (hy : ∀ q w, Q q w → CSX P n y K q w) : CSX P n (.seq x y) K s w := @CS.piece P (serX P) _ _ _ _ _ _ _ h hy
end
def askB (c s : Int) : Bool := decide (c < 4) && decide (1 ≤ s)
def okQ (q : Req) : Bool := askB q.c q.s && (if q.k = 1 ∨ q.k = 3 then q.v == 0 && (q.hi == 0 && q.to == 0) else if q.k = 2 then q.hi == 0 && q.to == 0 else if q.k = 4 then decide (q.key ≤ q.hi) && (decide (q.to < 4) && q.v == 0) else false)
def okP (p : Rep) : Bool := askB p.c p.s && (if p.k = 1 then (p.found || p.v == 0) && p.g == 0 else if p.k = 3 then decide (p.g < 4) && (!p.found && p.v == 0) else if p.k = 2 ∨ p.k = 4 ∨ p.k = 5 then !p.found && (p.v == 0 && p.g == 0) else false)
theorem asker_ok (w : World) (c s : Int) : CY 132 #[.int .u8 c, .int .u32 s] w (fun v w' => v = .bool (askB c s) ∧ w' = w) := by
  refine callE Tryz.func132 rfl rfl ?_
  refine spl (fun d => ?_) (fun d => ?_)
  · exact ⟨vb (by grind [askB]), rfl⟩
  · exact ⟨vb (by grind [askB]), rfl⟩
theorem group_ok (w : World) (g : Int) : CY 133 #[.int .u8 g] w (fun v w' => v = .bool (decide (g < 4)) ∧ w' = w) := by
  refine callE Tryz.func133 rfl rfl ?_
  exact ⟨rfl, rfl⟩
theorem remembered_ok (w : World) (k : Int) : CY 184 #[.int .u8 k] w (fun v w' => v = .bool (kept k) ∧ w' = w) := by
  refine callE Tryz.func184 rfl rfl ?_
  refine spl (fun d => ?_) (fun d => ?_)
  · refine spl (fun e => ?_) (fun e => ?_)
    · exact ⟨vb (by simp at d e; simp [kept, d, e]), rfl⟩
    · exact ⟨vb (by simp at d e; simp [kept, e]), rfl⟩
  · exact ⟨vb (by simp at d; simp [kept, d]), rfl⟩
theorem within_ok (w : World) (r : Rg) (rv dv : Value) (k : Int) : CY 182 #[.agg (rgC r rv dv).toArray, .int .u64 k] w (fun v w' => v = .bool (decide (r.lo ≤ k) && decide (k ≤ r.hi)) ∧ GB none w w') := by
  refine callE Tryz.func182 rfl rfl ?_
  refine fun w1 b1 m1 g1 l1 => ⟨_, _, m1, _, rfl, ?_⟩
  refine spl (fun d => ?_) (fun d => ?_)
  · exact ⟨_, _, m1, _, rfl, vb (by grind), g1⟩
  · exact ⟨vb (by grind), g1⟩
theorem ahead_ok (w : World) (a b : Rep) : CY 185 #[.agg a.cells.toArray, .agg b.cells.toArray] w (fun v w' => v = .bool (ahead a b) ∧ GB none w w') := by
  refine callE Tryz.func185 rfl rfl ?_
  refine fun w1 b1 m1 g1 l1 w2 b2 m2 g2 l2 => ?_
  have m1 := g2.get m1 nofun
  have g := g1.trans g2
  refine ⟨_, _, m1, _, rfl, _, _, m2, _, rfl, ?_⟩
  refine spl (fun d => ?_) (fun d => ?_)
  · refine ⟨_, _, m1, _, rfl, _, _, m2, _, rfl, ?_⟩
    refine spl (fun e => ?_) (fun e => ?_)
    · exact ⟨_, _, m1, _, rfl, _, _, m2, _, rfl, vb (by simp at d e; simp [ahead, e]), g⟩
    · exact ⟨vb (by simp at d e; simp [ahead, e]; omega), g⟩
  · exact ⟨vb (by simp at d; simp [ahead, d]), g⟩
theorem request_4 (w : World) (c s key v hi to : Int) : CY 82 #[.agg (Req.cells ⟨c, s, 4, key, v, hi, to⟩).toArray] w (fun x w' => x = .bool (okQ ⟨c, s, 4, key, v, hi, to⟩) ∧ GB none w w') := by
  refine callYS eng Tryz.func82 rfl rfl ?_
  refine CS.piece (Q := fun q w' => ∃ b1, q = [(1, .pointer (some ⟨b1, 0, none⟩))] ∧ Hl w' b1 (Req.cells ⟨c, s, 4, key, v, hi, to⟩) 50 ∧ GB none w w' ∧ w.heap.size ≤ b1) (CS.e (fun w1 b1 m1 g1 l1 => ⟨_, by exact sb rfl, b1, rfl, m1, g1, l1⟩)) ?_
  rintro q w1 ⟨b1, rfl, m1, g1, l1⟩
  refine CS.piece (Q := fun q w' => q = [(1, .pointer (some ⟨b1, 0, none⟩)), (3, .bool (askB c s))] ∧ w' = w1) (CS.e ?_) ?_
  · refine ⟨_, _, m1, _, rfl, _, _, m1, _, rfl, _, asker_ok _ _ _, ?_⟩
    rintro _ w1 ⟨rfl, rfl⟩
    exact ⟨_, by exact sb rfl, rfl, rfl⟩
  rintro q w1 ⟨rfl, rfl⟩
  refine CS.piece (Q := fun q w' => ∃ a, q = [(1, .pointer (some ⟨b1, 0, none⟩)), (3, .bool a)] ∧ a = (askB c s && (decide (key ≤ hi) && decide (to < 4))) ∧ Hl w' b1 (Req.cells ⟨c, s, 4, key, v, 0, 0⟩) 50 ∧ GB none w w') (CS.e ?_) ?_
  · refine ⟨_, _, m1, _, rfl, ?_⟩
    generalize askB c s = a
    cases a
    · refine ⟨_, _, _, m1, rfl, rfl, fun w2 m2 g2 => ⟨_, _, _, m2, rfl, rfl, fun w3 m3 g3 => ?_⟩⟩
      exact ⟨_, by exact sb rfl, _, rfl, rfl, m3, (g1.new g2 l1).new g3 l1⟩
    · refine ⟨_, _, m1, _, rfl, _, _, m1, _, rfl, ?_⟩
      refine spl (fun d => ?_) (fun d => ?_)
      · refine ⟨_, _, m1, _, rfl, _, group_ok _ _, ?_⟩
        rintro _ w1 ⟨rfl, rfl⟩
        refine ⟨_, _, _, m1, rfl, rfl, fun w2 m2 g2 => ⟨_, _, _, m2, rfl, rfl, fun w3 m3 g3 => ?_⟩⟩
        exact ⟨_, by exact sb rfl, _, rfl, by simp at d; simp [d], m3, (g1.new g2 l1).new g3 l1⟩
      · refine ⟨_, _, _, m1, rfl, rfl, fun w2 m2 g2 => ⟨_, _, _, m2, rfl, rfl, fun w3 m3 g3 => ?_⟩⟩
        exact ⟨_, by exact sb rfl, _, rfl, by simp at d; simp [Int.not_le.2 d], m3, (g1.new g2 l1).new g3 l1⟩
  rintro q w3 ⟨_, rfl, rfl, m3, g⟩
  have e : okQ ⟨c, s, 4, key, v, hi, to⟩ = ((askB c s && (decide (key ≤ hi) && decide (to < 4))) && v == 0) := by simp [okQ, Bool.and_assoc]
  rw [e]
  generalize (askB c s && (decide (key ≤ hi) && decide (to < 4))) = a
  refine CS.e ?_
  cases a
  · exact ⟨rfl, g⟩
  · refine ⟨_, _, m3, _, rfl, ?_⟩
    refine spl (fun d => ?_) (fun d => ?_)
    · exact ⟨_, _, m3, _, rfl, _, _, m3, _, rfl, vb (by grind), g⟩
    · exact ⟨vb (by grind), g⟩
theorem request_ok (w : World) (q : Req) : CY 82 #[.agg q.cells.toArray] w (fun v w' => v = .bool (okQ q) ∧ GB none w w') := by
  obtain ⟨c, s, k, key, v, hi, to⟩ := q
  by_cases k1 : k = 1
  · subst k1
    refine callE Tryz.func82 rfl rfl ?_
    refine fun w1 b1 m1 g1 l1 => ⟨_, _, m1, _, rfl, _, _, m1, _, rfl, _, asker_ok _ _ _, ?_⟩
    rintro _ w1 ⟨rfl, rfl⟩
    simp only [okQ]
    generalize askB c s = a
    refine ⟨_, _, m1, _, rfl, ?_⟩
    cases a
    · exact ⟨vb (by grind), g1⟩
    · refine ⟨_, _, m1, _, rfl, ?_⟩
      refine spl (fun c0 => ?_) (fun c0 => ?_)
      · refine ⟨_, _, m1, _, rfl, ?_⟩
        refine spl (fun c1 => ?_) (fun c1 => ?_)
        · refine ⟨_, _, m1, _, rfl, ?_⟩
          exact ⟨vb (by grind), g1⟩
        · exact ⟨vb (by grind), g1⟩
      · exact ⟨vb (by grind), g1⟩
  by_cases k3 : k = 3
  · subst k3
    refine callE Tryz.func82 rfl rfl ?_
    refine fun w1 b1 m1 g1 l1 => ⟨_, _, m1, _, rfl, _, _, m1, _, rfl, _, asker_ok _ _ _, ?_⟩
    rintro _ w1 ⟨rfl, rfl⟩
    simp only [okQ]
    generalize askB c s = a
    refine ⟨_, _, m1, _, rfl, ?_⟩
    cases a
    · exact ⟨vb (by grind), g1⟩
    · refine ⟨_, _, m1, _, rfl, ?_⟩
      refine spl (fun c0 => ?_) (fun c0 => ?_)
      · refine ⟨_, _, m1, _, rfl, ?_⟩
        refine spl (fun c1 => ?_) (fun c1 => ?_)
        · refine ⟨_, _, m1, _, rfl, ?_⟩
          exact ⟨vb (by grind), g1⟩
        · exact ⟨vb (by grind), g1⟩
      · exact ⟨vb (by grind), g1⟩
  by_cases k2 : k = 2
  · subst k2
    refine callE Tryz.func82 rfl rfl ?_
    refine fun w1 b1 m1 g1 l1 => ⟨_, _, m1, _, rfl, _, _, m1, _, rfl, _, asker_ok _ _ _, ?_⟩
    rintro _ w1 ⟨rfl, rfl⟩
    simp only [okQ]
    generalize askB c s = a
    refine ⟨_, _, m1, _, rfl, ?_⟩
    cases a
    · refine ⟨_, _, _, m1, rfl, rfl, fun w2 m2 g2 => ?_⟩
      have g := g1.new g2 l1
      exact ⟨vb (by grind), g⟩
    · refine ⟨_, _, _, m1, rfl, rfl, fun w2 m2 g2 => ?_⟩
      have g := g1.new g2 l1
      refine ⟨_, _, m2, _, rfl, ?_⟩
      refine ⟨_, _, m2, _, rfl, ?_⟩
      refine spl (fun c0 => ?_) (fun c0 => ?_)
      · refine ⟨_, _, m2, _, rfl, ?_⟩
        exact ⟨vb (by grind), g⟩
      · exact ⟨vb (by grind), g⟩
  by_cases k4 : k = 4
  · subst k4
    exact request_4 w c s key v hi to
  refine callE Tryz.func82 rfl rfl ?_
  refine fun w1 b1 m1 g1 l1 => ⟨_, _, m1, _, rfl, _, _, m1, _, rfl, _, asker_ok _ _ _, ?_⟩
  rintro _ w1 ⟨rfl, rfl⟩
  refine ⟨_, _, m1, _, rfl, ?_⟩
  refine spl (fun e => absurd (by simpa using e) k1) (fun _ => ?_)
  refine spl (fun e => absurd (by simpa using e) k3) (fun _ => ?_)
  refine spl (fun e => absurd (by simpa using e) k2) (fun _ => ?_)
  refine spl (fun e => absurd (by simpa using e) k4) (fun _ => ?_)
  exact ⟨vb (by grind [okQ]), g1⟩
theorem reply_ok (w : World) (p : Rep) : CY 183 #[.agg p.cells.toArray] w (fun v w' => v = .bool (okP p) ∧ GB none w w') := by
  obtain ⟨c, s, key, k, found, v, g⟩ := p
  by_cases k1 : k = 1
  · subst k1
    refine callE Tryz.func183 rfl rfl ?_
    refine fun w1 b1 m1 g1 l1 => ⟨_, _, m1, _, rfl, _, _, m1, _, rfl, _, asker_ok _ _ _, ?_⟩
    rintro _ w1 ⟨rfl, rfl⟩
    simp only [okP]
    generalize askB c s = a
    refine ⟨_, _, m1, _, rfl, ?_⟩
    cases a
    · cases found
      · refine ⟨_, _, _, m1, rfl, rfl, fun w2 m2 g2 => ⟨_, _, _, m2, rfl, rfl, fun w3 m3 g3 => ?_⟩⟩
        have g9 := (g1.new g2 l1).new g3 l1
        exact ⟨vb (by grind), g9⟩
      · refine ⟨_, _, _, m1, rfl, rfl, fun w2 m2 g2 => ⟨_, _, _, m2, rfl, rfl, fun w3 m3 g3 => ?_⟩⟩
        have g9 := (g1.new g2 l1).new g3 l1
        exact ⟨vb (by grind), g9⟩
    · cases found
      · refine ⟨_, _, m1, _, rfl, ?_⟩
        refine ⟨_, _, m1, _, rfl, ?_⟩
        refine ⟨_, _, _, m1, rfl, rfl, fun w2 m2 g2 => ⟨_, _, _, m2, rfl, rfl, fun w3 m3 g3 => ?_⟩⟩
        have g9 := (g1.new g2 l1).new g3 l1
        refine spl (fun c0 => ?_) (fun c0 => ?_)
        · refine ⟨_, _, m3, _, rfl, ?_⟩
          refine ⟨_, _, m3, _, rfl, ?_⟩
          refine ⟨_, _, m3, _, rfl, ?_⟩
          exact ⟨vb (by grind), g9⟩
        · exact ⟨vb (by grind), g9⟩
      · refine ⟨_, _, m1, _, rfl, ?_⟩
        refine ⟨_, _, _, m1, rfl, rfl, fun w2 m2 g2 => ⟨_, _, _, m2, rfl, rfl, fun w3 m3 g3 => ?_⟩⟩
        have g9 := (g1.new g2 l1).new g3 l1
        refine ⟨_, _, m3, _, rfl, ?_⟩
        refine ⟨_, _, m3, _, rfl, ?_⟩
        refine ⟨_, _, m3, _, rfl, ?_⟩
        exact ⟨vb (by grind), g9⟩
  by_cases k3 : k = 3
  · subst k3
    refine callE Tryz.func183 rfl rfl ?_
    refine fun w1 b1 m1 g1 l1 => ⟨_, _, m1, _, rfl, _, _, m1, _, rfl, _, asker_ok _ _ _, ?_⟩
    rintro _ w1 ⟨rfl, rfl⟩
    simp only [okP]
    generalize askB c s = a
    refine ⟨_, _, m1, _, rfl, ?_⟩
    cases a
    · cases found
      · refine ⟨_, _, _, m1, rfl, rfl, fun w2 m2 g2 => ?_⟩
        have g9 := g1.new g2 l1
        exact ⟨vb (by grind), g9⟩
      · refine ⟨_, _, _, m1, rfl, rfl, fun w2 m2 g2 => ?_⟩
        have g9 := g1.new g2 l1
        exact ⟨vb (by grind), g9⟩
    · cases found
      · refine ⟨_, _, m1, _, rfl, ?_⟩
        refine ⟨_, group_ok _ _, ?_⟩
        rintro _ w1 ⟨rfl, rfl⟩
        refine ⟨_, _, _, m1, rfl, rfl, fun w2 m2 g2 => ?_⟩
        have g9 := g1.new g2 l1
        refine spl (fun c0 => ?_) (fun c0 => ?_)
        · refine ⟨_, _, m2, _, rfl, ?_⟩
          refine ⟨_, _, m2, _, rfl, ?_⟩
          refine spl (fun c1 => ?_) (fun c1 => ?_)
          · refine ⟨_, _, m2, _, rfl, ?_⟩
            exact ⟨vb (by grind), g9⟩
          · exact ⟨vb (by grind), g9⟩
        · exact ⟨vb (by grind), g9⟩
      · refine ⟨_, _, m1, _, rfl, ?_⟩
        refine ⟨_, group_ok _ _, ?_⟩
        rintro _ w1 ⟨rfl, rfl⟩
        refine ⟨_, _, _, m1, rfl, rfl, fun w2 m2 g2 => ?_⟩
        have g9 := g1.new g2 l1
        refine spl (fun c0 => ?_) (fun c0 => ?_)
        · refine ⟨_, _, m2, _, rfl, ?_⟩
          exact ⟨vb (by grind), g9⟩
        · exact ⟨vb (by grind), g9⟩
  by_cases k2 : k = 2
  · subst k2
    refine callE Tryz.func183 rfl rfl ?_
    refine fun w1 b1 m1 g1 l1 => ⟨_, _, m1, _, rfl, _, _, m1, _, rfl, _, asker_ok _ _ _, ?_⟩
    rintro _ w1 ⟨rfl, rfl⟩
    simp only [okP]
    generalize askB c s = a
    refine ⟨_, _, m1, _, rfl, ?_⟩
    cases a
    · cases found
      · exact ⟨vb (by grind), g1⟩
      · exact ⟨vb (by grind), g1⟩
    · cases found
      · refine ⟨_, _, m1, _, rfl, ?_⟩
        refine ⟨_, _, m1, _, rfl, ?_⟩
        refine spl (fun c0 => ?_) (fun c0 => ?_)
        · refine ⟨_, _, m1, _, rfl, ?_⟩
          exact ⟨vb (by grind), g1⟩
        · exact ⟨vb (by grind), g1⟩
      · refine ⟨_, _, m1, _, rfl, ?_⟩
        exact ⟨vb (by grind), g1⟩
  by_cases k4 : k = 4
  · subst k4
    refine callE Tryz.func183 rfl rfl ?_
    refine fun w1 b1 m1 g1 l1 => ⟨_, _, m1, _, rfl, _, _, m1, _, rfl, _, asker_ok _ _ _, ?_⟩
    rintro _ w1 ⟨rfl, rfl⟩
    simp only [okP]
    generalize askB c s = a
    refine ⟨_, _, m1, _, rfl, ?_⟩
    cases a
    · cases found
      · exact ⟨vb (by grind), g1⟩
      · exact ⟨vb (by grind), g1⟩
    · cases found
      · refine ⟨_, _, m1, _, rfl, ?_⟩
        refine ⟨_, _, m1, _, rfl, ?_⟩
        refine spl (fun c0 => ?_) (fun c0 => ?_)
        · refine ⟨_, _, m1, _, rfl, ?_⟩
          exact ⟨vb (by grind), g1⟩
        · exact ⟨vb (by grind), g1⟩
      · refine ⟨_, _, m1, _, rfl, ?_⟩
        exact ⟨vb (by grind), g1⟩
  by_cases k5 : k = 5
  · subst k5
    refine callE Tryz.func183 rfl rfl ?_
    refine fun w1 b1 m1 g1 l1 => ⟨_, _, m1, _, rfl, _, _, m1, _, rfl, _, asker_ok _ _ _, ?_⟩
    rintro _ w1 ⟨rfl, rfl⟩
    simp only [okP]
    generalize askB c s = a
    refine ⟨_, _, m1, _, rfl, ?_⟩
    cases a
    · cases found
      · exact ⟨vb (by grind), g1⟩
      · exact ⟨vb (by grind), g1⟩
    · cases found
      · refine ⟨_, _, m1, _, rfl, ?_⟩
        refine ⟨_, _, m1, _, rfl, ?_⟩
        refine spl (fun c0 => ?_) (fun c0 => ?_)
        · refine ⟨_, _, m1, _, rfl, ?_⟩
          exact ⟨vb (by grind), g1⟩
        · exact ⟨vb (by grind), g1⟩
      · refine ⟨_, _, m1, _, rfl, ?_⟩
        exact ⟨vb (by grind), g1⟩
  refine callE Tryz.func183 rfl rfl ?_
  refine fun w1 b1 m1 g1 l1 => ⟨_, _, m1, _, rfl, _, _, m1, _, rfl, _, asker_ok _ _ _, ?_⟩
  rintro _ w1 ⟨rfl, rfl⟩
  refine ⟨_, _, m1, _, rfl, ?_⟩
  refine spl (fun e => absurd (by simpa using e) k1) (fun _ => ?_)
  refine spl (fun e => absurd (by simpa using e) k3) (fun _ => ?_)
  refine spl (fun e => absurd (by simpa using e) k2) (fun _ => ?_)
  refine spl (fun e => absurd (by simpa using e) k4) (fun _ => ?_)
  refine spl (fun e => absurd (by simpa using e) k5) (fun _ => ?_)
  exact ⟨vb (by grind [okP]), g1⟩
end
end Go.Proofs.YtignemioillaiaaGreat
