/- A cluster at work: Send. -/
import Derived.Test.YtignemioillaiaaGreatG33
namespace Go.Proofs.YtignemioillaiaaGreat
set_option maxHeartbeats 8000000
set_option maxRecDepth 100000
section
open Go Go.Conc
theorem lt1k {k : Nat} (h : decide ((k : Int) > 1000) = true) : k > 1000 := by have := of_decide_eq_true h; omega
theorem ge1k {k : Nat} (h : decide ((k : Int) > 1000) = false) : ¬ k > 1000 := by have := of_decide_eq_false h; omega
section
variable {w : World} {bc : Nat} {gv sv : Value} {q : List Pkt} {n sz : Nat} {B : Nat → Nat → Nat} {ad : Nat → Nat → RAd} {F : Nat → Nat → MR}
theorem sendC_ok (h : CI w bc gv sv q n sz B ad F) (hn : n ≤ 4) (hs : sz ≤ 5) (g i : Nat) (hg : g < 256) (hi : i < 256) (d : ByteArray) : CY 23 #[.pointer (some ⟨bc, 0, none⟩), .agg #[.int .u8 g, .int .u8 i], .string d] w (fun v w' => (∃ sv' q', CI w' bc gv sv' q' n sz B ad F ∧ CFr n sz B bc w sv ad w' sv' ad ∧ ((¬ (g < n ∧ i < sz) ∧ v = .tuple #[.int .i64 0, .int .i64 6] ∧ q' = q) ∨ ((g < n ∧ i < sz) ∧ d.size > 1000 ∧ v = .tuple #[.int .i64 0, .int .i64 2] ∧ q' = q) ∨ ((g < n ∧ i < sz) ∧ ¬ d.size > 1000 ∧ v = .tuple #[.int .i64 q.length, .int .i64 0] ∧ q' = mJoin q ⟨255, 255, g, i, d⟩))) ∧ Kz w w' ∧ w'.os = w.os ∧ w'.output = w.output) := by
  refine callE Tryz.func23 rfl rfl ?_
  intro w1 b1 m1 g1 l1
  have h1 := h.gb0 g1
  refine ⟨_, _, m1, [.int .u8 g, .int .u8 i], rfl, rfl, _, find_ok h1 hn hs g i hg hi, ?_⟩
  rintro _ w2 ⟨rfl, g2⟩
  have h2 := h1.gb0 g2
  have G := g1.trans g2
  by_cases c : g < n ∧ i < sz
  · rw [if_pos c]
    refine spl (fun e => ?_) (fun e => ?_)
    · have e1 : d.size > 1000 := lt1k e
      exact ⟨⟨_, _, h2, CFr.gb0 G, .inr (.inl ⟨c, e1, rfl, rfl⟩)⟩, G.kz, G.os, G.out⟩
    · have e1 : ¬ d.size > 1000 := ge1k e
      obtain ⟨bg, cg, cur, tg, egv, _⟩ := h.ptr
      subst egv
      obtain ⟨sa, sc, rfl⟩ := own_slice h2.row
      refine ⟨_, _, h2.clu, _, rfl, fun w3 b3 m3 g3 l3 => ⟨_, _, _, m3, rfl, rfl, fun w4 m4 g4 => ?_⟩⟩
      have g24 : GB none w2 w4 := g3.new g4 l3
      have h4 := h2.gb0 g24
      refine ⟨_, _, m4, [.int .u8 255, .int .u8 255], rfl, rfl, _, _, (g2.trans g24).get m1 nofun, [.int .u8 g, .int .u8 i], rfl, rfl, _, join_ok h4 ⟨255, 255, g, i, d⟩, ?_⟩
      rintro _ w5 ⟨rfl, ⟨sv', h5, f5⟩, k5, o5, u5⟩
      have GG := G.trans g24
      exact ⟨⟨_, _, h5, (CFr.gb0 GG).trans f5, .inr (.inr ⟨c, e1, rfl, rfl⟩)⟩, GG.kz.trans k5, o5.trans GG.os, u5.trans GG.out⟩
  · rw [if_neg c]
    exact ⟨⟨_, _, h2, CFr.gb0 G, .inl ⟨c, rfl, rfl⟩⟩, G.kz, G.os, G.out⟩
end
section
variable {A : Apl} {R : MR}
theorem Ok.stand (ho : Ok A R) : Ok A (mStand R) := ⟨ho.sz, ho.i, ho.st, ho.kn, fun _ _ h => (by cases h), ho.vt, ho.wv, fun _ _ h => (by cases h), fun _ _ h => (by cases h), Nat.zero_lt_succ _, ho.lg, ho.lc, ho.nx, ho.sn⟩
theorem Ok.bal (ho : Ok A R) {b : Bal} (hb : b.n ≤ 4294967295) : Ok A { R with sc := { R.sc with b := b } } := ⟨ho.sz, ho.i, ho.st, ho.kn, ho.pp, ho.vt, ho.wv, ho.mt, ho.ac, ho.pr, ho.lg, ho.lc, ho.nx, ho.sn.1, hb, ho.sn.2.2⟩
theorem Ok.refuse (ho : Ok A R) (f : Nat × Nat) {b : Bal} (hb : b.n ≤ 4294967295) : Ok A (mRefuse A.enc R f b) := by
  unfold mRefuse
  split
  · exact ho.snd _ _ _
  · split
    · exact ho
    · exact (ho.bal hb).stand
theorem Ok.prep (ho : Ok A R) (f : Nat × Nat) {b : Bal} (hb : b.n ≤ 4294967295) : Ok A (mPrep A.enc R f b) := by
  unfold mPrep
  split
  · exact ho.refuse f hb
  · exact (ho.refuse f hb).snd _ _ _
theorem Ok.takeAcc (ho : Ok A R) (f : Nat × Nat) {m : MM} (hb : m.b.n ≤ 4294967295) (hc : A.gc m.c ∧ m.s < 60) : Ok A (mTakeAcc A R f m) := by
  unfold mTakeAcc
  split
  · exact ho.refuse f hb
  · exact ((ho.refuse f hb).vote hc.2 hc.1).snd _ _ _
end
section
variable {A : Apl} (HA : AplOK A) {R : MR}
include HA
theorem Ok.accd (ho : Ok A R) {f : Nat × Nat} (hf : f.2 < 5) (m : MM) : Ok A (mAccd A R f m) := by
  unfold mAccd
  split
  · exact (ho.cntA HA hf).1
  · exact ho
theorem Ok.ask (ho : Ok A R) {q : Req} (hq : A.gc (cAsk q)) : Ok A (mAsk A R q) := by
  unfold mAsk
  split
  · exact ho
  · split
    · exact ho.snd _ _ _
    · exact (ho.offer HA hq).1
theorem Ok.promise (ho : Ok A R) {f : Nat × Nat} (hf : f.2 < 5) (b : Bal) {vs : List MV} (hv : ∀ v ∈ vs, A.gc v.c ∧ v.slot < 60) : Ok A (mPromise A R f b vs) := by
  unfold mPromise
  split
  · exact ho
  · exact ((ho.metAll hv).cntP HA hf).1
theorem Ok.move (ho : Ok A R) (f : Nat × Nat) {r : Rg} (hr : A.gc (cRecv r)) : Ok A (mMove A R f r) := by
  unfold mMove
  split
  · exact ho
  · split
    · exact ho.snd _ _ _
    · split
      · exact (ho.offer HA hr).1
      · exact ho
theorem Ok.tack (ho : Ok A R) {p : Nat} {s : Int} (hp : A.gc (cSet p s)) : Ok A (mTAck A R p s) := by
  unfold mTAck
  split
  · exact ho
  · split
    · exact ho
    · split
      · exact (ho.offer HA hp).1
      · exact ho
theorem Ok.take2 (ho : Ok A R) {f : Nat × Nat} {m : MM} (hm : GM A R f m) : Ok A (mTake2 A R f m) := by
  unfold mTake2
  split
  · rename_i k; exact ho.ask HA (hm.ask k)
  split
  · exact ho.prep f hm.bn
  split
  · rename_i k; exact ho.promise HA (hm.vs k).2.2 _ (hm.vs k).1
  split
  · split
    · exact ho.stand
    · exact ho
  split
  · rename_i k; exact ho.takeAcc f hm.bn (hm.acc k)
  split
  · rename_i k; exact ho.accd HA (hm.acd k).2 m
  split
  · rename_i k; exact (ho.agree HA (hm.dec k).2 (hm.dec k).1).1
  split
  · rename_i k; exact ho.move HA f (hm.mov k).2.2.2
  split
  · rename_i k
    have e : (m.peer.toNat : Int) = m.peer := Int.toNat_of_nonneg (hm.ack k).1
    exact ho.tack HA (by rw [e]; exact (hm.ack k).2.2)
  · exact ho
theorem Ok.take (ho : Ok A R) {f : Nat × Nat} {d : ByteArray} (hm : ∀ m, A.dec d = some m → ¬ (f.1 = 255 ∧ m.kind ≠ 1) → GM A R f m) : Ok A (mTake A R f d) := by
  unfold mTake
  split
  · exact ho
  · rename_i m hd
    split
    · exact ho
    · rename_i hn
      have g := hm m hd hn
      exact (ho.seen g.bn).take2 HA ⟨g.bn, g.ask, g.vs, g.acc, g.acd, g.dec, g.mov, g.ack⟩
end
section
variable {A : Apl} (HA : AplOK A) {R : MR}
include HA
theorem Ok.new {g i gs sz : Nat} (hg : g < gs) (hn : gs ≤ 4) (hN : gs = A.N) (hi : i < sz) (hz : sz ≤ 5) : Ok A (mNew A g i gs sz) :=
  ⟨hz, ⟨hi, hg, hn, hN⟩, HA.bgood _ _ hN hg hn, fun _ _ h => (by cases h), fun _ _ h => (by cases h), fun _ _ h => (by cases h), fun _ _ h => (by cases h), fun _ _ h => (by cases h), fun _ _ h => (by cases h), Nat.zero_lt_succ _, Nat.zero_le _, fun _ h => (by cases h), Nat.zero_le _, Nat.zero_le _, Nat.zero_le _, Nat.zero_le _⟩
omit HA in
theorem refuse_len (R : MR) (f : Nat × Nat) (b : Bal) : (mRefuse A.enc R f b).out.length ≤ R.out.length + 1 := by
  unfold mRefuse
  split
  · rw [Snd_len]; simp
  · split
    · omega
    · show R.out.length ≤ _; omega
theorem take2_len (ho : Ok A R) {f : Nat × Nat} {m : MM} (hm : GM A R f m) : (mTake2 A R f m).out.length ≤ R.out.length + 20000 := by
  have one : ∀ (R : MR) (mm : MM) (x : Nat × Nat), (Snd A.enc R mm [x]).out.length = R.out.length + 1 := fun R mm x => by rw [Snd_len]; rfl
  unfold mTake2
  split
  · rename_i k
    unfold mAsk
    split
    · omega
    split
    · unfold mTell; rw [one]; omega
    · exact Nat.le_trans (ho.offer HA (hm.ask k)).2.1 (by omega)
  split
  · unfold mPrep
    have := refuse_len (A := A) R f m.b
    split
    · omega
    · rw [one]; omega
  split
  · rename_i k
    unfold mPromise
    split
    · omega
    · exact ((ho.metAll (hm.vs k).1).cntP HA (hm.vs k).2.2).2.1
  split
  · split
    · show R.out.length ≤ _; omega
    · omega
  split
  · unfold mTakeAcc
    have := refuse_len (A := A) R f m.b
    split
    · omega
    · rw [one]
      show (mRefuse A.enc R f m.b).out.length + 1 ≤ _
      omega
  split
  · rename_i k
    unfold mAccd
    split
    · exact Nat.le_trans (ho.cntA HA (hm.acd k).2).2.1 (by omega)
    · omega
  split
  · rename_i k
    exact Nat.le_trans (ho.agree HA (hm.dec k).2 (hm.dec k).1).2.1 (by omega)
  split
  · rename_i k
    unfold mMove
    split
    · omega
    split
    · unfold mAck; rw [one]; omega
    split
    · exact Nat.le_trans (ho.offer HA (hm.mov k).2.2.2).2.1 (by omega)
    · omega
  split
  · rename_i k
    have e : (m.peer.toNat : Int) = m.peer := Int.toNat_of_nonneg (hm.ack k).1
    unfold mTAck
    split
    · omega
    split
    · omega
    split
    · exact Nat.le_trans (ho.offer HA (by rw [e]; exact (hm.ack k).2.2)).2.1 (by omega)
    · omega
  · omega
theorem take_len (ho : Ok A R) {f : Nat × Nat} {d : ByteArray} (hm : ∀ m, A.dec d = some m → ¬ (f.1 = 255 ∧ m.kind ≠ 1) → GM A R f m) : (mTake A R f d).out.length ≤ R.out.length + 20000 := by
  unfold mTake
  split
  · omega
  · rename_i m hd
    split
    · omega
    · rename_i hn
      have g := hm m hd hn
      exact take2_len HA (ho.seen g.bn) ⟨g.bn, g.ask, g.vs, g.acc, g.acd, g.dec, g.mov, g.ack⟩
theorem tick_len (ho : Ok A R) : (mTick A R).out.length ≤ R.out.length + 30000 := by
  obtain ⟨o1, l1, _, _⟩ := ho.tick1 HA
  have h2 : (tick2 A (tick1 A R)).out.length ≤ (tick1 A R).out.length + 5 := by
    unfold tick2
    rw [Snd_len]
    have := oth_len (tick1 A R).sc.g (tick1 A R).sc.i (tick1 A R).sc.g (tick1 A R).sc.sz
    have := o1.sz
    omega
  unfold mTick tick3
  split
  · omega
  split
  · have o2 : Ok A (tick2 A (tick1 A R)) := o1.snd _ _ _
    have r1 := mRem1_out A.enc (tick2 A (tick1 A R)) o2.sz (tick2 A (tick1 A R)).sc.next
    have o3 := r1.ok o2
    have r2 := mRem2_out A.enc (mRem1 A.enc (tick2 A (tick1 A R)) (tick2 A (tick1 A R)).sc.next) o3.sz (tick2 A (tick1 A R)).st.O.length
    have a1 := r1.len
    have a2 := r2.len
    have a3 := HA.ol _ o2.st
    have a4 := o2.nx
    unfold mRemind
    exact Nat.le_trans a2 (by omega)
  · omega
end
def endW (Post : World → Prop) : Ex → Sg → World → Prop
  | .n, _, w => Post w
  | .r, _, w => Post w
  | .x _, _, _ => False
theorem bodyW {P : Program} (E : Eng P) (hm : P.follows .mixedOrders = true) (f : FuncId) {c : Code} {m : Nat} {args : List Value} {w : World} {Post : World → Prop} (hn : Nat.ble args.length m = true) (h : codeW E m c (endW Post) (argS args 0) w) : BodyY P f c { tmps := args.toArray ++ Array.replicate (m - args.toArray.size) undef, defers := [] } w (fun _ w' => Post w') := by
  intro main D X b cs hX _ hk0 hk
  have hle := Nat.le_of_ble_eq_true hn
  refine codeW_ok (⟨hX, trivial⟩ : SX P main D X) hk0 hm c _ [] ?_ _ w _ ?_ h
  · intro e s w he a hfit
    cases e with
    | n => exact hX.c.fin (hk a [] w hfit.defers he)
    | x j => exact he.elim
    | r => exact fun todo => hk a todo w hfit.defers he
  · refine ⟨rfl, ?_, fun i v hi => ?_⟩
    · simp; omega
    · obtain ⟨d, h1, h2⟩ := argS_get hi
      rw [Nat.zero_add] at h1
      subst h1
      have hlt : i < args.length := (List.getElem?_eq_some_iff.1 h2).1
      rw [Array.getD_eq_getD_getElem?]
      show (((args.toArray ++ Array.replicate _ undef)[i]?).getD undef) = v
      rw [Array.getElem?_append_left (by simpa using hlt)]
      simp [h2]
section
variable {Λ : Snp} {w : World} {br : Nat} {R : MR}
theorem writeB_ok (h : Wk Λ br R w) : BodyY Tryz.prog 155 (Tryz.f155.body.getD .skip) { tmps := #[.pointer (some ⟨br, 0, none⟩)] ++ Array.replicate (Tryz.f155.ntmps - (#[.pointer (some ⟨br, 0, none⟩)] : Array Value).size) undef, defers := [] } w (fun _ w' => Wk Λ br (mWrite R) w' ∧ Kz w w') := by
  obtain ⟨a, h⟩ := h
  refine bodyW eng mixed _ (args := [.pointer (some ⟨br, 0, none⟩)]) (by kernel_rfl) ?_
  refine ⟨_, _, h.ri.mem, _, rfl, rfl, _, _, _, h.ri.mem, rfl, rfl, fun w1 m1 g1 => ?_⟩
  have h1 := h.cell (s' := { R.sc with wb := R.sc.b }) m1 g1
  have k1 := h.ri.kz h.ri.o_br g1
  have hne : a.vm ≠ a.wm := by have := h1.ri.sep; simp at this; omega
  refine ⟨by kernel_rfl, _, _, h1.ri.mem, _, rfl, _, _, h1.ri.mem, _, rfl, _, copy_ok h1.ri.wm h1.ri.vm hne, ?_⟩
  rintro _ w2 ⟨rfl, hm2, g2⟩
  exact ⟨⟨_, h1.step h1.ri.o_wm g2 (h1.ri.wm' g2 hm2)⟩, k1.trans (h1.ri.kz h1.ri.o_wm g2)⟩
end
section
variable {w w3 w4 : World} {bc : Nat} {gv sv : Value} {q : List Pkt} {n sz : Nat} {B : Nat → Nat → Nat} {ad : Nat → Nat → RAd} {F : Nat → Nat → MR}
theorem RI.own_kind {br : Nat} {R : MR} {a : RAd} (h : RI w br R a) {x : Nat} (hx : Own br a x) : (∃ es c, w.heap[x]? = some (.map es c)) ∨ ∃ c t, w.heap[x]? = some (.cells c t) := by
  rcases hx with rfl | rfl | rfl | rfl | rfl | rfl | rfl | hx | hx
  · exact .inr ⟨_, _, h.mem⟩
  · exact .inl h.vm.obj
  · exact .inl h.wm.obj
  · exact .inl h.kn.obj
  · exact .inl h.mt.obj
  · exact .inl h.pp.obj
  · exact .inl h.ac.obj
  · obtain ⟨c, hc⟩ := h.lg.obj hx; exact .inr ⟨_, _, hc⟩
  · obtain ⟨c, hc⟩ := own_obj h.ob hx; exact .inr ⟨_, _, hc⟩
/-- What a replica had for the network is handed out. -/
theorem CI.out (h : CI w3 bc gv sv q n sz B ad F) {g i : Nat} (hg : g < n) (hi : i < sz) {pk : Nat} (c1 : ∃ a b c d e f, w3.heap[pk]? = some (.chan a b c d e f)) (c2 : ∃ a b c d e f, w3.heap[pk + 1]? = some (.chan a b c d e f)) (hA : After3 bc (B g i) gv sv (ad g i).ob q (F g i).out (rcC (F g i) (ad g i)).toArray 152 pk w3 w4) : ∃ sv', CI w4 bc gv sv' ((q ++ (F g i).out).take 20000) n sz B (upd2 ad g i { ad g i with ob := .slice none 0 0 }) (upd2 F g i { F g i with out := [] }) ∧ Kz w3 w4 ∧ ∀ x o, x ≠ pk → x ≠ pk + 1 → w3.heap[x]? = some o → ¬ COwn n sz B bc sv ad x → w4.heap[x]? = some o ∧ ¬ COwn n sz B bc sv' (upd2 ad g i { ad g i with ob := .slice none 0 0 }) x := by
  obtain ⟨sv', hc4, hr4, hn4⟩ := hA.clu
  have hR := h.rep g i hg hi
  have nch : ∀ {x : Nat} {o : Obj}, w3.heap[x]? = some o → (∀ a b c d e f, o ≠ .chan a b c d e f) → x ≠ pk ∧ x ≠ pk + 1 := by
    intro x o hx ho
    constructor
    · rintro rfl
      obtain ⟨a, b, c, d, e, f, hh⟩ := c1
      rw [hx] at hh; exact ho _ _ _ _ _ _ (Option.some.inj hh)
    · rintro rfl
      obtain ⟨a, b, c, d, e, f, hh⟩ := c2
      rw [hx] at hh; exact ho _ _ _ _ _ _ (Option.some.inj hh)
  have svt : ∀ {x : Nat}, some x = sv.ownBlock → ∃ c, w3.heap[x]? = some (.cells c 139) := fun e => own_obj h.row e.symm
  have slt : ∀ {x : Nat}, some x = (ad g i).ob.ownBlock → ∃ c, w3.heap[x]? = some (.cells c 139) := fun e => own_obj hR.ob e.symm
  have kt : ∀ {x : Nat} {c : Array Value} {t : TypeId}, w3.heap[x]? = some (.cells c t) → t ≠ 139 → t ≠ 131 → t ≠ 152 → w4.heap[x]? = some (.cells c t) := by
    intro x c t hx h1 h2 h3
    obtain ⟨n1, n2⟩ := nch hx nofun
    refine (hA.rest x (lt_heap hx) (fun e => ?_) (fun e => ?_) (fun e => ?_) (fun e => ?_) n1 n2).trans hx
    · subst e; rw [h.clu] at hx; injection hx with hx; injection hx with _ hx; exact h2 hx.symm
    · subst e; rw [hR.mem] at hx; injection hx with hx; injection hx with _ hx; exact h3 hx.symm
    · obtain ⟨c', hc⟩ := svt e; rw [hx] at hc; injection hc with hc; injection hc with _ hc; exact h1 hc
    · obtain ⟨c', hc⟩ := slt e; rw [hx] at hc; injection hc with hc; injection hc with _ hc; exact h1 hc
  have k : Kz w3 w4 := fun t ht b c hb => kt hb (fun e => by subst e; revert ht; decide) (fun e => by subst e; revert ht; decide) (fun e => by subst e; revert ht; decide)
  have nbc : ∀ g' i' x, g' < n → i' < sz → Own (B g' i') (ad g' i') x → x ≠ bc := fun g' i' x hg' hi' ho e => by
    subst e
    rcases (h.rep g' i' hg' hi').own_mu ho h.clu with e | e | e <;> revert e <;> decide
  have pkn : ∀ g' i' x, g' < n → i' < sz → Own (B g' i') (ad g' i') x → x ≠ pk ∧ x ≠ pk + 1 := fun g' i' x hg' hi' ho => by
    rcases (h.rep g' i' hg' hi').own_kind ho with ⟨_, _, hh⟩ | ⟨_, _, hh⟩
    · exact nch hh nofun
    · exact nch hh nofun
  have own : ∀ x, Own (B g i) (ad g i) x → x ≠ B g i → some x ≠ (ad g i).ob.ownBlock → w4.heap[x]? = w3.heap[x]? := fun x hx n1 n2 => hA.rest x (hR.lt hx) (nbc g i x hg hi hx) n1 (fun e => h.ob g i x hg hi e.symm hx) n2 (pkn g i x hg hi hx).1 (pkn g i x hg hi hx).2
  have mp : ∀ m, Own (B g i) (ad g i) m → (∃ es c, w3.heap[m]? = some (Obj.map es c)) → w4.heap[m]? = w3.heap[m]? := fun m ho hm => own m ho (ne_mc hm hR.cbr) fun e => ne_mc hm (hR.cob e.symm) rfl
  have nt : ∀ {t : TypeId}, t ∉ muT → t ≠ 139 ∧ t ≠ 131 ∧ t ≠ 152 := fun {t} ht => ⟨fun e => ht (by rw [e]; decide), fun e => ht (by rw [e]; decide), fun e => ht (by rw [e]; decide)⟩
  have sub : ∀ x, Own (B g i) { ad g i with ob := .slice none 0 0 } x → Own (B g i) (ad g i) x := by
    rintro x (e | e | e | e | e | e | e | e | e)
    · exact .inl e
    · exact .inr (.inl e)
    · exact .inr (.inr (.inl e))
    · exact .inr (.inr (.inr (.inl e)))
    · exact .inr (.inr (.inr (.inr (.inl e))))
    · exact .inr (.inr (.inr (.inr (.inr (.inl e)))))
    · exact .inr (.inr (.inr (.inr (.inr (.inr (.inl e))))))
    · exact hR.o_lg e
    · cases e
  have sub2 : ∀ g' i' x, Own (B g' i') (upd2 ad g i { ad g i with ob := .slice none 0 0 } g' i') x → Own (B g' i') (ad g' i') x := by
    intro g' i' x hx
    by_cases e : g' = g ∧ i' = i
    · obtain ⟨rfl, rfl⟩ := e
      rw [upd2_same] at hx
      exact sub x hx
    · rw [upd2_other _ _ e] at hx
      exact hx
  refine ⟨sv', ⟨hc4, hr4, by rw [List.length_take]; omega, ?_, fun g' i' hg' hi' => ?_, fun g1 i1 g2 i2 x h1 h2 h3 h4 o1 o2 => h.sep g1 i1 g2 i2 x h1 h2 h3 h4 (sub2 _ _ _ o1) (sub2 _ _ _ o2), fun g1 i1 x h1 h2 hx o1 => ?_⟩, k, fun x o p1 p2 hx hN => ?_⟩
  · obtain ⟨bg, cg, cur, tg, e1, e2, e3, e4, e5⟩ := h.ptr
    refine ⟨bg, cg, cur, tg, e1, e2, kt e3 (nt (ptT_mu e4)).1 (nt (ptT_mu e4)).2.1 (nt (ptT_mu e4)).2.2, e4, fun g hg => ?_⟩
    obtain ⟨bs, ct, cur', ts, f1, f2, f3, f4, f5⟩ := e5 g hg
    exact ⟨bs, ct, cur', ts, f1, f2, kt f3 (nt (ptT_mu f4)).1 (nt (ptT_mu f4)).2.1 (nt (ptT_mu f4)).2.2, f4, f5⟩
  · by_cases e : g' = g ∧ i' = i
    · obtain ⟨rfl, rfl⟩ := e
      rw [upd2_same, upd2_same]
      refine ⟨hA.rep, hR.vm.keep (fun _ _ h => h.kz k) (mp _ hR.o_vm hR.vm.obj), hR.wm.keep (fun _ _ h => h.kz k) (mp _ hR.o_wm hR.wm.obj), hR.kn.keep (fun _ _ h => h.kz k) (mp _ hR.o_kn hR.kn.obj), hR.mt.keep (fun _ _ h => h.kz k) (mp _ hR.o_mt hR.mt.obj), hR.pp.keep (fun _ _ h => h.kz k) (mp _ hR.o_pp hR.pp.obj), hR.ac.keep (w' := w4) (fun v x (h : NIn w3 v x) => (show NIn w4 v x from h)) (mp _ hR.o_ac hR.ac.obj), hR.lg.kz k (fun x hx => own x (hR.o_lg hx) (hR.lg_br hx) fun e => hR.lg_ob hx e.symm rfl), hR.st.kz k, own0 _ _ _, hR.sep⟩
    · rw [upd2_other _ _ e, upd2_other _ _ e]
      have ne : ∀ x, Own (B g' i') (ad g' i') x → ¬ Own (B g i) (ad g i) x := fun x o1 o2 => e (h.sep g' i' g i x hg' hi' hg hi o1 o2)
      exact (h.rep g' i' hg' hi').keep k fun x hx => hA.rest x ((h.rep g' i' hg' hi').lt hx) (nbc g' i' x hg' hi' hx) (fun e => ne x hx (.inl e)) (fun e => h.ob g' i' x hg' hi' e.symm hx) (fun e => ne x hx (hR.o_ob e.symm)) (pkn g' i' x hg' hi' hx).1 (pkn g' i' x hg' hi' hx).2
  · have o1 := sub2 _ _ _ o1
    rcases hn4 x hx with h5 | h5
    · exact h.ob g1 i1 x h1 h2 h5 o1
    · have := (h.rep g1 i1 h1 h2).lt o1; omega
  · have no : ¬ Own (B g i) (ad g i) x := fun ho => hN (.inr (.inr ⟨g, i, hg, hi, ho⟩))
    refine ⟨(hA.rest x (lt_heap hx) (fun e => hN (.inl e)) (fun e => no (.inl e)) (fun e => hN (.inr (.inl e.symm))) (fun e => no (hR.o_ob e.symm)) p1 p2).trans hx, fun hc => ?_⟩
    rcases hc with e | e | ⟨g1, i1, q1, q2, o1⟩
    · exact hN (.inl e)
    · rcases hn4 x e with h1 | h1
      · exact hN (.inr (.inl h1))
      · have := lt_heap hx; omega
    · exact hN (.inr (.inr ⟨g1, i1, q1, q2, sub2 _ _ _ o1⟩))
end
section
variable {w : World} {bc : Nat} {gv sv : Value} {q : List Pkt} {n sz : Nat} {B : Nat → Nat → Nat} {ad : Nat → Nat → RAd} {F : Nat → Nat → MR}
/-- Between steps. -/
def mDone (R : MR) : MR := { mWrite R with out := [] }
theorem step_CI {K : Machine → Trace → Prop} (h : CI w bc gv sv q n sz B ad F) {g i : Nat} (hg : g < n) (hi : i < sz) {f : FuncId} {fst cap : Array Value} {fn : Func} {cF : Frame} {cs : List Frame}
    (hf : Tryz.prog.funcs[f]? = some fn) (hname : (fn.name == "runtime.NumGoroutine") = false) (hb : fn.body.isNone = false) {R' : MR} (hl : R'.out.length < 1000000)
    (hwork : ∀ w1, GB none w w1 → CY f (fst ++ cap) w1 (fun _ w' => Wk (rest w1 (B g i) (ad g i)) (B g i) R' w' ∧ Kz w1 w'))
    (hk : ∀ w4 sv' ad', CI w4 bc gv sv' ((q ++ R'.out).take 20000) n sz B ad' (upd2 F g i (mDone R')) → w4.os = w.os → w4.output = w.output → Kz w w4 → CFr n sz B bc w sv ad w4 sv' ad' → XR Tryz.prog K (G (cF.finish (.tuple #[])) cs) w4) :
    XR Tryz.prog K (G (Frame.enter Tryz.prog 59 #[.pointer (some ⟨bc, 0, none⟩), .pointer (some ⟨B g i, 0, none⟩), .func (.func f) fst cap] .normal) (cF :: cs)) w := by
  have hR := h.rep g i hg hi
  have g0 : GB none w ((w.alloc (.chan 0 #[] false 0 0 false)).alloc (.chan 0 #[] false 0 0 false)) := (GB.alloc none w _).trans (GB.alloc none _ _)
  have hpk1 : ((w.alloc (.chan 0 #[] false 0 0 false)).alloc (.chan 0 #[] false 0 0 false)).heap[w.heap.size]? = some (.chan 0 #[] false 0 0 false) := by
    rw [alloc_old (by rw [alloc_size]; omega), alloc_new]
  have hpk2 : ((w.alloc (.chan 0 #[] false 0 0 false)).alloc (.chan 0 #[] false 0 0 false)).heap[w.heap.size + 1]? = some (.chan 0 #[] false 0 0 false) := by
    have := alloc_new (w.alloc (.chan 0 #[] false 0 0 false)) (.chan 0 #[] false 0 0 false)
    rwa [alloc_size] at this
  generalize hw0 : (w.alloc (.chan 0 #[] false 0 0 false)).alloc (.chan 0 #[] false 0 0 false) = w0 at *
  have h0 := h.gb0 g0
  have hR0 := h0.rep g i hg hi
  have nown : ∀ {x : Nat}, w.heap.size ≤ x → ¬ Own (B g i) (ad g i) x := fun hx ho => by have := hR.lt ho; omega
  have pr : ∀ {R3 : MR} {a3 : RAd} {w3 : World}, Wa (rest w0 (B g i) (ad g i)) (B g i) R3 a3 w3 → ∀ {x : Nat} {o : Obj}, w0.heap[x]? = some o → ¬ Own (B g i) (ad g i) x → w3.heap[x]? = some o ∧ ¬ Own (B g i) a3 x := fun {R3 a3 w3} hw {x o} hx hn => hw.pr x o (by unfold rest; dsimp only; rw [if_neg hn]; exact hx)
  have nbc : ¬ Own (B g i) (ad g i) bc := fun ho => by
    rcases hR.own_mu ho h.clu with e | e | e <;> revert e <;> decide
  refine step_XR (bc := bc) (br := B g i) (gv := gv) (sv := sv) (q0 := q) hf hname hb h.len
    (Q1 := fun w1 => Wk (rest w0 (B g i) (ad g i)) (B g i) R' w1 ∧ Kz w0 w1)
    (R3 := fun sl ps rc tR w3 => ∃ a3, Wa (rest w0 (B g i) (ad g i)) (B g i) (mWrite R') a3 w3 ∧ Kz w0 w3 ∧ sl = a3.ob ∧ ps = R'.out ∧ rc = (rcC (mWrite R') a3).toArray ∧ tR = 152) ?_ ?_ ?_
  · rw [hw0]
    exact hwork w0 g0
  · rintro w1 ⟨hW, k1⟩
    have hB := writeB_ok hW
    intro main D X b cs hX e1 e2 hfin
    refine hB main D X b cs hX e1 e2 fun a' todo w3 hd hP => hfin a' todo w3 hd ?_
    obtain ⟨⟨a3, h3⟩, k3⟩ := hP
    have cb := pr h3 (h0.clu) nbc
    refine ⟨a3.ob, R'.out, (rcC (mWrite R') a3).toArray, 152, ⟨cb.1, owns_rely h0.row fun x hx => ?_, h3.ri.mem, rfl, h3.ri.ob, hl, ?_, ?_, ?_, ?_, ?_⟩, a3, h3, k1.trans k3, rfl, rfl, rfl, rfl⟩
    · obtain ⟨c, hc⟩ := own_obj h0.row hx
      exact (pr h3 hc (h0.ob g i x hg hi hx)).1.trans hc.symm
    · exact fun e => nbc (.inl e)
    · exact fun e => h.ob g i _ hg hi e.symm (.inl rfl)
    · exact fun e => cb.2 (h3.ri.o_ob e.symm)
    · intro x hx e
      obtain ⟨c, hc⟩ := own_obj h0.row hx
      exact (pr h3 hc (h0.ob g i x hg hi hx)).2 (h3.ri.o_ob e.symm)
    · exact ⟨(pr h3 hpk1 (nown (Nat.le_refl _))).1, (pr h3 hpk2 (nown (Nat.le_succ _))).1⟩
  · rintro sl ps rc tR w3 w4 hW ⟨a3, h3, k3, rfl, rfl, rfl, rfl⟩ hA
    obtain ⟨h3C, o3, u3, f3⟩ := h0.leaveA hg hi h3 k3
    have hA' : After3 bc (B g i) gv sv (upd2 ad g i a3 g i).ob q (upd2 F g i (mWrite R') g i).out (rcC (upd2 F g i (mWrite R') g i) (upd2 ad g i a3 g i)).toArray 152 w.heap.size w3 w4 := by
      rw [upd2_same, upd2_same]
      exact hA
    obtain ⟨sv', h4, k4, f4⟩ := h3C.out hg hi ⟨_, _, _, _, _, _, hW.ch.1⟩ ⟨_, _, _, _, _, _, hW.ch.2⟩ hA'
    rw [upd2_same, upd2_same] at h4
    have e1 : upd2 (upd2 F g i (mWrite R')) g i { mWrite R' with out := [] } = upd2 F g i (mDone R') := by
      funext g' i'
      by_cases e : g' = g ∧ i' = i
      · obtain ⟨rfl, rfl⟩ := e
        rw [upd2_same, upd2_same]; rfl
      · rw [upd2_other _ _ e, upd2_other _ _ e, upd2_other _ _ e]
    rw [e1] at h4
    refine hk w4 sv' _ h4 (hA.os.trans (o3.trans g0.os)) (hA.out.trans (u3.trans g0.out)) ((g0.kz.trans k3).trans k4) fun x o hx hN => ?_
    have hl := lt_heap hx
    obtain ⟨q1, q2⟩ := f3 x o (g0.get hx nofun) hN
    have r := f4 x o (by omega) (by omega) q1 q2
    rw [upd2_same] at r
    exact r
end
structure Clu where
  (n sz : Nat)
  F : Nat → Nat → MR
  q : List Pkt
section
variable (A : Apl)
def Clu.done (C : Clu) (g i : Nat) (R : MR) : Clu := { C with F := upd2 C.F g i (mDone R), q := (C.q ++ R.out).take 20000 }
def Clu.new (n sz : Nat) : Clu := ⟨n, sz, fun g i => mNew A g i n sz, []⟩
def Clu.tick (C : Clu) (g i : Nat) : Clu := if g < C.n ∧ i < C.sz then C.done g i (mTick A (C.F g i)) else C
def Clu.crash (C : Clu) (g i : Nat) : Clu := if g < C.n ∧ i < C.sz then { C with F := upd2 C.F g i (mStart A (C.F g i)) } else C
def Clu.deliver (C : Clu) (k : Nat) : Clu := match C.q[k]? with
  | none => C
  | some p => if p.tg.toNat < C.n ∧ p.tr.toNat < C.sz then C.done p.tg.toNat p.tr.toNat (mTake A (C.F p.tg.toNat p.tr.toNat) (p.fg.toNat, p.fr.toNat) p.d) else C
def Clu.send (C : Clu) (g i : Nat) (d : ByteArray) : Clu := if (g < C.n ∧ i < C.sz) ∧ ¬ d.size > 1000 then { C with q := mJoin C.q ⟨255, 255, g, i, d⟩ } else C
end
section
variable {A : Apl} {R : MR}
theorem Ok.done (ho : Ok A R) : Ok A (mDone R) := ⟨ho.sz, ho.i, ho.st, ho.kn, ho.pp, ho.vt, ho.write.wv, ho.mt, ho.ac, ho.pr, ho.lg, ho.lc, ho.nx, ho.write.sn⟩
end
end
end Go.Proofs.YtignemioillaiaaGreat
