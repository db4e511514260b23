/- A replica at work (29): take. -/
import Derived.Test.YtignemioillaiaaGreatG32
namespace Go.Proofs.YtignemioillaiaaGreat
set_option maxHeartbeats 8000000
set_option maxRecDepth 100000
section
open Go Go.Conc
structure GM (A : Apl) (R : MR) (f : Nat × Nat) (m : MM) : Prop where
  bn : m.b.n ≤ 4294967295
  ask : m.kind = 1 → A.gc (cAsk m.q)
  vs : m.kind = 4 → (∀ v ∈ m.vs, A.gc v.c ∧ v.slot < 60) ∧ m.vs.length ≤ 1000000 ∧ f.2 < 5
  acc : m.kind = 6 → A.gc m.c ∧ m.s < 60
  acd : m.kind = 7 → m.s < 60 ∧ f.2 < 5
  dec : m.kind = 8 → A.gc m.c ∧ m.s < 60
  mov : m.kind = 9 → 0 ≤ m.r.src ∧ m.r.src.toNat < R.st.I.length ∧ m.r.seq ≤ 4294967295 ∧ A.gc (cRecv m.r)
  ack : m.kind = 10 → 0 ≤ m.peer ∧ m.peer.toNat < R.st.O.length ∧ A.gc (cSet m.peer m.seq)
section
variable (A : Apl)
def mTake2 (R : MR) (f : Nat × Nat) (m : MM) : MR := if m.kind = 1 then mAsk A R m.q else if m.kind = 3 then mPrep A.enc R f m.b else if m.kind = 4 then mPromise A R f m.b m.vs else if m.kind = 5 then (if R.sc.b.lt m.b = true then mStand R else R) else if m.kind = 6 then mTakeAcc A R f m else if m.kind = 7 then mAccd A R f m else if m.kind = 8 then mAgree A R m.s m.c else if m.kind = 9 then mMove A R f m.r else if m.kind = 10 then mTAck A R m.peer.toNat m.seq else R
def seenM (R : MR) (m : MM) : MR := { R with sc := { R.sc with seen := max R.sc.seen m.b.n } }
def mTake (R : MR) (f : Nat × Nat) (d : ByteArray) : MR := match A.dec d with
  | none => R
  | some m => if f.1 = 255 ∧ m.kind ≠ 1 then R else mTake2 A (seenM R m) f m
end
section
variable {A : Apl} (HA : AplOK A) {Λ : Snp} {w : World} {br : Nat} {R : MR}
theorem Ok.seen (ho : Ok A R) {m : MM} (hm : m.b.n ≤ 4294967295) : Ok A (seenM R m) := ⟨ho.sz, ho.i, ho.st, ho.kn, ho.pp, ho.vt, ho.wv, ho.mt, ho.ac, ho.pr, ho.lg, ho.lc, ho.nx, by show max R.sc.seen m.b.n ≤ _; have := ho.sn.1; omega, ho.sn.2.1, ho.sn.2.2⟩
include HA
/-- Only messages of the ten kinds are read. -/
theorem take_ok (hk : ∀ d m, A.dec d = some m → 1 ≤ m.kind ∧ m.kind ≤ 10) (h : Wk Λ br R w) (ho : Ok A R) (f t : Nat × Nat) (d : ByteArray) (hm : ∀ m, A.dec d = some m → ¬ (f.1 = 255 ∧ m.kind ≠ 1) → GM A R f m) (hb : R.out.length ≤ 840000) : CY 65 #[.pointer (some ⟨br, 0, none⟩), .agg #[.int .u8 f.1, .int .u8 f.2, .int .u8 t.1, .int .u8 t.2, .string d]] w (fun v w' => v = .tuple #[] ∧ Wk Λ br (mTake A R f d) w' ∧ Kz w w') := by
  have hbr : br < w.heap.size := by obtain ⟨a, h⟩ := h; exact lt_heap h.ri.mem
  refine callYS eng Tryz.func65 rfl rfl ?_
  refine CS.piece (Q := fun q w' => ∃ b1, q = [(0, .pointer (some ⟨br, 0, none⟩)), (3, .pointer (some ⟨b1, 0, none⟩))] ∧ w'.heap[b1]? = some (.cells #[.int .u8 f.1, .int .u8 f.2, .int .u8 t.1, .int .u8 t.2, .string d] 139) ∧ GB none w w' ∧ w.heap.size ≤ b1) (CS.e fun w1 b1 m1 g1 l1 => ⟨_, by exact sb rfl, b1, rfl, m1, g1, l1⟩) ?_
  rintro _ w1 ⟨b1, rfl, m1, g1, l1⟩
  refine CS.piece (Q := fun q w4 => ∃ b3 e m ra rn rc da dn dc ra' rn' rc' da' dn' dc' va vc, q = [(0, .pointer (some ⟨br, 0, none⟩)), (3, .pointer (some ⟨b1, 0, none⟩)), (4, .pointer (some ⟨b3, 0, none⟩)), (5, .int .i64 e)] ∧ Hl w4 b3 (mmC m (.slice ra rn rc) (.slice da dn dc) (.slice va m.vs.length vc) (.slice ra' rn' rc') (.slice da' dn' dc')) 203 ∧ RgIn w4 m.c.r (.slice ra rn rc) (.slice da dn dc) ∧ VsIn w4 (.slice va m.vs.length vc) m.vs ∧ RgIn w4 m.r (.slice ra' rn' rc') (.slice da' dn' dc') ∧ GB none w1 w4 ∧ w1.heap.size ≤ b3 ∧ ((e = 0 ∧ A.dec d = some m) ∨ (e ≠ 0 ∧ A.dec d = none))) (CS.e ?_) ?_
  · refine ⟨_, _, m1, _, rfl, _, HA.parse w1 d, ?_⟩
    rintro _ w2 ⟨⟨mv, e, m, rfl, hmv, hd'⟩, g2⟩
    obtain ⟨rv, dv, vv, rv', dv', rfl, hr, hvs, hr'⟩ := hmv
    obtain ⟨ra, rn, rc, da, dn, dc, rfl, rfl⟩ := hr.sl
    obtain ⟨ra', rn', rc', da', dn', dc', rfl, rfl⟩ := hr'.sl
    obtain ⟨va, vc, rfl⟩ := hvs.sl
    intro w3 b3 m3 g3 l3
    refine ⟨_, _, _, m3, rfl, rfl, fun w4 m4 g4 => ?_⟩
    have g24 : GB none w2 w4 := g3.new g4 l3
    exact ⟨_, by exact sb rfl, b3, e, m, ra, rn, rc, da, dn, dc, ra', rn', rc', da', dn', dc', va, vc, rfl, m4, hr.kz g24.kz, hvs.kz g24.kz, hr'.kz g24.kz, g2.trans g24, Nat.le_trans g2.size l3, hd'.imp (fun q => ⟨q.1, q.2.1⟩) id⟩
  rintro _ w4 ⟨b3, e, m, ra, rn, rc, da, dn, dc, ra', rn', rc', da', dn', dc', va, vc, rfl, m4, hr, hvs, hr', g4, l3, hd⟩
  have m1 := g4.get m1 nofun
  have gg := g1.trans g4
  obtain ⟨a, h4⟩ := h.gb0 gg
  refine CS.cut (Qn := fun q w' => A.dec d = some m ∧ ¬ (f.1 = 255 ∧ m.kind ≠ 1) ∧ q = [(0, .pointer (some ⟨br, 0, none⟩)), (3, .pointer (some ⟨b1, 0, none⟩)), (4, .pointer (some ⟨b3, 0, none⟩))] ∧ w' = w4) (Qx := fun _ _ _ => False) (Qr := fun q w' => mTake A R f d = R ∧ q = [] ∧ w' = w4) (CS.e ?_) ?_ (fun _ _ _ _ h _ => h.elim) ?_
  · rcases hd with ⟨rfl, hd⟩ | ⟨he, hd⟩
    · refine ⟨_, _, m1, _, rfl, spl (fun c => ?_) (fun c => ?_)⟩
      · have c1 : f.1 = 255 := by simp at c; omega
        refine ⟨_, _, m4, _, rfl, spl (fun c => ?_) (fun c => ?_)⟩
        · have c2 : m.kind ≠ 1 := by simpa using c
          exact ⟨_, by exact trivial, by unfold mTake; rw [hd]; exact if_pos ⟨c1, c2⟩, rfl, rfl⟩
        · have c2 : m.kind = 1 := by simpa using c
          exact ⟨_, by exact sb rfl, hd, fun q => q.2 c2, rfl, rfl⟩
      · have c1 : ¬ f.1 = 255 := by simp at c; omega
        exact ⟨_, by exact sb rfl, hd, fun q => c1 q.1, rfl, rfl⟩
    · refine spl (fun c => ?_) (fun c => ?_)
      · exfalso; simp at c; exact he c
      · exact ⟨_, by exact trivial, by unfold mTake; rw [hd], rfl, rfl⟩
  rotate_left
  · rintro _ s w4 ⟨em, rfl, rfl⟩ hs
    rw [em]
    exact retW_sub hs ⟨rfl, ⟨_, h4⟩, gg.kz⟩
  rintro _ w4 ⟨hd, hn, rfl, rfl⟩
  have em : mTake A R f d = mTake2 A (seenM R m) f m := by unfold mTake; rw [hd]; exact if_neg hn
  rw [em]
  have hkk := hk d m hd
  have hm := hm m hd hn
  have ho := ho.seen hm.bn
  have l4 := g1.size
  have emax : (if (m.b.n : Int) > (R.sc.seen : Int) then (m.b.n : Int) else (R.sc.seen : Int)) = ((max R.sc.seen m.b.n : Nat) : Int) := by split <;> omega
  refine CS.piece (Q := fun q w5 => q = [(0, .pointer (some ⟨br, 0, none⟩)), (3, .pointer (some ⟨b1, 0, none⟩)), (4, .pointer (some ⟨b3, 0, none⟩))] ∧ Wk Λ br (seenM R m) w5 ∧ GB (some br) w4 w5 ∧ Kz w4 w5) (CS.e ?_) ?_
  · refine ⟨by kernel_rfl, _, _, h4.ri.mem, _, rfl, _, _, m4, _, rfl, _, _, rcC (seenM R m) a, h4.ri.mem, rfl, by unfold rcC seenM; dsimp only; rw [← emax]; rfl, fun w5 m5 g5 => ?_⟩
    exact ⟨_, by exact sb rfl, rfl, ⟨_, h4.cell (s' := (seenM R m).sc) m5 g5⟩, g5, h4.ri.kz h4.ri.o_br g5⟩
  rintro _ w5 ⟨rfl, h, g5, k5⟩
  replace m1 := g5.get m1 fun e => by cases e; omega
  replace m4 := g5.get m4 fun e => by cases e; omega
  replace hr := hr.kz k5
  replace hvs := hvs.kz k5
  replace hr' := hr'.kz k5
  have K5 := gg.kz.trans k5
  have hb1 : (seenM R m).out.length ≤ 840000 := hb
  replace hm : GM A (seenM R m) f m := ⟨hm.bn, hm.ask, hm.vs, hm.acc, hm.acd, hm.dec, hm.mov, hm.ack⟩
  refine CS.piece (Q := fun q w' => q = [(0, .pointer (some ⟨br, 0, none⟩)), (3, .pointer (some ⟨b1, 0, none⟩)), (4, .pointer (some ⟨b3, 0, none⟩)), (37, .int .u8 m.kind)] ∧ w' = w5) (CS.e ⟨_, _, m4, _, rfl, _, by exact sb rfl, rfl, rfl⟩) ?_
  rintro _ w5 ⟨rfl, rfl⟩
  clear h4 g5 k5 hk hd hn em emax
  generalize seenM R m = R at *
  obtain ⟨kind, q, p, b, s, c, vs, r, peer, seq⟩ := m
  dsimp only at hkk
  refine CS.e ?_
  obtain rfl | rfl | rfl | rfl | rfl | rfl | rfl | rfl | rfl | rfl : kind = 1 ∨ kind = 2 ∨ kind = 3 ∨ kind = 4 ∨ kind = 5 ∨ kind = 6 ∨ kind = 7 ∨ kind = 8 ∨ kind = 9 ∨ kind = 10 := by omega
  · refine ⟨_, _, m4, q.cells, rfl, rfl, _, ask_ok HA h ho (q := q) (hm.ask rfl) (by omega), ?_⟩
    rintro _ w6 ⟨rfl, h6, k6⟩
    exact ⟨rfl, h6, K5.trans k6⟩
  · exact ⟨rfl, h, K5⟩
  · refine ⟨_, _, m1, [.int .u8 f.1, .int .u8 f.2], rfl, rfl, _, _, m4, bC b, rfl, rfl, _, prep_ok HA.marsh h f b (by omega), ?_⟩
    rintro _ w6 ⟨rfl, h6, k6⟩
    exact ⟨rfl, h6, K5.trans k6⟩
  · refine ⟨_, _, m1, [.int .u8 f.1, .int .u8 f.2], rfl, rfl, _, _, m4, bC b, rfl, rfl, _, _, m4, _, rfl, _, promise_ok HA h ho f (hm.vs rfl).2.2 b (hm.vs rfl).1 (hm.vs rfl).2.1 hvs hb1, ?_⟩
    rintro _ w6 ⟨rfl, h6, k6⟩
    exact ⟨rfl, h6, K5.trans k6⟩
  · refine ⟨_, _, m4, bC b, rfl, rfl, _, reject_ok h b, ?_⟩
    rintro _ w6 ⟨rfl, h6, k6⟩
    exact ⟨rfl, h6, K5.trans k6⟩
  · refine ⟨_, _, m1, [.int .u8 f.1, .int .u8 f.2], rfl, rfl, _, _, m4, _, rfl, rfl, _, takeAcc_ok HA h f ⟨_, _, _, _, _, rfl, hr, hvs, hr'⟩ (by omega), ?_⟩
    rintro _ w6 ⟨rfl, h6, k6⟩
    exact ⟨rfl, h6, K5.trans k6⟩
  · refine ⟨_, _, m1, [.int .u8 f.1, .int .u8 f.2], rfl, rfl, _, _, m4, _, rfl, rfl, _, accd_ok HA h ho f (hm.acd rfl).2 (hm.acd rfl).1 ⟨_, _, _, _, _, rfl, hr, hvs, hr'⟩ (by omega), ?_⟩
    rintro _ w6 ⟨rfl, h6, k6⟩
    exact ⟨rfl, h6, K5.trans k6⟩
  · refine ⟨_, _, m4, _, rfl, _, _, m4, mcC c (.slice ra rn rc) (.slice da dn dc), rfl, rfl, _, agree_ok HA h ho (hm.dec rfl).2 (hm.dec rfl).1 (c := c) ⟨_, _, rfl, hr⟩ (by omega), ?_⟩
    rintro _ w6 ⟨rfl, h6, k6⟩
    exact ⟨rfl, h6, K5.trans k6⟩
  · refine ⟨_, _, m1, [.int .u8 f.1, .int .u8 f.2], rfl, rfl, _, _, m4, rgC r (.slice ra' rn' rc') (.slice da' dn' dc'), rfl, rfl, _, move_ok HA h ho f (hm.mov rfl).1 (hm.mov rfl).2.1 (hm.mov rfl).2.2.1 (hm.mov rfl).2.2.2 hr' (by omega), ?_⟩
    rintro _ w6 ⟨rfl, h6, k6⟩
    exact ⟨rfl, h6, K5.trans k6⟩
  · have ep : (peer.toNat : Int) = peer := Int.toNat_of_nonneg (hm.ack rfl).1
    have hcall := tack_ok HA h ho (p := peer.toNat) (hm.ack rfl).2.1 (s := seq) (by rw [ep]; exact (hm.ack rfl).2.2) (by omega)
    rw [ep] at hcall
    refine ⟨_, _, m4, _, rfl, _, _, m4, _, rfl, _, hcall, ?_⟩
    rintro _ w6 ⟨rfl, h6, k6⟩
    exact ⟨rfl, h6, K5.trans k6⟩
end
def snapW (w : World) : Snp := ⟨fun b => w.heap[b]?, w.os, w.output⟩
def zSt : St := ⟨0, 0, [], [], [], [], []⟩
def zR (g i gs sz : Nat) : MR := ⟨⟨g, i, gs, sz, ⟨0, 0⟩, ⟨0, 0⟩, 0, 0, 0, 0⟩, fun _ => none, fun _ => none, fun _ => none, [], zSt, [], fun _ => none, fun _ => none, fun _ => none⟩
def mNew (A : Apl) (g i gs sz : Nat) : MR := mStart A (zR g i gs sz)
theorem ShIn.zero (w : World) : ShIn w (.slice none 0 0) (.slice none 0 0) (.slice none 0 0) (.slice none 0 0) (.slice none 0 0) zSt :=
  ⟨Fz.nil _ _ _, Fz.nil _ _ _, Fz.nil _ _ _, ⟨[], rfl, Fz.nil _ _ _, fun i o q h => (by simp [zSt] at h)⟩, Fz.nil _ _ _⟩
section
variable {A : Apl} (HA : AplOK A) {w : World}
include HA
theorem new_ok (g i gs sz : Nat) (hg : g < gs) (hn : gs ≤ 4) : CY 57 #[.agg #[.int .u8 g, .int .u8 i], .int .i64 gs, .int .i64 sz] w (fun v w' => ∃ br, v = .pointer (some ⟨br, 0, none⟩) ∧ w.heap.size ≤ br ∧ Wk (snapW w) br (mNew A g i gs sz) w' ∧ Kz w w') := by
  refine callE Tryz.func57 rfl rfl ?_
  intro w1 b1 m1 g1 l1
  refine ⟨_, _, m1, [.int .u8 g, .int .u8 i], rfl, rfl, ?_⟩
  refine fun w2 b2 m2 g2 l2 => ?_
  refine fun w3 b3 m3 g3 l3 => ?_
  refine fun w4 b4 m4 g4 l4 => ?_
  refine fun w5 b5 m5 g5 l5 => ?_
  refine fun w6 b6 m6 g6 l6 => ?_
  refine @Eq.mp (∀ w7 b7, MapF w7 b7 (fun _ => none) → GB none w6 w7 → w6.heap.size ≤ b7 → ∀ w8 b8, Hl w8 b8 (rcC (zR g i gs sz) ⟨b2, b3, b4, b5, b6, b7, .slice none 0 0, .slice none 0 0, .slice none 0 0, .slice none 0 0, .slice none 0 0, .slice none 0 0, .slice none 0 0⟩) 152 → GB none w7 w8 → w7.heap.size ≤ b8 → ∃ Q : Value → World → Prop, CY 61 #[.pointer (some ⟨b8, 0, none⟩)] w8 Q ∧ ∀ v w', Q v w' → ∃ br, Value.pointer (some ⟨b8, 0, none⟩) = .pointer (some ⟨br, 0, none⟩) ∧ w.heap.size ≤ br ∧ Wk (snapW w) br (mNew A g i gs sz) w' ∧ Kz w w') _ (by kernel_rfl) ?_
  intro w7 b7 m7 g7 l7 w8 b8 m8 g8 l8
  have m8' : Hl w8 b8 (rcC (zR g i gs sz) ⟨b2, b3, b4, b5, b6, b7, .slice none 0 0, .slice none 0 0, .slice none 0 0, .slice none 0 0, .slice none 0 0, .slice none 0 0, .slice none 0 0⟩) 152 := m8
  have G2 : GB none w w2 := g1.trans g2
  have G7 : GB none w w7 := ((((G2.trans g3).trans g4).trans g5).trans g6).trans g7
  have G8 : GB none w w8 := G7.trans g8
  have t7 : GB none w7 w8 := g8
  have t6 := g7.trans t7
  have t5 := g6.trans t6
  have t4 := g5.trans t5
  have t3 := g4.trans t4
  have t2 := g3.trans t3
  have q2 := m2.lt
  have q3 := m3.lt
  have q4 := m4.lt
  have q5 := m5.lt
  have q6 := m6.lt
  have q7 := m7.lt
  have z1 := g1.size
  have z2 := g2.size
  have z3 := g3.size
  have z4 := g4.size
  have z5 := g5.size
  have z6 := g6.size
  have z7 := g7.size
  have hri : RI w8 b8 (zR g i gs sz) ⟨b2, b3, b4, b5, b6, b7, .slice none 0 0, .slice none 0 0, .slice none 0 0, .slice none 0 0, .slice none 0 0, .slice none 0 0, .slice none 0 0⟩ := by
    refine ⟨m8', MapG.none (m2.keep (t2.block _ q2 nofun)), MapG.none (m3.keep (t3.block _ q3 nofun)), MapG.none (m4.keep (t4.block _ q4 nofun)), MapG.none (m5.keep (t5.block _ q5 nofun)), MapG.none (m6.keep (t6.block _ q6 nofun)), MapG.none (m7.keep (t7.block _ q7 nofun)), ⟨[], rfl, own0 _ _ _, fun i c p h => (by simp [zR] at h)⟩, ShIn.zero _, own0 _ _ _, ?_⟩
    simp
    omega
  have h8 : Wk (snapW w) b8 (zR g i gs sz) w8 := by
    refine ⟨_, hri, fun b o hb => ?_, G8.os, G8.out⟩
    have hl := lt_heap hb
    refine ⟨G8.get hb nofun, fun ho => ?_⟩
    rcases ho with e | e | e | e | e | e | e | e | e
    · omega
    · have e : b = b2 := e
      omega
    · have e : b = b3 := e
      omega
    · have e : b = b4 := e
      omega
    · have e : b = b5 := e
      omega
    · have e : b = b6 := e
      omega
    · have e : b = b7 := e
      omega
    · cases e
    · cases e
  refine ⟨_, start_ok HA h8 hg hn, ?_⟩
  rintro _ w9 ⟨rfl, h9, k9⟩
  exact ⟨b8, rfl, by omega, h9, G8.kz.trans k9⟩
end
def muT : List Nat := [152, 54, 139, 131]
def ptT : List Nat := [132, 133]
theorem ptT_mu {t : Nat} (h : t ∈ ptT) : t ∉ muT := by
  unfold ptT at h
  simp only [List.mem_cons, List.not_mem_nil, or_false] at h
  rcases h with rfl | rfl <;> decide
/-- The groups' lists of pointers. -/
def GPtr (w : World) (gv : Value) (n sz : Nat) (B : Nat → Nat → Nat) : Prop := ∃ bg cg cur tg, gv = .slice (some ⟨bg, 0, none⟩) n cg ∧ n ≤ cg ∧ w.heap[bg]? = some (.cells cur tg) ∧ tg ∈ ptT ∧ ∀ g, g < n → ∃ bs ct cur' ts, cur.toList[g]? = some (.slice (some ⟨bs, 0, none⟩) sz ct) ∧ sz ≤ ct ∧ w.heap[bs]? = some (.cells cur' ts) ∧ ts ∈ ptT ∧ ∀ i, i < sz → cur'.toList[i]? = some (.pointer (some ⟨B g i, 0, none⟩))
structure CI (w : World) (bc : Nat) (gv sv : Value) (q : List Pkt) (n sz : Nat) (B : Nat → Nat → Nat) (ad : Nat → Nat → RAd) (F : Nat → Nat → MR) : Prop where
  clu : w.heap[bc]? = some (.cells #[gv, sv] 131)
  row : w.ownsRow 0 139 5 sv q.length (flat q)
  len : q.length ≤ 20000
  ptr : GPtr w gv n sz B
  rep : ∀ g i, g < n → i < sz → RI w (B g i) (F g i) (ad g i)
  sep : ∀ g i g' i' x, g < n → i < sz → g' < n → i' < sz → Own (B g i) (ad g i) x → Own (B g' i') (ad g' i') x → g = g' ∧ i = i'
  ob : ∀ g i x, g < n → i < sz → sv.ownBlock = some x → ¬ Own (B g i) (ad g i) x
open Classical in
/-- All but what a replica owns. -/
noncomputable def rest (w : World) (br : Nat) (a : RAd) : Snp := ⟨fun b => if Own br a b then none else w.heap[b]?, w.os, w.output⟩
def upd2 {α : Type} (F : Nat → Nat → α) (g i : Nat) (r : α) : Nat → Nat → α := fun g' i' => if g' = g ∧ i' = i then r else F g' i'
theorem upd2_same {α : Type} (F : Nat → Nat → α) (g i : Nat) (r : α) : upd2 F g i r g i = r := if_pos ⟨rfl, rfl⟩
theorem upd2_other {α : Type} (F : Nat → Nat → α) {g i g' i' : Nat} (r : α) (h : ¬ (g' = g ∧ i' = i)) : upd2 F g i r g' i' = F g' i' := if_neg h
/-- A cluster's own blocks; what lies beside it. -/
def COwn (n sz : Nat) (B : Nat → Nat → Nat) (bc : Nat) (sv : Value) (ad : Nat → Nat → RAd) (x : Nat) : Prop := x = bc ∨ sv.ownBlock = some x ∨ ∃ g i, g < n ∧ i < sz ∧ Own (B g i) (ad g i) x
def CFr (n sz : Nat) (B : Nat → Nat → Nat) (bc : Nat) (w : World) (sv : Value) (ad : Nat → Nat → RAd) (w' : World) (sv' : Value) (ad' : Nat → Nat → RAd) : Prop := ∀ x o, w.heap[x]? = some o → ¬ COwn n sz B bc sv ad x → w'.heap[x]? = some o ∧ ¬ COwn n sz B bc sv' ad' x
theorem CFr.trans {n sz : Nat} {B : Nat → Nat → Nat} {bc : Nat} {w w' w'' : World} {sv sv' sv'' : Value} {ad ad' ad'' : Nat → Nat → RAd} (h : CFr n sz B bc w sv ad w' sv' ad') (k : CFr n sz B bc w' sv' ad' w'' sv'' ad'') : CFr n sz B bc w sv ad w'' sv'' ad'' := fun x o hx hn => k x o (h x o hx hn).1 (h x o hx hn).2
theorem CFr.gb0 {n sz : Nat} {B : Nat → Nat → Nat} {bc : Nat} {w w' : World} {sv : Value} {ad : Nat → Nat → RAd} (k : GB none w w') : CFr n sz B bc w sv ad w' sv ad := fun _ _ hx hn => ⟨k.get hx nofun, hn⟩
theorem RI.own_mu {w : World} {br : Nat} {R : MR} {a : RAd} (h : RI w br R a) {x : Nat} (hx : Own br a x) {c : Array Value} {t : TypeId} (hc : w.heap[x]? = some (.cells c t)) : t = 152 ∨ t = 54 ∨ t = 139 := by
  have mp : ∀ {m : Nat}, (∃ es k, w.heap[m]? = some (.map es k)) → x = m → False := by
    rintro m ⟨es, k, h1⟩ rfl
    rw [h1] at hc; cases hc
  rcases hx with hx | hx | hx | hx | hx | hx | hx | hx | hx
  · subst hx; rw [h.mem] at hc; injection hc with hc; injection hc with _ hc; exact .inl hc.symm
  · exact (mp h.vm.obj hx).elim
  · exact (mp h.wm.obj hx).elim
  · exact (mp h.kn.obj hx).elim
  · exact (mp h.mt.obj hx).elim
  · exact (mp h.pp.obj hx).elim
  · exact (mp h.ac.obj hx).elim
  · obtain ⟨cur, h1⟩ := h.lg.obj hx; rw [h1] at hc; injection hc with hc; injection hc with _ hc; exact .inr (.inl hc.symm)
  · obtain ⟨cur, h1⟩ := own_obj h.ob hx; rw [h1] at hc; injection hc with hc; injection hc with _ hc; exact .inr (.inr hc.symm)
section
variable {w w' : World} {bc : Nat} {gv sv : Value} {q : List Pkt} {n sz : Nat} {B : Nat → Nat → Nat} {ad : Nat → Nat → RAd} {F : Nat → Nat → MR}
theorem CI.gb0 (h : CI w bc gv sv q n sz B ad F) (k : GB none w w') : CI w' bc gv sv q n sz B ad F := by
  obtain ⟨bg, cg, cur, tg, e1, e2, e3, e4, e5⟩ := h.ptr
  refine ⟨k.get h.clu nofun, owns_rely h.row fun x hx => ?_, h.len, ⟨bg, cg, cur, tg, e1, e2, k.get e3 nofun, e4, fun g hg => ?_⟩, fun g i hg hi => (h.rep g i hg hi).gb0 k, h.sep, h.ob⟩
  · obtain ⟨c, hc⟩ := own_obj h.row hx
    exact k.block x (lt_heap hc) nofun
  · obtain ⟨bs, ct, cur', ts, f1, f2, f3, f4, f5⟩ := e5 g hg
    exact ⟨bs, ct, cur', ts, f1, f2, k.get f3 nofun, f4, f5⟩
theorem CI.enter (h : CI w bc gv sv q n sz B ad F) {g i : Nat} (hg : g < n) (hi : i < sz) : Wk (rest w (B g i) (ad g i)) (B g i) (F g i) w := by
  refine ⟨ad g i, h.rep g i hg hi, fun b o hb => ?_, rfl, rfl⟩
  unfold rest at hb
  dsimp only at hb
  split at hb
  · cases hb
  · rename_i hn
    exact ⟨hb, hn⟩
theorem CI.leaveA (h : CI w bc gv sv q n sz B ad F) {g i : Nat} (hg : g < n) (hi : i < sz) {R' : MR} {a' : RAd} (hw : Wa (rest w (B g i) (ad g i)) (B g i) R' a' w') (k : Kz w w') : CI w' bc gv sv q n sz B (upd2 ad g i a') (upd2 F g i R') ∧ w'.os = w.os ∧ w'.output = w.output ∧ CFr n sz B bc w sv ad w' sv (upd2 ad g i a') := by
  have kp : ∀ {x : Nat} {o : Obj}, w.heap[x]? = some o → ¬ Own (B g i) (ad g i) x → w'.heap[x]? = some o ∧ ¬ Own (B g i) a' x := fun {x o} hx hn => hw.pr x o (by unfold rest; dsimp only; rw [if_neg hn]; exact hx)
  have nm : ∀ {x : Nat} {c : Array Value} {t : TypeId}, w.heap[x]? = some (.cells c t) → t ≠ 152 → t ≠ 54 → t ≠ 139 → ¬ Own (B g i) (ad g i) x := fun hx h1 h2 h3 ho => by
    rcases (h.rep g i hg hi).own_mu ho hx with e | e | e
    · exact h1 e
    · exact h2 e
    · exact h3 e
  have nt : ∀ {t : TypeId}, t ∉ muT → t ≠ 152 ∧ t ≠ 54 ∧ t ≠ 139 := fun {t} ht => ⟨fun e => ht (by rw [e]; decide), fun e => ht (by rw [e]; decide), fun e => ht (by rw [e]; decide)⟩
  have oth : ∀ {g' i' : Nat}, g' < n → i' < sz → ¬ (g' = g ∧ i' = i) → ∀ x, Own (B g' i') (ad g' i') x → w'.heap[x]? = w.heap[x]? ∧ ¬ Own (B g i) a' x := by
    intro g' i' hg' hi' hne x hx
    have hlt := (h.rep g' i' hg' hi').lt hx
    obtain ⟨o, ho⟩ : ∃ o, w.heap[x]? = some o := ⟨w.heap[x], by simp [hlt]⟩
    obtain ⟨h1, h2⟩ := kp ho fun hx' => hne (by obtain ⟨e1, e2⟩ := h.sep g' i' g i x hg' hi' hg hi hx hx'; exact ⟨e1, e2⟩)
    exact ⟨h1.trans ho.symm, h2⟩
  refine ⟨⟨(kp h.clu (nm h.clu (by decide) (by decide) (by decide))).1, owns_rely h.row fun x hx => ?_, h.len, ?_, fun g' i' hg' hi' => ?_, ?_, ?_⟩, hw.os, hw.out, fun x o hx hn => ?_⟩
  · obtain ⟨c, hc⟩ := own_obj h.row hx
    exact (kp hc (h.ob g i x hg hi hx)).1.trans hc.symm
  · obtain ⟨bg, cg, cur, tg, e1, e2, e3, e4, e5⟩ := h.ptr
    obtain ⟨t1, t2, t3⟩ := nt (ptT_mu e4)
    refine ⟨bg, cg, cur, tg, e1, e2, (kp e3 (nm e3 t1 t2 t3)).1, e4, fun g hg => ?_⟩
    obtain ⟨bs, ct, cur', ts, f1, f2, f3, f4, f5⟩ := e5 g hg
    obtain ⟨t1, t2, t3⟩ := nt (ptT_mu f4)
    exact ⟨bs, ct, cur', ts, f1, f2, (kp f3 (nm f3 t1 t2 t3)).1, f4, f5⟩
  · by_cases e : g' = g ∧ i' = i
    · obtain ⟨rfl, rfl⟩ := e
      rw [upd2_same, upd2_same]
      exact hw.ri
    · rw [upd2_other _ _ e, upd2_other _ _ e]
      exact (h.rep g' i' hg' hi').keep k fun x hx => (oth hg' hi' e x hx).1
  · intro g1 i1 g2 i2 x h1 h2 h3 h4 o1 o2
    by_cases e1 : g1 = g ∧ i1 = i <;> by_cases e2 : g2 = g ∧ i2 = i
    · exact ⟨e1.1.trans e2.1.symm, e1.2.trans e2.2.symm⟩
    · obtain ⟨rfl, rfl⟩ := e1
      rw [upd2_same] at o1
      rw [upd2_other _ _ e2] at o2
      exact ((oth h3 h4 e2 x o2).2 o1).elim
    · obtain ⟨rfl, rfl⟩ := e2
      rw [upd2_same] at o2
      rw [upd2_other _ _ e1] at o1
      exact ((oth h1 h2 e1 x o1).2 o2).elim
    · rw [upd2_other _ _ e1] at o1
      rw [upd2_other _ _ e2] at o2
      exact h.sep g1 i1 g2 i2 x h1 h2 h3 h4 o1 o2
  · intro g1 i1 x h1 h2 hx o1
    by_cases e1 : g1 = g ∧ i1 = i
    · obtain ⟨rfl, rfl⟩ := e1
      rw [upd2_same] at o1
      obtain ⟨c, hc⟩ := own_obj h.row hx
      exact (kp hc (h.ob _ _ x h1 h2 hx)).2 o1
    · rw [upd2_other _ _ e1] at o1
      exact h.ob g1 i1 x h1 h2 hx o1
  · obtain ⟨h1, h2⟩ := kp hx fun ho => hn (.inr (.inr ⟨g, i, hg, hi, ho⟩))
    refine ⟨h1, fun hc => ?_⟩
    rcases hc with e | e | ⟨g1, i1, q1, q2, o1⟩
    · exact hn (.inl e)
    · exact hn (.inr (.inl e))
    · by_cases e1 : g1 = g ∧ i1 = i
      · obtain ⟨rfl, rfl⟩ := e1
        rw [upd2_same] at o1
        exact h2 o1
      · rw [upd2_other _ _ e1] at o1
        exact hn (.inr (.inr ⟨g1, i1, q1, q2, o1⟩))
theorem CI.leave (h : CI w bc gv sv q n sz B ad F) {g i : Nat} (hg : g < n) (hi : i < sz) {R' : MR} (hw : Wk (rest w (B g i) (ad g i)) (B g i) R' w') (k : Kz w w') : ∃ ad', CI w' bc gv sv q n sz B ad' (upd2 F g i R') ∧ w'.os = w.os ∧ w'.output = w.output ∧ CFr n sz B bc w sv ad w' sv ad' := by
  obtain ⟨a', hw⟩ := hw
  exact ⟨_, h.leaveA hg hi hw k⟩
end
section
variable {w : World} {bc : Nat} {gv sv : Value} {q : List Pkt} {n sz : Nat} {B : Nat → Nat → Nat} {ad : Nat → Nat → RAd} {F : Nat → Nat → MR}
theorem find_ok (h : CI w bc gv sv q n sz B ad F) (_hn : n ≤ 4) (_hs : sz ≤ 5) (g i : Nat) (hg : g < 256) (hi : i < 256) : CY 58 #[.pointer (some ⟨bc, 0, none⟩), .agg #[.int .u8 g, .int .u8 i]] w (fun v w' => v = .pointer (if g < n ∧ i < sz then some ⟨B g i, 0, none⟩ else none) ∧ GB none w w') := by
  refine callE Tryz.func58 rfl rfl ?_
  intro w1 b1 m1 g1 l1
  obtain ⟨bg, cg, cur, tg, rfl, e2, e3, e4, e5⟩ := h.ptr
  have hc := g1.get h.clu nofun
  have e3 := g1.get e3 nofun
  refine ⟨by kernel_rfl, _, _, m1, _, rfl, .inl ⟨by omega, _, _, m1, _, rfl, .inl ⟨by omega, ?_⟩⟩⟩
  refine ⟨_, _, hc, _, rfl, spl (fun c => ?_) (fun c => ?_)⟩
  · have c1 : g < n := by simp at c; omega
    obtain ⟨bs, ct, cur', ts, f1, f2, f3, f4, f5⟩ := e5 g c1
    have f3 := g1.get f3 nofun
    refine ⟨_, _, hc, _, rfl, ⟨by omega, by omega⟩, _, _, e3, .slice (some ⟨bs, 0, none⟩) sz ct, by show cur.toList[0 + g * 1]? = _; rw [Nat.mul_one, Nat.zero_add]; exact f1, ?_⟩
    refine spl (fun d => ?_) (fun d => ?_)
    · have d1 : ¬ (g < n ∧ i < sz) := by simp at d; omega
      rw [if_neg d1]
      exact ⟨rfl, g1⟩
    · have d1 : i < sz := by simp at d; omega
      rw [if_pos ⟨c1, d1⟩]
      refine ⟨_, _, hc, _, rfl, ⟨by omega, by omega⟩, _, _, e3, .slice (some ⟨bs, 0, none⟩) sz ct, by show cur.toList[0 + g * 1]? = _; rw [Nat.mul_one, Nat.zero_add]; exact f1, ⟨by omega, by omega⟩, _, _, f3, .pointer (some ⟨B g i, 0, none⟩), by show cur'.toList[0 + i * 1]? = _; rw [Nat.mul_one, Nat.zero_add]; exact f5 i d1, ?_⟩
      exact ⟨rfl, g1⟩
  · have c1 : ¬ (g < n ∧ i < sz) := by simp at c; omega
    rw [if_neg c1]
    exact ⟨rfl, g1⟩
end
section
variable {A : Apl} (HA : AplOK A) {w : World} {bc : Nat} {gv sv : Value} {q : List Pkt} {n sz : Nat} {B : Nat → Nat → Nat} {ad : Nat → Nat → RAd} {F : Nat → Nat → MR}
include HA
theorem crash_ok (h : CI w bc gv sv q n sz B ad F) (hn : n ≤ 4) (hs : sz ≤ 5) (g i : Nat) (hg : g < 256) (hi : i < 256) (hF : g < n → i < sz → Ok A (F g i)) : CY 21 #[.pointer (some ⟨bc, 0, none⟩), .agg #[.int .u8 g, .int .u8 i]] w (fun v w' => v = .int .i64 (if g < n ∧ i < sz then 0 else 6) ∧ (∃ ad', CI w' bc gv sv q n sz B ad' (if g < n ∧ i < sz then upd2 F g i (mStart A (F g i)) else F) ∧ CFr n sz B bc w sv ad w' sv ad') ∧ w'.os = w.os ∧ w'.output = w.output ∧ Kz w w') := by
  refine callE Tryz.func21 rfl rfl ?_
  intro w1 b1 m1 g1 l1
  have h1 := h.gb0 g1
  refine ⟨_, _, m1, [.int .u8 g, .int .u8 i], rfl, rfl, _, find_ok h1 hn hs g i hg hi, ?_⟩
  rintro _ w2 ⟨rfl, g2⟩
  have h2 := h1.gb0 g2
  have G := g1.trans g2
  by_cases c : g < n ∧ i < sz
  · rw [if_pos c, if_pos c, if_pos c]
    have o := hF c.1 c.2
    refine ⟨_, start_ok HA (h2.enter c.1 c.2) o.i.2.1 o.i.2.2.1, ?_⟩
    rintro _ w3 ⟨rfl, h3, k3⟩
    obtain ⟨ad', h4, h5, h6, f6⟩ := h2.leave c.1 c.2 h3 k3
    exact ⟨rfl, ⟨ad', h4, (CFr.gb0 G).trans f6⟩, h5.trans G.os, h6.trans G.out, G.kz.trans k3⟩
  · rw [if_neg c, if_neg c, if_neg c]
    exact ⟨rfl, ⟨ad, h2, CFr.gb0 G⟩, G.os, G.out, G.kz⟩
end
section
variable {w w1 w2 : World} {bc : Nat} {gv sv : Value} {q : List Pkt} {n sz : Nat} {B : Nat → Nat → Nat} {ad : Nat → Nat → RAd} {F : Nat → Nat → MR}
theorem CI.pk (h : CI w bc gv sv q n sz B ad F) {sv' : Value} {q' : List Pkt} (hl : q'.length ≤ 20000) (g1 : GB sv.ownBlock w w1) (ho : w1.ownsRow 0 139 5 sv' q'.length (flat q')) (hn : ∀ g, sv'.ownBlock = some g → sv.ownBlock = some g ∨ w.heap.size ≤ g) (m2 : w2.heap[bc]? = some (.cells #[gv, sv'] 131)) (g2 : GB (some bc) w1 w2) : CI w2 bc gv sv' q' n sz B ad F ∧ Kz w w2 ∧ w2.os = w.os ∧ w2.output = w.output ∧ CFr n sz B bc w sv ad w2 sv' ad := by
  have tb : ∀ {x : Nat}, sv.ownBlock = some x → ∃ cur, w.heap[x]? = some (.cells cur 139) := fun hx => own_obj h.row hx
  have nb : ∀ x, sv.ownBlock = some x → x ≠ bc := fun x hx e => by
    subst e
    obtain ⟨c, hc⟩ := tb hx
    rw [h.clu] at hc; injection hc with hc; injection hc with _ hc; revert hc; decide
  have nb' : ∀ x, sv'.ownBlock = some x → x ≠ bc := fun x hx e => by
    rcases hn x hx with h1 | h1
    · exact nb x h1 e
    · have := lt_heap h.clu; omega
  have kp : ∀ x, x < w.heap.size → some x ≠ sv.ownBlock → x ≠ bc → w2.heap[x]? = w.heap[x]? := fun x hx h1 h2 => (g2.block x (Nat.lt_of_lt_of_le hx g1.size) fun e => h2 (Option.some.inj e)).trans (g1.block x hx h1)
  have kt : ∀ {x : Nat} {c : Array Value} {t : TypeId}, w.heap[x]? = some (.cells c t) → t ≠ 139 → t ≠ 131 → w2.heap[x]? = some (.cells c t) := fun {x c t} hx h1 h2 => (kp x (lt_heap hx) (fun e => by obtain ⟨cur, hc⟩ := tb e.symm; rw [hx] at hc; injection hc with hc; injection hc with _ hc; exact h1 hc) (fun e => by subst e; rw [h.clu] at hx; injection hx with hx; injection hx with _ hx; exact h2 hx.symm)).trans hx
  have k : Kz w w2 := fun t ht b c hb => kt hb (fun e => by subst e; revert ht; decide) (fun e => by subst e; revert ht; decide)
  have nt : ∀ {t : TypeId}, t ∉ muT → t ≠ 139 ∧ t ≠ 131 := fun {t} ht => ⟨fun e => ht (by rw [e]; decide), fun e => ht (by rw [e]; decide)⟩
  have ow : ∀ g i x, g < n → i < sz → Own (B g i) (ad g i) x → x ≠ bc := fun g i x hg hi ho e => by
    subst e
    rcases (h.rep g i hg hi).own_mu ho h.clu with e | e | e <;> revert e <;> decide
  refine ⟨⟨m2, owns_rely ho fun x hx => ?_, hl, ?_, fun g i hg hi => (h.rep g i hg hi).keep k fun x hx => kp x ((h.rep g i hg hi).lt hx) (fun e => h.ob g i x hg hi e.symm hx) (ow g i x hg hi hx), h.sep, fun g i x hg hi hx hO => ?_⟩, k, g2.os.trans g1.os, g2.out.trans g1.out, fun x o hx hN => ?_⟩
  · obtain ⟨cur, hc⟩ := own_obj ho hx
    exact g2.block x (lt_heap hc) fun e => nb' x hx (Option.some.inj e)
  · obtain ⟨bg, cg, cur, tg, e1, e2, e3, e4, e5⟩ := h.ptr
    refine ⟨bg, cg, cur, tg, e1, e2, kt e3 (nt (ptT_mu e4)).1 (nt (ptT_mu e4)).2, e4, fun g hg => ?_⟩
    obtain ⟨bs, ct, cur', ts, f1, f2, f3, f4, f5⟩ := e5 g hg
    exact ⟨bs, ct, cur', ts, f1, f2, kt f3 (nt (ptT_mu f4)).1 (nt (ptT_mu f4)).2, f4, f5⟩
  · rcases hn x hx with h1 | h1
    · exact h.ob g i x hg hi h1 hO
    · have := (h.rep g i hg hi).lt hO; omega
  · refine ⟨(kp x (lt_heap hx) (fun e => hN (.inr (.inl e.symm))) fun e => hN (.inl e)).trans hx, fun hc => ?_⟩
    rcases hc with e | e | e
    · exact hN (.inl e)
    · rcases hn x e with h1 | h1
      · exact hN (.inr (.inl h1))
      · have := lt_heap hx; omega
    · exact hN (.inr (.inr e))
def mJoin (q : List Pkt) (p : Pkt) : List Pkt := if q.length < 20000 then q ++ [p] else q
theorem lt20 {k : Nat} (h : decide ((k : Int) < 20000) = true) : k < 20000 := by have := of_decide_eq_true h; omega
theorem ge20 {k : Nat} (h : decide ((k : Int) < 20000) = false) : ¬ k < 20000 := by have := of_decide_eq_false h; omega
theorem mJoin_yes {q : List Pkt} {p : Pkt} (h : q.length < 20000) : mJoin q p = q ++ [p] := by unfold mJoin; rw [if_pos h]
theorem mJoin_no {q : List Pkt} {p : Pkt} (h : ¬ q.length < 20000) : mJoin q p = q := by unfold mJoin; rw [if_neg h]
theorem join_ok (h : CI w bc gv sv q n sz B ad F) (p : Pkt) : CY 63 #[.pointer (some ⟨bc, 0, none⟩), .agg p.cells.toArray] w (fun v w' => v = .tuple #[] ∧ (∃ sv', CI w' bc gv sv' (mJoin q p) n sz B ad F ∧ CFr n sz B bc w sv ad w' sv' ad) ∧ Kz w w' ∧ w'.os = w.os ∧ w'.output = w.output) := by
  refine callE Tryz.func63 rfl rfl ?_
  intro w1 b1 m1 g1 l1
  have h1 := h.gb0 g1
  obtain ⟨sa, sc, rfl⟩ := own_slice h1.row
  have hlen := h.len
  obtain ⟨bg, cg, cur, tg, egv, _⟩ := h.ptr
  subst egv
  refine ⟨_, _, h1.clu, _, rfl, spl (fun c => ?_) (fun c => ?_)⟩
  · have c1 : q.length < 20000 := lt20 c
    have em := mJoin_yes (p := p) c1
    rw [em]
    refine ⟨by kernel_rfl, _, _, h1.clu, _, rfl, _, _, m1, p.cells, rfl, rfl, fun w2 b2 m2 g2 l2 => ?_⟩
    have h2 := h1.gb0 g2
    refine ⟨⟨g2.get m1 nofun, h2.clu, trivial⟩, _, p.cells, h2.row, ⟨_, _, m2, rfl, rfl, rfl⟩, by omega, fun lv w3 ho3 g3 n3 => ?_⟩
    have m3 : w3.heap[bc]? = _ := (g3.block bc (lt_heap h2.clu) fun e => by
      obtain ⟨c, hc⟩ := own_obj h2.row e.symm
      rw [h2.clu] at hc; injection hc with hc; injection hc with _ hc; revert hc; decide).trans h2.clu
    obtain ⟨la, lc, rfl⟩ := own_slice ho3
    refine ⟨_, _, _, m3, rfl, rfl, fun w4 m4 g4 => ?_⟩
    obtain ⟨h4, k4, o4, u4, f4⟩ := h2.pk (q' := q ++ [p]) (by simp; omega) g3 (by rw [List.length_append, show flat (q ++ [p]) = flat q ++ p.cells by simp [flat]]; exact ho3) n3 m4 g4
    have G := g1.trans g2
    exact ⟨rfl, ⟨_, h4, (CFr.gb0 G).trans f4⟩, G.kz.trans k4, o4.trans G.os, u4.trans G.out⟩
  · have c1 : ¬ q.length < 20000 := ge20 c
    have em := mJoin_no (p := p) c1
    rw [em]
    exact ⟨rfl, ⟨_, h1, CFr.gb0 g1⟩, g1.kz, g1.os, g1.out⟩
end
end
end Go.Proofs.YtignemioillaiaaGreat
