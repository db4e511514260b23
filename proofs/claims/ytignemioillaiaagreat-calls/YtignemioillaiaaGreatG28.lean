/- What is written (2): the small things. -/
import Derived.Test.YtignemioillaiaaGreatG27
namespace Go.Proofs.YtignemioillaiaaGreat
set_option maxHeartbeats 8000000
set_option maxRecDepth 100000
section
open Go Go.Conc
def eBool (f : Bool) : List Int := [if f then 1 else 0]
def eBal (n i : Int) : List Int := b32 n ++ [i]
def eRow (x : Row) : List Int := b64 x.key ++ b64 x.val
def eRep (p : Rep) : List Int := [p.c] ++ b32 p.s ++ b64 p.key ++ [p.k] ++ (if p.k = 1 then eBool p.found ++ (if p.found then b64 p.v else []) else if p.k = 3 then [p.g] else [])
def eReq (q : Req) : List Int := [q.c] ++ b32 q.s ++ [q.k] ++ b64 q.key ++ (if q.k = 2 then b64 q.v else if q.k = 4 then b64 q.hi ++ [q.to] else [])
section
variable {w w1 w2 : World} {v v1 v2 : Value} {n : Nat} {xs : List Value} {a b : List Int}
/-- One piece more. -/
theorem Put.more (h : Put w v n xs a v1 w1) (k : Put w1 v1 (n + a.length) (xs ++ bts a) b v2 w2) {x : Nat} {c : Array Value} {t : TypeId} (hx : w1.heap[x]? = some (.cells c t)) (ht : t ≠ 5) : Put w v n xs (a ++ b) v2 w2 ∧ w2.heap[x]? = some (.cells c t) := ⟨h.trans k, k.get h.row hx ht⟩
theorem Put.eq (h : Put w v n xs a v1 w1) (e : a = b) : Put w v n xs b v1 w1 := e ▸ h
theorem putBool_ok (ho : w.ownsRow 0 5 1 v n xs) (hn : n ≤ 900000000) (f : Bool) : CY 235 #[v, .bool f] w (fun v' w' => Put w v n xs (eBool f) v' w') := by
  refine callE Tryz.func235 rfl rfl ?_
  cases f
  · exact ⟨_, put8_ok ho hn 0, fun _ _ h => h⟩
  · exact ⟨_, put8_ok ho hn 1, fun _ _ h => h⟩
theorem putBal_ok (ho : w.ownsRow 0 5 1 v n xs) (hn : n ≤ 800000000) (k i : Int) : CY 217 #[v, .agg #[.int .u32 k, .int .u8 i]] w (fun v' w' => Put w v n xs (eBal k i) v' w') := by
  refine callE Tryz.func217 rfl rfl ?_
  refine fun w1 b1 m1 g1 l1 => ?_
  refine ⟨by kernel_rfl, _, _, m1, _, rfl, _, _, m1, _, rfl, ?_⟩
  have P := Put.pre g1 (Put.nil (own_gb0 ho g1))
  refine ⟨_, put32_ok P.row (by simp; omega) _, fun v2 w2 p2 => ?_⟩
  obtain ⟨P, m1⟩ := P.more p2 m1 (by decide)
  refine ⟨⟨m1, m1, trivial⟩, _, put8_ok P.row (by simp [b32]; omega) _, fun v3 w3 p3 => ?_⟩
  exact P.trans p3
theorem putRow_ok (ho : w.ownsRow 0 5 1 v n xs) (hn : n ≤ 700000000) (x : Row) : CY 237 #[v, .agg x.cells.toArray] w (fun v' w' => Put w v n xs (eRow x) v' w') := by
  refine callE Tryz.func237 rfl rfl ?_
  refine fun w1 b1 m1 g1 l1 => ?_
  refine ⟨by kernel_rfl, _, _, m1, _, rfl, _, _, m1, _, rfl, ?_⟩
  have P := Put.pre g1 (Put.nil (own_gb0 ho g1))
  refine ⟨_, put64_ok P.row (by simp; omega) _, fun v2 w2 p2 => ?_⟩
  obtain ⟨P, m1⟩ := P.more p2 m1 (by decide)
  refine ⟨⟨m1, m1, trivial⟩, _, put64_ok P.row (by simp [b64, b32]; omega) _, fun v3 w3 p3 => ?_⟩
  exact P.trans p3
theorem putRep_ok (ho : w.ownsRow 0 5 1 v n xs) (hn : n ≤ 700000000) (p : Rep) : CY 216 #[v, .agg p.cells.toArray] w (fun v' w' => Put w v n xs (eRep p) v' w') := by
  refine callE Tryz.func216 rfl rfl ?_
  refine fun w1 b1 m1 g1 l1 => ?_
  have P := Put.pre g1 (Put.nil (own_gb0 ho g1))
  refine ⟨_, _, m1, _, rfl, _, put8_ok P.row (by simp; omega) _, fun v2 w2 p2 => ?_⟩
  obtain ⟨P, m1⟩ := P.more p2 m1 (by decide)
  refine ⟨_, _, m1, _, rfl, _, put32_ok P.row (by simp; omega) _, fun v2 w2 p2 => ?_⟩
  obtain ⟨P, m1⟩ := P.more p2 m1 (by decide)
  refine ⟨_, _, m1, _, rfl, _, put64_ok P.row (by simp [b32]; omega) _, fun v2 w2 p2 => ?_⟩
  obtain ⟨P, m1⟩ := P.more p2 m1 (by decide)
  refine ⟨_, _, m1, _, rfl, _, put8_ok P.row (by simp [b32, b64]; omega) _, fun v2 w2 p2 => ?_⟩
  obtain ⟨P, m1⟩ := P.more p2 m1 (by decide)
  refine ⟨_, _, m1, _, rfl, spl (fun c => ?_) (fun c => ?_)⟩
  · have c1 : p.k = 1 := by simpa using c
    refine ⟨_, _, m1, _, rfl, _, putBool_ok P.row (by simp [b32, b64]; omega) _, fun v2 w2 p2 => ?_⟩
    obtain ⟨P, m1⟩ := P.more p2 m1 (by decide)
    refine ⟨_, _, m1, _, rfl, spl (fun d => ?_) (fun d => ?_)⟩
    · refine ⟨_, _, m1, _, rfl, _, put64_ok P.row (by simp [b32, b64, eBool]; omega) _, fun v2 w2 p2 => ?_⟩
      exact (P.trans p2).eq (by simp [eRep, c1, d])
    · exact P.eq (by simp [eRep, c1, d])
  · have c1 : ¬ p.k = 1 := by simpa using c
    refine spl (fun d => ?_) (fun d => ?_)
    · have d1 : p.k = 3 := by simpa using d
      refine ⟨_, _, m1, _, rfl, _, put8_ok P.row (by simp [b32, b64]; omega) _, fun v2 w2 p2 => ?_⟩
      exact (P.trans p2).eq (by simp [eRep, d1])
    · have d1 : ¬ p.k = 3 := by simpa using d
      exact P.eq (by simp [eRep, c1, d1])
theorem putReq_ok (ho : w.ownsRow 0 5 1 v n xs) (hn : n ≤ 700000000) (q : Req) : CY 215 #[v, .agg q.cells.toArray] w (fun v' w' => Put w v n xs (eReq q) v' w') := by
  refine callE Tryz.func215 rfl rfl ?_
  refine fun w1 b1 m1 g1 l1 => ?_
  have P := Put.pre g1 (Put.nil (own_gb0 ho g1))
  refine ⟨_, _, m1, _, rfl, _, put8_ok P.row (by simp; omega) _, fun v2 w2 p2 => ?_⟩
  obtain ⟨P, m1⟩ := P.more p2 m1 (by decide)
  refine ⟨_, _, m1, _, rfl, _, put32_ok P.row (by simp; omega) _, fun v2 w2 p2 => ?_⟩
  obtain ⟨P, m1⟩ := P.more p2 m1 (by decide)
  refine ⟨_, _, m1, _, rfl, _, put8_ok P.row (by simp [b32]; omega) _, fun v2 w2 p2 => ?_⟩
  obtain ⟨P, m1⟩ := P.more p2 m1 (by decide)
  refine ⟨_, _, m1, _, rfl, _, put64_ok P.row (by simp [b32]; omega) _, fun v2 w2 p2 => ?_⟩
  obtain ⟨P, m1⟩ := P.more p2 m1 (by decide)
  refine ⟨_, _, m1, _, rfl, spl (fun c => ?_) (fun c => ?_)⟩
  · have c1 : q.k = 2 := by simpa using c
    refine ⟨_, _, m1, _, rfl, _, put64_ok P.row (by simp [b32, b64]; omega) _, fun v2 w2 p2 => ?_⟩
    exact (P.trans p2).eq (by simp [eReq, c1])
  · have c1 : ¬ q.k = 2 := by simpa using c
    refine spl (fun d => ?_) (fun d => ?_)
    · have d1 : q.k = 4 := by simpa using d
      refine ⟨_, _, m1, _, rfl, _, put64_ok P.row (by simp [b32, b64]; omega) _, fun v2 w2 p2 => ?_⟩
      obtain ⟨P, m1⟩ := P.more p2 m1 (by decide)
      refine ⟨_, _, m1, _, rfl, _, put8_ok P.row (by simp [b32, b64]; omega) _, fun v2 w2 p2 => ?_⟩
      exact (P.trans p2).eq (by simp [eReq, d1])
    · have d1 : ¬ q.k = 4 := by simpa using d
      exact P.eq (by simp [eReq, c1, d1])
end
theorem Snp.add_at (Λ : Snp) (b : Nat) (o : Obj) : (Λ.add b o).pr b = some o := by unfold Snp.add; simp
/-- What is asked of a replica's data. -/
structure Ok (A : Apl) (R : MR) : Prop where
  sz : R.sc.sz ≤ 5
  i : R.sc.i < R.sc.sz ∧ R.sc.g < R.sc.gs ∧ R.sc.gs ≤ 4 ∧ R.sc.gs = A.N
  st : A.good R.log.length R.st
  kn : ∀ k c, R.known k = some c → A.gc c ∧ k < 60
  pp : ∀ k c, R.props k = some c → A.gc c ∧ k < 60
  vt : ∀ k v, R.votes k = some v → A.gc v.c ∧ k < 60 ∧ v.slot = k
  wv : ∀ k v, R.wvotes k = some v → A.gc v.c ∧ k < 60 ∧ v.slot = k
  mt : ∀ k v, R.met k = some v → A.gc v.c ∧ k < 60 ∧ v.slot = k
  ac : ∀ k c, R.acc k = some c → c < 32
  pr : R.sc.prom < 32
  lg : R.log.length ≤ 60
  lc : ∀ c ∈ R.log, A.gc c
  nx : R.sc.next ≤ 60
  sn : R.sc.seen ≤ 4294967295 ∧ R.sc.b.n ≤ 4294967295 ∧ R.sc.wb.n ≤ 4294967295
section
variable {A : Apl} {R : MR}
theorem Ok.snd (h : Ok A R) (enc : MM → ByteArray) (m : MM) (tl : List (Nat × Nat)) : Ok A (Snd enc R m tl) := ⟨h.sz, h.i, h.st, h.kn, h.pp, h.vt, h.wv, h.mt, h.ac, h.pr, h.lg, h.lc, h.nx, h.sn⟩
theorem Ok.ans (h : Ok A R) (c : MC) (p : Rep) : Ok A (mAns A R c p) := by
  unfold mAns
  split
  · exact h.snd _ _ _
  · split
    · exact h.snd _ _ _
    · exact h
theorem mAns_len (R : MR) (c : MC) (p : Rep) (hz : R.sc.sz ≤ 5) : (mAns A R c p).out.length ≤ R.out.length + 5 := by
  unfold mAns
  split
  · rw [mTell, Snd_len]; simp
  · split
    · rw [mAck, Snd_len]; have := oth_len R.sc.g R.sc.i c.r.src.toNat R.sc.sz; omega
    · omega
theorem mAns_log (R : MR) (c : MC) (p : Rep) : (mAns A R c p).log = R.log ∧ (mAns A R c p).known = R.known ∧ (mAns A R c p).sc = R.sc := by
  unfold mAns
  split
  · exact ⟨rfl, rfl, rfl⟩
  · split
    · exact ⟨rfl, rfl, rfl⟩
    · exact ⟨rfl, rfl, rfl⟩
theorem Ok.do (HA : AplOK A) (h : Ok A R) {c : MC} (hc : A.gc c) (hl : R.log.length < 60) : Ok A (mDo A R c) := by
  have h1 : Ok A { R with st := (A.ap R.st c).1, log := R.log ++ [c] } := ⟨h.sz, h.i, HA.next h.st (Nat.le_of_lt hl) hc, h.kn, h.pp, h.vt, h.wv, h.mt, h.ac, h.pr, by simp; omega, fun x hx => (List.mem_append.1 hx).elim (h.lc x) (fun e => by simp at e; rw [e]; exact hc), h.nx, h.sn⟩
  unfold mDo
  split
  · exact h1.ans _ _
  · exact h1
theorem mDo_facts (R : MR) (c : MC) (hz : R.sc.sz ≤ 5) : (mDo A R c).out.length ≤ R.out.length + 5 ∧ (mDo A R c).log = R.log ++ [c] ∧ (mDo A R c).known = R.known ∧ (mDo A R c).sc = R.sc := by
  unfold mDo
  split
  · exact ⟨mAns_len _ _ _ hz, (mAns_log _ _ _).1, (mAns_log _ _ _).2.1, (mAns_log _ _ _).2.2⟩
  · exact ⟨by show R.out.length ≤ _; omega, rfl, rfl, rfl⟩
theorem Ok.known (h : Ok A R) {f : Nat → Option MC} (hf : ∀ k c, f k = some c → A.gc c ∧ k < 60) : Ok A { R with known := f } := ⟨h.sz, h.i, h.st, hf, h.pp, h.vt, h.wv, h.mt, h.ac, h.pr, h.lg, h.lc, h.nx, h.sn⟩
theorem mCatch_none {n : Nat} (h : R.known R.log.length = none) : mCatch A (n + 1) R = R := by
  rw [mCatch, h]
theorem mCatch_some {n : Nat} {c : MC} (h : R.known R.log.length = some c) : mCatch A (n + 1) R = mCatch A n (mDo A { R with known := upd R.known R.log.length none } c) := by
  rw [mCatch, h]
theorem upd_some {α : Type} {f : Nat → Option α} {P : Nat → α → Prop} (hf : ∀ k c, f k = some c → P k c) {j : Nat} {o : Option α} (ho : ∀ c, o = some c → P j c) : ∀ k c, upd f j o k = some c → P k c := by
  intro k c h
  unfold upd at h
  split at h
  · rename_i e; subst e; exact ho c h
  · exact hf k c h
theorem upd_none {α : Type} {f : Nat → Option α} {P : Nat → α → Prop} (hf : ∀ k c, f k = some c → P k c) (j : Nat) : ∀ k c, upd f j none k = some c → P k c := upd_some hf fun _ e => by cases e
theorem upd_put {α : Type} {f : Nat → Option α} {P : Nat → α → Prop} (hf : ∀ k c, f k = some c → P k c) {j : Nat} {x : α} (hx : P j x) : ∀ k c, upd f j (some x) k = some c → P k c := upd_some hf fun _ e => by cases e; exact hx
end
section
variable {A : Apl} (HA : AplOK A) {Λ : Snp} {w : World} {br : Nat} {R : MR}
include HA
theorem catch_ok (h : Wk Λ br R w) (ho : Ok A R) (hb : R.out.length ≤ 890000) : CY 170 #[.pointer (some ⟨br, 0, none⟩)] w (fun v w' => v = .tuple #[] ∧ Wk Λ br (mCatch A 61 R) w' ∧ Kz w w') := by
  refine callE Tryz.func170 rfl rfl ?_
  refine ⟨fun m s w1 => ∃ R' : MR, mCatch A 61 R = mCatch A m R' ∧ m + R'.log.length = 61 + R.log.length ∧ s = [(0, .pointer (some ⟨br, 0, none⟩))] ∧ Wk Λ br R' w1 ∧ Ok A R' ∧ R'.out.length ≤ R.out.length + 5 * R'.log.length ∧ Kz w w1, ⟨_, _, ⟨R, rfl, rfl, rfl, h, ho, by omega, Kz.refl _⟩, rfl, trivial⟩, ?_⟩
  rintro m s w1 ⟨R', em, el, rfl, ⟨a, h1⟩, o1, hl1, k1⟩
  have hlg := o1.lg
  obtain ⟨m, rfl⟩ : ∃ n, m = n + 1 := ⟨m - 1, by omega⟩
  obtain ⟨vm, wm, kn, mt, pp, ac, lg, ob, sT, sM, sD, sO, sI⟩ := a
  obtain ⟨la, lc, rfl⟩ : ∃ la lc, lg = .slice la R'.log.length lc := by obtain ⟨_, _, h, _⟩ := h1.ri.lg; exact own_slice h
  obtain ⟨f, e1, e2, e3⟩ := h1.ri.kn
  refine ⟨_, _, h1.ri.mem, _, rfl, .inl ⟨by omega, _, _, h1.ri.mem, _, rfl, f, e1, fun w2 b2 m2 g2 l2 => ?_⟩⟩
  rcases mapG_at e3 R'.log.length with ⟨n1, n2⟩ | ⟨c, v, n1, n2, rv, dv, rfl, hr⟩
  · rw [n2]
    refine ⟨_, _, _, m2, rfl, rfl, fun w3 m3 g3 => ?_⟩
    have g13 : GB none w1 w3 := ⟨g3.os.trans g2.os, g3.out.trans g2.out, Nat.le_trans g2.size g3.size, fun x hx _ => (g3.block x (Nat.lt_of_lt_of_le hx g2.size) (fun e => by cases e; omega)).trans (g2.block x hx nofun)⟩
    have em' := em.trans (mCatch_none n1)
    exact ⟨rfl, by rw [em']; exact ⟨_, h1.gb0 g13⟩, k1.trans g13.kz⟩
  · rw [n2]
    obtain ⟨ra, rn, rc, da, dn, dc, rfl, rfl⟩ := hr.sl
    refine ⟨_, _, _, m2, rfl, rfl, fun w3 m3 g3 => ?_⟩
    have g13 : GB none w1 w3 := ⟨g3.os.trans g2.os, g3.out.trans g2.out, Nat.le_trans g2.size g3.size, fun x hx _ => (g3.block x (Nat.lt_of_lt_of_le hx g2.size) (fun e => by cases e; omega)).trans (g2.block x hx nofun)⟩
    have em' := em.trans (mCatch_some n1)
    obtain ⟨hgc, h60⟩ := o1.kn _ _ n1
    have h3 := h1.box g13 m3 l2
    have u3 := h1.unp l2
    obtain ⟨f, e1, e2, e3⟩ := h3.ri.kn
    refine ⟨_, _, h3.ri.mem, _, rfl, f, e1, fun w4 m4 g4 => ?_⟩
    have k34 := h3.ri.kz h3.ri.o_kn g4
    have h4 := h3.step h3.ri.o_kn g4 (h3.ri.kn' g4 (MapG.del (fun _ _ h => h.kz k34) e2 e3 m4))
    have m3' := (h4.pr b2 _ (Snp.add_at _ _ _)).1
    have o4 : Ok A { R' with known := upd R'.known R'.log.length none } := o1.known (upd_none o1.kn _)
    have hc4 : CIn w4 (.agg (mcC c (.slice ra rn rc) (.slice da dn dc)).toArray) c := ⟨.slice ra rn rc, .slice da dn dc, rfl, (hr.kz g13.kz).kz k34⟩
    refine ⟨_, _, m3', mcC c (.slice ra rn rc) (.slice da dn dc), rfl, rfl, _, do_ok HA (c := c) ⟨_, h4⟩ hc4 o4.lg o4.st hgc o4.sz (by show R'.log.length ≤ _; omega) (by show R'.out.length ≤ _; omega), ?_⟩
    rintro _ w5 ⟨rfl, h5, k5⟩
    obtain ⟨q1, q2, q3, q4⟩ := mDo_facts (A := A) { R' with known := upd R'.known R'.log.length none } c o4.sz
    refine ⟨m, _, ⟨_, em', by rw [q2]; simp; omega, rfl, h5.drop u3, o4.do HA hgc h60, ?_, ((k1.trans g13.kz).trans k34).trans k5⟩, (sb rfl), by omega⟩
    rw [q2, List.length_append]
    show _ ≤ R.out.length + 5 * (R'.log.length + 1)
    have : ({ R' with known := upd R'.known R'.log.length none } : MR).out.length = R'.out.length := rfl
    omega
theorem agree_ok (h : Wk Λ br R w) (ho : Ok A R) {s : Nat} (hs : s < 60) {c : MC} (hgc : A.gc c) {cv : Value} (hc : CIn w cv c) (hb : R.out.length ≤ 890000) : CY 120 #[.pointer (some ⟨br, 0, none⟩), .int .u32 s, cv] w (fun v w' => v = .tuple #[] ∧ Wk Λ br (mAgree A R s c) w' ∧ Kz w w') := by
  obtain ⟨rv, dv, rfl, hr⟩ := hc
  refine callE Tryz.func120 rfl rfl ?_
  intro w1 b1 m1 g1 l1
  obtain ⟨a, h⟩ := h
  have h1 := h.box g1 m1 l1
  have u1 := h.unp l1
  have hlg := ho.lg
  obtain ⟨vm, wm, kn, mt, pp, ac, lg, ob, sT, sM, sD, sO, sI⟩ := a
  obtain ⟨la, lc, rfl⟩ : ∃ la lc, lg = .slice la R.log.length lc := by obtain ⟨_, _, h, _⟩ := h1.ri.lg; exact own_slice h
  unfold mAgree
  refine ⟨_, _, h1.ri.mem, _, rfl, .inl ⟨by omega, spl (fun d => ?_) (fun d => ?_)⟩⟩
  · have d1 : s < R.log.length := by simp at d; omega
    rw [if_pos d1]
    exact ⟨rfl, Wk.drop ⟨_, h1⟩ u1, g1.kz⟩
  have d1 : ¬ s < R.log.length := by simp at d; omega
  rw [if_neg d1]
  obtain ⟨f, e1, e2, e3⟩ := h1.ri.pp
  refine ⟨_, _, h1.ri.mem, _, rfl, f, e1, fun w2 m2 g2 => ?_⟩
  have k2 := h1.ri.kz h1.ri.o_pp g2
  have h2 := h1.step h1.ri.o_pp g2 (h1.ri.pp' g2 (MapG.del (fun _ _ h => h.kz k2) e2 e3 m2))
  obtain ⟨f, e1, e2, e3⟩ := h2.ri.ac
  refine ⟨_, _, h2.ri.mem, _, rfl, f, e1, fun w3 m3 g3 => ?_⟩
  have k3 := h2.ri.kz h2.ri.o_ac g3
  have h3 := h2.step h2.ri.o_ac g3 (h2.ri.ac' g3 (MapG.del (rel := NIn) (w := w2) (fun v x (h : NIn w2 v x) => (show NIn w3 v x from h)) e2 e3 m3))
  have hnx := ho.nx
  have emax : (if ((s : Int) + 1) > (R.sc.next : Int) then ((s : Int) + 1) else (R.sc.next : Int)) = ((max R.sc.next (s + 1) : Nat) : Int) := by split <;> omega
  refine ⟨_, _, h3.ri.mem, _, rfl, by omega, _, _, rcC { R with props := upd R.props s none, acc := upd R.acc s none, sc := { R.sc with next := max R.sc.next (s + 1) } } ⟨vm, wm, kn, mt, pp, ac, .slice la R.log.length lc, ob, sT, sM, sD, sO, sI⟩, h3.ri.mem, rfl, by unfold rcC; dsimp only; rw [← emax]; rfl, fun w4 m4 g4 => ?_⟩
  have h4 := h3.cell (s' := { R.sc with next := max R.sc.next (s + 1) }) m4 g4
  have k4 := h3.ri.kz h3.ri.o_br g4
  have m1' : w4.heap[b1]? = _ := (h4.pr b1 _ (Snp.add_at _ _ _)).1
  obtain ⟨f, e1, e2, e3⟩ := h4.ri.kn
  refine ⟨by kernel_rfl, _, _, h4.ri.mem, _, rfl, _, _, m1', _, rfl, rfl, f, e1, fun w5 m5 g5 => ?_⟩
  have k5 := h4.ri.kz h4.ri.o_kn g5
  have kk := (((g1.kz.trans k2).trans k3).trans k4).trans k5
  have h5 := h4.step h4.ri.o_kn g5 (h4.ri.kn' g5 (MapG.put (fun _ _ h => h.kz k5) e2 e3 ⟨rv, dv, rfl, hr.kz kk⟩ m5))
  refine ⟨_, catch_ok HA (Wk.drop ⟨_, h5⟩ u1) ⟨ho.sz, ho.i, ho.st, upd_put (P := fun k c => A.gc c ∧ k < 60) ho.kn ⟨hgc, hs⟩, upd_none ho.pp s, ho.vt, ho.wv, ho.mt, upd_none ho.ac s, ho.pr, ho.lg, ho.lc, by show max R.sc.next (s + 1) ≤ 60; omega, ho.sn⟩ hb, ?_⟩
  rintro _ w6 ⟨rfl, h6, k6⟩
  exact ⟨rfl, h6, kk.trans k6⟩
end
section
variable (A : Apl)
def accNow (R : MR) (s i : Nat) : Nat := cwith ((R.acc s).getD 0) i
def mCntA (R : MR) (s i : Nat) : MR := match R.props s with
  | none => R
  | some c => if 2 * pc (accNow R s i) > R.sc.sz then mAgree A (Snd A.enc { R with acc := upd R.acc s (some (accNow R s i)) } { zMM 8 with s := s, c := c } (oth R.sc.g R.sc.i R.sc.g R.sc.sz)) s c else { R with acc := upd R.acc s (some (accNow R s i)) }
def mProp (R : MR) (s : Nat) (c : MC) : MR := mCntA A (mSA A.enc (mVote { R with props := upd R.props s (some c) } s c) s c) s R.sc.i
end
theorem acc_at {w : World} {g : Nat → Option Nat} {f : Int → Option Value} {k : Nat} (h : (g k = none ∧ f k = none) ∨ ∃ x v, g k = some x ∧ f k = some v ∧ NIn w v x) : (f k).getD (.int .u8 0) = .int .u8 ((g k).getD 0 : Nat) := by
  rcases h with ⟨n1, n2⟩ | ⟨x, v, n1, n2, n3⟩
  · rw [n1, n2]; rfl
  · rw [n1, n2]; exact n3
section
variable {A : Apl} (HA : AplOK A) {Λ : Snp} {w : World} {br : Nat} {R : MR}
include HA
theorem cntA_ok (h : Wk Λ br R w) (ho : Ok A R) (s i : Nat) (hs : s < 60) (hi : i < 5) (hb : R.out.length ≤ 880000) : CY 169 #[.pointer (some ⟨br, 0, none⟩), .int .u32 s, .int .u8 i] w (fun v w' => v = .tuple #[] ∧ Wk Λ br (mCntA A R s i) w' ∧ Kz w w') := by
  refine callE Tryz.func169 rfl rfl ?_
  obtain ⟨a, h⟩ := h
  obtain ⟨f, e1, e2, e3⟩ := h.ri.pp
  refine ⟨_, _, h.ri.mem, _, rfl, f, e1, fun w2 b2 m2 g2 l2 => ?_⟩
  rcases mapG_at e3 s with ⟨n1, n2⟩ | ⟨c, v, n1, n2, rv, dv, rfl, hr⟩
  · have em : mCntA A R s i = R := by unfold mCntA; rw [n1]
    rw [n2, em]
    refine ⟨_, _, _, m2, rfl, rfl, fun w3 m3 g3 => ?_⟩
    have g13 : GB none w w3 := ⟨g3.os.trans g2.os, g3.out.trans g2.out, Nat.le_trans g2.size g3.size, fun x hx _ => (g3.block x (Nat.lt_of_lt_of_le hx g2.size) (fun e => by cases e; omega)).trans (g2.block x hx nofun)⟩
    exact ⟨rfl, ⟨_, h.gb0 g13⟩, g13.kz⟩
  rw [n2]
  obtain ⟨ra, rn, rc, da, dn, dc, rfl, rfl⟩ := hr.sl
  refine ⟨_, _, _, m2, rfl, rfl, fun w3 m3 g3 => ?_⟩
  have g13 : GB none w w3 := ⟨g3.os.trans g2.os, g3.out.trans g2.out, Nat.le_trans g2.size g3.size, fun x hx _ => (g3.block x (Nat.lt_of_lt_of_le hx g2.size) (fun e => by cases e; omega)).trans (g2.block x hx nofun)⟩
  obtain ⟨hgc, h60⟩ := ho.pp _ _ n1
  have h3 := h.box g13 m3 l2
  have u3 := h.unp l2
  obtain ⟨f, e1, e2, e3⟩ := h3.ri.ac
  have hq := acc_at (mapG_at e3 s)
  have hlt : (R.acc s).getD 0 < 32 := by
    cases hh : R.acc s with
    | none => decide
    | some x => exact ho.ac _ _ hh
  refine ⟨by kernel_rfl, _, _, h3.ri.mem, _, rfl, _, _, h3.ri.mem, _, rfl, ?_⟩
  refine ⟨f, e1, ?_⟩
  rw [show (f s).getD (zv eng.T 149 ((eng.T.get 149).getD Ty.p)) = _ from hq]
  refine ⟨_, with_ok w3 _ i hlt hi, ?_⟩
  rintro _ w4 ⟨rfl, rfl⟩
  refine ⟨⟨e1, h3.ri.mem, h3.ri.mem, trivial⟩, f, e1, fun w5 m5 g5 => ?_⟩
  have k5 := h3.ri.kz h3.ri.o_ac g5
  have h5 := h3.step h3.ri.o_ac g5 (h3.ri.ac' g5 (MapG.put (rel := NIn) (x := accNow R s i) (fun v x (h : NIn w4 v x) => (show NIn w5 v x from h)) e2 e3 rfl m5))
  have hw := cwith_lt hlt hi
  have kk := g13.kz.trans k5
  have hup : ((updF f s (some (.int .u8 (accNow R s i : Nat)))) s).getD (.int .u8 0) = .int .u8 (accNow R s i : Nat) := by unfold updF; rw [if_pos rfl]; rfl
  refine ⟨by kernel_rfl, _, _, h5.ri.mem, _, rfl, _, m5, _, _, h5.ri.mem, _, rfl, ?_⟩
  rw [show ((updF f s (some (.int .u8 (cwith ((R.acc s).getD 0) i : Nat)))) s).getD (zv eng.T 149 ((eng.T.get 149).getD Ty.p)) = _ from hup]
  refine ⟨_, most_ok w5 _ _ hw, ?_⟩
  rintro _ w6 ⟨rfl, rfl⟩
  refine spl (fun d => ?_) (fun d => ?_)
  · have d1 : 2 * pc (accNow R s i) > R.sc.sz := of_decide_eq_true d
    have em : mCntA A R s i = mAgree A (Snd A.enc { R with acc := upd R.acc s (some (accNow R s i)) } { zMM 8 with s := s, c := c } (oth R.sc.g R.sc.i R.sc.g R.sc.sz)) s c := by unfold mCntA; rw [n1]; exact if_pos d1
    rw [em]
    have m3' := (h5.pr b2 _ (Snp.add_at _ _ _)).1
    have o5 : Ok A { R with acc := upd R.acc s (some (accNow R s i)) } := ⟨ho.sz, ho.i, ho.st, ho.kn, ho.pp, ho.vt, ho.wv, ho.mt, upd_put ho.ac hw, ho.pr, ho.lg, ho.lc, ho.nx, ho.sn⟩
    refine ⟨by kernel_rfl, _, _, m3', mcC c (.slice ra rn rc) (.slice da dn dc), rfl, rfl, _, peers_ok ⟨_, h5⟩ ho.sz, ?_⟩
    rintro v w7 ⟨hv, g7⟩
    have hol := oth_len R.sc.g R.sc.i R.sc.g R.sc.sz
    have hsz := ho.sz
    refine ⟨⟨g7.get m3' nofun, trivial⟩, _, snd_ok HA.marsh (Wk.gb0 ⟨_, h5⟩ g7) (m := { zMM 8 with s := s, c := c }) ⟨_, _, _, _, _, rfl, (hr.kz kk).kz g7.kz, VsIn.zero _, RgIn.zero _⟩ hv (by show R.out.length + (oth R.sc.g R.sc.i R.sc.g R.sc.sz).length ≤ _; omega), ?_⟩
    rintro _ w8 ⟨rfl, h8, k8⟩
    have m8 := h8.at
    have kk8 := (kk.trans g7.kz).trans k8
    have hc8 : CIn w8 (.agg (mcC c (.slice ra rn rc) (.slice da dn dc)).toArray) c := ⟨_, _, rfl, hr.kz kk8⟩
    refine ⟨_, _, m8, mcC c (.slice ra rn rc) (.slice da dn dc), rfl, rfl, _, agree_ok HA (h8.drop u3) (o5.snd _ _ _) hs hgc hc8 (by rw [Snd_len]; show R.out.length + (oth R.sc.g R.sc.i R.sc.g R.sc.sz).length ≤ _; omega), ?_⟩
    rintro _ w9 ⟨rfl, h9, k9⟩
    exact ⟨rfl, h9, kk8.trans k9⟩
  · have d1 : ¬ 2 * pc (accNow R s i) > R.sc.sz := of_decide_eq_false d
    have em : mCntA A R s i = { R with acc := upd R.acc s (some (accNow R s i)) } := by unfold mCntA; rw [n1]; exact if_neg d1
    rw [em]
    exact ⟨rfl, Wk.drop ⟨_, h5⟩ u3, kk⟩
end
section
variable {A : Apl} (HA : AplOK A)
include HA
theorem Ok.catch : ∀ (n : Nat) {R : MR}, Ok A R → Ok A (mCatch A n R) ∧ (mCatch A n R).out.length ≤ R.out.length + 5 * n ∧ (mCatch A n R).sc = R.sc
  | 0, R, h => ⟨h, by show R.out.length ≤ _; omega, rfl⟩
  | n + 1, R, h => by
    cases hk : R.known R.log.length with
    | none => rw [mCatch_none hk]; exact ⟨h, by omega, rfl⟩
    | some c =>
      rw [mCatch_some hk]
      obtain ⟨hgc, h60⟩ := h.kn _ _ hk
      have o4 : Ok A { R with known := upd R.known R.log.length none } := h.known (upd_none h.kn _)
      obtain ⟨q1, q2, q3, q4⟩ := mDo_facts (A := A) { R with known := upd R.known R.log.length none } c o4.sz
      obtain ⟨i1, i2, i3⟩ := Ok.catch n (o4.do HA hgc h60)
      refine ⟨i1, ?_, i3.trans q4⟩
      have : ({ R with known := upd R.known R.log.length none } : MR).out.length = R.out.length := rfl
      omega
theorem Ok.agree {R : MR} (ho : Ok A R) {s : Nat} (hs : s < 60) {c : MC} (hgc : A.gc c) : Ok A (mAgree A R s c) ∧ (mAgree A R s c).out.length ≤ R.out.length + 305 ∧ (mAgree A R s c).sc.i = R.sc.i ∧ (mAgree A R s c).sc.sz = R.sc.sz := by
  unfold mAgree
  split
  · exact ⟨ho, by omega, rfl, rfl⟩
  · have hnx := ho.nx
    obtain ⟨h1, h2, h3⟩ := Ok.catch HA 61 (R := { R with props := upd R.props s none, acc := upd R.acc s none, sc := { R.sc with next := max R.sc.next (s + 1) }, known := upd R.known s (some c) }) ⟨ho.sz, ho.i, ho.st, upd_put (P := fun k c => A.gc c ∧ k < 60) ho.kn ⟨hgc, hs⟩, upd_none ho.pp s, ho.vt, ho.wv, ho.mt, upd_none ho.ac s, ho.pr, ho.lg, ho.lc, by show max R.sc.next (s + 1) ≤ 60; omega, ho.sn⟩
    exact ⟨h1, h2, by rw [h3], by rw [h3]⟩
theorem Ok.cntA {R : MR} (ho : Ok A R) {s i : Nat} (hi : i < 5) : Ok A (mCntA A R s i) ∧ (mCntA A R s i).out.length ≤ R.out.length + 310 ∧ (mCntA A R s i).sc.i = R.sc.i ∧ (mCntA A R s i).sc.sz = R.sc.sz := by
  unfold mCntA
  cases hp : R.props s with
  | none => exact ⟨ho, by show R.out.length ≤ _; omega, rfl, rfl⟩
  | some c =>
    have hlt : (R.acc s).getD 0 < 32 := by
      cases hh : R.acc s with
      | none => decide
      | some x => exact ho.ac _ _ hh
    have o5 : Ok A { R with acc := upd R.acc s (some (accNow R s i)) } := ⟨ho.sz, ho.i, ho.st, ho.kn, ho.pp, ho.vt, ho.wv, ho.mt, upd_put ho.ac (cwith_lt hlt hi), ho.pr, ho.lg, ho.lc, ho.nx, ho.sn⟩
    dsimp only
    split
    · obtain ⟨h1, h2, h3, h4⟩ := (o5.snd A.enc { zMM 8 with s := s, c := c } (oth R.sc.g R.sc.i R.sc.g R.sc.sz)).agree HA (ho.pp _ _ hp).2 (ho.pp _ _ hp).1
      refine ⟨h1, ?_, h3, h4⟩
      have hol := oth_len R.sc.g R.sc.i R.sc.g R.sc.sz
      have hsz := ho.sz
      rw [Snd_len] at h2
      have : ({ R with acc := upd R.acc s (some (accNow R s i)) } : MR).out.length = R.out.length := rfl
      exact Nat.le_trans h2 (by omega)
    · exact ⟨o5, by show R.out.length ≤ _; omega, rfl, rfl⟩
omit HA in
theorem Ok.vote {R : MR} (ho : Ok A R) {s : Nat} (hs : s < 60) {c : MC} (hgc : A.gc c) : Ok A (mVote R s c) := ⟨ho.sz, ho.i, ho.st, ho.kn, ho.pp, upd_put (P := fun k (v : MV) => A.gc v.c ∧ k < 60 ∧ v.slot = k) ho.vt ⟨hgc, hs, rfl⟩, ho.wv, ho.mt, ho.ac, ho.pr, ho.lg, ho.lc, ho.nx, ho.sn⟩
omit HA in
theorem Ok.pp' {R : MR} (ho : Ok A R) {s : Nat} (hs : s < 60) {c : MC} (hgc : A.gc c) : Ok A { R with props := upd R.props s (some c) } := ⟨ho.sz, ho.i, ho.st, ho.kn, upd_put (P := fun k c => A.gc c ∧ k < 60) ho.pp ⟨hgc, hs⟩, ho.vt, ho.wv, ho.mt, ho.ac, ho.pr, ho.lg, ho.lc, ho.nx, ho.sn⟩
theorem Ok.prop {R : MR} (ho : Ok A R) {s : Nat} (hs : s < 60) {c : MC} (hgc : A.gc c) : Ok A (mProp A R s c) ∧ (mProp A R s c).out.length ≤ R.out.length + 315 ∧ (mProp A R s c).sc.i = R.sc.i ∧ (mProp A R s c).sc.sz = R.sc.sz := by
  unfold mProp
  have hi := ho.i
  have hz := ho.sz
  obtain ⟨h1, h2, h3, h4⟩ := (((ho.pp' hs hgc).vote hs hgc).snd A.enc { zMM 6 with b := R.sc.b, s := s, c := c } (oth R.sc.g R.sc.i R.sc.g R.sc.sz)).cntA HA (s := s) (i := R.sc.i) (by omega)
  refine ⟨h1, ?_, h3, h4⟩
  have hol := oth_len R.sc.g R.sc.i R.sc.g R.sc.sz
  rw [Snd_len] at h2
  have : (mVote { R with props := upd R.props s (some c) } s c).out.length = R.out.length := rfl
  exact Nat.le_trans h2 (by omega)
variable {Λ : Snp} {w : World} {br : Nat} {R : MR}
theorem prop_ok (h : Wk Λ br R w) (ho : Ok A R) {s : Nat} (hs : s < 60) {c : MC} (hgc : A.gc c) {cv : Value} (hc : CIn w cv c) (hb : R.out.length ≤ 870000) : CY 202 #[.pointer (some ⟨br, 0, none⟩), .int .u32 s, cv] w (fun v w' => v = .tuple #[] ∧ Wk Λ br (mProp A R s c) w' ∧ Kz w w') := by
  obtain ⟨rv, dv, rfl, hr⟩ := hc
  refine callE Tryz.func202 rfl rfl ?_
  intro w1 b1 m1 g1 l1
  obtain ⟨a, h⟩ := h
  have h1 := h.box g1 m1 l1
  have u1 := h.unp l1
  have hi := ho.i
  have hz := ho.sz
  obtain ⟨f, e1, e2, e3⟩ := h1.ri.pp
  refine ⟨by kernel_rfl, _, _, h1.ri.mem, _, rfl, _, _, m1, _, rfl, rfl, f, e1, fun w2 m2 g2 => ?_⟩
  have k2 := h1.ri.kz h1.ri.o_pp g2
  have kk := g1.kz.trans k2
  have h2 : Wk _ br { R with props := upd R.props s (some c) } w2 := ⟨_, h1.step h1.ri.o_pp g2 (h1.ri.pp' g2 (MapG.put (fun _ _ h => h.kz k2) e2 e3 ⟨rv, dv, rfl, hr.kz kk⟩ m2))⟩
  refine ⟨_, _, h2.at, _, rfl, rfl, _, vote_ok h2 (c := c) ⟨_, _, rfl, hr.kz kk⟩, ?_⟩
  rintro _ w3 ⟨rfl, h3, k3⟩
  have kk := kk.trans k3
  refine ⟨_, _, h3.at, _, rfl, rfl, _, sa_ok HA.marsh h3 hz (c := c) ⟨_, _, rfl, hr.kz kk⟩ (by show R.out.length ≤ _; omega), ?_⟩
  rintro _ w4 ⟨rfl, h4, k4⟩
  have kk := kk.trans k4
  have o4 := ((ho.pp' hs hgc).vote hs hgc).snd A.enc { zMM 6 with b := R.sc.b, s := s, c := c } (oth R.sc.g R.sc.i R.sc.g R.sc.sz)
  have h4' := h4.drop u1
  obtain ⟨a4, h4⟩ := h4
  have hol := oth_len R.sc.g R.sc.i R.sc.g R.sc.sz
  refine ⟨_, _, h4.ri.mem, _, rfl, _, cntA_ok HA h4' o4 s R.sc.i hs (by omega) (by unfold mSA; rw [Snd_len]; show R.out.length + (oth R.sc.g R.sc.i R.sc.g R.sc.sz).length ≤ _; omega), ?_⟩
  rintro _ w5 ⟨rfl, h5, k5⟩
  exact ⟨rfl, h5, kk.trans k5⟩
end
end
end Go.Proofs.YtignemioillaiaaGreat
