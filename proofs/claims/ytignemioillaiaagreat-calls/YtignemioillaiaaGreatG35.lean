/- What a replica hands out: every packet is the bytes of a message that may be taken. -/
import Derived.Test.YtignemioillaiaaGreatG34
namespace Go.Proofs.YtignemioillaiaaGreat
set_option maxHeartbeats 8000000
set_option linter.unusedSectionVars false
set_option maxRecDepth 100000
section
open Go Go.Conc
/-- A message that replicas send. -/
structure MG (A : Apl) (n : Nat) (m : MM) : Prop where
  bn : m.b.n ≤ 4294967295
  k1 : m.kind ≠ 1
  vs : m.kind = 4 → (∀ v ∈ m.vs, A.gc v.c ∧ v.slot < 60) ∧ m.vs.length ≤ 60
  acc : m.kind = 6 → A.gc m.c ∧ m.s < 60
  acd : m.kind = 7 → m.s < 60
  dec : m.kind = 8 → A.gc m.c ∧ m.s < 60
  mov : m.kind = 9 → 0 ≤ m.r.src ∧ m.r.src.toNat < n ∧ m.r.seq ≤ 4294967295 ∧ A.gc (cRecv m.r)
  ack : m.kind = 10 → 0 ≤ m.peer ∧ m.peer.toNat < n ∧ A.gc (cSet m.peer m.seq)
structure NetOK (A : Apl) : Prop where
  lens : ∀ {k} s, A.good k s → s.I.length = s.n.toNat ∧ s.O.length = s.n.toNat ∧ s.n ≤ 4
  stay : ∀ {k} s c, A.good k s → A.gc c → (A.ap s c).1.n = s.n ∧ (A.ap s c).1.g = s.g
  bgn : ∀ g n, g < n → n ≤ 4 → (A.bg g n).n = n ∧ (A.bg g n).g = g
  lane : ∀ {k} s, A.good k s → ∀ o ∈ s.O, ∀ r ∈ o.2, r.src = s.g ∧ r.seq ≤ 4294967295 ∧ A.gc (cRecv r)
  inn : ∀ {k} s, A.good k s → ∀ x ∈ s.I, 0 ≤ x ∧ x ≤ 4294967295
  gset : ∀ p s, 0 ≤ p → p < 4 → 0 ≤ s → s ≤ 4294967295 → A.gc (cSet p s)
  ask : ∀ d m, A.dec d = some m → m.b.n ≤ 4294967295 ∧ (m.kind = 1 → A.gc (cAsk m.q))
  kind : ∀ d m, A.dec d = some m → 1 ≤ m.kind ∧ m.kind ≤ 10
  rl : ∀ c, A.gc c → c.r.rows.length ≤ 20000 ∧ c.r.dups.length ≤ 20000
  rc : ∀ {k} s c, A.good k s → A.gc c → (A.ap s c).2.c < 256
  back : ∀ n m m', MG A n m → A.dec (A.enc m) = some m' → MG A n m'
def PG (A : Apl) (g i n : Nat) (p : Pkt) : Prop := p.fg = g ∧ p.fr = i ∧ (0 ≤ p.tg ∧ p.tg < 256 ∧ 0 ≤ p.tr ∧ p.tr < 256) ∧ ∃ m, p.d = A.enc m ∧ MG A n m
structure Nx (A : Apl) (R R' : MR) : Prop where
  id : R'.sc.g = R.sc.g ∧ R'.sc.i = R.sc.i ∧ R'.sc.gs = R.sc.gs ∧ R'.sc.sz = R.sc.sz
  sd : R'.st.n = R.st.n ∧ R'.st.g = R.st.g
  ou : ∀ p ∈ R'.out, p ∈ R.out ∨ PG A R.sc.g R.sc.i R.sc.gs p
section
variable {A : Apl} {R R' R'' : MR}
theorem Nx.refl (R : MR) : Nx A R R := ⟨⟨rfl, rfl, rfl, rfl⟩, ⟨rfl, rfl⟩, fun _ h => .inl h⟩
theorem Nx.trans (h : Nx A R R') (k : Nx A R' R'') : Nx A R R'' := by
  obtain ⟨h1, h2, h3, h4⟩ := h.id
  refine ⟨⟨k.id.1.trans h1, k.id.2.1.trans h2, k.id.2.2.1.trans h3, k.id.2.2.2.trans h4⟩, ⟨k.sd.1.trans h.sd.1, k.sd.2.trans h.sd.2⟩, fun p hp => ?_⟩
  rcases k.ou p hp with q | q
  · exact h.ou p q
  · rw [h1, h2, h3] at q
    exact .inr q
def T8 (tl : List (Nat × Nat)) : Prop := ∀ t ∈ tl, t.1 < 256 ∧ t.2 < 256
theorem T8.one {f : Nat × Nat} (h : f.1 < 256 ∧ f.2 < 256) : T8 [f] := fun t ht => by rw [List.mem_singleton] at ht; rw [ht]; exact h
theorem T8.oth {g i grp k : Nat} (h : grp < 256) (hk : k ≤ 5) : T8 (oth g i grp k) := fun t ht => by
  unfold Go.Proofs.YtignemioillaiaaGreat.oth at ht
  obtain ⟨j, hj, rfl⟩ := List.mem_map.1 ht
  have := List.mem_range.1 (List.mem_filter.1 hj).1
  exact ⟨h, by show j < 256; omega⟩
theorem Nx.snd {m : MM} (hm : MG A R.sc.gs m) {tl : List (Nat × Nat)} (ht : T8 tl) : Nx A R (Snd A.enc R m tl) := by
  refine ⟨⟨rfl, rfl, rfl, rfl⟩, ⟨rfl, rfl⟩, fun p hp => ?_⟩
  rcases List.mem_append.1 hp with h | h
  · exact .inl h
  · obtain ⟨x, hx, rfl⟩ := List.mem_map.1 h
    obtain ⟨t1, t2⟩ := ht x hx
    exact .inr ⟨rfl, rfl, ⟨Int.natCast_nonneg _, by show (x.1 : Int) < 256; omega, Int.natCast_nonneg _, by show (x.2 : Int) < 256; omega⟩, m, rfl, hm⟩
theorem MG.tell {n : Nat} (p : Rep) : MG A n { zMM 2 with p := p } := by constructor <;> simp [zMM]
theorem MG.bal {n : Nat} {k : Int} (hk : k = 3 ∨ k = 5) {b : Bal} (hb : b.n ≤ 4294967295) : MG A n { zMM k with b := b } := by
  rcases hk with rfl | rfl <;> constructor <;> simp [zMM, hb]
theorem MG.accept {n : Nat} {b : Bal} (hb : b.n ≤ 4294967295) {s : Nat} (hs : s < 60) {c : MC} (hc : A.gc c) : MG A n { zMM 6 with b := b, s := s, c := c } := by constructor <;> simp [zMM, hb, hs, hc]
theorem MG.accepted {n : Nat} {b : Bal} (hb : b.n ≤ 4294967295) {s : Nat} (hs : s < 60) : MG A n { zMM 7 with b := b, s := s } := by constructor <;> simp [zMM, hb, hs]
theorem MG.decide {n : Nat} {s : Nat} (hs : s < 60) {c : MC} (hc : A.gc c) : MG A n { zMM 8 with s := s, c := c } := by constructor <;> simp [zMM, hs, hc]
theorem MG.promise {n : Nat} {b : Bal} (hb : b.n ≤ 4294967295) {l : List MV} (h1 : ∀ v ∈ l, A.gc v.c ∧ v.slot < 60) (h2 : l.length ≤ 60) : MG A n { zMM 4 with b := b, vs := l } := ⟨hb, by simp [zMM], fun _ => ⟨h1, h2⟩, by simp [zMM], by simp [zMM], by simp [zMM], by simp [zMM], by simp [zMM]⟩
theorem MG.move {n : Nat} {r : Rg} (h : 0 ≤ r.src ∧ r.src.toNat < n ∧ r.seq ≤ 4294967295 ∧ A.gc (cRecv r)) : MG A n { zMM 9 with r := r } := ⟨by simp [zMM], by simp [zMM], by simp [zMM], by simp [zMM], by simp [zMM], by simp [zMM], fun _ => h, by simp [zMM]⟩
theorem MG.acked {n : Nat} {p s : Int} (h : 0 ≤ p ∧ p.toNat < n ∧ A.gc (cSet p s)) : MG A n { zMM 10 with peer := p, seq := s } := ⟨by simp [zMM], by simp [zMM], by simp [zMM], by simp [zMM], by simp [zMM], by simp [zMM], by simp [zMM], fun _ => h⟩
theorem Nx.of (h1 : R'.sc.g = R.sc.g ∧ R'.sc.i = R.sc.i ∧ R'.sc.gs = R.sc.gs ∧ R'.sc.sz = R.sc.sz) (h2 : R'.st = R.st) (h3 : R'.out = R.out) : Nx A R R' := ⟨h1, by rw [h2]; exact ⟨rfl, rfl⟩, fun p hp => .inl (by rw [← h3]; exact hp)⟩
end
section
variable {A : Apl} (HA : AplOK A) (HN : NetOK A) {R : MR}
include HA HN
omit HA in
theorem Nx.ack (ho : Ok A R) (src : Nat) {tl : List (Nat × Nat)} (ht : T8 tl) : Nx A R (mAck A.enc R src tl) := by
  unfold mAck
  refine Nx.snd (MG.acked ⟨by omega, by have := ho.i.2.1; omega, HN.gset _ _ (by omega) (by have := ho.i.2.1; have := ho.i.2.2; omega) ?_ ?_⟩) ht
  · rw [List.getD_eq_getElem?_getD]
    cases h : R.st.I[src]? with
    | none => exact Int.le_refl _
    | some x => exact (HN.inn _ ho.st x (List.mem_of_getElem? h)).1
  · rw [List.getD_eq_getElem?_getD]
    cases h : R.st.I[src]? with
    | none => show (0 : Int) ≤ _; omega
    | some x => exact (HN.inn _ ho.st x (List.mem_of_getElem? h)).2
omit HA in
theorem Nx.ans (ho : Ok A R) {c : MC} {p : Rep} (hp : p.c < 256) (hs : c.kind = 2 → c.r.src.toNat < 256) : Nx A R (mAns A R c p) := by
  unfold mAns
  split
  · exact Nx.snd (MG.tell p) (T8.one ⟨(by decide : 255 < 256), by show p.c.toNat < 256; omega⟩)
  · split
    · rename_i k; exact Nx.ack HN ho _ (T8.oth (hs k) ho.sz)
    · exact Nx.refl R
theorem Nx.do (ho : Ok A R) {c : MC} (hc : A.gc c) (hl : R.log.length < 60) : Nx A R (mDo A R c) := by
  obtain ⟨e1, e2⟩ := HN.stay _ _ ho.st hc
  have h1 : Nx A R { R with st := (A.ap R.st c).1, log := R.log ++ [c] } := ⟨⟨rfl, rfl, rfl, rfl⟩, ⟨e1, e2⟩, fun _ h => .inl h⟩
  have o1 : Ok A { R with st := (A.ap R.st c).1, log := R.log ++ [c] } := ⟨ho.sz, ho.i, HA.next ho.st (Nat.le_of_lt hl) hc, ho.kn, ho.pp, ho.vt, ho.wv, ho.mt, ho.ac, ho.pr, by simp; omega, fun x hx => (List.mem_append.1 hx).elim (ho.lc x) (fun e => by simp at e; rw [e]; exact hc), ho.nx, ho.sn⟩
  unfold mDo
  split
  · refine h1.trans (Nx.ans HN o1 (HN.rc _ _ ho.st hc) fun k => ?_)
    have q1 := HA.src _ _ ho.st hc k
    have q2 := HN.lens _ ho.st
    omega
  · exact h1
theorem Nx.catch : ∀ (n : Nat) {R : MR}, Ok A R → Nx A R (mCatch A n R)
  | 0, R, _ => Nx.refl R
  | n + 1, R, ho => by
    unfold mCatch
    split
    · exact Nx.refl R
    · rename_i c hc
      obtain ⟨h1, h2⟩ := ho.kn _ _ hc
      have o1 : Ok A { R with known := upd R.known R.log.length none } := ho.known (fun k d hd => by
        unfold upd at hd
        split at hd
        · cases hd
        · exact ho.kn k d hd)
      have n1 : Nx A R { R with known := upd R.known R.log.length none } := .of ⟨rfl, rfl, rfl, rfl⟩ rfl rfl
      exact (n1.trans (Nx.do HA HN o1 h1 h2)).trans (Nx.catch n (o1.do HA h1 h2))
theorem Nx.agree (ho : Ok A R) {s : Nat} (hs : s < 60) {c : MC} (hgc : A.gc c) : Nx A R (mAgree A R s c) := by
  unfold mAgree
  split
  · exact Nx.refl R
  · have o1 : Ok A { R with props := upd R.props s none, acc := upd R.acc s none, sc := { R.sc with next := max R.sc.next (s + 1) }, known := upd R.known s (some c) } := by
      have del : ∀ {α : Type} {P : Nat → α → Prop} {f : Nat → Option α} {s : Nat}, (∀ k v, f k = some v → P k v) → ∀ k v, upd f s none k = some v → P k v := fun h k v hv => by
        unfold upd at hv
        split at hv
        · cases hv
        · exact h k v hv
      exact ⟨ho.sz, ho.i, ho.st, upd_put (P := fun k c => A.gc c ∧ k < 60) ho.kn ⟨hgc, hs⟩, del ho.pp, ho.vt, ho.wv, ho.mt, del ho.ac, ho.pr, ho.lg, ho.lc, by show max _ _ ≤ 60; have := ho.nx; omega, ho.sn⟩
    have n1 : Nx A R { R with props := upd R.props s none, acc := upd R.acc s none, sc := { R.sc with next := max R.sc.next (s + 1) }, known := upd R.known s (some c) } := .of ⟨rfl, rfl, rfl, rfl⟩ rfl rfl
    exact n1.trans (Nx.catch HA HN _ o1)
omit HA HN in
theorem Ok.pe (ho : Ok A R) : T8 (oth R.sc.g R.sc.i R.sc.g R.sc.sz) := T8.oth (by have := ho.i; omega) ho.sz
omit HA HN in
theorem Nx.sa (ho : Ok A R) {s : Nat} (hs : s < 60) {c : MC} (hgc : A.gc c) : Nx A R (mSA A.enc R s c) := Nx.snd (MG.accept ho.sn.2.1 hs hgc) ho.pe
theorem Nx.cntA (ho : Ok A R) {s i : Nat} (hi : i < 5) : Nx A R (mCntA A R s i) := by
  unfold mCntA
  split
  · exact Nx.refl R
  · rename_i c hc
    obtain ⟨h1, h2⟩ := ho.pp _ _ hc
    have o1 : Ok A { R with acc := upd R.acc s (some (accNow R s i)) } := by
      refine ⟨ho.sz, ho.i, ho.st, ho.kn, ho.pp, ho.vt, ho.wv, ho.mt, upd_put (P := fun _ c => c < 32) ho.ac ?_, ho.pr, ho.lg, ho.lc, ho.nx, ho.sn⟩
      refine cwith_lt ?_ hi
      cases hb : R.acc s with
      | none => exact Nat.zero_lt_succ _
      | some x => exact ho.ac s x hb
    have n1 : Nx A R { R with acc := upd R.acc s (some (accNow R s i)) } := .of ⟨rfl, rfl, rfl, rfl⟩ rfl rfl
    split
    · have n2 : Nx A { R with acc := upd R.acc s (some (accNow R s i)) } (Snd A.enc { R with acc := upd R.acc s (some (accNow R s i)) } { zMM 8 with s := s, c := c } (oth R.sc.g R.sc.i R.sc.g R.sc.sz)) := Nx.snd (MG.decide h2 h1) ho.pe
      exact (n1.trans n2).trans (Nx.agree HA HN (o1.snd _ _ _) h2 h1)
    · exact n1
theorem Nx.prop (ho : Ok A R) {s : Nat} (hs : s < 60) {c : MC} (hgc : A.gc c) : Nx A R (mProp A R s c) := by
  unfold mProp
  have o1 := Ok.pp' ho hs hgc
  have o2 := Ok.vote o1 hs hgc
  have n1 : Nx A R (mVote { R with props := upd R.props s (some c) } s c) := .of ⟨rfl, rfl, rfl, rfl⟩ rfl rfl
  exact (n1.trans (Nx.sa o2 hs hgc)).trans (Nx.cntA HA HN (o2.snd _ _ _) (Nat.lt_of_lt_of_le ho.i.1 ho.sz))
theorem Nx.offer (ho : Ok A R) {c : MC} (hgc : A.gc c) : Nx A R (mOffer A R c) := by
  unfold mOffer
  split
  · exact Nx.refl R
  · rename_i h
    have hn : R.sc.next < 60 := by
      have : ¬ 60 ≤ R.sc.next := fun e => h (.inl e)
      omega
    have o1 : Ok A { R with sc := { R.sc with next := R.sc.next + 1 } } := ⟨ho.sz, ho.i, ho.st, ho.kn, ho.pp, ho.vt, ho.wv, ho.mt, ho.ac, ho.pr, ho.lg, ho.lc, hn, ho.sn⟩
    have n1 : Nx A R { R with sc := { R.sc with next := R.sc.next + 1 } } := .of ⟨rfl, rfl, rfl, rfl⟩ rfl rfl
    exact n1.trans (Nx.prop HA HN o1 hn hgc)
omit HA HN in
theorem Nx.stand (R : MR) : Nx A R (mStand R) := .of ⟨rfl, rfl, rfl, rfl⟩ rfl rfl
omit HA HN in
theorem Nx.refuse (ho : Ok A R) {f : Nat × Nat} (hf : f.1 < 256 ∧ f.2 < 256) (b : Bal) : Nx A R (mRefuse A.enc R f b) := by
  unfold mRefuse
  split
  · exact Nx.snd (MG.bal (.inr rfl) ho.sn.2.1) (T8.one hf)
  · split
    · exact Nx.refl R
    · exact .of ⟨rfl, rfl, rfl, rfl⟩ rfl rfl
omit HA HN in
theorem Nx.prep (ho : Ok A R) {f : Nat × Nat} (hf : f.1 < 256 ∧ f.2 < 256) {b : Bal} (hb : b.n ≤ 4294967295) : Nx A R (mPrep A.enc R f b) := by
  have o1 := ho.refuse f hb
  unfold mPrep
  split
  · exact Nx.refuse ho hf b
  · refine (Nx.refuse ho hf b).trans (Nx.snd (MG.promise hb (fun v hv => ?_) (vlist_len _ _)) (T8.one hf))
    obtain ⟨k, _, hk⟩ := List.mem_filterMap.1 hv
    obtain ⟨h1, h2, h3⟩ := o1.vt k v hk
    exact ⟨h1, by omega⟩
omit HN in
theorem Nx.takeAcc (ho : Ok A R) {f : Nat × Nat} (hf : f.1 < 256 ∧ f.2 < 256) {m : MM} (hb : m.b.n ≤ 4294967295) (hs : m.s < 60) : Nx A R (mTakeAcc A R f m) := by
  unfold mTakeAcc
  split
  · exact Nx.refuse ho hf m.b
  · refine ((Nx.refuse ho hf m.b).trans (R'' := mVote (mRefuse A.enc R f m.b) m.s m.c) (.of ⟨rfl, rfl, rfl, rfl⟩ rfl rfl)).trans (Nx.snd (MG.accepted hb hs) (T8.one hf))
theorem Nx.accd (ho : Ok A R) {f : Nat × Nat} (hf : f.2 < 5) (m : MM) : Nx A R (mAccd A R f m) := by
  unfold mAccd
  split
  · exact Nx.cntA HA HN ho hf
  · exact Nx.refl R
theorem Nx.ask (ho : Ok A R) {q : Req} (hq : A.gc (cAsk q)) : Nx A R (mAsk A R q) := by
  unfold mAsk
  split
  · exact Nx.refl R
  · split
    · exact Nx.snd (MG.tell _) (T8.one ⟨(by decide : 255 < 256), by have := HN.rc _ _ ho.st hq; show (A.ap R.st (cAsk q)).2.c.toNat < 256; omega⟩)
    · exact Nx.offer HA HN ho hq
theorem Nx.lead2 : ∀ (n s : Nat) {R : MR}, Ok A R → Nx A R (mLead2 A n s R)
  | 0, _, R, _ => Nx.refl R
  | n + 1, s, R, ho => by
    unfold mLead2
    split
    · rename_i h
      have hs : s < 60 := Nat.lt_of_lt_of_le h ho.nx
      split
      · exact Nx.lead2 n (s + 1) ho
      · have hg : A.gc (((R.met s).map MV.c).getD zMC) := by
          cases hm : R.met s with
          | none => exact HA.nop
          | some v => exact (ho.mt s v hm).1
        exact (Nx.prop HA HN ho hs hg).trans (Nx.lead2 n (s + 1) (ho.prop HA hs hg).1)
    · exact Nx.refl R
theorem Nx.lead (ho : Ok A R) : Nx A R (mLead A R) := by
  have n1 : Nx A R { R with sc := { R.sc with role := 2, next := mNext R.met R.log.length } } := .of ⟨rfl, rfl, rfl, rfl⟩ rfl rfl
  have n2 := Nx.lead2 HA HN 61 R.log.length (Ok.lead0 ho)
  exact (n1.trans n2).trans (.of ⟨rfl, rfl, rfl, rfl⟩ rfl rfl)
theorem Nx.cntP (ho : Ok A R) {i : Nat} (hi : i < 5) : Nx A R (mCntP A R i) := by
  have n1 : Nx A R { R with sc := { R.sc with prom := cwith R.sc.prom i } } := .of ⟨rfl, rfl, rfl, rfl⟩ rfl rfl
  unfold mCntP
  split
  · exact n1.trans (Nx.lead HA HN (ho.prom hi))
  · exact n1
omit HA HN in
theorem Nx.raise (R : MR) : Nx A R (mRaise R) := by
  unfold mRaise
  split
  · exact Nx.refl R
  · exact .of ⟨rfl, rfl, rfl, rfl⟩ rfl rfl
theorem Nx.camp (ho : Ok A R) : Nx A R (mCamp A R) := by
  unfold mCamp
  split
  · have n1 : Nx A R (mCamp0 R) := (Nx.raise R).trans (.of ⟨rfl, rfl, rfl, rfl⟩ rfl rfl)
    exact n1.trans (Nx.cntP HA HN ho.camp0 (Nat.lt_of_lt_of_le ho.i.1 ho.sz))
  · exact Nx.refl R
theorem Nx.promise (ho : Ok A R) {f : Nat × Nat} (hf : f.2 < 5) (b : Bal) {vs : List MV} (hv : ∀ v ∈ vs, A.gc v.c ∧ v.slot < 60) : Nx A R (mPromise A R f b vs) := by
  unfold mPromise
  split
  · exact Nx.refl R
  · have n1 : Nx A R { R with met := metAll R.met vs } := .of ⟨rfl, rfl, rfl, rfl⟩ rfl rfl
    exact n1.trans (Nx.cntP HA HN (ho.metAll hv) hf)
theorem Nx.move (ho : Ok A R) {f : Nat × Nat} (hf : f.1 < 256 ∧ f.2 < 256) {r : Rg} (hr : A.gc (cRecv r)) : Nx A R (mMove A R f r) := by
  unfold mMove
  split
  · exact Nx.refl R
  · split
    · exact Nx.ack HN ho _ (T8.one hf)
    · split
      · exact Nx.offer HA HN ho hr
      · exact Nx.refl R
theorem Nx.tack (ho : Ok A R) {p : Nat} {s : Int} (hp : A.gc (cSet p s)) : Nx A R (mTAck A R p s) := by
  unfold mTAck
  split
  · exact Nx.refl R
  · split
    · exact Nx.refl R
    · split
      · exact Nx.offer HA HN ho hp
      · exact Nx.refl R
theorem Nx.take2 (ho : Ok A R) {f : Nat × Nat} (hf : f.1 < 256 ∧ f.2 < 256) {m : MM} (hm : GM A R f m) : Nx A R (mTake2 A R f m) := by
  unfold mTake2
  split
  · rename_i k; exact Nx.ask HA HN ho (hm.ask k)
  split
  · exact Nx.prep ho hf hm.bn
  split
  · rename_i k; exact Nx.promise HA HN ho (hm.vs k).2.2 _ (hm.vs k).1
  split
  · split
    · exact Nx.stand R
    · exact Nx.refl R
  split
  · rename_i k; exact Nx.takeAcc HA ho hf hm.bn (hm.acc k).2
  split
  · rename_i k; exact Nx.accd HA HN ho (hm.acd k).2 m
  split
  · rename_i k; exact Nx.agree HA HN ho (hm.dec k).2 (hm.dec k).1
  split
  · rename_i k; exact Nx.move HA HN ho hf (hm.mov k).2.2.2
  split
  · rename_i k
    have e : (m.peer.toNat : Int) = m.peer := Int.toNat_of_nonneg (hm.ack k).1
    exact Nx.tack HA HN ho (by rw [e]; exact (hm.ack k).2.2)
  · exact Nx.refl R
theorem Nx.take (ho : Ok A R) {f : Nat × Nat} (hf : f.1 < 256 ∧ f.2 < 256) {d : ByteArray} (hm : ∀ m, A.dec d = some m → ¬ (f.1 = 255 ∧ m.kind ≠ 1) → GM A R f m) : Nx A R (mTake A R f d) := by
  unfold mTake
  split
  · exact Nx.refl R
  · rename_i m hd
    split
    · exact Nx.refl R
    · rename_i hn
      have g := hm m hd hn
      have n1 : Nx A R (seenM R m) := .of ⟨rfl, rfl, rfl, rfl⟩ rfl rfl
      exact n1.trans (Nx.take2 HA HN (ho.seen g.bn) hf ⟨g.bn, g.ask, g.vs, g.acc, g.acd, g.dec, g.mov, g.ack⟩)
omit HA HN in
theorem Nx.rem1 (ho : Ok A R) (n : Nat) : Nx A R (mRem1 A.enc R n) ∧ Ok A (mRem1 A.enc R n) ∧ (mRem1 A.enc R n).st = R.st := by
  unfold mRem1
  generalize List.range n = l
  induction l generalizing R with
  | nil => exact ⟨Nx.refl R, ho, rfl⟩
  | cons k l ih =>
    rw [List.foldl_cons]
    have h1 : Nx A R (Go.Proofs.YtignemioillaiaaGreat.rem1 A.enc R k) ∧ Ok A (Go.Proofs.YtignemioillaiaaGreat.rem1 A.enc R k) ∧ (Go.Proofs.YtignemioillaiaaGreat.rem1 A.enc R k).st = R.st := by
      unfold Go.Proofs.YtignemioillaiaaGreat.rem1
      split
      · rename_i c hc
        obtain ⟨q1, q2⟩ := ho.pp _ _ hc
        exact ⟨Nx.sa ho q2 q1, ho.snd _ _ _, rfl⟩
      · exact ⟨Nx.refl R, ho, rfl⟩
    obtain ⟨a1, a2, a3⟩ := ih h1.2.1
    exact ⟨h1.1.trans a1, a2, a3.trans h1.2.2⟩
omit HA in
theorem Nx.rem2 (ho : Ok A R) (hs : R.st.g = R.sc.g) (n : Nat) : Nx A R (mRem2 A.enc R n) := by
  unfold mRem2
  generalize List.range n = l
  induction l generalizing R with
  | nil => exact Nx.refl R
  | cons k l ih =>
    rw [List.foldl_cons]
    have h1 : Nx A R (Go.Proofs.YtignemioillaiaaGreat.rem2 A.enc R k) ∧ Ok A (Go.Proofs.YtignemioillaiaaGreat.rem2 A.enc R k) := by
      unfold Go.Proofs.YtignemioillaiaaGreat.rem2
      split
      · exact ⟨Nx.refl R, ho⟩
      · rename_i r rs hr
        refine ⟨Nx.snd (MG.move ?_) (T8.oth ?_ ho.sz), ho.snd _ _ _⟩
        all_goals
          have hm : ∃ o ∈ R.st.O, r ∈ o.2 ∧ k < R.st.O.length := by
            rw [List.getD_eq_getElem?_getD] at hr
            cases ho : R.st.O[k]? with
            | none => rw [ho] at hr; cases hr
            | some o =>
              rw [ho] at hr
              exact ⟨o, List.mem_of_getElem? ho, by rw [show o.2 = r :: rs from hr]; exact List.mem_cons_self, (List.getElem?_eq_some_iff.1 ho).1⟩
          obtain ⟨o, h1, h2, h3⟩ := hm
          obtain ⟨e1, e2, e3⟩ := HN.lane _ ho.st o h1 r h2
          have q2 := HN.lens _ ho.st
          have := ho.i.2.1
        · exact ⟨by omega, by omega, e2, e3⟩
        · omega
    obtain ⟨a1, a2⟩ := h1
    refine a1.trans (ih a2 ?_)
    rw [a1.sd.2, a1.id.1]; exact hs
theorem Nx.tick (ho : Ok A R) (hs : R.st.g = R.sc.g) : Nx A R (mTick A R) := by
  obtain ⟨o1, _, _, _⟩ := ho.tick1 HA
  have n1 : Nx A R (tick1 A R) := by
    unfold Go.Proofs.YtignemioillaiaaGreat.tick1
    split
    · exact Nx.camp HA HN ho
    · exact Nx.refl R
  unfold mTick tick3
  have n2 : Nx A (tick1 A R) (tick2 A (tick1 A R)) := Nx.snd (MG.bal (.inl rfl) o1.sn.2.1) o1.pe
  have o2 : Ok A (tick2 A (tick1 A R)) := o1.snd _ _ _
  have n12 := n1.trans n2
  split
  · exact n1
  split
  · obtain ⟨n3, o3, e3⟩ := Nx.rem1 o2 (tick2 A (tick1 A R)).sc.next
    have n13 := n12.trans n3
    refine n13.trans (Nx.rem2 HN o3 ?_ _)
    rw [n13.sd.2, n13.id.1]; exact hs
  · exact n12
end
end
end Go.Proofs.YtignemioillaiaaGreat
