/- Every letter of a net, filled in. -/
import Derived.Test.YtignemioillaiaaGreatG52
namespace Go.Proofs.YtignemioillaiaaGreat
set_option maxHeartbeats 8000000
set_option maxRecDepth 100000
section
open Go Go.Conc
def rdBody (k : Nat) (l : List Nat) : MM × List Nat :=
  if k = 1 then rn rdReq l fun q l => ({ zMM k with q := q }, l)
  else if k = 2 then rn rdRep l fun p l => ({ zMM k with p := p }, l)
  else if k = 3 then rn rdBal l fun b l => ({ zMM k with b := b }, l)
  else if k = 5 then rn rdBal l fun b l => ({ zMM k with b := b }, l)
  else if k = 4 then rn rdBal l fun b l => rn (rdList rdVote) l fun vs l => ({ zMM k with b := b, vs := vs }, l)
  else if k = 6 then rn rdBal l fun b l => nx 4 l fun s l => rn rdCmd l fun c l => ({ zMM k with b := b, s := s, c := c }, l)
  else if k = 7 then rn rdBal l fun b l => nx 4 l fun s l => ({ zMM k with b := b, s := s }, l)
  else if k = 8 then nx 4 l fun s l => rn rdCmd l fun c l => ({ zMM k with s := s, c := c }, l)
  else if k = 9 then rn rdRg l fun r l => ({ zMM k with r := r }, l)
  else if k = 10 then nx 1 l fun p l => nx 4 l fun s l => ({ zMM k with peer := p, seq := s }, l)
  else (zMM k, l)
theorem rd_body {k : Nat} (hk : k < 256) (a : List Int) : rdMsg (dn ([(k : Int)] ++ a)) = rdBody k (dn a) := by
  rw [dn_app]
  exact nx1' (f := rdBody) hk
theorem body2 (l : List Nat) : rdBody 2 l = (rn rdRep l fun p l => ({ zMM ((2 : Nat) : Int) with p := p }, l)) := rfl
theorem body3 (l : List Nat) : rdBody 3 l = (rn rdBal l fun b l => ({ zMM ((3 : Nat) : Int) with b := b }, l)) := rfl
theorem body5 (l : List Nat) : rdBody 5 l = (rn rdBal l fun b l => ({ zMM ((5 : Nat) : Int) with b := b }, l)) := rfl
theorem body4 (l : List Nat) : rdBody 4 l = (rn rdBal l fun b l => rn (rdList rdVote) l fun vs l => ({ zMM ((4 : Nat) : Int) with b := b, vs := vs }, l)) := rfl
theorem body6 (l : List Nat) : rdBody 6 l = (rn rdBal l fun b l => nx 4 l fun s l => rn rdCmd l fun c l => ({ zMM ((6 : Nat) : Int) with b := b, s := s, c := c }, l)) := rfl
theorem body7 (l : List Nat) : rdBody 7 l = (rn rdBal l fun b l => nx 4 l fun s l => ({ zMM ((7 : Nat) : Int) with b := b, s := s }, l)) := rfl
theorem body8 (l : List Nat) : rdBody 8 l = (nx 4 l fun s l => rn rdCmd l fun c l => ({ zMM ((8 : Nat) : Int) with s := s, c := c }, l)) := rfl
theorem body9 (l : List Nat) : rdBody 9 l = (rn rdRg l fun r l => ({ zMM ((9 : Nat) : Int) with r := r }, l)) := rfl
theorem body10 (l : List Nat) : rdBody 10 l = (nx 1 l fun p l => nx 4 l fun s l => ({ zMM ((10 : Nat) : Int) with peer := p, seq := s }, l)) := rfl
theorem okM4 {m : MM} (h : okM m = true) (e : m.kind = 4) : votesB m.vs = true := by
  unfold okM at h
  rw [if_neg (by omega), if_neg (by omega), if_neg (by omega), if_neg (by omega), if_pos e, Bool.and_eq_true] at h
  exact h.1
theorem okM6 {m : MM} (h : okM m = true) (e : m.kind = 6) : okC m.c = true := by
  unfold okM at h
  rw [if_neg (by omega), if_neg (by omega), if_neg (by omega), if_neg (by omega), if_neg (by omega), if_pos e, Bool.and_eq_true] at h
  exact h.1
theorem okM8 {m : MM} (h : okM m = true) (e : m.kind = 8) : okC m.c = true := by
  unfold okM at h
  rw [if_neg (by omega), if_neg (by omega), if_neg (by omega), if_neg (by omega), if_neg (by omega), if_neg (by omega), if_neg (by omega), if_pos e, Bool.and_eq_true] at h
  exact h.1
theorem okM9 {m : MM} (h : okM m = true) (e : m.kind = 9) : okR m.r = true := by
  unfold okM at h
  rw [if_neg (by omega), if_neg (by omega), if_neg (by omega), if_neg (by omega), if_neg (by omega), if_neg (by omega), if_neg (by omega), if_neg (by omega), if_pos e, Bool.and_eq_true] at h
  exact h.1
theorem dn_end (a : List Int) : dn a = dn a ++ [] := (List.append_nil _).symm
theorem vote_c {l : List MV} (h : votesB l = true) : ∀ v ∈ l, okC v.c = true := fun v hv => by
  unfold votesB listB at h
  simp only [Bool.and_eq_true, decide_eq_true_eq] at h
  obtain ⟨i, hi, rfl⟩ := List.getElem_of_mem hv
  have := List.all_eq_true.1 h.2 i (List.mem_range.2 hi)
  unfold atL at this
  rw [List.getElem?_eq_getElem hi] at this
  simp only [Bool.and_eq_true] at this
  exact this.1
theorem mod_le' (n : Nat) : n % 4294967296 ≤ 4294967295 := by omega
def nb (b : Bal) : Bal := ⟨b.n % 4294967296, b.id % 256⟩
def nv (v : MV) : MV := ⟨v.slot % 4294967296, nb v.b, v.c⟩
def nrm (m : MM) : MM :=
  if m.kind = 3 then { zMM 3 with b := nb m.b }
  else if m.kind = 5 then { zMM 5 with b := nb m.b }
  else if m.kind = 4 then { zMM 4 with b := nb m.b, vs := m.vs.map nv }
  else if m.kind = 6 then { zMM 6 with b := nb m.b, s := m.s % 4294967296, c := m.c }
  else if m.kind = 7 then { zMM 7 with b := nb m.b, s := m.s % 4294967296 }
  else if m.kind = 8 then { zMM 8 with s := m.s % 4294967296, c := m.c }
  else if m.kind = 9 then { zMM 9 with r := m.r }
  else { zMM 10 with peer := m.peer, seq := m.seq }
theorem net_eq {N n : Nat} {m m' : MM} (h : MG (ApN N) n m) (hd : decM (encM m) = some m') : m.kind = 2 ∧ (∃ p, m' = { zMM 2 with p := p }) ∨ m' = nrm m ∧ 3 ≤ m.kind ∧ m.kind ≤ 10 := by
  obtain ⟨ok', e⟩ := dec_some hd
  unfold encM at e
  split at e
  case isFalse =>
    subst e
    exact absurd ok' (by decide)
  rename_i ok
  obtain ⟨_, k1, k10⟩ := okM_sm ok
  have kn := h.k1
  rw [dl_bstr] at e
  unfold eMsg at e
  obtain ⟨kd, q, p, b, s, c, vs, r, peer, seq⟩ := m
  have k1 : 1 ≤ kd := k1
  have k10 : kd ≤ 10 := k10
  have kn : kd ≠ 1 := kn
  rcases (by omega : kd = 2 ∨ kd = 3 ∨ kd = 4 ∨ kd = 5 ∨ kd = 6 ∨ kd = 7 ∨ kd = 8 ∨ kd = 9 ∨ kd = 10) with rfl | rfl | rfl | rfl | rfl | rfl | rfl | rfl | rfl
  · have e : (rdMsg (dn ([((2 : Nat) : Int)] ++ eRep p))).1 = m' := e
    rw [rd_body (by decide)] at e
    rw [body2] at e
    subst e
    exact .inl ⟨rfl, _, rfl⟩
  · have e : (rdMsg (dn ([((3 : Nat) : Int)] ++ eBal b.n b.id))).1 = m' := e
    rw [rd_body (by decide)] at e
    have e2 : rdBody 3 (dn (eBal b.n b.id)) = ({ zMM ((3 : Nat) : Int) with b := ⟨b.n % 4294967296, b.id % 256⟩ }, []) := by
      rw [dn_end]
      rw [body3, rn_eq (bal_back b.n b.id [])]
    rw [e2] at e
    subst e
    exact .inr ⟨rfl, by simp, by simp⟩
  · have e : (rdMsg (dn ([((4 : Nat) : Int)] ++ (eBal b.n b.id ++ ([(vs.length : Int)] ++ (vs.map eVote).flatten))))).1 = m' := e
    rw [rd_body (by decide)] at e
    have ov : votesB vs = true := by
      exact okM4 ok rfl
    obtain ⟨hv, hl⟩ := h.vs rfl
    have e2 : rdBody 4 (dn (eBal b.n b.id ++ ([(vs.length : Int)] ++ (vs.map eVote).flatten))) = ({ zMM ((4 : Nat) : Int) with b := ⟨b.n % 4294967296, b.id % 256⟩, vs := vs.map fun v => ⟨v.slot % 4294967296, ⟨v.b.n % 4294967296, v.b.id % 256⟩, v.c⟩ }, []) := by
      rw [dn_app, dn_end ([(vs.length : Int)] ++ _)]
      rw [body4, rn_eq (bal_back b.n b.id _)]
      exact rn_eq (list_back (e := eVote) (g := fun v => ⟨v.slot % 4294967296, ⟨v.b.n % 4294967296, v.b.id % 256⟩, v.c⟩) (fun v hv' => vote_back (hv v hv').1 (vote_c ov v hv')) (fun v => by simp [eVote, b32]) (Nat.le_trans hl (by decide)) []) _
    rw [e2] at e
    subst e
    exact .inr ⟨rfl, by simp, by simp⟩
  · have e : (rdMsg (dn ([((5 : Nat) : Int)] ++ eBal b.n b.id))).1 = m' := e
    rw [rd_body (by decide)] at e
    have e2 : rdBody 5 (dn (eBal b.n b.id)) = ({ zMM ((5 : Nat) : Int) with b := ⟨b.n % 4294967296, b.id % 256⟩ }, []) := by
      rw [dn_end]
      rw [body5, rn_eq (bal_back b.n b.id [])]
    rw [e2] at e
    subst e
    exact .inr ⟨rfl, by simp, by simp⟩
  · have e : (rdMsg (dn ([((6 : Nat) : Int)] ++ (eBal b.n b.id ++ b32 s ++ eCmd c)))).1 = m' := e
    rw [rd_body (by decide)] at e
    have oc : okC c = true := by
      exact okM6 ok rfl
    obtain ⟨hc, hs⟩ := h.acc rfl
    have e2 : rdBody 6 (dn (eBal b.n b.id ++ b32 s ++ eCmd c)) = ({ zMM ((6 : Nat) : Int) with b := ⟨b.n % 4294967296, b.id % 256⟩, s := s % 4294967296, c := c }, []) := by
      rw [dn_app, dn_app, dn_end (eCmd c), List.append_assoc]
      rw [body6, rn_eq (bal_back b.n b.id _), nx4, rn_eq (cmd_back hc oc [])]
    rw [e2] at e
    subst e
    exact .inr ⟨rfl, by simp, by simp⟩
  · have e : (rdMsg (dn ([((7 : Nat) : Int)] ++ (eBal b.n b.id ++ b32 s)))).1 = m' := e
    rw [rd_body (by decide)] at e
    have hs := h.acd rfl
    have e2 : rdBody 7 (dn (eBal b.n b.id ++ b32 s)) = ({ zMM ((7 : Nat) : Int) with b := ⟨b.n % 4294967296, b.id % 256⟩, s := s % 4294967296 }, []) := by
      rw [dn_app, dn_end (b32 s)]
      rw [body7, rn_eq (bal_back b.n b.id _), nx4]
    rw [e2] at e
    subst e
    exact .inr ⟨rfl, by simp, by simp⟩
  · have e : (rdMsg (dn ([((8 : Nat) : Int)] ++ (b32 s ++ eCmd c)))).1 = m' := e
    rw [rd_body (by decide)] at e
    have oc : okC c = true := by
      exact okM8 ok rfl
    obtain ⟨hc, hs⟩ := h.dec rfl
    have e2 : rdBody 8 (dn (b32 s ++ eCmd c)) = ({ zMM ((8 : Nat) : Int) with s := s % 4294967296, c := c }, []) := by
      rw [dn_app, dn_end (eCmd c)]
      rw [body8, nx4, rn_eq (cmd_back hc oc [])]
    rw [e2] at e
    subst e
    exact .inr ⟨rfl, by simp, by simp⟩
  · have e : (rdMsg (dn ([((9 : Nat) : Int)] ++ eRg r))).1 = m' := e
    rw [rd_body (by decide)] at e
    have orr : okR r = true := by
      exact okM9 ok rfl
    have hm := h.mov rfl
    have hg : GcN N (cRecv r) := hm.2.2.2
    have e2 : rdBody 9 (dn (eRg r)) = ({ zMM ((9 : Nat) : Int) with r := r }, []) := by
      rw [dn_end]
      rw [body9, rn_eq (rg_back (x := r) hg.r orr [])]
    rw [e2] at e
    subst e
    exact .inr ⟨rfl, by simp, by simp⟩
  · have e : (rdMsg (dn ([((10 : Nat) : Int)] ++ ([peer] ++ b32 seq)))).1 = m' := e
    rw [rd_body (by decide)] at e
    have hm := h.ack rfl
    have hg : GcN N (cSet peer seq) := hm.2.2
    obtain ⟨x, ex, hx⟩ := U8.nat (x := peer) hg.peer
    obtain ⟨y, ey, hy⟩ := U32.nat (x := seq) hg.seq
    have e2 : rdBody 10 (dn ([peer] ++ b32 seq)) = ({ zMM ((10 : Nat) : Int) with peer := peer, seq := seq }, []) := by
      rw [ex, ey, dn_app, dn_end (b32 _)]
      rw [body10, nx1' hx, nx4' hy]
    rw [e2] at e
    subst e
    exact .inr ⟨rfl, by simp, by simp⟩
theorem net_back {N n : Nat} {m m' : MM} (h : MG (ApN N) n m) (hd : decM (encM m) = some m') : MG (ApN N) n m' := by
  rcases net_eq h hd with ⟨_, p, rfl⟩ | ⟨rfl, k3, k10⟩
  · exact .tell p
  · obtain ⟨kd, q, p, b, s, c, vs, r, peer, seq⟩ := m
    unfold nrm
    dsimp only
    split
    · exact .bal (.inl rfl) (mod_le' _)
    split
    · exact .bal (.inr rfl) (mod_le' _)
    split
    · rename_i e
      obtain ⟨hv, hl⟩ := h.vs e
      exact .promise (mod_le' _) (fun v hv' => by obtain ⟨y, hy, rfl⟩ := List.mem_map.1 hv'; exact ⟨(hv y hy).1, Nat.lt_of_le_of_lt (Nat.mod_le _ _) (hv y hy).2⟩) (by rw [List.length_map]; exact hl)
    split
    · rename_i e; exact .accept (mod_le' _) (Nat.lt_of_le_of_lt (Nat.mod_le _ _) (h.acc e).2) (h.acc e).1
    split
    · rename_i e; exact .accepted (mod_le' _) (Nat.lt_of_le_of_lt (Nat.mod_le _ _) (h.acd e))
    split
    · rename_i e; exact .decide (Nat.lt_of_le_of_lt (Nat.mod_le _ _) (h.dec e).2) (h.dec e).1
    split
    · rename_i e; exact .move (h.mov e)
    · have k3 : 3 ≤ kd := k3
      have k10 : kd ≤ 10 := k10
      exact .acked (h.ack (show kd = 10 by omega))
theorem net_ok (N : Nat) : NetOK (ApN N) where
  lens := fun s h => by
    have h : GoodN N _ s := h
    have := h.ok.il
    have := h.ok.ol
    exact ⟨by omega, by omega, h.ok.n4⟩
  stay := fun s c _ _ => app_n s c
  bgn := fun g n _ _ => ⟨rfl, rfl⟩
  lane := fun s h o ho r hr => by
    have h : GoodN N _ s := h
    obtain ⟨h1, h2⟩ := (h.o o ho).2.2.2 r hr
    exact ⟨h1, by have := h2.seq.2; omega, GcN.recv h2 (by have := h.ok.gn; have := h.n; omega)⟩
  inn := fun s h x hx => by
    have h : GoodN N _ s := h
    have := h.i x hx
    have := h.k61
    omega
  gset := fun p s h1 h2 h3 h4 => GcN.setl ⟨h1, by omega⟩ ⟨h3, by omega⟩
  ask := fun d m h => by
    obtain ⟨h1, h2⟩ := dec_some h
    have := msg_b (dl_lt d)
    rw [h2] at this
    refine ⟨this.1, fun e => GcN.asks (this.2 e) ?_⟩
    unfold okM at h1
    rw [if_pos e, Bool.and_eq_true] at h1
    exact h1.1
  kind := fun d m h => (okM_sm (dec_some h).1).2
  rl := fun c h => by
    have h : GcN N c := h
    exact ⟨h.r.rl, h.r.dl⟩
  rc := fun s c h hc => (rep_c h hc).2
  back := fun n m m' h hd => net_back h hd
end
end Go.Proofs.YtignemioillaiaaGreat
