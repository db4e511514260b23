/- What was written is read back. -/
import Derived.Test.YtignemioillaiaaGreatG51
import Derived.Conc.Holds
namespace Go.Proofs.YtignemioillaiaaGreat
set_option maxHeartbeats 8000000
set_option maxRecDepth 100000
section
open Go Go.Conc
def dn (l : List Int) : List Nat := l.map fun n => n.toNat % 256
theorem dn_app (a b : List Int) : dn (a ++ b) = dn a ++ dn b := List.map_append
theorem bstr_data : ∀ (l : List Int) (r : ByteArray), (l.foldl (fun r n => r.push (UInt8.ofNat n.toNat)) r).data.toList = r.data.toList ++ l.map fun n => UInt8.ofNat n.toNat
  | [], r => by simp
  | a :: l, r => by rw [List.foldl_cons, bstr_data l]; simp
theorem dl_bstr (l : List Int) : dl (bstr l) = dn l := by
  unfold dl bstr dn
  rw [bstr_data]
  show List.map UInt8.toNat ([] ++ _) = _
  simp
theorem num_app {k : Nat} {a l : List Nat} (h : a.length = k) : num k (a ++ l) = (be a, l) := by
  rw [num_long (by simp; omega)]
  subst h
  simp
theorem be_app (b : List Nat) : ∀ (a : List Nat), be (a ++ b) = be a * 256 ^ b.length + be b := by
  suffices h : ∀ (b : List Nat) (n : Nat), b.foldl (fun n b => n * 256 + b) n = n * 256 ^ b.length + be b from fun a => by
    unfold be; rw [List.foldl_append, h]; rfl
  intro b
  induction b with
  | nil => intro n; simp [be]
  | cons x b ih =>
    intro n
    unfold be
    rw [List.foldl_cons, List.foldl_cons, ih, ih (0 * 256 + x), List.length_cons, Nat.pow_succ, Nat.add_mul, Nat.mul_assoc, Nat.mul_comm 256, Nat.zero_mul, Nat.zero_add, Nat.add_assoc]
theorem u8_wrap (x : Int) : IntKind.u8.wrap x = x % 256 := rfl
theorem u32_wrap (x : Int) : IntKind.u32.wrap x = x % 4294967296 := rfl
theorem fd {x : Int} {n : Nat} : x.fdiv ((2 : Int) ^ n) = x / 2 ^ n := Int.fdiv_eq_ediv_of_nonneg _ (by exact Int.le_of_lt (Int.pow_pos (by decide)))
theorem beB32 (x : Nat) : be (dn (b32 x)) = x % 4294967296 := by
  unfold b32
  rw [fd, fd, fd, u8_wrap, u8_wrap, u8_wrap, u8_wrap]
  simp only [dn, List.map_cons, List.map_nil, be, List.foldl_cons, List.foldl_nil]
  omega
theorem b32_mod {x : Int} (h : 0 ≤ x) : b32 x = b32 ((x.toNat : Nat) : Int) := by rw [Int.toNat_of_nonneg h]
theorem beB64 {x : Nat} (h : x < 18446744073709551616) : be (dn (b64 x)) = x := by
  unfold b64
  rw [dn_app, be_app, fd, u32_wrap, u32_wrap, b32_mod (x := (x : Int) / 2 ^ 32 % 4294967296) (by omega), b32_mod (x := (x : Int) % 4294967296) (by omega), beB32, beB32]
  show _ * 256 ^ 4 + _ = _
  omega
section
variable {β : Type} {x : Nat} {l : List Nat} {f : Nat → List Nat → β}
theorem nx1 : nx 1 (dn [(x : Int)] ++ l) f = f (x % 256) l := by
  rw [nx_eq (num_app (k := 1) rfl)]
  show f (0 * 256 + (x : Int).toNat % 256) l = _
  congr 1; omega
theorem nx1' (h : x < 256) : nx 1 (dn [(x : Int)] ++ l) f = f x l := by rw [nx1, Nat.mod_eq_of_lt h]
theorem nx4 : nx 4 (dn (b32 x) ++ l) f = f (x % 4294967296) l := by rw [nx_eq (num_app (k := 4) rfl), beB32]
theorem nx4' (h : x < 4294967296) : nx 4 (dn (b32 x) ++ l) f = f x l := by rw [nx4, Nat.mod_eq_of_lt h]
theorem nx8 (h : x < 18446744073709551616) : nx 8 (dn (b64 x) ++ l) f = f x l := by rw [nx_eq (num_app (k := 8) rfl), beB64 h]
end
theorem U8.nat {x : Int} (h : U8 x) : ∃ n : Nat, x = n ∧ n < 256 := ⟨x.toNat, by have := h.1; omega, by have := h.1; have := h.2; omega⟩
theorem U32.nat {x : Int} (h : U32 x) : ∃ n : Nat, x = n ∧ n < 4294967296 := ⟨x.toNat, by have := h.1; omega, by have := h.1; have := h.2; omega⟩
theorem U64.nat {x : Int} (h : U64 x) : ∃ n : Nat, x = n ∧ n < 18446744073709551616 := ⟨x.toNat, by have := h.1; omega, by have := h.1; have := h.2; omega⟩
theorem row_back {x : Row} (h : x.b) (l : List Nat) : rdRow (dn (eRow x) ++ l) = (x, l) := by
  obtain ⟨k, v⟩ := x
  obtain ⟨k, rfl, hk⟩ := U64.nat (h.k : U64 k)
  obtain ⟨v, rfl, hv⟩ := U64.nat (h.v : U64 v)
  unfold rdRow eRow
  rw [dn_app, List.append_assoc, nx8 hk, nx8 hv]
theorem rep_back {x : Rep} (h : x.b) (ho : okP x = true) (l : List Nat) : rdRep (dn (eRep x) ++ l) = (x, l) := by
  obtain ⟨c, s, key, k, fo, v, g⟩ := x
  obtain ⟨c, rfl, hc⟩ := U8.nat (h.c : U8 c)
  obtain ⟨s, rfl, hs⟩ := U32.nat (h.s : U32 s)
  obtain ⟨key, rfl, hkey⟩ := U64.nat (h.key : U64 key)
  obtain ⟨k, rfl, hk⟩ := U8.nat (h.k : U8 k)
  obtain ⟨v, rfl, hv⟩ := U64.nat (h.v : U64 v)
  obtain ⟨g, rfl, hg⟩ := U8.nat (h.g : U8 g)
  unfold okP at ho
  unfold rdRep eRep
  dsimp only at ho ⊢
  simp only [dn_app, List.append_assoc]
  rw [nx1' hc, nx4' hs, nx8 hkey, nx1' hk]
  by_cases k1 : k = 1
  · subst k1
    rw [if_pos rfl, if_pos (show ((1 : Nat) : Int) = 1 from rfl), dn_app]
    simp at ho
    cases fo with
    | true =>
      have e : eBool true = [((1 : Nat) : Int)] := rfl
      rw [e, if_pos rfl, List.append_assoc, nx1' (by decide), if_neg (by decide), nx8 hv]
      have : g = 0 := by omega
      subst this; rfl
    | false =>
      have e : eBool false = [((0 : Nat) : Int)] := rfl
      rw [e, if_neg (by decide), List.append_assoc, nx1' (by decide), if_pos rfl]
      have : g = 0 := by omega
      have : v = 0 := by simp at ho; omega
      subst g v; rfl
  · rw [if_neg k1, if_neg (show ¬ (k : Int) = 1 by omega)]
    by_cases k3 : k = 3
    · subst k3
      rw [if_pos rfl, if_pos (show ((3 : Nat) : Int) = 3 from rfl), nx1' hg]
      simp at ho
      have : v = 0 := by omega
      have : fo = false := ho.2.2.1
      subst v fo; rfl
    · rw [if_neg k3, if_neg (show ¬ (k : Int) = 3 by omega)]
      rw [if_neg (show ¬ (k : Int) = 1 by omega), if_neg (show ¬ (k : Int) = 3 by omega)] at ho
      simp only [Bool.and_eq_true] at ho
      have ho := ho.2
      split at ho
      · simp at ho
        have : v = 0 := by omega
        have : g = 0 := by omega
        have : fo = false := ho.1
        subst v g fo; rfl
      · cases ho
theorem req_back {x : Req} (h : x.b) (ho : okQ x = true) (l : List Nat) : rdReq (dn (eReq x) ++ l) = (x, l) := by
  obtain ⟨c, s, k, key, v, hi, to⟩ := x
  obtain ⟨c, rfl, hc⟩ := U8.nat (h.c : U8 c)
  obtain ⟨s, rfl, hs⟩ := U32.nat (h.s : U32 s)
  obtain ⟨key, rfl, hkey⟩ := U64.nat (h.key : U64 key)
  obtain ⟨k, rfl, hk⟩ := U8.nat (h.k : U8 k)
  obtain ⟨v, rfl, hv⟩ := U64.nat (h.v : U64 v)
  obtain ⟨hi, rfl, hhi⟩ := U64.nat (h.hi : U64 hi)
  obtain ⟨to, rfl, hto⟩ := U8.nat (h.to : U8 to)
  unfold okQ at ho
  unfold rdReq eReq
  dsimp only at ho ⊢
  simp only [dn_app, List.append_assoc]
  rw [nx1' hc, nx4' hs, nx1' hk, nx8 hkey]
  by_cases k2 : k = 2
  · subst k2
    rw [if_pos rfl, if_pos (show ((2 : Nat) : Int) = 2 from rfl), nx8 hv]
    simp at ho
    have : hi = 0 := by omega
    have : to = 0 := by omega
    subst hi to; rfl
  · rw [if_neg k2, if_neg (show ¬ (k : Int) = 2 by omega)]
    by_cases k4 : k = 4
    · subst k4
      rw [if_pos rfl, if_pos (show ((4 : Nat) : Int) = 4 from rfl), dn_app, List.append_assoc, nx8 hhi, nx1' hto]
      simp at ho
      have : v = 0 := by omega
      subst v; rfl
    · rw [if_neg k4, if_neg (show ¬ (k : Int) = 4 by omega)]
      simp only [Bool.and_eq_true] at ho
      have ho := ho.2
      split at ho
      · simp at ho
        have : hi = 0 := by omega
        have : to = 0 := by omega
        have : v = 0 := by omega
        subst hi to v; rfl
      · rw [if_neg (show ¬ (k : Int) = 2 by omega), if_neg (show ¬ (k : Int) = 4 by omega)] at ho
        cases ho
theorem rdL_back {α : Type} {f : List Nat → α × List Nat} {e : α → List Int} {g : α → α} : ∀ {xs : List α}, (∀ x ∈ xs, ∀ l, f (dn (e x) ++ l) = (g x, l)) → (∀ x, e x ≠ []) → ∀ l, rdL f xs.length (dn (xs.map e).flatten ++ l) = (xs.map g, l)
  | [], _, _, l => rfl
  | x :: xs, h, ne, l => by
    rw [List.map_cons, List.flatten_cons, dn_app, List.append_assoc, List.length_cons, rdL_more (h x (List.mem_cons_self) _) (fun c => ne x (by have := (List.append_eq_nil_iff.1 c).1; exact List.map_eq_nil_iff.1 this)), rdL_back (fun y hy => h y (List.mem_cons_of_mem _ hy)) ne l]
    rfl
theorem list_back {α : Type} {f : List Nat → α × List Nat} {e : α → List Int} {g : α → α} {xs : List α} (h : ∀ x ∈ xs, ∀ l, f (dn (e x) ++ l) = (g x, l)) (ne : ∀ x, e x ≠ []) (hl : xs.length ≤ 255) (l : List Nat) : rdList f (dn ([(xs.length : Int)] ++ (xs.map e).flatten) ++ l) = (xs.map g, l) := by
  unfold rdList
  rw [dn_app, List.append_assoc, nx1' (by omega), rdL_back h ne]
theorem rg_back {x : Rg} (h : x.b) (ho : okR x = true) (l : List Nat) : rdRg (dn (eRg x) ++ l) = (x, l) := by
  have sm := rowsB_sm ho
  have hp : ∀ p ∈ x.dups, okP p = true := fun p hp => by
    unfold okR dupsB listB at ho
    simp only [Bool.and_eq_true, decide_eq_true_eq] at ho
    obtain ⟨i, hi, rfl⟩ := List.getElem_of_mem hp
    have := List.all_eq_true.1 ho.2.2.2.2.2.2 i (List.mem_range.2 hi)
    unfold atL at this
    rw [List.getElem?_eq_getElem hi] at this
    simp only [Bool.and_eq_true] at this
    exact this.1.1
  obtain ⟨src, dst, seq, lo, hi, rows, dups⟩ := x
  have hrows : ∀ x ∈ rows, x.b := h.rows
  have hdups : ∀ x ∈ dups, x.b := h.dups
  have l1 : rows.length ≤ 255 := sm.1
  have l2 : dups.length ≤ 255 := sm.2
  obtain ⟨src, rfl, hsrc⟩ := U8.nat (h.src : U8 src)
  obtain ⟨dst, rfl, hdst⟩ := U8.nat (h.dst : U8 dst)
  obtain ⟨seq, rfl, hseq⟩ := U32.nat (h.seq : U32 seq)
  obtain ⟨lo, rfl, hlo⟩ := U64.nat (h.lo : U64 lo)
  obtain ⟨hi, rfl, hhi⟩ := U64.nat (h.hi : U64 hi)
  unfold rdRg eRg
  dsimp only
  rw [dn_app, dn_app, dn_app, dn_app, dn_app, dn_app]
  simp only [List.append_assoc]
  rw [nx1' hsrc, nx1' hdst, nx4' hseq, nx8 hlo, nx8 hhi, rn_eq (list_back (e := eRow) (g := id) (fun x hx => row_back (hrows x hx)) (fun x => by simp [eRow, b64, b32]) l1 _), rn_eq (list_back (e := eRep) (g := id) (fun x hx => rep_back (hdups x hx) (hp x hx)) (fun x => by simp [eRep]) l2 _)]
  simp
theorem noQ_z {q : Req} (h : noQ q = true) : q = zRq := by
  obtain ⟨c, s, k, key, v, hi, to⟩ := q
  unfold noQ at h
  simp at h
  obtain ⟨rfl, rfl, rfl, rfl, rfl, rfl, rfl⟩ := h
  rfl
theorem noR_z {r : Rg} (h : noR r = true) : r = zRg := by
  obtain ⟨src, dst, seq, lo, hi, rows, dups⟩ := r
  unfold noR at h
  simp at h
  obtain ⟨rfl, rfl, rfl, rfl, rfl, rfl, rfl⟩ := h
  rfl
theorem cmd_back {N : Nat} {c : MC} (h : GcN N c) (ho : okC c = true) (l : List Nat) : rdCmd (dn (eCmd c) ++ l) = (c, l) := by
  obtain ⟨k, q, r, p, s⟩ := c
  have hq : q.b := h.q
  have hr : r.b := h.r
  obtain ⟨k, rfl, hk⟩ := U8.nat (h.kind : U8 k)
  obtain ⟨p, rfl, hp⟩ := U8.nat (h.peer : U8 p)
  obtain ⟨s, rfl, hs⟩ := U32.nat (h.seq : U32 s)
  unfold okC noC at ho
  unfold rdCmd eCmd
  dsimp only at ho ⊢
  rw [dn_app, List.append_assoc, nx1' hk]
  by_cases k0 : k = 0
  · subst k0
    rw [if_pos (show ((0 : Nat) : Int) = 0 from rfl)] at ho
    simp only [Bool.and_eq_true, beq_iff_eq] at ho
    obtain ⟨h1, h2, h3, h4⟩ := ho
    have h3 : p = 0 := by omega
    have h4 : s = 0 := by omega
    rw [noQ_z h1, noR_z h2, h3, h4]
    rfl
  rw [if_neg (by omega)] at ho
  by_cases k1 : k = 1
  · subst k1
    rw [if_pos (show ((1 : Nat) : Int) = 1 from rfl)] at ho
    simp only [Bool.and_eq_true, beq_iff_eq] at ho
    obtain ⟨h1, h2, h3, h4⟩ := ho
    have h3 : p = 0 := by omega
    have h4 : s = 0 := by omega
    rw [if_pos rfl, if_pos (show ((1 : Nat) : Int) = 1 from rfl), rn_eq (req_back hq h1 l), noR_z h2, h3, h4]
    rfl
  rw [if_neg (by omega)] at ho
  rw [if_neg k1, if_neg (show ¬ (k : Int) = 1 by omega)]
  by_cases k2 : k = 2
  · subst k2
    rw [if_pos (show ((2 : Nat) : Int) = 2 from rfl)] at ho
    simp only [Bool.and_eq_true, beq_iff_eq] at ho
    obtain ⟨h1, h2, h3, h4⟩ := ho
    have h3 : p = 0 := by omega
    have h4 : s = 0 := by omega
    rw [if_pos rfl, if_pos (show ((2 : Nat) : Int) = 2 from rfl), rn_eq (rg_back hr h1 l), noQ_z h2, h3, h4]
    rfl
  rw [if_neg (by omega)] at ho
  rw [if_neg k2, if_neg (show ¬ (k : Int) = 2 by omega)]
  by_cases k3 : k = 3
  · subst k3
    rw [if_pos (show ((3 : Nat) : Int) = 3 from rfl)] at ho
    simp only [Bool.and_eq_true] at ho
    obtain ⟨h1, h2, h3⟩ := ho
    rw [if_pos rfl, if_pos (show ((3 : Nat) : Int) = 3 from rfl), dn_app, List.append_assoc, nx1' hp, nx4' hs, noQ_z h2, noR_z h3]
  rw [if_neg (by omega)] at ho
  cases ho
theorem bal_back (n i : Nat) (l : List Nat) : rdBal (dn (eBal n i) ++ l) = (⟨n % 4294967296, i % 256⟩, l) := by
  unfold rdBal eBal
  rw [dn_app, List.append_assoc, nx4, nx1]
theorem vote_back {N : Nat} {v : MV} (h : GcN N v.c) (ho : okC v.c = true) (l : List Nat) : rdVote (dn (eVote v) ++ l) = (⟨v.slot % 4294967296, ⟨v.b.n % 4294967296, v.b.id % 256⟩, v.c⟩, l) := by
  unfold rdVote eVote
  rw [dn_app, dn_app, List.append_assoc, List.append_assoc, nx4, rn_eq (bal_back _ _ _), rn_eq (cmd_back h ho l)]
def pickN (c : Int) (n : Nat) : Nat := (if c < 0 then (-c - 1).toNat else c.toNat) % n
theorem pickN_lt (c : Int) {n : Nat} (h : 0 < n) : pickN c n < n := Nat.mod_lt _ h
theorem tmod_nat (a : Nat) (n : Nat) : ((a : Int)).tmod n = ((a % n : Nat) : Int) := by
  rw [Int.tmod_eq_emod_of_nonneg (Int.natCast_nonneg _)]; omega
theorem pick_ok (w : World) (c : Int) (n : Nat) (hn : 0 < n) (h0 : -9223372036854775808 ≤ c) (h1 : c < 9223372036854775808) : CY 19 #[.int .i64 c, .int .i64 n] w (fun v w' => v = .int .i64 (pickN c n) ∧ w' = w) := by
  refine callE Tryz.func19 rfl rfl ?_
  refine spl (fun d => ?_) (fun d => ?_)
  · have d1 : c < 0 := of_decide_eq_true d
    refine ⟨by omega, by omega, by omega, ?_, rfl⟩
    unfold pickN
    rw [if_pos d1, show (0 - (c + 1) : Int) = ((-c - 1).toNat : Int) by omega, tmod_nat]
  · have d1 : ¬ c < 0 := of_decide_eq_false d
    refine ⟨by omega, ?_, rfl⟩
    unfold pickN
    rw [if_neg d1, show c = (c.toNat : Int) by omega, tmod_nat, Int.toNat_natCast]

theorem Clu.send_n (C : Clu) (g i : Nat) (d : ByteArray) : (C.send g i d).n = C.n ∧ (C.send g i d).sz = C.sz := by unfold Clu.send; split <;> exact ⟨rfl, rfl⟩
theorem Clu.deliv_n (A : Apl) (C : Clu) (k : Int) : (C.deliv A k).n = C.n ∧ (C.deliv A k).sz = C.sz := by
  unfold Clu.deliv
  split
  · unfold Clu.deliver
    split
    · exact ⟨rfl, rfl⟩
    · split <;> exact ⟨rfl, rfl⟩
  · exact ⟨rfl, rfl⟩
theorem Clu.tick_n (A : Apl) (C : Clu) (g i : Nat) : (C.tick A g i).n = C.n ∧ (C.tick A g i).sz = C.sz := by unfold Clu.tick; split <;> exact ⟨rfl, rfl⟩
theorem Clu.crash_n (A : Apl) (C : Clu) (g i : Nat) : (C.crash A g i).n = C.n ∧ (C.crash A g i).sz = C.sz := by unfold Clu.crash; split <;> exact ⟨rfl, rfl⟩


def I64 (x : Int) : Prop := -9223372036854775808 ≤ x ∧ x < 9223372036854775808


/-- From here the run ends well. -/
def EndK (P : Program) (Post : Value → World → Prop) (m : Machine) (t : Trace) : Prop := ∃ N last o w' t', runNT P (N + 1) m t = (.ended o w', t') ∧ runN P N m = .next last ∧ Go.step P last = .ended o w' ∧ Go.Conc.Good P Post last o w' t'
theorem runN_go {P : Program} {i k : Nat} {m m' last : Machine} {t t' : Trace} (h : runNT P i m t = (.next m', t')) (h2 : runN P k m' = .next last) : runN P (i + k) m = .next last := by
  rw [← runNT_fst _ _ _ t, runNT_more i k h, runNT_fst, h2]
theorem endK_of {P : Program} {Post : Value → World → Prop} {m : Machine} {t : Trace} (h : Reaches P (EndK P Post) m t) : EndK P Post m t := by
  obtain ⟨i, m', t', h1, N, last, o, w', t2, h2, h3, h4, h5⟩ := h
  exact ⟨i + N, last, o, w', t2, (runNT_more i (N + 1) h1).trans h2, runN_go h1 h3, h4, h5⟩
theorem ends_XR {P : Program} {Post : Value → World → Prop} {g : Goroutine} {w : World} (hr : g.status = .running) {v : Value} (hs : ∀ w, stepG P true g w = .ended (.done v) w #[]) (hp : ∀ w₁, SameW w w₁ → Post v w₁) : XR P (EndK P Post) g w := by
  intro w₁ h1 gs sl t q h0 hL hP
  obtain ⟨B, hP⟩ := hP
  refine Reaches.here (beside_ends (n := 0) (D := fun _ _ _ => False) (fun _ _ _ h => h.elim) h0 hL.leavers hP (Goes.stop fun w₂ h2 => ⟨hr, v, #[], hs w₂, by simp, hp w₂ (sameW_trans _ _ _ h1 (sameW_at h2))⟩))
theorem start_XR {P : Program} {Post : Value → World → Prop} {g : Goroutine} {w : World} (h : XR P (EndK P Post) g w) : EndK P Post (crowd #[g] w none) #[] :=
  endK_of (h w (sameW_refl w) #[g] none #[] (fun _ => 0) rfl ⟨fun i x hi hx => absurd ((Array.getElem?_eq_some_iff.1 hx).1) (by simp; omega), fun _ _ => rfl⟩ ⟨0, past_nil⟩)
theorem step_last {P : Program} {fr : Frame} {w : World} {v : Value} {t : Tmp} {fn : Func} (hfn : P.funcs[fr.fn]? = some fn) (hin : P.inits.idxOf? fr.fn = none) (hres : fn.results = #[.tmp t]) (hl : fr.leaving P w (.returned v)) (w₁ : World) : stepG P true (G fr []) w₁ = .ended (.done v) w₁ #[] := by
  obtain ⟨hm, hd, hk, fn', hfn', hr⟩ := hl
  obtain rfl : fn' = fn := Option.some.inj (hfn'.symm.trans hfn)
  generalize hu : fr.tmps.getD t undef = u
  have e : results fn' fr.tmps = (pure u : Sem Value) := by rw [← hu]; simp [results, hres]
  rw [e] at hr
  have hr2 : (Result.ok u w : Result Value) = .ok v w := hr
  injection hr2 with hv _
  subst hv
  have e2 : Sem.runT P (pure u : Sem Value) w₁ #[] = (.ok u w₁, #[]) := rfl
  simp only [G, stepG, unwind, doReturn, hm, hd, hk, hfn, e, e2, hin, seen_none]
  rfl

def ApN (N : Nat) : Apl := ⟨N, encM, appS, bgS, decM, GoodN N, GcN N⟩
section
variable {N k : Nat} {s : St} {c : MC}
theorem map_len {m : List Pc} (h : mapOk m = true) : m.length ≤ 1000 := by
  unfold mapOk at h
  simp only [Bool.and_eq_true, decide_eq_true_eq] at h
  exact h.1.1.2
theorem GoodN.b2 (h : GoodN N k s) : StB2 s := by
  have := h.k61
  exact ⟨by have := h.t; omega, by have := h.d; omega, fun o ho => by
    obtain ⟨a, b, c, _⟩ := h.o o ho
    exact ⟨by omega, by omega, by omega⟩⟩
theorem GoodN.ss (h : GoodN N k s) : StS s := by
  have := h.k61
  have := h.ok.ol
  have := h.ok.il
  have := h.ok.n4
  exact ⟨by have := h.t; omega, by have := h.d; omega, map_len h.ok.mok, by omega, by omega, fun o ho => by
    obtain ⟨a, b, c, d⟩ := h.o o ho
    exact ⟨by omega, fun r hr => ⟨by have := (d r hr).2.rl; omega, by have := (d r hr).2.dl; omega⟩⟩⟩
theorem rep_c (h : GoodN N k s) (hc : GcN N c) : U8 (appS s c).2.c := by
  have z8 : U8 0 := ⟨Int.le_refl 0, by decide⟩
  have hd : U8 (doP s c.q).c := (doP_b h.tb hc.q).c
  unfold appS
  split
  · unfold askS
    split
    · exact z8
    split
    · exact hc.q.c
    split
    · split
      · rename_i x hx
        split
        · exact hd
        · split
          · exact (h.db x (List.mem_of_getElem? hx)).c
          · exact hc.q.c
      · exact z8
    · exact hd
  · split
    · exact z8
    · split <;> exact z8
theorem do_n (s : St) (q : Req) : (doS s q).n = s.n ∧ (doS s q).g = s.g := by
  unfold doS
  split
  · exact ⟨rfl, rfl⟩
  split
  · exact ⟨rfl, rfl⟩
  split <;> exact ⟨rfl, rfl⟩
theorem app_n (s : St) (c : MC) : (appS s c).1.n = s.n ∧ (appS s c).1.g = s.g := by
  unfold appS
  split
  · unfold askS
    split
    · exact ⟨rfl, rfl⟩
    split
    · exact ⟨rfl, rfl⟩
    split
    · split
      · split
        · exact do_n _ _
        · split <;> exact ⟨rfl, rfl⟩
      · exact ⟨rfl, rfl⟩
    · exact do_n _ _
  split
  · unfold recS
    split <;> exact ⟨rfl, rfl⟩
  split
  · unfold setS
    split <;> exact ⟨rfl, rfl⟩
  · exact ⟨rfl, rfl⟩
theorem u8z : U8 0 := ⟨Int.le_refl 0, by decide⟩
theorem u32z : U32 0 := ⟨Int.le_refl 0, by decide⟩
theorem u64z : U64 0 := ⟨Int.le_refl 0, by decide⟩
theorem zRq_b : zRq.b := ⟨u8z, u32z, u8z, u64z, u64z, u64z, u8z⟩
theorem zRg_b : zRg.b := ⟨u8z, u8z, u32z, u64z, u64z, nofun, nofun, Nat.zero_le _, Nat.zero_le _⟩
theorem GcN.zero (N : Nat) : GcN N zMC := ⟨u8z, zRq_b, zRg_b, u8z, u32z, nofun, nofun⟩
theorem GcN.recv {r : Rg} (h : r.b) (hs : r.src < N) : GcN N (cRecv r) := ⟨⟨by show (0 : Int) ≤ 2; decide, by show (2 : Int) < 256; decide⟩, zRq_b, h, u8z, u32z, fun _ => hs, fun e => absurd (show (2 : Int) = 1 from e) (by decide)⟩
theorem GcN.setl {p q : Int} (hp : U8 p) (hq : U32 q) : GcN N (cSet p q) := ⟨⟨by show (0 : Int) ≤ 3; decide, by show (3 : Int) < 256; decide⟩, zRq_b, zRg_b, hp, hq, fun e => absurd (show (3 : Int) = 2 from e) (by decide), fun e => absurd (show (3 : Int) = 1 from e) (by decide)⟩
theorem GcN.asks {q : Req} (h : q.b) (ho : okQ q = true) : GcN N (cAsk q) := ⟨⟨by show (0 : Int) ≤ 1; decide, by show (1 : Int) < 256; decide⟩, h, zRg_b, u8z, u32z, fun e => absurd (show (1 : Int) = 2 from e) (by decide), fun _ => ho⟩
end
theorem bg_good {g N : Nat} (hg : g < N) (hN : N ≤ 4) : GoodN N 0 (bgS g N) := by
  refine ⟨by decide, ⟨by show (0 : Int) ≤ g; omega, by show (g : Int) < N; omega, by show (N : Int) ≤ 4; omega, List.Pairwise.nil, List.Pairwise.nil, (by decide : mapOk [⟨0, 0⟩] = true), ⟨rfl, by decide, by decide, trivial⟩, by show ((List.replicate N _).length : Int) = _; rw [List.length_replicate]; rfl, by show ((List.replicate N _).length : Int) = _; rw [List.length_replicate]; rfl⟩, rfl, Nat.le_refl 0, nofun, Nat.le_refl 0, nofun, fun o ho => ?_, fun x hx => ?_⟩
  · rw [(List.mem_replicate.1 ho).2]
    exact ⟨by decide, by decide, by decide, nofun⟩
  · rw [(List.mem_replicate.1 hx).2]
    exact ⟨by decide, by decide⟩
theorem apl_ok (N : Nat) : AplOK (ApN N) where
  marsh := fun w v m h => CallsY.mono' (marshal_ok h) fun v' w' ⟨e, g⟩ => ⟨⟨_, e⟩, g⟩
  call := fun w s c vT vM vD vO vI cv h hg hc hcc => by
    have hg : GoodN N _ s := hg
    have hcc : GcN N c := hcc
    have := hg.k61
    have hq := hcc.q
    have hr := hcc.r
    exact apply_ok h hg.ok hg.b2 hg.ss (fun x hx => by have := hg.i x hx; omega) hc ⟨⟨hq.key.1, by have := hq.key.2; omega⟩, ⟨hq.hi.1, by have := hq.hi.2; omega⟩, hq.to.1⟩ ⟨hr.src.1, hr.lo.1, by have := hr.hi.2; omega⟩ hcc.peer.1
  good' := fun s c hk h hc => GoodN.app h hk hc
  rep := fun s c h hc => (rep_c h hc).1
  src := fun s c h hc h2 => by
    have h : GoodN N _ s := h
    have hc : GcN N c := hc
    have h3 := hc.src h2
    have h4 := hc.r.src.1
    have h5 := h.ok.il
    have h6 := h.n
    exact ⟨h4, by omega⟩
  nop := GcN.zero N
  parse := parse_ok
  beg := fun w g n hg hn => begin_ok w hg hn
  bgood := fun g n e hg hn => by
    have e : n = N := e
    subst e
    exact bg_good hg hn
  dl := fun s h => by
    have h : GoodN N _ s := h
    have := h.k61
    have := h.d
    omega
  ol := fun s h => by
    have h : GoodN N _ s := h
    have := h.ok.ol
    have := h.ok.n4
    omega
  inn := fun s h i x hx => by
    have h : GoodN N _ s := h
    exact (h.i x (List.mem_of_getElem? hx)).1
/- What is read is bounded. -/
theorem nx_all {β : Type} {k : Nat} {l : List Nat} {f : Nat → List Nat → β} {P : β → Prop} (hl : ∀ x ∈ l, x < 256) (h : ∀ x l', x < 256 ^ k → (∀ y ∈ l', y < 256) → P (f x l')) : P (nx k l f) := h _ _ (num_lt hl) (num_rest hl)
theorem n8 {x : Nat} (h : x < 256 ^ 1) : U8 x := ⟨by omega, by omega⟩
theorem n32 {x : Nat} (h : x < 256 ^ 4) : U32 x := ⟨by omega, by omega⟩
theorem n64 {x : Nat} (h : x < 256 ^ 8) : U64 x := ⟨by omega, by omega⟩
theorem req_b {l : List Nat} (hl : ∀ x ∈ l, x < 256) : (rdReq l).1.b := by
  unfold rdReq
  refine nx_all (P := fun z : Req × List Nat => z.1.b) hl fun c l hc hl => nx_all (P := fun z : Req × List Nat => z.1.b) hl fun s l hs hl => nx_all (P := fun z : Req × List Nat => z.1.b) hl fun k l hk hl => nx_all (P := fun z : Req × List Nat => z.1.b) hl fun key l hkey hl => ?_
  split
  · exact nx_all (P := fun z : Req × List Nat => z.1.b) hl fun v l hv hl => ⟨n8 hc, n32 hs, n8 hk, n64 hkey, n64 hv, u64z, u8z⟩
  split
  · exact nx_all (P := fun z : Req × List Nat => z.1.b) hl fun hi l hhi hl => nx_all (P := fun z : Req × List Nat => z.1.b) hl fun to l hto hl => ⟨n8 hc, n32 hs, n8 hk, n64 hkey, u64z, n64 hhi, n8 hto⟩
  · exact ⟨n8 hc, n32 hs, n8 hk, n64 hkey, u64z, u64z, u8z⟩
theorem bal_b {l : List Nat} (hl : ∀ x ∈ l, x < 256) : (rdBal l).1.n ≤ 4294967295 := by
  unfold rdBal
  refine nx_all (P := fun z : Bal × List Nat => z.1.n ≤ 4294967295) hl fun n l hn hl => ?_
  show n ≤ 4294967295
  omega
theorem msg_b {l : List Nat} (hl : ∀ x ∈ l, x < 256) : (rdMsg l).1.b.n ≤ 4294967295 ∧ ((rdMsg l).1.kind = 1 → (rdMsg l).1.q.b) := by
  unfold rdMsg
  refine nx_all (P := fun z : MM × List Nat => z.1.b.n ≤ 4294967295 ∧ (z.1.kind = 1 → z.1.q.b)) hl fun k l hk hl => ?_
  by_cases h : k = 1
  · rw [if_pos h]
    exact ⟨Nat.zero_le _, fun _ => req_b hl⟩
  rw [if_neg h]
  have hb := bal_b hl
  have no : (zMM (k : Int)).kind = 1 → False := fun e => h (by have : (k : Int) = 1 := e; omega)
  split
  · exact ⟨Nat.zero_le _, fun e => (no e).elim⟩
  split
  · exact ⟨hb, fun e => (no e).elim⟩
  split
  · exact ⟨hb, fun e => (no e).elim⟩
  split
  · exact ⟨hb, fun e => (no e).elim⟩
  split
  · exact ⟨hb, fun e => (no e).elim⟩
  split
  · exact ⟨hb, fun e => (no e).elim⟩
  split
  · exact ⟨Nat.zero_le _, fun e => (no e).elim⟩
  split
  · exact ⟨Nat.zero_le _, fun e => (no e).elim⟩
  split
  · exact ⟨Nat.zero_le _, fun e => (no e).elim⟩
  · exact ⟨Nat.zero_le _, fun e => (no e).elim⟩
theorem dec_some {d : ByteArray} {m : MM} (h : decM d = some m) : okM m = true ∧ (rdMsg (dl d)).1 = m := by
  unfold decM at h
  split at h
  · rename_i c
    injection h with h
    subst h
    exact ⟨c.1, rfl⟩
  · cases h
end
end Go.Proofs.YtignemioillaiaaGreat
