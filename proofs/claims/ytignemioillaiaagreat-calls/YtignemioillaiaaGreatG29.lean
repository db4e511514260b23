/- A replica at work (14): same, holds, offer. -/
import Derived.Test.YtignemioillaiaaGreatG28
namespace Go.Proofs.YtignemioillaiaaGreat
set_option maxHeartbeats 8000000
set_option maxRecDepth 100000
section
open Go Go.Conc
def qSame (a b : Req) : Bool := a.c == b.c && (a.s == b.s && (a.k == b.k && (a.key == b.key && (a.v == b.v && (a.hi == b.hi && (a.to == b.to && true))))))
def mSame (a b : MC) : Bool := a.kind == b.kind && (qSame a.q b.q && (a.r.src == b.r.src && (a.r.seq == b.r.seq && (a.peer == b.peer && a.seq == b.seq))))
theorem same_ok (w : World) (a b : MC) (rv dv rv' dv' : Value) : CY 228 #[.agg (mcC a rv dv).toArray, .agg (mcC b rv' dv').toArray] w (fun v w' => v = .bool (mSame a b) ∧ GB none w w') := by
  refine callE Tryz.func228 rfl rfl ?_
  intro w1 b1 m1 g1 l1 w2 b2 m2 g2 l2
  have m1 := g2.get m1 nofun
  have gg : GB none w w2 := g1.trans g2
  refine ⟨_, _, m1, _, rfl, _, _, m2, _, rfl, spl (fun c => ?_) (fun c => ?_)⟩
  · have c1 : (a.kind == b.kind) = true := eq_of_beq c
    refine ⟨_, _, m1, _, rfl, rfl, _, _, m2, _, rfl, rfl, spl (fun c => ?_) (fun c => ?_)⟩
    · have c2 : qSame a.q b.q = true := eq_of_beq c
      refine ⟨_, _, m1, _, rfl, _, _, m2, _, rfl, spl (fun c => ?_) (fun c => ?_)⟩
      · have c3 : (a.r.src == b.r.src) = true := eq_of_beq c
        refine ⟨_, _, m1, _, rfl, _, _, m2, _, rfl, spl (fun c => ?_) (fun c => ?_)⟩
        · have c4 : (a.r.seq == b.r.seq) = true := eq_of_beq c
          refine ⟨_, _, m1, _, rfl, _, _, m2, _, rfl, spl (fun c => ?_) (fun c => ?_)⟩
          · have c5 : (a.peer == b.peer) = true := eq_of_beq c
            exact ⟨_, _, m1, _, rfl, _, _, m2, _, rfl, vb (by unfold mSame; rw [c1, c2, c3, c4, c5]; rfl), gg⟩
          · have c5 : (a.peer == b.peer) = false := by simpa using c
            exact ⟨vb (by unfold mSame; rw [c1, c2, c3, c4, c5]; rfl), gg⟩
        · have c4 : (a.r.seq == b.r.seq) = false := by simpa using c
          exact ⟨vb (by unfold mSame; rw [c1, c2, c3, c4]; rfl), gg⟩
      · have c3 : (a.r.src == b.r.src) = false := by simpa using c
        exact ⟨vb (by unfold mSame; rw [c1, c2, c3]; rfl), gg⟩
    · have c2 : qSame a.q b.q = false := by cases h : qSame a.q b.q; rfl; unfold qSame at h; rw [h] at c; cases c
      exact ⟨vb (by unfold mSame; rw [c1, c2]; rfl), gg⟩
  · have c1 : (a.kind == b.kind) = false := by simpa using c
    exact ⟨vb (by unfold mSame; rw [c1]; rfl), gg⟩
theorem GB.new {w0 w w' : World} {x : Nat} (h : GB none w0 w) (k : GB (some x) w w') (hx : w0.heap.size ≤ x) : GB none w0 w' :=
  ⟨k.os.trans h.os, k.out.trans h.out, Nat.le_trans h.size k.size, fun y hy _ => (k.block y (Nat.lt_of_lt_of_le hy h.size) (fun e => by cases e; omega)).trans (h.block y hy nofun)⟩
def mHolds (g : Nat → Option MC) (c : MC) : Bool := (List.range 60).any fun k => match g k with
  | some d => mSame d c
  | none => false
theorem mHolds_iff {g : Nat → Option MC} {c : MC} (hk : ∀ k d, g k = some d → k < 60) : mHolds g c = true ↔ ∃ k d, g k = some d ∧ mSame d c = true := by
  unfold mHolds
  rw [List.any_eq_true]
  constructor
  · rintro ⟨k, _, h⟩
    cases hg : g k with
    | none => rw [hg] at h; cases h
    | some d => rw [hg] at h; exact ⟨k, d, hg, h⟩
  · rintro ⟨k, d, hg, h⟩
    exact ⟨k, List.mem_range.2 (hk k d hg), by rw [hg]; exact h⟩
theorem mem_erase {α : Type} {l : List α} {i : Nat} {x y : α} (hx : x ∈ l) (hy : l[i]? = some y) (hn : x ≠ y) : x ∈ l.eraseIdx i := by
  rw [List.mem_eraseIdx_iff_getElem?]
  obtain ⟨j, hj⟩ := List.mem_iff_getElem?.1 hx
  exact ⟨j, fun e => hn (by subst e; rw [hj] at hy; exact Option.some.inj hy), hj⟩
theorem holds_ok {w : World} {m : Nat} {g : Nat → Option MC} (hg : MapG CIn w m g) (hk : ∀ k d, g k = some d → k < 60) {c : MC} {cv : Value} (hc : CIn w cv c) : CY 201 #[.map (some m), cv] w (fun v w' => v = .bool (mHolds g c) ∧ GB none w w') := by
  obtain ⟨rv, dv, rfl, hr⟩ := hc
  refine callE Tryz.func201 rfl rfl ?_
  intro w1 b1 m1 g1 l1
  obtain ⟨f, ⟨l, hl, hlf⟩, e2, e3⟩ := hg
  refine ⟨l, hl.keep (g1.block _ (MapF.lt ⟨l, hl, hlf⟩) nofun), fun w2 it i2 g2 l2 => ?_⟩
  have hn : (l.map Prod.fst).Nodup := by obtain ⟨_, _, _, _, _, _, _, _, _, _, _, _, _, h, _⟩ := i2; exact h
  have hmem : ∀ p ∈ l, ∃ (k : Nat) (d : MC), p.1 = k ∧ g k = some d ∧ CIn w p.2 d := by
    intro p hp
    have h1 : f p.1 = some p.2 := by rw [← hlf]; exact (lookL_iff hn).2 hp
    obtain ⟨k, hk⟩ : ∃ k : Nat, p.1 = k := by
      rcases (by omega : p.1 < 0 ∨ 0 ≤ p.1) with h0 | h0
      · rw [e2 _ h0] at h1; cases h1
      · exact ⟨p.1.toNat, by omega⟩
    rw [hk] at h1
    rcases mapG_at e3 k with ⟨n1, n2⟩ | ⟨x, v, n1, n2, n3⟩
    · rw [n2] at h1; cases h1
    · rw [n2] at h1; cases h1; exact ⟨k, x, hk, n1, n3⟩
  refine ⟨fun n s w' => ∃ (todo : List (Int × Value)) (cur : Option (Int × Value)), n = todo.length ∧ s = [(0, .map (some m)), (3, .pointer (some ⟨b1, 0, none⟩)), (8, .pointer (some ⟨it, 0, none⟩))] ∧ ItE w' it m l todo cur ∧ GB none w w' ∧ Hl w' b1 (mcC c rv dv) 54 ∧ (∀ p ∈ todo, p ∈ l) ∧ ∀ k d, g k = some d → mSame d c = true → ∃ v, ((k : Int), v) ∈ todo, ⟨_, _, ⟨l, none, rfl, rfl, i2, g1.trans g2, g2.get m1 nofun, fun _ h => h, ?_⟩, sb rfl⟩, ?_⟩
  · intro k d hgk _
    rcases mapG_at e3 k with ⟨n1, n2⟩ | ⟨x, v, n1, n2, n3⟩
    · rw [n1] at hgk; cases hgk
    · exact ⟨v, (lookL_iff hn).1 (by rw [hlf]; exact n2)⟩
  rintro n s w3 ⟨todo, cur, rfl, rfl, i3, g3, m3, hsub, hinv⟩
  refine ⟨m, l, todo, cur, i3, fun h0 => ?_, ?_⟩
  · subst h0
    have : mHolds g c = false := by
      cases h : mHolds g c with
      | false => rfl
      | true => obtain ⟨k, d, h1, h2⟩ := (mHolds_iff hk).1 h; obtain ⟨v, hv⟩ := hinv k d h1 h2; cases hv
    rw [this]
    exact ⟨rfl, g3⟩
  · rintro i ⟨pk, pv⟩ w4 hi i4 g4
    obtain ⟨k, d, rfl, hgk, rv', dv', rfl, hr'⟩ := hmem _ (hsub _ (List.mem_of_getElem? hi))
    obtain ⟨ra, rn, rc, da, dn, dc, rfl, rfl⟩ := hr'.sl
    refine ⟨m, l, _, _, i4, fun w5 b5 m5 g5 l5 => ⟨_, _, _, m5, rfl, rfl, fun w6 m6 g6 => ?_⟩⟩
    have hit : it < w3.heap.size := by obtain ⟨_, _, _, _, _, _, _, _, _, _, _, h, _⟩ := i3; exact lt_heap h
    have g46 : GB none w4 w6 := g5.new g6 l5
    have g34 : GB none w w4 := g3.new g4 (Nat.le_trans (g1.size) l2)
    have hb1 : b1 < w1.heap.size := lt_heap m1
    have m4 : w4.heap[b1]? = _ := g4.get m3 fun e => by cases e; omega
    have g6' := g34.trans g46
    refine ⟨_, _, m6, mcC d (.slice ra rn rc) (.slice da dn dc), rfl, rfl, _, _, g46.get m4 nofun, _, rfl, rfl, _, same_ok w6 d c _ _ _ _, ?_⟩
    rintro _ w7 ⟨rfl, g7⟩
    refine spl (fun e => ?_) (fun e => ?_)
    · have e1 : mSame d c = true := e
      have : mHolds g c = true := (mHolds_iff hk).2 ⟨k, d, hgk, e1⟩
      rw [this]
      exact ⟨rfl, g6'.trans g7⟩
    · have e1 : mSame d c = false := e
      have hil : i < todo.length := (List.getElem?_eq_some_iff.1 hi).1
      refine ⟨_, _, ⟨todo.eraseIdx i, _, rfl, rfl, i4.keep ((g46.trans g7).block _ (Nat.lt_of_lt_of_le hit g4.size) nofun) ((g46.trans g7).block _ (Nat.lt_of_lt_of_le (MapF.lt ⟨l, i3.map, hlf⟩) g4.size) nofun), g6'.trans g7, (g46.trans g7).get m4 nofun, fun p hp => hsub p (List.mem_of_mem_eraseIdx hp), ?_⟩, (sb rfl), ?_⟩
      · intro k' d' h1 h2
        obtain ⟨v, hv⟩ := hinv k' d' h1 h2
        refine ⟨v, mem_erase hv hi fun e => ?_⟩
        have e' : (k' : Int) = k := congrArg Prod.fst e
        obtain rfl : k' = k := by omega
        rw [hgk] at h1
        cases h1
        rw [e1] at h2
        cases h2
      · rw [List.length_eraseIdx, if_pos hil]; omega
theorem Put.kz {w w1 : World} {v v1 : Value} {n : Nat} {xs : List Value} {a : List Int} (h : Put w v n xs a v1 w1) (ho : w.ownsRow 0 5 1 v n xs) : Kz w w1 := fun t ht b c hb => h.get ho hb fun e => by subst e; revert ht; decide
theorem flat_len {α : Type} {g : α → List Int} {L : Nat} : ∀ {l : List α}, (∀ x ∈ l, (g x).length ≤ L) → (l.map g).flatten.length ≤ l.length * L
  | [], _ => by simp
  | x :: l, h => by
    have h1 := h x List.mem_cons_self
    have h2 := flat_len (l := l) fun y hy => h y (List.mem_cons_of_mem _ hy)
    simp only [List.map_cons, List.flatten_cons, List.length_append, List.length_cons, Nat.succ_mul]
    omega
theorem take_next {α β : Type} (g : α → List β) {l : List α} {k : Nat} {x : α} (h : l[k]? = some x) : ((l.take (k + 1)).map g).flatten = ((l.take k).map g).flatten ++ g x := by
  rw [List.take_add_one, h]; simp
theorem fz_at_ {α : Type} {l : List α} {i : Nat} {y : α} {f : α → List Value} {k : Nat} {cs : Array Value} {off : Nat} (hcut : cutL cs.toList off (l.length * k) = (l.map f).flatten) (hy : l[i]? = some y) (hf : ∀ x, (f x).length = k) : cutL cs.toList (off + (i : Int).toNat * k) k = f y := by
  rw [Int.toNat_natCast]
  exact (Fz.elem hcut (List.getElem?_eq_some_iff.1 hy).1).trans (by rw [← List.flatMap_def]; exact elemL hf l i y hy)
abbrev PutL (α : Type) (f : α → List Value) (T k F G : Nat) : Prop := ∀ {kv : Value} (_ : kv = .func (.func G) #[] #[]) {w : World} {v lv : Value} {n B L : Nat} {xs : List Value} {els : List α} {g : α → List Int} (_ : Fz w T k lv els.length (els.map f).flatten) (_ : ∀ x ∈ els, ∀ (w' : World) (v' : Value) (n' : Nat) (xs' : List Value), Kz w w' → w'.ownsRow 0 5 1 v' n' xs' → n' ≤ B → CY G #[v', .agg (f x).toArray] w' (fun v'' w'' => Put w' v' n' xs' (g x) v'' w'')) (_ : ∀ x ∈ els, (g x).length ≤ L) (_ : els.length ≤ 255) (_ : w.ownsRow 0 5 1 v n xs) (_ : n + 1 + 255 * L ≤ B) (_ : B ≤ 800000000), CY F #[v, lv, kv] w (fun v' w' => Put w v n xs ([(els.length : Int)] ++ (els.map g).flatten) v' w')
theorem putList_two : PutL Row Row.cells 128 2 236 237 ∧ PutL Rep Rep.cells 57 7 238 216 := by
  constructor <;> intro kv hkv w v lv n B L xs els g hl hc hg h255 ho hn hB
  all_goals
    obtain ⟨a, c, rfl, hcap, hlen, hv⟩ := hl
  refine callE Tryz.func236 rfl rfl ?_
  rotate_left
  refine callE Tryz.func238 rfl rfl ?_
  rotate_left
  all_goals
    refine .inl ⟨by omega, ?_⟩
    refine ⟨_, put8_ok ho (by omega) _, fun v1 w1 P => ?_⟩
    obtain ⟨a1, c1, rfl⟩ := own_slice P.row
    refine ⟨fun m s wk => ∃ (k : Nat) (vk : Value), m = els.length - k ∧ k ≤ els.length ∧ s = [(0, vk), (2, kv), (14, .slice a els.length c), (15, .int .i64 els.length), (16, .int .i64 k)] ∧ Put w v n xs ([(els.length : Int)] ++ ((els.take k).map g).flatten) vk wk, ⟨_, _, ⟨0, _, rfl, Nat.zero_le _, rfl, P.eq (by simp)⟩, sb rfl⟩, ?_⟩
    clear P
    rintro m s wk ⟨k, vk, rfl, hk, rfl, P⟩
    subst hkv
    obtain ⟨ak, ck, rfl⟩ := own_slice P.row
    refine spl (fun d => ?_) (fun d => ?_)
    · have d1 : k < els.length := by have := of_decide_eq_true d; omega
      obtain ⟨x, hx⟩ : ∃ x, els[k]? = some x := ⟨els[k], by simp [d1]⟩
      have hm := List.mem_of_getElem? hx
      rcases hv with ⟨_, h0⟩ | ⟨b, off, cs, rfl, hb, hcut⟩
      · omega
      have hb' := P.kz ho _ (by decide) b cs hb
      refine ⟨⟨by omega, by omega⟩, _, _, hb', x.cells, fz_at_ hcut hx (fun _ => rfl), rfl, fun w2 b2 m2 g2 l2 => ⟨_, _, _, m2, rfl, rfl, fun w3 m3 g3 => ?_⟩⟩
      have g23 := g2.new g3 l2
      have hlk := flat_len (l := els.take k) (L := L) fun y hy => hg y (List.mem_of_mem_take hy)
      have hL : (els.take k).length * L ≤ 255 * L := Nat.mul_le_mul_right _ (by rw [List.length_take]; omega)
      refine ⟨_, _, m3, x.cells, rfl, rfl, _, hc x hm w3 _ _ _ ((P.kz ho).trans g23.kz) (own_gb0 P.row g23) (by rw [List.length_append, List.length_singleton]; omega), fun v4 w4 p4 => ?_⟩
      obtain ⟨a4, c4, rfl⟩ := own_slice p4.row
      exact ⟨⟨by omega, by omega⟩, _, _, ⟨k + 1, _, rfl, by omega, rfl, (P.trans (p4.pre g23)).eq (by rw [take_next g hx]; simp)⟩, (sb rfl), by omega⟩
    · have d1 : k = els.length := by have := of_decide_eq_false d; omega
      exact P.eq (by rw [d1, List.take_length])
section
variable {w : World} {v lv : Value} {n B L : Nat} {xs : List Value}
theorem putList_vote {els : List (MV × Value × Value)} {g : MV × Value × Value → List Int} (hl : Fz w 196 20 lv els.length (els.map fun x => mvC x.1 x.2.1 x.2.2).flatten) (hc : ∀ x ∈ els, ∀ (w' : World) (v' : Value) (n' : Nat) (xs' : List Value), Kz w w' → w'.ownsRow 0 5 1 v' n' xs' → n' ≤ B → CY 219 #[v', .agg (mvC x.1 x.2.1 x.2.2).toArray] w' (fun v'' w'' => Put w' v' n' xs' (g x) v'' w'')) (hs : ∀ x ∈ els, ∃ a n c a' n' c', x.2.1 = .slice a n c ∧ x.2.2 = .slice a' n' c') (hg : ∀ x ∈ els, (g x).length ≤ L) (h255 : els.length ≤ 255) (ho : w.ownsRow 0 5 1 v n xs) (hn : n + 1 + 255 * L ≤ B) (hB : B ≤ 800000000) : CY 218 #[v, lv, .func (.func 219) #[] #[]] w (fun v' w' => Put w v n xs ([(els.length : Int)] ++ (els.map g).flatten) v' w') := by
  obtain ⟨a, c, rfl, hcap, hlen, hv⟩ := hl
  refine callE Tryz.func218 rfl rfl ?_
  refine .inl ⟨by omega, ?_⟩
  refine ⟨_, put8_ok ho (by omega) _, fun v1 w1 P => ?_⟩
  obtain ⟨a1, c1, rfl⟩ := own_slice P.row
  refine ⟨fun m s wk => ∃ (k : Nat) (vk : Value), m = els.length - k ∧ k ≤ els.length ∧ s = [(0, vk), (2, .func (.func 219) #[] #[]), (14, .slice a els.length c), (15, .int .i64 els.length), (16, .int .i64 k)] ∧ Put w v n xs ([(els.length : Int)] ++ ((els.take k).map g).flatten) vk wk, ⟨_, _, ⟨0, _, rfl, Nat.zero_le _, rfl, P.eq (by simp)⟩, sb rfl⟩, ?_⟩
  clear P
  rintro m s wk ⟨k, vk, rfl, hk, rfl, P⟩
  obtain ⟨ak, ck, rfl⟩ := own_slice P.row
  refine spl (fun d => ?_) (fun d => ?_)
  · have d1 : k < els.length := by have := of_decide_eq_true d; omega
    obtain ⟨x, hx⟩ : ∃ x, els[k]? = some x := ⟨els[k], by simp [d1]⟩
    have hm := List.mem_of_getElem? hx
    obtain ⟨x1, x2, x3⟩ := x
    obtain ⟨_, _, _, _, _, _, e1, e2⟩ := hs _ hm
    dsimp only at e1 e2
    subst e1
    subst e2
    have hc0 := hc _ hm
    rcases hv with ⟨_, h0⟩ | ⟨b, off, cs, rfl, hb, hcut⟩
    · omega
    have hel : cutL cs.toList (off + k * 20) 20 = mvC x1 (.slice _ _ _) (.slice _ _ _) := (Fz.elem hcut d1).trans (by rw [← List.flatMap_def]; exact elemL (f := fun x : MV × Value × Value => mvC x.1 x.2.1 x.2.2) (fun _ => rfl) els k _ hx)
    have hb' := P.kz ho 196 (by decide) b cs hb
    refine ⟨⟨by omega, by omega⟩, _, _, hb', mvC x1 (.slice _ _ _) (.slice _ _ _), by show cutL cs.toList (off + (k : Int).toNat * 20) 20 = _; rw [Int.toNat_natCast]; exact hel, rfl, fun w2 b2 m2 g2 l2 => ⟨_, _, _, m2, rfl, rfl, fun w3 m3 g3 => ?_⟩⟩
    have g23 := g2.new g3 l2
    have hlk := flat_len (l := els.take k) (L := L) fun y hy => hg y (List.mem_of_mem_take hy)
    have hL : (els.take k).length * L ≤ 255 * L := Nat.mul_le_mul_right _ (by rw [List.length_take]; omega)
    refine ⟨_, _, m3, mvC x1 (.slice _ _ _) (.slice _ _ _), rfl, rfl, _, hc0 w3 _ _ _ ((P.kz ho).trans g23.kz) (own_gb0 P.row g23) (by rw [List.length_append, List.length_singleton]; omega), fun v4 w4 p4 => ?_⟩
    obtain ⟨a4, c4, rfl⟩ := own_slice p4.row
    exact ⟨⟨by omega, by omega⟩, _, _, ⟨k + 1, _, rfl, by omega, rfl, (P.trans (p4.pre g23)).eq (by rw [take_next g hx]; simp)⟩, (sb rfl), by omega⟩
  · have d1 : k = els.length := by have := of_decide_eq_false d; omega
    exact P.eq (by rw [d1, List.take_length])
end
def Rg.sm (r : Rg) : Prop := r.rows.length ≤ 255 ∧ r.dups.length ≤ 255
def eRg (r : Rg) : List Int := [r.src] ++ [r.dst] ++ b32 r.seq ++ b64 r.lo ++ b64 r.hi ++ ([(r.rows.length : Int)] ++ (r.rows.map eRow).flatten) ++ ([(r.dups.length : Int)] ++ (r.dups.map eRep).flatten)
def eCmd (c : MC) : List Int := [c.kind] ++ (if c.kind = 1 then eReq c.q else if c.kind = 2 then eRg c.r else if c.kind = 3 then [c.peer] ++ b32 c.seq else [])
def eVote (v : MV) : List Int := b32 v.slot ++ eBal v.b.n v.b.id ++ eCmd v.c
theorem eRow_len (x : Row) : (eRow x).length = 16 := by simp [eRow, b64, b32]
theorem eRep_len (p : Rep) : (eRep p).length ≤ 23 := by
  unfold eRep
  split
  · split <;> simp [eBool, b64, b32]
  · split <;> simp [b64, b32]
theorem eReq_len (q : Req) : (eReq q).length ≤ 23 := by
  unfold eReq
  split
  · simp [b64, b32]
  · split <;> simp [b64, b32]
theorem eRg_len {r : Rg} (h : r.sm) : (eRg r).length ≤ 10000 := by
  have h1 := flat_len (g := eRow) (L := 16) (l := r.rows) fun x _ => Nat.le_of_eq (eRow_len x)
  have h2 := flat_len (g := eRep) (L := 23) (l := r.dups) fun x _ => eRep_len x
  obtain ⟨h3, h4⟩ := h
  unfold eRg
  generalize (r.rows.map eRow).flatten = a at *
  generalize (r.dups.map eRep).flatten = b at *
  simp [b64, b32]
  omega
theorem eCmd_len {c : MC} (h : c.r.sm) : (eCmd c).length ≤ 10001 := by
  unfold eCmd
  have := eRg_len h
  have := eReq_len c.q
  split
  · simp; omega
  · split
    · simp; omega
    · split <;> simp [b32]
theorem eVote_len {v : MV} (h : v.c.r.sm) : (eVote v).length ≤ 10010 := by
  unfold eVote
  have := eCmd_len h
  simp [b32, eBal]
  omega
section
variable {w : World} {v : Value} {n : Nat} {xs : List Value}
theorem putRg_ok (ho : w.ownsRow 0 5 1 v n xs) (hn : n ≤ 500000000) {r : Rg} {rv dv : Value} (hr : RgIn w r rv dv) (hs : r.sm) : CY 222 #[v, .agg (rgC r rv dv).toArray] w (fun v' w' => Put w v n xs (eRg r) v' w') := by
  obtain ⟨ra, rn, rc, da, dn, dc, rfl, rfl⟩ := hr.sl
  refine callE Tryz.func222 rfl rfl ?_
  refine fun w1 b1 m1 g1 l1 => ?_
  have P := Put.pre g1 (Put.nil (own_gb0 ho g1))
  refine ⟨_, _, m1, _, rfl, _, put8_ok P.row (by simp; omega) _, fun v2 w2 p2 => ?_⟩
  obtain ⟨P, m1⟩ := P.more p2 m1 (by decide)
  refine ⟨_, _, m1, _, rfl, _, put8_ok P.row (by simp; omega) _, fun v2 w2 p2 => ?_⟩
  obtain ⟨P, m1⟩ := P.more p2 m1 (by decide)
  refine ⟨_, _, m1, _, rfl, _, put32_ok P.row (by simp; omega) _, fun v2 w2 p2 => ?_⟩
  obtain ⟨P, m1⟩ := P.more p2 m1 (by decide)
  refine ⟨_, _, m1, _, rfl, _, put64_ok P.row (by simp [b32]; omega) _, fun v2 w2 p2 => ?_⟩
  obtain ⟨P, m1⟩ := P.more p2 m1 (by decide)
  refine ⟨_, _, m1, _, rfl, _, put64_ok P.row (by simp [b32, b64]; omega) _, fun v2 w2 p2 => ?_⟩
  obtain ⟨P, m1⟩ := P.more p2 m1 (by decide)
  have hr' := hr.kz (P.kz ho)
  refine ⟨_, _, m1, _, rfl, _, putList_two.1 rfl (g := eRow) (L := 16) (B := 600000000) hr'.1 (fun x _ w' v' n' xs' _ h1 h2 => putRow_ok h1 (by omega) x) (fun x _ => Nat.le_of_eq (eRow_len x)) hs.1 P.row (by simp [b32, b64]; omega) (by decide), fun v2 w2 p2 => ?_⟩
  obtain ⟨P, m1⟩ := P.more p2 m1 (by decide)
  have hr' := hr.kz (P.kz ho)
  have hl := flat_len (g := eRow) (L := 16) (l := r.rows) fun x _ => Nat.le_of_eq (eRow_len x)
  have hl1 := hs.1
  refine ⟨_, _, m1, _, rfl, _, putList_two.2 rfl (g := eRep) (L := 23) (B := 600000000) hr'.2 (fun x _ w' v' n' xs' _ h1 h2 => putRep_ok h1 (by omega) x) (fun x _ => eRep_len x) hs.2 P.row (by generalize (r.rows.map eRow).flatten = a at *; simp [b32, b64]; omega) (by decide), fun v2 w2 p2 => ?_⟩
  exact (P.trans p2).eq rfl
theorem putCmd_ok (ho : w.ownsRow 0 5 1 v n xs) (hn : n ≤ 400000000) {c : MC} {rv dv : Value} (hr : RgIn w c.r rv dv) (hs : c.r.sm) : CY 221 #[v, .agg (mcC c rv dv).toArray] w (fun v' w' => Put w v n xs (eCmd c) v' w') := by
  obtain ⟨ra, rn, rc, da, dn, dc, rfl, rfl⟩ := hr.sl
  refine callE Tryz.func221 rfl rfl ?_
  refine fun w1 b1 m1 g1 l1 => ?_
  have P := Put.pre g1 (Put.nil (own_gb0 ho g1))
  refine ⟨_, _, m1, _, rfl, _, put8_ok P.row (by simp; omega) _, fun v2 w2 p2 => ?_⟩
  obtain ⟨P, m1⟩ := P.more p2 m1 (by decide)
  refine ⟨_, _, m1, _, rfl, spl (fun d => ?_) (fun d => ?_)⟩
  · have d1 : c.kind = 1 := by simpa using d
    refine ⟨_, _, m1, c.q.cells, rfl, rfl, _, putReq_ok P.row (by simp; omega) _, fun v2 w2 p2 => ?_⟩
    exact (P.trans p2).eq (by simp [eCmd, d1])
  · have d1 : ¬ c.kind = 1 := by simpa using d
    refine spl (fun e => ?_) (fun e => ?_)
    · have e1 : c.kind = 2 := by simpa using e
      refine ⟨_, _, m1, rgC c.r _ _, rfl, rfl, _, putRg_ok P.row (by simp; omega) (hr.kz (P.kz ho)) hs, fun v2 w2 p2 => ?_⟩
      exact (P.trans p2).eq (by simp [eCmd, e1])
    · have e1 : ¬ c.kind = 2 := by simpa using e
      refine spl (fun f => ?_) (fun f => ?_)
      · have f1 : c.kind = 3 := by simpa using f
        refine ⟨_, _, m1, _, rfl, _, put8_ok P.row (by simp; omega) _, fun v2 w2 p2 => ?_⟩
        obtain ⟨P, m1⟩ := P.more p2 m1 (by decide)
        refine ⟨_, _, m1, _, rfl, _, put32_ok P.row (by simp; omega) _, fun v2 w2 p2 => ?_⟩
        exact (P.trans p2).eq (by simp [eCmd, f1])
      · have f1 : ¬ c.kind = 3 := by simpa using f
        exact P.eq (by simp [eCmd, d1, e1, f1])
theorem putVote_ok (ho : w.ownsRow 0 5 1 v n xs) (hn : n ≤ 300000000) {x : MV} {rv dv : Value} (hr : RgIn w x.c.r rv dv) (hs : x.c.r.sm) : CY 219 #[v, .agg (mvC x rv dv).toArray] w (fun v' w' => Put w v n xs (eVote x) v' w') := by
  obtain ⟨ra, rn, rc, da, dn, dc, rfl, rfl⟩ := hr.sl
  refine callE Tryz.func219 rfl rfl ?_
  refine fun w1 b1 m1 g1 l1 => ?_
  have P := Put.pre g1 (Put.nil (own_gb0 ho g1))
  refine ⟨_, _, m1, _, rfl, _, put32_ok P.row (by simp; omega) _, fun v2 w2 p2 => ?_⟩
  obtain ⟨P, m1⟩ := P.more p2 m1 (by decide)
  refine ⟨_, _, m1, [.int .u32 x.b.n, .int .u8 x.b.id], rfl, rfl, _, putBal_ok P.row (by simp [b32]; omega) _ _, fun v2 w2 p2 => ?_⟩
  obtain ⟨P, m1⟩ := P.more p2 m1 (by decide)
  refine ⟨_, _, m1, mcC x.c _ _, rfl, rfl, _, putCmd_ok P.row (by simp [b32, eBal]; omega) (hr.kz (P.kz ho)) hs, fun v2 w2 p2 => ?_⟩
  exact (P.trans p2).eq rfl
end
structure MM.sm (m : MM) : Prop where
  c : m.c.r.sm
  r : m.r.sm
  vl : m.vs.length ≤ 255
  vs : ∀ v ∈ m.vs, v.c.r.sm
def eTail (m : MM) : List Int := if m.kind = 1 then eReq m.q else if m.kind = 2 then eRep m.p else if m.kind = 3 then eBal m.b.n m.b.id else if m.kind = 5 then eBal m.b.n m.b.id else if m.kind = 4 then eBal m.b.n m.b.id ++ ([(m.vs.length : Int)] ++ (m.vs.map eVote).flatten) else if m.kind = 6 then eBal m.b.n m.b.id ++ b32 m.s ++ eCmd m.c else if m.kind = 7 then eBal m.b.n m.b.id ++ b32 m.s else if m.kind = 8 then b32 m.s ++ eCmd m.c else if m.kind = 9 then eRg m.r else if m.kind = 10 then [m.peer] ++ b32 m.seq else []
def eMsg (m : MM) : List Int := [m.kind] ++ eTail m
theorem zip_mv : ∀ (l : List MV) (ps : List (Value × Value)), List.zipWith (fun x p => mvC x p.1 p.2) l ps = (l.zip ps).map fun x => mvC x.1 x.2.1 x.2.2
  | [], _ => by simp
  | _ :: _, [] => by simp
  | _ :: l, _ :: ps => by simp [zip_mv l ps]
section
variable {w : World} {v : Value} {n : Nat} {xs : List Value}
theorem putVotes_ok (ho : w.ownsRow 0 5 1 v n xs) (hn : n ≤ 200000000) {l : List MV} {vv : Value} (hv : VsIn w vv l) (h255 : l.length ≤ 255) (hs : ∀ v ∈ l, v.c.r.sm) : CY 218 #[v, vv, .func (.func 219) #[] #[]] w (fun v' w' => Put w v n xs ([(l.length : Int)] ++ (l.map eVote).flatten) v' w') := by
  obtain ⟨ps, hp, hf, hr⟩ := hv
  have hlen : (l.zip ps).length = l.length := by rw [List.length_zip, hp, Nat.min_self]
  have hmap : (l.zip ps).map (fun x => eVote x.1) = l.map eVote := by
    rw [show (fun x : MV × Value × Value => eVote x.1) = eVote ∘ Prod.fst from rfl, ← List.map_map, List.map_fst_zip (by omega)]
  have hat : ∀ x ∈ l.zip ps, RgIn w x.1.c.r x.2.1 x.2.2 ∧ x.1 ∈ l := fun x hx => by
    obtain ⟨i, hi⟩ := List.mem_iff_getElem?.1 hx
    rw [List.getElem?_zip_eq_some] at hi
    exact ⟨hr i x.1 x.2 hi.1 hi.2, List.mem_of_getElem? hi.1⟩
  rw [zip_mv, ← hlen] at hf
  have h := putList_vote (g := fun x => eVote x.1) (L := 10010) (B := 300000000) hf (fun x hx w' v' n' xs' k h1 h2 => putVote_ok h1 h2 ((hat x hx).1.kz k) (hs _ (hat x hx).2)) (fun x hx => by
    obtain ⟨_, _, _, _, _, _, e1, e2⟩ := (hat x hx).1.sl
    exact ⟨_, _, _, _, _, _, e1, e2⟩) (fun x hx => eVote_len (hs _ (hat x hx).2)) (by omega) ho (by omega) (by decide)
  rw [hmap, hlen] at h
  exact h
theorem putMsg_ok (ho : w.ownsRow 0 5 1 v n xs) (hn : n ≤ 100000000) {m : MM} {rv dv vv rv' dv' : Value} (hc : RgIn w m.c.r rv dv) (hv : VsIn w vv m.vs) (hr : RgIn w m.r rv' dv') (hs : m.sm) (hk : 1 ≤ m.kind ∧ m.kind ≤ 10) : CY 190 #[v, .agg (mmC m rv dv vv rv' dv').toArray] w (fun v' w' => Put w v n xs (eMsg m) v' w') := by
  obtain ⟨_, _, _, _, _, _, rfl, rfl⟩ := hc.sl
  obtain ⟨_, _, _, _, _, _, rfl, rfl⟩ := hr.sl
  obtain ⟨_, _, rfl⟩ := hv.sl
  obtain ⟨k, q, p, b, s, c, vs, r, peer, seq⟩ := m
  dsimp only at hk hc hv hr
  have hk : k = 1 ∨ k = 2 ∨ k = 3 ∨ k = 4 ∨ k = 5 ∨ k = 6 ∨ k = 7 ∨ k = 8 ∨ k = 9 ∨ k = 10 := by omega
  have P0 := fun w1 (g1 : GB none w w1) => Put.pre g1 (Put.nil (own_gb0 ho g1))
  rcases hk with rfl | rfl | rfl | rfl | rfl | rfl | rfl | rfl | rfl | rfl
  · refine callE Tryz.func190 rfl rfl ?_
    refine fun w1 b1 m1 g1 l1 => ?_
    have P := P0 w1 g1
    refine ⟨_, _, m1, _, rfl, _, put8_ok P.row (by simp; omega) _, fun v2 w2 p2 => ?_⟩
    obtain ⟨P, m1⟩ := P.more p2 m1 (by decide)
    refine ⟨_, _, m1, _, rfl, ?_⟩
    refine ⟨_, _, m1, q.cells, rfl, rfl, _, putReq_ok P.row (by simp; omega) _, fun v2 w2 p2 => ?_⟩
    exact (P.trans p2).eq (by simp [eMsg, eTail])
  · refine callE Tryz.func190 rfl rfl ?_
    refine fun w1 b1 m1 g1 l1 => ?_
    have P := P0 w1 g1
    refine ⟨_, _, m1, _, rfl, _, put8_ok P.row (by simp; omega) _, fun v2 w2 p2 => ?_⟩
    obtain ⟨P, m1⟩ := P.more p2 m1 (by decide)
    refine ⟨_, _, m1, _, rfl, ?_⟩
    refine ⟨_, _, m1, p.cells, rfl, rfl, _, putRep_ok P.row (by simp; omega) _, fun v2 w2 p2 => ?_⟩
    exact (P.trans p2).eq (by simp [eMsg, eTail])
  · refine callE Tryz.func190 rfl rfl ?_
    refine fun w1 b1 m1 g1 l1 => ?_
    have P := P0 w1 g1
    refine ⟨_, _, m1, _, rfl, _, put8_ok P.row (by simp; omega) _, fun v2 w2 p2 => ?_⟩
    obtain ⟨P, m1⟩ := P.more p2 m1 (by decide)
    refine ⟨_, _, m1, _, rfl, ?_⟩
    refine ⟨_, _, m1, [.int .u32 b.n, .int .u8 b.id], rfl, rfl, _, putBal_ok P.row (by simp; omega) _ _, fun v2 w2 p2 => ?_⟩
    exact (P.trans p2).eq (by simp [eMsg, eTail])
  · refine callE Tryz.func190 rfl rfl ?_
    refine fun w1 b1 m1 g1 l1 => ?_
    have P := P0 w1 g1
    refine ⟨_, _, m1, _, rfl, _, put8_ok P.row (by simp; omega) _, fun v2 w2 p2 => ?_⟩
    obtain ⟨P, m1⟩ := P.more p2 m1 (by decide)
    refine ⟨_, _, m1, _, rfl, ?_⟩
    refine ⟨_, _, m1, [.int .u32 b.n, .int .u8 b.id], rfl, rfl, _, putBal_ok P.row (by simp; omega) _ _, fun v2 w2 p2 => ?_⟩
    obtain ⟨P, m1⟩ := P.more p2 m1 (by decide)
    refine ⟨_, _, m1, _, rfl, _, putVotes_ok P.row (by simp [b32, eBal]; omega) (hv.kz (P.kz ho)) hs.vl hs.vs, fun v2 w2 p2 => ?_⟩
    exact (P.trans p2).eq (by simp [eMsg, eTail])
  · refine callE Tryz.func190 rfl rfl ?_
    refine fun w1 b1 m1 g1 l1 => ?_
    have P := P0 w1 g1
    refine ⟨_, _, m1, _, rfl, _, put8_ok P.row (by simp; omega) _, fun v2 w2 p2 => ?_⟩
    obtain ⟨P, m1⟩ := P.more p2 m1 (by decide)
    refine ⟨_, _, m1, _, rfl, ?_⟩
    refine ⟨_, _, m1, [.int .u32 b.n, .int .u8 b.id], rfl, rfl, _, putBal_ok P.row (by simp; omega) _ _, fun v2 w2 p2 => ?_⟩
    exact (P.trans p2).eq (by simp [eMsg, eTail])
  · refine callE Tryz.func190 rfl rfl ?_
    refine fun w1 b1 m1 g1 l1 => ?_
    have P := P0 w1 g1
    refine ⟨_, _, m1, _, rfl, _, put8_ok P.row (by simp; omega) _, fun v2 w2 p2 => ?_⟩
    obtain ⟨P, m1⟩ := P.more p2 m1 (by decide)
    refine ⟨_, _, m1, _, rfl, ?_⟩
    refine ⟨_, _, m1, [.int .u32 b.n, .int .u8 b.id], rfl, rfl, _, putBal_ok P.row (by simp; omega) _ _, fun v2 w2 p2 => ?_⟩
    obtain ⟨P, m1⟩ := P.more p2 m1 (by decide)
    refine ⟨_, _, m1, _, rfl, _, put32_ok P.row (by simp [b32, eBal]; omega) _, fun v2 w2 p2 => ?_⟩
    obtain ⟨P, m1⟩ := P.more p2 m1 (by decide)
    refine ⟨_, _, m1, mcC c _ _, rfl, rfl, _, putCmd_ok P.row (by simp [b32, eBal]; omega) (hc.kz (P.kz ho)) hs.c, fun v2 w2 p2 => ?_⟩
    exact (P.trans p2).eq (by simp [eMsg, eTail])
  · refine callE Tryz.func190 rfl rfl ?_
    refine fun w1 b1 m1 g1 l1 => ?_
    have P := P0 w1 g1
    refine ⟨_, _, m1, _, rfl, _, put8_ok P.row (by simp; omega) _, fun v2 w2 p2 => ?_⟩
    obtain ⟨P, m1⟩ := P.more p2 m1 (by decide)
    refine ⟨_, _, m1, _, rfl, ?_⟩
    refine ⟨_, _, m1, [.int .u32 b.n, .int .u8 b.id], rfl, rfl, _, putBal_ok P.row (by simp; omega) _ _, fun v2 w2 p2 => ?_⟩
    obtain ⟨P, m1⟩ := P.more p2 m1 (by decide)
    refine ⟨_, _, m1, _, rfl, _, put32_ok P.row (by simp [b32, eBal]; omega) _, fun v2 w2 p2 => ?_⟩
    exact (P.trans p2).eq (by simp [eMsg, eTail])
  · refine callE Tryz.func190 rfl rfl ?_
    refine fun w1 b1 m1 g1 l1 => ?_
    have P := P0 w1 g1
    refine ⟨_, _, m1, _, rfl, _, put8_ok P.row (by simp; omega) _, fun v2 w2 p2 => ?_⟩
    obtain ⟨P, m1⟩ := P.more p2 m1 (by decide)
    refine ⟨_, _, m1, _, rfl, ?_⟩
    refine ⟨_, _, m1, _, rfl, _, put32_ok P.row (by simp; omega) _, fun v2 w2 p2 => ?_⟩
    obtain ⟨P, m1⟩ := P.more p2 m1 (by decide)
    refine ⟨_, _, m1, mcC c _ _, rfl, rfl, _, putCmd_ok P.row (by simp [b32]; omega) (hc.kz (P.kz ho)) hs.c, fun v2 w2 p2 => ?_⟩
    exact (P.trans p2).eq (by simp [eMsg, eTail])
  · refine callE Tryz.func190 rfl rfl ?_
    refine fun w1 b1 m1 g1 l1 => ?_
    have P := P0 w1 g1
    refine ⟨_, _, m1, _, rfl, _, put8_ok P.row (by simp; omega) _, fun v2 w2 p2 => ?_⟩
    obtain ⟨P, m1⟩ := P.more p2 m1 (by decide)
    refine ⟨_, _, m1, _, rfl, ?_⟩
    refine ⟨_, _, m1, rgC r _ _, rfl, rfl, _, putRg_ok P.row (by simp; omega) (hr.kz (P.kz ho)) hs.r, fun v2 w2 p2 => ?_⟩
    exact (P.trans p2).eq (by simp [eMsg, eTail])
  · refine callE Tryz.func190 rfl rfl ?_
    refine fun w1 b1 m1 g1 l1 => ?_
    have P := P0 w1 g1
    refine ⟨_, _, m1, _, rfl, _, put8_ok P.row (by simp; omega) _, fun v2 w2 p2 => ?_⟩
    obtain ⟨P, m1⟩ := P.more p2 m1 (by decide)
    refine ⟨_, _, m1, _, rfl, ?_⟩
    refine ⟨_, _, m1, _, rfl, _, put8_ok P.row (by simp; omega) _, fun v2 w2 p2 => ?_⟩
    obtain ⟨P, m1⟩ := P.more p2 m1 (by decide)
    refine ⟨_, _, m1, _, rfl, _, put32_ok P.row (by simp; omega) _, fun v2 w2 p2 => ?_⟩
    exact (P.trans p2).eq (by simp [eMsg, eTail])
end
end
end Go.Proofs.YtignemioillaiaaGreat
