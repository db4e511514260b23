/- What is read (2): the small things. -/
import Derived.Test.YtignemioillaiaaGreatG39
namespace Go.Proofs.YtignemioillaiaaGreat
set_option maxHeartbeats 8000000
set_option maxRecDepth 100000
section
open Go Go.Conc
def nx {β : Type} (k : Nat) (l : List Nat) (f : Nat → List Nat → β) : β := f (num k l).1 (num k l).2
theorem nx_eq {β : Type} {k x : Nat} {l l' : List Nat} (h : num k l = (x, l')) (f : Nat → List Nat → β) : nx k l f = f x l' := by unfold nx; rw [h]
def rn {α β : Type} (rd : List Nat → α × List Nat) (l : List Nat) (f : α → List Nat → β) : β := f (rd l).1 (rd l).2
theorem rn_eq {α β : Type} {rd : List Nat → α × List Nat} {x : α} {l l' : List Nat} (h : rd l = (x, l')) (f : α → List Nat → β) : rn rd l f = f x l' := by unfold rn; rw [h]
def rdReq (l : List Nat) : Req × List Nat := nx 1 l fun c l => nx 4 l fun s l => nx 1 l fun k l => nx 8 l fun key l => if k = 2 then nx 8 l fun v l => (⟨c, s, k, key, v, 0, 0⟩, l) else if k = 4 then nx 8 l fun hi l => nx 1 l fun to l => (⟨c, s, k, key, 0, hi, to⟩, l) else (⟨c, s, k, key, 0, 0, 0⟩, l)
def rdRep (l : List Nat) : Rep × List Nat := nx 1 l fun c l => nx 4 l fun s l => nx 8 l fun key l => nx 1 l fun k l => if k = 1 then nx 1 l fun f l => if f = 0 then (⟨c, s, key, k, false, 0, 0⟩, l) else nx 8 l fun v l => (⟨c, s, key, k, true, v, 0⟩, l) else if k = 3 then nx 1 l fun g l => (⟨c, s, key, k, false, 0, g⟩, l) else (⟨c, s, key, k, false, 0, 0⟩, l)
def rdBal (l : List Nat) : Bal × List Nat := nx 4 l fun n l => nx 1 l fun i l => (⟨n, i⟩, l)
def rdRow (l : List Nat) : Row × List Nat := nx 8 l fun k l => nx 8 l fun v l => (⟨k, v⟩, l)
/-- Two boxes while a source is read: b1 for the result, b2 for what is made. -/
structure Bx (w : World) (b b1 b2 : Nat) (T : TypeId) (z c : Array Value) (l : List Nat) (w' : World) : Prop where
  s : Src w' b l
  m1 : w'.heap[b1]? = some (.cells z T)
  m2 : w'.heap[b2]? = some (.cells c T)
  g : GB (some b) w w'
  n1 : w.heap.size ≤ b1
  n2 : w.heap.size ≤ b2
  ne : b1 ≠ b2
  lb : b < w.heap.size
section
variable {w w1 w2 : World} {b b1 b2 : Nat} {T : TypeId} {z c c' : Array Value} {l l' : List Nat}
theorem Bx.new (hs : Src w b l) (m1 : w1.heap[b1]? = some (.cells z T)) (g1 : GB none w w1) (n1 : w.heap.size ≤ b1) (m2 : w2.heap[b2]? = some (.cells c T)) (g2 : GB none w1 w2) (n2 : w1.heap.size ≤ b2) : Bx w b b1 b2 T z c l w2 :=
  ⟨hs.keep ((g1.trans g2).block b hs.lt nofun), g2.get m1 nofun, m2, (g1.trans g2).weak, n1, Nat.le_trans g1.size n2, fun e => by have := lt_heap m1; omega, hs.lt⟩
theorem Bx.rd (h : Bx w b b1 b2 T z c l w1) (hs : Src w2 b l') (g : GB (some b) w1 w2) : Bx w b b1 b2 T z c l' w2 :=
  ⟨hs, g.get h.m1 fun e => by injection e with e; have := h.n1; have := h.lb; omega, g.get h.m2 fun e => by injection e with e; have := h.n2; have := h.lb; omega, h.g.trans g, h.n1, h.n2, h.ne, h.lb⟩
theorem Bx.st (h : Bx w b b1 b2 T z c l w1) (m : w2.heap[b2]? = some (.cells c' T)) (g : GB (some b2) w1 w2) : Bx w b b1 b2 T z c' l w2 :=
  ⟨h.s.keep (g.block b h.s.lt fun e => by injection e with e; have := h.n2; have := h.lb; omega), g.get h.m1 fun e => by injection e with e; exact h.ne e, m, h.g.news g h.n2, h.n1, h.n2, h.ne, h.lb⟩
theorem Bx.mv {e : Array Value → Prop} {ys : Array Value → List Value} {K : World → Prop} (h : Bx w b b1 b2 T z c l w1) (hs : Src w2 b l') (g : GB (some b) w1 w2) (he : e c) (k : ∀ w4, Bx w b b1 b2 T z (ys c).toArray l' w4 → K w4) : ∃ xs ty zs, w2.heap[b2]? = some (.cells xs ty) ∧ e xs ∧ ys xs = zs ∧ ∀ w', w'.heap[b2]? = some (.cells zs.toArray ty) → GB (some b2) w2 w' → K w' :=
  ⟨_, _, _, (h.rd hs g).m2, he, rfl, fun _ m k' => k _ ((h.rd hs g).st m k')⟩
theorem Bx.fin (h : Bx w b b1 b2 T z c l w1) (g : GB (some b1) w1 w2) : Src w2 b l ∧ GB (some b) w w2 :=
  ⟨h.s.keep (g.block b h.s.lt fun e => by injection e with e; have := h.n1; have := h.lb; omega), h.g.news g h.n1⟩
theorem Bx.en {P Q R : Array Value → List Value → Prop} {O M : List Value → Prop} {F : Array Value → List Value → List Value} {K : List Value → World → Prop} (h : Bx w b b1 b2 T z c l w1) (X : List Value) (a1 : P c X) (a2 : O X) (a3 : Q z X) (a4 : R (F z X).toArray X) (a5 : M X) (k : ∀ w', Src w' b l → GB (some b) w w' → GB (some b1) w1 w' → K X w') : ∃ xs ty, w1.heap[b2]? = some (.cells xs ty) ∧ ∃ cs, P xs cs ∧ O cs ∧ ∃ ys ty' zs, w1.heap[b1]? = some (.cells ys ty') ∧ Q ys cs ∧ F ys cs = zs ∧ ∀ w', w'.heap[b1]? = some (.cells zs.toArray ty') → GB (some b1) w1 w' → ∃ us ty'', w'.heap[b1]? = some (.cells us ty'') ∧ ∃ cs, R us cs ∧ M cs ∧ K cs w' :=
  ⟨_, _, h.m2, X, a1, a2, _, _, _, h.m1, a3, rfl, fun _ m g => ⟨_, _, m, X, a4, a5, k _ (h.fin g).1 (h.fin g).2 g⟩⟩
theorem n8_ok (hs : Src w b l) : CY 191 #[.pointer (some ⟨b, 0, none⟩)] w (fun v w' => ∃ x l', num 1 l = (x, l') ∧ x < 256 ∧ v = .int .u8 x ∧ Src w' b l' ∧ GB (some b) w w') := by
  refine callE Tryz.func191 rfl rfl ?_
  refine ⟨_, number_ok hs 1 (by decide), ?_⟩
  rintro _ w1 ⟨rfl, s1, g1⟩
  have h := num_lt (n := 1) hs.b
  exact .inl ⟨by omega, _, _, rfl, h, rfl, s1, g1⟩
theorem n32_ok (hs : Src w b l) : CY 197 #[.pointer (some ⟨b, 0, none⟩)] w (fun v w' => ∃ x l', num 4 l = (x, l') ∧ x < 4294967296 ∧ v = .int .u32 x ∧ Src w' b l' ∧ GB (some b) w w') := by
  refine callE Tryz.func197 rfl rfl ?_
  refine ⟨_, number_ok hs 4 (by decide), ?_⟩
  rintro _ w1 ⟨rfl, s1, g1⟩
  have h := num_lt (n := 4) hs.b
  exact .inl ⟨by omega, _, _, rfl, h, rfl, s1, g1⟩
theorem n64_ok (hs : Src w b l) : CY 224 #[.pointer (some ⟨b, 0, none⟩)] w (fun v w' => ∃ x l', num 8 l = (x, l') ∧ x < 18446744073709551616 ∧ v = .int .u64 x ∧ Src w' b l' ∧ GB (some b) w w') := by
  refine callE Tryz.func224 rfl rfl ?_
  refine ⟨_, number_ok hs 8 (by decide), ?_⟩
  rintro _ w1 ⟨rfl, s1, g1⟩
  have h := num_lt (n := 8) hs.b
  exact ⟨_, _, rfl, h, rfl, s1, g1⟩
theorem row_rd (hs : Src w b l) : CY 226 #[.pointer (some ⟨b, 0, none⟩)] w (fun v w' => ∃ x l', rdRow l = (x, l') ∧ v = .agg x.cells.toArray ∧ Src w' b l' ∧ GB (some b) w w') := by
  refine callE Tryz.func226 rfl rfl ?_
  refine fun w1 b1 m1 g1 l1 w2 b2 m2 g2 l2 => ?_
  have B := Bx.new hs m1 g1 l1 m2 g2 l2
  clear m1 m2 g1 g2 l1 l2
  refine ⟨_, n64_ok B.s, ?_⟩
  rintro _ w3 ⟨k, l3, ek, ck, rfl, s3, g3⟩
  refine B.mv s3 g3 rfl fun w4 B => ?_
  refine ⟨_, n64_ok B.s, ?_⟩
  rintro _ w3 ⟨v, l3, ev, cv, rfl, s3, g3⟩
  refine B.mv s3 g3 rfl fun w4 B => ?_
  exact B.en (Row.cells ⟨k, v⟩) rfl rfl rfl rfl rfl fun _ s5 g5 _ => ⟨_, _, by rw [rdRow, nx_eq ek, nx_eq ev], rfl, s5, g5⟩
theorem bal_rd (hs : Src w b l) : CY 194 #[.pointer (some ⟨b, 0, none⟩)] w (fun v w' => ∃ x l', rdBal l = (x, l') ∧ v = .agg #[.int .u32 x.n, .int .u8 x.id] ∧ Src w' b l' ∧ GB (some b) w w') := by
  refine callE Tryz.func194 rfl rfl ?_
  refine fun w1 b1 m1 g1 l1 w2 b2 m2 g2 l2 => ?_
  have B := Bx.new hs m1 g1 l1 m2 g2 l2
  clear m1 m2 g1 g2 l1 l2
  refine ⟨_, n32_ok B.s, ?_⟩
  rintro _ w3 ⟨n, l3, en, cn, rfl, s3, g3⟩
  refine B.mv s3 g3 rfl fun w4 B => ?_
  refine ⟨_, n8_ok B.s, ?_⟩
  rintro _ w3 ⟨i, l3, ei, ci, rfl, s3, g3⟩
  refine B.mv s3 g3 rfl fun w4 B => ?_
  exact B.en ([.int .u32 n, .int .u8 i]) rfl rfl rfl rfl rfl fun _ s5 g5 _ => ⟨_, _, by rw [rdBal, nx_eq en, nx_eq ei], rfl, s5, g5⟩
theorem req_rd (hs : Src w b l) : CY 192 #[.pointer (some ⟨b, 0, none⟩)] w (fun v w' => ∃ x l', rdReq l = (x, l') ∧ v = .agg x.cells.toArray ∧ Src w' b l' ∧ GB (some b) w w') := by
  refine callE Tryz.func192 rfl rfl ?_
  refine fun w1 b1 m1 g1 l1 w2 b2 m2 g2 l2 => ?_
  have B := Bx.new hs m1 g1 l1 m2 g2 l2
  clear m1 m2 g1 g2 l1 l2
  refine ⟨_, n8_ok B.s, ?_⟩
  rintro _ w3 ⟨c, l3, ec, cc, rfl, s3, g3⟩
  refine B.mv s3 g3 rfl fun w4 B => ?_
  refine ⟨_, n32_ok B.s, ?_⟩
  rintro _ w3 ⟨s, l3, es, cs, rfl, s3, g3⟩
  refine B.mv s3 g3 rfl fun w4 B => ?_
  refine ⟨_, n8_ok B.s, ?_⟩
  rintro _ w3 ⟨k, l3, ek, ck, rfl, s3, g3⟩
  refine B.mv s3 g3 rfl fun w4 B => ?_
  refine ⟨_, n64_ok B.s, ?_⟩
  rintro _ w3 ⟨key, l3, ekey, ckey, rfl, s3, g3⟩
  refine B.mv s3 g3 rfl fun w4 B => ?_
  refine ⟨_, _, B.m2, _, rfl, spl (fun q => ?_) (fun q => ?_)⟩
  · have q1 : k = 2 := by simp at q; omega
    refine ⟨_, n64_ok B.s, ?_⟩
    rintro _ w3 ⟨v, l3, ev, cv, rfl, s3, g3⟩
    refine B.mv s3 g3 rfl fun w4 B => ?_
    exact B.en (Req.cells ⟨c, s, k, key, v, 0, 0⟩) rfl rfl rfl rfl rfl fun _ s5 g5 _ => ⟨_, _, by rw [rdReq, nx_eq ec, nx_eq es, nx_eq ek, nx_eq ekey, if_pos q1, nx_eq ev], rfl, s5, g5⟩
  · have q1 : ¬ k = 2 := by simp at q; omega
    refine spl (fun q => ?_) (fun q => ?_)
    · have q2 : k = 4 := by simp at q; omega
      refine ⟨_, n64_ok B.s, ?_⟩
      rintro _ w3 ⟨hi, l3, ehi, chi, rfl, s3, g3⟩
      refine B.mv s3 g3 rfl fun w4 B => ?_
      refine ⟨_, n8_ok B.s, ?_⟩
      rintro _ w3 ⟨to, l3, eto, cto, rfl, s3, g3⟩
      refine B.mv s3 g3 rfl fun w4 B => ?_
      exact B.en (Req.cells ⟨c, s, k, key, 0, hi, to⟩) rfl rfl rfl rfl rfl fun _ s5 g5 _ => ⟨_, _, by rw [rdReq, nx_eq ec, nx_eq es, nx_eq ek, nx_eq ekey, if_neg q1, if_pos q2, nx_eq ehi, nx_eq eto], rfl, s5, g5⟩
    · have q2 : ¬ k = 4 := by simp at q; omega
      exact B.en (Req.cells ⟨c, s, k, key, 0, 0, 0⟩) rfl rfl rfl rfl rfl fun _ s5 g5 _ => ⟨_, _, by rw [rdReq, nx_eq ec, nx_eq es, nx_eq ek, nx_eq ekey, if_neg q1, if_neg q2], rfl, s5, g5⟩
theorem rep_rd (hs : Src w b l) : CY 193 #[.pointer (some ⟨b, 0, none⟩)] w (fun v w' => ∃ x l', rdRep l = (x, l') ∧ v = .agg x.cells.toArray ∧ Src w' b l' ∧ GB (some b) w w') := by
  refine callE Tryz.func193 rfl rfl ?_
  refine fun w1 b1 m1 g1 l1 w2 b2 m2 g2 l2 => ?_
  have B := Bx.new hs m1 g1 l1 m2 g2 l2
  clear m1 m2 g1 g2 l1 l2
  refine ⟨_, n8_ok B.s, ?_⟩
  rintro _ w3 ⟨c, l3, ec, cc, rfl, s3, g3⟩
  refine B.mv s3 g3 rfl fun w4 B => ?_
  refine ⟨_, n32_ok B.s, ?_⟩
  rintro _ w3 ⟨s, l3, es, cs, rfl, s3, g3⟩
  refine B.mv s3 g3 rfl fun w4 B => ?_
  refine ⟨_, n64_ok B.s, ?_⟩
  rintro _ w3 ⟨key, l3, ekey, ckey, rfl, s3, g3⟩
  refine B.mv s3 g3 rfl fun w4 B => ?_
  refine ⟨_, n8_ok B.s, ?_⟩
  rintro _ w3 ⟨k, l3, ek, ck, rfl, s3, g3⟩
  refine B.mv s3 g3 rfl fun w4 B => ?_
  refine ⟨_, _, B.m2, _, rfl, spl (fun q => ?_) (fun q => ?_)⟩
  · have q1 : k = 1 := by simp at q; omega
    refine ⟨_, n8_ok B.s, ?_⟩
    rintro _ w3 ⟨f, l3, ef, cf, rfl, s3, g3⟩
    refine B.mv s3 g3 rfl fun w4 B => ?_
    refine ⟨_, _, B.m2, _, rfl, spl (fun q => ?_) (fun q => ?_)⟩
    · have q2 : ¬ f = 0 := by simp at q; omega
      have q3 : ((f : Int) != 0) = true := by simpa using q
      refine ⟨_, n64_ok B.s, ?_⟩
      rintro _ w3 ⟨v, l3, ev, cv, rfl, s3, g3⟩
      refine B.mv s3 g3 rfl fun w4 B => ?_
      exact B.en (Rep.cells ⟨c, s, key, k, (f : Int) != 0, v, 0⟩) rfl rfl rfl rfl rfl fun _ s5 g5 _ => ⟨_, _, by rw [rdRep, nx_eq ec, nx_eq es, nx_eq ekey, nx_eq ek, if_pos q1, nx_eq ef, if_neg q2, nx_eq ev, q3], rfl, s5, g5⟩
    · have q2 : f = 0 := by simp at q; omega
      have q3 : ((f : Int) != 0) = false := by simpa using q
      exact B.en (Rep.cells ⟨c, s, key, k, (f : Int) != 0, 0, 0⟩) rfl rfl rfl rfl rfl fun _ s5 g5 _ => ⟨_, _, by rw [rdRep, nx_eq ec, nx_eq es, nx_eq ekey, nx_eq ek, if_pos q1, nx_eq ef, if_pos q2, q3], rfl, s5, g5⟩
  · have q1 : ¬ k = 1 := by simp at q; omega
    refine spl (fun q => ?_) (fun q => ?_)
    · have q2 : k = 3 := by simp at q; omega
      refine ⟨_, n8_ok B.s, ?_⟩
      rintro _ w3 ⟨g, l3, eg, cg, rfl, s3, g3⟩
      refine B.mv s3 g3 rfl fun w4 B => ?_
      exact B.en (Rep.cells ⟨c, s, key, k, false, 0, g⟩) rfl rfl rfl rfl rfl fun _ s5 g5 _ => ⟨_, _, by rw [rdRep, nx_eq ec, nx_eq es, nx_eq ekey, nx_eq ek, if_neg q1, if_pos q2, nx_eq eg], rfl, s5, g5⟩
    · have q2 : ¬ k = 3 := by simp at q; omega
      exact B.en (Rep.cells ⟨c, s, key, k, false, 0, 0⟩) rfl rfl rfl rfl rfl fun _ s5 g5 _ => ⟨_, _, by rw [rdRep, nx_eq ec, nx_eq es, nx_eq ekey, nx_eq ek, if_neg q1, if_neg q2], rfl, s5, g5⟩
end
def rdL {α : Type} (f : List Nat → α × List Nat) : Nat → List Nat → List α × List Nat
  | 0, l => ([], l)
  | n + 1, l => if l = [] then ([], l) else rn f l fun x l => (x :: (rdL f n l).1, (rdL f n l).2)
def rdList {α : Type} (f : List Nat → α × List Nat) (l : List Nat) : List α × List Nat := nx 1 l fun n l => rdL f n l
def rdRg (l : List Nat) : Rg × List Nat := nx 1 l fun src l => nx 1 l fun dst l => nx 4 l fun seq l => nx 8 l fun lo l => nx 8 l fun hi l => rn (rdList rdRow) l fun rows l => rn (rdList rdRep) l fun dups l => (⟨src, dst, seq, lo, hi, rows, dups⟩, l)
def rdCmd (l : List Nat) : MC × List Nat := nx 1 l fun k l => if k = 1 then rn rdReq l fun q l => (⟨k, q, zRg, 0, 0⟩, l) else if k = 2 then rn rdRg l fun r l => (⟨k, zRq, r, 0, 0⟩, l) else if k = 3 then nx 1 l fun p l => nx 4 l fun s l => (⟨k, zRq, zRg, p, s⟩, l) else (⟨k, zRq, zRg, 0, 0⟩, l)
def rdVote (l : List Nat) : MV × List Nat := nx 4 l fun s l => rn rdBal l fun b l => rn rdCmd l fun c l => (⟨s, b, c⟩, l)
theorem dl_nil {d : ByteArray} : (d.toList == (ByteArray.mk #[]).toList) = true ↔ dl d = [] := by
  rw [ByteArray.toList_eq, ByteArray.toList_eq]
  simp [dl]
theorem rdL_end {α : Type} (f : List Nat → α × List Nat) (n : Nat) : rdL f n [] = ([], []) := by cases n <;> simp [rdL]
theorem rdL_more {α : Type} {f : List Nat → α × List Nat} {n : Nat} {l l' : List Nat} {x : α} (h : f l = (x, l')) (hl : l ≠ []) : rdL f (n + 1) l = (x :: (rdL f n l').1, (rdL f n l').2) := by rw [rdL, if_neg hl, rn_eq h]
theorem own_src {w w1 : World} {b e size n : Nat} {v : Value} {xs : List Value} {w0 : World} (h : w.ownsRow 0 e size v n xs) (g : GB (some b) w w1) (hv : ∀ g, v.ownBlock = some g → w0.heap.size ≤ g) (hb : b < w0.heap.size) : w1.ownsRow 0 e size v n xs := owns_rely h fun x hx => by
  obtain ⟨c, hc⟩ := own_obj h hx
  exact g.block x (lt_heap hc) fun e => by injection e with e; have := hv x hx; omega
theorem Fz.gbt {w w' : World} {e size n x t : Nat} {v : Value} {xs : List Value} {c : Array Value} (h : Fz w e size v n xs) (g : GB (some x) w w') (hx : w.heap[x]? = some (.cells c t)) (ht : t ≠ e) : Fz w' e size v n xs := by
  obtain ⟨a, c, h1, h2, h3, h4⟩ := h
  refine ⟨a, c, h1, h2, h3, h4.imp id ?_⟩
  rintro ⟨b, off, cs, h5, h6, h7⟩
  exact ⟨b, off, cs, h5, g.get h6 (fun e => ne_ty h6 hx ht.symm (Option.some.inj e)), h7⟩
theorem RgIn.gbt {w w' : World} {r : Rg} {rv dv : Value} {x t : Nat} {c : Array Value} (h : RgIn w r rv dv) (g : GB (some x) w w') (hx : w.heap[x]? = some (.cells c t)) (h1 : t ≠ 128) (h2 : t ≠ 57) : RgIn w' r rv dv := ⟨h.1.gbt g hx h1, h.2.gbt g hx h2⟩
theorem Bx.new2 {w w1 w2 w3 w4 : World} {b b1 b2 : Nat} {T : TypeId} {z c0 c : Array Value} {l l' : List Nat} (hs : Src w b l) (m1 : w1.heap[b1]? = some (.cells z T)) (g1 : GB none w w1) (n1 : w.heap.size ≤ b1) (s2 : Src w2 b l') (g2 : GB (some b) w1 w2) (_m3 : w3.heap[b2]? = some (.cells c0 T)) (g3 : GB none w2 w3) (n3 : w2.heap.size ≤ b2) (m4 : w4.heap[b2]? = some (.cells c T)) (g4 : GB (some b2) w3 w4) : Bx w b b1 b2 T z c l' w4 := by
  have hb := hs.lt
  have e1 : b ≠ b1 := by omega
  have h1 := lt_heap m1
  have k1 := g1.size
  have k2 := g2.size
  have k3 := g3.size
  refine ⟨(s2.keep (g3.block b s2.lt nofun)).keep (g4.block b (Nat.lt_of_lt_of_le s2.lt k3) fun e => by injection e with e; omega), g4.get (g3.get (g2.get m1 fun e => by injection e with e; omega) nofun) fun e => by injection e with e; omega, m4, ?_, n1, by omega, by omega, hb⟩
  exact GB.news ((g1.weak.trans g2).trans g3.weak) g4 (by omega)
section
variable {w : World} {b : Nat} {l : List Nat}
theorem own_sn {α : Type} {f : α → List Value} {T k : Nat} {v : Value} {acc : List α} {x : α} (h : w.ownsRow 0 T k v (acc.length + 1) ((acc.map f).flatten ++ f x)) : w.ownsRow 0 T k v (acc ++ [x]).length ((acc ++ [x]).map f).flatten := by simpa using h
abbrev Lrd (α : Type) (f : α → List Value) (rd₀ : List Nat → α × List Nat) (T k F G : Nat) : Prop := ∀ {J : World → Value → List α → Prop} (_ : J = fun w v l => w.ownsRow 0 T k v l.length (l.map f).flatten) {rd : List Nat → α × List Nat} (_ : rd = rd₀) {w : World} {b : Nat} {l : List Nat} {kv : Value} (_ : kv = .func (.func G) #[.pointer (some ⟨b, 0, none⟩)] #[]) (_ : Src w b l), CY F #[.pointer (some ⟨b, 0, none⟩), kv] w (fun v w' => ∃ x l', rdList rd l = (x, l') ∧ Fz w' T k v x.length (x.map f).flatten ∧ Src w' b l' ∧ GB (some b) w w')
theorem list_rd : Lrd Row Row.cells rdRow 128 2 225 226 ∧ Lrd Rep Rep.cells rdRep 57 7 227 193 := by
  constructor <;> intro J hJ rd hrd w b l kv hkv hs
  have rr := @row_rd
  refine callE Tryz.func225 rfl rfl ?_
  rotate_left
  have rr := @rep_rd
  refine callE Tryz.func227 rfl rfl ?_
  rotate_left
  all_goals
    refine ⟨_, n8_ok hs, ?_⟩
    rintro _ w1 ⟨n, l1, en, hn, rfl, s1, g1⟩
    refine ⟨fun m s wk => ∃ (i : Nat) (v : Value) (acc : List _) (li : List Nat), m = n - i ∧ i ≤ n ∧ s = [(0, .pointer (some ⟨b, 0, none⟩)), (1, kv), (5, v), (7, .int .u8 n), (8, .int .u8 i)] ∧ J wk v acc ∧ Src wk b li ∧ GB (some b) w wk ∧ (∀ g, v.ownBlock = some g → w.heap.size ≤ g) ∧ rdL rd n l1 = (acc ++ (rdL rd (n - i) li).1, (rdL rd (n - i) li).2) ∧ acc.length = i, ⟨_, _, ⟨0, .slice none 0 0, [], l1, rfl, Nat.zero_le _, rfl, hJ ▸ own0 _ _ _, s1, g1, nofun, rfl, rfl⟩, sb rfl⟩, ?_⟩
    clear s1 g1
    rintro m s wk ⟨i, v, acc, li, rfl, hi, rfl, ho, sk, gk, nk, hr, hli⟩
    subst hJ hrd hkv
    obtain ⟨va, vc, rfl⟩ := own_slice ho
    refine spl (fun e => ?_) (fun e => ?_)
    · have e1 : i < n := by have := of_decide_eq_true e; omega
      obtain ⟨d, hd, rfl⟩ := sk
      refine ⟨_, _, hd, _, rfl, spl (fun q => ?_) (fun q => ?_)⟩
      · rw [dl_nil.1 q, rdL_end, List.append_nil] at hr
        exact ⟨_, _, by rw [rdList, nx_eq en]; exact hr, own_fz ho, ⟨d, hd, dl_nil.1 q⟩, gk⟩
      · have q1 : dl d ≠ [] := fun z => by rw [dl_nil.2 z] at q; cases q
        refine ⟨_, rr ⟨d, hd, rfl⟩, ?_⟩
        rintro _ w2 ⟨x, l2, ex, rfl, s2, g2⟩
        refine fun w3 b3 m3 g3 l3 => ?_
        have hb := hs.lt
        have ho3 := owns_rely (own_src ho g2 nk hb) fun x hx => by obtain ⟨c, hc⟩ := own_obj (own_src ho g2 nk hb) hx; exact g3.block x (lt_heap hc) nofun
        refine ⟨_, x.cells, ho3, ⟨_, _, m3, rfl, rfl, rfl⟩, by omega, fun v' w4 ho4 g4 n4 => ?_⟩
        obtain ⟨va', vc', rfl⟩ := own_slice ho4
        have gk2 : GB (some b) w w3 := (gk.trans g2).trans g3.weak
        have nk' : ∀ g, (Value.slice va' (acc.length + 1) vc').ownBlock = some g → w.heap.size ≤ g := fun g hg => (n4.own g hg).elim (nk g) fun z => Nat.le_trans gk2.size z
        have s4 : Src w4 b l2 := (s2.keep (g3.block b s2.lt nofun)).keep (g4.block b (Nat.lt_of_lt_of_le s2.lt g3.size) fun z => by have := nk b z.symm; omega)
        have g4' : GB (some b) w w4 := ⟨g4.os.trans gk2.os, g4.out.trans gk2.out, Nat.le_trans gk2.size g4.size, fun y hy hn => (g4.block y (Nat.lt_of_lt_of_le hy gk2.size) fun z => by have := nk y z.symm; omega).trans (gk2.block y hy hn)⟩
        refine ⟨⟨by omega, by omega⟩, _, _, ⟨i + 1, _, acc ++ [x], l2, rfl, by omega, rfl, own_sn ho4, s4, g4', nk', ?_, by simp [hli]⟩, (sb rfl), by omega⟩
        rw [hr, show n - i = (n - (i + 1)) + 1 by omega, rdL_more ex q1]; simp
    · have e1 : i = n := by have := of_decide_eq_false e; omega
      rw [e1, Nat.sub_self] at hr
      exact ⟨_, _, by rw [rdList, nx_eq en]; simpa [rdL] using hr, own_fz ho, sk, gk⟩
theorem rg_rd (hs : Src w b l) : CY 199 #[.pointer (some ⟨b, 0, none⟩)] w (fun v w' => ∃ x l', rdRg l = (x, l') ∧ (∃ rv dv, v = .agg (rgC x rv dv).toArray ∧ RgIn w' x rv dv) ∧ Src w' b l' ∧ GB (some b) w w') := by
  refine callE Tryz.func199 rfl rfl ?_
  refine fun w1 b1 m1 g1 l1 w2 b2 m2 g2 l2 => ?_
  have B := Bx.new hs m1 g1 l1 m2 g2 l2
  clear m1 m2 g1 g2 l1 l2
  refine ⟨_, n8_ok B.s, ?_⟩
  rintro _ w3 ⟨src, l3, esrc, csrc, rfl, s3, g3⟩
  refine B.mv s3 g3 rfl fun w4 B => ?_
  refine ⟨_, n8_ok B.s, ?_⟩
  rintro _ w3 ⟨dst, l3, edst, cdst, rfl, s3, g3⟩
  refine B.mv s3 g3 rfl fun w4 B => ?_
  refine ⟨_, n32_ok B.s, ?_⟩
  rintro _ w3 ⟨seq, l3, eseq, cseq, rfl, s3, g3⟩
  refine B.mv s3 g3 rfl fun w4 B => ?_
  refine ⟨_, n64_ok B.s, ?_⟩
  rintro _ w3 ⟨lo, l3, elo, clo, rfl, s3, g3⟩
  refine B.mv s3 g3 rfl fun w4 B => ?_
  refine ⟨_, n64_ok B.s, ?_⟩
  rintro _ w3 ⟨hi, l3, ehi, chi, rfl, s3, g3⟩
  refine B.mv s3 g3 rfl fun w4 B => ?_
  refine ⟨_, list_rd.1 rfl rfl rfl B.s, ?_⟩
  rintro _ w3 ⟨rows, l3, erows, ⟨rowsa, rowsc, rfl, frows⟩, s3, g3⟩
  have frows : Fz w3 _ _ _ _ _ := ⟨_, _, rfl, frows⟩
  replace B := B.rd s3 g3
  clear s3 g3
  refine ⟨_, _, _, B.m2, rfl, rfl, fun w4 m4 g4 => ?_⟩
  replace frows := frows.gbt g4 B.m2 (by decide)
  replace B := B.st m4 g4
  clear m4 g4
  refine ⟨_, list_rd.2 rfl rfl rfl B.s, ?_⟩
  rintro _ w3 ⟨dups, l3, edups, ⟨dupsa, dupsc, rfl, fdups⟩, s3, g3⟩
  have fdups : Fz w3 _ _ _ _ _ := ⟨_, _, rfl, fdups⟩
  replace frows := frows.gbt g3 B.s.choose_spec.1 (by decide)
  replace B := B.rd s3 g3
  clear s3 g3
  refine ⟨_, _, _, B.m2, rfl, rfl, fun w4 m4 g4 => ?_⟩
  replace frows := frows.gbt g4 B.m2 (by decide)
  replace fdups := fdups.gbt g4 B.m2 (by decide)
  replace B := B.st m4 g4
  clear m4 g4
  refine B.en (rgC ⟨src, dst, seq, lo, hi, rows, dups⟩ (.slice rowsa rows.length rowsc) (.slice dupsa dups.length dupsc)) rfl rfl rfl rfl rfl fun w5 s5 g5 q5 => ?_
  replace frows := frows.gbt q5 B.m1 (by decide)
  replace fdups := fdups.gbt q5 B.m1 (by decide)
  exact ⟨_, _, by rw [rdRg, nx_eq esrc, nx_eq edst, nx_eq eseq, nx_eq elo, nx_eq ehi, rn_eq erows, rn_eq edups], ⟨_, _, rfl, frows, fdups⟩, s5, g5⟩
theorem cmd_rd (hs : Src w b l) : CY 198 #[.pointer (some ⟨b, 0, none⟩)] w (fun v w' => ∃ x l', rdCmd l = (x, l') ∧ CIn w' v x ∧ Src w' b l' ∧ GB (some b) w w') := by
  refine callE Tryz.func198 rfl rfl ?_
  refine fun w1 b1 m1 g1 l1 => ?_
  refine ⟨_, n8_ok (hs.keep (g1.block b hs.lt nofun)), ?_⟩
  rintro _ w2 ⟨k, l2, ek, ck, rfl, s2, g2⟩
  refine fun w3 b3 m3 g3 l3 => ⟨_, _, _, m3, rfl, rfl, fun w4 m4 g4 => ?_⟩
  have B := Bx.new2 hs m1 g1 l1 s2 g2 m3 g3 l3 m4 g4
  clear m1 g1 l1 s2 g2 m3 g3 l3 m4 g4
  refine ⟨_, _, B.m2, _, rfl, spl (fun q => ?_) (fun q => ?_)⟩
  · have q1 : k = 1 := by simp at q; omega
    refine ⟨_, req_rd B.s, ?_⟩
    rintro _ w3 ⟨x, l3, ex, rfl, s3, g3⟩
    refine B.mv s3 g3 rfl fun w4 B => ?_
    exact B.en (mcC ⟨k, x, zRg, 0, 0⟩ (.slice none 0 0) (.slice none 0 0)) rfl rfl rfl rfl rfl fun _ s5 g5 _ => ⟨_, _, by rw [rdCmd, nx_eq ek, if_pos q1, rn_eq ex], ⟨_, _, rfl, RgIn.zero _⟩, s5, g5⟩
  · have q1 : ¬ k = 1 := by simp at q; omega
    refine spl (fun q => ?_) (fun q => ?_)
    · have q2 : k = 2 := by simp at q; omega
      refine ⟨_, rg_rd B.s, ?_⟩
      rintro _ w3 ⟨x, l3, ex, ⟨rv, dv, rfl, hr⟩, s3, g3⟩
      obtain ⟨ra, rm, rc, da, dm, dc, rfl, rfl⟩ := hr.sl
      replace B := B.rd s3 g3
      clear s3 g3
      refine ⟨_, _, _, B.m2, rfl, rfl, fun w4 m4 g4 => ?_⟩
      replace hr := hr.gbt g4 B.m2 (by decide) (by decide)
      replace B := B.st m4 g4
      clear m4 g4
      refine B.en (mcC ⟨k, zRq, x, 0, 0⟩ (.slice ra rm rc) (.slice da dm dc)) rfl rfl rfl rfl rfl fun w5 s5 g5 q5 => ?_
      replace hr := hr.gbt q5 B.m1 (by decide) (by decide)
      exact ⟨_, _, by rw [rdCmd, nx_eq ek, if_neg q1, if_pos q2, rn_eq ex], ⟨_, _, rfl, hr⟩, s5, g5⟩
    · have q2 : ¬ k = 2 := by simp at q; omega
      refine spl (fun q => ?_) (fun q => ?_)
      · have q3 : k = 3 := by simp at q; omega
        refine ⟨_, n8_ok B.s, ?_⟩
        rintro _ w3 ⟨p, l3, ep, cp, rfl, s3, g3⟩
        refine B.mv s3 g3 rfl fun w4 B => ?_
        refine ⟨_, n32_ok B.s, ?_⟩
        rintro _ w3 ⟨s, l3, es, cs, rfl, s3, g3⟩
        refine B.mv s3 g3 rfl fun w4 B => ?_
        exact B.en (mcC ⟨k, zRq, zRg, p, s⟩ (.slice none 0 0) (.slice none 0 0)) rfl rfl rfl rfl rfl fun _ s5 g5 _ => ⟨_, _, by rw [rdCmd, nx_eq ek, if_neg q1, if_neg q2, if_pos q3, nx_eq ep, nx_eq es], ⟨_, _, rfl, RgIn.zero _⟩, s5, g5⟩
      · have q3 : ¬ k = 3 := by simp at q; omega
        exact B.en (mcC ⟨k, zRq, zRg, 0, 0⟩ (.slice none 0 0) (.slice none 0 0)) rfl rfl rfl rfl rfl fun _ s5 g5 _ => ⟨_, _, by rw [rdCmd, nx_eq ek, if_neg q1, if_neg q2, if_neg q3], ⟨_, _, rfl, RgIn.zero _⟩, s5, g5⟩
theorem vote_rd (hs : Src w b l) : CY 196 #[.pointer (some ⟨b, 0, none⟩)] w (fun v w' => ∃ x l', rdVote l = (x, l') ∧ VIn w' v x ∧ Src w' b l' ∧ GB (some b) w w') := by
  refine callE Tryz.func196 rfl rfl ?_
  refine fun w1 b1 m1 g1 l1 w2 b2 m2 g2 l2 => ?_
  have B := Bx.new hs m1 g1 l1 m2 g2 l2
  clear m1 m2 g1 g2 l1 l2
  refine ⟨_, n32_ok B.s, ?_⟩
  rintro _ w3 ⟨s, l3, es, cs, rfl, s3, g3⟩
  refine B.mv s3 g3 rfl fun w4 B => ?_
  refine ⟨_, bal_rd B.s, ?_⟩
  rintro _ w3 ⟨x, l3, ex, rfl, s3, g3⟩
  refine B.mv s3 g3 rfl fun w4 B => ?_
  refine ⟨_, cmd_rd B.s, ?_⟩
  rintro _ w3 ⟨c, l3, ec, ⟨rv, dv, rfl, hr⟩, s3, g3⟩
  obtain ⟨ra, rm, rc, da, dm, dc, rfl, rfl⟩ := hr.sl
  replace B := B.rd s3 g3
  clear s3 g3
  refine ⟨_, _, _, B.m2, rfl, rfl, fun w4 m4 g4 => ?_⟩
  replace hr := hr.gbt g4 B.m2 (by decide) (by decide)
  replace B := B.st m4 g4
  clear m4 g4
  refine B.en (mvC ⟨s, x, c⟩ (.slice ra rm rc) (.slice da dm dc)) rfl rfl rfl rfl rfl fun w5 s5 g5 q5 => ?_
  replace hr := hr.gbt q5 B.m1 (by decide) (by decide)
  exact ⟨_, _, by rw [rdVote, nx_eq es, rn_eq ex, rn_eq ec], ⟨_, _, rfl, hr⟩, s5, g5⟩
end
theorem pk_el {q : List Pkt} {k : Nat} {p : Pkt} (h : q[k]? = some p) {cur : List Value} (ht : cur.take (q.length * 5) = flat q) : cutL cur (k * 5) 5 = p.cells := by
  have h1 := elemL (f := Pkt.cells) (size := 5) (fun _ => rfl) q k p h
  have hk : k < q.length := (List.getElem?_eq_some_iff.1 h).1
  rw [← h1, show q.flatMap Pkt.cells = flat q from rfl, ← ht]
  unfold cutL
  rw [List.drop_take, List.take_take, Nat.min_eq_left (by omega)]
section
variable {w : World}
theorem deliv1_ok {b4 b1 br : Nat} {p : Pkt} {Post : Value → World → Prop} (h4 : w.heap[b4]? = some (.cells #[.pointer (some ⟨br, 0, none⟩)] 133)) (h1 : Hl w b1 p.cells 139) (hc : CY 65 #[.pointer (some ⟨br, 0, none⟩), .agg p.cells.toArray] w (fun v w' => v = .tuple #[] ∧ Post (.tuple #[]) w')) : CY 64 #[.pointer (some ⟨b4, 0, none⟩), .pointer (some ⟨b1, 0, none⟩)] w Post := by
  refine callE Tryz.func64 rfl rfl ?_
  refine ⟨_, _, h4, _, rfl, _, _, h1, p.cells, rfl, rfl, _, hc, ?_⟩
  rintro _ w' ⟨rfl, hp⟩
  exact hp
end
def Clu.deliv (A : Apl) (C : Clu) (k : Int) : Clu := if 0 ≤ k then C.deliver A k.toNat else C
section
variable {A : Apl} (HA : AplOK A) (HN : NetOK A) {Λ : Snp} {w : World} {bc : Nat} {C : Clu}
include HA HN
theorem Clu.Fine.deliv (h : C.Fine A) (k : Int) : (C.deliv A k).Fine A := by
  unfold Clu.deliv
  split
  · exact h.deliver HA HN _
  · exact h
theorem deliver_X (h : ClK Λ bc C w) (hf : C.Fine A) (k : Int) : CallsX Tryz.prog 24 #[.pointer (some ⟨bc, 0, none⟩), .int .i64 k] w (fun v w' => v = .int .i64 (if 0 ≤ k ∧ k < C.q.length then 0 else 7) ∧ ClK Λ bc (C.deliv A k) w' ∧ Kz w w') := by
  obtain ⟨gv, sv, B, ad, h⟩ := h
  refine callX eng mixed Tryz.func24 rfl rfl ?_
  obtain ⟨sa, sc, rfl⟩ := own_slice h.ci.row
  have hlen := hf.len
  by_cases k0 : k < 0
  · refine spl (fun c => ?_) (fun c => ?_)
    · have : ¬ k < 0 := by simpa using c
      omega
    · have e : Clu.deliv A C k = C := by unfold Clu.deliv; rw [if_neg (by omega)]
      rw [e, if_neg (fun x => by omega)]
      exact ⟨rfl, ⟨_, _, _, _, h⟩, Kz.refl _⟩
  refine spl (fun c => ?_) (fun c => (by have : k < 0 := (by simpa using c); omega))
  refine ⟨_, _, h.ci.clu, _, rfl, ?_⟩
  refine spl (fun d => ?_) (fun d => ?_)
  · have d1 : (C.q.length : Int) ≤ k := by simpa using d
    have e : Clu.deliv A C k = C := by
      unfold Clu.deliv Clu.deliver
      rw [if_pos (by omega), List.getElem?_eq_none (by omega)]
    rw [e, if_neg (fun x => by omega)]
    exact ⟨rfl, ⟨_, _, _, _, h⟩, Kz.refl _⟩
  · have d1 : k < (C.q.length : Int) := by have := of_decide_eq_false d; omega
    obtain ⟨k, rfl⟩ : ∃ k' : Nat, k = (k' : Int) := ⟨k.toNat, by omega⟩
    have hk : k < C.q.length := by omega
    obtain ⟨p, hp⟩ : ∃ p, C.q[k]? = some p := ⟨C.q[k], by simp [hk]⟩
    have hpo := hf.net p (List.mem_of_getElem? hp)
    obtain ⟨bs, cap, cur, hsv, hcur, htk, hsz, hcap⟩ := own_el h.ci.row (by omega)
    injection hsv with hsv _ hsc
    subst hsv
    subst hsc
    have hel := pk_el hp htk
    obtain ⟨f8, ef1, ef2⟩ := hpo.f8 hf.n hf.sz
    obtain ⟨t1, t2, t3, t4⟩ := hpo.1
    have et1 : p.tg = (p.tg.toNat : Int) := by omega
    have et2 : p.tr = (p.tr.toNat : Int) := by omega
    refine ⟨_, _, h.ci.clu, _, rfl, ⟨by omega, by omega⟩, _, _, hcur, p.cells, by show cutL cur.toList (0 + k * 5) 5 = _; rw [Nat.zero_add]; exact hel, rfl, fun w1 b1 m1 g1 l1 => ⟨_, _, _, m1, rfl, rfl, fun w2 m2 g2 => ?_⟩⟩
    have g02 : GB none w w2 := g1.new g2 l1
    have h2 := h.gb0 g02
    have hfi := find_ok h2.ci hf.n hf.sz p.tg.toNat p.tr.toNat (by omega) (by omega)
    rw [← et1, ← et2] at hfi
    refine ⟨_, _, m2, [.int .u8 p.tg, .int .u8 p.tr], rfl, rfl, _, hfi.x, ?_⟩
    rintro _ w3 ⟨rfl, g3⟩
    refine fun w4 b4 m4 g4 l4 => ⟨_, _, _, m4, rfl, rfl, fun w5 m5 g5 => ?_⟩
    have g45 : GB none w3 w5 := g4.new g5 l4
    have g25 := g3.trans g45
    have h5 := h2.gb0 g25
    have m25 := g25.get m2 nofun
    refine ⟨_, _, m5, _, rfl, ?_⟩
    rw [if_pos ⟨by omega, by omega⟩]
    have ed : Clu.deliv A C (k : Int) = if p.tg.toNat < C.n ∧ p.tr.toNat < C.sz then C.done p.tg.toNat p.tr.toNat (mTake A (C.F p.tg.toNat p.tr.toNat) (p.fg.toNat, p.fr.toNat) p.d) else C := by
      unfold Clu.deliv Clu.deliver
      rw [if_pos (by omega), Int.toNat_natCast, hp]
    rw [ed]
    by_cases c : p.tg.toNat < C.n ∧ p.tr.toNat < C.sz
    · rw [if_pos c] at m5 ⊢
      rw [if_pos c]
      have o := hf.ok _ _ c.1 c.2
      have e := hf.out _ _ c.1 c.2
      have gm := hpo.gm HN hf.sz o (hf.sd _ _ c.1 c.2).1
      have hl := take_len HA o gm
      rw [e] at hl
      have m5' : w5.heap[b4]? = some (.cells #[.pointer (some ⟨B p.tg.toNat p.tr.toNat, 0, none⟩)] 133) := m5
      have m25' : Hl w5 b1 p.cells 139 := m25
      refine ⟨_, _, m5', _, rfl, _, step_X h5 c.1 c.2 (f := 64) (fst := #[]) (cap := #[.pointer (some ⟨b4, 0, none⟩), .pointer (some ⟨b1, 0, none⟩)]) Tryz.func64 (by kernel_rfl) (by kernel_rfl) (R' := mTake A (C.F p.tg.toNat p.tr.toNat) (p.fg.toNat, p.fr.toNat) p.d) (by simp only [List.length_nil] at hl; omega) (fun w6 g6 => ?_), ?_⟩
      · have ht := take_ok HA HN.kind ((h5.gb0 g6).ci.enter c.1 c.2) o (p.fg.toNat, p.fr.toNat) (p.tg.toNat, p.tr.toNat) p.d gm (by rw [e]; exact Nat.zero_le _)
        have ep : (Value.agg p.cells.toArray) = .agg #[.int .u8 (p.fg.toNat : Int), .int .u8 (p.fr.toNat : Int), .int .u8 (p.tg.toNat : Int), .int .u8 (p.tr.toNat : Int), .string p.d] := by
          rw [← ef1, ← ef2, ← et1, ← et2]; rfl
        refine deliv1_ok (p := p) (g6.get m5' nofun) (g6.get m25' nofun) ?_
        rw [ep]
        exact CallsY.mono' ht fun v w' hp => ⟨hp.1, hp.2⟩
      · rintro _ w6 ⟨rfl, h6, k6⟩
        exact ⟨rfl, h6, (g02.trans g25).kz.trans k6⟩
    · rw [if_neg c, if_neg c]
      exact ⟨rfl, ⟨_, _, _, _, h5⟩, (g02.trans g25).kz⟩
end
end
end Go.Proofs.YtignemioillaiaaGreat
