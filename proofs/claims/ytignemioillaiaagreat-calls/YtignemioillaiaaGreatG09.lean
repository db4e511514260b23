/- Cells in a row, and lists of equal length. -/
import Derived.Laws.AppendOwnNone
import Derived.Test.YtignemioillaiaaGreatG08
import Derived.Laws.BitsAllLaws
namespace Go.Proofs.YtignemioillaiaaGreat
set_option maxHeartbeats 8000000
set_option maxRecDepth 100000
section
open Go.RowKit
theorem BN {size : Nat} : ∀ (xs : List (List Value)) (_ : ∀ x ∈ xs, x.length = size) (j : Nat) (u : Value), xs.flatten[j]? = some u → ∃ i x k, xs[i]? = some x ∧ x[k]? = some u ∧ j = i * size + k
  | [], _, j, u, h => by simp at h
  | x :: xs, hall, j, u, h => by
    have hx : x.length = size := hall x (by simp)
    rw [List.flatten_cons] at h
    by_cases hj : j < x.length
    · rw [List.getElem?_append_left hj] at h
      exact ⟨0, x, j, rfl, h, by omega⟩
    · rw [List.getElem?_append_right (by omega)] at h
      obtain ⟨i, y, k, h1, h2, h3⟩ := BN xs (fun y hy => hall y (by simp [hy])) _ u h
      exact ⟨i + 1, y, k, by simpa using h1, h2, by rw [Nat.add_mul]; omega⟩
theorem Im {size : Nat} : ∀ (xs : List (List Value)) (_ : ∀ x ∈ xs, x.length = size) (i : Nat) (x : List Value) (k : Nat) (u : Value), xs[i]? = some x → x[k]? = some u → xs.flatten[i * size + k]? = some u
  | [], _, i, x, k, u, h, _ => by simp at h
  | y :: xs, hall, i, x, k, u, h, hu => by
    have hy : y.length = size := hall y (by simp)
    rw [List.flatten_cons]
    cases i with
    | zero =>
      simp at h; subst h
      have := (List.getElem?_eq_some_iff.1 hu).1
      rw [List.getElem?_append_left (by omega)]
      simpa using hu
    | succ i =>
      rw [List.getElem?_append_right (by rw [Nat.add_mul]; omega)]
      have := Im xs (fun z hz => hall z (by simp [hz])) i x k u (by simpa using h) hu
      rw [show (i + 1) * size + k - y.length = i * size + k by rw [Nat.add_mul]; omega]
      exact this
theorem cz.news {B : Nat} {w : World} {s : Sl} {size : Nat} {xs : List (List Value)} (h : cz B w s size xs) (hall : ∀ x ∈ xs, x.length = size) (ad : Addr) (ha : s.a = some ad) (hpos : 0 < s.len) :
    ∀ (j : Nat) (u : Value), xs.flatten[j]? = some u → w.cell? (ad.add j) = some u := by
  intro j u hu
  obtain ⟨b, off, ha', _, hc⟩ := h.at' hpos
  rw [ha] at ha'
  simp only [Option.some.injEq] at ha'
  subst ha'
  obtain ⟨i, x, k, h1, h2, rfl⟩ := BN xs hall j u hu
  have := hc i x h1 k u h2
  have hadd : (⟨b, off, none⟩ : Addr).add (i * size + k) = ⟨b, off + (i * size + k), none⟩ := by unfold Addr.add; split <;> simp_all
  rw [hadd, ← Nat.add_assoc]; exact this
theorem NQ {w : World} {base : Nat} {e : TypeId} {size : Nat} {v : Value} {xs : List (List Value)} (hown : w.ownsRow base e size v xs.length xs.flatten) (hall : ∀ x ∈ xs, x.length = size) :
    ∃ a n c, v = .slice a n c ∧ cz w.heap.size w ⟨a, n, c⟩ size xs ∧ (a = none → c = 0) := by
  rcases hown.2 with ⟨rfl, hn⟩ | ⟨g, cap, cur, rfl, hb, hgg, hnc, hcm, hcs, htake⟩
  · exact ⟨none, 0, 0, rfl, ⟨hn.symm, Nat.le_refl _, Nat.zero_le _, fun h => absurd h (Nat.lt_irrefl 0)⟩, fun _ => rfl⟩
  · refine ⟨_, _, _, rfl, ⟨rfl, hnc, hcm, fun _ => ⟨g, 0, rfl, (Array.getElem?_eq_some_iff.1 hgg).1, fun i x hx j u hu => ?_⟩⟩, fun h => by cases h⟩
    have := hown.cells (g := g) rfl (i * size + j) u (Im xs hall i x j u hx hu)
    have hadd : (⟨g, 0, none⟩ : Addr).add (i * size + j) = ⟨g, 0 + i * size + j, none⟩ := by unfold Addr.add; split <;> simp_all
    rw [hadd] at this; exact this
theorem NR : (Tryz.prog.info? 128).map (fun i => (i.zero, i.size, i.bytes)) = some (some (.agg #[.int .u64 0, .int .u64 0]), 2, 16) := by kernel_rfl
theorem NS : (Tryz.prog.info? 57).map (fun i => (i.zero, i.size, i.bytes)) = some (some (.agg (List.toArray fT)), 7, 40) := by kernel_rfl
theorem oL (rows : List Row) : ∀ y ∈ rows.map Row.cells, y.length = 2 := by
  intro y hy; obtain ⟨r, _, rfl⟩ := List.mem_map.1 hy; rfl
theorem oN (bC : List ay) : ∀ y ∈ bC.map ay.cells, y.length = 7 := by
  intro y hy; obtain ⟨r, _, rfl⟩ := List.mem_map.1 hy; rfl
theorem wL {w : World} {base : Nat} {e : TypeId} {size : Nat} {v : Value} {n : Nat} {xs : List Value} (h : w.ownsRow base e size v n xs) : ∃ a m c, v = .slice a m c := by
  rcases h.2 with ⟨rfl, _⟩ | ⟨g, cap, cur, rfl, _⟩
  · exact ⟨_, _, _, rfl⟩
  · exact ⟨_, _, _, rfl⟩
theorem dB {w w' : World} {base B : Nat} {e : TypeId} {size : Nat} {v : Value} {n : Nat} {xs : List Value} (h : w.ownsRow base e size v n xs) (hO : Only B w w') (hB : B < base) : w'.ownsRow base e size v n xs :=
  h.kept ⟨hO.os, hO.tape, hO.output, Nat.le_of_eq hO.size.symm, fun k _ hk => hO.block k (fun e => hk (by rw [e]))⟩ (.inr (by intro e; have := (h.lt B e).1; omega))
theorem dA {w : World} {base base' : Nat} {e : TypeId} {size : Nat} {v : Value} {n : Nat} {xs : List Value} (h : w.ownsRow base e size v n xs) (hb : base' ≤ base) : w.ownsRow base' e size v n xs :=
  ⟨h.1, h.2.imp id fun ⟨g, cap, cur, h1, h2, h3⟩ => ⟨g, cap, cur, h1, Nat.le_trans hb h2, h3⟩⟩

def ax.strip (r : ax) : ax := { r with rs := ⟨none, r.rows.length, r.rows.length⟩, ds := ⟨none, r.bC.length, r.bC.length⟩ }
def aR.strip (c : aR) : aR := { c with aH := c.aH.strip }
def bz.strip (v : bz) : bz := { v with cmd := v.cmd.strip }
def aM.strip (m : aM) : aM := { m with cmd := m.cmd.strip, aH := m.aH.strip, vs := ⟨Option.none, m.aV.length, m.aV.length⟩, aV := m.aV.map bz.strip }
def ax.fit (r : ax) : Prop := r.rs.len = r.rows.length ∧ r.ds.len = r.bC.length
theorem ax.AP {r : ax} (h : r.fit) : r.strip.no = r.no := by
  unfold ax.no ax.strip; simp only [h.1, h.2]
theorem ax.lX (r : ax) : r.strip.ok = r.ok := rfl
theorem aR.lX {c : aR} (h : c.aH.fit) : c.strip.ok = c.ok := by
  have := ax.AP h
  unfold aR.ok aR.strip; simp only [this, ax.lX]
theorem aR.J3 {c : aR} (h : c.aH.fit) : c.strip.bare = c.bare := by
  have := ax.AP h
  unfold aR.bare aR.strip; simp only [this]
theorem aR.lu (c : aR) : c.strip.bytes = c.bytes := rfl
theorem bz.lu (v : bz) : v.strip.bytes = v.bytes := rfl
theorem FD {aV : List bz} (h : ∀ (i : Nat) (x : bz), aV[i]? = some x → x.cmd.aH.fit) (i : Nat) : kJ (aV.map bz.strip) i = kJ aV i := by
  unfold kJ
  rw [List.getElem?_map, List.getElem?_map]
  cases hx : aV[i]? with
  | none => rfl
  | some x =>
    have h1 : x.strip.cmd.ok = x.cmd.ok := aR.lX (h i x hx)
    simp only [Option.map_some, h1]
    cases hy : aV[i - 1]? with
    | none => rfl
    | some y => rfl
theorem EB {aV : List bz} (h : ∀ (i : Nat) (x : bz), aV[i]? = some x → x.cmd.aH.fit) : iP (aV.map bz.strip) = iP aV := by
  unfold iP
  rw [List.length_map]
  congr 1
  exact congrArg (fun f => List.all (List.range aV.length) f) (funext fun i => FD h i)
theorem r9 (aV : List bz) : kT (aV.map bz.strip) = kT aV := by
  unfold kT; rw [List.map_map]; rfl
structure aM.fit (m : aM) : Prop where
  cmd : m.cmd.aH.fit
  aH : m.aH.fit
  vs : m.vs.len = m.aV.length
  aV : ∀ (i : Nat) (x : bz), m.aV[i]? = some x → x.cmd.aH.fit
theorem aM.lX {m : aM} (h : m.fit) : m.strip.ok = m.ok := by
  have h1 := aR.lX h.cmd
  have h2 := aR.J3 h.cmd
  have h3 := ax.AP h.aH
  have h4 := EB h.aV
  unfold aM.ok aM.strip
  simp only [h1, h2, h3, h4, h.vs, ax.lX]
  rfl
theorem aM.lu (m : aM) : m.strip.bytes = m.bytes := by
  have h1 := r9 m.aV
  unfold aM.bytes aM.tail aM.strip
  simp only [h1, List.length_map, aR.lu]
  rfl
structure ax.Own (S : Nat) (w : World) (r : ax) : Prop where
  rows : w.ownsRow S 128 2 r.rs.val r.rows.length (r.rows.map Row.cells).flatten
  bC : w.ownsRow S 57 7 r.ds.val r.bC.length (r.bC.map ay.cells).flatten
theorem own_below {w w' : World} {base : Nat} {e : TypeId} {size : Nat} {v : Value} {n : Nat} {xs : List Value} (h : w.ownsRow base e size v n xs) (hb : Below w.heap.size w w') : w'.ownsRow base e size v n xs :=
  World.ownsRow.kept h (row := none) ⟨hb.os, hb.tape, hb.output, hb.size, fun k hk _ => hb.block k hk⟩ (by cases hv : v.ownBlock <;> simp)
theorem D6 {w : World} {b1 b2 : Nat} {e1 e2 : TypeId} {s1 s2 : Nat} {v1 v2 : Value} {n1 n2 : Nat} {x1 x2 : List Value} (h1 : w.ownsRow b1 e1 s1 v1 n1 x1) (h2 : w.ownsRow b2 e2 s2 v2 n2 x2) (hne : e1 ≠ e2) : v1.ownBlock = none ∨ v1.ownBlock ≠ v2.ownBlock := by
  rcases h1.2 with ⟨rfl, _⟩ | ⟨g, cap, cur, rfl, _, hg, _⟩
  · exact .inl rfl
  · right
    rcases h2.2 with ⟨rfl, _⟩ | ⟨g', cap', cur', rfl, _, hg', _⟩
    · intro e; cases e
    · intro e
      simp only [Value.ownBlock, Option.some.injEq] at e
      subst e
      rw [hg] at hg'
      injection hg' with hg'
      injection hg' with _ h9 _
      exact hne h9
theorem ax.Own.below {S : Nat} {w w' : World} {r : ax} (h : r.Own S w) (hb : Below w.heap.size w w') : r.Own S w' := ⟨own_below h.rows hb, own_below h.bC hb⟩
theorem ax.Own.only {S B : Nat} {w w' : World} {r : ax} (h : r.Own S w) (hO : Only B w w') (hB : B < S) : r.Own S w' := ⟨dB h.rows hO hB, dB h.bC hO hB⟩
theorem ax.Own.mono {S S' : Nat} {w : World} {r : ax} (h : r.Own S w) (hS : S' ≤ S) : r.Own S' w := ⟨dA h.rows hS, dA h.bC hS⟩
theorem ax.Own.grew {S : Nat} {w w' : World} {r : ax} {v v' : Value} {b n size : Nat} {xs : List Value} (h : r.Own S w) (hg : bD w v w' v') (hv : w.ownsRow b 196 size v n xs) : r.Own S w' :=
  ⟨World.ownsRow.kept h.rows hg.grown (D6 h.rows hv (by decide)), World.ownsRow.kept h.bC hg.grown (D6 h.bC hv (by decide))⟩
theorem fC {w : World} {base : Nat} {e : TypeId} {size : Nat} {s : Sl} {xs : List (List Value)} (hown : w.ownsRow base e size s.val xs.length xs.flatten) (hall : ∀ x ∈ xs, x.length = size) : cz w.heap.size w s size xs := by
  obtain ⟨a, n, c, e, hin, _⟩ := NQ hown hall
  cases s
  unfold Sl.val at e
  cases e
  exact hin
theorem ax.Own.In {S : Nat} {w : World} {r : ax} (h : r.Own S w) : r.In w.heap.size w :=
  ⟨fC (by rw [List.length_map]; exact h.rows) (oL _), fC (by rw [List.length_map]; exact h.bC) (oN _)⟩
theorem NT : (Tryz.prog.info? 196).map (fun i => (i.zero, i.size, i.bytes)) = some (some (.agg (List.toArray pK)), 20, 152) := by kernel_rfl
theorem AQ (l : List bz) : ∀ y ∈ l.map bz.cells, y.length = 20 := by
  intro y hy; obtain ⟨r, _, rfl⟩ := List.mem_map.1 hy; rfl
def ax.room (r : ax) : Prop := (r.rs.a = none → r.rs.cap = 0) ∧ (r.ds.a = none → r.ds.cap = 0) ∧ r.rs.len * 16 ≤ 140737488355328 ∧ r.ds.len * 40 ≤ 140737488355328
def be (l : List Int) : Int := l.foldl (fun n b => n * 256 + b) 0
def num (n : Nat) (l : List Int) : Int × List Int := if l.length < n then (0, []) else (be (l.take n), l.drop n)
theorem num_1 (x : Int) (r : List Int) : num 1 (x :: r) = (x, r) := by
  unfold num; rw [if_neg (by simp)]; simp [be]
theorem mX {v : Int} (_h : gm v) (r : List Int) : num 4 (fM v ++ r) = (v, r) := by
  unfold gm at _h
  unfold num; rw [if_neg (by simp [aT])]
  have h1 : (fM v ++ r).take 4 = fM v := by rw [← aT v]; exact List.take_left
  have h2 : (fM v ++ r).drop 4 = r := by rw [← aT v]; exact List.drop_left
  rw [h1, h2]
  simp only [be, fM, List.foldl_cons, List.foldl_nil]
  congr 1; omega
theorem rD {v : Int} (_h : gp v) (r : List Int) : num 8 (lq v ++ r) = (v, r) := by
  unfold gp at _h
  unfold num; rw [if_neg (by simp [aU])]
  have h1 : (lq v ++ r).take 8 = lq v := by rw [← aU v]; exact List.take_left
  have h2 : (lq v ++ r).drop 8 = r := by rw [← aU v]; exact List.drop_left
  rw [h1, h2]
  simp only [be, lq, fM, List.cons_append, List.nil_append, List.foldl_cons, List.foldl_nil]
  congr 1; omega
abbrev Rd (α : Type) := List Int → α × List Int
def aS : Rd aD := fun l =>
  let c := num 1 l; let s := num 4 c.2; let k := num 1 s.2; let key := num 8 k.2
  if k.1 = 2 then let v := num 8 key.2; (⟨c.1, s.1, k.1, key.1, v.1, 0, 0⟩, v.2)
  else if k.1 = 4 then let hi := num 8 key.2; let to := num 1 hi.2; (⟨c.1, s.1, k.1, key.1, 0, hi.1, to.1⟩, to.2)
  else (⟨c.1, s.1, k.1, key.1, 0, 0, 0⟩, key.2)
def aW : Rd ay := fun l =>
  let c := num 1 l; let s := num 4 c.2; let key := num 8 s.2; let k := num 1 key.2
  if k.1 = 1 then
    let f := num 1 k.2
    if f.1 = 0 then (⟨c.1, s.1, key.1, k.1, false, 0, 0⟩, f.2) else let v := num 8 f.2; (⟨c.1, s.1, key.1, k.1, true, v.1, 0⟩, v.2)
  else if k.1 = 3 then let g := num 1 k.2; (⟨c.1, s.1, key.1, k.1, false, 0, g.1⟩, g.2)
  else (⟨c.1, s.1, key.1, k.1, false, 0, 0⟩, k.2)
def dE : Rd Row := fun l => let k := num 8 l; let v := num 8 k.2; (⟨k.1, v.1⟩, v.2)
def bB {α : Type} (f : Rd α) : Nat → Rd (List α)
  | 0, l => ([], l)
  | n + 1, l => if l = [] then ([], []) else let x := f l; let r := bB f n x.2; (x.1 :: r.1, r.2)
def bf : Rd ax := fun l =>
  let src := num 1 l; let dst := num 1 src.2; let seq := num 4 dst.2; let lo := num 8 seq.2; let hi := num 8 lo.2
  let n := num 1 hi.2; let rows := bB dE n.1.toNat n.2; let k := num 1 rows.2; let bC := bB aW k.1.toNat k.2
  (⟨src.1, dst.1, seq.1, lo.1, hi.1, ⟨none, rows.1.length, rows.1.length⟩, ⟨none, bC.1.length, bC.1.length⟩, rows.1, bC.1⟩, bC.2)
def iq : aD := ⟨0, 0, 0, 0, 0, 0, 0⟩
def lY : ay := ⟨0, 0, 0, 0, false, 0, 0⟩
def fH : ax := ⟨0, 0, 0, 0, 0, ⟨none, 0, 0⟩, ⟨none, 0, 0⟩, [], []⟩
def lJ : aR := ⟨0, iq, fH, 0, 0⟩
def aa : Rd aR := fun l =>
  let k := num 1 l
  if k.1 = 1 then let q := aS k.2; (⟨k.1, q.1, fH, 0, 0⟩, q.2)
  else if k.1 = 2 then let r := bf k.2; (⟨k.1, iq, r.1, 0, 0⟩, r.2)
  else if k.1 = 3 then let p := num 1 k.2; let s := num 4 p.2; (⟨k.1, iq, fH, p.1, s.1⟩, s.2)
  else (⟨k.1, iq, fH, 0, 0⟩, k.2)
def aP : Rd bz := fun l =>
  let s := num 4 l; let n := num 4 s.2; let i := num 1 n.2; let c := aa i.2
  (⟨s.1, n.1, i.1, c.1⟩, c.2)
theorem Lb {q : aD} (h : q.ok = true) (hw : q.wf) (r : List Int) : aS (q.bytes ++ r) = (q, r) := by
  obtain ⟨c, s, k, key, v, hi, to⟩ := q
  obtain ⟨h1, h2, h3, h4, h5, h6, h7⟩ := hw
  simp only [aD.ok, Bool.and_eq_true, Bool.or_eq_true, decide_eq_true_eq, beq_iff_eq] at h
  have e : (aD.mk c s k key v hi to).bytes ++ r = c :: (fM s ++ (k :: (lq key ++ ((aD.mk c s k key v hi to).tail ++ r)))) := by simp [aD.bytes]
  rw [e]
  unfold aS
  simp only [num_1, mX h2, rD h4, aD.tail]
  by_cases k2 : k = 2
  · subst k2
    simp only [if_true, rD h5]
    simp at h
    simp [h]
  · simp only [k2, if_false]
    by_cases k4 : k = 4
    · subst k4
      simp only [if_true, List.append_assoc, rD h6]
      simp only [List.cons_append, List.nil_append, num_1]
      simp at h
      simp [h]
    · simp only [k4, if_false, List.nil_append]
      simp [k2, k4] at h
      simp [h]
theorem Lc {p : ay} (h : p.ok = true) (hw : p.wf) (r : List Int) : aW (p.bytes ++ r) = (p, r) := by
  obtain ⟨c, s, key, k, f, v, g⟩ := p
  obtain ⟨h1, h2, h3, h4, h5, h6⟩ := hw
  simp only [ay.ok, Bool.and_eq_true, Bool.or_eq_true, decide_eq_true_eq, beq_iff_eq] at h
  have e : (ay.mk c s key k f v g).bytes ++ r = c :: (fM s ++ (lq key ++ (k :: ((ay.mk c s key k f v g).tail ++ r)))) := by simp [ay.bytes]
  rw [e]
  unfold aW
  simp only [num_1, mX h2, rD h3, ay.tail]
  by_cases k1 : k = 1
  · subst k1
    cases f
    · simp only [if_true, Bool.false_eq_true, if_false, List.cons_append, List.nil_append, num_1]
      simp at h
      simp [h]
    · simp only [if_true, List.cons_append, List.nil_append, num_1, rD h5]
      simp at h
      simp [h]
  · simp only [k1, if_false]
    by_cases k3 : k = 3
    · subst k3
      simp only [if_true, List.cons_append, List.nil_append, num_1]
      simp at h
      simp [h]
    · simp only [k3, if_false, List.nil_append]
      simp [k1, k3] at h
      simp [h]
theorem Tv {x : Row} (hw : x.wf) (r : List Int) : dE (x.bytes ++ r) = (x, r) := by
  obtain ⟨k, v⟩ := x
  obtain ⟨h1, h2⟩ := hw
  unfold dE Row.bytes
  simp only [List.append_assoc, rD h1, rD h2]
theorem Db {α : Type} (f : Rd α) (b : α → List Int) (xs : List α) (hx : ∀ x ∈ xs, b x ≠ [] ∧ ∀ r, f (b x ++ r) = (x, r)) (r : List Int) : bB f xs.length ((xs.map b).flatten ++ r) = (xs, r) := by
  induction xs with
  | nil => rfl
  | cons x t ih =>
    have h1 := hx x (by simp)
    simp only [List.length_cons, bB, List.map_cons, List.flatten_cons, List.append_assoc]
    rw [if_neg (by simp [h1.1])]
    rw [h1.2, ih (fun y hy => hx y (by simp [hy]))]
theorem Ld {x : ax} (h : x.ok = true) (hw : x.wf) (r : List Int) : bf (x.bytes ++ r) = (x.strip, r) := by
  obtain ⟨src, dst, seq, lo, hi, rs, ds, rows, bC⟩ := x
  obtain ⟨h1, h2, h3, h4, h5, h6, h7⟩ := hw
  simp only [ax.ok, pM, pO, Bool.and_eq_true, decide_eq_true_eq, List.all_eq_true] at h
  obtain ⟨⟨⟨⟨⟨_, _⟩, _⟩, _⟩, ⟨hr, _⟩⟩, ⟨hd, XQ⟩⟩ := h
  have e : (ax.mk src dst seq lo hi rs ds rows bC).bytes ++ r = src :: dst :: (fM seq ++ (lq lo ++ (lq hi ++ ((rows.length : Int) :: ((rows.map Row.bytes).flatten ++ ((bC.length : Int) :: ((bC.map ay.bytes).flatten ++ r))))))) := by
    simp [ax.bytes, ni, lN]
  rw [e]
  have hlr := Db dE Row.bytes rows (fun x hx => ⟨by intro h0; have := x.len; rw [h0] at this; simp at this, fun r => by
    obtain ⟨i, hi', rfl⟩ := List.mem_iff_getElem.1 hx
    exact Tv (h6 i _ (List.getElem?_eq_getElem hi')) r⟩) ((bC.length : Int) :: ((bC.map ay.bytes).flatten ++ r))
  have hld := Db aW ay.bytes bC (fun x hx => ⟨by simp [ay.bytes], fun r => by
    obtain ⟨i, hi', rfl⟩ := List.mem_iff_getElem.1 hx
    have h8 := XQ i (List.mem_range.2 hi')
    unfold lU at h8
    rw [List.getElem?_eq_getElem hi'] at h8
    simp only [Bool.and_eq_true] at h8
    exact Lc h8.1.1.1.1 (h7 i _ (List.getElem?_eq_getElem hi')) r⟩) r
  unfold bf
  simp only [num_1, mX h3, rD h4, rD h5, Int.toNat_natCast, hlr, hld]
  rfl
theorem mG {q : aD} (h : q.no = true) : q = iq := by
  obtain ⟨c, s, k, key, v, hi, to⟩ := q
  simp only [aD.no, Bool.and_eq_true, beq_iff_eq] at h
  obtain ⟨⟨⟨⟨⟨⟨rfl, rfl⟩, rfl⟩, rfl⟩, rfl⟩, rfl⟩, rfl⟩ := h
  rfl
theorem qR {p : ay} (h : p.no = true) : p = lY := by
  obtain ⟨c, s, key, k, f, v, g⟩ := p
  simp only [ay.no, Bool.and_eq_true, beq_iff_eq, Bool.not_eq_true'] at h
  obtain ⟨⟨⟨⟨⟨⟨rfl, rfl⟩, rfl⟩, rfl⟩, rfl⟩, rfl⟩, rfl⟩ := h
  rfl
theorem mH {r : ax} (h : r.no = true) (hf : r.fit) : r.strip = fH := by
  obtain ⟨src, dst, seq, lo, hi, ⟨ra, rn, rc⟩, ⟨da, dn, dc⟩, rows, bC⟩ := r
  obtain ⟨h1, h2⟩ := hf
  simp only [ax.no, Bool.and_eq_true, beq_iff_eq] at h
  obtain ⟨⟨⟨⟨⟨⟨rfl, rfl⟩, rfl⟩, rfl⟩, rfl⟩, h3⟩, h4⟩ := h
  simp only at h1 h2 h3 h4
  have e1 : rows = [] := List.eq_nil_of_length_eq_zero (by omega)
  have e2 : bC = [] := List.eq_nil_of_length_eq_zero (by omega)
  subst e1; subst e2
  rfl
theorem FE {c : aR} (h : c.ok = true) (hw : c.wf) (hf : c.aH.fit) (r : List Int) : aa (c.bytes ++ r) = (c.strip, r) := by
  obtain ⟨kind, aL, aH, peer, seq⟩ := c
  obtain ⟨h1, h2, h3, h4, h5⟩ := hw
  have e : (aR.mk kind aL aH peer seq).bytes ++ r = kind :: ((aR.mk kind aL aH peer seq).tail ++ r) := by simp [aR.bytes]
  rw [e]
  unfold aa
  simp only [num_1, aR.tail]
  simp only [aR.ok, Bool.or_eq_true, Bool.and_eq_true, beq_iff_eq, decide_eq_true_eq] at h
  rcases h with ((h | h) | h) | h
  · obtain ⟨⟨⟨⟨rfl, g1⟩, g2⟩, rfl⟩, rfl⟩ := h
    simp [aR.strip, mG g1, mH g2 hf]
  · obtain ⟨⟨⟨⟨rfl, g1⟩, g2⟩, rfl⟩, rfl⟩ := h
    simp [aR.strip, Lb g1 h2, mH g2 hf]
  · obtain ⟨⟨⟨⟨rfl, g1⟩, g2⟩, rfl⟩, rfl⟩ := h
    simp [aR.strip, mG g1, Ld g2 h3]
  · obtain ⟨⟨⟨rfl, g1⟩, g2⟩, _⟩ := h
    simp [aR.strip, mG g1, mH g2 hf, num_1, mX h5]
theorem Tw {v : bz} (h : v.cmd.ok = true) (hw : v.wf) (hf : v.cmd.aH.fit) (r : List Int) : aP (v.bytes ++ r) = (v.strip, r) := by
  obtain ⟨slot, n, id, cmd⟩ := v
  obtain ⟨h1, h2, h3, h4⟩ := hw
  have e : (bz.mk slot n id cmd).bytes ++ r = fM slot ++ (fM n ++ (id :: (cmd.bytes ++ r))) := by simp [bz.bytes, bJ]
  rw [e]
  unfold aP
  simp only [mX h1, mX h2, num_1, FE h h4 hf]
  rfl
def dx (k : Int) : aM := ⟨k, iq, lY, 0, 0, 0, lJ, ⟨none, 0, 0⟩, fH, 0, 0, []⟩
def bT : Rd aM := fun l =>
  let k := num 1 l
  if k.1 = 1 then let q := aS k.2; ({ dx k.1 with aL := q.1 }, q.2)
  else if k.1 = 2 then let p := aW k.2; ({ dx k.1 with rep := p.1 }, p.2)
  else if k.1 = 3 ∨ k.1 = 5 then let n := num 4 k.2; let i := num 1 n.2; ({ dx k.1 with n := n.1, id := i.1 }, i.2)
  else if k.1 = 4 then let n := num 4 k.2; let i := num 1 n.2; let c := num 1 i.2; let vs := bB aP c.1.toNat c.2
    ({ dx k.1 with n := n.1, id := i.1, vs := ⟨none, vs.1.length, vs.1.length⟩, aV := vs.1 }, vs.2)
  else if k.1 = 6 then let n := num 4 k.2; let i := num 1 n.2; let s := num 4 i.2; let c := aa s.2; ({ dx k.1 with n := n.1, id := i.1, slot := s.1, cmd := c.1 }, c.2)
  else if k.1 = 7 then let n := num 4 k.2; let i := num 1 n.2; let s := num 4 i.2; ({ dx k.1 with n := n.1, id := i.1, slot := s.1 }, s.2)
  else if k.1 = 8 then let s := num 4 k.2; let c := aa s.2; ({ dx k.1 with slot := s.1, cmd := c.1 }, c.2)
  else if k.1 = 9 then let r := bf k.2; ({ dx k.1 with aH := r.1 }, r.2)
  else if k.1 = 10 then let p := num 1 k.2; let s := num 4 p.2; ({ dx k.1 with peer := p.1, seq := s.1 }, s.2)
  else (dx k.1, k.2)
theorem sj {c : aR} (hk : c.kind = 0) (h : c.bare = true) (hf : c.aH.fit) : c.strip = lJ := by
  obtain ⟨kind, aL, aH, peer, seq⟩ := c
  simp only at hk hf
  subst hk
  simp only [aR.bare, Bool.and_eq_true, beq_iff_eq] at h
  obtain ⟨⟨⟨h1, h2⟩, rfl⟩, rfl⟩ := h
  simp [aR.strip, mG h1, mH h2 hf, lJ]
theorem nz {vs : Sl} {aV : List bz} (h : vs.len = 0) (hf : vs.len = aV.length) : aV = [] := List.eq_nil_of_length_eq_zero (by omega)
theorem Tx {m : aM} (h : m.ok = true) (hw : m.wf) (hf : m.fit) : bT m.bytes = (m.strip, []) := by
  obtain ⟨kind, aL, rep, n, id, slot, cmd, vs, aH, peer, seq, aV⟩ := m
  obtain ⟨w1, w2, w3, w4, w5, w6, w7, w8, w9, Io, Le⟩ := hw
  obtain ⟨f1, f2, f3, f4⟩ := hf
  have e : (aM.mk kind aL rep n id slot cmd vs aH peer seq aV).bytes = kind :: (aM.mk kind aL rep n id slot cmd vs aH peer seq aV).tail := rfl
  rw [e]
  unfold bT
  simp only [num_1, aM.tail]
  simp only [aM.ok, Bool.or_eq_true, Bool.and_eq_true, beq_iff_eq, decide_eq_true_eq] at h
  rcases h with (((((((h | h) | h) | h) | h) | h) | h) | h) | h
  · obtain ⟨⟨⟨⟨⟨⟨⟨⟨rfl, a⟩, p⟩, b⟩, rfl⟩, c⟩, v⟩, r⟩, d⟩ := h
    obtain ⟨rfl, rfl⟩ := b
    obtain ⟨rfl, rfl⟩ := d
    have hr := Lb a w2 []
    rw [List.append_nil] at hr
    obtain rfl := nz v f3
    simp [hr, aM.strip, dx, qR p, sj c.1 c.2 f1, mH r f2]
  · obtain ⟨⟨⟨⟨⟨⟨⟨⟨rfl, q⟩, a⟩, b⟩, rfl⟩, c⟩, v⟩, r⟩, d⟩ := h
    obtain ⟨rfl, rfl⟩ := b
    obtain ⟨rfl, rfl⟩ := d
    have hr := Lc a w3 []
    rw [List.append_nil] at hr
    obtain rfl := nz v f3
    simp [hr, aM.strip, dx, mG q, sj c.1 c.2 f1, mH r f2]
  · obtain ⟨⟨⟨⟨⟨⟨⟨k, q⟩, p⟩, rfl⟩, c⟩, v⟩, r⟩, d⟩ := h
    obtain ⟨rfl, rfl⟩ := d
    have h4 := mX w4 [id]
    obtain rfl := nz v f3
    rcases k with rfl | rfl <;> simp [bJ, h4, num_1, aM.strip, dx, mG q, qR p, sj c.1 c.2 f1, mH r f2]
  · obtain ⟨⟨⟨⟨⟨⟨⟨rfl, q⟩, p⟩, rfl⟩, c⟩, v⟩, r⟩, d⟩ := h
    obtain ⟨rfl, rfl⟩ := d
    simp only [iP, Bool.and_eq_true, decide_eq_true_eq, List.all_eq_true] at v
    have hl := Db aP bz.bytes (aV.map bz.strip) (fun x hx => by
      obtain ⟨y, hy, rfl⟩ := List.mem_map.1 hx
      obtain ⟨i, hi, rfl⟩ := List.mem_iff_getElem.1 hy
      have g := List.getElem?_eq_getElem hi
      have h8 := v.2 i (List.mem_range.2 hi)
      unfold kJ at h8
      rw [g] at h8
      simp only [Bool.and_eq_true] at h8
      refine ⟨by simp [bz.bytes, fM], fun r => ?_⟩
      rw [bz.lu]
      exact Tw h8.1 (w8 i _ g) (f4 i _ g) r) []
    rw [List.append_nil, List.length_map] at hl
    have e2 : ((aV.map bz.strip).map bz.bytes).flatten = kT aV := r9 aV
    rw [e2] at hl
    have h4 := mX w4 (id :: (aV.length : Int) :: kT aV)
    simp [bJ, h4, num_1, hl, aM.strip, dx, mG q, qR p, sj c.1 c.2 f1, mH r f2]
  · obtain ⟨⟨⟨⟨⟨⟨rfl, q⟩, p⟩, c⟩, v⟩, r⟩, d⟩ := h
    obtain ⟨rfl, rfl⟩ := d
    have h4 := mX w4 (id :: (fM slot ++ cmd.bytes))
    have h5 := mX w6 cmd.bytes
    have hc := FE c w7 f1 []
    rw [List.append_nil] at hc
    obtain rfl := nz v f3
    simp [bJ, h4, h5, hc, num_1, aM.strip, dx, mG q, qR p, mH r f2]
  · obtain ⟨⟨⟨⟨⟨⟨rfl, q⟩, p⟩, c⟩, v⟩, r⟩, d⟩ := h
    obtain ⟨rfl, rfl⟩ := d
    have h4 := mX w4 (id :: fM slot)
    have h5 := mX w6 []
    rw [List.append_nil] at h5
    obtain rfl := nz v f3
    simp [bJ, h4, h5, num_1, aM.strip, dx, mG q, qR p, sj c.1 c.2 f1, mH r f2]
  · obtain ⟨⟨⟨⟨⟨⟨⟨rfl, q⟩, p⟩, b⟩, c⟩, v⟩, r⟩, d⟩ := h
    obtain ⟨rfl, rfl⟩ := b
    obtain ⟨rfl, rfl⟩ := d
    have h5 := mX w6 cmd.bytes
    have hc := FE c w7 f1 []
    rw [List.append_nil] at hc
    obtain rfl := nz v f3
    simp [h5, hc, aM.strip, dx, mG q, qR p, mH r f2]
  · obtain ⟨⟨⟨⟨⟨⟨⟨⟨rfl, q⟩, p⟩, b⟩, rfl⟩, c⟩, v⟩, r⟩, d⟩ := h
    obtain ⟨rfl, rfl⟩ := b
    obtain ⟨rfl, rfl⟩ := d
    have hr := Ld r w9 []
    rw [List.append_nil] at hr
    obtain rfl := nz v f3
    simp [hr, aM.strip, dx, mG q, qR p, sj c.1 c.2 f1]
  · obtain ⟨⟨⟨⟨⟨⟨⟨⟨rfl, q⟩, p⟩, b⟩, rfl⟩, c⟩, v⟩, r⟩, d⟩ := h
    obtain ⟨rfl, rfl⟩ := b
    have h5 := mX Le []
    rw [List.append_nil] at h5
    obtain rfl := nz v f3
    simp [h5, num_1, aM.strip, dx, mG q, qR p, sj c.1 c.2 f1, mH r f2]
theorem kX (l : List Int) : (dI l).data = (l.map fun n => UInt8.ofNat n.toNat).toArray := by
  have h : ∀ (l : List Int) (s : ByteArray), (l.foldl (fun r n => r.push (UInt8.ofNat n.toNat)) s).data = s.data ++ (l.map fun n => UInt8.ofNat n.toNat).toArray := by
    intro l
    induction l with
    | nil => intro s; simp
    | cons n l ih => intro s; simp only [List.foldl_cons, ih, List.map_cons]; simp [ByteArray.push]
  have := h l ByteArray.empty
  rw [show ByteArray.empty.data = #[] from rfl, Array.empty_append] at this
  exact this
theorem Lf (l : List Int) : (dI l).size = l.length := by
  show (dI l).data.size = _; rw [kX]; simp
theorem Lg : (Tryz.prog.info? 9).map (·.size) = some 1 := by kernel_rfl
theorem NU (l : List Int) (k : Nat) (x : Int) (hx : l[k]? = some x) (h0 : 0 ≤ x ∧ x < 256) (h : k < (dI l).size) : (((dI l)[k]'h).toNat : Int) = x := by
  have e : (dI l)[k]'h = (dI l).data[k]'h := rfl
  rw [e]
  have hd := kX l
  have : (dI l).data[k]'h = UInt8.ofNat x.toNat := by
    have h2 : (dI l).data[k]? = some (UInt8.ofNat x.toNat) := by rw [hd]; simp [hx]
    exact (Array.getElem?_eq_some_iff.1 h2).2
  rw [this]
  have : (UInt8.ofNat x.toNat).toNat = x.toNat := by simp; omega
  omega
theorem Qp (v : Int) (h : 0 ≤ v ∧ v < 18446744073709551616) : IntKind.u64.wrap v = v := by
  have e : IntKind.u64.wrap v = v % 18446744073709551616 := rfl
  rw [e]; omega
theorem Lh (l : List Int) (k : Nat) : (dI l).extract k l.length = dI (l.drop k) := by
  apply ByteArray.ext
  rw [ByteArray.data_extract, kX, kX]
  simp [List.map_drop]
  exact List.take_of_length_le (by simp)
theorem RG {y x : Int} (h0 : 0 ≤ y) (h1 : y < 72057594037927936) (hx : 0 ≤ x ∧ x < 256) : bits .or .u64 (IntKind.u64.wrap (y * 256)) x = y * 256 + x := by
  have hw : IntKind.u64.wrap (y * 256) = y * 256 := Qp (y * 256) (by omega)
  rw [hw, u64_or (y * 256) x (by omega) (by omega) hx.1 (by omega)]
  obtain ⟨a, rfl⟩ : ∃ a : Nat, y = a := ⟨y.toNat, by omega⟩
  obtain ⟨b, rfl⟩ : ∃ b : Nat, x = b := ⟨x.toNat, by omega⟩
  have e1 : ((a : Int) * 256).toNat = a <<< 8 := by rw [Nat.shiftLeft_eq]; omega
  have e2 : ((b : Int)).toNat = b := by omega
  rw [e1, e2, ← Nat.shiftLeft_add_eq_or_of_lt (by omega)]
  rw [Nat.shiftLeft_eq]; omega
theorem Ty {k : Nat} (h : k ≤ 7) : (256 : Int) ^ k ≤ 72057594037927936 := by
  match k, h with
  | 0, _ => decide
  | 1, _ => decide
  | 2, _ => decide
  | 3, _ => decide
  | 4, _ => decide
  | 5, _ => decide
  | 6, _ => decide
  | 7, _ => decide
theorem qY {p : Prop} (h : p) : Hid p := h
def fU (l : List Int) : Prop := ∀ x ∈ l, 0 ≤ x ∧ x < 256
theorem Ip (l : List Int) (x : Int) : be (l ++ [x]) = be l * 256 + x := by
  unfold be; rw [List.foldl_append]; rfl
theorem vz (B : Nat) (l : List Int) (n : Nat) (w : World) (hW : w.heap[B]? = some (.cells #[.string (dI l)] 249)) (hb : fU l) (hn : n ≤ 8) (hl : l.length ≤ 1000000000000000) :
    Calls Tryz.prog 223 #[.pointer (some ⟨B, 0, none⟩), .int .i64 n] w fun e w' => e = .returned (.int .u64 (num n l).1) ∧ w'.heap[B]? = some (.cells #[.string (dI (num n l).2)] 249) ∧ Only B w w' := by
  have hsz := Lf l
  have hB := af hW
  by_cases hs : l.length < n
  · have hd : decide (((dI l).size : Int) < (n : Int)) = true := by rw [hsz]; simp; omega
    go_enter Tryz.func223, Tryz.ntmps223
    go_wp2_with (first | (with_reducible show wpList _ _ _ ({ dst := none, op := Op.store 9 _ _, type := _, pos := _, after := _, guard := none } :: _) _ _; go_must (refine ah rfl _ _ _ rfl rfl B 0 rfl (.string (dI [])) rfl Lg rfl _ _ hW rfl [.string (dI [])] rfl ?_; intro w2 hW2 hO2)))
    go_ret
    have e : num n l = (0, []) := by unfold num; rw [if_pos hs]
    rw [e]
    exact ⟨rfl, hW2, hO2⟩
  · have hd : decide (((dI l).size : Int) < (n : Int)) = false := by rw [hsz]; simp; omega
    go_enter Tryz.func223, Tryz.ntmps223
    go_wp2_with fail
    have HB := qY hb
    have hln : n ≤ l.length := by omega
    go_loopw [5, 18] (fun acc i wr => ∃ (k : Nat) (y : Int), k ≤ n ∧ i = .int .i64 k ∧ acc = .int .u64 y ∧ Hid (y = be (l.take k)) ∧ 0 ≤ y ∧ Hid (y < 256 ^ k) ∧ w = wr) (fun _ i _ => n - (intOf i).toNat)
    case atStart => exact ⟨0, 0, Nat.zero_le _, rfl, rfl, rfl, Int.le_refl _, (by show (0 : Int) < 256 ^ 0; decide), rfl⟩
    case round =>
      obtain ⟨k, y, hk, rfl, rfl, HY, hy0, Vz, rfl⟩ := hrel
      by_cases hlt : k < n
      · have hks : k < (dI l).size := by rw [hsz]; omega
        obtain ⟨x, hx⟩ : ∃ x, l[k]? = some x := ⟨l[k]'(by omega), by simp⟩
        have hxb := HB.out x (List.mem_of_getElem? hx)
        have hat : (((dI l)[k]'hks).toNat : Int) = x := NU l k x hx hxb hks
        have hi1 : (0 : Int) ≤ (k : Int) := by omega
        have hp := Ty (k := k) (by omega)
        have XT : y < 72057594037927936 := by have := Vz.out; omega
        have hor := RG hy0 XT hxb
        have hor2 : bits .or .u64 (y * 256) x = y * 256 + x := by rw [← hor, Qp (y * 256) (by omega)]
        have XU : Hid (y * 256 + x < 256 ^ (k + 1)) := by
          show y * 256 + x < 256 ^ (k + 1)
          rw [Int.pow_succ]; have := Vz.out; omega
        have XV : Hid (y * 256 + x = be (l.take (k + 1))) := by
          show _ = _
          rw [List.take_add_one, hx, Option.toList_some, Ip, HY.out]
        clear hx hp
        go_wp2_with fail
        go_roundw
        case rel => exact ⟨k + 1, y * 256 + x, by omega, by go_num, rfl, XV, by omega, XU, trivial⟩
        case measure => simp [intOf]; omega
      · obtain rfl : k = n := by omega
        have hle : (k : Int) ≤ ((dI l).size : Int) := by rw [hsz]; omega
        have hk0 : (0 : Int) ≤ (k : Int) := by omega
        go_wp2_with (first | (with_reducible show wpList _ _ _ ({ dst := none, op := Op.store 9 _ _, type := _, pos := _, after := _, guard := none } :: _) _ _; go_must (refine ah rfl _ _ _ rfl rfl B 0 rfl (.string ((dI l).extract k l.length)) rfl Lg rfl _ _ hW rfl [.string ((dI l).extract k l.length)] rfl ?_; intro w2 hW2 hO2)))
        go_ret
        have e : num k l = (be (l.take k), l.drop k) := by unfold num; rw [if_neg (by omega)]
        rw [e, ← Lh, ← HY.out]
        exact ⟨rfl, hW2, hO2⟩
structure Src (B : Nat) (w : World) (l : List Int) : Prop where
  blk : w.heap[B]? = some (.cells #[.string (dI l)] 249)
  lG : fU l
  len : l.length ≤ 1000000000000000
theorem Vl (l : List Int) (h : fU l) : 0 ≤ be l ∧ be l < 256 ^ l.length := by
  have : ∀ (k : Nat), k ≤ l.length → 0 ≤ be (l.take k) ∧ be (l.take k) < 256 ^ k := by
    intro k
    induction k with
    | zero => intro _; simp [be]
    | succ k ih =>
      intro hk
      obtain ⟨h1, h2⟩ := ih (by omega)
      have hx : l[k]? = some l[k] := List.getElem?_eq_getElem (by omega)
      have hb := h _ (List.mem_of_getElem? hx)
      rw [List.take_add_one, hx, Option.toList_some, Ip, Int.pow_succ]
      omega
  have := this l.length (Nat.le_refl _)
  rwa [List.take_length] at this
theorem FH {n : Nat} {l : List Int} (h : fU l) : 0 ≤ (num n l).1 ∧ (num n l).1 < 256 ^ n := by
  unfold num
  split
  · refine ⟨Int.le_refl _, ?_⟩
    exact Int.pow_pos (by decide)
  · have hb : fU (l.take n) := fun x hx => h x (List.mem_of_mem_take hx)
    have := Vl _ hb
    rw [List.length_take, Nat.min_eq_left (by omega)] at this
    exact this
theorem aZ {n : Nat} {l : List Int} (h : fU l) : fU (num n l).2 := by
  unfold num
  split
  · intro x hx; simp at hx
  · intro x hx; exact h x (List.mem_of_mem_drop hx)
theorem RH {n : Nat} {l : List Int} : (num n l).2.length ≤ l.length := by
  unfold num
  split
  · simp
  · simp
theorem uG {l : List Int} (h : fU l) : 0 ≤ (num 1 l).1 ∧ (num 1 l).1 < 256 := by have := FH (n := 1) h; simpa using this
theorem Iq {l : List Int} (h : fU l) : 0 ≤ (num 4 l).1 ∧ (num 4 l).1 < 4294967296 := by have := FH (n := 4) h; simpa using this
theorem RI {l : List Int} (h : fU l) : 0 ≤ (num 8 l).1 ∧ (num 8 l).1 < 18446744073709551616 := by have := FH (n := 8) h; simpa using this
theorem Src.next {B n : Nat} {w w' : World} {l : List Int} (h : Src B w l) (hW : w'.heap[B]? = some (.cells #[.string (dI (num n l).2)] 249)) : Src B w' (num n l).2 :=
  ⟨hW, aZ h.lG, Nat.le_trans RH h.len⟩
theorem iL (B : Nat) (l : List Int) (w : World) (h : Src B w l) :
    Calls Tryz.prog 191 #[.pointer (some ⟨B, 0, none⟩)] w fun e w' => e = .returned (.int .u8 (num 1 l).1) ∧ Src B w' (num 1 l).2 ∧ Only B w w' := by
  have hi := uG h.lG
  go_enter Tryz.func191, Tryz.ntmps191
  go_wp2_with (first | (go_at_call 223; go_must (refine (vz B l 1 w h.blk h.lG (by decide) h.len).mono ?_; rintro e w1 ⟨rfl, hW1, aJ⟩)))
  go_ret
  exact ⟨rfl, h.next hW1, aJ⟩
theorem lZ (B : Nat) (l : List Int) (w : World) (h : Src B w l) :
    Calls Tryz.prog 197 #[.pointer (some ⟨B, 0, none⟩)] w fun e w' => e = .returned (.int .u32 (num 4 l).1) ∧ Src B w' (num 4 l).2 ∧ Only B w w' := by
  have hi := Iq h.lG
  go_enter Tryz.func197, Tryz.ntmps197
  go_wp2_with (first | (go_at_call 223; go_must (refine (vz B l 4 w h.blk h.lG (by decide) h.len).mono ?_; rintro e w1 ⟨rfl, hW1, aJ⟩)))
  go_ret
  exact ⟨rfl, h.next hW1, aJ⟩
theorem rE (B : Nat) (l : List Int) (w : World) (h : Src B w l) :
    Calls Tryz.prog 224 #[.pointer (some ⟨B, 0, none⟩)] w fun e w' => e = .returned (.int .u64 (num 8 l).1) ∧ Src B w' (num 8 l).2 ∧ Only B w w' := by
  go_enter Tryz.func224, Tryz.ntmps224
  go_wp2_with (first | (go_at_call 223; go_must (refine (vz B l 8 w h.blk h.lG (by decide) h.len).mono ?_; rintro e w1 ⟨rfl, hW1, aJ⟩)))
  go_ret
  exact ⟨rfl, h.next hW1, aJ⟩
end
end Go.Proofs.YtignemioillaiaaGreat
