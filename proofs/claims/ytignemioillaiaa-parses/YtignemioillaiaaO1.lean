/- Package wire: votes, all of them, put behind bytes. Messages without their addresses: what is right, and the bytes, do not hang on them. -/
import Derived.Test.YtignemioillaiaaD4
import Derived.Test.YtignemioillaiaaB4
import Derived.Test.YtignemioillaiaaF4
namespace Go.Proofs.Ytignemioillaiaa
open Go.RowKit

def Cmd.short (c : Cmd) : Prop := c.kind = 2 → c.rng.rows.length ≤ 255 ∧ c.rng.dups.length ≤ 255

theorem Vot.len (x : Vot) (h : x.cmd.short) : x.bytes.length ≤ 12100 := by
  have := x.cmd.len (fun k => (h k).1) (fun k => (h k).2)
  simp only [Vot.bytes, ballotBytes, List.length_append, be32_len, List.length_cons, List.length_nil]; omega

theorem votes_len (votes : List Vot) (h : ∀ (i : Nat) (x : Vot), votes[i]? = some x → x.cmd.short) (k : Nat) : (((votes.take k).map Vot.bytes).flatten).length ≤ 12100 * k := by
  induction k with
  | zero => simp
  | succ k ih =>
    cases hx : votes[k]? with
    | none =>
      have hk := List.getElem?_eq_none_iff.1 hx
      rw [List.take_of_length_le (by omega)] at ih ⊢; omega
    | some x =>
      rw [flat_take Vot.bytes votes k x hx, List.length_append]
      have := x.len (h k x hx); omega

set_option maxHeartbeats 400000 in
set_option maxRecDepth 100000 in
theorem putvotes_any (base : Nat) (v : Value) (l : List Int) (ra : Option Addr) (rn rc : Nat) (xs : List Vot) (w : World) (hown : OwnB base w v l) (hb0 : base ≤ w.heap.size) (hl : l.length < 1600000000)
    (hin : VotesIn base w ⟨ra, rn, rc⟩ xs) (h255 : xs.length ≤ 255) (hwf : ∀ (i : Nat) (x : Vot), xs[i]? = some x → x.wf) (hsh : ∀ (i : Nat) (x : Vot), xs[i]? = some x → x.cmd.short) :
    Calls Try.prog 80 #[v, .slice ra rn rc, .func (.func 81) #[] #[]] w fun e w' => ∃ v', e = .returned v' ∧ OwnB base w' v' (l ++ ([(xs.length : Int)] ++ votesBytes xs)) ∧ Grew w v w' v' := by
  have hlen : rn = xs.length := by simpa using hin.sl.len
  have hr255 : rn ≤ 255 := by omega
  have HL : Hid (rn = xs.length) := hlen
  have HW : Hid (∀ (i : Nat) (x : Vot), xs[i]? = some x → x.wf) := hwf
  have HS : Hid (∀ (i : Nat) (x : Vot), xs[i]? = some x → x.cmd.short) := hsh
  clear hlen hwf h255 hsh
  go_enter Try.func80, Try.ntmps80
  go_wp2_with (go_at_call 76; go_must (refine (put8_any base _ _ _ _ hown hb0 (by omega)).mono ?_; rintro e w0 ⟨v0, rfl, hown0, hg0⟩))
  have hb1 : base ≤ w0.heap.size := Nat.le_trans hb0 hg0.grown.size
  go_loopw [0, 16] (fun vb i wr => ∃ k : Nat, k ≤ rn ∧ i = .int .i64 k ∧ OwnB base wr vb (l ++ [(rn : Int)] ++ ((xs.take k).map Vot.bytes).flatten) ∧ Grew w v wr vb ∧ base ≤ wr.heap.size) (fun _ i _ => rn - (intOf i).toNat)
  case atStart => exact ⟨0, Nat.zero_le _, rfl, own_eq hown0 (by simp), hg0, hb1⟩
  case round =>
    obtain ⟨k, hk, rfl, hor, hgr, hbr⟩ := hrel
    by_cases hlt : k < rn
    · obtain ⟨x, hx⟩ : ∃ x, xs[k]? = some x := ⟨xs[k]'(by rw [← HL.out]; exact hlt), by simp⟩
      have hS := hin.below (hgr.below hown hb0) (Nat.le_refl _)
      obtain ⟨b, off, ha, hbB, hc⟩ := hS.sl.el (i := k) (x := x.cells) (by simp [hx])
      have hR := hS.all k x hx
      obtain rfl : ra = some ⟨b, off, none⟩ := ha
      have hxw := HW.out k x hx
      have hxs := HS.out k x hx
      have HX : Hid (xs[k]? = some x) := hx
      have hln : (((xs.take k).map Vot.bytes).flatten).length ≤ 12100 * k := votes_len xs HS.out k
      clear hx
      obtain ⟨yslot, yn, yid, ⟨yckind, ⟨ycqc, ycqs, ycqk, ycqkey, ycqv, ycqhi, ycqto⟩, ⟨ycrsrc, ycrdst, ycrseq, ycrlo, ycrhi, ⟨ycrra, ycrrn, ycrrc⟩, ⟨ycrda, ycrdn, ycrdc⟩, ycrrows, ycrdups⟩, ycpeer, ycsq⟩⟩ := x
      simp only [Vot.cells, Cmd.cells, Req.cells, Rng.cells, Sl.val, List.cons_append, List.nil_append] at hc
      have hW := heap_alloc_new wr (.cells (List.toArray oxV) 84)
      have hG := Grew.alloc wr u0 (.cells (List.toArray oxV) 84)
      have hoA : OwnB base (wr.alloc (.cells (List.toArray oxV) 84)) u0 _ := World.ownsRow.alloc hor _
      have HXS : Hid (Cmd.short (Cmd.mk yckind (Req.mk ycqc ycqs ycqk ycqkey ycqv ycqhi ycqto) (Rng.mk ycrsrc ycrdst ycrseq ycrlo ycrhi ⟨ycrra, ycrrn, ycrrc⟩ ⟨ycrda, ycrdn, ycrdc⟩ ycrrows ycrdups) ycpeer ycsq)) := hxs
      clear hxs
      go_wp2_with (first | (with_reducible show AtL 19 84 ..; go_must (refine wpList_load_mem rfl _ _ rfl b (off + k * 20) rfl 20 _ Try.underlying84 rfl sz_vot (rV yslot yn yid yckind ycqc ycqs ycqk ycqkey ycqv ycqhi ycqto ycrsrc ycrdst ycrseq ycrlo ycrhi ycrra ycrrn ycrrc ycrda ycrdn ycrdc ycpeer ycsq) rfl hc ?_)) | (with_reducible show wpList _ _ _ ({ dst := _, op := Op.store 84 _ _, type := _, pos := _, after := _, guard := none } :: _) _ _; go_must (refine wpList_store_blk rfl _ _ _ rfl rfl wr.heap.size 0 rfl (rV yslot yn yid yckind ycqc ycqs ycqk ycqkey ycqv ycqhi ycqto ycrsrc ycrdst ycrseq ycrlo ycrhi ycrra ycrrn ycrrc ycrda ycrdn ycrdc ycpeer ycsq) rfl _ sz_vot rfl rfl _ _ hW rfl (rV yslot yn yid yckind ycqc ycqs ycqk ycqkey ycqv ycqhi ycqto ycrsrc ycrdst ycrseq ycrlo ycrhi ycrra ycrrn ycrrc ycrda ycrdn ycrdc ycpeer ycsq) rfl ?_; intro w2 hW2 hO2; have ho2 := own_only hoA hO2 hor.ne; have hG2 := grew_only hG hO2 (Nat.le_refl _); have hb2 := Nat.le_trans hbr hG2.grown.size)) | (with_reducible show AtL 22 84 ..; go_must (refine wpList_load_blk rfl _ _ rfl wr.heap.size 0 rfl 20 _ Try.underlying84 rfl sz_vot _ _ hW2 rfl (rV yslot yn yid yckind ycqc ycqs ycqk ycqkey ycqv ycqhi ycqto ycrsrc ycrdst ycrseq ycrlo ycrhi ycrra ycrrn ycrrc ycrda ycrdn ycrdc ycpeer ycsq) rfl ?_)) | (go_at_call 81; go_must (refine (putvote_any base _ _ _ _ _ _ _ _ _ _ _ _ _ _ _ _ _ _ _ _ _ _ _ _ _ _ ycrrows ycrdups _ ho2 hb2 (by simp only [List.length_append, List.length_cons, List.length_nil]; omega) (hR.rows.below (hG2.below hor hbr) (Nat.le_refl _)) (hR.dups.below (hG2.below hor hbr) (Nat.le_refl _)) (fun e => (HXS.out e).1) (fun e => (HXS.out e).2) hxw).mono ?_; rintro e w3 ⟨v3, rfl, ho3, hg3⟩)))
      go_roundw
      case rel => exact ⟨k + 1, by omega, by go_num, own_eq ho3 (by rw [flat_take Vot.bytes xs k _ HX.out]; simp only [List.append_assoc]), hgr.trans (hG2.trans hg3), Nat.le_trans hb2 hg3.grown.size⟩
      case measure => simp [intOf]; omega
    · go_wp2
      go_ret
      obtain rfl : k = rn := by omega
      refine ⟨_, rfl, own_eq hor ?_, hgr⟩
      have := HL.out
      rw [this, List.take_length]; simp [votesBytes]

end Go.Proofs.Ytignemioillaiaa

namespace Go.Proofs.Ytignemioillaiaa
open Go.RowKit

def Rng.strip (r : Rng) : Rng := { r with rs := ⟨none, r.rows.length, r.rows.length⟩, ds := ⟨none, r.dups.length, r.dups.length⟩ }
def Cmd.strip (c : Cmd) : Cmd := { c with rng := c.rng.strip }
def Vot.strip (v : Vot) : Vot := { v with cmd := v.cmd.strip }
def Msg.strip (m : Msg) : Msg := { m with cmd := m.cmd.strip, rng := m.rng.strip, vs := ⟨none, m.votes.length, m.votes.length⟩, votes := m.votes.map Vot.strip }

def Rng.fit (r : Rng) : Prop := r.rs.len = r.rows.length ∧ r.ds.len = r.dups.length

theorem Rng.no_strip {r : Rng} (h : r.fit) : r.strip.no = r.no := by
  unfold Rng.no Rng.strip; simp only [h.1, h.2]
theorem Rng.ok_strip (r : Rng) : r.strip.ok = r.ok := rfl
theorem Cmd.ok_strip {c : Cmd} (h : c.rng.fit) : c.strip.ok = c.ok := by
  have := Rng.no_strip h
  unfold Cmd.ok Cmd.strip; simp only [this, Rng.ok_strip]
theorem Cmd.bare_strip {c : Cmd} (h : c.rng.fit) : c.strip.bare = c.bare := by
  have := Rng.no_strip h
  unfold Cmd.bare Cmd.strip; simp only [this]
theorem Cmd.bytes_strip (c : Cmd) : c.strip.bytes = c.bytes := rfl
theorem Vot.bytes_strip (v : Vot) : v.strip.bytes = v.bytes := rfl

theorem voteAt_strip {votes : List Vot} (h : ∀ (i : Nat) (x : Vot), votes[i]? = some x → x.cmd.rng.fit) (i : Nat) : voteAt (votes.map Vot.strip) i = voteAt votes i := by
  unfold voteAt
  rw [List.getElem?_map, List.getElem?_map]
  cases hx : votes[i]? with
  | none => rfl
  | some x =>
    have h1 : x.strip.cmd.ok = x.cmd.ok := Cmd.ok_strip (h i x hx)
    simp only [Option.map_some, h1]
    cases hy : votes[i - 1]? with
    | none => rfl
    | some y => rfl
theorem votesOk_strip {votes : List Vot} (h : ∀ (i : Nat) (x : Vot), votes[i]? = some x → x.cmd.rng.fit) : votesOk (votes.map Vot.strip) = votesOk votes := by
  unfold votesOk
  rw [List.length_map]
  congr 1
  exact congrArg (fun f => List.all (List.range votes.length) f) (funext fun i => voteAt_strip h i)
theorem votesBytes_strip (votes : List Vot) : votesBytes (votes.map Vot.strip) = votesBytes votes := by
  unfold votesBytes; rw [List.map_map]; rfl

structure Msg.fit (m : Msg) : Prop where
  cmd : m.cmd.rng.fit
  rng : m.rng.fit
  vs : m.vs.len = m.votes.length
  votes : ∀ (i : Nat) (x : Vot), m.votes[i]? = some x → x.cmd.rng.fit

theorem Msg.ok_strip {m : Msg} (h : m.fit) : m.strip.ok = m.ok := by
  have h1 := Cmd.ok_strip h.cmd
  have h2 := Cmd.bare_strip h.cmd
  have h3 := Rng.no_strip h.rng
  have h4 := votesOk_strip h.votes
  unfold Msg.ok Msg.strip
  simp only [h1, h2, h3, h4, h.vs, Rng.ok_strip]
  rfl
theorem Msg.bytes_strip (m : Msg) : m.strip.bytes = m.bytes := by
  have h1 := votesBytes_strip m.votes
  unfold Msg.bytes Msg.tail Msg.strip
  simp only [h1, List.length_map, Cmd.bytes_strip]
  rfl

/-- A range whose lists are the call's own, from block S on. -/
structure Rng.Own (S : Nat) (w : World) (r : Rng) : Prop where
  rows : w.ownsRow S 82 2 r.rs.val r.rows.length (r.rows.map Row.cells).flatten
  dups : w.ownsRow S 27 7 r.ds.val r.dups.length (r.dups.map Rep.cells).flatten

theorem own_below {w w' : World} {base : Nat} {e : TypeId} {size : Nat} {v : Value} {n : Nat} {xs : List Value} (h : w.ownsRow base e size v n xs) (hb : Below w.heap.size w w') : w'.ownsRow base e size v n xs :=
  World.ownsRow.kept h (row := none) ⟨hb.os, hb.tape, hb.output, hb.size, fun k hk _ => hb.block k hk⟩ (by cases hv : v.ownBlock <;> simp)

theorem own_apart {w : World} {b1 b2 : Nat} {e1 e2 : TypeId} {s1 s2 : Nat} {v1 v2 : Value} {n1 n2 : Nat} {x1 x2 : List Value} (h1 : w.ownsRow b1 e1 s1 v1 n1 x1) (h2 : w.ownsRow b2 e2 s2 v2 n2 x2) (hne : e1 ≠ e2) : v1.ownBlock = none ∨ v1.ownBlock ≠ v2.ownBlock := by
  rcases h1.2 with ⟨rfl, _⟩ | ⟨g, cap, cur, rfl, _, hg, _⟩
  · exact .inl rfl
  · right
    rcases h2.2 with ⟨rfl, _⟩ | ⟨g', cap', cur', rfl, _, hg', _⟩
    · intro e; cases e
    · intro e
      simp only [Value.ownBlock, Option.some.injEq] at e
      subst e
      rw [hg] at hg'
      injection hg' with hg'
      injection hg' with _ h9 _
      exact hne h9

theorem Rng.Own.below {S : Nat} {w w' : World} {r : Rng} (h : r.Own S w) (hb : Below w.heap.size w w') : r.Own S w' := ⟨own_below h.rows hb, own_below h.dups hb⟩
theorem Rng.Own.only {S B : Nat} {w w' : World} {r : Rng} (h : r.Own S w) (hO : Only B w w') (hB : B < S) : r.Own S w' := ⟨own_keep h.rows hO hB, own_keep h.dups hO hB⟩
theorem Rng.Own.mono {S S' : Nat} {w : World} {r : Rng} (h : r.Own S w) (hS : S' ≤ S) : r.Own S' w := ⟨own_mono h.rows hS, own_mono h.dups hS⟩
theorem Rng.Own.grew {S : Nat} {w w' : World} {r : Rng} {v v' : Value} {b n size : Nat} {xs : List Value} (h : r.Own S w) (hg : Grew w v w' v') (hv : w.ownsRow b 84 size v n xs) : r.Own S w' :=
  ⟨World.ownsRow.kept h.rows hg.grown (own_apart h.rows hv (by decide)), World.ownsRow.kept h.dups hg.grown (own_apart h.dups hv (by decide))⟩
theorem own_slin' {w : World} {base : Nat} {e : TypeId} {size : Nat} {s : Sl} {xs : List (List Value)} (hown : w.ownsRow base e size s.val xs.length xs.flatten) (hall : ∀ x ∈ xs, x.length = size) : SlIn w.heap.size w s size xs := by
  obtain ⟨a, n, c, e, hin, _⟩ := own_slin hown hall
  cases s
  unfold Sl.val at e
  cases e
  exact hin
theorem Rng.Own.In {S : Nat} {w : World} {r : Rng} (h : r.Own S w) : r.In w.heap.size w :=
  ⟨own_slin' (by rw [List.length_map]; exact h.rows) (rows_all _), own_slin' (by rw [List.length_map]; exact h.dups) (dups_all _)⟩

theorem info_vot : (Try.prog.info? 84).map (fun i => (i.zero, i.size, i.bytes)) = some (some (.agg (List.toArray oxV)), 20, 152) := by kernel_rfl
theorem vots_all (l : List Vot) : ∀ y ∈ l.map Vot.cells, y.length = 20 := by
  intro y hy; obtain ⟨r, _, rfl⟩ := List.mem_map.1 hy; rfl

end Go.Proofs.Ytignemioillaiaa

