/- Package wire: reading lists of votes. -/
import Derived.Test.YtignemioillaiaaQ10
import Derived.Test.YtignemioillaiaaO2
namespace Go.Proofs.Ytignemioillaiaa
open Go.RowKit

theorem rng_strip (l : List Int) : (rdRng l).1.strip = (rdRng l).1 := by unfold rdRng Rng.strip; dsimp only
theorem cmd_strip (l : List Int) : (rdCmd l).1.strip = (rdCmd l).1 := by
  unfold rdCmd; dsimp only
  split
  · rfl
  · split
    · unfold Cmd.strip; dsimp only; rw [rng_strip]
    · split <;> rfl
theorem vot_strip (l : List Int) : (rdVot l).1.strip = (rdVot l).1 := by
  unfold rdVot; dsimp only
  unfold Vot.strip; dsimp only; rw [cmd_strip]

theorem Rng.Own.upd {S B : Nat} {w w' : World} {r : Rng} (h : r.Own S w) (hU : Upd B w w') (hB : B < S) : r.Own S w' := ⟨own_upd h.rows hU hB, own_upd h.dups hU hB⟩

/-- A vote with lists of its own, which is as it was read. -/
theorem vot_twin (v : Vot) (rs ds : Sl) (h : v.strip = v) : (Vot.mk v.slot v.n v.id (Cmd.mk v.cmd.kind v.cmd.req (Rng.mk v.cmd.rng.src v.cmd.rng.dst v.cmd.rng.seq v.cmd.rng.lo v.cmd.rng.hi rs ds v.cmd.rng.rows v.cmd.rng.dups) v.cmd.peer v.cmd.seq)).strip = v := by
  conv => rhs; rw [← h]
  rfl

/-- Votes whose lists are owned, no two of them in one block. -/
structure VOwn (S : Nat) (w : World) (vs : List Vot) : Prop where
  all : ∀ (i : Nat) (x : Vot), vs[i]? = some x → x.cmd.rng.Own S w
  ap : vs.Pairwise (fun x y => (y.cmd.rng.rs.val.ownBlock = none ∨ y.cmd.rng.rs.val.ownBlock ≠ x.cmd.rng.rs.val.ownBlock) ∧ (y.cmd.rng.ds.val.ownBlock = none ∨ y.cmd.rng.ds.val.ownBlock ≠ x.cmd.rng.ds.val.ownBlock))
/-- Of a message's range, its command's range and its votes one at most has lists. -/
def One (r1 r2 c1 c2 v : Option Addr) : Prop := (r1 = none ∧ r2 = none ∧ c1 = none ∧ c2 = none) ∨ (r1 = none ∧ r2 = none ∧ v = none) ∨ (c1 = none ∧ c2 = none ∧ v = none)
theorem VOwn.nil (S : Nat) (w : World) : VOwn S w [] := ⟨fun i x hx => by simp at hx, List.Pairwise.nil⟩
theorem new_apart {w w' : World} {b N : Nat} {e e' : TypeId} {size size' n n' : Nat} {v u : Value} {xs ys : List Value} (hv : w.ownsRow b e size v n xs) (hN : w.heap.size ≤ N) (hu : w'.ownsRow N e' size' u n' ys) : u.ownBlock = none ∨ u.ownBlock ≠ v.ownBlock := by
  cases hb : u.ownBlock with
  | none => exact .inl rfl
  | some c =>
    refine .inr fun h => ?_
    have h1 := (World.ownsRow.lt hu c hb).1
    have h2 := (World.ownsRow.lt hv c h.symm).2
    omega
/-- A vote that was read later: its lists lie elsewhere. -/
theorem ap_snoc {S N : Nat} {w w' : World} {vs : List Vot} {x : Vot} (h : VOwn S w vs) (hN : w.heap.size ≤ N) (hx : x.cmd.rng.Own N w') : (vs ++ [x]).Pairwise (fun x y => (y.cmd.rng.rs.val.ownBlock = none ∨ y.cmd.rng.rs.val.ownBlock ≠ x.cmd.rng.rs.val.ownBlock) ∧ (y.cmd.rng.ds.val.ownBlock = none ∨ y.cmd.rng.ds.val.ownBlock ≠ x.cmd.rng.ds.val.ownBlock)) := by
  rw [List.pairwise_append]
  refine ⟨h.ap, by simp, fun y hy z hz => ?_⟩
  obtain ⟨i, hi, rfl⟩ := List.getElem_of_mem hy
  simp only [List.mem_singleton] at hz
  subst hz
  have ho := h.all i _ (List.getElem?_eq_getElem hi)
  exact ⟨new_apart ho.rows hN hx.rows, new_apart ho.dups hN hx.dups⟩

set_option maxHeartbeats 2000000 in
set_option maxRecDepth 100000 in
theorem list_vots (B : Nat) (l : List Int) (w : World) (h : Src B w l) :
    Calls Try.prog 95 #[.pointer (some ⟨B, 0, none⟩), .func (.func 96) #[.pointer (some ⟨B, 0, none⟩)] #[]] w fun e w' => ∃ (v' : Value) (ovs : List Vot), e = .returned v' ∧ w'.ownsRow w.heap.size 84 20 v' ovs.length (ovs.map Vot.cells).flatten ∧ VOwn w.heap.size w' ovs ∧ ovs.map Vot.strip = (rdList rdVot (num 1 l).1.toNat (num 1 l).2).1 ∧ Src B w' (rdList rdVot (num 1 l).1.toNat (num 1 l).2).2 ∧ Upd B w w' := by
  obtain ⟨i0, hi0, hz0, hz1, hz2⟩ := info_parts info_vot
  have hltB := h.lt
  have hn8 := num1_in h.byt
  obtain ⟨n0, hn0⟩ : ∃ n : Nat, (num 1 l).1 = n := ⟨(num 1 l).1.toNat, by omega⟩
  obtain ⟨L0, hL0⟩ : ∃ L, L = (num 1 l).2 := ⟨_, rfl⟩
  have hn255 : n0 ≤ 255 := by omega
  obtain ⟨XS, hXS⟩ : ∃ X, X = rdList rdVot n0 L0 := ⟨_, rfl⟩
  have e0 : rdList rdVot (num 1 l).1.toNat (num 1 l).2 = XS := by rw [hXS, hL0, hn0]; rfl
  rw [e0]
  clear e0
  have HXS := hidQ hXS
  have HN0 := hidQ hn0
  have HL0 := hidQ hL0
  clear hn0 hXS hL0 hn8
  go_enter Try.func95, Try.ntmps95
  go_wp2_with (first | (go_at_call 91; go_must (refine (src8 B l _ h).mono ?_; rintro e w1 ⟨rfl, hS1, hO1⟩; rw [HN0.out])))
  rw [← HL0.out] at hS1
  go_loopw [5, 8] (fun vv i wr => ∃ (k : Nat) (xs : List Vot) (lk : List Int), k ≤ n0 ∧ i = .int .u8 k ∧ Hid (XS = (xs.map Vot.strip ++ (rdList rdVot (n0 - k) lk).1, (rdList rdVot (n0 - k) lk).2)) ∧ Hid (xs.length ≤ k) ∧ Hid (wr.ownsRow w.heap.size 84 20 vv xs.length (xs.map Vot.cells).flatten) ∧ Hid (VOwn w.heap.size wr xs) ∧ Src B wr lk ∧ Upd B w wr) (fun _ i _ => n0 - (intOf i).toNat)
  case atStart => exact ⟨0, [], L0, Nat.zero_le _, rfl, (by show _ = _; rw [HXS.out]; rfl), Nat.le_refl _, World.ownsRow_nil _ _ _ _, (VOwn.nil _ _), hS1, upd_only hO1⟩
  case round =>
    clear hS1 hO1 h HL0 HN0 HXS
    obtain ⟨k, xs, lk, hk, rfl, HX, HK, HO, HI, hS, hU⟩ := hrel
    have hsz := hU.size
    have hB := blk_cell hS.blk
    by_cases hlt : k < n0
    · by_cases hnil : lk = []
      · subst hnil
        have hemp : (bstr []).toList.isEmpty = true := by rw [ByteArray.toList_eq, bstr_data]; rfl
        have hend : XS = (xs.map Vot.strip, []) := by
          have := HX.out
          obtain ⟨j, hj⟩ : ∃ j, n0 - k = j + 1 := ⟨n0 - k - 1, by omega⟩
          rw [hj] at this
          simpa [rdList] using this
        go_wp2_with fail
        go_ret
        rw [hend]
        exact ⟨_, xs, rfl, HO.out, HI.out, rfl, hS, hU⟩
      · have hemp : (bstr lk).toList.isEmpty = false := bstr_ne' lk (by cases lk with | nil => exact (hnil rfl).elim | cons a b => simp)
        have HX' : Hid (XS = ((xs.map Vot.strip ++ [(rdVot lk).1]) ++ (rdList rdVot (n0 - (k + 1)) (rdVot lk).2).1, (rdList rdVot (n0 - (k + 1)) (rdVot lk).2).2)) := by
          show _ = _
          have := HX.out
          obtain ⟨j, hj⟩ : ∃ j, n0 - k = j + 1 := ⟨n0 - k - 1, by omega⟩
          rw [hj] at this
          rw [this, show n0 - (k + 1) = j by omega]
          simp [rdList, hnil]
        go_wp2_with (first | (go_at_call 96; go_must (refine (src_vot B lk _ hS).mono ?_; rintro e w2 ⟨a1, n1, c1, a2, n2, c2, rfl, hoA, hoB, hS2, hU2⟩; have how2 := own_upd HO.out hU2 hltB)) | (at_builtin; go_must (refine wpList_append_new _ rfl _ _ 36 rfl w.heap.size 84 i0 (.agg #[.int .u32 0, .int .u32 0, .int .u8 0, .int .u8 0, .int .u8 0, .int .u32 0, .int .u8 0, .int .u64 0, .int .u64 0, .int .u64 0, .int .u8 0, .int .u8 0, .int .u8 0, .int .u32 0, .int .u64 0, .int .u64 0, .slice none 0 0, .slice none 0 0, .int .u8 0, .int .u32 0]) 20 152 Try.underlying36 hi0 hz0 hz1 hz2 rfl (by decide) _ _ _ rfl (World.ownsRow.alloc how2 _) _ 1 1 [.int .u32 (rdVot lk).1.slot, .int .u32 (rdVot lk).1.n, .int .u8 (rdVot lk).1.id, .int .u8 ((rdVot lk).1).cmd.kind, .int .u8 (((rdVot lk).1).cmd).req.c, .int .u32 (((rdVot lk).1).cmd).req.s, .int .u8 (((rdVot lk).1).cmd).req.k, .int .u64 (((rdVot lk).1).cmd).req.key, .int .u64 (((rdVot lk).1).cmd).req.v, .int .u64 (((rdVot lk).1).cmd).req.hi, .int .u8 (((rdVot lk).1).cmd).req.to, .int .u8 (((rdVot lk).1).cmd).rng.src, .int .u8 (((rdVot lk).1).cmd).rng.dst, .int .u32 (((rdVot lk).1).cmd).rng.seq, .int .u64 (((rdVot lk).1).cmd).rng.lo, .int .u64 (((rdVot lk).1).cmd).rng.hi, .slice a1 n1 c1, .slice a2 n2 c2, .int .u8 ((rdVot lk).1).cmd.peer, .int .u32 ((rdVot lk).1).cmd.seq] rfl rfl ?_ ?_ ?_ ?_ ?_ ?_)))
        case refine_1 => exact new_cells rfl
        case refine_2 => exact vot_one _ _ _ _ _ _ _ _ _ _ _ _ _ _ _ _ _ _ _ _ _ _ _ _
        case refine_3 => unfold maxLen; have := HK.out; omega
        case refine_4 => have := HK.out; omega
        case refine_5 => have := hU2.size; simp; omega
        intro vv' w3 ho3 hg3
        go_wp2
        go_roundw
        case rel =>
          have how2a := World.ownsRow.alloc how2 (.cells #[.int .u32 (rdVot lk).1.slot, .int .u32 (rdVot lk).1.n, .int .u8 (rdVot lk).1.id, .int .u8 ((rdVot lk).1).cmd.kind, .int .u8 (((rdVot lk).1).cmd).req.c, .int .u32 (((rdVot lk).1).cmd).req.s, .int .u8 (((rdVot lk).1).cmd).req.k, .int .u64 (((rdVot lk).1).cmd).req.key, .int .u64 (((rdVot lk).1).cmd).req.v, .int .u64 (((rdVot lk).1).cmd).req.hi, .int .u8 (((rdVot lk).1).cmd).req.to, .int .u8 (((rdVot lk).1).cmd).rng.src, .int .u8 (((rdVot lk).1).cmd).rng.dst, .int .u32 (((rdVot lk).1).cmd).rng.seq, .int .u64 (((rdVot lk).1).cmd).rng.lo, .int .u64 (((rdVot lk).1).cmd).rng.hi, .slice a1 n1 c1, .slice a2 n2 c2, .int .u8 ((rdVot lk).1).cmd.peer, .int .u32 ((rdVot lk).1).cmd.seq] 84)
          have hnew : Rng.Own w.heap.size (w2.alloc (.cells #[.int .u32 (rdVot lk).1.slot, .int .u32 (rdVot lk).1.n, .int .u8 (rdVot lk).1.id, .int .u8 ((rdVot lk).1).cmd.kind, .int .u8 (((rdVot lk).1).cmd).req.c, .int .u32 (((rdVot lk).1).cmd).req.s, .int .u8 (((rdVot lk).1).cmd).req.k, .int .u64 (((rdVot lk).1).cmd).req.key, .int .u64 (((rdVot lk).1).cmd).req.v, .int .u64 (((rdVot lk).1).cmd).req.hi, .int .u8 (((rdVot lk).1).cmd).req.to, .int .u8 (((rdVot lk).1).cmd).rng.src, .int .u8 (((rdVot lk).1).cmd).rng.dst, .int .u32 (((rdVot lk).1).cmd).rng.seq, .int .u64 (((rdVot lk).1).cmd).rng.lo, .int .u64 (((rdVot lk).1).cmd).rng.hi, .slice a1 n1 c1, .slice a2 n2 c2, .int .u8 ((rdVot lk).1).cmd.peer, .int .u32 ((rdVot lk).1).cmd.seq] 84)) (Rng.mk (((rdVot lk).1).cmd).rng.src (((rdVot lk).1).cmd).rng.dst (((rdVot lk).1).cmd).rng.seq (((rdVot lk).1).cmd).rng.lo (((rdVot lk).1).cmd).rng.hi ⟨a1, n1, c1⟩ ⟨a2, n2, c2⟩ (((rdVot lk).1).cmd).rng.rows (((rdVot lk).1).cmd).rng.dups) := ⟨own_mono (World.ownsRow.alloc hoA _) hsz, own_mono (World.ownsRow.alloc hoB _) hsz⟩
          refine ⟨k + 1, xs ++ [(Vot.mk (rdVot lk).1.slot (rdVot lk).1.n (rdVot lk).1.id (Cmd.mk ((rdVot lk).1).cmd.kind ((rdVot lk).1).cmd.req (Rng.mk (((rdVot lk).1).cmd).rng.src (((rdVot lk).1).cmd).rng.dst (((rdVot lk).1).cmd).rng.seq (((rdVot lk).1).cmd).rng.lo (((rdVot lk).1).cmd).rng.hi ⟨a1, n1, c1⟩ ⟨a2, n2, c2⟩ (((rdVot lk).1).cmd).rng.rows (((rdVot lk).1).cmd).rng.dups) ((rdVot lk).1).cmd.peer ((rdVot lk).1).cmd.seq))], (rdVot lk).2, by omega, by go_num, ?_, ?_, ?_, ?_, ?_, ?_⟩
          · show _ = _
            rw [List.map_append, List.map_cons, List.map_nil, vot_twin _ _ _ (vot_strip lk)]
            exact HX'.out
          · show (xs ++ _).length ≤ k + 1
            have := HK.out; simp; omega
          · show w3.ownsRow _ _ _ _ _ _
            rw [List.length_append, List.map_append, List.flatten_append]
            exact ho3
          · exact ⟨own_votes (fun i y hy => ((((HI.out.all i y hy).upd hU2 hltB)).below (later_alloc w2 _)).grew hg3 how2a) (hnew.grew hg3 how2a), ap_snoc HI.out (Nat.le_refl _) ⟨hoA, hoB⟩⟩
          · refine ⟨?_, hS2.byt, hS2.len⟩
            rw [hg3.grown.block B (by have := hS2.lt; simp; omega) (by intro e; have := (World.ownsRow.lt how2a B e.symm).1; omega)]
            exact blk_later (later_alloc w2 _) hS2.blk
          · exact upd_grown (upd_trans hU (upd_trans hU2 (upd_alloc B w2 _))) hg3.grown (fun j hj => (World.ownsRow.lt how2a j hj).1)
        case measure => simp [intOf]; omega
    · have hk' : k = n0 := by omega
      have hend : XS = (xs.map Vot.strip, lk) := by
        have := HX.out
        rw [hk', Nat.sub_self] at this
        simpa [rdList] using this
      go_wp2_with fail
      go_ret
      rw [hend]
      exact ⟨_, xs, rfl, HO.out, HI.out, rfl, hS, hU⟩

end Go.Proofs.Ytignemioillaiaa
