/- What is right (5): messages; Marshal. -/
import Derived.Test.YtignemioillaiaaGreatG50
namespace Go.Proofs.YtignemioillaiaaGreat
set_option maxHeartbeats 8000000
set_option maxRecDepth 100000
section
open Go Go.Conc
section
variable {w : World} {m : MM} {rv dv vv rv' dv' : Value}
theorem message_ok (hc : RgIn w m.c.r rv dv) (hv : VsIn w vv m.vs) (hr : RgIn w m.r rv' dv') : CY 189 #[.agg (mmC m rv dv vv rv' dv').toArray] w (fun v w' => v = .bool (okM m) ∧ GB none w w') := by
  obtain ⟨k, q, p, b, s, c, vs, r, peer, seq⟩ := m
  obtain ⟨_, _, _, _, _, _, rfl, rfl⟩ := hc.sl
  obtain ⟨_, _, _, _, _, _, rfl, rfl⟩ := hr.sl
  obtain ⟨_, _, rfl⟩ := hv.sl
  refine callE Tryz.func189 rfl rfl ?_
  refine fun w1 b1 m1 g1 l1 => ⟨_, _, m1, _, rfl, ?_⟩
  by_cases ks : k = 1 ∨ k = 2 ∨ k = 3 ∨ k = 4 ∨ k = 5 ∨ k = 6 ∨ k = 7 ∨ k = 8 ∨ k = 9 ∨ k = 10
  rotate_left
  refine spl (fun e => absurd (show k = 1 by simpa using e) (by omega)) (fun _ => ?_)
  refine spl (fun e => absurd (show k = 2 by simpa using e) (by omega)) (fun _ => ?_)
  refine spl (fun e => absurd (show k = 3 by simpa using e) (by omega)) (fun _ => ?_)
  refine spl (fun e => absurd (show k = 5 by simpa using e) (by omega)) (fun _ => ?_)
  refine spl (fun e => absurd (show k = 4 by simpa using e) (by omega)) (fun _ => ?_)
  refine spl (fun e => absurd (show k = 6 by simpa using e) (by omega)) (fun _ => ?_)
  refine spl (fun e => absurd (show k = 7 by simpa using e) (by omega)) (fun _ => ?_)
  refine spl (fun e => absurd (show k = 8 by simpa using e) (by omega)) (fun _ => ?_)
  refine spl (fun e => absurd (show k = 9 by simpa using e) (by omega)) (fun _ => ?_)
  refine spl (fun e => absurd (show k = 10 by simpa using e) (by omega)) (fun _ => ?_)
  exact ⟨vb (by simp [okM, show k ≠ 1 by omega, show k ≠ 2 by omega, show k ≠ 3 by omega, show k ≠ 4 by omega, show k ≠ 5 by omega, show k ≠ 6 by omega, show k ≠ 7 by omega, show k ≠ 8 by omega, show k ≠ 9 by omega, show k ≠ 10 by omega]), g1⟩
  rcases ks with rfl | rfl | rfl | rfl | rfl | rfl | rfl | rfl | rfl | rfl
  focus
    refine ⟨_, _, m1, q.cells, rfl, rfl, _, request_ok w1 q, ?_⟩
    rintro _ w2 ⟨rfl, g2⟩
    have m1 := g2.get m1 nofun
    have G := g1.trans g2
    generalize ha : okQ q = a
  rotate_left
  focus
    refine ⟨_, _, m1, p.cells, rfl, rfl, _, reply_ok w1 p, ?_⟩
    rintro _ w2 ⟨rfl, g2⟩
    have m1 := g2.get m1 nofun
    have G := g1.trans g2
    generalize ha : okP p = a
  rotate_left
  focus have G := g1
  rotate_left
  focus
    refine ⟨_, _, m1, _, rfl, _, votes_ok (hv.kz g1.kz), ?_⟩
    rintro _ w2 ⟨rfl, g2⟩
    have m1 := g2.get m1 nofun
    have G := g1.trans g2
    generalize ha : votesB vs = a
  rotate_left
  focus have G := g1
  rotate_left
  focus
    refine ⟨_, _, m1, mcC c _ _, rfl, rfl, _, command_ok (c := c) (hc.kz g1.kz), ?_⟩
    rintro _ w2 ⟨rfl, g2⟩
    have m1 := g2.get m1 nofun
    have G := g1.trans g2
    generalize ha : okC c = a
  rotate_left
  focus have G := g1
  rotate_left
  focus
    refine ⟨_, _, m1, mcC c _ _, rfl, rfl, _, command_ok (c := c) (hc.kz g1.kz), ?_⟩
    rintro _ w2 ⟨rfl, g2⟩
    have m1 := g2.get m1 nofun
    have G := g1.trans g2
    generalize ha : okC c = a
  rotate_left
  focus
    refine ⟨_, _, m1, rgC r _ _, rfl, rfl, _, range_ok (r := r) (hr.kz g1.kz), ?_⟩
    rintro _ w2 ⟨rfl, g2⟩
    have m1 := g2.get m1 nofun
    have G := g1.trans g2
    generalize ha : okR r = a
  rotate_left
  focus
    refine ⟨_, _, m1, _, rfl, _, group_ok w1 _, ?_⟩
    rintro _ w2 ⟨rfl, rfl⟩
    have G := g1
    generalize ha : decide (peer < 4) = a
  rotate_left
  all_goals
    repeat
      refine ⟨_, _, _, m1, rfl, rfl, fun w3 m1 g3 => ?_⟩
      have G := G.new g3 l1
  all_goals try cases a
  all_goals try exact ⟨vb (by simp [okM, ha]), G⟩
  focus refine ⟨_, _, m1, mmC ⟨1, zRq, p, b, s, c, vs, r, peer, seq⟩ _ _ _ _ _, rfl, rfl, _, noFields_ok (m := ⟨1, zRq, p, b, s, c, vs, r, peer, seq⟩) (hc.kz G.kz) (hv.kz G.kz) (hr.kz G.kz), ?_⟩
  rotate_left
  focus refine ⟨_, _, m1, mmC ⟨2, q, zRp, b, s, c, vs, r, peer, seq⟩ _ _ _ _ _, rfl, rfl, _, noFields_ok (m := ⟨2, q, zRp, b, s, c, vs, r, peer, seq⟩) (hc.kz G.kz) (hv.kz G.kz) (hr.kz G.kz), ?_⟩
  rotate_left
  focus refine ⟨_, _, m1, mmC ⟨3, q, p, ⟨0, 0⟩, s, c, vs, r, peer, seq⟩ _ _ _ _ _, rfl, rfl, _, noFields_ok (m := ⟨3, q, p, ⟨0, 0⟩, s, c, vs, r, peer, seq⟩) (hc.kz G.kz) (hv.kz G.kz) (hr.kz G.kz), ?_⟩
  rotate_left
  focus refine ⟨_, _, m1, mmC ⟨4, q, p, ⟨0, 0⟩, s, c, [], r, peer, seq⟩ _ _ (.slice none 0 0) _ _, rfl, rfl, _, noFields_ok (m := ⟨4, q, p, ⟨0, 0⟩, s, c, [], r, peer, seq⟩) (hc.kz G.kz) (VsIn.zero _) (hr.kz G.kz), ?_⟩
  rotate_left
  focus refine ⟨_, _, m1, mmC ⟨5, q, p, ⟨0, 0⟩, s, c, vs, r, peer, seq⟩ _ _ _ _ _, rfl, rfl, _, noFields_ok (m := ⟨5, q, p, ⟨0, 0⟩, s, c, vs, r, peer, seq⟩) (hc.kz G.kz) (hv.kz G.kz) (hr.kz G.kz), ?_⟩
  rotate_left
  focus refine ⟨_, _, m1, mmC ⟨6, q, p, ⟨0, 0⟩, 0, zMC, vs, r, peer, seq⟩ (.slice none 0 0) (.slice none 0 0) _ _ _, rfl, rfl, _, noFields_ok (m := ⟨6, q, p, ⟨0, 0⟩, 0, zMC, vs, r, peer, seq⟩) (RgIn.zero _) (hv.kz G.kz) (hr.kz G.kz), ?_⟩
  rotate_left
  focus refine ⟨_, _, m1, mmC ⟨7, q, p, ⟨0, 0⟩, 0, c, vs, r, peer, seq⟩ _ _ _ _ _, rfl, rfl, _, noFields_ok (m := ⟨7, q, p, ⟨0, 0⟩, 0, c, vs, r, peer, seq⟩) (hc.kz G.kz) (hv.kz G.kz) (hr.kz G.kz), ?_⟩
  rotate_left
  focus refine ⟨_, _, m1, mmC ⟨8, q, p, b, 0, zMC, vs, r, peer, seq⟩ (.slice none 0 0) (.slice none 0 0) _ _ _, rfl, rfl, _, noFields_ok (m := ⟨8, q, p, b, 0, zMC, vs, r, peer, seq⟩) (RgIn.zero _) (hv.kz G.kz) (hr.kz G.kz), ?_⟩
  rotate_left
  focus refine ⟨_, _, m1, mmC ⟨9, q, p, b, s, c, vs, zRg, peer, seq⟩ _ _ _ (.slice none 0 0) (.slice none 0 0), rfl, rfl, _, noFields_ok (m := ⟨9, q, p, b, s, c, vs, zRg, peer, seq⟩) (hc.kz G.kz) (hv.kz G.kz) (RgIn.zero _), ?_⟩
  rotate_left
  focus refine ⟨_, _, m1, mmC ⟨10, q, p, b, s, c, vs, r, 0, 0⟩ _ _ _ _ _, rfl, rfl, _, noFields_ok (m := ⟨10, q, p, b, s, c, vs, r, 0, 0⟩) (hc.kz G.kz) (hv.kz G.kz) (hr.kz G.kz), ?_⟩
  rotate_left
  all_goals
    rintro _ w9 ⟨rfl, g9⟩
    exact ⟨vb (by first | simp [okM, ha] | simp [okM]), G.trans g9⟩
end
def rdMsg (l : List Nat) : MM × List Nat := nx 1 l fun k l =>
  if k = 1 then rn rdReq l fun q l => ({ zMM k with q := q }, l)
  else if k = 2 then rn rdRep l fun p l => ({ zMM k with p := p }, l)
  else if k = 3 then rn rdBal l fun b l => ({ zMM k with b := b }, l)
  else if k = 5 then rn rdBal l fun b l => ({ zMM k with b := b }, l)
  else if k = 4 then rn rdBal l fun b l => rn (rdList rdVote) l fun vs l => ({ zMM k with b := b, vs := vs }, l)
  else if k = 6 then rn rdBal l fun b l => nx 4 l fun s l => rn rdCmd l fun c l => ({ zMM k with b := b, s := s, c := c }, l)
  else if k = 7 then rn rdBal l fun b l => nx 4 l fun s l => ({ zMM k with b := b, s := s }, l)
  else if k = 8 then nx 4 l fun s l => rn rdCmd l fun c l => ({ zMM k with s := s, c := c }, l)
  else if k = 9 then rn rdRg l fun r l => ({ zMM k with r := r }, l)
  else if k = 10 then nx 1 l fun p l => nx 4 l fun s l => ({ zMM k with peer := p, seq := s }, l)
  else (zMM k, l)
theorem VsIn.gbt {w w' : World} {v : Value} {l : List MV} {x t : Nat} {c : Array Value} (h : VsIn w v l) (g : GB (some x) w w') (hx : w.heap[x]? = some (.cells c t)) (h1 : t ≠ 128) (h2 : t ≠ 57) (h3 : t ≠ 196) : VsIn w' v l := by
  obtain ⟨ps, a1, a2, a3⟩ := h
  exact ⟨ps, a1, a2.gbt g hx h3, fun i y p hy hp => (a3 i y p hy hp).gbt g hx h1 h2⟩
section
variable {w : World} {b : Nat} {l : List Nat}
theorem msg_rd (hs : Src w b l) : CY 161 #[.pointer (some ⟨b, 0, none⟩)] w (fun v w' => ∃ x l', rdMsg l = (x, l') ∧ MIn w' v x ∧ Src w' b l' ∧ GB (some b) w w') := by
  refine callE Tryz.func161 rfl rfl ?_
  refine fun w1 b1 m1 g1 l1 => ?_
  refine ⟨_, n8_ok (hs.keep (g1.block b hs.lt nofun)), ?_⟩
  rintro _ w2 ⟨k, l2, ek, ck, rfl, s2, g2⟩
  refine fun w3 b3 m3 g3 l3 => ⟨_, _, _, m3, rfl, rfl, fun w4 m4 g4 => ?_⟩
  have B := Bx.new2 hs m1 g1 l1 s2 g2 m3 g3 l3 m4 g4
  clear m1 g1 l1 s2 g2 m3 g3 l3 m4 g4
  by_cases k1 : k = 1
  · subst k1
    refine ⟨_, _, B.m2, _, rfl, ?_⟩
    refine ⟨_, req_rd B.s, ?_⟩
    rintro _ w3 ⟨q, l3, eq, rfl, s3, g3⟩
    refine B.mv s3 g3 rfl fun w4 B => ?_
    exact B.en (mmC { zMM 1 with q := q } (.slice none 0 0) (.slice none 0 0) (.slice none 0 0) (.slice none 0 0) (.slice none 0 0)) rfl rfl rfl rfl rfl fun _ s5 g5 _ => ⟨_, _, by rw [rdMsg, nx_eq ek, if_pos rfl, rn_eq eq]; rfl, ⟨_, _, _, _, _, rfl, RgIn.zero _, VsIn.zero _, RgIn.zero _⟩, s5, g5⟩
  by_cases k2 : k = 2
  · subst k2
    refine ⟨_, _, B.m2, _, rfl, ?_⟩
    refine ⟨_, rep_rd B.s, ?_⟩
    rintro _ w3 ⟨p, l3, ep, rfl, s3, g3⟩
    refine B.mv s3 g3 rfl fun w4 B => ?_
    exact B.en (mmC { zMM 2 with p := p } (.slice none 0 0) (.slice none 0 0) (.slice none 0 0) (.slice none 0 0) (.slice none 0 0)) rfl rfl rfl rfl rfl fun _ s5 g5 _ => ⟨_, _, by rw [rdMsg, nx_eq ek, if_neg (by decide), if_pos rfl, rn_eq ep]; rfl, ⟨_, _, _, _, _, rfl, RgIn.zero _, VsIn.zero _, RgIn.zero _⟩, s5, g5⟩
  by_cases k3 : k = 3
  · subst k3
    refine ⟨_, _, B.m2, _, rfl, ?_⟩
    refine ⟨_, bal_rd B.s, ?_⟩
    rintro _ w3 ⟨bb, l3, ebb, rfl, s3, g3⟩
    refine B.mv s3 g3 rfl fun w4 B => ?_
    exact B.en (mmC { zMM 3 with b := bb } (.slice none 0 0) (.slice none 0 0) (.slice none 0 0) (.slice none 0 0) (.slice none 0 0)) rfl rfl rfl rfl rfl fun _ s5 g5 _ => ⟨_, _, by rw [rdMsg, nx_eq ek, if_neg (by decide), if_neg (by decide), if_pos rfl, rn_eq ebb]; rfl, ⟨_, _, _, _, _, rfl, RgIn.zero _, VsIn.zero _, RgIn.zero _⟩, s5, g5⟩
  by_cases k5 : k = 5
  · subst k5
    refine ⟨_, _, B.m2, _, rfl, ?_⟩
    refine ⟨_, bal_rd B.s, ?_⟩
    rintro _ w3 ⟨bb, l3, ebb, rfl, s3, g3⟩
    refine B.mv s3 g3 rfl fun w4 B => ?_
    exact B.en (mmC { zMM 5 with b := bb } (.slice none 0 0) (.slice none 0 0) (.slice none 0 0) (.slice none 0 0) (.slice none 0 0)) rfl rfl rfl rfl rfl fun _ s5 g5 _ => ⟨_, _, by rw [rdMsg, nx_eq ek, if_neg (by decide), if_neg (by decide), if_neg (by decide), if_pos rfl, rn_eq ebb]; rfl, ⟨_, _, _, _, _, rfl, RgIn.zero _, VsIn.zero _, RgIn.zero _⟩, s5, g5⟩
  by_cases k4 : k = 4
  · subst k4
    refine ⟨_, _, B.m2, _, rfl, ?_⟩
    refine ⟨_, bal_rd B.s, ?_⟩
    rintro _ w3 ⟨bb, l3, ebb, rfl, s3, g3⟩
    refine B.mv s3 g3 rfl fun w4 B => ?_
    refine ⟨_, votes_rd B.s, ?_⟩
    rintro vv w3 ⟨vs, l3, evs, hv, s3, g3⟩
    obtain ⟨va, vc, rfl⟩ := hv.sl
    replace B := B.rd s3 g3
    clear s3 g3
    refine ⟨_, _, _, B.m2, rfl, rfl, fun w4 m4 g4 => ?_⟩
    replace hv := hv.gbt g4 B.m2 (by decide) (by decide) (by decide)
    replace B := B.st m4 g4
    clear m4 g4
    refine B.en (mmC { zMM 4 with b := bb, vs := vs } (.slice none 0 0) (.slice none 0 0) (.slice va vs.length vc) (.slice none 0 0) (.slice none 0 0)) rfl rfl rfl rfl rfl fun w5 s5 g5 q5 => ?_
    replace hv := hv.gbt q5 B.m1 (by decide) (by decide) (by decide)
    exact ⟨_, _, by rw [rdMsg, nx_eq ek, if_neg (by decide), if_neg (by decide), if_neg (by decide), if_neg (by decide), if_pos rfl, rn_eq ebb, rn_eq evs]; rfl, ⟨_, _, _, _, _, rfl, RgIn.zero _, hv, RgIn.zero _⟩, s5, g5⟩
  by_cases k6 : k = 6
  · subst k6
    refine ⟨_, _, B.m2, _, rfl, ?_⟩
    refine ⟨_, bal_rd B.s, ?_⟩
    rintro _ w3 ⟨bb, l3, ebb, rfl, s3, g3⟩
    refine B.mv s3 g3 rfl fun w4 B => ?_
    refine ⟨_, n32_ok B.s, ?_⟩
    rintro _ w3 ⟨s, l3, es, cs, rfl, s3, g3⟩
    refine B.mv s3 g3 rfl fun w4 B => ?_
    refine ⟨_, cmd_rd B.s, ?_⟩
    rintro _ w3 ⟨c, l3, ec, ⟨rv, dv, rfl, hr⟩, s3, g3⟩
    obtain ⟨ra, rm, rc, da, dm, dc, rfl, rfl⟩ := hr.sl
    replace B := B.rd s3 g3
    clear s3 g3
    refine ⟨_, _, _, B.m2, rfl, rfl, fun w4 m4 g4 => ?_⟩
    replace hr := hr.gbt g4 B.m2 (by decide) (by decide)
    replace B := B.st m4 g4
    clear m4 g4
    refine B.en (mmC { zMM 6 with b := bb, s := s, c := c } (.slice ra rm rc) (.slice da dm dc) (.slice none 0 0) (.slice none 0 0) (.slice none 0 0)) rfl rfl rfl rfl rfl fun w5 s5 g5 q5 => ?_
    replace hr := hr.gbt q5 B.m1 (by decide) (by decide)
    exact ⟨_, _, by rw [rdMsg, nx_eq ek, if_neg (by decide), if_neg (by decide), if_neg (by decide), if_neg (by decide), if_neg (by decide), if_pos rfl, rn_eq ebb, nx_eq es, rn_eq ec]; rfl, ⟨_, _, _, _, _, rfl, hr, VsIn.zero _, RgIn.zero _⟩, s5, g5⟩
  by_cases k7 : k = 7
  · subst k7
    refine ⟨_, _, B.m2, _, rfl, ?_⟩
    refine ⟨_, bal_rd B.s, ?_⟩
    rintro _ w3 ⟨bb, l3, ebb, rfl, s3, g3⟩
    refine B.mv s3 g3 rfl fun w4 B => ?_
    refine ⟨_, n32_ok B.s, ?_⟩
    rintro _ w3 ⟨s, l3, es, cs, rfl, s3, g3⟩
    refine B.mv s3 g3 rfl fun w4 B => ?_
    exact B.en (mmC { zMM 7 with b := bb, s := s } (.slice none 0 0) (.slice none 0 0) (.slice none 0 0) (.slice none 0 0) (.slice none 0 0)) rfl rfl rfl rfl rfl fun _ s5 g5 _ => ⟨_, _, by rw [rdMsg, nx_eq ek, if_neg (by decide), if_neg (by decide), if_neg (by decide), if_neg (by decide), if_neg (by decide), if_neg (by decide), if_pos rfl, rn_eq ebb, nx_eq es]; rfl, ⟨_, _, _, _, _, rfl, RgIn.zero _, VsIn.zero _, RgIn.zero _⟩, s5, g5⟩
  by_cases k8 : k = 8
  · subst k8
    refine ⟨_, _, B.m2, _, rfl, ?_⟩
    refine ⟨_, n32_ok B.s, ?_⟩
    rintro _ w3 ⟨s, l3, es, cs, rfl, s3, g3⟩
    refine B.mv s3 g3 rfl fun w4 B => ?_
    refine ⟨_, cmd_rd B.s, ?_⟩
    rintro _ w3 ⟨c, l3, ec, ⟨rv, dv, rfl, hr⟩, s3, g3⟩
    obtain ⟨ra, rm, rc, da, dm, dc, rfl, rfl⟩ := hr.sl
    replace B := B.rd s3 g3
    clear s3 g3
    refine ⟨_, _, _, B.m2, rfl, rfl, fun w4 m4 g4 => ?_⟩
    replace hr := hr.gbt g4 B.m2 (by decide) (by decide)
    replace B := B.st m4 g4
    clear m4 g4
    refine B.en (mmC { zMM 8 with s := s, c := c } (.slice ra rm rc) (.slice da dm dc) (.slice none 0 0) (.slice none 0 0) (.slice none 0 0)) rfl rfl rfl rfl rfl fun w5 s5 g5 q5 => ?_
    replace hr := hr.gbt q5 B.m1 (by decide) (by decide)
    exact ⟨_, _, by rw [rdMsg, nx_eq ek, if_neg (by decide), if_neg (by decide), if_neg (by decide), if_neg (by decide), if_neg (by decide), if_neg (by decide), if_neg (by decide), if_pos rfl, nx_eq es, rn_eq ec]; rfl, ⟨_, _, _, _, _, rfl, hr, VsIn.zero _, RgIn.zero _⟩, s5, g5⟩
  by_cases k9 : k = 9
  · subst k9
    refine ⟨_, _, B.m2, _, rfl, ?_⟩
    refine ⟨_, rg_rd B.s, ?_⟩
    rintro _ w3 ⟨r, l3, er, ⟨rv, dv, rfl, hr⟩, s3, g3⟩
    obtain ⟨ra, rm, rc, da, dm, dc, rfl, rfl⟩ := hr.sl
    replace B := B.rd s3 g3
    clear s3 g3
    refine ⟨_, _, _, B.m2, rfl, rfl, fun w4 m4 g4 => ?_⟩
    replace hr := hr.gbt g4 B.m2 (by decide) (by decide)
    replace B := B.st m4 g4
    clear m4 g4
    refine B.en (mmC { zMM 9 with r := r } (.slice none 0 0) (.slice none 0 0) (.slice none 0 0) (.slice ra rm rc) (.slice da dm dc)) rfl rfl rfl rfl rfl fun w5 s5 g5 q5 => ?_
    replace hr := hr.gbt q5 B.m1 (by decide) (by decide)
    exact ⟨_, _, by rw [rdMsg, nx_eq ek, if_neg (by decide), if_neg (by decide), if_neg (by decide), if_neg (by decide), if_neg (by decide), if_neg (by decide), if_neg (by decide), if_neg (by decide), if_pos rfl, rn_eq er]; rfl, ⟨_, _, _, _, _, rfl, RgIn.zero _, VsIn.zero _, hr⟩, s5, g5⟩
  by_cases k10 : k = 10
  · subst k10
    refine ⟨_, _, B.m2, _, rfl, ?_⟩
    refine ⟨_, n8_ok B.s, ?_⟩
    rintro _ w3 ⟨p, l3, ep, cp, rfl, s3, g3⟩
    refine B.mv s3 g3 rfl fun w4 B => ?_
    refine ⟨_, n32_ok B.s, ?_⟩
    rintro _ w3 ⟨t, l3, et, ct, rfl, s3, g3⟩
    refine B.mv s3 g3 rfl fun w4 B => ?_
    exact B.en (mmC { zMM 10 with peer := p, seq := t } (.slice none 0 0) (.slice none 0 0) (.slice none 0 0) (.slice none 0 0) (.slice none 0 0)) rfl rfl rfl rfl rfl fun _ s5 g5 _ => ⟨_, _, by rw [rdMsg, nx_eq ek, if_neg (by decide), if_neg (by decide), if_neg (by decide), if_neg (by decide), if_neg (by decide), if_neg (by decide), if_neg (by decide), if_neg (by decide), if_neg (by decide), if_pos rfl, nx_eq ep, nx_eq et]; rfl, ⟨_, _, _, _, _, rfl, RgIn.zero _, VsIn.zero _, RgIn.zero _⟩, s5, g5⟩
  refine ⟨_, _, B.m2, _, rfl, ?_⟩
  refine spl (fun q => absurd (by simp at q; omega) k1) (fun _ => ?_)
  refine spl (fun q => absurd (by simp at q; omega) k2) (fun _ => ?_)
  refine spl (fun q => absurd (by simp at q; omega) k3) (fun _ => ?_)
  refine spl (fun q => absurd (by simp at q; omega) k5) (fun _ => ?_)
  refine spl (fun q => absurd (by simp at q; omega) k4) (fun _ => ?_)
  refine spl (fun q => absurd (by simp at q; omega) k6) (fun _ => ?_)
  refine spl (fun q => absurd (by simp at q; omega) k7) (fun _ => ?_)
  refine spl (fun q => absurd (by simp at q; omega) k8) (fun _ => ?_)
  refine spl (fun q => absurd (by simp at q; omega) k9) (fun _ => ?_)
  refine spl (fun q => absurd (by simp at q; omega) k10) (fun _ => ?_)
  exact B.en (mmC (zMM k) (.slice none 0 0) (.slice none 0 0) (.slice none 0 0) (.slice none 0 0) (.slice none 0 0)) rfl rfl rfl rfl rfl fun _ s5 g5 _ => ⟨_, _, by rw [rdMsg, nx_eq ek, if_neg k1, if_neg k2, if_neg k3, if_neg k5, if_neg k4, if_neg k6, if_neg k7, if_neg k8, if_neg k9, if_neg k10], ⟨_, _, _, _, _, rfl, RgIn.zero _, VsIn.zero _, RgIn.zero _⟩, s5, g5⟩
end
theorem rowsB_sm {r : Rg} (h : okR r = true) : r.sm := by
  unfold okR rowsB dupsB listB at h
  simp only [Bool.and_eq_true, decide_eq_true_eq] at h
  exact ⟨h.2.2.2.2.1.1, h.2.2.2.2.2.1⟩
theorem noR_sm {r : Rg} (h : noR r = true) : r.sm := by
  unfold noR at h
  simp only [Bool.and_eq_true, beq_iff_eq] at h
  exact ⟨by omega, by omega⟩
theorem okC_sm {c : MC} (h : okC c = true) : c.r.sm := by
  unfold okC noC at h
  split at h
  · simp only [Bool.and_eq_true] at h; exact noR_sm h.2.1
  split at h
  · simp only [Bool.and_eq_true] at h; exact noR_sm h.2.1
  split at h
  · simp only [Bool.and_eq_true] at h; exact rowsB_sm h.1
  split at h
  · simp only [Bool.and_eq_true] at h; exact noR_sm h.2.2
  · cases h
theorem votesB_sm {l : List MV} (h : votesB l = true) : l.length ≤ 255 ∧ ∀ v ∈ l, v.c.r.sm := by
  unfold votesB listB at h
  simp only [Bool.and_eq_true, decide_eq_true_eq] at h
  refine ⟨h.1, fun v hv => ?_⟩
  obtain ⟨i, hi, rfl⟩ := List.getElem_of_mem hv
  have := List.all_eq_true.1 h.2 i (List.mem_range.2 hi)
  unfold atL at this
  rw [List.getElem?_eq_getElem hi] at this
  simp only [Bool.and_eq_true] at this
  exact okC_sm this.1
theorem noM_sm {m : MM} (h : noM m = true) : m.c.r.sm ∧ m.vs.length = 0 ∧ m.r.sm := by
  unfold noM noC at h
  simp only [Bool.and_eq_true, beq_iff_eq] at h
  exact ⟨noR_sm h.2.2.2.2.2.1.2.1, by omega, noR_sm h.2.2.2.2.2.2.2.1⟩
theorem MM.sm.of {m : MM} (h1 : m.c.r.sm) (h2 : m.r.sm) (h3 : m.vs.length = 0) : m.sm := ⟨h1, h2, by omega, fun v hv => by rw [List.eq_nil_of_length_eq_zero h3] at hv; cases hv⟩
theorem okM_sm {m : MM} (h : okM m = true) : m.sm ∧ 1 ≤ m.kind ∧ m.kind ≤ 10 := by
  unfold okM at h
  split at h
  · simp only [Bool.and_eq_true] at h; obtain ⟨a, b, c⟩ := noM_sm h.2; exact ⟨.of a c b, by omega, by omega⟩
  split at h
  · simp only [Bool.and_eq_true] at h; obtain ⟨a, b, c⟩ := noM_sm h.2; exact ⟨.of a c b, by omega, by omega⟩
  split at h
  · obtain ⟨a, b, c⟩ := noM_sm h; exact ⟨.of a c b, by omega, by omega⟩
  split at h
  · obtain ⟨a, b, c⟩ := noM_sm h; exact ⟨.of a c b, by omega, by omega⟩
  split at h
  · simp only [Bool.and_eq_true] at h; obtain ⟨a, b, c⟩ := noM_sm h.2; exact ⟨⟨a, c, (votesB_sm h.1).1, (votesB_sm h.1).2⟩, by omega, by omega⟩
  split at h
  · simp only [Bool.and_eq_true] at h; obtain ⟨a, b, c⟩ := noM_sm h.2; exact ⟨.of (okC_sm h.1) c b, by omega, by omega⟩
  split at h
  · obtain ⟨a, b, c⟩ := noM_sm h; exact ⟨.of a c b, by omega, by omega⟩
  split at h
  · simp only [Bool.and_eq_true] at h; obtain ⟨a, b, c⟩ := noM_sm h.2; exact ⟨.of (okC_sm h.1) c b, by omega, by omega⟩
  split at h
  · simp only [Bool.and_eq_true] at h; obtain ⟨a, b, c⟩ := noM_sm h.2; exact ⟨.of a (rowsB_sm h.1) b, by omega, by omega⟩
  split at h
  · simp only [Bool.and_eq_true] at h; obtain ⟨a, b, c⟩ := noM_sm h.2; exact ⟨.of a c b, by omega, by omega⟩
  · cases h
def encM (m : MM) : ByteArray := if okM m = true then bstr (eMsg m) else ⟨#[]⟩
def decM (d : ByteArray) : Option MM := if okM (rdMsg (dl d)).1 = true ∧ (bstr (eMsg (rdMsg (dl d)).1)).data.toList = d.data.toList then some (rdMsg (dl d)).1 else none
section
variable {w : World} {v : Value} {m : MM}
theorem marshal_ok (h : MIn w v m) : CY 158 #[v] w (fun v' w' => v' = .tuple #[.string (encM m), .int .i64 (if okM m = true then 0 else 1)] ∧ GB none w w') := by
  obtain ⟨rv, dv, vv, rv', dv', rfl, hc, hv, hr⟩ := h
  obtain ⟨_, _, _, _, _, _, e1, e2⟩ := hc.sl
  obtain ⟨_, _, _, _, _, _, e3, e4⟩ := hr.sl
  obtain ⟨_, _, e5⟩ := hv.sl
  subst e1 e2 e3 e4 e5
  refine callE Tryz.func158 rfl rfl ?_
  refine fun w1 b1 m1 g1 l1 => ?_
  refine ⟨_, _, m1, mmC m _ _ _ _ _, rfl, rfl, _, message_ok (hc.kz g1.kz) (hv.kz g1.kz) (hr.kz g1.kz), ?_⟩
  rintro _ w2 ⟨rfl, g2⟩
  have G := g1.trans g2
  unfold encM
  obtain ⟨a, ha⟩ : ∃ a, okM m = a := ⟨_, rfl⟩
  rw [ha]
  cases a
  · exact ⟨rfl, G⟩
  · obtain ⟨hs, hk⟩ := okM_sm ha
    refine ⟨_, _, g2.get m1 nofun, mmC m _ _ _ _ _, rfl, rfl, _, putMsg_ok (own0 _ _ _) (by decide) (hc.kz G.kz) (hv.kz G.kz) (hr.kz G.kz) hs hk, ?_⟩
    intro v3 w3 P
    have hrow := P.row
    rw [Nat.zero_add, List.nil_append] at hrow
    obtain ⟨a3, c3, rfl⟩ := own_slice hrow
    exact ⟨eMsg m, hrow, rfl, G.trans P.gb⟩
theorem parse_ok (w : World) (d : ByteArray) : CY 113 #[.string d] w (fun v w' => (∃ mv e m, v = .tuple #[mv, .int .i64 e] ∧ MIn w' mv m ∧ ((e = 0 ∧ decM d = some m ∧ 1 ≤ m.kind ∧ m.kind ≤ 10) ∨ (e ≠ 0 ∧ decM d = none))) ∧ GB none w w') := by
  refine callE Tryz.func113 rfl rfl ?_
  refine fun w1 b1 m1 g1 l1 w2 b2 m2 g2 l2 => ⟨_, _, _, m2, rfl, rfl, fun w3 m3 g3 => ?_⟩
  have G3 := g2.new g3 l2
  refine ⟨_, msg_rd ⟨d, m3, rfl⟩, ?_⟩
  rintro _ w4 ⟨m, l4, em, hm, s4, g4⟩
  have G4 : GB none w w4 := (g1.trans G3).new g4 (Nat.le_trans g1.size l2)
  have m1' : w4.heap[b1]? = _ := g4.get (G3.get m1 nofun) fun e => by injection e with e; have := lt_heap m1; omega
  obtain ⟨rv, dv, vv, rv', dv', rfl, hc, hv, hr⟩ := hm
  obtain ⟨_, _, _, _, _, _, e1, e2⟩ := hc.sl
  obtain ⟨_, _, _, _, _, _, e3, e4⟩ := hr.sl
  obtain ⟨_, _, e5⟩ := hv.sl
  subst e1 e2 e3 e4 e5
  refine fun w5 b5 m5 g5 l5 => ⟨_, _, _, m5, rfl, rfl, fun w6 m6 g6 => ?_⟩
  have g56 := g5.new g6 l5
  have m1'' := g56.get m1' nofun
  refine ⟨_, _, m6, mmC m _ _ _ _ _, rfl, rfl, _, marshal_ok ⟨_, _, _, _, _, rfl, hc.kz g56.kz, hv.kz g56.kz, hr.kz g56.kz⟩, ?_⟩
  rintro _ w7 ⟨rfl, g7⟩
  have G7 := (G4.trans g56).trans g7
  have m1 := g7.get m1'' nofun
  have m6 := g7.get m6 nofun
  have k := g56.trans g7
  have em1 : (rdMsg (dl d)).1 = m := by rw [em]
  have none' : ∀ w8, GB (some b1) w7 w8 → GB none w w8 := fun w8 g8 => G7.new g8 l1
  clear m1' m1'' m3 m2 g3 g1 g2 G3 g4 m5 g5 g6
  obtain ⟨a, ha⟩ : ∃ a, okM m = a := ⟨_, rfl⟩
  have hdn : a = false → decM d = none := fun h => by unfold decM; rw [em1, ha, h]; simp
  unfold encM
  rw [ha]
  cases a
  · refine ⟨_, _, _, m1, rfl, rfl, fun w8 m8 g8 => ?_⟩
    exact ⟨_, _, m8, mmC (zMM 0) (.slice none 0 0) (.slice none 0 0) (.slice none 0 0) (.slice none 0 0) (.slice none 0 0), rfl, rfl, ⟨_, _, zMM 0, rfl, ⟨_, _, _, _, _, rfl, RgIn.zero _, VsIn.zero _, RgIn.zero _⟩, .inr ⟨by decide, hdn rfl⟩⟩, none' w8 g8⟩
  · refine spl (fun q => ?_) (fun q => ?_)
    · have q1 : decM d = none := by
        unfold decM
        rw [em1, if_neg]
        rintro ⟨_, h⟩
        rw [show (if true = true then bstr (eMsg m) else ⟨#[]⟩) = bstr (eMsg m) from rfl, ByteArray.toList_eq, ByteArray.toList_eq, h] at q
        simp at q
      refine ⟨_, _, _, m1, rfl, rfl, fun w8 m8 g8 => ?_⟩
      exact ⟨_, _, m8, mmC (zMM 0) (.slice none 0 0) (.slice none 0 0) (.slice none 0 0) (.slice none 0 0) (.slice none 0 0), rfl, rfl, ⟨_, _, zMM 0, rfl, ⟨_, _, _, _, _, rfl, RgIn.zero _, VsIn.zero _, RgIn.zero _⟩, .inr ⟨by decide, q1⟩⟩, none' w8 g8⟩
    · have q1 : decM d = some m := by
        unfold decM
        rw [em1, if_pos]
        rw [show (if true = true then bstr (eMsg m) else ⟨#[]⟩) = bstr (eMsg m) from rfl, ByteArray.toList_eq, ByteArray.toList_eq] at q
        simp at q
        exact ⟨ha, by simp [q]⟩
      refine ⟨_, _, m6, mmC m _ _ _ _ _, rfl, rfl, _, _, _, m1, rfl, rfl, fun w8 m8 g8 => ?_⟩
      have hb1 : ∀ {c t}, (x : Nat) → w7.heap[x]? = some (.cells c t) → t ≠ 203 → x ≠ b1 := fun x hx ht => ne_ty hx m1 ht
      refine ⟨_, _, m8, mmC m _ _ _ _ _, rfl, rfl, ⟨_, _, m, rfl, ⟨_, _, _, _, _, rfl, (hc.kz k.kz).gbt g8 m1 (by decide) (by decide), (hv.kz k.kz).gbt g8 m1 (by decide) (by decide) (by decide), (hr.kz k.kz).gbt g8 m1 (by decide) (by decide)⟩, .inl ⟨rfl, q1, (okM_sm ha).2⟩⟩, none' w8 g8⟩
end
end
end Go.Proofs.YtignemioillaiaaGreat
