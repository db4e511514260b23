/- Package wire: rows, ballots, requests and replies put behind bytes. -/
import Derived.Test.YtegdnihkifmepaaB
import Derived.Deep.RegionWith
namespace Go.Proofs.Ytegdnihkifmepaa
open Go.RowKit

theorem Grew.drew (w : World) (v : Value) : Grew w v w.drew v := ⟨⟨rfl, rfl, rfl, Nat.le_refl _, fun _ _ _ => rfl⟩, .inl rfl⟩

theorem own_eq {base : Nat} {w : World} {v : Value} {l l' : List Int} (h : OwnB base w v l) (e : l = l') : OwnB base w v l' := e ▸ h

set_option maxHeartbeats 400000 in
set_option maxRecDepth 100000 in
theorem putrequest_2 (base : Nat) (v : Value) (l : List Int) (qc qs qk qkey qv qhi qto : Int) (w : World) (hown : OwnB base w v l) (hb0 : base ≤ w.heap.size) (hl : l.length < 2147000000) (hwf : (Req.mk qc qs qk qkey qv qhi qto).wf) (hk : qk = 2) :
    Calls Try.prog 63 #[v, .agg #[.int .u8 qc, .int .u32 qs, .int .u8 qk, .int .u64 qkey, .int .u64 qv, .int .u64 qhi, .int .u8 qto]] w fun e w' => ∃ v', e = .returned v' ∧ OwnB base w' v' (l ++ (Req.mk qc qs qk qkey qv qhi qto).bytes) ∧ Grew w v w' v' := by
  obtain ⟨hc1, hs1, hk1, hkey1, hv1, hhi1, hto1⟩ := hwf
  simp only [U8, U32, U64] at hc1 hs1 hk1 hkey1 hv1 hhi1 hto1
  have hne := hown.ne
  have hW := heap_alloc_new w (.cells #[.int .u8 qc, .int .u32 qs, .int .u8 qk, .int .u64 qkey, .int .u64 qv, .int .u64 qhi, .int .u8 qto] 25)
  have hown0 : OwnB base (w.alloc (.cells #[.int .u8 qc, .int .u32 qs, .int .u8 qk, .int .u64 qkey, .int .u64 qv, .int .u64 qhi, .int .u8 qto] 25)) v l := World.ownsRow.alloc hown _
  have hA := Grew.alloc w v (.cells #[.int .u8 qc, .int .u32 qs, .int .u8 qk, .int .u64 qkey, .int .u64 qv, .int .u64 qhi, .int .u8 qto] 25)
  have hG := hA
  have hb : base ≤ (w.alloc (.cells #[.int .u8 qc, .int .u32 qs, .int .u8 qk, .int .u64 qkey, .int .u64 qv, .int .u64 qhi, .int .u8 qto] 25)).heap.size := by simp; omega
  have hG : Grew (w.alloc (.cells #[.int .u8 qc, .int .u32 qs, .int .u8 qk, .int .u64 qkey, .int .u64 qv, .int .u64 qhi, .int .u8 qto] 25)) v (w.alloc (.cells #[.int .u8 qc, .int .u32 qs, .int .u8 qk, .int .u64 qkey, .int .u64 qv, .int .u64 qhi, .int .u8 qto] 25)) v := ⟨⟨rfl, rfl, rfl, Nat.le_refl _, fun _ _ _ => rfl⟩, .inl rfl⟩
  clear hown hb0
  subst hk
  go_enter Try.func63, Try.ntmps63
  go_wp2_with (first | (go_at_call 62; go_must (refine (put8_any base _ _ _ _ (by assumption) (by assumption) (by first | omega | (simp only [List.length_append, be32_len, List.length_cons, List.length_nil]; omega))).mono ?_; rintro e w1 ⟨v1, rfl, hown1, hg1⟩; have hG := hG.trans hg1; have hb := Nat.le_trans hb hg1.grown.size; have hB := blk_cell (hG.blk hW hne))) | (go_at_call 68; go_must (refine (put32_any base _ _ _ _ (by assumption) (by assumption) (by first | omega | (simp only [List.length_append, List.length_cons, List.length_nil]; omega)) (by omega) (by omega)).mono ?_; rintro e w1 ⟨v1, rfl, hown1, hg1⟩; have hG := hG.trans hg1; have hb := Nat.le_trans hb hg1.grown.size; have hB := blk_cell (hG.blk hW hne))) | (go_at_call 96; go_must (refine (put64_any base _ _ _ _ (by assumption) (by assumption) (by first | omega | (simp only [List.length_append, be32_len, be64_len, List.length_cons, List.length_nil]; omega)) (by omega) (by omega)).mono ?_; rintro e w1 ⟨v1, rfl, hown1, hg1⟩; have hG := hG.trans hg1; have hb := Nat.le_trans hb hg1.grown.size; have hB := blk_cell (hG.blk hW hne))))
  go_ret
  exact ⟨_, rfl, own_eq ‹OwnB base _ _ _› (by simp [Req.bytes, Req.tail]), hA.trans hG⟩

set_option maxHeartbeats 400000 in
set_option maxRecDepth 100000 in
theorem putrequest_4 (base : Nat) (v : Value) (l : List Int) (qc qs qk qkey qv qhi qto : Int) (w : World) (hown : OwnB base w v l) (hb0 : base ≤ w.heap.size) (hl : l.length < 2147000000) (hwf : (Req.mk qc qs qk qkey qv qhi qto).wf) (hk : qk = 4) :
    Calls Try.prog 63 #[v, .agg #[.int .u8 qc, .int .u32 qs, .int .u8 qk, .int .u64 qkey, .int .u64 qv, .int .u64 qhi, .int .u8 qto]] w fun e w' => ∃ v', e = .returned v' ∧ OwnB base w' v' (l ++ (Req.mk qc qs qk qkey qv qhi qto).bytes) ∧ Grew w v w' v' := by
  obtain ⟨hc1, hs1, hk1, hkey1, hv1, hhi1, hto1⟩ := hwf
  simp only [U8, U32, U64] at hc1 hs1 hk1 hkey1 hv1 hhi1 hto1
  have hne := hown.ne
  have hW := heap_alloc_new w (.cells #[.int .u8 qc, .int .u32 qs, .int .u8 qk, .int .u64 qkey, .int .u64 qv, .int .u64 qhi, .int .u8 qto] 25)
  have hown0 : OwnB base (w.alloc (.cells #[.int .u8 qc, .int .u32 qs, .int .u8 qk, .int .u64 qkey, .int .u64 qv, .int .u64 qhi, .int .u8 qto] 25)) v l := World.ownsRow.alloc hown _
  have hA := Grew.alloc w v (.cells #[.int .u8 qc, .int .u32 qs, .int .u8 qk, .int .u64 qkey, .int .u64 qv, .int .u64 qhi, .int .u8 qto] 25)
  have hG := hA
  have hb : base ≤ (w.alloc (.cells #[.int .u8 qc, .int .u32 qs, .int .u8 qk, .int .u64 qkey, .int .u64 qv, .int .u64 qhi, .int .u8 qto] 25)).heap.size := by simp; omega
  have hG : Grew (w.alloc (.cells #[.int .u8 qc, .int .u32 qs, .int .u8 qk, .int .u64 qkey, .int .u64 qv, .int .u64 qhi, .int .u8 qto] 25)) v (w.alloc (.cells #[.int .u8 qc, .int .u32 qs, .int .u8 qk, .int .u64 qkey, .int .u64 qv, .int .u64 qhi, .int .u8 qto] 25)) v := ⟨⟨rfl, rfl, rfl, Nat.le_refl _, fun _ _ _ => rfl⟩, .inl rfl⟩
  clear hown hb0
  subst hk
  go_enter Try.func63, Try.ntmps63
  go_wp2_with (first | (go_at_call 62; go_must (refine (put8_any base _ _ _ _ (by assumption) (by assumption) (by first | omega | (simp only [List.length_append, be32_len, be64_len, List.length_cons, List.length_nil]; omega))).mono ?_; rintro e w1 ⟨v1, rfl, hown1, hg1⟩; have hG := hG.trans hg1; have hb := Nat.le_trans hb hg1.grown.size; have hB := blk_cell (hG.blk hW hne))) | (go_at_call 68; go_must (refine (put32_any base _ _ _ _ (by assumption) (by assumption) (by first | omega | (simp only [List.length_append, List.length_cons, List.length_nil]; omega)) (by omega) (by omega)).mono ?_; rintro e w1 ⟨v1, rfl, hown1, hg1⟩; have hG := hG.trans hg1; have hb := Nat.le_trans hb hg1.grown.size; have hB := blk_cell (hG.blk hW hne))) | (go_at_call 96; go_must (refine (put64_any base _ _ _ _ (by assumption) (by assumption) (by first | omega | (simp only [List.length_append, be32_len, be64_len, List.length_cons, List.length_nil]; omega)) (by omega) (by omega)).mono ?_; rintro e w1 ⟨v1, rfl, hown1, hg1⟩; have hG := hG.trans hg1; have hb := Nat.le_trans hb hg1.grown.size; have hB := blk_cell (hG.blk hW hne))))
  go_ret
  exact ⟨_, rfl, own_eq ‹OwnB base _ _ _› (by simp [Req.bytes, Req.tail]), hA.trans hG⟩

set_option maxHeartbeats 400000 in
set_option maxRecDepth 100000 in
theorem putrequest_e (base : Nat) (v : Value) (l : List Int) (qc qs qk qkey qv qhi qto : Int) (w : World) (hown : OwnB base w v l) (hb0 : base ≤ w.heap.size) (hl : l.length < 2147000000) (hwf : (Req.mk qc qs qk qkey qv qhi qto).wf) (hk2 : (qk == 2) = false) (hk4 : (qk == 4) = false) :
    Calls Try.prog 63 #[v, .agg #[.int .u8 qc, .int .u32 qs, .int .u8 qk, .int .u64 qkey, .int .u64 qv, .int .u64 qhi, .int .u8 qto]] w fun e w' => ∃ v', e = .returned v' ∧ OwnB base w' v' (l ++ (Req.mk qc qs qk qkey qv qhi qto).bytes) ∧ Grew w v w' v' := by
  obtain ⟨hc1, hs1, hk1, hkey1, hv1, hhi1, hto1⟩ := hwf
  simp only [U8, U32, U64] at hc1 hs1 hk1 hkey1 hv1 hhi1 hto1
  have hne := hown.ne
  have hW := heap_alloc_new w (.cells #[.int .u8 qc, .int .u32 qs, .int .u8 qk, .int .u64 qkey, .int .u64 qv, .int .u64 qhi, .int .u8 qto] 25)
  have hown0 : OwnB base (w.alloc (.cells #[.int .u8 qc, .int .u32 qs, .int .u8 qk, .int .u64 qkey, .int .u64 qv, .int .u64 qhi, .int .u8 qto] 25)) v l := World.ownsRow.alloc hown _
  have hA := Grew.alloc w v (.cells #[.int .u8 qc, .int .u32 qs, .int .u8 qk, .int .u64 qkey, .int .u64 qv, .int .u64 qhi, .int .u8 qto] 25)
  have hG := hA
  have hb : base ≤ (w.alloc (.cells #[.int .u8 qc, .int .u32 qs, .int .u8 qk, .int .u64 qkey, .int .u64 qv, .int .u64 qhi, .int .u8 qto] 25)).heap.size := by simp; omega
  have hG : Grew (w.alloc (.cells #[.int .u8 qc, .int .u32 qs, .int .u8 qk, .int .u64 qkey, .int .u64 qv, .int .u64 qhi, .int .u8 qto] 25)) v (w.alloc (.cells #[.int .u8 qc, .int .u32 qs, .int .u8 qk, .int .u64 qkey, .int .u64 qv, .int .u64 qhi, .int .u8 qto] 25)) v := ⟨⟨rfl, rfl, rfl, Nat.le_refl _, fun _ _ _ => rfl⟩, .inl rfl⟩
  clear hown hb0
  go_enter Try.func63, Try.ntmps63
  go_wp2_with (first | (go_at_call 62; go_must (refine (put8_any base _ _ _ _ (by assumption) (by assumption) (by first | omega | (simp only [List.length_append, be32_len, List.length_cons, List.length_nil]; omega))).mono ?_; rintro e w1 ⟨v1, rfl, hown1, hg1⟩; have hG := hG.trans hg1; have hb := Nat.le_trans hb hg1.grown.size; have hB := blk_cell (hG.blk hW hne))) | (go_at_call 68; go_must (refine (put32_any base _ _ _ _ (by assumption) (by assumption) (by first | omega | (simp only [List.length_append, List.length_cons, List.length_nil]; omega)) (by omega) (by omega)).mono ?_; rintro e w1 ⟨v1, rfl, hown1, hg1⟩; have hG := hG.trans hg1; have hb := Nat.le_trans hb hg1.grown.size; have hB := blk_cell (hG.blk hW hne))) | (go_at_call 96; go_must (refine (put64_any base _ _ _ _ (by assumption) (by assumption) (by first | omega | (simp only [List.length_append, be32_len, List.length_cons, List.length_nil]; omega)) (by omega) (by omega)).mono ?_; rintro e w1 ⟨v1, rfl, hown1, hg1⟩; have hG := hG.trans hg1; have hb := Nat.le_trans hb hg1.grown.size; have hB := blk_cell (hG.blk hW hne))))
  go_ret
  exact ⟨_, rfl, own_eq ‹OwnB base _ _ _› (by simp [Req.bytes, Req.tail, show ¬ qk = 2 by simpa using hk2, show ¬ qk = 4 by simpa using hk4]), hA.trans hG⟩

theorem putrequest_any (base : Nat) (v : Value) (l : List Int) (qc qs qk qkey qv qhi qto : Int) (w : World) (hown : OwnB base w v l) (hb0 : base ≤ w.heap.size) (hl : l.length < 2147000000) (hwf : (Req.mk qc qs qk qkey qv qhi qto).wf) :
    Calls Try.prog 63 #[v, .agg #[.int .u8 qc, .int .u32 qs, .int .u8 qk, .int .u64 qkey, .int .u64 qv, .int .u64 qhi, .int .u8 qto]] w fun e w' => ∃ v', e = .returned v' ∧ OwnB base w' v' (l ++ (Req.mk qc qs qk qkey qv qhi qto).bytes) ∧ Grew w v w' v' := by
  by_cases h2 : qk = 2
  · exact putrequest_2 _ _ _ _ _ _ _ _ _ _ _ hown hb0 hl hwf h2
  by_cases h4 : qk = 4
  · exact putrequest_4 _ _ _ _ _ _ _ _ _ _ _ hown hb0 hl hwf h4
  exact putrequest_e _ _ _ _ _ _ _ _ _ _ _ hown hb0 hl hwf (by simpa using h2) (by simpa using h4)

set_option maxHeartbeats 400000 in
set_option maxRecDepth 100000 in
theorem putreply_1t (base : Nat) (v : Value) (l : List Int) (pc ps pkey pk : Int) (pf : Bool) (pv pg : Int) (w : World) (hown : OwnB base w v l) (hb0 : base ≤ w.heap.size) (hl : l.length < 2147000000) (hwf : (Rep.mk pc ps pkey pk pf pv pg).wf) (hk : pk = 1) (hf : pf = true) :
    Calls Try.prog 64 #[v, .agg #[.int .u8 pc, .int .u32 ps, .int .u64 pkey, .int .u8 pk, .bool pf, .int .u64 pv, .int .u8 pg]] w fun e w' => ∃ v', e = .returned v' ∧ OwnB base w' v' (l ++ (Rep.mk pc ps pkey pk pf pv pg).bytes) ∧ Grew w v w' v' := by
  obtain ⟨hc1, hs1, hkey1, hk1, hv1, hg1⟩ := hwf
  simp only [U8, U32, U64] at hc1 hs1 hk1 hkey1 hv1 hg1
  have hne := hown.ne
  have hW := heap_alloc_new w (.cells #[.int .u8 pc, .int .u32 ps, .int .u64 pkey, .int .u8 pk, .bool pf, .int .u64 pv, .int .u8 pg] 27)
  have hown0 : OwnB base (w.alloc (.cells #[.int .u8 pc, .int .u32 ps, .int .u64 pkey, .int .u8 pk, .bool pf, .int .u64 pv, .int .u8 pg] 27)) v l := World.ownsRow.alloc hown _
  have hA := Grew.alloc w v (.cells #[.int .u8 pc, .int .u32 ps, .int .u64 pkey, .int .u8 pk, .bool pf, .int .u64 pv, .int .u8 pg] 27)
  have hG := hA
  have hb : base ≤ (w.alloc (.cells #[.int .u8 pc, .int .u32 ps, .int .u64 pkey, .int .u8 pk, .bool pf, .int .u64 pv, .int .u8 pg] 27)).heap.size := by simp; omega
  have hG : Grew (w.alloc (.cells #[.int .u8 pc, .int .u32 ps, .int .u64 pkey, .int .u8 pk, .bool pf, .int .u64 pv, .int .u8 pg] 27)) v (w.alloc (.cells #[.int .u8 pc, .int .u32 ps, .int .u64 pkey, .int .u8 pk, .bool pf, .int .u64 pv, .int .u8 pg] 27)) v := ⟨⟨rfl, rfl, rfl, Nat.le_refl _, fun _ _ _ => rfl⟩, .inl rfl⟩
  clear hown hb0
  subst hk; subst hf
  go_enter Try.func64, Try.ntmps64
  go_wp2_with (first | (go_at_call 62; go_must (refine (put8_any base _ _ _ _ (by assumption) (by assumption) (by first | omega | (simp only [List.length_append, be32_len, be64_len, List.length_cons, List.length_nil]; omega))).mono ?_; rintro e w1 ⟨v1, rfl, hown1, hg1⟩; have hG := hG.trans hg1; have hb := Nat.le_trans hb hg1.grown.size; have hB := blk_cell (hG.blk hW hne))) | (go_at_call 68; go_must (refine (put32_any base _ _ _ _ (by assumption) (by assumption) (by first | omega | (simp only [List.length_append, List.length_cons, List.length_nil]; omega)) (by omega) (by omega)).mono ?_; rintro e w1 ⟨v1, rfl, hown1, hg1⟩; have hG := hG.trans hg1; have hb := Nat.le_trans hb hg1.grown.size; have hB := blk_cell (hG.blk hW hne))) | (go_at_call 96; go_must (refine (put64_any base _ _ _ _ (by assumption) (by assumption) (by first | omega | (simp only [List.length_append, be32_len, be64_len, List.length_cons, List.length_nil]; omega)) (by omega) (by omega)).mono ?_; rintro e w1 ⟨v1, rfl, hown1, hg1⟩; have hG := hG.trans hg1; have hb := Nat.le_trans hb hg1.grown.size; have hB := blk_cell (hG.blk hW hne))) | (go_at_call 97; go_must (refine (putbool_any base _ _ _ _ (by assumption) (by assumption) (by first | omega | (simp only [List.length_append, be32_len, be64_len, List.length_cons, List.length_nil]; omega))).mono ?_; rintro e w1 ⟨v1, rfl, hown1, hg1⟩; have hG := hG.trans hg1; have hb := Nat.le_trans hb hg1.grown.size; have hB := blk_cell (hG.blk hW hne))))
  go_ret
  exact ⟨_, rfl, own_eq ‹OwnB base _ _ _› (by simp [Rep.bytes, Rep.tail]), hA.trans hG⟩

set_option maxHeartbeats 400000 in
set_option maxRecDepth 100000 in
theorem putreply_1f (base : Nat) (v : Value) (l : List Int) (pc ps pkey pk : Int) (pf : Bool) (pv pg : Int) (w : World) (hown : OwnB base w v l) (hb0 : base ≤ w.heap.size) (hl : l.length < 2147000000) (hwf : (Rep.mk pc ps pkey pk pf pv pg).wf) (hk : pk = 1) (hf : pf = false) :
    Calls Try.prog 64 #[v, .agg #[.int .u8 pc, .int .u32 ps, .int .u64 pkey, .int .u8 pk, .bool pf, .int .u64 pv, .int .u8 pg]] w fun e w' => ∃ v', e = .returned v' ∧ OwnB base w' v' (l ++ (Rep.mk pc ps pkey pk pf pv pg).bytes) ∧ Grew w v w' v' := by
  obtain ⟨hc1, hs1, hkey1, hk1, hv1, hg1⟩ := hwf
  simp only [U8, U32, U64] at hc1 hs1 hk1 hkey1 hv1 hg1
  have hne := hown.ne
  have hW := heap_alloc_new w (.cells #[.int .u8 pc, .int .u32 ps, .int .u64 pkey, .int .u8 pk, .bool pf, .int .u64 pv, .int .u8 pg] 27)
  have hown0 : OwnB base (w.alloc (.cells #[.int .u8 pc, .int .u32 ps, .int .u64 pkey, .int .u8 pk, .bool pf, .int .u64 pv, .int .u8 pg] 27)) v l := World.ownsRow.alloc hown _
  have hA := Grew.alloc w v (.cells #[.int .u8 pc, .int .u32 ps, .int .u64 pkey, .int .u8 pk, .bool pf, .int .u64 pv, .int .u8 pg] 27)
  have hG := hA
  have hb : base ≤ (w.alloc (.cells #[.int .u8 pc, .int .u32 ps, .int .u64 pkey, .int .u8 pk, .bool pf, .int .u64 pv, .int .u8 pg] 27)).heap.size := by simp; omega
  have hG : Grew (w.alloc (.cells #[.int .u8 pc, .int .u32 ps, .int .u64 pkey, .int .u8 pk, .bool pf, .int .u64 pv, .int .u8 pg] 27)) v (w.alloc (.cells #[.int .u8 pc, .int .u32 ps, .int .u64 pkey, .int .u8 pk, .bool pf, .int .u64 pv, .int .u8 pg] 27)) v := ⟨⟨rfl, rfl, rfl, Nat.le_refl _, fun _ _ _ => rfl⟩, .inl rfl⟩
  clear hown hb0
  subst hk; subst hf
  go_enter Try.func64, Try.ntmps64
  go_wp2_with (first | (go_at_call 62; go_must (refine (put8_any base _ _ _ _ (by assumption) (by assumption) (by first | omega | (simp only [List.length_append, be32_len, be64_len, List.length_cons, List.length_nil]; omega))).mono ?_; rintro e w1 ⟨v1, rfl, hown1, hg1⟩; have hG := hG.trans hg1; have hb := Nat.le_trans hb hg1.grown.size; have hB := blk_cell (hG.blk hW hne))) | (go_at_call 68; go_must (refine (put32_any base _ _ _ _ (by assumption) (by assumption) (by first | omega | (simp only [List.length_append, List.length_cons, List.length_nil]; omega)) (by omega) (by omega)).mono ?_; rintro e w1 ⟨v1, rfl, hown1, hg1⟩; have hG := hG.trans hg1; have hb := Nat.le_trans hb hg1.grown.size; have hB := blk_cell (hG.blk hW hne))) | (go_at_call 96; go_must (refine (put64_any base _ _ _ _ (by assumption) (by assumption) (by first | omega | (simp only [List.length_append, be32_len, List.length_cons, List.length_nil]; omega)) (by omega) (by omega)).mono ?_; rintro e w1 ⟨v1, rfl, hown1, hg1⟩; have hG := hG.trans hg1; have hb := Nat.le_trans hb hg1.grown.size; have hB := blk_cell (hG.blk hW hne))) | (go_at_call 97; go_must (refine (putbool_any base _ _ _ _ (by assumption) (by assumption) (by first | omega | (simp only [List.length_append, be32_len, be64_len, List.length_cons, List.length_nil]; omega))).mono ?_; rintro e w1 ⟨v1, rfl, hown1, hg1⟩; have hG := hG.trans hg1; have hb := Nat.le_trans hb hg1.grown.size; have hB := blk_cell (hG.blk hW hne))))
  go_ret
  exact ⟨_, rfl, own_eq ‹OwnB base _ _ _› (by simp [Rep.bytes, Rep.tail]), hA.trans hG⟩

set_option maxHeartbeats 400000 in
set_option maxRecDepth 100000 in
theorem putreply_3 (base : Nat) (v : Value) (l : List Int) (pc ps pkey pk : Int) (pf : Bool) (pv pg : Int) (w : World) (hown : OwnB base w v l) (hb0 : base ≤ w.heap.size) (hl : l.length < 2147000000) (hwf : (Rep.mk pc ps pkey pk pf pv pg).wf) (hk : pk = 3) :
    Calls Try.prog 64 #[v, .agg #[.int .u8 pc, .int .u32 ps, .int .u64 pkey, .int .u8 pk, .bool pf, .int .u64 pv, .int .u8 pg]] w fun e w' => ∃ v', e = .returned v' ∧ OwnB base w' v' (l ++ (Rep.mk pc ps pkey pk pf pv pg).bytes) ∧ Grew w v w' v' := by
  obtain ⟨hc1, hs1, hkey1, hk1, hv1, hg1⟩ := hwf
  simp only [U8, U32, U64] at hc1 hs1 hk1 hkey1 hv1 hg1
  have hne := hown.ne
  have hW := heap_alloc_new w (.cells #[.int .u8 pc, .int .u32 ps, .int .u64 pkey, .int .u8 pk, .bool pf, .int .u64 pv, .int .u8 pg] 27)
  have hown0 : OwnB base (w.alloc (.cells #[.int .u8 pc, .int .u32 ps, .int .u64 pkey, .int .u8 pk, .bool pf, .int .u64 pv, .int .u8 pg] 27)) v l := World.ownsRow.alloc hown _
  have hA := Grew.alloc w v (.cells #[.int .u8 pc, .int .u32 ps, .int .u64 pkey, .int .u8 pk, .bool pf, .int .u64 pv, .int .u8 pg] 27)
  have hG := hA
  have hb : base ≤ (w.alloc (.cells #[.int .u8 pc, .int .u32 ps, .int .u64 pkey, .int .u8 pk, .bool pf, .int .u64 pv, .int .u8 pg] 27)).heap.size := by simp; omega
  have hG : Grew (w.alloc (.cells #[.int .u8 pc, .int .u32 ps, .int .u64 pkey, .int .u8 pk, .bool pf, .int .u64 pv, .int .u8 pg] 27)) v (w.alloc (.cells #[.int .u8 pc, .int .u32 ps, .int .u64 pkey, .int .u8 pk, .bool pf, .int .u64 pv, .int .u8 pg] 27)) v := ⟨⟨rfl, rfl, rfl, Nat.le_refl _, fun _ _ _ => rfl⟩, .inl rfl⟩
  clear hown hb0
  subst hk
  go_enter Try.func64, Try.ntmps64
  go_wp2_with (first | (go_at_call 62; go_must (refine (put8_any base _ _ _ _ (by assumption) (by assumption) (by first | omega | (simp only [List.length_append, be32_len, be64_len, List.length_cons, List.length_nil]; omega))).mono ?_; rintro e w1 ⟨v1, rfl, hown1, hg1⟩; have hG := hG.trans hg1; have hb := Nat.le_trans hb hg1.grown.size; have hB := blk_cell (hG.blk hW hne))) | (go_at_call 68; go_must (refine (put32_any base _ _ _ _ (by assumption) (by assumption) (by first | omega | (simp only [List.length_append, List.length_cons, List.length_nil]; omega)) (by omega) (by omega)).mono ?_; rintro e w1 ⟨v1, rfl, hown1, hg1⟩; have hG := hG.trans hg1; have hb := Nat.le_trans hb hg1.grown.size; have hB := blk_cell (hG.blk hW hne))) | (go_at_call 96; go_must (refine (put64_any base _ _ _ _ (by assumption) (by assumption) (by first | omega | (simp only [List.length_append, be32_len, List.length_cons, List.length_nil]; omega)) (by omega) (by omega)).mono ?_; rintro e w1 ⟨v1, rfl, hown1, hg1⟩; have hG := hG.trans hg1; have hb := Nat.le_trans hb hg1.grown.size; have hB := blk_cell (hG.blk hW hne))))
  go_ret
  exact ⟨_, rfl, own_eq ‹OwnB base _ _ _› (by simp [Rep.bytes, Rep.tail]), hA.trans hG⟩

set_option maxHeartbeats 400000 in
set_option maxRecDepth 100000 in
theorem putreply_e (base : Nat) (v : Value) (l : List Int) (pc ps pkey pk : Int) (pf : Bool) (pv pg : Int) (w : World) (hown : OwnB base w v l) (hb0 : base ≤ w.heap.size) (hl : l.length < 2147000000) (hwf : (Rep.mk pc ps pkey pk pf pv pg).wf) (hk1 : (pk == 1) = false) (hk3 : (pk == 3) = false) :
    Calls Try.prog 64 #[v, .agg #[.int .u8 pc, .int .u32 ps, .int .u64 pkey, .int .u8 pk, .bool pf, .int .u64 pv, .int .u8 pg]] w fun e w' => ∃ v', e = .returned v' ∧ OwnB base w' v' (l ++ (Rep.mk pc ps pkey pk pf pv pg).bytes) ∧ Grew w v w' v' := by
  obtain ⟨hc1, hs1, hkey1, hkk, hv1, hg1⟩ := hwf
  simp only [U8, U32, U64] at hc1 hs1 hkk hkey1 hv1 hg1
  have hne := hown.ne
  have hW := heap_alloc_new w (.cells #[.int .u8 pc, .int .u32 ps, .int .u64 pkey, .int .u8 pk, .bool pf, .int .u64 pv, .int .u8 pg] 27)
  have hown0 : OwnB base (w.alloc (.cells #[.int .u8 pc, .int .u32 ps, .int .u64 pkey, .int .u8 pk, .bool pf, .int .u64 pv, .int .u8 pg] 27)) v l := World.ownsRow.alloc hown _
  have hA := Grew.alloc w v (.cells #[.int .u8 pc, .int .u32 ps, .int .u64 pkey, .int .u8 pk, .bool pf, .int .u64 pv, .int .u8 pg] 27)
  have hG := hA
  have hb : base ≤ (w.alloc (.cells #[.int .u8 pc, .int .u32 ps, .int .u64 pkey, .int .u8 pk, .bool pf, .int .u64 pv, .int .u8 pg] 27)).heap.size := by simp; omega
  have hG : Grew (w.alloc (.cells #[.int .u8 pc, .int .u32 ps, .int .u64 pkey, .int .u8 pk, .bool pf, .int .u64 pv, .int .u8 pg] 27)) v (w.alloc (.cells #[.int .u8 pc, .int .u32 ps, .int .u64 pkey, .int .u8 pk, .bool pf, .int .u64 pv, .int .u8 pg] 27)) v := ⟨⟨rfl, rfl, rfl, Nat.le_refl _, fun _ _ _ => rfl⟩, .inl rfl⟩
  clear hown hb0
  go_enter Try.func64, Try.ntmps64
  go_wp2_with (first | (go_at_call 62; go_must (refine (put8_any base _ _ _ _ (by assumption) (by assumption) (by first | omega | (simp only [List.length_append, be32_len, be64_len, List.length_cons, List.length_nil]; omega))).mono ?_; rintro e w1 ⟨v1, rfl, hown1, hg1⟩; have hG := hG.trans hg1; have hb := Nat.le_trans hb hg1.grown.size; have hB := blk_cell (hG.blk hW hne))) | (go_at_call 68; go_must (refine (put32_any base _ _ _ _ (by assumption) (by assumption) (by first | omega | (simp only [List.length_append, List.length_cons, List.length_nil]; omega)) (by omega) (by omega)).mono ?_; rintro e w1 ⟨v1, rfl, hown1, hg1⟩; have hG := hG.trans hg1; have hb := Nat.le_trans hb hg1.grown.size; have hB := blk_cell (hG.blk hW hne))) | (go_at_call 96; go_must (refine (put64_any base _ _ _ _ (by assumption) (by assumption) (by first | omega | (simp only [List.length_append, be32_len, List.length_cons, List.length_nil]; omega)) (by omega) (by omega)).mono ?_; rintro e w1 ⟨v1, rfl, hown1, hg1⟩; have hG := hG.trans hg1; have hb := Nat.le_trans hb hg1.grown.size; have hB := blk_cell (hG.blk hW hne))))
  go_ret
  exact ⟨_, rfl, own_eq ‹OwnB base _ _ _› (by simp [Rep.bytes, Rep.tail, show ¬ pk = 1 by simpa using hk1, show ¬ pk = 3 by simpa using hk3]), hA.trans hG⟩

theorem putreply_any (base : Nat) (v : Value) (l : List Int) (pc ps pkey pk : Int) (pf : Bool) (pv pg : Int) (w : World) (hown : OwnB base w v l) (hb0 : base ≤ w.heap.size) (hl : l.length < 2147000000) (hwf : (Rep.mk pc ps pkey pk pf pv pg).wf) :
    Calls Try.prog 64 #[v, .agg #[.int .u8 pc, .int .u32 ps, .int .u64 pkey, .int .u8 pk, .bool pf, .int .u64 pv, .int .u8 pg]] w fun e w' => ∃ v', e = .returned v' ∧ OwnB base w' v' (l ++ (Rep.mk pc ps pkey pk pf pv pg).bytes) ∧ Grew w v w' v' := by
  by_cases h1 : pk = 1
  · by_cases hf : pf = true
    · exact putreply_1t _ _ _ _ _ _ _ _ _ _ _ hown hb0 hl hwf h1 hf
    · exact putreply_1f _ _ _ _ _ _ _ _ _ _ _ hown hb0 hl hwf h1 (by simpa using hf)
  by_cases h3 : pk = 3
  · exact putreply_3 _ _ _ _ _ _ _ _ _ _ _ hown hb0 hl hwf h3
  exact putreply_e _ _ _ _ _ _ _ _ _ _ _ hown hb0 hl hwf (by simpa using h1) (by simpa using h3)

set_option maxHeartbeats 400000 in
set_option maxRecDepth 100000 in
theorem putrow_any (base : Nat) (v : Value) (l : List Int) (xkey xval : Int) (w : World) (hown : OwnB base w v l) (hb0 : base ≤ w.heap.size) (hl : l.length < 2147000000) (h1 : 0 ≤ xkey ∧ xkey < 18446744073709551616) (h2 : 0 ≤ xval ∧ xval < 18446744073709551616) :
    Calls Try.prog 99 #[v, .agg #[.int .u64 xkey, .int .u64 xval]] w fun e w' => ∃ v', e = .returned v' ∧ OwnB base w' v' (l ++ (Row.mk xkey xval).bytes) ∧ Grew w v w' v' := by
  have hne := hown.ne
  have hW : (w.alloc (.cells #[.int .u64 xkey, .int .u64 xval] 74)).drew.heap[w.heap.size]? = _ := heap_alloc_new w (.cells #[.int .u64 xkey, .int .u64 xval] 74)
  have hown0 : OwnB base (w.alloc (.cells #[.int .u64 xkey, .int .u64 xval] 74)).drew v l := World.ownsRow.alloc hown _
  have hA : Grew w v (w.alloc (.cells #[.int .u64 xkey, .int .u64 xval] 74)).drew v := (Grew.alloc w v (.cells #[.int .u64 xkey, .int .u64 xval] 74)).trans (Grew.drew _ v)
  have hG := hA
  have hb : base ≤ (w.alloc (.cells #[.int .u64 xkey, .int .u64 xval] 74)).drew.heap.size := by simp; omega
  have hG : Grew (w.alloc (.cells #[.int .u64 xkey, .int .u64 xval] 74)).drew v (w.alloc (.cells #[.int .u64 xkey, .int .u64 xval] 74)).drew v := ⟨⟨rfl, rfl, rfl, Nat.le_refl _, fun _ _ _ => rfl⟩, .inl rfl⟩
  clear hown hb0
  go_enter Try.func99, Try.ntmps99
  go_wp2_with fail
  go_region_with (first | (go_at_call 96; go_must (refine (put64_any base _ _ _ _ (by assumption) (by assumption) (by first | omega | (simp only [List.length_append, be64_len]; omega)) (by omega) (by omega)).mono ?_; rintro e w1 ⟨v1, rfl, hown1, hg1⟩; have hG := hG.trans hg1; have hb := Nat.le_trans hb hg1.grown.size; have hB := blk_cell (hG.blk hW hne))))
  all_goals go_wp2
  all_goals go_ret
  all_goals exact ⟨_, rfl, own_eq ‹OwnB base _ _ _› (by simp [Row.bytes]), hA.trans hG⟩

set_option maxHeartbeats 400000 in
set_option maxRecDepth 100000 in
theorem putballot_any (base : Nat) (v : Value) (l : List Int) (bn bid : Int) (w : World) (hown : OwnB base w v l) (hb0 : base ≤ w.heap.size) (hl : l.length < 2147000000) (h1 : 0 ≤ bn ∧ bn < 4294967296) :
    Calls Try.prog 65 #[v, .agg #[.int .u32 bn, .int .u8 bid]] w fun e w' => ∃ v', e = .returned v' ∧ OwnB base w' v' (l ++ ballotBytes bn bid) ∧ Grew w v w' v' := by
  have hne := hown.ne
  have hW : (w.alloc (.cells #[.int .u32 bn, .int .u8 bid] 29)).drew.heap[w.heap.size]? = _ := heap_alloc_new w (.cells #[.int .u32 bn, .int .u8 bid] 29)
  have hown0 : OwnB base (w.alloc (.cells #[.int .u32 bn, .int .u8 bid] 29)).drew v l := World.ownsRow.alloc hown _
  have hA : Grew w v (w.alloc (.cells #[.int .u32 bn, .int .u8 bid] 29)).drew v := (Grew.alloc w v (.cells #[.int .u32 bn, .int .u8 bid] 29)).trans (Grew.drew _ v)
  have hG := hA
  have hb : base ≤ (w.alloc (.cells #[.int .u32 bn, .int .u8 bid] 29)).drew.heap.size := by simp; omega
  have hG : Grew (w.alloc (.cells #[.int .u32 bn, .int .u8 bid] 29)).drew v (w.alloc (.cells #[.int .u32 bn, .int .u8 bid] 29)).drew v := ⟨⟨rfl, rfl, rfl, Nat.le_refl _, fun _ _ _ => rfl⟩, .inl rfl⟩
  clear hown hb0
  go_enter Try.func65, Try.ntmps65
  go_wp2_with fail
  go_region_with (first | (go_at_call 68; go_must (refine (put32_any base _ _ _ _ (by assumption) (by assumption) (by first | omega | (simp only [List.length_append, be32_len, be64_len, List.length_cons, List.length_nil]; omega)) (by omega) (by omega)).mono ?_; rintro e w1 ⟨v1, rfl, hown1, hg1⟩; have hG := hG.trans hg1; have hb := Nat.le_trans hb hg1.grown.size; have hB := blk_cell (hG.blk hW hne))) | (go_at_call 62; go_must (refine (put8_any base _ _ _ _ (by assumption) (by assumption) (by first | omega | (simp only [List.length_append, be32_len]; omega))).mono ?_; rintro e w1 ⟨v1, rfl, hown1, hg1⟩; have hG := hG.trans hg1; have hb := Nat.le_trans hb hg1.grown.size; have hB := blk_cell (hG.blk hW hne))))
  all_goals go_wp2
  all_goals go_ret
  all_goals exact ⟨_, rfl, own_eq ‹OwnB base _ _ _› (by simp [ballotBytes]), hA.trans hG⟩

end Go.Proofs.Ytegdnihkifmepaa
