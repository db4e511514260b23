/- Package wire: rows, ballots, requests and replies put behind bytes. Package wire: lists put behind bytes. Package wire: ranges, commands and votes put behind bytes. -/
import Derived.Test.YtignemioillaiaaB
import Derived.Deep.RegionWith
namespace Go.Proofs.Ytignemioillaiaa
open Go.RowKit

theorem Grew.drew (w : World) (v : Value) : Grew w v w.drew v := ⟨⟨rfl, rfl, rfl, Nat.le_refl _, fun _ _ _ => rfl⟩, .inl rfl⟩

theorem own_eq {base : Nat} {w : World} {v : Value} {l l' : List Int} (h : OwnB base w v l) (e : l = l') : OwnB base w v l' := e ▸ h

set_option maxHeartbeats 400000 in
set_option maxRecDepth 100000 in
theorem putrequest_2 (base : Nat) (v : Value) (l : List Int) (qc qs qk qkey qv qhi qto : Int) (w : World) (hown : OwnB base w v l) (hb0 : base ≤ w.heap.size) (hl : l.length < 2147000000) (hwf : (Req.mk qc qs qk qkey qv qhi qto).wf) (hk : qk = 2) :
    Calls Try.prog 77 #[v, .agg #[.int .u8 qc, .int .u32 qs, .int .u8 qk, .int .u64 qkey, .int .u64 qv, .int .u64 qhi, .int .u8 qto]] w fun e w' => ∃ v', e = .returned v' ∧ OwnB base w' v' (l ++ (Req.mk qc qs qk qkey qv qhi qto).bytes) ∧ Grew w v w' v' := by
  obtain ⟨hc1, hs1, hk1, hkey1, hv1, hhi1, hto1⟩ := hwf
  simp only [U8, U32, U64] at hc1 hs1 hk1 hkey1 hv1 hhi1 hto1
  have hne := hown.ne
  have hW := heap_alloc_new w (.cells #[.int .u8 qc, .int .u32 qs, .int .u8 qk, .int .u64 qkey, .int .u64 qv, .int .u64 qhi, .int .u8 qto] 25)
  have hown0 : OwnB base (w.alloc (.cells #[.int .u8 qc, .int .u32 qs, .int .u8 qk, .int .u64 qkey, .int .u64 qv, .int .u64 qhi, .int .u8 qto] 25)) v l := World.ownsRow.alloc hown _
  have hA := Grew.alloc w v (.cells #[.int .u8 qc, .int .u32 qs, .int .u8 qk, .int .u64 qkey, .int .u64 qv, .int .u64 qhi, .int .u8 qto] 25)
  have hG := hA
  have hb : base ≤ (w.alloc (.cells #[.int .u8 qc, .int .u32 qs, .int .u8 qk, .int .u64 qkey, .int .u64 qv, .int .u64 qhi, .int .u8 qto] 25)).heap.size := by simp; omega
  have hG : Grew (w.alloc (.cells #[.int .u8 qc, .int .u32 qs, .int .u8 qk, .int .u64 qkey, .int .u64 qv, .int .u64 qhi, .int .u8 qto] 25)) v (w.alloc (.cells #[.int .u8 qc, .int .u32 qs, .int .u8 qk, .int .u64 qkey, .int .u64 qv, .int .u64 qhi, .int .u8 qto] 25)) v := ⟨⟨rfl, rfl, rfl, Nat.le_refl _, fun _ _ _ => rfl⟩, .inl rfl⟩
  clear hown hb0
  subst hk
  go_enter Try.func77, Try.ntmps77
  go_wp2_with (first | (go_at_call 76; go_must (refine (put8_any base _ _ _ _ (by assumption) (by assumption) (by first | omega | (simp only [List.length_append, be32_len, List.length_cons, List.length_nil]; omega))).mono ?_; rintro e w1 ⟨v1, rfl, hown1, hg1⟩; have hG := hG.trans hg1; have hb := Nat.le_trans hb hg1.grown.size; have hB := blk_cell (hG.blk hW hne))) | (go_at_call 82; go_must (refine (put32_any base _ _ _ _ (by assumption) (by assumption) (by first | omega | (simp only [List.length_append, List.length_cons, List.length_nil]; omega)) (by omega) (by omega)).mono ?_; rintro e w1 ⟨v1, rfl, hown1, hg1⟩; have hG := hG.trans hg1; have hb := Nat.le_trans hb hg1.grown.size; have hB := blk_cell (hG.blk hW hne))) | (go_at_call 126; go_must (refine (put64_any base _ _ _ _ (by assumption) (by assumption) (by first | omega | (simp only [List.length_append, be32_len, be64_len, List.length_cons, List.length_nil]; omega)) (by omega) (by omega)).mono ?_; rintro e w1 ⟨v1, rfl, hown1, hg1⟩; have hG := hG.trans hg1; have hb := Nat.le_trans hb hg1.grown.size; have hB := blk_cell (hG.blk hW hne))))
  go_ret
  exact ⟨_, rfl, own_eq ‹OwnB base _ _ _› (by simp [Req.bytes, Req.tail]), hA.trans hG⟩

set_option maxHeartbeats 400000 in
set_option maxRecDepth 100000 in
theorem putrequest_4 (base : Nat) (v : Value) (l : List Int) (qc qs qk qkey qv qhi qto : Int) (w : World) (hown : OwnB base w v l) (hb0 : base ≤ w.heap.size) (hl : l.length < 2147000000) (hwf : (Req.mk qc qs qk qkey qv qhi qto).wf) (hk : qk = 4) :
    Calls Try.prog 77 #[v, .agg #[.int .u8 qc, .int .u32 qs, .int .u8 qk, .int .u64 qkey, .int .u64 qv, .int .u64 qhi, .int .u8 qto]] w fun e w' => ∃ v', e = .returned v' ∧ OwnB base w' v' (l ++ (Req.mk qc qs qk qkey qv qhi qto).bytes) ∧ Grew w v w' v' := by
  obtain ⟨hc1, hs1, hk1, hkey1, hv1, hhi1, hto1⟩ := hwf
  simp only [U8, U32, U64] at hc1 hs1 hk1 hkey1 hv1 hhi1 hto1
  have hne := hown.ne
  have hW := heap_alloc_new w (.cells #[.int .u8 qc, .int .u32 qs, .int .u8 qk, .int .u64 qkey, .int .u64 qv, .int .u64 qhi, .int .u8 qto] 25)
  have hown0 : OwnB base (w.alloc (.cells #[.int .u8 qc, .int .u32 qs, .int .u8 qk, .int .u64 qkey, .int .u64 qv, .int .u64 qhi, .int .u8 qto] 25)) v l := World.ownsRow.alloc hown _
  have hA := Grew.alloc w v (.cells #[.int .u8 qc, .int .u32 qs, .int .u8 qk, .int .u64 qkey, .int .u64 qv, .int .u64 qhi, .int .u8 qto] 25)
  have hG := hA
  have hb : base ≤ (w.alloc (.cells #[.int .u8 qc, .int .u32 qs, .int .u8 qk, .int .u64 qkey, .int .u64 qv, .int .u64 qhi, .int .u8 qto] 25)).heap.size := by simp; omega
  have hG : Grew (w.alloc (.cells #[.int .u8 qc, .int .u32 qs, .int .u8 qk, .int .u64 qkey, .int .u64 qv, .int .u64 qhi, .int .u8 qto] 25)) v (w.alloc (.cells #[.int .u8 qc, .int .u32 qs, .int .u8 qk, .int .u64 qkey, .int .u64 qv, .int .u64 qhi, .int .u8 qto] 25)) v := ⟨⟨rfl, rfl, rfl, Nat.le_refl _, fun _ _ _ => rfl⟩, .inl rfl⟩
  clear hown hb0
  subst hk
  go_enter Try.func77, Try.ntmps77
  go_wp2_with (first | (go_at_call 76; go_must (refine (put8_any base _ _ _ _ (by assumption) (by assumption) (by first | omega | (simp only [List.length_append, be32_len, be64_len, List.length_cons, List.length_nil]; omega))).mono ?_; rintro e w1 ⟨v1, rfl, hown1, hg1⟩; have hG := hG.trans hg1; have hb := Nat.le_trans hb hg1.grown.size; have hB := blk_cell (hG.blk hW hne))) | (go_at_call 82; go_must (refine (put32_any base _ _ _ _ (by assumption) (by assumption) (by first | omega | (simp only [List.length_append, List.length_cons, List.length_nil]; omega)) (by omega) (by omega)).mono ?_; rintro e w1 ⟨v1, rfl, hown1, hg1⟩; have hG := hG.trans hg1; have hb := Nat.le_trans hb hg1.grown.size; have hB := blk_cell (hG.blk hW hne))) | (go_at_call 126; go_must (refine (put64_any base _ _ _ _ (by assumption) (by assumption) (by first | omega | (simp only [List.length_append, be32_len, be64_len, List.length_cons, List.length_nil]; omega)) (by omega) (by omega)).mono ?_; rintro e w1 ⟨v1, rfl, hown1, hg1⟩; have hG := hG.trans hg1; have hb := Nat.le_trans hb hg1.grown.size; have hB := blk_cell (hG.blk hW hne))))
  go_ret
  exact ⟨_, rfl, own_eq ‹OwnB base _ _ _› (by simp [Req.bytes, Req.tail]), hA.trans hG⟩

set_option maxHeartbeats 400000 in
set_option maxRecDepth 100000 in
theorem putrequest_e (base : Nat) (v : Value) (l : List Int) (qc qs qk qkey qv qhi qto : Int) (w : World) (hown : OwnB base w v l) (hb0 : base ≤ w.heap.size) (hl : l.length < 2147000000) (hwf : (Req.mk qc qs qk qkey qv qhi qto).wf) (hk2 : (qk == 2) = false) (hk4 : (qk == 4) = false) :
    Calls Try.prog 77 #[v, .agg #[.int .u8 qc, .int .u32 qs, .int .u8 qk, .int .u64 qkey, .int .u64 qv, .int .u64 qhi, .int .u8 qto]] w fun e w' => ∃ v', e = .returned v' ∧ OwnB base w' v' (l ++ (Req.mk qc qs qk qkey qv qhi qto).bytes) ∧ Grew w v w' v' := by
  obtain ⟨hc1, hs1, hk1, hkey1, hv1, hhi1, hto1⟩ := hwf
  simp only [U8, U32, U64] at hc1 hs1 hk1 hkey1 hv1 hhi1 hto1
  have hne := hown.ne
  have hW := heap_alloc_new w (.cells #[.int .u8 qc, .int .u32 qs, .int .u8 qk, .int .u64 qkey, .int .u64 qv, .int .u64 qhi, .int .u8 qto] 25)
  have hown0 : OwnB base (w.alloc (.cells #[.int .u8 qc, .int .u32 qs, .int .u8 qk, .int .u64 qkey, .int .u64 qv, .int .u64 qhi, .int .u8 qto] 25)) v l := World.ownsRow.alloc hown _
  have hA := Grew.alloc w v (.cells #[.int .u8 qc, .int .u32 qs, .int .u8 qk, .int .u64 qkey, .int .u64 qv, .int .u64 qhi, .int .u8 qto] 25)
  have hG := hA
  have hb : base ≤ (w.alloc (.cells #[.int .u8 qc, .int .u32 qs, .int .u8 qk, .int .u64 qkey, .int .u64 qv, .int .u64 qhi, .int .u8 qto] 25)).heap.size := by simp; omega
  have hG : Grew (w.alloc (.cells #[.int .u8 qc, .int .u32 qs, .int .u8 qk, .int .u64 qkey, .int .u64 qv, .int .u64 qhi, .int .u8 qto] 25)) v (w.alloc (.cells #[.int .u8 qc, .int .u32 qs, .int .u8 qk, .int .u64 qkey, .int .u64 qv, .int .u64 qhi, .int .u8 qto] 25)) v := ⟨⟨rfl, rfl, rfl, Nat.le_refl _, fun _ _ _ => rfl⟩, .inl rfl⟩
  clear hown hb0
  go_enter Try.func77, Try.ntmps77
  go_wp2_with (first | (go_at_call 76; go_must (refine (put8_any base _ _ _ _ (by assumption) (by assumption) (by first | omega | (simp only [List.length_append, be32_len, List.length_cons, List.length_nil]; omega))).mono ?_; rintro e w1 ⟨v1, rfl, hown1, hg1⟩; have hG := hG.trans hg1; have hb := Nat.le_trans hb hg1.grown.size; have hB := blk_cell (hG.blk hW hne))) | (go_at_call 82; go_must (refine (put32_any base _ _ _ _ (by assumption) (by assumption) (by first | omega | (simp only [List.length_append, List.length_cons, List.length_nil]; omega)) (by omega) (by omega)).mono ?_; rintro e w1 ⟨v1, rfl, hown1, hg1⟩; have hG := hG.trans hg1; have hb := Nat.le_trans hb hg1.grown.size; have hB := blk_cell (hG.blk hW hne))) | (go_at_call 126; go_must (refine (put64_any base _ _ _ _ (by assumption) (by assumption) (by first | omega | (simp only [List.length_append, be32_len, List.length_cons, List.length_nil]; omega)) (by omega) (by omega)).mono ?_; rintro e w1 ⟨v1, rfl, hown1, hg1⟩; have hG := hG.trans hg1; have hb := Nat.le_trans hb hg1.grown.size; have hB := blk_cell (hG.blk hW hne))))
  go_ret
  exact ⟨_, rfl, own_eq ‹OwnB base _ _ _› (by simp [Req.bytes, Req.tail, show ¬ qk = 2 by simpa using hk2, show ¬ qk = 4 by simpa using hk4]), hA.trans hG⟩

theorem putrequest_any (base : Nat) (v : Value) (l : List Int) (qc qs qk qkey qv qhi qto : Int) (w : World) (hown : OwnB base w v l) (hb0 : base ≤ w.heap.size) (hl : l.length < 2147000000) (hwf : (Req.mk qc qs qk qkey qv qhi qto).wf) :
    Calls Try.prog 77 #[v, .agg #[.int .u8 qc, .int .u32 qs, .int .u8 qk, .int .u64 qkey, .int .u64 qv, .int .u64 qhi, .int .u8 qto]] w fun e w' => ∃ v', e = .returned v' ∧ OwnB base w' v' (l ++ (Req.mk qc qs qk qkey qv qhi qto).bytes) ∧ Grew w v w' v' := by
  by_cases h2 : qk = 2
  · exact putrequest_2 _ _ _ _ _ _ _ _ _ _ _ hown hb0 hl hwf h2
  by_cases h4 : qk = 4
  · exact putrequest_4 _ _ _ _ _ _ _ _ _ _ _ hown hb0 hl hwf h4
  exact putrequest_e _ _ _ _ _ _ _ _ _ _ _ hown hb0 hl hwf (by simpa using h2) (by simpa using h4)

set_option maxHeartbeats 400000 in
set_option maxRecDepth 100000 in
theorem putreply_1t (base : Nat) (v : Value) (l : List Int) (pc ps pkey pk : Int) (pf : Bool) (pv pg : Int) (w : World) (hown : OwnB base w v l) (hb0 : base ≤ w.heap.size) (hl : l.length < 2147000000) (hwf : (Rep.mk pc ps pkey pk pf pv pg).wf) (hk : pk = 1) (hf : pf = true) :
    Calls Try.prog 78 #[v, .agg #[.int .u8 pc, .int .u32 ps, .int .u64 pkey, .int .u8 pk, .bool pf, .int .u64 pv, .int .u8 pg]] w fun e w' => ∃ v', e = .returned v' ∧ OwnB base w' v' (l ++ (Rep.mk pc ps pkey pk pf pv pg).bytes) ∧ Grew w v w' v' := by
  obtain ⟨hc1, hs1, hkey1, hk1, hv1, hg1⟩ := hwf
  simp only [U8, U32, U64] at hc1 hs1 hk1 hkey1 hv1 hg1
  have hne := hown.ne
  have hW := heap_alloc_new w (.cells #[.int .u8 pc, .int .u32 ps, .int .u64 pkey, .int .u8 pk, .bool pf, .int .u64 pv, .int .u8 pg] 27)
  have hown0 : OwnB base (w.alloc (.cells #[.int .u8 pc, .int .u32 ps, .int .u64 pkey, .int .u8 pk, .bool pf, .int .u64 pv, .int .u8 pg] 27)) v l := World.ownsRow.alloc hown _
  have hA := Grew.alloc w v (.cells #[.int .u8 pc, .int .u32 ps, .int .u64 pkey, .int .u8 pk, .bool pf, .int .u64 pv, .int .u8 pg] 27)
  have hG := hA
  have hb : base ≤ (w.alloc (.cells #[.int .u8 pc, .int .u32 ps, .int .u64 pkey, .int .u8 pk, .bool pf, .int .u64 pv, .int .u8 pg] 27)).heap.size := by simp; omega
  have hG : Grew (w.alloc (.cells #[.int .u8 pc, .int .u32 ps, .int .u64 pkey, .int .u8 pk, .bool pf, .int .u64 pv, .int .u8 pg] 27)) v (w.alloc (.cells #[.int .u8 pc, .int .u32 ps, .int .u64 pkey, .int .u8 pk, .bool pf, .int .u64 pv, .int .u8 pg] 27)) v := ⟨⟨rfl, rfl, rfl, Nat.le_refl _, fun _ _ _ => rfl⟩, .inl rfl⟩
  clear hown hb0
  subst hk; subst hf
  go_enter Try.func78, Try.ntmps78
  go_wp2_with (first | (go_at_call 76; go_must (refine (put8_any base _ _ _ _ (by assumption) (by assumption) (by first | omega | (simp only [List.length_append, be32_len, be64_len, List.length_cons, List.length_nil]; omega))).mono ?_; rintro e w1 ⟨v1, rfl, hown1, hg1⟩; have hG := hG.trans hg1; have hb := Nat.le_trans hb hg1.grown.size; have hB := blk_cell (hG.blk hW hne))) | (go_at_call 82; go_must (refine (put32_any base _ _ _ _ (by assumption) (by assumption) (by first | omega | (simp only [List.length_append, List.length_cons, List.length_nil]; omega)) (by omega) (by omega)).mono ?_; rintro e w1 ⟨v1, rfl, hown1, hg1⟩; have hG := hG.trans hg1; have hb := Nat.le_trans hb hg1.grown.size; have hB := blk_cell (hG.blk hW hne))) | (go_at_call 126; go_must (refine (put64_any base _ _ _ _ (by assumption) (by assumption) (by first | omega | (simp only [List.length_append, be32_len, be64_len, List.length_cons, List.length_nil]; omega)) (by omega) (by omega)).mono ?_; rintro e w1 ⟨v1, rfl, hown1, hg1⟩; have hG := hG.trans hg1; have hb := Nat.le_trans hb hg1.grown.size; have hB := blk_cell (hG.blk hW hne))) | (go_at_call 127; go_must (refine (putbool_any base _ _ _ _ (by assumption) (by assumption) (by first | omega | (simp only [List.length_append, be32_len, be64_len, List.length_cons, List.length_nil]; omega))).mono ?_; rintro e w1 ⟨v1, rfl, hown1, hg1⟩; have hG := hG.trans hg1; have hb := Nat.le_trans hb hg1.grown.size; have hB := blk_cell (hG.blk hW hne))))
  go_ret
  exact ⟨_, rfl, own_eq ‹OwnB base _ _ _› (by simp [Rep.bytes, Rep.tail]), hA.trans hG⟩

set_option maxHeartbeats 400000 in
set_option maxRecDepth 100000 in
theorem putreply_1f (base : Nat) (v : Value) (l : List Int) (pc ps pkey pk : Int) (pf : Bool) (pv pg : Int) (w : World) (hown : OwnB base w v l) (hb0 : base ≤ w.heap.size) (hl : l.length < 2147000000) (hwf : (Rep.mk pc ps pkey pk pf pv pg).wf) (hk : pk = 1) (hf : pf = false) :
    Calls Try.prog 78 #[v, .agg #[.int .u8 pc, .int .u32 ps, .int .u64 pkey, .int .u8 pk, .bool pf, .int .u64 pv, .int .u8 pg]] w fun e w' => ∃ v', e = .returned v' ∧ OwnB base w' v' (l ++ (Rep.mk pc ps pkey pk pf pv pg).bytes) ∧ Grew w v w' v' := by
  obtain ⟨hc1, hs1, hkey1, hk1, hv1, hg1⟩ := hwf
  simp only [U8, U32, U64] at hc1 hs1 hk1 hkey1 hv1 hg1
  have hne := hown.ne
  have hW := heap_alloc_new w (.cells #[.int .u8 pc, .int .u32 ps, .int .u64 pkey, .int .u8 pk, .bool pf, .int .u64 pv, .int .u8 pg] 27)
  have hown0 : OwnB base (w.alloc (.cells #[.int .u8 pc, .int .u32 ps, .int .u64 pkey, .int .u8 pk, .bool pf, .int .u64 pv, .int .u8 pg] 27)) v l := World.ownsRow.alloc hown _
  have hA := Grew.alloc w v (.cells #[.int .u8 pc, .int .u32 ps, .int .u64 pkey, .int .u8 pk, .bool pf, .int .u64 pv, .int .u8 pg] 27)
  have hG := hA
  have hb : base ≤ (w.alloc (.cells #[.int .u8 pc, .int .u32 ps, .int .u64 pkey, .int .u8 pk, .bool pf, .int .u64 pv, .int .u8 pg] 27)).heap.size := by simp; omega
  have hG : Grew (w.alloc (.cells #[.int .u8 pc, .int .u32 ps, .int .u64 pkey, .int .u8 pk, .bool pf, .int .u64 pv, .int .u8 pg] 27)) v (w.alloc (.cells #[.int .u8 pc, .int .u32 ps, .int .u64 pkey, .int .u8 pk, .bool pf, .int .u64 pv, .int .u8 pg] 27)) v := ⟨⟨rfl, rfl, rfl, Nat.le_refl _, fun _ _ _ => rfl⟩, .inl rfl⟩
  clear hown hb0
  subst hk; subst hf
  go_enter Try.func78, Try.ntmps78
  go_wp2_with (first | (go_at_call 76; go_must (refine (put8_any base _ _ _ _ (by assumption) (by assumption) (by first | omega | (simp only [List.length_append, be32_len, be64_len, List.length_cons, List.length_nil]; omega))).mono ?_; rintro e w1 ⟨v1, rfl, hown1, hg1⟩; have hG := hG.trans hg1; have hb := Nat.le_trans hb hg1.grown.size; have hB := blk_cell (hG.blk hW hne))) | (go_at_call 82; go_must (refine (put32_any base _ _ _ _ (by assumption) (by assumption) (by first | omega | (simp only [List.length_append, List.length_cons, List.length_nil]; omega)) (by omega) (by omega)).mono ?_; rintro e w1 ⟨v1, rfl, hown1, hg1⟩; have hG := hG.trans hg1; have hb := Nat.le_trans hb hg1.grown.size; have hB := blk_cell (hG.blk hW hne))) | (go_at_call 126; go_must (refine (put64_any base _ _ _ _ (by assumption) (by assumption) (by first | omega | (simp only [List.length_append, be32_len, List.length_cons, List.length_nil]; omega)) (by omega) (by omega)).mono ?_; rintro e w1 ⟨v1, rfl, hown1, hg1⟩; have hG := hG.trans hg1; have hb := Nat.le_trans hb hg1.grown.size; have hB := blk_cell (hG.blk hW hne))) | (go_at_call 127; go_must (refine (putbool_any base _ _ _ _ (by assumption) (by assumption) (by first | omega | (simp only [List.length_append, be32_len, be64_len, List.length_cons, List.length_nil]; omega))).mono ?_; rintro e w1 ⟨v1, rfl, hown1, hg1⟩; have hG := hG.trans hg1; have hb := Nat.le_trans hb hg1.grown.size; have hB := blk_cell (hG.blk hW hne))))
  go_ret
  exact ⟨_, rfl, own_eq ‹OwnB base _ _ _› (by simp [Rep.bytes, Rep.tail]), hA.trans hG⟩

set_option maxHeartbeats 400000 in
set_option maxRecDepth 100000 in
theorem putreply_3 (base : Nat) (v : Value) (l : List Int) (pc ps pkey pk : Int) (pf : Bool) (pv pg : Int) (w : World) (hown : OwnB base w v l) (hb0 : base ≤ w.heap.size) (hl : l.length < 2147000000) (hwf : (Rep.mk pc ps pkey pk pf pv pg).wf) (hk : pk = 3) :
    Calls Try.prog 78 #[v, .agg #[.int .u8 pc, .int .u32 ps, .int .u64 pkey, .int .u8 pk, .bool pf, .int .u64 pv, .int .u8 pg]] w fun e w' => ∃ v', e = .returned v' ∧ OwnB base w' v' (l ++ (Rep.mk pc ps pkey pk pf pv pg).bytes) ∧ Grew w v w' v' := by
  obtain ⟨hc1, hs1, hkey1, hk1, hv1, hg1⟩ := hwf
  simp only [U8, U32, U64] at hc1 hs1 hk1 hkey1 hv1 hg1
  have hne := hown.ne
  have hW := heap_alloc_new w (.cells #[.int .u8 pc, .int .u32 ps, .int .u64 pkey, .int .u8 pk, .bool pf, .int .u64 pv, .int .u8 pg] 27)
  have hown0 : OwnB base (w.alloc (.cells #[.int .u8 pc, .int .u32 ps, .int .u64 pkey, .int .u8 pk, .bool pf, .int .u64 pv, .int .u8 pg] 27)) v l := World.ownsRow.alloc hown _
  have hA := Grew.alloc w v (.cells #[.int .u8 pc, .int .u32 ps, .int .u64 pkey, .int .u8 pk, .bool pf, .int .u64 pv, .int .u8 pg] 27)
  have hG := hA
  have hb : base ≤ (w.alloc (.cells #[.int .u8 pc, .int .u32 ps, .int .u64 pkey, .int .u8 pk, .bool pf, .int .u64 pv, .int .u8 pg] 27)).heap.size := by simp; omega
  have hG : Grew (w.alloc (.cells #[.int .u8 pc, .int .u32 ps, .int .u64 pkey, .int .u8 pk, .bool pf, .int .u64 pv, .int .u8 pg] 27)) v (w.alloc (.cells #[.int .u8 pc, .int .u32 ps, .int .u64 pkey, .int .u8 pk, .bool pf, .int .u64 pv, .int .u8 pg] 27)) v := ⟨⟨rfl, rfl, rfl, Nat.le_refl _, fun _ _ _ => rfl⟩, .inl rfl⟩
  clear hown hb0
  subst hk
  go_enter Try.func78, Try.ntmps78
  go_wp2_with (first | (go_at_call 76; go_must (refine (put8_any base _ _ _ _ (by assumption) (by assumption) (by first | omega | (simp only [List.length_append, be32_len, be64_len, List.length_cons, List.length_nil]; omega))).mono ?_; rintro e w1 ⟨v1, rfl, hown1, hg1⟩; have hG := hG.trans hg1; have hb := Nat.le_trans hb hg1.grown.size; have hB := blk_cell (hG.blk hW hne))) | (go_at_call 82; go_must (refine (put32_any base _ _ _ _ (by assumption) (by assumption) (by first | omega | (simp only [List.length_append, List.length_cons, List.length_nil]; omega)) (by omega) (by omega)).mono ?_; rintro e w1 ⟨v1, rfl, hown1, hg1⟩; have hG := hG.trans hg1; have hb := Nat.le_trans hb hg1.grown.size; have hB := blk_cell (hG.blk hW hne))) | (go_at_call 126; go_must (refine (put64_any base _ _ _ _ (by assumption) (by assumption) (by first | omega | (simp only [List.length_append, be32_len, List.length_cons, List.length_nil]; omega)) (by omega) (by omega)).mono ?_; rintro e w1 ⟨v1, rfl, hown1, hg1⟩; have hG := hG.trans hg1; have hb := Nat.le_trans hb hg1.grown.size; have hB := blk_cell (hG.blk hW hne))))
  go_ret
  exact ⟨_, rfl, own_eq ‹OwnB base _ _ _› (by simp [Rep.bytes, Rep.tail]), hA.trans hG⟩

set_option maxHeartbeats 400000 in
set_option maxRecDepth 100000 in
theorem putreply_e (base : Nat) (v : Value) (l : List Int) (pc ps pkey pk : Int) (pf : Bool) (pv pg : Int) (w : World) (hown : OwnB base w v l) (hb0 : base ≤ w.heap.size) (hl : l.length < 2147000000) (hwf : (Rep.mk pc ps pkey pk pf pv pg).wf) (hk1 : (pk == 1) = false) (hk3 : (pk == 3) = false) :
    Calls Try.prog 78 #[v, .agg #[.int .u8 pc, .int .u32 ps, .int .u64 pkey, .int .u8 pk, .bool pf, .int .u64 pv, .int .u8 pg]] w fun e w' => ∃ v', e = .returned v' ∧ OwnB base w' v' (l ++ (Rep.mk pc ps pkey pk pf pv pg).bytes) ∧ Grew w v w' v' := by
  obtain ⟨hc1, hs1, hkey1, hkk, hv1, hg1⟩ := hwf
  simp only [U8, U32, U64] at hc1 hs1 hkk hkey1 hv1 hg1
  have hne := hown.ne
  have hW := heap_alloc_new w (.cells #[.int .u8 pc, .int .u32 ps, .int .u64 pkey, .int .u8 pk, .bool pf, .int .u64 pv, .int .u8 pg] 27)
  have hown0 : OwnB base (w.alloc (.cells #[.int .u8 pc, .int .u32 ps, .int .u64 pkey, .int .u8 pk, .bool pf, .int .u64 pv, .int .u8 pg] 27)) v l := World.ownsRow.alloc hown _
  have hA := Grew.alloc w v (.cells #[.int .u8 pc, .int .u32 ps, .int .u64 pkey, .int .u8 pk, .bool pf, .int .u64 pv, .int .u8 pg] 27)
  have hG := hA
  have hb : base ≤ (w.alloc (.cells #[.int .u8 pc, .int .u32 ps, .int .u64 pkey, .int .u8 pk, .bool pf, .int .u64 pv, .int .u8 pg] 27)).heap.size := by simp; omega
  have hG : Grew (w.alloc (.cells #[.int .u8 pc, .int .u32 ps, .int .u64 pkey, .int .u8 pk, .bool pf, .int .u64 pv, .int .u8 pg] 27)) v (w.alloc (.cells #[.int .u8 pc, .int .u32 ps, .int .u64 pkey, .int .u8 pk, .bool pf, .int .u64 pv, .int .u8 pg] 27)) v := ⟨⟨rfl, rfl, rfl, Nat.le_refl _, fun _ _ _ => rfl⟩, .inl rfl⟩
  clear hown hb0
  go_enter Try.func78, Try.ntmps78
  go_wp2_with (first | (go_at_call 76; go_must (refine (put8_any base _ _ _ _ (by assumption) (by assumption) (by first | omega | (simp only [List.length_append, be32_len, be64_len, List.length_cons, List.length_nil]; omega))).mono ?_; rintro e w1 ⟨v1, rfl, hown1, hg1⟩; have hG := hG.trans hg1; have hb := Nat.le_trans hb hg1.grown.size; have hB := blk_cell (hG.blk hW hne))) | (go_at_call 82; go_must (refine (put32_any base _ _ _ _ (by assumption) (by assumption) (by first | omega | (simp only [List.length_append, List.length_cons, List.length_nil]; omega)) (by omega) (by omega)).mono ?_; rintro e w1 ⟨v1, rfl, hown1, hg1⟩; have hG := hG.trans hg1; have hb := Nat.le_trans hb hg1.grown.size; have hB := blk_cell (hG.blk hW hne))) | (go_at_call 126; go_must (refine (put64_any base _ _ _ _ (by assumption) (by assumption) (by first | omega | (simp only [List.length_append, be32_len, List.length_cons, List.length_nil]; omega)) (by omega) (by omega)).mono ?_; rintro e w1 ⟨v1, rfl, hown1, hg1⟩; have hG := hG.trans hg1; have hb := Nat.le_trans hb hg1.grown.size; have hB := blk_cell (hG.blk hW hne))))
  go_ret
  exact ⟨_, rfl, own_eq ‹OwnB base _ _ _› (by simp [Rep.bytes, Rep.tail, show ¬ pk = 1 by simpa using hk1, show ¬ pk = 3 by simpa using hk3]), hA.trans hG⟩

theorem putreply_any (base : Nat) (v : Value) (l : List Int) (pc ps pkey pk : Int) (pf : Bool) (pv pg : Int) (w : World) (hown : OwnB base w v l) (hb0 : base ≤ w.heap.size) (hl : l.length < 2147000000) (hwf : (Rep.mk pc ps pkey pk pf pv pg).wf) :
    Calls Try.prog 78 #[v, .agg #[.int .u8 pc, .int .u32 ps, .int .u64 pkey, .int .u8 pk, .bool pf, .int .u64 pv, .int .u8 pg]] w fun e w' => ∃ v', e = .returned v' ∧ OwnB base w' v' (l ++ (Rep.mk pc ps pkey pk pf pv pg).bytes) ∧ Grew w v w' v' := by
  by_cases h1 : pk = 1
  · by_cases hf : pf = true
    · exact putreply_1t _ _ _ _ _ _ _ _ _ _ _ hown hb0 hl hwf h1 hf
    · exact putreply_1f _ _ _ _ _ _ _ _ _ _ _ hown hb0 hl hwf h1 (by simpa using hf)
  by_cases h3 : pk = 3
  · exact putreply_3 _ _ _ _ _ _ _ _ _ _ _ hown hb0 hl hwf h3
  exact putreply_e _ _ _ _ _ _ _ _ _ _ _ hown hb0 hl hwf (by simpa using h1) (by simpa using h3)

set_option maxHeartbeats 400000 in
set_option maxRecDepth 100000 in
theorem putrow_any (base : Nat) (v : Value) (l : List Int) (xkey xval : Int) (w : World) (hown : OwnB base w v l) (hb0 : base ≤ w.heap.size) (hl : l.length < 2147000000) (h1 : 0 ≤ xkey ∧ xkey < 18446744073709551616) (h2 : 0 ≤ xval ∧ xval < 18446744073709551616) :
    Calls Try.prog 129 #[v, .agg #[.int .u64 xkey, .int .u64 xval]] w fun e w' => ∃ v', e = .returned v' ∧ OwnB base w' v' (l ++ (Row.mk xkey xval).bytes) ∧ Grew w v w' v' := by
  have hne := hown.ne
  have hW : (w.alloc (.cells #[.int .u64 xkey, .int .u64 xval] 82)).drew.heap[w.heap.size]? = _ := heap_alloc_new w (.cells #[.int .u64 xkey, .int .u64 xval] 82)
  have hown0 : OwnB base (w.alloc (.cells #[.int .u64 xkey, .int .u64 xval] 82)).drew v l := World.ownsRow.alloc hown _
  have hA : Grew w v (w.alloc (.cells #[.int .u64 xkey, .int .u64 xval] 82)).drew v := (Grew.alloc w v (.cells #[.int .u64 xkey, .int .u64 xval] 82)).trans (Grew.drew _ v)
  have hG := hA
  have hb : base ≤ (w.alloc (.cells #[.int .u64 xkey, .int .u64 xval] 82)).drew.heap.size := by simp; omega
  have hG : Grew (w.alloc (.cells #[.int .u64 xkey, .int .u64 xval] 82)).drew v (w.alloc (.cells #[.int .u64 xkey, .int .u64 xval] 82)).drew v := ⟨⟨rfl, rfl, rfl, Nat.le_refl _, fun _ _ _ => rfl⟩, .inl rfl⟩
  clear hown hb0
  go_enter Try.func129, Try.ntmps129
  go_wp2_with fail
  go_region_with (first | (go_at_call 126; go_must (refine (put64_any base _ _ _ _ (by assumption) (by assumption) (by first | omega | (simp only [List.length_append, be64_len]; omega)) (by omega) (by omega)).mono ?_; rintro e w1 ⟨v1, rfl, hown1, hg1⟩; have hG := hG.trans hg1; have hb := Nat.le_trans hb hg1.grown.size; have hB := blk_cell (hG.blk hW hne))))
  all_goals go_wp2
  all_goals go_ret
  all_goals exact ⟨_, rfl, own_eq ‹OwnB base _ _ _› (by simp [Row.bytes]), hA.trans hG⟩

set_option maxHeartbeats 400000 in
set_option maxRecDepth 100000 in
theorem putballot_any (base : Nat) (v : Value) (l : List Int) (bn bid : Int) (w : World) (hown : OwnB base w v l) (hb0 : base ≤ w.heap.size) (hl : l.length < 2147000000) (h1 : 0 ≤ bn ∧ bn < 4294967296) :
    Calls Try.prog 79 #[v, .agg #[.int .u32 bn, .int .u8 bid]] w fun e w' => ∃ v', e = .returned v' ∧ OwnB base w' v' (l ++ ballotBytes bn bid) ∧ Grew w v w' v' := by
  have hne := hown.ne
  have hW : (w.alloc (.cells #[.int .u32 bn, .int .u8 bid] 29)).drew.heap[w.heap.size]? = _ := heap_alloc_new w (.cells #[.int .u32 bn, .int .u8 bid] 29)
  have hown0 : OwnB base (w.alloc (.cells #[.int .u32 bn, .int .u8 bid] 29)).drew v l := World.ownsRow.alloc hown _
  have hA : Grew w v (w.alloc (.cells #[.int .u32 bn, .int .u8 bid] 29)).drew v := (Grew.alloc w v (.cells #[.int .u32 bn, .int .u8 bid] 29)).trans (Grew.drew _ v)
  have hG := hA
  have hb : base ≤ (w.alloc (.cells #[.int .u32 bn, .int .u8 bid] 29)).drew.heap.size := by simp; omega
  have hG : Grew (w.alloc (.cells #[.int .u32 bn, .int .u8 bid] 29)).drew v (w.alloc (.cells #[.int .u32 bn, .int .u8 bid] 29)).drew v := ⟨⟨rfl, rfl, rfl, Nat.le_refl _, fun _ _ _ => rfl⟩, .inl rfl⟩
  clear hown hb0
  go_enter Try.func79, Try.ntmps79
  go_wp2_with fail
  go_region_with (first | (go_at_call 82; go_must (refine (put32_any base _ _ _ _ (by assumption) (by assumption) (by first | omega | (simp only [List.length_append, be32_len, be64_len, List.length_cons, List.length_nil]; omega)) (by omega) (by omega)).mono ?_; rintro e w1 ⟨v1, rfl, hown1, hg1⟩; have hG := hG.trans hg1; have hb := Nat.le_trans hb hg1.grown.size; have hB := blk_cell (hG.blk hW hne))) | (go_at_call 76; go_must (refine (put8_any base _ _ _ _ (by assumption) (by assumption) (by first | omega | (simp only [List.length_append, be32_len]; omega))).mono ?_; rintro e w1 ⟨v1, rfl, hown1, hg1⟩; have hG := hG.trans hg1; have hb := Nat.le_trans hb hg1.grown.size; have hB := blk_cell (hG.blk hW hne))))
  all_goals go_wp2
  all_goals go_ret
  all_goals exact ⟨_, rfl, own_eq ‹OwnB base _ _ _› (by simp [ballotBytes]), hA.trans hG⟩

end Go.Proofs.Ytignemioillaiaa

namespace Go.Proofs.Ytignemioillaiaa
open Go.RowKit

theorem own_only {base B : Nat} {w w' : World} {v : Value} {l : List Int} (h : OwnB base w v l) (hO : Only B w w') (hne : some B ≠ v.ownBlock) : OwnB base w' v l :=
  World.ownsRow.kept h ⟨hO.os, hO.tape, hO.output, Nat.le_of_eq hO.size.symm, fun k _ hk => hO.block k (fun e => hk (by rw [e]))⟩ (.inr hne.symm)

theorem grew_only {B : Nat} {w W w' : World} {v : Value} (h : Grew w v W v) (hO : Only B W w') (hB : w.heap.size ≤ B) : Grew w v w' v :=
  ⟨⟨hO.os.trans h.grown.os, hO.tape.trans h.grown.tape, hO.output.trans h.grown.output, Nat.le_trans h.grown.size (Nat.le_of_eq hO.size.symm), fun k hk hne => (hO.block k (by omega)).trans (h.grown.block k hk hne)⟩, .inl rfl⟩

set_option maxHeartbeats 400000 in
set_option maxRecDepth 100000 in
theorem putrows_any (base : Nat) (v : Value) (l : List Int) (ra : Option Addr) (rn rc : Nat) (xs : List Row) (w : World) (hown : OwnB base w v l) (hb0 : base ≤ w.heap.size) (hl : l.length < 2000000000)
    (hin : SlIn base w ⟨ra, rn, rc⟩ 2 (xs.map Row.cells)) (h255 : xs.length ≤ 255) (hwf : ∀ (i : Nat) (x : Row), xs[i]? = some x → x.wf) :
    Calls Try.prog 128 #[v, .slice ra rn rc, .func (.func 129) #[] #[]] w fun e w' => ∃ v', e = .returned v' ∧ OwnB base w' v' (l ++ ([(xs.length : Int)] ++ rowsBytes xs)) ∧ Grew w v w' v' := by
  have hlen : rn = xs.length := by simpa using hin.len
  have hr255 : rn ≤ 255 := by omega
  have HL : Hid (rn = xs.length) := hlen
  have HW : Hid (∀ (i : Nat) (x : Row), xs[i]? = some x → x.wf) := hwf
  clear hlen hwf h255
  go_enter Try.func128, Try.ntmps128
  go_wp2_with (go_at_call 76; go_must (refine (put8_any base _ _ _ _ hown hb0 (by omega)).mono ?_; rintro e w0 ⟨v0, rfl, hown0, hg0⟩))
  have hb1 : base ≤ w0.heap.size := Nat.le_trans hb0 hg0.grown.size
  go_loopw [0, 16] (fun vb i wr => ∃ k : Nat, k ≤ rn ∧ i = .int .i64 k ∧ OwnB base wr vb (l ++ [(rn : Int)] ++ ((xs.take k).map Row.bytes).flatten) ∧ Grew w v wr vb ∧ base ≤ wr.heap.size) (fun _ i _ => rn - (intOf i).toNat)
  case atStart => exact ⟨0, Nat.zero_le _, rfl, own_eq hown0 (by simp), hg0, hb1⟩
  case round =>
    obtain ⟨k, hk, rfl, hor, hgr, hbr⟩ := hrel
    by_cases hlt : k < rn
    · obtain ⟨x, hx⟩ : ∃ x, xs[k]? = some x := ⟨xs[k]'(by rw [← HL.out]; exact hlt), by simp⟩
      have hS := hin.below (hgr.below hown hb0) (Nat.le_refl _)
      obtain ⟨b, off, ha, hbB, hc⟩ := hS.el (i := k) (x := x.cells) (by simp [hx])
      obtain rfl : ra = some ⟨b, off, none⟩ := ha
      have hxw := HW.out k x hx
      have HX : Hid (xs[k]? = some x) := hx
      have hln : (((xs.take k).map Row.bytes).flatten).length ≤ 5000000 := by have := rows_len (xs.take k); simp only [rowsBytes, List.length_take] at this; omega
      clear hx
      obtain ⟨xkey, xval⟩ := x
      simp only [Row.cells] at hc
      have hW := heap_alloc_new wr (.cells #[.int .u64 0, .int .u64 0] 82)
      have hG := Grew.alloc wr u0 (.cells #[.int .u64 0, .int .u64 0] 82)
      have hoA : OwnB base (wr.alloc (.cells #[.int .u64 0, .int .u64 0] 82)) u0 _ := World.ownsRow.alloc hor _
      go_wp2_with (first | (with_reducible show wpList _ _ _ ({ dst := some 19, op := Op.load 82 _, type := _, pos := _, after := _, guard := none } :: _) _ _; go_must (refine wpList_load_mem rfl _ _ rfl b (off + k * 2) rfl 2 _ Try.underlying82 rfl sz_row [.int .u64 xkey, .int .u64 xval] rfl hc ?_)) | (with_reducible show wpList _ _ _ ({ dst := _, op := Op.store 82 _ _, type := _, pos := _, after := _, guard := none } :: _) _ _; go_must (refine wpList_store_blk rfl _ _ _ rfl rfl wr.heap.size 0 rfl [.int .u64 xkey, .int .u64 xval] rfl _ sz_row rfl rfl _ _ hW rfl [.int .u64 xkey, .int .u64 xval] rfl ?_; intro w2 hW2 hO2; have ho2 := own_only hoA hO2 hor.ne; have hG2 := grew_only hG hO2 (Nat.le_refl _); have hb2 := Nat.le_trans hbr hG2.grown.size)) | (with_reducible show wpList _ _ _ ({ dst := some 22, op := Op.load 82 _, type := _, pos := _, after := _, guard := none } :: _) _ _; go_must (refine wpList_load_blk rfl _ _ rfl wr.heap.size 0 rfl 2 _ Try.underlying82 rfl sz_row _ _ hW2 rfl [.int .u64 xkey, .int .u64 xval] rfl ?_)) | (go_at_call 129; go_must (refine (putrow_any base _ _ _ _ _ ho2 hb2 (by simp only [List.length_append, List.length_cons, List.length_nil]; omega) hxw.key hxw.val).mono ?_; rintro e w3 ⟨v3, rfl, ho3, hg3⟩)))
      go_roundw
      case rel => exact ⟨k + 1, by omega, by go_num, own_eq ho3 (by rw [flat_take Row.bytes xs k _ HX.out]; simp only [List.append_assoc]), hgr.trans (hG2.trans hg3), Nat.le_trans hb2 hg3.grown.size⟩
      case measure => simp [intOf]; omega
    · go_wp2
      go_ret
      obtain rfl : k = rn := by omega
      refine ⟨_, rfl, own_eq hor ?_, hgr⟩
      have := HL.out
      rw [this, List.take_length]; simp [rowsBytes]

set_option maxHeartbeats 400000 in
set_option maxRecDepth 100000 in
theorem putdups_any (base : Nat) (v : Value) (l : List Int) (ra : Option Addr) (rn rc : Nat) (xs : List Rep) (w : World) (hown : OwnB base w v l) (hb0 : base ≤ w.heap.size) (hl : l.length < 2000000000)
    (hin : SlIn base w ⟨ra, rn, rc⟩ 7 (xs.map Rep.cells)) (h255 : xs.length ≤ 255) (hwf : ∀ (i : Nat) (x : Rep), xs[i]? = some x → x.wf) :
    Calls Try.prog 130 #[v, .slice ra rn rc, .func (.func 78) #[] #[]] w fun e w' => ∃ v', e = .returned v' ∧ OwnB base w' v' (l ++ ([(xs.length : Int)] ++ dupsBytes xs)) ∧ Grew w v w' v' := by
  have hlen : rn = xs.length := by simpa using hin.len
  have hr255 : rn ≤ 255 := by omega
  have HL : Hid (rn = xs.length) := hlen
  have HW : Hid (∀ (i : Nat) (x : Rep), xs[i]? = some x → x.wf) := hwf
  clear hlen hwf h255
  go_enter Try.func130, Try.ntmps130
  go_wp2_with (go_at_call 76; go_must (refine (put8_any base _ _ _ _ hown hb0 (by omega)).mono ?_; rintro e w0 ⟨v0, rfl, hown0, hg0⟩))
  have hb1 : base ≤ w0.heap.size := Nat.le_trans hb0 hg0.grown.size
  go_loopw [0, 16] (fun vb i wr => ∃ k : Nat, k ≤ rn ∧ i = .int .i64 k ∧ OwnB base wr vb (l ++ [(rn : Int)] ++ ((xs.take k).map Rep.bytes).flatten) ∧ Grew w v wr vb ∧ base ≤ wr.heap.size) (fun _ i _ => rn - (intOf i).toNat)
  case atStart => exact ⟨0, Nat.zero_le _, rfl, own_eq hown0 (by simp), hg0, hb1⟩
  case round =>
    obtain ⟨k, hk, rfl, hor, hgr, hbr⟩ := hrel
    by_cases hlt : k < rn
    · obtain ⟨x, hx⟩ : ∃ x, xs[k]? = some x := ⟨xs[k]'(by rw [← HL.out]; exact hlt), by simp⟩
      have hS := hin.below (hgr.below hown hb0) (Nat.le_refl _)
      obtain ⟨b, off, ha, hbB, hc⟩ := hS.el (i := k) (x := x.cells) (by simp [hx])
      obtain rfl : ra = some ⟨b, off, none⟩ := ha
      have hxw := HW.out k x hx
      have HX : Hid (xs[k]? = some x) := hx
      have hln : (((xs.take k).map Rep.bytes).flatten).length ≤ 5000000 := by have := dups_len (xs.take k); simp only [dupsBytes, List.length_take] at this; omega
      clear hx
      obtain ⟨yc, ys, ykey, yk, yf, yv, yg⟩ := x
      simp only [Rep.cells] at hc
      have hW := heap_alloc_new wr (.cells #[.int .u8 0, .int .u32 0, .int .u64 0, .int .u8 0, .bool false, .int .u64 0, .int .u8 0] 27)
      have hG := Grew.alloc wr u0 (.cells #[.int .u8 0, .int .u32 0, .int .u64 0, .int .u8 0, .bool false, .int .u64 0, .int .u8 0] 27)
      have hoA : OwnB base (wr.alloc (.cells #[.int .u8 0, .int .u32 0, .int .u64 0, .int .u8 0, .bool false, .int .u64 0, .int .u8 0] 27)) u0 _ := World.ownsRow.alloc hor _
      go_wp2_with (first | (with_reducible show wpList _ _ _ ({ dst := some 19, op := Op.load 27 _, type := _, pos := _, after := _, guard := none } :: _) _ _; go_must (refine wpList_load_mem rfl _ _ rfl b (off + k * 7) rfl 7 _ Try.underlying27 rfl sz_rep [.int .u8 yc, .int .u32 ys, .int .u64 ykey, .int .u8 yk, .bool yf, .int .u64 yv, .int .u8 yg] rfl hc ?_)) | (with_reducible show wpList _ _ _ ({ dst := _, op := Op.store 27 _ _, type := _, pos := _, after := _, guard := none } :: _) _ _; go_must (refine wpList_store_blk rfl _ _ _ rfl rfl wr.heap.size 0 rfl [.int .u8 yc, .int .u32 ys, .int .u64 ykey, .int .u8 yk, .bool yf, .int .u64 yv, .int .u8 yg] rfl _ sz_rep rfl rfl _ _ hW rfl [.int .u8 yc, .int .u32 ys, .int .u64 ykey, .int .u8 yk, .bool yf, .int .u64 yv, .int .u8 yg] rfl ?_; intro w2 hW2 hO2; have ho2 := own_only hoA hO2 hor.ne; have hG2 := grew_only hG hO2 (Nat.le_refl _); have hb2 := Nat.le_trans hbr hG2.grown.size)) | (with_reducible show wpList _ _ _ ({ dst := some 22, op := Op.load 27 _, type := _, pos := _, after := _, guard := none } :: _) _ _; go_must (refine wpList_load_blk rfl _ _ rfl wr.heap.size 0 rfl 7 _ Try.underlying27 rfl sz_rep _ _ hW2 rfl [.int .u8 yc, .int .u32 ys, .int .u64 ykey, .int .u8 yk, .bool yf, .int .u64 yv, .int .u8 yg] rfl ?_)) | (go_at_call 78; go_must (refine (putreply_any base _ _ _ _ _ _ _ _ _ _ ho2 hb2 (by simp only [List.length_append, List.length_cons, List.length_nil]; omega) hxw).mono ?_; rintro e w3 ⟨v3, rfl, ho3, hg3⟩)))
      go_roundw
      case rel => exact ⟨k + 1, by omega, by go_num, own_eq ho3 (by rw [flat_take Rep.bytes xs k _ HX.out]; simp only [List.append_assoc]), hgr.trans (hG2.trans hg3), Nat.le_trans hb2 hg3.grown.size⟩
      case measure => simp [intOf]; omega
    · go_wp2
      go_ret
      obtain rfl : k = rn := by omega
      refine ⟨_, rfl, own_eq hor ?_, hgr⟩
      have := HL.out
      rw [this, List.take_length]; simp [dupsBytes]

end Go.Proofs.Ytignemioillaiaa

namespace Go.Proofs.Ytignemioillaiaa
open Go.RowKit

set_option maxHeartbeats 400000 in
set_option maxRecDepth 100000 in
theorem putrange_any (base : Nat) (v : Value) (l : List Int) (rsrc rdst rseq rlo rhi : Int) (rra : Option Addr) (rrn rrc : Nat) (rda : Option Addr) (rdn rdc : Nat) (rrows : List Row) (rdups : List Rep) (w : World) (hown : OwnB base w v l) (hb0 : base ≤ w.heap.size) (hl : l.length < 1900000000) (h1 : SlIn base w ⟨rra, rrn, rrc⟩ 2 (rrows.map Row.cells)) (h2 : SlIn base w ⟨rda, rdn, rdc⟩ 7 (rdups.map Rep.cells)) (hr : rrows.length ≤ 255) (hd : rdups.length ≤ 255) (hwf : (Rng.mk rsrc rdst rseq rlo rhi ⟨rra, rrn, rrc⟩ ⟨rda, rdn, rdc⟩ rrows rdups).wf) :
    Calls Try.prog 84 #[v, .agg #[.int .u8 rsrc, .int .u8 rdst, .int .u32 rseq, .int .u64 rlo, .int .u64 rhi, .slice rra rrn rrc, .slice rda rdn rdc]] w fun e w' => ∃ v', e = .returned v' ∧ OwnB base w' v' (l ++ (Rng.mk rsrc rdst rseq rlo rhi ⟨rra, rrn, rrc⟩ ⟨rda, rdn, rdc⟩ rrows rdups).bytes) ∧ Grew w v w' v' := by
  obtain ⟨hs1, hs2, hs3, hs4, hs5, hs6, hs7⟩ := hwf
  simp only [U8, U32, U64] at hs1 hs2 hs3 hs4 hs5
  have HWR : Hid (∀ (i : Nat) (x : Row), rrows[i]? = some x → x.wf) := hs6
  have HWD : Hid (∀ (i : Nat) (x : Rep), rdups[i]? = some x → x.wf) := hs7
  clear hs6 hs7
  have hne := hown.ne
  have hW := heap_alloc_new w (.cells #[.int .u8 rsrc, .int .u8 rdst, .int .u32 rseq, .int .u64 rlo, .int .u64 rhi, .slice rra rrn rrc, .slice rda rdn rdc] 33)
  have hown0 : OwnB base (w.alloc (.cells #[.int .u8 rsrc, .int .u8 rdst, .int .u32 rseq, .int .u64 rlo, .int .u64 rhi, .slice rra rrn rrc, .slice rda rdn rdc] 33)) v l := World.ownsRow.alloc hown _
  have hA := Grew.alloc w v (.cells #[.int .u8 rsrc, .int .u8 rdst, .int .u32 rseq, .int .u64 rlo, .int .u64 rhi, .slice rra rrn rrc, .slice rda rdn rdc] 33)
  have hb : base ≤ (w.alloc (.cells #[.int .u8 rsrc, .int .u8 rdst, .int .u32 rseq, .int .u64 rlo, .int .u64 rhi, .slice rra rrn rrc, .slice rda rdn rdc] 33)).heap.size := by simp; omega
  have hG : Grew (w.alloc (.cells #[.int .u8 rsrc, .int .u8 rdst, .int .u32 rseq, .int .u64 rlo, .int .u64 rhi, .slice rra rrn rrc, .slice rda rdn rdc] 33)) v (w.alloc (.cells #[.int .u8 rsrc, .int .u8 rdst, .int .u32 rseq, .int .u64 rlo, .int .u64 rhi, .slice rra rrn rrc, .slice rda rdn rdc] 33)) v := ⟨⟨rfl, rfl, rfl, Nat.le_refl _, fun _ _ _ => rfl⟩, .inl rfl⟩
  go_enter Try.func84, Try.ntmps84
  go_wp2_with (first | (go_at_call 76; go_must (refine (put8_any base _ _ _ _ (by assumption) (by assumption) (by first | omega | (simp only [List.length_append, List.length_cons, List.length_nil]; omega))).mono ?_; rintro e w1 ⟨v1, rfl, hown1, hg1⟩; have hG := hG.trans hg1; have hb := Nat.le_trans hb hg1.grown.size; have hB := blk_cell (hG.blk hW hne))) | (go_at_call 82; go_must (refine (put32_any base _ _ _ _ (by assumption) (by assumption) (by first | omega | (simp only [List.length_append, List.length_cons, List.length_nil]; omega)) (by omega) (by omega)).mono ?_; rintro e w1 ⟨v1, rfl, hown1, hg1⟩; have hG := hG.trans hg1; have hb := Nat.le_trans hb hg1.grown.size; have hB := blk_cell (hG.blk hW hne))) | (go_at_call 126; go_must (refine (put64_any base _ _ _ _ (by assumption) (by assumption) (by first | omega | (simp only [List.length_append, be32_len, be64_len, List.length_cons, List.length_nil]; omega)) (by omega) (by omega)).mono ?_; rintro e w1 ⟨v1, rfl, hown1, hg1⟩; have hG := hG.trans hg1; have hb := Nat.le_trans hb hg1.grown.size; have hB := blk_cell (hG.blk hW hne))) | (go_at_call 128; go_must (refine (putrows_any base _ _ _ _ _ rrows _ (by assumption) (by assumption) (by first | omega | (simp only [List.length_append, be32_len, be64_len, List.length_cons, List.length_nil]; omega)) (h1.below ((hA.trans hG).below hown hb0) (Nat.le_refl _)) hr HWR.out).mono ?_; have hln := rows_len rrows; rintro e w1 ⟨v1, rfl, hown1, hg1⟩; have hG := hG.trans hg1; have hb := Nat.le_trans hb hg1.grown.size; have hB := blk_cell (hG.blk hW hne))) | (go_at_call 130; go_must (refine (putdups_any base _ _ _ _ _ rdups _ (by assumption) (by assumption) (by first | omega | (simp only [List.length_append, be32_len, be64_len, List.length_cons, List.length_nil]; omega)) (h2.below ((hA.trans hG).below hown hb0) (Nat.le_refl _)) hd HWD.out).mono ?_; rintro e w1 ⟨v1, rfl, hown1, hg1⟩; have hG := hG.trans hg1; have hb := Nat.le_trans hb hg1.grown.size; have hB := blk_cell (hG.blk hW hne))))
  go_ret
  exact ⟨_, rfl, own_eq ‹OwnB base _ _ _› (by simp [Rng.bytes]), hA.trans hG⟩

set_option maxHeartbeats 400000 in
set_option maxRecDepth 100000 in
theorem putcommand_1 (base : Nat) (v : Value) (l : List Int) (ckind : Int) (cqc cqs cqk cqkey cqv cqhi cqto : Int) (crsrc crdst crseq crlo crhi : Int) (crra : Option Addr) (crrn crrc : Nat) (crda : Option Addr) (crdn crdc : Nat) (cpeer csq : Int) (crrows : List Row) (crdups : List Rep) (w : World) (hown : OwnB base w v l) (hb0 : base ≤ w.heap.size) (hl : l.length < 1800000000) (_h1 : SlIn base w ⟨crra, crrn, crrc⟩ 2 (crrows.map Row.cells)) (_h2 : SlIn base w ⟨crda, crdn, crdc⟩ 7 (crdups.map Rep.cells)) (hr : ckind = 2 → crrows.length ≤ 255) (hd : ckind = 2 → crdups.length ≤ 255) (hwf : (Cmd.mk ckind (Req.mk cqc cqs cqk cqkey cqv cqhi cqto) (Rng.mk crsrc crdst crseq crlo crhi ⟨crra, crrn, crrc⟩ ⟨crda, crdn, crdc⟩ crrows crdups) cpeer csq).wf) (hk : ckind = 1) :
    Calls Try.prog 83 #[v, .agg #[.int .u8 ckind, .int .u8 cqc, .int .u32 cqs, .int .u8 cqk, .int .u64 cqkey, .int .u64 cqv, .int .u64 cqhi, .int .u8 cqto, .int .u8 crsrc, .int .u8 crdst, .int .u32 crseq, .int .u64 crlo, .int .u64 crhi, .slice crra crrn crrc, .slice crda crdn crdc, .int .u8 cpeer, .int .u32 csq]] w fun e w' => ∃ v', e = .returned v' ∧ OwnB base w' v' (l ++ (Cmd.mk ckind (Req.mk cqc cqs cqk cqkey cqv cqhi cqto) (Rng.mk crsrc crdst crseq crlo crhi ⟨crra, crrn, crrc⟩ ⟨crda, crdn, crdc⟩ crrows crdups) cpeer csq).bytes) ∧ Grew w v w' v' := by
  obtain ⟨hk1, hq1, hr1, hp1, hs1⟩ := hwf
  simp only [U8, U32] at hk1 hp1 hs1
  have hne := hown.ne
  have hW := heap_alloc_new w (.cells #[.int .u8 ckind, .int .u8 cqc, .int .u32 cqs, .int .u8 cqk, .int .u64 cqkey, .int .u64 cqv, .int .u64 cqhi, .int .u8 cqto, .int .u8 crsrc, .int .u8 crdst, .int .u32 crseq, .int .u64 crlo, .int .u64 crhi, .slice crra crrn crrc, .slice crda crdn crdc, .int .u8 cpeer, .int .u32 csq] 35)
  have hown0 : OwnB base (w.alloc (.cells #[.int .u8 ckind, .int .u8 cqc, .int .u32 cqs, .int .u8 cqk, .int .u64 cqkey, .int .u64 cqv, .int .u64 cqhi, .int .u8 cqto, .int .u8 crsrc, .int .u8 crdst, .int .u32 crseq, .int .u64 crlo, .int .u64 crhi, .slice crra crrn crrc, .slice crda crdn crdc, .int .u8 cpeer, .int .u32 csq] 35)) v l := World.ownsRow.alloc hown _
  have hA := Grew.alloc w v (.cells #[.int .u8 ckind, .int .u8 cqc, .int .u32 cqs, .int .u8 cqk, .int .u64 cqkey, .int .u64 cqv, .int .u64 cqhi, .int .u8 cqto, .int .u8 crsrc, .int .u8 crdst, .int .u32 crseq, .int .u64 crlo, .int .u64 crhi, .slice crra crrn crrc, .slice crda crdn crdc, .int .u8 cpeer, .int .u32 csq] 35)
  have hb : base ≤ (w.alloc (.cells #[.int .u8 ckind, .int .u8 cqc, .int .u32 cqs, .int .u8 cqk, .int .u64 cqkey, .int .u64 cqv, .int .u64 cqhi, .int .u8 cqto, .int .u8 crsrc, .int .u8 crdst, .int .u32 crseq, .int .u64 crlo, .int .u64 crhi, .slice crra crrn crrc, .slice crda crdn crdc, .int .u8 cpeer, .int .u32 csq] 35)).heap.size := by simp; omega
  have hG : Grew (w.alloc (.cells #[.int .u8 ckind, .int .u8 cqc, .int .u32 cqs, .int .u8 cqk, .int .u64 cqkey, .int .u64 cqv, .int .u64 cqhi, .int .u8 cqto, .int .u8 crsrc, .int .u8 crdst, .int .u32 crseq, .int .u64 crlo, .int .u64 crhi, .slice crra crrn crrc, .slice crda crdn crdc, .int .u8 cpeer, .int .u32 csq] 35)) v (w.alloc (.cells #[.int .u8 ckind, .int .u8 cqc, .int .u32 cqs, .int .u8 cqk, .int .u64 cqkey, .int .u64 cqv, .int .u64 cqhi, .int .u8 cqto, .int .u8 crsrc, .int .u8 crdst, .int .u32 crseq, .int .u64 crlo, .int .u64 crhi, .slice crra crrn crrc, .slice crda crdn crdc, .int .u8 cpeer, .int .u32 csq] 35)) v := ⟨⟨rfl, rfl, rfl, Nat.le_refl _, fun _ _ _ => rfl⟩, .inl rfl⟩
  subst hk
  go_enter Try.func83, Try.ntmps83
  go_wp2_with (first | (go_at_call 76; go_must (refine (put8_any base _ _ _ _ (by assumption) (by assumption) (by first | omega | (simp only [List.length_append, be32_len, be64_len, List.length_cons, List.length_nil]; omega))).mono ?_; rintro e w1 ⟨v1, rfl, hown1, hg1⟩; have hG := hG.trans hg1; have hb := Nat.le_trans hb hg1.grown.size; have hB := blk_cell (hG.blk hW hne))) | (with_reducible show wpList _ _ _ ({ dst := _, op := Op.load 25 _, type := _, pos := _, after := _, guard := none } :: _) _ _; go_must (refine wpList_load_blk rfl _ _ rfl w.heap.size 1 rfl 7 _ Try.underlying25 rfl sz_req _ _ (hG.blk hW hne) rfl [.int .u8 cqc, .int .u32 cqs, .int .u8 cqk, .int .u64 cqkey, .int .u64 cqv, .int .u64 cqhi, .int .u8 cqto] rfl ?_)) | (go_at_call 77; go_must (refine (putrequest_any base _ _ _ _ _ _ _ _ _ _ (by assumption) (by assumption) (by first | omega | (simp only [List.length_append, List.length_cons, List.length_nil]; omega)) hq1).mono ?_; rintro e w1 ⟨v1, rfl, hown1, hg1⟩; have hG := hG.trans hg1; have hb := Nat.le_trans hb hg1.grown.size; have hB := blk_cell (hG.blk hW hne))))
  go_ret
  exact ⟨_, rfl, own_eq ‹OwnB base _ _ _› (by simp [Cmd.bytes, Cmd.tail]), hA.trans hG⟩

set_option maxHeartbeats 400000 in
set_option maxRecDepth 100000 in
theorem putcommand_2 (base : Nat) (v : Value) (l : List Int) (ckind : Int) (cqc cqs cqk cqkey cqv cqhi cqto : Int) (crsrc crdst crseq crlo crhi : Int) (crra : Option Addr) (crrn crrc : Nat) (crda : Option Addr) (crdn crdc : Nat) (cpeer csq : Int) (crrows : List Row) (crdups : List Rep) (w : World) (hown : OwnB base w v l) (hb0 : base ≤ w.heap.size) (hl : l.length < 1800000000) (h1 : SlIn base w ⟨crra, crrn, crrc⟩ 2 (crrows.map Row.cells)) (h2 : SlIn base w ⟨crda, crdn, crdc⟩ 7 (crdups.map Rep.cells)) (hr : ckind = 2 → crrows.length ≤ 255) (hd : ckind = 2 → crdups.length ≤ 255) (hwf : (Cmd.mk ckind (Req.mk cqc cqs cqk cqkey cqv cqhi cqto) (Rng.mk crsrc crdst crseq crlo crhi ⟨crra, crrn, crrc⟩ ⟨crda, crdn, crdc⟩ crrows crdups) cpeer csq).wf) (hk : ckind = 2) :
    Calls Try.prog 83 #[v, .agg #[.int .u8 ckind, .int .u8 cqc, .int .u32 cqs, .int .u8 cqk, .int .u64 cqkey, .int .u64 cqv, .int .u64 cqhi, .int .u8 cqto, .int .u8 crsrc, .int .u8 crdst, .int .u32 crseq, .int .u64 crlo, .int .u64 crhi, .slice crra crrn crrc, .slice crda crdn crdc, .int .u8 cpeer, .int .u32 csq]] w fun e w' => ∃ v', e = .returned v' ∧ OwnB base w' v' (l ++ (Cmd.mk ckind (Req.mk cqc cqs cqk cqkey cqv cqhi cqto) (Rng.mk crsrc crdst crseq crlo crhi ⟨crra, crrn, crrc⟩ ⟨crda, crdn, crdc⟩ crrows crdups) cpeer csq).bytes) ∧ Grew w v w' v' := by
  obtain ⟨hk1, hq1, hr1, hp1, hs1⟩ := hwf
  simp only [U8, U32] at hk1 hp1 hs1
  have hne := hown.ne
  have hW := heap_alloc_new w (.cells #[.int .u8 ckind, .int .u8 cqc, .int .u32 cqs, .int .u8 cqk, .int .u64 cqkey, .int .u64 cqv, .int .u64 cqhi, .int .u8 cqto, .int .u8 crsrc, .int .u8 crdst, .int .u32 crseq, .int .u64 crlo, .int .u64 crhi, .slice crra crrn crrc, .slice crda crdn crdc, .int .u8 cpeer, .int .u32 csq] 35)
  have hown0 : OwnB base (w.alloc (.cells #[.int .u8 ckind, .int .u8 cqc, .int .u32 cqs, .int .u8 cqk, .int .u64 cqkey, .int .u64 cqv, .int .u64 cqhi, .int .u8 cqto, .int .u8 crsrc, .int .u8 crdst, .int .u32 crseq, .int .u64 crlo, .int .u64 crhi, .slice crra crrn crrc, .slice crda crdn crdc, .int .u8 cpeer, .int .u32 csq] 35)) v l := World.ownsRow.alloc hown _
  have hA := Grew.alloc w v (.cells #[.int .u8 ckind, .int .u8 cqc, .int .u32 cqs, .int .u8 cqk, .int .u64 cqkey, .int .u64 cqv, .int .u64 cqhi, .int .u8 cqto, .int .u8 crsrc, .int .u8 crdst, .int .u32 crseq, .int .u64 crlo, .int .u64 crhi, .slice crra crrn crrc, .slice crda crdn crdc, .int .u8 cpeer, .int .u32 csq] 35)
  have hb : base ≤ (w.alloc (.cells #[.int .u8 ckind, .int .u8 cqc, .int .u32 cqs, .int .u8 cqk, .int .u64 cqkey, .int .u64 cqv, .int .u64 cqhi, .int .u8 cqto, .int .u8 crsrc, .int .u8 crdst, .int .u32 crseq, .int .u64 crlo, .int .u64 crhi, .slice crra crrn crrc, .slice crda crdn crdc, .int .u8 cpeer, .int .u32 csq] 35)).heap.size := by simp; omega
  have hG : Grew (w.alloc (.cells #[.int .u8 ckind, .int .u8 cqc, .int .u32 cqs, .int .u8 cqk, .int .u64 cqkey, .int .u64 cqv, .int .u64 cqhi, .int .u8 cqto, .int .u8 crsrc, .int .u8 crdst, .int .u32 crseq, .int .u64 crlo, .int .u64 crhi, .slice crra crrn crrc, .slice crda crdn crdc, .int .u8 cpeer, .int .u32 csq] 35)) v (w.alloc (.cells #[.int .u8 ckind, .int .u8 cqc, .int .u32 cqs, .int .u8 cqk, .int .u64 cqkey, .int .u64 cqv, .int .u64 cqhi, .int .u8 cqto, .int .u8 crsrc, .int .u8 crdst, .int .u32 crseq, .int .u64 crlo, .int .u64 crhi, .slice crra crrn crrc, .slice crda crdn crdc, .int .u8 cpeer, .int .u32 csq] 35)) v := ⟨⟨rfl, rfl, rfl, Nat.le_refl _, fun _ _ _ => rfl⟩, .inl rfl⟩
  subst hk
  go_enter Try.func83, Try.ntmps83
  go_wp2_with (first | (go_at_call 76; go_must (refine (put8_any base _ _ _ _ (by assumption) (by assumption) (by first | omega | (simp only [List.length_append, be32_len, be64_len, List.length_cons, List.length_nil]; omega))).mono ?_; rintro e w1 ⟨v1, rfl, hown1, hg1⟩; have hG := hG.trans hg1; have hb := Nat.le_trans hb hg1.grown.size; have hB := blk_cell (hG.blk hW hne))) | (with_reducible show wpList _ _ _ ({ dst := _, op := Op.load 33 _, type := _, pos := _, after := _, guard := none } :: _) _ _; go_must (refine wpList_load_blk rfl _ _ rfl w.heap.size 8 rfl 7 _ Try.underlying33 rfl sz_rng _ _ (hG.blk hW hne) rfl [.int .u8 crsrc, .int .u8 crdst, .int .u32 crseq, .int .u64 crlo, .int .u64 crhi, .slice crra crrn crrc, .slice crda crdn crdc] rfl ?_)) | (go_at_call 84; go_must (refine (putrange_any base _ _ _ _ _ _ _ _ _ _ _ _ _ crrows crdups _ (by assumption) (by assumption) (by first | omega | (simp only [List.length_append, List.length_cons, List.length_nil]; omega)) (h1.below ((hA.trans hG).below hown hb0) (Nat.le_refl _)) (h2.below ((hA.trans hG).below hown hb0) (Nat.le_refl _)) (hr (by trivial)) (hd (by trivial)) hr1).mono ?_; rintro e w1 ⟨v1, rfl, hown1, hg1⟩; have hG := hG.trans hg1; have hb := Nat.le_trans hb hg1.grown.size; have hB := blk_cell (hG.blk hW hne))))
  go_ret
  exact ⟨_, rfl, own_eq ‹OwnB base _ _ _› (by simp [Cmd.bytes, Cmd.tail]), hA.trans hG⟩

set_option maxHeartbeats 400000 in
set_option maxRecDepth 100000 in
theorem putcommand_3 (base : Nat) (v : Value) (l : List Int) (ckind : Int) (cqc cqs cqk cqkey cqv cqhi cqto : Int) (crsrc crdst crseq crlo crhi : Int) (crra : Option Addr) (crrn crrc : Nat) (crda : Option Addr) (crdn crdc : Nat) (cpeer csq : Int) (crrows : List Row) (crdups : List Rep) (w : World) (hown : OwnB base w v l) (hb0 : base ≤ w.heap.size) (hl : l.length < 1800000000) (_h1 : SlIn base w ⟨crra, crrn, crrc⟩ 2 (crrows.map Row.cells)) (_h2 : SlIn base w ⟨crda, crdn, crdc⟩ 7 (crdups.map Rep.cells)) (hr : ckind = 2 → crrows.length ≤ 255) (hd : ckind = 2 → crdups.length ≤ 255) (hwf : (Cmd.mk ckind (Req.mk cqc cqs cqk cqkey cqv cqhi cqto) (Rng.mk crsrc crdst crseq crlo crhi ⟨crra, crrn, crrc⟩ ⟨crda, crdn, crdc⟩ crrows crdups) cpeer csq).wf) (hk : ckind = 3) :
    Calls Try.prog 83 #[v, .agg #[.int .u8 ckind, .int .u8 cqc, .int .u32 cqs, .int .u8 cqk, .int .u64 cqkey, .int .u64 cqv, .int .u64 cqhi, .int .u8 cqto, .int .u8 crsrc, .int .u8 crdst, .int .u32 crseq, .int .u64 crlo, .int .u64 crhi, .slice crra crrn crrc, .slice crda crdn crdc, .int .u8 cpeer, .int .u32 csq]] w fun e w' => ∃ v', e = .returned v' ∧ OwnB base w' v' (l ++ (Cmd.mk ckind (Req.mk cqc cqs cqk cqkey cqv cqhi cqto) (Rng.mk crsrc crdst crseq crlo crhi ⟨crra, crrn, crrc⟩ ⟨crda, crdn, crdc⟩ crrows crdups) cpeer csq).bytes) ∧ Grew w v w' v' := by
  obtain ⟨hk1, hq1, hr1, hp1, hs1⟩ := hwf
  simp only [U8, U32] at hk1 hp1 hs1
  have hne := hown.ne
  have hW := heap_alloc_new w (.cells #[.int .u8 ckind, .int .u8 cqc, .int .u32 cqs, .int .u8 cqk, .int .u64 cqkey, .int .u64 cqv, .int .u64 cqhi, .int .u8 cqto, .int .u8 crsrc, .int .u8 crdst, .int .u32 crseq, .int .u64 crlo, .int .u64 crhi, .slice crra crrn crrc, .slice crda crdn crdc, .int .u8 cpeer, .int .u32 csq] 35)
  have hown0 : OwnB base (w.alloc (.cells #[.int .u8 ckind, .int .u8 cqc, .int .u32 cqs, .int .u8 cqk, .int .u64 cqkey, .int .u64 cqv, .int .u64 cqhi, .int .u8 cqto, .int .u8 crsrc, .int .u8 crdst, .int .u32 crseq, .int .u64 crlo, .int .u64 crhi, .slice crra crrn crrc, .slice crda crdn crdc, .int .u8 cpeer, .int .u32 csq] 35)) v l := World.ownsRow.alloc hown _
  have hA := Grew.alloc w v (.cells #[.int .u8 ckind, .int .u8 cqc, .int .u32 cqs, .int .u8 cqk, .int .u64 cqkey, .int .u64 cqv, .int .u64 cqhi, .int .u8 cqto, .int .u8 crsrc, .int .u8 crdst, .int .u32 crseq, .int .u64 crlo, .int .u64 crhi, .slice crra crrn crrc, .slice crda crdn crdc, .int .u8 cpeer, .int .u32 csq] 35)
  have hb : base ≤ (w.alloc (.cells #[.int .u8 ckind, .int .u8 cqc, .int .u32 cqs, .int .u8 cqk, .int .u64 cqkey, .int .u64 cqv, .int .u64 cqhi, .int .u8 cqto, .int .u8 crsrc, .int .u8 crdst, .int .u32 crseq, .int .u64 crlo, .int .u64 crhi, .slice crra crrn crrc, .slice crda crdn crdc, .int .u8 cpeer, .int .u32 csq] 35)).heap.size := by simp; omega
  have hG : Grew (w.alloc (.cells #[.int .u8 ckind, .int .u8 cqc, .int .u32 cqs, .int .u8 cqk, .int .u64 cqkey, .int .u64 cqv, .int .u64 cqhi, .int .u8 cqto, .int .u8 crsrc, .int .u8 crdst, .int .u32 crseq, .int .u64 crlo, .int .u64 crhi, .slice crra crrn crrc, .slice crda crdn crdc, .int .u8 cpeer, .int .u32 csq] 35)) v (w.alloc (.cells #[.int .u8 ckind, .int .u8 cqc, .int .u32 cqs, .int .u8 cqk, .int .u64 cqkey, .int .u64 cqv, .int .u64 cqhi, .int .u8 cqto, .int .u8 crsrc, .int .u8 crdst, .int .u32 crseq, .int .u64 crlo, .int .u64 crhi, .slice crra crrn crrc, .slice crda crdn crdc, .int .u8 cpeer, .int .u32 csq] 35)) v := ⟨⟨rfl, rfl, rfl, Nat.le_refl _, fun _ _ _ => rfl⟩, .inl rfl⟩
  subst hk
  go_enter Try.func83, Try.ntmps83
  go_wp2_with (first | (go_at_call 76; go_must (refine (put8_any base _ _ _ _ (by assumption) (by assumption) (by first | omega | (simp only [List.length_append, List.length_cons, List.length_nil]; omega))).mono ?_; rintro e w1 ⟨v1, rfl, hown1, hg1⟩; have hG := hG.trans hg1; have hb := Nat.le_trans hb hg1.grown.size; have hB := blk_cell (hG.blk hW hne))) | (go_at_call 82; go_must (refine (put32_any base _ _ _ _ (by assumption) (by assumption) (by first | omega | (simp only [List.length_append, List.length_cons, List.length_nil]; omega)) (by omega) (by omega)).mono ?_; rintro e w1 ⟨v1, rfl, hown1, hg1⟩; have hG := hG.trans hg1; have hb := Nat.le_trans hb hg1.grown.size; have hB := blk_cell (hG.blk hW hne))))
  go_ret
  exact ⟨_, rfl, own_eq ‹OwnB base _ _ _› (by simp [Cmd.bytes, Cmd.tail]), hA.trans hG⟩

set_option maxHeartbeats 400000 in
set_option maxRecDepth 100000 in
theorem putcommand_e (base : Nat) (v : Value) (l : List Int) (ckind : Int) (cqc cqs cqk cqkey cqv cqhi cqto : Int) (crsrc crdst crseq crlo crhi : Int) (crra : Option Addr) (crrn crrc : Nat) (crda : Option Addr) (crdn crdc : Nat) (cpeer csq : Int) (crrows : List Row) (crdups : List Rep) (w : World) (hown : OwnB base w v l) (hb0 : base ≤ w.heap.size) (hl : l.length < 1800000000) (_h1 : SlIn base w ⟨crra, crrn, crrc⟩ 2 (crrows.map Row.cells)) (_h2 : SlIn base w ⟨crda, crdn, crdc⟩ 7 (crdups.map Rep.cells)) (_hr : ckind = 2 → crrows.length ≤ 255) (_hd : ckind = 2 → crdups.length ≤ 255) (hwf : (Cmd.mk ckind (Req.mk cqc cqs cqk cqkey cqv cqhi cqto) (Rng.mk crsrc crdst crseq crlo crhi ⟨crra, crrn, crrc⟩ ⟨crda, crdn, crdc⟩ crrows crdups) cpeer csq).wf) (k1 : (ckind == 1) = false) (k2 : (ckind == 2) = false) (k3 : (ckind == 3) = false) :
    Calls Try.prog 83 #[v, .agg #[.int .u8 ckind, .int .u8 cqc, .int .u32 cqs, .int .u8 cqk, .int .u64 cqkey, .int .u64 cqv, .int .u64 cqhi, .int .u8 cqto, .int .u8 crsrc, .int .u8 crdst, .int .u32 crseq, .int .u64 crlo, .int .u64 crhi, .slice crra crrn crrc, .slice crda crdn crdc, .int .u8 cpeer, .int .u32 csq]] w fun e w' => ∃ v', e = .returned v' ∧ OwnB base w' v' (l ++ (Cmd.mk ckind (Req.mk cqc cqs cqk cqkey cqv cqhi cqto) (Rng.mk crsrc crdst crseq crlo crhi ⟨crra, crrn, crrc⟩ ⟨crda, crdn, crdc⟩ crrows crdups) cpeer csq).bytes) ∧ Grew w v w' v' := by
  obtain ⟨hk1, hq1, hr1, hp1, hs1⟩ := hwf
  simp only [U8, U32] at hk1 hp1 hs1
  have hne := hown.ne
  have hW := heap_alloc_new w (.cells #[.int .u8 ckind, .int .u8 cqc, .int .u32 cqs, .int .u8 cqk, .int .u64 cqkey, .int .u64 cqv, .int .u64 cqhi, .int .u8 cqto, .int .u8 crsrc, .int .u8 crdst, .int .u32 crseq, .int .u64 crlo, .int .u64 crhi, .slice crra crrn crrc, .slice crda crdn crdc, .int .u8 cpeer, .int .u32 csq] 35)
  have hown0 : OwnB base (w.alloc (.cells #[.int .u8 ckind, .int .u8 cqc, .int .u32 cqs, .int .u8 cqk, .int .u64 cqkey, .int .u64 cqv, .int .u64 cqhi, .int .u8 cqto, .int .u8 crsrc, .int .u8 crdst, .int .u32 crseq, .int .u64 crlo, .int .u64 crhi, .slice crra crrn crrc, .slice crda crdn crdc, .int .u8 cpeer, .int .u32 csq] 35)) v l := World.ownsRow.alloc hown _
  have hA := Grew.alloc w v (.cells #[.int .u8 ckind, .int .u8 cqc, .int .u32 cqs, .int .u8 cqk, .int .u64 cqkey, .int .u64 cqv, .int .u64 cqhi, .int .u8 cqto, .int .u8 crsrc, .int .u8 crdst, .int .u32 crseq, .int .u64 crlo, .int .u64 crhi, .slice crra crrn crrc, .slice crda crdn crdc, .int .u8 cpeer, .int .u32 csq] 35)
  have hb : base ≤ (w.alloc (.cells #[.int .u8 ckind, .int .u8 cqc, .int .u32 cqs, .int .u8 cqk, .int .u64 cqkey, .int .u64 cqv, .int .u64 cqhi, .int .u8 cqto, .int .u8 crsrc, .int .u8 crdst, .int .u32 crseq, .int .u64 crlo, .int .u64 crhi, .slice crra crrn crrc, .slice crda crdn crdc, .int .u8 cpeer, .int .u32 csq] 35)).heap.size := by simp; omega
  have hG : Grew (w.alloc (.cells #[.int .u8 ckind, .int .u8 cqc, .int .u32 cqs, .int .u8 cqk, .int .u64 cqkey, .int .u64 cqv, .int .u64 cqhi, .int .u8 cqto, .int .u8 crsrc, .int .u8 crdst, .int .u32 crseq, .int .u64 crlo, .int .u64 crhi, .slice crra crrn crrc, .slice crda crdn crdc, .int .u8 cpeer, .int .u32 csq] 35)) v (w.alloc (.cells #[.int .u8 ckind, .int .u8 cqc, .int .u32 cqs, .int .u8 cqk, .int .u64 cqkey, .int .u64 cqv, .int .u64 cqhi, .int .u8 cqto, .int .u8 crsrc, .int .u8 crdst, .int .u32 crseq, .int .u64 crlo, .int .u64 crhi, .slice crra crrn crrc, .slice crda crdn crdc, .int .u8 cpeer, .int .u32 csq] 35)) v := ⟨⟨rfl, rfl, rfl, Nat.le_refl _, fun _ _ _ => rfl⟩, .inl rfl⟩
  go_enter Try.func83, Try.ntmps83
  go_wp2_with (first | (go_at_call 76; go_must (refine (put8_any base _ _ _ _ (by assumption) (by assumption) (by first | omega | (simp only [List.length_append, be32_len, be64_len, List.length_cons, List.length_nil]; omega))).mono ?_; rintro e w1 ⟨v1, rfl, hown1, hg1⟩; have hG := hG.trans hg1; have hb := Nat.le_trans hb hg1.grown.size; have hB := blk_cell (hG.blk hW hne))))
  go_ret
  exact ⟨_, rfl, own_eq ‹OwnB base _ _ _› (by simp [Cmd.bytes, Cmd.tail, show ¬ ckind = 1 by simpa using k1, show ¬ ckind = 2 by simpa using k2, show ¬ ckind = 3 by simpa using k3]), hA.trans hG⟩

theorem putcommand_any (base : Nat) (v : Value) (l : List Int) (ckind : Int) (cqc cqs cqk cqkey cqv cqhi cqto : Int) (crsrc crdst crseq crlo crhi : Int) (crra : Option Addr) (crrn crrc : Nat) (crda : Option Addr) (crdn crdc : Nat) (cpeer csq : Int) (crrows : List Row) (crdups : List Rep) (w : World) (hown : OwnB base w v l) (hb0 : base ≤ w.heap.size) (hl : l.length < 1800000000) (h1 : SlIn base w ⟨crra, crrn, crrc⟩ 2 (crrows.map Row.cells)) (h2 : SlIn base w ⟨crda, crdn, crdc⟩ 7 (crdups.map Rep.cells)) (hr : ckind = 2 → crrows.length ≤ 255) (hd : ckind = 2 → crdups.length ≤ 255) (hwf : (Cmd.mk ckind (Req.mk cqc cqs cqk cqkey cqv cqhi cqto) (Rng.mk crsrc crdst crseq crlo crhi ⟨crra, crrn, crrc⟩ ⟨crda, crdn, crdc⟩ crrows crdups) cpeer csq).wf) :
    Calls Try.prog 83 #[v, .agg #[.int .u8 ckind, .int .u8 cqc, .int .u32 cqs, .int .u8 cqk, .int .u64 cqkey, .int .u64 cqv, .int .u64 cqhi, .int .u8 cqto, .int .u8 crsrc, .int .u8 crdst, .int .u32 crseq, .int .u64 crlo, .int .u64 crhi, .slice crra crrn crrc, .slice crda crdn crdc, .int .u8 cpeer, .int .u32 csq]] w fun e w' => ∃ v', e = .returned v' ∧ OwnB base w' v' (l ++ (Cmd.mk ckind (Req.mk cqc cqs cqk cqkey cqv cqhi cqto) (Rng.mk crsrc crdst crseq crlo crhi ⟨crra, crrn, crrc⟩ ⟨crda, crdn, crdc⟩ crrows crdups) cpeer csq).bytes) ∧ Grew w v w' v' := by
  by_cases k1 : ckind = 1
  · exact putcommand_1 _ _ _ _ _ _ _ _ _ _ _ _ _ _ _ _ _ _ _ _ _ _ _ _ _ _ _ hown hb0 hl h1 h2 hr hd hwf k1
  by_cases k2 : ckind = 2
  · exact putcommand_2 _ _ _ _ _ _ _ _ _ _ _ _ _ _ _ _ _ _ _ _ _ _ _ _ _ _ _ hown hb0 hl h1 h2 hr hd hwf k2
  by_cases k3 : ckind = 3
  · exact putcommand_3 _ _ _ _ _ _ _ _ _ _ _ _ _ _ _ _ _ _ _ _ _ _ _ _ _ _ _ hown hb0 hl h1 h2 hr hd hwf k3
  exact putcommand_e _ _ _ _ _ _ _ _ _ _ _ _ _ _ _ _ _ _ _ _ _ _ _ _ _ _ _ hown hb0 hl h1 h2 hr hd hwf (by simpa using k1) (by simpa using k2) (by simpa using k3)

set_option maxHeartbeats 400000 in
set_option maxRecDepth 100000 in
theorem putvote_any (base : Nat) (v : Value) (l : List Int) (vslot vn vid : Int) (vckind : Int) (vcqc vcqs vcqk vcqkey vcqv vcqhi vcqto : Int) (vcrsrc vcrdst vcrseq vcrlo vcrhi : Int) (vcrra : Option Addr) (vcrrn vcrrc : Nat) (vcrda : Option Addr) (vcrdn vcrdc : Nat) (vcpeer vcsq : Int) (vcrrows : List Row) (vcrdups : List Rep) (w : World) (hown : OwnB base w v l) (hb0 : base ≤ w.heap.size) (hl : l.length < 1700000000) (h1 : SlIn base w ⟨vcrra, vcrrn, vcrrc⟩ 2 (vcrrows.map Row.cells)) (h2 : SlIn base w ⟨vcrda, vcrdn, vcrdc⟩ 7 (vcrdups.map Rep.cells)) (hr : vckind = 2 → vcrrows.length ≤ 255) (hd : vckind = 2 → vcrdups.length ≤ 255) (hwf : (Vot.mk vslot vn vid (Cmd.mk vckind (Req.mk vcqc vcqs vcqk vcqkey vcqv vcqhi vcqto) (Rng.mk vcrsrc vcrdst vcrseq vcrlo vcrhi ⟨vcrra, vcrrn, vcrrc⟩ ⟨vcrda, vcrdn, vcrdc⟩ vcrrows vcrdups) vcpeer vcsq)).wf) :
    Calls Try.prog 81 #[v, .agg #[.int .u32 vslot, .int .u32 vn, .int .u8 vid, .int .u8 vckind, .int .u8 vcqc, .int .u32 vcqs, .int .u8 vcqk, .int .u64 vcqkey, .int .u64 vcqv, .int .u64 vcqhi, .int .u8 vcqto, .int .u8 vcrsrc, .int .u8 vcrdst, .int .u32 vcrseq, .int .u64 vcrlo, .int .u64 vcrhi, .slice vcrra vcrrn vcrrc, .slice vcrda vcrdn vcrdc, .int .u8 vcpeer, .int .u32 vcsq]] w fun e w' => ∃ v', e = .returned v' ∧ OwnB base w' v' (l ++ (Vot.mk vslot vn vid (Cmd.mk vckind (Req.mk vcqc vcqs vcqk vcqkey vcqv vcqhi vcqto) (Rng.mk vcrsrc vcrdst vcrseq vcrlo vcrhi ⟨vcrra, vcrrn, vcrrc⟩ ⟨vcrda, vcrdn, vcrdc⟩ vcrrows vcrdups) vcpeer vcsq)).bytes) ∧ Grew w v w' v' := by
  obtain ⟨hs1, hn1, hi1, hc1⟩ := hwf
  simp only [U8, U32] at hs1 hn1 hi1
  have hne := hown.ne
  have hW := heap_alloc_new w (.cells #[.int .u32 vslot, .int .u32 vn, .int .u8 vid, .int .u8 vckind, .int .u8 vcqc, .int .u32 vcqs, .int .u8 vcqk, .int .u64 vcqkey, .int .u64 vcqv, .int .u64 vcqhi, .int .u8 vcqto, .int .u8 vcrsrc, .int .u8 vcrdst, .int .u32 vcrseq, .int .u64 vcrlo, .int .u64 vcrhi, .slice vcrra vcrrn vcrrc, .slice vcrda vcrdn vcrdc, .int .u8 vcpeer, .int .u32 vcsq] 84)
  have hown0 : OwnB base (w.alloc (.cells #[.int .u32 vslot, .int .u32 vn, .int .u8 vid, .int .u8 vckind, .int .u8 vcqc, .int .u32 vcqs, .int .u8 vcqk, .int .u64 vcqkey, .int .u64 vcqv, .int .u64 vcqhi, .int .u8 vcqto, .int .u8 vcrsrc, .int .u8 vcrdst, .int .u32 vcrseq, .int .u64 vcrlo, .int .u64 vcrhi, .slice vcrra vcrrn vcrrc, .slice vcrda vcrdn vcrdc, .int .u8 vcpeer, .int .u32 vcsq] 84)) v l := World.ownsRow.alloc hown _
  have hA := Grew.alloc w v (.cells #[.int .u32 vslot, .int .u32 vn, .int .u8 vid, .int .u8 vckind, .int .u8 vcqc, .int .u32 vcqs, .int .u8 vcqk, .int .u64 vcqkey, .int .u64 vcqv, .int .u64 vcqhi, .int .u8 vcqto, .int .u8 vcrsrc, .int .u8 vcrdst, .int .u32 vcrseq, .int .u64 vcrlo, .int .u64 vcrhi, .slice vcrra vcrrn vcrrc, .slice vcrda vcrdn vcrdc, .int .u8 vcpeer, .int .u32 vcsq] 84)
  have hb : base ≤ (w.alloc (.cells #[.int .u32 vslot, .int .u32 vn, .int .u8 vid, .int .u8 vckind, .int .u8 vcqc, .int .u32 vcqs, .int .u8 vcqk, .int .u64 vcqkey, .int .u64 vcqv, .int .u64 vcqhi, .int .u8 vcqto, .int .u8 vcrsrc, .int .u8 vcrdst, .int .u32 vcrseq, .int .u64 vcrlo, .int .u64 vcrhi, .slice vcrra vcrrn vcrrc, .slice vcrda vcrdn vcrdc, .int .u8 vcpeer, .int .u32 vcsq] 84)).heap.size := by simp; omega
  have hG : Grew (w.alloc (.cells #[.int .u32 vslot, .int .u32 vn, .int .u8 vid, .int .u8 vckind, .int .u8 vcqc, .int .u32 vcqs, .int .u8 vcqk, .int .u64 vcqkey, .int .u64 vcqv, .int .u64 vcqhi, .int .u8 vcqto, .int .u8 vcrsrc, .int .u8 vcrdst, .int .u32 vcrseq, .int .u64 vcrlo, .int .u64 vcrhi, .slice vcrra vcrrn vcrrc, .slice vcrda vcrdn vcrdc, .int .u8 vcpeer, .int .u32 vcsq] 84)) v (w.alloc (.cells #[.int .u32 vslot, .int .u32 vn, .int .u8 vid, .int .u8 vckind, .int .u8 vcqc, .int .u32 vcqs, .int .u8 vcqk, .int .u64 vcqkey, .int .u64 vcqv, .int .u64 vcqhi, .int .u8 vcqto, .int .u8 vcrsrc, .int .u8 vcrdst, .int .u32 vcrseq, .int .u64 vcrlo, .int .u64 vcrhi, .slice vcrra vcrrn vcrrc, .slice vcrda vcrdn vcrdc, .int .u8 vcpeer, .int .u32 vcsq] 84)) v := ⟨⟨rfl, rfl, rfl, Nat.le_refl _, fun _ _ _ => rfl⟩, .inl rfl⟩
  go_enter Try.func81, Try.ntmps81
  go_wp2_with (first | (go_at_call 82; go_must (refine (put32_any base _ _ _ _ (by assumption) (by assumption) (by first | omega | (simp only [List.length_append, be32_len, be64_len, List.length_cons, List.length_nil]; omega)) (by omega) (by omega)).mono ?_; rintro e w1 ⟨v1, rfl, hown1, hg1⟩; have hG := hG.trans hg1; have hb := Nat.le_trans hb hg1.grown.size; have hB := blk_cell (hG.blk hW hne))) | (with_reducible show wpList _ _ _ ({ dst := _, op := Op.load 29 _, type := _, pos := _, after := _, guard := none } :: _) _ _; go_must (refine wpList_load_blk rfl _ _ rfl w.heap.size 1 rfl 2 _ Try.underlying29 rfl sz_bal _ _ (hG.blk hW hne) rfl [.int .u32 vn, .int .u8 vid] rfl ?_)) | (with_reducible show wpList _ _ _ ({ dst := _, op := Op.load 35 _, type := _, pos := _, after := _, guard := none } :: _) _ _; go_must (refine wpList_load_blk rfl _ _ rfl w.heap.size 3 rfl 17 _ Try.underlying35 rfl sz_cmd _ _ (hG.blk hW hne) rfl [.int .u8 vckind, .int .u8 vcqc, .int .u32 vcqs, .int .u8 vcqk, .int .u64 vcqkey, .int .u64 vcqv, .int .u64 vcqhi, .int .u8 vcqto, .int .u8 vcrsrc, .int .u8 vcrdst, .int .u32 vcrseq, .int .u64 vcrlo, .int .u64 vcrhi, .slice vcrra vcrrn vcrrc, .slice vcrda vcrdn vcrdc, .int .u8 vcpeer, .int .u32 vcsq] rfl ?_)) | (go_at_call 79; go_must (refine (putballot_any base _ _ _ _ _ (by assumption) (by assumption) (by first | omega | (simp only [List.length_append, be32_len]; omega)) hn1).mono ?_; rintro e w1 ⟨v1, rfl, hown1, hg1⟩; have hG := hG.trans hg1; have hb := Nat.le_trans hb hg1.grown.size; have hB := blk_cell (hG.blk hW hne))) | (go_at_call 83; go_must (refine (putcommand_any base _ _ _ _ _ _ _ _ _ _ _ _ _ _ _ _ _ _ _ _ _ _ _ vcrrows vcrdups _ (by assumption) (by assumption) (by simp only [ballotBytes, List.length_append, be32_len, List.length_cons, List.length_nil]; omega) (h1.below ((hA.trans hG).below hown hb0) (Nat.le_refl _)) (h2.below ((hA.trans hG).below hown hb0) (Nat.le_refl _)) hr hd hc1).mono ?_; rintro e w1 ⟨v1, rfl, hown1, hg1⟩; have hG := hG.trans hg1; have hb := Nat.le_trans hb hg1.grown.size; have hB := blk_cell (hG.blk hW hne))))
  go_ret
  exact ⟨_, rfl, own_eq ‹OwnB base _ _ _› (by simp [Vot.bytes]), hA.trans hG⟩

end Go.Proofs.Ytignemioillaiaa

