/- Package right: ranges and commands. Package right: commands. Package right: votes. -/
import Derived.Test.YtignemioillaiaaA2
import Derived.Test.YtignemioillaiaaA3
import Derived.Test.YtignemioillaiaaA4
import Derived.Test.YtignemioillaiaaD4
import Derived.Test.YtignemioillaiaaP
namespace Go.Proofs.Ytignemioillaiaa
open Go.RowKit

set_option maxHeartbeats 400000 in
theorem keyrange_any (rsrc rdst rseq rlo rhi : Int) (rra : Option Addr) (rrn rrc : Nat) (rda : Option Addr) (rdn rdc : Nat) (rrows : List Row) (rdups : List Rep) (w : World) (h1 : SlIn w.heap.size w ⟨rra, rrn, rrc⟩ 2 (rrows.map Row.cells)) (h2 : SlIn w.heap.size w ⟨rda, rdn, rdc⟩ 7 (rdups.map Rep.cells)) :
    Calls Try.prog 73 #[.agg #[.int .u8 rsrc, .int .u8 rdst, .int .u32 rseq, .int .u64 rlo, .int .u64 rhi, .slice rra rrn rrc, .slice rda rdn rdc]] w fun e w' => e = .returned (.bool (Rng.mk rsrc rdst rseq rlo rhi ⟨rra, rrn, rrc⟩ ⟨rda, rdn, rdc⟩ rrows rdups).ok) ∧ Below w.heap.size w w' := by
  have hr1 : SlIn (w.alloc (.cells #[.int .u8 rsrc, .int .u8 rdst, .int .u32 rseq, .int .u64 rlo, .int .u64 rhi, .slice rra rrn rrc, .slice rda rdn rdc] 33)).heap.size (w.alloc (.cells #[.int .u8 rsrc, .int .u8 rdst, .int .u32 rseq, .int .u64 rlo, .int .u64 rhi, .slice rra rrn rrc, .slice rda rdn rdc] 33)) ⟨rra, rrn, rrc⟩ 2 (rrows.map Row.cells) := h1.later (later_alloc _ _)
  go_enter Try.func73, Try.ntmps73
  go_wp2_with (first | (go_at_call 74; refine (group_any _ _).mono ?_; rintro e w1 ⟨rfl, rfl⟩) | (go_at_call 123; refine (rows_any _ _ _ _ _ _ _ _ _ _ _ rrows _ hr1).mono ?_; rintro e w1 ⟨rfl, hbel⟩; have hB := blk hbel (heap_alloc_new w _); have hd1 := h2.later (later_trans (later_alloc w _) hbel)) | (go_at_call 124; refine (dups_any _ _ _ _ _ _ _ _ _ _ _ rdups _ (by assumption)).mono ?_; rintro e w2 ⟨rfl, hbel2⟩))
  all_goals go_ret
  all_goals refine ⟨ret_bool ?_, ?_⟩
  all_goals first | exact later_trans (later_trans (later_alloc _ _) ‹Below (World.alloc _ _).heap.size _ _›) ‹_› | exact later_trans (later_alloc _ _) ‹_› | exact later_alloc _ _ | skip
  all_goals simp_all [Rng.ok]
  all_goals omega

end Go.Proofs.Ytignemioillaiaa

namespace Go.Proofs.Ytignemioillaiaa
open Go.RowKit

set_option maxHeartbeats 400000 in
set_option maxRecDepth 100000 in
theorem command_0 (ckind : Int) (cqc cqs cqk cqkey cqv cqhi cqto : Int) (crsrc crdst crseq crlo crhi : Int) (crra : Option Addr) (crrn crrc : Nat) (crda : Option Addr) (crdn crdc : Nat) (cpeer csq : Int) (crrows : List Row) (crdups : List Rep) (w : World) (hk : ckind = 0) :
    Calls Try.prog 72 #[.agg #[.int .u8 ckind, .int .u8 cqc, .int .u32 cqs, .int .u8 cqk, .int .u64 cqkey, .int .u64 cqv, .int .u64 cqhi, .int .u8 cqto, .int .u8 crsrc, .int .u8 crdst, .int .u32 crseq, .int .u64 crlo, .int .u64 crhi, .slice crra crrn crrc, .slice crda crdn crdc, .int .u8 cpeer, .int .u32 csq]] w fun e w' => e = .returned (.bool (Cmd.mk ckind (Req.mk cqc cqs cqk cqkey cqv cqhi cqto) (Rng.mk crsrc crdst crseq crlo crhi ⟨crra, crrn, crrc⟩ ⟨crda, crdn, crdc⟩ crrows crdups) cpeer csq).ok) ∧ Below w.heap.size w w' := by
  subst hk
  have hT := later_alloc w (.cells #[.int .u8 0, .int .u8 cqc, .int .u32 cqs, .int .u8 cqk, .int .u64 cqkey, .int .u64 cqv, .int .u64 cqhi, .int .u8 cqto, .int .u8 crsrc, .int .u8 crdst, .int .u32 crseq, .int .u64 crlo, .int .u64 crhi, .slice crra crrn crrc, .slice crda crdn crdc, .int .u8 cpeer, .int .u32 csq] 35)
  have hW := heap_alloc_new w (.cells #[.int .u8 0, .int .u8 cqc, .int .u32 cqs, .int .u8 cqk, .int .u64 cqkey, .int .u64 cqv, .int .u64 cqhi, .int .u8 cqto, .int .u8 crsrc, .int .u8 crdst, .int .u32 crseq, .int .u64 crlo, .int .u64 crhi, .slice crra crrn crrc, .slice crda crdn crdc, .int .u8 cpeer, .int .u32 csq] 35)
  go_enter Try.func72, Try.ntmps72
  go_wp2_with (first | (with_reducible show wpList _ _ _ ({ dst := _, op := Op.load 35 _, type := _, pos := _, after := _, guard := _ } :: _) _ _; go_must (refine wpList_load_blk rfl _ _ rfl w.heap.size 0 rfl 17 _ Try.underlying35 rfl sz_cmd _ _ (by assumption) rfl [.int .u8 0, .int .u8 cqc, .int .u32 cqs, .int .u8 cqk, .int .u64 cqkey, .int .u64 cqv, .int .u64 cqhi, .int .u8 cqto, .int .u8 crsrc, .int .u8 crdst, .int .u32 crseq, .int .u64 crlo, .int .u64 crhi, .slice crra crrn crrc, .slice crda crdn crdc, .int .u8 cpeer, .int .u32 csq] rfl ?_)) | (go_at_call 122; go_must (refine (nocmd_any _ _ _ _ _ _ _ _ _ _ _ _ _ _ _ _ _ _ _ _ _ crrows crdups _).mono ?_; rintro e w3 ⟨rfl, hbel3⟩)))
  go_ret
  exact ⟨ret_bool (by simp [Cmd.ok, Cmd.bare]), later_trans hT hbel3⟩

set_option maxHeartbeats 400000 in
set_option maxRecDepth 100000 in
theorem command_1t (ckind : Int) (cqc cqs cqk cqkey cqv cqhi cqto : Int) (crsrc crdst crseq crlo crhi : Int) (crra : Option Addr) (crrn crrc : Nat) (crda : Option Addr) (crdn crdc : Nat) (cpeer csq : Int) (crrows : List Row) (crdups : List Rep) (w : World) (hk : ckind = 1) (hq : (Req.mk cqc cqs cqk cqkey cqv cqhi cqto).ok = true) :
    Calls Try.prog 72 #[.agg #[.int .u8 ckind, .int .u8 cqc, .int .u32 cqs, .int .u8 cqk, .int .u64 cqkey, .int .u64 cqv, .int .u64 cqhi, .int .u8 cqto, .int .u8 crsrc, .int .u8 crdst, .int .u32 crseq, .int .u64 crlo, .int .u64 crhi, .slice crra crrn crrc, .slice crda crdn crdc, .int .u8 cpeer, .int .u32 csq]] w fun e w' => e = .returned (.bool (Cmd.mk ckind (Req.mk cqc cqs cqk cqkey cqv cqhi cqto) (Rng.mk crsrc crdst crseq crlo crhi ⟨crra, crrn, crrc⟩ ⟨crda, crdn, crdc⟩ crrows crdups) cpeer csq).ok) ∧ Below w.heap.size w w' := by
  subst hk
  have hT := later_alloc w (.cells #[.int .u8 1, .int .u8 cqc, .int .u32 cqs, .int .u8 cqk, .int .u64 cqkey, .int .u64 cqv, .int .u64 cqhi, .int .u8 cqto, .int .u8 crsrc, .int .u8 crdst, .int .u32 crseq, .int .u64 crlo, .int .u64 crhi, .slice crra crrn crrc, .slice crda crdn crdc, .int .u8 cpeer, .int .u32 csq] 35)
  have hW := heap_alloc_new w (.cells #[.int .u8 1, .int .u8 cqc, .int .u32 cqs, .int .u8 cqk, .int .u64 cqkey, .int .u64 cqv, .int .u64 cqhi, .int .u8 cqto, .int .u8 crsrc, .int .u8 crdst, .int .u32 crseq, .int .u64 crlo, .int .u64 crhi, .slice crra crrn crrc, .slice crda crdn crdc, .int .u8 cpeer, .int .u32 csq] 35)
  go_enter Try.func72, Try.ntmps72
  go_wp2_with (first | (go_at_call 69; go_must (refine (request_any _ _ _ _ _ _ _ _).mono ?_; rintro e w1 ⟨rfl, hbel⟩; have hW1 := blk_later hbel hW; have hT1 := later_trans hT hbel; clear hbel hW hT)) | (with_reducible show wpList _ _ _ ({ dst := _, op := Op.store 25 _ _, type := _, pos := _, after := _, guard := none } :: _) _ _; go_must (refine wpList_store_blk rfl _ _ _ rfl rfl w.heap.size 1 rfl [.int .u8 0, .int .u32 0, .int .u8 0, .int .u64 0, .int .u64 0, .int .u64 0, .int .u8 0] rfl _ sz_req rfl rfl _ _ (by assumption) rfl [.int .u8 1, .int .u8 0, .int .u32 0, .int .u8 0, .int .u64 0, .int .u64 0, .int .u64 0, .int .u8 0, .int .u8 crsrc, .int .u8 crdst, .int .u32 crseq, .int .u64 crlo, .int .u64 crhi, .slice crra crrn crrc, .slice crda crdn crdc, .int .u8 cpeer, .int .u32 csq] rfl ?_; intro w2 hW2 hO2; have hT2 := hT1.trans (hO2.below (Nat.le_refl _)); clear hO2)) | (with_reducible show wpList _ _ _ ({ dst := _, op := Op.load 35 _, type := _, pos := _, after := _, guard := _ } :: _) _ _; go_must (refine wpList_load_blk rfl _ _ rfl w.heap.size 0 rfl 17 _ Try.underlying35 rfl sz_cmd _ _ (by assumption) rfl [.int .u8 1, .int .u8 0, .int .u32 0, .int .u8 0, .int .u64 0, .int .u64 0, .int .u64 0, .int .u8 0, .int .u8 crsrc, .int .u8 crdst, .int .u32 crseq, .int .u64 crlo, .int .u64 crhi, .slice crra crrn crrc, .slice crda crdn crdc, .int .u8 cpeer, .int .u32 csq] rfl ?_)) | (go_at_call 122; go_must (refine (nocmd_any _ _ _ _ _ _ _ _ _ _ _ _ _ _ _ _ _ _ _ _ _ crrows crdups _).mono ?_; rintro e w3 ⟨rfl, hbel3⟩)))
  go_ret
  exact ⟨ret_bool (by simp [Cmd.ok, Cmd.bare, Req.no, hq]), later_trans hT2 hbel3⟩

set_option maxHeartbeats 400000 in
set_option maxRecDepth 100000 in
theorem command_1f (ckind : Int) (cqc cqs cqk cqkey cqv cqhi cqto : Int) (crsrc crdst crseq crlo crhi : Int) (crra : Option Addr) (crrn crrc : Nat) (crda : Option Addr) (crdn crdc : Nat) (cpeer csq : Int) (crrows : List Row) (crdups : List Rep) (w : World) (hk : ckind = 1) (hq : (Req.mk cqc cqs cqk cqkey cqv cqhi cqto).ok = false) :
    Calls Try.prog 72 #[.agg #[.int .u8 ckind, .int .u8 cqc, .int .u32 cqs, .int .u8 cqk, .int .u64 cqkey, .int .u64 cqv, .int .u64 cqhi, .int .u8 cqto, .int .u8 crsrc, .int .u8 crdst, .int .u32 crseq, .int .u64 crlo, .int .u64 crhi, .slice crra crrn crrc, .slice crda crdn crdc, .int .u8 cpeer, .int .u32 csq]] w fun e w' => e = .returned (.bool (Cmd.mk ckind (Req.mk cqc cqs cqk cqkey cqv cqhi cqto) (Rng.mk crsrc crdst crseq crlo crhi ⟨crra, crrn, crrc⟩ ⟨crda, crdn, crdc⟩ crrows crdups) cpeer csq).ok) ∧ Below w.heap.size w w' := by
  subst hk
  have hT := later_alloc w (.cells #[.int .u8 1, .int .u8 cqc, .int .u32 cqs, .int .u8 cqk, .int .u64 cqkey, .int .u64 cqv, .int .u64 cqhi, .int .u8 cqto, .int .u8 crsrc, .int .u8 crdst, .int .u32 crseq, .int .u64 crlo, .int .u64 crhi, .slice crra crrn crrc, .slice crda crdn crdc, .int .u8 cpeer, .int .u32 csq] 35)
  have hW := heap_alloc_new w (.cells #[.int .u8 1, .int .u8 cqc, .int .u32 cqs, .int .u8 cqk, .int .u64 cqkey, .int .u64 cqv, .int .u64 cqhi, .int .u8 cqto, .int .u8 crsrc, .int .u8 crdst, .int .u32 crseq, .int .u64 crlo, .int .u64 crhi, .slice crra crrn crrc, .slice crda crdn crdc, .int .u8 cpeer, .int .u32 csq] 35)
  go_enter Try.func72, Try.ntmps72
  go_wp2_with (first | (go_at_call 69; go_must (refine (request_any _ _ _ _ _ _ _ _).mono ?_; rintro e w1 ⟨rfl, hbel⟩; have hW1 := blk_later hbel hW; have hT1 := later_trans hT hbel; clear hbel hW hT)) | (with_reducible show wpList _ _ _ ({ dst := _, op := Op.store 25 _ _, type := _, pos := _, after := _, guard := none } :: _) _ _; go_must (refine wpList_store_blk rfl _ _ _ rfl rfl w.heap.size 1 rfl [.int .u8 0, .int .u32 0, .int .u8 0, .int .u64 0, .int .u64 0, .int .u64 0, .int .u8 0] rfl _ sz_req rfl rfl _ _ (by assumption) rfl [.int .u8 1, .int .u8 0, .int .u32 0, .int .u8 0, .int .u64 0, .int .u64 0, .int .u64 0, .int .u8 0, .int .u8 crsrc, .int .u8 crdst, .int .u32 crseq, .int .u64 crlo, .int .u64 crhi, .slice crra crrn crrc, .slice crda crdn crdc, .int .u8 cpeer, .int .u32 csq] rfl ?_; intro w2 hW2 hO2; have hT2 := hT1.trans (hO2.below (Nat.le_refl _)); clear hO2)))
  go_ret
  exact ⟨ret_bool (by simp [Cmd.ok, hq]), hT2⟩

set_option maxHeartbeats 400000 in
set_option maxRecDepth 100000 in
theorem command_2t (ckind : Int) (cqc cqs cqk cqkey cqv cqhi cqto : Int) (crsrc crdst crseq crlo crhi : Int) (crra : Option Addr) (crrn crrc : Nat) (crda : Option Addr) (crdn crdc : Nat) (cpeer csq : Int) (crrows : List Row) (crdups : List Rep) (w : World) (hk : ckind = 2) (h1 : SlIn w.heap.size w ⟨crra, crrn, crrc⟩ 2 (crrows.map Row.cells)) (h2 : SlIn w.heap.size w ⟨crda, crdn, crdc⟩ 7 (crdups.map Rep.cells)) (hq : (Rng.mk crsrc crdst crseq crlo crhi ⟨crra, crrn, crrc⟩ ⟨crda, crdn, crdc⟩ crrows crdups).ok = true) :
    Calls Try.prog 72 #[.agg #[.int .u8 ckind, .int .u8 cqc, .int .u32 cqs, .int .u8 cqk, .int .u64 cqkey, .int .u64 cqv, .int .u64 cqhi, .int .u8 cqto, .int .u8 crsrc, .int .u8 crdst, .int .u32 crseq, .int .u64 crlo, .int .u64 crhi, .slice crra crrn crrc, .slice crda crdn crdc, .int .u8 cpeer, .int .u32 csq]] w fun e w' => e = .returned (.bool (Cmd.mk ckind (Req.mk cqc cqs cqk cqkey cqv cqhi cqto) (Rng.mk crsrc crdst crseq crlo crhi ⟨crra, crrn, crrc⟩ ⟨crda, crdn, crdc⟩ crrows crdups) cpeer csq).ok) ∧ Below w.heap.size w w' := by
  subst hk
  have hT := later_alloc w (.cells #[.int .u8 2, .int .u8 cqc, .int .u32 cqs, .int .u8 cqk, .int .u64 cqkey, .int .u64 cqv, .int .u64 cqhi, .int .u8 cqto, .int .u8 crsrc, .int .u8 crdst, .int .u32 crseq, .int .u64 crlo, .int .u64 crhi, .slice crra crrn crrc, .slice crda crdn crdc, .int .u8 cpeer, .int .u32 csq] 35)
  have hW := heap_alloc_new w (.cells #[.int .u8 2, .int .u8 cqc, .int .u32 cqs, .int .u8 cqk, .int .u64 cqkey, .int .u64 cqv, .int .u64 cqhi, .int .u8 cqto, .int .u8 crsrc, .int .u8 crdst, .int .u32 crseq, .int .u64 crlo, .int .u64 crhi, .slice crra crrn crrc, .slice crda crdn crdc, .int .u8 cpeer, .int .u32 csq] 35)
  go_enter Try.func72, Try.ntmps72
  go_wp2_with (first | (go_at_call 73; go_must (refine (keyrange_any _ _ _ _ _ _ _ _ _ _ _ crrows crdups _ (h1.later hT) (h2.later hT)).mono ?_; rintro e w1 ⟨rfl, hbel⟩; have hW1 := blk_later hbel hW; have hT1 := later_trans hT hbel; clear hbel hW hT)) | (with_reducible show wpList _ _ _ ({ dst := _, op := Op.store 33 _ _, type := _, pos := _, after := _, guard := none } :: _) _ _; go_must (refine wpList_store_blk rfl _ _ _ rfl rfl w.heap.size 8 rfl [.int .u8 0, .int .u8 0, .int .u32 0, .int .u64 0, .int .u64 0, .slice none 0 0, .slice none 0 0] rfl _ sz_rng rfl rfl _ _ (by assumption) rfl [.int .u8 2, .int .u8 cqc, .int .u32 cqs, .int .u8 cqk, .int .u64 cqkey, .int .u64 cqv, .int .u64 cqhi, .int .u8 cqto, .int .u8 0, .int .u8 0, .int .u32 0, .int .u64 0, .int .u64 0, .slice none 0 0, .slice none 0 0, .int .u8 cpeer, .int .u32 csq] rfl ?_; intro w2 hW2 hO2; have hT2 := hT1.trans (hO2.below (Nat.le_refl _)); clear hO2)) | (with_reducible show wpList _ _ _ ({ dst := _, op := Op.load 35 _, type := _, pos := _, after := _, guard := _ } :: _) _ _; go_must (refine wpList_load_blk rfl _ _ rfl w.heap.size 0 rfl 17 _ Try.underlying35 rfl sz_cmd _ _ (by assumption) rfl [.int .u8 2, .int .u8 cqc, .int .u32 cqs, .int .u8 cqk, .int .u64 cqkey, .int .u64 cqv, .int .u64 cqhi, .int .u8 cqto, .int .u8 0, .int .u8 0, .int .u32 0, .int .u64 0, .int .u64 0, .slice none 0 0, .slice none 0 0, .int .u8 cpeer, .int .u32 csq] rfl ?_)) | (go_at_call 122; go_must (refine (nocmd_any _ _ _ _ _ _ _ _ _ _ _ _ _ _ _ _ _ _ _ _ _ [] [] _).mono ?_; rintro e w3 ⟨rfl, hbel3⟩)))
  go_ret
  exact ⟨ret_bool (by simp [Cmd.ok, Cmd.bare, Rng.no, hq]), later_trans hT2 hbel3⟩

set_option maxHeartbeats 400000 in
set_option maxRecDepth 100000 in
theorem command_2f (ckind : Int) (cqc cqs cqk cqkey cqv cqhi cqto : Int) (crsrc crdst crseq crlo crhi : Int) (crra : Option Addr) (crrn crrc : Nat) (crda : Option Addr) (crdn crdc : Nat) (cpeer csq : Int) (crrows : List Row) (crdups : List Rep) (w : World) (hk : ckind = 2) (h1 : SlIn w.heap.size w ⟨crra, crrn, crrc⟩ 2 (crrows.map Row.cells)) (h2 : SlIn w.heap.size w ⟨crda, crdn, crdc⟩ 7 (crdups.map Rep.cells)) (hq : (Rng.mk crsrc crdst crseq crlo crhi ⟨crra, crrn, crrc⟩ ⟨crda, crdn, crdc⟩ crrows crdups).ok = false) :
    Calls Try.prog 72 #[.agg #[.int .u8 ckind, .int .u8 cqc, .int .u32 cqs, .int .u8 cqk, .int .u64 cqkey, .int .u64 cqv, .int .u64 cqhi, .int .u8 cqto, .int .u8 crsrc, .int .u8 crdst, .int .u32 crseq, .int .u64 crlo, .int .u64 crhi, .slice crra crrn crrc, .slice crda crdn crdc, .int .u8 cpeer, .int .u32 csq]] w fun e w' => e = .returned (.bool (Cmd.mk ckind (Req.mk cqc cqs cqk cqkey cqv cqhi cqto) (Rng.mk crsrc crdst crseq crlo crhi ⟨crra, crrn, crrc⟩ ⟨crda, crdn, crdc⟩ crrows crdups) cpeer csq).ok) ∧ Below w.heap.size w w' := by
  subst hk
  have hT := later_alloc w (.cells #[.int .u8 2, .int .u8 cqc, .int .u32 cqs, .int .u8 cqk, .int .u64 cqkey, .int .u64 cqv, .int .u64 cqhi, .int .u8 cqto, .int .u8 crsrc, .int .u8 crdst, .int .u32 crseq, .int .u64 crlo, .int .u64 crhi, .slice crra crrn crrc, .slice crda crdn crdc, .int .u8 cpeer, .int .u32 csq] 35)
  have hW := heap_alloc_new w (.cells #[.int .u8 2, .int .u8 cqc, .int .u32 cqs, .int .u8 cqk, .int .u64 cqkey, .int .u64 cqv, .int .u64 cqhi, .int .u8 cqto, .int .u8 crsrc, .int .u8 crdst, .int .u32 crseq, .int .u64 crlo, .int .u64 crhi, .slice crra crrn crrc, .slice crda crdn crdc, .int .u8 cpeer, .int .u32 csq] 35)
  go_enter Try.func72, Try.ntmps72
  go_wp2_with (first | (go_at_call 73; go_must (refine (keyrange_any _ _ _ _ _ _ _ _ _ _ _ crrows crdups _ (h1.later hT) (h2.later hT)).mono ?_; rintro e w1 ⟨rfl, hbel⟩; have hW1 := blk_later hbel hW; have hT1 := later_trans hT hbel; clear hbel hW hT)) | (with_reducible show wpList _ _ _ ({ dst := _, op := Op.store 33 _ _, type := _, pos := _, after := _, guard := none } :: _) _ _; go_must (refine wpList_store_blk rfl _ _ _ rfl rfl w.heap.size 8 rfl [.int .u8 0, .int .u8 0, .int .u32 0, .int .u64 0, .int .u64 0, .slice none 0 0, .slice none 0 0] rfl _ sz_rng rfl rfl _ _ (by assumption) rfl [.int .u8 2, .int .u8 cqc, .int .u32 cqs, .int .u8 cqk, .int .u64 cqkey, .int .u64 cqv, .int .u64 cqhi, .int .u8 cqto, .int .u8 0, .int .u8 0, .int .u32 0, .int .u64 0, .int .u64 0, .slice none 0 0, .slice none 0 0, .int .u8 cpeer, .int .u32 csq] rfl ?_; intro w2 hW2 hO2; have hT2 := hT1.trans (hO2.below (Nat.le_refl _)); clear hO2)))
  go_ret
  exact ⟨ret_bool (by simp [Cmd.ok, hq]), hT2⟩

set_option maxHeartbeats 400000 in
set_option maxRecDepth 100000 in
theorem command_3t (ckind : Int) (cqc cqs cqk cqkey cqv cqhi cqto : Int) (crsrc crdst crseq crlo crhi : Int) (crra : Option Addr) (crrn crrc : Nat) (crda : Option Addr) (crdn crdc : Nat) (cpeer csq : Int) (crrows : List Row) (crdups : List Rep) (w : World) (hk : ckind = 3) (hq : cpeer < 4) :
    Calls Try.prog 72 #[.agg #[.int .u8 ckind, .int .u8 cqc, .int .u32 cqs, .int .u8 cqk, .int .u64 cqkey, .int .u64 cqv, .int .u64 cqhi, .int .u8 cqto, .int .u8 crsrc, .int .u8 crdst, .int .u32 crseq, .int .u64 crlo, .int .u64 crhi, .slice crra crrn crrc, .slice crda crdn crdc, .int .u8 cpeer, .int .u32 csq]] w fun e w' => e = .returned (.bool (Cmd.mk ckind (Req.mk cqc cqs cqk cqkey cqv cqhi cqto) (Rng.mk crsrc crdst crseq crlo crhi ⟨crra, crrn, crrc⟩ ⟨crda, crdn, crdc⟩ crrows crdups) cpeer csq).ok) ∧ Below w.heap.size w w' := by
  subst hk
  have hT := later_alloc w (.cells #[.int .u8 3, .int .u8 cqc, .int .u32 cqs, .int .u8 cqk, .int .u64 cqkey, .int .u64 cqv, .int .u64 cqhi, .int .u8 cqto, .int .u8 crsrc, .int .u8 crdst, .int .u32 crseq, .int .u64 crlo, .int .u64 crhi, .slice crra crrn crrc, .slice crda crdn crdc, .int .u8 cpeer, .int .u32 csq] 35)
  have hW := heap_alloc_new w (.cells #[.int .u8 3, .int .u8 cqc, .int .u32 cqs, .int .u8 cqk, .int .u64 cqkey, .int .u64 cqv, .int .u64 cqhi, .int .u8 cqto, .int .u8 crsrc, .int .u8 crdst, .int .u32 crseq, .int .u64 crlo, .int .u64 crhi, .slice crra crrn crrc, .slice crda crdn crdc, .int .u8 cpeer, .int .u32 csq] 35)
  go_enter Try.func72, Try.ntmps72
  go_wp2_with (first | (go_at_call 74; refine (group_any _ _).mono ?_; rintro e w1 ⟨rfl, rfl⟩) | (with_reducible show wpList _ _ _ ({ dst := _, op := Op.store 5 _ _, type := _, pos := _, after := _, guard := none } :: _) _ _; go_must (refine wpList_store_cell rfl _ _ _ rfl rfl w.heap.size 15 rfl (.int .u8 0) rfl sz_u8 rfl _ _ (by assumption) rfl [.int .u8 3, .int .u8 cqc, .int .u32 cqs, .int .u8 cqk, .int .u64 cqkey, .int .u64 cqv, .int .u64 cqhi, .int .u8 cqto, .int .u8 crsrc, .int .u8 crdst, .int .u32 crseq, .int .u64 crlo, .int .u64 crhi, .slice crra crrn crrc, .slice crda crdn crdc, .int .u8 0, .int .u32 csq] rfl ?_; intro w2 hW2 hO2; have hT2 := hT.trans (hO2.below (Nat.le_refl _)); clear hO2)) | (with_reducible show wpList _ _ _ ({ dst := _, op := Op.store 22 _ _, type := _, pos := _, after := _, guard := none } :: _) _ _; go_must (refine wpList_store_cell rfl _ _ _ rfl rfl w.heap.size 16 rfl (.int .u32 0) rfl sz_u32 rfl _ _ (by assumption) rfl [.int .u8 3, .int .u8 cqc, .int .u32 cqs, .int .u8 cqk, .int .u64 cqkey, .int .u64 cqv, .int .u64 cqhi, .int .u8 cqto, .int .u8 crsrc, .int .u8 crdst, .int .u32 crseq, .int .u64 crlo, .int .u64 crhi, .slice crra crrn crrc, .slice crda crdn crdc, .int .u8 0, .int .u32 0] rfl ?_; intro w2 hW3 hO2; have hT3 := hT2.trans (hO2.below (Nat.le_refl _)); clear hO2)) | (with_reducible show wpList _ _ _ ({ dst := _, op := Op.load 35 _, type := _, pos := _, after := _, guard := _ } :: _) _ _; go_must (refine wpList_load_blk rfl _ _ rfl w.heap.size 0 rfl 17 _ Try.underlying35 rfl sz_cmd _ _ (by assumption) rfl [.int .u8 3, .int .u8 cqc, .int .u32 cqs, .int .u8 cqk, .int .u64 cqkey, .int .u64 cqv, .int .u64 cqhi, .int .u8 cqto, .int .u8 crsrc, .int .u8 crdst, .int .u32 crseq, .int .u64 crlo, .int .u64 crhi, .slice crra crrn crrc, .slice crda crdn crdc, .int .u8 0, .int .u32 0] rfl ?_)) | (go_at_call 122; go_must (refine (nocmd_any _ _ _ _ _ _ _ _ _ _ _ _ _ _ _ _ _ _ _ _ _ crrows crdups _).mono ?_; rintro e w3 ⟨rfl, hbel3⟩)))
  go_ret
  exact ⟨ret_bool (by simp [Cmd.ok, Cmd.bare, hq]), later_trans hT3 hbel3⟩

set_option maxHeartbeats 400000 in
set_option maxRecDepth 100000 in
theorem command_3f (ckind : Int) (cqc cqs cqk cqkey cqv cqhi cqto : Int) (crsrc crdst crseq crlo crhi : Int) (crra : Option Addr) (crrn crrc : Nat) (crda : Option Addr) (crdn crdc : Nat) (cpeer csq : Int) (crrows : List Row) (crdups : List Rep) (w : World) (hk : ckind = 3) (hq : ¬ cpeer < 4) :
    Calls Try.prog 72 #[.agg #[.int .u8 ckind, .int .u8 cqc, .int .u32 cqs, .int .u8 cqk, .int .u64 cqkey, .int .u64 cqv, .int .u64 cqhi, .int .u8 cqto, .int .u8 crsrc, .int .u8 crdst, .int .u32 crseq, .int .u64 crlo, .int .u64 crhi, .slice crra crrn crrc, .slice crda crdn crdc, .int .u8 cpeer, .int .u32 csq]] w fun e w' => e = .returned (.bool (Cmd.mk ckind (Req.mk cqc cqs cqk cqkey cqv cqhi cqto) (Rng.mk crsrc crdst crseq crlo crhi ⟨crra, crrn, crrc⟩ ⟨crda, crdn, crdc⟩ crrows crdups) cpeer csq).ok) ∧ Below w.heap.size w w' := by
  subst hk
  have hT := later_alloc w (.cells #[.int .u8 3, .int .u8 cqc, .int .u32 cqs, .int .u8 cqk, .int .u64 cqkey, .int .u64 cqv, .int .u64 cqhi, .int .u8 cqto, .int .u8 crsrc, .int .u8 crdst, .int .u32 crseq, .int .u64 crlo, .int .u64 crhi, .slice crra crrn crrc, .slice crda crdn crdc, .int .u8 cpeer, .int .u32 csq] 35)
  have hW := heap_alloc_new w (.cells #[.int .u8 3, .int .u8 cqc, .int .u32 cqs, .int .u8 cqk, .int .u64 cqkey, .int .u64 cqv, .int .u64 cqhi, .int .u8 cqto, .int .u8 crsrc, .int .u8 crdst, .int .u32 crseq, .int .u64 crlo, .int .u64 crhi, .slice crra crrn crrc, .slice crda crdn crdc, .int .u8 cpeer, .int .u32 csq] 35)
  go_enter Try.func72, Try.ntmps72
  go_wp2_with (first | (go_at_call 74; refine (group_any _ _).mono ?_; rintro e w1 ⟨rfl, rfl⟩) | (with_reducible show wpList _ _ _ ({ dst := _, op := Op.store 5 _ _, type := _, pos := _, after := _, guard := none } :: _) _ _; go_must (refine wpList_store_cell rfl _ _ _ rfl rfl w.heap.size 15 rfl (.int .u8 0) rfl sz_u8 rfl _ _ (by assumption) rfl [.int .u8 3, .int .u8 cqc, .int .u32 cqs, .int .u8 cqk, .int .u64 cqkey, .int .u64 cqv, .int .u64 cqhi, .int .u8 cqto, .int .u8 crsrc, .int .u8 crdst, .int .u32 crseq, .int .u64 crlo, .int .u64 crhi, .slice crra crrn crrc, .slice crda crdn crdc, .int .u8 0, .int .u32 csq] rfl ?_; intro w2 hW2 hO2; have hT2 := hT.trans (hO2.below (Nat.le_refl _)); clear hO2)) | (with_reducible show wpList _ _ _ ({ dst := _, op := Op.store 22 _ _, type := _, pos := _, after := _, guard := none } :: _) _ _; go_must (refine wpList_store_cell rfl _ _ _ rfl rfl w.heap.size 16 rfl (.int .u32 0) rfl sz_u32 rfl _ _ (by assumption) rfl [.int .u8 3, .int .u8 cqc, .int .u32 cqs, .int .u8 cqk, .int .u64 cqkey, .int .u64 cqv, .int .u64 cqhi, .int .u8 cqto, .int .u8 crsrc, .int .u8 crdst, .int .u32 crseq, .int .u64 crlo, .int .u64 crhi, .slice crra crrn crrc, .slice crda crdn crdc, .int .u8 0, .int .u32 0] rfl ?_; intro w2 hW3 hO2; have hT3 := hT2.trans (hO2.below (Nat.le_refl _)); clear hO2)))
  go_ret
  exact ⟨ret_bool (by simp [Cmd.ok]; omega), hT3⟩

set_option maxHeartbeats 400000 in
set_option maxRecDepth 100000 in
theorem command_e (ckind : Int) (cqc cqs cqk cqkey cqv cqhi cqto : Int) (crsrc crdst crseq crlo crhi : Int) (crra : Option Addr) (crrn crrc : Nat) (crda : Option Addr) (crdn crdc : Nat) (cpeer csq : Int) (crrows : List Row) (crdups : List Rep) (w : World) (k0 : (ckind == 0) = false) (k1 : (ckind == 1) = false) (k2 : (ckind == 2) = false) (k3 : (ckind == 3) = false) :
    Calls Try.prog 72 #[.agg #[.int .u8 ckind, .int .u8 cqc, .int .u32 cqs, .int .u8 cqk, .int .u64 cqkey, .int .u64 cqv, .int .u64 cqhi, .int .u8 cqto, .int .u8 crsrc, .int .u8 crdst, .int .u32 crseq, .int .u64 crlo, .int .u64 crhi, .slice crra crrn crrc, .slice crda crdn crdc, .int .u8 cpeer, .int .u32 csq]] w fun e w' => e = .returned (.bool (Cmd.mk ckind (Req.mk cqc cqs cqk cqkey cqv cqhi cqto) (Rng.mk crsrc crdst crseq crlo crhi ⟨crra, crrn, crrc⟩ ⟨crda, crdn, crdc⟩ crrows crdups) cpeer csq).ok) ∧ Below w.heap.size w w' := by
  go_enter Try.func72, Try.ntmps72
  go_wp2
  go_ret
  exact ⟨ret_bool (by simp [Cmd.ok, k0, k1, k2, k3]), later_alloc _ _⟩

theorem command_any (ckind : Int) (cqc cqs cqk cqkey cqv cqhi cqto : Int) (crsrc crdst crseq crlo crhi : Int) (crra : Option Addr) (crrn crrc : Nat) (crda : Option Addr) (crdn crdc : Nat) (cpeer csq : Int) (crrows : List Row) (crdups : List Rep) (w : World) (h1 : SlIn w.heap.size w ⟨crra, crrn, crrc⟩ 2 (crrows.map Row.cells)) (h2 : SlIn w.heap.size w ⟨crda, crdn, crdc⟩ 7 (crdups.map Rep.cells)) :
    Calls Try.prog 72 #[.agg #[.int .u8 ckind, .int .u8 cqc, .int .u32 cqs, .int .u8 cqk, .int .u64 cqkey, .int .u64 cqv, .int .u64 cqhi, .int .u8 cqto, .int .u8 crsrc, .int .u8 crdst, .int .u32 crseq, .int .u64 crlo, .int .u64 crhi, .slice crra crrn crrc, .slice crda crdn crdc, .int .u8 cpeer, .int .u32 csq]] w fun e w' => e = .returned (.bool (Cmd.mk ckind (Req.mk cqc cqs cqk cqkey cqv cqhi cqto) (Rng.mk crsrc crdst crseq crlo crhi ⟨crra, crrn, crrc⟩ ⟨crda, crdn, crdc⟩ crrows crdups) cpeer csq).ok) ∧ Below w.heap.size w w' := by
  by_cases k0 : ckind = 0
  · exact command_0 _ _ _ _ _ _ _ _ _ _ _ _ _ _ _ _ _ _ _ _ _ _ _ _ k0
  by_cases k1 : ckind = 1
  · by_cases hq : (Req.mk cqc cqs cqk cqkey cqv cqhi cqto).ok = true
    · exact command_1t _ _ _ _ _ _ _ _ _ _ _ _ _ _ _ _ _ _ _ _ _ _ _ _ k1 hq
    · exact command_1f _ _ _ _ _ _ _ _ _ _ _ _ _ _ _ _ _ _ _ _ _ _ _ _ k1 (by simpa using hq)
  by_cases k2 : ckind = 2
  · by_cases hq : (Rng.mk crsrc crdst crseq crlo crhi ⟨crra, crrn, crrc⟩ ⟨crda, crdn, crdc⟩ crrows crdups).ok = true
    · exact command_2t _ _ _ _ _ _ _ _ _ _ _ _ _ _ _ _ _ _ _ _ _ _ _ _ k2 h1 h2 hq
    · exact command_2f _ _ _ _ _ _ _ _ _ _ _ _ _ _ _ _ _ _ _ _ _ _ _ _ k2 h1 h2 (by simpa using hq)
  by_cases k3 : ckind = 3
  · by_cases hq : cpeer < 4
    · exact command_3t _ _ _ _ _ _ _ _ _ _ _ _ _ _ _ _ _ _ _ _ _ _ _ _ k3 hq
    · exact command_3f _ _ _ _ _ _ _ _ _ _ _ _ _ _ _ _ _ _ _ _ _ _ _ _ k3 hq
  exact command_e _ _ _ _ _ _ _ _ _ _ _ _ _ _ _ _ _ _ _ _ _ _ _ _ (by simpa using k0) (by simpa using k1) (by simpa using k2) (by simpa using k3)

end Go.Proofs.Ytignemioillaiaa

namespace Go.Proofs.Ytignemioillaiaa
open Go.RowKit

theorem blk_drewN {w : World} {B : Nat} {o : Option Obj} (h : w.heap[B]? = o) (n : Nat) : (w.drewN n).heap[B]? = o := h

set_option maxHeartbeats 1000000 in
set_option maxRecDepth 100000 in
theorem votes_any (va : Option Addr) (vn vc : Nat) (votes : List Vot) (w : World) (h : VotesIn w.heap.size w ⟨va, vn, vc⟩ votes) :
    Calls Try.prog 71 #[.slice va vn vc] w fun e w' => e = .returned (.bool (votesOk votes)) ∧ Below w.heap.size w w' := by
  have hlen : vn = votes.length := by simpa using h.sl.len
  have hlm : vn ≤ maxLen := Nat.le_trans h.sl.le h.sl.max
  unfold maxLen at hlm
  have HL : Hid (vn = votes.length) := hlen
  clear hlen
  go_enter Try.func71, Try.ntmps71
  go_wp2_with fail
  · go_ret
    exact ⟨ret_bool (by have := HL.out; simp [votesOk]; omega), Below.refl _ _⟩
  · go_loopw [10] (fun i wr => ∃ k : Nat, k ≤ vn ∧ i = .int .i64 k ∧ (List.range k).all (voteAt votes) = true ∧ Below w.heap.size w wr) (fun i _ => vn - (intOf i).toNat)
    case atStart => exact ⟨0, Nat.zero_le _, rfl, by simp, Below.refl _ _⟩
    case round =>
      obtain ⟨k, hk, rfl, hall, hnx⟩ := hrel
      have HA : Hid ((List.range k).all (voteAt votes) = true) := hall
      clear hall
      by_cases hlt : k < vn
      · obtain ⟨x, hx⟩ : ∃ x, votes[k]? = some x := ⟨votes[k]'(by rw [← HL.out]; exact hlt), by simp⟩
        have hS := h.later hnx
        obtain ⟨b, off, ha, hbB, hc⟩ := hS.sl.el (i := k) (x := x.cells) (by simp [hx])
        have hR := hS.all k x hx
        obtain rfl : va = some ⟨b, off, none⟩ := ha
        have HX : Hid (votes[k]? = some x) := hx
        clear hx
        obtain ⟨xslot, xn, xid, ⟨xckind, ⟨xcqc, xcqs, xcqk, xcqkey, xcqv, xcqhi, xcqto⟩, ⟨xcrsrc, xcrdst, xcrseq, xcrlo, xcrhi, ⟨xcrra, xcrrn, xcrrc⟩, ⟨xcrda, xcrdn, xcrdc⟩, xcrrows, xcrdups⟩, xcpeer, xcsq⟩⟩ := x
        simp only [Vot.cells, Cmd.cells, Req.cells, Rng.cells, Sl.val, List.cons_append, List.nil_append] at hc
        have hW := heap_alloc_new wr (.cells #[.int .u32 0, .int .u32 0, .int .u8 0, .int .u8 0, .int .u8 0, .int .u32 0, .int .u8 0, .int .u64 0, .int .u64 0, .int .u64 0, .int .u8 0, .int .u8 0, .int .u8 0, .int .u32 0, .int .u64 0, .int .u64 0, .slice none 0 0, .slice none 0 0, .int .u8 0, .int .u32 0] 84)
        have hT := later_alloc wr (.cells #[.int .u32 0, .int .u32 0, .int .u8 0, .int .u8 0, .int .u8 0, .int .u32 0, .int .u8 0, .int .u64 0, .int .u64 0, .int .u64 0, .int .u8 0, .int .u8 0, .int .u8 0, .int .u32 0, .int .u64 0, .int .u64 0, .slice none 0 0, .slice none 0 0, .int .u8 0, .int .u32 0] 84)
        by_cases hk0 : 0 < k
        · obtain ⟨y, hy⟩ : ∃ y, votes[k - 1]? = some y := ⟨votes[k - 1]'(by rw [← HL.out]; omega), by simp⟩
          obtain ⟨b', off', ha', _, hd⟩ := hS.sl.el (i := k - 1) (x := y.cells) (by simp [hy])
          simp only [Option.some.injEq, Addr.mk.injEq, and_true] at ha'
          obtain ⟨rfl, rfl⟩ := ha'
          have hd0 := hd 0 (.int .u32 y.slot) rfl
          have HY : Hid (votes[k - 1]? = some y) := hy
          clear hy hd
          simp only [Nat.add_zero] at hd0
          go_wp2_with (first | (with_reducible show wpList _ _ _ ({ dst := _, op := Op.load 84 _, type := _, pos := _, after := _, guard := none } :: _) _ _; go_must (refine wpList_load_mem rfl _ _ rfl b (off + k * 20) rfl 20 _ Try.underlying84 rfl sz_vot [.int .u32 xslot, .int .u32 xn, .int .u8 xid, .int .u8 xckind, .int .u8 xcqc, .int .u32 xcqs, .int .u8 xcqk, .int .u64 xcqkey, .int .u64 xcqv, .int .u64 xcqhi, .int .u8 xcqto, .int .u8 xcrsrc, .int .u8 xcrdst, .int .u32 xcrseq, .int .u64 xcrlo, .int .u64 xcrhi, .slice xcrra xcrrn xcrrc, .slice xcrda xcrdn xcrdc, .int .u8 xcpeer, .int .u32 xcsq] rfl hc ?_)) | (with_reducible show wpList _ _ _ ({ dst := _, op := Op.store 84 _ _, type := _, pos := _, after := _, guard := none } :: _) _ _; go_must (refine wpList_store_blk rfl _ _ _ rfl rfl wr.heap.size 0 rfl [.int .u32 xslot, .int .u32 xn, .int .u8 xid, .int .u8 xckind, .int .u8 xcqc, .int .u32 xcqs, .int .u8 xcqk, .int .u64 xcqkey, .int .u64 xcqv, .int .u64 xcqhi, .int .u8 xcqto, .int .u8 xcrsrc, .int .u8 xcrdst, .int .u32 xcrseq, .int .u64 xcrlo, .int .u64 xcrhi, .slice xcrra xcrrn xcrrc, .slice xcrda xcrdn xcrdc, .int .u8 xcpeer, .int .u32 xcsq] rfl _ sz_vot rfl rfl _ _ hW rfl [.int .u32 xslot, .int .u32 xn, .int .u8 xid, .int .u8 xckind, .int .u8 xcqc, .int .u32 xcqs, .int .u8 xcqk, .int .u64 xcqkey, .int .u64 xcqv, .int .u64 xcqhi, .int .u8 xcqto, .int .u8 xcrsrc, .int .u8 xcrdst, .int .u32 xcrseq, .int .u64 xcrlo, .int .u64 xcrhi, .slice xcrra xcrrn xcrrc, .slice xcrda xcrdn xcrdc, .int .u8 xcpeer, .int .u32 xcsq] rfl ?_; intro w2 hW2 hO2; have hT2 := hT.trans (hO2.below (Nat.le_refl _)); have hB2 := blk_cell hW2; have he0 := (later_cell hT2 hbB _).trans hd0)))
          go_quiet (fail)
          go_wp2_with (first | (with_reducible show wpList _ _ _ ({ dst := _, op := Op.load 35 _, type := _, pos := _, after := _, guard := none } :: _) _ _; go_must (refine wpList_load_blk rfl _ _ rfl wr.heap.size 3 rfl 17 _ Try.underlying35 rfl sz_cmd _ _ (blk_drewN hW2 _) rfl [.int .u8 xckind, .int .u8 xcqc, .int .u32 xcqs, .int .u8 xcqk, .int .u64 xcqkey, .int .u64 xcqv, .int .u64 xcqhi, .int .u8 xcqto, .int .u8 xcrsrc, .int .u8 xcrdst, .int .u32 xcrseq, .int .u64 xcrlo, .int .u64 xcrhi, .slice xcrra xcrrn xcrrc, .slice xcrda xcrdn xcrdc, .int .u8 xcpeer, .int .u32 xcsq] rfl ?_)) | (go_at_call 72; go_must (refine (command_any _ _ _ _ _ _ _ _ _ _ _ _ _ _ _ _ _ _ _ _ _ xcrrows xcrdups _ (hR.rows.later (below_drewN hT2 _)) (hR.dups.later (below_drewN hT2 _))).mono ?_; rintro e w3 ⟨rfl, hbel3⟩)))
          · go_ret
            exact ⟨ret_bool (votes_bad (k := k) (by rw [← HL.out]; exact hlt) (voteAt_prev HX.out hk0 HY.out (by assumption))).symm, later_trans hnx (below_drewN hT2 _)⟩
          · go_ret
            exact ⟨ret_bool (votes_bad (k := k) (by rw [← HL.out]; exact hlt) (voteAt_nok HX.out (by first | assumption | simp_all))).symm, later_trans hnx (later_trans (below_drewN hT2 _) hbel3)⟩
          · go_roundw
            case rel => exact ⟨k + 1, by omega, by go_num, all_next HA.out (voteAt_good HX.out (by first | assumption | simp_all) (.inr ⟨_, HY.out, by assumption⟩)), later_trans hnx (later_trans (below_drewN hT2 _) hbel3)⟩
            case measure => simp [intOf]; omega
        · have hd : decide ((0 : Int) < (k : Int)) = false := by simp; omega
          go_wp2_with (first | (with_reducible show wpList _ _ _ ({ dst := _, op := Op.load 84 _, type := _, pos := _, after := _, guard := none } :: _) _ _; go_must (refine wpList_load_mem rfl _ _ rfl b (off + k * 20) rfl 20 _ Try.underlying84 rfl sz_vot [.int .u32 xslot, .int .u32 xn, .int .u8 xid, .int .u8 xckind, .int .u8 xcqc, .int .u32 xcqs, .int .u8 xcqk, .int .u64 xcqkey, .int .u64 xcqv, .int .u64 xcqhi, .int .u8 xcqto, .int .u8 xcrsrc, .int .u8 xcrdst, .int .u32 xcrseq, .int .u64 xcrlo, .int .u64 xcrhi, .slice xcrra xcrrn xcrrc, .slice xcrda xcrdn xcrdc, .int .u8 xcpeer, .int .u32 xcsq] rfl hc ?_)) | (with_reducible show wpList _ _ _ ({ dst := _, op := Op.store 84 _ _, type := _, pos := _, after := _, guard := none } :: _) _ _; go_must (refine wpList_store_blk rfl _ _ _ rfl rfl wr.heap.size 0 rfl [.int .u32 xslot, .int .u32 xn, .int .u8 xid, .int .u8 xckind, .int .u8 xcqc, .int .u32 xcqs, .int .u8 xcqk, .int .u64 xcqkey, .int .u64 xcqv, .int .u64 xcqhi, .int .u8 xcqto, .int .u8 xcrsrc, .int .u8 xcrdst, .int .u32 xcrseq, .int .u64 xcrlo, .int .u64 xcrhi, .slice xcrra xcrrn xcrrc, .slice xcrda xcrdn xcrdc, .int .u8 xcpeer, .int .u32 xcsq] rfl _ sz_vot rfl rfl _ _ hW rfl [.int .u32 xslot, .int .u32 xn, .int .u8 xid, .int .u8 xckind, .int .u8 xcqc, .int .u32 xcqs, .int .u8 xcqk, .int .u64 xcqkey, .int .u64 xcqv, .int .u64 xcqhi, .int .u8 xcqto, .int .u8 xcrsrc, .int .u8 xcrdst, .int .u32 xcrseq, .int .u64 xcrlo, .int .u64 xcrhi, .slice xcrra xcrrn xcrrc, .slice xcrda xcrdn xcrdc, .int .u8 xcpeer, .int .u32 xcsq] rfl ?_; intro w2 hW2 hO2; have hT2 := hT.trans (hO2.below (Nat.le_refl _)); have hB2 := blk_cell hW2)))
          go_quiet (fail)
          go_wp2_with (first | (with_reducible show wpList _ _ _ ({ dst := _, op := Op.load 35 _, type := _, pos := _, after := _, guard := none } :: _) _ _; go_must (refine wpList_load_blk rfl _ _ rfl wr.heap.size 3 rfl 17 _ Try.underlying35 rfl sz_cmd _ _ (blk_drewN hW2 _) rfl [.int .u8 xckind, .int .u8 xcqc, .int .u32 xcqs, .int .u8 xcqk, .int .u64 xcqkey, .int .u64 xcqv, .int .u64 xcqhi, .int .u8 xcqto, .int .u8 xcrsrc, .int .u8 xcrdst, .int .u32 xcrseq, .int .u64 xcrlo, .int .u64 xcrhi, .slice xcrra xcrrn xcrrc, .slice xcrda xcrdn xcrdc, .int .u8 xcpeer, .int .u32 xcsq] rfl ?_)) | (go_at_call 72; go_must (refine (command_any _ _ _ _ _ _ _ _ _ _ _ _ _ _ _ _ _ _ _ _ _ xcrrows xcrdups _ (hR.rows.later (below_drewN hT2 _)) (hR.dups.later (below_drewN hT2 _))).mono ?_; rintro e w3 ⟨rfl, hbel3⟩)))
          · go_ret
            exact ⟨ret_bool (votes_bad (k := k) (by rw [← HL.out]; exact hlt) (voteAt_nok HX.out (by first | assumption | simp_all))).symm, later_trans hnx (later_trans (below_drewN hT2 _) hbel3)⟩
          · go_roundw
            case rel => exact ⟨k + 1, by omega, by go_num, all_next HA.out (voteAt_good HX.out (by first | assumption | simp_all) (.inl (by omega))), later_trans hnx (later_trans (below_drewN hT2 _) hbel3)⟩
            case measure => simp [intOf]; omega
      · go_wp2
        go_ret
        obtain rfl : k = vn := by omega
        exact ⟨ret_bool (by have := HL.out; have h2 := HA.out; rw [this] at h2; simp [votesOk, h2]; omega), hnx⟩

end Go.Proofs.Ytignemioillaiaa

