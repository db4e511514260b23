/- The document's reader in the program: commands. The document's reader in the program: a command, whatever its kind. -/
import Derived.Test.YtignemioillaiaaD4
import Derived.Test.YtignemioillaiaaV5
namespace Go.Proofs.Ytignemioillaiaa
open Go.RowKit

set_option maxHeartbeats 2000000 in
set_option maxRecDepth 100000 in
theorem rest_cmd1 (B : Nat) (s : List Int × Bool) (w : World) (h : Rst B w s) (hk : ((bnum 1 s).1 == 1) = true) (qc qs qk qkey qv qhi qto : Int) (st : List Int × Bool) (hq : rbReq (bnum 1 s).2 = ((Req.mk qc qs qk qkey qv qhi qto), st)) :
    Calls Try.prog 50 #[.pointer (some ⟨B, 0, none⟩)] w fun e w' => e = .returned (.agg (List.toArray (rC (bnum 1 s).1 qc qs qk qkey qv qhi qto 0 0 0 0 0 none 0 0 none 0 0 0 0))) ∧ Rst B w' st ∧ Upd B w w' := by
  have hlt := h.lt
  have hneR : w.heap.size ≠ B := by omega
  have hneB' : B ≠ w.heap.size := by omega
  have hS := h.alloc (.cells (List.toArray oxC) 35)
  have hU := upd_alloc1 B w (.cells (List.toArray oxC) 35)
  have hR := heap_alloc_new w (.cells (List.toArray oxC) 35)
  have hq8 := b_u8 h.byt
  have HQ : Hid (∀ w' : World, Rst B w' (bnum 1 s).2 → Calls Try.prog 47 #[.pointer (some ⟨B, 0, none⟩)] w' fun e w'' => e = .returned (.agg (List.toArray (rQ qc qs qk qkey qv qhi qto))) ∧ Rst B w'' st ∧ Upd B w' w'') := fun w' hr => by
    have := rest_req B _ w' hr
    rw [hq] at this
    exact this
  clear hq
  go_enter Try.func50, Try.ntmps50
  go_upto_region 2 with (first | (go_at_call 46; go_must (refine (rest_k B _ _ _ hS (by decide)).mono ?_; rintro e w1 ⟨rfl, hS1, hU1⟩; (try simp only [Int.reduceToNat] at hS1 ⊢); have hU := upd_trans hU hU1; have hR := upd_blk hU1 hneR hR; have hS := hS1; have hq8 := b_u8 hS.byt; have hq4 := b_u32 hS.byt; have hle := hU1.size)) | (with_reducible show AtS 35 3 ..; go_must (refine wpList_store_blk rfl _ _ _ rfl rfl w1.heap.size 0 rfl (rC (bnum 1 s).1 0 0 0 0 0 0 0 0 0 0 0 0 none 0 0 none 0 0 0 0) rfl _ sz_cmd rfl rfl _ _ (heap_alloc_new w1 (.cells (List.toArray oxC) 35)) rfl (rC (bnum 1 s).1 0 0 0 0 0 0 0 0 0 0 0 0 none 0 0 none 0 0 0 0) rfl ?_; intro w2 hV hO2; have hltB := hS.lt; have hR := (hO2.block w.heap.size (by simp at hle; omega)).trans (blk_later (later_alloc w1 (.cells (List.toArray oxC) 35)) hR); have hS := (hS.alloc (.cells (List.toArray oxC) 35)).only hO2 (by omega); have hU := upd_new (upd_trans hU (upd_alloc1 B w1 (.cells (List.toArray oxC) 35))) hO2 (by simp at hle; omega); have hcV := blk_cell hV; have hne2 : w1.heap.size ≠ B := (by omega); have hneRV : w.heap.size ≠ w1.heap.size := (by simp at hle; omega); have hz2 : w1.heap.size < w2.heap.size := (by rw [hO2.size]; simp); clear hO2)))
  go_wp2_with (first | (go_at_call 47; go_must (refine (HQ.out _ hS).mono ?_; rintro e w3 ⟨rfl, hS3, hU3⟩; have hU := upd_trans hU hU3; have hR := upd_blk hU3 hneR hR; have hV := upd_blk hU3 hne2 hV; have hS := hS3)) | (with_reducible show AtS 25 14 ..; go_must (refine wpList_store_blk rfl _ _ _ rfl rfl w1.heap.size 1 rfl (rQ qc qs qk qkey qv qhi qto) rfl _ sz_req rfl rfl _ _ hV rfl (rC (bnum 1 s).1 qc qs qk qkey qv qhi qto 0 0 0 0 0 none 0 0 none 0 0 0 0) rfl ?_; intro w4 hV4 hO4; have hV := hV4; have hU := upd_new hU hO4 (by simp at hle; omega); have hR := (hO4.block _ hneRV).trans hR; have hS := hS.only hO4 (Ne.symm hne2))) | (with_reducible show AtL 30 35 ..; go_must (refine wpList_load_blk rfl _ _ rfl w1.heap.size 0 rfl 17 _ Try.underlying35 rfl sz_cmd _ _ hV rfl (rC (bnum 1 s).1 qc qs qk qkey qv qhi qto 0 0 0 0 0 none 0 0 none 0 0 0 0) rfl ?_)) | (with_reducible show AtS 35 2 ..; go_must (refine wpList_store_blk rfl _ _ _ rfl rfl w.heap.size 0 rfl (rC (bnum 1 s).1 qc qs qk qkey qv qhi qto 0 0 0 0 0 none 0 0 none 0 0 0 0) rfl _ sz_cmd rfl rfl _ _ hR rfl (rC (bnum 1 s).1 qc qs qk qkey qv qhi qto 0 0 0 0 0 none 0 0 none 0 0 0 0) rfl ?_; intro w9 hR9 hO9; have hU := upd_new hU hO9 (Nat.le_refl _); have hS := hS.only hO9 hneB')))
  exact bodyPost_ret (v := .agg (List.toArray (rC (bnum 1 s).1 qc qs qk qkey qv qhi qto 0 0 0 0 0 none 0 0 none 0 0 0 0))) (results_cell_row Try.results50 _ _ w.heap.size 35 _ (0, 0) _ rfl hR9 Try.underlying35 rfl sz_cmd) rfl ⟨rfl, by assumption, by assumption⟩

set_option maxHeartbeats 2000000 in
set_option maxRecDepth 100000 in
theorem rest_cmd2 (B : Nat) (s : List Int × Bool) (w : World) (h : Rst B w s) (hk1 : ((bnum 1 s).1 == 1) = false) (hk : ((bnum 1 s).1 == 2) = true) (rsrc rdst rseq rlo rhi : Int) (rs ds : Sl) (rrows : List Row) (rdups : List Rep) (st : List Int × Bool) (hq : rbRng (bnum 1 s).2 = (⟨rsrc, rdst, rseq, rlo, rhi, rs, ds, rrows, rdups⟩, st)) :
    Calls Try.prog 50 #[.pointer (some ⟨B, 0, none⟩)] w fun e w' => ∃ (ra : Option Addr) (rn rc : Nat) (da : Option Addr) (dn dc : Nat), e = .returned (.agg (List.toArray (rC (bnum 1 s).1 0 0 0 0 0 0 0 rsrc rdst rseq rlo rhi ra rn rc da dn dc 0 0))) ∧ w'.ownsRow w.heap.size 82 2 (.slice ra rn rc) rrows.length (rrows.map Row.cells).flatten ∧ w'.ownsRow w.heap.size 27 7 (.slice da dn dc) rdups.length (rdups.map Rep.cells).flatten ∧ Rst B w' st ∧ Upd B w w' := by
  have hlt := h.lt
  have hneR : w.heap.size ≠ B := by omega
  have hneB' : B ≠ w.heap.size := by omega
  have hS := h.alloc (.cells (List.toArray oxC) 35)
  have hU := upd_alloc1 B w (.cells (List.toArray oxC) 35)
  have hR := heap_alloc_new w (.cells (List.toArray oxC) 35)
  have hq8 := b_u8 h.byt
  have HQ : Hid (∀ w' : World, Rst B w' (bnum 1 s).2 → Calls Try.prog 51 #[.pointer (some ⟨B, 0, none⟩)] w' fun e w'' => ∃ (ra : Option Addr) (rn rc : Nat) (da : Option Addr) (dn dc : Nat), e = .returned (.agg (List.toArray (rR rsrc rdst rseq rlo rhi ra rn rc da dn dc))) ∧ w''.ownsRow w'.heap.size 82 2 (.slice ra rn rc) rrows.length (rrows.map Row.cells).flatten ∧ w''.ownsRow w'.heap.size 27 7 (.slice da dn dc) rdups.length (rdups.map Rep.cells).flatten ∧ Rst B w'' st ∧ Upd B w' w'') := fun w' hr => by
    have := rest_rng B _ w' hr
    rw [hq] at this
    exact this
  clear hq
  go_enter Try.func50, Try.ntmps50
  go_upto_region 2 with (first | (go_at_call 46; go_must (refine (rest_k B _ _ _ hS (by decide)).mono ?_; rintro e w1 ⟨rfl, hS1, hU1⟩; (try simp only [Int.reduceToNat] at hS1 ⊢); have hU := upd_trans hU hU1; have hR := upd_blk hU1 hneR hR; have hS := hS1; have hq8 := b_u8 hS.byt; have hq4 := b_u32 hS.byt; have hle := hU1.size)) | (with_reducible show AtS 35 3 ..; go_must (refine wpList_store_blk rfl _ _ _ rfl rfl w1.heap.size 0 rfl (rC (bnum 1 s).1 0 0 0 0 0 0 0 0 0 0 0 0 none 0 0 none 0 0 0 0) rfl _ sz_cmd rfl rfl _ _ (heap_alloc_new w1 (.cells (List.toArray oxC) 35)) rfl (rC (bnum 1 s).1 0 0 0 0 0 0 0 0 0 0 0 0 none 0 0 none 0 0 0 0) rfl ?_; intro w2 hV hO2; have hltB := hS.lt; have hR := (hO2.block w.heap.size (by simp at hle; omega)).trans (blk_later (later_alloc w1 (.cells (List.toArray oxC) 35)) hR); have hS := (hS.alloc (.cells (List.toArray oxC) 35)).only hO2 (by omega); have hU := upd_new (upd_trans hU (upd_alloc1 B w1 (.cells (List.toArray oxC) 35))) hO2 (by simp at hle; omega); have hcV := blk_cell hV; have hne2 : w1.heap.size ≠ B := (by omega); have hneRV : w.heap.size ≠ w1.heap.size := (by simp at hle; omega); have hz2 : w1.heap.size < w2.heap.size := (by rw [hO2.size]; simp); clear hO2)))
  go_wp2_with (first | (go_at_call 51; go_must (refine (HQ.out _ hS).mono ?_; rintro e w3 ⟨ra, rn, rc, da, dn, dc, rfl, hoA, hoB, hS3, hU3⟩; have hU := upd_trans hU hU3; have hR := upd_blk hU3 hneR hR; have hV := upd_blk hU3 hne2 hV; have hS := hS3)) | (with_reducible show AtS 33 19 ..; go_must (refine wpList_store_blk rfl _ _ _ rfl rfl w1.heap.size 8 rfl (rR rsrc rdst rseq rlo rhi ra rn rc da dn dc) rfl _ sz_rng rfl rfl _ _ hV rfl (rC (bnum 1 s).1 0 0 0 0 0 0 0 rsrc rdst rseq rlo rhi ra rn rc da dn dc 0 0) rfl ?_; intro w4 hV4 hO4; have hV := hV4; have hU := upd_new hU hO4 (by simp at hle; omega); have hR := (hO4.block _ hneRV).trans hR; have hS := hS.only hO4 (Ne.symm hne2); have hoA := own_keep hoA hO4 hz2; have hoB := own_keep hoB hO4 hz2)) | (with_reducible show AtL 30 35 ..; go_must (refine wpList_load_blk rfl _ _ rfl w1.heap.size 0 rfl 17 _ Try.underlying35 rfl sz_cmd _ _ hV rfl (rC (bnum 1 s).1 0 0 0 0 0 0 0 rsrc rdst rseq rlo rhi ra rn rc da dn dc 0 0) rfl ?_)) | (with_reducible show AtS 35 2 ..; go_must (refine wpList_store_blk rfl _ _ _ rfl rfl w.heap.size 0 rfl (rC (bnum 1 s).1 0 0 0 0 0 0 0 rsrc rdst rseq rlo rhi ra rn rc da dn dc 0 0) rfl _ sz_cmd rfl rfl _ _ hR rfl (rC (bnum 1 s).1 0 0 0 0 0 0 0 rsrc rdst rseq rlo rhi ra rn rc da dn dc 0 0) rfl ?_; intro w9 hR9 hO9; have hU := upd_new hU hO9 (Nat.le_refl _); have hS := hS.only hO9 hneB'; have hoA := own_keep hoA hO9 (by simp at hle; omega); have hoB := own_keep hoB hO9 (by simp at hle; omega))))
  exact bodyPost_ret (v := .agg (List.toArray (rC (bnum 1 s).1 0 0 0 0 0 0 0 rsrc rdst rseq rlo rhi ra rn rc da dn dc 0 0))) (results_cell_row Try.results50 _ _ w.heap.size 35 _ (0, 0) _ rfl hR9 Try.underlying35 rfl sz_cmd) rfl ⟨ra, rn, rc, da, dn, dc, rfl, own_mono hoA (by simp at hle; omega), own_mono hoB (by simp at hle; omega), by assumption, by assumption⟩

set_option maxHeartbeats 2000000 in
set_option maxRecDepth 100000 in
theorem rest_cmd3 (B : Nat) (s : List Int × Bool) (w : World) (h : Rst B w s) (hk1 : ((bnum 1 s).1 == 1) = false) (hk2 : ((bnum 1 s).1 == 2) = false) (hk : ((bnum 1 s).1 == 3) = true) :
    Calls Try.prog 50 #[.pointer (some ⟨B, 0, none⟩)] w fun e w' => e = .returned (.agg (List.toArray (rC (bnum 1 s).1 0 0 0 0 0 0 0 0 0 0 0 0 none 0 0 none 0 0 (bnum 1 (bnum 1 s).2).1 (bnum 4 (bnum 1 (bnum 1 s).2).2).1))) ∧ Rst B w' (bnum 4 (bnum 1 (bnum 1 s).2).2).2 ∧ Upd B w w' := by
  have hlt := h.lt
  have hneR : w.heap.size ≠ B := by omega
  have hneB' : B ≠ w.heap.size := by omega
  have hS := h.alloc (.cells (List.toArray oxC) 35)
  have hU := upd_alloc1 B w (.cells (List.toArray oxC) 35)
  have hR := heap_alloc_new w (.cells (List.toArray oxC) 35)
  have hq8 := b_u8 h.byt
  go_enter Try.func50, Try.ntmps50
  go_upto_region 2 with (first | (go_at_call 46; go_must (refine (rest_k B _ _ _ hS (by decide)).mono ?_; rintro e w1 ⟨rfl, hS1, hU1⟩; (try simp only [Int.reduceToNat] at hS1 ⊢); have hU := upd_trans hU hU1; have hR := upd_blk hU1 hneR hR; have hS := hS1; have hq8 := b_u8 hS.byt; have hq4 := b_u32 hS.byt; have hle := hU1.size)) | (with_reducible show AtS 35 3 ..; go_must (refine wpList_store_blk rfl _ _ _ rfl rfl w1.heap.size 0 rfl (rC (bnum 1 s).1 0 0 0 0 0 0 0 0 0 0 0 0 none 0 0 none 0 0 0 0) rfl _ sz_cmd rfl rfl _ _ (heap_alloc_new w1 (.cells (List.toArray oxC) 35)) rfl (rC (bnum 1 s).1 0 0 0 0 0 0 0 0 0 0 0 0 none 0 0 none 0 0 0 0) rfl ?_; intro w2 hV hO2; have hltB := hS.lt; have hR := (hO2.block w.heap.size (by simp at hle; omega)).trans (blk_later (later_alloc w1 (.cells (List.toArray oxC) 35)) hR); have hS := (hS.alloc (.cells (List.toArray oxC) 35)).only hO2 (by omega); have hU := upd_new (upd_trans hU (upd_alloc1 B w1 (.cells (List.toArray oxC) 35))) hO2 (by simp at hle; omega); have hcV := blk_cell hV; have hne2 : w1.heap.size ≠ B := (by omega); have hneRV : w.heap.size ≠ w1.heap.size := (by simp at hle; omega); have hz2 : w1.heap.size < w2.heap.size := (by rw [hO2.size]; simp); clear hO2)))
  go_wp2_with (first | (go_at_call 46; go_must (refine (rest_k B _ _ _ hS (by decide)).mono ?_; rintro e w3 ⟨rfl, hS3, hU3⟩; (try simp only [Int.reduceToNat] at hS3 ⊢); have hU := upd_trans hU hU3; have hR := upd_blk hU3 hneR hR; have hV := upd_blk hU3 hne2 hV; have hS := hS3; have hq8 := b_u8 hS.byt; have hq4 := b_u32 hS.byt)) | (with_reducible show AtS 5 25 ..; go_must (refine wpList_store_cell rfl _ _ _ rfl rfl w1.heap.size 15 rfl (.int .u8 (bnum 1 (bnum 1 s).2).1) rfl sz_u8 rfl _ _ hV rfl (rC (bnum 1 s).1 0 0 0 0 0 0 0 0 0 0 0 0 none 0 0 none 0 0 (bnum 1 (bnum 1 s).2).1 0) rfl ?_; intro w4 hV4 hO4; have hV := hV4; have hU := upd_new hU hO4 (by simp at hle; omega); have hR := (hO4.block _ hneRV).trans hR; have hS := hS.only hO4 (Ne.symm hne2))) | (with_reducible show AtS 22 29 ..; go_must (refine wpList_store_cell rfl _ _ _ rfl rfl w1.heap.size 16 rfl (.int .u32 (bnum 4 (bnum 1 (bnum 1 s).2).2).1) rfl sz_u32 rfl _ _ hV rfl (rC (bnum 1 s).1 0 0 0 0 0 0 0 0 0 0 0 0 none 0 0 none 0 0 (bnum 1 (bnum 1 s).2).1 (bnum 4 (bnum 1 (bnum 1 s).2).2).1) rfl ?_; intro w4 hV4 hO4; have hV := hV4; have hU := upd_new hU hO4 (by simp at hle; omega); have hR := (hO4.block _ hneRV).trans hR; have hS := hS.only hO4 (Ne.symm hne2))) | (with_reducible show AtL 30 35 ..; go_must (refine wpList_load_blk rfl _ _ rfl w1.heap.size 0 rfl 17 _ Try.underlying35 rfl sz_cmd _ _ hV rfl (rC (bnum 1 s).1 0 0 0 0 0 0 0 0 0 0 0 0 none 0 0 none 0 0 (bnum 1 (bnum 1 s).2).1 (bnum 4 (bnum 1 (bnum 1 s).2).2).1) rfl ?_)) | (with_reducible show AtS 35 2 ..; go_must (refine wpList_store_blk rfl _ _ _ rfl rfl w.heap.size 0 rfl (rC (bnum 1 s).1 0 0 0 0 0 0 0 0 0 0 0 0 none 0 0 none 0 0 (bnum 1 (bnum 1 s).2).1 (bnum 4 (bnum 1 (bnum 1 s).2).2).1) rfl _ sz_cmd rfl rfl _ _ hR rfl (rC (bnum 1 s).1 0 0 0 0 0 0 0 0 0 0 0 0 none 0 0 none 0 0 (bnum 1 (bnum 1 s).2).1 (bnum 4 (bnum 1 (bnum 1 s).2).2).1) rfl ?_; intro w9 hR9 hO9; have hU := upd_new hU hO9 (Nat.le_refl _); have hS := hS.only hO9 hneB')))
  exact bodyPost_ret (v := .agg (List.toArray (rC (bnum 1 s).1 0 0 0 0 0 0 0 0 0 0 0 0 none 0 0 none 0 0 (bnum 1 (bnum 1 s).2).1 (bnum 4 (bnum 1 (bnum 1 s).2).2).1))) (results_cell_row Try.results50 _ _ w.heap.size 35 _ (0, 0) _ rfl hR9 Try.underlying35 rfl sz_cmd) rfl ⟨rfl, by assumption, by assumption⟩

set_option maxHeartbeats 2000000 in
set_option maxRecDepth 100000 in
theorem rest_cmd0 (B : Nat) (s : List Int × Bool) (w : World) (h : Rst B w s) (hk1 : ((bnum 1 s).1 == 1) = false) (hk2 : ((bnum 1 s).1 == 2) = false) (hk : ((bnum 1 s).1 == 3) = false) :
    Calls Try.prog 50 #[.pointer (some ⟨B, 0, none⟩)] w fun e w' => e = .returned (.agg (List.toArray (rC (bnum 1 s).1 0 0 0 0 0 0 0 0 0 0 0 0 none 0 0 none 0 0 0 0))) ∧ Rst B w' (bnum 1 s).2 ∧ Upd B w w' := by
  have hlt := h.lt
  have hneR : w.heap.size ≠ B := by omega
  have hneB' : B ≠ w.heap.size := by omega
  have hS := h.alloc (.cells (List.toArray oxC) 35)
  have hU := upd_alloc1 B w (.cells (List.toArray oxC) 35)
  have hR := heap_alloc_new w (.cells (List.toArray oxC) 35)
  have hq8 := b_u8 h.byt
  go_enter Try.func50, Try.ntmps50
  go_upto_region 2 with (first | (go_at_call 46; go_must (refine (rest_k B _ _ _ hS (by decide)).mono ?_; rintro e w1 ⟨rfl, hS1, hU1⟩; (try simp only [Int.reduceToNat] at hS1 ⊢); have hU := upd_trans hU hU1; have hR := upd_blk hU1 hneR hR; have hS := hS1; have hq8 := b_u8 hS.byt; have hq4 := b_u32 hS.byt; have hle := hU1.size)) | (with_reducible show AtS 35 3 ..; go_must (refine wpList_store_blk rfl _ _ _ rfl rfl w1.heap.size 0 rfl (rC (bnum 1 s).1 0 0 0 0 0 0 0 0 0 0 0 0 none 0 0 none 0 0 0 0) rfl _ sz_cmd rfl rfl _ _ (heap_alloc_new w1 (.cells (List.toArray oxC) 35)) rfl (rC (bnum 1 s).1 0 0 0 0 0 0 0 0 0 0 0 0 none 0 0 none 0 0 0 0) rfl ?_; intro w2 hV hO2; have hltB := hS.lt; have hR := (hO2.block w.heap.size (by simp at hle; omega)).trans (blk_later (later_alloc w1 (.cells (List.toArray oxC) 35)) hR); have hS := (hS.alloc (.cells (List.toArray oxC) 35)).only hO2 (by omega); have hU := upd_new (upd_trans hU (upd_alloc1 B w1 (.cells (List.toArray oxC) 35))) hO2 (by simp at hle; omega); have hcV := blk_cell hV; have hne2 : w1.heap.size ≠ B := (by omega); have hneRV : w.heap.size ≠ w1.heap.size := (by simp at hle; omega); have hz2 : w1.heap.size < w2.heap.size := (by rw [hO2.size]; simp); clear hO2)))
  go_wp2_with (first | (with_reducible show AtL 30 35 ..; go_must (refine wpList_load_blk rfl _ _ rfl w1.heap.size 0 rfl 17 _ Try.underlying35 rfl sz_cmd _ _ hV rfl (rC (bnum 1 s).1 0 0 0 0 0 0 0 0 0 0 0 0 none 0 0 none 0 0 0 0) rfl ?_)) | (with_reducible show AtS 35 2 ..; go_must (refine wpList_store_blk rfl _ _ _ rfl rfl w.heap.size 0 rfl (rC (bnum 1 s).1 0 0 0 0 0 0 0 0 0 0 0 0 none 0 0 none 0 0 0 0) rfl _ sz_cmd rfl rfl _ _ hR rfl (rC (bnum 1 s).1 0 0 0 0 0 0 0 0 0 0 0 0 none 0 0 none 0 0 0 0) rfl ?_; intro w9 hR9 hO9; have hU := upd_new hU hO9 (Nat.le_refl _); have hS := hS.only hO9 hneB')))
  exact bodyPost_ret (v := .agg (List.toArray (rC (bnum 1 s).1 0 0 0 0 0 0 0 0 0 0 0 0 none 0 0 none 0 0 0 0))) (results_cell_row Try.results50 _ _ w.heap.size 35 _ (0, 0) _ rfl hR9 Try.underlying35 rfl sz_cmd) rfl ⟨rfl, by assumption, by assumption⟩

end Go.Proofs.Ytignemioillaiaa

namespace Go.Proofs.Ytignemioillaiaa
open Go.RowKit

set_option maxRecDepth 100000 in
theorem rest_cmd (B : Nat) (s : List Int × Bool) (w : World) (h : Rst B w s) (kind : Int) (qc qs qk qkey qv qhi qto : Int) (rsrc rdst rseq rlo rhi : Int) (rs ds : Sl) (rrows : List Row) (rdups : List Rep) (peer sq : Int) (st : List Int × Bool)
    (hq : rbCmd s = (⟨kind, (Req.mk qc qs qk qkey qv qhi qto), ⟨rsrc, rdst, rseq, rlo, rhi, rs, ds, rrows, rdups⟩, peer, sq⟩, st)) :
    Calls Try.prog 50 #[.pointer (some ⟨B, 0, none⟩)] w fun e w' => ∃ (ra : Option Addr) (rn rc : Nat) (da : Option Addr) (dn dc : Nat), e = .returned (.agg (List.toArray (rC kind qc qs qk qkey qv qhi qto rsrc rdst rseq rlo rhi ra rn rc da dn dc peer sq))) ∧ w'.ownsRow w.heap.size 82 2 (.slice ra rn rc) rrows.length (rrows.map Row.cells).flatten ∧ w'.ownsRow w.heap.size 27 7 (.slice da dn dc) rdups.length (rdups.map Rep.cells).flatten ∧ Rst B w' st ∧ Upd B w w' := by
  unfold rbCmd at hq
  dsimp only at hq
  by_cases h1 : (bnum 1 s).1 = 1
  · rw [if_pos h1] at hq
    simp only [Prod.mk.injEq, Cmd.mk.injEq, noRng, Rng.mk.injEq] at hq
    obtain ⟨⟨rfl, hr, ⟨rfl, rfl, rfl, rfl, rfl, rfl, rfl, rfl, rfl⟩, rfl, rfl⟩, hs⟩ := hq
    refine (rest_cmd1 B s w h (by simp [h1]) qc qs qk qkey qv qhi qto st (Prod.ext hr hs)).mono ?_
    rintro e w' ⟨he, hS, hU⟩
    exact ⟨none, 0, 0, none, 0, 0, he, World.ownsRow_nil _ _ _ _, World.ownsRow_nil _ _ _ _, hS, hU⟩
  rw [if_neg h1] at hq
  by_cases h2 : (bnum 1 s).1 = 2
  · rw [if_pos h2] at hq
    simp only [Prod.mk.injEq, Cmd.mk.injEq, noReq, Req.mk.injEq] at hq
    obtain ⟨⟨rfl, ⟨rfl, rfl, rfl, rfl, rfl, rfl, rfl⟩, hr, rfl, rfl⟩, hs⟩ := hq
    refine (rest_cmd2 B s w h (by simp [h1]) (by simp [h2]) rsrc rdst rseq rlo rhi rs ds rrows rdups st (Prod.ext hr hs)).mono ?_
    rintro e w' ⟨ra, rn, rc, da, dn, dc, he, hA, hB, hS, hU⟩
    exact ⟨ra, rn, rc, da, dn, dc, he, hA, hB, hS, hU⟩
  rw [if_neg h2] at hq
  by_cases h3 : (bnum 1 s).1 = 3
  · rw [if_pos h3] at hq
    simp only [Prod.mk.injEq, Cmd.mk.injEq, noReq, Req.mk.injEq, noRng, Rng.mk.injEq] at hq
    obtain ⟨⟨rfl, ⟨rfl, rfl, rfl, rfl, rfl, rfl, rfl⟩, ⟨rfl, rfl, rfl, rfl, rfl, rfl, rfl, rfl, rfl⟩, rfl, rfl⟩, rfl⟩ := hq
    refine (rest_cmd3 B s w h (by simp [h1]) (by simp [h2]) (by simp [h3])).mono ?_
    rintro e w' ⟨he, hS, hU⟩
    exact ⟨none, 0, 0, none, 0, 0, he, World.ownsRow_nil _ _ _ _, World.ownsRow_nil _ _ _ _, hS, hU⟩
  · rw [if_neg h3] at hq
    simp only [Prod.mk.injEq, Cmd.mk.injEq, noReq, Req.mk.injEq, noRng, Rng.mk.injEq] at hq
    obtain ⟨⟨rfl, ⟨rfl, rfl, rfl, rfl, rfl, rfl, rfl⟩, ⟨rfl, rfl, rfl, rfl, rfl, rfl, rfl, rfl, rfl⟩, rfl, rfl⟩, rfl⟩ := hq
    refine (rest_cmd0 B s w h (by simp [h1]) (by simp [h2]) (by simp [h3])).mono ?_
    rintro e w' ⟨he, hS, hU⟩
    exact ⟨none, 0, 0, none, 0, 0, he, World.ownsRow_nil _ _ _ _, World.ownsRow_nil _ _ _ _, hS, hU⟩

end Go.Proofs.Ytignemioillaiaa

