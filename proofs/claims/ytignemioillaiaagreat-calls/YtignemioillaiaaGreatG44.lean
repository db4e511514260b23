/- A shard at work (3): slices.Insert. -/
import Derived.Test.YtignemioillaiaaGreatG43
import Derived.Lib.Overlaps
namespace Go.Proofs.YtignemioillaiaaGreat
set_option maxHeartbeats 8000000
set_option maxRecDepth 100000
section
open Go Go.Conc
theorem addr_add (b k : Nat) : (⟨b, 0, none⟩ : Addr).add k = ⟨b, k, none⟩ := by
  unfold Addr.add
  split
  · rename_i h; rw [h]
  · rw [Nat.zero_add]
/-- A slice from i on. -/
theorem sl_cut {b c i k n d : Nat} (h : ¬ c = i) : Value.slice (if c = i then some ⟨b, 0, none⟩ else Option.map (fun x : Addr => x.add k) (some ⟨b, 0, none⟩)) n d = .slice (some ⟨b, k, none⟩) n d := by
  rw [if_neg h, Option.map_some, addr_add]
theorem fl_take {α : Type} {f : α → List Value} {size : Nat} (hf : ∀ x, (f x).length = size) : ∀ (l : List α) (i : Nat), (l.map f).flatten.take (i * size) = ((l.take i).map f).flatten
  | [], i => by simp
  | x :: l, 0 => by simp
  | x :: l, i + 1 => by
    rw [List.take_succ_cons, List.map_cons, List.map_cons, List.flatten_cons, List.flatten_cons, List.take_append, hf, List.take_of_length_le (by rw [hf, Nat.succ_mul]; omega), show (i + 1) * size - size = i * size by rw [Nat.succ_mul]; omega, fl_take hf l i]
theorem fl_drop {α : Type} {f : α → List Value} {size : Nat} (hf : ∀ x, (f x).length = size) : ∀ (l : List α) (i : Nat), (l.map f).flatten.drop (i * size) = ((l.drop i).map f).flatten
  | [], i => by simp
  | x :: l, 0 => by simp
  | x :: l, i + 1 => by
    rw [List.drop_succ_cons, List.map_cons, List.flatten_cons, List.drop_append, hf, List.drop_eq_nil_of_le (by rw [hf, Nat.succ_mul]; omega), List.nil_append, show (i + 1) * size - size = i * size by rw [Nat.succ_mul]; omega, fl_drop hf l i]
theorem fl_size {α : Type} {f : α → List Value} {size : Nat} (hf : ∀ x, (f x).length = size) : ∀ (l : List α), (l.map f).flatten.length = l.length * size
  | [] => by simp
  | x :: l => by rw [List.map_cons, List.flatten_cons, List.length_append, hf, fl_size hf l, List.length_cons, Nat.succ_mul]; omega
theorem ins_flat {α : Type} {f : α → List Value} {size : Nat} (hf : ∀ x, (f x).length = size) (l : List α) (i : Nat) (x : α) : ((insL l i x).map f).flatten = (l.map f).flatten.take (i * size) ++ f x ++ (l.map f).flatten.drop (i * size) := by
  rw [fl_take hf, fl_drop hf, insL, List.map_append, List.map_cons, List.flatten_append, List.flatten_cons, List.append_assoc]
theorem insL_len {α : Type} (l : List α) (i : Nat) (x : α) : (insL l i x).length = l.length + 1 := by
  unfold insL
  rw [List.length_append, List.length_cons, List.length_take, List.length_drop]
  omega
/-- First what comes behind is moved, then the new thing is laid. -/
theorem shift2 {cs A B X R : List Value} {k : Nat} (h : cs = A ++ (B ++ R)) (hk : X.length = k) (hR : k ≤ R.length) {cs1 : List Value} (h1 : cs1 = cs.take (A.length + k) ++ B ++ cs.drop (A.length + k + B.length)) : cs1.take A.length ++ X ++ cs1.drop (A.length + k) = A ++ X ++ B ++ cs.drop (A.length + k + B.length) := by
  have hl : cs.length = A.length + (B.length + R.length) := by rw [h, List.length_append, List.length_append]
  have ht : (cs.take (A.length + k)).length = A.length + k := by rw [List.length_take]; omega
  have e1 : cs1.take A.length = A := by
    rw [h1, List.append_assoc, List.take_append_of_le_length (by omega), List.take_take, Nat.min_eq_left (by omega), h, List.take_left']
    rfl
  have e2 : cs1.drop (A.length + k) = B ++ cs.drop (A.length + k + B.length) := by
    rw [h1, List.append_assoc, List.drop_left' ht]
  rw [e1, e2]
  simp
theorem lay2 {cs A B X : List Value} {k : Nat} (h : cs.take A.length = A) (hk : X.length = k) (_hl : A.length + k + B.length ≤ cs.length) {cs1 : List Value} (h1 : cs1 = cs.take A.length ++ X ++ cs.drop (A.length + k)) : cs1.take (A.length + k) ++ B ++ cs1.drop (A.length + k + B.length) = A ++ X ++ B ++ cs.drop (A.length + k + B.length) := by
  have e0 : cs1 = (A ++ X) ++ cs.drop (A.length + k) := by rw [h1, h]
  have e1 : (A ++ X).length = A.length + k := by rw [List.length_append, hk]
  rw [e0, List.take_left' e1, List.drop_append, e1, List.drop_eq_nil_of_le (by rw [e1]; omega), List.nil_append, List.drop_drop, show A.length + k + (A.length + k + B.length - (A.length + k)) = A.length + k + B.length by omega]
theorem own_cut {w : World} {e size n i : Nat} {g cap : Nat} {xs : List Value} (h : w.ownsRow 0 e size (.slice (some ⟨g, 0, none⟩) n cap) n xs) (hi : i ≤ n) : w.ownsRow 0 e size (.slice (some ⟨g, 0, none⟩) i cap) i (xs.take (i * size)) := by
  rcases h.2 with ⟨q, _⟩ | ⟨g', cap', cur, q, h0, h2, h3, h4, h5, h6⟩
  · cases q
  injection q with q1 _ q3
  injection q1 with q1
  injection q1 with q1
  subst q1 q3
  have hm : i * size ≤ n * size := Nat.mul_le_mul_right _ hi
  refine ⟨by rw [List.length_take, h.1]; omega, .inr ⟨g, cap, cur, rfl, h0, h2, by omega, h4, h5, ?_⟩⟩
  rw [← h6, List.take_take, Nat.min_eq_left hm]
theorem row_fine {f : FuncId} {args : Array Value} {e : Array Value → Sem Value} (hrow : ∀ (w : World) (es : Array Event), (callFunc f args).runT Tryz.prog w es = (do mark (.extern f); pure (Next.value (← e args)) : Sem Next).runT Tryz.prog w es) (hp : Plain [] (e args)) {w : World} {v : Value} (hrun : (e args).run Tryz.prog w = .ok v w) : Fine Tryz.prog (callFunc f args) w ∧ (callFunc f args).run Tryz.prog w = .ok (.value v) w := by
  have hp' : Plain [] (do mark (.extern f); pure (Next.value (← e args)) : Sem Next) := Plain.bind' (s := mark (.extern f)) ⟨trivial, trivial⟩ fun _ => Plain.bind' hp fun _ => pl_pure _
  have h1 := Fine.plain (P := Tryz.prog) hp' w
  have e1 : ∀ es, (callFunc f args).events Tryz.prog w es = (do mark (.extern f); pure (Next.value (← e args)) : Sem Next).events Tryz.prog w es := fun es => congrArg Prod.snd (hrow w es)
  have e2 : (callFunc f args).run Tryz.prog w = (do mark (.extern f); pure (Next.value (← e args)) : Sem Next).run Tryz.prog w := (Sem.runT_fst _ _ w #[]).symm.trans ((congrArg Prod.fst (hrow w #[])).trans (Sem.runT_fst _ _ w #[]))
  refine ⟨⟨by rw [e1]; exact h1.1, by rw [e2]; exact h1.2⟩, ?_⟩
  rw [e2]
  show (Sem.bind (mark (.extern f)) fun _ => Sem.bind (e args) fun x => pure (Next.value x)).run Tryz.prog w = _
  have e3 : (Sem.bind (e args) fun x => pure (Next.value x)).run Tryz.prog w = .ok (.value v) w := by
    show ((e args) >>= fun x => pure (Next.value x)).run Tryz.prog w = _
    rw [Sem.run_bind, hrun]
    rfl
  exact e3
theorem ov_row {w : World} {vb g off lb cb : Nat} {nw : Array Value} {cur : Array Value} (hvb : w.heap[vb]? = some (.cells nw 128)) (hnl : nw.size = 2) (hg : w.heap[g]? = some (.cells cur 128)) (hcs : 2 ≤ cur.size) (hne : vb ≠ g) : Fine Tryz.prog (callFunc 206 #[.slice (some ⟨vb, 0, none⟩) 1 1, .slice (some ⟨g, off, none⟩) lb cb]) w ∧ (callFunc 206 #[.slice (some ⟨vb, 0, none⟩) 1 1, .slice (some ⟨g, off, none⟩) lb cb]).run Tryz.prog w = .ok (.value (.bool false)) w := by
  obtain ⟨y, hy⟩ : ∃ y, eng.T.get 128 = some y := ⟨_, rfl⟩
  obtain ⟨i2, d2, t2⟩ := eng.tab.ok.is hy
  have hsz : i2.size = 2 := t2.size.trans (by kernel_rfl)
  have hu : Tryz.prog.underlying 25 = some (.slice 128) := by kernel_rfl
  refine row_fine (fun w es => row_call (fn := Tryz.f206) (by kernel_rfl) (by kernel_rfl) (by kernel_rfl) (by kernel_rfl) (e := Extern.SlicesOverlaps.overlaps #[25, 25] #[4]) (by kernel_rfl) _ w es) (pl_overlaps _ _ _) ?_
  exact Lib.run_overlaps_apart w 25 4 128 hu 2 (fun w => by simp [sizeOf, typeInfo, t2.info, hsz]) ⟨vb, 0, none⟩ ⟨g, off, none⟩ 1 1 lb cb hne 128 128 2 cur.size (by simp [World.shape?, hvb, hnl]) (by simp [World.shape?, hg]) (by omega) (by simp [World.frozen?, hvb]) (by simp [World.frozen?, hvb])
theorem ov_rep {w : World} {vb g off lb cb : Nat} {nw : Array Value} {cur : Array Value} (hvb : w.heap[vb]? = some (.cells nw 57)) (hnl : nw.size = 7) (hg : w.heap[g]? = some (.cells cur 57)) (hcs : 7 ≤ cur.size) (hne : vb ≠ g) : Fine Tryz.prog (callFunc 208 #[.slice (some ⟨vb, 0, none⟩) 1 1, .slice (some ⟨g, off, none⟩) lb cb]) w ∧ (callFunc 208 #[.slice (some ⟨vb, 0, none⟩) 1 1, .slice (some ⟨g, off, none⟩) lb cb]).run Tryz.prog w = .ok (.value (.bool false)) w := by
  obtain ⟨y, hy⟩ : ∃ y, eng.T.get 57 = some y := ⟨_, rfl⟩
  obtain ⟨i2, d2, t2⟩ := eng.tab.ok.is hy
  have hsz : i2.size = 7 := t2.size.trans (by kernel_rfl)
  have hu : Tryz.prog.underlying 27 = some (.slice 57) := by kernel_rfl
  refine row_fine (fun w es => row_call (fn := Tryz.f208) (by kernel_rfl) (by kernel_rfl) (by kernel_rfl) (by kernel_rfl) (e := Extern.SlicesOverlaps.overlaps #[27, 27] #[4]) (by kernel_rfl) _ w es) (pl_overlaps _ _ _) ?_
  exact Lib.run_overlaps_apart w 27 4 57 hu 7 (fun w => by simp [sizeOf, typeInfo, t2.info, hsz]) ⟨vb, 0, none⟩ ⟨g, off, none⟩ 1 1 lb cb hne 57 57 7 cur.size (by simp [World.shape?, hvb, hnl]) (by simp [World.shape?, hg]) (by omega) (by simp [World.frozen?, hvb]) (by simp [World.frozen?, hvb])
/-- What lies before a place, and what lies behind it. -/
theorem ins_parts {α : Type} {f : α → List Value} {k T : Nat} {w : World} {v : Value} {l : List α} (h : w.ownsRow 0 T k v l.length (l.map f).flatten) (hf : ∀ x, (f x).length = k) (ho : ∀ x, (f x).all one = true) {i : Nat} (hi : i ≤ l.length) (x : α) : ∃ A B, A = (l.map f).flatten.take (i * k) ∧ A.length = i * k ∧ B.length = (l.length - i) * k ∧ (l.map f).flatten = A ++ B ∧ ((insL l i x).map f).flatten = A ++ f x ++ B ∧ (f x).length = k ∧ B.all one = true ∧ ∀ cur : List Value, cur.take (l.length * k) = (l.map f).flatten → cutL cur (i * k) ((l.length - i) * k) = B := by
  have hm : i * k ≤ l.length * k := Nat.mul_le_mul_right _ hi
  refine ⟨_, (l.map f).flatten.drop (i * k), rfl, by rw [List.length_take, h.1]; omega, by rw [List.length_drop, h.1, Nat.sub_mul], (List.take_append_drop _ _).symm, ins_flat hf _ _ _, hf x, by rw [fl_drop hf]; exact ones_map ho _, fun cur hc => ?_⟩
  rw [← hc]
  unfold cutL
  rw [List.drop_take, Nat.sub_mul]
abbrev Ins (α : Type) (f : α → List Value) (T k F : Nat) : Prop := ∀ {w0 w : World} {v : Value} {l : List α} (_ : LN T k w0 w v l.length (l.map f).flatten) (_ : l.length ≤ 100000) {i : Nat} (_ : i ≤ l.length) {x : α} {vb : Nat} (_ : Hl w vb (f x) T) (_ : v.ownBlock ≠ some vb), CY F #[v, .int .i64 i, .slice (some ⟨vb, 0, none⟩) 1 1] w (fun v' w' => LN T k w0 w' v' (insL l i x).length ((insL l i x).map f).flatten ∧ GB v.ownBlock w w' ∧ ∀ g, v'.ownBlock = some g → v.ownBlock = some g ∨ w.heap.size ≤ g)
theorem ins_both : Ins Row Row.cells 128 2 177 ∧ Ins Rep Rep.cells 57 7 181 := by
  constructor <;> intro w0 w v l h hl i hi x vb hvb hne
  all_goals
    have hcap : ∃ a c, v = .slice a l.length c ∧ l.length ≤ c := by
      rcases h.own.2 with ⟨q, h0⟩ | ⟨g, cap, cur, q, _, _, h3, _⟩
      · exact ⟨none, 0, by rw [q, h0], by omega⟩
      · exact ⟨_, _, q, h3⟩
    obtain ⟨va, vc, rfl, hvc⟩ := hcap
    have hsz := h.own.1
  have ov := @ov_row
  refine callE Tryz.func177 rfl rfl ?_
  rotate_left
  have ov := @ov_rep
  refine callE Tryz.func181 rfl rfl ?_
  rotate_left
  all_goals
    refine ⟨⟨by omega, by omega, by omega⟩, ?_⟩
    refine spl (fun d => ?_) (fun d => ?_)
    · have d1 : i = l.length := by have := eq_of_beq d; omega
      subst d1
      refine ⟨_, x.cells, h.own, ⟨_, _, hvb, rfl, rfl, rfl⟩, by omega, fun v' w2 ho g n => ?_⟩
      have hin : insL l l.length x = l ++ [x] := by unfold insL; rw [List.take_length, List.drop_length]
      refine ⟨?_, g, n⟩
      rw [hin, List.length_append, List.map_append, List.flatten_append]
      simpa using h.app ho g n
    have d1 : i < l.length := by
      have : ¬ (i : Int) = l.length := by simpa using d
      omega
    obtain ⟨g, cap, cur, ev, hcur, htk, hsz2, hcap⟩ := own_el h.own (by omega)
    injection ev with ea _ ec
    subst ea ec
    have hown := h.own
    rcases h.own.2 with ⟨q, _⟩ | ⟨g', cap', cur', q, h0, h2, h3, h4, h5, h6⟩
    · cases q
    injection q with q1 _ q3
    injection q1 with q1
    injection q1 with q1
    subst q1 q3
    rw [hcur] at h2
    injection h2 with h2
    injection h2 with h2 _
    subst h2
    have hgn : g ≠ vb := fun e => hne (by rw [e]; rfl)
    have hlt := lt_heap hcur
    have hnew := h.new g rfl
    obtain ⟨A, B, hA, hAl, hBl, hAB, hres, hxl, hBo, hcutB⟩ := ins_parts h.own (fun _ => rfl) (fun _ => rfl) hi x
    replace hcutB := hcutB _ htk
    refine ⟨⟨by omega, by omega⟩, spl (fun e => ?_) (fun e => ?_)⟩
    · have e1 : vc = l.length := by have := of_decide_eq_true e; omega
      refine ⟨⟨by omega, by omega⟩, ⟨by omega, by omega⟩, ⟨by omega, by omega⟩, _, own_cut hown (Nat.le_of_lt d1), by omega, by omega, by omega, fun b2 cap2 cur2 w2 m2 hs2 ht2 hc2 hm2 g2 l2 => ?_⟩
      replace hs2 : cur2.size = cap2 * x.cells.length := hs2
      rw [hxl] at hs2
      replace ht2 : cur2.toList.take A.length = A := by
        rw [hAl, hA]
        exact ht2
      have hlen2 : ((i : Int)).toNat + ((l.length : Int) + 1 - i).toNat = l.length + 1 := by omega
      have hcc : l.length + 1 ≤ cap2 := by omega
      have hcap2 : ¬ cap2 = i := by omega
      have hnb : b2 ≠ g := by omega
      have hvb2 := g2.get hvb nofun
      have hg2 := g2.get hcur nofun
      have hbv : b2 ≠ vb := by have := lt_heap hvb; omega
      refine ⟨⟨by omega, by omega, by omega⟩, ?_⟩
      rw [sl_cut (show ¬ cap2 = ((i : Int)).toNat from hcap2)]
      have hmin : ∀ k, 1 ≤ k → Nat.min 1 k = 1 := fun k hk => Nat.min_eq_left hk
      refine ⟨_, _, x.cells, m2, ⟨_, _, hvb2, by rw [hmin _ (by omega)]; rfl, by rw [hmin _ (by omega)]; rfl, rfl⟩, by show i * x.cells.length + x.cells.length ≤ _; rw [hxl]; omega, fun w3 m3 g3 => ?_⟩
      replace m3 : Hl w3 b2 (cur2.toList.take (i * x.cells.length) ++ x.cells ++ cur2.toList.drop (i * x.cells.length + x.cells.length)) _ := m3
      rw [show i * x.cells.length = A.length from hAl.symm] at m3
      have hg3 := g3.get hg2 fun z => hnb (Option.some.inj z).symm
      refine ⟨by kernel_rfl, ⟨by omega, by omega⟩, ⟨by omega, by omega, by omega⟩, ⟨by omega, by omega, by omega⟩, ?_⟩
      rw [sl_cut (show ¬ cap2 = ((i : Int) + ((1 : Nat) : Int)).toNat by omega), sl_cut (show ¬ vc = ((i : Int)).toNat by omega)]
      have hmin2 : Nat.min (l.length - ((i : Int)).toNat) (((i : Int)).toNat + ((l.length : Int) + ((1 : Nat) : Int) - i).toNat - ((i : Int) + ((1 : Nat) : Int)).toNat) = l.length - i := by
        rw [show ((i : Int)).toNat + ((l.length : Int) + ((1 : Nat) : Int) - i).toNat - ((i : Int) + ((1 : Nat) : Int)).toNat = l.length - i by omega, Int.toNat_natCast]
        exact Nat.min_self _
      refine ⟨_, _, B, m3, ⟨_, _, hg3, ?_, ?_, hBo⟩, ?_, fun w4 m4 g4 => ?_⟩
      · rw [hmin2]; exact hcutB
      · rw [hmin2]; exact hBl
      · show ((i : Int) + ((1 : Nat) : Int)).toNat * x.cells.length + B.length ≤ _
        simp only [List.size_toArray, List.length_append, List.length_take, List.length_drop, Array.length_toList, hBl, hxl, hAl]
        omega
      have e2 : ((i : Int) + ((1 : Nat) : Int)).toNat * x.cells.length = A.length + x.cells.length := by rw [hAl, hxl]; omega
      have hfin := lay2 (cs := cur2.toList) (A := A) (B := B) (X := x.cells) (k := x.cells.length) ht2 rfl (by have : cur2.toList.length = cur2.size := Array.length_toList; omega) rfl
      replace m4 : Hl w4 b2 ((cur2.toList.take A.length ++ x.cells ++ cur2.toList.drop (A.length + x.cells.length)).take (((i : Int) + ((1 : Nat) : Int)).toNat * x.cells.length) ++ B ++ (cur2.toList.take A.length ++ x.cells ++ cur2.toList.drop (A.length + x.cells.length)).drop (((i : Int) + ((1 : Nat) : Int)).toNat * x.cells.length + B.length)) _ := m4
      rw [e2, hfin] at m4
      have G4 : GB none w w4 := (g2.new g3 l2).new g4 l2
      refine ⟨⟨⟨?_, .inr ⟨b2, cap2, _, congrArg (fun z => Value.slice (some ⟨b2, 0, none⟩) z cap2) (by rw [insL_len]; omega), Nat.zero_le _, m4, ?_, hm2, ?_, ?_⟩⟩, h.gb.trans G4, fun y hy => ?_⟩, G4.weak, fun y hy => .inr ?_⟩
      · refine fl_size (fun _ => ?_) _; rfl
      · rw [insL_len]; exact hcc
      · simp only [List.size_toArray, List.length_append, List.length_drop, Array.length_toList, hBl, hxl, hAl]
        omega
      · rw [hres, insL_len]
        show (A ++ x.cells ++ B ++ _).take _ = _
        rw [List.take_left']
        rw [List.length_append, List.length_append, hAl, hBl, hxl]
        omega
      · have : b2 = y := by simpa [Value.ownBlock] using hy
        have := h.gb.size
        omega
      · have : b2 = y := by simpa [Value.ownBlock] using hy
        omega
    · have e1 : l.length + 1 ≤ vc := by have := of_decide_eq_false e; omega
      refine ⟨⟨by omega, by omega⟩, ⟨by omega, by omega⟩, ?_⟩
      refine ⟨⟨by omega, by omega⟩, ⟨by omega, by omega, by omega⟩, ?_⟩
      rw [sl_cut (show ¬ vc = ((i : Int) + ((1 : Nat) : Int)).toNat by omega)]
      refine ⟨_, fun w₁ hs => ⟨ov (by rw [hs.heap]; exact hvb) rfl (by rw [hs.heap]; exact hcur) (by omega) hgn.symm, ?_⟩⟩
      have gs : GB none w w₁ := (GB.refl none w).same hs
      have hcur1 := gs.get hcur nofun
      have hvb1 := gs.get hvb nofun
      refine ⟨by kernel_rfl, ⟨by omega, by omega⟩, ⟨by omega, by omega, by omega⟩, ⟨by omega, by omega, by omega⟩, ?_⟩
      rw [sl_cut (n := ((l.length : Int) + ((1 : Nat) : Int)).toNat - ((i : Int) + ((1 : Nat) : Int)).toNat) (show ¬ vc = ((i : Int) + ((1 : Nat) : Int)).toNat by omega), sl_cut (n := ((l.length : Int) + ((1 : Nat) : Int)).toNat - ((i : Int)).toNat) (show ¬ vc = ((i : Int)).toNat by omega)]
      have hmin2 : Nat.min (((l.length : Int) + ((1 : Nat) : Int)).toNat - ((i : Int)).toNat) (((l.length : Int) + ((1 : Nat) : Int)).toNat - ((i : Int) + ((1 : Nat) : Int)).toNat) = l.length - i := by
        rw [show ((l.length : Int) + ((1 : Nat) : Int)).toNat - ((i : Int) + ((1 : Nat) : Int)).toNat = l.length - i by omega]
        exact Nat.min_eq_right (by omega)
      have hi2 : ((i : Int) + ((1 : Nat) : Int)).toNat * x.cells.length = A.length + x.cells.length := by rw [hAl, hxl]; omega
      have hcl : cur.toList.length = cur.size := Array.length_toList
      refine ⟨_, _, B, hcur1, ⟨_, _, hcur1, ?_, ?_, hBo⟩, ?_, fun w4 m4 g4 => ?_⟩
      · rw [hmin2]; exact hcutB
      · rw [hmin2]; exact hBl
      · show ((i : Int) + ((1 : Nat) : Int)).toNat * x.cells.length + B.length ≤ _
        rw [hBl, hxl]
        omega
      replace m4 : Hl w4 g (cur.toList.take (((i : Int) + ((1 : Nat) : Int)).toNat * x.cells.length) ++ B ++ cur.toList.drop (((i : Int) + ((1 : Nat) : Int)).toNat * x.cells.length + B.length)) _ := m4
      rw [hi2] at m4
      have hvb4 := g4.get hvb1 fun z => hgn (Option.some.inj z).symm
      refine ⟨⟨by omega, by omega, by omega⟩, ?_⟩
      rw [sl_cut (n := ((l.length : Int) + ((1 : Nat) : Int)).toNat - ((i : Int)).toNat) (show ¬ vc = ((i : Int)).toNat by omega)]
      have hmin : ∀ k, 1 ≤ k → Nat.min 1 k = 1 := fun k hk => Nat.min_eq_left hk
      have hl1 : (cur.toList.take (A.length + x.cells.length) ++ B ++ cur.toList.drop (A.length + x.cells.length + B.length)).length = cur.size := by
        rw [List.length_append, List.length_append, List.length_take, List.length_drop, hcl, hBl, hAl, hxl]
        omega
      refine ⟨_, _, x.cells, m4, ⟨_, _, hvb4, by rw [hmin _ (by omega)]; rfl, by rw [hmin _ (by omega)]; rfl, rfl⟩, ?_, fun w5 m5 g5 => ?_⟩
      · show i * x.cells.length + x.cells.length ≤ (List.toArray _).size
        rw [List.size_toArray, hl1, hxl]
        omega
      have hfin := shift2 (cs := cur.toList) (A := A) (B := B) (X := x.cells) (R := cur.toList.drop (l.length * x.cells.length)) (k := x.cells.length) (by rw [← List.append_assoc, ← hAB, ← htk]; exact (List.take_append_drop _ _).symm) rfl (by rw [List.length_drop, hcl, hxl]; omega) rfl
      replace m5 : Hl w5 g ((cur.toList.take (A.length + x.cells.length) ++ B ++ cur.toList.drop (A.length + x.cells.length + B.length)).take (i * x.cells.length) ++ x.cells ++ (cur.toList.take (A.length + x.cells.length) ++ B ++ cur.toList.drop (A.length + x.cells.length + B.length)).drop (i * x.cells.length + x.cells.length)) _ := m5
      rw [show i * x.cells.length = A.length from hAl.symm, hfin] at m5
      have G5 : GB (some g) w w5 := (gs.weak.trans g4).trans g5
      refine ⟨⟨⟨?_, .inr ⟨g, vc, _, congrArg (fun z => Value.slice (some ⟨g, 0, none⟩) z vc) (by rw [insL_len]; omega), Nat.zero_le _, m5, ?_, h4, ?_, ?_⟩⟩, h.gb.new G5 hnew, fun y hy => ?_⟩, G5, fun y hy => .inl hy⟩
      · refine fl_size (fun _ => ?_) _; rfl
      · rw [insL_len]; exact e1
      · simp only [List.size_toArray, List.length_append, List.length_drop, Array.length_toList, hBl, hxl, hAl]
        omega
      · rw [hres, insL_len]
        show (A ++ x.cells ++ B ++ _).take _ = _
        rw [List.take_left']
        rw [List.length_append, List.length_append, hAl, hBl, hxl]
        omega
      · have : g = y := by simpa [Value.ownBlock] using hy
        omega
theorem ins_row : Ins Row Row.cells 128 2 177 := ins_both.1
theorem ins_rep : Ins Rep Rep.cells 57 7 181 := ins_both.2
theorem sl_cut' {b c i k n d : Nat} : Value.slice (if c = i then some ⟨b, 0, none⟩ else Option.map (fun x : Addr => x.add k) (some ⟨b, 0, none⟩)) n d = .slice (some ⟨b, if c = i then 0 else k, none⟩) n d := by
  split
  · rfl
  · rw [Option.map_some, addr_add]
theorem own_open {w : World} {e size n g c : Nat} {xs : List Value} (h : w.ownsRow 0 e size (.slice (some ⟨g, 0, none⟩) n c) n xs) : ∃ cur, w.heap[g]? = some (.cells cur e) ∧ n ≤ c ∧ c ≤ maxLen ∧ cur.size = c * size ∧ cur.toList.take (n * size) = xs := by
  rcases h.2 with ⟨q, _⟩ | ⟨g', cap', cur, q, h0, h2, h3, h4, h5, h6⟩
  · cases q
  injection q with q1 _ q3
  injection q1 with q1
  injection q1 with q1
  subst q1 q3
  exact ⟨cur, h2, h3, h4, h5, h6⟩
theorem del_row {w0 w : World} {v : Value} {l : List Row} (h : LN 128 2 w0 w v l.length (l.map Row.cells).flatten) (hl : l.length ≤ 100000) {i : Nat} (hi : i < l.length) : CY 178 #[v, .int .i64 i, .int .i64 ((i : Int) + 1)] w (fun v' w' => LN 128 2 w0 w' v' (l.eraseIdx i).length ((l.eraseIdx i).map Row.cells).flatten ∧ GB v.ownBlock w w' ∧ ∀ g, v'.ownBlock = some g → v.ownBlock = some g ∨ w.heap.size ≤ g) := by
  obtain ⟨g, vc, cur0, rfl, hcur, htk, hsz2, hcap⟩ := own_el h.own (by omega)
  obtain ⟨cur, hcur', h3, h4, h5, h6⟩ := own_open h.own
  rw [hcur] at hcur'
  injection hcur' with hcur'
  injection hcur' with hcur' _
  subst hcur'
  have hsz := fl_size (f := Row.cells) (size := 2) (fun _ => rfl) l
  have hnew := h.new g rfl
  have herl : (l.eraseIdx i).length = l.length - 1 := List.length_eraseIdx_of_lt hi
  have her : ((l.eraseIdx i).map Row.cells).flatten = (l.map Row.cells).flatten.take (i * 2) ++ (l.map Row.cells).flatten.drop ((i + 1) * 2) := by
    rw [fl_take (f := Row.cells) (size := 2) (fun _ => rfl), fl_drop (f := Row.cells) (size := 2) (fun _ => rfl), ← List.flatten_append, ← List.map_append, List.eraseIdx_eq_take_drop_succ]
  refine callE Tryz.func178 rfl rfl ?_
  refine ⟨⟨by omega, by omega, by omega, by omega⟩, spl (fun e => ?_) (fun e => ?_)⟩
  · have := eq_of_beq e
    omega
  refine ⟨by kernel_rfl, ⟨by omega, by omega⟩, ⟨by omega, by omega, by omega⟩, ?_⟩
  rw [sl_cut' (c := vc) (i := ((i : Int) + 1).toNat)]
  have hB1 : ((l.map Row.cells).flatten.drop ((i + 1) * 2)).length = (l.length - (i + 1)) * 2 := by rw [List.length_drop, hsz]; omega
  refine ⟨_, (l.map Row.cells).flatten.drop ((i + 1) * 2), own_cut h.own (Nat.le_of_lt hi), ⟨_, _, hcur, ?_, ?_, ?_⟩, by omega, fun v' w2 ho g2 n2 => ?_⟩
  · rw [show l.length - ((i : Int) + 1).toNat = l.length - (i + 1) by omega]
    by_cases hz : l.length - (i + 1) = 0
    · rw [hz]
      have : ((l.map Row.cells).flatten.drop ((i + 1) * 2)) = [] := List.eq_nil_of_length_eq_zero (by omega)
      rw [this]
      unfold cutL
      simp
    · rw [if_neg (by omega), ← htk]
      unfold cutL
      rw [List.drop_take, show ((i : Int) + 1).toNat = i + 1 by omega, show l.length * 2 - (i + 1) * 2 = (l.length - (i + 1)) * 2 by omega]
      rfl
  · rw [hB1]; show _ = (l.length - ((i : Int) + 1).toNat) * 2; omega
  · rw [fl_drop (f := Row.cells) (size := 2) (fun _ => rfl)]; exact ones_map (fun _ => rfl) _
  have ev := n2.inp g rfl (by omega)
  subst ev
  have hlen : ((i : Int)).toNat + (l.length - ((i : Int) + 1).toNat) = l.length - 1 := by omega
  replace ho : w2.ownsRow 0 128 2 (.slice (some ⟨g, 0, none⟩) (l.length - 1) vc) (l.length - 1) ((l.eraseIdx i).map Row.cells).flatten := by
    rw [her, ← hlen]; exact ho
  obtain ⟨cur2, hc2, h23, h24, h25, h26⟩ := own_open ho
  refine ⟨⟨by omega, by omega, by omega⟩, ?_⟩
  rw [sl_cut (show ¬ vc = (((((i : Int)).toNat + (l.length - ((i : Int) + 1).toNat) : Nat) : Int)).toNat by omega)]
  refine ⟨by omega, cur2, _, hc2, ?_, fun zs w3 hzs m3 g3 => ?_⟩
  · rw [h25]
    show _ * 2 + _ * 2 ≤ vc * 2
    omega
  have G3 : GB (some g) w w3 := GB.trans g2 g3
  refine ⟨⟨⟨?_, .inr ⟨g, vc, _, congrArg (fun z => Value.slice (some ⟨g, 0, none⟩) z vc) (by rw [herl]; exact hlen), Nat.zero_le _, m3, ?_, h4, ?_, ?_⟩⟩, h.gb.new G3 hnew, fun y hy => ?_⟩, G3, fun y hy => .inl hy⟩
  · rw [fl_size (f := Row.cells) (size := 2) (fun _ => rfl)]
  · rw [herl]; omega
  · have hzl : zs.length = (l.length - (l.length - 1)) * 2 := by
      rw [hzs]; show (_ - _) * 2 = _; omega
    have hc2l : cur2.toList.length = cur2.size := Array.length_toList
    simp only [List.size_toArray, List.length_append, List.length_take, List.length_drop, hc2l, hzl, h25]
    show min (_ * 2) _ + _ + (_ - (_ * 2 + _)) = _
    omega
  · rw [herl, ← h26]
    show List.take _ (List.take (_ * 2) cur2.toList ++ zs ++ _) = _
    have hc2l : cur2.toList.length = cur2.size := Array.length_toList
    rw [List.append_assoc, List.take_append_of_le_length (by rw [List.length_take, hc2l, h25]; omega), List.take_take, Nat.min_eq_left (by omega)]
  · have : g = y := by simpa [Value.ownBlock] using hy
    omega
end
end Go.Proofs.YtignemioillaiaaGreat
