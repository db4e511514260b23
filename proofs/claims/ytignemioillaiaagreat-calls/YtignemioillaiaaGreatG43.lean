/- ranges.Find, shard.sound: of a group that is begun. -/
import Derived.Test.YtignemioillaiaaGreatG42
namespace Go.Proofs.YtignemioillaiaaGreat
set_option maxHeartbeats 8000000
set_option maxRecDepth 100000
section
open Go Go.Conc Go.RowKit
section
variable {w : World} {bM c : Nat} {cur : Array Value}
theorem KP (hM : w.heap[bM]? = some (.cells cur 107)) (ht : cur.toList.take 2 = [.int .u64 0, .int .u8 0]) (_hs : 2 ≤ cur.size) :
    aX Tryz.prog 130 #[.slice (some ⟨bM, 0, none⟩) 1 c, .int .u64 0] w (fun v w' => v = .int .u8 0 ∧ GB none w w') := by
  intro main D X cs hX hk
  rw [P5]
  simp only [c130, Tryz.f130, Option.getD]
  have h1 : cur[1]? = some (.int .u8 0) := by
    have := congrArg (fun l : List Value => l[1]?) ht
    simpa using this
  refine xw ?_
  refine Shut.bY hX rfl rfl xB rfl rfl hM (by kernel_rfl) (v := .int .u8 0) h1 ?_
  refine xn ?_
  refine xw ?_
  refine xg ?_
  refine xw ?_
  refine Shut.dF hX rfl rfl (by decide) rfl rfl hM (by kernel_rfl) [.int .u64 0, .int .u8 0] (by kernel_rfl) (by show 0 + 2 ≤ cur.size; omega) (by rw [List.drop_zero]; exact ht) ?_
  refine xm ?_
  refine xw ?_
  refine Shut.cK hX rfl rfl xB xO (ob := .cells #[.int .u64 0, .int .u8 0] 107) (v := fun b => .pointer (some ⟨b, 0, none⟩)) (fun w1 _ => by go_simp <;> rfl) (fun w1 b1 hb1 g1 l1 => ?_)
  refine xn ?_
  refine xw ?_
  refine Shut.df hX rfl rfl xB _ rfl rfl (v := .agg #[.int .u64 0, .int .u8 0]) rfl hb1 (by kernel_rfl) rfl (Nat.le_of_ble_eq_true rfl) [.int .u64 0, .int .u8 0] rfl (fun w2 hb2 o2 => ?_)
  refine xn ?_
  refine xw ?_
  refine Shut.bY hX rfl rfl xB rfl rfl hb2 (by kernel_rfl) (v := .int .u64 0) rfl ?_
  refine xn ?_
  refine xw ?_
  refine Shut.bY hX rfl rfl xB rfl rfl hb2 (by kernel_rfl) (v := .int .u8 0) rfl ?_
  refine xn ?_
  refine xw ?_
  refine xg ?_
  refine xw ?_
  refine xg ?_
  refine aj.ret hX.c ?_
  exact hk _ _ _ rfl (cu rfl Tryz.func130 rfl) ⟨rfl, g1.fresh (GB.only o2) l1⟩
theorem P6 (hM : w.heap[bM]? = some (.cells cur 107)) (ht : cur.toList.take 2 = [.int .u64 0, .int .u8 0]) (hs : 2 ≤ cur.size) :
    aX Tryz.prog 75 #[.slice (some ⟨bM, 0, none⟩) 1 c, .int .u64 0] w (fun v w' => v = .tuple #[.int .u8 0, .int .i64 0] ∧ GB none w w') := by
  intro main D X cs hX hk
  rw [SN]
  simp only [c75, Tryz.f75, Option.getD]
  refine xw ?_
  refine Shut.bQ hX rfl rfl xB rfl Tryz.func129 (by kernel_rfl) (by rw [Jp]; rfl) (Nb hM ht hs) xk ?_
  rintro v w1 ⟨rfl, g1⟩
  refine xm ?_
  refine xw ?_
  refine Shut.bQ hX rfl rfl xB rfl Tryz.func130 (by kernel_rfl) (by rw [Jq]; rfl) (KP (g1.get hM nofun) ht hs) xk ?_
  rintro v w2 ⟨rfl, g2⟩
  refine xm ?_
  refine xw ?_
  refine xg ?_
  refine aj.ret hX.c ?_
  exact hk _ _ _ rfl (mD rfl Tryz.func75 rfl) ⟨rfl, g1.trans g2⟩
noncomputable def QV : Code := Tryz.f43.body.getD .skip
theorem Nc : Tryz.f43.body = some QV := by
  unfold QV
  rfl
theorem SQ (x0 : Value) : Frame.enter Tryz.prog 43 #[x0] .normal = (Go.Conc.base 43).at ⟨#[x0, undef, undef, undef, undef, undef, undef, undef, undef, undef, undef, undef, undef, undef, undef, undef, undef, undef, undef, undef, undef, undef, undef, undef, undef, undef, undef, undef, undef, undef, undef, undef, undef, undef, undef, undef, undef, undef], []⟩ [.code QV] := by
  have h := enter_at (P := Tryz.prog) #[x0] Tryz.func43 Nc
  rw [show Tryz.f43.ntmps = 38 from rfl] at h
  rw [h]
  walk_nrm
theorem Nf (hM : w.heap[bM]? = some (.cells cur 107)) (ht : cur.toList.take 2 = [.int .u64 0, .int .u8 0]) (hs : 2 ≤ cur.size) (g n : Nat) (_hg : g < n) (_hn : n ≤ 4) (aO aI : Option Addr) (cO cI : Nat) :
    aX Tryz.prog 43 #[.agg #[.int .u8 g, .int .u8 n, .slice none 0 0, .slice (some ⟨bM, 0, none⟩) 1 c, .slice none 0 0, .slice aO n cO, .slice aI n cI]] w (fun v w' => v = .bool true ∧ GB none w w') := by
  intro main D X cs hX hk
  rw [SQ]
  simp only [QV, Tryz.f43, Option.getD]
  have hgn : (g : Int) < n := by omega
  have hw : IntKind.i64.wrap (n : Int) = n := kF _ (by omega) (by omega)
  refine xw ?_
  refine Shut.cK hX rfl rfl xB xO (ob := .cells #[.int .u8 g, .int .u8 n, .slice none 0 0, .slice (some ⟨bM, 0, none⟩) 1 c, .slice none 0 0, .slice aO n cO, .slice aI n cI] 31) (v := fun b => .pointer (some ⟨b, 0, none⟩)) (fun w1 _ => by go_simp <;> rfl) (fun w1 b1 hb1 g1 l1 => ?_)
  refine xn ?_
  refine xw ?_
  refine Shut.bY hX rfl rfl xB rfl rfl hb1 (by kernel_rfl) (v := .slice (some ⟨bM, 0, none⟩) 1 c) rfl ?_
  refine xn ?_
  refine xw ?_
  refine Shut.bQ hX rfl rfl xB rfl Tryz.func75 (by kernel_rfl) (by rw [Na]; rfl) (P6 (g1.get hM nofun) ht hs) xk ?_
  rintro v w2 ⟨rfl, g2⟩
  refine xm ?_
  have hb2 := g2.get hb1 nofun
  refine xw ?_
  refine Shut.bY hX rfl rfl xB rfl rfl hb2 (by kernel_rfl) (v := .int .u8 n) rfl ?_
  refine xn ?_
  refine xw ?_
  refine Shut.bY hX rfl rfl xB rfl rfl hb2 (by kernel_rfl) (v := .int .u8 g) rfl ?_
  refine xn ?_
  refine xw ?_
  refine Shut.bY hX rfl rfl xB rfl rfl hb2 (by kernel_rfl) (v := .int .u8 n) rfl ?_
  refine xn ?_
  refine xw ?_
  refine Shut.bY hX rfl rfl xB rfl rfl hb2 (by kernel_rfl) (v := .slice aO n cO) rfl ?_
  refine xn ?_
  refine xw ?_
  refine Shut.bY hX rfl rfl xB rfl rfl hb2 (by kernel_rfl) (v := .slice aI n cI) rfl ?_
  refine xn ?_
  refine xw ?_
  refine xg ?_
  refine aj.ret hX.c ?_
  exact hk _ _ _ rfl (cu rfl Tryz.func43 rfl) ⟨rfl, g1.trans g2⟩
end
theorem P7 : (Tryz.prog.info? 107).map (fun i => (i.zero, i.size, i.bytes)) = some (some (.agg #[.int .u64 0, .int .u8 0]), 2, 16) := by kernel_rfl
theorem SS : (Tryz.prog.info? 47).map (fun i => (i.zero, i.size, i.bytes)) = some (some (.int .u32 0), 1, 4) := by kernel_rfl
theorem P8 : (Tryz.prog.info? 103).map (fun i => (i.zero, i.size, i.bytes)) = some (some (.agg #[.int .u32 0, .slice none 0 0]), 2, 32) := by kernel_rfl
noncomputable def c76 : Code := Tryz.f76.body.getD .skip
theorem Ng : Tryz.f76.body = some c76 := by
  unfold c76
  rfl
theorem SV (x0 : Value) : Frame.enter Tryz.prog 76 #[x0] .normal = (Go.Conc.base 76).at ⟨#[x0, undef, undef, undef, undef], []⟩ [.code c76] := by
  have h := enter_at (P := Tryz.prog) #[x0] Tryz.func76 Ng
  rw [show Tryz.f76.ntmps = 5 from rfl] at h
  rw [h]
  walk_nrm
noncomputable def QX : Code := Tryz.f77.body.getD .skip
theorem Nh : Tryz.f77.body = some QX := by
  unfold QX
  rfl
theorem SX (x0 : Value) : Frame.enter Tryz.prog 77 #[x0] .normal = (Go.Conc.base 77).at ⟨#[x0, undef, undef, undef, undef], []⟩ [.code QX] := by
  have h := enter_at (P := Tryz.prog) #[x0] Tryz.func77 Nh
  rw [show Tryz.f77.ntmps = 5 from rfl] at h
  rw [h]
  walk_nrm
noncomputable def QY : Code := Tryz.f78.body.getD .skip
theorem Ni : Tryz.f78.body = some QY := by
  unfold QY
  rfl
theorem SY (x0 : Value) : Frame.enter Tryz.prog 78 #[x0] .normal = (Go.Conc.base 78).at ⟨#[x0, undef, undef, undef, undef], []⟩ [.code QY] := by
  have h := enter_at (P := Tryz.prog) #[x0] Tryz.func78 Ni
  rw [show Tryz.f78.ntmps = 5 from rfl] at h
  rw [h]
  walk_nrm
noncomputable def QZ : Code := Tryz.f79.body.getD .skip
theorem Nj : Tryz.f79.body = some QZ := by
  unfold QZ
  rfl
theorem S9 (x0 : Value) : Frame.enter Tryz.prog 79 #[x0] .normal = (Go.Conc.base 79).at ⟨#[x0, undef, undef, undef, undef], []⟩ [.code QZ] := by
  have h := enter_at (P := Tryz.prog) #[x0] Tryz.func79 Nj
  rw [show Tryz.f79.ntmps = 5 from rfl] at h
  rw [h]
  walk_nrm
noncomputable def c80 : Code := Tryz.f80.body.getD .skip
theorem Nk : Tryz.f80.body = some c80 := by
  unfold c80
  rfl
theorem Ta (x0 : Value) : Frame.enter Tryz.prog 80 #[x0] .normal = (Go.Conc.base 80).at ⟨#[x0, undef, undef, undef, undef], []⟩ [.code c80] := by
  have h := enter_at (P := Tryz.prog) #[x0] Tryz.func80 Nk
  rw [show Tryz.f80.ntmps = 5 from rfl] at h
  rw [h]
  walk_nrm
noncomputable def c131 : Code := Tryz.f131.body.getD .skip
theorem Jr : Tryz.f131.body = some c131 := by
  unfold c131
  rfl
theorem P9 (x0 : Value) : Frame.enter Tryz.prog 131 #[x0] .normal = (Go.Conc.base 131).at ⟨#[x0, undef, undef, undef, undef], []⟩ [.code c131] := by
  have h := enter_at (P := Tryz.prog) #[x0] Tryz.func131 Jr
  rw [show Tryz.f131.ntmps = 5 from rfl] at h
  rw [h]
  walk_nrm
theorem Xi (w : World) : aX Tryz.prog 76 #[.slice none 0 0] w (fun v w' => v = .slice none 0 0 ∧ GB none w w') := by
  intro main D X cs hX hk
  rw [SV]
  simp only [c76, Tryz.f76, Option.getD]
  refine xw ?_
  refine xg ?_
  refine aj.ret hX.c ?_
  exact hk _ _ _ rfl (cu rfl Tryz.func76 rfl) ⟨rfl, GB.refl _ _⟩
theorem Xj (w : World) (b c : Nat) (h : w.heap[b]? = some (.cells #[.int .u64 0, .int .u8 0] 107)) : aX Tryz.prog 77 #[.slice (some ⟨b, 0, none⟩) 1 c] w (fun v w' => w'.ownsRow 0 107 2 v 1 [.int .u64 0, .int .u8 0] ∧ (∀ x, v.ownBlock = some x → w.heap.size ≤ x) ∧ GB none w w') := by
  intro main D X cs hX hk
  rw [SX]
  simp only [QX, Tryz.f77, Option.getD]
  refine xw ?_
  obtain ⟨ii, hii, hz, hs, hb⟩ := nQ P7
  refine Shut.mQ hX rfl rfl xB rfl 107 ii _ _ _ (by kernel_rfl) hii hz hs hb rfl (by decide) rfl (qj _ _ _) rfl h (news := [.int .u64 0, .int .u8 0]) rfl rfl (by first | assumption | simp [Value.oneCell']) (by unfold maxLen; omega) (by omega) (fun v' w1 ho1 g1 l1 => ?_)
  clear hb hs hz hii ii
  refine xn ?_
  refine xw ?_
  refine xg ?_
  refine aj.ret hX.c ?_
  exact hk _ _ _ rfl (cu rfl Tryz.func77 rfl) ⟨ho1, fun x hx => (l1 x hx).elim nofun id, g1⟩
theorem Xk (w : World) : aX Tryz.prog 78 #[.slice none 0 0] w (fun v w' => v = .slice none 0 0 ∧ GB none w w') := by
  intro main D X cs hX hk
  rw [SY]
  simp only [QY, Tryz.f78, Option.getD]
  refine xw ?_
  refine xg ?_
  refine aj.ret hX.c ?_
  exact hk _ _ _ rfl (cu rfl Tryz.func78 rfl) ⟨rfl, GB.refl _ _⟩
theorem Vt (w : World) : aX Tryz.prog 131 #[.slice none 0 0] w (fun v w' => v = .slice none 0 0 ∧ GB none w w') := by
  intro main D X cs hX hk
  rw [P9]
  simp only [c131, Tryz.f131, Option.getD]
  refine xw ?_
  refine xg ?_
  refine aj.ret hX.c ?_
  exact hk _ _ _ rfl (cu rfl Tryz.func131 rfl) ⟨rfl, GB.refl _ _⟩
theorem Xl (w : World) (b n : Nat) (_hn : n ≤ 4) (h : w.heap[b]? = some (.cells (List.replicate n (Value.int .u32 0)).toArray 47)) : aX Tryz.prog 79 #[.slice (some ⟨b, 0, none⟩) n n] w (fun v w' => w'.ownsRow 0 47 1 v n (List.replicate n (Value.int .u32 0)) ∧ (∀ x, v.ownBlock = some x → w.heap.size ≤ x) ∧ GB none w w') := by
  intro main D X cs hX hk
  rw [S9]
  simp only [QZ, Tryz.f79, Option.getD]
  refine xw ?_
  obtain ⟨ii, hii, hz, hs, hb⟩ := nQ SS
  refine Shut.mQ hX rfl rfl (by decide) rfl 47 ii _ _ _ (by kernel_rfl) hii hz hs hb rfl (by decide) rfl (qj _ _ _) rfl h (news := List.replicate n (Value.int .u32 0)) (by simp) (by simp) (fun u hu => by rw [List.eq_of_mem_replicate hu]; rfl) (by unfold maxLen; omega) (by omega) (fun v' w1 ho1 g1 l1 => ?_)
  clear hb hs hz hii ii
  refine xm ?_
  refine xw ?_
  refine xg ?_
  refine aj.ret hX.c ?_
  refine hk _ _ _ rfl (cu rfl Tryz.func79 rfl) ⟨?_, fun x hx => (l1 x hx).elim nofun id, g1⟩
  rw [Nat.zero_add, List.nil_append] at ho1
  exact ho1
theorem Qa (n : Nat) : ∀ u ∈ dQ n n, u.oneCell' = true := by
  intro u hu
  unfold dQ at hu
  rw [Nat.sub_self, List.replicate_zero, List.append_nil] at hu
  obtain ⟨l, hl, UC⟩ := List.mem_flatten.1 hu
  rw [List.eq_of_mem_replicate hl] at UC
  simp only [List.mem_cons, List.not_mem_nil, or_false] at UC
  rcases UC with rfl | rfl <;> rfl
theorem Xm (w : World) (b n : Nat) (_hn : n ≤ 4) (h : w.heap[b]? = some (.cells (dQ n n).toArray 103)) : aX Tryz.prog 80 #[.slice (some ⟨b, 0, none⟩) n n] w (fun v w' => w'.ownsRow 0 103 2 v n (dQ n n) ∧ (∀ x, v.ownBlock = some x → w.heap.size ≤ x) ∧ GB none w w') := by
  intro main D X cs hX hk
  rw [Ta]
  simp only [c80, Tryz.f80, Option.getD]
  refine xw ?_
  obtain ⟨ii, hii, hz, hs, hb⟩ := nQ P8
  have hl := AV (Nat.le_refl n)
  refine Shut.mQ hX rfl rfl (by decide) rfl 103 ii _ _ _ (by kernel_rfl) hii hz hs hb rfl (by decide) rfl (qj _ _ _) rfl h (news := dQ n n) (by rw [List.drop_zero]; exact List.take_of_length_le (by rw [hl]; exact Nat.le_refl _)) hl (Qa n) (by unfold maxLen; omega) (by omega) (fun v' w1 ho1 g1 l1 => ?_)
  clear hb hs hz hii ii
  refine xm ?_
  refine xw ?_
  refine xg ?_
  refine aj.ret hX.c ?_
  refine hk _ _ _ rfl (cu rfl Tryz.func80 rfl) ⟨?_, fun x hx => (l1 x hx).elim nofun id, g1⟩
  rw [Nat.zero_add, List.nil_append] at ho1
  exact ho1
noncomputable def Q0 : Code := Tryz.f81.body.getD .skip
theorem Nl : Tryz.f81.body = some Q0 := by
  unfold Q0
  rfl
theorem Tc (x0 : Value) : Frame.enter Tryz.prog 81 #[x0] .normal = (Go.Conc.base 81).at ⟨#[x0, undef, undef, undef, undef, undef, undef, undef, undef, undef, undef, undef, undef, undef, undef, undef, undef, undef, undef, undef, undef, undef, undef, undef, undef, undef, undef, undef, undef, undef], []⟩ [.code Q0] := by
  have h := enter_at (P := Tryz.prog) #[x0] Tryz.func81 Nl
  rw [show Tryz.f81.ntmps = 30 from rfl] at h
  rw [h]
  walk_nrm
theorem Xn (w : World) : aX Tryz.prog 81 #[.slice none 0 0] w (fun v w' => v = .slice none 0 0 ∧ GB none w w') := by
  intro main D X cs hX hk
  rw [Tc]
  simp only [Q0, Tryz.f81, Option.getD]
  refine xw ?_
  refine Shut.bQ hX rfl rfl xB rfl Tryz.func131 (by kernel_rfl) (by rw [Jr]; rfl) (Vt w) xk ?_
  rintro v w1 ⟨rfl, g1⟩
  refine xm ?_
  refine xw ?_
  refine xg ?_
  refine xw ?_
  refine xg ?_
  refine aj.ret hX.c ?_
  exact hk _ _ _ rfl (cu rfl Tryz.func81 rfl) ⟨rfl, g1⟩
end
end Go.Proofs.YtignemioillaiaaGreat
