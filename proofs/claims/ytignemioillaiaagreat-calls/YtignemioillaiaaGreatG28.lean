/- Packets in memory; handOut's walk. -/
import Derived.Test.YtignemioillaiaaGreatG27
import Derived.Test.YtignemioillaiaaGreatG01
import Derived.Conc.EventLaws
import Derived.Conc.SmallLaws
import Derived.Orders
import Derived.Conc.AppendWalk
namespace Go.Proofs.YtignemioillaiaaGreat
set_option maxHeartbeats 8000000
set_option maxRecDepth 100000
section
open Go Go.Conc
structure cB where
  fg : Int
  fr : Int
  tg : Int
  tr : Int
  d : ByteArray
def cB.cells (p : cB) : List Value := [.int .u8 p.fg, .int .u8 p.fr, .int .u8 p.tg, .int .u8 p.tr, .string p.d]
def cB.val (p : cB) : Value := .agg #[.int .u8 p.fg, .int .u8 p.fr, .int .u8 p.tg, .int .u8 p.tr, .string p.d]
def flat (ps : List cB) : List Value := ps.flatMap cB.cells
theorem T9 (ps : List cB) : (flat ps).length = ps.length * 5 := by
  induction ps with
  | nil => rfl
  | cons p ps ih => simp only [flat, List.flatMap_cons, List.length_append] at ih ⊢; rw [ih]; simp [cB.cells]; omega
theorem flat_get : ∀ {ps : List cB} {i j : Nat} {p : cB}, ps[i]? = some p → j < 5 → (flat ps)[i * 5 + j]? = p.cells[j]?
  | [], _, _, _, h, _ => by simp at h
  | q :: ps, 0, j, p, h, hj => by
    obtain rfl : q = p := by simpa using h
    simp only [flat, List.flatMap_cons, Nat.zero_mul, Nat.zero_add]
    rw [List.getElem?_append_left (by simpa [cB.cells] using hj)]
  | q :: ps, i + 1, j, p, h, hj => by
    have := flat_get (ps := ps) (i := i) (j := j) (p := p) (by simpa using h) hj
    simp only [flat, List.flatMap_cons] at this ⊢
    rw [List.getElem?_append_right (by simp [cB.cells]; omega), ← this]
    congr 1
    simp [cB.cells]
    omega
theorem iy {w w1 : World} {base : Nat} {e : TypeId} {size : Nat} {v : Value} {n : Nat} {xs : List Value} (h : w.ownsRow base e size v n xs) (hg : ∀ g, v.ownBlock = some g → w1.heap[g]? = w.heap[g]?) : w1.ownsRow base e size v n xs := by
  refine ⟨h.1, h.2.imp id ?_⟩
  rintro ⟨g, cap, cur, rfl, h1, h2, h3⟩
  exact ⟨g, cap, cur, rfl, h1, (hg g rfl).trans h2, h3⟩
def cl : Code → Code
  | .seq a _ => a
  | c => c
def cr : Code → Code
  | .seq _ b => b
  | c => c
def cb : Code → Code
  | .block _ c => c
  | .loop c => c
  | c => c
def co : Code → Array Oper
  | .region _ o _ => o
  | _ => #[]
noncomputable def c154 : Code := Tryz.f154.body.getD .skip
noncomputable def xX : Code := cb (cb (cr (cl c154)))
noncomputable def Gr : List Item := [.inLoop xX, .inBlock 0, .code (cr c154)]
noncomputable def Ko : Array Oper := co (cr (cb (cl (cr (cr xX)))))
noncomputable def OZ : List Item := .inBlock 1 :: .code (cr (cr (cr xX))) :: Gr
def tQ (br pk : Nat) (sl : Value) (n : Nat) (i x5 jv iI jw jy j3 dU : Value) : Array Value := #[.pointer (some ⟨br, 0, none⟩), .chan (some pk), undef, undef, undef, x5, .pointer (some ⟨br, 0, none⟩), .pointer (some ⟨br, 0, none⟩), .pointer (some ⟨br, 20, none⟩), sl, .int .i64 n, i, jv, iI, jw, jy, j3, dU, undef, undef, undef]
noncomputable def vQ (br pk : Nat) (rc : Array Value) (tR : TypeId) (sl : Value) (ps : List cB) (cR : Frame) (cs1 : List Frame) : List Value → (Nat → Prop) → Goroutine → World → Prop
  | [], F, b, w => b = G cR cs1 ∧ F br ∧ w.heap[br]? = some (.cells (rc.setIfInBounds 20 (.slice none 0 0)) tR) ∧ ∀ x, F x → x < w.heap.size
  | v :: vs, F, b, w => ∃ i p x5 iI dU, ps[i]? = some p ∧ v = p.val ∧ vs = (ps.drop (i + 1)).map cB.val ∧
      b = G ((baseD 154).at ⟨tQ br pk sl ps.length (.int .i64 i) x5 (.bool true) iI p.val (.chan (some pk)) p.val dU, []⟩ (.inRegion Ko [2] :: OZ)) (cR :: cs1) ∧
      F br ∧ w.heap[br]? = some (.cells rc tR) ∧ w.ownsRow 0 139 5 sl ps.length (flat ps) ∧ (∀ g, sl.ownBlock = some g → F g) ∧ ∀ x, F x → x < w.heap.size
section
variable {br pk : Nat} {rc : Array Value} {tR : TypeId} {sl : Value} {ps : List cB} {cR : Frame} {cs1 : List Frame}
theorem vQ.rely {vs : List Value} {F : Nat → Prop} {b : Goroutine} {w w1 : World} (h : vQ br pk rc tR sl ps cR cs1 vs F b w) (hr : bA F w w1) : vQ br pk rc tR sl ps cR cs1 vs F b w1 := by
  cases vs with
  | nil => exact ⟨h.1, h.2.1, (hr.own _ h.2.1).trans h.2.2.1, fun x hx => Nat.lt_of_lt_of_le (h.2.2.2 x hx) hr.size⟩
  | cons v vs =>
    obtain ⟨i, p, x5, iI, dU, h1, h2, h3, h4, h5, h6, h7, h8, h9⟩ := h
    exact ⟨i, p, x5, iI, dU, h1, h2, h3, h4, h5, (hr.own _ h5).trans h6, iy h7 fun g hg => hr.own _ (h8 g hg), h8, fun x hx => Nat.lt_of_lt_of_le (h9 x hx) hr.size⟩
end
section
variable {P : Program} {main : Bool} {Stop : (Nat → Prop) → Goroutine → World → Prop} {F : Nat → Prop} {w : World} {b : Frame} {a : Act} {k : List Item} {cs : List Frame} {ops : Array Oper} {i : Nat} {rest : List Nat} {o : Oper}
theorem lQ {ρ : Operand → Value} {ty : TypeId} {x : Operand} (hop : o.op = .load ty x) : execOp ρ o = (do pure (Next.value (← Instr.loadAt ty (ρ x)))) := by
  unfold execOp
  rw [hop]
theorem rU {ρ : Operand → Value} {ty : TypeId} {x y : Operand} (hop : o.op = .store ty x y) : execOp ρ o = (do Instr.storeAt ty (ρ x) (ρ y); pure Next.skip) := by
  unfold execOp
  rw [hop]
theorem Bp {s : Sem Value} (w : World) : (do pure (Next.value (← s)) : Sem Next).events P w #[] = s.events P w #[] := by
  rw [show (do pure (Next.value (← s)) : Sem Next) = s >>= fun v => pure (Next.value v) from rfl, Sem.events_bind]
  cases s.run P w <;> rfl
theorem R9 {s : Sem Unit} (w : World) : (do s; pure Next.skip : Sem Next).events P w #[] = s.events P w #[] := by
  rw [show (do s; pure Next.skip : Sem Next) = s >>= fun _ => pure Next.skip from rfl, Sem.events_bind]
  cases s.run P w <;> rfl
theorem aK.vJ (ho : ops[i]? = some o) (hw : Region.wanted o (yielded ops a.tmps) = true) (hk : b.kind ≠ .early) (ty : TypeId) {x : Operand} (hop : o.op = .load ty x) {B off : Nat} (hx : a.eval x = .pointer (some ⟨B, off, none⟩)) (hB : F B) {xs : Array Value} {t : TypeId} (hW : w.heap[B]? = some (.cells xs t)) {d : TypeDesc} (hu : P.underlying ty = some d)
    (hd : (match d with | .struct _ | .array _ _ => true | _ => false) = true) {n : Nat} (hi : (P.info? ty).map (·.size) = some n) (hfit : off + n ≤ xs.size) (c : List Value) (hc : (xs.toList.drop off).take n = c)
    (h : aK P main Stop F (G (b.at (a.put o.dst (.agg c.toArray)) (.inRegion ops rest :: k)) cs) w) : aK P main Stop F (G (b.at a (.inRegion ops (i :: rest) :: k)) cs) w := by
  refine aK.QC ho hw hk (fun w1 h1 e he => ?_) (fun w1 h1 => ?_) h
  · have hW1 : w1.heap[B]? = some (.cells xs t) := (h1.own B hB).trans hW
    rw [lQ hop, hx, Bp] at he
    obtain ⟨ad, e1, e2⟩ := CG ty hW1 off n d hu hd hi hfit e he
    exact vI e1 (e2 ▸ hB)
  · have hW1 : w1.heap[B]? = some (.cells xs t) := (h1.own B hB).trans hW
    rw [lQ hop, hx, Sem.run_bind, vw ty hW1 off n d hu hd hi (Nat.ble_eq_true_of_le hfit) c hc]
    rfl
theorem aK.ql (ho : ops[i]? = some o) (hw : Region.wanted o (yielded ops a.tmps) = true) (hk : b.kind ≠ .early) (ty : TypeId) {x : Operand} (hop : o.op = .load ty x) {B off : Nat} (hx : a.eval x = .pointer (some ⟨B, off, none⟩)) (hB : F B) {xs : Array Value} {t : TypeId} (hW : w.heap[B]? = some (.cells xs t)) {d : TypeDesc} (hu : P.underlying ty = some d)
    (hd : (match d with | .struct _ | .array _ _ => true | _ => false) = false) {v : Value} (hc : xs[off]? = some v)
    (h : aK P main Stop F (G (b.at (a.put o.dst v) (.inRegion ops rest :: k)) cs) w) : aK P main Stop F (G (b.at a (.inRegion ops (i :: rest) :: k)) cs) w := by
  have key : ∀ w1, bA F w w1 → w1.cell? ⟨B, off, none⟩ = some v := fun w1 h1 => by
    have hW1 : w1.heap[B]? = some (.cells xs t) := (h1.own B hB).trans hW
    rw [af hW1]
    exact hc
  have hagg : ∀ w1, (isAgg ty).run P w1 = .ok false w1 := fun w1 => by
    unfold isAgg
    rw [Sem.run_bind, run_underlying hu w1]
    cases d <;> simp_all
  refine aK.QC ho hw hk (fun w1 h1 e he => ?_) (fun w1 h1 => ?_) h
  · rw [lQ hop, hx, Bp] at he
    simp only [Instr.loadAt, Instr.sureAddr, loadVar, Sem.events_bind, Sem.run_pure, Sem.events_pure, Result.evThen_ok, hagg, events_isAgg, Bool.false_eq_true, if_false] at he
    rcases events_load_at w1 _ _ _ (key w1 h1) e he with h | ⟨h, _⟩
    · simp at h
    · exact vI h hB
  · rw [lQ hop, hx]
    simp [Instr.loadAt, Instr.sureAddr, loadVar, Sem.run_bind, hagg, key w1 h1]
theorem aK.df (ho : ops[i]? = some o) (hw : Region.wanted o (yielded ops a.tmps) = true) (hk : b.kind ≠ .early) (ty : TypeId) {x y : Operand} (hop : o.op = .store ty x y) {B off : Nat} (hx : a.eval x = .pointer (some ⟨B, off, none⟩)) {v : Value} (hy : a.eval y = v) (hB : F B) {xs : Array Value} {t : TypeId} (hW : w.heap[B]? = some (.cells xs t))
    (hi : (P.info? ty).map (·.size) = some v.cells.size) (h1 : v.cells.toList.all (·.oneCell') = true) (hfit : off + v.cells.size ≤ xs.size) (ys : List Value) (hys : xs.toList.take off ++ v.cells.toList ++ xs.toList.drop (off + v.cells.size) = ys)
    (h : ∀ w1 w', bA F w w1 → w'.heap[B]? = some (.cells ys.toArray t) → (∀ x, x ≠ B → w'.heap[x]? = w1.heap[x]?) → w'.heap.size = w1.heap.size → w'.os = w1.os → w'.output = w1.output → aK P main Stop F (G (b.at (a.put o.dst undef) (.inRegion ops rest :: k)) cs) w') : aK P main Stop F (G (b.at a (.inRegion ops (i :: rest) :: k)) cs) w := by
  subst hys
  refine aK.TZ ho hw hk hB (fun w1 h2 e he => ?_) (ws := fun w1 => w1.setRow B (xs.toList.take off ++ v.cells.toList ++ xs.toList.drop (off + v.cells.size)).toArray) (fun w1 h2 => ?_) (fun w1 => ?_) (fun w1 x hx => ?_) (fun w1 => ⟨rfl, rfl⟩) (fun w1 h2 => ?_)
  · have hW1 : w1.heap[B]? = some (.cells xs t) := (h2.own B hB).trans hW
    rw [rU hop, hx, hy, R9] at he
    obtain ⟨ad, e1, e2⟩ := Bo ty hW1 off v hi h1 hfit e he
    exact vI e1 (e2 ▸ hB)
  · have hW1 : w1.heap[B]? = some (.cells xs t) := (h2.own B hB).trans hW
    rw [rU hop, hx, hy, Sem.run_bind, mE w1 B off ty t v xs hW1 hi h1 hfit]
    rfl
  · exact (Only.setRow w1 B _).size
  · exact (Only.setRow w1 B _).block x hx
  · have hW1 : w1.heap[B]? = some (.cells xs t) := (h2.own B hB).trans hW
    exact h w1 _ h2 (setRow_heap w1 B xs _ t (0, 0) hW1) (fun x hx => (Only.setRow w1 B _).block x hx) (Only.setRow w1 B _).size rfl rfl
end
theorem IJ : Tryz.f154.body = some c154 := by
  unfold c154
  rfl
theorem O0 (x y : Value) : Frame.enter Tryz.prog 154 #[x, y] .deferred = (baseD 154).at ⟨#[x, y, undef, undef, undef, undef, undef, undef, undef, undef, undef, undef, undef, undef, undef, undef, undef, undef, undef, undef, undef], []⟩ [.code c154] := by
  have h := enter_atD (P := Tryz.prog) #[x, y] Tryz.func154 IJ
  rw [show Tryz.f154.ntmps = 21 from rfl] at h
  rw [h]
  walk_nrm
section
variable {br pk : Nat} {rc : Array Value} {tR : TypeId} {sl : Value} {ps : List cB} {cR : Frame} {cs1 : List Frame}
theorem IK {F : Nat → Prop} {w : World} (hm : cR.mode = .returning) {i : Nat} (hi : i ≤ ps.length) (_hn : ps.length < 1000000) {x5 jv iI jw jy j3 dU : Value} (hF : F br) (hB : w.heap[br]? = some (.cells rc tR)) (hrc : 20 < rc.size) (ho : w.ownsRow 0 139 5 sl ps.length (flat ps)) (hg : ∀ g, sl.ownBlock = some g → F g) (hin : ∀ x, F x → x < w.heap.size) :
    aK Tryz.prog false (vQ br pk rc tR sl ps cR cs1 ((ps.drop i).map cB.val)) F (G ((baseD 154).at ⟨tQ br pk sl ps.length (.int .i64 i) x5 jv iI jw jy j3 dU, []⟩ (.code xX :: Gr)) (cR :: cs1)) w := by
  unfold xX tQ
  simp only [c154, Tryz.f154, cl, cr, cb, Option.getD]
  refine aj.seq aN ?_
  refine aj.region aN _ rfl ?_
  refine xr ?_
  refine aj.quiet aN rfl rfl xB _ (fun _ => by go_simp <;> rfl) (fun _ => by simp [go_sem, *]) ?_
  refine xm ?_
  refine aj.regionEnd aN ?_
  refine aj.seq aN ?_
  refine aj.cond aN (decide (i < ps.length)) rfl ?_
  by_cases hlt : i < ps.length
  · simp only [hlt, decide_true, if_true]
    refine aj.skip aN ?_
    refine aj.seq aN ?_
    refine aj.block aN ?_
    refine aj.seq aN ?_
    refine aj.region aN _ rfl ?_
    refine xr ?_
    obtain ⟨p, hp⟩ : ∃ p, ps[i]? = some p := ⟨_, List.getElem?_eq_getElem hlt⟩
    obtain ⟨g, cap, cur, rfl, _, hgb, hnc, hcm, hcs, htk⟩ : ∃ g cap cur, sl = .slice (some ⟨g, 0, none⟩) ps.length cap ∧ 0 ≤ g ∧ w.heap[g]? = some (.cells cur 139 (0, 0)) ∧ ps.length ≤ cap ∧ cap ≤ maxLen ∧ cur.size = cap * 5 ∧ cur.toList.take (ps.length * 5) = flat ps := by
      rcases ho.2 with ⟨_, h0⟩ | h
      · omega
      · exact h
    refine aj.quiet aN rfl rfl xB _ (fun _ => by go_simp <;> rfl) (fun _ => by simp [go_sem, *]) ?_
    refine xm ?_
    have hFg : F g := hg g rfl
    have Yf : (cur.toList.drop (i * 5)).take 5 = p.cells := by
      have h1 : ∀ j, j < 5 → cur.toList[i * 5 + j]? = p.cells[j]? := fun j hj => by
        rw [← flat_get hp hj, ← htk, List.getElem?_take]
        rw [if_pos (by omega)]
      refine List.ext_getElem? fun j => ?_
      rw [List.getElem?_take]
      split
      · rw [List.getElem?_drop]
        exact h1 j (by assumption)
      · rw [List.getElem?_eq_none (by simp [cB.cells]; omega)]
    refine aK.vJ rfl rfl (by decide) 139 rfl rfl hFg hgb Tryz.underlying139 rfl (n := 5) (by kernel_rfl) (by rw [hcs]; omega) p.cells Yf ?_
    refine xm ?_
    refine aK.EP rfl rfl (by decide) (ob := .cells #[.int .u8 0, .int .u8 0, .int .u8 0, .int .u8 0, .string ⟨#[]⟩] 139) (v := fun n => .pointer (some ⟨n, 0, none⟩)) (fun w1 => by simp [go_sem]) (fun w1 => by go_simp) hin (fun w1 h1 => ?_)
    refine xm ?_
    refine aK.df rfl rfl (by decide) 139 rfl rfl (v := .agg p.cells.toArray) rfl (.inr rfl) (B := w1.heap.size) (xs := #[.int .u8 0, .int .u8 0, .int .u8 0, .int .u8 0, .string ⟨#[]⟩]) (t := 139) (iR w1 _) (by kernel_rfl) rfl (Nat.le_refl 5) p.cells rfl (fun w2 w3 h2 hb3 Kq Ua Ub Uc => ?_)
    refine xm ?_
    refine aj.regionEnd aN ?_
    refine aj.region aN _ rfl ?_
    refine xr ?_
    refine aj.quiet aN rfl rfl xB _ (fun _ => by go_simp <;> rfl) (fun _ => by simp [go_sem, *]) ?_
    refine xm ?_
    refine aK.vJ rfl rfl (by decide) 139 rfl rfl (.inr rfl) hb3 Tryz.underlying139 rfl (n := 5) (by kernel_rfl) (Nat.le_refl 5) p.cells rfl ?_
    refine xm ?_
    have hs2 : w1.heap.size + 1 ≤ w2.heap.size := by rw [← jl]; exact h2.size
    have hold : ∀ x, F x → w3.heap[x]? = w.heap[x]? := fun x hx => by
      have hx1 : x < w1.heap.size := Nat.lt_of_lt_of_le (hin x hx) h1.size
      rw [Kq x (by omega), h2.own x (.inl hx), ← h1.own x hx, alloc_old hx1]
    refine aK.stop fun w4 h4 => ?_
    have hdr : ps.drop i = p :: ps.drop (i + 1) := by
      rw [List.drop_eq_getElem_cons hlt]
      congr 1
      rw [List.getElem?_eq_getElem hlt] at hp
      exact Option.some.inj hp
    rw [hdr, List.map_cons]
    refine vQ.rely ?_ h4
    exact ⟨i, p, _, _, _, hp, rfl, rfl, rfl, .inl hF, (hold br hF).trans hB, iy ho fun x hx => hold x (hg x hx), fun x hx => .inl (hg x hx), fun x hx => hx.elim (fun hx => by have := hin x hx; have := h1.size; omega) fun hx => by omega⟩
  · obtain rfl : i = ps.length := by omega
    simp only [hlt, decide_false, Bool.false_eq_true, if_false]
    refine aj.exit aN rfl ?_
    simp only [c154, Tryz.f154, cr, Option.getD]
    refine aj.region aN _ rfl ?_
    refine xr ?_
    refine aj.quiet aN rfl rfl xB _ (fun _ => by go_simp <;> rfl) (fun _ => by simp [go_sem, *]) ?_
    refine xm ?_
    refine aj.quiet aN rfl rfl xB _ (fun _ => by go_simp <;> rfl) (fun _ => by simp [go_sem, *]) ?_
    refine xm ?_
    refine aj.quiet aN rfl rfl xB _ (fun _ => by go_simp <;> rfl) (fun _ => by simp [go_sem, *]) ?_
    refine xm ?_
    refine aK.df rfl rfl (by decide) 72 rfl rfl (v := .slice none 0 0) rfl hF hB (by kernel_rfl) rfl hrc (rc.setIfInBounds 20 (.slice none 0 0)).toList ?_ (fun w1 w3 h1 hb3 Kq Ua Ub Uc => ?_)
    · rw [Array.toList_setIfInBounds, List.set_eq_take_append_cons_drop, if_pos (by simpa using hrc)]
      simp [Value.cells]
    · refine aj.regionEnd aN ?_
      refine aj.fin aN ?_
      refine aN.go rfl (fun w => stepG_leave_deferred (fn := Tryz.f154) rfl rfl Tryz.func154 (results_none rfl _ _ _) (events_results_none rfl _ _) hm) ?_
      refine aK.stop fun w4 h4 => ?_
      rw [List.drop_length, List.map_nil]
      refine vQ.rely ?_ h4
      exact ⟨rfl, hF, hb3.trans (by rw [Array.toArray_toList]), fun x hx => by have := hin x hx; have := h1.size; omega⟩
theorem O1 {F : Nat → Prop} {w : World} (hm : cR.mode = .returning) (hn : ps.length < 1000000) (hF : F br) (hB : w.heap[br]? = some (.cells rc tR)) (hrc : rc[20]? = some sl) (ho : w.ownsRow 0 139 5 sl ps.length (flat ps)) (hg : ∀ g, sl.ownBlock = some g → F g) (hin : ∀ x, F x → x < w.heap.size) :
    aK Tryz.prog false (vQ br pk rc tR sl ps cR cs1 (ps.map cB.val)) F (G (Frame.enter Tryz.prog 154 #[.pointer (some ⟨br, 0, none⟩), .chan (some pk)] .deferred) (cR :: cs1)) w := by
  have h20 : 20 < rc.size := (Array.getElem?_eq_some_iff.1 hrc).1
  have hsl : ∃ sa cap, sl = .slice sa ps.length cap := by
    rcases ho.2 with ⟨h, h0⟩ | ⟨g, cap, cur, h, _⟩
    · exact ⟨none, 0, by rw [h, h0]⟩
    · exact ⟨_, cap, h⟩
  obtain ⟨sa, cap, hsl⟩ := hsl
  rw [O0]
  have hh := IK (cs1 := cs1) (pk := pk) (i := 0) (x5 := undef) (jv := undef) (iI := undef) (jw := undef) (jy := undef) (j3 := undef) (dU := undef) hm (Nat.zero_le _) hn hF hB h20 ho hg hin
  rw [List.drop_zero] at hh
  unfold tQ Gr xX at hh
  simp only [c154, Tryz.f154, cl, cr, cb, Option.getD] at hh ⊢
  refine aj.seq aN ?_
  refine aj.seq aN ?_
  refine aj.region aN _ rfl ?_
  refine xr ?_
  refine aj.quiet aN rfl rfl xB _ (fun _ => by go_simp <;> rfl) (fun _ => by simp [go_sem, *]) ?_
  refine xm ?_
  refine aj.quiet aN rfl rfl xB _ (fun _ => by go_simp <;> rfl) (fun _ => by simp [go_sem, *]) ?_
  refine xm ?_
  refine aj.quiet aN rfl rfl xB _ (fun _ => by go_simp <;> rfl) (fun _ => by simp [go_sem, *]) ?_
  refine xm ?_
  refine aK.ql rfl rfl (by decide) 72 rfl rfl hF hB Tryz.underlying72 rfl hrc ?_
  refine xm ?_
  subst hsl
  refine aj.quiet aN rfl rfl xB _ (fun _ => by go_simp <;> rfl) (fun _ => by simp [go_sem, *]) ?_
  refine xm ?_
  refine aj.quiet aN rfl rfl xB _ (fun _ => by go_simp <;> rfl) (fun _ => by simp [go_sem, *]) ?_
  refine xm ?_
  refine aj.regionEnd aN ?_
  refine aj.block aN ?_
  refine aj.loop aN ?_
  exact hh
theorem Sa {F : Nat → Prop} {w : World} (hm : cR.mode = .returning) (hn : ps.length < 1000000) (hrc : 20 < rc.size) {v : Value} {vs : List Value} {b : Goroutine} (h : vQ br pk rc tR sl ps cR cs1 (v :: vs) F b w) :
    (∃ p : cB, v = p.val) ∧ b.status = .running ∧ ∃ B2 z, (∀ w, stepG Tryz.prog false b w = .comm B2 #[scase pk v z] true .send w #[]) ∧ aK Tryz.prog false (vQ br pk rc tR sl ps cR cs1 vs) F (Go.Conc.served B2 undef) w := by
  obtain ⟨i, p, x5, iI, dU, h1, rfl, rfl, rfl, h5, h6, h7, h8, h9⟩ := h
  have hlt : i < ps.length := (List.getElem?_eq_some_iff.1 h1).1
  refine ⟨⟨p, rfl⟩, rfl, G ((baseD 154).at ⟨tQ br pk sl ps.length (.int .i64 i) x5 (.bool true) iI p.val (.chan (some pk)) p.val dU, []⟩ (.inRegion Ko [2] :: OZ)) (cR :: cs1), .tuple #[], fun w => ?_, ?_⟩
  · unfold Ko xX tQ
    simp only [c154, Tryz.f154, cl, cr, cb, co, Option.getD]
    rw [stepG_comm rfl rfl (by decide) (cases := #[scase pk p.val (.tuple #[])]) (blocking := true) (shape := .send) (w' := w) (by go_simp; rfl), listed_none (by simp [go_sem])]
  · have hh := IK (cs1 := cs1) (pk := pk) (i := i + 1) (x5 := x5) (jv := .bool true) (iI := iI) (jw := p.val) (jy := .chan (some pk)) (j3 := p.val) (dU := .int .i64 (i + 1 : Nat)) hm (by omega) hn h5 h6 hrc h7 h8 h9
    rw [Mt]
    unfold tQ Gr at hh
    unfold OZ Ko Gr tQ
    simp only [xX, c154, Tryz.f154, cl, cr, cb, co, Option.getD] at hh ⊢
    refine xm ?_
    refine aj.regionEnd aN ?_
    refine aj.inBlock aN ?_
    refine aj.region aN _ rfl ?_
    refine xr ?_
    refine aj.quiet aN rfl rfl xB _ (fun _ => by go_simp <;> rfl) (fun _ => by simp [go_sem, *]) ?_
    refine xm ?_
    refine aj.quiet aN rfl rfl xB _ (fun _ => by go_simp <;> rfl) (fun _ => by simp [go_sem, *]) ?_
    refine xm ?_
    refine aj.regionEnd aN ?_
    refine aj.inLoop aN ?_
    have hwr : IntKind.i64.wrap ((i : Int) + 1) = ((i + 1 : Nat) : Int) := by rw [IntKind.wrap_i64]; omega
    rw [hwr]
    exact hh
end
section
variable {P : Program} {main : Bool} {X : Goroutine → World → Prop} {b : Frame} {a : Act} {k : List Item} {cs : List Frame} {w : World}
theorem aj.defer (hX : aj P main X) {ops : Array Oper} {i : Nat} {rest : List Nat} {o : Oper} (ho : ops[i]? = some o) (hw : Region.wanted o (yielded ops a.tmps) = true) (hk : b.kind ≠ .early) (d : Deferred) (hr : ∀ w, (execOp a.eval o).run P w = .ok (.defer d) w) (he : ∀ w, (execOp a.eval o).events P w #[] = #[])
    (h : X (G (b.at (Act.put ⟨a.tmps, d :: a.defers⟩ o.dst undef) (.inRegion ops rest :: k)) cs) w) : X (G (b.at a (.inRegion ops (i :: rest) :: k)) cs) w := by
  refine hX.go rfl (fun w₁ => ?_) h
  have hfin : (b.at ⟨a.tmps, d :: a.defers⟩ (.inRegion ops (i :: rest) :: k)).finish undef = b.at (Act.put ⟨a.tmps, d :: a.defers⟩ o.dst undef) (.inRegion ops rest :: k) := by rw [Frame.finish_at, ho]; rfl
  have hk' : (b.kind == CallKind.early) = false := by simpa using hk
  rw [stepG_oper ho hw, ← hfin]
  simp [stepG.apply, hr, he, G, Frame.at, hk', GStep.after, seen_none]
theorem aj.call (hX : aj P main X) {ops : Array Oper} {i : Nat} {rest : List Nat} {o : Oper} {f : FuncId} {fn : Func} {args : Array Operand} {ats : Array TypeId} (ho : ops[i]? = some o) (hw : Region.wanted o (yielded ops a.tmps) = true) (hk : b.kind ≠ .early) (hop : o.op = .call { callee := .value (.func f), args, argTypes := ats })
    (hf : P.funcs[f]? = some fn) (hname : (fn.name == "runtime.NumGoroutine") = false) (hb : fn.body.isNone = false) (h : X (G (Frame.enter P f (args.map a.eval) .normal) (b.at a (.inRegion ops (i :: rest) :: k) :: cs)) w) : X (G (b.at a (.inRegion ops (i :: rest) :: k)) cs) w :=
  aj.enter hX ho hw hk (fun _ => run_call_body hop hf hname hb) (fun _ => events_call_body hop hf hname hb #[]) h
theorem aj.unwind (hX : aj P main X) {todo : List Item} {ds : List Deferred} {f : FuncId} {fn : Func} {c : Code} {args : Array Value} (hd : a.defers = dcall f args :: ds) (hf : P.funcs[f]? = some fn) (hname : (fn.name == "runtime.NumGoroutine") = false) (hb : fn.body = some c)
    (h : X (G (Frame.enter P f args .deferred) ({ b.at ⟨a.tmps, ds⟩ todo with mode := .returning } :: cs)) w) : X (G { b.at a todo with mode := .returning } cs) w :=
  hX.go rfl (fun _ => by rw [enter_atD args hf hb]; exact stepG_unwind_enter hd hf hname hb) h
end
def aX (P : Program) (f : FuncId) (args : Array Value) (w : World) (Post : Value → World → Prop) : Prop :=
  ∀ (main : Bool) (D : World → World → Array Event → Prop) (X : Goroutine → World → Prop) (cs : List Frame), Shut P main D X → (∀ fr v w', fr.fn = f → fr.leaving P w' (.returned v) → Post v w' → X (G fr cs) w') → X (G (Frame.enter P f args .normal) cs) w
def QD (P : Program) (f : FuncId) (c : Code) (a : Act) (w : World) (Post : Act → World → Prop) : Prop :=
  ∀ (main : Bool) (D : World → World → Array Event → Prop) (X : Goroutine → World → Prop) (b : Frame) (cs : List Frame), Shut P main D X → b.fn = f → b.kind ≠ .early → (∀ a' todo w', a'.defers = [] → Post a' w' → X (G { b.at a' todo with mode := .returning } cs) w') → X (G (b.at a [.code c]) cs) w
section
variable {P : Program} {main : Bool} {D : World → World → Array Event → Prop} {X : Goroutine → World → Prop} {w : World} {cs : List Frame}
theorem xZ {fr : Frame} {v : Value} {w w' : World} (h : fr.leaving P w (.returned v)) (hs : di w w') : fr.leaving P w' (.returned v) := by
  obtain ⟨l1, l2, l3, fn, l4, l5⟩ := h
  exact ⟨l1, l2, l3, fn, l4, qZ fn fr.tmps hs.heap hs.os hs.out l5⟩
theorem Shut.back (hX : Shut P main D X) {fr c : Frame} {v : Value} (hl : fr.leaving P w (.returned v)) (h : X (G (c.finish v) cs) w) : X (G fr (c :: cs)) w := by
  refine hX.step rfl fun w₁ h1 => ?_
  obtain ⟨hm, hd, hk, fn, hfn, hr⟩ := xZ hl h1
  have hr' : ((results fn fr.tmps).runT P w₁ #[]).1 = .ok v w₁ := by rw [Sem.runT_fst]; exact hr
  have hst : stepG P main (G fr (c :: cs)) w₁ = .go (G (c.finish v) cs) w₁ (seen P fr.fn ((results fn fr.tmps).runT P w₁ #[]).2 ++ #[]) := by
    simp only [G, stepG, unwind, doReturn, hm, hd, hk, hfn, hr']
    rfl
  rw [hst, goes_go]
  refine ⟨hX.plain ⟨fun e he => ?_, iH.refl _⟩, hX.rely h1 h⟩
  have h2 := (rG (Q := fun _ => True) P (results fn fr.tmps) w₁ #[] (vD (kn := []) fn fr.tmps) (by
    have := dN.bind (Q := fun _ => True) (f := fun v => (pure v : Sem Value)) (fun _ => trivial) (results fn fr.tmps)
    rwa [bind_pure] at this)).2 (by simp)
  exact h2 e (nD _ _ _ e (by simpa using he))
end
def vR (th : Nat) : Deferred := { target := .builtin .close #[241] 0 #[false], args := #[.chan (some th)] }
def ko (P : Program) : Frame := { (default : Frame) with fn := P.funcs.size, defers := [], mode := .panicking [goexitEntry] }
theorem Kr {P : Program} {main : Bool} {b : Frame} {tm : Array Value} {todo : List Item} {cs : List Frame} {th kt : Nat} (hq : (P.funcs[b.fn]?).any (·.norace) = false) (w : World) (h : w.heap[th]? = some (.chan 0 #[] false kt kt false)) :
    stepG P main (G { b.at ⟨tm, [vR th]⟩ todo with mode := .returning } cs) w = .go (G { b.at ⟨tm, []⟩ todo with mode := .returning } cs) { w with heap := w.heap.setIfInBounds th (.chan 0 #[] true kt kt false) } #[⟨.obj th, false, true⟩, ⟨.obj th, true, true⟩] := by
  have hr : (builtin .close #[241] 0 #[false] #[.chan (some th)]).run P w = .ok (.value (.tuple #[])) { w with heap := w.heap.setIfInBounds th (.chan 0 #[] true kt kt false) } := by
    simp [builtin, run_close_open _ _ h]
  have he : (builtin .close #[241] 0 #[false] #[.chan (some th)]).events P w #[] = #[⟨.obj th, false, true⟩, ⟨.obj th, true, true⟩] := by
    simp [builtin, events_close_open _ _ h]
  have hs : seen P b.fn #[⟨.obj th, false, true⟩, ⟨.obj th, true, true⟩] = #[⟨.obj th, false, true⟩, ⟨.obj th, true, true⟩] := by
    unfold seen
    simp [hq]
  simp [G, stepG, unwind, callDeferred, Frame.at, vR, invoke, hr, he, hs, GStep.after]
theorem Gt {P : Program} {tm : Array Value} {todo : List Item} {f : FuncId} {fn : Func} (hf : P.funcs[f]? = some fn) (hr : fn.results = #[]) : QuitsD P 2 0 (G { (baseD f).at ⟨tm, []⟩ todo with mode := .returning } [ko P]) := by
  refine QuitsD.ctl rfl (g' := G (ko P) []) (fun w => ?_) ?_
  · have h1 := results_none hr tm P w
    have h2 := events_results_none (w := w) (P := P) hr tm #[]
    simp [G, stepG, unwind, doReturn, Frame.at, baseD, hf, h1, h2, GStep.after, seen_none, ko, goexitEntry]
  · refine QuitsD.ctl rfl (g' := { G (ko P) [] with status := .finished }) (fun w => ?_) ⟨rfl, rfl⟩
    have hc : Frame.catches P (ko P) = false := by
      unfold Frame.catches ko
      simp
      rfl
    simp only [G, stepG, unwind, ko] at hc ⊢
    simp only [hc, Bool.false_eq_true, if_false]
    rfl
theorem Mv {P : Program} {main : Bool} {f : FuncId} {fn : Func} {c : Code} (args : Array Value) (hf : P.funcs[f]? = some fn) (hname : (fn.name == "runtime.NumGoroutine") = false) (hb : fn.body = some c) (w : World) :
    stepG P main (born P (dcall f args)) w = .go (G (Frame.enter P f args .deferred) [ko P]) w #[] := by
  have h1 : ¬ fn.name = "runtime.NumGoroutine" := by simpa using hname
  simp [born, G, stepG, unwind, callDeferred, dcall, invoke, callFunc, hf, h1, hb, GStep.after, seen_none, ko]
theorem yh {P : Program} {w : World} {a : Act} {o : Oper} {x : Operand} {f : FuncId} {fst cap : Array Value} {fn : Func} (hop : o.op = .call { callee := .value x, args := #[], argTypes := #[] }) (hx : a.eval x = .func (.func f) fst cap) (hf : P.funcs[f]? = some fn) (hname : (fn.name == "runtime.NumGoroutine") = false) (hb : fn.body.isNone = false) :
    (execOp a.eval o).run P w = .ok (.enter f (fst ++ cap)) w ∧ (execOp a.eval o).events P w #[] = #[] := by
  have h1 : ¬ fn.name = "runtime.NumGoroutine" := by simpa using hname
  have h2 : ¬ fn.body = none := by cases hx : fn.body <;> simp_all
  constructor <;> (unfold execOp; simp [hop, resolve, Deferred.ofValue, invoke, callFunc, hf, h1, h2, hx])
theorem Shut.deferred {main : Bool} {D : World → World → Array Event → Prop} {X : Goroutine → World → Prop} {w : World} (hX : Shut Tryz.prog main D X) {f : FuncId} {fn : Func} {c : Code} (hfn : Tryz.prog.funcs[f]? = some fn) (hb : fn.body = some c) (hr : fn.results = #[]) (hok : iO kH slotsOf f c = true) (hS : slotsOf f = []) {args : Array Value} {cF : Frame} (hm : cF.mode = .returning) {cs : List Frame}
    (hc : ∀ w₁, di w w₁ → c.wp Tryz.prog (fun e a' w' => match e with | .normal => a'.defers = [] ∧ X (G cF cs) w' | .ret => a'.defers = [] ∧ X (G cF cs) w' | _ => False) { tmps := args ++ Array.replicate (fn.ntmps - args.size) undef, defers := [] } w₁) : X (G (Frame.enter Tryz.prog f args .deferred) (cF :: cs)) w := by
  rw [enter_atD args hfn hb]
  have hlv : ∀ (a' : Act) (todo : List Item) (w' : World), a'.defers = [] → X (G cF cs) w' → X (G { (baseD f).at a' todo with mode := .returning } (cF :: cs)) w' := fun a' todo w' hd h =>
    hX.c.go rfl (fun w => stepG_leave_deferred (b := baseD f) rfl hd hfn (results_none hr _ _ _) (events_results_none hr _ _) hm) h
  refine hX.code VK (b := baseD f) hok rfl ⟨fn, hfn⟩ rfl (by show tJ kH slotsOf f _; unfold tJ; rw [hS]; intro t ht; cases ht) fun w₁ h1 => wp_mono (hc w₁ h1) fun e a' w' hq => ?_
  cases e with
  | normal => exact aj.fin hX.c (hlv a' [] w' hq.1 hq.2)
  | ret => exact fun todo => hlv a' todo w' hq.1 hq.2
  | _ => exact hq
noncomputable def DC : Code := Tryz.f106.body.getD .skip
noncomputable def O3 : Array Oper := co (cr (cr (cr DC)))
theorem IL : Tryz.f106.body = some DC := by
  unfold DC
  rfl
theorem O4 (x y z u : Value) : Frame.enter Tryz.prog 106 #[x, y, z, u] .deferred = (baseD 106).at ⟨#[x, y, z, u, undef, undef, undef, undef, undef, undef, undef, undef, undef, undef], []⟩ [.code DC] := by
  have h := enter_atD (P := Tryz.prog) #[x, y, z, u] Tryz.func106 IL
  rw [show Tryz.f106.ntmps = 14 from rfl] at h
  rw [h]
  walk_nrm
def vK (r wk : Value) (pk th : Nat) (x : Value) : Array Value := #[r, wk, .chan (some pk), .chan (some th), undef, undef, undef, undef, .chan (some th), r, .chan (some pk), r, wk, x]
noncomputable def Kt (r wk : Value) (pk th : Nat) : Frame := (baseD 106).at ⟨vK r wk pk th undef, [dcall 155 #[r], dcall 154 #[r, .chan (some pk)], vR th]⟩ [.inRegion O3 [1]]
def qP (r wk : Value) (pk th : Nat) (x : Value) (ds : List Deferred) : Frame := { (baseD 106).at ⟨vK r wk pk th x, ds⟩ [] with mode := .returning }
section
variable {D : World → World → Array Event → Prop} {X : Goroutine → World → Prop} {w : World} {r : Value} {pk th : Nat}
theorem EJ (hX : Shut Tryz.prog false D X) {f : FuncId} {fst cap : Array Value} {fn : Func} (hf : Tryz.prog.funcs[f]? = some fn) (hname : (fn.name == "runtime.NumGoroutine") = false) (hb : fn.body.isNone = false)
    (h : X (G (Frame.enter Tryz.prog f (fst ++ cap) .normal) [Kt r (.func (.func f) fst cap) pk th, ko Tryz.prog]) w) : X (born Tryz.prog (dcall 106 #[r, .func (.func f) fst cap, .chan (some pk), .chan (some th)])) w := by
  refine hX.c.go rfl (fun w => Mv _ Tryz.func106 (by kernel_rfl) IL w) ?_
  rw [O4]
  unfold Kt vK O3 at h
  simp only [DC, Tryz.f106, cr, co, Option.getD] at h ⊢
  refine aj.seq hX.c ?_
  refine aj.region hX.c _ rfl ?_
  refine xr ?_
  refine aj.quiet hX.c rfl rfl xB _ (fun _ => by go_simp <;> rfl) (fun _ => by simp [go_sem, *]) ?_
  refine xm ?_
  refine aj.defer hX.c rfl rfl (by decide) (vR th) (fun _ => by go_simp; rfl) (fun _ => by simp [go_sem]) ?_
  refine xm ?_
  refine aj.regionEnd hX.c ?_
  refine aj.seq hX.c ?_
  refine aj.region hX.c _ rfl ?_
  refine xr ?_
  refine aj.quiet hX.c rfl rfl xB _ (fun _ => by go_simp <;> rfl) (fun _ => by simp [go_sem, *]) ?_
  refine xm ?_
  refine aj.quiet hX.c rfl rfl xB _ (fun _ => by go_simp <;> rfl) (fun _ => by simp [go_sem, *]) ?_
  refine xm ?_
  refine aj.defer hX.c rfl rfl (by decide) (dcall 154 #[r, .chan (some pk)]) (fun _ => by go_simp; rfl) (fun _ => by simp [go_sem]) ?_
  refine xm ?_
  refine aj.regionEnd hX.c ?_
  refine aj.seq hX.c ?_
  refine aj.region hX.c _ rfl ?_
  refine xr ?_
  refine aj.quiet hX.c rfl rfl xB _ (fun _ => by go_simp <;> rfl) (fun _ => by simp [go_sem, *]) ?_
  refine xm ?_
  refine aj.defer hX.c rfl rfl (by decide) (dcall 155 #[r]) (fun _ => by go_simp; rfl) (fun _ => by simp [go_sem]) ?_
  refine xm ?_
  refine aj.regionEnd hX.c ?_
  refine aj.region hX.c _ rfl ?_
  refine xr ?_
  refine aj.quiet hX.c rfl rfl xB _ (fun _ => by go_simp <;> rfl) (fun _ => by simp [go_sem, *]) ?_
  refine xm ?_
  refine aj.enter hX.c rfl rfl (by decide) (fun w => (yh rfl rfl hf hname hb).1) (fun w => (yh rfl rfl hf hname hb).2) ?_
  exact h
theorem EK (hX : Shut Tryz.prog false D X) {wk v : Value} (h : X (G (Frame.enter Tryz.prog 155 #[r] .deferred) [qP r wk pk th v [dcall 154 #[r, .chan (some pk)], vR th], ko Tryz.prog]) w) : X (G ((Kt r wk pk th).finish v) [ko Tryz.prog]) w := by
  unfold Kt vK O3
  rw [Frame.finish_at]
  unfold qP vK at h
  simp only [DC, Tryz.f106, cr, co, Option.getD]
  refine xm ?_
  refine aj.regionEnd hX.c ?_
  refine aj.fin hX.c ?_
  exact aj.unwind hX.c rfl Tryz.func155 (c := Tryz.f155.body.getD .skip) (by kernel_rfl) rfl h
theorem Gu (hX : Shut Tryz.prog false D X) {wk v : Value} (h : X (G (Frame.enter Tryz.prog 154 #[r, .chan (some pk)] .deferred) [qP r wk pk th v [vR th], ko Tryz.prog]) w) : X (G (qP r wk pk th v [dcall 154 #[r, .chan (some pk)], vR th]) [ko Tryz.prog]) w := by
  unfold qP vK at h ⊢
  exact aj.unwind hX.c rfl Tryz.func154 (by kernel_rfl) IJ h
end
noncomputable def c59 : Code := Tryz.f59.body.getD .skip
theorem Gv : Tryz.f59.body = some c59 := by
  unfold c59
  rfl
theorem Sb (x y z : Value) : Frame.enter Tryz.prog 59 #[x, y, z] .normal = (Go.Conc.base 59).at ⟨#[x, y, z, undef, undef, undef, undef, undef, undef, undef, undef, undef, undef, undef, undef, undef, undef, undef, undef, undef, undef, undef, undef, undef, undef], []⟩ [.code c59] := by
  have h := enter_at (P := Tryz.prog) #[x, y, z] Tryz.func59 Gv
  rw [show Tryz.f59.ntmps = 25 from rfl] at h
  rw [h]
  walk_nrm
noncomputable def Gw : Code := cb (cb (cr (cr (cr c59))))
noncomputable def Gx : Code := cb Gw
noncomputable def Au : Array Oper := co (cl (cr Gx))
noncomputable def Gy : List Item := [.code (cr (cr Gx)), .inBlock 1, .inLoop Gw, .inBlock 0]
def yj (c r wk : Value) (pk th : Nat) (x8 dU gz gL x20 oV oW oZ x24 : Value) : Array Value := #[c, r, wk, undef, undef, undef, .chan (some pk), .chan (some th), x8, .chan (some pk), .chan (some th), r, wk, .chan (some pk), .chan (some th), .chan (some pk), .chan (some th), dU, gz, gL, x20, oV, oW, oZ, x24]
def z59 : Value := .agg #[.int .u8 0, .int .u8 0, .int .u8 0, .int .u8 0, .string ⟨#[]⟩]
def ry : Value := .agg #[]
noncomputable def vS (c r wk : Value) (pk th : Nat) (x8 dU gz gL x20 oV oW oZ x24 : Value) (cs : List Frame) : Goroutine := G ((Go.Conc.base 59).at ⟨yj c r wk pk th x8 dU gz gL x20 oV oW oZ x24, []⟩ (.inRegion Au [0, 1, 2, 3] :: Gy)) cs
theorem zh (c r wk : Value) (pk th : Nat) (x8 dU gz gL x20 oV oW oZ x24 : Value) (cs : List Frame) : jk Tryz.prog (dX pk th z59 ry) (vS c r wk pk th x8 dU gz gL x20 oV oW oZ x24 cs) (vS c r wk pk th x8 dU gz gL x20 oV oW oZ x24 cs) := by
  refine ⟨rfl, rfl, rfl, rfl, fun w => ?_⟩
  unfold vS Au yj
  simp only [Gx, Gw, c59, Tryz.f59, cl, cr, cb, co, Option.getD]
  rw [stepG_comm rfl rfl (by decide) (cases := dX pk th z59 ry) (blocking := true) (shape := .select) (w' := w) (by go_simp; rfl), listed_none (by simp [go_sem])]
section
variable {X : Goroutine → World → Prop} {w : World} {c r wk : Value} {cs : List Frame}
theorem vT {P : Program} {main : Bool} {b : Frame} {a : Act} {k : List Item} (hX : Shut P main qd X) {ops : Array Oper} {i : Nat} {rest : List Nat} {o : Oper} (ho : ops[i]? = some o) (hw : Region.wanted o (yielded ops a.tmps) = true) (hk : b.kind ≠ .early)
    {t e : TypeId} {dir : ChanDir} (hop : o.op = .makeChan t (.const (.int .i64 0))) (ht : P.underlying t = some (.chan dir e)) (hi : (P.info? e).isSome = true)
    (h : X (G (b.at (a.put o.dst (.chan (some w.heap.size))) (.inRegion ops rest :: k)) cs) (w.alloc (.chan 0 #[] false 0 0 false))) : X (G (b.at a (.inRegion ops (i :: rest) :: k)) cs) w := by
  obtain ⟨ii, hi⟩ := Option.isSome_iff_exists.1 hi
  have hx : execOp a.eval o = (do pure (Next.value (← Instr.makeChan t (.int .i64 0)))) := by unfold execOp; rw [hop]; rfl
  have hr : ∀ w : World, (execOp a.eval o).run P w = .ok (.value (.chan (some w.heap.size))) (w.alloc (.chan 0 #[] false 0 0 false)) := fun w => by
    have := run_makeChan (P := P) (w := w) ht hi .i64 0 (by decide) (by simp)
    rw [hx, Sem.run_bind, show (Instr.makeChan t (.int .i64 0)).run P w = _ from this]
    rfl
  have he : ∀ w : World, (execOp a.eval o).events P w #[] = #[] := fun w => by
    rw [hx, Bp]
    exact events_makeChan (P := P) (w := w) ht hi .i64 0 (by decide) (by simp) #[]
  refine hX.step rfl fun w₁ h1 => ?_
  rw [stepG_value ho hw hk (hr w₁), listed_none (he w₁), goes_go]
  obtain ⟨p, rfl⟩ := h1
  exact ⟨by intro e he; simp at he, hX.rely ⟨p, rfl⟩ h⟩
theorem H6 (hX : Shut Tryz.prog true qd X)
    (h : X (G ((Go.Conc.base 59).at ⟨#[c, r, wk, undef, undef, undef, .chan (some w.heap.size), .chan (some (w.heap.size + 1)), undef, .chan (some w.heap.size), .chan (some (w.heap.size + 1)), r, wk, .chan (some w.heap.size), .chan (some (w.heap.size + 1)), undef, undef, undef, undef, undef, undef, undef, undef, undef, undef], []⟩ [.inRegion (co (cl (cr (cr c59)))) [4], .code (cr (cr (cr c59)))]) cs) ((w.alloc (.chan 0 #[] false 0 0 false)).alloc (.chan 0 #[] false 0 0 false))) : X (G (Frame.enter Tryz.prog 59 #[c, r, wk] .normal) cs) w := by
  rw [Sb]
  simp only [c59, Tryz.f59, cl, cr, co, Option.getD] at h ⊢
  refine aj.seq hX.c ?_
  refine aj.region hX.c _ rfl ?_
  refine xr ?_
  refine vT hX rfl rfl (by decide) rfl Tryz.underlying197 (by kernel_rfl) ?_
  refine xm ?_
  refine aj.quiet hX.c rfl rfl xB _ (fun _ => by go_simp <;> rfl) (fun _ => by simp [go_sem, *]) ?_
  refine xm ?_
  refine aj.regionEnd hX.c ?_
  refine aj.seq hX.c ?_
  refine aj.region hX.c _ rfl ?_
  refine xr ?_
  refine vT hX rfl rfl (by decide) rfl Tryz.underlying198 (by kernel_rfl) ?_
  refine xm ?_
  rw [jl]
  refine aj.quiet hX.c rfl rfl xB _ (fun _ => by go_simp <;> rfl) (fun _ => by simp [go_sem, *]) ?_
  refine xm ?_
  refine aj.regionEnd hX.c ?_
  refine aj.seq hX.c ?_
  refine aj.region hX.c _ rfl ?_
  refine xr ?_
  refine aj.quiet hX.c rfl rfl xB _ (fun _ => by go_simp <;> rfl) (fun _ => by simp [go_sem, *]) ?_
  refine xm ?_
  refine aj.quiet hX.c rfl rfl xB _ (fun _ => by go_simp <;> rfl) (fun _ => by simp [go_sem, *]) ?_
  refine xm ?_
  refine aj.quiet hX.c rfl rfl xB _ (fun _ => by go_simp <;> rfl) (fun _ => by simp [go_sem, *]) ?_
  refine xm ?_
  refine aj.quiet hX.c rfl rfl xB _ (fun _ => by go_simp <;> rfl) (fun _ => by simp [go_sem, *]) ?_
  refine xm ?_
  exact h
end
theorem WU {P : Program} {cs : Array CommCase} {A2 : Goroutine} : aj P true (fun g _ => ∃ n, QW P cs A2 n g) := ⟨fun hr hs ⟨n, h⟩ => ⟨n + 1, .inr ⟨hr, _, hs, h⟩⟩⟩
theorem H7 {X : Goroutine → World → Prop} (hC : aj Tryz.prog true X) {w : World} {c r wk : Value} {pk th : Nat} {cs : List Frame} (hh' : X (vS c r wk pk th undef undef undef undef undef undef undef undef undef cs) w) : X (G ((Go.Conc.base 59).at ⟨#[c, r, wk, undef, undef, undef, .chan (some pk), .chan (some th), undef, .chan (some pk), .chan (some th), r, wk, .chan (some pk), .chan (some th), undef, undef, undef, undef, undef, undef, undef, undef, undef, undef], []⟩ [.inRegion (co (cl (cr (cr c59)))) [], .code (cr (cr (cr c59)))]) cs) w := by
  unfold vS yj Gy Au at hh'
  simp only [Gx, Gw, c59, Tryz.f59, cl, cr, cb, co, Option.getD] at hh' ⊢
  refine aj.regionEnd hC ?_
  refine aj.block hC ?_
  refine aj.loop hC ?_
  refine aj.block hC ?_
  refine aj.seq hC ?_
  refine aj.seq hC ?_
  refine aj.region hC _ rfl ?_
  refine xr ?_
  refine aj.quiet hC rfl rfl xB _ (fun _ => by go_simp <;> rfl) (fun _ => by simp [go_sem, *]) ?_
  refine xm ?_
  refine aj.regionEnd hC ?_
  refine aj.region hC _ rfl ?_
  refine xr ?_
  refine aj.quiet hC rfl rfl xB _ (fun _ => by go_simp <;> rfl) (fun _ => by simp [go_sem, *]) ?_
  refine xm ?_
  refine aj.regionEnd hC ?_
  refine aj.seq hC ?_
  refine aj.region hC _ rfl ?_
  refine xr ?_
  exact hh'
theorem Mw (c r wk : Value) (pk th : Nat) (cs : List Frame) : ∃ n, QW Tryz.prog (dX pk th z59 ry) (vS c r wk pk th undef undef undef undef undef undef undef undef undef cs) n (G ((Go.Conc.base 59).at ⟨#[c, r, wk, undef, undef, undef, .chan (some pk), .chan (some th), undef, .chan (some pk), .chan (some th), r, wk, .chan (some pk), .chan (some th), undef, undef, undef, undef, undef, undef, undef, undef, undef, undef], []⟩ [.inRegion (co (cl (cr (cr c59)))) [], .code (cr (cr (cr c59)))]) cs) :=
  H7 (w := default) (WU (P := Tryz.prog) (cs := dX pk th z59 ry) (A2 := vS c r wk pk th undef undef undef undef undef undef undef undef undef cs)) ⟨0, zh _ _ _ _ _ _ _ _ _ _ _ _ _ _ _⟩
section
variable {P : Program} {main : Bool} {Stop : (Nat → Prop) → Goroutine → World → Prop} {F : Nat → Prop} {w : World} {b : Frame} {a : Act} {k : List Item} {cs : List Frame} {ops : Array Oper}
theorem aK.drawn {id : Nat} (hm : P.follows .mixedOrders = true) (I : Nat → Array Bool → (Nat → Prop) → Act → World → Prop) (h0 : ∀ w1, bA F w w1 → I ops.size (Array.replicate ops.size false) F a w1)
    (hstep : ∀ n l F a w i rest, I (n + 1) l F a w → l.getD i true = false → (∃ o, ops[i]? = some o ∧ ∀ e ∈ o.after, Region.binds .any e = true → l.getD e.on false = true) → (∀ F' a' w', I n (l.setIfInBounds i true) F' a' w' → aK P main Stop F' (G (b.at a' (.inRegion ops rest :: k)) cs) w') → aK P main Stop F (G (b.at a (.inRegion ops (i :: rest) :: k)) cs) w)
    (hend : ∀ n l F a w, I n l F a w → n = 0 ∨ Region.ready .any ops l = [] → aK P main Stop F (G (b.at a k) cs) w) : aK P main Stop F (G (b.at a (.code (.region id ops true) :: k)) cs) w := by
  have key : ∀ (n t : Nat) (l : Array Bool) (F : Nat → Prop) (a : Act) (w : World), I n l F a w → aK P main Stop F (G (b.at a (.inRegion ops (Region.linearise.go .any ops n t l []) :: k)) cs) w := by
    intro n
    induction n with
    | zero => exact fun t l F a w h => aj.regionEnd aN (hend 0 l F a w h (.inl rfl))
    | succ n ih =>
      intro t l F a w h
      simp only [Region.linearise.go]
      change aK P main Stop F (G (b.at a (.inRegion ops (match (Region.ready .any ops l)[t % (Region.ready .any ops l).length]? with
        | some i => Region.linearise.go .any ops n (t / (Region.ready .any ops l).length) (l.setIfInBounds i true) [i]
        | none => [].reverse) :: k)) cs) w
      cases hi : (Region.ready .any ops l)[t % (Region.ready .any ops l).length]? with
      | none =>
        have hnil : Region.ready .any ops l = [] := by
          cases hr : Region.ready .any ops l with
          | nil => rfl
          | cons x xs =>
            rw [hr] at hi
            have := List.getElem?_eq_none_iff.1 hi
            have := Nat.mod_lt t (show 0 < (x :: xs).length by simp)
            omega
        exact aj.regionEnd aN (hend _ l F a w h (.inr hnil))
      | some i =>
        have hmem := mem_ready.1 (List.mem_of_getElem? hi)
        simp only []
        rw [linearise_go_acc, List.reverse_singleton, List.singleton_append]
        exact hstep n l F a w i _ h hmem.1 hmem.2 fun F' a' w' h' => ih _ _ F' a' w' h'
  refine aK.step rfl fun w1 h1 => ?_
  have hs : stepG P main (G (b.at a (.code (.region id ops true) :: k)) cs) w1 = .go (G (b.at a (.inRegion ops (Region.schedule (P.follows .mixedOrders) ops (w1.tape w1.drawn (.order b.fn id))) :: k)) cs) { w1 with drawn := w1.drawn + 1 } #[] := by
    simp [G, stepG, stepG.exec, Frame.at, choose, Sem.run, Question.forced, Question.cut]
  have hgs : Grow F w1 { w1 with drawn := w1.drawn + 1 } = F := qV rfl
  rw [hs, goes_go, hgs]
  refine ⟨⟨Nat.le_refl _, fun _ _ _ => rfl, rfl, rfl, by simp⟩, ?_⟩
  simp only [Region.schedule, hm, Bool.true_or, if_true]
  exact key _ _ _ F a _ (h0 _ (h1.trans ⟨Nat.le_refl _, fun _ _ => rfl, rfl, rfl⟩))
theorem aK.Sc {i : Nat} {rest : List Nat} {o : Oper} (ho : ops[i]? = some o) (hw : Region.wanted o (yielded ops a.tmps) = true) (hk : b.kind ≠ .early) {s x : Operand} {t : TypeId} (hop : o.op = .call { callee := .builtin .append, args := #[s, x], argTypes := #[t, t] })
    (e : TypeId) (ii : TypeInfo) (z : Value) (size bytes : Nat) (ht : P.underlying t = some (.slice e)) (hi : P.info? e = some ii) (hz : ii.zero = some z) (hsize : ii.size = size) (hby : ii.bytes = bytes) (hzs : z.cells.size = size) (hsz : 0 < size)
    {v : Value} {n : Nat} {xs : List Value} (hs : a.eval s = v) (hown : w.ownsRow 0 e size v n xs) (QE : ∀ g, v.ownBlock = some g → F g) {B m c : Nat} {news : List Value} (hx : a.eval x = .slice (some ⟨B, 0, none⟩) m c) (hB : F B) {nb : Array Value} {tb : TypeId} (hW : w.heap[B]? = some (.cells nb tb)) (hnb : nb.toList.take (m * size) = news) (hl : news.length = m * size) (h1 : ∀ u ∈ news, u.oneCell' = true)
    (h63 : n + m ≤ maxLen) (hbytes : (n + m) * bytes ≤ 140737488355328) (hin : ∀ x, F x → x < w.heap.size)
    (h : ∀ w1 F' v' w', bA F w w1 → (∀ x, F x → F' x) → (∀ x, F' x → x < w'.heap.size) → (∀ x, F' x → F x ∨ w1.heap.size ≤ x) → w'.ownsRow 0 e size v' (n + m) (xs ++ news) → (∀ g, v'.ownBlock = some g → F' g) → (∀ x, F x → some x ≠ v.ownBlock → w'.heap[x]? = w1.heap[x]?) → aK P main Stop F' (G (b.at (a.put o.dst v') (.inRegion ops rest :: k)) cs) w') : aK P main Stop F (G (b.at a (.inRegion ops (i :: rest) :: k)) cs) w := by
  refine aK.Ye ho hw hk fun w1 hr K hK => ?_
  have hown1 : w1.ownsRow 0 e size v n xs := iy hown fun g hg => hr.own g (QE g hg)
  have hW1 : w1.heap[B]? = some (.cells nb tb) := (hr.own B hB).trans hW
  have hnews : ∀ j u, news[j]? = some u → w1.cell? ((⟨B, 0, none⟩ : Addr).add j) = some u := fun j u hu => by
    have hadd : (⟨B, 0, none⟩ : Addr).add j = ⟨B, j, none⟩ := by unfold Addr.add; split <;> simp_all
    rw [hadd, af hW1]
    rw [← hnb, List.getElem?_take] at hu
    split at hu
    · simpa using hu
    · cases hu
  obtain ⟨v', w', hrun, ho', hg⟩ := qx (P := P) w1 0 t o.type e ii z size bytes ht hi hz hsize hby hzs hsz v n xs hown1 ⟨B, 0, none⟩ m c news hl hnews h1 h63 hbytes (Nat.zero_le _)
  have hev := events_append_where (P := P) w1 0 t o.type e ii z size bytes ht hi hz hsize hby v n xs hown1 ⟨B, 0, none⟩ m c news hl hnews h1 h63 hbytes
  refine uponK_append s x t hop hs hx hrun (hK _ _ ⟨hg.grown.size, fun y hy hnF => hg.grown.block y hy fun e => hnF (QE y e.symm), hg.grown.os, hg.grown.output, fun ev Dy => ?_⟩ ?_)
  · have h2 := nD _ _ _ ev Dy
    rw [events_append_op s x t hop hs hx] at h2
    rcases hev ev h2 with ⟨ad, e1, e2⟩ | ⟨mk, rfl, hn⟩
    · refine vI e1 (.inl ?_)
      rcases e2 with ⟨_, e2⟩ | e2
      · rw [e2]; exact hB
      · exact QE _ e2.symm
    · exact OY hn
  · refine h w1 _ v' w' hr (fun y hy => .inl hy) ?_ ?_ ho' ?_ ?_
    · rintro y (hy | hy)
      · have := hin y hy; have := hr.size; have := hg.grown.size; omega
      · exact hy.2
    · rintro y (hy | hy)
      · exact .inl hy
      · exact .inr hy.1
    · intro g hgo
      rcases hg.own with he | he
      · exact .inl (QE g (he ▸ hgo))
      · refine .inr ⟨he g hgo, ?_⟩
        rcases ho'.2 with ⟨rfl, _⟩ | ⟨g', cap, cur, rfl, _, hb, _⟩
        · cases hgo
        · have : g' = g := by simpa [Value.ownBlock] using hgo
          subst this
          exact (Array.getElem?_eq_some_iff.1 hb).1
    · intro y hy hne
      exact hg.grown.block y (by have := hin y hy; have := hr.size; omega) hne
end
end
end Go.Proofs.YtignemioillaiaaGreat
