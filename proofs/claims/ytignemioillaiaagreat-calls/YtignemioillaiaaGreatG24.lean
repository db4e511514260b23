/- Code: what is asked of it; a function by its code. -/
import Derived.Test.YtignemioillaiaaGreatG23
namespace Go.Proofs.YtignemioillaiaaGreat
set_option maxHeartbeats 8000000
set_option maxRecDepth 100000
section
open Go Go.Conc
/-- How code is left. -/
inductive Ex where
  | n | x (id : Nat) | r
/-- How a block is left; what is asked where code falls through (P), or does not (Q). Each names its Q once: else what follows is written anew at each block. -/
noncomputable def blE (id : Nat) (e : Ex) : Ex := Ex.rec (motive := fun _ => Ex) .n (fun j => bif Nat.beq id j then .n else .x j) .r e
noncomputable def pkE (P Q : Prop) (e : Ex) : Prop := Ex.rec (motive := fun _ => Prop) P (fun _ => Q) Q e
def SubL : Sg → Sg → Prop
  | [], _ => True
  | (i, v) :: r, s => at? s i = some v ∧ SubL r s
theorem sb : ∀ {q s : Sg}, q.map (fun p => at? s p.1) = q.map (fun p => some p.2) → SubL q s
  | [], _, _ => trivial
  | (_, _) :: _, _, h => by
    rw [List.map_cons, List.map_cons] at h
    exact ⟨(List.cons.inj h).1, sb (List.cons.inj h).2⟩
theorem SubL.get : ∀ {q s : Sg} {i : Nat} {v : Value}, SubL q s → at? q i = some v → at? s i = some v
  | [], _, _, _, _, h => by cases h
  | (j, u) :: r, s, i, v, hs, h => by
    rw [at?_cons] at h
    cases hb : Nat.beq i j with
    | true =>
      rw [hb] at h
      have := Nat.eq_of_beq_eq_true hb
      subst this
      simp only [cond_true, Option.some.injEq] at h
      rw [← h]; exact hs.1
    | false => rw [hb] at h; exact SubL.get hs.2 h
theorem Fit.sub {n : Nat} {q s : Sg} {a : Act} (h : Fit n s a) (hs : SubL q s) : Fit n q a := ⟨h.defers, h.size, fun i v hi => h.get i v (hs.get hi)⟩
section
variable {P : Program} [Ser P] (E : Eng P) (n : Nat)
noncomputable def codeW (c : Code) : (Ex → Sg → World → Prop) → Sg → World → Prop := Code.rec (motive := fun _ => (Ex → Sg → World → Prop) → Sg → World → Prop)
  (fun K s w => K .n s w)
  (fun _ ops draw K s w => match draw with
    | false => regW E n ops (K .n) ops.toList s w
    | true => drW E n ops (K .n) s w)
  (fun _ _ ia ib K s w => ia (fun e s w => pkE (ib K s w) (K e s w) e) s w)
  (fun c _ _ ia ib K s w => match ev s c with
    | some (.bool t) => bif t then ia K s w else ib K s w
    | _ => False)
  (fun id _ ic K s w => ic (fun e s w => K (blE id e) s w) s w)
  (fun _ ic K s w => ∃ I : Nat → Sg → World → Prop, (∃ m q, I m q w ∧ SubL q s) ∧ ∀ m s w, I m s w → ic (fun e s w => pkE (∃ m' q, I m' q w ∧ SubL q s ∧ m' < m) (K e s w) e) s w)
  (fun _ _ _ _ _ _ _ _ _ => False)
  (fun id K s w => K (.x id) s w)
  (fun _ _ _ _ _ => False)
  (fun _ _ _ _ => False)
  (fun _ _ _ _ => False)
  (fun K s w => K .r s w)
  (fun _ _ _ _ => False) c
end
section
variable {P : Program} [Ser P] {main : Bool} {D : World → World → Array Event → Prop} {X : Goroutine → World → Prop} {b : Frame} {cs : List Frame} {E : Eng P} {n : Nat}
/-- What comes behind it. -/
def Aft (X : Goroutine → World → Prop) (b : Frame) (cs : List Frame) (n : Nat) (k : List Item) (e : Ex) (s : Sg) (w : World) : Prop := ∀ a, Fit n s a → match e with
  | .n => X (G (b.at a k) cs) w
  | .x id => ∃ k', exitTo id k = some k' ∧ X (G (b.at a k') cs) w
  | .r => ∀ todo, X (G { b.at a todo with mode := .returning } cs) w
theorem codeW_ok (hX : SX P main D X) (hk : b.kind ≠ .early) (hm : P.follows .mixedOrders = true) : ∀ (c : Code) (K : Ex → Sg → World → Prop) (k : List Item), (∀ e s w, K e s w → Aft X b cs n k e s w) → ∀ (s : Sg) (w : World) (a : Act), Fit n s a → codeW E n c K s w → X (G (b.at a (.code c :: k)) cs) w := by
  intro c
  induction c with
  | skip => exact fun K k hK s w a hf h => hX.c.skip (hK _ _ _ h a hf)
  | region id ops draw =>
    intro K k hK s w a hf h
    cases draw with
    | false =>
      refine hX.c.region (List.range' 0 ops.toList.length) (by rw [Array.length_toList, List.range_eq_range']) ?_
      exact regW_ok hX hk (fun s w h a hf => hK .n s w h a hf) ops.toList 0 s w a (fun j o hj => by rw [Nat.zero_add]; rwa [Array.getElem?_toList] at hj) hf h
    | true => exact drW_ok hX hk hm (fun s w h a hf => hK .n s w h a hf) hf h
  | seq x y ihx ihy =>
    intro K k hK s w a hf h
    refine hX.c.seq (ihx _ (.code y :: k) (fun e s w he a hf => ?_) s w a hf h)
    cases e with
    | n => exact ihy K k hK s w a hf he
    | x j => exact hK (.x j) s w he a hf
    | r => exact hK .r s w he a hf
  | cond c x y ihx ihy =>
    intro K k hK s w a hf h
    change (match ev s c with | some (.bool t) => bif t then codeW E n x K s w else codeW E n y K s w | _ => False) at h
    split at h
    · rename_i t ht
      refine hX.c.cond t (hf.ev _ _ ht) ?_
      cases t with
      | true => exact ihx K k hK s w a hf h
      | false => exact ihy K k hK s w a hf h
    · exact h.elim
  | block id c ih =>
    intro K k hK s w a hf h
    refine hX.c.block (ih _ (.inBlock id :: k) (fun e s w he a hf => ?_) s w a hf h)
    cases e with
    | n => exact hX.c.inBlock (hK .n s w he a hf)
    | x j =>
      have he : K (bif Nat.beq id j then .n else .x j) s w := he
      cases hb : Nat.beq id j with
      | true =>
        rw [hb] at he
        have he : K .n s w := he
        have := Nat.eq_of_beq_eq_true hb
        subst this
        exact ⟨k, by simp [exitTo], hK .n s w he a hf⟩
      | false =>
        rw [hb] at he
        have he : K (.x j) s w := he
        obtain ⟨k', h1, h2⟩ := hK (.x j) s w he a hf
        have hne : ¬ id = j := fun e => by subst e; rw [Nat.beq_refl] at hb; cases hb
        exact ⟨k', by unfold exitTo; rw [if_neg (by simpa using hne)]; exact h1, h2⟩
    | r => exact hK .r s w he a hf
  | loop c ih =>
    intro K k hK s w a hf h
    obtain ⟨I, ⟨m, q, hI, hq⟩, hstep⟩ := h
    refine hX.c.loop ?_
    suffices hh : ∀ N m q w a, m ≤ N → I m q w → Fit n q a → X (G (b.at a (.code c :: .inLoop c :: k)) cs) w from hh m m q w a (Nat.le_refl _) hI (hf.sub hq)
    intro N
    induction N with
    | zero =>
      intro m q w a hmN hI hf
      refine ih _ (.inLoop c :: k) (fun e s w he a hf => ?_) q w a hf (hstep m q w hI)
      cases e with
      | n => obtain ⟨m', q', _, _, h3⟩ := he; omega
      | x j => exact hK (.x j) s w he a hf
      | r => exact hK .r s w he a hf
    | succ N ihN =>
      intro m q w a hmN hI hf
      refine ih _ (.inLoop c :: k) (fun e s w he a hf => ?_) q w a hf (hstep m q w hI)
      cases e with
      | n => obtain ⟨m', q', h1, h2, h3⟩ := he; exact hX.c.inLoop (ihN m' q' w a (by omega) h1 (hf.sub h2))
      | x j => exact hK (.x j) s w he a hf
      | r => exact hK .r s w he a hf
  | exit id =>
    intro K k hK s w a hf h
    obtain ⟨k', h1, h2⟩ := hK (.x id) s w h a hf
    exact hX.c.exit h1 h2
  | ret => exact fun K k hK s w a hf h => hX.c.ret (hK .r s w h a hf _)
  | _ => intro K k hK s w a hf h; exact h.elim
end
/-- What a function answers. -/
noncomputable def rvW {P : Program} (E : Eng P) (w : World) (s : Sg) (K : List Value → Prop) : List ResultVar → Prop
  | [] => K []
  | .tmp t :: r => match at? s t with
    | some v => rvW E w s (fun l => K (v :: l)) r
    | none => False
  | .cell p t :: r => match at? s p with
    | some pv => ldW E w (fun v _ => rvW E w s (fun l => K (v :: l)) r) t (some pv)
    | none => False
def tupW (Post : Value → World → Prop) (w : World) : List Value → Prop
  | [v] => Post v w
  | l => Post (.tuple l.toArray) w
noncomputable def retW {P : Program} (E : Eng P) (rs : List ResultVar) (Post : Value → World → Prop) : Ex → Sg → World → Prop
  | .x _, _, _ => False
  | _, s, w => rvW E w s (tupW Post w) rs
def argS : List Value → Nat → Sg
  | [], _ => []
  | v :: r, i => (i, v) :: argS r (i + 1)
theorem argS_get : ∀ {l : List Value} {i j : Nat} {v : Value}, at? (argS l i) j = some v → ∃ d, j = i + d ∧ l[d]? = some v
  | [], _, _, _, h => by cases h
  | u :: r, i, j, v, h => by
    rw [argS, at?_cons] at h
    cases hb : Nat.beq j i with
    | true =>
      rw [hb] at h
      have := Nat.eq_of_beq_eq_true hb
      subst this
      exact ⟨0, rfl, by simpa using h⟩
    | false =>
      rw [hb] at h
      obtain ⟨d, h1, h2⟩ := argS_get h
      exact ⟨d + 1, by omega, h2⟩
section
variable {P : Program} {E : Eng P} {w : World} {s : Sg}
theorem ld_run {t : Nat} {pv : Value} {K : Value → World → Prop} (h : ldW E w K t (some pv)) : ∃ ad v, pv = .pointer (some ad) ∧ K v w ∧ ∀ w₁, w₁.heap = w.heap → (loadVar t ad).run P w₁ = .ok v w₁ := by
  let o : Oper := ⟨none, .load t (.const pv), 0, "", #[], none⟩
  let a : Act := ⟨#[], []⟩
  have hh : ldA E w t (fun v F => K v w ∧ ∀ w₁, w₁.heap = w.heap → F w₁) (ev [] (.const pv)) := by
    unfold ldW at h
    unfold ldA
    have e : ev [] (.const pv) = some pv := rfl
    rw [e]
    split at h
    · rename_i B off hx
      cases hx
      dsimp only
      split at h
      · rename_i y hy
        rw [hy]
        obtain ⟨xs, ty, hW, h⟩ := h
        refine ⟨xs, ty, hW, ?_⟩
        cases hs : isS y with
        | true =>
          rw [hs] at h
          dsimp only [sif] at h ⊢
          cases h0 : Nat.beq (szT E.T t) 0 with
          | true => rw [h0] at h; exact (show False from h).elim
          | false => rw [h0] at h; dsimp only at h; obtain ⟨c, h1, h2, h3⟩ := h; exact ⟨c, h1, h2, h3, fun w₁ he => by rw [he]; exact hW⟩
        | false => rw [hs] at h; dsimp only [sif] at h; obtain ⟨v, h1, h3⟩ := h; exact ⟨v, h1, h3, fun w₁ he => by rw [he]; exact hW⟩
      · exact h.elim
    · exact h.elim
  obtain ⟨v, F, ⟨g1, g1'⟩, g2, g3, g4⟩ := ldA_ok (P := P) (E := E) (s := []) (a := a) (o := o) (fun x u hx => by cases x <;> first | exact Option.some.inj hx | cases hx) rfl hh
  obtain ⟨ad, rfl⟩ : ∃ ad, pv = .pointer (some ad) := by
    unfold ldW at h
    split at h
    · rename_i B off hx; cases hx; exact ⟨_, rfl⟩
    · exact h.elim
  refine ⟨ad, v, rfl, g1, fun w₁ he => ?_⟩
  have h5 := (g4 w₁ (g1' w₁ he)).2
  have e1 : execOp a.eval o = (do pure (Next.value (← Instr.loadAt t (.pointer (some ad))))) := rfl
  rw [e1, Sem.run_bind] at h5
  have e2 : (Instr.loadAt t (.pointer (some ad))).run P w₁ = (loadVar t ad).run P w₁ := rfl
  rw [e2] at h5
  cases hr : (loadVar t ad).run P w₁ with
  | ok u w' =>
    rw [hr] at h5
    simp only [Result.andThen_ok] at h5
    injection h5 with h6 h7
    injection h6 with h6
    rw [h6, h7]
  | halt x w' => rw [hr] at h5; cases h5
def resF (tmps : Array Value) : ResultVar → Sem Value
  | .tmp t => pure (tmps.getD t undef)
  | .cell p t => do loadVar t (← asAddr (tmps.getD p undef))
theorem rvW_ok : ∀ (rs : List ResultVar) (K : List Value → Prop) (tmps : Array Value), (∀ i v, at? s i = some v → tmps.getD i undef = v) → rvW E w s K rs → ∃ l, K l ∧ (rs.mapM (resF tmps) : Sem (List Value)).run P w = .ok l w := by
  intro rs
  induction rs with
  | nil => intro K tmps _ h; exact ⟨[], h, rfl⟩
  | cons x r ih =>
    intro K tmps hf h
    cases x with
    | tmp t =>
      unfold rvW at h
      split at h
      · rename_i v hv
        obtain ⟨l, h1, h2⟩ := ih _ tmps hf h
        refine ⟨v :: l, h1, ?_⟩
        rw [List.mapM_cons, Sem.run_bind]
        show Result.andThen (Result.ok (tmps.getD t undef) w) _ = _
        rw [Result.andThen_ok, Sem.run_bind, h2, hf t v hv]
        rfl
      · exact h.elim
    | cell p t =>
      unfold rvW at h
      split at h
      · rename_i pv hv
        obtain ⟨ad, v, rfl, h1, h2⟩ := ld_run h
        obtain ⟨l, h3, h4⟩ := ih _ tmps hf h1
        refine ⟨v :: l, h3, ?_⟩
        have e : resF tmps (.cell p t) = (do loadVar t (← asAddr (tmps.getD p undef))) := rfl
        rw [List.mapM_cons, Sem.run_bind, e, Sem.run_bind, hf p _ hv]
        show Result.andThen (Result.andThen (Result.ok ad w) _) _ = _
        rw [Result.andThen_ok, h2 w rfl, Result.andThen_ok, Sem.run_bind, h4]
        rfl
      · exact h.elim
end
/-- A FUNCTION, BY ITS CODE. -/
theorem callV {P : Program} [Ser P] (E : Eng P) (hm : P.follows .mixedOrders = true) {f : FuncId} {fn : Func} {c : Code} {args : List Value} {w : World} {Post : Value → World → Prop} (hf : P.funcs[f]? = some fn) (hb : fn.body = some c) (hn : Nat.ble args.length fn.ntmps = true) (h : codeW E fn.ntmps c (retW E fn.results.toList Post) (argS args 0) w) {main : Bool} {D : World → World → Array Event → Prop} {X : Goroutine → World → Prop} (hX : SX P main D X) {cs : List Frame} (hk : ∀ fr v w', fr.fn = f → fr.leaving P w' (.returned v) → Post v w' → X (G fr cs) w') : X (G (Frame.enter P f args.toArray .normal) cs) w := by
  rw [enter_at (P := P) args.toArray hf hb]
  have hle := Nat.le_of_ble_eq_true hn
  refine codeW_ok hX (by unfold Go.Conc.base; exact nofun) hm c _ [] ?_ _ w _ ?_ h
  · intro e s w he a hfit
    have fin : ∀ todo, rvW E w s (tupW Post w) fn.results.toList → X (G { (Go.Conc.base f).at a todo with mode := .returning } cs) w := by
      intro todo hr
      obtain ⟨l, h1, h2⟩ := rvW_ok _ _ a.tmps hfit.get hr
      have hres : (results fn a.tmps).run P w = .ok (if h : l.toArray.size = 1 then l.toArray[0] else .tuple l.toArray) w := by
        have e : results fn a.tmps = (do let vs ← fn.results.mapM (resF a.tmps); pure (if h : vs.size = 1 then vs[0] else .tuple vs)) := by
          unfold results
          congr 2
        have e2 : (fn.results.mapM (resF a.tmps)).run P w = .ok l.toArray w := by
          rw [show fn.results.mapM (resF a.tmps) = List.toArray <$> (fn.results.toList.mapM (resF a.tmps)) from Array.mapM_eq_mapM_toList ..]
          show Sem.run P ((fn.results.toList.mapM (resF a.tmps)) >>= fun l => pure l.toArray) w = _
          rw [Sem.run_bind, h2]; rfl
        rw [e, Sem.run_bind, e2]
        rfl
      refine hk _ (if h : l.toArray.size = 1 then l.toArray[0] else .tuple l.toArray) w rfl ⟨rfl, hfit.defers, rfl, fn, hf, hres⟩ ?_
      unfold tupW at h1
      split at h1
      · exact h1
      · rename_i hne
        rw [dif_neg]
        · exact h1
        · intro h1
          simp only [List.size_toArray] at h1
          obtain ⟨v, rfl⟩ := List.length_eq_one_iff.1 h1
          exact hne v rfl
    cases e with
    | n => exact hX.c.fin (fin [] he)
    | x j => exact he.elim
    | r => exact fun todo => fin todo he
  · refine ⟨rfl, ?_, fun i v hi => ?_⟩
    · simp; omega
    · obtain ⟨d, h1, h2⟩ := argS_get hi
      rw [Nat.zero_add] at h1
      subst h1
      have hlt : i < args.length := (List.getElem?_eq_some_iff.1 h2).1
      rw [Array.getD_eq_getD_getElem?]
      show (((args.toArray ++ Array.replicate _ undef)[i]?).getD undef) = v
      rw [Array.getElem?_append_left (by simpa using hlt)]
      simp [h2]
theorem callW {P : Program} (E : Eng P) (hm : P.follows .mixedOrders = true) {f : FuncId} {fn : Func} {c : Code} {args : List Value} {w : World} {Post : Value → World → Prop} (hf : P.funcs[f]? = some fn) (hb : fn.body = some c) (hn : Nat.ble args.length fn.ntmps = true) (h : codeW E fn.ntmps c (retW E fn.results.toList Post) (argS args 0) w) : CallsY P f args.toArray w Post :=
  fun _ _ _ _ hX hk => callV E hm hf hb hn h ⟨hX, trivial⟩ hk
def tys : Tys := ((3, .i .i64) :: (5, .i .u8) :: (57, .s [5, 47, 48, 5, 4, 48, 5]) :: (31, .s [5, 5, 25, 26, 27, 28, 29]) :: (47, .i .u32) :: (52, .s [5, 5, 47, 48, 48, 25, 27]) :: (54, .s [5, 50, 52, 5, 47]) :: (48, .i .u64) :: (25, .l 128) :: (27, .l 57) :: (203, .s [5, 50, 57, 143, 47, 54, 194, 52, 5, 47]) :: (50, .s [5, 47, 5, 48, 48, 48, 5]) :: (152, .s [66, 3, 3, 146, 146, 47, 147, 22, 31, 72, 148, 149, 144, 47, 147, 150]) :: (66, .s [5, 5]) :: (143, .s [47, 5]) :: (88, .s [67, 3, 3, 84, 85, 23, 86, 3, 4]) :: (26, .l 107) :: (28, .l 103) :: (101, .l 52) :: (22, .l 54) :: (128, .s [48, 48]) :: (72, .l 139) :: (107, .s [48, 5]) :: (196, .s [47, 143, 54]) :: (103, .s [47, 101]) :: (29, .l 47) :: (32, .i .i64) :: (144, .m 47 196) :: (139, .s [66, 66, 9]) :: (94, .s [22, 24, 27]) :: (146, .s [143, 144]) :: (147, .m 47 54) :: (9, .t) :: (194, .l 196) :: (148, .i .i64) :: (67, .p) :: (24, .l 31) :: (4, .o) :: (84, .l 162) :: (131, .s [129, 72]) :: (23, .l 3) :: (133, .p) :: (85, .l 22) :: (86, .l 4) :: (91, .l 94) :: (129, .l 132) :: (150, .m 47 149) :: (158, .s [3, 3, 3, 9, 50]) :: (249, .s [9]) :: (204, .l 66) :: (132, .l 133) :: (277, .l 5) :: (37, .l 25) :: (38, .l 27) :: (149, .i .u8) :: (265, .i .u64) :: (260, .l 264) :: (162, .s [50, 5, 3]) :: (80, .l 158) :: (264, .s [57, 3]) :: [])
theorem tys_ok : Tab Tryz.prog tys := ⟨⟨by kernel_rfl⟩, by kernel_rfl⟩
def fokB (g : Nat) : Bool := Nat.blt 2 g && Nat.blt g 241 && !(Nat.beq g 206) && !(Nat.beq g 208)
theorem fok_all : ((List.range 241).all fun g => !fokB g || callable Tryz.prog g) = true := by kernel_rfl
theorem fok_ok (g : Nat) (h : fokB g = true) : callable Tryz.prog g = true := by
  have hg : g < 241 := by
    unfold fokB at h
    simp only [Bool.and_eq_true] at h
    have := Nat.le_of_ble_eq_true h.1.1.2
    omega
  have := List.all_eq_true.1 fok_all g (List.mem_range.2 hg)
  rw [h] at this
  simpa using this
noncomputable def eng : Eng Tryz.prog := ⟨tys, fokB, tys_ok, fok_ok, fun _ => (0, 0)⟩
theorem mixed : Tryz.prog.follows .mixedOrders = true := by kernel_rfl
abbrev CY := CallsY Tryz.prog
abbrev Hl (w : World) (b : Nat) (l : List Value) (t : TypeId) : Prop := w.heap[b]? = some (.cells l.toArray t)
theorem vb {a b : Bool} (h : a = b) : Value.bool a = .bool b := by rw [h]
theorem callE {f : FuncId} {fn : Func} {c : Code} {args : List Value} {w : World} {Post : Value → World → Prop} (hf : Tryz.prog.funcs[f]? = some fn) (hb : fn.body = some c) (hn : Nat.ble args.length fn.ntmps = true) (h : codeW eng fn.ntmps c (retW eng fn.results.toList Post) (argS args 0) w) : CallsY Tryz.prog f args.toArray w Post := callW eng mixed hf hb hn h
/-- A range, a command, a vote, without addresses. -/
structure Rg where
  (src dst seq lo hi : Int)
  rows : List Row
  dups : List Rep
structure MC where
  kind : Int
  q : Req
  r : Rg
  (peer seq : Int)
structure Bal where
  (n id : Nat)
structure MV where
  (slot : Nat)
  b : Bal
  c : MC
/-- Blocks of these types are written by nobody once they are old. -/
def fzT : List Nat := [128, 57, 52, 103, 107, 47, 66, 196, 143]
def Kz (w w' : World) : Prop := ∀ t ∈ fzT, ∀ (b : Nat) (c : Array Value), w.heap[b]? = some (.cells c t) → w'.heap[b]? = some (.cells c t)
theorem Kz.refl (w : World) : Kz w w := fun _ _ _ _ h => h
theorem Kz.trans {a b c : World} (h : Kz a b) (k : Kz b c) : Kz a c := fun t ht x o hx => k t ht x o (h t ht x o hx)
theorem GB.kz {w w' : World} (h : GB none w w') : Kz w w' := fun _ _ _ _ hx => h.get hx nofun
theorem GB.kzs {w w' : World} {r : Nat} (h : GB (some r) w w') (hr : ∀ c, ∀ t ∈ fzT, w.heap[r]? ≠ some (.cells c t)) : Kz w w' := fun t ht b c hx => h.get hx fun e => hr c t ht (by cases e; exact hx)
/-- A list that is only read: n things of 'size' cells, of type e. -/
def Fz (w : World) (e size : Nat) (v : Value) (n : Nat) (xs : List Value) : Prop := ∃ a c, v = .slice a n c ∧ n ≤ c ∧ xs.length = n * size ∧ ((a = none ∧ n = 0) ∨ ∃ b off cs, a = some ⟨b, off, none⟩ ∧ w.heap[b]? = some (.cells cs e) ∧ cutL cs.toList off (n * size) = xs)
theorem Fz.kz {w w' : World} {e size n : Nat} {v : Value} {xs : List Value} (h : Fz w e size v n xs) (k : Kz w w') (he : e ∈ fzT) : Fz w' e size v n xs := by
  obtain ⟨a, c, h1, h2, h3, h4⟩ := h
  refine ⟨a, c, h1, h2, h3, h4.imp id ?_⟩
  rintro ⟨b, off, cs, h5, h6, h7⟩
  exact ⟨b, off, cs, h5, k e he b cs h6, h7⟩
theorem Fz.nil (w : World) (e size : Nat) : Fz w e size (.slice none 0 0) 0 [] := ⟨none, 0, rfl, Nat.le_refl _, by simp, .inl ⟨rfl, rfl⟩⟩
/-- Cells. -/
def rgC (r : Rg) (rv dv : Value) : List Value := [.int .u8 r.src, .int .u8 r.dst, .int .u32 r.seq, .int .u64 r.lo, .int .u64 r.hi, rv, dv]
def mcC (c : MC) (rv dv : Value) : List Value := [.int .u8 c.kind, .int .u8 c.q.c, .int .u32 c.q.s, .int .u8 c.q.k, .int .u64 c.q.key, .int .u64 c.q.v, .int .u64 c.q.hi, .int .u8 c.q.to, .int .u8 c.r.src, .int .u8 c.r.dst, .int .u32 c.r.seq, .int .u64 c.r.lo, .int .u64 c.r.hi, rv, dv, .int .u8 c.peer, .int .u32 c.seq]
def mvC (v : MV) (rv dv : Value) : List Value := .int .u32 v.slot :: .int .u32 v.b.n :: .int .u8 v.b.id :: mcC v.c rv dv
/-- A range's two lists. -/
def RgIn (w : World) (r : Rg) (rv dv : Value) : Prop := Fz w 128 2 rv r.rows.length (r.rows.map Row.cells).flatten ∧ Fz w 57 7 dv r.dups.length (r.dups.map Rep.cells).flatten
theorem RgIn.kz {w w' : World} {r : Rg} {rv dv : Value} (h : RgIn w r rv dv) (k : Kz w w') : RgIn w' r rv dv := ⟨h.1.kz k (by decide), h.2.kz k (by decide)⟩
def CIn (w : World) (v : Value) (c : MC) : Prop := ∃ rv dv, v = .agg (mcC c rv dv).toArray ∧ RgIn w c.r rv dv
def VIn (w : World) (v : Value) (x : MV) : Prop := ∃ rv dv, v = .agg (mvC x rv dv).toArray ∧ RgIn w x.c.r rv dv
theorem CIn.kz {w w' : World} {v : Value} {c : MC} (h : CIn w v c) (k : Kz w w') : CIn w' v c := by
  obtain ⟨rv, dv, h1, h2⟩ := h
  exact ⟨rv, dv, h1, h2.kz k⟩
theorem VIn.kz {w w' : World} {v : Value} {c : MV} (h : VIn w v c) (k : Kz w w') : VIn w' v c := by
  obtain ⟨rv, dv, h1, h2⟩ := h
  exact ⟨rv, dv, h1, h2.kz k⟩
def NIn (_ : World) (v : Value) (x : Nat) : Prop := v = .int .u8 x
/-- Functions with finitely many places laid anew. -/
def upd {α : Type} (f : Nat → Option α) (k : Nat) (x : Option α) : Nat → Option α := fun j => if j = k then x else f j
/-- A map of deep things. -/
def MapG {α : Type} (rel : World → Value → α → Prop) (w : World) (m : Nat) (g : Nat → Option α) : Prop := ∃ f, MapF w m f ∧ (∀ k : Int, k < 0 → f k = none) ∧ ∀ k : Nat, match g k with
  | none => f k = none
  | some x => ∃ v, f k = some v ∧ rel w v x
section
variable {α : Type} {rel : World → Value → α → Prop} {w w' : World} {m : Nat} {g : Nat → Option α}
theorem MapG.keep (hrel : ∀ v x, rel w v x → rel w' v x) (h : MapG rel w m g) (hm : w'.heap[m]? = w.heap[m]?) : MapG rel w' m g := by
  obtain ⟨f, h1, h2, h3⟩ := h
  refine ⟨f, h1.keep hm, h2, fun k => ?_⟩
  have := h3 k
  cases hg : g k with
  | none => rw [hg] at this; exact this
  | some x => rw [hg] at this; obtain ⟨v, h4, h5⟩ := this; exact ⟨v, h4, hrel v x h5⟩
theorem MapG.lt (h : MapG rel w m g) : m < w.heap.size := by
  obtain ⟨f, h1, _⟩ := h
  exact h1.lt
theorem MapG.obj (h : MapG rel w m g) : ∃ es c, w.heap[m]? = some (.map es c) := by
  obtain ⟨f, ⟨l, ⟨⟨es, c, h1, _⟩, _⟩, _⟩, _⟩ := h
  exact ⟨es, c, h1⟩
/-- A map updated. -/
theorem MapG.put (hrel : ∀ v x, rel w v x → rel w' v x) {f : Int → Option Value} (h2 : ∀ k : Int, k < 0 → f k = none) (h3 : ∀ k : Nat, match g k with | none => f k = none | some x => ∃ v, f k = some v ∧ rel w v x) {k : Nat} {v : Value} {x : α} (hx : rel w' v x) (h : MapF w' m (updF f k (some v))) : MapG rel w' m (upd g k (some x)) := by
  refine ⟨_, h, fun j hj => ?_, fun j => ?_⟩
  · unfold updF
    rw [if_neg (by omega)]
    exact h2 j hj
  · unfold upd updF
    by_cases hj : j = k
    · subst hj; simp only [if_true]; exact ⟨v, rfl, hx⟩
    · have hj' : ¬ (j : Int) = k := by omega
      simp only [hj, hj', if_false]
      have := h3 j
      cases hg : g j with
      | none => rw [hg] at this; exact this
      | some y => rw [hg] at this; obtain ⟨u, h4, h5⟩ := this; exact ⟨u, h4, hrel u y h5⟩
theorem MapG.del (hrel : ∀ v x, rel w v x → rel w' v x) {f : Int → Option Value} (h2 : ∀ k : Int, k < 0 → f k = none) (h3 : ∀ k : Nat, match g k with | none => f k = none | some x => ∃ v, f k = some v ∧ rel w v x) {k : Nat} (h : MapF w' m (updF f k none)) : MapG rel w' m (upd g k none) := by
  refine ⟨_, h, fun j hj => ?_, fun j => ?_⟩
  · unfold updF
    rw [if_neg (by omega)]
    exact h2 j hj
  · unfold upd updF
    by_cases hj : j = k
    · subst hj; simp
    · have hj' : ¬ (j : Int) = k := by omega
      simp only [hj, hj', if_false]
      have := h3 j
      cases hg : g j with
      | none => rw [hg] at this; exact this
      | some y => rw [hg] at this; obtain ⟨u, h4, h5⟩ := this; exact ⟨u, h4, hrel u y h5⟩
theorem MapG.none (h : MapF w m (fun _ => none)) : MapG rel w m (fun _ => none) := ⟨_, h, fun _ _ => rfl, fun _ => rfl⟩
end
end
end Go.Proofs.YtignemioillaiaaGreat
