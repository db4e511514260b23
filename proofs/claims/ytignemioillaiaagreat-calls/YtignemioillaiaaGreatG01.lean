/- Two worlds that differ only in their tape and in how much of it has been drawn, and whose next draws agree: whatever is run in them gives the same answers, and two such worlds again. -/
import GoSem.Step
import Derived.Laws.Sem
namespace Go.Proofs.YtignemioillaiaaGreat
set_option maxHeartbeats 8000000
set_option maxRecDepth 100000
section
open Go
/-- The same but for the tape; what is still to be drawn is the same. -/
structure Al (w w' : World) : Prop where
  heap : w'.heap = w.heap
  os : w'.os = w.os
  out : w'.output = w.output
  next : ∀ k q, w'.tape (w'.drawn + k) q = w.tape (w.drawn + k) q
theorem Al.refl (w : World) : Al w w := ⟨rfl, rfl, rfl, fun _ _ => rfl⟩
theorem seen_al (p : Program) {w w' : World} (h : Al w w') (at_ : Addr) (u : TypeId) (k : Addr) (b : Bool) : w'.seen p at_ u k b = w.seen p at_ u k b := by
  unfold World.seen
  rw [h.heap]
theorem viewLoad_al (p : Program) {w w' : World} (h : Al w w') (at_ : Addr) (u : TypeId) (k : Addr) (b : Bool) : w'.viewLoad p at_ u k b = w.viewLoad p at_ u k b := by
  unfold World.viewLoad
  rw [seen_al p h]
theorem farLoad_al (p : Program) {w w' : World} (h : Al w w') (a : Addr) (b : Bool) : w'.farLoad p a b = w.farLoad p a b := by
  unfold World.farLoad World.noCell
  rw [h.heap]
  split
  · rw [viewLoad_al p h]
  · rfl
theorem viewStore_al (p : Program) {w w' : World} (h : Al w w') (at_ : Addr) (u : TypeId) (k : Addr) (v : Value) (b : Bool) : w'.viewStore p at_ u k v b = (w.viewStore p at_ u k v b).map (fun r => ({ w' with heap := r.1.heap }, r.2)) := by
  unfold World.viewStore
  rw [seen_al p h, h.heap]
  cases w.seen p at_ u k b with
  | error e =>
    simp only [bind, Except.bind, Except.map]
    split <;> rfl
  | ok r =>
    obtain ⟨c, e, fz, first, like, cells⟩ := r
    simp only [bind, Except.bind, pure, Except.pure, Except.map]
    repeat' split
    all_goals first | rfl | simp_all
def resW {α : Type} : Result α → World
  | .ok _ w => w
  | .halt _ w => w
/-- A bound of draws; how the counts differ; the second tape. -/
structure Bd where
  n : Nat
  a : Nat
  b : Nat
  t : Nat → Question → Nat
/-- The same but for the tape; what is drawn up to the count L is the same. -/
structure AlL (L : Bd) (w w' : World) : Prop where
  cnt : w'.drawn + L.a = w.drawn + L.b
  tp : w'.tape = L.t
  heap : w'.heap = w.heap
  os : w'.os = w.os
  out : w'.output = w.output
  next : ∀ k q, w.drawn + k < L.n → w'.tape (w'.drawn + k) q = w.tape (w.drawn + k) q
section
variable {L : Bd} {w w' : World}
theorem AlL.al (h : AlL L w w') : Al { w with tape := fun _ _ => 0 } { w' with tape := fun _ _ => 0 } := ⟨h.heap, h.os, h.out, fun _ _ => rfl⟩
theorem AlL.draw (h : AlL L w w') : AlL L { w with drawn := w.drawn + 1 } { w' with drawn := w'.drawn + 1 } :=
  ⟨by have := h.cnt; simp only; omega, h.tp, h.heap, h.os, h.out, fun k q hk => by have := h.next (1 + k) q (by simp only at hk; omega); simpa [Nat.add_assoc] using this⟩
theorem AlL.put (h : AlL L w w') (H : Array Obj) : AlL L { w with heap := H } { w' with heap := H } := ⟨h.cnt, h.tp, rfl, h.os, h.out, h.next⟩
theorem AlL.cell (h : AlL L w w') (a : Addr) : w'.cell? a = w.cell? a := by unfold World.cell?; rw [h.heap]
theorem AlL.frz (h : AlL L w w') (a : Addr) : w'.frozen? a = w.frozen? a := by unfold World.frozen?; rw [h.heap]
theorem AlL.shp (h : AlL L w w') (r : Nat) : w'.shape? r = w.shape? r := by unfold World.shape?; rw [h.heap]
theorem AlL.freeze (h : AlL L w w') (a : Addr) (n : Nat) : AlL L (w.freeze a n) (w'.freeze a n) := by
  unfold World.freeze
  split
  · exact h
  · rw [h.heap]; exact h.put _
theorem AlL.setCell (h : AlL L w w') (a : Addr) (v : Value) : AlL L (w.setCell a v) (w'.setCell a v) := by
  unfold World.setCell
  rw [h.heap]; exact h.put _
end
def RL {α : Type} (L : Bd) : Result α → Result α → Prop
  | .ok a w, .ok b w' => a = b ∧ AlL L w w'
  | .halt x w, .halt y w' => x = y ∧ AlL L w w'
  | _, _ => False
theorem ask_mono {α : Type} (q : Ask α) : ∀ (w : World), w.drawn ≤ (w.ask q).2.drawn := by
  induction q with
  | done a => exact fun w => Nat.le_refl _
  | ask what range k ih =>
    intro w
    simp only [World.ask]
    split
    · exact ih 0 w
    · exact Nat.le_trans (Nat.le_succ _) (ih _ { w with drawn := w.drawn + 1 })
theorem sys_mono (c : Sys) (w : World) : w.drawn ≤ (w.sys c).2.drawn := by
  have h := ask_mono (Kernel.perform c w.os) w
  unfold World.sys
  generalize w.ask (Kernel.perform c w.os) = r at h
  obtain ⟨⟨a, o⟩, x⟩ := r
  cases a <;> first | exact h | exact Nat.le_refl _
/-- What a plain operation may say, and how it may halt. -/
def okMark : Mark → Prop
  | .noRoom | .extern _ => True
  | _ => False
def okHalt : Halt → Prop
  | .panic _ | .unsupported _ | .stuck _ => True
  | _ => False
/-- What is known of a block whose object has been read: it is no channel. -/
def knows (r : Nat) (kn : List Nat) : Obj → List Nat
  | .chan _ _ _ _ _ _ => kn
  | _ => r :: kn
/-- No call of the system; no channel is made or written. kn: blocks that are no channels. -/
def Plain {α : Type} (kn : List Nat) : Sem α → Prop
  | .pure _ => True
  | .load _ _ k => ∀ v, Plain kn (k v)
  | .store _ _ _ k => Plain kn k
  | .new o k => o.isChan = false ∧ ∀ r, Plain kn (k r)
  | .shape _ k => ∀ r, Plain kn (k r)
  | .freeze _ _ k => Plain kn k
  | .frozen _ k => ∀ b, Plain kn (k b)
  | .getObj r k => ∀ o, Plain (knows r kn o) (k o)
  | .setObj r o k => r ∈ kn ∧ o.isChan = false ∧ Plain kn k
  | .choose _ k => ∀ n, Plain kn (k n)
  | .sys _ _ => False
  | .program k => ∀ p, Plain kn (k p)
  | .mark m k => okMark m ∧ Plain kn k
  | .halt h => okHalt h
theorem knows_sub {r x : Nat} {kn : List Nat} (o : Obj) (h : x ∈ kn) : x ∈ knows r kn o := by
  cases o <;> first | exact h | exact List.mem_cons_of_mem _ h
theorem knows_mono {r : Nat} {kn kn' : List Nat} (o : Obj) (h : ∀ x ∈ kn, x ∈ kn') : ∀ x ∈ knows r kn o, x ∈ knows r kn' o := by
  cases o <;> first | exact h | (intro x hx; rcases List.mem_cons.1 hx with rfl | hx; exact List.mem_cons_self; exact List.mem_cons_of_mem _ (h x hx))
theorem Plain.mono {α : Type} {s : Sem α} : ∀ {kn kn' : List Nat}, (∀ x ∈ kn, x ∈ kn') → Plain kn s → Plain kn' s := by
  induction s with
  | pure a => exact fun _ _ => trivial
  | load m a k ih => exact fun hk h v => ih v hk (h v)
  | store m a v k ih => exact fun hk h => ih hk h
  | new o k ih => exact fun hk h => ⟨h.1, fun r => ih r hk (h.2 r)⟩
  | shape r k ih => exact fun hk h v => ih v hk (h v)
  | freeze a n k ih => exact fun hk h => ih hk h
  | frozen a k ih => exact fun hk h v => ih v hk (h v)
  | getObj r k ih => exact fun hk h v => ih v (knows_mono v hk) (h v)
  | setObj r o k ih => exact fun hk h => ⟨hk _ h.1, h.2.1, ih hk h.2.2⟩
  | choose q k ih => exact fun hk h v => ih v hk (h v)
  | sys c k ih => exact fun _ h => h.elim
  | program k ih => exact fun hk h v => ih v hk (h v)
  | mark m k ih => exact fun hk h => ⟨h.1, ih hk h.2⟩
  | halt x => exact fun _ h => h
theorem Plain.bind {α β : Type} {f : α → Sem β} : ∀ {s : Sem α} {kn : List Nat}, Plain kn s → (∀ a, Plain kn (f a)) → Plain kn (s.bind f) := by
  intro s
  induction s with
  | pure a => exact fun _ hf => hf a
  | load m a k ih => exact fun h hf v => ih v (h v) hf
  | store m a v k ih => exact fun h hf => ih h hf
  | new o k ih => exact fun h hf => ⟨h.1, fun r => ih r (h.2 r) hf⟩
  | shape r k ih => exact fun h hf v => ih v (h v) hf
  | freeze a n k ih => exact fun h hf => ih h hf
  | frozen a k ih => exact fun h hf v => ih v (h v) hf
  | getObj r k ih => exact fun h hf v => ih v (h v) fun a => (hf a).mono fun x hx => knows_sub v hx
  | setObj r o k ih => exact fun h hf => ⟨h.1, h.2.1, ih h.2.2 hf⟩
  | choose q k ih => exact fun h hf v => ih v (h v) hf
  | sys c k ih => exact fun h => h.elim
  | program k ih => exact fun h hf v => ih v (h v) hf
  | mark m k ih => exact fun h hf => ⟨h.1, ih h.2 hf⟩
  | halt x => exact fun h _ => h
theorem Plain.bind' {α β : Type} {kn : List Nat} {f : α → Sem β} {s : Sem α} (h : Plain kn s) (hf : ∀ a, Plain kn (f a)) : Plain kn (s >>= f) := Plain.bind h hf
theorem Plain.obj {β : Type} {kn : List Nat} {f : Obj → Sem β} {r : Nat} (hf : ∀ o, Plain (knows r kn o) (f o)) : Plain kn (getObj r >>= f) := hf
/-- The count of draws does not fall. -/
theorem run_mono {α : Type} (p : Program) (s : Sem α) : ∀ (w : World), w.drawn ≤ (resW (s.run p w)).drawn := by
  have fs : ∀ (w : World) (a : Addr) (v : Value) (b : Bool) (x : World) (l : List Addr), w.farStore p a v b = .ok (x, l) → x.drawn = w.drawn := by
    intro w a v b x l h
    unfold World.farStore at h
    split at h
    · rename_i at_ u _
      have e := viewStore_al p (Al.refl w) at_ u a v b
      cases hr : w.viewStore p at_ u a v b with
      | error e => rw [hr] at h; cases h
      | ok r =>
        rw [hr] at h e
        simp only [Except.map, Except.ok.injEq] at e
        have e1 : r.1 = { w with heap := r.1.heap } := congrArg Prod.fst e
        obtain rfl : r = (x, l) := by simpa using h
        have e2 := congrArg World.drawn e1
        exact e2
    · cases h
  induction s with
  | pure a => exact fun w => Nat.le_refl _
  | load m a k ih =>
    intro w
    simp only [Sem.run]
    split
    · exact ih _ w
    · split
      · exact ih _ w
      · exact Nat.le_refl _
  | store m a v k ih =>
    intro w
    cases v <;> simp only [Sem.run] <;> first | exact Nat.le_refl _ | skip
    all_goals
      split
      · split
        · exact Nat.le_refl _
        · exact ih (w.setCell a _)
      · split
        · rename_i x l hx
          rw [← fs w a _ _ x l hx]
          exact ih x
        · exact Nat.le_refl _
  | new o k ih => exact fun w => ih _ { w with heap := w.heap.push o }
  | shape r k ih => exact fun w => ih _ w
  | freeze a n k ih =>
    intro w
    have h := ih (w.freeze a n)
    have e : (w.freeze a n).drawn = w.drawn := by unfold World.freeze; split <;> rfl
    rw [e] at h
    exact h
  | frozen a k ih => exact fun w => ih _ w
  | getObj r k ih =>
    intro w
    simp only [Sem.run]
    split
    · exact Nat.le_refl _
    · exact ih _ w
    · exact Nat.le_refl _
  | setObj r o k ih =>
    intro w
    simp only [Sem.run]
    split
    · exact Nat.le_refl _
    · exact ih { w with heap := w.heap.setIfInBounds r o }
    · exact Nat.le_refl _
  | choose q k ih =>
    intro w
    simp only [Sem.run]
    split
    · exact ih 0 w
    · exact Nat.le_trans (Nat.le_succ _) (ih _ { w with drawn := w.drawn + 1 })
  | sys c k ih => exact fun w => Nat.le_trans (sys_mono c w) (ih _ (w.sys c).2)
  | program k ih => exact fun w => ih p w
  | mark m k ih => exact fun w => ih w
  | halt x => exact fun w => Nat.le_refl _
theorem farLoad_alL (p : Program) {L : Bd} {w w' : World} (h : AlL L w w') (a : Addr) (b : Bool) : w'.farLoad p a b = w.farLoad p a b := by
  have h0 := farLoad_al p (w := { w with tape := fun _ _ => 0 }) (w' := { w' with tape := fun _ _ => 0 }) h.al a b
  have e : ∀ x : World, ({ x with tape := fun _ _ => 0 } : World).farLoad p a b = x.farLoad p a b := by
    intro x
    unfold World.farLoad World.noCell
    rfl
  rw [e, e] at h0
  exact h0
theorem viewStore_h (p : Program) {w w' : World} (hh : w'.heap = w.heap) (at_ : Addr) (u : TypeId) (k : Addr) (v : Value) (b : Bool) : w'.viewStore p at_ u k v b = (w.viewStore p at_ u k v b).map (fun r => ({ w' with heap := r.1.heap }, r.2)) := by
  have hs : w'.seen p at_ u k b = w.seen p at_ u k b := by unfold World.seen; rw [hh]
  unfold World.viewStore
  rw [hs, hh]
  cases w.seen p at_ u k b with
  | error e =>
    simp only [bind, Except.bind, Except.map]
    split <;> rfl
  | ok r =>
    obtain ⟨c, e, fz, first, like, cells⟩ := r
    simp only [bind, Except.bind, pure, Except.pure, Except.map]
    repeat' split
    all_goals first | rfl | simp_all
theorem farStore_alL (p : Program) {L : Bd} {w w' : World} (h : AlL L w w') (a : Addr) (v : Value) (b : Bool) : (∃ e, w.farStore p a v b = .error e ∧ w'.farStore p a v b = .error e) ∨ ∃ x x' l, w.farStore p a v b = .ok (x, l) ∧ w'.farStore p a v b = .ok (x', l) ∧ AlL L x x' := by
  unfold World.farStore World.noCell
  rw [h.heap]
  split
  · rename_i at_ u _
    rw [viewStore_h p h.heap]
    cases hr : w.viewStore p at_ u a v b with
    | error e => exact .inl ⟨_, rfl, rfl⟩
    | ok r =>
      have e := viewStore_al p (Al.refl w) at_ u a v b
      rw [hr] at e
      simp only [Except.map, Except.ok.injEq] at e
      have e1 : r.1 = { w with heap := r.1.heap } := congrArg Prod.fst e
      refine .inr ⟨r.1, { w' with heap := r.1.heap }, r.2, rfl, rfl, ?_⟩
      rw [e1]
      exact h.put _
  · exact .inl ⟨_, rfl, rfl⟩
/-- WHATEVER IS PLAIN AND DRAWS NO FURTHER: the same answer. -/
theorem runT_alL {α : Type} (p : Program) {L : Bd} (s : Sem α) : ∀ {w w' : World} {kn : List Nat} (es : Array Event), Plain kn s → AlL L w w' → (resW (s.run p w)).drawn ≤ L.n → RL L (s.runT p w es).1 (s.runT p w' es).1 ∧ (s.runT p w' es).2 = (s.runT p w es).2 := by
  induction s with
  | pure a => exact fun es _ h _ => ⟨⟨rfl, h⟩, rfl⟩
  | load m a k ih =>
    intro w w' kn es hp h hL
    simp only [Sem.run, Sem.runT] at hL ⊢
    rw [h.cell a, farLoad_alL p h]
    cases hc : w.cell? a with
    | some v => rw [hc] at hL; exact ih v _ (hp v) h hL
    | none =>
      rw [hc] at hL
      cases hf : w.farLoad p a (m == .atomic) with
      | ok r => simp only [hf] at hL; exact ih r.1 _ (hp _) h hL
      | error e => exact ⟨⟨rfl, h⟩, rfl⟩
  | store m a v k ih =>
    intro w w' kn es hp h hL
    cases v <;> simp only [Sem.run, Sem.runT] at hL ⊢ <;> first | exact ⟨⟨rfl, h⟩, rfl⟩ | exact ⟨⟨rfl, h⟩, trivial⟩ | skip
    all_goals
      rw [h.cell a, h.frz a]
      cases hc : w.cell? a with
      | some v =>
        simp only [hc] at hL ⊢
        split
        · exact ⟨⟨rfl, h⟩, rfl⟩
        · rename_i hz
          rw [if_neg hz] at hL
          exact ih _ hp (h.setCell _ _) hL
      | none =>
        simp only [hc] at hL ⊢
        rcases farStore_alL p h a _ (m == .atomic) with ⟨e, h1, h2⟩ | ⟨x, x', l, h1, h2, h3⟩
        · rw [h1, h2]; exact ⟨⟨rfl, h⟩, rfl⟩
        · rw [h1] at hL; rw [h1, h2]; exact ih _ hp h3 hL
  | new o k ih =>
    intro w w' kn es hp h hL
    simp only [Sem.run, Sem.runT] at hL ⊢
    rw [h.heap]
    exact ih _ _ (hp.2 _) (h.put _) hL
  | shape r k ih =>
    intro w w' kn es hp h hL
    simp only [Sem.run, Sem.runT] at hL ⊢
    rw [h.shp]
    exact ih _ _ (hp _) h hL
  | freeze a n k ih => exact fun es hp h hL => ih es hp (h.freeze a n) hL
  | frozen a k ih =>
    intro w w' kn es hp h hL
    simp only [Sem.run, Sem.runT] at hL ⊢
    rw [h.frz]
    exact ih _ _ (hp _) h hL
  | getObj r k ih =>
    intro w w' kn es hp h hL
    simp only [Sem.run, Sem.runT] at hL ⊢
    rw [h.heap]
    cases hr : w.heap[r]? with
    | none => exact ⟨⟨rfl, h⟩, rfl⟩
    | some o => cases o <;> simp only [hr] at hL ⊢ <;> first | exact ⟨⟨rfl, h⟩, rfl⟩ | exact ⟨⟨rfl, h⟩, trivial⟩ | exact ih _ _ (hp _) h hL
  | setObj r o k ih =>
    intro w w' kn es hp h hL
    simp only [Sem.run, Sem.runT] at hL ⊢
    rw [h.heap]
    cases hr : w.heap[r]? with
    | none => exact ⟨⟨rfl, h⟩, rfl⟩
    | some o => cases o <;> simp only [hr] at hL ⊢ <;> first | exact ⟨⟨rfl, h⟩, rfl⟩ | exact ⟨⟨rfl, h⟩, trivial⟩ | exact ih _ hp.2.2 (h.put _) hL
  | choose q k ih =>
    intro w w' kn es hp h hL
    simp only [Sem.run, Sem.runT] at hL ⊢
    split
    · rename_i hf
      rw [if_pos hf] at hL
      exact ih 0 _ (hp _) h hL
    · rename_i hf
      rw [if_neg hf] at hL
      have hm := run_mono p (k (q.cut (w.tape w.drawn q))) { w with drawn := w.drawn + 1 }
      have h0 := h.next 0 q (by simp only at hm; omega)
      simp only [Nat.add_zero] at h0
      rw [h0]
      exact ih _ _ (hp _) h.draw hL
  | sys c k ih => exact fun es hp => hp.elim
  | program k ih => exact fun es hp h hL => ih p es (hp p) h hL
  | mark m k ih => exact fun es hp h hL => ih _ hp.2 h hL
  | halt x => exact fun es _ h _ => ⟨⟨rfl, h⟩, rfl⟩
end
end Go.Proofs.YtignemioillaiaaGreat
