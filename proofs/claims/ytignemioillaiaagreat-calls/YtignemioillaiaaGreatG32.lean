/- New. -/
import Derived.Test.YtignemioillaiaaGreatG31
namespace Go.Proofs.YtignemioillaiaaGreat
set_option maxHeartbeats 8000000
set_option maxRecDepth 100000
section
open Go Go.Conc Go.RowKit
def Rw (w : World) (s : Value) (g i n sz : Nat) : Prop := ∃ pl, w.ownsRow 0 133 1 s i pl ∧ ∀ t, t < i → ∃ br r, pl[t]? = some (.pointer (some ⟨br, 0, none⟩)) ∧ RS w br r g t n sz ∧ Fr r
theorem Rw.kp {T : List TypeId} {w w' : World} {s : Value} {g i n sz : Nat} (h : Rw w s g i n sz) (k : Kp T w w') (hT : uZ T) (h3 : 133 ∉ T) : Rw w' s g i n sz := by
  obtain ⟨pl, h1, h2⟩ := h
  exact ⟨pl, k.own h1 h3, fun t ht => by obtain ⟨br, r, e1, e2, e3⟩ := h2 t ht; exact ⟨br, r, e1, e2.kp k hT, e3⟩⟩
def Cm (w : World) (bc : Nat) (gv : Value) (j n sz : Nat) : Prop := w.heap[bc]? = some (.cells #[gv, .slice none 0 0] 131) ∧ ∃ gl, w.ownsRow 0 132 1 gv j gl ∧ ∀ t, t < j → ∃ s, gl[t]? = some s ∧ Rw w s t sz n sz
theorem Cm.kp {T : List TypeId} {w w' : World} {bc j n sz : Nat} {gv : Value} (h : Cm w bc gv j n sz) (k : Kp T w w') (hT : uZ T) (h1 : 131 ∉ T) (h2 : 132 ∉ T) (h3 : 133 ∉ T) : Cm w' bc gv j n sz := by
  obtain ⟨e1, gl, e2, e3⟩ := h
  exact ⟨k.blk e1 h1, gl, k.own e2 h2, fun t ht => by obtain ⟨s, e4, e5⟩ := e3 t ht; exact ⟨s, e4, e5.kp k hT h3⟩⟩
theorem Pf : (Tryz.prog.info? 133).map (fun i => (i.zero, i.size, i.bytes)) = some (some (.pointer none), 1, 8) := by kernel_rfl
theorem Pg : (Tryz.prog.info? 132).map (fun i => (i.zero, i.size, i.bytes)) = some (some (.slice none 0 0), 1, 24) := by kernel_rfl
theorem nQ {ty : TypeId} {z : Value} {n m : Nat} (h : (Tryz.prog.info? ty).map (fun i => (i.zero, i.size, i.bytes)) = some (some z, n, m)) : ∃ ii, Tryz.prog.info? ty = some ii ∧ ii.zero = some z ∧ ii.size = n ∧ ii.bytes = m := by
  cases hq : Tryz.prog.info? ty with
  | none => rw [hq] at h; cases h
  | some ii =>
    rw [hq] at h
    simp only [Option.map_some, Option.some.injEq, Prod.mk.injEq] at h
    exact ⟨ii, rfl, h⟩
theorem qj (w : World) (e : TypeId) (size : Nat) : w.ownsRow 0 e size (.slice none 0 0) 0 [] := ⟨by simp, .inl ⟨rfl, rfl⟩⟩
theorem Bt (n : Nat) (_h : n < 256) : IntKind.u8.wrap (n : Int) = n := by simp [IntKind.wrap, IntKind.bits, IntKind.signed]; omega
theorem kF (n : Int) (_h : 0 ≤ n) (_h1 : n < 1000000000) : IntKind.i64.wrap n = n := by rw [IntKind.wrap_i64]; omega
theorem GB.newer {r : Option Nat} {w w1 w2 : World} (h : GB none w w1) (k : GB r w1 w2) (hb : ∀ b, r = some b → w.heap.size ≤ b) : GB none w w2 :=
  ⟨k.os.trans h.os, k.out.trans h.out, Nat.le_trans h.size k.size, fun x hx _ => (k.block x (Nat.lt_of_lt_of_le hx h.size) (fun e => by have := hb x e.symm; omega)).trans (h.block x hx nofun)⟩
theorem Sr {w : World} {e : TypeId} {size n : Nat} {v : Value} {xs : List Value} (h : w.ownsRow 0 e size v n xs) : ∀ u ∈ [v], u.oneCell' = true := by
  intro u hu
  obtain rfl := List.mem_singleton.1 hu
  rcases h.2 with ⟨rfl, _⟩ | ⟨g, cap, cur, rfl, _⟩ <;> rfl
theorem iU {w : World} {e : TypeId} {size n : Nat} {v : Value} {xs : List Value} (h : w.ownsRow 0 e size v n xs) : ∃ a c, v = .slice a n c := by
  rcases h.2 with ⟨rfl, rfl⟩ | ⟨g, cap, cur, rfl, _⟩
  · exact ⟨_, _, rfl⟩
  · exact ⟨_, _, rfl⟩
theorem oU (i : Nat) (_h : i < 1000000) : IntKind.i64.wrap ((i : Int) + 1) = ((i + 1 : Nat) : Int) := by rw [IntKind.wrap_i64]; omega
theorem IV : uZ [131] := by unfold uZ; decide
theorem IW : uZ [132] := by unfold uZ; decide
theorem IX : uZ [133] := by unfold uZ; decide
theorem pI : uZ [] := by unfold uZ; decide
end
end Go.Proofs.YtignemioillaiaaGreat
