/- A replica as one datum; more operations by hand. -/
import Derived.Test.YtignemioillaiaaGreatG30
namespace Go.Proofs.YtignemioillaiaaGreat
set_option maxHeartbeats 8000000
set_option maxRecDepth 100000
section
open Go Go.Conc Go.RowKit
def zk (P : Program) (ty : TypeId) : Bool := match P.underlying ty with | some (.struct _) | some (.array _ _) | none => false | _ => true
def zl (P : Program) (ty : TypeId) : Bool := match P.underlying ty with | some (.struct _) | some (.array _ _) => true | _ => false
theorem yl {P : Program} {ty : TypeId} (h : zk P ty = true) : ∃ d, P.underlying ty = some d ∧ (match d with | .struct _ | .array _ _ => true | _ => false) = false := by
  unfold zk at h
  cases hu : P.underlying ty with
  | none => rw [hu] at h; cases h
  | some d => rw [hu] at h; refine ⟨d, rfl, ?_⟩; cases d <;> simp_all
theorem ym {P : Program} {ty : TypeId} (h : zl P ty = true) : ∃ d, P.underlying ty = some d ∧ (match d with | .struct _ | .array _ _ => true | _ => false) = true := by
  unfold zl at h
  cases hu : P.underlying ty with
  | none => rw [hu] at h; cases h
  | some d => rw [hu] at h; refine ⟨d, rfl, ?_⟩; cases d <;> simp_all
section
variable {P : Program} {main : Bool} {D : World → World → Array Event → Prop} {X : Goroutine → World → Prop} {w : World} {b : Frame} {a : Act} {k : List Item} {cs : List Frame} {ops : Array Oper} {i : Nat} {rest : List Nat} {o : Oper}
theorem aj.Gq (hX : aj P main X) (ho : ops[i]? = some o) (hw : Region.wanted o (yielded ops a.tmps) = false) (h : X (G (b.at (a.put o.dst undef) (.inRegion ops rest :: k)) cs) w) : X (G (b.at a (.inRegion ops (i :: rest) :: k)) cs) w :=
  hX.go rfl (fun _ => stepG_unwanted ho hw) h
theorem Shut.bY (hX : Shut P main D X) (ho : ops[i]? = some o) (hw : Region.wanted o (yielded ops a.tmps) = true) (hk : b.kind ≠ .early) {ty : TypeId} {x : Operand} (hop : o.op = .load ty x) {B off : Nat} (hx : a.eval x = .pointer (some ⟨B, off, none⟩)) {xs : Array Value} {t : TypeId} (hW : w.heap[B]? = some (.cells xs t)) (hu : zk P ty = true)
    {v : Value} (hc : xs[off]? = some v) (h : X (G (b.at (a.put o.dst v) (.inRegion ops rest :: k)) cs) w) : X (G (b.at a (.inRegion ops (i :: rest) :: k)) cs) w := by
  obtain ⟨d, h1, h2⟩ := yl hu
  exact hX.ql ho hw hk ty hop hx hW h1 (by cases d <;> exact h2) hc h
theorem Shut.dF (hX : Shut P main D X) (ho : ops[i]? = some o) (hw : Region.wanted o (yielded ops a.tmps) = true) (hk : b.kind ≠ .early) {ty : TypeId} {x : Operand} (hop : o.op = .load ty x) {B off : Nat} (hx : a.eval x = .pointer (some ⟨B, off, none⟩)) {xs : Array Value} {t : TypeId} (hW : w.heap[B]? = some (.cells xs t)) (hu : zl P ty = true)
    (c : List Value) (hi : (P.info? ty).map (·.size) = some c.length) (hfit : off + c.length ≤ xs.size) (hc : (xs.toList.drop off).take c.length = c)
    (h : X (G (b.at (a.put o.dst (.agg c.toArray)) (.inRegion ops rest :: k)) cs) w) : X (G (b.at a (.inRegion ops (i :: rest) :: k)) cs) w := by
  obtain ⟨d, h1, h2⟩ := ym hu
  exact hX.vJ ho hw hk ty hop hx hW h1 (by cases d <;> exact h2) hi hfit c hc h
theorem fe {ty : TypeId} {x : Operand} (hop : o.op = .load ty x) {B off : Nat} (hx : a.eval x = .pointer (some ⟨B, off, none⟩)) {xs : Array Value} {t : TypeId} (hW : w.heap[B]? = some (.cells xs t)) (hu : zk P ty = true) {v : Value} (hc : xs[off]? = some v) : (execOp a.eval o).run P w = .ok (.value v) w := by
  obtain ⟨d, h1, h2⟩ := yl hu
  exact qW ty hop hx hW h1 (by cases d <;> exact h2) hc
theorem iA {ty : TypeId} {x : Operand} (hop : o.op = .load ty x) {B off : Nat} (hx : a.eval x = .pointer (some ⟨B, off, none⟩)) {xs : Array Value} {t : TypeId} (hW : w.heap[B]? = some (.cells xs t)) (hu : zl P ty = true) (c : List Value) (hi : (P.info? ty).map (·.size) = some c.length) (hfit : off + c.length ≤ xs.size) (hc : (xs.toList.drop off).take c.length = c) : (execOp a.eval o).run P w = .ok (.value (.agg c.toArray)) w := by
  obtain ⟨d, h1, h2⟩ := ym hu
  exact ME ty hop hx hW h1 (by cases d <;> exact h2) hi (Nat.ble_eq_true_of_le hfit) c hc
theorem Shut.cK (hX : Shut P main D X) (ho : ops[i]? = some o) (hw : Region.wanted o (yielded ops a.tmps) = true) (hk : b.kind ≠ .early) (hp : Plain [] (execOp a.eval o)) {ob : Obj} {v : Nat → Value} (hr : ∀ w1, di w w1 → (execOp a.eval o).run P w1 = .ok (.value (v w1.heap.size)) (w1.alloc ob))
    (h : ∀ w' b', w'.heap[b']? = some ob → GB none w w' → w.heap.size ≤ b' → X (G (b.at (a.put o.dst (v b')) (.inRegion ops rest :: k)) cs) w') : X (G (b.at a (.inRegion ops (i :: rest) :: k)) cs) w :=
  hX.make ho hw hk hp hr (h _ _ (iR w ob) (GB.alloc none w ob) (Nat.le_refl _))
theorem dL.cK {K : Act → World → Prop} (ho : ops[i]? = some o) (hw : Region.wanted o (yielded ops a.tmps) = true) (hp : Plain [] (execOp a.eval o)) {ob : Obj} {v : Nat → Value} (hr : ∀ w1, di w w1 → (execOp a.eval o).run P w1 = .ok (.value (v w1.heap.size)) (w1.alloc ob))
    (h : ∀ w' b', w'.heap[b']? = some ob → GB none w w' → w.heap.size ≤ b' → K (a.put o.dst (v b')) w') : dL P ops i K a w :=
  dL.op ho hw hp fun w₁ h2 => ⟨_, _, .inl (hr w₁ h2), h _ _ (iR w₁ ob) (((GB.refl none w).same h2).trans (GB.alloc none w₁ ob)) (by rw [h2.heap]; exact Nat.le_refl _)⟩
theorem Aw {s x : Operand} {t : TypeId} (hop : o.op = .call { callee := .builtin .append, args := #[s, x], argTypes := #[t, t] })
    (e : TypeId) (ii : TypeInfo) (z : Value) (size bytes : Nat) (ht : P.underlying t = some (.slice e)) (hi : P.info? e = some ii) (hz : ii.zero = some z) (hsize : ii.size = size) (hby : ii.bytes = bytes) (hzs : z.cells.size = size) (hsz : 0 < size)
    {v : Value} {n : Nat} {xs : List Value} (hs : a.eval s = v) (hown : w.ownsRow 0 e size v n xs) {B m c : Nat} {news : List Value} {off : Nat} (hx : a.eval x = .slice (some ⟨B, off, none⟩) m c) {nb : Array Value} {tb : TypeId} (hW : w.heap[B]? = some (.cells nb tb)) (hnb : (nb.toList.drop off).take (m * size) = news) (hl : news.length = m * size) (h1 : ∀ u ∈ news, u.oneCell' = true)
    (h63 : n + m ≤ maxLen) (hbytes : (n + m) * bytes ≤ 140737488355328) : ∃ v' w', (execOp a.eval o).run P w = .ok (.value v') w' ∧ w'.ownsRow 0 e size v' (n + m) (xs ++ news) ∧ GB v.ownBlock w w' ∧ ∀ g, v'.ownBlock = some g → v.ownBlock = some g ∨ w.heap.size ≤ g := by
  have hnews : ∀ j u, news[j]? = some u → w.cell? ((⟨B, off, none⟩ : Addr).add j) = some u := fun j u hu => by
    have hadd : (⟨B, off, none⟩ : Addr).add j = ⟨B, off + j, none⟩ := by unfold Addr.add; split <;> simp_all
    rw [hadd, af hW]
    rw [← hnb, List.getElem?_take] at hu
    split at hu
    · rw [List.getElem?_drop] at hu; simpa using hu
    · cases hu
  obtain ⟨v', w', hrun, ho', hg⟩ := qx (P := P) w 0 t o.type e ii z size bytes ht hi hz hsize hby hzs hsz v n xs hown ⟨B, off, none⟩ m c news hl hnews h1 h63 hbytes (Nat.zero_le _)
  refine ⟨v', w', ?_, ho', ⟨hg.grown.os, hg.grown.output, hg.grown.size, fun y hy hne => hg.grown.block y hy hne⟩, fun g hgo => ?_⟩
  · have hh := uponK_append (P := P) s x t hop hs hx hrun (K := fun a' w'' => a' = a.put o.dst v' ∧ w'' = w') ⟨rfl, rfl⟩
    have e1 : execOp a.eval o = builtin .append #[t, t] o.type (#[s, x].map fun | .const _ => true | _ => false) (#[s, x].map a.eval) := by
      unfold execOp
      rw [hop]
      rfl
    rw [e1]
    simp only [List.map_toArray, List.map_cons, List.map_nil, hs, hx]
    unfold builtin
    simp only [Sem.run_bind]
    simp [hrun]
  · rcases hg.own with he | he
    · exact .inl (he ▸ hgo)
    · exact .inr (he g hgo)
theorem Shut.mQ (hX : Shut P main D X) (ho : ops[i]? = some o) (hw : Region.wanted o (yielded ops a.tmps) = true) (hk : b.kind ≠ .early) {s x : Operand} {t : TypeId} (hop : o.op = .call { callee := .builtin .append, args := #[s, x], argTypes := #[t, t] })
    (e : TypeId) (ii : TypeInfo) (z : Value) (size bytes : Nat) (ht : P.underlying t = some (.slice e)) (hi : P.info? e = some ii) (hz : ii.zero = some z) (hsize : ii.size = size) (hby : ii.bytes = bytes) (hzs : z.cells.size = size) (hsz : 0 < size)
    {v : Value} {n : Nat} {xs : List Value} (hs : a.eval s = v) (hown : w.ownsRow 0 e size v n xs) {B m c : Nat} {news : List Value} {off : Nat} (hx : a.eval x = .slice (some ⟨B, off, none⟩) m c) {nb : Array Value} {tb : TypeId} (hW : w.heap[B]? = some (.cells nb tb)) (hnb : (nb.toList.drop off).take (m * size) = news) (hl : news.length = m * size) (h1 : ∀ u ∈ news, u.oneCell' = true)
    (h63 : n + m ≤ maxLen) (hbytes : (n + m) * bytes ≤ 140737488355328)
    (h : ∀ v' w', w'.ownsRow 0 e size v' (n + m) (xs ++ news) → GB v.ownBlock w w' → (∀ g, v'.ownBlock = some g → v.ownBlock = some g ∨ w.heap.size ≤ g) → X (G (b.at (a.put o.dst v') (.inRegion ops rest :: k)) cs) w') : X (G (b.at a (.inRegion ops (i :: rest) :: k)) cs) w := by
  refine hX.GH ho hw hk (nJ hop rfl) fun w₁ h2 => ?_
  obtain ⟨v', w', h3, h4, h5, h6⟩ := Aw (P := P) (w := w₁) hop e ii z size bytes ht hi hz hsize hby hzs hsz hs (iy hown fun g _ => by rw [h2.heap]) hx (by rw [h2.heap]; exact hW) hnb hl h1 h63 hbytes
  have hw1 : GB v.ownBlock w w₁ := (GB.refl _ w).same h2
  exact ⟨v', w', .inl h3, h v' w' h4 (hw1.trans h5) (by rw [h2.heap] at h6; exact h6)⟩
theorem dL.mQ {K : Act → World → Prop} (ho : ops[i]? = some o) (hw : Region.wanted o (yielded ops a.tmps) = true) {s x : Operand} {t : TypeId} (hop : o.op = .call { callee := .builtin .append, args := #[s, x], argTypes := #[t, t] })
    (e : TypeId) (ii : TypeInfo) (z : Value) (size bytes : Nat) (ht : P.underlying t = some (.slice e)) (hi : P.info? e = some ii) (hz : ii.zero = some z) (hsize : ii.size = size) (hby : ii.bytes = bytes) (hzs : z.cells.size = size) (hsz : 0 < size)
    {v : Value} {n : Nat} {xs : List Value} (hs : a.eval s = v) (hown : w.ownsRow 0 e size v n xs) {B m c : Nat} {news : List Value} {off : Nat} (hx : a.eval x = .slice (some ⟨B, off, none⟩) m c) {nb : Array Value} {tb : TypeId} (hW : w.heap[B]? = some (.cells nb tb)) (hnb : (nb.toList.drop off).take (m * size) = news) (hl : news.length = m * size) (h1 : ∀ u ∈ news, u.oneCell' = true)
    (h63 : n + m ≤ maxLen) (hbytes : (n + m) * bytes ≤ 140737488355328)
    (h : ∀ v' w', w'.ownsRow 0 e size v' (n + m) (xs ++ news) → GB v.ownBlock w w' → (∀ g, v'.ownBlock = some g → v.ownBlock = some g ∨ w.heap.size ≤ g) → K (a.put o.dst v') w') : dL P ops i K a w := by
  refine dL.op ho hw (nJ hop rfl) fun w₁ h2 => ?_
  obtain ⟨v', w', h3, h4, h5, h6⟩ := Aw (P := P) (w := w₁) hop e ii z size bytes ht hi hz hsize hby hzs hsz hs (iy hown fun g _ => by rw [h2.heap]) hx (by rw [h2.heap]; exact hW) hnb hl h1 h63 hbytes
  have hw1 : GB v.ownBlock w w₁ := (GB.refl _ w).same h2
  exact ⟨v', w', .inl h3, h v' w' h4 (hw1.trans h5) (by rw [h2.heap] at h6; exact h6)⟩
end
theorem GB.fresh {w w1 w2 : World} {b : Nat} (h : GB none w w1) (k : GB (some b) w1 w2) (_hb : w.heap.size ≤ b) : GB none w w2 :=
  ⟨k.os.trans h.os, k.out.trans h.out, Nat.le_trans h.size k.size, fun x hx _ => (k.block x (Nat.lt_of_lt_of_le hx h.size) (fun e => by injection e with e; omega)).trans (h.block x hx nofun)⟩
structure Rp where
  (g i gs sz bn bi : Int)
  (vm : Nat)
  (wn wi : Int)
  (wm : Nat)
  (sn : Int)
  (kn : Nat)
  (lg : Value)
  (sg mJ : Int)
  (sr sm sd so si ob : Value)
  (ro pr : Int)
  (mt : Nat)
  (nx : Int)
  (pp ac : Nat)
def Rp.cells (r : Rp) : List Value := tV r.g r.i r.gs r.sz r.bn r.bi r.vm r.wn r.wi r.wm r.sn r.kn r.lg r.sg r.mJ r.sr r.sm r.sd r.so r.si r.ob r.ro r.pr r.mt r.nx r.pp r.ac
abbrev Rp.At (r : Rp) (w : World) (br : Nat) : Prop := w.heap[br]? = some (.cells r.cells.toArray 152)
def qo (w : World) (vm wm kn mt pp ac : Nat) : Prop := iT w vm ∧ iT w wm ∧ iT w kn ∧ iT w mt ∧ iT w pp ∧ iT w ac
abbrev Rp.Es (r : Rp) (w : World) : Prop := qo w r.vm r.wm r.kn r.mt r.pp r.ac
theorem qo.gb {w w' : World} {vm wm kn mt pp ac b : Nat} {xs : Array Value} {t : TypeId} (h : qo w vm wm kn mt pp ac) (hg : GB (some b) w w') (hb : w.heap[b]? = some (.cells xs t)) : qo w' vm wm kn mt pp ac :=
  ⟨h.1.gb hg hb, h.2.1.gb hg hb, h.2.2.1.gb hg hb, h.2.2.2.1.gb hg hb, h.2.2.2.2.1.gb hg hb, h.2.2.2.2.2.gb hg hb⟩
theorem qo.ek {w w' : World} {vm wm kn mt pp ac : Nat} (h : qo w vm wm kn mt pp ac) (hg : GB none w w') : qo w' vm wm kn mt pp ac :=
  ⟨hg.get h.1 nofun, hg.get h.2.1 nofun, hg.get h.2.2.1 nofun, hg.get h.2.2.2.1 nofun, hg.get h.2.2.2.2.1 nofun, hg.get h.2.2.2.2.2 nofun⟩
theorem Ur (r : Rp) (w : World) (br : Nat) (hB : r.At w br) (e : r.Es w) : aX Tryz.prog 111 #[.pointer (some ⟨br, 0, none⟩)] w (fun v w' => v = .tuple #[] ∧ Rp.At { r with ro := 0, pr := 0 } w' br ∧ GB (some br) w w') :=
  stand w br hB e.2.2.2.1 e.2.2.2.2.1 e.2.2.2.2.2
structure nK (w : World) (r : Rp) (n bM bO bI : Nat) : Prop where
  lg : r.lg = .slice none 0 0
  sg : r.sg = r.g
  mJ : r.mJ = n
  sr : r.sr = .slice none 0 0
  sm : r.sm = .slice (some ⟨bM, 0, none⟩) 1 1
  sd : r.sd = .slice none 0 0
  so : r.so = .slice (some ⟨bO, 0, none⟩) n n
  si : r.si = .slice (some ⟨bI, 0, none⟩) n n
  mp : w.heap[bM]? = some (.cells #[.int .u64 0, .int .u8 0] 107)
  out : w.heap[bO]? = some (.cells (dQ n n).toArray 103)
  MJ : w.heap[bI]? = some (.cells (List.replicate n (Value.int .u32 0)).toArray 47)
theorem MK (r : Rp) (w : World) (br : Nat) (hB : r.At w br) (e : r.Es w) {n : Nat} (hgs : r.gs = n) (hn1 : 1 ≤ n) (GL : n ≤ 4) (hg0 : 0 ≤ r.g) (hg1 : r.g < n) :
    aX Tryz.prog 61 #[.pointer (some ⟨br, 0, none⟩)] w (fun v w' => v = .tuple #[] ∧ ∃ r' : Rp, r'.At w' br ∧ GB (some br) w w' ∧ r'.Es w' ∧ (∃ bM bO bI, nK w' r' n bM bO bI) ∧ r'.g = r.g ∧ r'.i = r.i ∧ r'.gs = r.gs ∧ r'.sz = r.sz ∧ r'.bn = r.wn ∧ r'.bi = r.wi ∧ r'.wn = r.wn ∧ r'.wi = r.wi ∧ r'.sn = r.wn ∧ r'.ob = r.ob ∧ r'.ro = 0 ∧ r'.pr = 0 ∧ r'.nx = r.nx) := by
  intro main D X cs hX hk
  refine MI w br hB e.2.2.2.1 e.2.2.2.2.1 e.2.2.2.2.2 e.2.2.1 e.1 e.2.1 hgs hn1 GL hg0 hg1 main D X cs hX fun fr v w' h1 h2 h3 => hk fr v w' h1 h2 ?_
  obtain ⟨rfl, bM, bO, bI, h4, h5, h6, h7, h8, h9, h10, h11⟩ := h3
  exact ⟨rfl, ⟨r.g, r.i, r.gs, r.sz, r.wn, r.wi, r.vm, r.wn, r.wi, r.wm, r.wn, r.kn, .slice none 0 0, r.g, r.gs, .slice none 0 0, .slice (some ⟨bM, 0, none⟩) 1 1, .slice none 0 0, .slice (some ⟨bO, 0, none⟩) n n, .slice (some ⟨bI, 0, none⟩) n n, r.ob, 0, 0, r.mt, r.nx, r.pp, r.ac⟩, h4, h11, e.gb h11 hB, ⟨bM, bO, bI, rfl, rfl, hgs, rfl, rfl, rfl, rfl, rfl, h8, h9, h10⟩, rfl, rfl, rfl, rfl, rfl, rfl, rfl, rfl, rfl, rfl, rfl, rfl, rfl⟩
structure RS (w : World) (br : Nat) (r : Rp) (g i n sz : Nat) : Prop where
  mem : r.At w br
  es : r.Es w
  IQ : ∃ bM bO bI, nK w r n bM bO bI
  g : r.g = g
  i : r.i = i
  gs : r.gs = n
  sz : r.sz = sz
  ob : r.ob = .slice none 0 0
structure Fr (r : Rp) : Prop where
  bn : r.bn = 0
  bi : r.bi = 0
  wn : r.wn = 0
  wi : r.wi = 0
  sn : r.sn = 0
  ro : r.ro = 0
  pr : r.pr = 0
  nx : r.nx = 0
noncomputable def QK : Code := Tryz.f57.body.getD .skip
theorem ML : Tryz.f57.body = some QK := by
  unfold QK
  rfl
theorem Sn (x0 x1 x2 : Value) : Frame.enter Tryz.prog 57 #[x0, x1, x2] .normal = (Go.Conc.base 57).at ⟨#[x0, x1, x2, undef, undef, undef, undef, undef, undef, undef, undef, undef, undef, undef, undef, undef, undef, undef, undef, undef, undef, undef, undef, undef], []⟩ [.code QK] := by
  have h := enter_at (P := Tryz.prog) #[x0, x1, x2] Tryz.func57 ML
  rw [show Tryz.f57.ntmps = 24 from rfl] at h
  rw [h]
  walk_nrm
theorem H9 (w : World) (g i n sz : Nat) (hn1 : 1 ≤ n) (GL : n ≤ 4) (_hg : g < n) :
    aX Tryz.prog 57 #[.agg #[.int .u8 g, .int .u8 i], .int .i64 n, .int .i64 sz] w (fun v w' => ∃ br r, v = .pointer (some ⟨br, 0, none⟩) ∧ w.heap.size ≤ br ∧ RS w' br r g i n sz ∧ Fr r ∧ GB none w w') := by
  intro main D X cs hX hk
  rw [Sn]
  simp only [QK, Tryz.f57, Option.getD]
  refine xw ?_
  refine Shut.cK hX rfl rfl xB xO (ob := .cells #[.int .u8 g, .int .u8 i] 66) (v := fun b => .pointer (some ⟨b, 0, none⟩)) (fun w1 _ => by go_simp <;> rfl) (fun w1 b1 hb1 g1 l1 => ?_)
  refine xn ?_
  refine xw ?_
  refine Shut.dF hX rfl rfl xB rfl rfl hb1 (by kernel_rfl) [.int .u8 g, .int .u8 i] (by kernel_rfl) (Nat.le_of_ble_eq_true rfl) rfl ?_
  refine xn ?_
  refine xw ?_
  refine Shut.cK hX rfl rfl xB xO (ob := .map #[] 0) (v := fun b => .map (some b)) (fun w1 _ => by go_simp <;> rfl) (fun w2 m1 e1 g2 l2 => ?_)
  refine xn ?_
  refine xw ?_
  refine Shut.cK hX rfl rfl xB xO (ob := .map #[] 0) (v := fun b => .map (some b)) (fun w1 _ => by go_simp <;> rfl) (fun w3 m2 e2 g3 l3 => ?_)
  refine xn ?_
  refine xw ?_
  refine Shut.cK hX rfl rfl xB xO (ob := .map #[] 0) (v := fun b => .map (some b)) (fun w1 _ => by go_simp <;> rfl) (fun w4 m3 e3 g4 l4 => ?_)
  refine xn ?_
  refine xw ?_
  refine Shut.cK hX rfl rfl xB xO (ob := .map #[] 0) (v := fun b => .map (some b)) (fun w1 _ => by go_simp <;> rfl) (fun w5 m4 e4 g5 l5 => ?_)
  refine xn ?_
  refine xw ?_
  refine Shut.cK hX rfl rfl xB xO (ob := .map #[] 0) (v := fun b => .map (some b)) (fun w1 _ => by go_simp <;> rfl) (fun w6 m5 e5 g6 l6 => ?_)
  refine xn ?_
  refine xw ?_
  refine Shut.cK hX rfl rfl xB xO (ob := .map #[] 0) (v := fun b => .map (some b)) (fun w1 _ => by go_simp <;> rfl) (fun w7 m6 e6 g7 l7 => ?_)
  refine xn ?_
  refine xw ?_
  let r0 : Rp := ⟨g, i, n, sz, 0, 0, m1, 0, 0, m2, 0, m3, .slice none 0 0, 0, 0, .slice none 0 0, .slice none 0 0, .slice none 0 0, .slice none 0 0, .slice none 0 0, .slice none 0 0, 0, 0, m4, 0, m5, m6⟩
  refine Shut.cK hX rfl rfl xB xO (ob := .cells r0.cells.toArray 152) (v := fun b => .pointer (some ⟨b, 0, none⟩)) (fun w1 _ => by go_simp <;> rfl) (fun w8 br QL g8 l8 => ?_)
  refine xn ?_
  refine xw ?_
  have hes : r0.Es w8 := by
    have h7 := g7.trans g8
    have h6 := g6.trans h7
    have h5 := g5.trans h6
    have h4 := g4.trans h5
    have h3 := g3.trans h4
    exact ⟨h3.get e1 nofun, h4.get e2 nofun, h5.get e3 nofun, h6.get e4 nofun, h7.get e5 nofun, g8.get e6 nofun⟩
  have ll : GB none w w8 := ((((((g1.trans g2).trans g3).trans g4).trans g5).trans g6).trans g7).trans g8
  have hlr : w.heap.size ≤ br := by
    have := ((((((g1.trans g2).trans g3).trans g4).trans g5).trans g6).trans g7).size
    omega
  clear g1 g2 g3 g4 g5 g6 g7 g8 e1 e2 e3 e4 e5 e6 l1 l2 l3 l4 l5 l6 l7 l8 hb1
  refine Shut.bQ hX rfl rfl xB rfl Tryz.func61 (by kernel_rfl) (by rw [GK]; rfl) (MK r0 w8 br QL hes rfl hn1 GL (Int.natCast_nonneg g) (by show (g : Int) < n; omega)) xk ?_
  rintro v w9 ⟨rfl, r', GM, g9, Us, Pe, h1, h2, h3, h4, h5, h6, h7, h8, h9, h10, h11, h12, MM⟩
  refine xm ?_
  refine xw ?_
  refine xg ?_
  refine aj.ret hX.c ?_
  exact hk _ _ _ rfl (cu rfl Tryz.func57 rfl) ⟨br, r', rfl, hlr, ⟨GM, Us, Pe, h1, h2, h3, h4, h10⟩, ⟨h5, h6, h7, h8, h9, h11, h12, MM⟩, ll.fresh g9 hlr⟩
def Kp (T : List TypeId) (w w' : World) : Prop := ∀ (x : Nat) (o : Obj), w.heap[x]? = some o → (∀ xs t f, o = .cells xs t f → t ∉ T) → w'.heap[x]? = some o
theorem GB.kp {r : Option Nat} {w w' : World} {T : List TypeId} (h : GB r w w') (hr : ∀ b, r = some b → ∃ xs t f, w.heap[b]? = some (.cells xs t f) ∧ t ∈ T) : Kp T w w' := fun x o hx ho => h.get hx fun e => by
  obtain ⟨xs, t, f, h1, h2⟩ := hr x e.symm
  rw [hx] at h1
  injection h1 with h1
  exact ho xs t f h1 h2
theorem GB.oF {w w' : World} (h : GB none w w') (T : List TypeId) : Kp T w w' := h.kp nofun
theorem Kp.trans {T : List TypeId} {a b c : World} (h : Kp T a b) (k : Kp T b c) : Kp T a c := fun x o hx ho => k x o (h x o hx ho) ho
theorem Kp.blk {T : List TypeId} {w w' : World} (h : Kp T w w') {x : Nat} {xs : Array Value} {t : TypeId} {f : Nat × Nat} (hx : w.heap[x]? = some (.cells xs t f)) (ht : t ∉ T) : w'.heap[x]? = some (.cells xs t f) := h x _ hx fun _ _ _ e => by cases e; exact ht
theorem Kp.emp {T : List TypeId} {w w' : World} (h : Kp T w w') {m : Nat} (hm : iT w m) : iT w' m := h m _ hm fun _ _ _ e => by cases e
theorem Kp.es {T : List TypeId} {w w' : World} (h : Kp T w w') {vm wm kn mt pp ac : Nat} (e : qo w vm wm kn mt pp ac) : qo w' vm wm kn mt pp ac :=
  ⟨h.emp e.1, h.emp e.2.1, h.emp e.2.2.1, h.emp e.2.2.2.1, h.emp e.2.2.2.2.1, h.emp e.2.2.2.2.2⟩
theorem Kp.own {T : List TypeId} {w w' : World} (h : Kp T w w') {e : TypeId} {size n : Nat} {v : Value} {xs : List Value} (ho : w.ownsRow 0 e size v n xs) (he : e ∉ T) : w'.ownsRow 0 e size v n xs := by
  refine ⟨ho.1, ?_⟩
  rcases ho.2 with h1 | ⟨g, cap, cur, h1, h2, h3, h4⟩
  · exact .inl h1
  · exact .inr ⟨g, cap, cur, h1, h2, h.blk h3 he, h4⟩
theorem GN {w w' : World} {e : TypeId} {size n : Nat} {v : Value} {xs : List Value} (ho : w.ownsRow 0 e size v n xs) (h : GB v.ownBlock w w') {T : List TypeId} (he : e ∈ T) : Kp T w w' := h.kp fun b hb => by
  rcases ho.2 with ⟨rfl, _⟩ | ⟨g, cap, cur, rfl, _, h3, _⟩
  · cases hb
  · obtain rfl : g = b := by simpa [Value.ownBlock] using hb
    exact ⟨_, _, _, h3, he⟩
theorem nK.kp {T : List TypeId} {w w' : World} {r : Rp} {n bM bO bI : Nat} (h : nK w r n bM bO bI) (k : Kp T w w') (h1 : 107 ∉ T) (h2 : 103 ∉ T) (h3 : 47 ∉ T) : nK w' r n bM bO bI :=
  { h with mp := k.blk h.mp h1, out := k.blk h.out h2, MJ := k.blk h.MJ h3 }
def uZ (T : List TypeId) : Prop := 107 ∉ T ∧ 103 ∉ T ∧ 47 ∉ T ∧ 152 ∉ T
theorem RS.kp {T : List TypeId} {w w' : World} {br g i n sz : Nat} {r : Rp} (h : RS w br r g i n sz) (k : Kp T w w') (hT : uZ T) : RS w' br r g i n sz :=
  { h with mem := k.blk h.mem hT.2.2.2, es := k.es h.es, IQ := by obtain ⟨bM, bO, bI, hb⟩ := h.IQ; exact ⟨bM, bO, bI, hb.kp k hT.1 hT.2.1 hT.2.2.1⟩ }
section
variable {P : Program} {main : Bool} {D : World → World → Array Event → Prop} {X : Goroutine → World → Prop} {b : Frame} {k : List Item} {cs : List Frame}
theorem Shut.vN (hX : Shut P main D X) {c : Code} (Inv : Nat → Act → World → Prop) (h : ∀ m a w, Inv m a w → (∀ m' a' w', m' < m → Inv m' a' w' → X (G (b.at a' (.inLoop c :: k)) cs) w') → X (G (b.at a (.code c :: .inLoop c :: k)) cs) w) {m : Nat} {a : Act} {w : World} (h0 : Inv m a w) : X (G (b.at a (.code (.loop c) :: k)) cs) w := by
  refine hX.c.loop ?_
  suffices hh : ∀ n m a w, m ≤ n → Inv m a w → X (G (b.at a (.code c :: .inLoop c :: k)) cs) w from hh m m a w (Nat.le_refl _) h0
  intro n
  induction n with
  | zero => exact fun m a w hm hi => h m a w hi fun m' a' w' hlt _ => absurd hlt (by omega)
  | succ n ih => exact fun m a w hm hi => h m a w hi fun m' a' w' hlt hi' => hX.c.inLoop (ih m' a' w' (by omega) hi')
end
theorem dM {a : Act} {F : (Nat → Value) → Array Value} (h : a = ⟨F (fun i => a.tmps.getD i undef), []⟩) : ∃ ys, a = ⟨F ys, []⟩ := ⟨_, h⟩
theorem mD {P : Program} {f : FuncId} {fn : Func} {a : Act} {todo : List Item} {w : World} {t u : Tmp} (hd : a.defers = []) (hf : P.funcs[f]? = some fn) (hr : fn.results = #[.tmp t, .tmp u]) : ({ (Go.Conc.base f).at a todo with mode := .returning } : Frame).leaving P w (.returned (.tuple #[a.tmps.getD t undef, a.tmps.getD u undef])) := ⟨rfl, hd, rfl, fn, hf, results_tmp2 hr _ _ _⟩
noncomputable def c18 : Code := Tryz.f18.body.getD .skip
theorem CP : Tryz.f18.body = some c18 := by
  unfold c18
  rfl
theorem IU (x0 x1 : Value) : Frame.enter Tryz.prog 18 #[x0, x1] .normal = (Go.Conc.base 18).at ⟨#[x0, x1, undef, undef, undef, undef, undef, undef, undef, undef, undef, undef, undef, undef, undef, undef, undef, undef, undef, undef, undef, undef, undef, undef, undef, undef, undef, undef, undef, undef, undef, undef, undef, undef, undef, undef, undef, undef, undef, undef, undef, undef, undef, undef, undef, undef, undef, undef, undef, undef, undef, undef, undef, undef, undef, undef, undef, undef, undef, undef, undef, undef, undef, undef], []⟩ [.code c18] := by
  have h := enter_at (P := Tryz.prog) #[x0, x1] Tryz.func18 CP
  rw [show Tryz.f18.ntmps = 64 from rfl] at h
  rw [h]
  walk_nrm
theorem Sq (w : World) (n f : Int) (_h : ¬(1 ≤ n ∧ n ≤ 4 ∧ 0 ≤ f ∧ f ≤ 2)) : aX Tryz.prog 18 #[.int .i64 n, .int .i64 f] w (fun v w' => v = .tuple #[.pointer none, .int .i64 5] ∧ GB none w w') := by
  intro main D X cs hX hk
  rw [IU]
  simp only [c18, Tryz.f18, Option.getD]
  by_cases h1 : n < 1
  · refine xw ?_
    refine xg ?_
    refine aj.ret hX.c ?_
    exact hk _ _ _ rfl (mD rfl Tryz.func18 rfl) ⟨rfl, GB.refl _ _⟩
  by_cases h2 : 4 < n
  · refine xw ?_
    refine xg ?_
    refine aj.ret hX.c ?_
    exact hk _ _ _ rfl (mD rfl Tryz.func18 rfl) ⟨rfl, GB.refl _ _⟩
  by_cases h3 : f < 0
  · refine xw ?_
    refine xg ?_
    refine aj.ret hX.c ?_
    exact hk _ _ _ rfl (mD rfl Tryz.func18 rfl) ⟨rfl, GB.refl _ _⟩
  have h4 : 2 < f := by omega
  refine xw ?_
  refine xg ?_
  refine aj.ret hX.c ?_
  exact hk _ _ _ rfl (mD rfl Tryz.func18 rfl) ⟨rfl, GB.refl _ _⟩
end
end Go.Proofs.YtignemioillaiaaGreat
