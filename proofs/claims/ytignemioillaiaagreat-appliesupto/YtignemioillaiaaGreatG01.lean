/- Short words for the cells of structs. -/
import Derived.WalkKit
import Derived.WalkSpells
import Derived.KernelRfl
import Derived.Deep.RegionHeld3
import Derived.Test.YtignemioillaiaaGreatRows
import Derived.ProofKit
import Derived.Deep.Slices
import Derived.Deep.Strs
namespace Go.Proofs.YtignemioillaiaaGreat
set_option maxHeartbeats 8000000
set_option maxRecDepth 100000
section
open Go.RowKit
abbrev rQ (x0:Int) (x1:Int) (x2:Int) (x3:Int) (x4:Int) (x5:Int) (x6:Int):List Value:=[.int .u8 x0,.int .u32 x1,.int .u8 x2,.int .u64 x3,.int .u64 x4,.int .u64 x5,.int .u8 x6]
abbrev rP (x0:Int) (x1:Int) (x2:Int) (x3:Int) (x4:Bool) (x5:Int) (x6:Int):List Value:=[.int .u8 x0,.int .u32 x1,.int .u64 x2,.int .u8 x3,.bool x4,.int .u64 x5,.int .u8 x6]
abbrev rR (x0:Int) (x1:Int) (x2:Int) (x3:Int) (x4:Int) (x5:Option Addr) (x5n x5c:Nat) (x6:Option Addr) (x6n x6c:Nat):List Value:=[.int .u8 x0,.int .u8 x1,.int .u32 x2,.int .u64 x3,.int .u64 x4,.slice x5 x5n x5c,.slice x6 x6n x6c]
abbrev rC (x0:Int) (x1:Int) (x2:Int) (x3:Int) (x4:Int) (x5:Int) (x6:Int) (x7:Int) (x8:Int) (x9:Int) (x10:Int) (x11:Int) (x12:Int) (x13:Option Addr) (aha ahb:Nat) (x14:Option Addr) (ahc ahd:Nat) (x15:Int) (x16:Int):List Value:=[.int .u8 x0,.int .u8 x1,.int .u32 x2,.int .u8 x3,.int .u64 x4,.int .u64 x5,.int .u64 x6,.int .u8 x7,.int .u8 x8,.int .u8 x9,.int .u32 x10,.int .u64 x11,.int .u64 x12,.slice x13 aha ahb,.slice x14 ahc ahd,.int .u8 x15,.int .u32 x16]
abbrev rS (x0:Int) (x1:Int) (x2:Option Addr) (x2n x2c:Nat) (x3:Option Addr) (x3n x3c:Nat) (x4:Option Addr) (x4n x4c:Nat) (x5:Option Addr) (x5n x5c:Nat) (x6:Option Addr) (x6n x6c:Nat):List Value:=[.int .u8 x0,.int .u8 x1,.slice x2 x2n x2c,.slice x3 x3n x3c,.slice x4 x4n x4c,.slice x5 x5n x5c,.slice x6 x6n x6c]
abbrev rW (x0:Int) (x1:Int) (x2:Value) (x3:Value) (x4:Value) (x5:Value) (x6:Value):List Value:=[.int .u8 x0,.int .u8 x1,x2,x3,x4,x5,x6]
abbrev bA:List Value:=[.int .u8 0,.int .u32 0,.int .u64 0,.int .u8 0,.bool false,.int .u64 0,.int .u8 0]
abbrev Fz:List Value:=[.int .u8 0,.int .u8 0,.int .u32 0,.int .u64 0,.int .u64 0,.slice none 0 0,.slice none 0 0]
abbrev oxC:List Value:=[.int .u8 0,.int .u8 0,.int .u32 0,.int .u8 0,.int .u64 0,.int .u64 0,.int .u64 0,.int .u8 0,.int .u8 0,.int .u8 0,.int .u32 0,.int .u64 0,.int .u64 0,.slice none 0 0,.slice none 0 0,.int .u8 0,.int .u32 0]
abbrev dS:List Value:=[.int .u8 0,.int .u8 0,.slice none 0 0,.slice none 0 0,.slice none 0 0,.slice none 0 0,.slice none 0 0]
abbrev dJ (T:TypeId) (t:Nat) (P:Program) (ops:Array Oper) (Q:Exit→Act→World→Prop) (x:Operand) (ty:TypeId) (pos:String) (RH:Array Edge) (rest:List Oper) (a:Act) (w:World):Prop:=wpList P ops Q ({ dst:=none,op:=Op.store T (Operand.tmp t) x,type:=ty,pos:=pos,after:=RH,guard:=none }::rest) a w
abbrev cB (d:Nat) (T:TypeId) (P:Program) (ops:Array Oper) (Q:Exit→Act→World→Prop) (x:Operand) (ty:TypeId) (pos:String) (RH:Array Edge) (rest:List Oper) (a:Act) (w:World):Prop:=wpList P ops Q ({ dst:=some d,op:=Op.load T x,type:=ty,pos:=pos,after:=RH,guard:=none }::rest) a w
abbrev yw (d:Nat) (P:Program) (ops:Array Oper) (Q:Exit→Act→World→Prop) (x:Call) (ty:TypeId) (pos:String) (RH:Array Edge) (rest:List Oper) (a:Act) (w:World):Prop:=wpList P ops Q ({ dst:=some d,op:=Op.call x,type:=ty,pos:=pos,after:=RH,guard:=none }::rest) a w
abbrev I5 (d:Nat) (T:TypeId) (P:Program) (ops:Array Oper) (Q:Exit→Act→World→Prop) (x:Operand) (gd:Option (Nat×Bool)) (ty:TypeId) (pos:String) (RH:Array Edge) (rest:List Oper) (a:Act) (w:World):Prop:=wpList P ops Q ({ dst:=some d,op:=Op.load T x,type:=ty,pos:=pos,after:=RH,guard:=gd }::rest) a w
theorem dK {α:Type} (l:List α) (i:Nat) (a:α):l.toArray.setIfInBounds i a=(l.set i a).toArray:=List.setIfInBounds_toArray l i a
theorem fF {α:Type} (x a:α) (l:List α):(x::l).set 0 a=a::l:=rfl
theorem fG {α:Type} (x a:α) (l:List α) (i:Nat):(x::l).set (i+1) a=x::l.set i a:=rfl
theorem df {α:Type} {a:Array α} {i:Nat} {x:α} (h:a[i]? = some x):i<a.size:=(Array.getElem?_eq_some_iff.1 h).1
theorem mV {α:Type} {a:List α} {i:Nat} {x:α} (h:a[i]? = some x):i<a.length:=(List.getElem?_eq_some_iff.1 h).1
section
variable {P:Program} {ops:Array Oper} {Q:Exit→Act→World→Prop} {md:Region.Mode} {S:World→Prop} {fuel:Nat} {listed:Array Bool} {a:Act} {w:World}
theorem dC (i:Nat) {oi:Oper} {v:Value} (h:wpAnyH P md ops Q S fuel (listed.setIfInBounds i true) (a.put oi.dst v) w) (hi:ops[i]? = some oi:=by with_unfolding_all exact rfl) (hw:Region.wanted oi (yielded ops a.tmps)=true:=by rfl) (hy:∀ w,S w→(execOp a.eval oi).run P w=.ok (.value v) w:=by intro w hSw;(try dsimp only at hSw);go_simp;try with_reducible rfl) (hs:Region.noSelect ops=true:=by kernel_rfl) (hf:Region.free md ops listed i=true:=by kernel_rfl) (hr:(Region.ready md ops listed).contains i=true:=by kernel_rfl) (hQ:∀ c a w,Q (.panic c) (a.put oi.dst v) w→Q (.panic c) a w:=by exact fun _ _ _ h=>h) (hS:S w:=by assumption):wpAnyH P md ops Q S (fuel+1) listed a w:=wpAnyH_take hi hs hf hr hQ (.inl ⟨hw,hy⟩) hS h
theorem mo (i:Nat) {o:Oper} (h:∀ K':Act→World→Prop,Shut (∀ a w,S w→(S w→wpAnyH P md ops Q S fuel (listed.setIfInBounds i true) a w)→K' a w)→if Region.wanted o (yielded ops a.tmps)=true then Oper.wp P o a w K' Q else K' (a.put o.dst undef) w) (ho:ops[i]? = some o:=by with_unfolding_all exact rfl) (hr:Region.ready md ops listed=[i]:=by kernel_rfl):wpAnyH P md ops Q S (fuel+1) listed a w:=wpAnyH_ready hr (by simp) (AllReadyH.cons ho h AllReadyH.nil)
end
end
section
abbrev RI:=@Tryz.underlying3
abbrev xU4:=@Tryz.underlying4
abbrev KQ:=@Tryz.underlying5
abbrev acr:=@Tryz.underlying22
abbrev AL:=@Tryz.underlying23
abbrev acs:=@Tryz.underlying24
abbrev rE:=@Tryz.underlying25
abbrev Lv:=@Tryz.underlying26
abbrev qy:=@Tryz.underlying27
abbrev RJ:=@Tryz.underlying28
abbrev RL:=@Tryz.underlying29
abbrev fE:=@Tryz.underlying31
abbrev ahe:=@Tryz.underlying37
abbrev ahf:=@Tryz.underlying38
abbrev ahg:=@Tryz.underlying39
abbrev ahh:=@Tryz.underlying41
abbrev ahi:=@Tryz.underlying42
abbrev ahj:=@Tryz.underlying43
abbrev VI:=@Tryz.underlying47
abbrev Hq:=@Tryz.underlying48
abbrev wR:=@Tryz.underlying50
abbrev qD:=@Tryz.underlying52
abbrev Lx:=@Tryz.underlying54
abbrev dD:=@Tryz.underlying57
abbrev Hr:=@Tryz.underlying101
abbrev aau:=@Tryz.underlying103
abbrev FC:=@Tryz.underlying107
abbrev ve:=@Tryz.underlying128
end
section
open Go.RowKit
open Go.RowKit
open Go.RowKit
structure Sl where
 a:Option Addr
 len:Nat
 cap:Nat
structure bH where
 (c s k key v hi to:Int)
structure ak where
 (c s key k:Int)
 found:Bool
 (v g:Int)
structure Row where
 (key val:Int)
structure aF where
 (src dst seq lo hi:Int)
 (rs ds:Sl)
 rows:List Row
 bP:List ak
structure dY where
 kind:Int
 zq:bH
 qE:aF
 (peer seq:Int)
def bH.ok (q:bH):Bool :=
 decide (q.c<4) && decide (1≤q.s) &&
  (((q.k == 1 || q.k == 3) && q.v == 0 && q.hi == 0 && q.to == 0) || (q.k == 2 && q.hi == 0 && q.to == 0) ||
   (q.k == 4 && q.v == 0 && decide (q.key≤q.hi) && decide (q.to<4)))
def ak.ok (p:ak):Bool :=
 decide (p.c<4) && decide (1≤p.s) &&
  ((p.k == 1 && (p.found || p.v == 0) && p.g == 0) || (p.k == 3 && decide (p.g<4) && !p.found && p.v == 0) ||
   ((p.k == 2 || p.k == 4 || p.k == 5) && !p.found && p.v == 0 && p.g == 0))
def rowAt (lo hi:Int) (rows:List Row) (i:Nat):Bool :=
 match rows[i]? with
 | none=>true
 | some x=>decide (lo≤x.key) && decide (x.key≤hi) && (i == 0 || match rows[i - 1]? with
  | none=>true
  | some y=>decide (y.key<x.key))
def ahead (a b:ak):Bool:=decide (a.key<b.key) || a.key == b.key && decide (a.c<b.c)
def kept (k:Int):Bool:=k == 1 || k == 2 || k == 5
def qV (lo hi:Int) (bP:List ak) (i:Nat):Bool :=
 match bP[i]? with
 | none=>true
 | some x=>x.ok && kept x.k && decide (lo≤x.key) && decide (x.key≤hi) && (i == 0 || match bP[i - 1]? with
  | none=>true
  | some y=>ahead y x)
def uV (lo hi:Int) (rows:List Row):Bool:=decide (rows.length≤255) && (List.range rows.length).all (rowAt lo hi rows)
def yx (lo hi:Int) (bP:List ak):Bool:=decide (bP.length≤255) && (List.range bP.length).all (qV lo hi bP)
def aF.ok (r:aF):Bool:=decide (r.src<4) && decide (r.dst<4) && decide (1≤r.seq) && decide (r.lo≤r.hi) && uV r.lo r.hi r.rows && yx r.lo r.hi r.bP
structure bQ (B:Nat) (w:World) (s:Sl) (size:Nat) (xs:List (List Value)):Prop where
 len:s.len=xs.length
 le:s.len≤s.cap
 max:s.cap≤maxLen
 at':0<s.len→∃ b off,s.a=some ⟨b,off,none⟩∧b<B∧∀ i x,xs[i]? = some x→∀ j u,x[j]? = some u→w.cell? ⟨b,off+i*size+j,none⟩=some u
def bH.cells (q:bH):List Value:=(rQ q.c q.s q.k q.key q.v q.hi q.to)
def ak.cells (p:ak):List Value:=(rP p.c p.s p.key p.k p.found p.v p.g)
def Row.cells (x:Row):List Value:=[.int .u64 x.key,.int .u64 x.val]
def Sl.val (s:Sl):Value:=.slice s.a s.len s.cap
def aF.cells (r:aF):List Value:=[.int .u8 r.src,.int .u8 r.dst,.int .u32 r.seq,.int .u64 r.lo,.int .u64 r.hi,r.rs.val,r.ds.val]
def dY.cells (c:dY):List Value:=[.int .u8 c.kind]++c.zq.cells++c.qE.cells++[.int .u8 c.peer,.int .u32 c.seq]
structure aF.In (B:Nat) (w:World) (r:aF):Prop where
 rows:bQ B w r.rs 2 (r.rows.map Row.cells)
 bP:bQ B w r.ds 7 (r.bP.map ak.cells)
theorem bQ.below {B B':Nat} {w w':World} {s:Sl} {size:Nat} {xs:List (List Value)} (h:bQ B w s size xs) (hb:Below B' w w') (hB:B≤B'):bQ B w' s size xs :=
 ⟨h.len,h.le,h.max,fun h0=>by
  obtain ⟨b,off,ha,hlt,hc⟩:=h.at' h0;exact ⟨b,off,ha,hlt,fun i x hx j u hu=>(hb.cell (p:=⟨b,_,none⟩) (by show b<B';omega)).trans (hc i x hx j u hu)⟩⟩
theorem aF.In.below {B B':Nat} {w w':World} {r:aF} (h:r.In B w) (hb:Below B' w w') (hB:B≤B'):r.In B w':=⟨h.rows.below hb hB,h.bP.below hb hB⟩
theorem bQ.at2 {B:Nat} {w:World} {s:Sl} {rows:List Row} (h:bQ B w s 2 (rows.map Row.cells)) {i:Nat} {x:Row} (hx:rows[i]? = some x) :
 ∃ b off,s.a=some ⟨b,off,none⟩∧b<B∧w.cell? ⟨b,off+i*2,none⟩=some (.int .u64 x.key)∧w.cell? ⟨b,off+i*2+1,none⟩=some (.int .u64 x.val):=by
 have hi:=(mV hx);obtain ⟨b,off,ha,hlt,hc⟩:=h.at' (by rw [h.len];simp;omega);have:=hc i (Row.cells x) (by simp [hx]);exact ⟨b,off,ha,hlt,this 0 _ rfl,this 1 _ rfl⟩
theorem bQ.KR {B:Nat} {w:World} {s:Sl} {bP:List ak} (h:bQ B w s 7 (bP.map ak.cells)) {i:Nat} {x:ak} (hx:bP[i]? = some x) :
 ∃ b off,s.a=some ⟨b,off,none⟩∧b<B∧w.cell? ⟨b,off+i*7,none⟩=some (.int .u8 x.c)∧w.cell? ⟨b,off+i*7+1,none⟩=some (.int .u32 x.s)∧w.cell? ⟨b,off+i*7+2,none⟩=some (.int .u64 x.key) ∧
  w.cell? ⟨b,off+i*7+3,none⟩=some (.int .u8 x.k)∧w.cell? ⟨b,off+i*7+4,none⟩=some (.bool x.found)∧w.cell? ⟨b,off+i*7+5,none⟩=some (.int .u64 x.v)∧w.cell? ⟨b,off+i*7+6,none⟩=some (.int .u8 x.g):=by
 have hi:=(mV hx);obtain ⟨b,off,ha,hlt,hc⟩:=h.at' (by rw [h.len];simp;omega);have:=hc i (ak.cells x) (by simp [hx]);exact ⟨b,off,ha,hlt,this 0 _ rfl,this 1 _ rfl,this 2 _ rfl,this 3 _ rfl,this 4 _ rfl,this 5 _ rfl,this 6 _ rfl⟩
theorem sH {f:Nat→Bool} {k:Nat} (h:(List.range k).all f=true) (hk:f k=true):(List.range (k+1)).all f=true:=by
 rw [List.range_succ,List.all_append,h];simp [hk]
theorem Od {f:Nat→Bool} {n k:Nat} (h:k<n) (hb:f k=false):(List.range n).all f=false:=by
 rw [List.all_eq_false];exact ⟨k,List.mem_range.2 h,by simp [hb]⟩
theorem zy {lo hi:Int} {rows:List Row} {k:Nat} (h:k<rows.length) (hb:rowAt lo hi rows k=false):uV lo hi rows=false:=by
 unfold uV;rw [Od h hb,Bool.and_false]
theorem oP {lo hi:Int} {bP:List ak} {k:Nat} (h:k<bP.length) (hb:qV lo hi bP k=false):yx lo hi bP=false:=by
 unfold yx;rw [Od h hb,Bool.and_false]
theorem WG {B:Nat} {W w':World} {xs:Array Value} {t:TypeId} (hW:W.heap[B]? = some (.cells xs t)) (hb:Below (B+1) W w'):∀ o,w'.cell? ⟨B,o,none⟩=xs[o]?:=by
 intro o;rw [hb.cell (p:=⟨B,o,none⟩) (by show B<B+1;omega)];simp [World.cell?,hW]
theorem blk {W w':World} {B:Nat} {xs:Array Value} {t:TypeId} (hb:Below W.heap.size W w') (hW:W.heap[B]? = some (.cells xs t)):∀ o,w'.cell? ⟨B,o,none⟩=xs[o]?:=by
 intro o;have hlt:B<W.heap.size:=(df hW);rw [hb.cell (p:=⟨B,o,none⟩) hlt];simp [World.cell?,hW]
theorem oh {W w':World} {B:Nat} {xs:Array Value} {t:TypeId} (hb:Below W.heap.size W w') (hW:W.heap[B]? = some (.cells xs t)):∀ o,w'.frozen? ⟨B,o,none⟩=false:=by
 intro o;have hlt:B<W.heap.size:=(df hW);rw [hb.frozen (p:=⟨B,o,none⟩) hlt];simp [World.frozen?,hW]
theorem aj (W:World) (o:Obj):Below W.heap.size W (W.alloc o):=(Below.refl _ _).alloc (Nat.le_refl _) _
theorem ai {a b c:World} (h:Below a.heap.size a b) (k:Below b.heap.size b c):Below a.heap.size a c:=h.trans (k.mono h.size)
theorem bU {W w':World} (hl:Below W.heap.size W w') {b:Nat} (hb:b<W.heap.size) (o:Nat):w'.cell? ⟨b,o,none⟩=W.cell? ⟨b,o,none⟩:=hl.cell (p:=⟨b,o,none⟩) hb
theorem bQ.later {w w':World} {s:Sl} {size:Nat} {xs:List (List Value)} (h:bQ w.heap.size w s size xs) (hb:Below w.heap.size w w'):bQ w'.heap.size w' s size xs:=by
 have h':=h.below hb (Nat.le_refl _);exact ⟨h'.len,h'.le,h'.max,fun h0=>by
  obtain ⟨b,off,ha,hlt,hc⟩:=h'.at' h0;exact ⟨b,off,ha,Nat.lt_of_lt_of_le hlt hb.size,hc⟩⟩
theorem dA {a b:Bool} (h:a=b):Ending.returned (.bool a)=.returned (.bool b):=by rw [h]
structure Only (B:Nat) (w w':World):Prop where
 os:w'.os=w.os
 tape:w'.tape=w.tape
 output:w'.output=w.output
 size:w'.heap.size=w.heap.size
 block:∀ k,k≠B→w'.heap[k]? = w.heap[k]?
theorem Only.below {B B':Nat} {w w':World} (h:Only B w w') (hB:B'≤B):Below B' w w' :=
 ⟨h.os,h.tape,h.output,Nat.le_of_eq h.size.symm,fun k hk=>h.block k (by omega)⟩
theorem Only.setRow (w:World) (B:Nat) (cs:Array Value):Only B w (w.setRow B cs) :=
 ⟨rfl,rfl,rfl,size_setRow _ _ _,fun k hk=>setRow_other w B k cs hk⟩
theorem CS {P:Program} (w:World) (B o:Nat) (ty t:TypeId) (v:Value) (xs:Array Value) (hW:w.heap[B]? = some (.cells xs t)) (hi:(P.info? ty).map (·.size)=some v.cells.size)
 (h1:v.cells.toList.all (·.oneCell')=true) (hfit:o+v.cells.size≤xs.size) :
 (Instr.storeAt ty (.pointer (some ⟨B,o,none⟩)) v).run P w=.ok () (w.setRow B (xs.toList.take o++v.cells.toList++xs.toList.drop (o+v.cells.size)).toArray):=by
 have h:=run_storeCells_at (P:=P) B o t v.cells.toList 0 xs w hW (by simpa using hfit) (fun u hu=>List.all_eq_true.1 h1 u hu);simp only [Nat.add_zero,Array.length_toList] at h;cases hq:P.info? ty with
 | none=>simp [hq] at hi
 | some i =>
  have hs:v.cells.size=i.size:=by simp [hq] at hi;omega
  simp only [Instr.storeAt,Instr.sureAddr,Sem.run_bind,Sem.run_pure,Result.andThen_ok,storeVar,sizeOf,typeInfo];simp [hq,hs];rw [hs] at h;simpa using h
theorem eu {P:Program} {ops:Array Oper} {rest:List Oper} {op:Oper} {a:Act} {w:World} {Q:Exit→Act→World→Prop} (hgd:op.guard=none) (ty:TypeId) (x y:Operand) (ho:op.op=.store ty x y)
 (hd:op.dst=none) (B o:Nat) (hx:a.eval x=.pointer (some ⟨B,o,none⟩)) (cs:List Value) (hy:a.eval y=.agg cs.toArray) (n:Nat) (hi:(P.info? ty).map (·.size)=some n) (hn:cs.length=n)
 (h1:cs.all (·.oneCell')=true) (xs:List Value) (t:TypeId) (hW:w.heap[B]? = some (.cells xs.toArray t)) (hfit:Nat.ble (o+n) xs.length=true) (ys:List Value) (hys:xs.take o++cs++xs.drop (o+n)=ys)
 (h:∀ w',w'.heap[B]? = some (.cells ys.toArray t)→Only B w w'→wpList P ops Q rest a w'):wpList P ops Q (op::rest) a w :=
 wpList_plain hgd fun _ hK=>by
  subst hys;subst hn;unfold Oper.wp execOp;have hr:=CS (P:=P) w B o ty t (.agg cs.toArray) xs.toArray hW (by simpa [Value.cells] using hi) (by simpa [Value.cells] using h1) (by have:=Nat.le_of_ble_eq_true hfit;simpa [Value.cells] using this);simp only [ho,hx,hy,Sem.run_bind,hr,Result.andThen_ok,Sem.run_pure,Oper.upon,hd,Act.put];refine hK _ _ (h _ ?_ (Only.setRow w B _));have:=setRow_heap w B xs.toArray (xs.toArray.toList.take o++(Value.agg cs.toArray).cells.toList++xs.toArray.toList.drop (o+(Value.agg cs.toArray).cells.size)).toArray t (0,0) hW;simpa [Value.cells] using this
theorem YX {P:Program} (ty:TypeId) {w:World} {B:Nat} {xs:Array Value} {t:TypeId} (hW:w.heap[B]? = some (.cells xs t)) (o n:Nat) (d:TypeDesc) (hu:P.underlying ty=some d)
 (hd:(match d with | .struct _ | .array _ _=>true | _=>false)=true) (hi:(P.info? ty).map (·.size)=some n) (hfit:Nat.ble (o+n) xs.size=true) (cs:List Value) (hcs:(xs.toList.drop o).take n=cs) :
 (Instr.loadAt ty (.pointer (some ⟨B,o,none⟩))).run P w=.ok (.agg cs.toArray) w:=by
 subst hcs;have hfit:=Nat.le_of_ble_eq_true hfit;have hlen:((xs.toList.drop o).take n).length=n:=by simp;omega
 have hl:(loadCells ⟨B,o,none⟩ ((xs.toList.drop o).take n).length).run P w=.ok ((xs.toList.drop o).take n).toArray w :=
  run_loadCells_list (P:=P) w ⟨B,o,none⟩ _ (fun j v hv=>by
   have hadd:(⟨B,o,none⟩:Addr).add j=⟨B,o+j,none⟩:=by unfold Addr.add;split <;> simp_all
   rw [hadd,cell_of_row w B (o+j) xs t (0,0) hW];rw [List.getElem?_take] at hv;split at hv
   ·simpa using hv
   ·cases hv)
 rw [hlen] at hl;cases hq:P.info? ty with
 | none=>simp [hq] at hi
 | some i =>
  have hs:i.size=n:=by simpa [hq] using hi
  have hagg:(isAgg ty).run P w=.ok true w:=by
   unfold isAgg;rw [Sem.run_bind,run_underlying hu w];cases d <;> simp_all
  simp [Instr.loadAt,Instr.sureAddr,loadVar,Sem.run_bind,hagg,sizeOf,typeInfo,hq,hs,hl]
theorem cZ {P:Program} {ops:Array Oper} {rest:List Oper} {op:Oper} {a:Act} {w:World} {Q:Exit→Act→World→Prop} (hgd:op.guard=none) (ty:TypeId) (x y:Operand) (ho:op.op=.store ty x y)
 (hd:op.dst=none) (B o:Nat) (hx:a.eval x=.pointer (some ⟨B,o,none⟩)) (v:Value) (hy:a.eval y=v) (hi:(P.info? ty).map (·.size)=some 1) (h1:v.oneCell'=true)
 (xs:List Value) (t:TypeId) (hW:w.heap[B]? = some (.cells xs.toArray t)) (hfit:Nat.ble (o+1) xs.length=true) (ys:List Value) (hys:xs.take o++[v]++xs.drop (o+1)=ys)
 (h:∀ w',w'.heap[B]? = some (.cells ys.toArray t)→Only B w w'→wpList P ops Q rest a w'):wpList P ops Q (op::rest) a w :=
 wpList_plain hgd fun _ hK=>by
  have hc:v.cells = #[v]:=by cases v <;> first | rfl | cases h1
  subst hys;unfold Oper.wp execOp;have hr:=CS (P:=P) w B o ty t v xs.toArray hW (by simpa [hc] using hi) (by simpa [hc] using h1) (by have:=Nat.le_of_ble_eq_true hfit;simpa [hc] using this);simp only [ho,hx,hy,Sem.run_bind,hr,Result.andThen_ok,Sem.run_pure,Oper.upon,hd,Act.put];refine hK _ _ (h _ ?_ (Only.setRow w B _));have:=setRow_heap w B xs.toArray (xs.toArray.toList.take o++v.cells.toList++xs.toArray.toList.drop (o+v.cells.size)).toArray t (0,0) hW;simpa [hc] using this
theorem nS {P:Program} {ops:Array Oper} {rest:List Oper} {op:Oper} {a:Act} {w:World} {Q:Exit→Act→World→Prop} (hw:Region.wanted op (yielded ops a.tmps)=true) (ty:TypeId) (x:Operand) (ho:op.op=.load ty x)
 (B o:Nat) (hx:a.eval x=.pointer (some ⟨B,o,none⟩)) (n:Nat) (d:TypeDesc) (hu:P.underlying ty=some d) (hd:(match d with | .struct _ | .array _ _=>true | _=>false)=true) (hi:(P.info? ty).map (·.size)=some n)
 (xs:List Value) (t:TypeId) (hW:w.heap[B]? = some (.cells xs.toArray t)) (hfit:Nat.ble (o+n) xs.length=true) (cs:List Value) (hcs:(xs.drop o).take n=cs)
 (h:wpList P ops Q rest (a.put op.dst (.agg cs.toArray)) w):wpList P ops Q (op::rest) a w :=
 wpList_step fun K hK=>by
  have hr:=YX (P:=P) ty hW o n d hu hd hi (by simpa using hfit) cs (by simpa using hcs);rw [if_pos hw];unfold Oper.wp execOp;simp only [ho,hx,Sem.run_bind,hr,Result.andThen_ok,Sem.run_pure,Oper.upon];exact hK _ _ h
theorem ah {w:World} {B:Nat} {xs:Array Value} {t:TypeId} (hW:w.heap[B]? = some (.cells xs t)):∀ o,w.cell? ⟨B,o,none⟩=xs[o]?:=by
 intro o;simp [World.cell?,hW]
theorem af {W w':World} {B:Nat} {xs:Array Value} {t:TypeId} (hb:Below W.heap.size W w') (hW:W.heap[B]? = some (.cells xs t)):w'.heap[B]? = some (.cells xs t) :=
 (hb.block B (df hW)).trans hW
theorem YY {P:Program} (ty:TypeId) {w:World} {b o:Nat} (n:Nat) (d:TypeDesc) (hu:P.underlying ty=some d)
 (hd:(match d with | .struct _ | .array _ _=>true | _=>false)=true) (hi:(P.info? ty).map (·.size)=some n) (cs:List Value) (hn:cs.length=n) (hc:∀ (j:Nat) (u:Value),cs[j]? = some u→w.cell? ⟨b,o+j,none⟩=some u) :
 (Instr.loadAt ty (.pointer (some ⟨b,o,none⟩))).run P w=.ok (.agg cs.toArray) w:=by
 have hl:(loadCells ⟨b,o,none⟩ cs.length).run P w=.ok cs.toArray w :=
  run_loadCells_list (P:=P) w ⟨b,o,none⟩ _ (fun j v hv=>by
   have hadd:(⟨b,o,none⟩:Addr).add j=⟨b,o+j,none⟩:=by unfold Addr.add;split <;> simp_all
   rw [hadd];exact hc j v hv)
 rw [hn] at hl;cases hq:P.info? ty with
 | none=>simp [hq] at hi
 | some i =>
  have hs:i.size=n:=by simpa [hq] using hi
  have hagg:(isAgg ty).run P w=.ok true w:=by
   unfold isAgg;rw [Sem.run_bind,run_underlying hu w];cases d <;> simp_all
  simp [Instr.loadAt,Instr.sureAddr,loadVar,Sem.run_bind,hagg,sizeOf,typeInfo,hq,hs,hl]
theorem bB {P:Program} {ops:Array Oper} {rest:List Oper} {op:Oper} {a:Act} {w:World} {Q:Exit→Act→World→Prop} (hw:Region.wanted op (yielded ops a.tmps)=true) (ty:TypeId) (x:Operand) (ho:op.op=.load ty x)
 (b o:Nat) (hx:a.eval x=.pointer (some ⟨b,o,none⟩)) (n:Nat) (d:TypeDesc) (hu:P.underlying ty=some d) (hd:(match d with | .struct _ | .array _ _=>true | _=>false)=true) (hi:(P.info? ty).map (·.size)=some n)
 (cs:List Value) (hn:cs.length=n) (hc:∀ (j:Nat) (u:Value),cs[j]? = some u→w.cell? ⟨b,o+j,none⟩=some u)
 (h:wpList P ops Q rest (a.put op.dst (.agg cs.toArray)) w):wpList P ops Q (op::rest) a w :=
 wpList_step fun K hK=>by
  have hr:=YY (P:=P) ty n d hu hd hi cs hn hc;rw [if_pos hw];unfold Oper.wp execOp;simp only [ho,hx,Sem.run_bind,hr,Result.andThen_ok,Sem.run_pure,Oper.upon];exact hK _ _ h
theorem bQ.el {B:Nat} {w:World} {s:Sl} {size:Nat} {xs:List (List Value)} (h:bQ B w s size xs) {i:Nat} {x:List Value} (hx:xs[i]? = some x) :
 ∃ b off,s.a=some ⟨b,off,none⟩∧b<B∧∀ (j:Nat) (u:Value),x[j]? = some u→w.cell? ⟨b,off+i*size+j,none⟩=some u:=by
 have hi:=(mV hx);obtain ⟨b,off,ha,hlt,hc⟩:=h.at' (by rw [h.len];omega);exact ⟨b,off,ha,hlt,hc i x hx⟩
def U8 (n:Int):Prop:=0≤n∧n<256
def UO (n:Int):Prop:=0≤n∧n<4294967296
def KS (n:Int):Prop:=0≤n∧n<18446744073709551616
structure bH.wf (q:bH):Prop where
 c:U8 q.c
 s:UO q.s
 k:U8 q.k
 key:KS q.key
 v:KS q.v
 hi:KS q.hi
 to:U8 q.to
structure ak.wf (p:ak):Prop where
 c:U8 p.c
 s:UO p.s
 key:KS p.key
 k:U8 p.k
 v:KS p.v
 g:U8 p.g
structure Row.wf (x:Row):Prop where
 key:KS x.key
 val:KS x.val
structure aF.wf (r:aF):Prop where
 src:U8 r.src
 dst:U8 r.dst
 seq:UO r.seq
 lo:KS r.lo
 hi:KS r.hi
 rows:∀ (i:Nat) (x:Row),r.rows[i]? = some x→x.wf
 bP:∀ (i:Nat) (x:ak),r.bP[i]? = some x→x.wf
structure dY.wf (c:dY):Prop where
 kind:U8 c.kind
 zq:c.zq.wf
 qE:c.qE.wf
 peer:U8 c.peer
 seq:UO c.seq
section
variable {P:Program} {ops:Array Oper} {rest:List Oper} {op:Oper} {a:Act} {w:World} {Q:Exit→Act→World→Prop} {ty:TypeId} {x y:Operand}
theorem dF {d:TypeDesc} (B o n:Nat) (hu:P.underlying ty=some d) (xs:List Value) (t:TypeId) (hW:w.heap[B]? = some (.cells xs.toArray t)) (cs:List Value) (h:wpList P ops Q rest (a.put op.dst (.agg cs.toArray)) w) (hw:Region.wanted op (yielded ops a.tmps)=true:=by with_unfolding_all exact rfl) (ho:op.op=.load ty x:=by with_unfolding_all exact rfl) (hx:a.eval x=.pointer (some ⟨B,o,none⟩):=by with_unfolding_all exact rfl) (hd:(match d with | .struct _ | .array _ _=>true | _=>false)=true:=by with_unfolding_all exact rfl) (hi:(P.info? ty).map (·.size)=some n:=by kernel_rfl) (hfit:Nat.ble (o+n) xs.length=true:=by with_unfolding_all exact rfl) (hcs:(xs.drop o).take n=cs:=by with_unfolding_all exact rfl):wpList P ops Q (op::rest) a w:=nS hw ty x ho B o hx n d hu hd hi xs t hW hfit cs hcs h
theorem fH (B o:Nat) (cs:List Value) (n:Nat) (xs:List Value) (t:TypeId) (hW:w.heap[B]? = some (.cells xs.toArray t)) (ys:List Value) (h:∀ w',w'.heap[B]? = some (.cells ys.toArray t)→Only B w w'→wpList P ops Q rest a w') (hgd:op.guard=none:=by with_unfolding_all exact rfl) (ho:op.op=.store ty x y:=by with_unfolding_all exact rfl) (hd:op.dst=none:=by with_unfolding_all exact rfl) (hx:a.eval x=.pointer (some ⟨B,o,none⟩):=by with_unfolding_all exact rfl) (hy:a.eval y=.agg cs.toArray:=by with_unfolding_all exact rfl) (hn:cs.length=n:=by with_unfolding_all exact rfl) (hi:(P.info? ty).map (·.size)=some n:=by kernel_rfl) (h1:cs.all (·.oneCell')=true:=by with_unfolding_all exact rfl) (hfit:Nat.ble (o+n) xs.length=true:=by with_unfolding_all exact rfl) (hys:xs.take o++cs++xs.drop (o+n)=ys:=by with_unfolding_all exact rfl):wpList P ops Q (op::rest) a w:=eu hgd ty x y ho hd B o hx cs hy n hi hn h1 xs t hW hfit ys hys h
theorem oZ (B o:Nat) (v:Value) (xs:List Value) (t:TypeId) (hW:w.heap[B]? = some (.cells xs.toArray t)) (ys:List Value) (h:∀ w',w'.heap[B]? = some (.cells ys.toArray t)→Only B w w'→wpList P ops Q rest a w') (hgd:op.guard=none:=by with_unfolding_all exact rfl) (ho:op.op=.store ty x y:=by with_unfolding_all exact rfl) (hd:op.dst=none:=by with_unfolding_all exact rfl) (hx:a.eval x=.pointer (some ⟨B,o,none⟩):=by with_unfolding_all exact rfl) (hy:a.eval y=v:=by with_unfolding_all exact rfl) (hi:(P.info? ty).map (·.size)=some 1:=by kernel_rfl) (h1:v.oneCell'=true:=by with_unfolding_all exact rfl) (hfit:Nat.ble (o+1) xs.length=true:=by with_unfolding_all exact rfl) (hys:xs.take o++[v]++xs.drop (o+1)=ys:=by with_unfolding_all exact rfl):wpList P ops Q (op::rest) a w:=cZ hgd ty x y ho hd B o hx v hy hi h1 xs t hW hfit ys hys h
end
end
section
open Go.ChangeShapes Go.WideShapes Go.ChangeAt Go.RowKit
theorem Tryz.own:ownKnob Tryz.prog.godebug=none:=by kernel_rfl
theorem Tryz.laidOut:laidOutB Tryz.prog=true:=by kernel_rfl
theorem YZ {a:Addr} (h:a.spot=none) (n:Nat):a.add n=⟨a.block,a.off+n,none⟩:=by
 unfold Addr.add;split
 ·subst n;cases a;simp_all
 ·rfl
theorem WH {w:World} {a:Addr} {u:Value} (h:w.cell? a=some u):a.spot=none:=by
 unfold World.cell? at h;split at h
 ·split at h
  ·cases h
  ·rename_i hs;simpa using hs
 ·cases h
section
variable {H:Type} {enc:TypeId×Value→H} {P:Program} {w:World}
end
theorem wf_u64 {n:Int} (h:(Lit.int .u64 n).wf=true):0≤n∧n<18446744073709551616:=by
 have h':IntKind.min .u64≤n∧n≤IntKind.max .u64:=by simpa [Lit.wf] using h
 have e1:IntKind.min .u64=0:=by decide
 have e2:IntKind.max .u64=18446744073709551615:=by decide
 omega
theorem wf_u8 {n:Int} (h:(Lit.int .u8 n).wf=true):0≤n∧n<256:=by
 have h':IntKind.min .u8≤n∧n≤IntKind.max .u8:=by simpa [Lit.wf] using h
 have e1:IntKind.min .u8=0:=by decide
 have e2:IntKind.max .u8=255:=by decide
 omega
theorem wf_u32 {n:Int} (h:(Lit.int .u32 n).wf=true):0≤n∧n<4294967296:=by
 have h':IntKind.min .u32≤n∧n≤IntKind.max .u32:=by simpa [Lit.wf] using h
 have e1:IntKind.min .u32=0:=by decide
 have e2:IntKind.max .u32=4294967295:=by decide
 omega
theorem Tryz.zP:Tryz.prog.cellsOf 48=1:=by kernel_rfl
theorem Tryz.cells5:Tryz.prog.cellsOf 5=1:=by kernel_rfl
theorem WI {H:Type} {enc:TypeId×Value→H} {W:World} {base:Nat} {sp:Nat→Bool} {held:Bool} (b:Bool):DataW.Trod enc Tryz.prog W base sp held 4 (.bool b) (.lit (.bool b)) []:=⟨1,by simp [DataW.trod,Value.cells,Tryz.underlying4]⟩
end
section
theorem acu:(Tryz.prog.info? 57).map (·.size)=some 7:=by kernel_rfl
theorem acv:(Tryz.prog.info? 128).map (·.size)=some 2:=by kernel_rfl
theorem WJ:(Tryz.prog.info? 52).map (·.size)=some 7:=by kernel_rfl
end
section
open Go.RowKit Go.Lib
def j3 (a b:Int):Int:=if a<b then -1 else if b<a then 1 else 0
def WK (a b:Int):Int:=if a=0 then b else a
def nO (a b:ak):Int:=WK (j3 a.key b.key) (j3 a.c b.c)
theorem aav (a b:Int) (w:World):Calls Tryz.prog 137 #[.int .u64 a,.int .u64 b] w fun e w'=>e=.returned (.int .i64 (j3 a b))∧w'=w:=by
 unfold j3;by_cases h1:a<b
 ·have hd:decide (a<b)=true:=by simp [h1]
  go_enter Tryz.func137,Tryz.ntmps137
  go_wp2
  go_ret
  exact ⟨by simp,rfl⟩
 ·have hd:decide (a<b)=false:=by simp [h1]
  by_cases h2:b<a
  ·have hd2:decide (b<a)=true:=by simp [h2]
   go_enter Tryz.func137,Tryz.ntmps137
   go_wp2
   go_ret
   exact ⟨by simp,rfl⟩
  ·have hd2:decide (b<a)=false:=by simp [h2]
   go_enter Tryz.func137,Tryz.ntmps137
   go_wp2
   go_ret
   exact ⟨by simp,rfl⟩
theorem ahk (a b:Int) (w:World):Calls Tryz.prog 138 #[.int .u8 a,.int .u8 b] w fun e w'=>e=.returned (.int .i64 (j3 a b))∧w'=w:=by
 unfold j3;by_cases h1:a<b
 ·have hd:decide (a<b)=true:=by simp [h1]
  go_enter Tryz.func138,Tryz.ntmps138
  go_wp2
  go_ret
  exact ⟨by simp,rfl⟩
 ·have hd:decide (a<b)=false:=by simp [h1]
  by_cases h2:b<a
  ·have hd2:decide (b<a)=true:=by simp [h2]
   go_enter Tryz.func138,Tryz.ntmps138
   go_wp2
   go_ret
   exact ⟨by simp,rfl⟩
  ·have hd2:decide (b<a)=false:=by simp [h2]
   go_enter Tryz.func138,Tryz.ntmps138
   go_wp2
   go_ret
   exact ⟨by simp,rfl⟩
theorem acw (a b:Int) (B:Nat) (w:World) (h0:w.cell? ⟨B,0,none⟩=some (.int .i64 a)) (h1:w.cell? ⟨B,1,none⟩=some (.int .i64 b)) :
 Calls Tryz.prog 136 #[.slice (some ⟨B,0,none⟩) 2 2] w fun e w'=>e=.returned (.int .i64 (if a=0 then b else a))∧w'=w:=by
 by_cases ha:a=0
 ·subst ha
  by_cases hb:b=0
  ·subst hb
   go_enter Tryz.func136,Tryz.ntmps136
   go_wp2
   go_loopw [8] (fun i wr=>∃ k:Nat,k≤2∧i=.int .i64 k∧wr=w) (fun i _=>2 - (intOf i).toNat)
   case atStart=>exact ⟨0,by omega,rfl,rfl⟩
   case round =>
    obtain ⟨k,hk,rfl,rfl⟩:=hrel;obtain rfl | rfl | rfl:k=0∨k=1∨k=2:=by omega
    ·go_wp2
     go_roundw
     case measure=>simp [intOf]
     case rel=>exact ⟨1,by omega,by first | rfl | go_num,by first | trivial | rfl⟩
    ·go_wp2
     go_roundw
     case measure=>simp [intOf]
     case rel=>exact ⟨2,by omega,by first | rfl | go_num,by first | trivial | rfl⟩
    ·go_wp2
     go_ret
     exact ⟨rfl,rfl⟩
  ·have hn:(!(b == 0))=true:=by simp [hb]
   go_enter Tryz.func136,Tryz.ntmps136
   go_wp2
   go_loopw [8] (fun i wr=>∃ k:Nat,k≤1∧i=.int .i64 k∧wr=w) (fun i _=>1 - (intOf i).toNat)
   case atStart=>exact ⟨0,by omega,rfl,rfl⟩
   case round =>
    obtain ⟨k,hk,rfl,rfl⟩:=hrel;obtain rfl | rfl:k=0∨k=1:=by omega
    ·go_wp2
     go_roundw
     case measure=>simp [intOf]
     case rel=>exact ⟨1,by omega,by first | rfl | go_num,by first | trivial | rfl⟩
    ·go_wp2
     go_ret
     exact ⟨rfl,rfl⟩
 ·have hn:(!(a == 0))=true:=by simp [ha]
  go_enter Tryz.func136,Tryz.ntmps136
  go_wp2
  go_loopw [8] (fun i wr=>∃ k:Nat,k≤0∧i=.int .i64 k∧wr=w) (fun i _=>0 - (intOf i).toNat)
  case atStart=>exact ⟨0,by omega,rfl,rfl⟩
  case round =>
   obtain ⟨k,hk,rfl,rfl⟩:=hrel;obtain rfl:k=0:=by omega
   go_wp2
   go_ret
   exact ⟨by simp,rfl⟩
theorem Oe (x v key:Int) (w:World) :
 Calls Tryz.prog 205 #[.agg #[.int .u64 x,.int .u64 v],.int .u64 key] w fun e w'=>e=.returned (.int .i64 (j3 x key))∧Below w.heap.size w w':=by
 go_enter Tryz.func205,Tryz.ntmps205
 go_wp2_with (go_at_call 137;go_must (refine (aav _ _ _).mono ?_;rintro e w1 ⟨rfl,rfl⟩))
 go_ret
 exact ⟨rfl,aj _ _⟩
theorem WL (W:World) (x y:Value) (t:TypeId):(W.alloc (.cells #[x,y] t)).cell? ⟨W.heap.size,0,none⟩=some x:=ah (heap_alloc_new W _) 0
theorem WM (W:World) (x y:Value) (t:TypeId):(W.alloc (.cells #[x,y] t)).cell? ⟨W.heap.size,1,none⟩=some y:=ah (heap_alloc_new W _) 1
theorem acx (a b:Int) (w:World):Calls Tryz.prog 137 #[.int .u64 a,.int .u64 b] w fun e w'=>e=.returned (.int .i64 (j3 a b))∧Below w.heap.size w w' :=
 (aav a b w).mono (by rintro e w' ⟨rfl,rfl⟩;exact ⟨rfl,Below.refl _ _⟩)
theorem afc (a b:Int) (w:World):Calls Tryz.prog 138 #[.int .u8 a,.int .u8 b] w fun e w'=>e=.returned (.int .i64 (j3 a b))∧Below w.heap.size w w' :=
 (ahk a b w).mono (by rintro e w' ⟨rfl,rfl⟩;exact ⟨rfl,Below.refl _ _⟩)
theorem abp (a b:Int) (W:World) (t:TypeId) :
 Calls Tryz.prog 136 #[.slice (some ⟨W.heap.size,0,none⟩) 2 2] (W.alloc (.cells #[.int .i64 a,.int .i64 b] t)) fun e w'=>e=.returned (.int .i64 (WK a b))∧Below (W.alloc (.cells #[.int .i64 a,.int .i64 b] t)).heap.size (W.alloc (.cells #[.int .i64 a,.int .i64 b] t)) w' :=
 (acw a b _ _ (WL _ _ _ _) (WM _ _ _ _)).mono (by rintro e w' ⟨rfl,rfl⟩;exact ⟨rfl,Below.refl _ _⟩)
theorem fB {W a b:World} {X:Prop} (h:Below W.heap.size W a∧X) (k:Below a.heap.size a b):Below W.heap.size W b:=ai h.1 k
theorem Uy {W a:World} {X:Prop} (h:Below W.heap.size W a∧X) (o:Obj):Below W.heap.size W (a.alloc o):=ai h.1 (aj _ _)
theorem UQ (pc ps eZ pk:Int) (pf:Bool) (pv pg:Int) (qc qs ag qk:Int) (qf:Bool) (qv qg:Int) (w:World) :
 Calls Tryz.prog 135 #[.agg (rP pc ps eZ pk pf pv pg).toArray,.agg (rP qc qs ag qk qf qv qg).toArray] w fun e w'=>e=.returned (.int .i64 (nO (ak.mk pc ps eZ pk pf pv pg) (ak.mk qc qs ag qk qf qv qg)))∧Below w.heap.size w w':=by
 obtain ⟨W,hW⟩:∃ W,W=(w.alloc (.cells (rP pc ps eZ pk pf pv pg).toArray 57)).alloc (.cells (rP qc qs ag qk qf qv qg).toArray 57):=⟨_,rfl⟩;have hWp:W.heap[w.heap.size]? = some (.cells (rP pc ps eZ pk pf pv pg).toArray 57):=by rw [hW,heap_alloc_old _ _ (by simp)];exact heap_alloc_new w _
 have fP:W.heap[w.heap.size+1]? = some (.cells (rP qc qs ag qk qf qv qg).toArray 57):=by rw [hW];have:=heap_alloc_new (w.alloc (.cells (rP pc ps eZ pk pf pv pg).toArray 57)) (.cells (rP qc qs ag qk qf qv qg).toArray 57);simpa using this
 have bE:Below w.heap.size w W:=by rw [hW];exact ai (aj w _) (aj _ _)
 have MK:Hid (∀ w',Below W.heap.size W w'→(Below W.heap.size W w'∧w'.cell? ⟨w.heap.size,0,none⟩=some (.int .u8 pc)∧w'.cell? ⟨w.heap.size,2,none⟩=some (.int .u64 eZ)∧w'.cell? ⟨w.heap.size+1,0,none⟩=some (.int .u8 qc)∧w'.cell? ⟨w.heap.size+1,2,none⟩=some (.int .u64 ag))):=fun w' hb=>⟨hb,blk hb hWp 0,blk hb hWp 2,blk hb fP 0,blk hb fP 2⟩
 go_enter Tryz.func135,Tryz.ntmps135
 go_wp2_with fail
 rw [← hW];clear hW;go_region_held3 (fun w'=>Below W.heap.size W w'∧w'.cell? ⟨w.heap.size,0,none⟩=some (.int .u8 pc)∧w'.cell? ⟨w.heap.size,2,none⟩=some (.int .u64 eZ)∧w'.cell? ⟨w.heap.size+1,0,none⟩=some (.int .u8 qc)∧w'.cell? ⟨w.heap.size+1,2,none⟩=some (.int .u64 ag)) (first | exact MK.out _ (Below.refl _ _).drew | exact MK.out _ (fB (by assumption) (by assumption)) | exact MK.out _ (fI (by assumption)) | exact MK.out _ (Uy (by assumption) _)) (first
  | (go_at_call 137;refine (acx _ _ _).mono ?_;rintro e w1 ⟨rfl,zQ⟩)
  | (go_at_call 138;refine (afc _ _ _).mono ?_;rintro e w1 ⟨rfl,zQ⟩)
  | (go_at_call 136;refine (abp _ _ _ _).mono ?_;rintro e w1 ⟨rfl,zQ⟩))
 all_goals (go_wp2;go_ret;exact ⟨rfl,ai bE (And.left (by assumption))⟩)
end
end Go.Proofs.YtignemioillaiaaGreat
