/- Cells in a row, and lists of equal length. A list of its own: 'append(nil, xs...)'; ownRange. ownRange: a range with lists of its own. ownRange, with what it owns. -/
import Derived.WalkLawsBesides
import Derived.Laws.AppendOwnNone
import Derived.Test.YtignemioillaiaaGreatG02
namespace Go.Proofs.YtignemioillaiaaGreat
set_option maxHeartbeats 8000000
set_option maxRecDepth 100000
section
open Go.RowKit
open Go.RowKit
open Go.RowKit
open Go.RowKit
theorem MR {size:Nat}:∀ (xs:List (List Value)) (_:∀ x∈xs,x.length=size) (j:Nat) (u:Value),xs.flatten[j]? = some u→∃ i x k,xs[i]? = some x∧x[k]? = some u∧j=i*size+k
 | [],_,j,u,h=>by simp at h
 | x::xs,hall,j,u,h=>by
  have hx:x.length=size:=hall x (by simp);rw [List.flatten_cons] at h;by_cases hj:j<x.length
  ·rw [List.getElem?_append_left hj] at h
   exact ⟨0,x,j,rfl,h,by omega⟩
  ·rw [List.getElem?_append_right (by omega)] at h
   obtain ⟨i,y,k,h1,h2,h3⟩:=MR xs (fun y hy=>hall y (by simp [hy])) _ u h;exact ⟨i+1,y,k,by simpa using h1,h2,by rw [Nat.add_mul];omega⟩
theorem UR {size:Nat}:∀ (xs:List (List Value)) (_:∀ x∈xs,x.length=size) (i:Nat) (x:List Value) (k:Nat) (u:Value),xs[i]? = some x→x[k]? = some u→xs.flatten[i*size+k]? = some u
 | [],_,i,x,k,u,h,_=>by simp at h
 | y::xs,hall,i,x,k,u,h,hu=>by
  have hy:y.length=size:=hall y (by simp);rw [List.flatten_cons];cases i with
  | zero =>
   simp at h;subst h;have:=(mV hu);rw [List.getElem?_append_left (by omega)];simpa using hu
  | succ i =>
   rw [List.getElem?_append_right (by rw [Nat.add_mul];omega)];have:=UR xs (fun z hz=>hall z (by simp [hz])) i x k u (by simpa using h) hu;rw [show (i+1)*size+k - y.length=i*size+k by rw [Nat.add_mul];omega];exact this
theorem RO {size:Nat}:∀ (xs:List (List Value)) (_:∀ x∈xs,x.length=size),xs.flatten.length=xs.length*size
 | [],_=>by simp
 | x::xs,hall=>by
  rw [List.flatten_cons,List.length_append,RO xs (fun y hy=>hall y (by simp [hy])),hall x (by simp),List.length_cons,Nat.add_mul];omega
theorem bQ.news {B:Nat} {w:World} {s:Sl} {size:Nat} {xs:List (List Value)} (h:bQ B w s size xs) (hall:∀ x∈xs,x.length=size) (ad:Addr) (ha:s.a=some ad) (hpos:0<s.len) :
 ∀ (j:Nat) (u:Value),xs.flatten[j]? = some u→w.cell? (ad.add j)=some u:=by
 intro j u hu;obtain ⟨b,off,ha',_,hc⟩:=h.at' hpos;rw [ha] at ha';simp only [Option.some.injEq] at ha';subst ha';obtain ⟨i,x,k,h1,h2,rfl⟩:=MR xs hall j u hu;have:=hc i x h1 k u h2;have hadd:(⟨b,off,none⟩:Addr).add (i*size+k)=⟨b,off+(i*size+k),none⟩:=by unfold Addr.add;split <;> simp_all
 rw [hadd,← Nat.add_assoc];exact this
theorem qj {w:World} {base:Nat} {e:TypeId} {size:Nat} {v:Value} {xs:List (List Value)} (hown:w.ownsRow base e size v xs.length xs.flatten) (hall:∀ x∈xs,x.length=size) :
 ∃ a n c,v=.slice a n c∧bQ w.heap.size w ⟨a,n,c⟩ size xs∧(a=none→c=0):=by
 rcases hown.2 with ⟨rfl,hn⟩ | ⟨g,cap,cur,rfl,hb,hgg,hnc,hcm,hcs,htake⟩
 ·exact ⟨none,0,0,rfl,⟨hn.symm,Nat.le_refl _,Nat.zero_le _,fun h=>absurd h (Nat.lt_irrefl 0)⟩,fun _=>rfl⟩
 ·refine ⟨_,_,_,rfl,⟨rfl,hnc,hcm,fun _=>⟨g,0,rfl,(df hgg),fun i x hx j u hu=>?_⟩⟩,fun h=>by cases h⟩
  have:=hown.cells (g:=g) rfl (i*size+j) u (UR xs hall i x j u hx hu);have hadd:(⟨g,0,none⟩:Addr).add (i*size+j)=⟨g,0+i*size+j,none⟩:=by unfold Addr.add;split <;> simp_all
  rw [hadd] at this;exact this
theorem mG {P:Program} {w:World} {ops:Array Oper} {rest:List Oper} {o:Oper} {a:Act} {Q:Exit→Act→World→Prop} (hgd:o.guard=none) (s x:Operand) (t:TypeId)
 (ho:o.op=.call { callee:=.builtin .append,args:=#[s,x],argTypes:=#[t,t] }) (e:TypeId) (i:TypeInfo) (z:Value) (size bytes:Nat) (ht:P.underlying t=some (.slice e)) (hi:P.info? e=some i) (hz:i.zero=some z)
 (hsize:i.size=size) (hby:i.bytes=bytes) (hzs:z.cells.size=size) (hsz:0<size) (hs:a.eval s=.slice none 0 0) (B:Nat) (sa:Option Addr) (n c:Nat) (hx:a.eval x=.slice sa n c) (xs:List (List Value))
 (hin:bQ B w ⟨sa,n,c⟩ size xs) (hnil:sa=none→c=0) (hall:∀ y∈xs,y.length=size) (h1:∀ u∈xs.flatten,u.oneCell'=true) (hbytes:n*bytes≤140737488355328)
 (h:∀ v' w',w'.ownsRow w.heap.size e size v' xs.length xs.flatten→w.grownBy w' none→wpList P ops Q rest (a.put o.dst v') w'):wpList P ops Q (o::rest) a w:=by
 have hlen:n=xs.length:=hin.len;have hfl:=RO xs hall;cases sa with
 | none =>
  have hc:c=0:=hnil rfl;have hle:n≤c:=hin.le;have hn0:n=0:=by omega
  subst hc;subst hn0;have hxs:xs=[]:=List.eq_nil_of_length_eq_zero hlen.symm;subst hxs;exact wpList_append_own_none hgd s x t ho w.heap.size e i size ht hi _ 0 [] hs (World.ownsRow_nil w w.heap.size e size) hx (h _ _ (World.ownsRow_nil w w.heap.size e size) ⟨rfl,rfl,rfl,Nat.le_refl _,fun _ _ _=>rfl⟩)
 | some ad =>
  have hmax:n≤maxLen:=Nat.le_trans hin.le hin.max;refine wpList_append_own w hgd s x t ho w.heap.size e i z size bytes ht hi hz hsize hby hzs hsz _ 0 [] hs (World.ownsRow_nil w w.heap.size e size) ad n c xs.flatten hx (by rw [hfl,hlen]) ?_ h1 (by omega) (by rw [Nat.zero_add];exact hbytes) (Nat.le_refl _) ?_
  ·intro j u hu
   have hj:=(mV hu);refine hin.news hall ad rfl ?_ j u hu;rw [hfl] at hj;show 0<n;rcases Nat.eq_zero_or_pos n with h0 | h0
   ·rw [← hlen,h0] at hj;omega
   ·exact h0
  ·intro v' w' ho' hg' _
   rw [Nat.zero_add,List.nil_append,hlen] at ho';exact h v' w' ho' hg'
theorem Bw:(Tryz.prog.info? 128).map (fun i=>(i.zero,i.size,i.bytes))=some (some (.agg #[.int .u64 0,.int .u64 0]),2,16):=by kernel_rfl
theorem Ht:(Tryz.prog.info? 57).map (fun i=>(i.zero,i.size,i.bytes))=some (some (.agg #[.int .u8 0,.int .u32 0,.int .u64 0,.int .u8 0,.bool false,.int .u64 0,.int .u8 0]),7,40):=by kernel_rfl
theorem LA (rows:List Row):∀ y∈rows.map Row.cells,y.length=2:=by
 intro y hy;obtain ⟨r,_,rfl⟩:=List.mem_map.1 hy;rfl
theorem LB (bP:List ak):∀ y∈bP.map ak.cells,y.length=7:=by
 intro y hy;obtain ⟨r,_,rfl⟩:=List.mem_map.1 hy;rfl
theorem Y1 (rows:List Row):∀ u∈(rows.map Row.cells).flatten,u.oneCell'=true:=by
 intro u hu;obtain ⟨l,hl,hu⟩:=List.mem_flatten.1 hu;obtain ⟨r,_,rfl⟩:=List.mem_map.1 hl;simp [Row.cells] at hu;rcases hu with rfl | rfl <;> rfl
theorem Y2 (bP:List ak):∀ u∈(bP.map ak.cells).flatten,u.oneCell'=true:=by
 intro u hu;obtain ⟨l,hl,hu⟩:=List.mem_flatten.1 hu;obtain ⟨r,_,rfl⟩:=List.mem_map.1 hl;simp [ak.cells] at hu;rcases hu with rfl | rfl | rfl | rfl | rfl | rfl | rfl <;> rfl
theorem Jj {w:World} {base:Nat} {e:TypeId} {size:Nat} {v:Value} {n:Nat} {xs:List Value} (h:w.ownsRow base e size v n xs):∃ a m c,v=.slice a m c:=by
 rcases h.2 with ⟨rfl,_⟩ | ⟨g,cap,cur,rfl,_⟩
 ·exact ⟨_,_,_,rfl⟩
 ·exact ⟨_,_,_,rfl⟩
theorem ql {w w':World} {base B:Nat} {e:TypeId} {size:Nat} {v:Value} {n:Nat} {xs:List Value} (h:w.ownsRow base e size v n xs) (hO:Only B w w') (hB:B<base):w'.ownsRow base e size v n xs :=
 h.kept ⟨hO.os,hO.tape,hO.output,Nat.le_of_eq hO.size.symm,fun k _ hk=>hO.block k (fun e=>hk (by rw [e]))⟩ (.inr (by intro e;have:=(h.lt B e).1;omega))
theorem WQ {w w':World} {base:Nat} {e:TypeId} {size:Nat} {v:Value} {n:Nat} {xs:List Value} (h:w.ownsRow base e size v n xs) (hg:w.grownBy w' none):w'.ownsRow base e size v n xs :=
 h.kept hg (by cases hv:v.ownBlock <;> simp)
theorem ze {w w':World} (hg:w.grownBy w' none):Below w.heap.size w w':=⟨hg.os,hg.tape,hg.output,hg.size,fun k hk=>hg.block k hk (by simp)⟩
theorem RP {w:World} {base base':Nat} {e:TypeId} {size:Nat} {v:Value} {n:Nat} {xs:List Value} (h:w.ownsRow base e size v n xs) (hb:base'≤base):w.ownsRow base' e size v n xs :=
 ⟨h.1,h.2.imp id fun ⟨g,cap,cur,h1,h2,h3⟩=>⟨g,cap,cur,h1,Nat.le_trans hb h2,h3⟩⟩
theorem VK (aM bG aV aP bg:Int) (bZ:Option Addr) (bR cK:Nat) (bX:Option Addr) (bN bY:Nat) (bF:List Row) (bC:List ak) (w:World) (h1:bQ w.heap.size w ⟨bZ,bR,cK⟩ 2 (bF.map Row.cells)) (h2:bQ w.heap.size w ⟨bX,bN,bY⟩ 7 (bC.map ak.cells))
 (hn1:bZ=none→cK=0) (hn2:bX=none→bY=0) (hb1:bR*16≤140737488355328) (hb2:bN*40≤140737488355328) :
 Calls Tryz.prog 11 #[.agg #[.int .u8 aM,.int .u8 bG,.int .u32 aV,.int .u64 aP,.int .u64 bg,.slice bZ bR cK,.slice bX bN bY]] w fun e w'=>∃ a1 n1 c1 a2 n2 c2,e=.returned (.agg #[.int .u8 aM,.int .u8 bG,.int .u32 aV,.int .u64 aP,.int .u64 bg,.slice a1 n1 c1,.slice a2 n2 c2])∧bQ w'.heap.size w' ⟨a1,n1,c1⟩ 2 (bF.map Row.cells)∧bQ w'.heap.size w' ⟨a2,n2,c2⟩ 7 (bC.map ak.cells)∧w'.ownsRow w.heap.size 128 2 (.slice a1 n1 c1) bF.length (bF.map Row.cells).flatten∧w'.ownsRow w.heap.size 57 7 (.slice a2 n2 c2) bC.length (bC.map ak.cells).flatten∧Below w.heap.size w w':=by
 obtain ⟨i0,hi,hz0,hz1,hz2⟩:=info_parts Bw;obtain ⟨i1,hi',hz0',hz1',hz2'⟩:=info_parts Ht;have hT:Below w.heap.size w ((w.alloc (.cells #[.int .u8 aM,.int .u8 bG,.int .u32 aV,.int .u64 aP,.int .u64 bg,.slice bZ bR cK,.slice bX bN bY] 52)).alloc (.cells #[.int .u8 0,.int .u8 0,.int .u32 0,.int .u64 0,.int .u64 0,.slice none 0 0,.slice none 0 0] 52)):=ai (aj _ _) (aj _ _);have hWa:((w.alloc (.cells #[.int .u8 aM,.int .u8 bG,.int .u32 aV,.int .u64 aP,.int .u64 bg,.slice bZ bR cK,.slice bX bN bY] 52)).alloc (.cells #[.int .u8 0,.int .u8 0,.int .u32 0,.int .u64 0,.int .u64 0,.slice none 0 0,.slice none 0 0] 52)).heap[w.heap.size]? = some (.cells #[.int .u8 aM,.int .u8 bG,.int .u32 aV,.int .u64 aP,.int .u64 bg,.slice bZ bR cK,.slice bX bN bY] 52):=heap_alloc2_old w _ _;have UT:((w.alloc (.cells #[.int .u8 aM,.int .u8 bG,.int .u32 aV,.int .u64 aP,.int .u64 bg,.slice bZ bR cK,.slice bX bN bY] 52)).alloc (.cells #[.int .u8 0,.int .u8 0,.int .u32 0,.int .u64 0,.int .u64 0,.slice none 0 0,.slice none 0 0] 52)).heap[w.heap.size+1]? = some (.cells #[.int .u8 0,.int .u8 0,.int .u32 0,.int .u64 0,.int .u64 0,.slice none 0 0,.slice none 0 0] 52):=heap_alloc2_new w _ _;have hWs:((w.alloc (.cells #[.int .u8 aM,.int .u8 bG,.int .u32 aV,.int .u64 aP,.int .u64 bg,.slice bZ bR cK,.slice bX bN bY] 52)).alloc (.cells #[.int .u8 0,.int .u8 0,.int .u32 0,.int .u64 0,.int .u64 0,.slice none 0 0,.slice none 0 0] 52)).heap.size=w.heap.size+2:=by simp
 have Gz:Hid (bZ=none→cK=0):=hn1;have dL:Hid (bX=none→bY=0):=hn2;clear hn1 hn2;go_enter Tryz.func11,Tryz.ntmps11
 go_wp2_with (first | (with_reducible show yw 8 ..;go_must (refine mG rfl _ _ _ rfl 128 i0 (.agg #[.int .u64 0,.int .u64 0]) 2 16 rE hi hz0 hz1 hz2 rfl (by decide) rfl _ bZ bR cK rfl _ (h1.later hT) Gz.out (LA bF) (Y1 bF) hb1 ?_;intro v1 w1 ho1 hg1;obtain ⟨a1,n1,c1,hv1⟩:=Jj ho1;rw [hv1] at ho1 ⊢;have hT1:=ai hT (ze hg1);have LC:=af (ze hg1) hWa;have LD:=af (ze hg1) UT;clear hv1)) | (with_reducible show wpList _ _ _ ({ dst:=none,op:=Op.store 25 _ _,type:=_,pos:=_,after:=_,guard:=none }::_) _ _;go_must (refine oZ w.heap.size 5 (.slice a1 n1 c1) _ _ LC [.int .u8 aM,.int .u8 bG,.int .u32 aV,.int .u64 aP,.int .u64 bg,.slice a1 n1 c1,.slice bX bN bY] ?_;intro w2 acz hO2;have ho2:=ql ho1 hO2 (by rw [hWs];omega);have qY:=hT1.trans (hO2.below (Nat.le_refl _));have ahl:=(hO2.block (w.heap.size+1) (by omega)).trans LD;have hB2:=ah acz)) | (with_reducible show yw 13 ..;go_must (refine mG rfl _ _ _ rfl 57 i1 (.agg #[.int .u8 0,.int .u32 0,.int .u64 0,.int .u8 0,.bool false,.int .u64 0,.int .u8 0]) 7 40 qy hi' hz0' hz1' hz2' rfl (by decide) rfl _ bX bN bY rfl _ (h2.later qY) dL.out (LB bC) (Y2 bC) hb2 ?_;intro v3 w3 Y3 hg3;obtain ⟨a2,n2,c2,hv3⟩:=Jj Y3;rw [hv3] at Y3 ⊢;have ho3:=WQ ho2 hg3;have nV:=ai qY (ze hg3);have ahm:=af (ze hg3) acz;have ahn:=af (ze hg3) ahl;have hs3:w.heap.size+2≤w2.heap.size:=(by have:=hg1.size;have:=hO2.size;omega);clear hv3)) | (with_reducible show wpList _ _ _ ({ dst:=none,op:=Op.store 27 _ _,type:=_,pos:=_,after:=_,guard:=none }::_) _ _;go_must (refine oZ w.heap.size 6 (.slice a2 n2 c2) _ _ ahm [.int .u8 aM,.int .u8 bG,.int .u32 aV,.int .u64 aP,.int .u64 bg,.slice a1 n1 c1,.slice a2 n2 c2] ?_;intro w4 aho hO4;have Bl:=ql ho3 hO4 (by rw [hWs];omega);have ahp:=ql Y3 hO4 (by omega);have MS:=nV.trans (hO4.below (Nat.le_refl _));have ahq:=(hO4.block (w.heap.size+1) (by omega)).trans ahn)) | (with_reducible show wpList _ _ _ ({ dst:=_,op:=Op.load 52 _,type:=_,pos:=_,after:=_,guard:=none }::_) _ _;go_must (refine dF w.heap.size 0 7 qD _ _ aho [.int .u8 aM,.int .u8 bG,.int .u32 aV,.int .u64 aP,.int .u64 bg,.slice a1 n1 c1,.slice a2 n2 c2] ?_)) | (with_reducible show wpList _ _ _ ({ dst:=none,op:=Op.store 52 _ _,type:=_,pos:=_,after:=_,guard:=none }::_) _ _;go_must (refine fH (w.heap.size+1) 0 [.int .u8 aM,.int .u8 bG,.int .u32 aV,.int .u64 aP,.int .u64 bg,.slice a1 n1 c1,.slice a2 n2 c2] _ _ _ ahq [.int .u8 aM,.int .u8 bG,.int .u32 aV,.int .u64 aP,.int .u64 bg,.slice a1 n1 c1,.slice a2 n2 c2] ?_;intro w5 hW5 hO5;have lF:=ql Bl hO5 (by rw [hWs];omega);have Oh:=ql ahp hO5 (by omega);have UU:=MS.trans (hO5.below (by omega)))))
 obtain ⟨x1,x2,x3,hx,hs1,hn1⟩:=qj (by rw [List.length_map] at lF ⊢;exact lF) (LA bF);obtain ⟨y1,y2,y3,hy,hs2,hn2⟩:=qj (by rw [List.length_map] at Oh ⊢;exact Oh) (LB bC);refine bodyPost_ret (v:=.agg #[.int .u8 aM,.int .u8 bG,.int .u32 aV,.int .u64 aP,.int .u64 bg,.slice a1 n1 c1,.slice a2 n2 c2]) (results_cell_row Tryz.results11 _ _ (w.heap.size+1) 52 _ (0,0) _ rfl hW5 qD rfl WJ) rfl ⟨a1,n1,c1,a2,n2,c2,rfl,?_,?_,RP (by rw [List.length_map] at lF;exact lF) (by have:=hT.size;omega),RP (by rw [List.length_map] at Oh;exact Oh) (by have:=qY.size;omega),UU⟩;all_goals simp only [Value.slice.injEq] at hx hy
 all_goals obtain ⟨rfl,rfl,rfl⟩:=hx
 all_goals obtain ⟨rfl,rfl,rfl⟩:=hy
 all_goals assumption
end
section
open Go.RowKit
structure fC (w:World) (v:Value) (w':World) (v':Value):Prop where
 grown:w.grownBy w' v.ownBlock
 own:v'.ownBlock=v.ownBlock∨∀ k,v'.ownBlock=some k→w.heap.size≤k
theorem fC.trans {a b c:World} {v u t:Value} (h:fC a v b u) (k:fC b u c t):fC a v c t:=by
 refine ⟨⟨k.grown.os.trans h.grown.os,k.grown.tape.trans h.grown.tape,k.grown.output.trans h.grown.output,Nat.le_trans h.grown.size k.grown.size,fun i hi hne=>?_⟩,?_⟩
 ·refine (k.grown.block i (Nat.lt_of_lt_of_le hi h.grown.size) ?_).trans (h.grown.block i hi hne)
  rcases h.own with ho | ho
  ·rw [ho];exact hne
  ·intro e;have:=ho i e.symm;omega
 ·rcases k.own with ho | ho
  ·rw [ho];exact h.own
  ·exact .inr fun i hi=>Nat.le_trans h.grown.size (ho i hi)
theorem fC.alloc (w:World) (v:Value) (o:Obj):fC w v (w.alloc o) v:=⟨World.grownBy_alloc w o _,.inl rfl⟩
theorem fC.drewN (w:World) (v:Value) (n:Nat):fC w v (w.drewN n) v:=⟨⟨rfl,rfl,rfl,Nat.le_refl _,fun _ _ _=>rfl⟩,.inl rfl⟩
theorem fC.blk {W w':World} {v v':Value} {B:Nat} {o:Obj} (h:fC W v w' v') (hW:W.heap[B]? = some o) (hne:some B≠v.ownBlock):w'.heap[B]? = some o :=
 (h.grown.block B (df hW) hne).trans hW
section
variable {P:Program} (w:World)
theorem Bz (base:Nat) (t ty e:TypeId) (i:TypeInfo) (z:Value) (size bytes:Nat) (ht:P.underlying t=some (.slice e)) (hi:P.info? e=some i) (hz:i.zero=some z)
 (hsize:i.size=size) (hby:i.bytes=bytes) (hzs:z.cells.size=size) (hsz:0<size) (v:Value) (n:Nat) (xs:List Value) (hown:w.ownsRow base e size v n xs)
 (a:Addr) (m c:Nat) (news:List Value) (hl:news.length=m*size) (hnews:∀ j u,news[j]? = some u→w.cell? (a.add j)=some u) (h1:∀ u∈news,u.oneCell'=true)
 (h63:n+m≤maxLen) (hbytes:(n+m)*bytes≤140737488355328) (hbase:base≤w.heap.size) :
 ∃ v' w',(Builtin.append_ #[t,t] ty #[v,.slice (some a) m c]).run P w=.ok v' w'∧w'.ownsRow base e size v' (n+m) (xs++news)∧fC w v w' v':=by
 obtain ⟨v',w',hr,ho,hg,_⟩:=run_append_own (P:=P) w base t ty e i z size bytes ht hi hz hsize hby hzs hsz v n xs hown a m c news hl hnews h1 h63 hbytes hbase;refine ⟨v',w',hr,ho,hg,?_⟩;rcases hown.2 with ⟨rfl,rfl⟩ | ⟨g,cap,cur,rfl,hbg,hgg,hnc,hcm,hcs,htake⟩
 ·right
  have hx:xs=[]:=List.eq_nil_of_length_eq_zero (by simpa using hown.1);subst hx;obtain ⟨v2,w2,hr2,ho2,_,_⟩:=run_append_own (P:=P) w w.heap.size t ty e i z size bytes ht hi hz hsize hby hzs hsz _ 0 [] (World.ownsRow_nil w w.heap.size e size) a m c news hl hnews h1 h63 hbytes (Nat.le_refl _);rw [hr2] at hr;injection hr with e1 e2;subst e1;exact fun k hk=>(ho2.lt k hk).1
 ·have hsmall:n+m≤9223372036854775807:=by simp only [maxLen] at h63;omega
  subst hsize;subst hby;by_cases hroom:n+m≤cap
  ·have hfit:n*i.size+news.length≤cur.size:=by rw [hl,hcs,← Nat.add_mul];exact Nat.mul_le_mul_right _ hroom
   rw [run_append_room (P:=P) w t ty e i ht hi g n cap cur hgg a m c news hl hnews h1 hroom hfit] at hr;injection hr with e1 e2;subst e1;exact .inl rfl
  ·rw [run_append_grow (P:=P) w t ty e i z ht hi hz ⟨g,0,none⟩ n cap xs hown.1 (hown.cells (g:=g) rfl) a m c news hl hnews (by omega) (by omega) (growslice_fits (by omega) hbytes)] at hr
   injection hr with e1 e2;subst e1;exact .inr fun k hk=>by simp [Value.ownBlock] at hk;omega
theorem aZ {ops:Array Oper} {rest:List Oper} {o:Oper} {a:Act} {Q:Exit→Act→World→Prop} (hgd:o.guard=none) (s x:Operand) (t:TypeId)
 (ho:o.op=.call { callee:=.builtin .append,args:=#[s,x],argTypes:=#[t,t] })
 (base:Nat) (e:TypeId) (i:TypeInfo) (z:Value) (size bytes:Nat) (ht:P.underlying t=some (.slice e)) (hi:P.info? e=some i) (hz:i.zero=some z)
 (hsize:i.size=size) (hby:i.bytes=bytes) (hzs:z.cells.size=size) (hsz:0<size) (v:Value) (n:Nat) (xs:List Value) (hs:a.eval s=v) (hown:w.ownsRow base e size v n xs)
 (ad:Addr) (m c:Nat) (news:List Value) (hx:a.eval x=.slice (some ad) m c) (hl:news.length=m*size) (hnews:∀ j u,news[j]? = some u→w.cell? (ad.add j)=some u) (h1:∀ u∈news,u.oneCell'=true)
 (h63:n+m≤maxLen) (hbytes:(n+m)*bytes≤140737488355328) (hbase:base≤w.heap.size)
 (h:∀ v' w',w'.ownsRow base e size v' (n+m) (xs++news)→fC w v w' v'→wpList P ops Q rest (a.put o.dst v') w'):wpList P ops Q (o::rest) a w :=
 wpList_plain hgd fun _ hK=>by
  obtain ⟨v',w',hr,h2,h3⟩:=Bz (P:=P) w base t o.type e i z size bytes ht hi hz hsize hby hzs hsz v n xs hown ad m c news hl hnews h1 h63 hbytes hbase;unfold Oper.wp execOp;simp only [ho,resolve,invoke,builtin,Sem.run_bind,Sem.run_pure,Result.andThen_ok,List.map_toArray,List.map_cons,List.map_nil,hs,hx,hr];exact hK _ _ (h v' w' h2 h3)
end
end
section
open Go.RowKit Go.Lib
theorem RQ (g cap n i:Nat) (cur xs nw:List Value) (vb:Nat) (w:World) (hg:w.heap[g]? = some (.cells cur.toArray 57)) (hcs:cur.length=cap*7) (htk:cur.take (n*7)=xs) (hroom:n+1≤cap) (h1:∀ u∈xs,u.oneCell'=true)
 (hnl:nw.length=7) (zZ:∀ u∈nw,u.oneCell'=true) (hvb:w.heap[vb]? = some (.cells nw.toArray 57)) (hne:vb≠g) (hi:i<n) (hn:n<1000000) :
 Calls Tryz.prog 181 #[.slice (some ⟨g,0,none⟩) n cap,.int .i64 i,.slice (some ⟨vb,0,none⟩) 1 1] w fun e w' =>
  e=.returned (.slice (some ⟨g,0,none⟩) (n+1) cap)∧w'.heap[g]? = some (.cells (splice (splice cur ((i+1)*7) (xs.drop (i*7))) (i*7) nw).toArray 57)∧Only g w w':=by
 have hd1:((i:Int) == (n:Int))=false:=by simp;omega
 have hi0:(0:Int)≤(i:Int):=by omega
 have hi1:(i:Int)≤(n:Int):=by omega
 have hwr:IntKind.i64.wrap ((i:Int)+1)=(i:Int)+1:=by rw [IntKind.wrap_i64];omega
 have hi4:(0:Int)≤(i:Int)+1:=by omega
 have ht1:((i:Int)+1).toNat=i+1:=by omega
 have hi5:(i:Int)≤(n:Int)+1:=by omega
 have hi3:((i:Int)+1)≤(n:Int)+1:=by omega
 have Y4:n+1 - (i+1)=n - i:=by omega
 obtain ⟨i0,wU,hz0,hz1,hz2'⟩:=info_parts Ht;have hd2:decide ((cap:Int)<(n:Int)+1)=false:=by simp;omega
 have hi2:((n:Int)+1)≤(cap:Int):=by omega
 have Y5:¬ cap=i+1:=by omega
 have VL:¬ cap=i:=by omega
 have HG:Hid (w.heap[g]? = some (.cells cur.toArray 57)):=hg;have HV:Hid (w.heap[vb]? = some (.cells nw.toArray 57)):=hvb;have hov:∀ off lb cb,(callFunc 208 #[.slice (some ⟨vb,0,none⟩) 1 1,.slice (some ⟨g,off,none⟩) lb cb]).run Tryz.prog w=.ok (.value (.bool false)) w:=fun off lb cb=>by
  rw [run_callFunc_extern Tryz.func208 (by kernel_rfl) (by kernel_rfl) (by kernel_rfl) (e:=Extern.SlicesOverlaps.overlaps #[27,27] #[4]) (by kernel_rfl),
   Lib.run_overlaps_apart w 27 4 57 qy 7 (fun w=>by simp [sizeOf,typeInfo,wU,hz1]) ⟨vb,0,none⟩ ⟨g,off,none⟩ 1 1 lb cb hne 57 57 7 cur.length (by simp [World.shape?,hvb,hnl]) (by simp [World.shape?,hg]) (by rw [hcs];omega) (by simp [World.frozen?,hvb]) (by simp [World.frozen?,hvb])]
  rfl
 clear hg hvb wU hz0 hz1 hz2';have HX:Hid (cur.take (n*7)=xs):=htk;clear htk;have HL:Hid ((xs.drop (i*7)).length=(n - i)*7):=by
  show _=_;rw [← HX.out,List.length_drop,List.length_take,hcs,Nat.min_eq_left (Nat.mul_le_mul_right _ (by omega)),Nat.sub_mul]
 have HN:Hid (nw.length=7):=hnl;have Am:Nat.min (n+1 - i) (n - i)=n - i:=Nat.min_eq_right (by omega);have HC:Hid (cur.length=cap*7):=hcs;obtain ⟨X2,hX2⟩:∃ X2,X2=xs.drop (i*7):=⟨_,rfl⟩;have wu:Hid (X2=xs.drop (i*7)):=hX2;have HS2:Hid (∀ j v,X2[j]? = some v→w.cell? ((⟨g,i*7,none⟩:Addr).add j)=some v):=by rw [hX2];exact yQ HG.out HX.out _
 have dZ:Hid (∀ u∈X2,u.oneCell'=true):=by rw [hX2];exact DC h1 _
 have HL2:Hid (X2.length=Nat.min (n+1 - i) (n - i)*7):=by rw [hX2,Am];exact HL.out
 have wy:Hid ((i+1)*7+X2.length≤cur.length):=by show _≤_;rw [HL2.out,Am,HC.out,← Nat.add_mul];exact Nat.mul_le_mul_right _ (by omega)
 clear hX2 hcs hnl Am;rw [← wu.out];obtain ⟨c1,hc1⟩:∃ c1,c1=splice cur ((i+1)*7) X2:=⟨_,rfl⟩;have wB:Hid (c1=splice cur ((i+1)*7) X2):=hc1;rw [← hc1];clear hc1;go_enter Tryz.func181,Tryz.ntmps181
 go_wp2_with fail
 go_region_law (refine Df rfl (.tmp 73) (.tmp 76) 27 27 rfl 57 7 qy (by kernel_rfl) g ((i+1)*7) (n - i) (cap - (i+1)) (by simp [Act.eval,Act.put]) ⟨g,i*7,none⟩ (n+1 - i) (cap - i) (by simp [Act.eval,Act.put]) cur 57 HG.out X2 HL2.out HS2.out wy.out dZ.out ?_;intro w1 hg1 ho1)
 have Ce:Hid (w1.heap[g]? = some (.cells c1.toArray 57)):=by rw [wB.out];exact hg1.out
 have HV1:Hid (w1.heap[vb]? = some (.cells nw.toArray 57)):=(ho1.out.block vb hne).trans HV.out;have lG:Hid (Only g w w1):=Only.trans (Only.drew g w) ho1.out;have C8:Hid (i*7+nw.length≤c1.length):=by
  show _≤_;rw [wB.out,length_splice _ _ _ wy.out,HN.out,HC.out,← Nat.succ_mul];exact Nat.mul_le_mul_right _ (by omega)
 have dL:Hid (nw.length=Nat.min 1 (n+1 - i)*7):=by
  show _=_;rw [HN.out,show Nat.min 1 (n+1 - i)=1 from Nat.min_eq_left (by omega),Nat.one_mul]
 clear hg1 ho1;go_wp2_with (with_reducible show yw 82 ..;go_must (refine AO rfl (.tmp 80) (.tmp 81) 27 27 rfl 57 7 qy (by kernel_rfl) g (i*7) (n+1 - i) (cap - i) rfl ⟨vb,0,none⟩ 1 1 rfl c1 57 Ce.out nw dL.out (Al HV1.out) C8.out zZ ?_;intro w2 hg2 ho2))
 go_wp2
 go_ret
 exact ⟨rfl,hg2.out,lG.out.trans ho2.out⟩
theorem RU (g cap n i:Nat) (cur xs nw:List Value) (vb:Nat) (w:World) (hg:w.heap[g]? = some (.cells cur.toArray 57)) (hcs:cur.length=cap*7) (htk:cur.take (n*7)=xs) (hnc:n≤cap) (hroom:cap<n+1) (h1:∀ u∈xs,u.oneCell'=true)
 (hnl:nw.length=7) (zZ:∀ u∈nw,u.oneCell'=true) (hvb:w.heap[vb]? = some (.cells nw.toArray 57)) (hi:i<n) (hn:n<1000000) :
 Calls Tryz.prog 181 #[.slice (some ⟨g,0,none⟩) n cap,.int .i64 i,.slice (some ⟨vb,0,none⟩) 1 1] w fun e w' =>
  ∃ (c2:Nat) (dP:List Value),e=.returned (.slice (some ⟨w.heap.size,0,none⟩) (n+1) c2)∧w'.heap[w.heap.size]? = some (.cells (splice (splice dP (i*7) nw) ((i+1)*7) (xs.drop (i*7))).toArray 57) ∧
   dP.length=c2*7∧n+1≤c2∧c2≤maxLen∧dP.take (i*7)=xs.take (i*7)∧Below w.heap.size w w':=by
 have hd1:((i:Int) == (n:Int))=false:=by simp;omega
 have hi0:(0:Int)≤(i:Int):=by omega
 have hi1:(i:Int)≤(n:Int):=by omega
 have hwr:IntKind.i64.wrap ((i:Int)+1)=(i:Int)+1:=by rw [IntKind.wrap_i64];omega
 have hi4:(0:Int)≤(i:Int)+1:=by omega
 have ht1:((i:Int)+1).toNat=i+1:=by omega
 have hi5:(i:Int)≤(n:Int)+1:=by omega
 have hi3:((i:Int)+1)≤(n:Int)+1:=by omega
 have Y4:n+1 - (i+1)=n - i:=by omega
 obtain ⟨i0,wU,hz0,hz1,hz2'⟩:=info_parts Ht;have hd2:decide ((cap:Int)<(n:Int)+1)=true:=by simp;omega
 have hgl:g<w.heap.size:=(df hg);have hvl:vb<w.heap.size:=(df hvb);have HG:Hid (w.heap[g]? = some (.cells cur.toArray 57)):=hg;have HV:Hid (w.heap[vb]? = some (.cells nw.toArray 57)):=hvb;have hxl:(xs.take (i*7)).length=i*i0.size:=by
  rw [hz1,List.length_take,← htk,List.length_take,hcs,Nat.min_eq_left (Nat.mul_le_mul_right _ hnc),Nat.min_eq_left (Nat.mul_le_mul_right _ (by omega))]
 have WR:∀ j v,(xs.take (i*7))[j]? = some v→w.cell? ((⟨g,0,none⟩:Addr).add j)=some v:=by
  intro j v hj;refine yQ hg htk 0 j v ?_;rw [List.getElem?_take] at hj;split at hj
  ·simpa using hj
  ·cases hj
 obtain ⟨dP,BA,LF,hrun⟩:=Dz (P:=Tryz.prog) w 27 3 27 57 i0 (.agg bA.toArray) .i64 .i64 qy RI wU hz0 (by rw [hz1];rfl) ⟨g,0,none⟩ i cap (xs.take (i*7)) hxl WR (n+1 - i) (by omega) (by rw [hz1];decide) (by omega) (by rw [hz2',show i+(n+1 - i)=n+1 by omega];omega) (by unfold maxLen;omega);have hge:=grownCap_ge w (i+(n+1 - i)) cap 57;have hle:=grownCap_le_maxLen w (i+(n+1 - i)) cap 57 (by unfold maxLen;omega);generalize grownCap w (i+(n+1 - i)) cap 57=c2 at BA hrun hge hle;rw [show i+(n+1 - i)=n+1 by omega] at hrun hge;rw [show (((n+1 - i:Nat)):Int)=(n:Int)+1 - (i:Int) by omega] at hrun;rw [hz1] at BA LF;have HR:Hid ((Builtin.append_ #[27,3] 27 #[.slice (some ⟨g,0,none⟩) i cap,.int .i64 ((n:Int)+1 - (i:Int))]).run Tryz.prog w=.ok (.slice (some ⟨w.heap.size,0,none⟩) (n+1) c2) (w.drew.alloc (.cells dP.toArray 57))):=hrun;obtain ⟨W,hW⟩:∃ W,W=w.drew.alloc (.cells dP.toArray 57):=⟨_,rfl⟩;have HW0:Hid (W.heap[w.heap.size]? = some (.cells dP.toArray 57)):=by show _=_;rw [hW];exact heap_alloc_new w.drew _
 have WS:Hid (Below w.heap.size w W):=by
  show Below _ _ _;rw [hW];exact (Below.refl _ w).drew.alloc (Nat.le_refl _) _
 have lH:Hid (dP.length=c2*7∧dP.take (i*7)=xs.take (i*7)∧n+1≤c2∧c2≤maxLen):=(⟨BA,LF,hge,hle⟩:_∧_∧_∧_);have Y5:¬ c2=i+1:=by omega
 have VL:¬ c2=i:=by omega
 have acC:¬ cap=i:=by omega
 have HX:Hid (cur.take (n*7)=xs):=htk;have HL:Hid ((xs.drop (i*7)).length=(n - i)*7):=by
  show _=_;rw [← htk,List.length_drop,List.length_take,hcs,Nat.min_eq_left (Nat.mul_le_mul_right _ (by omega)),Nat.sub_mul]
 have HN:Hid (nw.length=7):=hnl;have dL:Hid (nw.length=Nat.min 1 (n+1 - i)*7):=by
  show _=_;rw [hnl,show Nat.min 1 (n+1 - i)=1 from Nat.min_eq_left (by omega),Nat.one_mul]
 have C8:Hid (i*7+nw.length≤dP.length):=by
  show _≤_;rw [hnl,BA,← Nat.succ_mul];exact Nat.mul_le_mul_right _ (by omega)
 have Am:Nat.min (n - i) (n - i)=n - i:=Nat.min_self _;obtain ⟨X2,hX2⟩:∃ X2,X2=xs.drop (i*7):=⟨_,rfl⟩;have wu:Hid (X2=xs.drop (i*7)):=hX2;have HS2:Hid (∀ j v,X2[j]? = some v→w.cell? ((⟨g,i*7,none⟩:Addr).add j)=some v):=by rw [hX2];exact yQ hg htk _
 have dZ:Hid (∀ u∈X2,u.oneCell'=true):=by rw [hX2];exact DC h1 _
 have HL2:Hid (X2.length=Nat.min (n - i) (n - i)*7):=by rw [hX2,Am];exact HL.out
 obtain ⟨c1,hc1⟩:∃ c1,c1=splice dP (i*7) nw:=⟨_,rfl⟩;have wB:Hid (c1=splice dP (i*7) nw):=hc1;have wy:Hid ((i+1)*7+X2.length≤c1.length):=by show _≤_;rw [hc1,length_splice _ _ _ C8.out,HL2.out,Am,BA,← Nat.add_mul];exact Nat.mul_le_mul_right _ (by omega)
 clear hX2 hcs hnl Am hc1 BA LF hge hle hrun hg hvb htk hxl WR wU hz0 hz1 hz2';go_enter Tryz.func181,Tryz.ntmps181
 go_wp2_with (first
  | (with_reducible show yw 40 ..;go_must (refine Lib.wpList_append_run _ rfl (.tmp 34) (.tmp 39) 27 3 rfl (.slice (some ⟨g,0,none⟩) i cap) (.int .i64 ((n:Int)+1 - (i:Int))) rfl rfl _ _ HR.out ?_;rw [← hW];clear hW HR))
  | (with_reducible show yw 45 ..;go_must (refine AO rfl (.tmp 43) (.tmp 44) 27 27 rfl 57 7 qy (by kernel_rfl) w.heap.size (i*7) (n+1 - i) (c2 - i) rfl ⟨vb,0,none⟩ 1 1 rfl dP 57 HW0.out nw dL.out (Al ((WS.out.block vb hvl).trans HV.out)) C8.out zZ ?_;intro w1 hg1 ho1)))
 have Ce:Hid (w1.heap[w.heap.size]? = some (.cells c1.toArray 57)):=by rw [wB.out];exact hg1.out
 have HB1:Hid (Below w.heap.size w w1):=WS.out.trans (ho1.out.below (Nat.le_refl _));have uF:Hid (∀ j v,X2[j]? = some v→w1.cell? ((⟨g,i*7,none⟩:Addr).add j)=some v):=fun j v hj=>by
  have:=HS2.out j v hj;rw [MQ] at this ⊢;rw [HB1.out.cell (p:=⟨g,i*7+j,none⟩) hgl];exact this
 clear hg1 ho1;go_region_law (refine Df rfl (.tmp 50) (.tmp 53) 27 27 rfl 57 7 qy (by kernel_rfl) w.heap.size ((i+1)*7) (n - i) (c2 - (i+1)) (by simp [Act.eval,Act.put]) ⟨g,i*7,none⟩ (n - i) (cap - i) (by simp [Act.eval,Act.put]) c1 57 Ce.out X2 HL2.out uF.out wy.out dZ.out ?_;intro w2 hg2 ho2)
 go_wp2
 go_ret
 exact ⟨c2,dP,rfl,by rw [← wu.out,← wB.out];exact hg2.out,lH.out.1,lH.out.2.2.1,lH.out.2.2.2,lH.out.2.1,HB1.out.drew.trans (ho2.out.below (Nat.le_refl _))⟩
theorem Uz (base:Nat) (a:Option Addr) (n c:Nat) (xs nw:List Value) (vb:Nat) (w:World) (hown:w.ownsRow base 57 7 (.slice a n c) n xs)
 (hnl:nw.length=7) (zZ:∀ u∈nw,u.oneCell'=true) (hvb:w.heap[vb]? = some (.cells nw.toArray 57)) (hb:base≤w.heap.size) (hn:n<1000000) :
 Calls Tryz.prog 181 #[.slice a n c,.int .i64 n,.slice (some ⟨vb,0,none⟩) 1 1] w fun e w' =>
  ∃ v',e=.returned v'∧w'.ownsRow base 57 7 v' (n+1) (xs++nw)∧fC w (.slice a n c) w' v':=by
 obtain ⟨i0,wU,hz0,hz1,hz2'⟩:=info_parts Ht;have HV:Hid (∀ (j:Nat) (u:Value),nw[j]? = some u→w.cell? ((⟨vb,0,none⟩:Addr).add j)=some u):=Al hvb;have hi0:(0:Int)≤(n:Int):=by omega
 have HOW:Hid (w.ownsRow base 57 7 (.slice a n c) n xs):=hown;have HN:Hid (nw.length=1*7):=by show _=_;rw [hnl]
 clear hown hvb hnl;go_enter Tryz.func181,Tryz.ntmps181
 go_wp2_with (at_builtin;go_must (refine aZ _ rfl _ _ 27 rfl base 57 i0 (.agg bA.toArray) 7 40 qy wU hz0 hz1 hz2' rfl (by decide) (.slice a n c) n xs rfl HOW.out ⟨vb,0,none⟩ 1 1 nw rfl HN.out HV.out zZ (by unfold maxLen;omega) (by omega) hb ?_;intro v' w1 hown' hgrow))
 all_goals (go_wp2;go_ret;exact ⟨v',rfl,hown',by first | exact hgrow | (rw [h] at hgrow;exact hgrow)⟩)
theorem abt (base:Nat) (v:Value) (n i:Nat) (xs nw:List Value) (vb:Nat) (w:World) (hown:w.ownsRow base 57 7 v n xs) (h1:∀ u∈xs,u.oneCell'=true)
 (hnl:nw.length=7) (zZ:∀ u∈nw,u.oneCell'=true) (hvb:w.heap[vb]? = some (.cells nw.toArray 57)) (hne:v.ownBlock≠some vb) (hi:i≤n) (hb:base≤w.heap.size) (hn:n<1000000) :
 Calls Tryz.prog 181 #[v,.int .i64 i,.slice (some ⟨vb,0,none⟩) 1 1] w fun e w' =>
  ∃ v',e=.returned v'∧w'.ownsRow base 57 7 v' (n+1) (xs.take (i*7)++(nw++xs.drop (i*7)))∧fC w v w' v':=by
 have hxl:=hown.1;rcases Nat.lt_or_eq_of_le hi with hlt | rfl
 ·rcases hown.2 with ⟨_,h0⟩ | ⟨g,cap,cur,rfl,hbg,hg,hnc,hcm,hcs,htake⟩
  ·omega
  have hcs':cur.toList.length=cap*7:=by rw [Array.length_toList];exact hcs
  have hne':vb≠g:=fun e=>hne (by rw [e];rfl)
  have hg':w.heap[g]? = some (.cells cur.toList.toArray 57):=by rw [Array.toArray_toList];exact hg
  have hL:(xs.take (i*7)++(nw++xs.drop (i*7))).length=(n+1)*7:=by
   simp only [List.length_append,List.length_take,List.length_drop,hxl,hnl,Nat.min_eq_left (Nat.mul_le_mul_right 7 (Nat.le_of_lt hlt))];have:=Nat.mul_le_mul_right 7 (Nat.le_of_lt hlt);omega
  by_cases hroom:n+1≤cap
  ·refine (RQ g cap n i cur.toList xs nw vb w hg' hcs' htake hroom h1 hnl zZ hvb hne' hlt hn).mono ?_
   rintro e w' ⟨rfl,hg1,ho⟩;have hcl:n*7+7≤cur.toList.length:=by rw [hcs',← Nat.succ_mul];exact Nat.mul_le_mul_right _ hroom
   have hil:=Nat.mul_le_mul_right 7 (Nat.le_of_lt hlt);rw [Nat.succ_mul,I6 cur.toList xs nw (i*7) 7 (n*7) htake hcl hil hnl] at hg1;refine ⟨_,rfl,⟨hL,.inr ⟨g,cap,_,rfl,hbg,hg1,hroom,hcm,?_,?_⟩⟩,⟨qB ho,.inl rfl⟩⟩
   ·rw [List.size_toArray,← hcs',← List.append_assoc,← List.append_assoc,List.append_assoc _ nw,List.length_append,hL,List.length_drop,Nat.succ_mul]
    omega
   ·show (xs.take (i*7)++(nw++(xs.drop (i*7)++_))).take ((n+1)*7)=_
    rw [← hL];exact Dh _ _ _ _
  ·refine (RU g cap n i cur.toList xs nw vb w hg' hcs' htake hnc (by omega) h1 hnl zZ hvb hlt hn).mono ?_
   rintro e w' ⟨c2,dP,rfl,hg1,hl2,hge,hle,ht2,hbel⟩;have hal:(xs.take (i*7)).length=i*7:=by rw [List.length_take,hxl,Nat.min_eq_left (Nat.mul_le_mul_right 7 (Nat.le_of_lt hlt))]
   have hdl:(xs.drop (i*7)).length=n*7 - i*7:=by rw [List.length_drop,hxl]
   have hil:=Nat.mul_le_mul_right 7 (Nat.le_of_lt hlt);have hcl:i*7+7+(xs.drop (i*7)).length≤dP.length:=by
    rw [hdl,hl2];have:=Nat.mul_le_mul_right 7 hge;rw [Nat.succ_mul] at this;omega
   rw [Nat.succ_mul,I7 dP _ nw _ (i*7) 7 ht2 hal hnl hcl] at hg1;refine ⟨_,rfl,⟨hL,.inr ⟨w.heap.size,c2,_,rfl,hb,hg1,hge,hle,?_,?_⟩⟩,⟨F6 hbel,.inr fun k hk=>?_⟩⟩
   ·rw [List.size_toArray,← hl2,← List.append_assoc,← List.append_assoc,List.append_assoc _ nw,List.length_append,hL,List.length_drop,Nat.succ_mul]
    rw [hdl] at hcl ⊢;omega
   ·show (xs.take (i*7)++(nw++(xs.drop (i*7)++_))).take ((n+1)*7)=_
    rw [← hL];exact Dh _ _ _ _
   ·simp [Value.ownBlock] at hk;omega
 ·obtain ⟨a,c,rfl⟩:∃ a c,v=.slice a i c:=by
   rcases hown.2 with ⟨rfl,rfl⟩ | ⟨g,cap,cur,rfl,_⟩
   ·exact ⟨none,0,rfl⟩
   ·exact ⟨_,_,rfl⟩
  refine (Uz base a i c xs nw vb w hown hnl zZ hvb hb hn).mono ?_;rintro e w' ⟨v',rfl,hown',hgr⟩;refine ⟨v',rfl,?_,hgr⟩;rw [List.take_of_length_le (by omega),List.drop_eq_nil_of_le (by omega),List.append_nil];exact hown'
theorem BB {a b:Int}:j3 a b<0↔a<b:=by
 unfold j3;split
 ·simp;omega
 ·split <;> omega
theorem sj {a b:Int}:j3 a b=0↔a=b:=by
 unfold j3;split
 ·simp;omega
 ·split <;> omega
theorem GA {a b:ak}:nO a b<0↔a.key<b.key∨a.key=b.key∧a.c<b.c:=by
 unfold nO WK;split
 ·rename_i h
  rw [sj] at h;rw [BB];omega
 ·rename_i h
  rw [sj] at h;rw [BB];omega
theorem Kw {a b:ak}:nO a b=0↔a.key=b.key∧a.c=b.c:=by
 unfold nO WK;split
 ·rename_i h
  rw [sj] at h;rw [sj];omega
 ·rename_i h
  rw [sj] at h;rw [sj];omega
def Oi {α:Type} (f:α→Int) (l:List α):Prop:=∀ (i j:Nat) (x y:α),i≤j→l[i]? = some x→l[j]? = some y→f y<0→f x<0
def jZ (T:List Row):Prop:=T.Pairwise (fun a b=>a.key<b.key)
def eU (D:List ak):Prop:=D.Pairwise (fun a b=>a.key<b.key∨a.key=b.key∧a.c<b.c)
theorem Ao {α:Type} {R:α→α→Prop} {l:List α} (h:l.Pairwise R) {i j:Nat} {x y:α} (hij:i<j) (hx:l[i]? = some x) (hy:l[j]? = some y):R x y:=by
 obtain ⟨hi,rfl⟩:=List.getElem?_eq_some_iff.1 hx;obtain ⟨hj,rfl⟩:=List.getElem?_eq_some_iff.1 hy;exact List.pairwise_iff_getElem.1 h i j hi hj hij
theorem VM {T:List Row} (h:jZ T) (key:Int):Oi (fun x:Row=>j3 x.key key) T:=by
 intro i j x y hij hx hy hl;rcases Nat.lt_or_eq_of_le hij with h1 | rfl
 ·have:=Ao h h1 hx hy
  rw [BB] at hl ⊢;omega
 ·rw [hx] at hy;cases hy;exact hl
theorem VN {D:List ak} (h:eU D) (q:ak):Oi (fun x:ak=>nO x q) D:=by
 intro i j x y hij hx hy hl;rcases Nat.lt_or_eq_of_le hij with h1 | rfl
 ·have:=Ao h h1 hx hy
  rw [GA] at hl ⊢;omega
 ·rw [hx] at hy;cases hy;exact hl
theorem Oj {α:Type} (f:α→Int) (l:List α):fJ f l≤l.length:=List.countP_le_length
theorem Cf {α:Type} (f:α→Int):∀ (l:List α),Oi f l→(∀ (t:Nat) (x:α),t<fJ f l→l[t]? = some x→f x<0)∧(∀ (t:Nat) (x:α),fJ f l≤t→l[t]? = some x→0≤f x)
 | [],_=>⟨fun t x _ h=>by simp at h,fun t x _ h=>by simp at h⟩
 | a::r,h=>by
  have hr:Oi f r:=fun i j x y hij hx hy=>h (i+1) (j+1) x y (by omega) (by simpa using hx) (by simpa using hy)
  obtain ⟨h1,h2⟩:=Cf f r hr;by_cases ha:f a<0
  ·have hp:fJ f (a::r)=fJ f r+1:=by unfold fJ;rw [List.countP_cons_of_pos (by simp [ha])]
   rw [hp];refine ⟨fun t x ht hx=>?_,fun t x ht hx=>?_⟩
   ·cases t with
    | zero=>simp at hx;subst hx;exact ha
    | succ t=>exact h1 t x (by omega) (by simpa using hx)
   ·cases t with
    | zero=>omega
    | succ t=>exact h2 t x (by omega) (by simpa using hx)
  ·have hz:fJ f r=0:=by
    unfold fJ;rw [List.countP_eq_zero];intro x hx;obtain ⟨t,ht,rfl⟩:=List.getElem_of_mem hx;intro hc;exact ha (h 0 (t+1) a r[t] (Nat.zero_le _) rfl (by simp [ht]) (by simpa using hc))
   have hp:fJ f (a::r)=0:=by
    unfold fJ at hz ⊢;rw [List.countP_cons_of_neg (by simp [ha]),hz]
   rw [hp];refine ⟨fun t x ht _=>by omega,fun t x ht hx=>?_⟩;cases t with
   | zero=>simp at hx;subst hx;exact Int.not_lt.1 ha
   | succ t=>exact h2 t x (by omega) (by simpa using hx)
theorem wC {α:Type} {f:α→Int} {l:List α} (h:wS f l=true):∃ x,l[fJ f l]? = some x∧f x=0:=by
 unfold wS at h;cases hx:l[fJ f l]? with
 | none=>simp [hx] at h
 | some x=>exact ⟨x,rfl,by simpa [hx] using h⟩
theorem O0 {T:List Row} {key:Int} (hs:jZ T) (h:wS (fun x:Row=>j3 x.key key) T=false):∀ x∈T,x.key≠key:=by
 intro x hx e;obtain ⟨t,ht,rfl⟩:=List.getElem_of_mem hx;obtain ⟨h1,h2⟩:=Cf _ T (VM hs key);have hz:j3 T[t].key key=0:=sj.2 e;have hge:fJ (fun x:Row=>j3 x.key key) T≤t:=by
  rcases Nat.lt_or_ge t (fJ (fun x:Row=>j3 x.key key) T) with hlt | hge
  ·have:=h1 t _ hlt (List.getElem?_eq_getElem ht)
   simp only [hz] at this;omega
  ·exact hge
 have hp:fJ (fun x:Row=>j3 x.key key) T<T.length:=by omega
 have hy:=List.getElem?_eq_getElem hp;have h0:=h2 _ _ (Nat.le_refl _) hy;rcases Nat.lt_or_eq_of_le hge with hlt | heq
 ·have:=Ao hs hlt hy (List.getElem?_eq_getElem ht)
  have h3:¬ j3 T[fJ (fun x:Row=>j3 x.key key) T].key key<0:=by omega
  rw [BB] at h3;omega
 ·unfold wS at h
  rw [hy] at h;have:j3 T[fJ (fun x:Row=>j3 x.key key) T].key key=0:=by rw [sj];simpa [heq] using e
  simp [this] at h
theorem VO {D:List ak} {q:ak} (hs:eU D) (h:wS (fun x:ak=>nO x q) D=false):∀ x∈D,¬ (x.key=q.key∧x.c=q.c):=by
 intro x hx e;obtain ⟨t,ht,rfl⟩:=List.getElem_of_mem hx;obtain ⟨h1,h2⟩:=Cf _ D (VN hs q);have hz:nO D[t] q=0:=Kw.2 e;have hge:fJ (fun x:ak=>nO x q) D≤t:=by
  rcases Nat.lt_or_ge t (fJ (fun x:ak=>nO x q) D) with hlt | hge
  ·have:=h1 t _ hlt (List.getElem?_eq_getElem ht)
   simp only [hz] at this;omega
  ·exact hge
 have hp:fJ (fun x:ak=>nO x q) D<D.length:=by omega
 have hy:=List.getElem?_eq_getElem hp;have h0:=h2 _ _ (Nat.le_refl _) hy;rcases Nat.lt_or_eq_of_le hge with hlt | heq
 ·have:=Ao hs hlt hy (List.getElem?_eq_getElem ht)
  have h3:¬ nO D[fJ (fun x:ak=>nO x q) D] q<0:=by omega
  rw [GA] at h3;omega
 ·unfold wS at h
  rw [hy] at h;have:nO D[fJ (fun x:ak=>nO x q) D] q=0:=by rw [Kw];simpa [heq] using e
  simp [this] at h
def CV {α:Type} (l:List α) (i:Nat) (x:α):List α:=l.take i++(x::l.drop i)
theorem Hu {α:Type} (l:List α) (i:Nat) (x:α):(CV l i x).length=l.length+1:=by simp [CV];omega
end
end Go.Proofs.YtignemioillaiaaGreat
