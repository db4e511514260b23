/- Laws for a block of the call's own that is known whole: a store of a struct (or of one cell) into it. -/
import Derived.Test.YtignemioillaiabGreatG10
namespace Go.Proofs.YtignemioillaiabGreat
set_option maxHeartbeats 8000000
set_option maxRecDepth 100000
section
open Go.RowKit
structure Only (B:Nat) (w w':World):Prop where
 os:w'.os=w.os
 tape:w'.tape=w.tape
 output:w'.output=w.output
 size:w'.heap.size=w.heap.size
 block:∀ k,k≠B→w'.heap[k]? = w.heap[k]?
theorem Only.setRow (w:World) (B:Nat) (cs:Array Value):Only B w (w.setRow B cs) :=
 ⟨rfl,rfl,rfl,size_setRow _ _ _,fun k hk=>setRow_other w B k cs hk⟩
theorem yP {P:Program} (w:World) (B o:Nat) (ty t:TypeId) (v:Value) (xs:Array Value) (hW:w.heap[B]? = some (.cells xs t)) (hi:(P.info? ty).map (·.size)=some v.cells.size)
 (h1:v.cells.toList.all (·.oneCell')=true) (hfit:o+v.cells.size≤xs.size) :
 (Instr.storeAt ty (.pointer (some ⟨B,o,none⟩)) v).run P w=.ok () (w.setRow B (xs.toList.take o++v.cells.toList++xs.toList.drop (o+v.cells.size)).toArray):=by
 have h:=run_storeCells_at (P:=P) B o t v.cells.toList 0 xs w hW (by simpa using hfit) (fun u hu=>List.all_eq_true.1 h1 u hu);simp only [Nat.add_zero,Array.length_toList] at h;cases hq:P.info? ty with
 | none=>simp [hq] at hi
 | some i =>
  have hs:v.cells.size=i.size:=by simp [hq] at hi;omega
  simp only [Instr.storeAt,Instr.sureAddr,Sem.run_bind,Sem.run_pure,Result.andThen_ok,storeVar,sizeOf,typeInfo];simp [hq,hs];rw [hs] at h;simpa using h
theorem Ry {P:Program} (ty:TypeId) {w:World} {B:Nat} {xs:Array Value} {t:TypeId} (hW:w.heap[B]? = some (.cells xs t)) (o n:Nat) (d:TypeDesc) (hu:P.underlying ty=some d)
 (hd:(match d with | .struct _ | .array _ _=>true | _=>false)=true) (hi:(P.info? ty).map (·.size)=some n) (hfit:Nat.ble (o+n) xs.size=true) (cs:List Value) (hcs:(xs.toList.drop o).take n=cs) :
 (Instr.loadAt ty (.pointer (some ⟨B,o,none⟩))).run P w=.ok (.agg cs.toArray) w:=by
 subst hcs;have hfit:=Nat.le_of_ble_eq_true hfit;have hlen:((xs.toList.drop o).take n).length=n:=by simp;omega
 have hl:(loadCells ⟨B,o,none⟩ ((xs.toList.drop o).take n).length).run P w=.ok ((xs.toList.drop o).take n).toArray w :=
  run_loadCells_list (P:=P) w ⟨B,o,none⟩ _ (fun j v hv=>by
   have hadd:(⟨B,o,none⟩:Addr).add j=⟨B,o+j,none⟩:=by unfold Addr.add;split <;> simp_all
   rw [hadd,cell_of_row w B (o+j) xs t (0,0) hW];rw [List.getElem?_take] at hv;split at hv
   ·simpa using hv
   ·cases hv)
 rw [hlen] at hl;cases hq:P.info? ty with
 | none=>simp [hq] at hi
 | some i =>
  have hs:i.size=n:=by simpa [hq] using hi
  have hagg:(isAgg ty).run P w=.ok true w:=by
   unfold isAgg;rw [Sem.run_bind,run_underlying hu w];cases d <;> simp_all
  simp [Instr.loadAt,Instr.sureAddr,loadVar,Sem.run_bind,hagg,sizeOf,typeInfo,hq,hs,hl]
theorem xO {w:World} {B:Nat} {xs:Array Value} {t:TypeId} (hW:w.heap[B]? = some (.cells xs t)):∀ o,w.cell? ⟨B,o,none⟩=xs[o]?:=by
 intro o;simp [World.cell?,hW]

end
section
def U8 (n:Int):Prop:=0≤n∧n<256
def qH (n:Int):Prop:=0≤n∧n<4294967296
def gZ (n:Int):Prop:=0≤n∧n<18446744073709551616
end
section
open Go Go.Conc
structure bJ where
 fg:Int
 fr:Int
 tg:Int
 tr:Int
 d:ByteArray
def bJ.cells (p:bJ):List Value:=[.int .u8 p.fg,.int .u8 p.fr,.int .u8 p.tg,.int .u8 p.tr,.string p.d]
def bJ.val (p:bJ):Value:=.agg #[.int .u8 p.fg,.int .u8 p.fr,.int .u8 p.tg,.int .u8 p.tr,.string p.d]
def flat (ps:List bJ):List Value:=ps.flatMap bJ.cells
theorem Xo (ps:List bJ):(flat ps).length=ps.length*5:=by
 induction ps with
 | nil=>rfl
 | cons p ps ih=>simp only [flat,List.flatMap_cons,List.length_append] at ih ⊢;rw [ih];simp [bJ.cells];omega
theorem flat_get:∀ {ps:List bJ} {i j:Nat} {p:bJ},ps[i]? = some p→j<5→(flat ps)[i*5+j]? = p.cells[j]?
 | [],_,_,_,h,_=>by simp at h
 | q::ps,0,j,p,h,hj=>by
  obtain rfl:q=p:=by simpa using h
  simp only [flat,List.flatMap_cons,Nat.zero_mul,Nat.zero_add];rw [List.getElem?_append_left (by simpa [bJ.cells] using hj)]
 | q::ps,i+1,j,p,h,hj=>by
  have:=flat_get (ps:=ps) (i:=i) (j:=j) (p:=p) (by simpa using h) hj;simp only [flat,List.flatMap_cons] at this ⊢;rw [List.getElem?_append_right (by simp [bJ.cells];omega),← this];congr 1
  simp [bJ.cells];omega
theorem aF {w w1:World} {base:Nat} {e:TypeId} {size:Nat} {v:Value} {n:Nat} {xs:List Value} (h:w.ownsRow base e size v n xs) (hg:∀ g,v.ownBlock=some g→w1.heap[g]? = w.heap[g]?):w1.ownsRow base e size v n xs:=by
 refine ⟨h.1,h.2.imp id ?_⟩;rintro ⟨g,cap,cur,rfl,h1,h2,h3⟩;exact ⟨g,cap,cur,rfl,h1,(hg g rfl).trans h2,h3⟩
def cl:Code→Code
 | .seq a _=>a
 | c=>c
def cr:Code→Code
 | .seq _ b=>b
 | c=>c
def cb:Code→Code
 | .block _ c=>c
 | .loop c=>c
 | c=>c
def co:Code→Array Oper
 | .region _ o _=>o
 | _=>#[]
noncomputable def c154:Code:=Tryz.f133.body.getD .skip
noncomputable def zL:Code:=cb (cb (cr (cl c154)))
noncomputable def Ie:List Item:=[.inLoop zL,.inBlock 0,.code (cr c154)]
noncomputable def MX:Array Oper:=co (cr (cb (cl (cr (cr zL)))))
noncomputable def Rz:List Item:=.inBlock 1::.code (cr (cr (cr zL)))::Ie
def vF (br pk:Nat) (sl:Value) (n:Nat) (i x5 j5 iG j6 kg kr dE:Value):Array Value:=#[.pointer (some ⟨br,0,none⟩),.chan (some pk),undef,undef,undef,x5,.pointer (some ⟨br,0,none⟩),.pointer (some ⟨br,0,none⟩),.pointer (some ⟨br,20,none⟩),sl,.int .i64 n,i,j5,iG,j6,kg,kr,dE,undef,undef,undef]
noncomputable def yQ (br pk:Nat) (rc:Array Value) (tR:TypeId) (sl:Value) (ps:List bJ) (cR:Frame) (cs1:List Frame):List Value→(Nat→Prop)→Goroutine→World→Prop
 | [],F,b,w=>b=G cR cs1∧F br∧w.heap[br]? = some (.cells (rc.setIfInBounds 20 (.slice none 0 0)) tR)∧∀ x,F x→x<w.heap.size
 | v::vs,F,b,w=>∃ i p x5 iG dE,ps[i]? = some p∧v=p.val∧vs=(ps.drop (i+1)).map bJ.val ∧
  b=G ((baseD 133).at ⟨vF br pk sl ps.length (.int .i64 i) x5 (.bool true) iG p.val (.chan (some pk)) p.val dE,[]⟩ (.inRegion MX [2]::Rz)) (cR::cs1) ∧
  F br∧w.heap[br]? = some (.cells rc tR)∧w.ownsRow 0 97 5 sl ps.length (flat ps)∧(∀ g,sl.ownBlock=some g→F g)∧∀ x,F x→x<w.heap.size
section
variable {br pk:Nat} {rc:Array Value} {tR:TypeId} {sl:Value} {ps:List bJ} {cR:Frame} {cs1:List Frame}
theorem yQ.rely {vs:List Value} {F:Nat→Prop} {b:Goroutine} {w w1:World} (h:yQ br pk rc tR sl ps cR cs1 vs F b w) (hr:aS F w w1):yQ br pk rc tR sl ps cR cs1 vs F b w1:=by
 cases vs with
 | nil=>exact ⟨h.1,h.2.1,(hr.own _ h.2.1).trans h.2.2.1,fun x hx=>Nat.lt_of_lt_of_le (h.2.2.2 x hx) hr.size⟩
 | cons v vs =>
  obtain ⟨i,p,x5,iG,dE,h1,h2,h3,h4,h5,h6,h7,h8,h9⟩:=h;exact ⟨i,p,x5,iG,dE,h1,h2,h3,h4,h5,(hr.own _ h5).trans h6,aF h7 fun g hg=>hr.own _ (h8 g hg),h8,fun x hx=>Nat.lt_of_lt_of_le (h9 x hx) hr.size⟩
end
section
variable {P:Program} {main:Bool} {Stop:(Nat→Prop)→Goroutine→World→Prop} {F:Nat→Prop} {w:World} {b:Frame} {a:Act} {k:List Item} {cs:List Frame} {ops:Array Oper} {i:Nat} {rest:List Nat} {o:Oper}
theorem pq {ρ:Operand→Value} {ty:TypeId} {x:Operand} (hop:o.op=.load ty x):execOp ρ o=(do pure (Next.value (← Instr.loadAt ty (ρ x)))):=by
 unfold execOp;rw [hop]
theorem xP {ρ:Operand→Value} {ty:TypeId} {x y:Operand} (hop:o.op=.store ty x y):execOp ρ o=(do Instr.storeAt ty (ρ x) (ρ y);pure Next.skip):=by
 unfold execOp;rw [hop]
theorem Ct {s:Sem Value} (w:World):(do pure (Next.value (← s)):Sem Next).events P w #[]=s.events P w #[]:=by
 rw [show (do pure (Next.value (← s)):Sem Next)=s >>= fun v=>pure (Next.value v) from rfl,Sem.events_bind];cases s.run P w <;> rfl
theorem Vw {s:Sem Unit} (w:World):(do s;pure Next.skip:Sem Next).events P w #[]=s.events P w #[]:=by
 rw [show (do s;pure Next.skip:Sem Next)=s >>= fun _=>pure Next.skip from rfl,Sem.events_bind];cases s.run P w <;> rfl
theorem aH.GX (ho:ops[i]? = some o) (hw:Region.wanted o (yielded ops a.tmps)=true) (hk:b.kind≠.early) (ty:TypeId) {x:Operand} (hop:o.op=.load ty x) {B off:Nat} (hx:a.eval x=.pointer (some ⟨B,off,none⟩)) (hB:F B) {xs:Array Value} {t:TypeId} (hW:w.heap[B]? = some (.cells xs t)) {d:TypeDesc} (hu:P.underlying ty=some d)
 (hd:(match d with | .struct _ | .array _ _=>true | _=>false)=true) {n:Nat} (hi:(P.info? ty).map (·.size)=some n) (hfit:off+n≤xs.size) (c:List Value) (hc:(xs.toList.drop off).take n=c)
 (h:aH P main Stop F (G (b.at (a.put o.dst (.agg c.toArray)) (.inRegion ops rest::k)) cs) w):aH P main Stop F (G (b.at a (.inRegion ops (i::rest)::k)) cs) w:=by
 refine aH.Uj ho hw hk (fun w1 h1 e he=>?_) (fun w1 h1=>?_) h
 ·have hW1:w1.heap[B]? = some (.cells xs t):=(h1.own B hB).trans hW
  rw [pq hop,hx,Ct] at he;obtain ⟨ad,e1,e2⟩:=DK ty hW1 off n d hu hd hi hfit e he;exact xN e1 (e2 ▸ hB)
 ·have hW1:w1.heap[B]? = some (.cells xs t):=(h1.own B hB).trans hW
  rw [pq hop,hx,Sem.run_bind,Ry ty hW1 off n d hu hd hi (Nat.ble_eq_true_of_le hfit) c hc];rfl
theorem aH.MZ (ho:ops[i]? = some o) (hw:Region.wanted o (yielded ops a.tmps)=true) (hk:b.kind≠.early) (ty:TypeId) {x:Operand} (hop:o.op=.load ty x) {B off:Nat} (hx:a.eval x=.pointer (some ⟨B,off,none⟩)) (hB:F B) {xs:Array Value} {t:TypeId} (hW:w.heap[B]? = some (.cells xs t)) {d:TypeDesc} (hu:P.underlying ty=some d)
 (hd:(match d with | .struct _ | .array _ _=>true | _=>false)=false) {v:Value} (hc:xs[off]? = some v)
 (h:aH P main Stop F (G (b.at (a.put o.dst v) (.inRegion ops rest::k)) cs) w):aH P main Stop F (G (b.at a (.inRegion ops (i::rest)::k)) cs) w:=by
 have key:∀ w1,aS F w w1→w1.cell? ⟨B,off,none⟩=some v:=fun w1 h1=>by
  have hW1:w1.heap[B]? = some (.cells xs t):=(h1.own B hB).trans hW;rw [xO hW1];exact hc
 have hagg:∀ w1,(isAgg ty).run P w1=.ok false w1:=fun w1=>by
  unfold isAgg;rw [Sem.run_bind,run_underlying hu w1];cases d <;> simp_all
 refine aH.Uj ho hw hk (fun w1 h1 e he=>?_) (fun w1 h1=>?_) h
 ·rw [pq hop,hx,Ct] at he
  simp only [Instr.loadAt,Instr.sureAddr,loadVar,Sem.events_bind,Sem.run_pure,Sem.events_pure,Result.evThen_ok,hagg,events_isAgg,Bool.false_eq_true,if_false] at he;rcases events_load_at w1 _ _ _ (key w1 h1) e he with h | ⟨h,_⟩
  ·simp at h
  ·exact xN h hB
 ·rw [pq hop,hx]
  simp [Instr.loadAt,Instr.sureAddr,loadVar,Sem.run_bind,hagg,key w1 h1]
theorem aH.DL (ho:ops[i]? = some o) (hw:Region.wanted o (yielded ops a.tmps)=true) (hk:b.kind≠.early) (ty:TypeId) {x y:Operand} (hop:o.op=.store ty x y) {B off:Nat} (hx:a.eval x=.pointer (some ⟨B,off,none⟩)) {v:Value} (hy:a.eval y=v) (hB:F B) {xs:Array Value} {t:TypeId} (hW:w.heap[B]? = some (.cells xs t))
 (hi:(P.info? ty).map (·.size)=some v.cells.size) (h1:v.cells.toList.all (·.oneCell')=true) (hfit:off+v.cells.size≤xs.size) (ys:List Value) (hys:xs.toList.take off++v.cells.toList++xs.toList.drop (off+v.cells.size)=ys)
 (h:∀ w1 w',aS F w w1→w'.heap[B]? = some (.cells ys.toArray t)→(∀ x,x≠B→w'.heap[x]? = w1.heap[x]?)→w'.heap.size=w1.heap.size→w'.os=w1.os→w'.output=w1.output→aH P main Stop F (G (b.at (a.put o.dst undef) (.inRegion ops rest::k)) cs) w'):aH P main Stop F (G (b.at a (.inRegion ops (i::rest)::k)) cs) w:=by
 subst hys;refine aH.Xm ho hw hk hB (fun w1 h2 e he=>?_) (ws:=fun w1=>w1.setRow B (xs.toList.take off++v.cells.toList++xs.toList.drop (off+v.cells.size)).toArray) (fun w1 h2=>?_) (fun w1=>?_) (fun w1 x hx=>?_) (fun w1=>⟨rfl,rfl⟩) (fun w1 h2=>?_)
 ·have hW1:w1.heap[B]? = some (.cells xs t):=(h2.own B hB).trans hW
  rw [xP hop,hx,hy,Vw] at he;obtain ⟨ad,e1,e2⟩:=Cs ty hW1 off v hi h1 hfit e he;exact xN e1 (e2 ▸ hB)
 ·have hW1:w1.heap[B]? = some (.cells xs t):=(h2.own B hB).trans hW
  rw [xP hop,hx,hy,Sem.run_bind,yP w1 B off ty t v xs hW1 hi h1 hfit];rfl
 ·exact (Only.setRow w1 B _).size
 ·exact (Only.setRow w1 B _).block x hx
 ·have hW1:w1.heap[B]? = some (.cells xs t):=(h2.own B hB).trans hW
  exact h w1 _ h2 (setRow_heap w1 B xs _ t (0,0) hW1) (fun x hx=>(Only.setRow w1 B _).block x hx) (Only.setRow w1 B _).size rfl rfl
end
theorem KR:Tryz.f133.body=some c154:=by
 unfold c154;rfl
theorem RA (x y:Value):Frame.enter Tryz.prog 133 #[x,y] .deferred=(baseD 133).at ⟨#[x,y,undef,undef,undef,undef,undef,undef,undef,undef,undef,undef,undef,undef,undef,undef,undef,undef,undef,undef,undef],[]⟩ [.code c154]:=by
 have h:=enter_atD (P:=Tryz.prog) #[x,y] Tryz.func133 KR;rw [show Tryz.f133.ntmps=21 from rfl] at h;rw [h];walk_nrm
section
variable {br pk:Nat} {rc:Array Value} {tR:TypeId} {sl:Value} {ps:List bJ} {cR:Frame} {cs1:List Frame}
theorem KS {F:Nat→Prop} {w:World} (hm:cR.mode=.returning) {i:Nat} (hi:i≤ps.length) (_hn:ps.length<1000000) {x5 j5 iG j6 kg kr dE:Value} (hF:F br) (hB:w.heap[br]? = some (.cells rc tR)) (hrc:20<rc.size) (ho:w.ownsRow 0 97 5 sl ps.length (flat ps)) (hg:∀ g,sl.ownBlock=some g→F g) (hin:∀ x,F x→x<w.heap.size) :
 aH Tryz.prog false (yQ br pk rc tR sl ps cR cs1 ((ps.drop i).map bJ.val)) F (G ((baseD 133).at ⟨vF br pk sl ps.length (.int .i64 i) x5 j5 iG j6 kg kr dE,[]⟩ (.code zL::Ie)) (cR::cs1)) w:=by
 unfold zL vF;simp only [c154,Tryz.f133,cl,cr,cb,Option.getD];refine aL.seq aJ ?_;refine aL.region aJ _ rfl ?_;simp [List.range,List.range.loop,-List.map_drop];refine aL.quiet aJ rfl rfl (by decide) _ (fun _=>by go_simp <;> rfl) (fun _=>by simp [go_sem, *]) ?_;simp [Act.put,-List.map_drop];refine aL.regionEnd aJ ?_;refine aL.seq aJ ?_;refine aL.cond aJ (decide (i<ps.length)) rfl ?_;by_cases hlt:i<ps.length
 ·simp only [hlt,decide_true,if_true]
  refine aL.skip aJ ?_;refine aL.seq aJ ?_;refine aL.block aJ ?_;refine aL.seq aJ ?_;refine aL.region aJ _ rfl ?_;simp [List.range,List.range.loop,-List.map_drop];obtain ⟨p,hp⟩:∃ p,ps[i]? = some p:=⟨_,List.getElem?_eq_getElem hlt⟩;obtain ⟨g,cap,cur,rfl,_,hgb,hnc,hcm,hcs,htk⟩:∃ g cap cur,sl=.slice (some ⟨g,0,none⟩) ps.length cap∧0≤g∧w.heap[g]? = some (.cells cur 97 (0,0))∧ps.length≤cap∧cap≤maxLen∧cur.size=cap*5∧cur.toList.take (ps.length*5)=flat ps:=by
   rcases ho.2 with ⟨_,h0⟩ | h
   ·omega
   ·exact h
  refine aL.quiet aJ rfl rfl (by decide) _ (fun _=>by go_simp <;> rfl) (fun _=>by simp [go_sem, *]) ?_;simp [Act.put,-List.map_drop];have hFg:F g:=hg g rfl;have hp5:(cur.toList.drop (i*5)).take 5=p.cells:=by
   have h1:∀ j,j<5→cur.toList[i*5+j]? = p.cells[j]?:=fun j hj=>by
    rw [← flat_get hp hj,← htk,List.getElem?_take];rw [if_pos (by omega)]
   refine List.ext_getElem? fun j=>?_
   rw [List.getElem?_take];split
   ·rw [List.getElem?_drop]
    exact h1 j (by assumption)
   ·rw [List.getElem?_eq_none (by simp [bJ.cells];omega)]
  refine aH.GX rfl rfl (by decide) 97 rfl rfl hFg hgb Tryz.underlying97 rfl (n:=5) (by kernel_rfl) (by rw [hcs];omega) p.cells hp5 ?_;simp [Act.put,-List.map_drop];refine aH.GV rfl rfl (by decide) (ob:=.cells #[.int .u8 0,.int .u8 0,.int .u8 0,.int .u8 0,.string ⟨#[]⟩] 97) (v:=fun n=>.pointer (some ⟨n,0,none⟩)) (fun w1=>by simp [go_sem]) (fun w1=>by go_simp) hin (fun w1 h1=>?_);simp [Act.put,-List.map_drop];refine aH.DL rfl rfl (by decide) 97 rfl rfl (v:=.agg p.cells.toArray) rfl (.inr rfl) (B:=w1.heap.size) (xs:=#[.int .u8 0,.int .u8 0,.int .u8 0,.int .u8 0,.string ⟨#[]⟩]) (t:=97) (iF w1 _) (by kernel_rfl) rfl (Nat.le_refl 5) p.cells rfl (fun w2 w3 h2 hb3 M0 RB Xp Xq=>?_);simp [Act.put,-List.map_drop];refine aL.regionEnd aJ ?_;refine aL.region aJ _ rfl ?_;simp [List.range,List.range.loop,-List.map_drop];refine aL.quiet aJ rfl rfl (by decide) _ (fun _=>by go_simp <;> rfl) (fun _=>by simp [go_sem, *]) ?_;simp [Act.put,-List.map_drop];refine aH.GX rfl rfl (by decide) 97 rfl rfl (.inr rfl) hb3 Tryz.underlying97 rfl (n:=5) (by kernel_rfl) (Nat.le_refl 5) p.cells rfl ?_;simp [Act.put,-List.map_drop];have hs2:w1.heap.size+1≤w2.heap.size:=by rw [← iy];exact h2.size
  have hold:∀ x,F x→w3.heap[x]? = w.heap[x]?:=fun x hx=>by
   have hx1:x<w1.heap.size:=Nat.lt_of_lt_of_le (hin x hx) h1.size;rw [M0 x (by omega),h2.own x (.inl hx),← h1.own x hx,alloc_old hx1]
  refine aH.stop fun w4 h4=>?_
  have hdr:ps.drop i=p::ps.drop (i+1):=by
   rw [List.drop_eq_getElem_cons hlt];congr 1
   rw [List.getElem?_eq_getElem hlt] at hp;exact Option.some.inj hp
  rw [hdr,List.map_cons];refine yQ.rely ?_ h4;exact ⟨i,p,_,_,_,hp,rfl,rfl,rfl,.inl hF,(hold br hF).trans hB,aF ho fun x hx=>hold x (hg x hx),fun x hx=>.inl (hg x hx),fun x hx=>hx.elim (fun hx=>by have:=hin x hx;have:=h1.size;omega) fun hx=>by omega⟩
 ·obtain rfl:i=ps.length:=by omega
  simp only [hlt,decide_false,Bool.false_eq_true,if_false];refine aL.exit aJ rfl ?_;simp only [c154,Tryz.f133,cr,Option.getD];refine aL.region aJ _ rfl ?_;simp [List.range,List.range.loop,-List.map_drop];refine aL.quiet aJ rfl rfl (by decide) _ (fun _=>by go_simp <;> rfl) (fun _=>by simp [go_sem, *]) ?_;simp [Act.put,-List.map_drop];refine aL.quiet aJ rfl rfl (by decide) _ (fun _=>by go_simp <;> rfl) (fun _=>by simp [go_sem, *]) ?_;simp [Act.put,-List.map_drop];refine aL.quiet aJ rfl rfl (by decide) _ (fun _=>by go_simp <;> rfl) (fun _=>by simp [go_sem, *]) ?_;simp [Act.put,-List.map_drop];refine aH.DL rfl rfl (by decide) 37 rfl rfl (v:=.slice none 0 0) rfl hF hB (by kernel_rfl) rfl hrc (rc.setIfInBounds 20 (.slice none 0 0)).toList ?_ (fun w1 w3 h1 hb3 M0 RB Xp Xq=>?_)
  ·rw [Array.toList_setIfInBounds,List.set_eq_take_append_cons_drop,if_pos (by simpa using hrc)]
   simp [Value.cells]
  ·refine aL.regionEnd aJ ?_
   refine aL.fin aJ ?_;refine aJ.go rfl (fun w=>stepG_leave_deferred (fn:=Tryz.f133) rfl rfl Tryz.func133 (results_none rfl _ _ _) (events_results_none rfl _ _) hm) ?_;refine aH.stop fun w4 h4=>?_
   refine yQ.rely ?_ h4;exact ⟨rfl,hF,hb3.trans (by rw [Array.toArray_toList]),fun x hx=>by have:=hin x hx;have:=h1.size;omega⟩
theorem RD {F:Nat→Prop} {w:World} (hm:cR.mode=.returning) (hn:ps.length<1000000) (hF:F br) (hB:w.heap[br]? = some (.cells rc tR)) (hrc:rc[20]? = some sl) (ho:w.ownsRow 0 97 5 sl ps.length (flat ps)) (hg:∀ g,sl.ownBlock=some g→F g) (hin:∀ x,F x→x<w.heap.size) :
 aH Tryz.prog false (yQ br pk rc tR sl ps cR cs1 (ps.map bJ.val)) F (G (Frame.enter Tryz.prog 133 #[.pointer (some ⟨br,0,none⟩),.chan (some pk)] .deferred) (cR::cs1)) w:=by
 have h20:20<rc.size:=(Array.getElem?_eq_some_iff.1 hrc).1;have hsl:∃ sa cap,sl=.slice sa ps.length cap:=by
  rcases ho.2 with ⟨h,h0⟩ | ⟨g,cap,cur,h,_⟩
  ·exact ⟨none,0,by rw [h,h0]⟩
  ·exact ⟨_,cap,h⟩
 obtain ⟨sa,cap,hsl⟩:=hsl;rw [RA];have hh:=KS (cs1:=cs1) (pk:=pk) (i:=0) (x5:=undef) (j5:=undef) (iG:=undef) (j6:=undef) (kg:=undef) (kr:=undef) (dE:=undef) hm (Nat.zero_le _) hn hF hB h20 ho hg hin;rw [List.drop_zero] at hh;unfold vF Ie zL at hh;simp only [c154,Tryz.f133,cl,cr,cb,Option.getD] at hh ⊢;refine aL.seq aJ ?_;refine aL.seq aJ ?_;refine aL.region aJ _ rfl ?_;simp [List.range,List.range.loop,-List.map_drop];refine aL.quiet aJ rfl rfl (by decide) _ (fun _=>by go_simp <;> rfl) (fun _=>by simp [go_sem, *]) ?_;simp [Act.put,-List.map_drop];refine aL.quiet aJ rfl rfl (by decide) _ (fun _=>by go_simp <;> rfl) (fun _=>by simp [go_sem, *]) ?_;simp [Act.put,-List.map_drop];refine aL.quiet aJ rfl rfl (by decide) _ (fun _=>by go_simp <;> rfl) (fun _=>by simp [go_sem, *]) ?_;simp [Act.put,-List.map_drop];refine aH.MZ rfl rfl (by decide) 37 rfl rfl hF hB Tryz.underlying37 rfl hrc ?_;simp [Act.put,-List.map_drop];subst hsl;refine aL.quiet aJ rfl rfl (by decide) _ (fun _=>by go_simp <;> rfl) (fun _=>by simp [go_sem, *]) ?_;simp [Act.put,-List.map_drop];refine aL.quiet aJ rfl rfl (by decide) _ (fun _=>by go_simp <;> rfl) (fun _=>by simp [go_sem, *]) ?_;simp [Act.put,-List.map_drop];refine aL.regionEnd aJ ?_;refine aL.block aJ ?_;refine aL.loop aJ ?_;exact hh
theorem Vx {F:Nat→Prop} {w:World} (hm:cR.mode=.returning) (hn:ps.length<1000000) (hrc:20<rc.size) {v:Value} {vs:List Value} {b:Goroutine} (h:yQ br pk rc tR sl ps cR cs1 (v::vs) F b w) :
 (∃ p:bJ,v=p.val)∧b.status=.running∧∃ B2 z,(∀ w,stepG Tryz.prog false b w=.comm B2 #[scase pk v z] true .send w #[])∧aH Tryz.prog false (yQ br pk rc tR sl ps cR cs1 vs) F (Go.Conc.served B2 undef) w:=by
 obtain ⟨i,p,x5,iG,dE,h1,rfl,rfl,rfl,h5,h6,h7,h8,h9⟩:=h;have hlt:i<ps.length:=(List.getElem?_eq_some_iff.1 h1).1;refine ⟨⟨p,rfl⟩,rfl,G ((baseD 133).at ⟨vF br pk sl ps.length (.int .i64 i) x5 (.bool true) iG p.val (.chan (some pk)) p.val dE,[]⟩ (.inRegion MX [2]::Rz)) (cR::cs1),.tuple #[],fun w=>?_,?_⟩
 ·unfold MX zL vF
  simp only [c154,Tryz.f133,cl,cr,cb,co,Option.getD];rw [stepG_comm rfl rfl (by decide) (cases:=#[scase pk p.val (.tuple #[])]) (blocking:=true) (shape:=.send) (w':=w) (by go_simp;rfl),listed_none (by simp [go_sem])]
 ·have hh:=KS (cs1:=cs1) (pk:=pk) (i:=i+1) (x5:=x5) (j5:=.bool true) (iG:=iG) (j6:=p.val) (kg:=.chan (some pk)) (kr:=p.val) (dE:=.int .i64 (i+1:Nat)) hm (by omega) hn h5 h6 hrc h7 h8 h9
  rw [OW];unfold vF Ie at hh;unfold Rz MX Ie vF;simp only [zL,c154,Tryz.f133,cl,cr,cb,co,Option.getD] at hh ⊢;simp [Act.put,-List.map_drop];refine aL.regionEnd aJ ?_;refine aL.inBlock aJ ?_;refine aL.region aJ _ rfl ?_;simp [List.range,List.range.loop,-List.map_drop];refine aL.quiet aJ rfl rfl (by decide) _ (fun _=>by go_simp <;> rfl) (fun _=>by simp [go_sem, *]) ?_;simp [Act.put,-List.map_drop];refine aL.quiet aJ rfl rfl (by decide) _ (fun _=>by go_simp <;> rfl) (fun _=>by simp [go_sem, *]) ?_;simp [Act.put,-List.map_drop];refine aL.regionEnd aJ ?_;refine aL.inLoop aJ ?_;have hwr:IntKind.i64.wrap ((i:Int)+1)=((i+1:Nat):Int):=by rw [IntKind.wrap_i64];omega
  rw [hwr];exact hh
end
end
end Go.Proofs.YtignemioillaiabGreat
