/- Lemmas. -/
import Derived.Test.YtignemioillaiabGreatG10
import Derived.Conc.EventLaws
namespace Go.Proofs.YtignemioillaiabGreat
set_option maxHeartbeats 8000000
set_option maxRecDepth 100000
open List
section
open Go.RowKit
structure Only(B:Nat)(w w':World):Prop where
 os:w'.os=w.os
 tape:w'.tape=w.tape
 output:w'.output=w.output
 size:w'.heap.size=w.heap.size
 block:∀k,k≠B->w'.heap[k]?=w.heap[k]?
theorem Only.setRow(w:World)(B:Nat)(cs:Array Value):Only B w (w.setRow B cs) :=
 ⟨rfl,rfl,rfl,size_setRow _ _ _,λk hk=>setRow_other w B k cs hk⟩
theorem Bc{P:Program}(w:World)(B o:Nat)(ty t:TypeId)(v:Value)(xs:Array Value)(hW:w.heap[B]?=some (.cells xs t))(hi:(P.info? ty).map (·.size)=some v.cells.size)
 (h1:v.cells.toList.all (·.oneCell')=true) (hfit:o+v.cells.size<=xs.size) :
 (Instr.storeAt ty (.pointer (some ⟨B,o,none⟩)) v).run P w=.ok () (w.setRow B (xs.toList.take o++v.cells.toList++xs.toList.drop (o+v.cells.size)).toArray):=by
 have h:=run_storeCells_at (P:=P) B o t v.cells.toList 0 xs w hW (by simpa using hfit) (λu hu=>all_eq_true.1 h1 u hu);simp only[Nat.add_zero,Array.length_toList]at h;cases hq:P.info? ty with
 |none=>simp[hq]at hi
 |some i =>
  have hs:v.cells.size=i.size:=by simp[hq]at hi;omega
  simp only[Instr.storeAt,Instr.sureAddr,Sem.run_bind,Sem.run_pure,Result.andThen_ok,storeVar,sizeOf,typeInfo];simp[hq,hs];rw[hs]at h;simpa using h
theorem VS{P:Program}(ty:TypeId){w:World}{B:Nat}{xs:Array Value}{t:TypeId}(hW:w.heap[B]?=some (.cells xs t))(o n:Nat)(d:TypeDesc)(hu:P.underlying ty=some d)
 (hd:(match d with | .struct _ | .array _ _=>true|_=>false)=true) (hi:(P.info? ty).map (·.size)=some n) (hfit:Nat.ble (o+n) xs.size=true) (cs:List Value) (hcs:(xs.toList.drop o).take n=cs) :
 (Instr.loadAt ty (.pointer (some ⟨B,o,none⟩))).run P w=.ok (.agg cs.toArray) w:=by
 subst hcs;have hfit:=Jc4 hfit;have hlen:((xs.toList.drop o).take n).length=n:=by simp;omega
 have hl:(loadCells ⟨B,o,none⟩ ((xs.toList.drop o).take n).length).run P w=.ok ((xs.toList.drop o).take n).toArray w :=
  run_loadCells_list (P:=P) w ⟨B,o,none⟩ _ (λj v hv=>by
   have hadd:(⟨B,o,none⟩:Addr).add j=⟨B,o+j,none⟩:=by unfold Addr.add;split<;>simp_all
   rw[hadd,cell_of_row w B (o+j) xs t (0,0) hW];rw[Jc5]at hv;split at hv
   .simpa using hv
   .cases hv)
 rw[hlen]at hl;cases hq:P.info? ty with
 |none=>simp[hq]at hi
 |some i =>
  have hs:i.size=n:=by simpa[hq]using hi
  have hagg:(isAgg ty).run P w=.ok true w:=by
   unfold isAgg;rw[Sem.run_bind,run_underlying hu w];cases d<;>simp_all
  simp[Instr.loadAt,Instr.sureAddr,loadVar,Sem.run_bind,hagg,sizeOf,typeInfo,hq,hs,hl]
theorem zQ{w:World}{B:Nat}{xs:Array Value}{t:TypeId}(hW:w.heap[B]?=some (.cells xs t)):∀o,w.cell? ⟨B,o,none⟩=xs[o]?:=by
 intro o;simp[World.cell?,hW]

end
section
def U8(n:Int):Prop:=0<=n/\n<256
def tq(n:Int):Prop:=0<=n/\n<4294967296
def iB(n:Int):Prop:=0<=n/\n<18446744073709551616
end
section
open Go Go.Conc
structure bF where
 fg:Int
 fr:Int
 tg:Int
 tr:Int
 d:ByteArray
def bF.cells(p:bF):List Value:=[.int .u8 p.fg,.int .u8 p.fr,.int .u8 p.tg,.int .u8 p.tr,.string p.d]
def bF.val(p:bF):Value:=.agg #[.int .u8 p.fg,.int .u8 p.fr,.int .u8 p.tg,.int .u8 p.tr,.string p.d]
def flat(ps:List bF):List Value:=ps.flatMap bF.cells
theorem aaZ(ps:List bF):(flat ps).length=ps.length*5:=by
 induction ps with
 |nil=>rfl
 |cons p ps ih=>simp only[flat,flatMap_cons,Jc6]at ih |-;rw[ih];simp[bF.cells];omega
theorem flat_get:∀{ps:List bF} {i j:Nat} {p:bF},ps[i]?=some p->j<5->(flat ps)[i*5+j]?=p.cells[j]?
 | [],_,_,_,h,_=>by simp at h
 |q::ps,0,j,p,h,hj=>by
  obtain rfl:q=p:=by simpa using h
  simp only[flat,flatMap_cons,Jc7,Jbh];rw[Jc8 (by simpa[bF.cells]using hj)]
 |q::ps,i+1,j,p,h,hj=>by
  have:=flat_get (ps:=ps) (i:=i) (j:=j) (p:=p) (by simpa using h) hj;simp only[flat,flatMap_cons]at this |-;rw[Jc9 (by simp[bF.cells];omega),<-this];congr 1
  simp[bF.cells];omega
theorem ax{w w1:World}{base:Nat}{e:TypeId}{size:Nat}{v:Value}{n:Nat}{xs:List Value}(h:w.ownsRow base e size v n xs)(hg:∀g,v.ownBlock=some g->w1.heap[g]?=w.heap[g]?):w1.ownsRow base e size v n xs:=by
 refine⟨h.1,h.2.imp id ?_⟩;rintro⟨g,cap,cur,rfl,h1,h2,h3⟩;exact⟨g,cap,cur,rfl,h1,(hg g rfl).trans h2,h3⟩
def cl:Code->Code
 |.seq a _=>a
 |c=>c
def cr:Code->Code
 |.seq _ b=>b
 |c=>c
def cb:Code->Code
 |.block _ c=>c
 |.loop c=>c
 |c=>c
def co:Code->Array Oper
 |.region _ o _=>o
 |_=>#[]
noncomputable def c154:Code:=Tryz.f133.body.getD .skip
noncomputable def BV:Code:=cb (cb (cr (cl c154)))
noncomputable def Lb:List Item:=[.inLoop BV,.inBlock 0,.code (cr c154)]
noncomputable def Qp:Array Oper:=co (cr (cb (cl (cr (cr BV)))))
noncomputable def VT:List Item:=.inBlock 1::.code (cr (cr (cr BV)))::Lb
def xE(br pk:Nat)(sl:Value)(n:Nat)(i x5 kZ jf lD lG lH dI:Value):Array Value:=#[.pointer (some ⟨br,0,none⟩),.chan (some pk),undef,undef,undef,x5,.pointer (some ⟨br,0,none⟩),.pointer (some ⟨br,0,none⟩),.pointer (some ⟨br,20,none⟩),sl,.int .i64 n,i,kZ,jf,lD,lG,lH,dI,undef,undef,undef]
noncomputable def Be(br pk:Nat)(rc:Array Value)(tR:TypeId)(sl:Value)(ps:List bF)(cR:Frame)(cs1:List Frame):List Value->(Nat->Prop)->Goroutine->World->Prop
 | [],F,b,w=>b=G cR cs1/\F br/\w.heap[br]?=some (.cells (rc.setIfInBounds 20 (.slice none 0 0)) tR)/\∀x,F x->x<w.heap.size
 |v::vs,F,b,w=>∃i p x5 jf dI,ps[i]?=some p/\v=p.val/\vs=(ps.drop (i+1)).map bF.val /\
  b=G ((baseD 133).at ⟨xE br pk sl ps.length (.int .i64 i) x5 (.bool true) jf p.val (.chan (some pk)) p.val dI,[]⟩ (.inRegion Qp [2]::VT)) (cR::cs1) /\
  F br/\w.heap[br]?=some (.cells rc tR)/\w.ownsRow 0 97 5 sl ps.length (flat ps)/\(∀g,sl.ownBlock=some g->F g)/\∀x,F x->x<w.heap.size
section
variable{br pk:Nat}{rc:Array Value}{tR:TypeId}{sl:Value}{ps:List bF}{cR:Frame}{cs1:List Frame}
theorem Be.rely{vs:List Value}{F:Nat->Prop}{b:Goroutine}{w w1:World}(h:Be br pk rc tR sl ps cR cs1 vs F b w)(hr:aO F w w1):Be br pk rc tR sl ps cR cs1 vs F b w1:=by
 cases vs with
 |nil=>exact⟨h.1,h.2.1,(hr.own _ h.2.1).trans h.2.2.1,λx hx=>Jbz (h.2.2.2 x hx) hr.size⟩
 |cons v vs =>
  obtain⟨i,p,x5,jf,dI,h1,h2,h3,h4,h5,h6,h7,h8,h9⟩:=h;exact⟨i,p,x5,jf,dI,h1,h2,h3,h4,h5,(hr.own _ h5).trans h6,ax h7 λg hg=>hr.own _ (h8 g hg),h8,λx hx=>Jbz (h9 x hx) hr.size⟩
end
section
variable{P:Program}{main:Bool}{Stop:(Nat->Prop)->Goroutine->World->Prop}{F:Nat->Prop}{w:World}{b:Frame}{a:Act}{k:List Item}{cs:List Frame}{ops:Array Oper}{i:Nat}{rest:List Nat}{o:Oper}
theorem qZ{ρ:Operand->Value}{ty:TypeId}{x:Operand}(hop:o.op=.load ty x):execOp ρ o=(do pure (Next.value (<-Instr.loadAt ty (ρ x)))):=by
 unfold execOp;rw[hop]
theorem zS{ρ:Operand->Value}{ty:TypeId}{x y:Operand}(hop:o.op=.store ty x y):execOp ρ o=(do Instr.storeAt ty (ρ x) (ρ y);pure Next.skip):=by
 unfold execOp;rw[hop]
theorem EN{s:Sem Value}(w:World):(do pure (Next.value (<-s)):Sem Next).events P w #[]=s.events P w #[]:=by
 rw[show(do pure (Next.value (<-s)):Sem Next)=s>>=λv=>pure (Next.value v)from rfl,Sem.events_bind];cases s.run P w<;>rfl
theorem Zj{s:Sem Unit}(w:World):(do s;pure Next.skip:Sem Next).events P w #[]=s.events P w #[]:=by
 rw[show(do s;pure Next.skip:Sem Next)=s>>=λ_=>pure Next.skip from rfl,Sem.events_bind];cases s.run P w<;>rfl
theorem aA.Kn(ho:ops[i]?=some o)(hw:Region.wanted o (yielded ops a.tmps)=true)(hk:b.kind≠.early)(ty:TypeId){x:Operand}(hop:o.op=.load ty x){B off:Nat}(hx:a.eval x=.pointer (some ⟨B,off,none⟩))(hB:F B){xs:Array Value}{t:TypeId}(hW:w.heap[B]?=some (.cells xs t)){d:TypeDesc}(hu:P.underlying ty=some d)
 (hd:(match d with | .struct _ | .array _ _=>true|_=>false)=true) {n:Nat} (hi:(P.info? ty).map (·.size)=some n) (hfit:off+n<=xs.size) (c:List Value) (hc:(xs.toList.drop off).take n=c)
 (h:aA P main Stop F (G (b.at (a.put o.dst (.agg c.toArray)) (.inRegion ops rest::k)) cs) w):aA P main Stop F (G (b.at a (.inRegion ops (i::rest)::k)) cs) w:=by
 refine aA.X8 ho hw hk (λw1 h1 e he=>?_) (λw1 h1=>?_) h
 .have hW1:w1.heap[B]?=some (.cells xs t):=(h1.own B hB).trans hW
  rw[qZ hop,hx,EN]at he;obtain⟨ad,e1,e2⟩:=Gg ty hW1 off n d hu hd hi hfit e he;exact zP e1 (e2▸hB)
 .have hW1:w1.heap[B]?=some (.cells xs t):=(h1.own B hB).trans hW
  rw[qZ hop,hx,Sem.run_bind,VS ty hW1 off n d hu hd hi (Jca hfit) c hc];rfl
theorem aA.Qq(ho:ops[i]?=some o)(hw:Region.wanted o (yielded ops a.tmps)=true)(hk:b.kind≠.early)(ty:TypeId){x:Operand}(hop:o.op=.load ty x){B off:Nat}(hx:a.eval x=.pointer (some ⟨B,off,none⟩))(hB:F B){xs:Array Value}{t:TypeId}(hW:w.heap[B]?=some (.cells xs t)){d:TypeDesc}(hu:P.underlying ty=some d)
 (hd:(match d with | .struct _ | .array _ _=>true|_=>false)=false) {v:Value} (hc:xs[off]?=some v)
 (h:aA P main Stop F (G (b.at (a.put o.dst v) (.inRegion ops rest::k)) cs) w):aA P main Stop F (G (b.at a (.inRegion ops (i::rest)::k)) cs) w:=by
 have key:∀w1,aO F w w1->w1.cell? ⟨B,off,none⟩=some v:=λw1 h1=>by
  have hW1:w1.heap[B]?=some (.cells xs t):=(h1.own B hB).trans hW;rw[zQ hW1];exact hc
 have hagg:∀w1,(isAgg ty).run P w1=.ok false w1:=λw1=>by
  unfold isAgg;rw[Sem.run_bind,run_underlying hu w1];cases d<;>simp_all
 refine aA.X8 ho hw hk (λw1 h1 e he=>?_) (λw1 h1=>?_) h
 .rw[qZ hop,hx,EN]at he
  simp only[Instr.loadAt,Instr.sureAddr,loadVar,Sem.events_bind,Sem.run_pure,Sem.events_pure,Result.evThen_ok,hagg,events_isAgg,Jb9,Jba]at he;rcases events_load_at w1 _ _ _ (key w1 h1) e he with h|⟨h,_⟩
  .simp at h
  .exact zP h hB
 .rw[qZ hop,hx]
  simp[Instr.loadAt,Instr.sureAddr,loadVar,Sem.run_bind,hagg,key w1 h1]
theorem aA.Gi(ho:ops[i]?=some o)(hw:Region.wanted o (yielded ops a.tmps)=true)(hk:b.kind≠.early)(ty:TypeId){x y:Operand}(hop:o.op=.store ty x y){B off:Nat}(hx:a.eval x=.pointer (some ⟨B,off,none⟩)){v:Value}(hy:a.eval y=v)(hB:F B){xs:Array Value}{t:TypeId}(hW:w.heap[B]?=some (.cells xs t))
 (hi:(P.info? ty).map (·.size)=some v.cells.size) (h1:v.cells.toList.all (·.oneCell')=true) (hfit:off+v.cells.size<=xs.size) (ys:List Value) (hys:xs.toList.take off++v.cells.toList++xs.toList.drop (off+v.cells.size)=ys)
 (h:∀w1 w',aO F w w1->w'.heap[B]?=some (.cells ys.toArray t)->(∀x,x≠B->w'.heap[x]?=w1.heap[x]?)->w'.heap.size=w1.heap.size->w'.os=w1.os->w'.output=w1.output->aA P main Stop F (G (b.at (a.put o.dst undef) (.inRegion ops rest::k)) cs) w'):aA P main Stop F (G (b.at a (.inRegion ops (i::rest)::k)) cs) w:=by
 subst hys;refine aA.aaX ho hw hk hB (λw1 h2 e he=>?_) (ws:=λw1=>w1.setRow B (xs.toList.take off++v.cells.toList++xs.toList.drop (off+v.cells.size)).toArray) (λw1 h2=>?_) (λw1=>?_) (λw1 x hx=>?_) (λw1=>⟨rfl,rfl⟩) (λw1 h2=>?_)
 .have hW1:w1.heap[B]?=some (.cells xs t):=(h2.own B hB).trans hW
  rw[zS hop,hx,hy,Zj]at he;obtain⟨ad,e1,e2⟩:=EM ty hW1 off v hi h1 hfit e he;exact zP e1 (e2▸hB)
 .have hW1:w1.heap[B]?=some (.cells xs t):=(h2.own B hB).trans hW
  rw[zS hop,hx,hy,Sem.run_bind,Bc w1 B off ty t v xs hW1 hi h1 hfit];rfl
 .exact(Only.setRow w1 B _).size
 .exact(Only.setRow w1 B _).block x hx
 .have hW1:w1.heap[B]?=some (.cells xs t):=(h2.own B hB).trans hW
  exact h w1 _ h2 (setRow_heap w1 B xs _ t (0,0) hW1) (λx hx=>(Only.setRow w1 B _).block x hx) (Only.setRow w1 B _).size rfl rfl
end
theorem Oy:Tryz.f133.body=some c154:=by
 unfold c154;rfl
theorem VU(x y:Value):Frame.enter Tryz.prog 133 #[x,y] .deferred=(baseD 133).at ⟨#[x,y,undef,undef,undef,undef,undef,undef,undef,undef,undef,undef,undef,undef,undef,undef,undef,undef,undef,undef,undef],[]⟩ [.code c154]:=by
 have h:=enter_atD (P:=Tryz.prog) #[x,y] Tryz.func133 Oy;rw[show Tryz.f133.ntmps=21 from rfl]at h;rw[h];walk_nrm
section
variable{br pk:Nat}{rc:Array Value}{tR:TypeId}{sl:Value}{ps:List bF}{cR:Frame}{cs1:List Frame}
theorem Oz{F:Nat->Prop}{w:World}(hm:cR.mode=.returning){i:Nat}(hi:i<=ps.length)(_hn:ps.length<1000000){x5 kZ jf lD lG lH dI:Value}(hF:F br)(hB:w.heap[br]?=some (.cells rc tR))(hrc:20<rc.size)(ho:w.ownsRow 0 97 5 sl ps.length (flat ps))(hg:∀g,sl.ownBlock=some g->F g)(hin:∀x,F x->x<w.heap.size) :
 aA Tryz.prog false (Be br pk rc tR sl ps cR cs1 ((ps.drop i).map bF.val)) F (G ((baseD 133).at ⟨xE br pk sl ps.length (.int .i64 i) x5 kZ jf lD lG lH dI,[]⟩ (.code BV::Lb)) (cR::cs1)) w:=by
 unfold BV xE;simp only[c154,Tryz.f133,cl,cr,cb,Option.getD];refine aH.seq aC ?_;refine aH.region aC _ rfl ?_;simp[List.range,List.range.loop,-List.map_drop];refine aH.quiet aC rfl rfl (by decide) _ (λ_=>by go_simp<;>rfl) (λ_=>by simp[go_sem, *]) ?_;simp[Act.put,-List.map_drop];refine aH.regionEnd aC ?_;refine aH.seq aC ?_;refine aH.cond aC (decide (i<ps.length)) rfl ?_;by_cases hlt:i<ps.length
 .simp only[hlt,decide_true,Jb8]
  refine aH.skip aC ?_;refine aH.seq aC ?_;refine aH.block aC ?_;refine aH.seq aC ?_;refine aH.region aC _ rfl ?_;simp[List.range,List.range.loop,-List.map_drop];obtain⟨p,hp⟩:∃p,ps[i]?=some p:=⟨_,Jcc hlt⟩;obtain⟨g,cap,cur,rfl,_,hgb,hnc,hcm,hcs,htk⟩:∃g cap cur,sl=.slice (some ⟨g,0,none⟩) ps.length cap/\0<=g/\w.heap[g]?=some (.cells cur 97 (0,0))/\ps.length<=cap/\cap<=maxLen/\cur.size=cap*5/\cur.toList.take (ps.length*5)=flat ps:=by
   rcases ho.2 with⟨_,h0⟩|h
   .omega
   .exact h
  refine aH.quiet aC rfl rfl (by decide) _ (λ_=>by go_simp<;>rfl) (λ_=>by simp[go_sem, *]) ?_;simp[Act.put,-List.map_drop];have hFg:F g:=hg g rfl;have hp5:(cur.toList.drop (i*5)).take 5=p.cells:=by
   have h1:∀j,j<5->cur.toList[i*5+j]?=p.cells[j]?:=λj hj=>by
    rw[<-flat_get hp hj,<-htk,Jc5];rw[Jb6 (by omega)]
   refine Jcd λj=>?_
   rw[Jc5];split
   .rw[Jcf]
    exact h1 j (by assumption)
   .rw[Jcg (by simp[bF.cells];omega)]
  refine aA.Kn rfl rfl (by decide) 97 rfl rfl hFg hgb Tryz.underlying97 rfl (n:=5) (by kernel_rfl) (by rw[hcs];omega) p.cells hp5 ?_;simp[Act.put,-List.map_drop];refine aA.Km rfl rfl (by decide) (ob:=.cells #[.int .u8 0,.int .u8 0,.int .u8 0,.int .u8 0,.string ⟨#[]⟩] 97) (v:=λn=>.pointer (some ⟨n,0,none⟩)) (λw1=>by simp[go_sem]) (λw1=>by go_simp) hin (λw1 h1=>?_);simp[Act.put,-List.map_drop];refine aA.Gi rfl rfl (by decide) 97 rfl rfl (v:=.agg p.cells.toArray) rfl (.inr rfl) (B:=w1.heap.size) (xs:=#[.int .u8 0,.int .u8 0,.int .u8 0,.int .u8 0,.string ⟨#[]⟩]) (t:=97) (je w1 _) (by kernel_rfl) rfl (Jb0 5) p.cells rfl (λw2 w3 h2 hb3 Qs VV aa0 aa1=>?_);simp[Act.put,-List.map_drop];refine aH.regionEnd aC ?_;refine aH.region aC _ rfl ?_;simp[List.range,List.range.loop,-List.map_drop];refine aH.quiet aC rfl rfl (by decide) _ (λ_=>by go_simp<;>rfl) (λ_=>by simp[go_sem, *]) ?_;simp[Act.put,-List.map_drop];refine aA.Kn rfl rfl (by decide) 97 rfl rfl (.inr rfl) hb3 Tryz.underlying97 rfl (n:=5) (by kernel_rfl) (Jb0 5) p.cells rfl ?_;simp[Act.put,-List.map_drop];have hs2:w1.heap.size+1<=w2.heap.size:=by rw[<-jJ];exact h2.size
  have hold:∀x,F x->w3.heap[x]?=w.heap[x]?:=λx hx=>by
   have hx1:x<w1.heap.size:=Jbz (hin x hx) h1.size;rw[Qs x (by omega),h2.own x (.inl hx),<-h1.own x hx,alloc_old hx1]
  refine aA.stop λw4 h4=>?_
  have hdr:ps.drop i=p::ps.drop (i+1):=by
   rw[Jch hlt];congr 1
   rw[Jcc hlt]at hp;exact Jbm hp
  rw[hdr,Jcj];refine Be.rely ?_ h4;exact⟨i,p,_,_,_,hp,rfl,rfl,rfl,.inl hF,(hold br hF).trans hB,ax ho λx hx=>hold x (hg x hx),λx hx=>.inl (hg x hx),λx hx=>hx.elim (λhx=>by have:=hin x hx;have:=h1.size;omega) λhx=>by omega⟩
 .obtain rfl:i=ps.length:=by omega
  simp only[hlt,decide_false,Jb9,Jba];refine aH.exit aC rfl ?_;simp only[c154,Tryz.f133,cr,Option.getD];refine aH.region aC _ rfl ?_;simp[List.range,List.range.loop,-List.map_drop];refine aH.quiet aC rfl rfl (by decide) _ (λ_=>by go_simp<;>rfl) (λ_=>by simp[go_sem, *]) ?_;simp[Act.put,-List.map_drop];refine aH.quiet aC rfl rfl (by decide) _ (λ_=>by go_simp<;>rfl) (λ_=>by simp[go_sem, *]) ?_;simp[Act.put,-List.map_drop];refine aH.quiet aC rfl rfl (by decide) _ (λ_=>by go_simp<;>rfl) (λ_=>by simp[go_sem, *]) ?_;simp[Act.put,-List.map_drop];refine aA.Gi rfl rfl (by decide) 37 rfl rfl (v:=.slice none 0 0) rfl hF hB (by kernel_rfl) rfl hrc (rc.setIfInBounds 20 (.slice none 0 0)).toList ?_ (λw1 w3 h1 hb3 Qs VV aa0 aa1=>?_)
  .rw[Array.toList_setIfInBounds,Jck,Jb6 (by simpa using hrc)]
   simp[Value.cells]
  .refine aH.regionEnd aC ?_
   refine aH.fin aC ?_;refine aC.go rfl (λw=>stepG_leave_deferred (fn:=Tryz.f133) rfl rfl Tryz.func133 (results_none rfl _ _ _) (events_results_none rfl _ _) hm) ?_;refine aA.stop λw4 h4=>?_
   refine Be.rely ?_ h4;exact⟨rfl,hF,hb3.trans (by rw[Array.toArray_toList]),λx hx=>by have:=hin x hx;have:=h1.size;omega⟩
theorem VW{F:Nat->Prop}{w:World}(hm:cR.mode=.returning)(hn:ps.length<1000000)(hF:F br)(hB:w.heap[br]?=some (.cells rc tR))(hrc:rc[20]?=some sl)(ho:w.ownsRow 0 97 5 sl ps.length (flat ps))(hg:∀g,sl.ownBlock=some g->F g)(hin:∀x,F x->x<w.heap.size) :
 aA Tryz.prog false (Be br pk rc tR sl ps cR cs1 (ps.map bF.val)) F (G (Frame.enter Tryz.prog 133 #[.pointer (some ⟨br,0,none⟩),.chan (some pk)] .deferred) (cR::cs1)) w:=by
 have h20:20<rc.size:=(Jbd.1 hrc).1;have hsl:∃sa cap,sl=.slice sa ps.length cap:=by
  rcases ho.2 with⟨h,h0⟩|⟨g,cap,cur,h,_⟩
  .exact⟨none,0,by rw[h,h0]⟩
  .exact⟨_,cap,h⟩
 obtain⟨sa,cap,hsl⟩:=hsl;rw[VU];have hh:=Oz (cs1:=cs1) (pk:=pk) (i:=0) (x5:=undef) (kZ:=undef) (jf:=undef) (lD:=undef) (lG:=undef) (lH:=undef) (dI:=undef) hm (Jcm _) hn hF hB h20 ho hg hin;rw[drop_zero]at hh;unfold xE Lb BV at hh;simp only[c154,Tryz.f133,cl,cr,cb,Option.getD]at hh |-;refine aH.seq aC ?_;refine aH.seq aC ?_;refine aH.region aC _ rfl ?_;simp[List.range,List.range.loop,-List.map_drop];refine aH.quiet aC rfl rfl (by decide) _ (λ_=>by go_simp<;>rfl) (λ_=>by simp[go_sem, *]) ?_;simp[Act.put,-List.map_drop];refine aH.quiet aC rfl rfl (by decide) _ (λ_=>by go_simp<;>rfl) (λ_=>by simp[go_sem, *]) ?_;simp[Act.put,-List.map_drop];refine aH.quiet aC rfl rfl (by decide) _ (λ_=>by go_simp<;>rfl) (λ_=>by simp[go_sem, *]) ?_;simp[Act.put,-List.map_drop];refine aA.Qq rfl rfl (by decide) 37 rfl rfl hF hB Tryz.underlying37 rfl hrc ?_;simp[Act.put,-List.map_drop];subst hsl;refine aH.quiet aC rfl rfl (by decide) _ (λ_=>by go_simp<;>rfl) (λ_=>by simp[go_sem, *]) ?_;simp[Act.put,-List.map_drop];refine aH.quiet aC rfl rfl (by decide) _ (λ_=>by go_simp<;>rfl) (λ_=>by simp[go_sem, *]) ?_;simp[Act.put,-List.map_drop];refine aH.regionEnd aC ?_;refine aH.block aC ?_;refine aH.loop aC ?_;exact hh
theorem Zk{F:Nat->Prop}{w:World}(hm:cR.mode=.returning)(hn:ps.length<1000000)(hrc:20<rc.size){v:Value}{vs:List Value}{b:Goroutine}(h:Be br pk rc tR sl ps cR cs1 (v::vs) F b w) :
 (∃p:bF,v=p.val)/\b.status=.running/\∃B2 z,(∀w,stepG Tryz.prog false b w=.comm B2 #[scase pk v z] true .send w #[])/\aA Tryz.prog false (Be br pk rc tR sl ps cR cs1 vs) F (Go.Conc.served B2 undef) w:=by
 obtain⟨i,p,x5,jf,dI,h1,rfl,rfl,rfl,h5,h6,h7,h8,h9⟩:=h;have hlt:i<ps.length:=(Jcn.1 h1).1;refine⟨⟨p,rfl⟩,rfl,G ((baseD 133).at ⟨xE br pk sl ps.length (.int .i64 i) x5 (.bool true) jf p.val (.chan (some pk)) p.val dI,[]⟩ (.inRegion Qp [2]::VT)) (cR::cs1),.tuple #[],λw=>?_,?_⟩
 .unfold Qp BV xE
  simp only[c154,Tryz.f133,cl,cr,cb,co,Option.getD];rw[stepG_comm rfl rfl (by decide) (cases:=#[scase pk p.val (.tuple #[])]) (blocking:=true) (shape:=.send) (w':=w) (by go_simp;rfl),listed_none (by simp[go_sem])]
 .have hh:=Oz (cs1:=cs1) (pk:=pk) (i:=i+1) (x5:=x5) (kZ:=.bool true) (jf:=jf) (lD:=p.val) (lG:=.chan (some pk)) (lH:=p.val) (dI:=.int .i64 (i+1:Nat)) hm (by omega) hn h5 h6 hrc h7 h8 h9
  rw[SH];unfold xE Lb at hh;unfold VT Qp Lb xE;simp only[BV,c154,Tryz.f133,cl,cr,cb,co,Option.getD]at hh |-;simp[Act.put,-List.map_drop];refine aH.regionEnd aC ?_;refine aH.inBlock aC ?_;refine aH.region aC _ rfl ?_;simp[List.range,List.range.loop,-List.map_drop];refine aH.quiet aC rfl rfl (by decide) _ (λ_=>by go_simp<;>rfl) (λ_=>by simp[go_sem, *]) ?_;simp[Act.put,-List.map_drop];refine aH.quiet aC rfl rfl (by decide) _ (λ_=>by go_simp<;>rfl) (λ_=>by simp[go_sem, *]) ?_;simp[Act.put,-List.map_drop];refine aH.regionEnd aC ?_;refine aH.inLoop aC ?_;have hwr:IntKind.i64.wrap ((i:Int)+1)=((i+1:Nat):Int):=by rw[IntKind.wrap_i64];omega
  rw[hwr];exact hh
end
section
variable{P:Program}{main:Bool}{X:Goroutine->World->Prop}{b:Frame}{a:Act}{k:List Item}{cs:List Frame}{w:World}
theorem aH.defer(hX:aH P main X){ops:Array Oper}{i:Nat}{rest:List Nat}{o:Oper}(ho:ops[i]?=some o)(hw:Region.wanted o (yielded ops a.tmps)=true)(hk:b.kind≠.early)(d:Deferred)(hr:∀w,(execOp a.eval o).run P w=.ok (.defer d) w)(he:∀w,(execOp a.eval o).events P w #[]=#[])
 (h:X (G (b.at (Act.put ⟨a.tmps,d::a.defers⟩ o.dst undef) (.inRegion ops rest::k)) cs) w):X (G (b.at a (.inRegion ops (i::rest)::k)) cs) w:=by
 refine hX.go rfl (λw₁=>?_) h;have hfin:(b.at ⟨a.tmps,d::a.defers⟩ (.inRegion ops (i::rest)::k)).finish undef=b.at (Act.put ⟨a.tmps,d::a.defers⟩ o.dst undef) (.inRegion ops rest::k):=by rw[Frame.finish_at,ho];rfl
 have hk':(b.kind==CallKind.early)=false:=by simpa using hk
 rw[stepG_oper ho hw,<-hfin];simp[stepG.apply,hr,he,G,Frame.at,hk',GStep.after,seen_none]
theorem aH.call(hX:aH P main X){ops:Array Oper}{i:Nat}{rest:List Nat}{o:Oper}{f:FuncId}{fn:Func}{args:Array Operand}{ats:Array TypeId}(ho:ops[i]?=some o)(hw:Region.wanted o (yielded ops a.tmps)=true)(hk:b.kind≠.early)(hop:o.op=.call {callee:=.value (.func f),args,argTypes:=ats})
 (hf : P.funcs[f]? = some fn) (hname : (fn.name == "runtime.NumGoroutine") = false) (hb : fn.body.isNone = false) (h : X (G (Frame.enter P f (args.map a.eval) .normal) (b.at a (.inRegion ops (i :: rest) :: k) :: cs)) w) : X (G (b.at a (.inRegion ops (i :: rest) :: k)) cs) w :=
 aH.enter hX ho hw hk (λ_=>run_call_body hop hf hname hb) (λ_=>events_call_body hop hf hname hb #[]) h
theorem aH.unwind (hX : aH P main X) {todo : List Item} {ds : List Deferred} {f : FuncId} {fn : Func} {c : Code} {args : Array Value} (hd : a.defers = dcall f args :: ds) (hf : P.funcs[f]? = some fn) (hname : (fn.name == "runtime.NumGoroutine") = false) (hb : fn.body = some c)
 (h:X (G (Frame.enter P f args .deferred) ({b.at ⟨a.tmps,ds⟩ todo with mode:=.returning}::cs)) w):X (G {b.at a todo with mode:=.returning} cs) w :=
 hX.go rfl (λ_=>by rw[enter_atD args hf hb];exact stepG_unwind_enter hd hf hname hb) h
end
def gU(P:Program)(f:FuncId)(args:Array Value)(w:World)(Post:Value->World->Prop):Prop :=
 ∀(main:Bool) (D:World->World->Array Event->Prop) (X:Goroutine->World->Prop) (cs:List Frame),Shut P main D X->(∀fr v w',fr.fn=f->fr.leaving P w' (.returned v)->Post v w'->X (G fr cs) w')->X (G (Frame.enter P f args .normal) cs) w
def Qt(P:Program)(f:FuncId)(c:Code)(a:Act)(w:World)(Post:Act->World->Prop):Prop :=
 ∀(main:Bool) (D:World->World->Array Event->Prop) (X:Goroutine->World->Prop) (b:Frame) (cs:List Frame),Shut P main D X->b.fn=f->b.kind≠.early->(∀a' todo w',a'.defers=[]->Post a' w'->X (G {b.at a' todo with mode:=.returning} cs) w')->X (G (b.at a [.code c]) cs) w
section
variable{P:Program}{main:Bool}{D:World->World->Array Event->Prop}{X:Goroutine->World->Prop}{w:World}{cs:List Frame}
theorem Lc{fr:Frame}{v:Value}{w w':World}(h:fr.leaving P w (.returned v))(hs:cO w w'):fr.leaving P w' (.returned v):=by
 obtain⟨l1,l2,l3,fn,l4,l5⟩:=h;exact⟨l1,l2,l3,fn,l4,Ki fn fr.tmps hs.heap hs.os hs.out l5⟩
theorem Shut.back(hX:Shut P main D X){fr c:Frame}{v:Value}(hl:fr.leaving P w (.returned v))(h:X (G (c.finish v) cs) w):X (G fr (c::cs)) w:=by
 refine hX.step rfl λw₁ h1=>?_
 obtain⟨hm,hd,hk,fn,hfn,hr⟩:=Lc hl h1;have hr':((results fn fr.tmps).runT P w₁ #[]).1=.ok v w₁:=by rw[Sem.runT_fst];exact hr
 have hst:stepG P main (G fr (c::cs)) w₁=.go (G (c.finish v) cs) w₁ (seen P fr.fn ((results fn fr.tmps).runT P w₁ #[]).2++#[]):=by
  simp only[G,stepG,unwind,doReturn,hm,hd,hk,hfn,hr'];rfl
 rw[hst,goes_go];refine⟨hX.plain ⟨λe he=>?_,gp.refl _⟩,hX.rely h1 h⟩;have h2:=(FZ (Q:=λ_=>True) P (results fn fr.tmps) w₁ #[] (FY (kn:=[]) fn fr.tmps) (by
  have:=iw.bind (Q:=λ_=>True) (f:=λv=>(pure v:Sem Value)) (λ_=>trivial) (results fn fr.tmps);rwa [bind_pure]at this)).2 (by simp)
 exact h2 e (wK _ _ _ e (by simpa using he))
end
def Bf(th:Nat):Deferred:={target:=.builtin .close #[243] 0 #[false],args:=#[.chan (some th)]}
def jk(P:Program):Frame:={ (default:Frame)with fn:=P.funcs.size,defers:=[],mode:=.panicking [goexitEntry]}
theorem Qu{P:Program}{main:Bool}{b:Frame}{tm:Array Value}{todo:List Item}{cs:List Frame}{th kt:Nat}(hq:(P.funcs[b.fn]?).any (·.norace)=false)(w:World)(h:w.heap[th]?=some (.chan 0 #[] false kt kt false)) :
 stepG P main (G {b.at ⟨tm,[Bf th]⟩ todo with mode:=.returning} cs) w=.go (G {b.at ⟨tm,[]⟩ todo with mode:=.returning} cs) {w with heap:=w.heap.setIfInBounds th (.chan 0 #[] true kt kt false)} #[⟨.obj th,false,true⟩,⟨.obj th,true,true⟩]:=by
 have hr:(builtin .close #[243] 0 #[false] #[.chan (some th)]).run P w=.ok (.value (.tuple #[])) {w with heap:=w.heap.setIfInBounds th (.chan 0 #[] true kt kt false)}:=by
  simp[builtin,run_close_open _ _ h]
 have he:(builtin .close #[243] 0 #[false] #[.chan (some th)]).events P w #[]=#[⟨.obj th,false,true⟩,⟨.obj th,true,true⟩]:=by
  simp[builtin,events_close_open _ _ h]
 have hs:seen P b.fn #[⟨.obj th,false,true⟩,⟨.obj th,true,true⟩]=#[⟨.obj th,false,true⟩,⟨.obj th,true,true⟩]:=by
  unfold seen;simp[hq]
 simp[G,stepG,unwind,callDeferred,Frame.at,Bf,invoke,hr,he,hs,GStep.after]
theorem Ld{P:Program}{tm:Array Value}{todo:List Item}{f:FuncId}{fn:Func}(hf:P.funcs[f]?=some fn)(hr:fn.results=#[]):QuitsD P 2 0 (G { (baseD f).at ⟨tm,[]⟩ todo with mode:=.returning} [jk P]):=by
 refine QuitsD.ctl rfl (g':=G (jk P) []) (λw=>?_) ?_
 .have h1:=results_none hr tm P w
  have h2:=events_results_none (w:=w) (P:=P) hr tm #[];simp[G,stepG,unwind,doReturn,Frame.at,baseD,hf,h1,h2,GStep.after,seen_none,jk,goexitEntry]
 .refine QuitsD.ctl rfl (g':={G (jk P) []with status:=.finished}) (λw=>?_) ⟨rfl,rfl⟩
  have hc:Frame.catches P (jk P)=false:=by
   unfold Frame.catches jk;simp;rfl
  simp only[G,stepG,unwind,jk]at hc |-;simp only[hc,Jb9,Jba];rfl
theorem SI {P : Program} {main : Bool} {f : FuncId} {fn : Func} {c : Code} (args : Array Value) (hf : P.funcs[f]? = some fn) (hname : (fn.name == "runtime.NumGoroutine") = false) (hb : fn.body = some c) (w : World) :
 stepG P main (born P (dcall f args)) w=.go (G (Frame.enter P f args .deferred) [jk P]) w #[]:=by
 have h1 : ¬ fn.name = "runtime.NumGoroutine" := by simpa using hname
 simp[born,G,stepG,unwind,callDeferred,dcall,invoke,callFunc,hf,h1,hb,GStep.after,seen_none,jk]
theorem BX {P : Program} {w : World} {a : Act} {o : Oper} {x : Operand} {f : FuncId} {fst cap : Array Value} {fn : Func} (hop : o.op = .call { callee := .value x, args := #[], argTypes := #[] }) (hx : a.eval x = .func (.func f) fst cap) (hf : P.funcs[f]? = some fn) (hname : (fn.name == "runtime.NumGoroutine") = false) (hb : fn.body.isNone = false) :
 (execOp a.eval o).run P w=.ok (.enter f (fst++cap)) w/\(execOp a.eval o).events P w #[]=#[]:=by
 have h1 : ¬ fn.name = "runtime.NumGoroutine" := by simpa using hname
 have h2:¬fn.body=none:=by cases hx:fn.body<;>simp_all
 constructor<;>(unfold execOp;simp[hop,resolve,Deferred.ofValue,invoke,callFunc,hf,h1,h2,hx])
noncomputable def Iz:Code:=Tryz.f77.body.getD .skip
noncomputable def VX:Array Oper:=co (cr (cr (cr Iz)))
theorem OA:Tryz.f77.body=some Iz:=by
 unfold Iz;rfl
theorem VY(x y z u:Value):Frame.enter Tryz.prog 77 #[x,y,z,u] .deferred=(baseD 77).at ⟨#[x,y,z,u,undef,undef,undef,undef,undef,undef,undef,undef,undef,undef],[]⟩ [.code Iz]:=by
 have h:=enter_atD (P:=Tryz.prog) #[x,y,z,u] Tryz.func77 OA;rw[show Tryz.f77.ntmps=14 from rfl]at h;rw[h];walk_nrm
def zT(r wk:Value)(pk th:Nat)(x:Value):Array Value:=#[r,wk,.chan (some pk),.chan (some th),undef,undef,undef,undef,.chan (some th),r,.chan (some pk),r,wk,x]
noncomputable def Qv(r wk:Value)(pk th:Nat):Frame:=(baseD 77).at ⟨zT r wk pk th undef,[dcall 134 #[r],dcall 133 #[r,.chan (some pk)],Bf th]⟩ [.inRegion VX [1]]
def um(r wk:Value)(pk th:Nat)(x:Value)(ds:List Deferred):Frame:={ (baseD 77).at ⟨zT r wk pk th x,ds⟩ []with mode:=.returning}
section
variable{D:World->World->Array Event->Prop}{X:Goroutine->World->Prop}{w:World}{r:Value}{pk th:Nat}
theorem Kj (hX : Shut Tryz.prog false D X) {f : FuncId} {fst cap : Array Value} {fn : Func} (hf : Tryz.prog.funcs[f]? = some fn) (hname : (fn.name == "runtime.NumGoroutine") = false) (hb : fn.body.isNone = false)
 (h:X (G (Frame.enter Tryz.prog f (fst++cap) .normal) [Qv r (.func (.func f) fst cap) pk th,jk Tryz.prog]) w):X (born Tryz.prog (dcall 77 #[r,.func (.func f) fst cap,.chan (some pk),.chan (some th)])) w:=by
 refine hX.c.go rfl (λw=>SI _ Tryz.func77 (by kernel_rfl) OA w) ?_;rw[VY];unfold Qv zT VX at h;simp only[Iz,Tryz.f77,cr,co,Option.getD]at h |-;refine aH.seq hX.c ?_;refine aH.region hX.c _ rfl ?_;simp[List.range,List.range.loop];refine aH.quiet hX.c rfl rfl (by decide) _ (λ_=>by go_simp<;>rfl) (λ_=>by simp[go_sem, *]) ?_;simp[Act.put];refine aH.defer hX.c rfl rfl (by decide) (Bf th) (λ_=>by go_simp;rfl) (λ_=>by simp[go_sem]) ?_;simp[Act.put];refine aH.regionEnd hX.c ?_;refine aH.seq hX.c ?_;refine aH.region hX.c _ rfl ?_;simp[List.range,List.range.loop];refine aH.quiet hX.c rfl rfl (by decide) _ (λ_=>by go_simp<;>rfl) (λ_=>by simp[go_sem, *]) ?_;simp[Act.put];refine aH.quiet hX.c rfl rfl (by decide) _ (λ_=>by go_simp<;>rfl) (λ_=>by simp[go_sem, *]) ?_;simp[Act.put];refine aH.defer hX.c rfl rfl (by decide) (dcall 133 #[r,.chan (some pk)]) (λ_=>by go_simp;rfl) (λ_=>by simp[go_sem]) ?_;simp[Act.put];refine aH.regionEnd hX.c ?_;refine aH.seq hX.c ?_;refine aH.region hX.c _ rfl ?_;simp[List.range,List.range.loop];refine aH.quiet hX.c rfl rfl (by decide) _ (λ_=>by go_simp<;>rfl) (λ_=>by simp[go_sem, *]) ?_;simp[Act.put];refine aH.defer hX.c rfl rfl (by decide) (dcall 134 #[r]) (λ_=>by go_simp;rfl) (λ_=>by simp[go_sem]) ?_;simp[Act.put];refine aH.regionEnd hX.c ?_;refine aH.region hX.c _ rfl ?_;simp[List.range,List.range.loop];refine aH.quiet hX.c rfl rfl (by decide) _ (λ_=>by go_simp<;>rfl) (λ_=>by simp[go_sem, *]) ?_;simp[Act.put];refine aH.enter hX.c rfl rfl (by decide) (λw=>(BX rfl rfl hf hname hb).1) (λw=>(BX rfl rfl hf hname hb).2) ?_;exact h
theorem Kk(hX:Shut Tryz.prog false D X){wk v:Value}(h:X (G (Frame.enter Tryz.prog 134 #[r] .deferred) [um r wk pk th v [dcall 133 #[r,.chan (some pk)],Bf th],jk Tryz.prog]) w):X (G ((Qv r wk pk th).finish v) [jk Tryz.prog]) w:=by
 unfold Qv zT VX;rw[Frame.finish_at];unfold um zT at h;simp only[Iz,Tryz.f77,cr,co,Option.getD];simp[Act.put];refine aH.regionEnd hX.c ?_;refine aH.fin hX.c ?_;exact aH.unwind hX.c rfl Tryz.func134 (c:=Tryz.f134.body.getD .skip) (by kernel_rfl) rfl h
theorem Le(hX:Shut Tryz.prog false D X){wk v:Value}(h:X (G (Frame.enter Tryz.prog 133 #[r,.chan (some pk)] .deferred) [um r wk pk th v [Bf th],jk Tryz.prog]) w):X (G (um r wk pk th v [dcall 133 #[r,.chan (some pk)],Bf th]) [jk Tryz.prog]) w:=by
 unfold um zT at h |-;exact aH.unwind hX.c rfl Tryz.func133 (by kernel_rfl) Oy h
end
end
