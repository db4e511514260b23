/- Lemmas. -/
import Derived.Test.YtignemioillaiaaGreatG16
namespace Go.Proofs.YtignemioillaiaaGreat
set_option maxHeartbeats 8000000
set_option maxRecDepth 100000
open List
section
open Go Go.Conc
def aeT:TypeDesc->Bool
 |.struct _=>true
 |.array _ _=>true
 |_=>false
theorem Uq.shape{P:Program}{T:iY}{t:Nat}{x:Ty}{i:TypeInfo}{d:TypeDesc}(h:Uq P T t x i d):aeT d=kI x:=by
 have hk:=h.kind;cases x<;>simp only[Wj]at hk
 ·rw[Bc hk];rfl
 ·rw[JX hk];rfl
 ·rw[za hk];rfl
 ·obtain⟨_,rfl⟩:=O3 hk;rfl
 ·obtain⟨_,_,_,rfl⟩:=Zt hk;rfl
 ·rw[nN hk];rfl
 ·rw[Ur hk];rfl
 ·obtain⟨_,rfl,_⟩:=JY hk;rfl
theorem qi{T:iY}{t:Nat}{x:Ty}(hx:T.get t=some x):(zv T t x).cells=(zc T t).toArray:=by
 unfold zv;cases hs:kI x with
 |true=>rfl
 |false =>
  have:∃v,zc T t=[v]/\one v=true:=by
   unfold zc Wi;rw[hx];cases x<;>first|exact⟨_,rfl,rfl⟩|cases hs
  obtain⟨v,hv,h1⟩:=this;rw[hv];cases v<;>first|rfl|cases h1
section
variable{P:Program}
theorem E9{a:Act}{o:Oper}{w:World}(ty:TypeId){x:Operand}(hop:o.op=.load ty x){B off:Nat}(hx:a.eval x=.pointer (some ⟨B,off,none⟩)){xs:Array Value}{t:TypeId}{fr:Nat×Nat}(hW:w.heap[B]? = some (.cells xs t fr)){d:TypeDesc}(hu:P.underlying ty=some d)
 (hd:(match d with | .struct _ | .array _ _=>true|_=>false)=false) {v:Value} (hc:xs[off]? = some v):(execOp a.eval o).run P w=.ok (.value v) w:=by
 have hcell:w.cell? ⟨B,off,none⟩=some v:=by rw[cell_of_row w B off xs t fr hW];exact hc
 have hagg:(isAgg ty).run P w=.ok false w:=by
  unfold isAgg;rw[Sem.run_bind,run_underlying hu w];cases d<;>simp_all
 rw[qC hop,hx];simp[Instr.loadAt,Instr.sureAddr,loadVar,Sem.run_bind,hagg,hcell]
theorem Fa{a:Act}{o:Oper}{w:World}(ty:TypeId){x:Operand}(hop:o.op=.load ty x){B off:Nat}(hx:a.eval x=.pointer (some ⟨B,off,none⟩)){xs:Array Value}{t:TypeId}{fr:Nat×Nat}(hW:w.heap[B]? = some (.cells xs t fr)){d:TypeDesc}(hu:P.underlying ty=some d)
 (hd:(match d with | .struct _ | .array _ _=>true|_=>false)=true) {n:Nat} (hi:(P.info? ty).map (·.size)=some n) (hfit:Nat.ble (off+n) xs.size=true) (c:List Value) (hc:(xs.toList.drop off).take n=c):(execOp a.eval o).run P w=.ok (.value (.agg c.toArray)) w:=by
 subst hc;have hfit:=Nat.le_of_ble_eq_true hfit;have hlen:((xs.toList.drop off).take n).length=n:=by simp;omega
 have hl:(loadCells ⟨B,off,none⟩ ((xs.toList.drop off).take n).length).run P w=.ok ((xs.toList.drop off).take n).toArray w :=
  run_loadCells_list (P:=P) w ⟨B,off,none⟩ _ (λj v hv=>by
   have hadd:(⟨B,off,none⟩:Addr).add j=⟨B,off+j,none⟩:=by unfold Addr.add;split<;>simp_all
   rw[hadd,cell_of_row w B (off+j) xs t fr hW];rw[getElem?_take]at hv;split at hv
   ·simpa using hv
   ·cases hv)
 rw[hlen]at hl;rw[qC hop,hx];cases hq:P.info? ty with
 |none=>simp[hq]at hi
 |some i =>
  have hs:i.size=n:=by simpa[hq]using hi
  have hagg:(isAgg ty).run P w=.ok true w:=by
   unfold isAgg;rw[Sem.run_bind,run_underlying hu w];cases d<;>simp_all
  simp[Instr.loadAt,Instr.sureAddr,loadVar,Sem.run_bind,hagg,sizeOf,typeInfo,hq,hs,hl]
end
section
variable{P:Program}[ko P]{E:mH P}{s:Sg}{a:Act}{w:World}{o:Oper}{K K':Value->World->Prop}
theorem iA.of(h:∀w₁,cB w w₁->Plain [] (execOp a.eval o)/\∃v w',((execOp a.eval o).run P w₁=.ok (.value v) w'\/((execOp a.eval o).run P w₁=.ok .skip w'/\v=undef))/\K v w'):iA P o a.eval w K :=
 .inl λw₁ hs=>⟨aJ.plain (h w₁ hs).1 w₁,(h w₁ hs).2⟩
theorem mJ(h:TT (λ_=>false) (λ_=>[]) 0 o.op=true)(hc:Jz o.op=true):Plain [] (execOp a.eval o):=DU h hc
theorem Q0(hr:∀x v,ev s x=some v->a.eval x=v){t:Nat}{x:Operand}(hop:o.op=.load t x)(h:yw E w K t (ev s x))(hK:∀v w',K v w'->K' v w')(hS:∀v w w',cB w w'->K' v w->K' v w'):iA P o a.eval w K':=by
 unfold yw at h;split at h
 ·rename_i b off hx
  split at h
  ·rename_i y hy
   obtain⟨i,d,hd⟩:=E.tab.ok.is hy;obtain⟨xs,ty,hW,h⟩:=h;have ex:=hr _ _ hx;cases hs:kI y with
   |true =>
    rw[hs]at h;dsimp only[iB]at h;have h0:¬bD E.T t=0:=λe=>by rw[e]at h;exact h
    have h0':Nat.beq (bD E.T t) 0=false:=by cases hb:Nat.beq (bD E.T t) 0 with|true=>exact absurd (Nat.eq_of_beq_eq_true hb) h0|false=>rfl
    rw[h0']at h;dsimp only at h;obtain⟨c,hc,hl,h⟩:=h;refine .of λw₁ h1=>⟨uW hop,_,w₁,.inl (Fa t hop ex (by rw[h1.heap];exact hW) hd.under ?_ (n:=c.length) ?_ ?_ c ?_),hS _ _ _ h1 (hK _ _ h)⟩
    ·have:=hd.shape;rw[hs]at this;cases d<;>exact this
    ·rw[hd.info,Option.map_some,hd.size,hl]
    ·refine Nat.ble_eq_true_of_le ?_
     have:(aK xs.toList off (bD E.T t)).length=bD E.T t:=by rw[hc,hl]
     unfold aK at this;rw[length_take,length_drop,Array.length_toList]at this;rw[hl];omega
    ·rw[hl];exact hc
   |false =>
    rw[hs]at h;dsimp only[iB]at h;obtain⟨v,hv,h⟩:=h;rw[Array.getElem?_toList]at hv;refine .of λw₁ h1=>⟨uW hop,v,w₁,.inl (E9 t hop ex (by rw[h1.heap];exact hW) hd.under ?_ hv),hS _ _ _ h1 (hK _ _ h)⟩
    have:=hd.shape;rw[hs]at this;cases d<;>exact this
  ·exact h.elim
 ·exact h.elim
theorem XM(hr:∀x v,ev s x=some v->a.eval x=v){t:Nat}{x y:Operand}(hop:o.op=.store t x y)(h:Zy E w K t (ev s x) (ev s y))(hK:∀v w',K v w'->K' v w'):iA P o a.eval w K':=by
 unfold Zy at h;split at h
 ·rename_i b off v hx hy
  split at h
  ·rename_i z hz
   obtain⟨i,d,hd⟩:=E.tab.ok.is hz;obtain⟨xs,ty,ys,hW,hok,rfl,h⟩:=h;simp only[GD,Bool.and_eq_true]at hok;obtain⟨⟨h1,h2⟩,h3⟩:=hok;have h1:=Nat.eq_of_beq_eq_true h1;have h3:=Nat.le_of_ble_eq_true h3;rw[Array.length_toList]at h1 h3;refine .of λw₁ hs=>?_
   have hW1:w₁.heap[b]? = some (.cells xs ty):=by rw[hs.heap];exact hW
   refine⟨Mm hop,undef,w₁.setRow b (xs.toList.take off++v.cells.toList++xs.toList.drop (off+v.cells.size)).toArray,.inr ⟨?_,rfl⟩,hK _ _ (h _ ?_ ?_)⟩
   ·rw[yZ hop,hr _ _ hx,hr _ _ hy,Sem.run_bind,zZ w₁ b off t ty v xs hW1 (by rw[hd.info,Option.map_some,hd.size,h1]) (all_eq_true.2 λu hu=>one_cell (all_eq_true.1 h2 u hu)) (by omega)]
    rfl
   ·rw[<-h1];exact setRow_heap w₁ b xs _ ty (0,0) hW1
   ·exact((GB.refl _ w).same hs).trans (GB.only (Only.setRow w₁ b _))
  ·exact h.elim
 ·exact h.elim
theorem Pb{ob:Obj}{v:Nat->Value}(hp:Plain [] (execOp a.eval o))(hrun:∀w1,(execOp a.eval o).run P w1=.ok (.value (v w1.heap.size)) (w1.alloc ob))(h:QZ w K ob v)(hK:∀v w',K v w'->K' v w'):iA P o a.eval w K' :=
 .of λw₁ hs=>⟨hp,_,_,.inl (hrun w₁),hK _ _ (h _ _ (iW w₁ ob) (((GB.refl none w).same hs).trans (GB.alloc none w₁ ob)) (by rw[hs.heap];exact Nat.le_refl _))⟩
theorem ZN(hr:∀x v,ev s x=some v->a.eval x=v){f:Operand}{args:Array Operand}{ats:Array TypeId}(hop:o.op=.call { callee:=.value f,args,argTypes:=ats })(h:Zz E w K (ev s f) (Ib (ev s) args.toList))(hK:∀v w',K v w'->K' v w'):iA P o a.eval w K':=by
 unfold Zz at h;split at h
 ·rename_i g fs cs vs hf hv
  cases hg:E.Zx g with
  |false =>
   rw[hg]at h;dsimp only[iB]at h;obtain⟨v,h⟩:=h;have e1:args.map a.eval=vs.toArray:=by apply Array.ext';rw[Array.toList_map];exact Ci hr hv
   have e2:execOp a.eval o=callFunc g ((fs++vs.toArray)++cs):=by
    unfold execOp;rw[hop];show(do let d <- resolve a.eval { callee:=.value f,args,argTypes:=ats } o.type;invoke d.target d.args)=_;unfold resolve;simp only[hr _ _ hf,e1,Deferred.ofValue];rfl
   refine .inl λw₁ hs=>?_
   obtain⟨⟨h1,h2⟩,h3⟩:=h w₁ hs;rw[e2];exact⟨h1,v,w₁,.inl h2,hK _ _ h3⟩
  |true =>
   rw[hg]at h;dsimp only[iB]at h;obtain⟨Post,hc,h⟩:=h;have hb:=E.fns g hg;unfold callable at hb;cases hfn:P.funcs[g]? with
   |none=>rw[hfn]at hb;cases hb
   |some fn =>
    rw[hfn]at hb;simp only[Bool.and_eq_true,Bool.not_eq_true']at hb;have e1:args.map a.eval=vs.toArray:=by apply Array.ext';rw[Array.toList_map];exact Ci hr hv
    have q:aW P (execOp a.eval o)=some (.enter g ((fs++vs.toArray)++cs)):=by
     unfold execOp;rw[hop];show aW P (do let d <- resolve a.eval { callee:=.value f,args,argTypes:=ats } o.type;invoke d.target d.args)=_;unfold resolve;simp only[hr _ _ hf,e1,Deferred.ofValue,aF,aH,Option.bind_some,invoke,callFunc];have hp:aW P program=some P:=rfl;rw[hp,Option.bind_some,hfn];dsimp only;rw[if_neg (by rw[hb.1];decide),if_neg (by rw[hb.2];decide)];rfl
    exact .inr ⟨g,_,Post,λw=>iR q w,λw=>H9 q w,hc,λv w' hp=>hK _ _ (h v w' hp)⟩
 ·exact h.elim
omit [ko P] in
theorem ve{t key e:Nat}(h:ze E t=some (key,e)):P.underlying t=some (.map key e)/\P.underlying key=some (.int .u32)/\∀w,(zeroValue e).run P w=.ok (zv E.T e ((E.T.get e).getD .p)) w:=by
 unfold ze at h;split at h
 ·rename_i k' e' ht
  split at h
  ·rename_i z h1 h2
   simp only[Option.some.injEq,Prod.mk.injEq]at h;obtain⟨rfl,rfl⟩:=h;obtain⟨_,_,d1⟩:=E.tab.ok.is ht;obtain⟨_,_,d2⟩:=E.tab.ok.is h1;obtain⟨_,_,d3⟩:=E.tab.ok.is h2;refine⟨Ur d1.kind▸d1.under,Bc d2.kind▸d2.under,λw=>?_⟩;rw[h2];exact iR (tJ d3.info d3.zero) w
  ·cases h
 ·cases h
theorem J7(hr:∀x v,ev s x=some v->a.eval x=v){t:Nat}{x y:Operand}{ok:Bool}(hop:o.op=.lookup t x y ok)(h:Ig E w K t ok (ev s x) (ev s y))(hK:∀v w',K v w'->K' v w')(hS:∀v w w',cB w w'->K' v w->K' v w'):iA P o a.eval w K':=by
 unfold Ig at h;split at h
 ·rename_i m n hx hy
  split at h
  ·rename_i key e ht
   obtain⟨h1,h2,h3⟩:=ve ht;obtain⟨f,hm,h⟩:=h;refine .of λw₁ hs=>⟨mJ (by rw[hop];rfl) (by rw[hop];rfl),_,w₁,.inl ?_,hS _ _ _ hs (hK _ _ h)⟩
   have e1:execOp a.eval o=(do pure (Next.value (<-Instr.lookup t (a.eval x) (a.eval y) ok))):=by unfold execOp;rw[hop]
   rw[e1,hr _ _ hx,hr _ _ hy,Sem.run_bind,CZ h1 h2 h3 (hm.same hs) ok];cases ok<;>rfl
  ·exact h.elim
 ·exact h.elim
theorem Uv(hr:∀x v,ev s x=some v->a.eval x=v){t:Nat}{x y z:Operand}(hop:o.op=.mapUpdate t x y z)(h:ZH E w K t (ev s x) (ev s y) (ev s z))(hK:∀v w',K v w'->K' v w'):iA P o a.eval w K':=by
 unfold ZH at h;split at h
 ·rename_i m n v hx hy hz
  split at h
  ·rename_i p ht
   obtain⟨key,e⟩:=p;obtain⟨h1,h2,h3⟩:=ve ht;obtain⟨f,hm,h⟩:=h;refine .of λw₁ hs=>?_
   obtain⟨w',g1,g2,g3⟩:=Mw (P:=P) (k:=n) (v:=v) h1 h2 (hm.same hs);refine⟨mJ (by rw[hop];rfl) (by rw[hop];rfl),undef,w',.inr ⟨?_,rfl⟩,hK _ _ (h w' g2 (((GB.refl _ w).same hs).trans g3))⟩;rw[Mt hop,hr _ _ hx,hr _ _ hy,hr _ _ hz,Sem.run_bind,g1];rfl
  ·exact h.elim
 ·exact h.elim
theorem Uw(hr:∀x v,ev s x=some v->a.eval x=v){t t':Nat}{x y:Operand}(hop:o.op=.call { callee:=.builtin .delete,args:=#[x,y],argTypes:=#[t,t'] })(h:ZI E w K t t' (ev s x) (ev s y))(hK:∀v w',K v w'->K' v w'):iA P o a.eval w K':=by
 unfold ZI at h;split at h
 ·rename_i m n hx hy
  split at h
  ·rename_i key e ht
   obtain⟨h1,h2,h3⟩:=ve ht;cases hb:Nat.beq key t' with
   |false=>rw[hb]at h;exact(show False from h).elim
   |true =>
    rw[hb]at h;dsimp only[iB]at h;have:=Nat.eq_of_beq_eq_true hb;subst this;obtain⟨f,hm,h⟩:=h;refine .of λw₁ hs=>?_
    obtain⟨w',g1,g2,g3⟩:=Mx (P:=P) (ty:=o.type) (k:=n) h1 h2 (hm.same hs);refine⟨qD hop rfl,.tuple #[],w',.inl ?_,hK _ _ (h w' g2 (((GB.refl _ w).same hs).trans g3))⟩;rw[Mv hop,hr _ _ hx,hr _ _ hy,Sem.run_bind,g1];rfl
  ·exact h.elim
 ·exact h.elim
theorem XN(hr:∀x v,ev s x=some v->a.eval x=v){t:Nat}{x:Operand}(hop:o.op=.call { callee:=.builtin .clear,args:=#[x],argTypes:=#[t] })(h:ZJ E w K t (ev s x))(hK:∀v w',K v w'->K' v w'):iA P o a.eval w K':=by
 unfold ZJ at h;split at h
 ·rename_i m hx
  split at h
  ·rename_i p ht
   obtain⟨key,e⟩:=p;obtain⟨h1,h2,h3⟩:=ve ht;obtain⟨f,hm,h⟩:=h;refine .of λw₁ hs=>?_
   obtain⟨w',g1,g2,g3⟩:=OY (P:=P) (ty:=o.type) h1 (hm.same hs);refine⟨qD hop rfl,.tuple #[],w',.inl ?_,hK _ _ (h w' g2 (((GB.refl _ w).same hs).trans g3))⟩;rw[EY hop,hr _ _ hx,Sem.run_bind,g1];rfl
  ·exact h.elim
 ·exact h.elim
theorem Ux(hr:∀x v,ev s x=some v->a.eval x=v){t:Nat}{x y:Operand}(hop:o.op=.call { callee:=.builtin .append,args:=#[x,y],argTypes:=#[t,t] })(h:ZA E w K t (ev s x) (ev s y))(hK:∀v w',K v w'->K' v w')(hS:∀v w w',cB w w'->K' v w->K' v w'):iA P o a.eval w K':=by
 unfold ZA at h;split at h
 ·rename_i b n c c' hx hy
  split at h
  ·rename_i e ht
   split at h
   ·rename_i z hz
    obtain⟨_,_,d1⟩:=E.tab.ok.is ht;obtain⟨_,_,d2⟩:=E.tab.ok.is hz;have hu:P.underlying t=some (.slice e):=nN d1.kind▸d1.under;have q:aW P (execOp a.eval o)=some (.value (.slice b n c)):=by
     have e1:execOp a.eval o=(do pure (Next.value (<-Builtin.append_ #[t,t] o.type #[a.eval x,a.eval y]))):=by
      have e:execOp a.eval o=builtin .append #[t,t] o.type (#[x,y].map λ | .const _=>true|_=>false) (#[x,y].map a.eval):=by
       unfold execOp;rw[hop];rfl
      rw[e,show #[x,y].map a.eval = #[a.eval x,a.eval y]by simp];rfl
     rw[e1,hr _ _ hx,hr _ _ hy];have h1:=h.1;cases b<;>simp[Builtin.append_,aF,bA hu,gZ d2.info,aH,Builtin.lenOf,Builtin.firstCells,h1,storeCells]
    exact .inl λw₁ hs=>⟨aJ.quiet q w₁,_,w₁,.inl (iR q w₁),hS _ _ _ hs (hK _ _ h.2)⟩
   ·exact h.elim
  ·exact h.elim
 ·rename_i b n c ad m c' hx hy
  split at h
  ·rename_i e ht
   split at h
   ·rename_i z hz
    obtain⟨_,_,d1⟩:=E.tab.ok.is ht;obtain⟨i2,_,d2⟩:=E.tab.ok.is hz;have hu:P.underlying t=some (.slice e):=nN d1.kind▸d1.under;have h0:¬bD E.T e=0:=λe=>by rw[e]at h;exact(show False from h)
    have h0':Nat.beq (bD E.T e) 0=false:=by cases hb:Nat.beq (bD E.T e) 0 with|true=>exact absurd (Nat.eq_of_beq_eq_true hb) h0|false=>rfl
    rw[h0']at h;dsimp only[iB]at h;obtain⟨xs,news,ho,hs,hm,h⟩:=h;unfold J6 at hs;split at hs
    ·rename_i B off hsp
     obtain⟨nb,tb,hW,h1,h2,h3⟩:=hs;obtain rfl:=Option.some.inj hsp;refine .of λw₁ hs=>?_
     have hby:(n+m)*i2.bytes<=140737488355328:=by
      have:=d2.bytes;calc (n+m)*i2.bytes<=1000000000*2400:=Nat.mul_le_mul hm this
       _<=140737488355328:=by decide
     obtain⟨v',w',g1,g2,g3,g4,g5⟩:=Mo (P:=P) (w:=w₁) hop e i2 _ (bD E.T e) i2.bytes hu d2.info d2.zero d2.size rfl (by rw[qi hz];rfl) (by omega) (hr _ _ hx) (ay ho λg _=>by rw[hs.heap]) (hr _ _ hy) (by rw[hs.heap];exact hW) h1 h2 (λu hu=>one_cell (all_eq_true.1 h3 u hu)) (by have:maxLen=9223372036854775807:=rfl;omega) hby;exact⟨qD hop rfl,v',w',.inl g1,hK _ _ (h v' w' g2 (((GB.refl _ w).same hs).trans g3) ⟨by rw[hs.heap]at g4;exact g4,λg eg hc=>by subst eg;exact g5 g c rfl hc⟩)⟩
    ·exact hs.elim
   ·exact h.elim
  ·exact h.elim
 ·exact h.elim
theorem J8{n sz:Nat}(z:List Value)(hz:z.length=sz)(h0:0<sz):(Array.range (n*sz)).map (λi=>z.toArray[i%z.toArray.size]!)=((List.range (n*sz)).map λi=>z.getD (i%sz) undef).toArray:=by
 apply Array.ext'
 rw[Array.toList_map,Array.toList_range];refine map_congr_left λi _=>?_
 have h1:i%sz<z.length:=by rw[hz];exact Nat.mod_lt _ h0
 simp only[size_toArray,hz];rw[getD_eq_getElem?_getD,getElem?_eq_getElem h1];simp[h1]
omit [ko P] in
theorem J9(hr:∀x v,ev s x=some v->a.eval x=v){t n e:Nat}{ps:Array (Nat×Operand)}{vs:List (Nat×Value)}{z:Ty}{cs:List Value}(hop:o.op=.buildSlice t n ps)(ht:E.T.get t=some (.l e))(hz:E.T.get e=some z)(hv:J3 (ev s) ps.toList=some vs)(hf:wU ((List.range n).map λi=>(i*bD E.T e,bD E.T e)) ((List.range (n*bD E.T e)).map λi=>(zc E.T e).getD (i%bD E.T e) undef) vs=some cs)(hb:n*bD E.T e<=1000)(h0:0<bD E.T e)(w1:World):(execOp a.eval o).run P w1=.ok (.value (.slice (some ⟨w1.heap.size,0,none⟩) n n)) (w1.alloc (.cells cs.toArray e)):=by
 obtain⟨_,_,d1⟩:=E.tab.ok.is ht;obtain⟨_,_,d2⟩:=E.tab.ok.is hz;have hu:P.underlying t=some (.slice e):=nN d1.kind▸d1.under;have e1:execOp a.eval o=(do pure (Next.value (<-Instr.buildSlice t n (ps.map λ(p:Nat×Operand)=>(p.1,a.eval p.2))))):=by unfold execOp;rw[hop]
 have e2:(ps.map λ(p:Nat×Operand)=>(p.1,a.eval p.2))=vs.toArray:=by apply Array.ext';rw[Array.toList_map];exact M8 hr hv
 rw[e1,e2];have hpl:∀i,(λi=>if i<n then some (i*bD E.T e,bD E.T e)else none) i=((List.range n).map λi=>(i*bD E.T e,bD E.T e))[i]?:=by
  intro i;rw[getElem?_map];by_cases hi:i<n
  ·simp[hi]
  ·simp[hi]
 have Cj:=QT hpl hf;have mono:∀(vs:List (Nat×Value)) (cs out:Array Value),Instr.fill (λi=>if i<n then some (i*bD E.T e,bD E.T e)else none) cs vs=some out->Instr.fill (λi=>some (i*bD E.T e,bD E.T e)) cs vs=some out:=by
  intro vs;induction vs with
  |nil=>exact λ_ _ h=>h
  |cons p r ih =>
   intro cs out h;obtain⟨i,v⟩:=p;unfold Instr.fill at h |-;by_cases hi:i<n
   ·rw[if_pos hi]at h
    dsimp only at h |-;split
    ·rename_i hc;rw[if_pos hc]at h;cases h
    ·rename_i hc;rw[if_neg hc]at h;exact ih _ _ h
   ·rw[if_neg hi]at h;cases h
 have Cj:=mono _ _ _ Cj;rw[<-J8 (n:=n) (sz:=bD E.T e) (zc E.T e) rfl h0]at Cj;have hsz:¬n*bD E.T e > 2 ^ 24:=by omega
 have ZO:(zeroValue e).run P w1=.ok (zv E.T e z) w1:=iR (tJ d2.info d2.zero) w1;have hsr:(sizeOf e).run P w1=.ok (bD E.T e) w1:=by rw[iR (gZ d2.info) w1,d2.size]
 have hur:(underlying t).run P w1=.ok (.slice e) w1:=iR (bA hu) w1;have hzc:(zv E.T e z).cells=(zc E.T e).toArray:=qi hz;have e3:(Instr.buildSlice t n vs.toArray).run P w1=.ok (.slice (some ⟨w1.heap.size,0,none⟩) n n) (w1.alloc (.cells cs.toArray e)):=by
  unfold Instr.buildSlice;rw[Sem.run_bind,hur];simp only[Result.andThen_ok];rw[Sem.run_bind,hsr];simp only[Result.andThen_ok];by_cases hn:n*bD E.T e=0
  ·rw[if_neg hsz,if_pos hn]
   have hz0:∀f:Nat->Value,Array.map f (Array.range (n*bD E.T e)) = #[]:=λf=>by rw[hn];simp
   rw[hz0]at Cj;show Sem.run P (match Instr.fill (λi=>some (i*bD E.T e,bD E.T e)) (Array.map (λi=>(#[]:Array Value)[i%(#[]:Array Value).size]!) (Array.range (n*bD E.T e))) vs with
    |some cells=>do pure (Value.slice (some (<-newRow e cells)) n n)
    | _ => stuck "buildSlice: a part of the wrong size") w1 = _
   rw[hz0,Cj];rfl
  rw[if_neg hsz,if_neg hn];rw[Sem.run_bind,ZO];simp only[Result.andThen_ok];rw[hzc];show Sem.run P (match Instr.fill (λi=>some (i*bD E.T e,bD E.T e)) (Array.map (λi=>(zc E.T e).toArray[i%(zc E.T e).toArray.size]!) (Array.range (n*bD E.T e))) vs with
   |some cells=>do pure (Value.slice (some (<-newRow e cells)) n n)
   | _ => stuck "buildSlice: a part of the wrong size") w1 = _
  rw[Cj];rfl
 rw[Sem.run_bind,e3];rfl
theorem XO(hr:∀x v,ev s x=some v->a.eval x=v){t:Nat}{x:Operand}(hop:o.op=.range t x)(h:ZK E w K t (ev s x))(hK:∀v w',K v w'->K' v w'):iA P o a.eval w K':=by
 unfold ZK at h;split at h
 ·rename_i m hx
  split at h
  ·rename_i p ht
   obtain⟨key,e⟩:=p;obtain⟨h1,h2,h3⟩:=ve ht;obtain⟨l,hm,h⟩:=h;refine .of λw₁ hs=>?_
   obtain⟨ob,g1,g2⟩:=OZ (P:=P) h1 (hm.same hs);refine⟨mJ (by rw[hop];rfl) (by rw[hop];rfl),_,_,.inl ?_,hK _ _ (h _ w₁.heap.size g2 (((GB.refl none w).same hs).trans (GB.alloc none w₁ ob)) (by rw[hs.heap];exact Nat.le_refl _))⟩;rw[OT hop,hr _ _ hx,Sem.run_bind,g1];rfl
  ·exact h.elim
 ·exact h.elim
theorem ZP(hr:∀x v,ev s x=some v->a.eval x=v){x:Operand}(hop:o.op=.next x false)(h:ZL w K (ev s x))(hK:∀v w',K v w'->K' v w')(hS:∀v w w',cB w w'->K' v w->K' v w'):iA P o a.eval w K':=by
 unfold ZL at h;split at h
 ·rename_i it hx
  obtain⟨m,l,todo,cur,hI,h1,h2⟩:=h;refine .of λw₁ hs=>⟨mJ (by rw[hop];rfl) (by rw[hop];rfl),?_⟩
  have hI1:nE w₁ it m l todo cur:=hI.keep (by rw[hs.heap]) (by rw[hs.heap]);rcases QQ (P:=P) (ty:=o.type) hI1 with⟨he,hrun⟩|⟨i,p,w',hp,hrun,hI',hg⟩
  ·refine⟨_,w₁,.inl ?_,hS _ _ _ hs (hK _ _ (h1 he))⟩
   rw[H7 hop,hr _ _ hx,Sem.run_bind,hrun];rfl
  ·refine⟨_,w',.inl ?_,hK _ _ (h2 i p w' hp hI' (((GB.refl _ w).same hs).trans hg))⟩
   rw[H7 hop,hr _ _ hx,Sem.run_bind,hrun];rfl
 ·exact h.elim
theorem XP(hr:∀x v,ev s x=some v->a.eval x=v){x:Operand}(hop:o.op=.entry x)(h:ZM w K (ev s x))(hK:∀v w',K v w'->K' v w')(hS:∀v w w',cB w w'->K' v w->K' v w'):iA P o a.eval w K':=by
 unfold ZM at h;split at h
 ·rename_i it hx
  obtain⟨m,l,todo,p,hI,h1⟩:=h;refine .of λw₁ hs=>⟨mJ (by rw[hop];rfl) (by rw[hop];rfl),_,w₁,.inl ?_,hS _ _ _ hs (hK _ _ h1)⟩
  have e1:execOp a.eval o=(do pure (Next.value (<-Instr.entry (a.eval x)))):=by unfold execOp;rw[hop]
  rw[e1,hr _ _ hx,Sem.run_bind,O0 (P:=P) (hI.keep (w':=w₁) (by rw[hs.heap]) (by rw[hs.heap]))];rfl
 ·exact h.elim
theorem Q3{w:World}{B off k:Nat}{nb:Array Value}{tb:TypeId}{news:List Value}(hW:w.heap[B]? = some (.cells nb tb))(h:aK nb.toList off k=news):∀j u,news[j]? = some u->w.cell? ((⟨B,off,none⟩:Addr).add j)=some u:=λj u hu=>by
 have hadd:(⟨B,off,none⟩:Addr).add j=⟨B,off+j,none⟩:=by unfold Addr.add;split<;>simp_all
 rw[hadd,yY hW];rw[<-h]at hu;unfold aK at hu;rw[getElem?_take]at hu;split at hu
 ·rw[getElem?_drop]at hu;simpa using hu
 ·cases hu
theorem Q4{w w₁:World}(hs:cB w w₁)(g:Nat)(cs:Array Value):GB (some g) w (w₁.setRow g cs):=((GB.refl _ w).same hs).trans ⟨rfl,rfl,by simp,λx _ hne=>setRow_other w₁ g x _ (λe=>hne (by rw[e]))⟩
theorem ZQ(hr:∀x v,ev s x=some v->a.eval x=v){t t':Nat}{x y:Operand}(hop:o.op=.call { callee:=.builtin .copy,args:=#[x,y],argTypes:=#[t,t'] })(h:ZC E w K t (ev s x) (ev s y))(hK:∀v w',K v w'->K' v w'):iA P o a.eval w K':=by
 unfold ZC at h;split at h
 ·rename_i g off n c ad m c' hx hy
  split at h
  ·rename_i e ht
   split at h
   ·rename_i z hz
    obtain⟨_,_,d1⟩:=E.tab.ok.is ht;obtain⟨i2,_,d2⟩:=E.tab.ok.is hz;have hu:P.underlying t=some (.slice e):=nN d1.kind▸d1.under;obtain⟨cur,te,news,hg,hsrc,hfit,h⟩:=h;unfold J6 at hsrc;split at hsrc
    ·rename_i B o2 hsp
     obtain⟨nb,tb,hW,h1,h2,h3⟩:=hsrc;obtain rfl:=Option.some.inj hsp;refine .of λw₁ hs=>?_
     have hg1:w₁.heap[g]? = some (.cells cur.toList.toArray te):=by rw[hs.heap];exact hg
     have hrun:=QV (P:=P) w₁ t t' o.type e (bD E.T e) g off n c ⟨B,o2,none⟩ m c' cur.toList te news hu (by rw[d2.info,Option.map_some,d2.size]) hg1 h2 (Q3 (by rw[hs.heap];exact hW) h1) (by rw[Array.length_toList];exact hfit) (λu hu=>one_cell (all_eq_true.1 h3 u hu));rw[show splice cur.toList off news=cur.toList.take off++news++cur.toList.drop (off+news.length)by simp[splice]]at hrun;refine⟨qD hop rfl,_,_,.inl ?_,hK _ _ (h _ (setRow_heap w₁ g _ _ te _ hg1) (Q4 hs g _))⟩;have e1:execOp a.eval o=(do pure (Next.value (<-Builtin.copy_ #[t,t'] o.type #[a.eval x,a.eval y]))):=by
      have e:execOp a.eval o=builtin .copy #[t,t'] o.type (#[x,y].map λ | .const _=>true|_=>false) (#[x,y].map a.eval):=by
       unfold execOp;rw[hop];rfl
      rw[e,show #[x,y].map a.eval = #[a.eval x,a.eval y]by simp];rfl
     rw[e1,hr _ _ hx,hr _ _ hy,Sem.run_bind,hrun];rfl
    ·exact hsrc.elim
   ·exact h.elim
  ·exact h.elim
 ·exact h.elim
theorem Uy(hr:∀x v,ev s x=some v->a.eval x=v){t e:Nat}{x:Operand}(hop:o.op=.call { callee:=.builtin .clear,args:=#[x],argTypes:=#[t] })(ht:E.T.get t=some (.l e))(h:ZE E w K e (ev s x))(hK:∀v w',K v w'->K' v w'):iA P o a.eval w K':=by
 unfold ZE at h;split at h
 ·rename_i g off n c hx
  split at h
  ·rename_i z hz
   obtain⟨_,_,d1⟩:=E.tab.ok.is ht;obtain⟨i2,_,d2⟩:=E.tab.ok.is hz;have hu:P.underlying t=some (.slice e):=nN d1.kind▸d1.under;cases ho:(zc E.T e).all one with
   |false=>rw[ho]at h;exact(show False from h).elim
   |true =>
    rw[ho]at h;dsimp only[iB]at h;obtain⟨h0,cur,te,hg,hfit,h⟩:=h;refine .of λw₁ hs=>?_
    have hg1:w₁.heap[g]? = some (.cells cur.toList.toArray te):=by rw[hs.heap];exact hg
    obtain⟨zs,hzl,hrun⟩:=O8 (P:=P) w₁ t o.type e i2 _ hu d2.info d2.zero (by rw[qi hz,d2.size];rfl) (by rw[qi hz];exact λv hv=>one_cell (all_eq_true.1 ho v (by simpa using hv))) g off n c h0 cur.toList te hg1 (by rw[Array.length_toList,d2.size];exact hfit);rw[d2.size]at hzl;rw[show splice cur.toList off zs=cur.toList.take off++zs++cur.toList.drop (off+zs.length)by simp[splice]]at hrun;refine⟨qD hop rfl,_,_,.inl ?_,hK _ _ (h zs _ hzl (setRow_heap w₁ g _ _ te _ hg1) (Q4 hs g _))⟩;rw[EY hop,hr _ _ hx,Sem.run_bind,hrun];rfl
  ·exact h.elim
 ·exact h.elim
theorem XQ(hr:∀x v,ev s x=some v->a.eval x=v){t t':Nat}{x y:Operand}(hop:o.op=.call { callee:=.builtin .append,args:=#[x,y],argTypes:=#[t,t'] })(h:ZB E w K t t' (ev s x) (ev s y))(hK:∀v w',K v w'->K' v w'):iA P o a.eval w K':=by
 unfold ZB at h;split at h
 ·rename_i b n c k m hx hy
  split at h
  ·rename_i e kn ht htn
   split at h
   ·rename_i z hz
    obtain⟨_,_,d1⟩:=E.tab.ok.is ht;obtain⟨i2,_,d2⟩:=E.tab.ok.is hz;obtain⟨_,_,d3⟩:=E.tab.ok.is htn;have hu:P.underlying t=some (.slice e):=nN d1.kind▸d1.under;have hun:P.underlying t'=some (.int kn):=Bc d3.kind▸d3.under;have h0:¬bD E.T e=0:=λe=>by rw[e]at h;exact(show False from h)
    have h0':Nat.beq (bD E.T e) 0=false:=by cases hb:Nat.beq (bD E.T e) 0 with|true=>exact absurd (Nat.eq_of_beq_eq_true hb) h0|false=>rfl
    rw[h0']at h;dsimp only[iB]at h;obtain⟨xs,ho,hm,hc,hb,h⟩:=h;obtain⟨m',rfl⟩:∃m':Nat,m=m':=⟨m.toNat,by omega⟩;refine .of λw₁ hs=>?_
    have hby:(n+m')*i2.bytes<=140737488355328:=by
     have:=d2.bytes;calc (n+m')*i2.bytes<=1000000000*2400:=Nat.mul_le_mul (by omega) this
      _<=140737488355328:=by decide
    obtain⟨b',cap,cur,w',g1,g2,g3,g4,g5,g6,g7,g8⟩:=QX (P:=P) w₁ t t' o.type e i2 _ k kn hu hun d2.info d2.zero (by rw[qi hz,d2.size];rfl) (.slice b n c) n xs (by rw[d2.size];exact ay ho λg _=>by rw[hs.heap]) m' (by omega) (by rw[d2.size];omega) (λa c2 e=>by cases e;omega) hby (by have:maxLen=9223372036854775807:=rfl;omega);rw[d2.size]at g3 g4;refine⟨qD hop rfl,_,_,.inl ?_,hK _ _ (h b' cap cur w' g2 g3 g4 (by rw[Int.toNat_natCast];exact g5) g6 (((GB.refl _ w).same hs).trans g7) (by rw[hs.heap]at g8;exact g8))⟩;have e1:execOp a.eval o=(do pure (Next.value (<-Builtin.append_ #[t,t'] o.type #[a.eval x,a.eval y]))):=by
     have e:execOp a.eval o=builtin .append #[t,t'] o.type (#[x,y].map λ | .const _=>true|_=>false) (#[x,y].map a.eval):=by
      unfold execOp;rw[hop];rfl
     rw[e,show #[x,y].map a.eval = #[a.eval x,a.eval y]by simp];rfl
    rw[e1,hr _ _ hx,hr _ _ hy,Sem.run_bind,g1];rfl
   ·exact h.elim
  ·exact h.elim
 ·exact h.elim
theorem acg(hr:∀x v,ev s x=some v->a.eval x=v){t t':Nat}{x:Operand}(hop:o.op=.convert t t' x)(h:ZF E w K t t' (ev s x))(hK:∀v w',K v w'->K' v w')(hS:∀v w w',cB w w'->K' v w->K' v w'):iA P o a.eval w K':=by
 unfold ZF at h;split at h
 ·rename_i b n c hx
  split at h
  ·rename_i e ht ht'
   split at h
   ·rename_i hz
    obtain⟨_,_,d1⟩:=E.tab.ok.is ht;obtain⟨_,_,d2⟩:=E.tab.ok.is hz;obtain⟨_,_,d3⟩:=E.tab.ok.is ht';obtain⟨l,ho,h⟩:=h;refine .of λw₁ hs=>⟨mJ (by rw[hop];rfl) (by rw[hop];rfl),_,w₁,.inl ?_,hS _ _ _ hs (hK _ _ h)⟩
    have e1:execOp a.eval o=(do pure (Next.value (<-convert t t' (a.eval x)))):=by unfold execOp;rw[hop]
    rw[e1,hr _ _ hx,Sem.run_bind,Uu t t' (nN d1.kind▸d1.under) (Bc d2.kind▸d2.under) (za d3.kind▸d3.under) (ay ho λg _=>by rw[hs.heap])];rfl
   ·exact h.elim
  ·exact h.elim
 ·exact h.elim
theorem ZR(hr:∀x v,ev s x=some v->a.eval x=v){t:Nat}{x y:Operand}(hop:o.op=.makeSlice t x y)(h:ZG E w K t (ev s x) (ev s y))(hK:∀v w',K v w'->K' v w'):iA P o a.eval w K':=by
 unfold ZG at h;split at h
 ·rename_i k i k' j hx hy
  split at h
  ·rename_i e ht
   split at h
   ·rename_i z hz
    obtain⟨_,_,d1⟩:=E.tab.ok.is ht;obtain⟨i2,_,d2⟩:=E.tab.ok.is hz;have hu:P.underlying t=some (.slice e):=nN d1.kind▸d1.under;obtain⟨rfl,h0,h1,h⟩:=h;refine Pb (mJ (by rw[hop];rfl) (by rw[hop];rfl)) (λw1=>?_) h hK;have e1:execOp a.eval o=(do pure (Next.value (<-Instr.makeSlice t (a.eval x) (a.eval y)))):=by unfold execOp;rw[hop]
    have hb:=d2.bytes;have hb':(i2.bytes:Int)*i<=281474976710656:=by
     have h2:(i2.bytes:Int)*i<=2400*1000:=Int.mul_le_mul (by omega) h1 h0 (by omega);omega
    rw[e1,hr _ _ hx,hr _ _ hy,Sem.run_bind,run_make w1 t e i2 _ hu d2.info d2.zero k k' i i h0 (Int.le_refl _) hb' (by omega)];simp only[Result.andThen_ok];have e2:madeCells (zv E.T e z).cells (i.toNat*i2.size)=((List.range (i.toNat*bD E.T e)).map λq=>(zc E.T e).getD (q%bD E.T e) undef).toArray:=by
     rw[qi hz,d2.size];by_cases hs0:0<bD E.T e
     ·exact J8 (zc E.T e) rfl hs0
     ·have:bD E.T e=0:=by omega
      rw[this,Nat.mul_zero];simp[madeCells]
    rw[e2];rfl
   ·exact h.elim
  ·exact h.elim
 ·exact h.elim
theorem Q7(hr:∀x v,ev s x=some v->a.eval x=v)(h:Nb E s w K o)(hK:∀v w',K v w'->K' v w')(hS:∀v w w',cB w w'->K' v w->K' v w'):iA P o a.eval w K':=by
 have hq:=O7 E.tab hr o;have qt:∀{x:Value},aW P (execOp a.eval o)=some (.value x)->K x w->iA P o a.eval w K':=λ{x} q hk =>
  .inl λw₁ hs=>⟨aJ.quiet q w₁,_,w₁,.inl (iR q w₁),hS _ _ _ hs (hK _ _ hk)⟩
 unfold Nb at h;generalize ZT:iL E.T (ev s) o.op=qa at h hq;cases qa with
 |v x=>exact qt hq h
 |c p x=>exact qt (hq h.1) h.2
 |d p x y =>
  rcases h with⟨hp,h⟩|h
  ·rw[hq.2 hp]at h;exact qt hq.1 h
  ·exact qt hq.1 h
 |no =>
  clear hq ZT;dsimp only at h;generalize hop:o.op=op at h;unfold O9 at h;split at h
  ·exact XO hr hop h hK
  ·exact ZP hr hop h hK hS
  ·exact XP hr hop h hK hS
  ·exact Q0 hr hop h hK hS
  ·exact XM hr hop h hK
  ·split at h
   ·rename_i v z hx hz
    refine Pb (mJ (by rw[hop];rfl) (by rw[hop];rfl)) (λw1=>?_) h hK;unfold execOp;rw[hop];dsimp only;rw[hr _ _ hx];rfl
   ·exact h.elim
  ·rename_i t
   split at h
   ·rename_i z hz
    obtain⟨_,_,d⟩:=E.tab.ok.is hz;refine Pb (mJ (by rw[hop];rfl) (by rw[hop];rfl)) (λw1=>?_) h hK;have ZO:(zeroValue t).run P w1=.ok (zv E.T t z) w1:=iR (tJ d.info d.zero) w1;have e1:execOp a.eval o=(do pure (Next.value (<-Instr.alloc t true (.tuple #[])))):=by unfold execOp;rw[hop]
    rw[e1,Sem.run_bind,Instr.alloc,Sem.run_bind,ZO];simp only[Result.andThen_ok];rw[<-qi hz];rfl
   ·exact h.elim
  ·rename_i t n ps
   split at h
   ·rename_i e vs ht hv
    split at h
    ·rename_i z cs hz hf
     cases hb:(Nat.ble (n*bD E.T e) 1000 && Nat.blt 0 (bD E.T e))with
     |false=>rw[hb]at h;exact(show False from h).elim
     |true =>
      rw[hb]at h;dsimp only[iB]at h;simp only[Bool.and_eq_true]at hb;exact Pb (mJ (by rw[hop];rfl) (by rw[hop];rfl)) (λw1=>J9 hr hop ht hz hv hf (Nat.le_of_ble_eq_true hb.1) (by have:=Nat.le_of_ble_eq_true hb.2;omega) w1) h hK
    ·exact h.elim
   ·exact h.elim
  ·exact acg hr hop h hK hS
  ·exact ZR hr hop h hK
  ·split at h
   ·refine .of λw₁ hs=>⟨mJ (by rw[hop];rfl) (by rw[hop];rfl),(.map (some w₁.heap.size)),w₁.alloc (.map #[] 0),.inl ?_,hK _ _ (h _ w₁.heap.size ?_ (((GB.refl none w).same hs).trans (GB.alloc none w₁ _)) (by rw[hs.heap];exact Nat.le_refl _))⟩
    ·unfold execOp
     rw[hop];rfl
    ·exact⟨[],Zr.aeQ (iW w₁ _),λ_=>rfl⟩
   ·exact h.elim
  ·exact J7 hr hop h hK hS
  ·exact Uv hr hop h hK
  ·exact ZN hr hop h hK
  ·rename_i b args ats
   split at h
   ·rename_i x y t t' ha ht
    obtain rfl:args = #[x,y]:=Array.ext' ha;obtain rfl:ats = #[t,t']:=Array.ext' ht;cases hb:Nat.beq t t' with
    |false=>rw[hb]at h;exact XQ hr hop h hK
    |true =>
     rw[hb]at h;dsimp only[iB]at h;have:=Nat.eq_of_beq_eq_true hb;subst this;exact Ux hr hop h hK hS
   ·rename_i x y t t' ha ht
    obtain rfl:args = #[x,y]:=Array.ext' ha;obtain rfl:ats = #[t,t']:=Array.ext' ht;exact ZQ hr hop h hK
   ·rename_i x y t t' ha ht
    obtain rfl:args = #[x,y]:=Array.ext' ha;obtain rfl:ats = #[t,t']:=Array.ext' ht;exact Uw hr hop h hK
   ·rename_i x t ha ht
    obtain rfl:args = #[x]:=Array.ext' ha;obtain rfl:ats = #[t]:=Array.ext' ht;split at h
    ·rename_i e he
     exact Uy hr hop he h hK
    ·exact XN hr hop h hK
   ·exact h.elim
  ·exact h.elim
end
end
