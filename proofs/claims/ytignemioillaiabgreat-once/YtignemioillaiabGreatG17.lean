/- Lemmas. -/
import Derived.Test.YtignemioillaiabGreatG16
namespace Go.Proofs.YtignemioillaiabGreat
set_option maxHeartbeats 8000000
set_option maxRecDepth 100000
open List
section
open Go Go.Conc
def agT:TypeDesc->Bool
 |.struct _=>true
 |.array _ _=>true
 |_=>false
theorem V6.shape{P:Program}{T:jg}{t:Nat}{x:Ty}{i:TypeInfo}{d:TypeDesc}(h:V6 P T t x i d):agT d=kQ x:=by
 have hk:=h.kind;cases x<;>simp only[Yc]at hk
 .rw[Cb hk];rfl
 .rw[Lr hk];rfl
 .rw[zV hk];rfl
 .obtain⟨_,rfl⟩:=QH hk;rfl
 .obtain⟨_,_,_,rfl⟩:=abf hk;rfl
 .rw[oD hk];rfl
 .rw[V7 hk];rfl
 .obtain⟨_,rfl,_⟩:=Lt hk;rfl
 .rw[V8 hk];rfl
theorem qN{T:jg}{t:Nat}{x:Ty}(hx:T.get t=some x):(zv T t x).cells=(zc T t).toArray:=by
 unfold zv;cases hs:kQ x with
 |true=>rfl
 |false =>
  have:∃v,zc T t=[v]/\one v=true:=by
   unfold zc Tf;rw[hx];cases x<;>first|exact⟨_,rfl,rfl⟩|cases hs
  obtain⟨v,hv,h1⟩:=this;rw[hv];cases v<;>first|rfl|cases h1
section
variable{P:Program}
theorem Gt{a:Act}{o:Oper}{w:World}(ty:TypeId){x:Operand}(hop:o.op=.load ty x){B off:Nat}(hx:a.eval x=.pointer (some ⟨B,off,none⟩)){xs:Array Value}{t:TypeId}{fr:Nat×Nat}(hW:w.heap[B]?=some (.cells xs t fr)){d:TypeDesc}(hu:P.underlying ty=some d)
 (hd:(match d with | .struct _ | .array _ _=>true|_=>false)=false) {v:Value} (hc:xs[off]?=some v):(execOp a.eval o).run P w=.ok (.value v) w:=by
 have hcell:w.cell? ⟨B,off,none⟩=some v:=by rw[cell_of_row w B off xs t fr hW];exact hc
 have hagg:(isAgg ty).run P w=.ok false w:=by
  unfold isAgg;rw[Sem.run_bind,run_underlying hu w];cases d<;>simp_all
 rw[qZ hop,hx];simp[Instr.loadAt,Instr.sureAddr,loadVar,Sem.run_bind,hagg,hcell]
theorem Gu{a:Act}{o:Oper}{w:World}(ty:TypeId){x:Operand}(hop:o.op=.load ty x){B off:Nat}(hx:a.eval x=.pointer (some ⟨B,off,none⟩)){xs:Array Value}{t:TypeId}{fr:Nat×Nat}(hW:w.heap[B]?=some (.cells xs t fr)){d:TypeDesc}(hu:P.underlying ty=some d)
 (hd:(match d with | .struct _ | .array _ _=>true|_=>false)=true) {n:Nat} (hi:(P.info? ty).map (·.size)=some n) (hfit:Nat.ble (off+n) xs.size=true) (c:List Value) (hc:(xs.toList.drop off).take n=c):(execOp a.eval o).run P w=.ok (.value (.agg c.toArray)) w:=by
 subst hc;have hfit:=Jc4 hfit;have hlen:((xs.toList.drop off).take n).length=n:=by simp;omega
 have hl:(loadCells ⟨B,off,none⟩ ((xs.toList.drop off).take n).length).run P w=.ok ((xs.toList.drop off).take n).toArray w :=
  run_loadCells_list (P:=P) w ⟨B,off,none⟩ _ (λj v hv=>by
   have hadd:(⟨B,off,none⟩:Addr).add j=⟨B,off+j,none⟩:=by unfold Addr.add;split<;>simp_all
   rw[hadd,cell_of_row w B (off+j) xs t fr hW];rw[Jc5]at hv;split at hv
   .simpa using hv
   .cases hv)
 rw[hlen]at hl;rw[qZ hop,hx];cases hq:P.info? ty with
 |none=>simp[hq]at hi
 |some i =>
  have hs:i.size=n:=by simpa[hq]using hi
  have hagg:(isAgg ty).run P w=.ok true w:=by
   unfold isAgg;rw[Sem.run_bind,run_underlying hu w];cases d<;>simp_all
  simp[Instr.loadAt,Instr.sureAddr,loadVar,Sem.run_bind,hagg,sizeOf,typeInfo,hq,hs,hl]
end
section
variable{P:Program}[kD P]{E:ng P}{s:Sg}{a:Act}{w:World}{o:Oper}{K K':Value->World->Prop}
theorem iG.of(h:∀w₁,cO w w₁->Plain [] (execOp a.eval o)/\∃v w',((execOp a.eval o).run P w₁=.ok (.value v) w'\/((execOp a.eval o).run P w₁=.ok .skip w'/\v=undef))/\K v w'):iG P o a.eval w K :=
 .inl λw₁ hs=>⟨aK.plain (h w₁ hs).1 w₁,(h w₁ hs).2⟩
theorem ni(h:VH (λ_=>false) (λ_=>[]) 0 o.op=true)(hc:KR o.op=true):Plain [] (execOp a.eval o):=EO h hc
theorem Tt(hr:∀x v,ev s x=some v->a.eval x=v){t:Nat}{x:Operand}(hop:o.op=.load t x)(h:ze E w K t (ev s x))(hK:∀v w',K v w'->K' v w')(hS:∀v w w',cO w w'->K' v w->K' v w'):iG P o a.eval w K':=by
 unfold ze at h;split at h
 .rename_i b off hx
  split at h
  .rename_i y hy
   obtain⟨i,d,hd⟩:=E.tab.ok.is hy;obtain⟨xs,ty,hW,h⟩:=h;have ex:=hr _ _ hx;cases hs:kQ y with
   |true =>
    rw[hs]at h;dsimp only[iH]at h;have h0:¬bD E.T t=0:=λe=>by rw[e]at h;exact h
    have h0':Nat.beq (bD E.T t) 0=false:=by cases hb:Nat.beq (bD E.T t) 0 with|true=>exact absurd (Jdq hb) h0|false=>rfl
    rw[h0']at h;dsimp only at h;obtain⟨c,hc,hl,h⟩:=h;refine .of λw₁ h1=>⟨vV hop,_,w₁,.inl (Gu t hop ex (by rw[h1.heap];exact hW) hd.under ?_ (n:=c.length) ?_ ?_ c ?_),hS _ _ _ h1 (hK _ _ h)⟩
    .have:=hd.shape;rw[hs]at this;cases d<;>exact this
    .rw[hd.info,Jbb,hd.size,hl]
    .refine Jca ?_
     have:(aG xs.toList off (bD E.T t)).length=bD E.T t:=by rw[hc,hl]
     unfold aG at this;rw[Jd6,Jf7,Array.length_toList]at this;rw[hl];omega
    .rw[hl];exact hc
   |false =>
    rw[hs]at h;dsimp only[iH]at h;obtain⟨v,hv,h⟩:=h;rw[Jdw]at hv;refine .of λw₁ h1=>⟨vV hop,v,w₁,.inl (Gt t hop ex (by rw[h1.heap];exact hW) hd.under ?_ hv),hS _ _ _ h1 (hK _ _ h)⟩
    have:=hd.shape;rw[hs]at this;cases d<;>exact this
  .exact h.elim
 .exact h.elim
theorem Zw(hr:∀x v,ev s x=some v->a.eval x=v){t:Nat}{x y:Operand}(hop:o.op=.store t x y)(h:stW E w K t (ev s x) (ev s y))(hK:∀v w',K v w'->K' v w'):iG P o a.eval w K':=by
 unfold stW at h;split at h
 .rename_i b off v hx hy
  split at h
  .rename_i z hz
   obtain⟨i,d,hd⟩:=E.tab.ok.is hz;obtain⟨xs,ty,ys,hW,hok,rfl,h⟩:=h;simp only[Ce,Jdy]at hok;obtain⟨⟨h1,h2⟩,h3⟩:=hok;have h1:=Jdq h1;have h3:=Jc4 h3;rw[Array.length_toList]at h1 h3;refine .of λw₁ hs=>?_
   have hW1:w₁.heap[b]?=some (.cells xs ty):=by rw[hs.heap];exact hW
   refine⟨NU hop,undef,w₁.setRow b (xs.toList.take off++v.cells.toList++xs.toList.drop (off+v.cells.size)).toArray,.inr ⟨?_,rfl⟩,hK _ _ (h _ ?_ ?_)⟩
   .rw[zS hop,hr _ _ hx,hr _ _ hy,Sem.run_bind,Bc w₁ b off t ty v xs hW1 (by rw[hd.info,Jbb,hd.size,h1]) (all_eq_true.2 λu hu=>one_cell (all_eq_true.1 h2 u hu)) (by omega)]
    rfl
   .rw[<-h1];exact setRow_heap w₁ b xs _ ty (0,0) hW1
   .exact((GB.refl _ w).same hs).trans (GB.only (Only.setRow w₁ b _))
  .exact h.elim
 .exact h.elim
theorem QP{ob:Obj}{v:Nat->Value}(hp:Plain [] (execOp a.eval o))(hrun:∀w1,(execOp a.eval o).run P w1=.ok (.value (v w1.heap.size)) (w1.alloc ob))(h:Tq w K ob v)(hK:∀v w',K v w'->K' v w'):iG P o a.eval w K' :=
 .of λw₁ hs=>⟨hp,_,_,.inl (hrun w₁),hK _ _ (h _ _ (je w₁ ob) (((GB.refl none w).same hs).trans (GB.alloc none w₁ ob)) (by rw[hs.heap];exact Jb0 _))⟩
theorem abA(hr:∀x v,ev s x=some v->a.eval x=v){f:Operand}{args:Array Operand}{ats:Array TypeId}(hop:o.op=.call {callee:=.value f,args,argTypes:=ats})(h:caW E w K (ev s f) (Jr (ev s) args.toList))(hK:∀v w',K v w'->K' v w'):iG P o a.eval w K':=by
 unfold caW at h;split at h
 .rename_i g fs cs vs hf hv
  cases hg:E.fok g with
  |false =>
   rw[hg]at h;dsimp only[iH]at h;obtain⟨v,h⟩:=h;have e1:args.map a.eval=vs.toArray:=by apply Jdv;rw[Jf0];exact Dr hr hv
   have e2:execOp a.eval o=callFunc g ((fs++vs.toArray)++cs):=by
    unfold execOp;rw[hop];show(do let d <- resolve a.eval {callee:=.value f,args,argTypes:=ats} o.type;invoke d.target d.args)=_;unfold resolve;simp only[hr _ _ hf,e1,Deferred.ofValue];rfl
   refine .inl λw₁ hs=>?_
   obtain⟨⟨h1,h2⟩,h3⟩:=h w₁ hs;rw[e2];exact⟨h1,v,w₁,.inl h2,hK _ _ h3⟩
  |true =>
   rw[hg]at h;dsimp only[iH]at h;obtain⟨Post,hc,h⟩:=h;have hb:=E.fns g hg;unfold callable at hb;cases hfn:P.funcs[g]? with
   |none=>rw[hfn]at hb;cases hb
   |some fn =>
    rw[hfn]at hb;simp only[Jdy,Jf8]at hb;have e1:args.map a.eval=vs.toArray:=by apply Jdv;rw[Jf0];exact Dr hr hv
    have q:aV P (execOp a.eval o)=some (.enter g ((fs++vs.toArray)++cs)):=by
     unfold execOp;rw[hop];show aV P (do let d <- resolve a.eval {callee:=.value f,args,argTypes:=ats} o.type;invoke d.target d.args)=_;unfold resolve;simp only[hr _ _ hf,e1,Deferred.ofValue,aD,aF,Jdt,invoke,callFunc];have hp:aV P program=some P:=rfl;rw[hp,Jdt,hfn];dsimp only;rw[Jb5 (by rw[hb.1];decide),Jb5 (by rw[hb.2];decide)];rfl
    exact .inr ⟨g,_,Post,λw=>ja q w,λw=>Jq q w,hc,λv w' hp=>hK _ _ (h v w' hp)⟩
 .exact h.elim
omit [kD P] in
theorem wy{t key e:Nat}(h:zX E t=some (key,e)):P.underlying t=some (.map key e)/\P.underlying key=some (.int .u32)/\∀w,(zeroValue e).run P w=.ok (zv E.T e ((E.T.get e).getD .p)) w:=by
 unfold zX at h;split at h
 .rename_i k' e' ht
  split at h
  .rename_i z h1 h2
   simp only[Jbc,Jcw]at h;obtain⟨rfl,rfl⟩:=h;obtain⟨_,_,d1⟩:=E.tab.ok.is ht;obtain⟨_,_,d2⟩:=E.tab.ok.is h1;obtain⟨_,_,d3⟩:=E.tab.ok.is h2;refine⟨V7 d1.kind▸d1.under,Cb d2.kind▸d2.under,λw=>?_⟩;rw[h2];exact ja (uo d3.info d3.zero) w
  .cases h
 .cases h
theorem LF(hr:∀x v,ev s x=some v->a.eval x=v){t:Nat}{x y:Operand}{ok:Bool}(hop:o.op=.lookup t x y ok)(h:Jt E w K t ok (ev s x) (ev s y))(hK:∀v w',K v w'->K' v w')(hS:∀v w w',cO w w'->K' v w->K' v w'):iG P o a.eval w K':=by
 unfold Jt at h;split at h
 .rename_i m n hx hy
  split at h
  .rename_i key e ht
   obtain⟨h1,h2,h3⟩:=wy ht;obtain⟨f,hm,h⟩:=h;refine .of λw₁ hs=>⟨ni (by rw[hop];rfl) (by rw[hop];rfl),_,w₁,.inl ?_,hS _ _ _ hs (hK _ _ h)⟩
   have e1:execOp a.eval o=(do pure (Next.value (<-Instr.lookup t (a.eval x) (a.eval y) ok))):=by unfold execOp;rw[hop]
   rw[e1,hr _ _ hx,hr _ _ hy,Sem.run_bind,Ee h1 h2 h3 (hm.same hs) ok];cases ok<;>rfl
  .exact h.elim
 .exact h.elim
theorem Wi(hr:∀x v,ev s x=some v->a.eval x=v){t:Nat}{x y z:Operand}(hop:o.op=.mapUpdate t x y z)(h:muW E w K t (ev s x) (ev s y) (ev s z))(hK:∀v w',K v w'->K' v w'):iG P o a.eval w K':=by
 unfold muW at h;split at h
 .rename_i m n v hx hy hz
  split at h
  .rename_i p ht
   obtain⟨key,e⟩:=p;obtain⟨h1,h2,h3⟩:=wy ht;obtain⟨f,hm,h⟩:=h;refine .of λw₁ hs=>?_
   obtain⟨w',g1,g2,g3⟩:=Ob (P:=P) (k:=n) (v:=v) h1 h2 (hm.same hs);refine⟨ni (by rw[hop];rfl) (by rw[hop];rfl),undef,w',.inr ⟨?_,rfl⟩,hK _ _ (h w' g2 (((GB.refl _ w).same hs).trans g3))⟩;rw[N8 hop,hr _ _ hx,hr _ _ hy,hr _ _ hz,Sem.run_bind,g1];rfl
  .exact h.elim
 .exact h.elim
theorem Wj(hr:∀x v,ev s x=some v->a.eval x=v){t t':Nat}{x y:Operand}(hop:o.op=.call {callee:=.builtin .delete,args:=#[x,y],argTypes:=#[t,t']})(h:mdW E w K t t' (ev s x) (ev s y))(hK:∀v w',K v w'->K' v w'):iG P o a.eval w K':=by
 unfold mdW at h;split at h
 .rename_i m n hx hy
  split at h
  .rename_i key e ht
   obtain⟨h1,h2,h3⟩:=wy ht;cases hb:Nat.beq key t' with
   |false=>rw[hb]at h;exact(show False from h).elim
   |true =>
    rw[hb]at h;dsimp only[iH]at h;have:=Jdq hb;subst this;obtain⟨f,hm,h⟩:=h;refine .of λw₁ hs=>?_
    obtain⟨w',g1,g2,g3⟩:=Od (P:=P) (ty:=o.type) (k:=n) h1 h2 (hm.same hs);refine⟨rf hop rfl,.tuple #[],w',.inl ?_,hK _ _ (h w' g2 (((GB.refl _ w).same hs).trans g3))⟩;rw[N9 hop,hr _ _ hx,hr _ _ hy,Sem.run_bind,g1];rfl
  .exact h.elim
 .exact h.elim
theorem Zx(hr:∀x v,ev s x=some v->a.eval x=v){t:Nat}{x:Operand}(hop:o.op=.call {callee:=.builtin .clear,args:=#[x],argTypes:=#[t]})(h:mcW E w K t (ev s x))(hK:∀v w',K v w'->K' v w'):iG P o a.eval w K':=by
 unfold mcW at h;split at h
 .rename_i m hx
  split at h
  .rename_i p ht
   obtain⟨key,e⟩:=p;obtain⟨h1,h2,h3⟩:=wy ht;obtain⟨f,hm,h⟩:=h;refine .of λw₁ hs=>?_
   obtain⟨w',g1,g2,g3⟩:=QE (P:=P) (ty:=o.type) h1 (hm.same hs);refine⟨rf hop rfl,.tuple #[],w',.inl ?_,hK _ _ (h w' g2 (((GB.refl _ w).same hs).trans g3))⟩;rw[Gn hop,hr _ _ hx,Sem.run_bind,g1];rfl
  .exact h.elim
 .exact h.elim
theorem Wl(hr:∀x v,ev s x=some v->a.eval x=v){t:Nat}{x y:Operand}(hop:o.op=.call {callee:=.builtin .append,args:=#[x,y],argTypes:=#[t,t]})(h:apW E w K t (ev s x) (ev s y))(hK:∀v w',K v w'->K' v w')(hS:∀v w w',cO w w'->K' v w->K' v w'):iG P o a.eval w K':=by
 unfold apW at h;split at h
 .rename_i b n c c' hx hy
  split at h
  .rename_i e ht
   split at h
   .rename_i z hz
    obtain⟨_,_,d1⟩:=E.tab.ok.is ht;obtain⟨_,_,d2⟩:=E.tab.ok.is hz;have hu:P.underlying t=some (.slice e):=oD d1.kind▸d1.under;have q:aV P (execOp a.eval o)=some (.value (.slice b n c)):=by
     have e1:execOp a.eval o=(do pure (Next.value (<-Builtin.append_ #[t,t] o.type #[a.eval x,a.eval y]))):=by
      have e:execOp a.eval o=builtin .append #[t,t] o.type (#[x,y].map λ | .const _=>true|_=>false) (#[x,y].map a.eval):=by
       unfold execOp;rw[hop];rfl
      rw[e,show #[x,y].map a.eval=#[a.eval x,a.eval y]by simp];rfl
     rw[e1,hr _ _ hx,hr _ _ hy];have h1:=h.1;cases b<;>simp[Builtin.append_,aD,bA hu,gu d2.info,aF,Builtin.lenOf,Builtin.firstCells,h1,storeCells]
    exact .inl λw₁ hs=>⟨aK.quiet q w₁,_,w₁,.inl (ja q w₁),hS _ _ _ hs (hK _ _ h.2)⟩
   .exact h.elim
  .exact h.elim
 .rename_i b n c ad m c' hx hy
  split at h
  .rename_i e ht
   split at h
   .rename_i z hz
    obtain⟨_,_,d1⟩:=E.tab.ok.is ht;obtain⟨i2,_,d2⟩:=E.tab.ok.is hz;have hu:P.underlying t=some (.slice e):=oD d1.kind▸d1.under;have h0:¬bD E.T e=0:=λe=>by rw[e]at h;exact(show False from h)
    have h0':Nat.beq (bD E.T e) 0=false:=by cases hb:Nat.beq (bD E.T e) 0 with|true=>exact absurd (Jdq hb) h0|false=>rfl
    rw[h0']at h;dsimp only[iH]at h;obtain⟨xs,news,ho,hs,hm,h⟩:=h;unfold LC at hs;split at hs
    .rename_i B off hsp
     obtain⟨nb,tb,hW,h1,h2,h3⟩:=hs;obtain rfl:=Jbm hsp;refine .of λw₁ hs=>?_
     have hby:(n+m)*i2.bytes<=140737488355328:=by
      have:=d2.bytes;calc (n+m)*i2.bytes<=1000000000*2400:=Jf9 hm this
       _<=140737488355328:=by decide
     obtain⟨v',w',g1,g2,g3,g4,g5⟩:=NW (P:=P) (w:=w₁) hop e i2 _ (bD E.T e) i2.bytes hu d2.info d2.zero d2.size rfl (by rw[qN hz];rfl) (by omega) (hr _ _ hx) (ax ho λg _=>by rw[hs.heap]) (hr _ _ hy) (by rw[hs.heap];exact hW) h1 h2 (λu hu=>one_cell (all_eq_true.1 h3 u hu)) (by have:maxLen=9223372036854775807:=rfl;omega) hby;exact⟨rf hop rfl,v',w',.inl g1,hK _ _ (h v' w' g2 (((GB.refl _ w).same hs).trans g3) ⟨by rw[hs.heap]at g4;exact g4,λg eg hc=>by subst eg;exact g5 g c rfl hc⟩)⟩
    .exact hs.elim
   .exact h.elim
  .exact h.elim
 .exact h.elim
theorem LG{n sz:Nat}(z:List Value)(hz:z.length=sz)(h0:0<sz):(Array.range (n*sz)).map (λi=>z.toArray[i%z.toArray.size]!)=((List.range (n*sz)).map λi=>z.getD (i%sz) undef).toArray:=by
 apply Jdv
 rw[Jf0,Array.toList_range];refine map_congr_left λi _=>?_
 have h1:i%sz<z.length:=by rw[hz];exact Nat.mod_lt _ h0
 simp only[Jf5,hz];rw[Jdx,Jcc h1];simp[h1]
omit [kD P] in
theorem LH(hr:∀x v,ev s x=some v->a.eval x=v){t n e:Nat}{ps:Array (Nat×Operand)}{vs:List (Nat×Value)}{z:Ty}{cs:List Value}(hop:o.op=.buildSlice t n ps)(ht:E.T.get t=some (.l e))(hz:E.T.get e=some z)(hv:Lx (ev s) ps.toList=some vs)(hf:xI ((List.range n).map λi=>(i*bD E.T e,bD E.T e)) ((List.range (n*bD E.T e)).map λi=>(zc E.T e).getD (i%bD E.T e) undef) vs=some cs)(hb:n*bD E.T e<=1000)(h0:0<bD E.T e)(w1:World):(execOp a.eval o).run P w1=.ok (.value (.slice (some ⟨w1.heap.size,0,none⟩) n n)) (w1.alloc (.cells cs.toArray e)):=by
 obtain⟨_,_,d1⟩:=E.tab.ok.is ht;obtain⟨_,_,d2⟩:=E.tab.ok.is hz;have hu:P.underlying t=some (.slice e):=oD d1.kind▸d1.under;have e1:execOp a.eval o=(do pure (Next.value (<-Instr.buildSlice t n (ps.map λ(p:Nat×Operand)=>(p.1,a.eval p.2))))):=by unfold execOp;rw[hop]
 have e2:(ps.map λ(p:Nat×Operand)=>(p.1,a.eval p.2))=vs.toArray:=by apply Jdv;rw[Jf0];exact OD hr hv
 rw[e1,e2];have hpl:∀i,(λi=>if i<n then some (i*bD E.T e,bD E.T e)else none) i=((List.range n).map λi=>(i*bD E.T e,bD E.T e))[i]?:=by
  intro i;rw[Jdd];by_cases hi:i<n
  .simp[hi]
  .simp[hi]
 have Dt:=Tj hpl hf;have mono:∀(vs:List (Nat×Value)) (cs out:Array Value),Instr.fill (λi=>if i<n then some (i*bD E.T e,bD E.T e)else none) cs vs=some out->Instr.fill (λi=>some (i*bD E.T e,bD E.T e)) cs vs=some out:=by
  intro vs;induction vs with
  |nil=>exact λ_ _ h=>h
  |cons p r ih =>
   intro cs out h;obtain⟨i,v⟩:=p;unfold Instr.fill at h |-;by_cases hi:i<n
   .rw[Jb6 hi]at h
    dsimp only at h |-;split
    .rename_i hc;rw[Jb6 hc]at h;cases h
    .rename_i hc;rw[Jb5 hc]at h;exact ih _ _ h
   .rw[Jb5 hi]at h;cases h
 have Dt:=mono _ _ _ Dt;rw[<-LG (n:=n) (sz:=bD E.T e) (zc E.T e) rfl h0]at Dt;have hsz:¬n*bD E.T e>2^24:=by omega
 have hzr:(zeroValue e).run P w1=.ok (zv E.T e z) w1:=ja (uo d2.info d2.zero) w1;have hsr:(sizeOf e).run P w1=.ok (bD E.T e) w1:=by rw[ja (gu d2.info) w1,d2.size]
 have hur:(underlying t).run P w1=.ok (.slice e) w1:=ja (bA hu) w1;have hzc:(zv E.T e z).cells=(zc E.T e).toArray:=qN hz;have e3:(Instr.buildSlice t n vs.toArray).run P w1=.ok (.slice (some ⟨w1.heap.size,0,none⟩) n n) (w1.alloc (.cells cs.toArray e)):=by
  unfold Instr.buildSlice;rw[Sem.run_bind,hur];simp only[Result.andThen_ok];rw[Sem.run_bind,hsr];simp only[Result.andThen_ok];by_cases hn:n*bD E.T e=0
  .rw[Jb5 hsz,Jb6 hn]
   have hz0:∀f:Nat->Value,Array.map f (Array.range (n*bD E.T e))=#[]:=λf=>by rw[hn];simp
   rw[hz0]at Dt;show Sem.run P (match Instr.fill (λi=>some (i*bD E.T e,bD E.T e)) (Array.map (λi=>(#[]:Array Value)[i%(#[]:Array Value).size]!) (Array.range (n*bD E.T e))) vs with
    |some cells=>do pure (Value.slice (some (<-newRow e cells)) n n)
    | _ => stuck "buildSlice: a part of the wrong size") w1 = _
   rw[hz0,Dt];rfl
  rw[Jb5 hsz,Jb5 hn];rw[Sem.run_bind,hzr];simp only[Result.andThen_ok];rw[hzc];show Sem.run P (match Instr.fill (λi=>some (i*bD E.T e,bD E.T e)) (Array.map (λi=>(zc E.T e).toArray[i%(zc E.T e).toArray.size]!) (Array.range (n*bD E.T e))) vs with
   |some cells=>do pure (Value.slice (some (<-newRow e cells)) n n)
   | _ => stuck "buildSlice: a part of the wrong size") w1 = _
  rw[Dt];rfl
 rw[Sem.run_bind,e3];rfl
theorem Zy(hr:∀x v,ev s x=some v->a.eval x=v){t:Nat}{x:Operand}(hop:o.op=.range t x)(h:rgW E w K t (ev s x))(hK:∀v w',K v w'->K' v w'):iG P o a.eval w K':=by
 unfold rgW at h;split at h
 .rename_i m hx
  split at h
  .rename_i p ht
   obtain⟨key,e⟩:=p;obtain⟨h1,h2,h3⟩:=wy ht;obtain⟨l,hm,h⟩:=h;refine .of λw₁ hs=>?_
   obtain⟨ob,g1,g2⟩:=QF (P:=P) h1 (hm.same hs);refine⟨ni (by rw[hop];rfl) (by rw[hop];rfl),_,_,.inl ?_,hK _ _ (h _ w₁.heap.size g2 (((GB.refl none w).same hs).trans (GB.alloc none w₁ ob)) (by rw[hs.heap];exact Jb0 _))⟩;rw[Qz hop,hr _ _ hx,Sem.run_bind,g1];rfl
  .exact h.elim
 .exact h.elim
theorem abC(hr:∀x v,ev s x=some v->a.eval x=v){x:Operand}(hop:o.op=.next x false)(h:nxW w K (ev s x))(hK:∀v w',K v w'->K' v w')(hS:∀v w w',cO w w'->K' v w->K' v w'):iG P o a.eval w K':=by
 unfold nxW at h;split at h
 .rename_i it hx
  obtain⟨m,l,todo,cur,hI,h1,h2⟩:=h;refine .of λw₁ hs=>⟨ni (by rw[hop];rfl) (by rw[hop];rfl),?_⟩
  have hI1:nS w₁ it m l todo cur:=hI.keep (by rw[hs.heap]) (by rw[hs.heap]);rcases Te (P:=P) (ty:=o.type) hI1 with⟨he,hrun⟩|⟨i,p,w',hp,hrun,hI',hg⟩
  .refine⟨_,w₁,.inl ?_,hS _ _ _ hs (hK _ _ (h1 he))⟩
   rw[Jo hop,hr _ _ hx,Sem.run_bind,hrun];rfl
  .refine⟨_,w',.inl ?_,hK _ _ (h2 i p w' hp hI' (((GB.refl _ w).same hs).trans hg))⟩
   rw[Jo hop,hr _ _ hx,Sem.run_bind,hrun];rfl
 .exact h.elim
theorem Zz(hr:∀x v,ev s x=some v->a.eval x=v){x:Operand}(hop:o.op=.entry x)(h:enW w K (ev s x))(hK:∀v w',K v w'->K' v w')(hS:∀v w w',cO w w'->K' v w->K' v w'):iG P o a.eval w K':=by
 unfold enW at h;split at h
 .rename_i it hx
  obtain⟨m,l,todo,p,hI,h1⟩:=h;refine .of λw₁ hs=>⟨ni (by rw[hop];rfl) (by rw[hop];rfl),_,w₁,.inl ?_,hS _ _ _ hs (hK _ _ h1)⟩
  have e1:execOp a.eval o=(do pure (Next.value (<-Instr.entry (a.eval x)))):=by unfold execOp;rw[hop]
  rw[e1,hr _ _ hx,Sem.run_bind,QG (P:=P) (hI.keep (w':=w₁) (by rw[hs.heap]) (by rw[hs.heap]))];rfl
 .exact h.elim
theorem Tu{w:World}{B off k:Nat}{nb:Array Value}{tb:TypeId}{news:List Value}(hW:w.heap[B]?=some (.cells nb tb))(h:aG nb.toList off k=news):∀j u,news[j]?=some u->w.cell? ((⟨B,off,none⟩:Addr).add j)=some u:=λj u hu=>by
 have hadd:(⟨B,off,none⟩:Addr).add j=⟨B,off+j,none⟩:=by unfold Addr.add;split<;>simp_all
 rw[hadd,zQ hW];rw[<-h]at hu;unfold aG at hu;rw[Jc5]at hu;split at hu
 .rw[Jcf]at hu;simpa using hu
 .cases hu
theorem Tv{w w₁:World}(hs:cO w w₁)(g:Nat)(cs:Array Value):GB (some g) w (w₁.setRow g cs):=((GB.refl _ w).same hs).trans ⟨rfl,rfl,by simp,λx _ hne=>setRow_other w₁ g x _ (λe=>hne (by rw[e]))⟩
theorem abD(hr:∀x v,ev s x=some v->a.eval x=v){t t':Nat}{x y:Operand}(hop:o.op=.call {callee:=.builtin .copy,args:=#[x,y],argTypes:=#[t,t']})(h:cpW E w K t (ev s x) (ev s y))(hK:∀v w',K v w'->K' v w'):iG P o a.eval w K':=by
 unfold cpW at h;split at h
 .rename_i g off n c ad m c' hx hy
  split at h
  .rename_i e ht
   split at h
   .rename_i z hz
    obtain⟨_,_,d1⟩:=E.tab.ok.is ht;obtain⟨i2,_,d2⟩:=E.tab.ok.is hz;have hu:P.underlying t=some (.slice e):=oD d1.kind▸d1.under;obtain⟨cur,te,news,hg,hsrc,hfit,h⟩:=h;unfold LC at hsrc;split at hsrc
    .rename_i B o2 hsp
     obtain⟨nb,tb,hW,h1,h2,h3⟩:=hsrc;obtain rfl:=Jbm hsp;refine .of λw₁ hs=>?_
     have hg1:w₁.heap[g]?=some (.cells cur.toList.toArray te):=by rw[hs.heap];exact hg
     have hrun:=Tm (P:=P) w₁ t t' o.type e (bD E.T e) g off n c ⟨B,o2,none⟩ m c' cur.toList te news hu (by rw[d2.info,Jbb,d2.size]) hg1 h2 (Tu (by rw[hs.heap];exact hW) h1) (by rw[Array.length_toList];exact hfit) (λu hu=>one_cell (all_eq_true.1 h3 u hu));rw[show splice cur.toList off news=cur.toList.take off++news++cur.toList.drop (off+news.length)by simp[splice]]at hrun;refine⟨rf hop rfl,_,_,.inl ?_,hK _ _ (h _ (setRow_heap w₁ g _ _ te _ hg1) (Tv hs g _))⟩;have e1:execOp a.eval o=(do pure (Next.value (<-Builtin.copy_ #[t,t'] o.type #[a.eval x,a.eval y]))):=by
      have e:execOp a.eval o=builtin .copy #[t,t'] o.type (#[x,y].map λ | .const _=>true|_=>false) (#[x,y].map a.eval):=by
       unfold execOp;rw[hop];rfl
      rw[e,show #[x,y].map a.eval=#[a.eval x,a.eval y]by simp];rfl
     rw[e1,hr _ _ hx,hr _ _ hy,Sem.run_bind,hrun];rfl
    .exact hsrc.elim
   .exact h.elim
  .exact h.elim
 .exact h.elim
theorem Wm(hr:∀x v,ev s x=some v->a.eval x=v){t e:Nat}{x:Operand}(hop:o.op=.call {callee:=.builtin .clear,args:=#[x],argTypes:=#[t]})(ht:E.T.get t=some (.l e))(h:csW E w K e (ev s x))(hK:∀v w',K v w'->K' v w'):iG P o a.eval w K':=by
 unfold csW at h;split at h
 .rename_i g off n c hx
  split at h
  .rename_i z hz
   obtain⟨_,_,d1⟩:=E.tab.ok.is ht;obtain⟨i2,_,d2⟩:=E.tab.ok.is hz;have hu:P.underlying t=some (.slice e):=oD d1.kind▸d1.under;cases ho:(zc E.T e).all one with
   |false=>rw[ho]at h;exact(show False from h).elim
   |true =>
    rw[ho]at h;dsimp only[iH]at h;obtain⟨h0,cur,te,hg,hfit,h⟩:=h;refine .of λw₁ hs=>?_
    have hg1:w₁.heap[g]?=some (.cells cur.toList.toArray te):=by rw[hs.heap];exact hg
    obtain⟨zs,hzl,hrun⟩:=QM (P:=P) w₁ t o.type e i2 _ hu d2.info d2.zero (by rw[qN hz,d2.size];rfl) (by rw[qN hz];exact λv hv=>one_cell (all_eq_true.1 ho v (by simpa using hv))) g off n c h0 cur.toList te hg1 (by rw[Array.length_toList,d2.size];exact hfit);rw[d2.size]at hzl;rw[show splice cur.toList off zs=cur.toList.take off++zs++cur.toList.drop (off+zs.length)by simp[splice]]at hrun;refine⟨rf hop rfl,_,_,.inl ?_,hK _ _ (h zs _ hzl (setRow_heap w₁ g _ _ te _ hg1) (Tv hs g _))⟩;rw[Gn hop,hr _ _ hx,Sem.run_bind,hrun];rfl
  .exact h.elim
 .exact h.elim
theorem ZA(hr:∀x v,ev s x=some v->a.eval x=v){t t':Nat}{x y:Operand}(hop:o.op=.call {callee:=.builtin .append,args:=#[x,y],argTypes:=#[t,t']})(h:azW E w K t t' (ev s x) (ev s y))(hK:∀v w',K v w'->K' v w'):iG P o a.eval w K':=by
 unfold azW at h;split at h
 .rename_i b n c k m hx hy
  split at h
  .rename_i e kn ht htn
   split at h
   .rename_i z hz
    obtain⟨_,_,d1⟩:=E.tab.ok.is ht;obtain⟨i2,_,d2⟩:=E.tab.ok.is hz;obtain⟨_,_,d3⟩:=E.tab.ok.is htn;have hu:P.underlying t=some (.slice e):=oD d1.kind▸d1.under;have hun:P.underlying t'=some (.int kn):=Cb d3.kind▸d3.under;have h0:¬bD E.T e=0:=λe=>by rw[e]at h;exact(show False from h)
    have h0':Nat.beq (bD E.T e) 0=false:=by cases hb:Nat.beq (bD E.T e) 0 with|true=>exact absurd (Jdq hb) h0|false=>rfl
    rw[h0']at h;dsimp only[iH]at h;obtain⟨xs,ho,hm,hc,hb,h⟩:=h;obtain⟨m',rfl⟩:∃m':Nat,m=m':=⟨m.toNat,by omega⟩;refine .of λw₁ hs=>?_
    have hby:(n+m')*i2.bytes<=140737488355328:=by
     have:=d2.bytes;calc (n+m')*i2.bytes<=1000000000*2400:=Jf9 (by omega) this
      _<=140737488355328:=by decide
    obtain⟨b',cap,cur,w',g1,g2,g3,g4,g5,g6,g7,g8⟩:=Tn (P:=P) w₁ t t' o.type e i2 _ k kn hu hun d2.info d2.zero (by rw[qN hz,d2.size];rfl) (.slice b n c) n xs (by rw[d2.size];exact ax ho λg _=>by rw[hs.heap]) m' (by omega) (by rw[d2.size];omega) (λa c2 e=>by cases e;omega) hby (by have:maxLen=9223372036854775807:=rfl;omega);rw[d2.size]at g3 g4;refine⟨rf hop rfl,_,_,.inl ?_,hK _ _ (h b' cap cur w' g2 g3 g4 (by rw[Jfa];exact g5) g6 (((GB.refl _ w).same hs).trans g7) (by rw[hs.heap]at g8;exact g8))⟩;have e1:execOp a.eval o=(do pure (Next.value (<-Builtin.append_ #[t,t'] o.type #[a.eval x,a.eval y]))):=by
     have e:execOp a.eval o=builtin .append #[t,t'] o.type (#[x,y].map λ | .const _=>true|_=>false) (#[x,y].map a.eval):=by
      unfold execOp;rw[hop];rfl
     rw[e,show #[x,y].map a.eval=#[a.eval x,a.eval y]by simp];rfl
    rw[e1,hr _ _ hx,hr _ _ hy,Sem.run_bind,g1];rfl
   .exact h.elim
  .exact h.elim
 .exact h.elim
theorem aep(hr:∀x v,ev s x=some v->a.eval x=v){t t':Nat}{x:Operand}(hop:o.op=.convert t t' x)(h:cvW E w K t t' (ev s x))(hK:∀v w',K v w'->K' v w')(hS:∀v w w',cO w w'->K' v w->K' v w'):iG P o a.eval w K':=by
 unfold cvW at h;split at h
 .rename_i b n c hx
  split at h
  .rename_i e ht ht'
   split at h
   .rename_i hz
    obtain⟨_,_,d1⟩:=E.tab.ok.is ht;obtain⟨_,_,d2⟩:=E.tab.ok.is hz;obtain⟨_,_,d3⟩:=E.tab.ok.is ht';obtain⟨l,ho,h⟩:=h;refine .of λw₁ hs=>⟨ni (by rw[hop];rfl) (by rw[hop];rfl),_,w₁,.inl ?_,hS _ _ _ hs (hK _ _ h)⟩
    have e1:execOp a.eval o=(do pure (Next.value (<-convert t t' (a.eval x)))):=by unfold execOp;rw[hop]
    rw[e1,hr _ _ hx,Sem.run_bind,Wh t t' (oD d1.kind▸d1.under) (Cb d2.kind▸d2.under) (zV d3.kind▸d3.under) (ax ho λg _=>by rw[hs.heap])];rfl
   .exact h.elim
  .exact h.elim
 .exact h.elim
theorem abE(hr:∀x v,ev s x=some v->a.eval x=v){t:Nat}{x y:Operand}(hop:o.op=.makeSlice t x y)(h:msW E w K t (ev s x) (ev s y))(hK:∀v w',K v w'->K' v w'):iG P o a.eval w K':=by
 unfold msW at h;split at h
 .rename_i k i k' j hx hy
  split at h
  .rename_i e ht
   split at h
   .rename_i z hz
    obtain⟨_,_,d1⟩:=E.tab.ok.is ht;obtain⟨i2,_,d2⟩:=E.tab.ok.is hz;have hu:P.underlying t=some (.slice e):=oD d1.kind▸d1.under;obtain⟨rfl,h0,h1,h⟩:=h;refine QP (ni (by rw[hop];rfl) (by rw[hop];rfl)) (λw1=>?_) h hK;have e1:execOp a.eval o=(do pure (Next.value (<-Instr.makeSlice t (a.eval x) (a.eval y)))):=by unfold execOp;rw[hop]
    have hb:=d2.bytes;have hb':(i2.bytes:Int)*i<=281474976710656:=by
     have h2:(i2.bytes:Int)*i<=2400*1000:=Int.mul_le_mul (by omega) h1 h0 (by omega);omega
    rw[e1,hr _ _ hx,hr _ _ hy,Sem.run_bind,run_make w1 t e i2 _ hu d2.info d2.zero k k' i i h0 (Jfb _) hb' (by omega)];simp only[Result.andThen_ok];have e2:madeCells (zv E.T e z).cells (i.toNat*i2.size)=((List.range (i.toNat*bD E.T e)).map λq=>(zc E.T e).getD (q%bD E.T e) undef).toArray:=by
     rw[qN hz,d2.size];by_cases hs0:0<bD E.T e
     .exact LG (zc E.T e) rfl hs0
     .have:bD E.T e=0:=by omega
      rw[this,Nat.mul_zero];simp[madeCells]
    rw[e2];rfl
   .exact h.elim
  .exact h.elim
 .exact h.elim
theorem Tw(hr:∀x v,ev s x=some v->a.eval x=v)(h:OH E s w K o)(hK:∀v w',K v w'->K' v w')(hS:∀v w w',cO w w'->K' v w->K' v w'):iG P o a.eval w K':=by
 have hq:=QL E.tab hr o;have qt:∀{x:Value},aV P (execOp a.eval o)=some (.value x)->K x w->iG P o a.eval w K':=λ{x} q hk =>
  .inl λw₁ hs=>⟨aK.quiet q w₁,_,w₁,.inl (ja q w₁),hS _ _ _ hs (hK _ _ hk)⟩
 unfold OH at h;generalize hqa:iT E.T (ev s) o.op=qa at h hq;cases qa with
 |v x=>exact qt hq h
 |c p x=>exact qt (hq h.1) h.2
 |d p x y =>
  rcases h with⟨hp,h⟩|h
  .rw[hq.2 hp]at h;exact qt hq.1 h
  .exact qt hq.1 h
 |no =>
  clear hq hqa;dsimp only at h;generalize hop:o.op=op at h;unfold QO at h;split at h
  .exact Zy hr hop h hK
  .exact abC hr hop h hK hS
  .exact Zz hr hop h hK hS
  .exact Tt hr hop h hK hS
  .exact Zw hr hop h hK
  .split at h
   .rename_i v z hx hz
    refine QP (ni (by rw[hop];rfl) (by rw[hop];rfl)) (λw1=>?_) h hK;unfold execOp;rw[hop];dsimp only;rw[hr _ _ hx];rfl
   .exact h.elim
  .rename_i t
   split at h
   .rename_i z hz
    obtain⟨_,_,d⟩:=E.tab.ok.is hz;refine QP (ni (by rw[hop];rfl) (by rw[hop];rfl)) (λw1=>?_) h hK;have hzr:(zeroValue t).run P w1=.ok (zv E.T t z) w1:=ja (uo d.info d.zero) w1;have e1:execOp a.eval o=(do pure (Next.value (<-Instr.alloc t true (.tuple #[])))):=by unfold execOp;rw[hop]
    rw[e1,Sem.run_bind,Instr.alloc,Sem.run_bind,hzr];simp only[Result.andThen_ok];rw[<-qN hz];rfl
   .exact h.elim
  .rename_i t n ps
   split at h
   .rename_i e vs ht hv
    split at h
    .rename_i z cs hz hf
     cases hb:(Nat.ble (n*bD E.T e) 1000&&Nat.blt 0 (bD E.T e))with
     |false=>rw[hb]at h;exact(show False from h).elim
     |true =>
      rw[hb]at h;dsimp only[iH]at h;simp only[Jdy]at hb;exact QP (ni (by rw[hop];rfl) (by rw[hop];rfl)) (λw1=>LH hr hop ht hz hv hf (Jc4 hb.1) (by have:=Jc4 hb.2;omega) w1) h hK
    .exact h.elim
   .exact h.elim
  .exact aep hr hop h hK hS
  .exact abE hr hop h hK
  .split at h
   .refine .of λw₁ hs=>⟨ni (by rw[hop];rfl) (by rw[hop];rfl),(.map (some w₁.heap.size)),w₁.alloc (.map #[] 0),.inl ?_,hK _ _ (h _ w₁.heap.size ?_ (((GB.refl none w).same hs).trans (GB.alloc none w₁ _)) (by rw[hs.heap];exact Jb0 _))⟩
    .unfold execOp
     rw[hop];rfl
    .exact⟨[],Emp.agQ (je w₁ _),λ_=>rfl⟩
   .exact h.elim
  .exact LF hr hop h hK hS
  .exact Wi hr hop h hK
  .exact abA hr hop h hK
  .rename_i b args ats
   split at h
   .rename_i x y t t' ha ht
    obtain rfl:args=#[x,y]:=Jdv ha;obtain rfl:ats=#[t,t']:=Jdv ht;cases hb:Nat.beq t t' with
    |false=>rw[hb]at h;exact ZA hr hop h hK
    |true =>
     rw[hb]at h;dsimp only[iH]at h;have:=Jdq hb;subst this;exact Wl hr hop h hK hS
   .rename_i x y t t' ha ht
    obtain rfl:args=#[x,y]:=Jdv ha;obtain rfl:ats=#[t,t']:=Jdv ht;exact abD hr hop h hK
   .rename_i x y t t' ha ht
    obtain rfl:args=#[x,y]:=Jdv ha;obtain rfl:ats=#[t,t']:=Jdv ht;exact Wj hr hop h hK
   .rename_i x t ha ht
    obtain rfl:args=#[x]:=Jdv ha;obtain rfl:ats=#[t]:=Jdv ht;split at h
    .rename_i e he
     exact Wm hr hop he h hK
    .exact Zx hr hop h hK
   .exact h.elim
  .exact h.elim
end
end
