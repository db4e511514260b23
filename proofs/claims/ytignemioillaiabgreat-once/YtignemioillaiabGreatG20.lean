/- Lemmas. -/
import Derived.Test.YtignemioillaiabGreatG19
namespace Go.Proofs.YtignemioillaiabGreat
set_option maxHeartbeats 8000000
set_option maxRecDepth 100000
open List
section
open Go Go.Conc
inductive Ex where
 |n|x (id:Nat)|r
noncomputable def blE(id:Nat)(e:Ex):Ex:=Ex.rec (motive:=λ_=>Ex) .n (λj=>bif Nat.beq id j then .n else .x j) .r e
noncomputable def TC(P Q:Prop)(e:Ex):Prop:=Ex.rec (motive:=λ_=>Prop) P (λ_=>Q) Q e
def gz:Sg->Sg->Prop
 | [],_=>True
 |(i,v)::r,s=>at? s i=some v/\gz r s
theorem sb:∀{q s:Sg},q.map (λp=>at? s p.1)=q.map (λp=>some p.2)->gz q s
 | [],_,_=>trivial
 |(_,_)::_,_,h=>by
  rw[Jcj,Jcj]at h;exact⟨(List.cons.inj h).1,sb (List.cons.inj h).2⟩
theorem gz.get:∀{q s:Sg} {i:Nat} {v:Value},gz q s->at? q i=some v->at? s i=some v
 | [],_,_,_,_,h=>by cases h
 |(j,u)::r,s,i,v,hs,h=>by
  rw[at?_cons]at h;cases hb:Nat.beq i j with
  |true =>
   rw[hb]at h;have:=Jdq hb;subst this;simp only[cond_true,Jbc]at h;rw[<-h];exact hs.1
  |false=>rw[hb]at h;exact gz.get hs.2 h
theorem Fit.sub{n:Nat}{q s:Sg}{a:Act}(h:Fit n s a)(hs:gz q s):Fit n q a:=⟨h.defers,h.size,λi v hi=>h.get i v (hs.get hi)⟩
section
variable{P:Program}[kD P](E:ng P)(n:Nat)
noncomputable def qE(c:Code):(Ex->Sg->World->Prop)->Sg->World->Prop:=Code.rec (motive:=λ_=>(Ex->Sg->World->Prop)->Sg->World->Prop)
 (λK s w=>K .n s w)
 (λ_ ops draw K s w=>match draw with
  |false=>LJ E n ops (K .n) ops.toList s w
  |true=>drW E n ops (K .n) s w)
 (λ_ _ ia ib K s w=>ia (λe s w=>TC (ib K s w) (K e s w) e) s w)
 (λc _ _ ia ib K s w=>match ev s c with
  |some (.bool t)=>bif t then ia K s w else ib K s w
  |_=>False)
 (λid _ ic K s w=>ic (λe s w=>K (blE id e) s w) s w)
 (λ_ ic K s w=>∃I:Nat->Sg->World->Prop,(∃m q,I m q w/\gz q s)/\∀m s w,I m s w->ic (λe s w=>TC (∃m' q,I m' q w/\gz q s/\m'<m) (K e s w) e) s w)
 (λ_ _ _ _ _ _ _ _ _=>False)
 (λid K s w=>K (.x id) s w)
 (λ_ _ _ _ _=>False)
 (λ_ _ _ _=>False)
 (λ_ _ _ _=>False)
 (λK s w=>K .r s w)
 (λ_ _ _ _=>False) c
end
section
variable{P:Program}[kD P]{main:Bool}{D:World->World->Array Event->Prop}{X:Goroutine->World->Prop}{b:Frame}{cs:List Frame}{E:ng P}{n:Nat}
def Aft(X:Goroutine->World->Prop)(b:Frame)(cs:List Frame)(n:Nat)(k:List Item)(e:Ex)(s:Sg)(w:World):Prop:=∀a,Fit n s a->match e with
 |.n=>X (G (b.at a k) cs) w
 |.x id=>∃k',exitTo id k=some k'/\X (G (b.at a k') cs) w
 |.r=>∀todo,X (G {b.at a todo with mode:=.returning} cs) w
theorem ES(hX:SX P main D X)(hk:b.kind≠.early)(hm:P.follows .mixedOrders=true):∀(c:Code) (K:Ex->Sg->World->Prop) (k:List Item),(∀e s w,K e s w->Aft X b cs n k e s w)->∀(s:Sg) (w:World) (a:Act),Fit n s a->qE E n c K s w->X (G (b.at a (.code c::k)) cs) w:=by
 intro c;induction c with
 |skip=>exact λK k hK s w a hf h=>hX.c.skip (hK _ _ _ h a hf)
 |region id ops draw =>
  intro K k hK s w a hf h;cases draw with
  |false =>
   refine hX.c.region (range' 0 ops.toList.length) (by rw[Array.length_toList,range_eq_range']) ?_;exact ZC hX hk (λs w h a hf=>hK .n s w h a hf) ops.toList 0 s w a (λj o hj=>by rw[Jbh];rwa [Jdw]at hj) hf h
  |true=>exact abQ hX hk hm (λs w h a hf=>hK .n s w h a hf) hf h
 |seq x y ihx ihy =>
  intro K k hK s w a hf h;refine hX.c.seq (ihx _ (.code y::k) (λe s w he a hf=>?_) s w a hf h);cases e with
  |n=>exact ihy K k hK s w a hf he
  |x j=>exact hK (.x j) s w he a hf
  |r=>exact hK .r s w he a hf
 |cond c x y ihx ihy =>
  intro K k hK s w a hf h;change (match ev s c with|some (.bool t)=>bif t then qE E n x K s w else qE E n y K s w|_=>False)at h;split at h
  .rename_i t ht
   refine hX.c.cond t (hf.ev _ _ ht) ?_;cases t with
   |true=>exact ihx K k hK s w a hf h
   |false=>exact ihy K k hK s w a hf h
  .exact h.elim
 |block id c ih =>
  intro K k hK s w a hf h;refine hX.c.block (ih _ (.inBlock id::k) (λe s w he a hf=>?_) s w a hf h);cases e with
  |n=>exact hX.c.inBlock (hK .n s w he a hf)
  |x j =>
   have he:K (bif Nat.beq id j then .n else .x j) s w:=he;cases hb:Nat.beq id j with
   |true =>
    rw[hb]at he;have he:K .n s w:=he;have:=Jdq hb;subst this;exact⟨k,by simp[exitTo],hK .n s w he a hf⟩
   |false =>
    rw[hb]at he;have he:K (.x j) s w:=he;obtain⟨k',h1,h2⟩:=hK (.x j) s w he a hf;have hne:¬id=j:=λe=>by subst e;rw[Nat.beq_refl]at hb;cases hb
    exact⟨k',by unfold exitTo;rw[Jb5 (by simpa using hne)];exact h1,h2⟩
  |r=>exact hK .r s w he a hf
 |loop c ih =>
  intro K k hK s w a hf h;obtain⟨I,⟨m,q,hI,hq⟩,hstep⟩:=h;refine hX.c.loop ?_;suffices hh:∀N m q w a,m<=N->I m q w->Fit n q a->X (G (b.at a (.code c::.inLoop c::k)) cs) w from hh m m q w a (Jb0 _) hI (hf.sub hq)
  intro N;induction N with
  |zero =>
   intro m q w a hmN hI hf;refine ih _ (.inLoop c::k) (λe s w he a hf=>?_) q w a hf (hstep m q w hI);cases e with
   |n=>obtain⟨m',q',_,_,h3⟩:=he;omega
   |x j=>exact hK (.x j) s w he a hf
   |r=>exact hK .r s w he a hf
  |succ N ihN =>
   intro m q w a hmN hI hf;refine ih _ (.inLoop c::k) (λe s w he a hf=>?_) q w a hf (hstep m q w hI);cases e with
   |n=>obtain⟨m',q',h1,h2,h3⟩:=he;exact hX.c.inLoop (ihN m' q' w a (by omega) h1 (hf.sub h2))
   |x j=>exact hK (.x j) s w he a hf
   |r=>exact hK .r s w he a hf
 |exit id =>
  intro K k hK s w a hf h;obtain⟨k',h1,h2⟩:=hK (.x id) s w h a hf;exact hX.c.exit h1 h2
 |ret=>exact λK k hK s w a hf h=>hX.c.ret (hK .r s w h a hf _)
 |_=>intro K k hK s w a hf h;exact h.elim
end
noncomputable def zg{P:Program}(E:ng P)(w:World)(s:Sg)(K:List Value->Prop):List ResultVar->Prop
 | []=>K []
 |.tmp t::r=>match at? s t with
  |some v=>zg E w s (λl=>K (v::l)) r
  |none=>False
 |.cell p t::r=>match at? s p with
  |some pv=>ze E w (λv _=>zg E w s (λl=>K (v::l)) r) t (some pv)
  |none=>False
def IB(Post:Value->World->Prop)(w:World):List Value->Prop
 | [v]=>Post v w
 |l=>Post (.tuple l.toArray) w
noncomputable def yB{P:Program}(E:ng P)(rs:List ResultVar)(Post:Value->World->Prop):Ex->Sg->World->Prop
 |.x _,_,_=>False
 |_,s,w=>zg E w s (IB Post w) rs
def uY:List Value->Nat->Sg
 | [],_=>[]
 |v::r,i=>(i,v)::uY r (i+1)
theorem zZ:∀{l:List Value} {i j:Nat} {v:Value},at? (uY l i) j=some v->∃d,j=i+d/\l[d]?=some v
 | [],_,_,_,h=>by cases h
 |u::r,i,j,v,h=>by
  rw[uY,at?_cons]at h;cases hb:Nat.beq j i with
  |true =>
   rw[hb]at h;have:=Jdq hb;subst this;exact⟨0,rfl,by simpa using h⟩
  |false =>
   rw[hb]at h;obtain⟨d,h1,h2⟩:=zZ h;exact⟨d+1,by omega,h2⟩
section
variable{P:Program}{E:ng P}{w:World}{s:Sg}
theorem abW{t:Nat}{pv:Value}{K:Value->World->Prop}(h:ze E w K t (some pv)):∃ad v,pv=.pointer (some ad)/\K v w/\∀w₁,w₁.heap=w.heap->(loadVar t ad).run P w₁=.ok v w₁:=by
 let o : Oper := ⟨none, .load t (.const pv), 0, "", #[], none⟩
 let a:Act:=⟨#[],[]⟩
 have hh:OL E w t (λv F=>K v w/\∀w₁,w₁.heap=w.heap->F w₁) (ev [] (.const pv)):=by
  unfold ze at h;unfold OL;have e:ev [] (.const pv)=some pv:=rfl;rw[e];split at h
  .rename_i B off hx
   cases hx
   dsimp only;split at h
   .rename_i y hy
    rw[hy];obtain⟨xs,ty,hW,h⟩:=h;refine⟨xs,ty,hW,?_⟩;cases hs:kQ y with
    |true =>
     rw[hs]at h;dsimp only[iH]at h |-;cases h0:Nat.beq (bD E.T t) 0 with
     |true=>rw[h0]at h;exact(show False from h).elim
     |false=>rw[h0]at h;dsimp only at h;obtain⟨c,h1,h2,h3⟩:=h;exact⟨c,h1,h2,h3,λw₁ he=>by rw[he];exact hW⟩
    |false=>rw[hs]at h;dsimp only[iH]at h;obtain⟨v,h1,h3⟩:=h;exact⟨v,h1,h3,λw₁ he=>by rw[he];exact hW⟩
   .exact h.elim
  .exact h.elim
 obtain⟨v,F,⟨g1,g1'⟩,g2,g3,g4⟩:=TA (P:=P) (E:=E) (s:=[]) (a:=a) (o:=o) (λx u hx=>by cases x<;>first|exact Jbm hx|cases hx) rfl hh;obtain⟨ad,rfl⟩:∃ad,pv=.pointer (some ad):=by
  unfold ze at h;split at h
  .rename_i B off hx;cases hx;exact⟨_,rfl⟩
  .exact h.elim
 refine⟨ad,v,rfl,g1,λw₁ he=>?_⟩;have h5:=(g4 w₁ (g1' w₁ he)).2;have e1:execOp a.eval o=(do pure (Next.value (<-Instr.loadAt t (.pointer (some ad))))):=rfl;rw[e1,Sem.run_bind]at h5;have e2:(Instr.loadAt t (.pointer (some ad))).run P w₁=(loadVar t ad).run P w₁:=rfl;rw[e2]at h5;cases hr:(loadVar t ad).run P w₁ with
 |ok u w' =>
  rw[hr]at h5;simp only[Result.andThen_ok]at h5;injection h5 with h6 h7;injection h6 with h6;rw[h6,h7]
 |halt x w'=>rw[hr]at h5;cases h5
def uZ(tmps:Array Value):ResultVar->Sem Value
 |.tmp t=>pure (tmps.getD t undef)
 |.cell p t=>do loadVar t (<-asAddr (tmps.getD p undef))
theorem TE:∀(rs:List ResultVar) (K:List Value->Prop) (tmps:Array Value),(∀i v,at? s i=some v->tmps.getD i undef=v)->zg E w s K rs->∃l,K l/\(rs.mapM (uZ tmps):Sem (List Value)).run P w=.ok l w:=by
 intro rs;induction rs with
 |nil=>intro K tmps _ h;exact⟨[],h,rfl⟩
 |cons x r ih =>
  intro K tmps hf h;cases x with
  |tmp t =>
   unfold zg at h;split at h
   .rename_i v hv
    obtain⟨l,h1,h2⟩:=ih _ tmps hf h;refine⟨v::l,h1,?_⟩;rw[mapM_cons,Sem.run_bind];show Result.andThen (Result.ok (tmps.getD t undef) w) _=_;rw[Result.andThen_ok,Sem.run_bind,h2,hf t v hv];rfl
   .exact h.elim
  |cell p t =>
   unfold zg at h;split at h
   .rename_i pv hv
    obtain⟨ad,v,rfl,h1,h2⟩:=abW h;obtain⟨l,h3,h4⟩:=ih _ tmps hf h1;refine⟨v::l,h3,?_⟩;have e:uZ tmps (.cell p t)=(do loadVar t (<-asAddr (tmps.getD p undef))):=rfl;rw[mapM_cons,Sem.run_bind,e,Sem.run_bind,hf p _ hv];show Result.andThen (Result.andThen (Result.ok ad w) _) _=_;rw[Result.andThen_ok,h2 w rfl,Result.andThen_ok,Sem.run_bind,h4];rfl
   .exact h.elim
end
theorem Yg{P:Program}[kD P](E:ng P)(hm:P.follows .mixedOrders=true){f:FuncId}{fn:Func}{c:Code}{args:List Value}{w:World}{Post:Value->World->Prop}(hf:P.funcs[f]?=some fn)(hb:fn.body=some c)(hn:Nat.ble args.length fn.ntmps=true)(h:qE E fn.ntmps c (yB E fn.results.toList Post) (uY args 0) w){main:Bool}{D:World->World->Array Event->Prop}{X:Goroutine->World->Prop}(hX:SX P main D X){cs:List Frame}(hk:∀fr v w',fr.fn=f->fr.leaving P w' (.returned v)->Post v w'->X (G fr cs) w'):X (G (Frame.enter P f args.toArray .normal) cs) w:=by
 rw[enter_at (P:=P) args.toArray hf hb];have hle:=Jc4 hn;refine ES hX (by unfold Go.Conc.base;exact nofun) hm c _ [] ?_ _ w _ ?_ h
 .intro e s w he a hfit
  have fin:∀todo,zg E w s (IB Post w) fn.results.toList->X (G { (Go.Conc.base f).at a todo with mode:=.returning} cs) w:=by
   intro todo hr;obtain⟨l,h1,h2⟩:=TE _ _ a.tmps hfit.get hr;have hres:(results fn a.tmps).run P w=.ok (if h:l.toArray.size=1 then l.toArray[0]else .tuple l.toArray) w:=by
    have e:results fn a.tmps=(do let vs <- fn.results.mapM (uZ a.tmps);pure (if h:vs.size=1 then vs[0]else .tuple vs)):=by
     unfold results;congr 2
    have e2:(fn.results.mapM (uZ a.tmps)).run P w=.ok l.toArray w:=by
     rw[show fn.results.mapM (uZ a.tmps)=toArray <$> (fn.results.toList.mapM (uZ a.tmps))from Jb7 ..];show Sem.run P ((fn.results.toList.mapM (uZ a.tmps))>>=λl=>pure l.toArray) w=_;rw[Sem.run_bind,h2];rfl
    rw[e,Sem.run_bind,e2];rfl
   refine hk _ (if h:l.toArray.size=1 then l.toArray[0]else .tuple l.toArray) w rfl ⟨rfl,hfit.defers,rfl,fn,hf,hres⟩ ?_;unfold IB at h1;split at h1
   .exact h1
   .rename_i hne
    rw[dif_neg]
    .exact h1
    .intro h1
     simp only[Jf5]at h1;obtain⟨v,rfl⟩:=length_eq_one_iff.1 h1;exact hne v rfl
  cases e with
  |n=>exact hX.c.fin (fin [] he)
  |x j=>exact he.elim
  |r=>exact λtodo=>fin todo he
 .refine⟨rfl,?_,λi v hi=>?_⟩
  .simp;omega
  .obtain⟨d,h1,h2⟩:=zZ hi
   rw[Jbh]at h1;subst h1;have hlt:i<args.length:=(Jcn.1 h2).1;rw[Jcx];show(((args.toArray++Array.replicate _ undef)[i]?).getD undef)=v;rw[Jfg (by simpa using hlt)];simp[h2]
theorem aes{P:Program}(E:ng P)(hm:P.follows .mixedOrders=true){f:FuncId}{fn:Func}{c:Code}{args:List Value}{w:World}{Post:Value->World->Prop}(hf:P.funcs[f]?=some fn)(hb:fn.body=some c)(hn:Nat.ble args.length fn.ntmps=true)(h:qE E fn.ntmps c (yB E fn.results.toList Post) (uY args 0) w):gU P f args.toArray w Post :=
 λ_ _ _ _ hX hk=>Yg E hm hf hb hn h ⟨hX,trivial⟩ hk
def tys:jg:=((3,.i .i64)::(5,.i .u8)::(70,.s [5,59,31,5,4,31,5])::(59,.i .u32)::(55,.s [5,5,49,50,51,52,53])::(31,.i .u64)::(78,.s [5,5,59,31,31,49,51])::(65,.s [5,59,5,31,31,31,5])::(51,.l 70)::(80,.s [5,65,78,5,59])::(49,.l 139)::(83,.s [5,65,70,76,59,80,81,78,5,59])::(135,.s [48,3,3,129,129,59,130,57,55,37,131,132,127,59,130,133])::(48,.s [5,5])::(44,.s [38,3,3,39,40,41,42,3,4])::(76,.s [59,5])::(52,.l 62)::(57,.l 80)::(50,.l 153)::(139,.s [31,31])::(37,.l 97)::(60,.l 78)::(153,.s [31,5])::(178,.s [59,76,80])::(62,.s [59,60])::(102,.s [57,100,51])::(97,.s [48,48,9])::(53,.l 59)::(127,.m 59 178)::(9,.t)::(129,.s [76,127])::(38,.p)::(130,.m 59 80)::(39,.l 67)::(4,.o)::(81,.l 178)::(84,.i .i64)::(131,.i .i64)::(100,.l 55)::(40,.l 57)::(118,.s [116,37])::(41,.l 3)::(95,.s [3,3,3,9,65])::(123,.p)::(42,.l 4)::(116,.l 159)::(133,.m 59 132)::(146,.s [9])::(26,.l 72)::(198,.l 48)::(22,.l 95)::(29,.l 102)::(67,.s [65,5,3])::(159,.l 123)::(169,.l 5)::(34,.l 112)::(112,.s [65,70])::(132,.i .u8)::(273,.l 49)::(275,.l 51)::(280,.i .u64)::(72,.s [70,3])::(74,.l 9)::(105,.a 4 59)::(106,.a 4 70)::(108,.s [4,31,105,106])::[])
theorem abX:OE Tryz.prog tys:=⟨⟨by kernel_rfl⟩,by kernel_rfl⟩
def QU(g:Nat):Bool:=Nat.blt 2 g&&Nat.blt g 210 && !(Nat.beq g 202) && !(Nat.beq g 204)
theorem ZE:((List.range 210).all λg=>!QU g||callable Tryz.prog g)=true:=by kernel_rfl
theorem abY(g:Nat)(h:QU g=true):callable Tryz.prog g=true:=by
 have hg:g<210:=by
  unfold QU at h;simp only[Jdy]at h;have:=Jc4 h.1.1.2;omega
 have:=all_eq_true.1 ZE g (Jc3.2 hg);rw[h]at this;simpa using this
noncomputable def fG:ng Tryz.prog:=⟨tys,QU,abX,abY,λ_=>(0,0)⟩
theorem mixed:Tryz.prog.follows .mixedOrders=true:=by kernel_rfl
abbrev CY:=gU Tryz.prog
abbrev Hl(w:World)(b:Nat)(l:List Value)(t:TypeId):Prop:=w.heap[b]?=some (.cells l.toArray t)
theorem vb{a b:Bool}(h:a=b):Value.bool a=.bool b:=by rw[h]
theorem aj{f:FuncId}{fn:Func}{c:Code}{args:List Value}{w:World}{Post:Value->World->Prop}(hf:Tryz.prog.funcs[f]?=some fn)(hb:fn.body=some c)(hn:Nat.ble args.length fn.ntmps=true)(h:qE fG fn.ntmps c (yB fG fn.results.toList Post) (uY args 0) w):gU Tryz.prog f args.toArray w Post:=aes fG mixed hf hb hn h
structure Rg where
 (src dst seq lo hi:Int)
 rows:List Row
 aX:List ag
structure MC where
 kind:Int
 q:aW
 r:Rg
 (peer seq:Int)
structure bH where
 (n id:Nat)
structure MV where
 (slot:Nat)
 b:bH
 c:MC
def OO:List Nat:=[139,70,78,62,153,59,48,178,76]
def Kz(w w':World):Prop:=∀t∈OO,∀(b:Nat) (c:Array Value),w.heap[b]?=some (.cells c t)->w'.heap[b]?=some (.cells c t)
theorem Kz.refl(w:World):Kz w w:=λ_ _ _ _ h=>h
theorem Kz.trans{a b c:World}(h:Kz a b)(k:Kz b c):Kz a c:=λt ht x o hx=>k t ht x o (h t ht x o hx)
theorem GB.kz{w w':World}(h:GB none w w'):Kz w w':=λ_ _ _ _ hx=>h.get hx nofun
theorem GB.Ei{w w':World}{r:Nat}(h:GB (some r) w w')(hr:∀c,∀t∈OO,w.heap[r]?≠some (.cells c t)):Kz w w':=λt ht b c hx=>h.get hx λe=>hr c t ht (by cases e;exact hx)
def Fz(w:World)(e size:Nat)(v:Value)(n:Nat)(xs:List Value):Prop:=∃a c,v=.slice a n c/\n<=c/\xs.length=n*size/\((a=none/\n=0)\/∃b off cs,a=some ⟨b,off,none⟩/\w.heap[b]?=some (.cells cs e)/\aG cs.toList off (n*size)=xs)
theorem Fz.kz{w w':World}{e size n:Nat}{v:Value}{xs:List Value}(h:Fz w e size v n xs)(k:Kz w w')(he:e∈OO):Fz w' e size v n xs:=by
 obtain⟨a,c,h1,h2,h3,h4⟩:=h;refine⟨a,c,h1,h2,h3,h4.imp id ?_⟩;rintro⟨b,off,cs,h5,h6,h7⟩;exact⟨b,off,cs,h5,k e he b cs h6,h7⟩
theorem Fz.nil(w:World)(e size:Nat):Fz w e size Ptz 0 []:=⟨none,0,rfl,Jb0 _,by simp,.inl ⟨rfl,rfl⟩⟩
def fB(r:Rg)(rv dv:Value):List Value:=[.int .u8 r.src,.int .u8 r.dst,.int .u32 r.seq,.int .u64 r.lo,.int .u64 r.hi,rv,dv]
def dF(c:MC)(rv dv:Value):List Value:=[.int .u8 c.kind,.int .u8 c.q.c,.int .u32 c.q.s,.int .u8 c.q.k,.int .u64 c.q.key,.int .u64 c.q.v,.int .u64 c.q.hi,.int .u8 c.q.to,.int .u8 c.r.src,.int .u8 c.r.dst,.int .u32 c.r.seq,.int .u64 c.r.lo,.int .u64 c.r.hi,rv,dv,.int .u8 c.peer,.int .u32 c.seq]
def kE(v:MV)(rv dv:Value):List Value:=.int .u32 v.slot::.int .u32 v.b.n::.int .u8 v.b.id::dF v.c rv dv
def aS(w:World)(r:Rg)(rv dv:Value):Prop:=Fz w 139 2 rv r.rows.length (r.rows.map Row.cells).flatten/\Fz w 70 7 dv r.aX.length (r.aX.map ag.cells).flatten
theorem aS.kz{w w':World}{r:Rg}{rv dv:Value}(h:aS w r rv dv)(k:Kz w w'):aS w' r rv dv:=⟨h.1.kz k (by decide),h.2.kz k (by decide)⟩
def kF(w:World)(v:Value)(c:MC):Prop:=∃rv dv,v=.agg (dF c rv dv).toArray/\aS w c.r rv dv
def p8(w:World)(v:Value)(x:MV):Prop:=∃rv dv,v=.agg (kE x rv dv).toArray/\aS w x.c.r rv dv
theorem kF.kz{w w':World}{v:Value}{c:MC}(h:kF w v c)(k:Kz w w'):kF w' v c:=by
 obtain⟨rv,dv,h1,h2⟩:=h;exact⟨rv,dv,h1,h2.kz k⟩
theorem p8.kz{w w':World}{v:Value}{c:MV}(h:p8 w v c)(k:Kz w w'):p8 w' v c:=by
 obtain⟨rv,dv,h1,h2⟩:=h;exact⟨rv,dv,h1,h2.kz k⟩
def nT(_:World)(v:Value)(x:Nat):Prop:=v=.int .u8 x
def upd{α:Type}(f:Nat->Option α)(k:Nat)(x:Option α):Nat->Option α:=λj=>if j=k then x else f j
def bT{α:Type}(rel:World->Value->α->Prop)(w:World)(m:Nat)(g:Nat->Option α):Prop:=∃f,fZ w m f/\(∀k:Int,k<0->f k=none)/\∀k:Nat,match g k with
 |none=>f k=none
 |some x=>∃v,f k=some v/\rel w v x
section
variable{α:Type}{rel:World->Value->α->Prop}{w w':World}{m:Nat}{g:Nat->Option α}
theorem bT.keep(hrel:∀v x,rel w v x->rel w' v x)(h:bT rel w m g)(hm:w'.heap[m]?=w.heap[m]?):bT rel w' m g:=by
 obtain⟨f,h1,h2,h3⟩:=h;refine⟨f,h1.keep hm,h2,λk=>?_⟩;have:=h3 k;cases hg:g k with
 |none=>rw[hg]at this;exact this
 |some x=>rw[hg]at this;obtain⟨v,h4,h5⟩:=this;exact⟨v,h4,hrel v x h5⟩
theorem bT.lt(h:bT rel w m g):m<w.heap.size:=by
 obtain⟨f,h1,_⟩:=h;exact h1.lt
theorem bT.obj(h:bT rel w m g):∃es c,w.heap[m]?=some (.map es c):=by
 obtain⟨f,⟨l,⟨⟨es,c,h1,_⟩,_⟩,_⟩,_⟩:=h;exact⟨es,c,h1⟩
theorem bT.put(hrel:∀v x,rel w v x->rel w' v x){f:Int->Option Value}(h2:∀k:Int,k<0->f k=none)(h3:∀k:Nat,match g k with|none=>f k=none|some x=>∃v,f k=some v/\rel w v x){k:Nat}{v:Value}{x:α}(hx:rel w' v x)(h:fZ w' m (qM f k (some v))):bT rel w' m (upd g k (some x)):=by
 refine⟨_,h,λj hj=>?_,λj=>?_⟩
 .unfold qM
  rw[Jb5 (by omega)];exact h2 j hj
 .unfold upd qM
  by_cases hj:j=k
  .subst hj;simp only[Jb8];exact⟨v,rfl,hx⟩
  .have hj':¬(j:Int)=k:=by omega
   simp only[hj,hj',Jba];have:=h3 j;cases hg:g j with
   |none=>rw[hg]at this;exact this
   |some y=>rw[hg]at this;obtain⟨u,h4,h5⟩:=this;exact⟨u,h4,hrel u y h5⟩
theorem bT.del(hrel:∀v x,rel w v x->rel w' v x){f:Int->Option Value}(h2:∀k:Int,k<0->f k=none)(h3:∀k:Nat,match g k with|none=>f k=none|some x=>∃v,f k=some v/\rel w v x){k:Nat}(h:fZ w' m (qM f k none)):bT rel w' m (upd g k none):=by
 refine⟨_,h,λj hj=>?_,λj=>?_⟩
 .unfold qM
  rw[Jb5 (by omega)];exact h2 j hj
 .unfold upd qM
  by_cases hj:j=k
  .subst hj;simp
  .have hj':¬(j:Int)=k:=by omega
   simp only[hj,hj',Jba];have:=h3 j;cases hg:g j with
   |none=>rw[hg]at this;exact this
   |some y=>rw[hg]at this;obtain⟨u,h4,h5⟩:=this;exact⟨u,h4,hrel u y h5⟩
theorem bT.none(h:fZ w m (λ_=>none)):bT rel w m (λ_=>none):=⟨_,h,λ_ _=>rfl,λ_=>rfl⟩
end
end
section
open Go.RowKit
structure Pc where
 (f g:Int)
def Pc.cells(p:Pc):List Value:=[.int .u64 p.f,.int .u8 p.g]
def own:Int->List Pc->Int->Int
 |d,[],_=>d
 |d,p::m,k=>if p.f<=k then own p.g m k else d
def u7:Int->Int->List Pc->Prop
 |_,_,[]=>True
 |f,g,p::m=>f<p.f/\p.f<18446744073709551616/\g≠p.g/\0<=p.g/\p.g<4/\u7 p.f p.g m
def Can:List Pc->Prop
 | []=>False
 |p::m=>p.f=0/\0<=p.g/\p.g<4/\u7 0 p.g m
def xM:Int->List Pc->Int
 |f,[]=>f
 |_,p::m=>xM p.f m
def Aa:Int->List Pc->Int
 |g,[]=>g
 |_,p::m=>Aa p.g m
def join(L:List Pc)(p:Pc):List Pc:=match L.getLast? with
 |none=>L++[p]
 |some y=>if y.g=p.g then L else L++[p]
theorem Ws(L:List Pc)(p:Pc)(k:Int):∀d,(∀q∈L,q.f<=p.f)->own d (L++[p]) k=if p.f<=k then p.g else own d L k:=by
 induction L with
 |nil=>intro d _;simp[own]
 |cons q t ih =>
  intro d h;have hq:q.f<=p.f:=h q (by simp);have ht:=ih q.g (λx hx=>h x (by simp[hx]));by_cases hk:q.f<=k
  .simp only[cons_append,own,hk,Jb8,ht]
  .have:¬p.f<=k:=by omega
   simp only[cons_append,own,hk,Jba,this]
theorem ZF(L:List Pc)(k:Int):∀d,(∀q∈L,q.f<=k)->own d L k=Aa d L:=by
 induction L with
 |nil=>intro d _;rfl
 |cons q t ih =>
  intro d h;have hq:q.f<=k:=h q (by simp);simp only[own,hq,Jb8,Aa];exact ih q.g (λx hx=>h x (by simp[hx]))
theorem LQ(L:List Pc)(k:Int):∀f g d,u7 f g L->k<=f->own d L k=d:=by
 cases L with
 |nil=>intros;rfl
 |cons q t =>
  intro f g d h hk;have:¬q.f<=k:=by have:=h.1;omega
  simp[own,this]
theorem Wt(L:List Pc)(a k:Int)(hak:a<=k):∀d,(∀q∈L,¬(a<q.f/\q.f<=k))->own d L k=own d L a:=by
 induction L with
 |nil=>intros;rfl
 |cons q t ih =>
  intro d h;have hq:=h q (by simp);have ht:=ih q.g (λx hx=>h x (by simp[hx]));by_cases hk:q.f<=a
  .have:q.f<=k:=by omega
   simp only[own,hk,this,Jb8,ht]
  .have:¬q.f<=k:=by omega
   simp only[own,hk,this,Jba]
theorem LU(L:List Pc):∀f g,u7 f g L->∀q∈L,f<q.f/\q.f<18446744073709551616/\q.f<=xM f L/\0<=q.g/\q.g<4:=by
 induction L with
 |nil=>intro f g _ q hq;simp at hq
 |cons p t ih =>
  intro f g h q hq;obtain⟨h1,h2,h3,h4,h5,h6⟩:=h;have hl:p.f<=xM p.f t:=by
   cases t with
   |nil=>exact Jfb _
   |cons r t'=>have:=ih p.f p.g h6 r (by simp);simp only[xM]at *;omega
  rcases Jb3.1 hq with rfl|hq
  .exact⟨h1,h2,hl,h4,h5⟩
  .have:=ih p.f p.g h6 q hq
   exact⟨by omega,this.2.1,this.2.2.1,this.2.2.2⟩
theorem TF(L:List Pc)(p:Pc)(hlt:p.f<18446744073709551616)(hg:0<=p.g/\p.g<4):∀f g,u7 f g L->xM f L<p.f->Aa g L≠p.g->u7 f g (L++[p]):=by
 induction L with
 |nil=>intro f g _ h1 h2;exact⟨h1,hlt,h2,hg.1,hg.2,trivial⟩
 |cons q t ih =>
  intro f g h h1 h2;obtain⟨a1,a2,a3,a4,a5,a6⟩:=h;exact⟨a1,a2,a3,a4,a5,ih q.f q.g a6 h1 h2⟩
theorem OP(L:List Pc)(k:Int):∀f g d,u7 f g L->0<=d/\d<4->0<=own d L k/\own d L k<4:=by
 induction L with
 |nil=>intro f g d _ h;exact h
 |cons q t ih =>
  intro f g d h hd;obtain⟨a1,a2,a3,a4,a5,a6⟩:=h;by_cases hk:q.f<=k
  .simp only[own,hk,Jb8];exact ih q.f q.g q.g a6 ⟨a4,a5⟩
  .simp only[own,hk,Jba];exact hd
theorem ZG{m:List Pc}(h:Can m)(k:Int)(d:Int)(hd:0<=d/\d<4):0<=own d m k/\own d m k<4:=by
 cases m with
 |nil=>exact h.elim
 |cons p t =>
  obtain⟨h0,h1,h2,h3⟩:=h;by_cases hk:p.f<=k
  .simp only[own,hk,Jb8];exact OP t k 0 p.g p.g h3 ⟨h1,h2⟩
  .simp only[own,hk,Jba];exact hd
theorem OQ{m:List Pc}(h:Can m)(k:Int)(hk:0<=k)(d d':Int):own d m k=own d' m k:=by
 cases m with
 |nil=>exact h.elim
 |cons p t =>
  have:p.f<=k:=by have:=h.1;omega
  simp only[own,this,Jb8]
theorem OU{m:List Pc}(h:Can m):∀q∈m,0<=q.f/\q.f<18446744073709551616/\0<=q.g/\q.g<4:=by
 cases m with
 |nil=>exact h.elim
 |cons p t =>
  obtain⟨h0,h1,h2,h3⟩:=h;intro q hq;rcases Jb3.1 hq with rfl|hq
  .exact⟨by omega,by omega,h1,h2⟩
  .have:=LU t 0 p.g h3 q hq
   exact⟨by omega,this.2.1,this.2.2.2⟩
structure Inv(L:List Pc)(b:Int)(F:Int->Int):Prop where
 can:Can L
 le:∀p∈L,p.f<=b
 eq:∀k,0<=k->own 0 L k=if k<=b then F k else F b
theorem Ab{L:List Pc}(h:Can L):∃y,L.getLast?=some y/\Aa 0 L=y.g/\xM 0 L=y.f:=by
 cases L with
 |nil=>exact h.elim
 |cons p t =>
  clear h;induction t generalizing p with
  |nil=>exact⟨p,rfl,rfl,rfl⟩
  |cons q t ih =>
   obtain⟨y,h1,h2,h3⟩:=ih q;exact⟨y,by rw[getLast?_cons_cons];exact h1,h2,h3⟩
theorem Wu{L:List Pc}{p:Pc}(h:Can L)(hlt:p.f<18446744073709551616)(hg:0<=p.g/\p.g<4)(hf:∀q∈L,q.f<p.f)(hn:Aa 0 L≠p.g):Can (L++[p]):=by
 obtain⟨y,hy,hyg,hyf⟩:=Ab h;have hyl:xM 0 L<p.f:=by rw[hyf];exact hf y (mem_of_getLast? hy)
 cases L with
 |nil=>exact h.elim
 |cons q t =>
  obtain⟨a1,a2,a3,a4⟩:=h;refine⟨a1,a2,a3,TF t p hlt hg 0 q.g a4 ?_ hn⟩;simpa only[xM,a1]using hyl
theorem Inv.b0{L:List Pc}{b:Int}{F:Int->Int}(h:Inv L b F):0<=b:=by
 obtain⟨y,hy,_,_⟩:=Ab h.can;have h1:=h.le y (mem_of_getLast? hy);have h2:=(OU h.can y (mem_of_getLast? hy)).1;omega
theorem Inv.last{L:List Pc}{b:Int}{F:Int->Int}(h:Inv L b F):∃y,L.getLast?=some y/\y.g=F b:=by
 obtain⟨y,hy,hyg,_⟩:=Ab h.can;refine⟨y,hy,?_⟩;have h1:=h.eq b h.b0;rw[Jb6 (Jfb _),ZF L b 0 h.le,hyg]at h1;exact h1
theorem Inv.step{L:List Pc}{b b':Int}{F:Int->Int}(h:Inv L b F)(hb:b<b')(hlt:b'<18446744073709551616)(hc:∀k,b<=k->k<b'->F k=F b)(hg:0<=F b'/\F b'<4):Inv (join L ⟨b',F b'⟩) b' F:=by
 have hb0:=h.b0;obtain⟨y,hy,hyg⟩:=h.last;unfold join;rw[hy];by_cases he:y.g=F b'
 .simp only[he,Jb8]
  refine⟨h.can,λp hp=>by have:=h.le p hp;omega,λk hk=>?_⟩;rw[h.eq k hk];by_cases h1:k<=b
  .have:k<=b':=by omega
   simp only[h1,this,Jb8]
  .by_cases h2:k<=b'
   .simp only[h1,h2,Jba,Jb8]
    by_cases h3:k=b'
    .subst h3;rw[<-hyg,he]
    .exact(hc k (by omega) (by omega)).symm
   .simp only[h1,h2,Jba];rw[<-hyg,he]
 .simp only[he,Jba]
  have hl:Aa 0 L=y.g:=by obtain⟨z,hz,hzg,_⟩:=Ab h.can;rw[hy]at hz;cases hz;exact hzg
  refine⟨Wu h.can hlt hg (λq hq=>by have:=h.le q hq;show q.f<b';omega) (by rw[hl];exact he),?_,λk hk=>?_⟩
  .intro p hp
   rcases Jdc.1 hp with hp|hp
   .have:=h.le p hp;omega
   .simp at hp;subst hp;exact Jfb _
  .rw[Ws L ⟨b',F b'⟩ k 0 (λq hq=>by have:=h.le q hq;show q.f<=b';omega),h.eq k hk]
   by_cases h1:b'<=k
   .simp only[h1,Jb8]
    by_cases h2:k<=b'
    .have:k=b':=by omega
     subst this;simp
    .simp only[h2,Jba]
   .have h2:k<=b':=by omega
    simp only[h1,h2,Jba,Jb8];by_cases h3:k<=b
    .simp only[h3,Jb8]
    .simp only[h3,Jba];exact(hc k (by omega) (by omega)).symm
theorem Inv.end{L:List Pc}{b B:Int}{F:Int->Int}(h:Inv L b F)(hc:∀k,b<=k->k<=B->F k=F b):∀k,0<=k->k<=B->own 0 L k=F k:=by
 intro k hk hB;rw[h.eq k hk];by_cases h1:k<=b
 .simp only[h1,Jb8]
 .simp only[h1,Jba];exact(hc k (by omega) hB).symm
theorem inv_one{F:Int->Int}(hg:0<=F 0/\F 0<4):Inv (join [] ⟨0,F 0⟩) 0 F:=by
 refine⟨⟨rfl,hg.1,hg.2,trivial⟩,?_,λk hk=>?_⟩
 .intro p hp;simp[join]at hp;subst hp;exact Jfb _
 .simp only[join,getLast?_nil,nil_append,own,hk,Jb8]
  by_cases h1:k<=0
  .have:k=0:=by omega
   subst this;simp
  .simp only[h1,Jba]
def tH(m:List Pc)(lo hi g:Int)(k:Int):Int:=if lo<=k/\k<=hi then g else own 0 m k
theorem ZH{m:List Pc}(h:Can m){lo hi g:Int}(hg:0<=g/\g<4)(k:Int):0<=tH m lo hi g k/\tH m lo hi g k<4:=by
 unfold tH;by_cases hk:lo<=k/\k<=hi
 .rw[Jb6 hk];exact hg
 .rw[Jb5 hk];exact ZG h k 0 (by decide)
theorem QV(lo:Int)(t:List Pc):∀f d,u7 f d t->u7 f d (t.filter (λp=>decide (p.f<lo)))/\∀k,own d (t.filter (λp=>decide (p.f<lo))) k=own d t (if k<=lo-1 then k else lo-1):=by
 induction t with
 |nil=>intro f d _;exact⟨trivial,λ_=>rfl⟩
 |cons p t ih =>
  intro f d h;obtain⟨a1,a2,a3,a4,a5,a6⟩:=h;obtain⟨i1,i2⟩:=ih p.f p.g a6;by_cases hp:p.f<lo
  .rw[Jdn (by simpa using hp)]
   refine⟨⟨a1,a2,a3,a4,a5,i1⟩,λk=>?_⟩;by_cases hk:k<=lo-1
   .simp only[own,hk,Jb8];rw[i2 k,Jb6 hk]
   .have h1:p.f<=k:=by omega
    have h2:p.f<=lo-1:=by omega
    simp only[own,hk,Jba,h1,h2,Jb8];rw[i2 k,Jb5 hk]
  .have he:(p::t).filter (λp=>decide (p.f<lo))=[]:=by
    rw[filter_eq_nil_iff];intro q hq;rcases Jb3.1 hq with rfl|hq
    .simpa using hp
    .have:=(LU t p.f p.g a6 q hq).1;simp;omega
   rw[he];refine⟨trivial,λk=>?_⟩;have:¬p.f<=(if k<=lo-1 then k else lo-1):=by split<;>omega
   simp only[own,this,Jba]
theorem TG{m:List Pc}(h:Can m){lo hi g:Int}(hlo:0<lo):Inv (m.filter (λp=>decide (p.f<lo))) (lo-1) (tH m lo hi g):=by
 have hG:∀k,k<lo->tH m lo hi g k=own 0 m k:=λk hk=>by
  unfold tH;rw[Jb5 (by omega)]
 cases m with
 |nil=>exact h.elim
 |cons p t =>
  obtain⟨a1,a2,a3,a4⟩:=h;obtain⟨i1,i2⟩:=QV lo t 0 p.g a4;have hp:p.f<lo:=by omega
  have he:(p::t).filter (λp=>decide (p.f<lo))=p::t.filter (λp=>decide (p.f<lo)):=Jdn (by simpa using hp);refine⟨by rw[he];exact⟨a1,a2,a3,i1⟩,λq hq=>by have:=(mem_filter.1 hq).2;simp at this;omega,λk hk=>?_⟩;have hpk:p.f<=k:=by omega
  have hpl:p.f<=lo-1:=by omega
  rw[he];simp only[own,hpk,Jb8];rw[i2 k];by_cases h1:k<=lo-1
  .simp only[h1,Jb8];rw[hG k (by omega)];simp only[own,hpk,Jb8]
  .simp only[h1,Jba];rw[hG (lo-1) (by omega)];simp only[own,hpl,Jb8]
def gY(hi:Int)(L:List Pc)(p:Pc):List Pc:=if hi<p.f then join L p else L
theorem join_self{L:List Pc}{p y:Pc}(hy:L.getLast?=some y)(h:y.g=p.g):join L p=L:=by
 unfold join;rw[hy];simp only[h,Jb8]
theorem QX{F:Int->Int}{hi:Int}(t:List Pc):∀(f d b:Int) (L:List Pc),u7 f d t->Inv L b F->(b=if f<=hi+1 then hi+1 else f)->(∀k,f<=k->hi<k->F k=own d t k) ->
 ∃B,Inv (t.foldl (gY hi) L) B F/\∀k,B<=k->F k=F B:=by
 induction t with
 |nil =>
  intro f d b L _ hI hb hF;refine⟨b,hI,λk hk=>?_⟩;have h1:f<=b/\hi<b:=by rw[hb];split<;>omega
  rw[hF k (by omega) (by omega),hF b h1.1 h1.2];rfl
 |cons p t ih =>
  intro f d b L h hI hb hF;obtain⟨a1,a2,a3,a4,a5,a6⟩:=h;have hF':∀k,p.f<=k->hi<k->F k=own p.g t k:=λk hk hk2=>by
   rw[hF k (by omega) hk2];simp only[own,hk,Jb8]
  have h1:f<=b/\hi<b:=by rw[hb];split<;>omega
  simp only[Jbg];by_cases hp:p.f<=hi
  .have:gY hi L p=L:=by unfold gY;rw[Jb5 (by omega)]
   rw[this];exact ih p.f p.g b L a6 hI (by rw[hb,Jb6 (by omega),Jb6 (by omega)]) hF'
  .have hs:gY hi L p=join L p:=by unfold gY;rw[Jb6 (by omega)]
   rw[hs];by_cases hpb:p.f=b
   .have hb1:b=hi+1:=by
     rw[hb];split
     .rfl
     .rename_i hx;rw[Jb5 hx]at hb;omega
    obtain⟨y,hy,hyg⟩:=hI.last;have:y.g=p.g:=by
     rw[hyg,hF' b (by omega) (by omega)];exact LQ t b p.f p.g p.g a6 (by omega)
    rw[join_self hy this];exact ih p.f p.g b L a6 hI (by rw[Jb6 (by omega)];exact hb1) hF'
   .have hbp:b<p.f:=by rw[hb]at hpb |-;split at hpb<;>split<;>omega
    have hFp:F p.f=p.g:=by rw[hF' p.f (Jfb _) (by omega)];exact LQ t p.f p.f p.g p.g a6 (Jfb _)
    have hJ:=hI.step hbp a2 (λk hk hk2=>by
     rw[hF k (by omega) (by omega),hF b h1.1 h1.2];have n1:¬p.f<=k:=by omega
     have n2:¬p.f<=b:=by omega
     simp only[own,n1,n2,Jba]) (by rw[hFp];exact⟨a4,a5⟩)
    rw[hFp]at hJ;exact ih p.f p.g p.f _ a6 hJ (by rw[Jb5 (by omega)]) hF'
def QY(m:List Pc)(hi:Int)(L:List Pc):List Pc:=if hi=18446744073709551615 then L else m.foldl (gY hi) (join L ⟨hi+1,own 0 m (hi+1)⟩)
def fC(m:List Pc)(lo hi g:Int):List Pc:=QY m hi (join (m.filter (λp=>decide (p.f<lo))) ⟨lo,g⟩)
theorem Wv{m:List Pc}(h:Can m){lo hi g:Int}(h0:0<=lo)(h1:lo<=hi)(h2:hi<18446744073709551616)(hg:0<=g/\g<4):Inv (join (m.filter (λp=>decide (p.f<lo))) ⟨lo,g⟩) lo (tH m lo hi g):=by
 have hF:tH m lo hi g lo=g:=by unfold tH;rw[Jb6 (by omega)]
 rcases Int.lt_or_eq_of_le h0 with hlt|heq
 .have:=(TG h (hi:=hi) (g:=g) hlt).step (b':=lo) (by omega) (by omega) (λk hk hk2=>by rw[show k=lo-1 by omega]) (by rw[hF];exact hg)
  rw[hF]at this;exact this
 .subst heq
  have hn:m.filter (λp=>decide (p.f<0))=[]:=by
   rw[filter_eq_nil_iff];intro q hq;have:=(OU h q hq).1;simp;omega
  have:=inv_one (F:=tH m 0 hi g) (by rw[hF];exact hg);rw[hF]at this;rw[hn];exact this
theorem xN{m:List Pc}(h:Can m){lo hi g:Int}(h0:0<=lo)(h1:lo<=hi)(h2:hi<18446744073709551616)(hg:0<=g/\g<4) :
 Can (fC m lo hi g)/\∀k,0<=k->k<18446744073709551616->own 0 (fC m lo hi g) k=tH m lo hi g k:=by
 have hI:=Wv h h0 h1 h2 hg;have hFl:tH m lo hi g lo=g:=by unfold tH;rw[Jb6 (by omega)]
 unfold fC QY;by_cases hm:hi=18446744073709551615
 .rw[Jb6 hm]
  refine⟨hI.can,λk hk hk2=>hI.end (B:=18446744073709551615) (λk hk hk2=>?_) k hk (by omega)⟩;rw[hFl];unfold tH;rw[Jb6 (by omega)]
 .rw[Jb5 hm]
  have hF1:tH m lo hi g (hi+1)=own 0 m (hi+1):=by unfold tH;rw[Jb5 (by omega)]
  have hJ:=hI.step (b':=hi+1) (by omega) (by omega) (λk hk hk2=>by rw[hFl];unfold tH;rw[Jb6 (by omega)]) (ZH h hg _);rw[hF1]at hJ;cases m with
  |nil=>exact h.elim
  |cons p t =>
   obtain⟨a1,a2,a3,a4⟩:=h;have hp:gY hi (join (join ((p::t).filter (λp=>decide (p.f<lo))) ⟨lo,g⟩) ⟨hi+1,own 0 (p::t) (hi+1)⟩) p=(join (join ((p::t).filter (λp=>decide (p.f<lo))) ⟨lo,g⟩) ⟨hi+1,own 0 (p::t) (hi+1)⟩):=by
    unfold gY;rw[Jb5 (by omega)]
   rw[Jbg,hp];obtain⟨B,hB,hc⟩:=QX (hi:=hi) t 0 p.g (hi+1) _ a4 hJ (by rw[Jb6 (by omega)]) (λk hk hk2=>by
    unfold tH;rw[Jb5 (by omega)];have:p.f<=k:=by omega
    simp only[own,this,Jb8])
   exact⟨hB.can,λk hk _=>hB.end (B:=k) (λj hj _=>hc j hj) k hk (Jfb _)⟩
theorem ET(L:List Pc)(p:Pc):(join L p).length<=L.length+1:=by
 unfold join;split
 .simp
 .split<;>simp
theorem ZI(hi:Int)(t:List Pc):∀L,(t.foldl (gY hi) L).length<=L.length+t.length:=by
 induction t with
 |nil=>intro L;simp
 |cons p t ih =>
  intro L;have h1:=ih (gY hi L p);have h2:(gY hi L p).length<=L.length+1:=by
   unfold gY;split
   .exact ET L p
   .omega
  simp only[Jbg,length_cons];omega
def Kq(m:List Pc)(i:Nat):Bool:=match m[i]? with
 |none=>true
 |some x=>decide (x.g<4)&&(i==0||match m[i-1]? with
  |none=>true
  |some y=>decide (y.f<x.f) && !(y.g==x.g))
def jK(m:List Pc):Bool:=decide (0<m.length)&&decide (m.length<=1000)&&(match m[0]? with|none=>false|some x=>x.f==0)&&(List.range m.length).all (Kq m)
end
