/- Lemmas. -/
import Derived.Test.YtignemioillaiaaGreatG19
namespace Go.Proofs.YtignemioillaiaaGreat
set_option maxHeartbeats 8000000
set_option maxRecDepth 100000
open List
section
open Go Go.Conc
inductive Ex where
 |n|x (id:Nat)|r
noncomputable def Z9(id:Nat)(e:Ex):Ex:=Ex.rec (motive:=λ_=>Ex) .n (λj=>bif Nat.beq id j then .n else .x j) .r e
noncomputable def Rc(P Q:Prop)(e:Ex):Prop:=Ex.rec (motive:=λ_=>Prop) P (λ_=>Q) Q e
def iD:Sg->Sg->Prop
 | [],_=>True
 |(i,v)::r,s=>at? s i=some v/\iD r s
theorem iD.get:∀{q s:Sg} {i:Nat} {v:Value},iD q s->at? q i=some v->at? s i=some v
 | [],_,_,_,_,h=>by cases h
 |(j,u)::r,s,i,v,hs,h=>by
  rw[at?_cons]at h;cases hb:Nat.beq i j with
  |true =>
   rw[hb]at h;have:=Nat.eq_of_beq_eq_true hb;subst this;simp only[cond_true,Option.some.injEq]at h;rw[<-h];exact hs.1
  |false=>rw[hb]at h;exact iD.get hs.2 h
theorem Fit.sub{n:Nat}{q s:Sg}{a:Act}(h:Fit n s a)(hs:iD q s):Fit n q a:=⟨h.defers,h.size,λi v hi=>h.get i v (hs.get hi)⟩
section
variable{P:Program}[ko P](E:mH P)(n:Nat)
noncomputable def pY(c:Code):(Ex->Sg->World->Prop)->Sg->World->Prop:=Code.rec (motive:=λ_=>(Ex->Sg->World->Prop)->Sg->World->Prop)
 (λK s w=>K .n s w)
 (λ_ ops draw K s w=>match draw with
  |false=>Kb E n ops (K .n) ops.toList s w
  |true=>drW E n ops (K .n) s w)
 (λ_ _ ia ib K s w=>ia (λe s w=>Rc (ib K s w) (K e s w) e) s w)
 (λc _ _ ia ib K s w=>match ev s c with
  |some (.bool t)=>bif t then ia K s w else ib K s w
  |_=>False)
 (λid _ ic K s w=>ic (λe s w=>K (Z9 id e) s w) s w)
 (λ_ ic K s w=>∃I:Nat->Sg->World->Prop,(∃m q,I m q w/\iD q s)/\∀m s w,I m s w->ic (λe s w=>Rc (∃m' q,I m' q w/\iD q s/\m'<m) (K e s w) e) s w)
 (λ_ _ _ _ _ _ _ _ _=>False)
 (λid K s w=>K (.x id) s w)
 (λ_ _ _ _ _=>False)
 (λ_ _ _ _=>False)
 (λ_ _ _ _=>False)
 (λK s w=>K .r s w)
 (λ_ _ _ _=>False) c
end
section
variable{P:Program}[ko P]{main:Bool}{D:World->World->Array Event->Prop}{X:Goroutine->World->Prop}{b:Frame}{cs:List Frame}{E:mH P}{n:Nat}
def Aft(X:Goroutine->World->Prop)(b:Frame)(cs:List Frame)(n:Nat)(k:List Item)(e:Ex)(s:Sg)(w:World):Prop:=∀a,Fit n s a->match e with
 |.n=>X (G (b.at a k) cs) w
 |.x id=>∃k',exitTo id k=some k'/\X (G (b.at a k') cs) w
 |.r=>∀todo,X (G { b.at a todo with mode:=.returning } cs) w
theorem DX(hX:SX P main D X)(hk:b.kind≠.early)(hm:P.follows .mixedOrders=true):∀(c:Code) (K:Ex->Sg->World->Prop) (k:List Item),(∀e s w,K e s w->Aft X b cs n k e s w)->∀(s:Sg) (w:World) (a:Act),Fit n s a->pY E n c K s w->X (G (b.at a (.code c::k)) cs) w:=by
 intro c;induction c with
 |skip=>exact λK k hK s w a hf h=>hX.c.skip (hK _ _ _ h a hf)
 |region id ops draw =>
  intro K k hK s w a hf h;cases draw with
  |false =>
   refine hX.c.region (range' 0 ops.toList.length) (by rw[Array.length_toList,range_eq_range']) ?_;exact XU hX hk (λs w h a hf=>hK .n s w h a hf) ops.toList 0 s w a (λj o hj=>by rw[Nat.zero_add];rwa [Array.getElem?_toList]at hj) hf h
  |true=>exact Z8 hX hk hm (λs w h a hf=>hK .n s w h a hf) hf h
 |seq x y ihx ihy =>
  intro K k hK s w a hf h;refine hX.c.seq (ihx _ (.code y::k) (λe s w he a hf=>?_) s w a hf h);cases e with
  |n=>exact ihy K k hK s w a hf he
  |x j=>exact hK (.x j) s w he a hf
  |r=>exact hK .r s w he a hf
 |cond c x y ihx ihy =>
  intro K k hK s w a hf h;change (match ev s c with|some (.bool t)=>bif t then pY E n x K s w else pY E n y K s w|_=>False)at h;split at h
  ·rename_i t ht
   refine hX.c.cond t (hf.ev _ _ ht) ?_;cases t with
   |true=>exact ihx K k hK s w a hf h
   |false=>exact ihy K k hK s w a hf h
  ·exact h.elim
 |block id c ih =>
  intro K k hK s w a hf h;refine hX.c.block (ih _ (.inBlock id::k) (λe s w he a hf=>?_) s w a hf h);cases e with
  |n=>exact hX.c.inBlock (hK .n s w he a hf)
  |x j =>
   have he:K (bif Nat.beq id j then .n else .x j) s w:=he;cases hb:Nat.beq id j with
   |true =>
    rw[hb]at he;have he:K .n s w:=he;have:=Nat.eq_of_beq_eq_true hb;subst this;exact⟨k,by simp[exitTo],hK .n s w he a hf⟩
   |false =>
    rw[hb]at he;have he:K (.x j) s w:=he;obtain⟨k',h1,h2⟩:=hK (.x j) s w he a hf;have hne:¬id=j:=λe=>by subst e;rw[Nat.beq_refl]at hb;cases hb
    exact⟨k',by unfold exitTo;rw[if_neg (by simpa using hne)];exact h1,h2⟩
  |r=>exact hK .r s w he a hf
 |loop c ih =>
  intro K k hK s w a hf h;obtain⟨I,⟨m,q,hI,hq⟩,hstep⟩:=h;refine hX.c.loop ?_;suffices hh:∀N m q w a,m<=N->I m q w->Fit n q a->X (G (b.at a (.code c::.inLoop c::k)) cs) w from hh m m q w a (Nat.le_refl _) hI (hf.sub hq)
  intro N;induction N with
  |zero =>
   intro m q w a hmN hI hf;refine ih _ (.inLoop c::k) (λe s w he a hf=>?_) q w a hf (hstep m q w hI);cases e with
   |n=>obtain⟨m',q',_,_,h3⟩:=he;omega
   |x j=>exact hK (.x j) s w he a hf
   |r=>exact hK .r s w he a hf
  |succ N ihN =>
   intro m q w a hmN hI hf;refine ih _ (.inLoop c::k) (λe s w he a hf=>?_) q w a hf (hstep m q w hI);cases e with
   |n=>obtain⟨m',q',h1,h2,h3⟩:=he;exact hX.c.inLoop (ihN m' q' w a (by omega) h1 (hf.sub h2))
   |x j=>exact hK (.x j) s w he a hf
   |r=>exact hK .r s w he a hf
 |exit id =>
  intro K k hK s w a hf h;obtain⟨k',h1,h2⟩:=hK (.x id) s w h a hf;exact hX.c.exit h1 h2
 |ret=>exact λK k hK s w a hf h=>hX.c.ret (hK .r s w h a hf _)
 |_=>intro K k hK s w a hf h;exact h.elim
end
noncomputable def yz{P:Program}(E:mH P)(w:World)(s:Sg)(K:List Value->Prop):List ResultVar->Prop
 | []=>K []
 |.tmp t::r=>match at? s t with
  |some v=>yz E w s (λl=>K (v::l)) r
  |none=>False
 |.cell p t::r=>match at? s p with
  |some pv=>yw E w (λv _=>yz E w s (λl=>K (v::l)) r) t (some pv)
  |none=>False
def GH(Post:Value->World->Prop)(w:World):List Value->Prop
 | [v]=>Post v w
 |l=>Post (.tuple l.toArray) w
noncomputable def zg{P:Program}(E:mH P)(rs:List ResultVar)(Post:Value->World->Prop):Ex->Sg->World->Prop
 |.x _,_,_=>False
 |_,s,w=>yz E w s (GH Post w) rs
def uB:List Value->Nat->Sg
 | [],_=>[]
 |v::r,i=>(i,v)::uB r (i+1)
theorem zh:∀{l:List Value} {i j:Nat} {v:Value},at? (uB l i) j=some v->∃d,j=i+d/\l[d]? = some v
 | [],_,_,_,h=>by cases h
 |u::r,i,j,v,h=>by
  rw[uB,at?_cons]at h;cases hb:Nat.beq j i with
  |true =>
   rw[hb]at h;have:=Nat.eq_of_beq_eq_true hb;subst this;exact⟨0,rfl,by simpa using h⟩
  |false =>
   rw[hb]at h;obtain⟨d,h1,h2⟩:=zh h;exact⟨d+1,by omega,h2⟩
section
variable{P:Program}{E:mH P}{w:World}{s:Sg}
theorem aae{t:Nat}{pv:Value}{K:Value->World->Prop}(h:yw E w K t (some pv)):∃ad v,pv=.pointer (some ad)/\K v w/\∀w₁,w₁.heap=w.heap->(loadVar t ad).run P w₁=.ok v w₁:=by
 let o : Oper := ⟨none, .load t (.const pv), 0, "", #[], none⟩
 let a:Act:=⟨#[],[]⟩
 have hh:Ng E w t (λv F=>K v w/\∀w₁,w₁.heap=w.heap->F w₁) (ev [] (.const pv)):=by
  unfold yw at h;unfold Ng;have e:ev [] (.const pv)=some pv:=rfl;rw[e];split at h
  ·rename_i B off hx
   cases hx
   dsimp only;split at h
   ·rename_i y hy
    rw[hy];obtain⟨xs,ty,hW,h⟩:=h;refine⟨xs,ty,hW,?_⟩;cases hs:kI y with
    |true =>
     rw[hs]at h;dsimp only[iB]at h |-;cases h0:Nat.beq (bD E.T t) 0 with
     |true=>rw[h0]at h;exact(show False from h).elim
     |false=>rw[h0]at h;dsimp only at h;obtain⟨c,h1,h2,h3⟩:=h;exact⟨c,h1,h2,h3,λw₁ he=>by rw[he];exact hW⟩
    |false=>rw[hs]at h;dsimp only[iB]at h;obtain⟨v,h1,h3⟩:=h;exact⟨v,h1,h3,λw₁ he=>by rw[he];exact hW⟩
   ·exact h.elim
  ·exact h.elim
 obtain⟨v,F,⟨g1,g1'⟩,g2,g3,g4⟩:=Q9 (P:=P) (E:=E) (s:=[]) (a:=a) (o:=o) (λx u hx=>by cases x<;>first|exact Option.some.inj hx|cases hx) rfl hh;obtain⟨ad,rfl⟩:∃ad,pv=.pointer (some ad):=by
  unfold yw at h;split at h
  ·rename_i B off hx;cases hx;exact⟨_,rfl⟩
  ·exact h.elim
 refine⟨ad,v,rfl,g1,λw₁ he=>?_⟩;have h5:=(g4 w₁ (g1' w₁ he)).2;have e1:execOp a.eval o=(do pure (Next.value (<-Instr.loadAt t (.pointer (some ad))))):=rfl;rw[e1,Sem.run_bind]at h5;have e2:(Instr.loadAt t (.pointer (some ad))).run P w₁=(loadVar t ad).run P w₁:=rfl;rw[e2]at h5;cases hr:(loadVar t ad).run P w₁ with
 |ok u w' =>
  rw[hr]at h5;simp only[Result.andThen_ok]at h5;injection h5 with h6 h7;injection h6 with h6;rw[h6,h7]
 |halt x w'=>rw[hr]at h5;cases h5
def uC(tmps:Array Value):ResultVar->Sem Value
 |.tmp t=>pure (tmps.getD t undef)
 |.cell p t=>do loadVar t (<-asAddr (tmps.getD p undef))
theorem Re:∀(rs:List ResultVar) (K:List Value->Prop) (tmps:Array Value),(∀i v,at? s i=some v->tmps.getD i undef=v)->yz E w s K rs->∃l,K l/\(rs.mapM (uC tmps):Sem (List Value)).run P w=.ok l w:=by
 intro rs;induction rs with
 |nil=>intro K tmps _ h;exact⟨[],h,rfl⟩
 |cons x r ih =>
  intro K tmps hf h;cases x with
  |tmp t =>
   unfold yz at h;split at h
   ·rename_i v hv
    obtain⟨l,h1,h2⟩:=ih _ tmps hf h;refine⟨v::l,h1,?_⟩;rw[mapM_cons,Sem.run_bind];show Result.andThen (Result.ok (tmps.getD t undef) w) _=_;rw[Result.andThen_ok,Sem.run_bind,h2,hf t v hv];rfl
   ·exact h.elim
  |cell p t =>
   unfold yz at h;split at h
   ·rename_i pv hv
    obtain⟨ad,v,rfl,h1,h2⟩:=aae h;obtain⟨l,h3,h4⟩:=ih _ tmps hf h1;refine⟨v::l,h3,?_⟩;have e:uC tmps (.cell p t)=(do loadVar t (<-asAddr (tmps.getD p undef))):=rfl;rw[mapM_cons,Sem.run_bind,e,Sem.run_bind,hf p _ hv];show Result.andThen (Result.andThen (Result.ok ad w) _) _=_;rw[Result.andThen_ok,h2 w rfl,Result.andThen_ok,Sem.run_bind,h4];rfl
   ·exact h.elim
end
theorem Wo{P:Program}[ko P](E:mH P)(hm:P.follows .mixedOrders=true){f:FuncId}{fn:Func}{c:Code}{args:List Value}{w:World}{Post:Value->World->Prop}(hf:P.funcs[f]? = some fn)(hb:fn.body=some c)(hn:Nat.ble args.length fn.ntmps=true)(h:pY E fn.ntmps c (zg E fn.results.toList Post) (uB args 0) w){main:Bool}{D:World->World->Array Event->Prop}{X:Goroutine->World->Prop}(hX:SX P main D X){cs:List Frame}(hk:∀fr v w',fr.fn=f->fr.leaving P w' (.returned v)->Post v w'->X (G fr cs) w'):X (G (Frame.enter P f args.toArray .normal) cs) w:=by
 rw[enter_at (P:=P) args.toArray hf hb];have hle:=Nat.le_of_ble_eq_true hn;refine DX hX (by unfold Go.Conc.base;exact nofun) hm c _ [] ?_ _ w _ ?_ h
 ·intro e s w he a hfit
  have fin:∀todo,yz E w s (GH Post w) fn.results.toList->X (G { (Go.Conc.base f).at a todo with mode:=.returning } cs) w:=by
   intro todo hr;obtain⟨l,h1,h2⟩:=Re _ _ a.tmps hfit.get hr;have hres:(results fn a.tmps).run P w=.ok (if h:l.toArray.size=1 then l.toArray[0]else .tuple l.toArray) w:=by
    have e:results fn a.tmps=(do let vs <- fn.results.mapM (uC a.tmps);pure (if h:vs.size=1 then vs[0]else .tuple vs)):=by
     unfold results;congr 2
    have e2:(fn.results.mapM (uC a.tmps)).run P w=.ok l.toArray w:=by
     rw[show fn.results.mapM (uC a.tmps)=toArray <$> (fn.results.toList.mapM (uC a.tmps))from Array.mapM_eq_mapM_toList ..];show Sem.run P ((fn.results.toList.mapM (uC a.tmps)) >>= λl=>pure l.toArray) w=_;rw[Sem.run_bind,h2];rfl
    rw[e,Sem.run_bind,e2];rfl
   refine hk _ (if h:l.toArray.size=1 then l.toArray[0]else .tuple l.toArray) w rfl ⟨rfl,hfit.defers,rfl,fn,hf,hres⟩ ?_;unfold GH at h1;split at h1
   ·exact h1
   ·rename_i hne
    rw[dif_neg]
    ·exact h1
    ·intro h1
     simp only[size_toArray]at h1;obtain⟨v,rfl⟩:=length_eq_one_iff.1 h1;exact hne v rfl
  cases e with
  |n=>exact hX.c.fin (fin [] he)
  |x j=>exact he.elim
  |r=>exact λtodo=>fin todo he
 ·refine⟨rfl,?_,λi v hi=>?_⟩
  ·simp;omega
  ·obtain⟨d,h1,h2⟩:=zh hi
   rw[Nat.zero_add]at h1;subst h1;have hlt:i<args.length:=(List.getElem?_eq_some_iff.1 h2).1;rw[Array.getD_eq_getD_getElem?];show(((args.toArray++Array.replicate _ undef)[i]?).getD undef)=v;rw[Array.getElem?_append_left (by simpa using hlt)];simp[h2]
theorem acj{P:Program}(E:mH P)(hm:P.follows .mixedOrders=true){f:FuncId}{fn:Func}{c:Code}{args:List Value}{w:World}{Post:Value->World->Prop}(hf:P.funcs[f]? = some fn)(hb:fn.body=some c)(hn:Nat.ble args.length fn.ntmps=true)(h:pY E fn.ntmps c (zg E fn.results.toList Post) (uB args 0) w):ag P f args.toArray w Post :=
 λ_ _ _ _ hX hk=>Wo E hm hf hb hn h ⟨hX,trivial⟩ hk
def tys:iY:=((3,.i .i64)::(5,.i .u8)::(57,.s [5,47,48,5,4,48,5])::(31,.s [5,5,25,26,27,28,29])::(47,.i .u32)::(52,.s [5,5,47,48,48,25,27])::(54,.s [5,50,52,5,47])::(48,.i .u64)::(25,.l 128)::(27,.l 57)::(203,.s [5,50,57,143,47,54,194,52,5,47])::(50,.s [5,47,5,48,48,48,5])::(152,.s [66,3,3,146,146,47,147,22,31,72,148,149,144,47,147,150])::(66,.s [5,5])::(143,.s [47,5])::(88,.s [67,3,3,84,85,23,86,3,4])::(26,.l 107)::(28,.l 103)::(101,.l 52)::(22,.l 54)::(128,.s [48,48])::(72,.l 139)::(107,.s [48,5])::(196,.s [47,143,54])::(103,.s [47,101])::(29,.l 47)::(32,.i .i64)::(144,.m 47 196)::(139,.s [66,66,9])::(94,.s [22,24,27])::(146,.s [143,144])::(147,.m 47 54)::(9,.t)::(194,.l 196)::(148,.i .i64)::(67,.p)::(24,.l 31)::(4,.o)::(84,.l 162)::(131,.s [129,72])::(23,.l 3)::(133,.p)::(85,.l 22)::(86,.l 4)::(91,.l 94)::(129,.l 132)::(150,.m 47 149)::(158,.s [3,3,3,9,50])::(249,.s [9])::(204,.l 66)::(132,.l 133)::(277,.l 5)::(37,.l 25)::(38,.l 27)::(149,.i .u8)::(265,.i .u64)::(260,.l 264)::(162,.s [50,5,3])::(80,.l 158)::(264,.s [57,3])::[])
theorem aaf:M9 Tryz.prog tys:=⟨⟨by kernel_rfl⟩,by kernel_rfl⟩
def Ph(g:Nat):Bool:=Nat.blt 2 g && Nat.blt g 241 && !(Nat.beq g 206) && !(Nat.beq g 208)
theorem XV:((List.range 241).all λg=>!Ph g || callable Tryz.prog g)=true:=by kernel_rfl
theorem aag(g:Nat)(h:Ph g=true):callable Tryz.prog g=true:=by
 have hg:g<241:=by
  unfold Ph at h;simp only[Bool.and_eq_true]at h;have:=Nat.le_of_ble_eq_true h.1.1.2;omega
 have:=all_eq_true.1 XV g (mem_range.2 hg);rw[h]at this;simpa using this
noncomputable def fD:mH Tryz.prog:=⟨tys,Ph,aaf,aag,λ_=>(0,0)⟩
theorem mixed:Tryz.prog.follows .mixedOrders=true:=by kernel_rfl
theorem ah{f:FuncId}{fn:Func}{c:Code}{args:List Value}{w:World}{Post:Value->World->Prop}(hf:Tryz.prog.funcs[f]? = some fn)(hb:fn.body=some c)(hn:Nat.ble args.length fn.ntmps=true)(h:pY fD fn.ntmps c (zg fD fn.results.toList Post) (uB args 0) w):ag Tryz.prog f args.toArray w Post:=acj fD mixed hf hb hn h
structure Rg where
 (src dst seq lo hi:Int)
 rows:List Row
 aZ:List aA
structure MC where
 kind:Int
 q:bQ
 r:Rg
 (peer seq:Int)
structure bF where
 (n id:Nat)
structure MV where
 (slot:Nat)
 b:bF
 c:MC
def Ni:List Nat:=[128,57,52,103,107,47,66,196,143]
def Kz(w w':World):Prop:=∀t∈Ni,∀(b:Nat) (c:Array Value),w.heap[b]? = some (.cells c t)->w'.heap[b]? = some (.cells c t)
theorem Kz.refl(w:World):Kz w w:=λ_ _ _ _ h=>h
theorem Kz.trans{a b c:World}(h:Kz a b)(k:Kz b c):Kz a c:=λt ht x o hx=>k t ht x o (h t ht x o hx)
theorem GB.kz{w w':World}(h:GB none w w'):Kz w w':=λ_ _ _ _ hx=>h.get hx nofun
theorem GB.De{w w':World}{r:Nat}(h:GB (some r) w w')(hr:∀c,∀t∈Ni,w.heap[r]?≠some (.cells c t)):Kz w w':=λt ht b c hx=>h.get hx λe=>hr c t ht (by cases e;exact hx)
def Fz(w:World)(e size:Nat)(v:Value)(n:Nat)(xs:List Value):Prop:=∃a c,v=.slice a n c/\n<=c/\xs.length=n*size/\((a=none/\n=0)\/∃b off cs,a=some ⟨b,off,none⟩/\w.heap[b]? = some (.cells cs e)/\aK cs.toList off (n*size)=xs)
theorem Fz.kz{w w':World}{e size n:Nat}{v:Value}{xs:List Value}(h:Fz w e size v n xs)(k:Kz w w')(he:e∈Ni):Fz w' e size v n xs:=by
 obtain⟨a,c,h1,h2,h3,h4⟩:=h;refine⟨a,c,h1,h2,h3,h4.imp id ?_⟩;rintro⟨b,off,cs,h5,h6,h7⟩;exact⟨b,off,cs,h5,k e he b cs h6,h7⟩
theorem Fz.nil(w:World)(e size:Nat):Fz w e size Ptz 0 []:=⟨none,0,rfl,Nat.le_refl _,by simp,.inl ⟨rfl,rfl⟩⟩
def eu(r:Rg)(rv dv:Value):List Value:=[.int .u8 r.src,.int .u8 r.dst,.int .u32 r.seq,.int .u64 r.lo,.int .u64 r.hi,rv,dv]
def dC(c:MC)(rv dv:Value):List Value:=[.int .u8 c.kind,.int .u8 c.q.c,.int .u32 c.q.s,.int .u8 c.q.k,.int .u64 c.q.key,.int .u64 c.q.v,.int .u64 c.q.hi,.int .u8 c.q.to,.int .u8 c.r.src,.int .u8 c.r.dst,.int .u32 c.r.seq,.int .u64 c.r.lo,.int .u64 c.r.hi,rv,dv,.int .u8 c.peer,.int .u32 c.seq]
def jU(v:MV)(rv dv:Value):List Value:=.int .u32 v.slot::.int .u32 v.b.n::.int .u8 v.b.id::dC v.c rv dv
def aM(w:World)(r:Rg)(rv dv:Value):Prop:=Fz w 128 2 rv r.rows.length (r.rows.map Row.cells).flatten/\Fz w 57 7 dv r.aZ.length (r.aZ.map aA.cells).flatten
theorem aM.kz{w w':World}{r:Rg}{rv dv:Value}(h:aM w r rv dv)(k:Kz w w'):aM w' r rv dv:=⟨h.1.kz k (by decide),h.2.kz k (by decide)⟩
def kr(w:World)(v:Value)(c:MC):Prop:=∃rv dv,v=.agg (dC c rv dv).toArray/\aM w c.r rv dv
def pF(w:World)(v:Value)(x:MV):Prop:=∃rv dv,v=.agg (jU x rv dv).toArray/\aM w x.c.r rv dv
theorem kr.kz{w w':World}{v:Value}{c:MC}(h:kr w v c)(k:Kz w w'):kr w' v c:=by
 obtain⟨rv,dv,h1,h2⟩:=h;exact⟨rv,dv,h1,h2.kz k⟩
theorem pF.kz{w w':World}{v:Value}{c:MV}(h:pF w v c)(k:Kz w w'):pF w' v c:=by
 obtain⟨rv,dv,h1,h2⟩:=h;exact⟨rv,dv,h1,h2.kz k⟩
def nG(_:World)(v:Value)(x:Nat):Prop:=v=.int .u8 x
def upd{α:Type}(f:Nat->Option α)(k:Nat)(x:Option α):Nat->Option α:=λj=>if j=k then x else f j
def bT{α:Type}(rel:World->Value->α->Prop)(w:World)(m:Nat)(g:Nat->Option α):Prop:=∃f,fP w m f/\(∀k:Int,k<0->f k=none)/\∀k:Nat,match g k with
 |none=>f k=none
 |some x=>∃v,f k=some v/\rel w v x
section
variable{α:Type}{rel:World->Value->α->Prop}{w w':World}{m:Nat}{g:Nat->Option α}
theorem bT.keep(hrel:∀v x,rel w v x->rel w' v x)(h:bT rel w m g)(hm:w'.heap[m]? = w.heap[m]?):bT rel w' m g:=by
 obtain⟨f,h1,h2,h3⟩:=h;refine⟨f,h1.keep hm,h2,λk=>?_⟩;have:=h3 k;cases hg:g k with
 |none=>rw[hg]at this;exact this
 |some x=>rw[hg]at this;obtain⟨v,h4,h5⟩:=this;exact⟨v,h4,hrel v x h5⟩
theorem bT.lt(h:bT rel w m g):m<w.heap.size:=by
 obtain⟨f,h1,_⟩:=h;exact h1.lt
theorem bT.obj(h:bT rel w m g):∃es c,w.heap[m]? = some (.map es c):=by
 obtain⟨f,⟨l,⟨⟨es,c,h1,_⟩,_⟩,_⟩,_⟩:=h;exact⟨es,c,h1⟩
theorem bT.put(hrel:∀v x,rel w v x->rel w' v x){f:Int->Option Value}(h2:∀k:Int,k<0->f k=none)(h3:∀k:Nat,match g k with|none=>f k=none|some x=>∃v,f k=some v/\rel w v x){k:Nat}{v:Value}{x:α}(hx:rel w' v x)(h:fP w' m (qg f k (some v))):bT rel w' m (upd g k (some x)):=by
 refine⟨_,h,λj hj=>?_,λj=>?_⟩
 ·unfold qg
  rw[if_neg (by omega)];exact h2 j hj
 ·unfold upd qg
  by_cases hj:j=k
  ·subst hj;simp only[if_true];exact⟨v,rfl,hx⟩
  ·have hj':¬(j:Int)=k:=by omega
   simp only[hj,hj',if_false];have:=h3 j;cases hg:g j with
   |none=>rw[hg]at this;exact this
   |some y=>rw[hg]at this;obtain⟨u,h4,h5⟩:=this;exact⟨u,h4,hrel u y h5⟩
theorem bT.del(hrel:∀v x,rel w v x->rel w' v x){f:Int->Option Value}(h2:∀k:Int,k<0->f k=none)(h3:∀k:Nat,match g k with|none=>f k=none|some x=>∃v,f k=some v/\rel w v x){k:Nat}(h:fP w' m (qg f k none)):bT rel w' m (upd g k none):=by
 refine⟨_,h,λj hj=>?_,λj=>?_⟩
 ·unfold qg
  rw[if_neg (by omega)];exact h2 j hj
 ·unfold upd qg
  by_cases hj:j=k
  ·subst hj;simp
  ·have hj':¬(j:Int)=k:=by omega
   simp only[hj,hj',if_false];have:=h3 j;cases hg:g j with
   |none=>rw[hg]at this;exact this
   |some y=>rw[hg]at this;obtain⟨u,h4,h5⟩:=this;exact⟨u,h4,hrel u y h5⟩
theorem bT.none(h:fP w m (λ_=>none)):bT rel w m (λ_=>none):=⟨_,h,λ_ _=>rfl,λ_=>rfl⟩
end
end
section
open Go.RowKit
structure Pc where
 (f g:Int)
def Pc.cells(p:Pc):List Value:=[.int .u64 p.f,.int .u8 p.g]
def own:Int->List Pc->Int->Int
 |d,[],_=>d
 |d,p::m,k=>if p.f<=k then own p.g m k else d
def vS:Int->Int->List Pc->Prop
 |_,_,[]=>True
 |f,g,p::m=>f<p.f/\p.f<18446744073709551616/\g≠p.g/\0<=p.g/\p.g<4/\vS p.f p.g m
def Can:List Pc->Prop
 | []=>False
 |p::m=>p.f=0/\0<=p.g/\p.g<4/\vS 0 p.g m
def wY:Int->List Pc->Int
 |f,[]=>f
 |_,p::m=>wY p.f m
def zi:Int->List Pc->Int
 |g,[]=>g
 |_,p::m=>zi p.g m
def join(L:List Pc)(p:Pc):List Pc:=match L.getLast? with
 |none=>L++[p]
 |some y=>if y.g=p.g then L else L++[p]
theorem UD(L:List Pc)(p:Pc)(k:Int):∀d,(∀q∈L,q.f<=p.f)->own d (L++[p]) k=if p.f<=k then p.g else own d L k:=by
 induction L with
 |nil=>intro d _;simp[own]
 |cons q t ih =>
  intro d h;have hq:q.f<=p.f:=h q (by simp);have ht:=ih q.g (λx hx=>h x (by simp[hx]));by_cases hk:q.f<=k
  ·simp only[cons_append,own,hk,if_true,ht]
  ·have:¬p.f<=k:=by omega
   simp only[cons_append,own,hk,if_false,this]
theorem XW(L:List Pc)(k:Int):∀d,(∀q∈L,q.f<=k)->own d L k=zi d L:=by
 induction L with
 |nil=>intro d _;rfl
 |cons q t ih =>
  intro d h;have hq:q.f<=k:=h q (by simp);simp only[own,hq,if_true,zi];exact ih q.g (λx hx=>h x (by simp[hx]))
theorem Ke(L:List Pc)(k:Int):∀f g d,vS f g L->k<=f->own d L k=d:=by
 cases L with
 |nil=>intros;rfl
 |cons q t =>
  intro f g d h hk;have:¬q.f<=k:=by have:=h.1;omega
  simp[own,this]
theorem UE(L:List Pc)(a k:Int)(hak:a<=k):∀d,(∀q∈L,¬(a<q.f/\q.f<=k))->own d L k=own d L a:=by
 induction L with
 |nil=>intros;rfl
 |cons q t ih =>
  intro d h;have hq:=h q (by simp);have ht:=ih q.g (λx hx=>h x (by simp[hx]));by_cases hk:q.f<=a
  ·have:q.f<=k:=by omega
   simp only[own,hk,this,if_true,ht]
  ·have:¬q.f<=k:=by omega
   simp only[own,hk,this,if_false]
theorem Kg(L:List Pc):∀f g,vS f g L->∀q∈L,f<q.f/\q.f<18446744073709551616/\q.f<=wY f L/\0<=q.g/\q.g<4:=by
 induction L with
 |nil=>intro f g _ q hq;simp at hq
 |cons p t ih =>
  intro f g h q hq;obtain⟨h1,h2,h3,h4,h5,h6⟩:=h;have hl:p.f<=wY p.f t:=by
   cases t with
   |nil=>exact Int.le_refl _
   |cons r t'=>have:=ih p.f p.g h6 r (by simp);simp only[wY]at *;omega
  rcases mem_cons.1 hq with rfl|hq
  ·exact⟨h1,h2,hl,h4,h5⟩
  ·have:=ih p.f p.g h6 q hq
   exact⟨by omega,this.2.1,this.2.2.1,this.2.2.2⟩
theorem Rf(L:List Pc)(p:Pc)(hlt:p.f<18446744073709551616)(hg:0<=p.g/\p.g<4):∀f g,vS f g L->wY f L<p.f->zi g L≠p.g->vS f g (L++[p]):=by
 induction L with
 |nil=>intro f g _ h1 h2;exact⟨h1,hlt,h2,hg.1,hg.2,trivial⟩
 |cons q t ih =>
  intro f g h h1 h2;obtain⟨a1,a2,a3,a4,a5,a6⟩:=h;exact⟨a1,a2,a3,a4,a5,ih q.f q.g a6 h1 h2⟩
theorem Nj(L:List Pc)(k:Int):∀f g d,vS f g L->0<=d/\d<4->0<=own d L k/\own d L k<4:=by
 induction L with
 |nil=>intro f g d _ h;exact h
 |cons q t ih =>
  intro f g d h hd;obtain⟨a1,a2,a3,a4,a5,a6⟩:=h;by_cases hk:q.f<=k
  ·simp only[own,hk,if_true];exact ih q.f q.g q.g a6 ⟨a4,a5⟩
  ·simp only[own,hk,if_false];exact hd
theorem XX{m:List Pc}(h:Can m)(k:Int)(d:Int)(hd:0<=d/\d<4):0<=own d m k/\own d m k<4:=by
 cases m with
 |nil=>exact h.elim
 |cons p t =>
  obtain⟨h0,h1,h2,h3⟩:=h;by_cases hk:p.f<=k
  ·simp only[own,hk,if_true];exact Nj t k 0 p.g p.g h3 ⟨h1,h2⟩
  ·simp only[own,hk,if_false];exact hd
theorem Nk{m:List Pc}(h:Can m)(k:Int)(hk:0<=k)(d d':Int):own d m k=own d' m k:=by
 cases m with
 |nil=>exact h.elim
 |cons p t =>
  have:p.f<=k:=by have:=h.1;omega
  simp only[own,this,if_true]
theorem Nl{m:List Pc}(h:Can m):∀q∈m,0<=q.f/\q.f<18446744073709551616/\0<=q.g/\q.g<4:=by
 cases m with
 |nil=>exact h.elim
 |cons p t =>
  obtain⟨h0,h1,h2,h3⟩:=h;intro q hq;rcases mem_cons.1 hq with rfl|hq
  ·exact⟨by omega,by omega,h1,h2⟩
  ·have:=Kg t 0 p.g h3 q hq
   exact⟨by omega,this.2.1,this.2.2.2⟩
structure Inv(L:List Pc)(b:Int)(F:Int->Int):Prop where
 can:Can L
 le:∀p∈L,p.f<=b
 eq:∀k,0<=k->own 0 L k=if k<=b then F k else F b
theorem zk{L:List Pc}(h:Can L):∃y,L.getLast? = some y/\zi 0 L=y.g/\wY 0 L=y.f:=by
 cases L with
 |nil=>exact h.elim
 |cons p t =>
  clear h;induction t generalizing p with
  |nil=>exact⟨p,rfl,rfl,rfl⟩
  |cons q t ih =>
   obtain⟨y,h1,h2,h3⟩:=ih q;exact⟨y,by rw[getLast?_cons_cons];exact h1,h2,h3⟩
theorem UF{L:List Pc}{p:Pc}(h:Can L)(hlt:p.f<18446744073709551616)(hg:0<=p.g/\p.g<4)(hf:∀q∈L,q.f<p.f)(hn:zi 0 L≠p.g):Can (L++[p]):=by
 obtain⟨y,hy,hyg,hyf⟩:=zk h;have hyl:wY 0 L<p.f:=by rw[hyf];exact hf y (mem_of_getLast? hy)
 cases L with
 |nil=>exact h.elim
 |cons q t =>
  obtain⟨a1,a2,a3,a4⟩:=h;refine⟨a1,a2,a3,Rf t p hlt hg 0 q.g a4 ?_ hn⟩;simpa only[wY,a1]using hyl
theorem Inv.b0{L:List Pc}{b:Int}{F:Int->Int}(h:Inv L b F):0<=b:=by
 obtain⟨y,hy,_,_⟩:=zk h.can;have h1:=h.le y (mem_of_getLast? hy);have h2:=(Nl h.can y (mem_of_getLast? hy)).1;omega
theorem Inv.last{L:List Pc}{b:Int}{F:Int->Int}(h:Inv L b F):∃y,L.getLast? = some y/\y.g=F b:=by
 obtain⟨y,hy,hyg,_⟩:=zk h.can;refine⟨y,hy,?_⟩;have h1:=h.eq b h.b0;rw[if_pos (Int.le_refl _),XW L b 0 h.le,hyg]at h1;exact h1
theorem Inv.step{L:List Pc}{b b':Int}{F:Int->Int}(h:Inv L b F)(hb:b<b')(hlt:b'<18446744073709551616)(hc:∀k,b<=k->k<b'->F k=F b)(hg:0<=F b'/\F b'<4):Inv (join L ⟨b',F b'⟩) b' F:=by
 have hb0:=h.b0;obtain⟨y,hy,hyg⟩:=h.last;unfold join;rw[hy];by_cases he:y.g=F b'
 ·simp only[he,if_true]
  refine⟨h.can,λp hp=>by have:=h.le p hp;omega,λk hk=>?_⟩;rw[h.eq k hk];by_cases h1:k<=b
  ·have:k<=b':=by omega
   simp only[h1,this,if_true]
  ·by_cases h2:k<=b'
   ·simp only[h1,h2,if_false,if_true]
    by_cases h3:k=b'
    ·subst h3;rw[<-hyg,he]
    ·exact(hc k (by omega) (by omega)).symm
   ·simp only[h1,h2,if_false];rw[<-hyg,he]
 ·simp only[he,if_false]
  have hl:zi 0 L=y.g:=by obtain⟨z,hz,hzg,_⟩:=zk h.can;rw[hy]at hz;cases hz;exact hzg
  refine⟨UF h.can hlt hg (λq hq=>by have:=h.le q hq;show q.f<b';omega) (by rw[hl];exact he),?_,λk hk=>?_⟩
  ·intro p hp
   rcases mem_append.1 hp with hp|hp
   ·have:=h.le p hp;omega
   ·simp at hp;subst hp;exact Int.le_refl _
  ·rw[UD L ⟨b',F b'⟩ k 0 (λq hq=>by have:=h.le q hq;show q.f<=b';omega),h.eq k hk]
   by_cases h1:b'<=k
   ·simp only[h1,if_true]
    by_cases h2:k<=b'
    ·have:k=b':=by omega
     subst this;simp
    ·simp only[h2,if_false]
   ·have h2:k<=b':=by omega
    simp only[h1,h2,if_false,if_true];by_cases h3:k<=b
    ·simp only[h3,if_true]
    ·simp only[h3,if_false];exact(hc k (by omega) (by omega)).symm
theorem Inv.end{L:List Pc}{b B:Int}{F:Int->Int}(h:Inv L b F)(hc:∀k,b<=k->k<=B->F k=F b):∀k,0<=k->k<=B->own 0 L k=F k:=by
 intro k hk hB;rw[h.eq k hk];by_cases h1:k<=b
 ·simp only[h1,if_true]
 ·simp only[h1,if_false];exact(hc k (by omega) hB).symm
theorem inv_one{F:Int->Int}(hg:0<=F 0/\F 0<4):Inv (join [] ⟨0,F 0⟩) 0 F:=by
 refine⟨⟨rfl,hg.1,hg.2,trivial⟩,?_,λk hk=>?_⟩
 ·intro p hp;simp[join]at hp;subst hp;exact Int.le_refl _
 ·simp only[join,getLast?_nil,nil_append,own,hk,if_true]
  by_cases h1:k<=0
  ·have:k=0:=by omega
   subst this;simp
  ·simp only[h1,if_false]
def r9(m:List Pc)(lo hi g:Int)(k:Int):Int:=if lo<=k/\k<=hi then g else own 0 m k
theorem XY{m:List Pc}(h:Can m){lo hi g:Int}(hg:0<=g/\g<4)(k:Int):0<=r9 m lo hi g k/\r9 m lo hi g k<4:=by
 unfold r9;by_cases hk:lo<=k/\k<=hi
 ·rw[if_pos hk];exact hg
 ·rw[if_neg hk];exact XX h k 0 (by decide)
theorem Pj(lo:Int)(t:List Pc):∀f d,vS f d t->vS f d (t.filter (λp=>decide (p.f<lo)))/\∀k,own d (t.filter (λp=>decide (p.f<lo))) k=own d t (if k<=lo - 1 then k else lo - 1):=by
 induction t with
 |nil=>intro f d _;exact⟨trivial,λ_=>rfl⟩
 |cons p t ih =>
  intro f d h;obtain⟨a1,a2,a3,a4,a5,a6⟩:=h;obtain⟨i1,i2⟩:=ih p.f p.g a6;by_cases hp:p.f<lo
  ·rw[filter_cons_of_pos (by simpa using hp)]
   refine⟨⟨a1,a2,a3,a4,a5,i1⟩,λk=>?_⟩;by_cases hk:k<=lo - 1
   ·simp only[own,hk,if_true];rw[i2 k,if_pos hk]
   ·have h1:p.f<=k:=by omega
    have h2:p.f<=lo - 1:=by omega
    simp only[own,hk,if_false,h1,h2,if_true];rw[i2 k,if_neg hk]
  ·have he:(p::t).filter (λp=>decide (p.f<lo))=[]:=by
    rw[filter_eq_nil_iff];intro q hq;rcases mem_cons.1 hq with rfl|hq
    ·simpa using hp
    ·have:=(Kg t p.f p.g a6 q hq).1;simp;omega
   rw[he];refine⟨trivial,λk=>?_⟩;have:¬p.f<=(if k<=lo - 1 then k else lo - 1):=by split<;>omega
   simp only[own,this,if_false]
theorem Rh{m:List Pc}(h:Can m){lo hi g:Int}(hlo:0<lo):Inv (m.filter (λp=>decide (p.f<lo))) (lo - 1) (r9 m lo hi g):=by
 have hG:∀k,k<lo->r9 m lo hi g k=own 0 m k:=λk hk=>by
  unfold r9;rw[if_neg (by omega)]
 cases m with
 |nil=>exact h.elim
 |cons p t =>
  obtain⟨a1,a2,a3,a4⟩:=h;obtain⟨i1,i2⟩:=Pj lo t 0 p.g a4;have hp:p.f<lo:=by omega
  have he:(p::t).filter (λp=>decide (p.f<lo))=p::t.filter (λp=>decide (p.f<lo)):=filter_cons_of_pos (by simpa using hp);refine⟨by rw[he];exact⟨a1,a2,a3,i1⟩,λq hq=>by have:=(mem_filter.1 hq).2;simp at this;omega,λk hk=>?_⟩;have hpk:p.f<=k:=by omega
  have hpl:p.f<=lo - 1:=by omega
  rw[he];simp only[own,hpk,if_true];rw[i2 k];by_cases h1:k<=lo - 1
  ·simp only[h1,if_true];rw[hG k (by omega)];simp only[own,hpk,if_true]
  ·simp only[h1,if_false];rw[hG (lo - 1) (by omega)];simp only[own,hpl,if_true]
def gK(hi:Int)(L:List Pc)(p:Pc):List Pc:=if hi<p.f then join L p else L
theorem join_self{L:List Pc}{p y:Pc}(hy:L.getLast? = some y)(h:y.g=p.g):join L p=L:=by
 unfold join;rw[hy];simp only[h,if_true]
theorem Pk{F:Int->Int}{hi:Int}(t:List Pc):∀(f d b:Int) (L:List Pc),vS f d t->Inv L b F->(b=if f<=hi+1 then hi+1 else f)->(∀k,f<=k->hi<k->F k=own d t k) ->
 ∃B,Inv (t.foldl (gK hi) L) B F/\∀k,B<=k->F k=F B:=by
 induction t with
 |nil =>
  intro f d b L _ hI hb hF;refine⟨b,hI,λk hk=>?_⟩;have h1:f<=b/\hi<b:=by rw[hb];split<;>omega
  rw[hF k (by omega) (by omega),hF b h1.1 h1.2];rfl
 |cons p t ih =>
  intro f d b L h hI hb hF;obtain⟨a1,a2,a3,a4,a5,a6⟩:=h;have hF':∀k,p.f<=k->hi<k->F k=own p.g t k:=λk hk hk2=>by
   rw[hF k (by omega) hk2];simp only[own,hk,if_true]
  have h1:f<=b/\hi<b:=by rw[hb];split<;>omega
  simp only[foldl_cons];by_cases hp:p.f<=hi
  ·have:gK hi L p=L:=by unfold gK;rw[if_neg (by omega)]
   rw[this];exact ih p.f p.g b L a6 hI (by rw[hb,if_pos (by omega),if_pos (by omega)]) hF'
  ·have hs:gK hi L p=join L p:=by unfold gK;rw[if_pos (by omega)]
   rw[hs];by_cases hpb:p.f=b
   ·have hb1:b=hi+1:=by
     rw[hb];split
     ·rfl
     ·rename_i hx;rw[if_neg hx]at hb;omega
    obtain⟨y,hy,hyg⟩:=hI.last;have:y.g=p.g:=by
     rw[hyg,hF' b (by omega) (by omega)];exact Ke t b p.f p.g p.g a6 (by omega)
    rw[join_self hy this];exact ih p.f p.g b L a6 hI (by rw[if_pos (by omega)];exact hb1) hF'
   ·have hbp:b<p.f:=by rw[hb]at hpb |-;split at hpb<;>split<;>omega
    have hFp:F p.f=p.g:=by rw[hF' p.f (Int.le_refl _) (by omega)];exact Ke t p.f p.f p.g p.g a6 (Int.le_refl _)
    have hJ:=hI.step hbp a2 (λk hk hk2=>by
     rw[hF k (by omega) (by omega),hF b h1.1 h1.2];have n1:¬p.f<=k:=by omega
     have n2:¬p.f<=b:=by omega
     simp only[own,n1,n2,if_false]) (by rw[hFp];exact⟨a4,a5⟩)
    rw[hFp]at hJ;exact ih p.f p.g p.f _ a6 hJ (by rw[if_neg (by omega)]) hF'
def Pm(m:List Pc)(hi:Int)(L:List Pc):List Pc:=if hi=18446744073709551615 then L else m.foldl (gK hi) (join L ⟨hi+1,own 0 m (hi+1)⟩)
def fT(m:List Pc)(lo hi g:Int):List Pc:=Pm m hi (join (m.filter (λp=>decide (p.f<lo))) ⟨lo,g⟩)
theorem UG{m:List Pc}(h:Can m){lo hi g:Int}(h0:0<=lo)(h1:lo<=hi)(h2:hi<18446744073709551616)(hg:0<=g/\g<4):Inv (join (m.filter (λp=>decide (p.f<lo))) ⟨lo,g⟩) lo (r9 m lo hi g):=by
 have hF:r9 m lo hi g lo=g:=by unfold r9;rw[if_pos (by omega)]
 rcases Int.lt_or_eq_of_le h0 with hlt|heq
 ·have:=(Rh h (hi:=hi) (g:=g) hlt).step (b':=lo) (by omega) (by omega) (λk hk hk2=>by rw[show k=lo - 1 by omega]) (by rw[hF];exact hg)
  rw[hF]at this;exact this
 ·subst heq
  have hn:m.filter (λp=>decide (p.f<0))=[]:=by
   rw[filter_eq_nil_iff];intro q hq;have:=(Nl h q hq).1;simp;omega
  have:=inv_one (F:=r9 m 0 hi g) (by rw[hF];exact hg);rw[hF]at this;rw[hn];exact this
theorem wZ{m:List Pc}(h:Can m){lo hi g:Int}(h0:0<=lo)(h1:lo<=hi)(h2:hi<18446744073709551616)(hg:0<=g/\g<4) :
 Can (fT m lo hi g)/\∀k,0<=k->k<18446744073709551616->own 0 (fT m lo hi g) k=r9 m lo hi g k:=by
 have hI:=UG h h0 h1 h2 hg;have hFl:r9 m lo hi g lo=g:=by unfold r9;rw[if_pos (by omega)]
 unfold fT Pm;by_cases hm:hi=18446744073709551615
 ·rw[if_pos hm]
  refine⟨hI.can,λk hk hk2=>hI.end (B:=18446744073709551615) (λk hk hk2=>?_) k hk (by omega)⟩;rw[hFl];unfold r9;rw[if_pos (by omega)]
 ·rw[if_neg hm]
  have hF1:r9 m lo hi g (hi+1)=own 0 m (hi+1):=by unfold r9;rw[if_neg (by omega)]
  have hJ:=hI.step (b':=hi+1) (by omega) (by omega) (λk hk hk2=>by rw[hFl];unfold r9;rw[if_pos (by omega)]) (XY h hg _);rw[hF1]at hJ;cases m with
  |nil=>exact h.elim
  |cons p t =>
   obtain⟨a1,a2,a3,a4⟩:=h;have hp:gK hi (join (join ((p::t).filter (λp=>decide (p.f<lo))) ⟨lo,g⟩) ⟨hi+1,own 0 (p::t) (hi+1)⟩) p=(join (join ((p::t).filter (λp=>decide (p.f<lo))) ⟨lo,g⟩) ⟨hi+1,own 0 (p::t) (hi+1)⟩):=by
    unfold gK;rw[if_neg (by omega)]
   rw[foldl_cons,hp];obtain⟨B,hB,hc⟩:=Pk (hi:=hi) t 0 p.g (hi+1) _ a4 hJ (by rw[if_pos (by omega)]) (λk hk hk2=>by
    unfold r9;rw[if_neg (by omega)];have:p.f<=k:=by omega
    simp only[own,this,if_true])
   exact⟨hB.can,λk hk _=>hB.end (B:=k) (λj hj _=>hc j hj) k hk (Int.le_refl _)⟩
theorem DY(L:List Pc)(p:Pc):(join L p).length<=L.length+1:=by
 unfold join;split
 ·simp
 ·split<;>simp
theorem XZ(hi:Int)(t:List Pc):∀L,(t.foldl (gK hi) L).length<=L.length+t.length:=by
 induction t with
 |nil=>intro L;simp
 |cons p t ih =>
  intro L;have h1:=ih (gK hi L p);have h2:(gK hi L p).length<=L.length+1:=by
   unfold gK;split
   ·exact DY L p
   ·omega
  simp only[foldl_cons,length_cons];omega
def Jf(m:List Pc)(i:Nat):Bool:=match m[i]? with
 |none=>true
 |some x=>decide (x.g<4) && (i == 0 || match m[i - 1]? with
  |none=>true
  |some y=>decide (y.f<x.f) && !(y.g == x.g))
def jY(m:List Pc):Bool:=decide (0<m.length) && decide (m.length<=1000) && (match m[0]? with|none=>false|some x=>x.f == 0) && (List.range m.length).all (Jf m)
end
