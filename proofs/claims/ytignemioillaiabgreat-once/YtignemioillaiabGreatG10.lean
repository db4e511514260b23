/- Lemmas. -/
import Derived.Test.YtignemioillaiabGreatG09
import Derived.Conc.DeferLaws
import Derived.Conc.Own5
import Derived.Conc.WalkWords
import Derived.Conc.AppendEvents3
import Derived.WalkKit
import Derived.WalkSpells
namespace Go.Proofs.YtignemioillaiabGreat
set_option maxHeartbeats 8000000
set_option maxRecDepth 100000
open List
section
open Go Go.Conc
theorem Ec(ps rs:Array TypeId)(args:Array Value):Plain [] (Extern.SlicesOverlaps.overlaps ps rs args):=by
 obtain⟨l⟩:=args;rcases l with _|⟨a,_|⟨b,_|⟨c,l⟩⟩⟩
 .exact trivial
 .cases a<;>exact trivial
 .cases a<;>first|exact trivial|skip
  cases b<;>first|exact trivial|skip
  cases hp:ps[0]? with
  |none =>
   show Plain [] (match ps[0]? with|some t=>_|_=>_);rw[hp];exact trivial
  |some t =>
   show Plain [] (match ps[0]? with|some t=>_|_=>_);rw[hp];refine Plain.bind' (aQ _) λd=>?_
   split
   .refine Plain.bind' (dY _) λn=>?_
    repeat' (first|with_reducible apply az|with_reducible apply xz|with_reducible apply aT|with_reducible apply BB|with_reducible apply DZ|with_reducible apply fH|(with_reducible refine Plain.bind' ?_ λ_=>?_)|(with_reducible refine Plain.map' ?_)|(with_reducible refine Plain.ite (λ_=>?_) (λ_=>?_))|split|dsimp only)
   .exact trivial
 .cases a<;>first|exact trivial|(cases b<;>exact trivial)
theorem KX {f : FuncId} {fn : Func} {e : Array Value → Sem Value} (h1 : Tryz.prog.funcs[f]? = some fn) (h2 : (fn.name == "runtime.NumGoroutine") = false) (h3 : fn.body = none) (h4 : Extern.findNext fn = none) (h5 : Extern.find fn = some e) (args : Array Value) (w : World) (es : Array Event) :
 (callFunc f args).runT Tryz.prog w es=(do mark (.extern f);pure (Next.value (<-e args)):Sem Next).runT Tryz.prog w es:=by
 unfold callFunc program;show Sem.runT Tryz.prog (Sem.bind _ _) w es=_;rw[Sem.runT_bind'];simp only[Sem.runT,h1,h2,h3,h4,h5,Option.isNone_none,Jb8,Jba,Jb9]

theorem uJ{F:Nat->Prop}{w w':World}(h:w'.heap.size=w.heap.size):Grow F w w'=F:=by
 funext b
 refine propext ⟨λx=>?_,.inl⟩;rcases x with x|x
 .exact x
 .omega
section
variable{P:Program}{main:Bool}{Stop:(Nat->Prop)->Goroutine->World->Prop}{F:Nat->Prop}{g g':Goroutine}{w:World}
theorem aA.read(hr:g.status=.running)(hs:∀w1,aO F w w1->∃es,stepG P main g w1=.go g' w1 es/\∀e∈es,BN F e)(h:aA P main Stop F g' w):aA P main Stop F g w :=
 .step hr λw1 h1=>by
  obtain⟨es,e1,e2⟩:=hs w1 h1;rw[e1,goes_go,uJ rfl];exact⟨⟨Jb0 _,λ_ _ _=>rfl,rfl,rfl,by rw[uJ rfl];exact e2⟩,h.rely h1⟩
theorem aA.ctl(hr:g.status=.running)(hs:∀w1,stepG P main g w1=.go g' w1 #[])(h:aA P main Stop F g' w):aA P main Stop F g w :=
 h.read hr λw1 _=>⟨#[],hs w1,by simp⟩
theorem aA.make(hr:g.status=.running){g':Nat->Goroutine}{o:Obj}(hs:∀w1,aO F w w1->stepG P main g w1=.go (g' w1.heap.size) {w1 with heap:=w1.heap.push o} #[])(h:∀w1 b,aO F w w1->b=w1.heap.size->aA P main Stop (λx=>F x\/x=b) (g' b) {w1 with heap:=w1.heap.push o})(_hin:∀x,F x->x<w.heap.size):aA P main Stop F g w :=
 .step hr λw1 h1=>by
  rw[hs w1 h1,goes_go];have hsz:({w1 with heap:=w1.heap.push o}:World).heap.size=w1.heap.size+1:=by simp
  have hg:Grow F w1 {w1 with heap:=w1.heap.push o}=λx=>F x\/x=w1.heap.size:=by
   funext x
   refine propext ⟨λy=>y.imp id λy=>?_,λy=>y.imp id λy=>?_⟩
   .rw[hsz]at y;omega
   .rw[hsz];omega
  refine⟨⟨by rw[hsz];omega,λb hb _=>?_,rfl,rfl,by simp⟩,by rw[hg];exact h w1 _ h1 rfl⟩;show(w1.heap.push o)[b]?=_;rw[Jbf];split
  .omega
  .rfl
end
theorem cO.heap{w w':World}(h:cO w w'):w'.heap=w.heap:=by obtain⟨p,rfl⟩:=h;rfl
theorem cO.os{w w':World}(h:cO w w'):w'.os=w.os:=by obtain⟨p,rfl⟩:=h;rfl
theorem cO.out{w w':World}(h:cO w w'):w'.output=w.output:=by obtain⟨p,rfl⟩:=h;rfl
structure Shut(P:Program)(main:Bool)(D:World->World->Array Event->Prop)(X:Goroutine->World->Prop):Prop where
 step:∀{g:Goroutine} {w:World},g.status=.running->(∀w₁,cO w w₁->(stepG P main g w₁).goes λg' w' es=>D w₁ w' es/\X g' w')->X g w
 rely:∀{g:Goroutine} {w w₁:World},cO w w₁->X g w->X g w₁
 plain:∀{w w':World} {es:Array Event},VJ w w' es->D w w' es
theorem wN{P:Program}{main:Bool}{pk th:Nat}{Stop:Goroutine->World->Prop}:Shut P main (DW pk th) (dD P main cO (DW pk th) Stop) :=
 ⟨λhr h=>dD.step hr h,λhw h=>h.rely jS hw,λh=>.of h⟩
structure Gf(F:Nat->Prop)(w0:World)(F':Nat->Prop)(w:World):Prop where
 rest:∀x,x<w0.heap.size->¬F x->w.heap[x]?=w0.heap[x]?
 own:∀x,F' x->F x\/w0.heap.size<=x
 size:w0.heap.size<=w.heap.size
 xD:∀x,F' x->x<w.heap.size
 os:w.os=w0.os
 out:w.output=w0.output
theorem aA.toU{P:Program}{main:Bool}{pk th:Nat}{Stop:(Nat->Prop)->Goroutine->World->Prop}{F:Nat->Prop}{g:Goroutine}{w:World}(h:aA P main Stop F g w)(h1:¬F pk)(h2:¬F th)(h3:pk<w.heap.size)(h4:th<w.heap.size)(h5:∀x,F x->x<w.heap.size) :
 dD P main cO (DW pk th) (λg w'=>∃F',Stop F' g w'/\Gf F w F' w') g w:=by
 have key:=h.induct (X:=λF' g w'=>Gf F w F' w'->dD P main cO (DW pk th) (λg w'=>∃F',Stop F' g w'/\Gf F w F' w') g w') ?_ ?_
 .exact key ⟨λ_ _ _=>rfl,λ_ hx=>.inl hx,Jb0 _,h5,rfl,rfl⟩
 .intro F' g w' hs hS
  exact dD.stop λw₁ hw=>by
   obtain⟨p,rfl⟩:=hw;exact⟨F',hs _ ⟨Jb0 _,λ_ _=>rfl,rfl,rfl⟩,⟨hS.rest,hS.own,hS.size,hS.xD,hS.os,hS.out⟩⟩
 .intro F' g w' hr hst hS
  refine dD.step hr ?_;rintro w₁ ⟨p,rfl⟩;refine goes_mono (hst _ ⟨Jb0 _,λ_ _=>rfl,rfl,rfl⟩) ?_;rintro g' w2 es ⟨hg,_,hx⟩;have hsz:w'.heap.size<=w2.heap.size:=hg.size;have hnf:∀c,¬F c->c<w.heap.size->¬F' c:=λc hc hl hF'=>by
   rcases hS.own c hF' with h|h
   .exact hc h
   .omega
  refine⟨⟨λe he=>(hg.evs e he).1,?_⟩,hx ⟨λx hx hn=>(hg.rest x (Jbz hx hS.size) (hnf x hn hx)).trans (hS.rest x hx hn),?_,Jb1 hS.size hsz,?_,hg.os.trans hS.os,hg.out.trans hS.out⟩⟩
  .rintro c (rfl|rfl) o _ hc
   .exact(hg.rest _ (Jbz h3 hS.size) (hnf _ h1 h3)).trans hc
   .exact(hg.rest _ (Jbz h4 hS.size) (hnf _ h2 h4)).trans hc
  .rintro x (hx|hx)
   .exact hS.own x hx
   .have:=hS.size
    have:=hx.1;simp only[reW]at this;exact .inr (by omega)
  .rintro x (hx|hx)
   .have:=hS.xD x hx;omega
   .exact hx.2
def XR(P:Program)(K:Machine->Trace->Prop)(g:Goroutine)(w:World):Prop :=
 ∀w₁,cO w w₁->∀(gs:Array Goroutine) (sl:Option (Nat×Nat)) (t:Trace) (q:Nat->Nat),gs[0]?=some g->aU (· = 0) P t gs q->jI t->Reaches P K (crowd gs w₁ sl) t
theorem nH{P:Program}{K:Machine->Trace->Prop}:Shut P true yX (XR P K):=by
 have rly:∀{g:Goroutine} {w w₁:World},cO w w₁->XR P K g w->XR P K g w₁:=λhw h w₂ h2=>h w₂ (jS _ _ _ hw h2)
 refine⟨λ{g w} hr h w₁ hw gs sl t q h0 hL hP=>?_,rly,λh=>h.1⟩;have hU:dD P true AtRel yX (XR P K) g w₁:=dD.step hr λw₂ h2=>goes_mono (h w₂ (jS _ _ _ hw (zL h2))) λ_ _ _ hx=>⟨hx.1,dD.stop λw₃ h3=>rly (zL h3) hx.2⟩
 refine(VK (sl:=sl) hU h0 hL hP).trans ?_;rintro m t ⟨gs',a,w',sl',q',rfl,_,h0',hX,hL',hP'⟩;exact hX w' (zK _) gs' sl' t q' h0' hL' hP'
section
variable{P:Program}{main:Bool}{D:World->World->Array Event->Prop}{X:Goroutine->World->Prop}{g g':Goroutine}{w:World}
theorem VQ(w:World):VJ w w #[]:=⟨by simp,gp.refl _⟩
theorem Shut.ctl(hX:Shut P main D X)(hr:g.status=.running)(hs:∀w,stepG P main g w=.go g' w #[])(h:X g' w):X g w :=
 hX.step hr λw₁ h1=>by rw[hs,goes_go];exact⟨hX.plain (VQ _),hX.rely h1 h⟩
variable{b:Frame}{a:Act}{k:List Item}{cs:List Frame}
structure aH(P:Program)(main:Bool)(X:Goroutine->World->Prop):Prop where
 go:∀{g g':Goroutine} {w:World},g.status=.running->(∀w,stepG P main g w=.go g' w #[])->X g' w->X g w
theorem Shut.c(hX:Shut P main D X):aH P main X:=⟨λhr hs h=>hX.ctl hr hs h⟩
theorem aC{Stop:(Nat->Prop)->Goroutine->World->Prop}{F:Nat->Prop}:aH P main (aA P main Stop F):=⟨λhr hs h=>aA.ctl hr hs h⟩
theorem aH.skip(hX:aH P main X)(h:X (G (b.at a k) cs) w):X (G (b.at a (.code .skip::k)) cs) w:=hX.go rfl (λ_=>stepG_skip) h
theorem aH.inBlock(hX:aH P main X){id:Nat}(h:X (G (b.at a k) cs) w):X (G (b.at a (.inBlock id::k)) cs) w:=hX.go rfl (λ_=>stepG_inBlock) h
theorem aH.seq(hX:aH P main X){x y:Code}(h:X (G (b.at a (.code x::.code y::k)) cs) w):X (G (b.at a (.code (.seq x y)::k)) cs) w:=hX.go rfl (λ_=>stepG_seq) h
theorem aH.cond(hX:aH P main X){c:Operand}{x y:Code}(t:Bool)(hc:a.eval c=.bool t)(h:X (G (b.at a (.code (if t then x else y)::k)) cs) w):X (G (b.at a (.code (.cond c x y)::k)) cs) w:=hX.go rfl (λ_=>stepG_cond hc) h
theorem aH.block(hX:aH P main X){id:Nat}{c:Code}(h:X (G (b.at a (.code c::.inBlock id::k)) cs) w):X (G (b.at a (.code (.block id c)::k)) cs) w:=hX.go rfl (λ_=>stepG_block) h
theorem aH.loop(hX:aH P main X){c:Code}(h:X (G (b.at a (.code c::.inLoop c::k)) cs) w):X (G (b.at a (.code (.loop c)::k)) cs) w:=hX.go rfl (λ_=>stepG_loop) h
theorem aH.inLoop(hX:aH P main X){c:Code}(h:X (G (b.at a (.code c::.inLoop c::k)) cs) w):X (G (b.at a (.inLoop c::k)) cs) w:=hX.go rfl (λ_=>stepG_inLoop) h
theorem aH.exit(hX:aH P main X){id:Nat}{k':List Item}(he:exitTo id k=some k')(h:X (G (b.at a k') cs) w):X (G (b.at a (.code (.exit id)::k)) cs) w:=hX.go rfl (λ_=>stepG_exit he) h
theorem aH.region(hX:aH P main X){id:Nat}{ops:Array Oper}(l:List Nat)(hl:List.range ops.size=l)(h:X (G (b.at a (.inRegion ops l::k)) cs) w):X (G (b.at a (.code (.region id ops false)::k)) cs) w:=hX.go rfl (λ_=>by rw[stepG_region,hl]) h
theorem aH.regionEnd(hX:aH P main X){ops:Array Oper}(h:X (G (b.at a k) cs) w):X (G (b.at a (.inRegion ops []::k)) cs) w:=hX.go rfl (λ_=>stepG_region_end) h
theorem aH.fin(hX:aH P main X)(h:X (G {b.at a []with mode:=.returning} cs) w):X (G (b.at a []) cs) w:=hX.go rfl (λ_=>stepG_end) h
theorem aH.ret(hX:aH P main X)(h:X (G {b.at a (.code .ret::k)with mode:=.returning} cs) w):X (G (b.at a (.code .ret::k)) cs) w:=hX.go rfl (λ_=>stepG_ret') h
theorem aH.quiet(hX:aH P main X){ops:Array Oper}{i:Nat}{rest:List Nat}{o:Oper}(ho:ops[i]?=some o)(hw:Region.wanted o (yielded ops a.tmps)=true)(hk:b.kind≠.early)(v:Value)(hr:∀w,(execOp a.eval o).run P w=.ok (.value v) w)(he:∀w,(execOp a.eval o).events P w #[]=#[])
 (h:X (G (b.at (a.put o.dst v) (.inRegion ops rest::k)) cs) w):X (G (b.at a (.inRegion ops (i::rest)::k)) cs) w:=by
 refine hX.go rfl (λw₁=>?_) h;rw[stepG_value ho hw hk (hr w₁)];have:listed P b.fn a o w₁=#[]:=by unfold listed;rw[he w₁];exact seen_none P _
 rw[this]
theorem aH.enter(hX:aH P main X){ops:Array Oper}{i:Nat}{rest:List Nat}{o:Oper}(ho:ops[i]?=some o)(hw:Region.wanted o (yielded ops a.tmps)=true)(hk:b.kind≠.early){f:FuncId}{args:Array Value}(hr:∀w,(execOp a.eval o).run P w=.ok (.enter f args) w)(he:∀w,(execOp a.eval o).events P w #[]=#[])
 (h:X (G (Frame.enter P f args .normal) (b.at a (.inRegion ops (i::rest)::k)::cs)) w):X (G (b.at a (.inRegion ops (i::rest)::k)) cs) w:=by
 refine hX.go rfl (λw₁=>?_) h;rw[stepG_enter ho hw hk (hr w₁)];have:listed P b.fn a o w₁=#[]:=by unfold listed;rw[he w₁];exact seen_none P _
 rw[this]
theorem Qm{s:Sem Next}(hp:Plain [] s)(w:World):(∀e∈s.events P w #[],nK e)/\gp w (KH (s.run P w)):=by
 have h1:=(FZ (Q:=λ_=>True) P s w #[] hp (by
  have:=iw.bind (Q:=λ_=>True) (f:=λv=>(pure v:Sem Next)) (λ_=>trivial) s;rwa [bind_pure]at this)).2 (by simp)
 refine⟨λe he=>h1 e ?_,Qj P s w hp (by simp)⟩;exact he
end
end
section
open Go Go.Conc
open Go.ConcN (sumTo upd sumTo_upd upd_ne upd_same)
section
variable{P:Program}{s:Score}{SM SW:List Value->(Nat->Prop)->Goroutine->World->Prop}{dE:Value->Prop}
theorem Iy(i:Nat)(fn:FuncId)(pos:String):(MemOp.ofEvents i fn pos #[]:Trace)=#[]:=rfl
theorem KY(hp:Parts P s SM SW dE){acc vs:List Value}{v z:Value}(hV:Claim P s SM SW vs):∀(M:Nat) {F0 FW T0 TW:Nat->Prop} {gs:Array Goroutine} {a A2 B2:Goroutine} {w:World} {sl:Option (Nat×Nat)} {t:Trace} {q:Nat->Nat} {kp kt k:Nat},k+sumTo s.size q<=M->QW P s.cs A2 k a->kP P s SM dE acc F0 A2 w->dE v->aA P false (SW vs) FW (Go.Conc.served B2 undef) w->dH P s kp kt false F0 FW gs a (parked B2 #[scase s.pk v z] .send) w->aU (Two s.W) P t gs q->dP s.W T0 TW t->Reaches P (Fin P s SM SW (acc++v::vs)) (crowd gs w sl) t:=by
 intro M;induction M using Nat.strongRecOn with
 |ind M ih =>
  intro F0 FW T0 TW gs a A2 B2 w sl t q kp kt k hM hQ hS hv hn h hL hT;rcases hQ.cases with ha|⟨k',a',rfl,hgo,hk'⟩
  .exact Ga hp hV _ (Jb0 _) ha hS hv hn h hL hT
  have hrun:=hQ.running;have hlt:0<gs.size:=(Jbd.1 h.g0).1;rcases h.pick hL (fI hrun) (oC _ _ _) (.inl hrun) (λd=>eG hrun _) (λd=>again_send_open (h.op.at d)) sl with⟨d,sl',_,hst⟩|⟨d,sl',hx,_⟩|⟨d,sl',gs',q',i,fn,pos,es,hi0,kN,hm,hst,h',hL',hlt'⟩
  .have hr:=runT_crowd_go (P:=P) (sl:=sl') (i:=0) h.g0 (show stepG P (0==0) a (w.at d)=_ from hgo (w.at d))
   refine Reaches.step (hst.trans hr) ?_;rw[Iy,Jby];have hL':=hL.pg (g:=a) (g':=a') (w':=w.at d) (.inl rfl) hlt (u:=#[]) (by simp);rw[Jby]at hL';exact ih (k'+sumTo s.size q) (by omega) (Jb0 _) hk' (hS.rely hp (aO.at F0 w d)) hv (hn.rely (aO.at FW w d)) (h.at d (ji hlt) (by rw[dO (Ne.symm h.w0) h.gW,tT (again_send_open (h.op.at d))]) (by simp)) hL' hT
  .cases hx
  .refine Reaches.step hst ?_
   exact ih (k'+1+sumTo s.size q') (by omega) (Jb0 _) hQ (hS.rely hp (aO.at F0 w d)) hv (hn.rely (aO.at FW w d)) h' hL' (nG hT hi0 kN hm)
theorem KZ(hp:Parts P s SM SW dE){acc:List Value}:∀(M:Nat) {F0 FW T0 TW:Nat->Prop} {gs:Array Goroutine} {a A2 b b0:Goroutine} {w:World} {sl:Option (Nat×Nat)} {t:Trace} {q:Nat->Nat} {kp kt pc k:Nat},k+sumTo s.size q<=M->QW P s.cs A2 k a->kP P s SM dE acc F0 A2 w->SW [] FW b0 w->dH P s kp kt true F0 FW gs a b w->aU (· = 0) P t gs q->rM s.th pc T0 TW t->Reaches P (Fin P s SM SW acc) (crowd gs w sl) t:=by
 intro M;induction M using Nat.strongRecOn with
 |ind M ih =>
  intro F0 FW T0 TW gs a A2 b b0 w sl t q kp kt pc k hM hQ hS hW h hL hT;rcases hQ.cases with ha|⟨k',a',rfl,hgo,hk'⟩
  .exact zN hp _ (Jb0 _) ha hS hW h hL hT
  have hrun:=hQ.running;have hlt:0<gs.size:=(Jbd.1 h.g0).1;have hltW:s.W<gs.size:=(Jbd.1 h.gW).1;have haw:=hL.awake λi g hi hg=>by cases hi;rw[h.g0]at hg;cases hg;exact awake_of (.inl hrun)
  obtain⟨i,g,d,sl',hi,hg,hst⟩:=crowd_pick (P:=P) (w:=w) (sl:=sl) haw ⟨0,a,h.g0,hrun⟩;by_cases hi0:i=0
  .subst hi0
   obtain rfl:g=a:=by have:=h.g0;rw[hi]at this;exact Jbm this
   have hr:=runT_crowd_go (P:=P) (sl:=sl') (i:=0) hi (show stepG P (0==0) g (w.at d)=_ from hgo (w.at d));refine Reaches.step (hst.trans hr) ?_;rw[Iy,Jby];have hL':=hL.pg (g:=g) (g':=a') (w':=w.at d) rfl hlt (u:=#[]) (by simp);rw[Jby]at hL';obtain⟨b',hb'⟩:∃b',((gs.map (woken P g a' (w.at d))).setIfInBounds 0 a')[s.W]?=some b':=⟨_,Jbn (by simpa using hltW)⟩;exact ih (k'+sumTo s.size q) (by omega) (Jb0 _) hk' (hS.rely hp (aO.at F0 w d)) (hp.kV _ _ _ _ _ hW (aO.at FW w d)) (h.at d (ji hlt) hb' (by simp)) hL' hT
  .obtain⟨g',es,q',hm,yY,hL',hlt'⟩:=hL.slip (w:=w.at d) hi hi0 hi0 hg sl'
   refine Reaches.step (hst.trans yY) ?_;rw[h.sz]at hlt';obtain⟨b',hb'⟩:∃b',((gs.map (woken P g g' (w.at d))).setIfInBounds i g')[s.W]?=some b':=⟨_,Jbn (by simpa using hltW)⟩;exact ih (k'+1+sumTo s.size q') (by omega) (Jb0 _) hQ (hS.rely hp (aO.at F0 w d)) (hp.kV _ _ _ _ _ hW (aO.at FW w d)) (h.at d (by rw[dO hi0 h.g0,woken_run hrun]) hb' (by simp)) hL' (hT.still (EK hm) ((Deaf_other t hi0 _ ofEvents_g).trans hT.nL))
theorem Qo(hp:Parts P s SM SW dE){acc vs:List Value}:∀(M:Nat) {F0 FW T0 TW:Nat->Prop} {gs:Array Goroutine} {a A2 b:Goroutine} {w:World} {sl:Option (Nat×Nat)} {t:Trace} {q:Nat->Nat} {kp kt k:Nat},k+sumTo s.size q<=M->QW P s.cs A2 k a->kP P s SM dE acc F0 A2 w->SW vs FW b w->dH P s kp kt false F0 FW gs a b w->aU (Two s.W) P t gs q->dP s.W T0 TW t->(∀x,T0 x->¬oz s TW x)->Reaches P (Fin P s SM SW (acc++vs)) (crowd gs w sl) t:=by
 intro M;induction M using Nat.strongRecOn with
 |ind M ih =>
  intro F0 FW T0 TW gs a A2 b w sl t q kp kt k hM hQ hS hW h hL hT hd;have hrun:=hQ.running;have vC:=F7 hp hW;have hlt:0<gs.size:=(Jbd.1 h.g0).1;rcases h.pick hL (fI hrun) (fI vC) (.inl hrun) (λd=>eG hrun _) (λd=>eG vC _) sl with⟨d,sl',_,hst⟩|⟨d,sl',_,hst⟩|⟨d,sl',gs',q',i,fn,pos,es,hi0,kN,hm,hst,h',hL',hlt'⟩
  .have hD:=h.at d h.g0 h.gW rfl
   rcases hQ.cases with ha|⟨k',a',rfl,hgo,hk'⟩
   .obtain⟨gs',ops,hr,rfl,hD',hL'⟩:=BS hp hD hL ha vC sl'
    refine Reaches.step (hst.trans hr) ?_;rw[Jby];exact xC hp (λ_ vs' _=>Ql hp vs') _ (Jb0 _) (hS.rely hp (aO.at F0 w d)) (hp.kV _ _ _ _ _ hW (aO.at FW w d)) hD' hL' hT hd
   .have hr:=runT_crowd_go (P:=P) (sl:=sl') (i:=0) h.g0 (show stepG P (0==0) a (w.at d)=_ from hgo (w.at d))
    refine Reaches.step (hst.trans hr) ?_;rw[Iy,Jby];have hL':=hL.pg (g:=a) (g':=a') (w':=w.at d) (.inl rfl) hlt (u:=#[]) (by simp);rw[Jby]at hL';exact ih (k'+sumTo s.size q) (by omega) (Jb0 _) hk' (hS.rely hp (aO.at F0 w d)) (hp.kV _ _ _ _ _ hW (aO.at FW w d)) (h.at d (ji hlt) (by rw[dO (Ne.symm h.w0) h.gW,woken_run vC]) (by simp)) hL' hT hd
  .have hD:=h.at d h.g0 h.gW rfl
   have hS':=hS.rely hp (aO.at F0 w d);have hW':=hp.kV _ _ _ _ _ hW (aO.at FW w d);cases vs with
   |nil =>
    obtain⟨gs',b',w',ops,q',pc,hr,hth,hD',hW2,hrel,hL',hT'⟩:=BR hp hD hL hT hd hW' sl';refine Reaches.step (hst.trans hr) ?_;rw[eG hrun]at hD';rw[Jc1];exact KZ hp _ (Jb0 _) hQ (hS'.rely hp hrel) hW2 hD' hL' hT'
   |cons v vs' =>
    obtain⟨hv,_,B2,z,hb,hn⟩:=hp.send _ _ _ _ _ hW';obtain⟨gs',ops,hr,rfl,hD',hL'⟩:=Gb hp hD hL hrun hb sl';refine Reaches.step (hst.trans hr) ?_;rw[Jby];exact KY hp (Ql hp vs') _ (Jb0 _) hQ hS' hv hn hD' hL' hT
  .refine Reaches.step hst ?_
   exact ih (k+sumTo s.size q') (by omega) (Jb0 _) hQ (hS.rely hp (aO.at F0 w d)) (hp.kV _ _ _ _ _ hW (aO.at FW w d)) h' hL' (nG hT hi0 kN hm) hd
theorem meet(hp:Parts P s SM SW dE){acc vs:List Value}{F0 FW T0 TW:Nat->Prop}{gs:Array Goroutine}{a A2 b:Goroutine}{w:World}{sl:Option (Nat×Nat)}{t:Trace}{q:Nat->Nat}{kp kt n:Nat}(hQ:MQ P s.cs A2 n a)(hS:kP P s SM dE acc F0 A2 w)(hW:SW vs FW b w)(h:dH P s kp kt false F0 FW gs a b w)(hL:aU (Two s.W) P t gs q)(hT:dP s.W T0 TW t)(hd:∀x,T0 x->¬oz s TW x):Reaches P (Fin P s SM SW (acc++vs)) (crowd gs w sl) t:=by
 rcases hQ with⟨k,_,hk⟩|⟨_,rfl⟩
 .exact Qo hp _ (Jb0 _) hk hS hW h hL hT hd
 .exact xC hp (λ_ vs' _=>Ql hp vs') _ (Jb0 _) hS hW h hL hT hd
end
theorem iY.inj{P:Program}{cs:Array CommCase}{A2 Ow a:Goroutine}(h:iY P cs A2 a)(h':iY P cs Ow a)(w:World):A2=Ow:=by
 have:=(h.KT w).symm.trans (h'.KT w);injection this
structure agF(P:Program)(pk th:Nat)(z0 z1:Value)(A2:Goroutine)(SM SW:List Value->(Nat->Prop)->Goroutine->World->Prop)(dE:Value->Prop)(vs:List Value)(F0 FW:Nat->Prop)(b:Goroutine)(w:World):Prop where
 parts:∀s:Score,s.pk=pk->s.th=th->s.z0=z0->s.z1=z1->Parts P s SM SW dE
 sw:SW vs FW b w
 sm:∃a0,SM [] F0 a0 w/\iY P (dB pk th z0 z1) A2 a0
 apart:∀x,F0 x->¬FW x
 Jj:∀x,F0 x->x<w.heap.size
 Eb:∀x,FW x->x<w.heap.size
 tV:¬F0 pk/\¬F0 th
 wM:¬FW pk/\¬FW th
structure Done(pk th:Nat)(F0 FW xB Bb:Nat->Prop)(w w':World):Prop where
 rest:∀x,x<w.heap.size->¬F0 x->¬FW x->x≠pk->x≠th->w'.heap[x]?=w.heap[x]?
 BQ:∀x,x<w.heap.size->xB x->F0 x
 EJ:∀x,x<w.heap.size->Bb x->FW x
 apart:∀x,xB x->¬Bb x
 size:w.heap.size<=w'.heap.size
 os:w'.os=w.os
 out:w'.output=w.output
theorem hire{P:Program}{K:Machine->Trace->Prop}{gM X6 A2:Goroutine}{d:Deferred}{w:World}{pk th:Nat}{z0 z1:Value}{n:Nat}{pq:Goroutine->World->Prop}(hrun:gM.status=.running)(hsp:∀w₁,stepG P true gM w₁=.spawn X6 (born P d) w₁ #[])
 (hq:QW P (dB pk th z0 z1) A2 n X6) (hpk:dG w pk 0) (hth:dG w th 0) (hne:pk≠th) (hwk:dD P false cO (DW pk th) pq (born P d) w)
 (aei:∀b w',pq b w'->∃SM SW dE vs F0 FW,agF P pk th z0 z1 A2 SM SW dE vs F0 FW b w' /\
  ∀xB Bb Ow a0 b0 w'',SM vs xB a0 w''->iY P (dB pk th z0 z1) Ow a0->SW [] Bb b0 w''->Done pk th F0 FW xB Bb w' w''->XR P K (Ow.finishComm P (dB pk th z0 z1) .select 1 z1 false) w''):XR P K gM w:=by
 intro w₀ X7 gs sl t q h0 hL hP;replace hpk:dG w₀ pk 0:=by unfold dG;rw[X7.heap];exact hpk
 replace hth:dG w₀ th 0:=by unfold dG;rw[X7.heap];exact hth
 replace hwk:=hwk.rely jS X7;clear X7;suffices H:∀M gs sl t q w₀,sumTo gs.size q<=M->gs[0]?=some gM->aU (· = 0) P t gs q->jI t->dG w₀ pk 0->dG w₀ th 0->dD P false cO (DW pk th) pq (born P d) w₀->Reaches P K (crowd gs w₀ sl) t from H _ gs sl t q w₀ (Jb0 _) h0 hL hP hpk hth hwk
 intro M;induction M using Nat.strongRecOn with
 |ind M ih =>
  intro gs sl t q w hM h0 hL hP hpk hth hwk;have haw:=hL.awake λi g hi hg=>by cases hi;rw[h0]at hg;cases hg;exact awake_of (.inl hrun)
  obtain⟨i,g,dd,sl',hi,hg,hst⟩:=crowd_pick (P:=P) (w:=w) (sl:=sl) haw ⟨0,gM,h0,hrun⟩;have hlt:0<gs.size:=(Jbd.1 h0).1;by_cases hi0:i=0
  .subst hi0
   obtain rfl:g=gM:=by rw[h0]at hi;exact(Jbm hi).symm
   have hr:=runT_crowd_spawn (P:=P) (sl:=sl') (i:=0) hi (show stepG P (0==0) g (w.at dd)=_ from hsp (w.at dd));refine Reaches.step (hst.trans hr) ?_;have hdW:Deaf t gs.size=0:=hL.above _ (Jb0 _);have hops:((MemOp.ofEvents 0 g.frame.fn g.frame.place #[]).push {g:=0,fn:=g.frame.fn,pos:=g.frame.place,act:=.go gs.size} |>.push {g:=gs.size,fn:=(born P d).frame.fn,pos:=g.frame.place,act:=.start}:Trace)=#[⟨0,g.frame.fn,g.frame.place,.go gs.size⟩,⟨gs.size,(born P d).frame.fn,g.frame.place,.start⟩]:=rfl;rw[hops];have hne2:rJ #[(⟨0,g.frame.fn,g.frame.place,.go gs.size⟩:MemOp),⟨gs.size,(born P d).frame.fn,g.frame.place,.start⟩]:=by
    intro op hop;simp only[Jbq,Jb3,Jbw,Jbx]at hop;rcases hop with rfl|rfl<;>exact⟨nofun,nofun⟩
   have hA:yZ P gs.size pk th z0 z1 A2 0 0 ((gs.setIfInBounds 0 X6).push (born P d)) X6 (born P d) (w.at dd) (t++#[⟨0,g.frame.fn,g.frame.place,.go gs.size⟩,⟨gs.size,(born P d).frame.fn,g.frame.place,.start⟩]) q (n+1):=by
    refine⟨?_,?_,by omega,⟨λj x hj hx=>?_,λj hj=>?_⟩,dP.start hP (by omega) hdW _ _ _ _,hpk.at dd,hth.at dd,.inl ⟨n,rfl,hq⟩⟩
    .rw[Jbf,Jb5 (by simp;omega),Array.getElem?_setIfInBounds_self_of_lt hlt]
    .rw[Jbf,Jb6 (by simp)]
    .rw[mF hne2]
     rw[Jbf]at hx;split at hx
     .rename_i e
      exact absurd (Or.inr (by simpa using e)) hj
     .rw[Array.getElem?_setIfInBounds_ne (λe=>hj (.inl e.symm))]at hx
      exact hL.old j x (λe=>hj (.inl e)) hx
    .rw[mF hne2]
     exact hL.above j (by simp at hj;omega)
   refine(work (sl:=sl') ((hwk.rely jS ⟨(w.tape,dd),rfl⟩).weak (λ_ _ h=>zL h) λ_ _ _ h=>h) hA).trans ?_;rintro m t' ⟨gs',a',b',w',sl2,q',n',rfl,hsz,hA',hSt⟩;obtain⟨SM,SW,dE,vs,F0,FW,hD,hend⟩:=aei b' w' hSt;let s:Score:={W:=gs.size,size:=gs'.size,pk:=pk,th:=th,z0:=z0,z1:=z1,ns:=w'.heap.size,eu:=F0,VM:=FW,rest:=λx=>w'.heap[x]?,os:=w'.os,out:=w'.output}
   have hp:Parts P s SM SW dE:=hD.parts s rfl rfl rfl rfl;obtain⟨a0,hsm,hat⟩:=hD.sm;obtain⟨A3,agG,hS⟩:=hp.F4 hsm;obtain rfl:=hat.inj agG w';have agH:dH P s 0 0 false F0 FW gs' a' b' w':=⟨hA'.g0,hA'.gW,hA'.w0,rfl,hD.apart,hD.Jj,hD.Eb,hA'.op,hA'.ot,hD.tV,hD.wM,hne,λ_ _ h=>h,λ_ _ h=>h,Jb0 _,λ_ _ _ _ _ _=>rfl,rfl,rfl⟩;refine(meet (s:=s) hp (acc:=[]) hA'.mq hS hD.sw agH hA'.lv hA'.tr (λ_ h=>h.elim)).trans ?_;rintro m t2 ⟨gs2,w2,sl3,q2,F2,FW2,A4,b2,a2,b3,kp,kt,rfl,hD2,hm2,agI,hw2,hL2,hP2⟩;exact hend F2 FW2 A4 a2 b3 w2 (by simpa using hm2) agI hw2 ⟨λx hx h1 h2 h3 h4=>hD2.Su x hx h1 h2 h3 h4,hD2.BQ,hD2.EJ,hD2.apart,hD2.big,hD2.Sv,hD2.KU⟩ w2 (zK _) gs2 sl3 t2 q2 hD2.g0 hL2 hP2
  .obtain⟨g',es,q',hm,yY,hL',hlt'⟩:=hL.slip (w:=w.at dd) hi hi0 hi0 hg sl'
   refine Reaches.step (hst.trans yY) ?_;have hsz:((gs.map (woken P g g' (w.at dd))).setIfInBounds i g').size=gs.size:=by simp
   exact ih (sumTo gs.size q') (by omega) _ sl' _ q' _ (by rw[hsz];exact Jb0 _) (by rw[dO hi0 h0,woken_run hrun]) hL' (hP.mute hi0 hm) (hpk.at dd) (hth.at dd) (hwk.rely jS ⟨(w.tape,dd),rfl⟩)
end
section
open Go Go.Conc
theorem zP{F:Nat->Prop}{e:Event}{ad:Addr}(h:e.loc=.cell ad)(hF:F ad.block):BN F e:=by
 obtain⟨l,wr,sy⟩:=e;simp only at h;subst h;refine⟨⟨nofun,nofun⟩,λx hx _=>?_⟩;have:(⟨.cell ad,wr,if sy then .atomic else .plain⟩:Touch)=x:=by
  cases wr<;>cases sy<;>exact Jbm hx
 subst this;exact hF
theorem VR{F:Nat->Prop}{m:Mark}(h:Neutral m):BN F ⟨.mark m,false,true⟩:=by
 unfold Neutral at h;subst h;exact⟨⟨nofun,nofun⟩,λx hx _=>by cases hx⟩
section
variable{P:Program}{main:Bool}{Stop:(Nat->Prop)->Goroutine->World->Prop}{F:Nat->Prop}{w:World}{b:Frame}{a:Act}{k:List Item}{cs:List Frame}{ops:Array Oper}{i:Nat}{rest:List Nat}{o:Oper}
theorem aA.opK(ho:ops[i]?=some o)(hw:Region.wanted o (yielded ops a.tmps)=true)(hk:b.kind≠.early)
 (h:∀w1,aO F w w1->∀K:Act->World->Prop,(∀a' w',mG F w1 w' (listed P b.fn a o w1)->aA P main Stop (Grow F w1 w') (G (b.at a' (.inRegion ops rest::k)) cs) w'->K a' w')->uponK o a K ((execOp a.eval o).run P w1)) :
 aA P main Stop F (G (b.at a (.inRegion ops (i::rest)::k)) cs) w:=by
 refine aA.step rfl λw1 h1=>goes_oper ho hw hk ?_
 have h2:=h w1 h1 (λa' w'=>mG F w1 w' (listed P b.fn a o w1)/\aA P main Stop (Grow F w1 w') (G (b.at a' (.inRegion ops rest::k)) cs) w') λ_ _ x y=>⟨x,y⟩
 generalize (execOp a.eval o).run P w1=r at h2;cases r with
 |ok n w'=>cases n<;>first|exact h2|exact h2.elim
 |halt x w'=>exact h2.elim
theorem aA.X8(ho:ops[i]?=some o)(hw:Region.wanted o (yielded ops a.tmps)=true)(hk:b.kind≠.early)(he:∀w1,aO F w w1->∀e∈(execOp a.eval o).events P w1 #[],BN F e){v:Value}(hr:∀w1,aO F w w1->(execOp a.eval o).run P w1=.ok (.value v) w1)
 (h:aA P main Stop F (G (b.at (a.put o.dst v) (.inRegion ops rest::k)) cs) w):aA P main Stop F (G (b.at a (.inRegion ops (i::rest)::k)) cs) w:=by
 refine aA.read rfl (λw1 h1=>⟨_,stepG_value ho hw hk (hr w1 h1),λe h=>he w1 h1 e (wK _ _ _ e h)⟩) h
theorem aA.Km(ho:ops[i]?=some o)(hw:Region.wanted o (yielded ops a.tmps)=true)(hk:b.kind≠.early){ob:Obj}{v:Nat->Value}(he:∀w1,(execOp a.eval o).events P w1 #[]=#[])(hr:∀w1,(execOp a.eval o).run P w1=.ok (.value (v w1.heap.size)) (w1.alloc ob))(hin:∀x,F x->x<w.heap.size)
 (h:∀w1,aO F w w1->aA P main Stop (λx=>F x\/x=w1.heap.size) (G (b.at (a.put o.dst (v w1.heap.size)) (.inRegion ops rest::k)) cs) (w1.alloc ob)):aA P main Stop F (G (b.at a (.inRegion ops (i::rest)::k)) cs) w:=by
 refine aA.make rfl (o:=ob) (g':=λn=>G (b.at (a.put o.dst (v n)) (.inRegion ops rest::k)) cs) (λw1 _=>?_) (λw1 b' h1 hb=>hb▸h w1 h1) hin;rw[stepG_value ho hw hk (hr w1)];have:listed P b.fn a o w1=#[]:=by unfold listed;rw[he w1];exact seen_none P _
 rw[this];rfl
theorem aA.aaX(ho:ops[i]?=some o)(hw:Region.wanted o (yielded ops a.tmps)=true)(hk:b.kind≠.early){B:Nat}(hB:F B)(he:∀w1,aO F w w1->∀e∈(execOp a.eval o).events P w1 #[],BN F e){ws:World->World}(hr:∀w1,aO F w w1->(execOp a.eval o).run P w1=.ok .skip (ws w1))(hsz:∀w1,(ws w1).heap.size=w1.heap.size)(hne:∀w1 x,x≠B->(ws w1).heap[x]?=w1.heap[x]?)(hos:∀w1,(ws w1).os=w1.os/\(ws w1).output=w1.output)
 (h:∀w1,aO F w w1->aA P main Stop F (G (b.at (a.put o.dst undef) (.inRegion ops rest::k)) cs) (ws w1)):aA P main Stop F (G (b.at a (.inRegion ops (i::rest)::k)) cs) w:=by
 refine aA.step rfl λw1 h1=>?_
 rw[stepG_none ho hw hk (hr w1 h1),goes_go,uJ (hsz w1)];refine⟨⟨Jc0 (hsz w1).symm,λx _ hx=>hne w1 x λe=>hx (e▸hB),(hos w1).1,(hos w1).2,λe h=>?_⟩,h w1 h1⟩;rw[uJ (hsz w1)];exact he w1 h1 e (wK _ _ _ e h)
end
theorem listed_none{P:Program}{fn:FuncId}{a:Act}{o:Oper}{w:World}(h:(execOp a.eval o).events P w #[]=#[]):listed P fn a o w=#[]:=by
 unfold listed;rw[h];exact seen_none P fn
theorem SH(b:Frame)(a:Act)(ops:Array Oper)(i:Nat)(rest:List Nat)(k:List Item)(cs:List Frame)(v:Value):Go.Conc.served (G (b.at a (.inRegion ops (i::rest)::k)) cs) v=G (b.at (a.put ((ops[i]?).bind (·.dst)) v) (.inRegion ops rest::k)) cs:=by
 rw[<-Frame.finish_at];rfl
theorem je(w:World)(o:Obj):(w.alloc o).heap[w.heap.size]?=some o:=by
 show(w.heap.push o)[w.heap.size]?=_;rw[Jbf,Jb6 rfl]
theorem alloc_old{w:World}{x:Nat}(h:x<w.heap.size)(o:Obj):(w.alloc o).heap[x]?=w.heap[x]?:=by
 show(w.heap.push o)[x]?=_;rw[Jbf,Jb5 (by omega)]
theorem jJ(w:World)(o:Obj):(w.alloc o).heap.size=w.heap.size+1:=by
 show(w.heap.push o).size=_;rw[Array.size_push]
section
variable{P:Program}
theorem Gg(ty:TypeId){w:World}{B:Nat}{xs:Array Value}{t:TypeId}(hW:w.heap[B]?=some (.cells xs t))(o n:Nat)(d:TypeDesc)(hu:P.underlying ty=some d)
 (hd:(match d with | .struct _ | .array _ _=>true|_=>false)=true) (hi:(P.info? ty).map (·.size)=some n) (hfit:o+n<=xs.size):∀e∈(Instr.loadAt ty (.pointer (some ⟨B,o,none⟩))).events P w #[],∃ad,e.loc=.cell ad/\ad.block=B:=by
 intro e he;cases hq:P.info? ty with
 |none=>simp[hq]at hi
 |some ii =>
  have hs:ii.size=n:=by simpa[hq]using hi
  have hagg:(isAgg ty).run P w=.ok true w:=by
   unfold isAgg;rw[Sem.run_bind,run_underlying hu w];cases d<;>simp_all
  simp only[Instr.loadAt,Instr.sureAddr,loadVar,Sem.events_bind,Sem.run_pure,Sem.events_pure,Result.evThen_ok,hagg,events_isAgg,Jb8,sizeOf,typeInfo,Sem.run_bind,run_program,hq,Result.andThen_ok,events_program,loadCells]at he;have hz:∀j,j<n->(w.cell? ((⟨B,o,none⟩:Addr).add (0+j))).isSome:=λj hj=>by
   have hadd:(⟨B,o,none⟩:Addr).add (0+j)=⟨B,o+j,none⟩:=by unfold Addr.add;split<;>simp_all
   rw[hadd];simp[World.cell?,hW];omega
  rw[hs]at he;have he':e∈(loadCellsFrom ⟨B,o,none⟩ 0 n #[]).events P w #[]:=by
   revert he
   cases(loadCellsFrom ⟨B,o,none⟩ 0 n #[]).run P w<;>exact id
  rcases events_loadCellsFrom_at (P:=P) ⟨B,o,none⟩ (· = B) rfl n 0 _ w _ hz e he' with h|⟨ad,h1,_,h3⟩
  .simp at h
  .exact⟨ad,h1,h3⟩
theorem EM(ty:TypeId){w:World}{B:Nat}{xs:Array Value}{t:TypeId}(hW:w.heap[B]?=some (.cells xs t))(o:Nat)(v:Value)(hi:(P.info? ty).map (·.size)=some v.cells.size)(h1:v.cells.toList.all (·.oneCell')=true)(hfit:o+v.cells.size<=xs.size):∀e∈(Instr.storeAt ty (.pointer (some ⟨B,o,none⟩)) v).events P w #[],∃ad,e.loc=.cell ad/\ad.block=B:=by
 intro e he;cases hq:P.info? ty with
 |none=>simp[hq]at hi
 |some ii =>
  have hs:v.cells.size=ii.size:=by simp[hq]at hi;omega
  simp only[Instr.storeAt,Instr.sureAddr,storeVar,Sem.events_bind,Sem.run_pure,Sem.events_pure,Result.evThen_ok,sizeOf,typeInfo,Sem.run_bind,run_program,hq,Result.andThen_ok,events_program]at he;simp[hs]at he;rcases events_storeCells_at (P:=P) B o t v.cells.toList 0 xs w _ hW (by simpa using hfit) (λu hu=>all_eq_true.1 h1 u hu) e he with h|h
  .simp at h
  .exact h
end
end
section
open Go.RowKit
structure Sl where
 a:Option Addr
 len:Nat
 cap:Nat
structure aW where
 (c s k key v hi to:Int)
structure ag where
 (c s key k:Int)
 found:Bool
 (v g:Int)
structure Row where
 (key val:Int)
def ahead(a b:ag):Bool:=decide (a.key<b.key)||a.key==b.key&&decide (a.c<b.c)
def kept(k:Int):Bool:=k==1||k==2||k==5
structure aaY(B:Nat)(w:World)(s:Sl)(size:Nat)(xs:List (List Value)):Prop where
 len:s.len=xs.length
 le:s.len<=s.cap
 max:s.cap<=maxLen
 at':0<s.len->∃b off,s.a=some ⟨b,off,none⟩/\b<B/\∀i x,xs[i]?=some x->∀j u,x[j]?=some u->w.cell? ⟨b,off+i*size+j,none⟩=some u
def aW.cells(q:aW):List Value:=[.int .u8 q.c,.int .u32 q.s,.int .u8 q.k,.int .u64 q.key,.int .u64 q.v,.int .u64 q.hi,.int .u8 q.to]
def ag.cells(p:ag):List Value:=[.int .u8 p.c,.int .u32 p.s,.int .u64 p.key,.int .u8 p.k,.bool p.found,.int .u64 p.v,.int .u8 p.g]
def Row.cells(x:Row):List Value:=[.int .u64 x.key,.int .u64 x.val]
theorem wO{f:Nat->Bool}{k:Nat}(h:(List.range k).all f=true)(hk:f k=true):(List.range (k+1)).all f=true:=by
 rw[Jc2,all_append,h];simp[hk]
theorem Ox{f:Nat->Bool}{n k:Nat}(h:k<n)(hb:f k=false):(List.range n).all f=false:=by
 rw[all_eq_false];exact⟨k,Jc3.2 h,by simp[hb]⟩
end
