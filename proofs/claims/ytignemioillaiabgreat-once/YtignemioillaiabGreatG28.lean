/- Lemmas. -/
import Derived.Test.YtignemioillaiabGreatG27
namespace Go.Proofs.YtignemioillaiabGreat
set_option maxHeartbeats 8000000
set_option linter.unusedSectionVars false
set_option maxRecDepth 100000
open List
section
open Go Go.Conc
def ag1(Post:World->Prop):Ex->Sg->World->Prop
 |.n,_,w=>Post w
 |.r,_,w=>Post w
 |.x _,_,_=>False
theorem aev{P:Program}(E:ng P)(hm:P.follows .mixedOrders=true)(f:FuncId){c:Code}{m:Nat}{args:List Value}{w:World}{Post:World->Prop}(hn:Nat.ble args.length m=true)(h:qE E m c (ag1 Post) (uY args 0) w):Qt P f c {tmps:=args.toArray++Array.replicate (m-args.toArray.size) undef,defers:=[]} w (λ_ w'=>Post w'):=by
 intro main D X b cs hX _ hk0 hk;have hle:=Jc4 hn;refine ES (⟨hX,trivial⟩:SX P main D X) hk0 hm c _ [] ?_ _ w _ ?_ h
 .intro e s w he a hfit
  cases e with
  |n=>exact hX.c.fin (hk a [] w hfit.defers he)
  |x j=>exact he.elim
  |r=>exact λtodo=>hk a todo w hfit.defers he
 .refine⟨rfl,?_,λi v hi=>?_⟩
  .simp;omega
  .obtain⟨d,h1,h2⟩:=zZ hi
   rw[Jbh]at h1;subst h1;have hlt:i<args.length:=(Jcn.1 h2).1;rw[Jcx];show(((args.toArray++Array.replicate _ undef)[i]?).getD undef)=v;rw[Jfg (by simpa using hlt)];simp[h2]
section
variable{Λ:bW}{w:World}{br:Nat}{R:MR}
theorem T9(h:Wk Λ br R w):Qt Tryz.prog 134 (Tryz.f134.body.getD .skip) {tmps:=#[Ptt br]++Array.replicate (Tryz.f134.ntmps-(#[Ptt br]:Array Value).size) undef,defers:=[]} w (λ_ w'=>Wk Λ br (qj R) w'/\Kz w w'):=by
 obtain⟨a,h⟩:=h;refine aev fG mixed _ (args:=[Ptt br]) (by kernel_rfl) ?_;refine⟨_,_,h.ri.mem,_,rfl,rfl,_,_,_,h.ri.mem,rfl,rfl,λw1 m1 g1=>?_⟩;have h1:=h.cell (s':={R.sc with wb:=R.sc.b}) m1 g1;have k1:=h.ri.kz h.ri.jy g1;have hne:a.vm≠a.wm:=by have:=h1.ri.sep;simp at this;omega
 refine⟨by kernel_rfl,_,_,h1.ri.mem,_,rfl,_,_,h1.ri.mem,_,rfl,_,II h1.ri.wm h1.ri.vm hne,?_⟩;rintro _ w2 ⟨rfl,hm2,g2⟩;exact⟨⟨_,h1.step h1.ri.EU g2 (h1.ri.wm' g2 hm2)⟩,k1.trans (h1.ri.kz h1.ri.EU g2)⟩
end
section
variable{w w3 w4:World}{bc:Nat}{gv sv:Value}{q:List bF}{n sz:Nat}{B:Nat->Nat->Nat}{ad:Nat->Nat->gD}{F:Nat->Nat->MR}
theorem RI.WQ{br:Nat}{R:MR}{a:gD}(h:RI w br R a){x:Nat}(hx:Own br a x):(∃es c,w.heap[x]?=some (.map es c))\/∃c t,w.heap[x]?=some (.cells c t):=by
 rcases hx with rfl|rfl|rfl|rfl|rfl|rfl|rfl|hx|hx
 .exact .inr ⟨_,_,h.mem⟩
 .exact .inl h.vm.obj
 .exact .inl h.wm.obj
 .exact .inl h.kn.obj
 .exact .inl h.mt.obj
 .exact .inl h.pp.obj
 .exact .inl h.ac.obj
 .obtain⟨c,hc⟩:=h.lg.obj hx;exact .inr ⟨_,_,hc⟩
 .obtain⟨c,hc⟩:=au h.ob hx;exact .inr ⟨_,_,hc⟩
theorem CI.out(h:CI w3 bc gv sv q n sz B ad F){g i:Nat}(hg:g<n)(hi:i<sz){pk:Nat}(c1:∃a b c d e f,w3.heap[pk]?=some (.chan a b c d e f))(c2:∃a b c d e f,w3.heap[pk+1]?=some (.chan a b c d e f))(hA:Lm bc (B g i) gv sv (ad g i).ob q (F g i).out (p9 (F g i) (ad g i)).toArray 135 pk w3 w4):∃bX,CI w4 bc gv bX ((q++(F g i).out).take 20000) n sz B (fF ad g i {ad g i with ob:=.slice none 0 0}) (fF F g i {F g i with out:=[]})/\Kz w3 w4/\∀x o,x≠pk->x≠pk+1->w3.heap[x]?=some o->¬nO n sz B bc sv ad x->w4.heap[x]?=some o/\¬nO n sz B bc bX (fF ad g i {ad g i with ob:=.slice none 0 0}) x:=by
 obtain⟨bX,hc4,hr4,oI⟩:=hA.fu;have hR:=h.rep g i hg hi;have nch:∀{x:Nat} {o:Obj},w3.heap[x]?=some o->(∀a b c d e f,o≠.chan a b c d e f)->x≠pk/\x≠pk+1:=by
  intro x o hx ho;constructor
  .rintro rfl
   obtain⟨a,b,c,d,e,f,hh⟩:=c1;rw[hx]at hh;exact ho _ _ _ _ _ _ (Jbm hh)
  .rintro rfl
   obtain⟨a,b,c,d,e,f,hh⟩:=c2;rw[hx]at hh;exact ho _ _ _ _ _ _ (Jbm hh)
 have svt:∀{x:Nat},some x=sv.ownBlock->∃c,w3.heap[x]?=some (.cells c 97):=λe=>au h.row e.symm
 have slt:∀{x:Nat},some x=(ad g i).ob.ownBlock->∃c,w3.heap[x]?=some (.cells c 97):=λe=>au hR.ob e.symm
 have kt:∀{x:Nat} {c:Array Value} {t:TypeId},w3.heap[x]?=some (.cells c t)->t≠97->t≠118->t≠135->w4.heap[x]?=some (.cells c t):=by
  intro x c t hx h1 h2 h3;obtain⟨n1,n2⟩:=nch hx nofun;refine(hA.rest x (ae hx) (λe=>?_) (λe=>?_) (λe=>?_) (λe=>?_) n1 n2).trans hx
  .subst e;rw[h.fu]at hx;injection hx with hx;injection hx with _ hx;exact h2 hx.symm
  .subst e;rw[hR.mem]at hx;injection hx with hx;injection hx with _ hx;exact h3 hx.symm
  .obtain⟨c',hc⟩:=svt e;rw[hx]at hc;injection hc with hc;injection hc with _ hc;exact h1 hc
  .obtain⟨c',hc⟩:=slt e;rw[hx]at hc;injection hc with hc;injection hc with _ hc;exact h1 hc
 have k:Kz w3 w4:=λt ht b c hb=>kt hb (λe=>by subst e;revert ht;decide) (λe=>by subst e;revert ht;decide) (λe=>by subst e;revert ht;decide)
 have Ua:∀g' i' x,g'<n->i'<sz->Own (B g' i') (ad g' i') x->x≠bc:=λg' i' x hg' hi' ho e=>by
  subst e;rcases(h.rep g' i' hg' hi').Cs ho h.fu with e|e|e<;>revert e<;>decide
 have Yv:∀g' i' x,g'<n->i'<sz->Own (B g' i') (ad g' i') x->x≠pk/\x≠pk+1:=λg' i' x hg' hi' ho=>by
  rcases(h.rep g' i' hg' hi').WQ ho with⟨_,_,hh⟩|⟨_,_,hh⟩
  .exact nch hh nofun
  .exact nch hh nofun
 have own:∀x,Own (B g i) (ad g i) x->x≠B g i->some x≠(ad g i).ob.ownBlock->w4.heap[x]?=w3.heap[x]?:=λx hx n1 n2=>hA.rest x (hR.lt hx) (Ua g i x hg hi hx) n1 (λe=>h.ob g i x hg hi e.symm hx) n2 (Yv g i x hg hi hx).1 (Yv g i x hg hi hx).2
 have mp:∀m,Own (B g i) (ad g i) m->(∃es c,w3.heap[m]?=some (Obj.map es c))->w4.heap[m]?=w3.heap[m]?:=λm ho hm=>own m ho (iJ hm hR.uO) λe=>iJ hm (hR.cob e.symm) rfl
 have nt:∀{t:TypeId},t ∉ Yu->t≠97/\t≠118/\t≠135:=λ{t} ht=>⟨λe=>ht (by rw[e];decide),λe=>ht (by rw[e];decide),λe=>ht (by rw[e];decide)⟩
 have sub:∀x,Own (B g i) {ad g i with ob:=.slice none 0 0} x->Own (B g i) (ad g i) x:=by
  rintro x (e|e|e|e|e|e|e|e|e)
  .exact .inl e
  .exact .inr (.inl e)
  .exact .inr (.inr (.inl e))
  .exact .inr (.inr (.inr (.inl e)))
  .exact .inr (.inr (.inr (.inr (.inl e))))
  .exact .inr (.inr (.inr (.inr (.inr (.inl e)))))
  .exact .inr (.inr (.inr (.inr (.inr (.inr (.inl e))))))
  .exact hR.wU e
  .cases e
 have Re:∀g' i' x,Own (B g' i') (fF ad g i {ad g i with ob:=.slice none 0 0} g' i') x->Own (B g' i') (ad g' i') x:=by
  intro g' i' x hx;by_cases e:g'=g/\i'=i
  .obtain⟨rfl,rfl⟩:=e
   rw[bL]at hx;exact sub x hx
  .rw[aZ _ _ e]at hx
   exact hx
 refine⟨bX,⟨hc4,hr4,by rw[Jd6];omega,?_,λg' i' hg' hi'=>?_,λg1 i1 g2 i2 x h1 h2 h3 h4 o1 o2=>h.sep g1 i1 g2 i2 x h1 h2 h3 h4 (Re _ _ _ o1) (Re _ _ _ o2),λg1 i1 x h1 h2 hx o1=>?_⟩,k,λx o p1 p2 hx hN=>?_⟩
 .obtain⟨bg,cg,cur,tg,e1,e2,e3,e4,e5⟩:=h.ptr
  refine⟨bg,cg,cur,tg,e1,e2,kt e3 (nt (nC e4)).1 (nt (nC e4)).2.1 (nt (nC e4)).2.2,e4,λg hg=>?_⟩;obtain⟨bs,ct,cur',ts,f1,f2,f3,f4,f5⟩:=e5 g hg;exact⟨bs,ct,cur',ts,f1,f2,kt f3 (nt (nC f4)).1 (nt (nC f4)).2.1 (nt (nC f4)).2.2,f4,f5⟩
 .by_cases e:g'=g/\i'=i
  .obtain⟨rfl,rfl⟩:=e
   rw[bL,bL];refine⟨hA.rep,hR.vm.keep (λ_ _ h=>h.kz k) (mp _ hR.wQ hR.vm.obj),hR.wm.keep (λ_ _ h=>h.kz k) (mp _ hR.EU hR.wm.obj),hR.kn.keep (λ_ _ h=>h.kz k) (mp _ hR.wR hR.kn.obj),hR.mt.keep (λ_ _ h=>h.kz k) (mp _ hR.nM hR.mt.obj),hR.pp.keep (λ_ _ h=>h.kz k) (mp _ hR.wS hR.pp.obj),hR.ac.keep (w':=w4) (λv x (h:nT w3 v x)=>(show nT w4 v x from h)) (mp _ hR.wT hR.ac.obj),hR.lg.kz k (λx hx=>own x (hR.wU hx) (hR.Ac hx) λe=>hR.QZ hx e.symm rfl),hR.st.kz k,eu _ _ _,hR.sep⟩
  .rw[aZ _ _ e,aZ _ _ e]
   have ne:∀x,Own (B g' i') (ad g' i') x->¬Own (B g i) (ad g i) x:=λx o1 o2=>e (h.sep g' i' g i x hg' hi' hg hi o1 o2)
   exact(h.rep g' i' hg' hi').keep k λx hx=>hA.rest x ((h.rep g' i' hg' hi').lt hx) (Ua g' i' x hg' hi' hx) (λe=>ne x hx (.inl e)) (λe=>h.ob g' i' x hg' hi' e.symm hx) (λe=>ne x hx (hR.ve e.symm)) (Yv g' i' x hg' hi' hx).1 (Yv g' i' x hg' hi' hx).2
 .have o1:=Re _ _ _ o1
  rcases oI x hx with h5|h5
  .exact h.ob g1 i1 x h1 h2 h5 o1
  .have:=(h.rep g1 i1 h1 h2).lt o1;omega
 .have no:¬Own (B g i) (ad g i) x:=λho=>hN (.inr (.inr ⟨g,i,hg,hi,ho⟩))
  refine⟨(hA.rest x (ae hx) (λe=>hN (.inl e)) (λe=>no (.inl e)) (λe=>hN (.inr (.inl e.symm))) (λe=>no (hR.ve e.symm)) p1 p2).trans hx,λhc=>?_⟩;rcases hc with e|e|⟨g1,i1,q1,q2,o1⟩
  .exact hN (.inl e)
  .rcases oI x e with h1|h1
   .exact hN (.inr (.inl h1))
   .have:=ae hx;omega
  .exact hN (.inr (.inr ⟨g1,i1,q1,q2,Re _ _ _ o1⟩))
end
section
variable{w:World}{bc:Nat}{gv sv:Value}{q:List bF}{n sz:Nat}{B:Nat->Nat->Nat}{ad:Nat->Nat->gD}{F:Nat->Nat->MR}
def su(R:MR):MR:={qj R with out:=[]}
theorem Z6{K:Machine->Trace->Prop}(h:CI w bc gv sv q n sz B ad F){g i:Nat}(hg:g<n)(hi:i<sz){f:FuncId}{fst cap:Array Value}{fn:Func}{cF:Frame}{cs:List Frame}
 (hf : Tryz.prog.funcs[f]? = some fn) (hname : (fn.name == "runtime.NumGoroutine") = false) (hb : fn.body.isNone = false) {R' : MR} (hl : R'.out.length < 1000000)
 (Gm:∀w1,GB none w w1->CY f (fst++cap) w1 (λ_ w'=>Wk (rest w1 (B g i) (ad g i)) (B g i) R' w'/\Kz w1 w'))
 (hk:∀w4 bX jV,CI w4 bc gv bX ((q++R'.out).take 20000) n sz B jV (fF F g i (su R'))->w4.os=w.os->w4.output=w.output->Kz w w4->qo n sz B bc w sv ad w4 bX jV->XR Tryz.prog K (G (cF.finish (.tuple #[])) cs) w4) :
 XR Tryz.prog K (G (Frame.enter Tryz.prog 47 #[Ptt bc,.pointer (some ⟨B g i,0,none⟩),.func (.func f) fst cap] .normal) (cF::cs)) w:=by
 have hR:=h.rep g i hg hi;have g0:GB none w ((w.alloc (.chan 0 #[] false 0 0 false)).alloc (.chan 0 #[] false 0 0 false)):=(GB.alloc none w _).trans (GB.alloc none _ _);have ag2:((w.alloc (.chan 0 #[] false 0 0 false)).alloc (.chan 0 #[] false 0 0 false)).heap[w.heap.size]?=some (.chan 0 #[] false 0 0 false):=by
  rw[alloc_old (by rw[jJ];omega),je]
 have ag3:((w.alloc (.chan 0 #[] false 0 0 false)).alloc (.chan 0 #[] false 0 0 false)).heap[w.heap.size+1]?=some (.chan 0 #[] false 0 0 false):=by
  have:=je (w.alloc (.chan 0 #[] false 0 0 false)) (.chan 0 #[] false 0 0 false);rwa [jJ]at this
 generalize hw0:(w.alloc (.chan 0 #[] false 0 0 false)).alloc (.chan 0 #[] false 0 0 false)=w0 at *;have h0:=h.ay g0;have hR0:=h0.rep g i hg hi;have aco:∀{x:Nat},w.heap.size<=x->¬Own (B g i) (ad g i) x:=λhx ho=>by have:=hR.lt ho;omega
 have pr:∀{R3:MR} {a3:gD} {w3:World},Wa (rest w0 (B g i) (ad g i)) (B g i) R3 a3 w3->∀{x:Nat} {o:Obj},w0.heap[x]?=some o->¬Own (B g i) (ad g i) x->w3.heap[x]?=some o/\¬Own (B g i) a3 x:=λ{R3 a3 w3} hw {x o} hx hn=>hw.pr x o (by unfold rest;dsimp only;rw[Jb5 hn];exact hx)
 have Ua:¬Own (B g i) (ad g i) bc:=λho=>by
  rcases hR.Cs ho h.fu with e|e|e<;>revert e<;>decide
 refine Zr (bc:=bc) (br:=B g i) (gv:=gv) (sv:=sv) (q0:=q) hf hname hb h.len
  (Q1:=λw1=>Wk (rest w0 (B g i) (ad g i)) (B g i) R' w1/\Kz w0 w1)
  (R3:=λsl ps rc tR w3=>∃a3,Wa (rest w0 (B g i) (ad g i)) (B g i) (qj R') a3 w3/\Kz w0 w3/\sl=a3.ob/\ps=R'.out/\rc=(p9 (qj R') a3).toArray/\tR=135) ?_ ?_ ?_
 .rw[hw0]
  exact Gm w0 g0
 .rintro w1 ⟨hW,k1⟩
  have hB:=T9 hW;intro main D X b cs hX e1 e2 hfin;refine hB main D X b cs hX e1 e2 λa' todo w3 hd hP=>hfin a' todo w3 hd ?_
  obtain⟨⟨a3,h3⟩,k3⟩:=hP;have cb:=pr h3 (h0.fu) Ua;refine⟨a3.ob,R'.out,(p9 (qj R') a3).toArray,135,⟨cb.1,ax h0.row λx hx=>?_,h3.ri.mem,rfl,h3.ri.ob,hl,?_,?_,?_,?_,?_⟩,a3,h3,k1.trans k3,rfl,rfl,rfl,rfl⟩
  .obtain⟨c,hc⟩:=au h0.row hx
   exact(pr h3 hc (h0.ob g i x hg hi hx)).1.trans hc.symm
  .exact λe=>Ua (.inl e)
  .exact λe=>h.ob g i _ hg hi e.symm (.inl rfl)
  .exact λe=>cb.2 (h3.ri.ve e.symm)
  .intro x hx e
   obtain⟨c,hc⟩:=au h0.row hx;exact(pr h3 hc (h0.ob g i x hg hi hx)).2 (h3.ri.ve e.symm)
  .exact⟨(pr h3 ag2 (aco (Jb0 _))).1,(pr h3 ag3 (aco (Nat.le_succ _))).1⟩
 .rintro sl ps rc tR w3 w4 hW ⟨a3,h3,k3,rfl,rfl,rfl,rfl⟩ hA
  obtain⟨h3C,o3,u3,f3⟩:=h0.TY hg hi h3 k3;have hA':Lm bc (B g i) gv sv (fF ad g i a3 g i).ob q (fF F g i (qj R') g i).out (p9 (fF F g i (qj R') g i) (fF ad g i a3 g i)).toArray 135 w.heap.size w3 w4:=by
   rw[bL,bL];exact hA
  obtain⟨bX,h4,k4,f4⟩:=h3C.out hg hi ⟨_,_,_,_,_,_,hW.ch.1⟩ ⟨_,_,_,_,_,_,hW.ch.2⟩ hA';rw[bL,bL]at h4;have e1:fF (fF F g i (qj R')) g i {qj R' with out:=[]}=fF F g i (su R'):=by
   funext g' i'
   by_cases e:g'=g/\i'=i
   .obtain⟨rfl,rfl⟩:=e
    rw[bL,bL];rfl
   .rw[aZ _ _ e,aZ _ _ e,aZ _ _ e]
  rw[e1]at h4;refine hk w4 bX _ h4 (hA.os.trans (o3.trans g0.os)) (hA.out.trans (u3.trans g0.out)) ((g0.kz.trans k3).trans k4) λx o hx hN=>?_
  have hl:=ae hx;obtain⟨q1,q2⟩:=f3 x o (g0.get hx nofun) hN;have r:=f4 x o (by omega) (by omega) q1 q2;rw[bL]at r;exact r
end
structure aJ where
 (n sz:Nat)
 F:Nat->Nat->MR
 q:List bF
section
variable(A:aI)
def aJ.done(C:aJ)(g i:Nat)(R:MR):aJ:={C with F:=fF C.F g i (su R),q:=(C.q++R.out).take 20000}
def aJ.new(n sz:Nat):aJ:=⟨n,sz,λg i=>Fb A g i n sz,[]⟩
def aJ.tick(C:aJ)(g i:Nat):aJ:=if g<C.n/\i<C.sz then C.done g i (mR A (C.F g i))else C
def aJ.dA(C:aJ)(g i:Nat):aJ:=if g<C.n/\i<C.sz then{ C with F:=fF C.F g i (mStart A (C.F g i))}else C
def aJ.jW(C:aJ)(k:Nat):aJ:=match C.q[k]? with
 |none=>C
 |some p=>if p.tg.toNat<C.n/\p.tr.toNat<C.sz then C.done p.tg.toNat p.tr.toNat (kR A (C.F p.tg.toNat p.tr.toNat) (p.fg.toNat,p.fr.toNat) p.d)else C
def aJ.send(C:aJ)(g i:Nat)(d:ByteArray):aJ:=if(g<C.n/\i<C.sz)/\¬d.size>1000 then{ C with q:=ko C.q ⟨255,255,g,i,d⟩}else C
end
section
variable{A:aI}{R:MR}
theorem Ok.done(ho:Ok A R):Ok A (su R):=⟨ho.sz,ho.i,ho.st,ho.kn,ho.pp,ho.vt,ho.write.wv,ho.mt,ho.ac,ho.pr,ho.lg,ho.lc,ho.nx,ho.write.sn⟩
end
structure MG(A:aI)(n:Nat)(m:MM):Prop where
 bn:m.b.n<=4294967295
 k1:m.kind≠1
 vs:m.kind=4->(∀v∈m.vs,A.gc v.c/\v.slot<60)/\m.vs.length<=60
 acc:m.kind=6->A.gc m.c/\m.s<60
 ru:m.kind=7->m.s<60
 dec:m.kind=8->A.gc m.c/\m.s<60
 lU:m.kind=9->0<=m.r.src/\m.r.src.toNat<n/\m.r.seq<=4294967295/\A.gc (lL m.r)
 jH:m.kind=10->0<=m.peer/\m.peer.toNat<n/\A.gc (pU m.peer m.seq)
structure dS(A:aI):Prop where
 lens:∀{k} s,A.good k s->s.I.length=s.n.toNat/\s.O.length=s.n.toNat/\s.n<=4
 stay:∀{k} s c,A.good k s->A.gc c->(A.ap s c).1.n=s.n/\(A.ap s c).1.g=s.g
 Ub:∀g n,g<n->n<=4->(A.bg g n).n=n/\(A.bg g n).g=g
 lane:∀{k} s,A.good k s->∀o∈s.O,∀r∈o.2,r.src=s.g/\r.seq<=4294967295/\A.gc (lL r)
 L8:∀{k} s,A.good k s->∀x∈s.I,0<=x/\x<=4294967295
 WS:∀p s,0<=p->p<4->0<=s->s<=4294967295->A.gc (pU p s)
 ask:∀d m,A.dec d=some m->m.b.n<=4294967295/\(m.kind=1->A.gc (fM m.q))
 kind:∀d m,A.dec d=some m->1<=m.kind/\m.kind<=10
 rl:∀c,A.gc c->c.r.rows.length<=20000/\c.r.aX.length<=20000
 rc:∀{k} s c,A.good k s->A.gc c->(A.ap s c).2.c<256
 back:∀n m m',MG A n m->A.dec (A.enc m)=some m'->MG A n m'
def PG(A:aI)(g i n:Nat)(p:bF):Prop:=p.fg=g/\p.fr=i/\(0<=p.tg/\p.tg<256/\0<=p.tr/\p.tr<256)/\∃m,p.d=A.enc m/\MG A n m
structure Nx(A:aI)(R R':MR):Prop where
 id:R'.sc.g=R.sc.g/\R'.sc.i=R.sc.i/\R'.sc.gs=R.sc.gs/\R'.sc.sz=R.sc.sz
 sd:R'.st.n=R.st.n/\R'.st.g=R.st.g
 ou:∀p∈R'.out,p∈R.out\/PG A R.sc.g R.sc.i R.sc.gs p
section
variable{A:aI}{R R' R'':MR}
theorem Nx.refl(R:MR):Nx A R R:=⟨⟨rfl,rfl,rfl,rfl⟩,⟨rfl,rfl⟩,λ_ h=>.inl h⟩
theorem Nx.trans(h:Nx A R R')(k:Nx A R' R''):Nx A R R'':=by
 obtain⟨h1,h2,h3,h4⟩:=h.id;refine⟨⟨k.id.1.trans h1,k.id.2.1.trans h2,k.id.2.2.1.trans h3,k.id.2.2.2.trans h4⟩,⟨k.sd.1.trans h.sd.1,k.sd.2.trans h.sd.2⟩,λp hp=>?_⟩;rcases k.ou p hp with q|q
 .exact h.ou p q
 .rw[h1,h2,h3]at q
  exact .inr q
def T8(tl:List (Nat×Nat)):Prop:=∀t∈tl,t.1<256/\t.2<256
theorem T8.one{f:Nat×Nat}(h:f.1<256/\f.2<256):T8 [f]:=λt ht=>by rw[Jg6]at ht;rw[ht];exact h
theorem T8.fK{g i jT k:Nat}(h:jT<256)(hk:k<=5):T8 (fK g i jT k):=λt ht=>by
 unfold Go.Proofs.YtignemioillaiabGreat.fK at ht;obtain⟨j,hj,rfl⟩:=Jdb.1 ht;have:=Jc3.1 (mem_filter.1 hj).1;exact⟨h,by show j<256;omega⟩
theorem Nx.snd{m:MM}(hm:MG A R.sc.gs m){tl:List (Nat×Nat)}(ht:T8 tl):Nx A R (mh A.enc R m tl):=by
 refine⟨⟨rfl,rfl,rfl,rfl⟩,⟨rfl,rfl⟩,λp hp=>?_⟩;rcases Jdc.1 hp with h|h
 .exact .inl h
 .obtain⟨x,hx,rfl⟩:=Jdb.1 h
  obtain⟨t1,t2⟩:=ht x hx;exact .inr ⟨rfl,rfl,⟨Jg7 _,by show(x.1:Int)<256;omega,Jg7 _,by show(x.2:Int)<256;omega⟩,m,rfl,hm⟩
theorem MG.tell{n:Nat}(p:ag):MG A n {aL 2 with p:=p}:=by constructor<;>simp[aL]
theorem MG.fO{n:Nat}{k:Int}(hk:k=3\/k=5){b:bH}(hb:b.n<=4294967295):MG A n {aL k with b:=b}:=by
 rcases hk with rfl|rfl<;>constructor<;>simp[aL,hb]
theorem MG.accept{n:Nat}{b:bH}(hb:b.n<=4294967295){s:Nat}(hs:s<60){c:MC}(hc:A.gc c):MG A n {aL 6 with b:=b,s:=s,c:=c}:=by constructor<;>simp[aL,hb,hs,hc]
theorem MG.accepted{n:Nat}{b:bH}(hb:b.n<=4294967295){s:Nat}(hs:s<60):MG A n {aL 7 with b:=b,s:=s}:=by constructor<;>simp[aL,hb,hs]
theorem MG.decide{n:Nat}{s:Nat}(hs:s<60){c:MC}(hc:A.gc c):MG A n {aL 8 with s:=s,c:=c}:=by constructor<;>simp[aL,hs,hc]
theorem MG.promise{n:Nat}{b:bH}(hb:b.n<=4294967295){l:List MV}(h1:∀v∈l,A.gc v.c/\v.slot<60)(h2:l.length<=60):MG A n {aL 4 with b:=b,vs:=l}:=⟨hb,by simp[aL],λ_=>⟨h1,h2⟩,by simp[aL],by simp[aL],by simp[aL],by simp[aL],by simp[aL]⟩
theorem MG.move{n:Nat}{r:Rg}(h:0<=r.src/\r.src.toNat<n/\r.seq<=4294967295/\A.gc (lL r)):MG A n {aL 9 with r:=r}:=⟨by simp[aL],by simp[aL],by simp[aL],by simp[aL],by simp[aL],by simp[aL],λ_=>h,by simp[aL]⟩
theorem MG.Rf{n:Nat}{p s:Int}(h:0<=p/\p.toNat<n/\A.gc (pU p s)):MG A n {aL 10 with peer:=p,seq:=s}:=⟨by simp[aL],by simp[aL],by simp[aL],by simp[aL],by simp[aL],by simp[aL],by simp[aL],λ_=>h⟩
theorem Nx.of(h1:R'.sc.g=R.sc.g/\R'.sc.i=R.sc.i/\R'.sc.gs=R.sc.gs/\R'.sc.sz=R.sc.sz)(h2:R'.st=R.st)(h3:R'.out=R.out):Nx A R R':=⟨h1,by rw[h2];exact⟨rfl,rfl⟩,λp hp=>.inl (by rw[<-h3];exact hp)⟩
end
section
variable{A:aI}(HA:bG A)(HN:dS A){R:MR}
include HA HN
omit HA in
theorem Nx.jH(ho:Ok A R)(src:Nat){tl:List (Nat×Nat)}(ht:T8 tl):Nx A R (Af A.enc R src tl):=by
 unfold Af;refine Nx.snd (MG.Rf ⟨by omega,by have:=ho.i.2.1;omega,HN.WS _ _ (by omega) (by have:=ho.i.2.1;have:=ho.i.2.2;omega) ?_ ?_⟩) ht
 .rw[Jdx]
  cases h:R.st.I[src]? with
  |none=>exact Jfb _
  |some x=>exact(HN.L8 _ ho.st x (Jcv h)).1
 .rw[Jdx]
  cases h:R.st.I[src]? with
  |none=>show(0:Int)<=_;omega
  |some x=>exact(HN.L8 _ ho.st x (Jcv h)).2
omit HA in
theorem Nx.ans(ho:Ok A R){c:MC}{p:ag}(hp:p.c<256)(hs:c.kind=2->c.r.src.toNat<256):Nx A R (oH A R c p):=by
 unfold oH;split
 .exact Nx.snd (MG.tell p) (T8.one ⟨(by decide:255<256),by show p.c.toNat<256;omega⟩)
 .split
  .rename_i k;exact Nx.jH HN ho _ (T8.fK (hs k) ho.sz)
  .exact Nx.refl R
theorem Nx.do(ho:Ok A R){c:MC}(hc:A.gc c)(hl:R.log.length<60):Nx A R (qd A R c):=by
 obtain⟨e1,e2⟩:=HN.stay _ _ ho.st hc;have h1:Nx A R {R with st:=(A.ap R.st c).1,log:=R.log++[c]}:=⟨⟨rfl,rfl,rfl,rfl⟩,⟨e1,e2⟩,λ_ h=>.inl h⟩;have o1:Ok A {R with st:=(A.ap R.st c).1,log:=R.log++[c]}:=⟨ho.sz,ho.i,HA.next ho.st (Jft hl) hc,ho.kn,ho.pp,ho.vt,ho.wv,ho.mt,ho.ac,ho.pr,by simp;omega,λx hx=>(Jdc.1 hx).elim (ho.lc x) (λe=>by simp at e;rw[e];exact hc),ho.nx,ho.sn⟩;unfold qd;split
 .refine h1.trans (Nx.ans HN o1 (HN.rc _ _ ho.st hc) λk=>?_)
  have q1:=HA.src _ _ ho.st hc k;have q2:=HN.lens _ ho.st;omega
 .exact h1
theorem Nx.catch:∀(n:Nat) {R:MR},Ok A R->Nx A R (gZ A n R)
 |0,R,_=>Nx.refl R
 |n+1,R,ho=>by
  unfold gZ;split
  .exact Nx.refl R
  .rename_i c hc
   obtain⟨h1,h2⟩:=ho.kn _ _ hc;have o1:Ok A {R with known:=upd R.known R.log.length none}:=ho.known (λk d hd=>by
    unfold upd at hd;split at hd
    .cases hd
    .exact ho.kn k d hd)
   have n1:Nx A R {R with known:=upd R.known R.log.length none}:=.of ⟨rfl,rfl,rfl,rfl⟩ rfl rfl;exact(n1.trans (Nx.do HA HN o1 h1 h2)).trans (Nx.catch n (o1.do HA h1 h2))
theorem Nx.agree(ho:Ok A R){s:Nat}(hs:s<60){c:MC}(hgc:A.gc c):Nx A R (jh A R s c):=by
 unfold jh;split
 .exact Nx.refl R
 .have o1:Ok A {R with props:=upd R.props s none,acc:=upd R.acc s none,sc:={R.sc with next:=max R.sc.next (s+1)},known:=upd R.known s (some c)}:=by
   have del:∀{α:Type} {P:Nat->α->Prop} {f:Nat->Option α} {s:Nat},(∀k v,f k=some v->P k v)->∀k v,upd f s none k=some v->P k v:=λh k v hv=>by
    unfold upd at hv;split at hv
    .cases hv
    .exact h k v hv
   exact⟨ho.sz,ho.i,ho.st,nI (P:=λk c=>A.gc c/\k<60) ho.kn ⟨hgc,hs⟩,del ho.pp,ho.vt,ho.wv,ho.mt,del ho.ac,ho.pr,ho.lg,ho.lc,by show max _ _<=60;have:=ho.nx;omega,ho.sn⟩
  have n1:Nx A R {R with props:=upd R.props s none,acc:=upd R.acc s none,sc:={R.sc with next:=max R.sc.next (s+1)},known:=upd R.known s (some c)}:=.of ⟨rfl,rfl,rfl,rfl⟩ rfl rfl;exact n1.trans (Nx.catch HA HN _ o1)
omit HA HN in
theorem Ok.pe(ho:Ok A R):T8 (fK R.sc.g R.sc.i R.sc.g R.sc.sz):=T8.fK (by have:=ho.i;omega) ho.sz
omit HA HN in
theorem Nx.sa(ho:Ok A R){s:Nat}(hs:s<60){c:MC}(hgc:A.gc c):Nx A R (LY A.enc R s c):=Nx.snd (MG.accept ho.sn.2.1 hs hgc) ho.pe
theorem Nx.Ah(ho:Ok A R){s i:Nat}(hi:i<5):Nx A R (jM A R s i):=by
 unfold jM;split
 .exact Nx.refl R
 .rename_i c hc
  obtain⟨h1,h2⟩:=ho.pp _ _ hc;have o1:Ok A {R with acc:=upd R.acc s (some (gG R s i))}:=by
   refine⟨ho.sz,ho.i,ho.st,ho.kn,ho.pp,ho.vt,ho.wv,ho.mt,nI (P:=λ_ c=>c<32) ho.ac ?_,ho.pr,ho.lg,ho.lc,ho.nx,ho.sn⟩;refine wV ?_ hi;cases hb:R.acc s with
   |none=>exact Jg5 _
   |some x=>exact ho.ac s x hb
  have n1:Nx A R {R with acc:=upd R.acc s (some (gG R s i))}:=.of ⟨rfl,rfl,rfl,rfl⟩ rfl rfl;split
  .have n2:Nx A {R with acc:=upd R.acc s (some (gG R s i))} (mh A.enc {R with acc:=upd R.acc s (some (gG R s i))} {aL 8 with s:=s,c:=c} (fK R.sc.g R.sc.i R.sc.g R.sc.sz)):=Nx.snd (MG.decide h2 h1) ho.pe
   exact(n1.trans n2).trans (Nx.agree HA HN (o1.snd _ _ _) h2 h1)
  .exact n1
theorem Nx.prop(ho:Ok A R){s:Nat}(hs:s<60){c:MC}(hgc:A.gc c):Nx A R (iK A R s c):=by
 unfold iK;have o1:=Ok.LV ho hs hgc;have o2:=Ok.E5 o1 hs hgc;have n1:Nx A R (uu {R with props:=upd R.props s (some c)} s c):=.of ⟨rfl,rfl,rfl,rfl⟩ rfl rfl;exact(n1.trans (Nx.sa o2 hs hgc)).trans (Nx.Ah HA HN (o2.snd _ _ _) (Jbz ho.i.1 ho.sz))
theorem Nx.offer(ho:Ok A R){c:MC}(hgc:A.gc c):Nx A R (ig A R c):=by
 unfold ig;split
 .exact Nx.refl R
 .rename_i h
  have hn:R.sc.next<60:=by
   have:¬60<=R.sc.next:=λe=>h (.inl e)
   omega
  have o1:Ok A {R with sc:={R.sc with next:=R.sc.next+1} }:=⟨ho.sz,ho.i,ho.st,ho.kn,ho.pp,ho.vt,ho.wv,ho.mt,ho.ac,ho.pr,ho.lg,ho.lc,hn,ho.sn⟩;have n1:Nx A R {R with sc:={R.sc with next:=R.sc.next+1} }:=.of ⟨rfl,rfl,rfl,rfl⟩ rfl rfl;exact n1.trans (Nx.prop HA HN o1 hn hgc)
omit HA HN in
theorem Nx.stand(R:MR):Nx A R (gF R):=.of ⟨rfl,rfl,rfl,rfl⟩ rfl rfl
omit HA HN in
theorem Nx.refuse(ho:Ok A R){f:Nat×Nat}(hf:f.1<256/\f.2<256)(b:bH):Nx A R (bN A.enc R f b):=by
 unfold bN;split
 .exact Nx.snd (MG.fO (.inr rfl) ho.sn.2.1) (T8.one hf)
 .split
  .exact Nx.refl R
  .exact .of ⟨rfl,rfl,rfl,rfl⟩ rfl rfl
omit HA HN in
theorem Nx.Mq(ho:Ok A R){f:Nat×Nat}(hf:f.1<256/\f.2<256){b:bH}(hb:b.n<=4294967295):Nx A R (uw A.enc R f b):=by
 have o1:=ho.refuse f hb;unfold uw;split
 .exact Nx.refuse ho hf b
 .refine(Nx.refuse ho hf b).trans (Nx.snd (MG.promise hb (λv hv=>?_) (Ci _ _)) (T8.one hf))
  obtain⟨k,_,hk⟩:=mem_filterMap.1 hv;obtain⟨h1,h2,h3⟩:=o1.vt k v hk;exact⟨h1,by omega⟩
omit HN in
theorem Nx.zk(ho:Ok A R){f:Nat×Nat}(hf:f.1<256/\f.2<256){m:MM}(hb:m.b.n<=4294967295)(hs:m.s<60):Nx A R (kX A R f m):=by
 unfold kX;split
 .exact Nx.refuse ho hf m.b
 .refine((Nx.refuse ho hf m.b).trans (R'':=uu (bN A.enc R f m.b) m.s m.c) (.of ⟨rfl,rfl,rfl,rfl⟩ rfl rfl)).trans (Nx.snd (MG.accepted hb hs) (T8.one hf))
theorem Nx.WM(ho:Ok A R){f:Nat×Nat}(hf:f.2<5)(m:MM):Nx A R (vW A R f m):=by
 unfold vW;split
 .exact Nx.Ah HA HN ho hf
 .exact Nx.refl R
theorem Nx.ask(ho:Ok A R){q:aW}(hq:A.gc (fM q)):Nx A R (wW A R q):=by
 unfold wW;split
 .exact Nx.refl R
 .split
  .exact Nx.snd (MG.tell _) (T8.one ⟨(by decide:255<256),by have:=HN.rc _ _ ho.st hq;show(A.ap R.st (fM q)).2.c.toNat<256;omega⟩)
  .exact Nx.offer HA HN ho hq
theorem Nx.rY:∀(n s:Nat) {R:MR},Ok A R->Nx A R (eY A n s R)
 |0,_,R,_=>Nx.refl R
 |n+1,s,R,ho=>by
  unfold eY;split
  .rename_i h
   have hs:s<60:=Jbz h ho.nx;split
   .exact Nx.rY n (s+1) ho
   .have hg:A.gc (((R.met s).map MV.c).getD nu):=by
     cases hm:R.met s with
     |none=>exact HA.LZ
     |some v=>exact(ho.mt s v hm).1
    exact(Nx.prop HA HN ho hs hg).trans (Nx.rY n (s+1) (ho.prop HA hs hg).1)
  .exact Nx.refl R
theorem Nx.lead(ho:Ok A R):Nx A R (pz A R):=by
 have n1:Nx A R {R with sc:={R.sc with role:=2,next:=jc R.met R.log.length} }:=.of ⟨rfl,rfl,rfl,rfl⟩ rfl rfl;have n2:=Nx.rY HA HN 61 R.log.length (Ok.Kt ho);exact(n1.trans n2).trans (.of ⟨rfl,rfl,rfl,rfl⟩ rfl rfl)
theorem Nx.Ai(ho:Ok A R){i:Nat}(hi:i<5):Nx A R (lN A R i):=by
 have n1:Nx A R {R with sc:={R.sc with prom:=jl R.sc.prom i} }:=.of ⟨rfl,rfl,rfl,rfl⟩ rfl rfl;unfold lN;split
 .exact n1.trans (Nx.lead HA HN (ho.prom hi))
 .exact n1
omit HA HN in
theorem Nx.raise(R:MR):Nx A R (cz R):=by
 unfold cz;split
 .exact Nx.refl R
 .exact .of ⟨rfl,rfl,rfl,rfl⟩ rfl rfl
theorem Nx.eU(ho:Ok A R):Nx A R (nX A R):=by
 unfold nX;split
 .have n1:Nx A R (rZ R):=(Nx.raise R).trans (.of ⟨rfl,rfl,rfl,rfl⟩ rfl rfl)
  exact n1.trans (Nx.Ai HA HN ho.Ku (Jbz ho.i.1 ho.sz))
 .exact Nx.refl R
theorem Nx.promise(ho:Ok A R){f:Nat×Nat}(hf:f.2<5)(b:bH){vs:List MV}(hv:∀v∈vs,A.gc v.c/\v.slot<60):Nx A R (jB A R f b vs):=by
 unfold jB;split
 .exact Nx.refl R
 .have n1:Nx A R {R with met:=ik R.met vs}:=.of ⟨rfl,rfl,rfl,rfl⟩ rfl rfl
  exact n1.trans (Nx.Ai HA HN (ho.ik hv) hf)
theorem Nx.move(ho:Ok A R){f:Nat×Nat}(hf:f.1<256/\f.2<256){r:Rg}(hr:A.gc (lL r)):Nx A R (uy A R f r):=by
 unfold uy;split
 .exact Nx.refl R
 .split
  .exact Nx.jH HN ho _ (T8.one hf)
  .split
   .exact Nx.offer HA HN ho hr
   .exact Nx.refl R
theorem Nx.WN(ho:Ok A R){p:Nat}{s:Int}(hp:A.gc (pU p s)):Nx A R (uz A R p s):=by
 unfold uz;split
 .exact Nx.refl R
 .split
  .exact Nx.refl R
  .split
   .exact Nx.offer HA HN ho hp
   .exact Nx.refl R
theorem Nx.take2(ho:Ok A R){f:Nat×Nat}(hf:f.1<256/\f.2<256){m:MM}(hm:GM A R f m):Nx A R (qm A R f m):=by
 unfold qm;split
 .rename_i k;exact Nx.ask HA HN ho (hm.ask k)
 split
 .exact Nx.Mq ho hf hm.bn
 split
 .rename_i k;exact Nx.promise HA HN ho (hm.vs k).2.2 _ (hm.vs k).1
 split
 .split
  .exact Nx.stand R
  .exact Nx.refl R
 split
 .rename_i k;exact Nx.zk HA ho hf hm.bn (hm.acc k).2
 split
 .rename_i k;exact Nx.WM HA HN ho (hm.ru k).2 m
 split
 .rename_i k;exact Nx.agree HA HN ho (hm.dec k).2 (hm.dec k).1
 split
 .rename_i k;exact Nx.move HA HN ho hf (hm.lU k).2.2.2
 split
 .rename_i k
  have e:(m.peer.toNat:Int)=m.peer:=Jfp (hm.jH k).1;exact Nx.WN HA HN ho (by rw[e];exact(hm.jH k).2.2)
 .exact Nx.refl R
theorem Nx.take(ho:Ok A R){f:Nat×Nat}(hf:f.1<256/\f.2<256){d:ByteArray}(hm:∀m,A.dec d=some m->¬(f.1=255/\m.kind≠1)->GM A R f m):Nx A R (kR A R f d):=by
 unfold kR;split
 .exact Nx.refl R
 .rename_i m hd
  split
  .exact Nx.refl R
  .rename_i hn
   have g:=hm m hd hn;have n1:Nx A R (pE R m):=.of ⟨rfl,rfl,rfl,rfl⟩ rfl rfl;exact n1.trans (Nx.take2 HA HN (ho.seen g.bn) hf ⟨g.bn,g.ask,g.vs,g.acc,g.ru,g.dec,g.lU,g.jH⟩)
omit HA HN in
theorem Nx.mQ(ho:Ok A R)(n:Nat):Nx A R (iL A.enc R n)/\Ok A (iL A.enc R n)/\(iL A.enc R n).st=R.st:=by
 unfold iL;generalize List.range n=l;induction l generalizing R with
 |nil=>exact⟨Nx.refl R,ho,rfl⟩
 |cons k l ih =>
  rw[Jbg];have h1:Nx A R (Go.Proofs.YtignemioillaiabGreat.mQ A.enc R k)/\Ok A (Go.Proofs.YtignemioillaiabGreat.mQ A.enc R k)/\(Go.Proofs.YtignemioillaiabGreat.mQ A.enc R k).st=R.st:=by
   unfold Go.Proofs.YtignemioillaiabGreat.mQ;split
   .rename_i c hc
    obtain⟨q1,q2⟩:=ho.pp _ _ hc;exact⟨Nx.sa ho q2 q1,ho.snd _ _ _,rfl⟩
   .exact⟨Nx.refl R,ho,rfl⟩
  obtain⟨a1,a2,a3⟩:=ih h1.2.1;exact⟨h1.1.trans a1,a2,a3.trans h1.2.2⟩
omit HA in
theorem Nx.r9(ho:Ok A R)(hs:R.st.g=R.sc.g)(n:Nat):Nx A R (jo A.enc R n):=by
 unfold jo;generalize List.range n=l;induction l generalizing R with
 |nil=>exact Nx.refl R
 |cons k l ih =>
  rw[Jbg];have h1:Nx A R (Go.Proofs.YtignemioillaiabGreat.r9 A.enc R k)/\Ok A (Go.Proofs.YtignemioillaiabGreat.r9 A.enc R k):=by
   unfold Go.Proofs.YtignemioillaiabGreat.r9;split
   .exact⟨Nx.refl R,ho⟩
   .rename_i r rs hr
    refine⟨Nx.snd (MG.move ?_) (T8.fK ?_ ho.sz),ho.snd _ _ _⟩;all_goals
     have hm:∃o∈R.st.O,r∈o.2/\k<R.st.O.length:=by
      rw[Jdx]at hr;cases ho:R.st.O[k]? with
      |none=>rw[ho]at hr;cases hr
      |some o =>
       rw[ho]at hr;exact⟨o,Jcv ho,by rw[show o.2=r::rs from hr];exact Jb4,(Jcn.1 ho).1⟩
     obtain⟨o,h1,h2,h3⟩:=hm;obtain⟨e1,e2,e3⟩:=HN.lane _ ho.st o h1 r h2;have q2:=HN.lens _ ho.st;have:=ho.i.2.1
    .exact⟨by omega,by omega,e2,e3⟩
    .omega
  obtain⟨a1,a2⟩:=h1;refine a1.trans (ih a2 ?_);rw[a1.sd.2,a1.id.1];exact hs
theorem Nx.tick(ho:Ok A R)(hs:R.st.g=R.sc.g):Nx A R (mR A R):=by
 obtain⟨o1,_,_,_⟩:=ho.bK HA;have n1:Nx A R (bK A R):=by
  unfold Go.Proofs.YtignemioillaiabGreat.bK;split
  .exact Nx.eU HA HN ho
  .exact Nx.refl R
 unfold mR sj;have n2:Nx A (bK A R) (gN A (bK A R)):=Nx.snd (MG.fO (.inl rfl) o1.sn.2.1) o1.pe;have o2:Ok A (gN A (bK A R)):=o1.snd _ _ _;have n12:=n1.trans n2;split
 .exact n1
 split
 .obtain⟨n3,o3,e3⟩:=Nx.mQ o2 (gN A (bK A R)).sc.next
  have n13:=n12.trans n3;refine n13.trans (Nx.r9 HN o3 ?_ _);rw[n13.sd.2,n13.id.1];exact hs
 .exact n12
end
end
