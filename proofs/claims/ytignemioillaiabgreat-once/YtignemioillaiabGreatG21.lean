/- Lemmas. -/
import Derived.Test.YtignemioillaiabGreatG20
namespace Go.Proofs.YtignemioillaiabGreat
set_option maxHeartbeats 8000000
set_option maxRecDepth 100000
open List
section
open Go Go.Conc
structure GS(A:Nat->Prop)(w w':World):Prop where
 os:w'.os=w.os
 out:w'.output=w.output
 size:w.heap.size<=w'.heap.size
 block:∀x,x<w.heap.size->¬A x->w'.heap[x]?=w.heap[x]?
structure St where
 (g n:Int)
 T:List Row
 M:List Pc
 D:List ag
 O:List (Int×List Rg)
 I:List Int
def uN(w:World)(q:Value)(rs:List Rg):Prop:=∃vs:List (Value×Value),vs.length=rs.length/\Fz w 78 7 q rs.length (zipWith (λr p=>fB r p.1 p.2) rs vs).flatten/\∀(i:Nat) (r:Rg) (p:Value×Value),rs[i]?=some r->vs[i]?=some p->aS w r p.1 p.2
structure fE(w:World)(vT vM vD vO vI:Value)(s:St):Prop where
 T:Fz w 139 2 vT s.T.length (s.T.map Row.cells).flatten
 M:Fz w 153 2 vM s.M.length (s.M.map Pc.cells).flatten
 D:Fz w 70 7 vD s.D.length (s.D.map ag.cells).flatten
 O:∃qs:List Value,qs.length=s.O.length/\Fz w 62 2 vO s.O.length (zipWith (λ(o:Int×List Rg) q=>[Value.int .u32 o.1,q]) s.O qs).flatten/\∀(i:Nat) (o:Int×List Rg) (q:Value),s.O[i]?=some o->qs[i]?=some q->uN w q o.2
 I:Fz w 59 1 vI s.I.length (s.I.map λi=>Value.int .u32 i)
theorem uN.kz{w w':World}{q:Value}{rs:List Rg}(h:uN w q rs)(k:Kz w w'):uN w' q rs:=by
 obtain⟨vs,h1,h2,h3⟩:=h;exact⟨vs,h1,h2.kz k (by decide),λi r p hr hp=>(h3 i r p hr hp).kz k⟩
theorem fE.kz{w w':World}{vT vM vD vO vI:Value}{s:St}(h:fE w vT vM vD vO vI s)(k:Kz w w'):fE w' vT vM vD vO vI s:=by
 obtain⟨qs,h1,h2,h3⟩:=h.O;exact⟨h.T.kz k (by decide),h.M.kz k (by decide),h.D.kz k (by decide),⟨qs,h1,h2.kz k (by decide),λi o q ho hq=>(h3 i o q ho hq).kz k⟩,h.I.kz k (by decide)⟩
theorem fE.sl{w:World}{T M D O I:Value}{s:St}(h:fE w T M D O I s):∃a1 n1 c1 a2 n2 c2 a3 n3 c3 a4 n4 c4 a5 n5 c5,T=.slice a1 n1 c1/\M=.slice a2 n2 c2/\D=.slice a3 n3 c3/\O=.slice a4 n4 c4/\I=.slice a5 n5 c5:=by
 obtain⟨_,_,h1,_⟩:=h.T;obtain⟨_,_,h2,_⟩:=h.M;obtain⟨_,_,h3,_⟩:=h.D;obtain⟨_,_,⟨_,_,h4,_⟩,_⟩:=h.O;obtain⟨_,_,h5,_⟩:=h.I;exact⟨_,_,_,_,_,_,_,_,_,_,_,_,_,_,_,h1,h2,h3,h4,h5⟩
structure Sc where
 (g i gs sz:Nat)
 (b wb:bH)
 (seen role prom next:Nat)
structure MR where
 sc:Sc
 (cZ fJ:Nat->Option MV)
 known:Nat->Option MC
 log:List MC
 st:St
 out:List bF
 met:Nat->Option MV
 props:Nat->Option MC
 acc:Nat->Option Nat
structure gD where
 (vm wm kn mt pp ac:Nat)
 (lg ob sT sM sD sO sI:Value)
def p9(R:MR)(a:gD):List Value:=.int .u8 R.sc.g::.int .u8 R.sc.i::.int .i64 R.sc.gs::.int .i64 R.sc.sz::.int .u32 R.sc.b.n::.int .u8 R.sc.b.id::.map (some a.vm)::.int .u32 R.sc.wb.n::.int .u8 R.sc.wb.id::.map (some a.wm)::.int .u32 R.sc.seen::.map (some a.kn)::a.lg::.int .u8 R.st.g::.int .u8 R.st.n::a.sT::a.sM::a.sD::a.sO::a.sI::a.ob::.int .i64 R.sc.role::.int .u8 R.sc.prom::.map (some a.mt)::.int .u32 R.sc.next::.map (some a.pp)::.map (some a.ac)::[]
def jL(w:World)(v:Value)(l:List MC):Prop:=∃vs:List (Value×Value),vs.length=l.length/\w.ownsRow 0 80 17 v l.length (zipWith (λc p=>dF c p.1 p.2) l vs).flatten/\∀(i:Nat) (c:MC) (p:Value×Value),l[i]?=some c->vs[i]?=some p->aS w c.r p.1 p.2
def Own(br:Nat)(a:gD)(x:Nat):Prop:=x=br\/x=a.vm\/x=a.wm\/x=a.kn\/x=a.mt\/x=a.pp\/x=a.ac\/a.lg.ownBlock=some x\/a.ob.ownBlock=some x
structure RI(w:World)(br:Nat)(R:MR)(a:gD):Prop where
 mem:Hl w br (p9 R a) 135
 vm:bT p8 w a.vm R.cZ
 wm:bT p8 w a.wm R.fJ
 kn:bT kF w a.kn R.known
 mt:bT p8 w a.mt R.met
 pp:bT kF w a.pp R.props
 ac:bT nT w a.ac R.acc
 lg:jL w a.lg R.log
 st:fE w a.sT a.sM a.sD a.sO a.sI R.st
 ob:w.ownsRow 0 97 5 a.ob R.out.length (flat R.out)
 sep:[a.vm,a.wm,a.kn,a.mt,a.pp,a.ac].Nodup
theorem jL.kz{w w':World}{v:Value}{l:List MC}(h:jL w v l)(k:Kz w w')(hb:∀g,v.ownBlock=some g->w'.heap[g]?=w.heap[g]?):jL w' v l:=by
 obtain⟨vs,h1,h2,h3⟩:=h;exact⟨vs,h1,ax h2 hb,λi c p hc hp=>(h3 i c p hc hp).kz k⟩
theorem au{w:World}{e:TypeId}{size n:Nat}{v:Value}{xs:List Value}(h:w.ownsRow 0 e size v n xs){g:Nat}(hg:v.ownBlock=some g):∃cur,w.heap[g]?=some (.cells cur e):=by
 rcases h.2 with⟨rfl,_⟩|⟨g',cap,cur,rfl,_,hb,_⟩
 .cases hg
 .obtain rfl:g'=g:=by simpa[Value.ownBlock]using hg
  exact⟨cur,hb⟩
theorem jL.obj{w:World}{v:Value}{l:List MC}(h:jL w v l){g:Nat}(hg:v.ownBlock=some g):∃cur,w.heap[g]?=some (.cells cur 80):=by
 obtain⟨vs,_,h2,_⟩:=h;exact au h2 hg
section
variable{w w':World}{br:Nat}{R:MR}{a:gD}
theorem RI.mut(h:RI w br R a){x:Nat}(hx:Own br a x):∀t∈OO,∀c,w.heap[x]?≠some (.cells c t):=by
 intro t ht c he;have mp:∀{m:Nat},(∃es k,w.heap[m]?=some (.map es k))->x=m->False:=by
  rintro m ⟨es,k,h1⟩ rfl;rw[h1]at he;cases he
 rcases hx with hx|hx|hx|hx|hx|hx|hx|hx|hx
 .subst hx;rw[h.mem]at he;injection he with he;injection he with _ he;subst he;revert ht;decide
 .exact mp h.vm.obj hx
 .exact mp h.wm.obj hx
 .exact mp h.kn.obj hx
 .exact mp h.mt.obj hx
 .exact mp h.pp.obj hx
 .exact mp h.ac.obj hx
 .obtain⟨cur,h1⟩:=h.lg.obj hx;rw[h1]at he;injection he with he;injection he with _ he;subst he;revert ht;decide
 .obtain⟨cur,h1⟩:=au h.ob hx;rw[h1]at he;injection he with he;injection he with _ he;subst he;revert ht;decide
theorem RI.lt(h:RI w br R a){x:Nat}(hx:Own br a x):x<w.heap.size:=by
 rcases hx with rfl|rfl|rfl|rfl|rfl|rfl|rfl|hx|hx
 .exact ae h.mem
 .exact h.vm.lt
 .exact h.wm.lt
 .exact h.kn.lt
 .exact h.mt.lt
 .exact h.pp.lt
 .exact h.ac.lt
 .obtain⟨cur,h1⟩:=h.lg.obj hx;exact ae h1
 .obtain⟨cur,h1⟩:=au h.ob hx;exact ae h1
theorem RI.kz(h:RI w br R a){x:Nat}(hx:Own br a x)(hg:GB (some x) w w'):Kz w w':=hg.Ei λc t ht=>h.mut hx t ht c
theorem RI.keep(h:RI w br R a)(k:Kz w w')(hb:∀x,Own br a x->w'.heap[x]?=w.heap[x]?):RI w' br R a :=
 ⟨(hb br (.inl rfl)).trans h.mem,h.vm.keep (λ_ _ h=>h.kz k) (hb _ (.inr (.inl rfl))),h.wm.keep (λ_ _ h=>h.kz k) (hb _ (.inr (.inr (.inl rfl)))),h.kn.keep (λ_ _ h=>h.kz k) (hb _ (.inr (.inr (.inr (.inl rfl))))),h.mt.keep (λ_ _ h=>h.kz k) (hb _ (.inr (.inr (.inr (.inr (.inl rfl)))))),h.pp.keep (λ_ _ h=>h.kz k) (hb _ (.inr (.inr (.inr (.inr (.inr (.inl rfl))))))),h.ac.keep (w':=w') (λv x (h:nT w v x)=>(show nT w' v x from h)) (hb _ (.inr (.inr (.inr (.inr (.inr (.inr (.inl rfl)))))))),h.lg.kz k (λg hg=>hb g (.inr (.inr (.inr (.inr (.inr (.inr (.inr (.inl hg))))))))),h.st.kz k,ax h.ob (λg hg=>hb g (.inr (.inr (.inr (.inr (.inr (.inr (.inr (.inr hg))))))))),h.sep⟩
theorem RI.ay(h:RI w br R a)(hg:GB none w w'):RI w' br R a:=h.keep hg.kz λx hx=>hg.block x (h.lt hx) nofun
end
theorem iJ{w:World}{m x:Nat}(h1:∃es c,w.heap[m]?=some (.map es c))(h2:∃cs t,w.heap[x]?=some (.cells cs t)):m≠x:=by
 rintro rfl;obtain⟨es,c,h1⟩:=h1;obtain⟨cs,t,h2⟩:=h2;rw[h1]at h2;cases h2
section
variable{w w':World}{br:Nat}{R:MR}{a:gD}
theorem RI.uO(h:RI w br R a):∃cs t,w.heap[br]?=some (.cells cs t):=⟨_,_,h.mem⟩
theorem RI.clg(h:RI w br R a){g:Nat}(hg:a.lg.ownBlock=some g):∃cs t,w.heap[g]?=some (.cells cs t):=by obtain⟨c,h⟩:=h.lg.obj hg;exact⟨_,_,h⟩
theorem RI.cob(h:RI w br R a){g:Nat}(hg:a.ob.ownBlock=some g):∃cs t,w.heap[g]?=some (.cells cs t):=by obtain⟨c,h⟩:=au h.ob hg;exact⟨_,_,h⟩
theorem RI.Ac(h:RI w br R a){g:Nat}(hg:a.lg.ownBlock=some g):g≠br:=by
 rintro rfl;obtain⟨c,h1⟩:=h.lg.obj hg;rw[h.mem]at h1;injection h1 with h1;injection h1 with _ h1;revert h1;decide
theorem RI.Dv(h:RI w br R a){g:Nat}(hg:a.ob.ownBlock=some g):g≠br:=by
 rintro rfl;obtain⟨c,h1⟩:=au h.ob hg;rw[h.mem]at h1;injection h1 with h1;injection h1 with _ h1;revert h1;decide
theorem RI.QZ(h:RI w br R a){g g':Nat}(hg:a.lg.ownBlock=some g)(hg':a.ob.ownBlock=some g'):g≠g':=by
 rintro rfl;obtain⟨c,h1⟩:=h.lg.obj hg;obtain⟨c',h2⟩:=au h.ob hg';rw[h1]at h2;injection h2 with h2;injection h2 with _ h2;revert h2;decide
theorem RI.jy(_:RI w br R a):Own br a br:=.inl rfl
theorem RI.wQ(_:RI w br R a):Own br a a.vm:=.inr (.inl rfl)
theorem RI.EU(_:RI w br R a):Own br a a.wm:=.inr (.inr (.inl rfl))
theorem RI.wR(_:RI w br R a):Own br a a.kn:=.inr (.inr (.inr (.inl rfl)))
theorem RI.nM(_:RI w br R a):Own br a a.mt:=.inr (.inr (.inr (.inr (.inl rfl))))
theorem RI.wS(_:RI w br R a):Own br a a.pp:=.inr (.inr (.inr (.inr (.inr (.inl rfl)))))
theorem RI.wT(_:RI w br R a):Own br a a.ac:=.inr (.inr (.inr (.inr (.inr (.inr (.inl rfl))))))
theorem RI.wU(_:RI w br R a){g:Nat}(hg:a.lg.ownBlock=some g):Own br a g:=.inr (.inr (.inr (.inr (.inr (.inr (.inr (.inl hg)))))))
theorem RI.ve(_:RI w br R a){g:Nat}(hg:a.ob.ownBlock=some g):Own br a g:=.inr (.inr (.inr (.inr (.inr (.inr (.inr (.inr hg)))))))
theorem RI.far(h:RI w br R a){x y:Nat}(hy:Own br a y)(g:GB (some x) w w')(hne:y≠x):w'.heap[y]?=w.heap[y]?:=g.block y (h.lt hy) λe=>hne (Jbm e)
theorem RI.cell(h:RI w br R a){s':Sc}(hm:Hl w' br (p9 {R with sc:=s'} a) 135)(g:GB (some br) w w'):RI w' br {R with sc:=s'} a:=by
 have k:=h.kz h.jy g;exact⟨hm,h.vm.keep (λ_ _ h=>h.kz k) (h.far h.wQ g (iJ h.vm.obj h.uO)),h.wm.keep (λ_ _ h=>h.kz k) (h.far h.EU g (iJ h.wm.obj h.uO)),h.kn.keep (λ_ _ h=>h.kz k) (h.far h.wR g (iJ h.kn.obj h.uO)),h.mt.keep (λ_ _ h=>h.kz k) (h.far h.nM g (iJ h.mt.obj h.uO)),h.pp.keep (λ_ _ h=>h.kz k) (h.far h.wS g (iJ h.pp.obj h.uO)),h.ac.keep (w':=w') (λv x (h:nT w v x)=>(show nT w' v x from h)) (h.far h.wT g (iJ h.ac.obj h.uO)),h.lg.kz k (λx hx=>h.far (h.wU hx) g (h.Ac hx)),h.st.kz k,ax h.ob (λx hx=>h.far (h.ve hx) g (h.Dv hx)),h.sep⟩
theorem RI.map(h:RI w br R a){m:Nat}(hm:∃es c,w.heap[m]?=some (.map es c))(ho:Own br a m)(g:GB (some m) w w')(R':MR)(e1:p9 R' a=p9 R a)(e2:R'.log=R.log/\R'.st=R.st/\R'.out=R.out)
 (vm:(a.vm≠m/\R'.cZ=R.cZ)\/bT p8 w' a.vm R'.cZ) (wm:(a.wm≠m/\R'.fJ=R.fJ)\/bT p8 w' a.wm R'.fJ) (kn:(a.kn≠m/\R'.known=R.known)\/bT kF w' a.kn R'.known) (mt:(a.mt≠m/\R'.met=R.met)\/bT p8 w' a.mt R'.met) (pp:(a.pp≠m/\R'.props=R.props)\/bT kF w' a.pp R'.props) (ac:(a.ac≠m/\R'.acc=R.acc)\/bT nT w' a.ac R'.acc):RI w' br R' a:=by
 have k:=h.kz ho g;refine⟨?_,?_,?_,?_,?_,?_,?_,?_,?_,?_,h.sep⟩
 .rw[e1];exact(h.far h.jy g (λe=>iJ hm h.uO e.symm)).trans h.mem
 .exact vm.elim (λe=>by rw[e.2];exact h.vm.keep (λ_ _ h=>h.kz k) (h.far h.wQ g e.1)) id
 .exact wm.elim (λe=>by rw[e.2];exact h.wm.keep (λ_ _ h=>h.kz k) (h.far h.EU g e.1)) id
 .exact kn.elim (λe=>by rw[e.2];exact h.kn.keep (λ_ _ h=>h.kz k) (h.far h.wR g e.1)) id
 .exact mt.elim (λe=>by rw[e.2];exact h.mt.keep (λ_ _ h=>h.kz k) (h.far h.nM g e.1)) id
 .exact pp.elim (λe=>by rw[e.2];exact h.pp.keep (λ_ _ h=>h.kz k) (h.far h.wS g e.1)) id
 .exact ac.elim (λe=>by rw[e.2];exact h.ac.keep (w':=w') (λv x (h:nT w v x)=>(show nT w' v x from h)) (h.far h.wT g e.1)) id
 .rw[e2.1];exact h.lg.kz k (λx hx=>h.far (h.wU hx) g (λe=>iJ hm (h.clg hx) e.symm))
 .rw[e2.2.1];exact h.st.kz k
 .rw[e2.2.2];exact ax h.ob (λx hx=>h.far (h.ve hx) g (λe=>iJ hm (h.cob hx) e.symm))
theorem RI.vm'(h:RI w br R a){f:Nat->Option MV}(g:GB (some a.vm) w w')(hm:bT p8 w' a.vm f):RI w' br {R with cZ:=f} a:=by
 have:=h.sep;simp at this;exact h.map h.vm.obj h.wQ g _ rfl ⟨rfl,rfl,rfl⟩ (.inr hm) (.inl ⟨by omega,rfl⟩) (.inl ⟨by omega,rfl⟩) (.inl ⟨by omega,rfl⟩) (.inl ⟨by omega,rfl⟩) (.inl ⟨by omega,rfl⟩)
theorem RI.wm'(h:RI w br R a){f:Nat->Option MV}(g:GB (some a.wm) w w')(hm:bT p8 w' a.wm f):RI w' br {R with fJ:=f} a:=by
 have:=h.sep;simp at this;exact h.map h.wm.obj h.EU g _ rfl ⟨rfl,rfl,rfl⟩ (.inl ⟨by omega,rfl⟩) (.inr hm) (.inl ⟨by omega,rfl⟩) (.inl ⟨by omega,rfl⟩) (.inl ⟨by omega,rfl⟩) (.inl ⟨by omega,rfl⟩)
theorem RI.FD(h:RI w br R a){f:Nat->Option MC}(g:GB (some a.kn) w w')(hm:bT kF w' a.kn f):RI w' br {R with known:=f} a:=by
 have:=h.sep;simp at this;exact h.map h.kn.obj h.wR g _ rfl ⟨rfl,rfl,rfl⟩ (.inl ⟨by omega,rfl⟩) (.inl ⟨by omega,rfl⟩) (.inr hm) (.inl ⟨by omega,rfl⟩) (.inl ⟨by omega,rfl⟩) (.inl ⟨by omega,rfl⟩)
theorem RI.TH(h:RI w br R a){f:Nat->Option MV}(g:GB (some a.mt) w w')(hm:bT p8 w' a.mt f):RI w' br {R with met:=f} a:=by
 have:=h.sep;simp at this;exact h.map h.mt.obj h.nM g _ rfl ⟨rfl,rfl,rfl⟩ (.inl ⟨by omega,rfl⟩) (.inl ⟨by omega,rfl⟩) (.inl ⟨by omega,rfl⟩) (.inr hm) (.inl ⟨by omega,rfl⟩) (.inl ⟨by omega,rfl⟩)
theorem RI.LV(h:RI w br R a){f:Nat->Option MC}(g:GB (some a.pp) w w')(hm:bT kF w' a.pp f):RI w' br {R with props:=f} a:=by
 have:=h.sep;simp at this;exact h.map h.pp.obj h.wS g _ rfl ⟨rfl,rfl,rfl⟩ (.inl ⟨by omega,rfl⟩) (.inl ⟨by omega,rfl⟩) (.inl ⟨by omega,rfl⟩) (.inl ⟨by omega,rfl⟩) (.inr hm) (.inl ⟨by omega,rfl⟩)
theorem RI.ac'(h:RI w br R a){f:Nat->Option Nat}(g:GB (some a.ac) w w')(hm:bT nT w' a.ac f):RI w' br {R with acc:=f} a:=by
 have:=h.sep;simp at this;exact h.map h.ac.obj h.wT g _ rfl ⟨rfl,rfl,rfl⟩ (.inl ⟨by omega,rfl⟩) (.inl ⟨by omega,rfl⟩) (.inl ⟨by omega,rfl⟩) (.inl ⟨by omega,rfl⟩) (.inl ⟨by omega,rfl⟩) (.inr hm)
end
structure bW where
 pr:Nat->Option Obj
 os:Os
 out:Array (Nat×ByteArray)
def bW.add(Λ:bW)(b:Nat)(o:Obj):bW:={Λ with pr:=λx=>if x=b then some o else Λ.pr x}
structure Wa(Λ:bW)(br:Nat)(R:MR)(a:gD)(w:World):Prop where
 ri:RI w br R a
 pr:∀b o,Λ.pr b=some o->w.heap[b]?=some o/\¬Own br a b
 os:w.os=Λ.os
 out:w.output=Λ.out
def Wk(Λ:bW)(br:Nat)(R:MR)(w:World):Prop:=∃a,Wa Λ br R a w
section
variable{Λ:bW}{w w':World}{br:Nat}{R R':MR}{a:gD}
theorem Wa.ay(h:Wa Λ br R a w)(g:GB none w w'):Wa Λ br R a w':=⟨h.ri.ay g,λb o hb=>⟨g.get (h.pr b o hb).1 nofun,(h.pr b o hb).2⟩,g.os.trans h.os,g.out.trans h.out⟩
theorem Wk.ay(h:Wk Λ br R w)(g:GB none w w'):Wk Λ br R w':=by obtain⟨a,h⟩:=h;exact⟨a,h.ay g⟩
theorem Wa.step(h:Wa Λ br R a w){x:Nat}(ho:Own br a x)(g:GB (some x) w w')(Cf:RI w' br R' a):Wa Λ br R' a w' :=
 ⟨Cf,λb o hb=>⟨g.get (h.pr b o hb).1 λe=>(h.pr b o hb).2 (by cases e;exact ho),(h.pr b o hb).2⟩,g.os.trans h.os,g.out.trans h.out⟩
theorem Wa.cell(h:Wa Λ br R a w){s':Sc}(hm:Hl w' br (p9 {R with sc:=s'} a) 135)(g:GB (some br) w w'):Wa Λ br {R with sc:=s'} a w':=h.step h.ri.jy g (h.ri.cell hm g)
theorem Wa.rU(h:Wa Λ br R a w){b:Nat}(hb:w.heap.size<=b):Λ.pr b=none:=by
 cases hp:Λ.pr b with
 |none=>rfl
 |some o=>have:=ae (h.pr b o hp).1;omega
theorem Wa.add(h:Wa Λ br R a w){b:Nat}{o:Obj}(hb:w.heap[b]?=some o)(hn:¬Own br a b):Wa (Λ.add b o) br R a w:=by
 refine⟨h.ri,λx q hx=>?_,h.os,h.out⟩;unfold bW.add at hx;dsimp only at hx;split at hx
 .rename_i e;subst e;cases hx;exact⟨hb,hn⟩
 .exact h.pr x q hx
theorem Wa.box(h:Wa Λ br R a w){b:Nat}{o:Obj}(g:GB none w w')(hb:w'.heap[b]?=some o)(hl:w.heap.size<=b):Wa (Λ.add b o) br R a w':=(h.ay g).add hb λho=>by have:=h.ri.lt ho;omega
theorem Wk.box(h:Wk Λ br R w){b:Nat}{o:Obj}(g:GB none w w')(hb:w'.heap[b]?=some o)(hl:w.heap.size<=b):Wk (Λ.add b o) br R w'/\Λ.pr b=none:=by
 obtain⟨a,h⟩:=h;exact⟨⟨a,h.box g hb hl⟩,h.rU hl⟩
theorem Wk.drop{b:Nat}{o:Obj}(h:Wk (Λ.add b o) br R w)(hb:Λ.pr b=none):Wk Λ br R w:=by
 obtain⟨a,h⟩:=h;refine⟨a,h.ri,λx q hx=>h.pr x q ?_,h.os,h.out⟩;unfold bW.add;dsimp only;rw[Jb5 (λe=>by subst e;rw[hb]at hx;cases hx)];exact hx
theorem Wk.at{b:Nat}{o:Obj}(h:Wk (Λ.add b o) br R w):w.heap[b]?=some o:=by
 obtain⟨a,h⟩:=h;exact(h.pr b o (by unfold bW.add;simp)).1
end
def aet(f:Nat)(args:List Value)(br:Nat)(R R':MR):Prop:=∀Λ w,Wk Λ br R w->CY f ((Ptt br)::args).toArray w (λv w'=>v=.tuple #[]/\Wk Λ br R' w'/\Kz w w')
def gF(R:MR):MR:={R with sc:={R.sc with role:=0,prom:=0},met:=λ_=>none,props:=λ_=>none,acc:=λ_=>none}
theorem EX(br:Nat)(R:MR):aet 142 [] br R (gF R):=by
 rintro Λ w ⟨a,h⟩;refine aj Tryz.func142 rfl rfl ?_;refine⟨_,_,_,h.ri.mem,rfl,rfl,λw1 m1 g1=>?_⟩;have h1:=h.cell (s':={R.sc with role:=0}) m1 g1;refine⟨_,_,_,h1.ri.mem,rfl,rfl,λw2 m2 g2=>?_⟩;have h2:=h1.cell (s':={R.sc with role:=0,prom:=0}) m2 g2;have k2:=(h.ri.kz h.ri.jy g1).trans (h1.ri.kz h1.ri.jy g2);obtain⟨f,e1,_⟩:=h2.ri.mt;refine⟨_,_,h2.ri.mem,_,rfl,f,e1,λw3 m3 g3=>?_⟩;have h3:=h2.step h2.ri.nM g3 (h2.ri.TH g3 (bT.none m3));obtain⟨f,e1,_⟩:=h3.ri.pp;refine⟨_,_,h3.ri.mem,_,rfl,f,e1,λw4 m4 g4=>?_⟩;have h4:=h3.step h3.ri.wS g4 (h3.ri.LV g4 (bT.none m4));obtain⟨f,e1,_⟩:=h4.ri.ac;refine⟨_,_,h4.ri.mem,_,rfl,f,e1,λw5 m5 g5=>?_⟩;have h5:=h4.step h4.ri.wT g5 (h4.ri.ac' g5 (bT.none m5));exact⟨rfl,⟨a,h5⟩,((k2.trans (h2.ri.kz h2.ri.nM g3)).trans (h3.ri.kz h3.ri.wS g4)).trans (h4.ri.kz h4.ri.wT g5)⟩
def pc(c:Nat):Nat:=(List.range 5).countP λi=>c.testBit i
def jl(c r:Nat):Nat:=c ||| (1 <<< r)
theorem ZJ(w:World)(c:Nat)(hc:c<32):CY 198 #[.int .u8 c] w (λv w'=>v=.int .i64 (pc c)/\w'=w):=by
 refine aj Tryz.func198 rfl rfl ?_;refine⟨⟨by omega,Int.lt_of_lt_of_le (b:=256) (by omega) (by decide)⟩,?_⟩;obtain rfl|rfl|rfl|rfl|rfl|rfl|rfl|rfl|rfl|rfl|rfl|rfl|rfl|rfl|rfl|rfl|rfl|rfl|rfl|rfl|rfl|rfl|rfl|rfl|rfl|rfl|rfl|rfl|rfl|rfl|rfl|rfl:c=0\/c=1\/c=2\/c=3\/c=4\/c=5\/c=6\/c=7\/c=8\/c=9\/c=10\/c=11\/c=12\/c=13\/c=14\/c=15\/c=16\/c=17\/c=18\/c=19\/c=20\/c=21\/c=22\/c=23\/c=24\/c=25\/c=26\/c=27\/c=28\/c=29\/c=30\/c=31:=by omega
 all_goals exact .inr ⟨rfl,rfl⟩
theorem OW(w:World)(c n:Nat)(hc:c<32):CY 183 #[.int .u8 c,.int .i64 n] w (λv w'=>v=.bool (decide (2*pc c>n))/\w'=w):=by
 refine aj Tryz.func183 rfl rfl ?_;refine⟨_,ZJ w c hc,?_⟩;rintro _ _ ⟨rfl,rfl⟩;have:pc c<=5:=by unfold pc;exact Jb1 (countP_le_length ..) (by decide)
 exact⟨by omega,vb (decide_eq_decide.2 ⟨λh=>by omega,λh=>by omega⟩),rfl⟩
theorem OX(w:World)(c r:Nat)(hc:c<32)(hr:r<5):CY 182 #[.int .u8 c,.int .u8 r] w (λv w'=>v=.int .u8 (jl c r)/\w'=w):=by
 refine aj Tryz.func182 rfl rfl ?_;refine⟨by omega,?_,rfl⟩;have key:((List.range 32).all λc=>(List.range 5).all λr=>decide (IntKind.u8.wrap (BitVec.ofInt IntKind.u8.bits (c:Nat) ||| BitVec.ofInt IntKind.u8.bits (IntKind.u8.wrap (1*2^min (r:Int).toNat IntKind.u8.bits))).toNat=(jl c r:Nat)))=true:=by kernel_rfl
 have h1:=all_eq_true.1 (all_eq_true.1 key c (Jc3.2 hc)) r (Jc3.2 hr);rw[Ptq h1]
theorem wV{c r:Nat}(hc:c<32)(hr:r<5):jl c r<32:=by
 have key:((List.range 32).all λc=>(List.range 5).all λr=>decide (jl c r<32))=true:=by decide
 exact Ptq (all_eq_true.1 (all_eq_true.1 key c (Jc3.2 hc)) r (Jc3.2 hr))
def uu(R:MR)(s:Nat)(c:MC):MR:={R with cZ:=upd R.cZ s (some ⟨s,R.sc.b,c⟩)}
theorem OY{Λ:bW}{w:World}{br:Nat}{R:MR}(h:Wk Λ br R w){s:Nat}{c:MC}{cv:Value}(hc:kF w cv c):CY 143 #[Ptt br,.int .u32 s,cv] w (λv w'=>v=.tuple #[]/\Wk Λ br (uu R s c) w'/\Kz w w'):=by
 obtain⟨a,h⟩:=h;obtain⟨rv,dv,rfl,hr⟩:=hc;refine aj Tryz.func143 rfl rfl ?_;intro w1 b1 m1 g1 l1;have h1:=h.ay g1;refine⟨by kernel_rfl,_,_,h1.ri.mem,_,rfl,_,_,h1.ri.mem,_,rfl,rfl,_,_,m1,_,rfl,rfl,?_⟩;obtain⟨f,e1,e2,e3⟩:=h1.ri.vm;refine⟨f,e1,λw2 m2 g2=>?_⟩;have k:=h1.ri.kz h1.ri.wQ g2;exact⟨rfl,⟨a,h1.step h1.ri.wQ g2 (h1.ri.vm' g2 (bT.put (λ_ _ h=>h.kz k) e2 e3 ⟨rv,dv,rfl,(hr.kz g1.kz).kz k⟩ m2))⟩,g1.kz.trans k⟩
def cz(R:MR):MR:=if R.sc.sz=1\/R.sc.seen=4294967295 then R else{ R with sc:={R.sc with seen:=R.sc.seen+1,b:=⟨R.sc.seen+1,R.sc.i⟩} }
theorem Ww{Λ:bW}{w:World}{br:Nat}{R:MR}(h:Wk Λ br R w)(hs:R.sc.seen<=4294967295):CY 149 #[Ptt br] w (λv w'=>v=.bool (decide (R.sc.sz=1\/R.sc.seen≠4294967295))/\Wk Λ br (cz R) w'/\Kz w w'):=by
 obtain⟨a,h⟩:=h;refine aj Tryz.func149 rfl rfl ?_;refine⟨_,_,h.ri.mem,_,rfl,ah (λc=>?_) (λc=>?_)⟩
 .have c1:R.sc.sz=1:=by simp at c;omega
  exact⟨by simp[c1],⟨a,by unfold cz;rw[Jb6 (.inl c1)];exact h⟩,Kz.refl _⟩
 have c1:¬R.sc.sz=1:=by simp at c;omega
 refine⟨_,_,h.ri.mem,_,rfl,ah (λd=>?_) (λd=>?_)⟩
 .have d1:R.sc.seen=4294967295:=by simp at d;omega
  exact⟨by simp[c1,d1],⟨a,by unfold cz;rw[Jb6 (.inr d1)];exact h⟩,Kz.refl _⟩
 have d1:¬R.sc.seen=4294967295:=by simp at d;omega
 refine⟨_,_,h.ri.mem,_,rfl,by omega,_,_,_,h.ri.mem,rfl,rfl,λw1 m1 g1=>?_⟩;have h1:=h.cell (s':={R.sc with seen:=R.sc.seen+1}) m1 g1;refine⟨by kernel_rfl,_,_,h1.ri.mem,_,rfl,_,_,h1.ri.mem,_,rfl,_,_,_,h1.ri.mem,rfl,rfl,λw2 m2 g2=>?_⟩;have h2:=h1.cell (s':={R.sc with seen:=R.sc.seen+1,b:=⟨R.sc.seen+1,R.sc.i⟩}) m2 g2;exact⟨by simp[d1],⟨a,by unfold cz;rw[Jb5 (by simp[c1,d1])];exact h2⟩,(h.ri.kz h.ri.jy g1).trans (h1.ri.kz h1.ri.jy g2)⟩
theorem GB.ownB{v:Value}{w0 w w':World}(h:GB none w0 w)(k:GB v.ownBlock w w')(hv:∀g,v.ownBlock=some g->w0.heap.size<=g):GB none w0 w' :=
 ⟨k.os.trans h.os,k.out.trans h.out,Jb1 h.size k.size,λx hx _=>(k.block x (Jbz hx h.size) (λe=>by have:=hv x e.symm;omega)).trans (h.block x hx nofun)⟩
theorem qb{w:World}{e size n:Nat}{v:Value}{xs:List Value}(h:w.ownsRow 0 e size v n xs):Fz w e size v n xs:=by
 rcases h.2 with⟨rfl,h1⟩|⟨g,cap,cur,rfl,_,hb,h3,h4,h5,h6⟩
 .subst h1
  have:=h.1;exact⟨none,0,rfl,Jb0 _,this,.inl ⟨rfl,rfl⟩⟩
 .exact⟨_,cap,rfl,h3,h.1,.inr ⟨g,0,cur,rfl,hb,by unfold aG;rw[drop_zero];exact h6⟩⟩
theorem af{w:World}{e:TypeId}{size n:Nat}{v:Value}{xs:List Value}(h:w.ownsRow 0 e size v n xs):∃a c,v=.slice a n c:=by
 rcases h.2 with⟨rfl,rfl⟩|⟨g,cap,cur,rfl,_⟩
 .exact⟨_,_,rfl⟩
 .exact⟨_,_,rfl⟩
theorem eu(w:World)(e:TypeId)(size:Nat):w.ownsRow 0 e size Ptz 0 []:=⟨by simp,.inl ⟨rfl,rfl⟩⟩
def Ej(l:List (Nat×Nat)):List Value:=l.flatMap λp=>[.int .u8 p.1,.int .u8 p.2]
def fK(g i jT k:Nat):List (Nat×Nat):=((List.range k).filter λj=>!(jT==g&&j==i)).map λj=>(jT,j)
theorem LW(g i jT k:Nat):fK g i jT (k+1)=fK g i jT k++if jT=g/\k=i then[]else[(jT,k)]:=by
 unfold fK;rw[Jc2,Jfh,Jda];congr 1
 by_cases h:jT=g/\k=i
 .simp[h]
 .rw[Jb5 h,Jdn (by by_cases h1:jT=g<;>by_cases h2:k=i<;>simp_all)];rfl
theorem jm(g i jT k:Nat):(fK g i jT k).length<=k:=by
 unfold fK;rw[Jf6];exact Jb1 (Jff _ _) (by simp)
theorem Cg{Λ:bW}{w:World}{br:Nat}{R:MR}(h:Wk Λ br R w)(jT:Nat)(hz:R.sc.sz<=5):CY 150 #[Ptt br,.int .u8 jT] w (λv w'=>Fz w' 48 2 v (fK R.sc.g R.sc.i jT R.sc.sz).length (Ej (fK R.sc.g R.sc.i jT R.sc.sz))/\GB none w w'):=by
 obtain⟨a,h⟩:=h;refine aj Tryz.func150 rfl rfl ?_;refine⟨_,_,h.ri.mem,_,rfl,λm s w1=>∃(k:Nat) (lv:Value),m=R.sc.sz-k/\k<=R.sc.sz/\s=[(0,Ptt br),(1,.int .u8 jT),(5,lv),(11,.int .i64 R.sc.sz),(12,.int .i64 k)]/\w1.ownsRow 0 48 2 lv (fK R.sc.g R.sc.i jT k).length (Ej (fK R.sc.g R.sc.i jT k))/\GB none w w1/\∀g,lv.ownBlock=some g->w.heap.size<=g,⟨_,_,⟨0,Ptz,rfl,Jcm _,rfl,eu _ _ _,GB.refl _ _,nofun⟩,sb rfl⟩,?_⟩;rintro m s w1 ⟨k,lv,rfl,hk,rfl,ho,g1,hn⟩;refine ah (λc=>?_) (λc=>?_)
 .have c1:k<R.sc.sz:=by simp at c;omega
  refine .inl ⟨by omega,λw2 b2 m2 g2 l2=>⟨_,_,_,m2,rfl,rfl,λw3 m3 g3=>?_⟩⟩;have g13:GB none w1 w3:=⟨g3.os.trans g2.os,g3.out.trans g2.out,Jb1 g2.size g3.size,λx hx _=>(g3.block x (Jbz hx g2.size) (λe=>by cases e;omega)).trans (g2.block x hx nofun)⟩;have h3:=h.ay (g1.trans g13);refine⟨by kernel_rfl,_,_,m3,_,rfl,rfl,_,_,h3.ri.mem,_,rfl,rfl,ah (λd=>?_) (λd=>?_)⟩
  .have d1:¬(jT=R.sc.g/\k=R.sc.i):=by rintro⟨e1,e2⟩;simp[e1,e2]at d
   obtain⟨oa,oc,rfl⟩:=af ho;refine⟨_,_,m3,_,rfl,rfl,λw4 b4 m4 g4 l4=>?_⟩;have Bi:=ax ho (w1:=w4) λg hg=>by obtain⟨cur,hc⟩:=au ho hg;exact(g13.trans g4).block g (ae hc) nofun
   have hol:=jm R.sc.g R.sc.i jT k;refine⟨_,[.int .u8 jT,.int .u8 k],Bi,⟨_,_,m4,rfl,rfl,rfl⟩,by omega,λv' w5 Bj g5 n5=>?_⟩;refine⟨by omega,_,_,⟨k+1,v',rfl,by omega,rfl,?_,GB.ownB ((g1.trans g13).trans g4) g5 hn,λg hg=>(n5 g hg).elim (hn g) (λhl=>?_)⟩,(sb rfl),by omega⟩
   .rw[LW,Jb5 d1,Jc6]
    have e:Ej (fK R.sc.g R.sc.i jT k++[(jT,k)])=Ej (fK R.sc.g R.sc.i jT k)++[.int .u8 jT,.int .u8 k]:=by unfold Ej;rw[flatMap_append];rfl
    rw[e];exact Bj
   .have:=((g1.trans g13).trans g4).size;omega
  .have d1:jT=R.sc.g/\k=R.sc.i:=by simp at d;omega
   refine⟨by omega,_,_,⟨k+1,lv,rfl,by omega,rfl,?_,g1.trans g13,hn⟩,(sb rfl),by omega⟩;rw[LW,Jb6 d1,Jc1];exact ax ho λg hg=>by obtain⟨cur,hc⟩:=au ho hg;exact g13.block g (ae hc) nofun
 .have c1:k=R.sc.sz:=by simp at c;omega
  subst c1;exact⟨qb ho,g1⟩
theorem Ad{Λ:bW}{w:World}{br:Nat}{R:MR}(h:Wk Λ br R w)(hz:R.sc.sz<=5):CY 91 #[Ptt br] w (λv w'=>Fz w' 48 2 v (fK R.sc.g R.sc.i R.sc.g R.sc.sz).length (Ej (fK R.sc.g R.sc.i R.sc.g R.sc.sz))/\GB none w w'):=by
 have h0:=h;obtain⟨a,h⟩:=h;refine aj Tryz.func91 rfl rfl ?_;exact⟨_,_,h.ri.mem,_,rfl,_,Cg h0 R.sc.g hz,λv w' hv=>hv⟩
theorem zh(cs:List Value)(off n k size:Nat)(h:k+size<=n):aG (aG cs off n) k size=aG cs (off+k) size:=by
 unfold aG;rw[Jfj,drop_drop,Jd5,Jd7 (by omega)]
theorem jb{α:Type}{f:α->List Value}{size:Nat}(hf:∀x,(f x).length=size):∀(l:List α) (k:Nat) (x:α),l[k]?=some x->aG (l.flatMap f) (k*size) size=f x
 | [],_,_,h=>by simp at h
 |y::l,0,x,h=>by
  simp only[Jd0,Jbc]at h;subst h;unfold aG;rw[Jc7,drop_zero,flatMap_cons,Jd3 (by rw[hf];omega),Jd2 (by rw[hf];omega)]
 |y::l,k+1,x,h=>by
  have ih:=jb hf l k x (by simpa using h);unfold aG at ih |-;rw[flatMap_cons,drop_append,drop_of_length_le (by rw[hf,Jfk];omega),nil_append,hf,Jfk,Nat.add_sub_cancel];exact ih
theorem Fz.elem{size n:Nat}{xs:List Value}{off:Nat}{cs:Array Value}(hc:aG cs.toList off (n*size)=xs){k:Nat}(hk:k<n):aG cs.toList (off+k*size) size=aG xs (k*size) size:=by
 rw[<-hc,zh _ _ _ _ _ (by have:=Jcr size hk;rw[Jfk]at this;omega)]
theorem ab2{tl:List (Nat×Nat)}{k:Nat}{p:Nat×Nat}(h:tl[k]?=some p):aG (Ej tl) (k*2) 2=[.int .u8 p.1,.int .u8 p.2]:=jb (f:=λp:Nat×Nat=>[Value.int .u8 p.1,Value.int .u8 p.2]) (λ_=>rfl) tl k p h
section
variable{Λ:bW}{w w1 w2:World}{br:Nat}{R:MR}{a:gD}
theorem Wa.ob'(h:Wa Λ br R a w){ob:Value}{ps:List bF}(g1:GB a.ob.ownBlock w w1)(ho:w1.ownsRow 0 97 5 ob ps.length (flat ps))(hn:∀g,ob.ownBlock=some g->a.ob.ownBlock=some g\/w.heap.size<=g)(m2:Hl w2 br (p9 {R with out:=ps} {a with ob:=ob}) 135)(g2:GB (some br) w1 w2):Wa Λ br {R with out:=ps} {a with ob:=ob} w2/\Kz w w2:=by
 have Wx:∀g,ob.ownBlock=some g->g≠br:=λg hg e=>by
  subst e;rcases hn g hg with h1|h1
  .exact h.ri.Dv h1 rfl
  .have:=ae h.ri.mem;omega
 have mbr:w1.heap[br]?=w.heap[br]?:=g1.block br (ae h.ri.mem) λe=>h.ri.Dv e.symm rfl
 have kp:∀x,x<w.heap.size->some x≠a.ob.ownBlock->x≠br->w2.heap[x]?=w.heap[x]?:=λx hx h1 h2=>(g2.block x (Jbz hx g1.size) λe=>h2 (Jbm e)).trans (g1.block x hx h1)
 have k:Kz w w2:=λt ht b c hb=>by
  refine(kp b (ae hb) (λe=>?_) (λe=>?_)).trans hb
  .exact h.ri.mut (h.ri.ve e.symm) t ht c hb
  .subst e;exact h.ri.mut h.ri.jy t ht c hb
 have mp:∀m:Nat,(∃es c,w.heap[m]?=some (Obj.map es c))->w2.heap[m]?=w.heap[m]?:=λm hm=>kp m (by obtain⟨_,_,h⟩:=hm;exact ae h) (λe=>iJ hm (h.ri.cob e.symm) rfl) (iJ hm h.ri.uO)
 refine⟨⟨⟨m2,h.ri.vm.keep (λ_ _ h=>h.kz k) (mp _ h.ri.vm.obj),h.ri.wm.keep (λ_ _ h=>h.kz k) (mp _ h.ri.wm.obj),h.ri.kn.keep (λ_ _ h=>h.kz k) (mp _ h.ri.kn.obj),h.ri.mt.keep (λ_ _ h=>h.kz k) (mp _ h.ri.mt.obj),h.ri.pp.keep (λ_ _ h=>h.kz k) (mp _ h.ri.pp.obj),h.ri.ac.keep (w':=w2) (λv x (h:nT w v x)=>(show nT w2 v x from h)) (mp _ h.ri.ac.obj),h.ri.lg.kz k (λg hg=>?_),h.ri.st.kz k,ax ho (λg hg=>?_),h.ri.sep⟩,λb o hb=>?_,g2.os.trans (g1.os.trans h.os),g2.out.trans (g1.out.trans h.out)⟩,k⟩
 .exact kp g (h.ri.lt (h.ri.wU hg)) (λe=>h.ri.QZ hg e.symm rfl) (h.ri.Ac hg)
 .obtain⟨cur,hc⟩:=au ho hg
  exact g2.block g (ae hc) λe=>Wx g hg (Jbm e)
 .obtain⟨p1,p2⟩:=h.pr b o hb
  have hl:=ae p1;refine⟨(kp b hl (λe=>p2 (h.ri.ve e.symm)) (λe=>p2 (by rw[e];exact h.ri.jy))).trans p1,λho=>?_⟩;rcases ho with e|e|e|e|e|e|e|e|e
  .exact p2 (.inl e)
  .exact p2 (.inr (.inl e))
  .exact p2 (.inr (.inr (.inl e)))
  .exact p2 (.inr (.inr (.inr (.inl e))))
  .exact p2 (.inr (.inr (.inr (.inr (.inl e)))))
  .exact p2 (.inr (.inr (.inr (.inr (.inr (.inl e))))))
  .exact p2 (.inr (.inr (.inr (.inr (.inr (.inr (.inl e)))))))
  .exact p2 (h.ri.wU e)
  .rcases hn b e with h1|h1
   .exact p2 (h.ri.ve h1)
   .omega
end
def toP(R:MR)(d:ByteArray)(p:Nat×Nat):bF:=⟨R.sc.g,R.sc.i,p.1,p.2,d⟩
def kg(R:MR)(d:ByteArray)(tl:List (Nat×Nat)):MR:={R with out:=R.out++tl.map (toP R d)}
theorem ZK{Λ:bW}{w:World}{br:Nat}{R:MR}(h:Wk Λ br R w){m:List Value}(hm:m.length=45){d:ByteArray}(hM:∀w1,Kz w w1->CY 43 #[.agg m.toArray] w1 (λv w'=>(∃e,v=.tuple #[.string d,.int .i64 e])/\GB none w1 w')){tv:Value}{tl:List (Nat×Nat)}(ht:Fz w 48 2 tv tl.length (Ej tl))(hb:R.out.length+tl.length<=1000000):CY 90 #[Ptt br,.agg m.toArray,tv] w (λv w'=>v=.tuple #[]/\Wk Λ br (kg R d tl) w'/\Kz w w'):=by
 refine aj Tryz.func90 rfl rfl ?_;intro w1 b1 m1 g1 l1;have hsz:bD fG.T 83=45:=by kernel_rfl
 refine⟨_,_,m1,m,?_,?_,_,hM w1 g1.kz,?_⟩
 .show aG m 0 (bD fG.T 83)=m
  rw[hsz];unfold aG;rw[drop_zero];exact Jd2 (by omega)
 .rw[hm];exact hsz.symm
 rintro _ w2 ⟨⟨e,rfl⟩,g2⟩;have g12:=g1.trans g2;have ht2:=ht.kz g12.kz (by decide);obtain⟨ta,tc,rfl,htc,htl,htd⟩:=ht2;refine⟨λq s w3=>∃(k:Nat),q=tl.length-k/\k<=tl.length/\s=[(0,Ptt br),(6,.string d),(15,.slice ta tl.length tc),(16,.int .i64 tl.length),(17,.int .i64 k)]/\Wk Λ br (kg R d (tl.take k)) w3/\Kz w2 w3,⟨_,_,⟨0,rfl,Jcm _,rfl,by have:=h.ay g12;simpa[kg]using this,Kz.refl _⟩,sb rfl⟩,?_⟩;rintro q s w3 ⟨k,rfl,hk,rfl,⟨a,h3⟩,k3⟩;refine ah (λc=>?_) (λc=>?_)
 .have c1:k<tl.length:=by simp at c;omega
  rcases htd with⟨_,h0⟩|⟨B,off,cs,rfl,hB,hcut⟩
  .omega
  obtain⟨p,hp⟩:∃p,tl[k]?=some p:=⟨tl[k],by simp[c1]⟩;have hB3:=k3 _ (by decide) _ _ hB;refine⟨by omega,_,_,hB3,[.int .u8 p.1,.int .u8 p.2],(Fz.elem hcut c1).trans (ab2 hp),rfl,λw4 b4 m4 g4 l4=>⟨_,_,_,m4,rfl,rfl,λw5 m5 g5=>?_⟩⟩;have vF:GB none w3 w5:=⟨g5.os.trans g4.os,g5.out.trans g4.out,Jb1 g4.size g5.size,λx hx _=>(g5.block x (Jbz hx g4.size) (λe=>by cases e;omega)).trans (g4.block x hx nofun)⟩;have h5:=h3.ay vF;obtain⟨vm,wm,kn,mt,pp,ac,lg,ob,sT,sM,sD,sO,sI⟩:=a;obtain⟨oa,oc,rfl⟩:∃oa oc,ob=.slice oa (kg R d (tl.take k)).out.length oc:=af h5.ri.ob;have hl:(kg R d (tl.take k)).out.length<=R.out.length+k:=by simp only[kg,Jc6,Jf6,Jd6];omega
  refine⟨by kernel_rfl,_,_,h5.ri.mem,_,rfl,_,_,h5.ri.mem,_,rfl,rfl,_,_,m5,_,rfl,rfl,λw6 b6 m6 g6 l6=>?_⟩;have h6:=h5.ay g6;refine⟨⟨g6.get m5 nofun,h6.ri.mem,h6.ri.mem,trivial⟩,_,(toP R d p).cells,h6.ri.ob,⟨_,_,m6,rfl,rfl,rfl⟩,by omega,λob' w7 nU g7 n7=>?_⟩;have m7:Hl w7 br (p9 (kg R d (tl.take k)) _) 135:=(g7.block br (ae h6.ri.mem) λe=>h6.ri.Dv e.symm rfl).trans h6.ri.mem;obtain⟨Yh,Yi,rfl⟩:=af nU;refine⟨_,_,_,m7,rfl,rfl,λw8 m8 g8=>?_⟩;have hps:(kg R d (tl.take (k+1))).out=(kg R d (tl.take k)).out++[toP R d p]:=by
   unfold kg;rw[Jfm,hp];simp
  have agU:w7.ownsRow 0 97 5 (.slice Yh ((kg R d (tl.take k)).out.length+1) Yi) (kg R d (tl.take (k+1))).out.length (flat (kg R d (tl.take (k+1))).out):=by
   rw[hps,Jc6,show flat ((kg R d (tl.take k)).out++[toP R d p])=flat (kg R d (tl.take k)).out++(toP R d p).cells by simp[flat]];exact nU
  have fin:=h6.ob' (ps:=(kg R d (tl.take (k+1))).out) g7 agU n7 m8 g8;refine⟨by omega,_,_,⟨k+1,rfl,by omega,rfl,⟨_,fin.1⟩,k3.trans (((vF.trans g6).kz).trans fin.2)⟩,(sb rfl),by omega⟩
 .have c1:k=tl.length:=by simp at c;omega
  subst c1;rw[Jfn]at h3;exact⟨rfl,⟨a,h3⟩,g12.kz.trans k3⟩
end
