/- Lemmas. -/
import Derived.Test.YtignemioillaiaaGreatG20
namespace Go.Proofs.YtignemioillaiaaGreat
set_option maxHeartbeats 8000000
set_option maxRecDepth 100000
open List
section
open Go Go.Conc
structure GS(A:Nat->Prop)(w w':World):Prop where
 os:w'.os=w.os
 out:w'.output=w.output
 size:w.heap.size<=w'.heap.size
 block:∀x,x<w.heap.size->¬A x->w'.heap[x]? = w.heap[x]?
structure St where
 (g n:Int)
 T:List Row
 M:List Pc
 D:List aA
 O:List (Int×List Rg)
 I:List Int
def qE(w:World)(q:Value)(rs:List Rg):Prop:=∃vs:List (Value×Value),vs.length=rs.length/\Fz w 52 7 q rs.length (zipWith (λr p=>eu r p.1 p.2) rs vs).flatten/\∀(i:Nat) (r:Rg) (p:Value×Value),rs[i]? = some r->vs[i]? = some p->aM w r p.1 p.2
structure fG(w:World)(vT vM vD vO vI:Value)(s:St):Prop where
 T:Fz w 128 2 vT s.T.length (s.T.map Row.cells).flatten
 M:Fz w 107 2 vM s.M.length (s.M.map Pc.cells).flatten
 D:Fz w 57 7 vD s.D.length (s.D.map aA.cells).flatten
 O:∃qs:List Value,qs.length=s.O.length/\Fz w 103 2 vO s.O.length (zipWith (λ(o:Int×List Rg) q=>[Value.int .u32 o.1,q]) s.O qs).flatten/\∀(i:Nat) (o:Int×List Rg) (q:Value),s.O[i]? = some o->qs[i]? = some q->qE w q o.2
 I:Fz w 47 1 vI s.I.length (s.I.map λi=>Value.int .u32 i)
theorem qE.kz{w w':World}{q:Value}{rs:List Rg}(h:qE w q rs)(k:Kz w w'):qE w' q rs:=by
 obtain⟨vs,h1,h2,h3⟩:=h;exact⟨vs,h1,h2.kz k (by decide),λi r p hr hp=>(h3 i r p hr hp).kz k⟩
theorem fG.kz{w w':World}{vT vM vD vO vI:Value}{s:St}(h:fG w vT vM vD vO vI s)(k:Kz w w'):fG w' vT vM vD vO vI s:=by
 obtain⟨qs,h1,h2,h3⟩:=h.O;exact⟨h.T.kz k (by decide),h.M.kz k (by decide),h.D.kz k (by decide),⟨qs,h1,h2.kz k (by decide),λi o q ho hq=>(h3 i o q ho hq).kz k⟩,h.I.kz k (by decide)⟩
theorem fG.sl{w:World}{T M D O I:Value}{s:St}(h:fG w T M D O I s):∃a1 n1 c1 a2 n2 c2 a3 n3 c3 a4 n4 c4 a5 n5 c5,T=.slice a1 n1 c1/\M=.slice a2 n2 c2/\D=.slice a3 n3 c3/\O=.slice a4 n4 c4/\I=.slice a5 n5 c5:=by
 obtain⟨_,_,h1,_⟩:=h.T;obtain⟨_,_,h2,_⟩:=h.M;obtain⟨_,_,h3,_⟩:=h.D;obtain⟨_,_,⟨_,_,h4,_⟩,_⟩:=h.O;obtain⟨_,_,h5,_⟩:=h.I;exact⟨_,_,_,_,_,_,_,_,_,_,_,_,_,_,_,h1,h2,h3,h4,h5⟩
structure Sc where
 (g i gs sz:Nat)
 (b wb:bF)
 (seen role prom next:Nat)
structure MR where
 sc:Sc
 (cK fM:Nat->Option MV)
 known:Nat->Option MC
 log:List MC
 st:St
 out:List bJ
 met:Nat->Option MV
 props:Nat->Option MC
 acc:Nat->Option Nat
structure gp where
 (vm wm kn mt pp ac:Nat)
 (lg ob sT sM sD sO sI:Value)
def pG(R:MR)(a:gp):List Value:=.int .u8 R.sc.g::.int .u8 R.sc.i::.int .i64 R.sc.gs::.int .i64 R.sc.sz::.int .u32 R.sc.b.n::.int .u8 R.sc.b.id::.map (some a.vm)::.int .u32 R.sc.wb.n::.int .u8 R.sc.wb.id::.map (some a.wm)::.int .u32 R.sc.seen::.map (some a.kn)::a.lg::.int .u8 R.st.g::.int .u8 R.st.n::a.sT::a.sM::a.sD::a.sO::a.sI::a.ob::.int .i64 R.sc.role::.int .u8 R.sc.prom::.map (some a.mt)::.int .u32 R.sc.next::.map (some a.pp)::.map (some a.ac)::[]
def jV(w:World)(v:Value)(l:List MC):Prop:=∃vs:List (Value×Value),vs.length=l.length/\w.ownsRow 0 54 17 v l.length (zipWith (λc p=>dC c p.1 p.2) l vs).flatten/\∀(i:Nat) (c:MC) (p:Value×Value),l[i]? = some c->vs[i]? = some p->aM w c.r p.1 p.2
def Own(br:Nat)(a:gp)(x:Nat):Prop:=x=br\/x=a.vm\/x=a.wm\/x=a.kn\/x=a.mt\/x=a.pp\/x=a.ac\/a.lg.ownBlock=some x\/a.ob.ownBlock=some x
structure RI(w:World)(br:Nat)(R:MR)(a:gp):Prop where
 mem:w.heap[br]? = some (.cells (pG R a).toArray 152)
 vm:bT pF w a.vm R.cK
 wm:bT pF w a.wm R.fM
 kn:bT kr w a.kn R.known
 mt:bT pF w a.mt R.met
 pp:bT kr w a.pp R.props
 ac:bT nG w a.ac R.acc
 lg:jV w a.lg R.log
 st:fG w a.sT a.sM a.sD a.sO a.sI R.st
 ob:w.ownsRow 0 139 5 a.ob R.out.length (flat R.out)
 sep:[a.vm,a.wm,a.kn,a.mt,a.pp,a.ac].Nodup
theorem jV.kz{w w':World}{v:Value}{l:List MC}(h:jV w v l)(k:Kz w w')(hb:∀g,v.ownBlock=some g->w'.heap[g]? = w.heap[g]?):jV w' v l:=by
 obtain⟨vs,h1,h2,h3⟩:=h;exact⟨vs,h1,ay h2 hb,λi c p hc hp=>(h3 i c p hc hp).kz k⟩
theorem ax{w:World}{e:TypeId}{size n:Nat}{v:Value}{xs:List Value}(h:w.ownsRow 0 e size v n xs){g:Nat}(hg:v.ownBlock=some g):∃cur,w.heap[g]? = some (.cells cur e):=by
 rcases h.2 with⟨rfl,_⟩|⟨g',cap,cur,rfl,_,hb,_⟩
 ·cases hg
 ·obtain rfl:g'=g:=by simpa[Value.ownBlock]using hg
  exact⟨cur,hb⟩
theorem jV.obj{w:World}{v:Value}{l:List MC}(h:jV w v l){g:Nat}(hg:v.ownBlock=some g):∃cur,w.heap[g]? = some (.cells cur 54):=by
 obtain⟨vs,_,h2,_⟩:=h;exact ax h2 hg
section
variable{w w':World}{br:Nat}{R:MR}{a:gp}
theorem RI.mut(h:RI w br R a){x:Nat}(hx:Own br a x):∀t∈Ni,∀c,w.heap[x]?≠some (.cells c t):=by
 intro t ht c he;have mp:∀{m:Nat},(∃es k,w.heap[m]? = some (.map es k))->x=m->False:=by
  rintro m ⟨es,k,h1⟩ rfl;rw[h1]at he;cases he
 rcases hx with hx|hx|hx|hx|hx|hx|hx|hx|hx
 ·subst hx;rw[h.mem]at he;injection he with he;injection he with _ he;subst he;revert ht;decide
 ·exact mp h.vm.obj hx
 ·exact mp h.wm.obj hx
 ·exact mp h.kn.obj hx
 ·exact mp h.mt.obj hx
 ·exact mp h.pp.obj hx
 ·exact mp h.ac.obj hx
 ·obtain⟨cur,h1⟩:=h.lg.obj hx;rw[h1]at he;injection he with he;injection he with _ he;subst he;revert ht;decide
 ·obtain⟨cur,h1⟩:=ax h.ob hx;rw[h1]at he;injection he with he;injection he with _ he;subst he;revert ht;decide
theorem RI.lt(h:RI w br R a){x:Nat}(hx:Own br a x):x<w.heap.size:=by
 rcases hx with rfl|rfl|rfl|rfl|rfl|rfl|rfl|hx|hx
 ·exact ae h.mem
 ·exact h.vm.lt
 ·exact h.wm.lt
 ·exact h.kn.lt
 ·exact h.mt.lt
 ·exact h.pp.lt
 ·exact h.ac.lt
 ·obtain⟨cur,h1⟩:=h.lg.obj hx;exact ae h1
 ·obtain⟨cur,h1⟩:=ax h.ob hx;exact ae h1
theorem RI.kz(h:RI w br R a){x:Nat}(hx:Own br a x)(hg:GB (some x) w w'):Kz w w':=hg.De λc t ht=>h.mut hx t ht c
theorem RI.keep(h:RI w br R a)(k:Kz w w')(hb:∀x,Own br a x->w'.heap[x]? = w.heap[x]?):RI w' br R a :=
 ⟨(hb br (.inl rfl)).trans h.mem,h.vm.keep (λ_ _ h=>h.kz k) (hb _ (.inr (.inl rfl))),h.wm.keep (λ_ _ h=>h.kz k) (hb _ (.inr (.inr (.inl rfl)))),h.kn.keep (λ_ _ h=>h.kz k) (hb _ (.inr (.inr (.inr (.inl rfl))))),h.mt.keep (λ_ _ h=>h.kz k) (hb _ (.inr (.inr (.inr (.inr (.inl rfl)))))),h.pp.keep (λ_ _ h=>h.kz k) (hb _ (.inr (.inr (.inr (.inr (.inr (.inl rfl))))))),h.ac.keep (w':=w') (λv x (h:nG w v x)=>(show nG w' v x from h)) (hb _ (.inr (.inr (.inr (.inr (.inr (.inr (.inl rfl)))))))),h.lg.kz k (λg hg=>hb g (.inr (.inr (.inr (.inr (.inr (.inr (.inr (.inl hg))))))))),h.st.kz k,ay h.ob (λg hg=>hb g (.inr (.inr (.inr (.inr (.inr (.inr (.inr (.inr hg))))))))),h.sep⟩
theorem RI.au(h:RI w br R a)(hg:GB none w w'):RI w' br R a:=h.keep hg.kz λx hx=>hg.block x (h.lt hx) nofun
end
theorem iE{w:World}{m x:Nat}(h1:∃es c,w.heap[m]? = some (.map es c))(h2:∃cs t,w.heap[x]? = some (.cells cs t)):m≠x:=by
 rintro rfl;obtain⟨es,c,h1⟩:=h1;obtain⟨cs,t,h2⟩:=h2;rw[h1]at h2;cases h2
section
variable{w w':World}{br:Nat}{R:MR}{a:gp}
theorem RI.uj(h:RI w br R a):∃cs t,w.heap[br]? = some (.cells cs t):=⟨_,_,h.mem⟩
theorem RI.clg(h:RI w br R a){g:Nat}(hg:a.lg.ownBlock=some g):∃cs t,w.heap[g]? = some (.cells cs t):=by obtain⟨c,h⟩:=h.lg.obj hg;exact⟨_,_,h⟩
theorem RI.cob(h:RI w br R a){g:Nat}(hg:a.ob.ownBlock=some g):∃cs t,w.heap[g]? = some (.cells cs t):=by obtain⟨c,h⟩:=ax h.ob hg;exact⟨_,_,h⟩
theorem RI.zm(h:RI w br R a){g:Nat}(hg:a.lg.ownBlock=some g):g≠br:=by
 rintro rfl;obtain⟨c,h1⟩:=h.lg.obj hg;rw[h.mem]at h1;injection h1 with h1;injection h1 with _ h1;revert h1;decide
theorem RI.Cm(h:RI w br R a){g:Nat}(hg:a.ob.ownBlock=some g):g≠br:=by
 rintro rfl;obtain⟨c,h1⟩:=ax h.ob hg;rw[h.mem]at h1;injection h1 with h1;injection h1 with _ h1;revert h1;decide
theorem RI.Pn(h:RI w br R a){g g':Nat}(hg:a.lg.ownBlock=some g)(hg':a.ob.ownBlock=some g'):g≠g':=by
 rintro rfl;obtain⟨c,h1⟩:=h.lg.obj hg;obtain⟨c',h2⟩:=ax h.ob hg';rw[h1]at h2;injection h2 with h2;injection h2 with _ h2;revert h2;decide
theorem RI.jo(_:RI w br R a):Own br a br:=.inl rfl
theorem RI.vU(_:RI w br R a):Own br a a.vm:=.inr (.inl rfl)
theorem RI.DZ(_:RI w br R a):Own br a a.wm:=.inr (.inr (.inl rfl))
theorem RI.vV(_:RI w br R a):Own br a a.kn:=.inr (.inr (.inr (.inl rfl)))
theorem RI.nu(_:RI w br R a):Own br a a.mt:=.inr (.inr (.inr (.inr (.inl rfl))))
theorem RI.vW(_:RI w br R a):Own br a a.pp:=.inr (.inr (.inr (.inr (.inr (.inl rfl)))))
theorem RI.vX(_:RI w br R a):Own br a a.ac:=.inr (.inr (.inr (.inr (.inr (.inr (.inl rfl))))))
theorem RI.vY(_:RI w br R a){g:Nat}(hg:a.lg.ownBlock=some g):Own br a g:=.inr (.inr (.inr (.inr (.inr (.inr (.inr (.inl hg)))))))
theorem RI.uD(_:RI w br R a){g:Nat}(hg:a.ob.ownBlock=some g):Own br a g:=.inr (.inr (.inr (.inr (.inr (.inr (.inr (.inr hg)))))))
theorem RI.far(h:RI w br R a){x y:Nat}(hy:Own br a y)(g:GB (some x) w w')(hne:y≠x):w'.heap[y]? = w.heap[y]?:=g.block y (h.lt hy) λe=>hne (Option.some.inj e)
theorem RI.cell(h:RI w br R a){s':Sc}(hm:w'.heap[br]? = some (.cells (pG { R with sc:=s' } a).toArray 152))(g:GB (some br) w w'):RI w' br { R with sc:=s' } a:=by
 have k:=h.kz h.jo g;exact⟨hm,h.vm.keep (λ_ _ h=>h.kz k) (h.far h.vU g (iE h.vm.obj h.uj)),h.wm.keep (λ_ _ h=>h.kz k) (h.far h.DZ g (iE h.wm.obj h.uj)),h.kn.keep (λ_ _ h=>h.kz k) (h.far h.vV g (iE h.kn.obj h.uj)),h.mt.keep (λ_ _ h=>h.kz k) (h.far h.nu g (iE h.mt.obj h.uj)),h.pp.keep (λ_ _ h=>h.kz k) (h.far h.vW g (iE h.pp.obj h.uj)),h.ac.keep (w':=w') (λv x (h:nG w v x)=>(show nG w' v x from h)) (h.far h.vX g (iE h.ac.obj h.uj)),h.lg.kz k (λx hx=>h.far (h.vY hx) g (h.zm hx)),h.st.kz k,ay h.ob (λx hx=>h.far (h.uD hx) g (h.Cm hx)),h.sep⟩
theorem RI.map(h:RI w br R a){m:Nat}(hm:∃es c,w.heap[m]? = some (.map es c))(ho:Own br a m)(g:GB (some m) w w')(R':MR)(e1:pG R' a=pG R a)(e2:R'.log=R.log/\R'.st=R.st/\R'.out=R.out)
 (vm:(a.vm≠m/\R'.cK=R.cK)\/bT pF w' a.vm R'.cK) (wm:(a.wm≠m/\R'.fM=R.fM)\/bT pF w' a.wm R'.fM) (kn:(a.kn≠m/\R'.known=R.known)\/bT kr w' a.kn R'.known) (mt:(a.mt≠m/\R'.met=R.met)\/bT pF w' a.mt R'.met) (pp:(a.pp≠m/\R'.props=R.props)\/bT kr w' a.pp R'.props) (ac:(a.ac≠m/\R'.acc=R.acc)\/bT nG w' a.ac R'.acc):RI w' br R' a:=by
 have k:=h.kz ho g;refine⟨?_,?_,?_,?_,?_,?_,?_,?_,?_,?_,h.sep⟩
 ·rw[e1];exact(h.far h.jo g (λe=>iE hm h.uj e.symm)).trans h.mem
 ·exact vm.elim (λe=>by rw[e.2];exact h.vm.keep (λ_ _ h=>h.kz k) (h.far h.vU g e.1)) id
 ·exact wm.elim (λe=>by rw[e.2];exact h.wm.keep (λ_ _ h=>h.kz k) (h.far h.DZ g e.1)) id
 ·exact kn.elim (λe=>by rw[e.2];exact h.kn.keep (λ_ _ h=>h.kz k) (h.far h.vV g e.1)) id
 ·exact mt.elim (λe=>by rw[e.2];exact h.mt.keep (λ_ _ h=>h.kz k) (h.far h.nu g e.1)) id
 ·exact pp.elim (λe=>by rw[e.2];exact h.pp.keep (λ_ _ h=>h.kz k) (h.far h.vW g e.1)) id
 ·exact ac.elim (λe=>by rw[e.2];exact h.ac.keep (w':=w') (λv x (h:nG w v x)=>(show nG w' v x from h)) (h.far h.vX g e.1)) id
 ·rw[e2.1];exact h.lg.kz k (λx hx=>h.far (h.vY hx) g (λe=>iE hm (h.clg hx) e.symm))
 ·rw[e2.2.1];exact h.st.kz k
 ·rw[e2.2.2];exact ay h.ob (λx hx=>h.far (h.uD hx) g (λe=>iE hm (h.cob hx) e.symm))
theorem RI.vm'(h:RI w br R a){f:Nat->Option MV}(g:GB (some a.vm) w w')(hm:bT pF w' a.vm f):RI w' br { R with cK:=f } a:=by
 have:=h.sep;simp at this;exact h.map h.vm.obj h.vU g _ rfl ⟨rfl,rfl,rfl⟩ (.inr hm) (.inl ⟨by omega,rfl⟩) (.inl ⟨by omega,rfl⟩) (.inl ⟨by omega,rfl⟩) (.inl ⟨by omega,rfl⟩) (.inl ⟨by omega,rfl⟩)
theorem RI.wm'(h:RI w br R a){f:Nat->Option MV}(g:GB (some a.wm) w w')(hm:bT pF w' a.wm f):RI w' br { R with fM:=f } a:=by
 have:=h.sep;simp at this;exact h.map h.wm.obj h.DZ g _ rfl ⟨rfl,rfl,rfl⟩ (.inl ⟨by omega,rfl⟩) (.inr hm) (.inl ⟨by omega,rfl⟩) (.inl ⟨by omega,rfl⟩) (.inl ⟨by omega,rfl⟩) (.inl ⟨by omega,rfl⟩)
theorem RI.Es(h:RI w br R a){f:Nat->Option MC}(g:GB (some a.kn) w w')(hm:bT kr w' a.kn f):RI w' br { R with known:=f } a:=by
 have:=h.sep;simp at this;exact h.map h.kn.obj h.vV g _ rfl ⟨rfl,rfl,rfl⟩ (.inl ⟨by omega,rfl⟩) (.inl ⟨by omega,rfl⟩) (.inr hm) (.inl ⟨by omega,rfl⟩) (.inl ⟨by omega,rfl⟩) (.inl ⟨by omega,rfl⟩)
theorem RI.Ri(h:RI w br R a){f:Nat->Option MV}(g:GB (some a.mt) w w')(hm:bT pF w' a.mt f):RI w' br { R with met:=f } a:=by
 have:=h.sep;simp at this;exact h.map h.mt.obj h.nu g _ rfl ⟨rfl,rfl,rfl⟩ (.inl ⟨by omega,rfl⟩) (.inl ⟨by omega,rfl⟩) (.inl ⟨by omega,rfl⟩) (.inr hm) (.inl ⟨by omega,rfl⟩) (.inl ⟨by omega,rfl⟩)
theorem RI.Kh(h:RI w br R a){f:Nat->Option MC}(g:GB (some a.pp) w w')(hm:bT kr w' a.pp f):RI w' br { R with props:=f } a:=by
 have:=h.sep;simp at this;exact h.map h.pp.obj h.vW g _ rfl ⟨rfl,rfl,rfl⟩ (.inl ⟨by omega,rfl⟩) (.inl ⟨by omega,rfl⟩) (.inl ⟨by omega,rfl⟩) (.inl ⟨by omega,rfl⟩) (.inr hm) (.inl ⟨by omega,rfl⟩)
theorem RI.ac'(h:RI w br R a){f:Nat->Option Nat}(g:GB (some a.ac) w w')(hm:bT nG w' a.ac f):RI w' br { R with acc:=f } a:=by
 have:=h.sep;simp at this;exact h.map h.ac.obj h.vX g _ rfl ⟨rfl,rfl,rfl⟩ (.inl ⟨by omega,rfl⟩) (.inl ⟨by omega,rfl⟩) (.inl ⟨by omega,rfl⟩) (.inl ⟨by omega,rfl⟩) (.inl ⟨by omega,rfl⟩) (.inr hm)
end
structure bU where
 pr:Nat->Option Obj
 os:Os
 out:Array (Nat×ByteArray)
def bU.add(Λ:bU)(b:Nat)(o:Obj):bU:={ Λ with pr:=λx=>if x=b then some o else Λ.pr x }
structure Wa(Λ:bU)(br:Nat)(R:MR)(a:gp)(w:World):Prop where
 ri:RI w br R a
 pr:∀b o,Λ.pr b=some o->w.heap[b]? = some o/\¬Own br a b
 os:w.os=Λ.os
 out:w.output=Λ.out
def Wk(Λ:bU)(br:Nat)(R:MR)(w:World):Prop:=∃a,Wa Λ br R a w
section
variable{Λ:bU}{w w':World}{br:Nat}{R R':MR}{a:gp}
theorem Wa.au(h:Wa Λ br R a w)(g:GB none w w'):Wa Λ br R a w':=⟨h.ri.au g,λb o hb=>⟨g.get (h.pr b o hb).1 nofun,(h.pr b o hb).2⟩,g.os.trans h.os,g.out.trans h.out⟩
theorem Wk.au(h:Wk Λ br R w)(g:GB none w w'):Wk Λ br R w':=by obtain⟨a,h⟩:=h;exact⟨a,h.au g⟩
theorem Wa.step(h:Wa Λ br R a w){x:Nat}(ho:Own br a x)(g:GB (some x) w w')(Bf:RI w' br R' a):Wa Λ br R' a w' :=
 ⟨Bf,λb o hb=>⟨g.get (h.pr b o hb).1 λe=>(h.pr b o hb).2 (by cases e;exact ho),(h.pr b o hb).2⟩,g.os.trans h.os,g.out.trans h.out⟩
theorem Wa.cell(h:Wa Λ br R a w){s':Sc}(hm:w'.heap[br]? = some (.cells (pG { R with sc:=s' } a).toArray 152))(g:GB (some br) w w'):Wa Λ br { R with sc:=s' } a w':=h.step h.ri.jo g (h.ri.cell hm g)
theorem Wa.q9(h:Wa Λ br R a w){b:Nat}(hb:w.heap.size<=b):Λ.pr b=none:=by
 cases hp:Λ.pr b with
 |none=>rfl
 |some o=>have:=ae (h.pr b o hp).1;omega
theorem Wa.add(h:Wa Λ br R a w){b:Nat}{o:Obj}(hb:w.heap[b]? = some o)(hn:¬Own br a b):Wa (Λ.add b o) br R a w:=by
 refine⟨h.ri,λx q hx=>?_,h.os,h.out⟩;unfold bU.add at hx;dsimp only at hx;split at hx
 ·rename_i e;subst e;cases hx;exact⟨hb,hn⟩
 ·exact h.pr x q hx
theorem Wa.box(h:Wa Λ br R a w){b:Nat}{o:Obj}(g:GB none w w')(hb:w'.heap[b]? = some o)(hl:w.heap.size<=b):Wa (Λ.add b o) br R a w':=(h.au g).add hb λho=>by have:=h.ri.lt ho;omega
theorem Wk.box(h:Wk Λ br R w){b:Nat}{o:Obj}(g:GB none w w')(hb:w'.heap[b]? = some o)(hl:w.heap.size<=b):Wk (Λ.add b o) br R w'/\Λ.pr b=none:=by
 obtain⟨a,h⟩:=h;exact⟨⟨a,h.box g hb hl⟩,h.q9 hl⟩
theorem Wk.drop{b:Nat}{o:Obj}(h:Wk (Λ.add b o) br R w)(hb:Λ.pr b=none):Wk Λ br R w:=by
 obtain⟨a,h⟩:=h;refine⟨a,h.ri,λx q hx=>h.pr x q ?_,h.os,h.out⟩;unfold bU.add;dsimp only;rw[if_neg (λe=>by subst e;rw[hb]at hx;cases hx)];exact hx
theorem Wk.at{b:Nat}{o:Obj}(h:Wk (Λ.add b o) br R w):w.heap[b]? = some o:=by
 obtain⟨a,h⟩:=h;exact(h.pr b o (by unfold bU.add;simp)).1
end
def acm(f:Nat)(args:List Value)(br:Nat)(R R':MR):Prop:=∀Λ w,Wk Λ br R w->ag Tryz.prog f ((Ptt br)::args).toArray w (λv w'=>v=.tuple #[]/\Wk Λ br R' w'/\Kz w w')
def gq(R:MR):MR:={ R with sc:={ R.sc with role:=0,prom:=0 },met:=λ_=>none,props:=λ_=>none,acc:=λ_=>none }
theorem D6(br:Nat)(R:MR):acm 111 [] br R (gq R):=by
 rintro Λ w ⟨a,h⟩;refine ah Tryz.func111 rfl rfl ?_;refine⟨_,_,_,h.ri.mem,rfl,rfl,λw1 m1 g1=>?_⟩;have h1:=h.cell (s':={ R.sc with role:=0 }) m1 g1;refine⟨_,_,_,h1.ri.mem,rfl,rfl,λw2 m2 g2=>?_⟩;have h2:=h1.cell (s':={ R.sc with role:=0,prom:=0 }) m2 g2;have k2:=(h.ri.kz h.ri.jo g1).trans (h1.ri.kz h1.ri.jo g2);obtain⟨f,e1,_⟩:=h2.ri.mt;refine⟨_,_,h2.ri.mem,_,rfl,f,e1,λw3 m3 g3=>?_⟩;have h3:=h2.step h2.ri.nu g3 (h2.ri.Ri g3 (bT.none m3));obtain⟨f,e1,_⟩:=h3.ri.pp;refine⟨_,_,h3.ri.mem,_,rfl,f,e1,λw4 m4 g4=>?_⟩;have h4:=h3.step h3.ri.vW g4 (h3.ri.Kh g4 (bT.none m4));obtain⟨f,e1,_⟩:=h4.ri.ac;refine⟨_,_,h4.ri.mem,_,rfl,f,e1,λw5 m5 g5=>?_⟩;have h5:=h4.step h4.ri.vX g5 (h4.ri.ac' g5 (bT.none m5));exact⟨rfl,⟨a,h5⟩,((k2.trans (h2.ri.kz h2.ri.nu g3)).trans (h3.ri.kz h3.ri.vW g4)).trans (h4.ri.kz h4.ri.vX g5)⟩
def pc(c:Nat):Nat:=(List.range 5).countP λi=>c.testBit i
def je(c r:Nat):Nat:=c ||| (1 <<< r)
theorem X0(w:World)(c:Nat)(hc:c<32):ag Tryz.prog 210 #[.int .u8 c] w (λv w'=>v=.int .i64 (pc c)/\w'=w):=by
 refine ah Tryz.func210 rfl rfl ?_;refine⟨⟨by omega,Int.lt_of_lt_of_le (b:=256) (by omega) (by decide)⟩,?_⟩;obtain rfl|rfl|rfl|rfl|rfl|rfl|rfl|rfl|rfl|rfl|rfl|rfl|rfl|rfl|rfl|rfl|rfl|rfl|rfl|rfl|rfl|rfl|rfl|rfl|rfl|rfl|rfl|rfl|rfl|rfl|rfl|rfl:c=0\/c=1\/c=2\/c=3\/c=4\/c=5\/c=6\/c=7\/c=8\/c=9\/c=10\/c=11\/c=12\/c=13\/c=14\/c=15\/c=16\/c=17\/c=18\/c=19\/c=20\/c=21\/c=22\/c=23\/c=24\/c=25\/c=26\/c=27\/c=28\/c=29\/c=30\/c=31:=by omega
 all_goals exact .inr ⟨rfl,rfl⟩
theorem Nn(w:World)(c n:Nat)(hc:c<32):ag Tryz.prog 187 #[.int .u8 c,.int .i64 n] w (λv w'=>v=.bool (decide (2*pc c > n))/\w'=w):=by
 refine ah Tryz.func187 rfl rfl ?_;refine⟨_,X0 w c hc,?_⟩;rintro _ _ ⟨rfl,rfl⟩;have:pc c<=5:=by unfold pc;exact Nat.le_trans (countP_le_length ..) (by decide)
 exact⟨by omega,congrArg Value.bool (decide_eq_decide.2 ⟨λh=>by omega,λh=>by omega⟩),rfl⟩
theorem Np(w:World)(c r:Nat)(hc:c<32)(hr:r<5):ag Tryz.prog 186 #[.int .u8 c,.int .u8 r] w (λv w'=>v=.int .u8 (je c r)/\w'=w):=by
 refine ah Tryz.func186 rfl rfl ?_;refine⟨by omega,?_,rfl⟩;have key:((List.range 32).all λc=>(List.range 5).all λr=>decide (IntKind.u8.wrap (BitVec.ofInt IntKind.u8.bits (c:Nat) ||| BitVec.ofInt IntKind.u8.bits (IntKind.u8.wrap (1*2 ^ min (r:Int).toNat IntKind.u8.bits))).toNat=(je c r:Nat)))=true:=by kernel_rfl
 have h1:=all_eq_true.1 (all_eq_true.1 key c (mem_range.2 hc)) r (mem_range.2 hr);rw[Ptq h1]
theorem vZ{c r:Nat}(hc:c<32)(hr:r<5):je c r<32:=by
 have key:((List.range 32).all λc=>(List.range 5).all λr=>decide (je c r<32))=true:=by decide
 exact Ptq (all_eq_true.1 (all_eq_true.1 key c (mem_range.2 hc)) r (mem_range.2 hr))
def tL(R:MR)(s:Nat)(c:MC):MR:={ R with cK:=upd R.cK s (some ⟨s,R.sc.b,c⟩) }
theorem Nq{Λ:bU}{w:World}{br:Nat}{R:MR}(h:Wk Λ br R w){s:Nat}{c:MC}{cv:Value}(hc:kr w cv c):ag Tryz.prog 168 #[Ptt br,.int .u32 s,cv] w (λv w'=>v=.tuple #[]/\Wk Λ br (tL R s c) w'/\Kz w w'):=by
 obtain⟨a,h⟩:=h;obtain⟨rv,dv,rfl,hr⟩:=hc;refine ah Tryz.func168 rfl rfl ?_;intro w1 b1 m1 g1 l1;have h1:=h.au g1;refine⟨by kernel_rfl,_,_,h1.ri.mem,_,rfl,_,_,h1.ri.mem,_,rfl,rfl,_,_,m1,_,rfl,rfl,?_⟩;obtain⟨f,e1,e2,e3⟩:=h1.ri.vm;refine⟨f,e1,λw2 m2 g2=>?_⟩;have k:=h1.ri.kz h1.ri.vU g2;exact⟨rfl,⟨a,h1.step h1.ri.vU g2 (h1.ri.vm' g2 (bT.put (λ_ _ h=>h.kz k) e2 e3 ⟨rv,dv,rfl,(hr.kz g1.kz).kz k⟩ m2))⟩,g1.kz.trans k⟩
def cz(R:MR):MR:=if R.sc.sz=1\/R.sc.seen=4294967295 then R else{ R with sc:={ R.sc with seen:=R.sc.seen+1,b:=⟨R.sc.seen+1,R.sc.i⟩ } }
theorem UH{Λ:bU}{w:World}{br:Nat}{R:MR}(h:Wk Λ br R w)(hs:R.sc.seen<=4294967295):ag Tryz.prog 156 #[Ptt br] w (λv w'=>v=.bool (decide (R.sc.sz=1\/R.sc.seen≠4294967295))/\Wk Λ br (cz R) w'/\Kz w w'):=by
 obtain⟨a,h⟩:=h;refine ah Tryz.func156 rfl rfl ?_;refine⟨_,_,h.ri.mem,_,rfl,aj (λc=>?_) (λc=>?_)⟩
 ·have c1:R.sc.sz=1:=by simp at c;omega
  exact⟨by simp[c1],⟨a,by unfold cz;rw[if_pos (.inl c1)];exact h⟩,Kz.refl _⟩
 have c1:¬R.sc.sz=1:=by simp at c;omega
 refine⟨_,_,h.ri.mem,_,rfl,aj (λd=>?_) (λd=>?_)⟩
 ·have d1:R.sc.seen=4294967295:=by simp at d;omega
  exact⟨by simp[c1,d1],⟨a,by unfold cz;rw[if_pos (.inr d1)];exact h⟩,Kz.refl _⟩
 have d1:¬R.sc.seen=4294967295:=by simp at d;omega
 refine⟨_,_,h.ri.mem,_,rfl,by omega,_,_,_,h.ri.mem,rfl,rfl,λw1 m1 g1=>?_⟩;have h1:=h.cell (s':={ R.sc with seen:=R.sc.seen+1 }) m1 g1;refine⟨by kernel_rfl,_,_,h1.ri.mem,_,rfl,_,_,h1.ri.mem,_,rfl,_,_,_,h1.ri.mem,rfl,rfl,λw2 m2 g2=>?_⟩;have h2:=h1.cell (s':={ R.sc with seen:=R.sc.seen+1,b:=⟨R.sc.seen+1,R.sc.i⟩ }) m2 g2;exact⟨by simp[d1],⟨a,by unfold cz;rw[if_neg (by simp[c1,d1])];exact h2⟩,(h.ri.kz h.ri.jo g1).trans (h1.ri.kz h1.ri.jo g2)⟩
theorem GB.ownB{v:Value}{w0 w w':World}(h:GB none w0 w)(k:GB v.ownBlock w w')(hv:∀g,v.ownBlock=some g->w0.heap.size<=g):GB none w0 w' :=
 ⟨k.os.trans h.os,k.out.trans h.out,Nat.le_trans h.size k.size,λx hx _=>(k.block x (Nat.lt_of_lt_of_le hx h.size) (λe=>by have:=hv x e.symm;omega)).trans (h.block x hx nofun)⟩
theorem mK{w:World}{e size n:Nat}{v:Value}{xs:List Value}(h:w.ownsRow 0 e size v n xs):Fz w e size v n xs:=by
 rcases h.2 with⟨rfl,h1⟩|⟨g,cap,cur,rfl,_,hb,h3,h4,h5,h6⟩
 ·subst h1
  have:=h.1;exact⟨none,0,rfl,Nat.le_refl _,this,.inl ⟨rfl,rfl⟩⟩
 ·exact⟨_,cap,rfl,h3,h.1,.inr ⟨g,0,cur,rfl,hb,by unfold aK;rw[drop_zero];exact h6⟩⟩
theorem af{w:World}{e:TypeId}{size n:Nat}{v:Value}{xs:List Value}(h:w.ownsRow 0 e size v n xs):∃a c,v=.slice a n c:=by
 rcases h.2 with⟨rfl,rfl⟩|⟨g,cap,cur,rfl,_⟩
 ·exact⟨_,_,rfl⟩
 ·exact⟨_,_,rfl⟩
theorem dZ(w:World)(e:TypeId)(size:Nat):w.ownsRow 0 e size Ptz 0 []:=⟨by simp,.inl ⟨rfl,rfl⟩⟩
def Df(l:List (Nat×Nat)):List Value:=l.flatMap λp=>[.int .u8 p.1,.int .u8 p.2]
def fU(g i jL k:Nat):List (Nat×Nat):=((List.range k).filter λj=>!(jL == g && j == i)).map λj=>(jL,j)
theorem Ki(g i jL k:Nat):fU g i jL (k+1)=fU g i jL k++if jL=g/\k=i then[]else[(jL,k)]:=by
 unfold fU;rw[range_succ,filter_append,map_append];congr 1
 by_cases h:jL=g/\k=i
 ·simp[h]
 ·rw[if_neg h,filter_cons_of_pos (by by_cases h1:jL=g<;>by_cases h2:k=i<;>simp_all)];rfl
theorem jf(g i jL k:Nat):(fU g i jL k).length<=k:=by
 unfold fU;rw[length_map];exact Nat.le_trans (length_filter_le _ _) (by simp)
theorem Bg{Λ:bU}{w:World}{br:Nat}{R:MR}(h:Wk Λ br R w)(jL:Nat)(hz:R.sc.sz<=5):ag Tryz.prog 159 #[Ptt br,.int .u8 jL] w (λv w'=>Fz w' 66 2 v (fU R.sc.g R.sc.i jL R.sc.sz).length (Df (fU R.sc.g R.sc.i jL R.sc.sz))/\GB none w w'):=by
 obtain⟨a,h⟩:=h;refine ah Tryz.func159 rfl rfl ?_;refine⟨_,_,h.ri.mem,_,rfl,λm s w1=>∃(k:Nat) (lv:Value),m=R.sc.sz - k/\k<=R.sc.sz/\s=[(0,Ptt br),(1,.int .u8 jL),(5,lv),(11,.int .i64 R.sc.sz),(12,.int .i64 k)]/\w1.ownsRow 0 66 2 lv (fU R.sc.g R.sc.i jL k).length (Df (fU R.sc.g R.sc.i jL k))/\GB none w w1/\∀g,lv.ownBlock=some g->w.heap.size<=g,⟨_,_,⟨0,Ptz,rfl,Nat.zero_le _,rfl,dZ _ _ _,GB.refl _ _,nofun⟩,rfl,rfl,rfl,rfl,rfl,trivial⟩,?_⟩;rintro m s w1 ⟨k,lv,rfl,hk,rfl,ho,g1,hn⟩;refine aj (λc=>?_) (λc=>?_)
 ·have c1:k<R.sc.sz:=by simp at c;omega
  refine .inl ⟨by omega,λw2 b2 m2 g2 l2=>⟨_,_,_,m2,rfl,rfl,λw3 m3 g3=>?_⟩⟩;have g13:GB none w1 w3:=⟨g3.os.trans g2.os,g3.out.trans g2.out,Nat.le_trans g2.size g3.size,λx hx _=>(g3.block x (Nat.lt_of_lt_of_le hx g2.size) (λe=>by cases e;omega)).trans (g2.block x hx nofun)⟩;have h3:=h.au (g1.trans g13);refine⟨by kernel_rfl,_,_,m3,_,rfl,rfl,_,_,h3.ri.mem,_,rfl,rfl,aj (λd=>?_) (λd=>?_)⟩
  ·have d1:¬(jL=R.sc.g/\k=R.sc.i):=by rintro⟨e1,e2⟩;simp[e1,e2]at d
   obtain⟨oa,oc,rfl⟩:=af ho;refine⟨_,_,m3,_,rfl,rfl,λw4 b4 m4 g4 l4=>?_⟩;have Ae:=ay ho (w1:=w4) λg hg=>by obtain⟨cur,hc⟩:=ax ho hg;exact(g13.trans g4).block g (ae hc) nofun
   have hol:=jf R.sc.g R.sc.i jL k;refine⟨_,[.int .u8 jL,.int .u8 k],Ae,⟨_,_,m4,rfl,rfl,rfl⟩,by omega,λv' w5 Fq g5 n5=>?_⟩;refine⟨by omega,_,_,⟨k+1,v',rfl,by omega,rfl,?_,GB.ownB ((g1.trans g13).trans g4) g5 hn,λg hg=>(n5 g hg).elim (hn g) (λhl=>?_)⟩,⟨rfl,rfl,rfl,rfl,rfl,trivial⟩,by omega⟩
   ·rw[Ki,if_neg d1,length_append]
    have e:Df (fU R.sc.g R.sc.i jL k++[(jL,k)])=Df (fU R.sc.g R.sc.i jL k)++[.int .u8 jL,.int .u8 k]:=by unfold Df;rw[flatMap_append];rfl
    rw[e];exact Fq
   ·have:=((g1.trans g13).trans g4).size;omega
  ·have d1:jL=R.sc.g/\k=R.sc.i:=by simp at d;omega
   refine⟨by omega,_,_,⟨k+1,lv,rfl,by omega,rfl,?_,g1.trans g13,hn⟩,⟨rfl,rfl,rfl,rfl,rfl,trivial⟩,by omega⟩;rw[Ki,if_pos d1,append_nil];exact ay ho λg hg=>by obtain⟨cur,hc⟩:=ax ho hg;exact g13.block g (ae hc) nofun
 ·have c1:k=R.sc.sz:=by simp at c;omega
  subst c1;exact⟨mK ho,g1⟩
theorem zn{Λ:bU}{w:World}{br:Nat}{R:MR}(h:Wk Λ br R w)(hz:R.sc.sz<=5):ag Tryz.prog 109 #[Ptt br] w (λv w'=>Fz w' 66 2 v (fU R.sc.g R.sc.i R.sc.g R.sc.sz).length (Df (fU R.sc.g R.sc.i R.sc.g R.sc.sz))/\GB none w w'):=by
 have h0:=h;obtain⟨a,h⟩:=h;refine ah Tryz.func109 rfl rfl ?_;exact⟨_,_,h.ri.mem,_,rfl,_,Bg h0 R.sc.g hz,λv w' hv=>hv⟩
theorem vg(cs:List Value)(off n k size:Nat)(h:k+size<=n):aK (aK cs off n) k size=aK cs (off+k) size:=by
 unfold aK;rw[drop_take,drop_drop,take_take,Nat.min_eq_left (by omega)]
theorem jZ{α:Type}{f:α->List Value}{size:Nat}(hf:∀x,(f x).length=size):∀(l:List α) (k:Nat) (x:α),l[k]? = some x->aK (l.flatMap f) (k*size) size=f x
 | [],_,_,h=>by simp at h
 |y::l,0,x,h=>by
  simp only[getElem?_cons_zero,Option.some.injEq]at h;subst h;unfold aK;rw[Nat.zero_mul,drop_zero,flatMap_cons,take_append_of_le_length (by rw[hf];omega),take_of_length_le (by rw[hf];omega)]
 |y::l,k+1,x,h=>by
  have ih:=jZ hf l k x (by simpa using h);unfold aK at ih |-;rw[flatMap_cons,drop_append,drop_of_length_le (by rw[hf,Nat.succ_mul];omega),nil_append,hf,Nat.succ_mul,Nat.add_sub_cancel];exact ih
theorem Fz.elem{size n:Nat}{xs:List Value}{off:Nat}{cs:Array Value}(hc:aK cs.toList off (n*size)=xs){k:Nat}(hk:k<n):aK cs.toList (off+k*size) size=aK xs (k*size) size:=by
 rw[<-hc,vg _ _ _ _ _ (by have:=Nat.mul_le_mul_right size hk;rw[Nat.succ_mul]at this;omega)]
theorem aak{tl:List (Nat×Nat)}{k:Nat}{p:Nat×Nat}(h:tl[k]? = some p):aK (Df tl) (k*2) 2=[.int .u8 p.1,.int .u8 p.2]:=jZ (f:=λp:Nat×Nat=>[Value.int .u8 p.1,Value.int .u8 p.2]) (λ_=>rfl) tl k p h
section
variable{Λ:bU}{w w1 w2:World}{br:Nat}{R:MR}{a:gp}
theorem Wa.ob'(h:Wa Λ br R a w){ob:Value}{ps:List bJ}(g1:GB a.ob.ownBlock w w1)(ho:w1.ownsRow 0 139 5 ob ps.length (flat ps))(hn:∀g,ob.ownBlock=some g->a.ob.ownBlock=some g\/w.heap.size<=g)(m2:w2.heap[br]? = some (.cells (pG { R with out:=ps } { a with ob:=ob }).toArray 152))(g2:GB (some br) w1 w2):Wa Λ br { R with out:=ps } { a with ob:=ob } w2/\Kz w w2:=by
 have UI:∀g,ob.ownBlock=some g->g≠br:=λg hg e=>by
  subst e;rcases hn g hg with h1|h1
  ·exact h.ri.Cm h1 rfl
  ·have:=ae h.ri.mem;omega
 have mbr:w1.heap[br]? = w.heap[br]?:=g1.block br (ae h.ri.mem) λe=>h.ri.Cm e.symm rfl
 have kp:∀x,x<w.heap.size->some x≠a.ob.ownBlock->x≠br->w2.heap[x]? = w.heap[x]?:=λx hx h1 h2=>(g2.block x (Nat.lt_of_lt_of_le hx g1.size) λe=>h2 (Option.some.inj e)).trans (g1.block x hx h1)
 have k:Kz w w2:=λt ht b c hb=>by
  refine(kp b (ae hb) (λe=>?_) (λe=>?_)).trans hb
  ·exact h.ri.mut (h.ri.uD e.symm) t ht c hb
  ·subst e;exact h.ri.mut h.ri.jo t ht c hb
 have mp:∀m:Nat,(∃es c,w.heap[m]? = some (Obj.map es c))->w2.heap[m]? = w.heap[m]?:=λm hm=>kp m (by obtain⟨_,_,h⟩:=hm;exact ae h) (λe=>iE hm (h.ri.cob e.symm) rfl) (iE hm h.ri.uj)
 refine⟨⟨⟨m2,h.ri.vm.keep (λ_ _ h=>h.kz k) (mp _ h.ri.vm.obj),h.ri.wm.keep (λ_ _ h=>h.kz k) (mp _ h.ri.wm.obj),h.ri.kn.keep (λ_ _ h=>h.kz k) (mp _ h.ri.kn.obj),h.ri.mt.keep (λ_ _ h=>h.kz k) (mp _ h.ri.mt.obj),h.ri.pp.keep (λ_ _ h=>h.kz k) (mp _ h.ri.pp.obj),h.ri.ac.keep (w':=w2) (λv x (h:nG w v x)=>(show nG w2 v x from h)) (mp _ h.ri.ac.obj),h.ri.lg.kz k (λg hg=>?_),h.ri.st.kz k,ay ho (λg hg=>?_),h.ri.sep⟩,λb o hb=>?_,g2.os.trans (g1.os.trans h.os),g2.out.trans (g1.out.trans h.out)⟩,k⟩
 ·exact kp g (h.ri.lt (h.ri.vY hg)) (λe=>h.ri.Pn hg e.symm rfl) (h.ri.zm hg)
 ·obtain⟨cur,hc⟩:=ax ho hg
  exact g2.block g (ae hc) λe=>UI g hg (Option.some.inj e)
 ·obtain⟨p1,p2⟩:=h.pr b o hb
  have hl:=ae p1;refine⟨(kp b hl (λe=>p2 (h.ri.uD e.symm)) (λe=>p2 (by rw[e];exact h.ri.jo))).trans p1,λho=>?_⟩;rcases ho with e|e|e|e|e|e|e|e|e
  ·exact p2 (.inl e)
  ·exact p2 (.inr (.inl e))
  ·exact p2 (.inr (.inr (.inl e)))
  ·exact p2 (.inr (.inr (.inr (.inl e))))
  ·exact p2 (.inr (.inr (.inr (.inr (.inl e)))))
  ·exact p2 (.inr (.inr (.inr (.inr (.inr (.inl e))))))
  ·exact p2 (.inr (.inr (.inr (.inr (.inr (.inr (.inl e)))))))
  ·exact p2 (h.ri.vY e)
  ·rcases hn b e with h1|h1
   ·exact p2 (h.ri.uD h1)
   ·omega
end
def toP(R:MR)(d:ByteArray)(p:Nat×Nat):bJ:=⟨R.sc.g,R.sc.i,p.1,p.2,d⟩
def j4(R:MR)(d:ByteArray)(tl:List (Nat×Nat)):MR:={ R with out:=R.out++tl.map (toP R d) }
theorem X3{Λ:bU}{w:World}{br:Nat}{R:MR}(h:Wk Λ br R w){m:List Value}(hm:m.length=45){d:ByteArray}(hM:∀w1,Kz w w1->ag Tryz.prog 158 #[.agg m.toArray] w1 (λv w'=>(∃e,v=.tuple #[.string d,.int .i64 e])/\GB none w1 w')){tv:Value}{tl:List (Nat×Nat)}(ht:Fz w 66 2 tv tl.length (Df tl))(hb:R.out.length+tl.length<=1000000):ag Tryz.prog 108 #[Ptt br,.agg m.toArray,tv] w (λv w'=>v=.tuple #[]/\Wk Λ br (j4 R d tl) w'/\Kz w w'):=by
 refine ah Tryz.func108 rfl rfl ?_;intro w1 b1 m1 g1 l1;have hsz:bD fD.T 203=45:=by kernel_rfl
 refine⟨_,_,m1,m,?_,?_,_,hM w1 g1.kz,?_⟩
 ·show aK m 0 (bD fD.T 203)=m
  rw[hsz];unfold aK;rw[drop_zero];exact take_of_length_le (by omega)
 ·rw[hm];exact hsz.symm
 rintro _ w2 ⟨⟨e,rfl⟩,g2⟩;have g12:=g1.trans g2;have ht2:=ht.kz g12.kz (by decide);obtain⟨ta,tc,rfl,htc,htl,htd⟩:=ht2;refine⟨λq s w3=>∃(k:Nat),q=tl.length - k/\k<=tl.length/\s=[(0,Ptt br),(6,.string d),(15,.slice ta tl.length tc),(16,.int .i64 tl.length),(17,.int .i64 k)]/\Wk Λ br (j4 R d (tl.take k)) w3/\Kz w2 w3,⟨_,_,⟨0,rfl,Nat.zero_le _,rfl,by have:=h.au g12;simpa[j4]using this,Kz.refl _⟩,rfl,rfl,rfl,rfl,rfl,trivial⟩,?_⟩;rintro q s w3 ⟨k,rfl,hk,rfl,⟨a,h3⟩,k3⟩;refine aj (λc=>?_) (λc=>?_)
 ·have c1:k<tl.length:=by simp at c;omega
  rcases htd with⟨_,h0⟩|⟨B,off,cs,rfl,hB,hcut⟩
  ·omega
  obtain⟨p,hp⟩:∃p,tl[k]? = some p:=⟨tl[k],by simp[c1]⟩;have hB3:=k3 _ (by decide) _ _ hB;refine⟨by omega,_,_,hB3,[.int .u8 p.1,.int .u8 p.2],(Fz.elem hcut c1).trans (aak hp),rfl,λw4 b4 m4 g4 l4=>⟨_,_,_,m4,rfl,rfl,λw5 m5 g5=>?_⟩⟩;have uK:GB none w3 w5:=⟨g5.os.trans g4.os,g5.out.trans g4.out,Nat.le_trans g4.size g5.size,λx hx _=>(g5.block x (Nat.lt_of_lt_of_le hx g4.size) (λe=>by cases e;omega)).trans (g4.block x hx nofun)⟩;have h5:=h3.au uK;obtain⟨vm,wm,kn,mt,pp,ac,lg,ob,sT,sM,sD,sO,sI⟩:=a;obtain⟨oa,oc,rfl⟩:∃oa oc,ob=.slice oa (j4 R d (tl.take k)).out.length oc:=af h5.ri.ob;have hl:(j4 R d (tl.take k)).out.length<=R.out.length+k:=by simp only[j4,length_append,length_map,length_take];omega
  refine⟨by kernel_rfl,_,_,h5.ri.mem,_,rfl,_,_,h5.ri.mem,_,rfl,rfl,_,_,m5,_,rfl,rfl,λw6 b6 m6 g6 l6=>?_⟩;have h6:=h5.au g6;refine⟨⟨g6.get m5 nofun,h6.ri.mem,h6.ri.mem,trivial⟩,_,(toP R d p).cells,h6.ri.ob,⟨_,_,m6,rfl,rfl,rfl⟩,by omega,λob' w7 oM g7 n7=>?_⟩;have m7:w7.heap[br]? = some (.cells (pG (j4 R d (tl.take k)) _).toArray 152):=(g7.block br (ae h6.ri.mem) λe=>h6.ri.Cm e.symm rfl).trans h6.ri.mem;obtain⟨oa',oc',rfl⟩:=af oM;refine⟨_,_,_,m7,rfl,rfl,λw8 m8 g8=>?_⟩;have hps:(j4 R d (tl.take (k+1))).out=(j4 R d (tl.take k)).out++[toP R d p]:=by
   unfold j4;rw[take_add_one,hp];simp
  have aeU:w7.ownsRow 0 139 5 (.slice oa' ((j4 R d (tl.take k)).out.length+1) oc') (j4 R d (tl.take (k+1))).out.length (flat (j4 R d (tl.take (k+1))).out):=by
   rw[hps,length_append,show flat ((j4 R d (tl.take k)).out++[toP R d p])=flat (j4 R d (tl.take k)).out++(toP R d p).cells by simp[flat]];exact oM
  have fin:=h6.ob' (ps:=(j4 R d (tl.take (k+1))).out) g7 aeU n7 m8 g8;refine⟨by omega,_,_,⟨k+1,rfl,by omega,rfl,⟨_,fin.1⟩,k3.trans (((uK.trans g6).kz).trans fin.2)⟩,⟨rfl,rfl,rfl,rfl,rfl,trivial⟩,by omega⟩
 ·have c1:k=tl.length:=by simp at c;omega
  subst c1;rw[take_length]at h3;exact⟨rfl,⟨a,h3⟩,g12.kz.trans k3⟩
end
