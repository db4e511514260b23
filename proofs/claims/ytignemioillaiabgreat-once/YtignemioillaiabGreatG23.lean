/- Lemmas. -/
import Derived.Test.YtignemioillaiabGreatG22
namespace Go.Proofs.YtignemioillaiabGreat
set_option maxHeartbeats 8000000
set_option maxRecDepth 100000
open List
section
open Go Go.Conc
def Dw(f:Bool):List Int:=[if f then 1 else 0]
def fw(n i:Int):List Int:=b32 n++[i]
def tX(x:Row):List Int:=b64 x.key++b64 x.val
def mK(p:ag):List Int:=[p.c]++b32 p.s++b64 p.key++[p.k]++(if p.k=1 then Dw p.found++(if p.found then b64 p.v else[])else if p.k=3 then[p.g]else[])
def vg(q:aW):List Int:=[q.c]++b32 q.s++[q.k]++b64 q.key++(if q.k=2 then b64 q.v else if q.k=4 then b64 q.hi++[q.to]else[])
section
variable{w w1 w2:World}{v v1 v2:Value}{n:Nat}{xs:List Value}{a b:List Int}
theorem Put.more(h:Put w v n xs a v1 w1)(k:Put w1 v1 (n+a.length) (xs++Jy a) b v2 w2){x:Nat}{c:Array Value}{t:TypeId}(hx:w1.heap[x]?=some (.cells c t))(ht:t≠5):Put w v n xs (a++b) v2 w2/\w2.heap[x]?=some (.cells c t):=⟨h.trans k,k.get h.row hx ht⟩
theorem Put.eq(h:Put w v n xs a v1 w1)(e:a=b):Put w v n xs b v1 w1:=e▸h
theorem Q4(ho:w.ownsRow 0 5 1 v n xs)(hn:n<=900000000)(f:Bool):CY 175 #[v,.bool f] w (λv' w'=>Put w v n xs (Dw f) v' w'):=by
 refine aj Tryz.func175 rfl rfl ?_;cases f
 .exact⟨_,dJ ho hn 0,λ_ _ h=>h⟩
 .exact⟨_,dJ ho hn 1,λ_ _ h=>h⟩
theorem rq(ho:w.ownsRow 0 5 1 v n xs)(hn:n<=800000000)(k i:Int):CY 122 #[v,.agg #[.int .u32 k,.int .u8 i]] w (λv' w'=>Put w v n xs (fw k i) v' w'):=by
 refine aj Tryz.func122 rfl rfl ?_;refine λw1 b1 m1 g1 l1=>?_
 refine⟨by kernel_rfl,_,_,m1,_,rfl,_,_,m1,_,rfl,?_⟩;have P:=Put.pre g1 (Put.nil (kK ho g1));refine⟨_,jA P.row (by simp;omega) _,λv2 w2 p2=>?_⟩;obtain⟨P,m1⟩:=P.more p2 m1 (by decide);refine⟨⟨m1,m1,trivial⟩,_,dJ P.row (by simp[b32];omega) _,λv3 w3 p3=>?_⟩;exact P.trans p3
theorem TM(ho:w.ownsRow 0 5 1 v n xs)(hn:n<=700000000)(x:Row):CY 177 #[v,.agg x.cells.toArray] w (λv' w'=>Put w v n xs (tX x) v' w'):=by
 refine aj Tryz.func177 rfl rfl ?_;refine λw1 b1 m1 g1 l1=>?_
 refine⟨by kernel_rfl,_,_,m1,_,rfl,_,_,m1,_,rfl,?_⟩;have P:=Put.pre g1 (Put.nil (kK ho g1));refine⟨_,mJ P.row (by simp;omega) _,λv2 w2 p2=>?_⟩;obtain⟨P,m1⟩:=P.more p2 m1 (by decide);refine⟨⟨m1,m1,trivial⟩,_,mJ P.row (by simp[b64,b32];omega) _,λv3 w3 p3=>?_⟩;exact P.trans p3
theorem Jz(ho:w.ownsRow 0 5 1 v n xs)(hn:n<=700000000)(p:ag):CY 121 #[v,.agg p.cells.toArray] w (λv' w'=>Put w v n xs (mK p) v' w'):=by
 refine aj Tryz.func121 rfl rfl ?_;refine λw1 b1 m1 g1 l1=>?_
 have P:=Put.pre g1 (Put.nil (kK ho g1));refine⟨_,_,m1,_,rfl,_,dJ P.row (by simp;omega) _,λv2 w2 p2=>?_⟩;obtain⟨P,m1⟩:=P.more p2 m1 (by decide);refine⟨_,_,m1,_,rfl,_,jA P.row (by simp;omega) _,λv2 w2 p2=>?_⟩;obtain⟨P,m1⟩:=P.more p2 m1 (by decide);refine⟨_,_,m1,_,rfl,_,mJ P.row (by simp[b32];omega) _,λv2 w2 p2=>?_⟩;obtain⟨P,m1⟩:=P.more p2 m1 (by decide);refine⟨_,_,m1,_,rfl,_,dJ P.row (by simp[b32,b64];omega) _,λv2 w2 p2=>?_⟩;obtain⟨P,m1⟩:=P.more p2 m1 (by decide);refine⟨_,_,m1,_,rfl,ah (λc=>?_) (λc=>?_)⟩
 .have c1:p.k=1:=by simpa using c
  refine⟨_,_,m1,_,rfl,_,Q4 P.row (by simp[b32,b64];omega) _,λv2 w2 p2=>?_⟩;obtain⟨P,m1⟩:=P.more p2 m1 (by decide);refine⟨_,_,m1,_,rfl,ah (λd=>?_) (λd=>?_)⟩
  .refine⟨_,_,m1,_,rfl,_,mJ P.row (by simp[b32,b64,Dw];omega) _,λv2 w2 p2=>?_⟩
   exact(P.trans p2).eq (by simp[mK,c1,d])
  .exact P.eq (by simp[mK,c1,d])
 .have c1:¬p.k=1:=by simpa using c
  refine ah (λd=>?_) (λd=>?_)
  .have d1:p.k=3:=by simpa using d
   refine⟨_,_,m1,_,rfl,_,dJ P.row (by simp[b32,b64];omega) _,λv2 w2 p2=>?_⟩;exact(P.trans p2).eq (by simp[mK,d1])
  .have d1:¬p.k=3:=by simpa using d
   exact P.eq (by simp[mK,c1,d1])
theorem JA(ho:w.ownsRow 0 5 1 v n xs)(hn:n<=700000000)(q:aW):CY 120 #[v,.agg q.cells.toArray] w (λv' w'=>Put w v n xs (vg q) v' w'):=by
 refine aj Tryz.func120 rfl rfl ?_;refine λw1 b1 m1 g1 l1=>?_
 have P:=Put.pre g1 (Put.nil (kK ho g1));refine⟨_,_,m1,_,rfl,_,dJ P.row (by simp;omega) _,λv2 w2 p2=>?_⟩;obtain⟨P,m1⟩:=P.more p2 m1 (by decide);refine⟨_,_,m1,_,rfl,_,jA P.row (by simp;omega) _,λv2 w2 p2=>?_⟩;obtain⟨P,m1⟩:=P.more p2 m1 (by decide);refine⟨_,_,m1,_,rfl,_,dJ P.row (by simp[b32];omega) _,λv2 w2 p2=>?_⟩;obtain⟨P,m1⟩:=P.more p2 m1 (by decide);refine⟨_,_,m1,_,rfl,_,mJ P.row (by simp[b32];omega) _,λv2 w2 p2=>?_⟩;obtain⟨P,m1⟩:=P.more p2 m1 (by decide);refine⟨_,_,m1,_,rfl,ah (λc=>?_) (λc=>?_)⟩
 .have c1:q.k=2:=by simpa using c
  refine⟨_,_,m1,_,rfl,_,mJ P.row (by simp[b32,b64];omega) _,λv2 w2 p2=>?_⟩;exact(P.trans p2).eq (by simp[vg,c1])
 .have c1:¬q.k=2:=by simpa using c
  refine ah (λd=>?_) (λd=>?_)
  .have d1:q.k=4:=by simpa using d
   refine⟨_,_,m1,_,rfl,_,mJ P.row (by simp[b32,b64];omega) _,λv2 w2 p2=>?_⟩;obtain⟨P,m1⟩:=P.more p2 m1 (by decide);refine⟨_,_,m1,_,rfl,_,dJ P.row (by simp[b32,b64];omega) _,λv2 w2 p2=>?_⟩;exact(P.trans p2).eq (by simp[vg,d1])
  .have d1:¬q.k=4:=by simpa using d
   exact P.eq (by simp[vg,c1,d1])
end
theorem bW.zi(Λ:bW)(b:Nat)(o:Obj):(Λ.add b o).pr b=some o:=by unfold bW.add;simp
structure Ok(A:aI)(R:MR):Prop where
 sz:R.sc.sz<=5
 i:R.sc.i<R.sc.sz/\R.sc.g<R.sc.gs/\R.sc.gs<=4/\R.sc.gs=A.N
 st:A.good R.log.length R.st
 kn:∀k c,R.known k=some c->A.gc c/\k<60
 pp:∀k c,R.props k=some c->A.gc c/\k<60
 vt:∀k v,R.cZ k=some v->A.gc v.c/\k<60/\v.slot=k
 wv:∀k v,R.fJ k=some v->A.gc v.c/\k<60/\v.slot=k
 mt:∀k v,R.met k=some v->A.gc v.c/\k<60/\v.slot=k
 ac:∀k c,R.acc k=some c->c<32
 pr:R.sc.prom<32
 lg:R.log.length<=60
 lc:∀c∈R.log,A.gc c
 nx:R.sc.next<=60
 sn:R.sc.seen<=4294967295/\R.sc.b.n<=4294967295/\R.sc.wb.n<=4294967295
section
variable{A:aI}{R:MR}
theorem Ok.snd(h:Ok A R)(enc:MM->ByteArray)(m:MM)(tl:List (Nat×Nat)):Ok A (mh enc R m tl):=⟨h.sz,h.i,h.st,h.kn,h.pp,h.vt,h.wv,h.mt,h.ac,h.pr,h.lg,h.lc,h.nx,h.sn⟩
theorem Ok.ans(h:Ok A R)(c:MC)(p:ag):Ok A (oH A R c p):=by
 unfold oH;split
 .exact h.snd _ _ _
 .split
  .exact h.snd _ _ _
  .exact h
theorem WA(R:MR)(c:MC)(p:ag)(hz:R.sc.sz<=5):(oH A R c p).out.length<=R.out.length+5:=by
 unfold oH;split
 .rw[Ae,kJ];simp
 .split
  .rw[Af,kJ];have:=jm R.sc.g R.sc.i c.r.src.toNat R.sc.sz;omega
  .omega
theorem EZ(R:MR)(c:MC)(p:ag):(oH A R c p).log=R.log/\(oH A R c p).known=R.known/\(oH A R c p).sc=R.sc:=by
 unfold oH;split
 .exact⟨rfl,rfl,rfl⟩
 .split
  .exact⟨rfl,rfl,rfl⟩
  .exact⟨rfl,rfl,rfl⟩
theorem Ok.do(HA:bG A)(h:Ok A R){c:MC}(hc:A.gc c)(hl:R.log.length<60):Ok A (qd A R c):=by
 have h1:Ok A {R with st:=(A.ap R.st c).1,log:=R.log++[c]}:=⟨h.sz,h.i,HA.next h.st (Jft hl) hc,h.kn,h.pp,h.vt,h.wv,h.mt,h.ac,h.pr,by simp;omega,λx hx=>(Jdc.1 hx).elim (h.lc x) (λe=>by simp at e;rw[e];exact hc),h.nx,h.sn⟩;unfold qd;split
 .exact h1.ans _ _
 .exact h1
theorem JB(R:MR)(c:MC)(hz:R.sc.sz<=5):(qd A R c).out.length<=R.out.length+5/\(qd A R c).log=R.log++[c]/\(qd A R c).known=R.known/\(qd A R c).sc=R.sc:=by
 unfold qd;split
 .exact⟨WA _ _ _ hz,(EZ _ _ _).1,(EZ _ _ _).2.1,(EZ _ _ _).2.2⟩
 .exact⟨by show R.out.length<=_;omega,rfl,rfl,rfl⟩
theorem Ok.known(h:Ok A R){f:Nat->Option MC}(hf:∀k c,f k=some c->A.gc c/\k<60):Ok A {R with known:=f}:=⟨h.sz,h.i,h.st,hf,h.pp,h.vt,h.wv,h.mt,h.ac,h.pr,h.lg,h.lc,h.nx,h.sn⟩
theorem Em{n:Nat}(h:R.known R.log.length=none):gZ A (n+1) R=R:=by
 rw[gZ,h]
theorem En{n:Nat}{c:MC}(h:R.known R.log.length=some c):gZ A (n+1) R=gZ A n (qd A {R with known:=upd R.known R.log.length none} c):=by
 rw[gZ,h]
theorem L9{α:Type}{f:Nat->Option α}{P:Nat->α->Prop}(hf:∀k c,f k=some c->P k c){j:Nat}{o:Option α}(ho:∀c,o=some c->P j c):∀k c,upd f j o k=some c->P k c:=by
 intro k c h;unfold upd at h;split at h
 .rename_i e;subst e;exact ho c h
 .exact hf k c h
theorem tY{α:Type}{f:Nat->Option α}{P:Nat->α->Prop}(hf:∀k c,f k=some c->P k c)(j:Nat):∀k c,upd f j none k=some c->P k c:=L9 hf λ_ e=>by cases e
theorem nI{α:Type}{f:Nat->Option α}{P:Nat->α->Prop}(hf:∀k c,f k=some c->P k c){j:Nat}{x:α}(hx:P j x):∀k c,upd f j (some x) k=some c->P k c:=L9 hf λ_ e=>by cases e;exact hx
end
section
variable{A:aI}(HA:bG A){Λ:bW}{w:World}{br:Nat}{R:MR}
include HA
theorem WB(h:Wk Λ br R w)(ho:Ok A R)(hb:R.out.length<=890000):CY 145 #[Ptt br] w (λv w'=>v=.tuple #[]/\Wk Λ br (gZ A 61 R) w'/\Kz w w'):=by
 refine aj Tryz.func145 rfl rfl ?_;refine⟨λm s w1=>∃R':MR,gZ A 61 R=gZ A m R'/\m+R'.log.length=61+R.log.length/\s=[(0,Ptt br)]/\Wk Λ br R' w1/\Ok A R'/\R'.out.length<=R.out.length+5*R'.log.length/\Kz w w1,⟨_,_,⟨R,rfl,rfl,rfl,h,ho,by omega,Kz.refl _⟩,rfl,trivial⟩,?_⟩;rintro m s w1 ⟨R',em,el,rfl,⟨a,h1⟩,o1,hl1,k1⟩;have Yl:=o1.lg;obtain⟨m,rfl⟩:∃n,m=n+1:=⟨m-1,by omega⟩;obtain⟨vm,wm,kn,mt,pp,ac,lg,ob,sT,sM,sD,sO,sI⟩:=a;obtain⟨la,lc,rfl⟩:∃la lc,lg=.slice la R'.log.length lc:=by obtain⟨_,_,h,_⟩:=h1.ri.lg;exact af h
 obtain⟨f,e1,e2,e3⟩:=h1.ri.kn;refine⟨_,_,h1.ri.mem,_,rfl,.inl ⟨by omega,_,_,h1.ri.mem,_,rfl,f,e1,λw2 b2 m2 g2 l2=>?_⟩⟩;rcases kI e3 R'.log.length with⟨n1,n2⟩|⟨c,v,n1,n2,rv,dv,rfl,hr⟩
 .rw[n2]
  refine⟨_,_,_,m2,rfl,rfl,λw3 m3 g3=>?_⟩;have g13:GB none w1 w3:=⟨g3.os.trans g2.os,g3.out.trans g2.out,Jb1 g2.size g3.size,λx hx _=>(g3.block x (Jbz hx g2.size) (λe=>by cases e;omega)).trans (g2.block x hx nofun)⟩;have xO:=em.trans (Em n1);exact⟨rfl,by rw[xO];exact⟨_,h1.ay g13⟩,k1.trans g13.kz⟩
 .rw[n2]
  obtain⟨ra,rn,rc,da,dn,dc,rfl,rfl⟩:=hr.sl;refine⟨_,_,_,m2,rfl,rfl,λw3 m3 g3=>?_⟩;have g13:GB none w1 w3:=⟨g3.os.trans g2.os,g3.out.trans g2.out,Jb1 g2.size g3.size,λx hx _=>(g3.block x (Jbz hx g2.size) (λe=>by cases e;omega)).trans (g2.block x hx nofun)⟩;have xO:=em.trans (En n1);obtain⟨hgc,tJ⟩:=o1.kn _ _ n1;have h3:=h1.box g13 m3 l2;have u3:=h1.rU l2;obtain⟨f,e1,e2,e3⟩:=h3.ri.kn;refine⟨_,_,h3.ri.mem,_,rfl,f,e1,λw4 m4 g4=>?_⟩;have k34:=h3.ri.kz h3.ri.wR g4;have h4:=h3.step h3.ri.wR g4 (h3.ri.FD g4 (bT.del (λ_ _ h=>h.kz k34) e2 e3 m4));have Cj:=(h4.pr b2 _ (bW.zi _ _ _)).1;have o4:Ok A {R' with known:=upd R'.known R'.log.length none}:=o1.known (tY o1.kn _);have hc4:kF w4 (.agg (dF c (.slice ra rn rc) (.slice da dn dc)).toArray) c:=⟨.slice ra rn rc,.slice da dn dc,rfl,(hr.kz g13.kz).kz k34⟩;refine⟨_,_,Cj,dF c (.slice ra rn rc) (.slice da dn dc),rfl,rfl,_,aeu HA (c:=c) ⟨_,h4⟩ hc4 o4.lg o4.st hgc o4.sz (by show R'.log.length<=_;omega) (by show R'.out.length<=_;omega),?_⟩;rintro _ w5 ⟨rfl,h5,k5⟩;obtain⟨q1,q2,q3,q4⟩:=JB (A:=A) {R' with known:=upd R'.known R'.log.length none} c o4.sz;refine⟨m,_,⟨_,xO,by rw[q2];simp;omega,rfl,h5.drop u3,o4.do HA hgc tJ,?_,((k1.trans g13.kz).trans k34).trans k5⟩,(sb rfl),by omega⟩;rw[q2,Jc6];show _<=R.out.length+5*(R'.log.length+1);have:({R' with known:=upd R'.known R'.log.length none}:MR).out.length=R'.out.length:=rfl;omega
theorem Md(h:Wk Λ br R w)(ho:Ok A R){s:Nat}(hs:s<60){c:MC}(hgc:A.gc c){cv:Value}(hc:kF w cv c)(hb:R.out.length<=890000):CY 84 #[Ptt br,.int .u32 s,cv] w (λv w'=>v=.tuple #[]/\Wk Λ br (jh A R s c) w'/\Kz w w'):=by
 obtain⟨rv,dv,rfl,hr⟩:=hc;refine aj Tryz.func84 rfl rfl ?_;intro w1 b1 m1 g1 l1;obtain⟨a,h⟩:=h;have h1:=h.box g1 m1 l1;have u1:=h.rU l1;have Yl:=ho.lg;obtain⟨vm,wm,kn,mt,pp,ac,lg,ob,sT,sM,sD,sO,sI⟩:=a;obtain⟨la,lc,rfl⟩:∃la lc,lg=.slice la R.log.length lc:=by obtain⟨_,_,h,_⟩:=h1.ri.lg;exact af h
 unfold jh;refine⟨_,_,h1.ri.mem,_,rfl,.inl ⟨by omega,ah (λd=>?_) (λd=>?_)⟩⟩
 .have d1:s<R.log.length:=by simp at d;omega
  rw[Jb6 d1];exact⟨rfl,Wk.drop ⟨_,h1⟩ u1,g1.kz⟩
 have d1:¬s<R.log.length:=by simp at d;omega
 rw[Jb5 d1];obtain⟨f,e1,e2,e3⟩:=h1.ri.pp;refine⟨_,_,h1.ri.mem,_,rfl,f,e1,λw2 m2 g2=>?_⟩;have k2:=h1.ri.kz h1.ri.wS g2;have h2:=h1.step h1.ri.wS g2 (h1.ri.LV g2 (bT.del (λ_ _ h=>h.kz k2) e2 e3 m2));obtain⟨f,e1,e2,e3⟩:=h2.ri.ac;refine⟨_,_,h2.ri.mem,_,rfl,f,e1,λw3 m3 g3=>?_⟩;have k3:=h2.ri.kz h2.ri.wT g3;have h3:=h2.step h2.ri.wT g3 (h2.ri.ac' g3 (bT.del (rel:=nT) (w:=w2) (λv x (h:nT w2 v x)=>(show nT w3 v x from h)) e2 e3 m3));have hnx:=ho.nx;have IE:(if((s:Int)+1)>(R.sc.next:Int)then((s:Int)+1)else(R.sc.next:Int))=((max R.sc.next (s+1):Nat):Int):=by split<;>omega
 refine⟨_,_,h3.ri.mem,_,rfl,by omega,_,_,p9 {R with props:=upd R.props s none,acc:=upd R.acc s none,sc:={R.sc with next:=max R.sc.next (s+1)} } ⟨vm,wm,kn,mt,pp,ac,.slice la R.log.length lc,ob,sT,sM,sD,sO,sI⟩,h3.ri.mem,rfl,by unfold p9;dsimp only;rw[<-IE];rfl,λw4 m4 g4=>?_⟩;have h4:=h3.cell (s':={R.sc with next:=max R.sc.next (s+1)}) m4 g4;have k4:=h3.ri.kz h3.ri.jy g4;have GJ:w4.heap[b1]?=_:=(h4.pr b1 _ (bW.zi _ _ _)).1;obtain⟨f,e1,e2,e3⟩:=h4.ri.kn;refine⟨by kernel_rfl,_,_,h4.ri.mem,_,rfl,_,_,GJ,_,rfl,rfl,f,e1,λw5 m5 g5=>?_⟩;have k5:=h4.ri.kz h4.ri.wR g5;have kk:=(((g1.kz.trans k2).trans k3).trans k4).trans k5;have h5:=h4.step h4.ri.wR g5 (h4.ri.FD g5 (bT.put (λ_ _ h=>h.kz k5) e2 e3 ⟨rv,dv,rfl,hr.kz kk⟩ m5));refine⟨_,WB HA (Wk.drop ⟨_,h5⟩ u1) ⟨ho.sz,ho.i,ho.st,nI (P:=λk c=>A.gc c/\k<60) ho.kn ⟨hgc,hs⟩,tY ho.pp s,ho.vt,ho.wv,ho.mt,tY ho.ac s,ho.pr,ho.lg,ho.lc,by show max R.sc.next (s+1)<=60;omega,ho.sn⟩ hb,?_⟩;rintro _ w6 ⟨rfl,h6,k6⟩;exact⟨rfl,h6,kk.trans k6⟩
end
section
variable(A:aI)
def gG(R:MR)(s i:Nat):Nat:=jl ((R.acc s).getD 0) i
def jM(R:MR)(s i:Nat):MR:=match R.props s with
 |none=>R
 |some c=>if 2*pc (gG R s i)>R.sc.sz then jh A (mh A.enc {R with acc:=upd R.acc s (some (gG R s i))} {aL 8 with s:=s,c:=c} (fK R.sc.g R.sc.i R.sc.g R.sc.sz)) s c else{ R with acc:=upd R.acc s (some (gG R s i))}
def iK(R:MR)(s:Nat)(c:MC):MR:=jM A (LY A.enc (uu {R with props:=upd R.props s (some c)} s c) s c) s R.sc.i
end
theorem ab6{w:World}{g:Nat->Option Nat}{f:Int->Option Value}{k:Nat}(h:(g k=none/\f k=none)\/∃x v,g k=some x/\f k=some v/\nT w v x):(f k).getD (.int .u8 0)=.int .u8 ((g k).getD 0:Nat):=by
 rcases h with⟨n1,n2⟩|⟨x,v,n1,n2,n3⟩
 .rw[n1,n2];rfl
 .rw[n1,n2];exact n3
section
variable{A:aI}(HA:bG A){Λ:bW}{w:World}{br:Nat}{R:MR}
include HA
theorem O3(h:Wk Λ br R w)(ho:Ok A R)(s i:Nat)(hs:s<60)(hi:i<5)(hb:R.out.length<=880000):CY 144 #[Ptt br,.int .u32 s,.int .u8 i] w (λv w'=>v=.tuple #[]/\Wk Λ br (jM A R s i) w'/\Kz w w'):=by
 refine aj Tryz.func144 rfl rfl ?_;obtain⟨a,h⟩:=h;obtain⟨f,e1,e2,e3⟩:=h.ri.pp;refine⟨_,_,h.ri.mem,_,rfl,f,e1,λw2 b2 m2 g2 l2=>?_⟩;rcases kI e3 s with⟨n1,n2⟩|⟨c,v,n1,n2,rv,dv,rfl,hr⟩
 .have em:jM A R s i=R:=by unfold jM;rw[n1]
  rw[n2,em];refine⟨_,_,_,m2,rfl,rfl,λw3 m3 g3=>?_⟩;have g13:GB none w w3:=⟨g3.os.trans g2.os,g3.out.trans g2.out,Jb1 g2.size g3.size,λx hx _=>(g3.block x (Jbz hx g2.size) (λe=>by cases e;omega)).trans (g2.block x hx nofun)⟩;exact⟨rfl,⟨_,h.ay g13⟩,g13.kz⟩
 rw[n2];obtain⟨ra,rn,rc,da,dn,dc,rfl,rfl⟩:=hr.sl;refine⟨_,_,_,m2,rfl,rfl,λw3 m3 g3=>?_⟩;have g13:GB none w w3:=⟨g3.os.trans g2.os,g3.out.trans g2.out,Jb1 g2.size g3.size,λx hx _=>(g3.block x (Jbz hx g2.size) (λe=>by cases e;omega)).trans (g2.block x hx nofun)⟩;obtain⟨hgc,tJ⟩:=ho.pp _ _ n1;have h3:=h.box g13 m3 l2;have u3:=h.rU l2;obtain⟨f,e1,e2,e3⟩:=h3.ri.ac;have hq:=ab6 (kI e3 s);have hlt:(R.acc s).getD 0<32:=by
  cases hh:R.acc s with
  |none=>decide
  |some x=>exact ho.ac _ _ hh
 refine⟨by kernel_rfl,_,_,h3.ri.mem,_,rfl,_,_,h3.ri.mem,_,rfl,?_⟩;refine⟨f,e1,?_⟩;rw[show(f s).getD (zv fG.T 132 ((fG.T.get 132).getD Ty.p))=_ from hq];refine⟨_,OX w3 _ i hlt hi,?_⟩;rintro _ w4 ⟨rfl,rfl⟩;refine⟨⟨e1,h3.ri.mem,h3.ri.mem,trivial⟩,f,e1,λw5 m5 g5=>?_⟩;have k5:=h3.ri.kz h3.ri.wT g5;have h5:=h3.step h3.ri.wT g5 (h3.ri.ac' g5 (bT.put (rel:=nT) (x:=gG R s i) (λv x (h:nT w4 v x)=>(show nT w5 v x from h)) e2 e3 rfl m5));have hw:=wV hlt hi;have kk:=g13.kz.trans k5;have hup:((qM f s (some (.int .u8 (gG R s i:Nat)))) s).getD (.int .u8 0)=.int .u8 (gG R s i:Nat):=by unfold qM;rw[Jb6 rfl];rfl
 refine⟨by kernel_rfl,_,_,h5.ri.mem,_,rfl,_,m5,_,_,h5.ri.mem,_,rfl,?_⟩;rw[show((qM f s (some (.int .u8 (jl ((R.acc s).getD 0) i:Nat)))) s).getD (zv fG.T 132 ((fG.T.get 132).getD Ty.p))=_ from hup];refine⟨_,OW w5 _ _ hw,?_⟩;rintro _ w6 ⟨rfl,rfl⟩;refine ah (λd=>?_) (λd=>?_)
 .have d1:2*pc (gG R s i)>R.sc.sz:=Ptq d
  have em:jM A R s i=jh A (mh A.enc {R with acc:=upd R.acc s (some (gG R s i))} {aL 8 with s:=s,c:=c} (fK R.sc.g R.sc.i R.sc.g R.sc.sz)) s c:=by unfold jM;rw[n1];exact Jb6 d1
  rw[em];have Cj:=(h5.pr b2 _ (bW.zi _ _ _)).1;have o5:Ok A {R with acc:=upd R.acc s (some (gG R s i))}:=⟨ho.sz,ho.i,ho.st,ho.kn,ho.pp,ho.vt,ho.wv,ho.mt,nI ho.ac hw,ho.pr,ho.lg,ho.lc,ho.nx,ho.sn⟩;refine⟨by kernel_rfl,_,_,Cj,dF c (.slice ra rn rc) (.slice da dn dc),rfl,rfl,_,Ad ⟨_,h5⟩ ho.sz,?_⟩;rintro v w7 ⟨hv,g7⟩;have hol:=jm R.sc.g R.sc.i R.sc.g R.sc.sz;have hsz:=ho.sz;refine⟨⟨g7.get Cj nofun,trivial⟩,_,oG HA.nW (Wk.ay ⟨_,h5⟩ g7) (m:={aL 8 with s:=s,c:=c}) ⟨_,_,_,_,_,rfl,(hr.kz kk).kz g7.kz,dC.zero _,aS.zero _⟩ hv (by show R.out.length+(fK R.sc.g R.sc.i R.sc.g R.sc.sz).length<=_;omega),?_⟩;rintro _ w8 ⟨rfl,h8,k8⟩;have m8:=h8.at;have kk8:=(kk.trans g7.kz).trans k8;have hc8:kF w8 (.agg (dF c (.slice ra rn rc) (.slice da dn dc)).toArray) c:=⟨_,_,rfl,hr.kz kk8⟩;refine⟨_,_,m8,dF c (.slice ra rn rc) (.slice da dn dc),rfl,rfl,_,Md HA (h8.drop u3) (o5.snd _ _ _) hs hgc hc8 (by rw[kJ];show R.out.length+(fK R.sc.g R.sc.i R.sc.g R.sc.sz).length<=_;omega),?_⟩;rintro _ w9 ⟨rfl,h9,k9⟩;exact⟨rfl,h9,kk8.trans k9⟩
 .have d1:¬2*pc (gG R s i)>R.sc.sz:=Ptx d
  have em:jM A R s i={R with acc:=upd R.acc s (some (gG R s i))}:=by unfold jM;rw[n1];exact Jb5 d1
  rw[em];exact⟨rfl,Wk.drop ⟨_,h5⟩ u3,kk⟩
end
section
variable{A:aI}(HA:bG A)
include HA
theorem Ok.catch:∀(n:Nat) {R:MR},Ok A R->Ok A (gZ A n R)/\(gZ A n R).out.length<=R.out.length+5*n/\(gZ A n R).sc=R.sc
 |0,R,h=>⟨h,by show R.out.length<=_;omega,rfl⟩
 |n+1,R,h=>by
  cases hk:R.known R.log.length with
  |none=>rw[Em hk];exact⟨h,by omega,rfl⟩
  |some c =>
   rw[En hk];obtain⟨hgc,tJ⟩:=h.kn _ _ hk;have o4:Ok A {R with known:=upd R.known R.log.length none}:=h.known (tY h.kn _);obtain⟨q1,q2,q3,q4⟩:=JB (A:=A) {R with known:=upd R.known R.log.length none} c o4.sz;obtain⟨i1,i2,i3⟩:=Ok.catch n (o4.do HA hgc tJ);refine⟨i1,?_,i3.trans q4⟩;have:({R with known:=upd R.known R.log.length none}:MR).out.length=R.out.length:=rfl;omega
theorem Ok.agree{R:MR}(ho:Ok A R){s:Nat}(hs:s<60){c:MC}(hgc:A.gc c):Ok A (jh A R s c)/\(jh A R s c).out.length<=R.out.length+305/\(jh A R s c).sc.i=R.sc.i/\(jh A R s c).sc.sz=R.sc.sz:=by
 unfold jh;split
 .exact⟨ho,by omega,rfl,rfl⟩
 .have hnx:=ho.nx
  obtain⟨h1,h2,h3⟩:=Ok.catch HA 61 (R:={R with props:=upd R.props s none,acc:=upd R.acc s none,sc:={R.sc with next:=max R.sc.next (s+1)},known:=upd R.known s (some c)}) ⟨ho.sz,ho.i,ho.st,nI (P:=λk c=>A.gc c/\k<60) ho.kn ⟨hgc,hs⟩,tY ho.pp s,ho.vt,ho.wv,ho.mt,tY ho.ac s,ho.pr,ho.lg,ho.lc,by show max R.sc.next (s+1)<=60;omega,ho.sn⟩;exact⟨h1,h2,by rw[h3],by rw[h3]⟩
theorem Ok.Ah{R:MR}(ho:Ok A R){s i:Nat}(hi:i<5):Ok A (jM A R s i)/\(jM A R s i).out.length<=R.out.length+310/\(jM A R s i).sc.i=R.sc.i/\(jM A R s i).sc.sz=R.sc.sz:=by
 unfold jM;cases hp:R.props s with
 |none=>exact⟨ho,by show R.out.length<=_;omega,rfl,rfl⟩
 |some c =>
  have hlt:(R.acc s).getD 0<32:=by
   cases hh:R.acc s with
   |none=>decide
   |some x=>exact ho.ac _ _ hh
  have o5:Ok A {R with acc:=upd R.acc s (some (gG R s i))}:=⟨ho.sz,ho.i,ho.st,ho.kn,ho.pp,ho.vt,ho.wv,ho.mt,nI ho.ac (wV hlt hi),ho.pr,ho.lg,ho.lc,ho.nx,ho.sn⟩;dsimp only;split
  .obtain⟨h1,h2,h3,h4⟩:=(o5.snd A.enc {aL 8 with s:=s,c:=c} (fK R.sc.g R.sc.i R.sc.g R.sc.sz)).agree HA (ho.pp _ _ hp).2 (ho.pp _ _ hp).1
   refine⟨h1,?_,h3,h4⟩;have hol:=jm R.sc.g R.sc.i R.sc.g R.sc.sz;have hsz:=ho.sz;rw[kJ]at h2;have:({R with acc:=upd R.acc s (some (gG R s i))}:MR).out.length=R.out.length:=rfl;exact Jb1 h2 (by omega)
  .exact⟨o5,by show R.out.length<=_;omega,rfl,rfl⟩
omit HA in
theorem Ok.E5{R:MR}(ho:Ok A R){s:Nat}(hs:s<60){c:MC}(hgc:A.gc c):Ok A (uu R s c):=⟨ho.sz,ho.i,ho.st,ho.kn,ho.pp,nI (P:=λk (v:MV)=>A.gc v.c/\k<60/\v.slot=k) ho.vt ⟨hgc,hs,rfl⟩,ho.wv,ho.mt,ho.ac,ho.pr,ho.lg,ho.lc,ho.nx,ho.sn⟩
omit HA in
theorem Ok.LV{R:MR}(ho:Ok A R){s:Nat}(hs:s<60){c:MC}(hgc:A.gc c):Ok A {R with props:=upd R.props s (some c)}:=⟨ho.sz,ho.i,ho.st,ho.kn,nI (P:=λk c=>A.gc c/\k<60) ho.pp ⟨hgc,hs⟩,ho.vt,ho.wv,ho.mt,ho.ac,ho.pr,ho.lg,ho.lc,ho.nx,ho.sn⟩
theorem Ok.prop{R:MR}(ho:Ok A R){s:Nat}(hs:s<60){c:MC}(hgc:A.gc c):Ok A (iK A R s c)/\(iK A R s c).out.length<=R.out.length+315/\(iK A R s c).sc.i=R.sc.i/\(iK A R s c).sc.sz=R.sc.sz:=by
 unfold iK;have hi:=ho.i;have hz:=ho.sz;obtain⟨h1,h2,h3,h4⟩:=(((ho.LV hs hgc).E5 hs hgc).snd A.enc {aL 6 with b:=R.sc.b,s:=s,c:=c} (fK R.sc.g R.sc.i R.sc.g R.sc.sz)).Ah HA (s:=s) (i:=R.sc.i) (by omega);refine⟨h1,?_,h3,h4⟩;have hol:=jm R.sc.g R.sc.i R.sc.g R.sc.sz;rw[kJ]at h2;have:(uu {R with props:=upd R.props s (some c)} s c).out.length=R.out.length:=rfl;exact Jb1 h2 (by omega)
variable{Λ:bW}{w:World}{br:Nat}{R:MR}
theorem IG(h:Wk Λ br R w)(ho:Ok A R){s:Nat}(hs:s<60){c:MC}(hgc:A.gc c){cv:Value}(hc:kF w cv c)(hb:R.out.length<=870000):CY 181 #[Ptt br,.int .u32 s,cv] w (λv w'=>v=.tuple #[]/\Wk Λ br (iK A R s c) w'/\Kz w w'):=by
 obtain⟨rv,dv,rfl,hr⟩:=hc;refine aj Tryz.func181 rfl rfl ?_;intro w1 b1 m1 g1 l1;obtain⟨a,h⟩:=h;have h1:=h.box g1 m1 l1;have u1:=h.rU l1;have hi:=ho.i;have hz:=ho.sz;obtain⟨f,e1,e2,e3⟩:=h1.ri.pp;refine⟨by kernel_rfl,_,_,h1.ri.mem,_,rfl,_,_,m1,_,rfl,rfl,f,e1,λw2 m2 g2=>?_⟩;have k2:=h1.ri.kz h1.ri.wS g2;have kk:=g1.kz.trans k2;have h2:Wk _ br {R with props:=upd R.props s (some c)} w2:=⟨_,h1.step h1.ri.wS g2 (h1.ri.LV g2 (bT.put (λ_ _ h=>h.kz k2) e2 e3 ⟨rv,dv,rfl,hr.kz kk⟩ m2))⟩;refine⟨_,_,h2.at,_,rfl,rfl,_,OY h2 (c:=c) ⟨_,_,rfl,hr.kz kk⟩,?_⟩;rintro _ w3 ⟨rfl,h3,k3⟩;have kk:=kk.trans k3;refine⟨_,_,h3.at,_,rfl,rfl,_,Yj HA.nW h3 hz (c:=c) ⟨_,_,rfl,hr.kz kk⟩ (by show R.out.length<=_;omega),?_⟩;rintro _ w4 ⟨rfl,h4,k4⟩;have kk:=kk.trans k4;have o4:=((ho.LV hs hgc).E5 hs hgc).snd A.enc {aL 6 with b:=R.sc.b,s:=s,c:=c} (fK R.sc.g R.sc.i R.sc.g R.sc.sz);have h4':=h4.drop u1;obtain⟨a4,h4⟩:=h4;have hol:=jm R.sc.g R.sc.i R.sc.g R.sc.sz;refine⟨_,_,h4.ri.mem,_,rfl,_,O3 HA h4' o4 s R.sc.i hs (by omega) (by unfold LY;rw[kJ];show R.out.length+(fK R.sc.g R.sc.i R.sc.g R.sc.sz).length<=_;omega),?_⟩;rintro _ w5 ⟨rfl,h5,k5⟩;exact⟨rfl,h5,kk.trans k5⟩
end
def rW(a b:aW):Bool:=a.c==b.c&&(a.s==b.s&&(a.k==b.k&&(a.key==b.key&&(a.v==b.v&&(a.hi==b.hi&&(a.to==b.to&&true))))))
def qF(a b:MC):Bool:=a.kind==b.kind&&(rW a.q b.q&&(a.r.src==b.r.src&&(a.r.seq==b.r.seq&&(a.peer==b.peer&&a.seq==b.seq))))
theorem ZN(w:World)(a b:MC)(rv dv rv' jU:Value):CY 197 #[.agg (dF a rv dv).toArray,.agg (dF b rv' jU).toArray] w (λv w'=>v=.bool (qF a b)/\GB none w w'):=by
 refine aj Tryz.func197 rfl rfl ?_;intro w1 b1 m1 g1 l1 w2 b2 m2 g2 l2;have m1:=g2.get m1 nofun;have gg:GB none w w2:=g1.trans g2;refine⟨_,_,m1,_,rfl,_,_,m2,_,rfl,ah (λc=>?_) (λc=>?_)⟩
 .have c1:(a.kind==b.kind)=true:=eq_of_beq c
  refine⟨_,_,m1,_,rfl,rfl,_,_,m2,_,rfl,rfl,ah (λc=>?_) (λc=>?_)⟩
  .have c2:rW a.q b.q=true:=eq_of_beq c
   refine⟨_,_,m1,_,rfl,_,_,m2,_,rfl,ah (λc=>?_) (λc=>?_)⟩
   .have c3:(a.r.src==b.r.src)=true:=eq_of_beq c
    refine⟨_,_,m1,_,rfl,_,_,m2,_,rfl,ah (λc=>?_) (λc=>?_)⟩
    .have c4:(a.r.seq==b.r.seq)=true:=eq_of_beq c
     refine⟨_,_,m1,_,rfl,_,_,m2,_,rfl,ah (λc=>?_) (λc=>?_)⟩
     .have c5:(a.peer==b.peer)=true:=eq_of_beq c
      exact⟨_,_,m1,_,rfl,_,_,m2,_,rfl,vb (by unfold qF;rw[c1,c2,c3,c4,c5];rfl),gg⟩
     .have c5:(a.peer==b.peer)=false:=by simpa using c
      exact⟨vb (by unfold qF;rw[c1,c2,c3,c4,c5];rfl),gg⟩
    .have c4:(a.r.seq==b.r.seq)=false:=by simpa using c
     exact⟨vb (by unfold qF;rw[c1,c2,c3,c4];rfl),gg⟩
   .have c3:(a.r.src==b.r.src)=false:=by simpa using c
    exact⟨vb (by unfold qF;rw[c1,c2,c3];rfl),gg⟩
  .have c2:rW a.q b.q=false:=by cases h:rW a.q b.q;rfl;unfold rW at h;rw[h]at c;cases c
   exact⟨vb (by unfold qF;rw[c1,c2];rfl),gg⟩
 .have c1:(a.kind==b.kind)=false:=by simpa using c
  exact⟨vb (by unfold qF;rw[c1];rfl),gg⟩
theorem GB.new{w0 w w':World}{x:Nat}(h:GB none w0 w)(k:GB (some x) w w')(hx:w0.heap.size<=x):GB none w0 w' :=
 ⟨k.os.trans h.os,k.out.trans h.out,Jb1 h.size k.size,λy hy _=>(k.block y (Jbz hy h.size) (λe=>by cases e;omega)).trans (h.block y hy nofun)⟩
def lT(g:Nat->Option MC)(c:MC):Bool:=(List.range 60).any λk=>match g k with
 |some d=>qF d c
 |none=>false
theorem GK{g:Nat->Option MC}{c:MC}(hk:∀k d,g k=some d->k<60):lT g c=true↔∃k d,g k=some d/\qF d c=true:=by
 unfold lT;rw[any_eq_true];constructor
 .rintro⟨k,_,h⟩
  cases hg:g k with
  |none=>rw[hg]at h;cases h
  |some d=>rw[hg]at h;exact⟨k,d,hg,h⟩
 .rintro⟨k,d,hg,h⟩
  exact⟨k,Jc3.2 (hk k d hg),by rw[hg];exact h⟩
theorem mem_erase{α:Type}{l:List α}{i:Nat}{x y:α}(hx:x∈l)(hy:l[i]?=some y)(hn:x≠y):x∈l.eraseIdx i:=by
 rw[Jfv];obtain⟨j,hj⟩:=Jdf.1 hx;exact⟨j,λe=>hn (by subst e;rw[hj]at hy;exact Jbm hy),hj⟩
theorem E8{w:World}{m:Nat}{g:Nat->Option MC}(hg:bT kF w m g)(hk:∀k d,g k=some d->k<60){c:MC}{cv:Value}(hc:kF w cv c):CY 180 #[.map (some m),cv] w (λv w'=>v=.bool (lT g c)/\GB none w w'):=by
 obtain⟨rv,dv,rfl,hr⟩:=hc;refine aj Tryz.func180 rfl rfl ?_;intro w1 b1 m1 g1 l1;obtain⟨f,⟨l,hl,hlf⟩,e2,e3⟩:=hg;refine⟨l,hl.keep (g1.block _ (fZ.lt ⟨l,hl,hlf⟩) nofun),λw2 it i2 g2 l2=>?_⟩;have hn:(l.map Prod.fst).Nodup:=by obtain⟨_,_,_,_,_,_,_,_,_,_,_,_,_,h,_⟩:=i2;exact h
 have hmem:∀p∈l,∃(k:Nat) (d:MC),p.1=k/\g k=some d/\kF w p.2 d:=by
  intro p hp;have h1:f p.1=some p.2:=by rw[<-hlf];exact(xH hn).2 hp
  obtain⟨k,hk⟩:∃k:Nat,p.1=k:=by
   rcases(by omega:p.1<0\/0<=p.1)with h0|h0
   .rw[e2 _ h0]at h1;cases h1
   .exact⟨p.1.toNat,by omega⟩
  rw[hk]at h1;rcases kI e3 k with⟨n1,n2⟩|⟨x,v,n1,n2,n3⟩
  .rw[n2]at h1;cases h1
  .rw[n2]at h1;cases h1;exact⟨k,x,hk,n1,n3⟩
 refine⟨λn s w'=>∃(todo:List (Int×Value)) (cur:Option (Int×Value)),n=todo.length/\s=[(0,.map (some m)),(3,Ptt b1),(8,Ptt it)]/\nS w' it m l todo cur/\GB none w w'/\Hl w' b1 (dF c rv dv) 80/\(∀p∈todo,p∈l)/\∀k d,g k=some d->qF d c=true->∃v,((k:Int),v)∈todo,⟨_,_,⟨l,none,rfl,rfl,i2,g1.trans g2,g2.get m1 nofun,λ_ h=>h,?_⟩,sb rfl⟩,?_⟩
 .intro k d ny _
  rcases kI e3 k with⟨n1,n2⟩|⟨x,v,n1,n2,n3⟩
  .rw[n1]at ny;cases ny
  .exact⟨v,(xH hn).1 (by rw[hlf];exact n2)⟩
 rintro n s w3 ⟨todo,cur,rfl,rfl,i3,g3,m3,hsub,hinv⟩;refine⟨m,l,todo,cur,i3,λh0=>?_,?_⟩
 .subst h0
  have:lT g c=false:=by
   cases h:lT g c with
   |false=>rfl
   |true=>obtain⟨k,d,h1,h2⟩:=(GK hk).1 h;obtain⟨v,hv⟩:=hinv k d h1 h2;cases hv
  rw[this];exact⟨rfl,g3⟩
 .rintro i ⟨pk,pv⟩ w4 hi i4 g4
  obtain⟨k,d,rfl,ny,rv',jU,rfl,hr'⟩:=hmem _ (hsub _ (Jcv hi));obtain⟨ra,rn,rc,da,dn,dc,rfl,rfl⟩:=hr'.sl;refine⟨m,l,_,_,i4,λw5 b5 m5 g5 l5=>⟨_,_,_,m5,rfl,rfl,λw6 m6 g6=>?_⟩⟩;have hit:it<w3.heap.size:=by obtain⟨_,_,_,_,_,_,_,_,_,_,_,h,_⟩:=i3;exact ae h
  have Ck:GB none w4 w6:=g5.new g6 l5;have uQ:GB none w w4:=g3.new g4 (Jb1 (g1.size) l2);have hb1:b1<w1.heap.size:=ae m1;have m4:w4.heap[b1]?=_:=g4.get m3 λe=>by cases e;omega
  have g6':=uQ.trans Ck;refine⟨_,_,m6,dF d (.slice ra rn rc) (.slice da dn dc),rfl,rfl,_,_,Ck.get m4 nofun,_,rfl,rfl,_,ZN w6 d c _ _ _ _,?_⟩;rintro _ w7 ⟨rfl,g7⟩;refine ah (λe=>?_) (λe=>?_)
  .have e1:qF d c=true:=e
   have:lT g c=true:=(GK hk).2 ⟨k,d,ny,e1⟩;rw[this];exact⟨rfl,g6'.trans g7⟩
  .have e1:qF d c=false:=e
   have hil:i<todo.length:=(Jcn.1 hi).1;refine⟨_,_,⟨todo.eraseIdx i,_,rfl,rfl,i4.keep ((Ck.trans g7).block _ (Jbz hit g4.size) nofun) ((Ck.trans g7).block _ (Jbz (fZ.lt ⟨l,i3.map,hlf⟩) g4.size) nofun),g6'.trans g7,(Ck.trans g7).get m4 nofun,λp hp=>hsub p (Jdj hp),?_⟩,(sb rfl),?_⟩
   .intro k' d' h1 h2
    obtain⟨v,hv⟩:=hinv k' d' h1 h2;refine⟨v,mem_erase hv hi λe=>?_⟩;have e':(k':Int)=k:=congrArg Prod.fst e;obtain rfl:k'=k:=by omega
    rw[ny]at h1;cases h1
    rw[e1]at h2;cases h2
   .rw[length_eraseIdx,Jb6 hil];omega
end
