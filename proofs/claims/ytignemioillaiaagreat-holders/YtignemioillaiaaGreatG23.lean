/- Lemmas. -/
import Derived.Test.YtignemioillaiaaGreatG22
namespace Go.Proofs.YtignemioillaiaaGreat
set_option maxHeartbeats 8000000
set_option maxRecDepth 100000
open List
section
open Go Go.Conc
def Cq(f:Bool):List Int:=[if f then 1 else 0]
def fE(n i:Int):List Int:=b32 n++[i]
def sN(x:Row):List Int:=b64 x.key++b64 x.val
def ny(p:aA):List Int:=[p.c]++b32 p.s++b64 p.key++[p.k]++(if p.k=1 then Cq p.found++(if p.found then b64 p.v else[])else if p.k=3 then[p.g]else[])
def uE(q:bQ):List Int:=[q.c]++b32 q.s++[q.k]++b64 q.key++(if q.k=2 then b64 q.v else if q.k=4 then b64 q.hi++[q.to]else[])
section
variable{w w1 w2:World}{v v1 v2:Value}{n:Nat}{xs:List Value}{a b:List Int}
theorem Put.more(h:Put w v n xs a v1 w1)(k:Put w1 v1 (n+a.length) (xs++Ik a) b v2 w2){x:Nat}{c:Array Value}{t:TypeId}(hx:w1.heap[x]? = some (.cells c t))(ht:t≠5):Put w v n xs (a++b) v2 w2/\w2.heap[x]? = some (.cells c t):=⟨h.trans k,k.get h.row hx ht⟩
theorem Put.eq(h:Put w v n xs a v1 w1)(e:a=b):Put w v n xs b v1 w1:=e▸h
theorem Pq(ho:w.ownsRow 0 5 1 v n xs)(hn:n<=900000000)(f:Bool):ag Tryz.prog 235 #[v,.bool f] w (λv' w'=>Put w v n xs (Cq f) v' w'):=by
 refine ah Tryz.func235 rfl rfl ?_;cases f
 ·exact⟨_,dE ho hn 0,λ_ _ h=>h⟩
 ·exact⟨_,dE ho hn 1,λ_ _ h=>h⟩
theorem qH(ho:w.ownsRow 0 5 1 v n xs)(hn:n<=800000000)(k i:Int):ag Tryz.prog 217 #[v,.agg #[.int .u32 k,.int .u8 i]] w (λv' w'=>Put w v n xs (fE k i) v' w'):=by
 refine ah Tryz.func217 rfl rfl ?_;refine λw1 b1 m1 g1 l1=>?_
 refine⟨by kernel_rfl,_,_,m1,_,rfl,_,_,m1,_,rfl,?_⟩;have P:=Put.pre g1 (Put.nil (jP ho g1));refine⟨_,jq P.row (by simp;omega) _,λv2 w2 p2=>?_⟩;obtain⟨P,m1⟩:=P.more p2 m1 (by decide);refine⟨⟨m1,m1,trivial⟩,_,dE P.row (by simp[b32];omega) _,λv3 w3 p3=>?_⟩;exact P.trans p3
theorem Rm(ho:w.ownsRow 0 5 1 v n xs)(hn:n<=700000000)(x:Row):ag Tryz.prog 237 #[v,.agg x.cells.toArray] w (λv' w'=>Put w v n xs (sN x) v' w'):=by
 refine ah Tryz.func237 rfl rfl ?_;refine λw1 b1 m1 g1 l1=>?_
 refine⟨by kernel_rfl,_,_,m1,_,rfl,_,_,m1,_,rfl,?_⟩;have P:=Put.pre g1 (Put.nil (jP ho g1));refine⟨_,mi P.row (by simp;omega) _,λv2 w2 p2=>?_⟩;obtain⟨P,m1⟩:=P.more p2 m1 (by decide);refine⟨⟨m1,m1,trivial⟩,_,mi P.row (by simp[b64,b32];omega) _,λv3 w3 p3=>?_⟩;exact P.trans p3
theorem Il(ho:w.ownsRow 0 5 1 v n xs)(hn:n<=700000000)(p:aA):ag Tryz.prog 216 #[v,.agg p.cells.toArray] w (λv' w'=>Put w v n xs (ny p) v' w'):=by
 refine ah Tryz.func216 rfl rfl ?_;refine λw1 b1 m1 g1 l1=>?_
 have P:=Put.pre g1 (Put.nil (jP ho g1));refine⟨_,_,m1,_,rfl,_,dE P.row (by simp;omega) _,λv2 w2 p2=>?_⟩;obtain⟨P,m1⟩:=P.more p2 m1 (by decide);refine⟨_,_,m1,_,rfl,_,jq P.row (by simp;omega) _,λv2 w2 p2=>?_⟩;obtain⟨P,m1⟩:=P.more p2 m1 (by decide);refine⟨_,_,m1,_,rfl,_,mi P.row (by simp[b32];omega) _,λv2 w2 p2=>?_⟩;obtain⟨P,m1⟩:=P.more p2 m1 (by decide);refine⟨_,_,m1,_,rfl,_,dE P.row (by simp[b32,b64];omega) _,λv2 w2 p2=>?_⟩;obtain⟨P,m1⟩:=P.more p2 m1 (by decide);refine⟨_,_,m1,_,rfl,aj (λc=>?_) (λc=>?_)⟩
 ·have c1:p.k=1:=by simpa using c
  refine⟨_,_,m1,_,rfl,_,Pq P.row (by simp[b32,b64];omega) _,λv2 w2 p2=>?_⟩;obtain⟨P,m1⟩:=P.more p2 m1 (by decide);refine⟨_,_,m1,_,rfl,aj (λd=>?_) (λd=>?_)⟩
  ·refine⟨_,_,m1,_,rfl,_,mi P.row (by simp[b32,b64,Cq];omega) _,λv2 w2 p2=>?_⟩
   exact(P.trans p2).eq (by simp[ny,c1,d])
  ·exact P.eq (by simp[ny,c1,d])
 ·have c1:¬p.k=1:=by simpa using c
  refine aj (λd=>?_) (λd=>?_)
  ·have d1:p.k=3:=by simpa using d
   refine⟨_,_,m1,_,rfl,_,dE P.row (by simp[b32,b64];omega) _,λv2 w2 p2=>?_⟩;exact(P.trans p2).eq (by simp[ny,d1])
  ·have d1:¬p.k=3:=by simpa using d
   exact P.eq (by simp[ny,c1,d1])
theorem Im(ho:w.ownsRow 0 5 1 v n xs)(hn:n<=700000000)(q:bQ):ag Tryz.prog 215 #[v,.agg q.cells.toArray] w (λv' w'=>Put w v n xs (uE q) v' w'):=by
 refine ah Tryz.func215 rfl rfl ?_;refine λw1 b1 m1 g1 l1=>?_
 have P:=Put.pre g1 (Put.nil (jP ho g1));refine⟨_,_,m1,_,rfl,_,dE P.row (by simp;omega) _,λv2 w2 p2=>?_⟩;obtain⟨P,m1⟩:=P.more p2 m1 (by decide);refine⟨_,_,m1,_,rfl,_,jq P.row (by simp;omega) _,λv2 w2 p2=>?_⟩;obtain⟨P,m1⟩:=P.more p2 m1 (by decide);refine⟨_,_,m1,_,rfl,_,dE P.row (by simp[b32];omega) _,λv2 w2 p2=>?_⟩;obtain⟨P,m1⟩:=P.more p2 m1 (by decide);refine⟨_,_,m1,_,rfl,_,mi P.row (by simp[b32];omega) _,λv2 w2 p2=>?_⟩;obtain⟨P,m1⟩:=P.more p2 m1 (by decide);refine⟨_,_,m1,_,rfl,aj (λc=>?_) (λc=>?_)⟩
 ·have c1:q.k=2:=by simpa using c
  refine⟨_,_,m1,_,rfl,_,mi P.row (by simp[b32,b64];omega) _,λv2 w2 p2=>?_⟩;exact(P.trans p2).eq (by simp[uE,c1])
 ·have c1:¬q.k=2:=by simpa using c
  refine aj (λd=>?_) (λd=>?_)
  ·have d1:q.k=4:=by simpa using d
   refine⟨_,_,m1,_,rfl,_,mi P.row (by simp[b32,b64];omega) _,λv2 w2 p2=>?_⟩;obtain⟨P,m1⟩:=P.more p2 m1 (by decide);refine⟨_,_,m1,_,rfl,_,dE P.row (by simp[b32,b64];omega) _,λv2 w2 p2=>?_⟩;exact(P.trans p2).eq (by simp[uE,d1])
  ·have d1:¬q.k=4:=by simpa using d
   exact P.eq (by simp[uE,c1,d1])
end
theorem bU.yB(Λ:bU)(b:Nat)(o:Obj):(Λ.add b o).pr b=some o:=by unfold bU.add;simp
structure Ok(A:aO)(R:MR):Prop where
 sz:R.sc.sz<=5
 i:R.sc.i<R.sc.sz/\R.sc.g<R.sc.gs/\R.sc.gs<=4/\R.sc.gs=A.N
 st:A.good R.log.length R.st
 kn:∀k c,R.known k=some c->A.gc c/\k<60
 pp:∀k c,R.props k=some c->A.gc c/\k<60
 vt:∀k v,R.cK k=some v->A.gc v.c/\k<60/\v.slot=k
 wv:∀k v,R.fM k=some v->A.gc v.c/\k<60/\v.slot=k
 mt:∀k v,R.met k=some v->A.gc v.c/\k<60/\v.slot=k
 ac:∀k c,R.acc k=some c->c<32
 pr:R.sc.prom<32
 lg:R.log.length<=60
 lc:∀c∈R.log,A.gc c
 nx:R.sc.next<=60
 sn:R.sc.seen<=4294967295/\R.sc.b.n<=4294967295/\R.sc.wb.n<=4294967295
section
variable{A:aO}{R:MR}
theorem Ok.snd(h:Ok A R)(enc:MM->ByteArray)(m:MM)(tl:List (Nat×Nat)):Ok A (lJ enc R m tl):=⟨h.sz,h.i,h.st,h.kn,h.pp,h.vt,h.wv,h.mt,h.ac,h.pr,h.lg,h.lc,h.nx,h.sn⟩
theorem Ok.ans(h:Ok A R)(c:MC)(p:aA):Ok A (nR A R c p):=by
 unfold nR;split
 ·exact h.snd _ _ _
 ·split
  ·exact h.snd _ _ _
  ·exact h
theorem UK(R:MR)(c:MC)(p:aA)(hz:R.sc.sz<=5):(nR A R c p).out.length<=R.out.length+5:=by
 unfold nR;split
 ·rw[Cn,kD];simp
 ·split
  ·rw[zo,kD];have:=jf R.sc.g R.sc.i c.r.src.toNat R.sc.sz;omega
  ·omega
theorem D8(R:MR)(c:MC)(p:aA):(nR A R c p).log=R.log/\(nR A R c p).known=R.known/\(nR A R c p).sc=R.sc:=by
 unfold nR;split
 ·exact⟨rfl,rfl,rfl⟩
 ·split
  ·exact⟨rfl,rfl,rfl⟩
  ·exact⟨rfl,rfl,rfl⟩
theorem Ok.do(HA:bH A)(h:Ok A R){c:MC}(hc:A.gc c)(hl:R.log.length<60):Ok A (pI A R c):=by
 have h1:Ok A { R with st:=(A.ap R.st c).1,log:=R.log++[c] }:=⟨h.sz,h.i,HA.next h.st (Nat.le_of_lt hl) hc,h.kn,h.pp,h.vt,h.wv,h.mt,h.ac,h.pr,by simp;omega,λx hx=>(mem_append.1 hx).elim (h.lc x) (λe=>by simp at e;rw[e];exact hc),h.nx,h.sn⟩;unfold pI;split
 ·exact h1.ans _ _
 ·exact h1
theorem Io(R:MR)(c:MC)(hz:R.sc.sz<=5):(pI A R c).out.length<=R.out.length+5/\(pI A R c).log=R.log++[c]/\(pI A R c).known=R.known/\(pI A R c).sc=R.sc:=by
 unfold pI;split
 ·exact⟨UK _ _ _ hz,(D8 _ _ _).1,(D8 _ _ _).2.1,(D8 _ _ _).2.2⟩
 ·exact⟨by show R.out.length<=_;omega,rfl,rfl,rfl⟩
theorem Ok.known(h:Ok A R){f:Nat->Option MC}(hf:∀k c,f k=some c->A.gc c/\k<60):Ok A { R with known:=f }:=⟨h.sz,h.i,h.st,hf,h.pp,h.vt,h.wv,h.mt,h.ac,h.pr,h.lg,h.lc,h.nx,h.sn⟩
theorem Di{n:Nat}(h:R.known R.log.length=none):gL A (n+1) R=R:=by
 rw[gL,h]
theorem Dj{n:Nat}{c:MC}(h:R.known R.log.length=some c):gL A (n+1) R=gL A n (pI A { R with known:=upd R.known R.log.length none } c):=by
 rw[gL,h]
theorem Km{α:Type}{f:Nat->Option α}{P:Nat->α->Prop}(hf:∀k c,f k=some c->P k c){j:Nat}{o:Option α}(ho:∀c,o=some c->P j c):∀k c,upd f j o k=some c->P k c:=by
 intro k c h;unfold upd at h;split at h
 ·rename_i e;subst e;exact ho c h
 ·exact hf k c h
theorem sP{α:Type}{f:Nat->Option α}{P:Nat->α->Prop}(hf:∀k c,f k=some c->P k c)(j:Nat):∀k c,upd f j none k=some c->P k c:=Km hf λ_ e=>by cases e
theorem mY{α:Type}{f:Nat->Option α}{P:Nat->α->Prop}(hf:∀k c,f k=some c->P k c){j:Nat}{x:α}(hx:P j x):∀k c,upd f j (some x) k=some c->P k c:=Km hf λ_ e=>by cases e;exact hx
end
section
variable{A:aO}(HA:bH A){Λ:bU}{w:World}{br:Nat}{R:MR}
include HA
theorem UL(h:Wk Λ br R w)(ho:Ok A R)(hb:R.out.length<=890000):ag Tryz.prog 170 #[Ptt br] w (λv w'=>v=.tuple #[]/\Wk Λ br (gL A 61 R) w'/\Kz w w'):=by
 refine ah Tryz.func170 rfl rfl ?_;refine⟨λm s w1=>∃R':MR,gL A 61 R=gL A m R'/\m+R'.log.length=61+R.log.length/\s=[(0,Ptt br)]/\Wk Λ br R' w1/\Ok A R'/\R'.out.length<=R.out.length+5*R'.log.length/\Kz w w1,⟨_,_,⟨R,rfl,rfl,rfl,h,ho,by omega,Kz.refl _⟩,rfl,trivial⟩,?_⟩;rintro m s w1 ⟨R',em,el,rfl,⟨a,h1⟩,o1,hl1,k1⟩;have Ws:=o1.lg;obtain⟨m,rfl⟩:∃n,m=n+1:=⟨m - 1,by omega⟩;obtain⟨vm,wm,kn,mt,pp,ac,lg,ob,sT,sM,sD,sO,sI⟩:=a;obtain⟨la,lc,rfl⟩:∃la lc,lg=.slice la R'.log.length lc:=by obtain⟨_,_,h,_⟩:=h1.ri.lg;exact af h
 obtain⟨f,e1,e2,e3⟩:=h1.ri.kn;refine⟨_,_,h1.ri.mem,_,rfl,.inl ⟨by omega,_,_,h1.ri.mem,_,rfl,f,e1,λw2 b2 m2 g2 l2=>?_⟩⟩;rcases kC e3 R'.log.length with⟨n1,n2⟩|⟨c,v,n1,n2,rv,dv,rfl,hr⟩
 ·rw[n2]
  refine⟨_,_,_,m2,rfl,rfl,λw3 m3 g3=>?_⟩;have g13:GB none w1 w3:=⟨g3.os.trans g2.os,g3.out.trans g2.out,Nat.le_trans g2.size g3.size,λx hx _=>(g3.block x (Nat.lt_of_lt_of_le hx g2.size) (λe=>by cases e;omega)).trans (g2.block x hx nofun)⟩;have xe:=em.trans (Di n1);exact⟨rfl,by rw[xe];exact⟨_,h1.au g13⟩,k1.trans g13.kz⟩
 ·rw[n2]
  obtain⟨ra,rn,rc,da,dn,dc,rfl,rfl⟩:=hr.sl;refine⟨_,_,_,m2,rfl,rfl,λw3 m3 g3=>?_⟩;have g13:GB none w1 w3:=⟨g3.os.trans g2.os,g3.out.trans g2.out,Nat.le_trans g2.size g3.size,λx hx _=>(g3.block x (Nat.lt_of_lt_of_le hx g2.size) (λe=>by cases e;omega)).trans (g2.block x hx nofun)⟩;have xe:=em.trans (Dj n1);obtain⟨hgc,uL⟩:=o1.kn _ _ n1;have h3:=h1.box g13 m3 l2;have u3:=h1.q9 l2;obtain⟨f,e1,e2,e3⟩:=h3.ri.kn;refine⟨_,_,h3.ri.mem,_,rfl,f,e1,λw4 m4 g4=>?_⟩;have k34:=h3.ri.kz h3.ri.vV g4;have h4:=h3.step h3.ri.vV g4 (h3.ri.Es g4 (bT.del (λ_ _ h=>h.kz k34) e2 e3 m4));have Wt:=(h4.pr b2 _ (bU.yB _ _ _)).1;have o4:Ok A { R' with known:=upd R'.known R'.log.length none }:=o1.known (sP o1.kn _);have hc4:kr w4 (.agg (dC c (.slice ra rn rc) (.slice da dn dc)).toArray) c:=⟨.slice ra rn rc,.slice da dn dc,rfl,(hr.kz g13.kz).kz k34⟩;refine⟨_,_,Wt,dC c (.slice ra rn rc) (.slice da dn dc),rfl,rfl,_,acn HA (c:=c) ⟨_,h4⟩ hc4 o4.lg o4.st hgc o4.sz (by show R'.log.length<=_;omega) (by show R'.out.length<=_;omega),?_⟩;rintro _ w5 ⟨rfl,h5,k5⟩;obtain⟨q1,q2,q3,q4⟩:=Io (A:=A) { R' with known:=upd R'.known R'.log.length none } c o4.sz;refine⟨m,_,⟨_,xe,by rw[q2];simp;omega,rfl,h5.drop u3,o4.do HA hgc uL,?_,((k1.trans g13.kz).trans k34).trans k5⟩,⟨rfl,trivial⟩,by omega⟩;rw[q2,length_append];show _<=R.out.length+5*(R'.log.length+1);have:({ R' with known:=upd R'.known R'.log.length none }:MR).out.length=R'.out.length:=rfl;omega
theorem Kn(h:Wk Λ br R w)(ho:Ok A R){s:Nat}(hs:s<60){c:MC}(hgc:A.gc c){cv:Value}(hc:kr w cv c)(hb:R.out.length<=890000):ag Tryz.prog 120 #[Ptt br,.int .u32 s,cv] w (λv w'=>v=.tuple #[]/\Wk Λ br (iZ A R s c) w'/\Kz w w'):=by
 obtain⟨rv,dv,rfl,hr⟩:=hc;refine ah Tryz.func120 rfl rfl ?_;intro w1 b1 m1 g1 l1;obtain⟨a,h⟩:=h;have h1:=h.box g1 m1 l1;have u1:=h.q9 l1;have Ws:=ho.lg;obtain⟨vm,wm,kn,mt,pp,ac,lg,ob,sT,sM,sD,sO,sI⟩:=a;obtain⟨la,lc,rfl⟩:∃la lc,lg=.slice la R.log.length lc:=by obtain⟨_,_,h,_⟩:=h1.ri.lg;exact af h
 unfold iZ;refine⟨_,_,h1.ri.mem,_,rfl,.inl ⟨by omega,aj (λd=>?_) (λd=>?_)⟩⟩
 ·have d1:s<R.log.length:=by simp at d;omega
  rw[if_pos d1];exact⟨rfl,Wk.drop ⟨_,h1⟩ u1,g1.kz⟩
 have d1:¬s<R.log.length:=by simp at d;omega
 rw[if_neg d1];obtain⟨f,e1,e2,e3⟩:=h1.ri.pp;refine⟨_,_,h1.ri.mem,_,rfl,f,e1,λw2 m2 g2=>?_⟩;have k2:=h1.ri.kz h1.ri.vW g2;have h2:=h1.step h1.ri.vW g2 (h1.ri.Kh g2 (bT.del (λ_ _ h=>h.kz k2) e2 e3 m2));obtain⟨f,e1,e2,e3⟩:=h2.ri.ac;refine⟨_,_,h2.ri.mem,_,rfl,f,e1,λw3 m3 g3=>?_⟩;have k3:=h2.ri.kz h2.ri.vX g3;have h3:=h2.step h2.ri.vX g3 (h2.ri.ac' g3 (bT.del (rel:=nG) (w:=w2) (λv x (h:nG w2 v x)=>(show nG w3 v x from h)) e2 e3 m3));have hnx:=ho.nx;have GJ:(if((s:Int)+1) > (R.sc.next:Int)then((s:Int)+1)else(R.sc.next:Int))=((max R.sc.next (s+1):Nat):Int):=by split<;>omega
 refine⟨_,_,h3.ri.mem,_,rfl,by omega,_,_,pG { R with props:=upd R.props s none,acc:=upd R.acc s none,sc:={ R.sc with next:=max R.sc.next (s+1) } } ⟨vm,wm,kn,mt,pp,ac,.slice la R.log.length lc,ob,sT,sM,sD,sO,sI⟩,h3.ri.mem,rfl,by unfold pG;dsimp only;rw[<-GJ];rfl,λw4 m4 g4=>?_⟩;have h4:=h3.cell (s':={ R.sc with next:=max R.sc.next (s+1) }) m4 g4;have k4:=h3.ri.kz h3.ri.jo g4;have Fu:w4.heap[b1]? = _:=(h4.pr b1 _ (bU.yB _ _ _)).1;obtain⟨f,e1,e2,e3⟩:=h4.ri.kn;refine⟨by kernel_rfl,_,_,h4.ri.mem,_,rfl,_,_,Fu,_,rfl,rfl,f,e1,λw5 m5 g5=>?_⟩;have k5:=h4.ri.kz h4.ri.vV g5;have kk:=(((g1.kz.trans k2).trans k3).trans k4).trans k5;have h5:=h4.step h4.ri.vV g5 (h4.ri.Es g5 (bT.put (λ_ _ h=>h.kz k5) e2 e3 ⟨rv,dv,rfl,hr.kz kk⟩ m5));refine⟨_,UL HA (Wk.drop ⟨_,h5⟩ u1) ⟨ho.sz,ho.i,ho.st,mY (P:=λk c=>A.gc c/\k<60) ho.kn ⟨hgc,hs⟩,sP ho.pp s,ho.vt,ho.wv,ho.mt,sP ho.ac s,ho.pr,ho.lg,ho.lc,by show max R.sc.next (s+1)<=60;omega,ho.sn⟩ hb,?_⟩;rintro _ w6 ⟨rfl,h6,k6⟩;exact⟨rfl,h6,kk.trans k6⟩
end
section
variable(A:aO)
def gu(R:MR)(s i:Nat):Nat:=je ((R.acc s).getD 0) i
def jJ(R:MR)(s i:Nat):MR:=match R.props s with
 |none=>R
 |some c=>if 2*pc (gu R s i) > R.sc.sz then iZ A (lJ A.enc { R with acc:=upd R.acc s (some (gu R s i)) } { aN 8 with s:=s,c:=c } (fU R.sc.g R.sc.i R.sc.g R.sc.sz)) s c else{ R with acc:=upd R.acc s (some (gu R s i)) }
def iF(R:MR)(s:Nat)(c:MC):MR:=jJ A (Kj A.enc (tL { R with props:=upd R.props s (some c) } s c) s c) s R.sc.i
end
theorem aaq{w:World}{g:Nat->Option Nat}{f:Int->Option Value}{k:Nat}(h:(g k=none/\f k=none)\/∃x v,g k=some x/\f k=some v/\nG w v x):(f k).getD (.int .u8 0)=.int .u8 ((g k).getD 0:Nat):=by
 rcases h with⟨n1,n2⟩|⟨x,v,n1,n2,n3⟩
 ·rw[n1,n2];rfl
 ·rw[n1,n2];exact n3
section
variable{A:aO}(HA:bH A){Λ:bU}{w:World}{br:Nat}{R:MR}
include HA
theorem Nt(h:Wk Λ br R w)(ho:Ok A R)(s i:Nat)(hs:s<60)(hi:i<5)(hb:R.out.length<=880000):ag Tryz.prog 169 #[Ptt br,.int .u32 s,.int .u8 i] w (λv w'=>v=.tuple #[]/\Wk Λ br (jJ A R s i) w'/\Kz w w'):=by
 refine ah Tryz.func169 rfl rfl ?_;obtain⟨a,h⟩:=h;obtain⟨f,e1,e2,e3⟩:=h.ri.pp;refine⟨_,_,h.ri.mem,_,rfl,f,e1,λw2 b2 m2 g2 l2=>?_⟩;rcases kC e3 s with⟨n1,n2⟩|⟨c,v,n1,n2,rv,dv,rfl,hr⟩
 ·have em:jJ A R s i=R:=by unfold jJ;rw[n1]
  rw[n2,em];refine⟨_,_,_,m2,rfl,rfl,λw3 m3 g3=>?_⟩;have g13:GB none w w3:=⟨g3.os.trans g2.os,g3.out.trans g2.out,Nat.le_trans g2.size g3.size,λx hx _=>(g3.block x (Nat.lt_of_lt_of_le hx g2.size) (λe=>by cases e;omega)).trans (g2.block x hx nofun)⟩;exact⟨rfl,⟨_,h.au g13⟩,g13.kz⟩
 rw[n2];obtain⟨ra,rn,rc,da,dn,dc,rfl,rfl⟩:=hr.sl;refine⟨_,_,_,m2,rfl,rfl,λw3 m3 g3=>?_⟩;have g13:GB none w w3:=⟨g3.os.trans g2.os,g3.out.trans g2.out,Nat.le_trans g2.size g3.size,λx hx _=>(g3.block x (Nat.lt_of_lt_of_le hx g2.size) (λe=>by cases e;omega)).trans (g2.block x hx nofun)⟩;obtain⟨hgc,uL⟩:=ho.pp _ _ n1;have h3:=h.box g13 m3 l2;have u3:=h.q9 l2;obtain⟨f,e1,e2,e3⟩:=h3.ri.ac;have hq:=aaq (kC e3 s);have hlt:(R.acc s).getD 0<32:=by
  cases hh:R.acc s with
  |none=>decide
  |some x=>exact ho.ac _ _ hh
 refine⟨by kernel_rfl,_,_,h3.ri.mem,_,rfl,_,_,h3.ri.mem,_,rfl,?_⟩;refine⟨f,e1,?_⟩;rw[show(f s).getD (zv fD.T 149 ((fD.T.get 149).getD Ty.p))=_ from hq];refine⟨_,Np w3 _ i hlt hi,?_⟩;rintro _ w4 ⟨rfl,rfl⟩;refine⟨⟨e1,h3.ri.mem,h3.ri.mem,trivial⟩,f,e1,λw5 m5 g5=>?_⟩;have k5:=h3.ri.kz h3.ri.vX g5;have h5:=h3.step h3.ri.vX g5 (h3.ri.ac' g5 (bT.put (rel:=nG) (x:=gu R s i) (λv x (h:nG w4 v x)=>(show nG w5 v x from h)) e2 e3 rfl m5));have hw:=vZ hlt hi;have kk:=g13.kz.trans k5;have hup:((qg f s (some (.int .u8 (gu R s i:Nat)))) s).getD (.int .u8 0)=.int .u8 (gu R s i:Nat):=by unfold qg;rw[if_pos rfl];rfl
 refine⟨by kernel_rfl,_,_,h5.ri.mem,_,rfl,_,m5,_,_,h5.ri.mem,_,rfl,?_⟩;rw[show((qg f s (some (.int .u8 (je ((R.acc s).getD 0) i:Nat)))) s).getD (zv fD.T 149 ((fD.T.get 149).getD Ty.p))=_ from hup];refine⟨_,Nn w5 _ _ hw,?_⟩;rintro _ w6 ⟨rfl,rfl⟩;refine aj (λd=>?_) (λd=>?_)
 ·have d1:2*pc (gu R s i) > R.sc.sz:=Ptq d
  have em:jJ A R s i=iZ A (lJ A.enc { R with acc:=upd R.acc s (some (gu R s i)) } { aN 8 with s:=s,c:=c } (fU R.sc.g R.sc.i R.sc.g R.sc.sz)) s c:=by unfold jJ;rw[n1];exact if_pos d1
  rw[em];have Wt:=(h5.pr b2 _ (bU.yB _ _ _)).1;have o5:Ok A { R with acc:=upd R.acc s (some (gu R s i)) }:=⟨ho.sz,ho.i,ho.st,ho.kn,ho.pp,ho.vt,ho.wv,ho.mt,mY ho.ac hw,ho.pr,ho.lg,ho.lc,ho.nx,ho.sn⟩;refine⟨by kernel_rfl,_,_,Wt,dC c (.slice ra rn rc) (.slice da dn dc),rfl,rfl,_,zn ⟨_,h5⟩ ho.sz,?_⟩;rintro v w7 ⟨hv,g7⟩;have hol:=jf R.sc.g R.sc.i R.sc.g R.sc.sz;have hsz:=ho.sz;refine⟨⟨g7.get Wt nofun,trivial⟩,_,nQ HA.nI (Wk.au ⟨_,h5⟩ g7) (m:={ aN 8 with s:=s,c:=c }) ⟨_,_,_,_,_,rfl,(hr.kz kk).kz g7.kz,bY.zero _,aM.zero _⟩ hv (by show R.out.length+(fU R.sc.g R.sc.i R.sc.g R.sc.sz).length<=_;omega),?_⟩;rintro _ w8 ⟨rfl,h8,k8⟩;have m8:=h8.at;have kk8:=(kk.trans g7.kz).trans k8;have hc8:kr w8 (.agg (dC c (.slice ra rn rc) (.slice da dn dc)).toArray) c:=⟨_,_,rfl,hr.kz kk8⟩;refine⟨_,_,m8,dC c (.slice ra rn rc) (.slice da dn dc),rfl,rfl,_,Kn HA (h8.drop u3) (o5.snd _ _ _) hs hgc hc8 (by rw[kD];show R.out.length+(fU R.sc.g R.sc.i R.sc.g R.sc.sz).length<=_;omega),?_⟩;rintro _ w9 ⟨rfl,h9,k9⟩;exact⟨rfl,h9,kk8.trans k9⟩
 ·have d1:¬2*pc (gu R s i) > R.sc.sz:=Ptx d
  have em:jJ A R s i={ R with acc:=upd R.acc s (some (gu R s i)) }:=by unfold jJ;rw[n1];exact if_neg d1
  rw[em];exact⟨rfl,Wk.drop ⟨_,h5⟩ u3,kk⟩
end
section
variable{A:aO}(HA:bH A)
include HA
theorem Ok.catch:∀(n:Nat) {R:MR},Ok A R->Ok A (gL A n R)/\(gL A n R).out.length<=R.out.length+5*n/\(gL A n R).sc=R.sc
 |0,R,h=>⟨h,by show R.out.length<=_;omega,rfl⟩
 |n+1,R,h=>by
  cases hk:R.known R.log.length with
  |none=>rw[Di hk];exact⟨h,by omega,rfl⟩
  |some c =>
   rw[Dj hk];obtain⟨hgc,uL⟩:=h.kn _ _ hk;have o4:Ok A { R with known:=upd R.known R.log.length none }:=h.known (sP h.kn _);obtain⟨q1,q2,q3,q4⟩:=Io (A:=A) { R with known:=upd R.known R.log.length none } c o4.sz;obtain⟨i1,i2,i3⟩:=Ok.catch n (o4.do HA hgc uL);refine⟨i1,?_,i3.trans q4⟩;have:({ R with known:=upd R.known R.log.length none }:MR).out.length=R.out.length:=rfl;omega
theorem Ok.agree{R:MR}(ho:Ok A R){s:Nat}(hs:s<60){c:MC}(hgc:A.gc c):Ok A (iZ A R s c)/\(iZ A R s c).out.length<=R.out.length+305/\(iZ A R s c).sc.i=R.sc.i/\(iZ A R s c).sc.sz=R.sc.sz:=by
 unfold iZ;split
 ·exact⟨ho,by omega,rfl,rfl⟩
 ·have hnx:=ho.nx
  obtain⟨h1,h2,h3⟩:=Ok.catch HA 61 (R:={ R with props:=upd R.props s none,acc:=upd R.acc s none,sc:={ R.sc with next:=max R.sc.next (s+1) },known:=upd R.known s (some c) }) ⟨ho.sz,ho.i,ho.st,mY (P:=λk c=>A.gc c/\k<60) ho.kn ⟨hgc,hs⟩,sP ho.pp s,ho.vt,ho.wv,ho.mt,sP ho.ac s,ho.pr,ho.lg,ho.lc,by show max R.sc.next (s+1)<=60;omega,ho.sn⟩;exact⟨h1,h2,by rw[h3],by rw[h3]⟩
theorem Ok.zq{R:MR}(ho:Ok A R){s i:Nat}(hi:i<5):Ok A (jJ A R s i)/\(jJ A R s i).out.length<=R.out.length+310/\(jJ A R s i).sc.i=R.sc.i/\(jJ A R s i).sc.sz=R.sc.sz:=by
 unfold jJ;cases hp:R.props s with
 |none=>exact⟨ho,by show R.out.length<=_;omega,rfl,rfl⟩
 |some c =>
  have hlt:(R.acc s).getD 0<32:=by
   cases hh:R.acc s with
   |none=>decide
   |some x=>exact ho.ac _ _ hh
  have o5:Ok A { R with acc:=upd R.acc s (some (gu R s i)) }:=⟨ho.sz,ho.i,ho.st,ho.kn,ho.pp,ho.vt,ho.wv,ho.mt,mY ho.ac (vZ hlt hi),ho.pr,ho.lg,ho.lc,ho.nx,ho.sn⟩;dsimp only;split
  ·obtain⟨h1,h2,h3,h4⟩:=(o5.snd A.enc { aN 8 with s:=s,c:=c } (fU R.sc.g R.sc.i R.sc.g R.sc.sz)).agree HA (ho.pp _ _ hp).2 (ho.pp _ _ hp).1
   refine⟨h1,?_,h3,h4⟩;have hol:=jf R.sc.g R.sc.i R.sc.g R.sc.sz;have hsz:=ho.sz;rw[kD]at h2;have:({ R with acc:=upd R.acc s (some (gu R s i)) }:MR).out.length=R.out.length:=rfl;exact Nat.le_trans h2 (by omega)
  ·exact⟨o5,by show R.out.length<=_;omega,rfl,rfl⟩
omit HA in
theorem Ok.D9{R:MR}(ho:Ok A R){s:Nat}(hs:s<60){c:MC}(hgc:A.gc c):Ok A (tL R s c):=⟨ho.sz,ho.i,ho.st,ho.kn,ho.pp,mY (P:=λk (v:MV)=>A.gc v.c/\k<60/\v.slot=k) ho.vt ⟨hgc,hs,rfl⟩,ho.wv,ho.mt,ho.ac,ho.pr,ho.lg,ho.lc,ho.nx,ho.sn⟩
omit HA in
theorem Ok.Kh{R:MR}(ho:Ok A R){s:Nat}(hs:s<60){c:MC}(hgc:A.gc c):Ok A { R with props:=upd R.props s (some c) }:=⟨ho.sz,ho.i,ho.st,ho.kn,mY (P:=λk c=>A.gc c/\k<60) ho.pp ⟨hgc,hs⟩,ho.vt,ho.wv,ho.mt,ho.ac,ho.pr,ho.lg,ho.lc,ho.nx,ho.sn⟩
theorem Ok.prop{R:MR}(ho:Ok A R){s:Nat}(hs:s<60){c:MC}(hgc:A.gc c):Ok A (iF A R s c)/\(iF A R s c).out.length<=R.out.length+315/\(iF A R s c).sc.i=R.sc.i/\(iF A R s c).sc.sz=R.sc.sz:=by
 unfold iF;have hi:=ho.i;have hz:=ho.sz;obtain⟨h1,h2,h3,h4⟩:=(((ho.Kh hs hgc).D9 hs hgc).snd A.enc { aN 6 with b:=R.sc.b,s:=s,c:=c } (fU R.sc.g R.sc.i R.sc.g R.sc.sz)).zq HA (s:=s) (i:=R.sc.i) (by omega);refine⟨h1,?_,h3,h4⟩;have hol:=jf R.sc.g R.sc.i R.sc.g R.sc.sz;rw[kD]at h2;have:(tL { R with props:=upd R.props s (some c) } s c).out.length=R.out.length:=rfl;exact Nat.le_trans h2 (by omega)
variable{Λ:bU}{w:World}{br:Nat}{R:MR}
theorem GK(h:Wk Λ br R w)(ho:Ok A R){s:Nat}(hs:s<60){c:MC}(hgc:A.gc c){cv:Value}(hc:kr w cv c)(hb:R.out.length<=870000):ag Tryz.prog 202 #[Ptt br,.int .u32 s,cv] w (λv w'=>v=.tuple #[]/\Wk Λ br (iF A R s c) w'/\Kz w w'):=by
 obtain⟨rv,dv,rfl,hr⟩:=hc;refine ah Tryz.func202 rfl rfl ?_;intro w1 b1 m1 g1 l1;obtain⟨a,h⟩:=h;have h1:=h.box g1 m1 l1;have u1:=h.q9 l1;have hi:=ho.i;have hz:=ho.sz;obtain⟨f,e1,e2,e3⟩:=h1.ri.pp;refine⟨by kernel_rfl,_,_,h1.ri.mem,_,rfl,_,_,m1,_,rfl,rfl,f,e1,λw2 m2 g2=>?_⟩;have k2:=h1.ri.kz h1.ri.vW g2;have kk:=g1.kz.trans k2;have h2:Wk _ br { R with props:=upd R.props s (some c) } w2:=⟨_,h1.step h1.ri.vW g2 (h1.ri.Kh g2 (bT.put (λ_ _ h=>h.kz k2) e2 e3 ⟨rv,dv,rfl,hr.kz kk⟩ m2))⟩;refine⟨_,_,h2.at,_,rfl,rfl,_,Nq h2 (c:=c) ⟨_,_,rfl,hr.kz kk⟩,?_⟩;rintro _ w3 ⟨rfl,h3,k3⟩;have kk:=kk.trans k3;refine⟨_,_,h3.at,_,rfl,rfl,_,Wp HA.nI h3 hz (c:=c) ⟨_,_,rfl,hr.kz kk⟩ (by show R.out.length<=_;omega),?_⟩;rintro _ w4 ⟨rfl,h4,k4⟩;have kk:=kk.trans k4;have o4:=((ho.Kh hs hgc).D9 hs hgc).snd A.enc { aN 6 with b:=R.sc.b,s:=s,c:=c } (fU R.sc.g R.sc.i R.sc.g R.sc.sz);have h4':=h4.drop u1;obtain⟨a4,h4⟩:=h4;have hol:=jf R.sc.g R.sc.i R.sc.g R.sc.sz;refine⟨_,_,h4.ri.mem,_,rfl,_,Nt HA h4' o4 s R.sc.i hs (by omega) (by unfold Kj;rw[kD];show R.out.length+(fU R.sc.g R.sc.i R.sc.g R.sc.sz).length<=_;omega),?_⟩;rintro _ w5 ⟨rfl,h5,k5⟩;exact⟨rfl,h5,kk.trans k5⟩
end
def rq(a b:bQ):Bool:=a.c == b.c && (a.s == b.s && (a.k == b.k && (a.key == b.key && (a.v == b.v && (a.hi == b.hi && (a.to == b.to && true))))))
def p8(a b:MC):Bool:=a.kind == b.kind && (rq a.q b.q && (a.r.src == b.r.src && (a.r.seq == b.r.seq && (a.peer == b.peer && a.seq == b.seq))))
theorem X6(w:World)(a b:MC)(rv dv rv' eU:Value):ag Tryz.prog 228 #[.agg (dC a rv dv).toArray,.agg (dC b rv' eU).toArray] w (λv w'=>v=.bool (p8 a b)/\GB none w w'):=by
 refine ah Tryz.func228 rfl rfl ?_;intro w1 b1 m1 g1 l1 w2 b2 m2 g2 l2;have m1:=g2.get m1 nofun;have gg:GB none w w2:=g1.trans g2;refine⟨_,_,m1,_,rfl,_,_,m2,_,rfl,aj (λc=>?_) (λc=>?_)⟩
 ·have c1:(a.kind == b.kind)=true:=eq_of_beq c
  refine⟨_,_,m1,_,rfl,rfl,_,_,m2,_,rfl,rfl,aj (λc=>?_) (λc=>?_)⟩
  ·have c2:rq a.q b.q=true:=eq_of_beq c
   refine⟨_,_,m1,_,rfl,_,_,m2,_,rfl,aj (λc=>?_) (λc=>?_)⟩
   ·have c3:(a.r.src == b.r.src)=true:=eq_of_beq c
    refine⟨_,_,m1,_,rfl,_,_,m2,_,rfl,aj (λc=>?_) (λc=>?_)⟩
    ·have c4:(a.r.seq == b.r.seq)=true:=eq_of_beq c
     refine⟨_,_,m1,_,rfl,_,_,m2,_,rfl,aj (λc=>?_) (λc=>?_)⟩
     ·have c5:(a.peer == b.peer)=true:=eq_of_beq c
      exact⟨_,_,m1,_,rfl,_,_,m2,_,rfl,congrArg Value.bool (by unfold p8;rw[c1,c2,c3,c4,c5];rfl),gg⟩
     ·have c5:(a.peer == b.peer)=false:=by simpa using c
      exact⟨congrArg Value.bool (by unfold p8;rw[c1,c2,c3,c4,c5];rfl),gg⟩
    ·have c4:(a.r.seq == b.r.seq)=false:=by simpa using c
     exact⟨congrArg Value.bool (by unfold p8;rw[c1,c2,c3,c4];rfl),gg⟩
   ·have c3:(a.r.src == b.r.src)=false:=by simpa using c
    exact⟨congrArg Value.bool (by unfold p8;rw[c1,c2,c3];rfl),gg⟩
  ·have c2:rq a.q b.q=false:=by cases h:rq a.q b.q;rfl;unfold rq at h;rw[h]at c;cases c
   exact⟨congrArg Value.bool (by unfold p8;rw[c1,c2];rfl),gg⟩
 ·have c1:(a.kind == b.kind)=false:=by simpa using c
  exact⟨congrArg Value.bool (by unfold p8;rw[c1];rfl),gg⟩
theorem GB.new{w0 w w':World}{x:Nat}(h:GB none w0 w)(k:GB (some x) w w')(hx:w0.heap.size<=x):GB none w0 w' :=
 ⟨k.os.trans h.os,k.out.trans h.out,Nat.le_trans h.size k.size,λy hy _=>(k.block y (Nat.lt_of_lt_of_le hy h.size) (λe=>by cases e;omega)).trans (h.block y hy nofun)⟩
def lK(g:Nat->Option MC)(c:MC):Bool:=(List.range 60).any λk=>match g k with
 |some d=>p8 d c
 |none=>false
theorem Fv{g:Nat->Option MC}{c:MC}(hk:∀k d,g k=some d->k<60):lK g c=true↔∃k d,g k=some d/\p8 d c=true:=by
 unfold lK;rw[any_eq_true];constructor
 ·rintro⟨k,_,h⟩
  cases hg:g k with
  |none=>rw[hg]at h;cases h
  |some d=>rw[hg]at h;exact⟨k,d,hg,h⟩
 ·rintro⟨k,d,hg,h⟩
  exact⟨k,mem_range.2 (hk k d hg),by rw[hg];exact h⟩
theorem mem_erase{α:Type}{l:List α}{i:Nat}{x y:α}(hx:x∈l)(hy:l[i]? = some y)(hn:x≠y):x∈l.eraseIdx i:=by
 rw[mem_eraseIdx_iff_getElem?];obtain⟨j,hj⟩:=mem_iff_getElem?.1 hx;exact⟨j,λe=>hn (by subst e;rw[hj]at hy;exact Option.some.inj hy),hj⟩
theorem Ea{w:World}{m:Nat}{g:Nat->Option MC}(hg:bT kr w m g)(hk:∀k d,g k=some d->k<60){c:MC}{cv:Value}(hc:kr w cv c):ag Tryz.prog 201 #[.map (some m),cv] w (λv w'=>v=.bool (lK g c)/\GB none w w'):=by
 obtain⟨rv,dv,rfl,hr⟩:=hc;refine ah Tryz.func201 rfl rfl ?_;intro w1 b1 m1 g1 l1;obtain⟨f,⟨l,hl,hlf⟩,e2,e3⟩:=hg;refine⟨l,hl.keep (g1.block _ (fP.lt ⟨l,hl,hlf⟩) nofun),λw2 it i2 g2 l2=>?_⟩;have hn:(l.map Prod.fst).Nodup:=by obtain⟨_,_,_,_,_,_,_,_,_,_,_,_,_,h,_⟩:=i2;exact h
 have hmem:∀p∈l,∃(k:Nat) (d:MC),p.1=k/\g k=some d/\kr w p.2 d:=by
  intro p hp;have h1:f p.1=some p.2:=by rw[<-hlf];exact(wT hn).2 hp
  obtain⟨k,hk⟩:∃k:Nat,p.1=k:=by
   rcases(by omega:p.1<0\/0<=p.1)with h0|h0
   ·rw[e2 _ h0]at h1;cases h1
   ·exact⟨p.1.toNat,by omega⟩
  rw[hk]at h1;rcases kC e3 k with⟨n1,n2⟩|⟨x,v,n1,n2,n3⟩
  ·rw[n2]at h1;cases h1
  ·rw[n2]at h1;cases h1;exact⟨k,x,hk,n1,n3⟩
 refine⟨λn s w'=>∃(todo:List (Int×Value)) (cur:Option (Int×Value)),n=todo.length/\s=[(0,.map (some m)),(3,Ptt b1),(8,Ptt it)]/\nE w' it m l todo cur/\GB none w w'/\w'.heap[b1]? = some (.cells (dC c rv dv).toArray 54)/\(∀p∈todo,p∈l)/\∀k d,g k=some d->p8 d c=true->∃v,((k:Int),v)∈todo,⟨_,_,⟨l,none,rfl,rfl,i2,g1.trans g2,g2.get m1 nofun,λ_ h=>h,?_⟩,rfl,rfl,rfl,trivial⟩,?_⟩
 ·intro k d mQ _
  rcases kC e3 k with⟨n1,n2⟩|⟨x,v,n1,n2,n3⟩
  ·rw[n1]at mQ;cases mQ
  ·exact⟨v,(wT hn).1 (by rw[hlf];exact n2)⟩
 rintro n s w3 ⟨todo,cur,rfl,rfl,i3,g3,m3,hsub,hinv⟩;refine⟨m,l,todo,cur,i3,λh0=>?_,?_⟩
 ·subst h0
  have:lK g c=false:=by
   cases h:lK g c with
   |false=>rfl
   |true=>obtain⟨k,d,h1,h2⟩:=(Fv hk).1 h;obtain⟨v,hv⟩:=hinv k d h1 h2;cases hv
  rw[this];exact⟨rfl,g3⟩
 ·rintro i ⟨pk,pv⟩ w4 hi i4 g4
  obtain⟨k,d,rfl,mQ,rv',eU,rfl,hr'⟩:=hmem _ (hsub _ (List.mem_of_getElem? hi));obtain⟨ra,rn,rc,da,dn,dc,rfl,rfl⟩:=hr'.sl;refine⟨m,l,_,_,i4,λw5 b5 m5 g5 l5=>⟨_,_,_,m5,rfl,rfl,λw6 m6 g6=>?_⟩⟩;have hit:it<w3.heap.size:=by obtain⟨_,_,_,_,_,_,_,_,_,_,_,h,_⟩:=i3;exact ae h
  have Bj:GB none w4 w6:=g5.new g6 l5;have um:GB none w w4:=g3.new g4 (Nat.le_trans (g1.size) l2);have hb1:b1<w1.heap.size:=ae m1;have m4:w4.heap[b1]? = _:=g4.get m3 λe=>by cases e;omega
  have g6':=um.trans Bj;refine⟨_,_,m6,dC d (.slice ra rn rc) (.slice da dn dc),rfl,rfl,_,_,Bj.get m4 nofun,_,rfl,rfl,_,X6 w6 d c _ _ _ _,?_⟩;rintro _ w7 ⟨rfl,g7⟩;refine aj (λe=>?_) (λe=>?_)
  ·have e1:p8 d c=true:=e
   have:lK g c=true:=(Fv hk).2 ⟨k,d,mQ,e1⟩;rw[this];exact⟨rfl,g6'.trans g7⟩
  ·have e1:p8 d c=false:=e
   have hil:i<todo.length:=(List.getElem?_eq_some_iff.1 hi).1;refine⟨_,_,⟨todo.eraseIdx i,_,rfl,rfl,i4.keep ((Bj.trans g7).block _ (Nat.lt_of_lt_of_le hit g4.size) nofun) ((Bj.trans g7).block _ (Nat.lt_of_lt_of_le (fP.lt ⟨l,i3.map,hlf⟩) g4.size) nofun),g6'.trans g7,(Bj.trans g7).get m4 nofun,λp hp=>hsub p (mem_of_mem_eraseIdx hp),?_⟩,⟨rfl,rfl,rfl,trivial⟩,?_⟩
   ·intro k' d' h1 h2
    obtain⟨v,hv⟩:=hinv k' d' h1 h2;refine⟨v,mem_erase hv hi λe=>?_⟩;have e':(k':Int)=k:=congrArg Prod.fst e;obtain rfl:k'=k:=by omega
    rw[mQ]at h1;cases h1
    rw[e1]at h2;cases h2
   ·rw[length_eraseIdx,if_pos hil];omega
end
