/- What is written (2): the small things. -/
import Derived.Test.YtignemioillaiabGreatG22
namespace Go.Proofs.YtignemioillaiabGreat
set_option maxHeartbeats 8000000
set_option maxRecDepth 100000
section
open Go Go.Conc
def Bp (f:Bool):List Int:=[if f then 1 else 0]
def eQ (n i:Int):List Int:=b32 n++[i]
def qW (x:Row):List Int:=b64 x.key++b64 x.val
def mf (p:az):List Int:=[p.c]++b32 p.s++b64 p.key++[p.k]++(if p.k=1 then Bp p.found++(if p.found then b64 p.v else []) else if p.k=3 then [p.g] else [])
def uR (q:bN):List Int:=[q.c]++b32 q.s++[q.k]++b64 q.key++(if q.k=2 then b64 q.v else if q.k=4 then b64 q.hi++[q.to] else [])
section
variable {w w1 w2:World} {v v1 v2:Value} {n:Nat} {xs:List Value} {a b:List Int}
theorem Put.more (h:Put w v n xs a v1 w1) (k:Put w1 v1 (n+a.length) (xs++Gq a) b v2 w2) {x:Nat} {c:Array Value} {t:TypeId} (hx:w1.heap[x]? = some (.cells c t)) (ht:t≠5):Put w v n xs (a++b) v2 w2/\w2.heap[x]? = some (.cells c t):=⟨h.trans k,k.get h.row hx ht⟩
theorem Put.eq (h:Put w v n xs a v1 w1) (e:a=b):Put w v n xs b v1 w1:=e ▸ h
theorem NY (ho:w.ownsRow 0 5 1 v n xs) (hn:n<=900000000) (f:Bool):af Tryz.prog 175 #[v,.bool f] w (λ v' w'=>Put w v n xs (Bp f) v' w'):=by
 refine aj ah mixed Tryz.func175 rfl rfl ?_;cases f
 ·exact ⟨_,dA ho hn 0,λ _ _ h=>h⟩
 ·exact ⟨_,dA ho hn 1,λ _ _ h=>h⟩
theorem pJ (ho:w.ownsRow 0 5 1 v n xs) (hn:n<=800000000) (k i:Int):af Tryz.prog 122 #[v,.agg #[.int .u32 k,.int .u8 i]] w (λ v' w'=>Put w v n xs (eQ k i) v' w'):=by
 refine aj ah mixed Tryz.func122 rfl rfl ?_;refine λ w1 b1 m1 g1 l1=>?_
 refine ⟨by kernel_rfl,_,_,m1,_,rfl,_,_,m1,_,rfl,?_⟩;have P:=Put.pre g1 (Put.nil (jq ho g1));refine ⟨_,iY P.row (by simp;omega) _,λ v2 w2 p2=>?_⟩;obtain ⟨P,m1⟩:=P.more p2 m1 (by decide);refine ⟨⟨m1,m1,trivial⟩,_,dA P.row (by simp [b32];omega) _,λ v3 w3 p3=>?_⟩;exact P.trans p3
theorem PY (ho:w.ownsRow 0 5 1 v n xs) (hn:n<=700000000) (x:Row):af Tryz.prog 177 #[v,.agg x.cells.toArray] w (λ v' w'=>Put w v n xs (qW x) v' w'):=by
 refine aj ah mixed Tryz.func177 rfl rfl ?_;refine λ w1 b1 m1 g1 l1=>?_
 refine ⟨by kernel_rfl,_,_,m1,_,rfl,_,_,m1,_,rfl,?_⟩;have P:=Put.pre g1 (Put.nil (jq ho g1));refine ⟨_,kV P.row (by simp;omega) _,λ v2 w2 p2=>?_⟩;obtain ⟨P,m1⟩:=P.more p2 m1 (by decide);refine ⟨⟨m1,m1,trivial⟩,_,kV P.row (by simp [b64,b32];omega) _,λ v3 w3 p3=>?_⟩;exact P.trans p3
theorem Gs (ho:w.ownsRow 0 5 1 v n xs) (hn:n<=700000000) (p:az):af Tryz.prog 121 #[v,.agg p.cells.toArray] w (λ v' w'=>Put w v n xs (mf p) v' w'):=by
 refine aj ah mixed Tryz.func121 rfl rfl ?_;refine λ w1 b1 m1 g1 l1=>?_
 have P:=Put.pre g1 (Put.nil (jq ho g1));refine ⟨_,_,m1,_,rfl,_,dA P.row (by simp;omega) _,λ v2 w2 p2=>?_⟩;obtain ⟨P,m1⟩:=P.more p2 m1 (by decide);refine ⟨_,_,m1,_,rfl,_,iY P.row (by simp;omega) _,λ v2 w2 p2=>?_⟩;obtain ⟨P,m1⟩:=P.more p2 m1 (by decide);refine ⟨_,_,m1,_,rfl,_,kV P.row (by simp [b32];omega) _,λ v2 w2 p2=>?_⟩;obtain ⟨P,m1⟩:=P.more p2 m1 (by decide);refine ⟨_,_,m1,_,rfl,_,dA P.row (by simp [b32,b64];omega) _,λ v2 w2 p2=>?_⟩;obtain ⟨P,m1⟩:=P.more p2 m1 (by decide);refine ⟨_,_,m1,_,rfl,au (λ c=>?_) (λ c=>?_)⟩
 ·have c1:p.k=1:=by simpa using c
  refine ⟨_,_,m1,_,rfl,_,NY P.row (by simp [b32,b64];omega) _,λ v2 w2 p2=>?_⟩;obtain ⟨P,m1⟩:=P.more p2 m1 (by decide);refine ⟨_,_,m1,_,rfl,au (λ d=>?_) (λ d=>?_)⟩
  ·refine ⟨_,_,m1,_,rfl,_,kV P.row (by simp [b32,b64,Bp];omega) _,λ v2 w2 p2=>?_⟩
   exact (P.trans p2).eq (by simp [mf,c1,d])
  ·exact P.eq (by simp [mf,c1,d])
 ·have c1:¬ p.k=1:=by simpa using c
  refine au (λ d=>?_) (λ d=>?_)
  ·have d1:p.k=3:=by simpa using d
   refine ⟨_,_,m1,_,rfl,_,dA P.row (by simp [b32,b64];omega) _,λ v2 w2 p2=>?_⟩;exact (P.trans p2).eq (by simp [mf,d1])
  ·have d1:¬ p.k=3:=by simpa using d
   exact P.eq (by simp [mf,c1,d1])
theorem Gt (ho:w.ownsRow 0 5 1 v n xs) (hn:n<=700000000) (q:bN):af Tryz.prog 120 #[v,.agg q.cells.toArray] w (λ v' w'=>Put w v n xs (uR q) v' w'):=by
 refine aj ah mixed Tryz.func120 rfl rfl ?_;refine λ w1 b1 m1 g1 l1=>?_
 have P:=Put.pre g1 (Put.nil (jq ho g1));refine ⟨_,_,m1,_,rfl,_,dA P.row (by simp;omega) _,λ v2 w2 p2=>?_⟩;obtain ⟨P,m1⟩:=P.more p2 m1 (by decide);refine ⟨_,_,m1,_,rfl,_,iY P.row (by simp;omega) _,λ v2 w2 p2=>?_⟩;obtain ⟨P,m1⟩:=P.more p2 m1 (by decide);refine ⟨_,_,m1,_,rfl,_,dA P.row (by simp [b32];omega) _,λ v2 w2 p2=>?_⟩;obtain ⟨P,m1⟩:=P.more p2 m1 (by decide);refine ⟨_,_,m1,_,rfl,_,kV P.row (by simp [b32];omega) _,λ v2 w2 p2=>?_⟩;obtain ⟨P,m1⟩:=P.more p2 m1 (by decide);refine ⟨_,_,m1,_,rfl,au (λ c=>?_) (λ c=>?_)⟩
 ·have c1:q.k=2:=by simpa using c
  refine ⟨_,_,m1,_,rfl,_,kV P.row (by simp [b32,b64];omega) _,λ v2 w2 p2=>?_⟩;exact (P.trans p2).eq (by simp [uR,c1])
 ·have c1:¬ q.k=2:=by simpa using c
  refine au (λ d=>?_) (λ d=>?_)
  ·have d1:q.k=4:=by simpa using d
   refine ⟨_,_,m1,_,rfl,_,kV P.row (by simp [b32,b64];omega) _,λ v2 w2 p2=>?_⟩;obtain ⟨P,m1⟩:=P.more p2 m1 (by decide);refine ⟨_,_,m1,_,rfl,_,dA P.row (by simp [b32,b64];omega) _,λ v2 w2 p2=>?_⟩;exact (P.trans p2).eq (by simp [uR,d1])
  ·have d1:¬ q.k=4:=by simpa using d
   exact P.eq (by simp [uR,c1,d1])
end
theorem bU.xz (Λ:bU) (b:Nat) (o:Obj):(Λ.add b o).pr b=some o:=by unfold bU.add;simp
structure Ok (A:aT) (R:MR):Prop where
 sz:R.sc.sz<=5
 i:R.sc.i<R.sc.sz/\R.sc.g<R.sc.gs/\R.sc.gs<=4/\R.sc.gs=A.N
 st:A.good R.log.length R.st
 kn:∀ k c,R.known k=some c->A.gc c/\k<60
 pp:∀ k c,R.props k=some c->A.gc c/\k<60
 vt:∀ k v,R.cz k=some v->A.gc v.c/\k<60/\v.slot=k
 wv:∀ k v,R.fu k=some v->A.gc v.c/\k<60/\v.slot=k
 mt:∀ k v,R.met k=some v->A.gc v.c/\k<60/\v.slot=k
 ac:∀ k c,R.acc k=some c->c<32
 pr:R.sc.prom<32
 lg:R.log.length<=60
 lc:∀ c∈R.log,A.gc c
 nx:R.sc.next<=60
 sn:R.sc.seen<=4294967295/\R.sc.b.n<=4294967295/\R.sc.wb.n<=4294967295
section
variable {A:aT} {R:MR}
theorem Ok.snd (h:Ok A R) (enc:MM->ByteArray) (m:MM) (tl:List (Nat×Nat)):Ok A (lH enc R m tl):=⟨h.sz,h.i,h.st,h.kn,h.pp,h.vt,h.wv,h.mt,h.ac,h.pr,h.lg,h.lc,h.nx,h.sn⟩
theorem Ok.ans (h:Ok A R) (c:MC) (p:az):Ok A (nO A R c p):=by
 unfold nO;split
 ·exact h.snd _ _ _
 ·split
  ·exact h.snd _ _ _
  ·exact h
theorem SV (R:MR) (c:MC) (p:az) (hz:R.sc.sz<=5):(nO A R c p).out.length<=R.out.length+5:=by
 unfold nO;split
 ·rw [Bo,jN];simp
 ·split
  ·rw [Af,jN];have:=iR R.sc.g R.sc.i c.r.src.toNat R.sc.sz;omega
  ·omega
theorem CU (R:MR) (c:MC) (p:az):(nO A R c p).log=R.log/\(nO A R c p).known=R.known/\(nO A R c p).sc=R.sc:=by
 unfold nO;split
 ·exact ⟨rfl,rfl,rfl⟩
 ·split
  ·exact ⟨rfl,rfl,rfl⟩
  ·exact ⟨rfl,rfl,rfl⟩
theorem Ok.do (HA:bK A) (h:Ok A R) {c:MC} (hc:A.gc c) (hl:R.log.length<60):Ok A (qh A R c):=by
 have h1:Ok A { R with st:=(A.ap R.st c).1,log:=R.log++[c] }:=⟨h.sz,h.i,HA.next h.st (Nat.le_of_lt hl) hc,h.kn,h.pp,h.vt,h.wv,h.mt,h.ac,h.pr,by simp;omega,λ x hx=>(List.mem_append.1 hx).elim (h.lc x) (λ e=>by simp at e;rw [e];exact hc),h.nx,h.sn⟩;unfold qh;split
 ·exact h1.ans _ _
 ·exact h1
theorem Gu (R:MR) (c:MC) (hz:R.sc.sz<=5):(qh A R c).out.length<=R.out.length+5/\(qh A R c).log=R.log++[c]/\(qh A R c).known=R.known/\(qh A R c).sc=R.sc:=by
 unfold qh;split
 ·exact ⟨SV _ _ _ hz,(CU _ _ _).1,(CU _ _ _).2.1,(CU _ _ _).2.2⟩
 ·exact ⟨by show R.out.length<=_;omega,rfl,rfl,rfl⟩
theorem Ok.known (h:Ok A R) {f:Nat->Option MC} (hf:∀ k c,f k=some c->A.gc c/\k<60):Ok A { R with known:=f }:=⟨h.sz,h.i,h.st,hf,h.pp,h.vt,h.wv,h.mt,h.ac,h.pr,h.lg,h.lc,h.nx,h.sn⟩
theorem Cb {n:Nat} (h:R.known R.log.length=none):fP A (n+1) R=R:=by
 rw [fP,h]
theorem Cc {n:Nat} {c:MC} (h:R.known R.log.length=some c):fP A (n+1) R=fP A n (qh A { R with known:=upd R.known R.log.length none } c):=by
 rw [fP,h]
theorem Jh {α:Type} {f:Nat->Option α} {P:Nat->α->Prop} (hf:∀ k c,f k=some c->P k c) {j:Nat} {o:Option α} (ho:∀ c,o=some c->P j c):∀ k c,upd f j o k=some c->P k c:=by
 intro k c h;unfold upd at h;split at h
 ·rename_i e;subst e;exact ho c h
 ·exact hf k c h
theorem qX {α:Type} {f:Nat->Option α} {P:Nat->α->Prop} (hf:∀ k c,f k=some c->P k c) (j:Nat):∀ k c,upd f j none k=some c->P k c:=Jh hf λ _ e=>by cases e
theorem lU {α:Type} {f:Nat->Option α} {P:Nat->α->Prop} (hf:∀ k c,f k=some c->P k c) {j:Nat} {x:α} (hx:P j x):∀ k c,upd f j (some x) k=some c->P k c:=Jh hf λ _ e=>by cases e;exact hx
end
section
variable {A:aT} (HA:bK A) {Λ:bU} {w:World} {br:Nat} {R:MR}
include HA
theorem SY (h:Wk Λ br R w) (ho:Ok A R) (hb:R.out.length<=890000):af Tryz.prog 145 #[Ptt br] w (λ v w'=>v=.tuple #[]/\Wk Λ br (fP A 61 R) w'/\Kz w w'):=by
 refine aj ah mixed Tryz.func145 rfl rfl ?_;refine ⟨λ m s w1=>∃ R':MR,fP A 61 R=fP A m R'/\m+R'.log.length=61+R.log.length/\s=[(0,Ptt br)]/\Wk Λ br R' w1/\Ok A R'/\R'.out.length<=R.out.length+5*R'.log.length/\Kz w w1,⟨_,_,⟨R,rfl,rfl,rfl,h,ho,by omega,Kz.refl _⟩,rfl,trivial⟩,?_⟩;rintro m s w1 ⟨R',em,el,rfl,⟨a,h1⟩,o1,hl1,k1⟩;have UO:=o1.lg;obtain ⟨m,rfl⟩:∃ n,m=n+1:=⟨m - 1,by omega⟩;obtain ⟨vm,wm,kn,mt,pp,ac,lg,ob,sT,sM,sD,sO,sI⟩:=a;obtain ⟨la,lc,rfl⟩:∃ la lc,lg=.slice la R'.log.length lc:=by obtain ⟨_,_,h,_⟩:=h1.ri.lg;exact ae h
 obtain ⟨f,e1,e2,e3⟩:=h1.ri.kn;refine ⟨_,_,h1.ri.mem,_,rfl,.inl ⟨by omega,_,_,h1.ri.mem,_,rfl,f,e1,λ w2 b2 m2 g2 l2=>?_⟩⟩;rcases jM e3 R'.log.length with ⟨n1,n2⟩ | ⟨c,v,n1,n2,rv,dv,rfl,hr⟩
 ·rw [n2]
  refine ⟨_,_,_,m2,rfl,rfl,λ w3 m3 g3=>?_⟩;have g13:GB none w1 w3:=⟨g3.os.trans g2.os,g3.out.trans g2.out,Nat.le_trans g2.size g3.size,λ x hx _=>(g3.block x (Nat.lt_of_lt_of_le hx g2.size) (λ e=>by cases e;omega)).trans (g2.block x hx nofun)⟩;have vS:=em.trans (Cb n1);exact ⟨rfl,by rw [vS];exact ⟨_,h1.ax g13⟩,k1.trans g13.kz⟩
 ·rw [n2]
  obtain ⟨ra,rn,rc,da,dn,dc,rfl,rfl⟩:=hr.sl;refine ⟨_,_,_,m2,rfl,rfl,λ w3 m3 g3=>?_⟩;have g13:GB none w1 w3:=⟨g3.os.trans g2.os,g3.out.trans g2.out,Nat.le_trans g2.size g3.size,λ x hx _=>(g3.block x (Nat.lt_of_lt_of_le hx g2.size) (λ e=>by cases e;omega)).trans (g2.block x hx nofun)⟩;have vS:=em.trans (Cc n1);obtain ⟨hgc,uS⟩:=o1.kn _ _ n1;have h3:=h1.box g13 m3 l2;have u3:=h1.qf l2;obtain ⟨f,e1,e2,e3⟩:=h3.ri.kn;refine ⟨_,_,h3.ri.mem,_,rfl,f,e1,λ w4 m4 g4=>?_⟩;have YH:=h3.ri.kz h3.ri.uL g4;have h4:=h3.step h3.ri.uL g4 (h3.ri.Dr g4 (bR.del (λ _ _ h=>h.kz YH) e2 e3 m4));have UQ:=(h4.pr b2 _ (bU.xz _ _ _)).1;have o4:Ok A { R' with known:=upd R'.known R'.log.length none }:=o1.known (qX o1.kn _);have hc4:jI w4 (.agg (dz c (.slice ra rn rc) (.slice da dn dc)).toArray) c:=⟨.slice ra rn rc,.slice da dn dc,rfl,(hr.kz g13.kz).kz YH⟩;refine ⟨_,_,UQ,dz c (.slice ra rn rc) (.slice da dn dc),rfl,rfl,_,aax HA (c:=c) ⟨_,h4⟩ hc4 o4.lg o4.st hgc o4.sz (by show R'.log.length<=_;omega) (by show R'.out.length<=_;omega),?_⟩;rintro _ w5 ⟨rfl,h5,k5⟩;obtain ⟨q1,q2,q3,q4⟩:=Gu (A:=A) { R' with known:=upd R'.known R'.log.length none } c o4.sz;refine ⟨m,_,⟨_,vS,by rw [q2];simp;omega,rfl,h5.drop u3,o4.do HA hgc uS,?_,((k1.trans g13.kz).trans YH).trans k5⟩,⟨rfl,trivial⟩,by omega⟩;rw [q2,List.length_append];show _<=R.out.length+5*(R'.log.length+1);have:({ R' with known:=upd R'.known R'.log.length none }:MR).out.length=R'.out.length:=rfl;omega
theorem Ji (h:Wk Λ br R w) (ho:Ok A R) {s:Nat} (hs:s<60) {c:MC} (hgc:A.gc c) {cv:Value} (hc:jI w cv c) (hb:R.out.length<=890000):af Tryz.prog 84 #[Ptt br,.int .u32 s,cv] w (λ v w'=>v=.tuple #[]/\Wk Λ br (iN A R s c) w'/\Kz w w'):=by
 obtain ⟨rv,dv,rfl,hr⟩:=hc;refine aj ah mixed Tryz.func84 rfl rfl ?_;intro w1 b1 m1 g1 l1;obtain ⟨a,h⟩:=h;have h1:=h.box g1 m1 l1;have u1:=h.qf l1;have UO:=ho.lg;obtain ⟨vm,wm,kn,mt,pp,ac,lg,ob,sT,sM,sD,sO,sI⟩:=a;obtain ⟨la,lc,rfl⟩:∃ la lc,lg=.slice la R.log.length lc:=by obtain ⟨_,_,h,_⟩:=h1.ri.lg;exact ae h
 unfold iN;refine ⟨_,_,h1.ri.mem,_,rfl,.inl ⟨by omega,au (λ d=>?_) (λ d=>?_)⟩⟩
 ·have d1:s<R.log.length:=by simp at d;omega
  rw [if_pos d1];exact ⟨rfl,Wk.drop ⟨_,h1⟩ u1,g1.kz⟩
 have d1:¬ s<R.log.length:=by simp at d;omega
 rw [if_neg d1];obtain ⟨f,e1,e2,e3⟩:=h1.ri.pp;refine ⟨_,_,h1.ri.mem,_,rfl,f,e1,λ w2 m2 g2=>?_⟩;have k2:=h1.ri.kz h1.ri.uN g2;have h2:=h1.step h1.ri.uN g2 (h1.ri.Je g2 (bR.del (λ _ _ h=>h.kz k2) e2 e3 m2));obtain ⟨f,e1,e2,e3⟩:=h2.ri.ac;refine ⟨_,_,h2.ri.mem,_,rfl,f,e1,λ w3 m3 g3=>?_⟩;have k3:=h2.ri.kz h2.ri.uO g3;have h3:=h2.step h2.ri.uO g3 (h2.ri.YE g3 (bR.del (rel:=mo) (w:=w2) (λ v x (h:mo w2 v x)=>(show mo w3 v x from h)) e2 e3 m3));have hnx:=ho.nx;have FD:(if ((s:Int)+1) > (R.sc.next:Int) then ((s:Int)+1) else (R.sc.next:Int))=((max R.sc.next (s+1):Nat):Int):=by split <;> omega
 refine ⟨_,_,h3.ri.mem,_,rfl,by omega,_,_,nV { R with props:=upd R.props s none,acc:=upd R.acc s none,sc:={ R.sc with next:=max R.sc.next (s+1) } } ⟨vm,wm,kn,mt,pp,ac,.slice la R.log.length lc,ob,sT,sM,sD,sO,sI⟩,h3.ri.mem,rfl,by unfold nV;dsimp only;rw [<- FD];rfl,λ w4 m4 g4=>?_⟩;have h4:=h3.cell (s':={ R.sc with next:=max R.sc.next (s+1) }) m4 g4;have k4:=h3.ri.kz h3.ri.iX g4;have Et:w4.heap[b1]? = _:=(h4.pr b1 _ (bU.xz _ _ _)).1;obtain ⟨f,e1,e2,e3⟩:=h4.ri.kn;refine ⟨by kernel_rfl,_,_,h4.ri.mem,_,rfl,_,_,Et,_,rfl,rfl,f,e1,λ w5 m5 g5=>?_⟩;have k5:=h4.ri.kz h4.ri.uL g5;have kk:=(((g1.kz.trans k2).trans k3).trans k4).trans k5;have h5:=h4.step h4.ri.uL g5 (h4.ri.Dr g5 (bR.put (λ _ _ h=>h.kz k5) e2 e3 ⟨rv,dv,rfl,hr.kz kk⟩ m5));refine ⟨_,SY HA (Wk.drop ⟨_,h5⟩ u1) ⟨ho.sz,ho.i,ho.st,lU (P:=λ k c=>A.gc c/\k<60) ho.kn ⟨hgc,hs⟩,qX ho.pp s,ho.vt,ho.wv,ho.mt,qX ho.ac s,ho.pr,ho.lg,ho.lc,by show max R.sc.next (s+1)<=60;omega,ho.sn⟩ hb,?_⟩;rintro _ w6 ⟨rfl,h6,k6⟩;exact ⟨rfl,h6,kk.trans k6⟩
end
section
variable (A:aT)
def fQ (R:MR) (s i:Nat):Nat:=iQ ((R.acc s).getD 0) i
def jl (R:MR) (s i:Nat):MR:=match R.props s with
 | none=>R
 | some c=>if 2*pc (fQ R s i) > R.sc.sz then iN A (lH A.enc { R with acc:=upd R.acc s (some (fQ R s i)) } { aP 8 with s:=s,c:=c } (gD R.sc.g R.sc.i R.sc.g R.sc.sz)) s c else { R with acc:=upd R.acc s (some (fQ R s i)) }
def gY (R:MR) (s:Nat) (c:MC):MR:=jl A (Jg A.enc (rD { R with props:=upd R.props s (some c) } s c) s c) s R.sc.i
end
theorem YI {w:World} {g:Nat->Option Nat} {f:Int->Option Value} {k:Nat} (h:(g k=none/\f k=none)\/∃ x v,g k=some x/\f k=some v/\mo w v x):(f k).getD (.int .u8 0)=.int .u8 ((g k).getD 0:Nat):=by
 rcases h with ⟨n1,n2⟩ | ⟨x,v,n1,n2,n3⟩
 ·rw [n1,n2];rfl
 ·rw [n1,n2];exact n3
section
variable {A:aT} (HA:bK A) {Λ:bU} {w:World} {br:Nat} {R:MR}
include HA
theorem LQ (h:Wk Λ br R w) (ho:Ok A R) (s i:Nat) (hs:s<60) (hi:i<5) (hb:R.out.length<=880000):af Tryz.prog 144 #[Ptt br,.int .u32 s,.int .u8 i] w (λ v w'=>v=.tuple #[]/\Wk Λ br (jl A R s i) w'/\Kz w w'):=by
 refine aj ah mixed Tryz.func144 rfl rfl ?_;obtain ⟨a,h⟩:=h;obtain ⟨f,e1,e2,e3⟩:=h.ri.pp;refine ⟨_,_,h.ri.mem,_,rfl,f,e1,λ w2 b2 m2 g2 l2=>?_⟩;rcases jM e3 s with ⟨n1,n2⟩ | ⟨c,v,n1,n2,rv,dv,rfl,hr⟩
 ·have em:jl A R s i=R:=by unfold jl;rw [n1]
  rw [n2,em];refine ⟨_,_,_,m2,rfl,rfl,λ w3 m3 g3=>?_⟩;have g13:GB none w w3:=⟨g3.os.trans g2.os,g3.out.trans g2.out,Nat.le_trans g2.size g3.size,λ x hx _=>(g3.block x (Nat.lt_of_lt_of_le hx g2.size) (λ e=>by cases e;omega)).trans (g2.block x hx nofun)⟩;exact ⟨rfl,⟨_,h.ax g13⟩,g13.kz⟩
 rw [n2];obtain ⟨ra,rn,rc,da,dn,dc,rfl,rfl⟩:=hr.sl;refine ⟨_,_,_,m2,rfl,rfl,λ w3 m3 g3=>?_⟩;have g13:GB none w w3:=⟨g3.os.trans g2.os,g3.out.trans g2.out,Nat.le_trans g2.size g3.size,λ x hx _=>(g3.block x (Nat.lt_of_lt_of_le hx g2.size) (λ e=>by cases e;omega)).trans (g2.block x hx nofun)⟩;obtain ⟨hgc,uS⟩:=ho.pp _ _ n1;have h3:=h.box g13 m3 l2;have u3:=h.qf l2;obtain ⟨f,e1,e2,e3⟩:=h3.ri.ac;have hq:=YI (jM e3 s);have hlt:(R.acc s).getD 0<32:=by
  cases hh:R.acc s with
  | none=>decide
  | some x=>exact ho.ac _ _ hh
 refine ⟨by kernel_rfl,_,_,h3.ri.mem,_,rfl,_,_,h3.ri.mem,_,rfl,?_⟩;refine ⟨f,e1,?_⟩;rw [show (f s).getD (zv ah.T 132 ((ah.T.get 132).getD Ty.p))=_ from hq];refine ⟨_,LC w3 _ i hlt hi,?_⟩;rintro _ w4 ⟨rfl,rfl⟩;refine ⟨⟨e1,h3.ri.mem,h3.ri.mem,trivial⟩,f,e1,λ w5 m5 g5=>?_⟩;have k5:=h3.ri.kz h3.ri.uO g5;have h5:=h3.step h3.ri.uO g5 (h3.ri.YE g5 (bR.put (rel:=mo) (x:=fQ R s i) (λ v x (h:mo w4 v x)=>(show mo w5 v x from h)) e2 e3 rfl m5));have hw:=uQ hlt hi;have kk:=g13.kz.trans k5;have hup:((oM f s (some (.int .u8 (fQ R s i:Nat)))) s).getD (.int .u8 0)=.int .u8 (fQ R s i:Nat):=by unfold oM;rw [if_pos rfl];rfl
 refine ⟨by kernel_rfl,_,_,h5.ri.mem,_,rfl,_,m5,_,_,h5.ri.mem,_,rfl,?_⟩;rw [show ((oM f s (some (.int .u8 (iQ ((R.acc s).getD 0) i:Nat)))) s).getD (zv ah.T 132 ((ah.T.get 132).getD Ty.p))=_ from hup];refine ⟨_,LA w5 _ _ hw,?_⟩;rintro _ w6 ⟨rfl,rfl⟩;refine au (λ d=>?_) (λ d=>?_)
 ·have d1:2*pc (fQ R s i) > R.sc.sz:=of_decide_eq_true d
  have em:jl A R s i=iN A (lH A.enc { R with acc:=upd R.acc s (some (fQ R s i)) } { aP 8 with s:=s,c:=c } (gD R.sc.g R.sc.i R.sc.g R.sc.sz)) s c:=by unfold jl;rw [n1];exact if_pos d1
  rw [em];have UQ:=(h5.pr b2 _ (bU.xz _ _ _)).1;have o5:Ok A { R with acc:=upd R.acc s (some (fQ R s i)) }:=⟨ho.sz,ho.i,ho.st,ho.kn,ho.pp,ho.vt,ho.wv,ho.mt,lU ho.ac hw,ho.pr,ho.lg,ho.lc,ho.nx,ho.sn⟩;refine ⟨by kernel_rfl,_,_,UQ,dz c (.slice ra rn rc) (.slice da dn dc),rfl,rfl,_,yn ⟨_,h5⟩ ho.sz,?_⟩;rintro v w7 ⟨hv,g7⟩;have hol:=iR R.sc.g R.sc.i R.sc.g R.sc.sz;have hsz:=ho.sz;refine ⟨⟨g7.get UQ nofun,trivial⟩,_,mU HA.mD (Wk.ax ⟨_,h5⟩ g7) (m:={ aP 8 with s:=s,c:=c }) ⟨_,_,_,_,_,rfl,(hr.kz kk).kz g7.kz,bV.zero _,aM.zero _⟩ hv (by show R.out.length+(gD R.sc.g R.sc.i R.sc.g R.sc.sz).length<=_;omega),?_⟩;rintro _ w8 ⟨rfl,h8,k8⟩;have m8:=h8.at;have kk8:=(kk.trans g7.kz).trans k8;have hc8:jI w8 (.agg (dz c (.slice ra rn rc) (.slice da dn dc)).toArray) c:=⟨_,_,rfl,hr.kz kk8⟩;refine ⟨_,_,m8,dz c (.slice ra rn rc) (.slice da dn dc),rfl,rfl,_,Ji HA (h8.drop u3) (o5.snd _ _ _) hs hgc hc8 (by rw [jN];show R.out.length+(gD R.sc.g R.sc.i R.sc.g R.sc.sz).length<=_;omega),?_⟩;rintro _ w9 ⟨rfl,h9,k9⟩;exact ⟨rfl,h9,kk8.trans k9⟩
 ·have d1:¬ 2*pc (fQ R s i) > R.sc.sz:=of_decide_eq_false d
  have em:jl A R s i={ R with acc:=upd R.acc s (some (fQ R s i)) }:=by unfold jl;rw [n1];exact if_neg d1
  rw [em];exact ⟨rfl,Wk.drop ⟨_,h5⟩ u3,kk⟩
end
section
variable {A:aT} (HA:bK A)
include HA
theorem Ok.catch:∀ (n:Nat) {R:MR},Ok A R->Ok A (fP A n R)/\(fP A n R).out.length<=R.out.length+5*n/\(fP A n R).sc=R.sc
 | 0,R,h=>⟨h,by show R.out.length<=_;omega,rfl⟩
 | n+1,R,h=>by
  cases hk:R.known R.log.length with
  | none=>rw [Cb hk];exact ⟨h,by omega,rfl⟩
  | some c =>
   rw [Cc hk];obtain ⟨hgc,uS⟩:=h.kn _ _ hk;have o4:Ok A { R with known:=upd R.known R.log.length none }:=h.known (qX h.kn _);obtain ⟨q1,q2,q3,q4⟩:=Gu (A:=A) { R with known:=upd R.known R.log.length none } c o4.sz;obtain ⟨i1,i2,i3⟩:=Ok.catch n (o4.do HA hgc uS);refine ⟨i1,?_,i3.trans q4⟩;have:({ R with known:=upd R.known R.log.length none }:MR).out.length=R.out.length:=rfl;omega
theorem Ok.agree {R:MR} (ho:Ok A R) {s:Nat} (hs:s<60) {c:MC} (hgc:A.gc c):Ok A (iN A R s c)/\(iN A R s c).out.length<=R.out.length+305/\(iN A R s c).sc.i=R.sc.i/\(iN A R s c).sc.sz=R.sc.sz:=by
 unfold iN;split
 ·exact ⟨ho,by omega,rfl,rfl⟩
 ·have hnx:=ho.nx
  obtain ⟨h1,h2,h3⟩:=Ok.catch HA 61 (R:={ R with props:=upd R.props s none,acc:=upd R.acc s none,sc:={ R.sc with next:=max R.sc.next (s+1) },known:=upd R.known s (some c) }) ⟨ho.sz,ho.i,ho.st,lU (P:=λ k c=>A.gc c/\k<60) ho.kn ⟨hgc,hs⟩,qX ho.pp s,ho.vt,ho.wv,ho.mt,qX ho.ac s,ho.pr,ho.lg,ho.lc,by show max R.sc.next (s+1)<=60;omega,ho.sn⟩;exact ⟨h1,h2,by rw [h3],by rw [h3]⟩
theorem Ok.yo {R:MR} (ho:Ok A R) {s i:Nat} (hi:i<5):Ok A (jl A R s i)/\(jl A R s i).out.length<=R.out.length+310/\(jl A R s i).sc.i=R.sc.i/\(jl A R s i).sc.sz=R.sc.sz:=by
 unfold jl;cases hp:R.props s with
 | none=>exact ⟨ho,by show R.out.length<=_;omega,rfl,rfl⟩
 | some c =>
  have hlt:(R.acc s).getD 0<32:=by
   cases hh:R.acc s with
   | none=>decide
   | some x=>exact ho.ac _ _ hh
  have o5:Ok A { R with acc:=upd R.acc s (some (fQ R s i)) }:=⟨ho.sz,ho.i,ho.st,ho.kn,ho.pp,ho.vt,ho.wv,ho.mt,lU ho.ac (uQ hlt hi),ho.pr,ho.lg,ho.lc,ho.nx,ho.sn⟩;dsimp only;split
  ·obtain ⟨h1,h2,h3,h4⟩:=(o5.snd A.enc { aP 8 with s:=s,c:=c } (gD R.sc.g R.sc.i R.sc.g R.sc.sz)).agree HA (ho.pp _ _ hp).2 (ho.pp _ _ hp).1
   refine ⟨h1,?_,h3,h4⟩;have hol:=iR R.sc.g R.sc.i R.sc.g R.sc.sz;have hsz:=ho.sz;rw [jN] at h2;have:({ R with acc:=upd R.acc s (some (fQ R s i)) }:MR).out.length=R.out.length:=rfl;exact Nat.le_trans h2 (by omega)
  ·exact ⟨o5,by show R.out.length<=_;omega,rfl,rfl⟩
omit HA in
theorem Ok.CV {R:MR} (ho:Ok A R) {s:Nat} (hs:s<60) {c:MC} (hgc:A.gc c):Ok A (rD R s c):=⟨ho.sz,ho.i,ho.st,ho.kn,ho.pp,lU (P:=λ k (v:MV)=>A.gc v.c/\k<60/\v.slot=k) ho.vt ⟨hgc,hs,rfl⟩,ho.wv,ho.mt,ho.ac,ho.pr,ho.lg,ho.lc,ho.nx,ho.sn⟩
omit HA in
theorem Ok.Je {R:MR} (ho:Ok A R) {s:Nat} (hs:s<60) {c:MC} (hgc:A.gc c):Ok A { R with props:=upd R.props s (some c) }:=⟨ho.sz,ho.i,ho.st,ho.kn,lU (P:=λ k c=>A.gc c/\k<60) ho.pp ⟨hgc,hs⟩,ho.vt,ho.wv,ho.mt,ho.ac,ho.pr,ho.lg,ho.lc,ho.nx,ho.sn⟩
theorem Ok.prop {R:MR} (ho:Ok A R) {s:Nat} (hs:s<60) {c:MC} (hgc:A.gc c):Ok A (gY A R s c)/\(gY A R s c).out.length<=R.out.length+315/\(gY A R s c).sc.i=R.sc.i/\(gY A R s c).sc.sz=R.sc.sz:=by
 unfold gY;have hi:=ho.i;have hz:=ho.sz;obtain ⟨h1,h2,h3,h4⟩:=(((ho.Je hs hgc).CV hs hgc).snd A.enc { aP 6 with b:=R.sc.b,s:=s,c:=c } (gD R.sc.g R.sc.i R.sc.g R.sc.sz)).yo HA (s:=s) (i:=R.sc.i) (by omega);refine ⟨h1,?_,h3,h4⟩;have hol:=iR R.sc.g R.sc.i R.sc.g R.sc.sz;rw [jN] at h2;have:(rD { R with props:=upd R.props s (some c) } s c).out.length=R.out.length:=rfl;exact Nat.le_trans h2 (by omega)
variable {Λ:bU} {w:World} {br:Nat} {R:MR}
theorem FE (h:Wk Λ br R w) (ho:Ok A R) {s:Nat} (hs:s<60) {c:MC} (hgc:A.gc c) {cv:Value} (hc:jI w cv c) (hb:R.out.length<=870000):af Tryz.prog 181 #[Ptt br,.int .u32 s,cv] w (λ v w'=>v=.tuple #[]/\Wk Λ br (gY A R s c) w'/\Kz w w'):=by
 obtain ⟨rv,dv,rfl,hr⟩:=hc;refine aj ah mixed Tryz.func181 rfl rfl ?_;intro w1 b1 m1 g1 l1;obtain ⟨a,h⟩:=h;have h1:=h.box g1 m1 l1;have u1:=h.qf l1;have hi:=ho.i;have hz:=ho.sz;obtain ⟨f,e1,e2,e3⟩:=h1.ri.pp;refine ⟨by kernel_rfl,_,_,h1.ri.mem,_,rfl,_,_,m1,_,rfl,rfl,f,e1,λ w2 m2 g2=>?_⟩;have k2:=h1.ri.kz h1.ri.uN g2;have kk:=g1.kz.trans k2;have h2:Wk _ br { R with props:=upd R.props s (some c) } w2:=⟨_,h1.step h1.ri.uN g2 (h1.ri.Je g2 (bR.put (λ _ _ h=>h.kz k2) e2 e3 ⟨rv,dv,rfl,hr.kz kk⟩ m2))⟩;refine ⟨_,_,h2.at,_,rfl,rfl,_,LF h2 (c:=c) ⟨_,_,rfl,hr.kz kk⟩,?_⟩;rintro _ w3 ⟨rfl,h3,k3⟩;have kk:=kk.trans k3;refine ⟨_,_,h3.at,_,rfl,rfl,_,UM HA.mD h3 hz (c:=c) ⟨_,_,rfl,hr.kz kk⟩ (by show R.out.length<=_;omega),?_⟩;rintro _ w4 ⟨rfl,h4,k4⟩;have kk:=kk.trans k4;have o4:=((ho.Je hs hgc).CV hs hgc).snd A.enc { aP 6 with b:=R.sc.b,s:=s,c:=c } (gD R.sc.g R.sc.i R.sc.g R.sc.sz);have h4':=h4.drop u1;obtain ⟨a4,h4⟩:=h4;have hol:=iR R.sc.g R.sc.i R.sc.g R.sc.sz;refine ⟨_,_,h4.ri.mem,_,rfl,_,LQ HA h4' o4 s R.sc.i hs (by omega) (by unfold Jg;rw [jN];show R.out.length+(gD R.sc.g R.sc.i R.sc.g R.sc.sz).length<=_;omega),?_⟩;rintro _ w5 ⟨rfl,h5,k5⟩;exact ⟨rfl,h5,kk.trans k5⟩
end
def qi (a b:bN):Bool:=a.c == b.c && (a.s == b.s && (a.k == b.k && (a.key == b.key && (a.v == b.v && (a.hi == b.hi && (a.to == b.to && true))))))
def oH (a b:MC):Bool:=a.kind == b.kind && (qi a.q b.q && (a.r.src == b.r.src && (a.r.seq == b.r.seq && (a.peer == b.peer && a.seq == b.seq))))
theorem Wm (w:World) (a b:MC) (rv dv rv' dS:Value):af Tryz.prog 197 #[.agg (dz a rv dv).toArray,.agg (dz b rv' dS).toArray] w (λ v w'=>v=.bool (oH a b)/\GB none w w'):=by
 refine aj ah mixed Tryz.func197 rfl rfl ?_;intro w1 b1 m1 g1 l1 w2 b2 m2 g2 l2;have m1:=g2.get m1 nofun;have gg:GB none w w2:=g1.trans g2;refine ⟨_,_,m1,_,rfl,_,_,m2,_,rfl,au (λ c=>?_) (λ c=>?_)⟩
 ·have c1:(a.kind == b.kind)=true:=eq_of_beq c
  refine ⟨_,_,m1,_,rfl,rfl,_,_,m2,_,rfl,rfl,au (λ c=>?_) (λ c=>?_)⟩
  ·have c2:qi a.q b.q=true:=eq_of_beq c
   refine ⟨_,_,m1,_,rfl,_,_,m2,_,rfl,au (λ c=>?_) (λ c=>?_)⟩
   ·have c3:(a.r.src == b.r.src)=true:=eq_of_beq c
    refine ⟨_,_,m1,_,rfl,_,_,m2,_,rfl,au (λ c=>?_) (λ c=>?_)⟩
    ·have c4:(a.r.seq == b.r.seq)=true:=eq_of_beq c
     refine ⟨_,_,m1,_,rfl,_,_,m2,_,rfl,au (λ c=>?_) (λ c=>?_)⟩
     ·have c5:(a.peer == b.peer)=true:=eq_of_beq c
      exact ⟨_,_,m1,_,rfl,_,_,m2,_,rfl,congrArg Value.bool (by unfold oH;rw [c1,c2,c3,c4,c5];rfl),gg⟩
     ·have c5:(a.peer == b.peer)=false:=by simpa using c
      exact ⟨congrArg Value.bool (by unfold oH;rw [c1,c2,c3,c4,c5];rfl),gg⟩
    ·have c4:(a.r.seq == b.r.seq)=false:=by simpa using c
     exact ⟨congrArg Value.bool (by unfold oH;rw [c1,c2,c3,c4];rfl),gg⟩
   ·have c3:(a.r.src == b.r.src)=false:=by simpa using c
    exact ⟨congrArg Value.bool (by unfold oH;rw [c1,c2,c3];rfl),gg⟩
  ·have c2:qi a.q b.q=false:=by cases h:qi a.q b.q;rfl;unfold qi at h;rw [h] at c;cases c
   exact ⟨congrArg Value.bool (by unfold oH;rw [c1,c2];rfl),gg⟩
 ·have c1:(a.kind == b.kind)=false:=by simpa using c
  exact ⟨congrArg Value.bool (by unfold oH;rw [c1];rfl),gg⟩
theorem GB.new {w0 w w':World} {x:Nat} (h:GB none w0 w) (k:GB (some x) w w') (hx:w0.heap.size<=x):GB none w0 w' :=
 ⟨k.os.trans h.os,k.out.trans h.out,Nat.le_trans h.size k.size,λ y hy _=>(k.block y (Nat.lt_of_lt_of_le hy h.size) (λ e=>by cases e;omega)).trans (h.block y hy nofun)⟩
def kF (g:Nat->Option MC) (c:MC):Bool:=(List.range 60).any λ k=>match g k with
 | some d=>oH d c
 | none=>false
theorem Eu {g:Nat->Option MC} {c:MC} (hk:∀ k d,g k=some d->k<60):kF g c=true↔∃ k d,g k=some d/\oH d c=true:=by
 unfold kF;rw [List.any_eq_true];constructor
 ·rintro ⟨k,_,h⟩
  cases hg:g k with
  | none=>rw [hg] at h;cases h
  | some d=>rw [hg] at h;exact ⟨k,d,hg,h⟩
 ·rintro ⟨k,d,hg,h⟩
  exact ⟨k,List.mem_range.2 (hk k d hg),by rw [hg];exact h⟩
theorem mem_erase {α:Type} {l:List α} {i:Nat} {x y:α} (hx:x∈l) (hy:l[i]? = some y) (hn:x≠y):x∈l.eraseIdx i:=by
 rw [List.mem_eraseIdx_iff_getElem?];obtain ⟨j,hj⟩:=List.mem_iff_getElem?.1 hx;exact ⟨j,λ e=>hn (by subst e;rw [hj] at hy;exact Option.some.inj hy),hj⟩
theorem CW {w:World} {m:Nat} {g:Nat->Option MC} (hg:bR jI w m g) (hk:∀ k d,g k=some d->k<60) {c:MC} {cv:Value} (hc:jI w cv c):af Tryz.prog 180 #[.map (some m),cv] w (λ v w'=>v=.bool (kF g c)/\GB none w w'):=by
 obtain ⟨rv,dv,rfl,hr⟩:=hc;refine aj ah mixed Tryz.func180 rfl rfl ?_;intro w1 b1 m1 g1 l1;obtain ⟨f,⟨l,hl,hlf⟩,e2,e3⟩:=hg;refine ⟨l,hl.keep (g1.block _ (fA.lt ⟨l,hl,hlf⟩) nofun),λ w2 it i2 g2 l2=>?_⟩;have hn:(l.map Prod.fst).Nodup:=by obtain ⟨_,_,_,_,_,_,_,_,_,_,_,_,_,h,_⟩:=i2;exact h
 have hmem:∀ p∈l,∃ (k:Nat) (d:MC),p.1=k/\g k=some d/\jI w p.2 d:=by
  intro p hp;have h1:f p.1=some p.2:=by rw [<- hlf];exact (vK hn).2 hp
  obtain ⟨k,hk⟩:∃ k:Nat,p.1=k:=by
   rcases (by omega:p.1<0\/0<=p.1) with h0 | h0
   ·rw [e2 _ h0] at h1;cases h1
   ·exact ⟨p.1.toNat,by omega⟩
  rw [hk] at h1;rcases jM e3 k with ⟨n1,n2⟩ | ⟨x,v,n1,n2,n3⟩
  ·rw [n2] at h1;cases h1
  ·rw [n2] at h1;cases h1;exact ⟨k,x,hk,n1,n3⟩
 refine ⟨λ n s w'=>∃ (todo:List (Int×Value)) (cur:Option (Int×Value)),n=todo.length/\s=[(0,.map (some m)),(3,Ptt b1),(8,Ptt it)]/\mi w' it m l todo cur/\GB none w w'/\w'.heap[b1]? = some (.cells (dz c rv dv).toArray 80)/\(∀ p∈todo,p∈l)/\∀ k d,g k=some d->oH d c=true->∃ v,((k:Int),v)∈todo,⟨_,_,⟨l,none,rfl,rfl,i2,g1.trans g2,g2.get m1 nofun,λ _ h=>h,?_⟩,rfl,rfl,rfl,trivial⟩,?_⟩
 ·intro k d nI _
  rcases jM e3 k with ⟨n1,n2⟩ | ⟨x,v,n1,n2,n3⟩
  ·rw [n1] at nI;cases nI
  ·exact ⟨v,(vK hn).1 (by rw [hlf];exact n2)⟩
 rintro n s w3 ⟨todo,cur,rfl,rfl,i3,g3,m3,hsub,hinv⟩;refine ⟨m,l,todo,cur,i3,λ h0=>?_,?_⟩
 ·subst h0
  have:kF g c=false:=by
   cases h:kF g c with
   | false=>rfl
   | true=>obtain ⟨k,d,h1,h2⟩:=(Eu hk).1 h;obtain ⟨v,hv⟩:=hinv k d h1 h2;cases hv
  rw [this];exact ⟨rfl,g3⟩
 ·rintro i ⟨pk,pv⟩ w4 hi i4 g4
  obtain ⟨k,d,rfl,nI,rv',dS,rfl,hr'⟩:=hmem _ (hsub _ (List.mem_of_getElem? hi));obtain ⟨ra,rn,rc,da,dn,dc,rfl,rfl⟩:=hr'.sl;refine ⟨m,l,_,_,i4,λ w5 b5 m5 g5 l5=>⟨_,_,_,m5,rfl,rfl,λ w6 m6 g6=>?_⟩⟩;have hit:it<w3.heap.size:=by obtain ⟨_,_,_,_,_,_,_,_,_,_,_,h,_⟩:=i3;exact ag h
  have Ah:GB none w4 w6:=g5.new g6 l5;have sj:GB none w w4:=g3.new g4 (Nat.le_trans (g1.size) l2);have hb1:b1<w1.heap.size:=ag m1;have m4:w4.heap[b1]? = _:=g4.get m3 λ e=>by cases e;omega
  have g6':=sj.trans Ah;refine ⟨_,_,m6,dz d (.slice ra rn rc) (.slice da dn dc),rfl,rfl,_,_,Ah.get m4 nofun,_,rfl,rfl,_,Wm w6 d c _ _ _ _,?_⟩;rintro _ w7 ⟨rfl,g7⟩;refine au (λ e=>?_) (λ e=>?_)
  ·have e1:oH d c=true:=e
   have:kF g c=true:=(Eu hk).2 ⟨k,d,nI,e1⟩;rw [this];exact ⟨rfl,g6'.trans g7⟩
  ·have e1:oH d c=false:=e
   have hil:i<todo.length:=(List.getElem?_eq_some_iff.1 hi).1;refine ⟨_,_,⟨todo.eraseIdx i,_,rfl,rfl,i4.keep ((Ah.trans g7).block _ (Nat.lt_of_lt_of_le hit g4.size) nofun) ((Ah.trans g7).block _ (Nat.lt_of_lt_of_le (fA.lt ⟨l,i3.map,hlf⟩) g4.size) nofun),g6'.trans g7,(Ah.trans g7).get m4 nofun,λ p hp=>hsub p (List.mem_of_mem_eraseIdx hp),?_⟩,⟨rfl,rfl,rfl,trivial⟩,?_⟩
   ·intro k' d' h1 h2
    obtain ⟨v,hv⟩:=hinv k' d' h1 h2;refine ⟨v,mem_erase hv hi λ e=>?_⟩;have e':(k':Int)=k:=congrArg Prod.fst e;obtain rfl:k'=k:=by omega
    rw [nI] at h1;cases h1
    rw [e1] at h2;cases h2
   ·rw [List.length_eraseIdx,if_pos hil];omega
end
end Go.Proofs.YtignemioillaiabGreat
