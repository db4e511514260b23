/- Lemmas. -/
import Derived.Test.YtignemioillaiabGreatG21
namespace Go.Proofs.YtignemioillaiabGreat
set_option maxHeartbeats 8000000
set_option maxRecDepth 100000
open List
section
open Go Go.Conc
structure MM where
 kind:Int
 q:aW
 p:ag
 b:bH
 s:Nat
 c:MC
 vs:List MV
 r:Rg
 (peer seq:Int)
def vG:aW:=⟨0,0,0,0,0,0,0⟩
def rV:ag:=⟨0,0,0,0,false,0,0⟩
def uP:Rg:=⟨0,0,0,0,0,[],[]⟩
def nu:MC:=⟨0,vG,uP,0,0⟩
def aL(k:Int):MM:=⟨k,vG,rV,⟨0,0⟩,0,nu,[],uP,0,0⟩
def iW(m:MM)(rv dv vv rv' jU:Value):List Value:=(.int .u8 m.kind::m.q.cells)++m.p.cells++[.int .u32 m.b.n,.int .u8 m.b.id,.int .u32 m.s]++dF m.c rv dv++[vv]++fB m.r rv' jU++[.int .u8 m.peer,.int .u32 m.seq]
def dC(w:World)(v:Value)(l:List MV):Prop:=∃ps:List (Value×Value),ps.length=l.length/\Fz w 178 20 v l.length (zipWith (λx p=>kE x p.1 p.2) l ps).flatten/\∀(i:Nat) (x:MV) (p:Value×Value),l[i]?=some x->ps[i]?=some p->aS w x.c.r p.1 p.2
theorem dC.kz{w w':World}{v:Value}{l:List MV}(h:dC w v l)(k:Kz w w'):dC w' v l:=by
 obtain⟨vs,h1,h2,h3⟩:=h;exact⟨vs,h1,h2.kz k (by decide),λi r p hr hp=>(h3 i r p hr hp).kz k⟩
def Ch(w:World)(v:Value)(m:MM):Prop:=∃rv dv vv rv' jU,v=.agg (iW m rv dv vv rv' jU).toArray/\aS w m.c.r rv dv/\dC w vv m.vs/\aS w m.r rv' jU
theorem Ch.kz{w w':World}{v:Value}{m:MM}(h:Ch w v m)(k:Kz w w'):Ch w' v m:=by
 obtain⟨rv,dv,vv,rv',jU,h1,h2,h3,h4⟩:=h;exact⟨rv,dv,vv,rv',jU,h1,h2.kz k,h3.kz k,h4.kz k⟩
theorem aS.zero(w:World):aS w uP Ptz Ptz:=⟨Fz.nil _ _ _,Fz.nil _ _ _⟩
theorem dC.zero(w:World):dC w Ptz []:=⟨[],rfl,Fz.nil _ _ _,λi x p h=>by simp at h⟩
def IC(enc:MM->ByteArray):Prop:=∀w v m,Ch w v m->CY 43 #[v] w (λv w'=>(∃e,v=.tuple #[.string (enc m),.int .i64 e])/\GB none w w')
def mh(enc:MM->ByteArray)(R:MR)(m:MM)(tl:List (Nat×Nat)):MR:=kg R (enc m) tl
section
variable{enc:MM->ByteArray}(HM:IC enc){Λ:bW}{w:World}{br:Nat}{R:MR}
include HM
theorem oG(h:Wk Λ br R w){v:Value}{m:MM}(hv:Ch w v m){tv:Value}{tl:List (Nat×Nat)}(ht:Fz w 48 2 tv tl.length (Ej tl))(hb:R.out.length+tl.length<=1000000):CY 90 #[Ptt br,v,tv] w (λv w'=>v=.tuple #[]/\Wk Λ br (mh enc R m tl) w'/\Kz w w'):=by
 have hv0:=hv;obtain⟨rv,dv,vv,rv',jU,rfl,_⟩:=hv;exact ZK h rfl (λw1 k1=>HM w1 _ m (hv0.kz k1)) ht hb
def Ae(enc:MM->ByteArray)(R:MR)(p:ag):MR:=mh enc R {aL 2 with p:=p} [(255,p.c.toNat)]
theorem OZ(h:Wk Λ br R w){p:ag}(hp:0<=p.c)(hb:R.out.length<=900000):CY 136 #[Ptt br,.agg p.cells.toArray] w (λv w'=>v=.tuple #[]/\Wk Λ br (Ae enc R p) w'/\Kz w w'):=by
 refine aj Tryz.func136 rfl rfl ?_;intro w1 b1 m1 g1 l1;refine⟨_,_,m1,_,rfl,λw2 b2 m2 g2 l2=>⟨_,_,_,m2,rfl,rfl,λw3 m3 g3=>?_⟩⟩;have g13:GB none w1 w3:=⟨g3.os.trans g2.os,g3.out.trans g2.out,Jb1 g2.size g3.size,λx hx _=>(g3.block x (Jbz hx g2.size) (λe=>by cases e;omega)).trans (g2.block x hx nofun)⟩;refine⟨_,_,g13.get m1 nofun,_,rfl,rfl,_,_,m3,_,rfl,rfl,λw4 b4 m4 g4 l4=>?_⟩;have g:=(g1.trans g13).trans g4;refine⟨_,oG HM (h.ay g) (m:={aL 2 with p:=p}) ⟨_,_,_,_,_,rfl,aS.zero _,dC.zero _,aS.zero _⟩ (tl:=[(255,p.c.toNat)]) ⟨_,_,rfl,Jb0 _,rfl,.inr ⟨_,_,_,rfl,m4,?_⟩⟩ (by simp;omega),?_⟩
 .show[Value.int .u8 255,Value.int .u8 p.c]=[.int .u8 255,.int .u8 (p.c.toNat:Int)]
  rw[Jfp hp]
 .rintro v w5 ⟨rfl,h5,k5⟩
  exact⟨rfl,h5,g.kz.trans k5⟩
def Af(enc:MM->ByteArray)(R:MR)(src:Nat)(tl:List (Nat×Nat)):MR:=mh enc R {aL 10 with peer:=R.sc.g,seq:=R.st.I.getD src 0} tl
theorem TI(h:Wk Λ br R w){src:Nat}(hs:src<R.st.I.length){tv:Value}{tl:List (Nat×Nat)}(ht:Fz w 48 2 tv tl.length (Ej tl))(hb:R.out.length+tl.length<=1000000):CY 146 #[Ptt br,.int .u8 src,tv] w (λv w'=>v=.tuple #[]/\Wk Λ br (Af enc R src tl) w'/\Kz w w'):=by
 have h0:=h;obtain⟨a,h⟩:=h;obtain⟨vm,wm,kn,mt,pp,ac,lg,ob,sT,sM,sD,sO,sI⟩:=a;obtain⟨ia,ic,rfl,i1,i2,i3⟩:=h.ri.st.I;rcases i3 with⟨_,i3⟩|⟨B,off,cs,rfl,hB,hcut⟩
 .omega
 refine aj Tryz.func146 rfl rfl ?_;obtain⟨x,hx⟩:∃x,R.st.I[src]?=some x:=⟨R.st.I[src],by simp[hs]⟩;have hx2:cs.toList[off+src]?=some (.int .u32 x):=by
  have h1:(aG cs.toList off (R.st.I.length*1))[src]?=some (.int .u32 x):=by rw[hcut,Jdd,hx];rfl
  unfold aG at h1;rw[Jc5,Jb6 (by omega),Jcf]at h1;exact h1
 refine⟨by kernel_rfl,_,_,h.ri.mem,_,rfl,_,_,h.ri.mem,_,rfl,by omega,_,_,hB,.int .u32 x,by show cs.toList[off+src*1]?=_;rw[Jfq];exact hx2,?_⟩;refine⟨_,oG HM h0 (m:={aL 10 with peer:=R.sc.g,seq:=R.st.I.getD src 0}) ⟨_,_,_,_,_,?_,aS.zero _,dC.zero _,aS.zero _⟩ ht hb,by rintro _ w' ⟨rfl,h,k⟩;exact⟨rfl,h,k⟩⟩;rw[Jdx,hx];rfl
def LY(enc:MM->ByteArray)(R:MR)(s:Nat)(c:MC):MR:=mh enc R {aL 6 with b:=R.sc.b,s:=s,c:=c} (fK R.sc.g R.sc.i R.sc.g R.sc.sz)
theorem Yj(h:Wk Λ br R w)(hz:R.sc.sz<=5){s:Nat}{c:MC}{cv:Value}(hc:kF w cv c)(hb:R.out.length<=900000):CY 151 #[Ptt br,.int .u32 s,cv] w (λv w'=>v=.tuple #[]/\Wk Λ br (LY enc R s c) w'/\Kz w w'):=by
 obtain⟨rv,dv,rfl,hr⟩:=hc;refine aj Tryz.func151 rfl rfl ?_;intro w1 b1 m1 g1 l1;have h1:=h.ay g1;have h10:=h1;obtain⟨a,h1⟩:=h1;refine⟨by kernel_rfl,_,_,h1.ri.mem,_,rfl,rfl,_,_,m1,_,rfl,rfl,_,Ad h10 hz,?_⟩;rintro v w2 ⟨hv,g2⟩;have hol:=jm R.sc.g R.sc.i R.sc.g R.sc.sz;refine⟨⟨g2.get m1 nofun,(h1.ay g2).ri.mem,trivial⟩,_,oG HM (h10.ay g2) (m:={aL 6 with b:=R.sc.b,s:=s,c:=c}) ⟨_,_,_,_,_,rfl,(hr.kz g1.kz).kz g2.kz,dC.zero _,aS.zero _⟩ hv (by omega),?_⟩;rintro v w3 ⟨rfl,h3,k3⟩;exact⟨rfl,h3,(g1.trans g2).kz.trans k3⟩
end
def bH.lt(a b:bH):Bool:=decide (a.n<b.n)||(a.n==b.n&&decide (a.id<b.id))
def bC(b:bH):List Value:=[.int .u32 b.n,.int .u8 b.id]
theorem EY(w:World)(a b:bH):CY 140 #[.agg (bC a).toArray,.agg (bC b).toArray] w (λv w'=>v=.bool (a.lt b)/\GB none w w'):=by
 refine aj Tryz.func140 rfl rfl ?_;intro w1 b1 h1 g1 l1 w2 b2 h2 g2 l2;have h1:=g2.get h1 nofun;refine⟨_,_,h1,_,rfl,_,_,h2,_,rfl,?_⟩;have gg:GB none w w2:=g1.trans g2;unfold bH.lt;refine ah (λc=>?_) (λc=>?_)
 .have c1:¬a.n<b.n:=by simp at c;omega
  refine⟨_,_,h1,_,rfl,_,_,h2,_,rfl,?_⟩;refine ah (λd=>?_) (λd=>?_)
  .have d1:a.n=b.n:=by simp at d;omega
   refine⟨_,_,h1,_,rfl,_,_,h2,_,rfl,?_,gg⟩;simp[d1]
  .have d1:¬a.n=b.n:=by simp at d;omega
   exact⟨by simp[c1,d1],gg⟩
 .have c1:a.n<b.n:=by simp at c;omega
  exact⟨by simp[c1],gg⟩
theorem bH.eq{a b:bH}(h1:a.n=b.n)(h2:a.id=b.id):a=b:=by
 cases a
 cases b
 simp_all
instance:DecidableEq bH:=λa b=>by
 obtain⟨n,i⟩:=a;obtain⟨m,j⟩:=b;exact decidable_of_iff (n=m/\i=j) (by simp)
def bN(enc:MM->ByteArray)(R:MR)(f:Nat×Nat)(b:bH):MR :=
 if b.lt R.sc.b=true then mh enc R {aL 5 with b:=R.sc.b} [f]else if b=R.sc.b then R else gF {R with sc:={R.sc with b:=b} }
theorem dC.sl{w:World}{v:Value}{l:List MV}(h:dC w v l):∃a c,v=.slice a l.length c:=by
 obtain⟨_,_,⟨a,c,h1,_⟩,_⟩:=h;exact⟨a,c,h1⟩
theorem aS.sl{w:World}{r:Rg}{rv dv:Value}(h:aS w r rv dv):∃ra rn rc da dn dc,rv=.slice ra rn rc/\dv=.slice da dn dc:=by
 obtain⟨⟨ra,rc,h1,_⟩,⟨da,dc,h2,_⟩⟩:=h;exact⟨ra,_,rc,da,_,dc,h1,h2⟩
def nV(f:Nat->Option MV)(k:Nat):List MV:=(List.range k).filterMap f
theorem GI(f:Nat->Option MV)(k:Nat):nV f (k+1)=nV f k++(f k).toList:=by
 unfold nV;rw[Jc2,filterMap_append];cases h:f k<;>simp[h]
theorem Ci(f:Nat->Option MV)(k:Nat):(nV f k).length<=k:=by
 unfold nV;exact Jb1 (length_filterMap_le _ _) (by simp)
theorem O0{α β:Type}{Rel:α->β->Prop}{l:List α}{ps:List β}(hl:ps.length=l.length){x:α}{y:β}(h:∀(i:Nat) (a:α) (b:β),l[i]?=some a->ps[i]?=some b->Rel a b)(hx:Rel x y):∀(i:Nat) (a:α) (b:β),(l++[x])[i]?=some a->(ps++[y])[i]?=some b->Rel a b:=by
 intro i a b ha hb;rcases Nat.lt_or_ge i l.length with hi|hi
 .rw[Jc8 hi]at ha
  rw[Jc8 (by omega)]at hb;exact h i a b ha hb
 .rw[Jc9 hi]at ha
  rw[Jc9 (by omega)]at hb;have h1:i-l.length=0:=by
   have:=(Jcn.1 ha).1;simp at this;omega
  rw[h1]at ha;rw[hl,h1]at hb;simp only[Jd0,Jbc]at ha hb;subst ha hb;exact hx
section
variable{enc:MM->ByteArray}(HM:IC enc){Λ:bW}{w:World}{br:Nat}{R:MR}
include HM
theorem Jw(h:Wk Λ br R w)(f:Nat×Nat)(b:bH)(hb:R.out.length<=900000):CY 138 #[Ptt br,.agg #[.int .u8 f.1,.int .u8 f.2],.agg (bC b).toArray] w (λv w'=>v=.bool (b.lt R.sc.b)/\Wk Λ br (bN enc R f b) w'/\Kz w w'):=by
 refine aj Tryz.func138 rfl rfl ?_;intro w1 b1 m1 g1 l1 w2 b2 m2 g2 l2;have m1:=g2.get m1 nofun;have g:=g1.trans g2;have h2:=h.ay g;have h20:=h2;obtain⟨a,h2⟩:=h2;refine⟨by kernel_rfl,_,_,m2,_,rfl,rfl,_,_,h2.ri.mem,_,rfl,rfl,_,EY w2 b R.sc.b,?_⟩;rintro _ w3 ⟨rfl,g3⟩;have h3:=h2.ay g3;have m2:=g3.get m2 nofun;have m1:=g3.get m1 nofun;unfold bN;refine ah (λc=>?_) (λc=>?_)
 .rw[Jb6 c]
  refine⟨by kernel_rfl,_,_,h3.ri.mem,_,rfl,rfl,_,_,m1,_,rfl,rfl,λw4 b4 m4 g4 l4=>?_⟩;refine⟨⟨g4.get m1 nofun,(h3.ay g4).ri.mem,trivial⟩,_,oG HM ((h20.ay g3).ay g4) (m:={aL 5 with b:=R.sc.b}) ⟨_,_,_,_,_,rfl,aS.zero _,dC.zero _,aS.zero _⟩ (tl:=[f]) ⟨_,_,rfl,Jb0 _,rfl,.inr ⟨_,_,_,rfl,m4,rfl⟩⟩ (by simp;omega),?_⟩;rintro _ w5 ⟨rfl,h5,k5⟩;exact⟨by rw[c],h5,((g.trans g3).trans g4).kz.trans k5⟩
 .rw[Jb5 (by rw[c];decide)]
  refine⟨by kernel_rfl,_,_,m2,_,rfl,rfl,_,_,h3.ri.mem,_,rfl,rfl,ah (λd=>?_) (λd=>?_)⟩
  .have d1:¬b=R.sc.b:=by rintro rfl;simp at d
   rw[Jb5 d1];refine⟨_,_,m2,_,rfl,rfl,_,_,_,h3.ri.mem,rfl,rfl,λw4 m4 g4=>?_⟩;have h4:=h3.cell (s':={R.sc with b:=b}) m4 g4;refine⟨_,EX br _ Λ w4 ⟨_,h4⟩,?_⟩;rintro _ w5 ⟨rfl,h5,k5⟩;exact⟨by rw[c],h5,((g.trans g3).kz.trans (h3.ri.kz h3.ri.jy g4)).trans k5⟩
  .have d1:b=R.sc.b:=by
    have e:b.n=R.sc.b.n/\b.id=R.sc.b.id:=by simp at d;omega
    exact bH.eq e.1 e.2
   rw[Jb6 d1];exact⟨by rw[c],⟨_,h3⟩,(g.trans g3).kz⟩
omit HM in
theorem TJ(h:Wk Λ br R w)(b:bH):CY 81 #[Ptt br,.agg (bC b).toArray] w (λv w'=>v=.tuple #[]/\Wk Λ br (if R.sc.b.lt b=true then gF R else R) w'/\Kz w w'):=by
 refine aj Tryz.func81 rfl rfl ?_;intro w1 b1 m1 g1 l1;have h1:=h.ay g1;have h10:=h1;obtain⟨a,h1⟩:=h1;refine⟨by kernel_rfl,_,_,h1.ri.mem,_,rfl,rfl,_,_,m1,_,rfl,rfl,_,EY w1 R.sc.b b,?_⟩;rintro _ w3 ⟨rfl,g3⟩;refine ah (λc=>?_) (λc=>?_)
 .rw[Jb6 c]
  refine⟨_,EX br _ Λ w3 (h10.ay g3),?_⟩;rintro _ w5 ⟨rfl,h5,k5⟩;exact⟨rfl,h5,(g1.trans g3).kz.trans k5⟩
 .rw[Jb5 (by rw[c];decide)]
  exact⟨rfl,h10.ay g3,(g1.trans g3).kz⟩
def Yk(w0 w:World)(v:Value)(l:List MV):Prop:=∃ps:List (Value×Value),ps.length=l.length/\w.ownsRow 0 178 20 v l.length (zipWith (λx p=>kE x p.1 p.2) l ps).flatten/\∀(i:Nat) (x:MV) (p:Value×Value),l[i]?=some x->ps[i]?=some p->aS w0 x.c.r p.1 p.2
omit HM in
theorem Yk.vs{w':World}{v:Value}{l:List MV}(h:Yk w w' v l)(g:GB none w w'):dC w' v l:=by
 obtain⟨ps,h1,h2,h3⟩:=h;exact⟨ps,h1,qb h2,λi x p hx hp=>(h3 i x p hx hp).kz g.kz⟩
omit HM in
theorem kI{α:Type}{rel:World->Value->α->Prop}{g:Nat->Option α}{f:Int->Option Value}(h3:∀k:Nat,match g k with|none=>f k=none|some x=>∃v,f k=some v/\rel w v x)(k:Nat):(g k=none/\f k=none)\/∃x v,g k=some x/\f k=some v/\rel w v x:=by
 have:=h3 k;cases hg:g k with
 |none=>rw[hg]at this;exact .inl ⟨rfl,this⟩
 |some x=>rw[hg]at this;obtain⟨v,h1,h2⟩:=this;exact .inr ⟨x,v,rfl,h1,h2⟩
omit HM in
theorem El(h:Wk Λ br R w):CY 139 #[Ptt br] w (λv w'=>dC w' v (nV R.cZ 60)/\GB none w w'):=by
 obtain⟨a,h⟩:=h;refine aj Tryz.func139 rfl rfl ?_;refine⟨λm s w1=>∃(k:Nat) (lv:Value),m=60-k/\k<=60/\s=[(0,Ptt br),(3,lv),(7,.int .u32 k)]/\Yk w w1 lv (nV R.cZ k)/\GB none w w1/\∀g,lv.ownBlock=some g->w.heap.size<=g,⟨_,_,⟨0,Ptz,rfl,by omega,rfl,⟨[],rfl,eu _ _ _,λi x p h=>by simp[nV]at h⟩,GB.refl _ _,nofun⟩,sb rfl⟩,?_⟩;rintro m s w1 ⟨k,lv,rfl,hk,rfl,⟨ps,hpl,ho,hps⟩,g1,hn⟩;refine ah (λc=>?_) (λc=>?_)
 .have c1:k<60:=by simp at c;omega
  have h1:=h.ay g1;obtain⟨f,e1,e2,e3⟩:=h.ri.vm;refine⟨_,_,h1.ri.mem,_,rfl,f,e1.keep (g1.block _ h.ri.vm.lt nofun),λw2 b2 m2 g2 l2=>?_⟩;rcases kI e3 k with⟨n1,n2⟩|⟨x,v,n1,n2,rv,dv,rfl,hr⟩
  .rw[n2]
   refine⟨_,_,_,m2,rfl,rfl,λw3 m3 g3=>?_⟩;have g13:GB none w1 w3:=⟨g3.os.trans g2.os,g3.out.trans g2.out,Jb1 g2.size g3.size,λx hx _=>(g3.block x (Jbz hx g2.size) (λe=>by cases e;omega)).trans (g2.block x hx nofun)⟩;refine⟨by omega,_,_,⟨k+1,lv,rfl,by omega,rfl,?_,g1.trans g13,hn⟩,(sb rfl),by omega⟩;rw[GI,n1,Option.toList_none,Jc1];exact⟨ps,hpl,ax ho λg hg=>by obtain⟨cur,hc⟩:=au ho hg;exact g13.block g (ae hc) nofun,hps⟩
  .rw[n2]
   obtain⟨ra,rn,rc,da,dn,dc,rfl,rfl⟩:=hr.sl;refine⟨_,_,_,m2,rfl,rfl,λw3 m3 g3=>?_⟩;have g13:GB none w1 w3:=⟨g3.os.trans g2.os,g3.out.trans g2.out,Jb1 g2.size g3.size,λx hx _=>(g3.block x (Jbz hx g2.size) (λe=>by cases e;omega)).trans (g2.block x hx nofun)⟩;obtain⟨oa,oc,rfl⟩:=af ho;refine⟨_,_,m3,_,rfl,rfl,λw4 b4 m4 g4 l4=>?_⟩;have Bi:=ax ho (w1:=w4) λg hg=>by obtain⟨cur,hc⟩:=au ho hg;exact(g13.trans g4).block g (ae hc) nofun
   have hol:=Ci R.cZ k;refine⟨_,kE x (.slice ra rn rc) (.slice da dn dc),Bi,⟨_,_,m4,rfl,rfl,rfl⟩,by omega,λv' w5 Bj g5 n5=>?_⟩;have g15:GB none w w5:=GB.ownB ((g1.trans g13).trans g4) g5 hn;refine⟨by omega,_,_,⟨k+1,v',rfl,by omega,rfl,?_,g15,λg hg=>(n5 g hg).elim (hn g) (λhl=>by have:=((g1.trans g13).trans g4).size;omega)⟩,(sb rfl),by omega⟩;rw[GI,n1];refine⟨ps++[(.slice ra rn rc,.slice da dn dc)],by simp[hpl],?_,O0 hpl hps hr⟩
   .rw[Option.toList_some,Jc6,zipWith_append (by rw[hpl]),Jfr]
    exact Bj
 .have c1:k=60:=by simp at c;omega
  subst c1;exact⟨Yk.vs ⟨ps,hpl,ho,hps⟩ g1,g1⟩
def uw(enc:MM->ByteArray)(R:MR)(f:Nat×Nat)(b:bH):MR:=if b.lt R.sc.b=true then bN enc R f b else mh enc (bN enc R f b) {aL 4 with b:=b,vs:=nV (bN enc R f b).cZ 60} [f]
theorem ZL(h:Wk Λ br R w)(f:Nat×Nat)(b:bH)(hb:R.out.length<=900000):CY 79 #[Ptt br,.agg #[.int .u8 f.1,.int .u8 f.2],.agg (bC b).toArray] w (λv w'=>v=.tuple #[]/\Wk Λ br (uw enc R f b) w'/\Kz w w'):=by
 refine aj Tryz.func79 rfl rfl ?_;intro w1 b1 m1 g1 l1 w2 b2 m2 g2 l2;have m1:=g2.get m1 nofun;have g:=g1.trans g2;refine⟨_,_,m1,_,rfl,rfl,_,_,m2,_,rfl,rfl,_,Jw HM (h.ay g) f b hb,?_⟩;rintro _ w3 ⟨rfl,h3,k3⟩;have m2:=k3 _ (by decide) _ _ m2;have m1:=k3 _ (by decide) _ _ m1;unfold uw;refine ah (λc=>?_) (λc=>?_)
 .rw[Jb6 c]
  exact⟨rfl,h3,g.kz.trans k3⟩
 rw[Jb5 (by rw[c];decide)];have hl:(bN enc R f b).out.length<=900000:=by
  unfold bN;rw[Jb5 (by rw[c];decide)];split<;>exact hb
 refine⟨by kernel_rfl,_,_,m2,_,rfl,rfl,_,_,m1,_,rfl,rfl,⟨_,El h3,?_⟩,?_⟩
 .rintro v w4 ⟨hv,g4⟩
  obtain⟨va,vc,rfl⟩:=hv.sl;refine⟨⟨g4.get m1 nofun,g4.get m2 nofun,trivial⟩,?_⟩;intro w5 b5 m5 g5 l5;refine⟨⟨(g4.trans g5).get m1 nofun,(g4.trans g5).get m2 nofun,trivial⟩,_,oG HM ((h3.ay g4).ay g5) (m:={aL 4 with b:=b,vs:=nV (bN enc R f b).cZ 60}) ⟨_,_,_,_,_,rfl,aS.zero _,hv.kz g5.kz,aS.zero _⟩ (tl:=[f]) ⟨_,_,rfl,Jb0 _,rfl,.inr ⟨_,_,_,rfl,m5,rfl⟩⟩ (by simp;omega),?_⟩;rintro _ w6 ⟨rfl,h6,k6⟩;exact⟨rfl,h6,(g.kz.trans k3).trans ((g4.trans g5).kz.trans k6)⟩
 .intro w4 b4 m4 g4 l4
  refine⟨⟨g4.get m1 nofun,g4.get m2 nofun,trivial⟩,_,El (h3.ay g4),?_⟩;rintro v w5 ⟨hv,g5⟩;obtain⟨va,vc,rfl⟩:=hv.sl;refine⟨⟨(g4.trans g5).get m1 nofun,(g4.trans g5).get m2 nofun,trivial⟩,_,oG HM ((h3.ay g4).ay g5) (m:={aL 4 with b:=b,vs:=nV (bN enc R f b).cZ 60}) ⟨_,_,_,_,_,rfl,aS.zero _,hv,aS.zero _⟩ (tl:=[f]) ⟨_,_,rfl,Jb0 _,rfl,.inr ⟨_,_,_,rfl,g5.get m4 nofun,rfl⟩⟩ (by simp;omega),?_⟩;rintro _ w6 ⟨rfl,h6,k6⟩;exact⟨rfl,h6,(g.kz.trans k3).trans ((g4.trans g5).kz.trans k6)⟩
end
section
variable{Λ:bW}{w w1 w2:World}{br:Nat}{R:MR}{a:gD}
theorem Wa.lg'(h:Wa Λ br R a w){lv:Value}{ls:List MC}(g1:GB a.lg.ownBlock w w1)(ho:jL w1 lv ls)(hn:∀g,lv.ownBlock=some g->a.lg.ownBlock=some g\/w.heap.size<=g)(m2:Hl w2 br (p9 {R with log:=ls} {a with lg:=lv}) 135)(g2:GB (some br) w1 w2):Wa Λ br {R with log:=ls} {a with lg:=lv} w2/\Kz w w2:=by
 have Wx:∀g,lv.ownBlock=some g->g≠br:=λg hg e=>by
  subst e;rcases hn g hg with h1|h1
  .exact h.ri.Ac h1 rfl
  .have:=ae h.ri.mem;omega
 have mbr:w1.heap[br]?=w.heap[br]?:=g1.block br (ae h.ri.mem) λe=>h.ri.Ac e.symm rfl
 have kp:∀x,x<w.heap.size->some x≠a.lg.ownBlock->x≠br->w2.heap[x]?=w.heap[x]?:=λx hx h1 h2=>(g2.block x (Jbz hx g1.size) λe=>h2 (Jbm e)).trans (g1.block x hx h1)
 have k:Kz w w2:=λt ht b c hb=>by
  refine(kp b (ae hb) (λe=>?_) (λe=>?_)).trans hb
  .exact h.ri.mut (h.ri.wU e.symm) t ht c hb
  .subst e;exact h.ri.mut h.ri.jy t ht c hb
 have k1:Kz w1 w2:=g2.Ei λc t ht hc=>by rw[mbr,h.ri.mem]at hc;injection hc with hc;injection hc with _ hc;subst hc;revert ht;decide
 have mp:∀m:Nat,(∃es c,w.heap[m]?=some (Obj.map es c))->w2.heap[m]?=w.heap[m]?:=λm hm=>kp m (by obtain⟨_,_,h⟩:=hm;exact ae h) (λe=>iJ hm (h.ri.clg e.symm) rfl) (iJ hm h.ri.uO)
 refine⟨⟨⟨m2,h.ri.vm.keep (λ_ _ h=>h.kz k) (mp _ h.ri.vm.obj),h.ri.wm.keep (λ_ _ h=>h.kz k) (mp _ h.ri.wm.obj),h.ri.kn.keep (λ_ _ h=>h.kz k) (mp _ h.ri.kn.obj),h.ri.mt.keep (λ_ _ h=>h.kz k) (mp _ h.ri.mt.obj),h.ri.pp.keep (λ_ _ h=>h.kz k) (mp _ h.ri.pp.obj),h.ri.ac.keep (w':=w2) (λv x (h:nT w v x)=>(show nT w2 v x from h)) (mp _ h.ri.ac.obj),ho.kz k1 (λg hg=>?_),h.ri.st.kz k,ax h.ri.ob (λg hg=>?_),h.ri.sep⟩,λb o hb=>?_,g2.os.trans (g1.os.trans h.os),g2.out.trans (g1.out.trans h.out)⟩,k⟩
 .obtain⟨cur,hc⟩:=ho.obj hg
  exact g2.block g (ae hc) λe=>Wx g hg (Jbm e)
 .exact kp g (h.ri.lt (h.ri.ve hg)) (λe=>h.ri.QZ e.symm hg rfl) (h.ri.Dv hg)
 .obtain⟨p1,p2⟩:=h.pr b o hb
  have hl:=ae p1;refine⟨(kp b hl (λe=>p2 (h.ri.wU e.symm)) (λe=>p2 (by rw[e];exact h.ri.jy))).trans p1,λho=>?_⟩;rcases ho with e|e|e|e|e|e|e|e|e
  .exact p2 (.inl e)
  .exact p2 (.inr (.inl e))
  .exact p2 (.inr (.inr (.inl e)))
  .exact p2 (.inr (.inr (.inr (.inl e))))
  .exact p2 (.inr (.inr (.inr (.inr (.inl e)))))
  .exact p2 (.inr (.inr (.inr (.inr (.inr (.inl e))))))
  .exact p2 (.inr (.inr (.inr (.inr (.inr (.inr (.inl e)))))))
  .rcases hn b e with h1|h1
   .exact p2 (h.ri.wU h1)
   .omega
  .exact p2 (h.ri.ve e)
theorem Wa.st'(h:Wa Λ br R a w){s:St}{T M D O I:Value}(hs:fE w1 T M D O I s)(m1:Hl w1 br (p9 {R with st:=s} {a with sT:=T,sM:=M,sD:=D,sO:=O,sI:=I}) 135)(g:GB (some br) w w1):Wa Λ br {R with st:=s} {a with sT:=T,sM:=M,sD:=D,sO:=O,sI:=I} w1/\Kz w w1:=by
 have k:=h.ri.kz h.ri.jy g;have r:=h.ri;refine⟨⟨⟨m1,r.vm.keep (λ_ _ h=>h.kz k) (r.far r.wQ g (iJ r.vm.obj r.uO)),r.wm.keep (λ_ _ h=>h.kz k) (r.far r.EU g (iJ r.wm.obj r.uO)),r.kn.keep (λ_ _ h=>h.kz k) (r.far r.wR g (iJ r.kn.obj r.uO)),r.mt.keep (λ_ _ h=>h.kz k) (r.far r.nM g (iJ r.mt.obj r.uO)),r.pp.keep (λ_ _ h=>h.kz k) (r.far r.wS g (iJ r.pp.obj r.uO)),r.ac.keep (w':=w1) (λv x (h:nT w v x)=>(show nT w1 v x from h)) (r.far r.wT g (iJ r.ac.obj r.uO)),r.lg.kz k (λx hx=>r.far (r.wU hx) g (r.Ac hx)),hs,ax r.ob (λx hx=>r.far (r.ve hx) g (r.Dv hx)),r.sep⟩,λb o hb=>?_,g.os.trans h.os,g.out.trans h.out⟩,k⟩;exact⟨g.get (h.pr b o hb).1 λe=>(h.pr b o hb).2 (by cases e;exact r.jy),(h.pr b o hb).2⟩
end
structure aI where
 N:Nat
 enc:MM->ByteArray
 ap:St->MC->St×ag
 bg:Nat->Nat->St
 dec:ByteArray->Option MM
 good:Nat->St->Prop
 gc:MC->Prop
structure bG(A:aI):Prop where
 nW:IC A.enc
 call:∀{k:Nat} (w:World) (s:St) (c:MC) (vT vM vD vO vI cv:Value),fE w vT vM vD vO vI s->A.good k s->kF w cv c->A.gc c->CY 38 #[.agg #[.int .u8 s.g,.int .u8 s.n,vT,vM,vD,vO,vI],cv] w (λv w'=>∃T M D O I,v=.tuple #[.agg #[.int .u8 (A.ap s c).1.g,.int .u8 (A.ap s c).1.n,T,M,D,O,I],.agg (A.ap s c).2.cells.toArray]/\(∀w'':World,(∀x,w.heap.size<=x->x<w'.heap.size->w''.heap[x]?=w'.heap[x]?)->fE w'' T M D O I (A.ap s c).1)/\GB none w w')
 Kr:∀{k} s c,k<=60->A.good k s->A.gc c->A.good (k+1) (A.ap s c).1
 rep:∀{k} s c,A.good k s->A.gc c->0<=(A.ap s c).2.c
 src:∀{k} s c,A.good k s->A.gc c->c.kind=2->0<=c.r.src/\c.r.src.toNat<s.I.length
 LZ:A.gc nu
 parse:∀(w:World) (d:ByteArray),CY 21 #[.string d] w (λv w'=>(∃mv e m,v=.tuple #[mv,.int .i64 e]/\Ch w' mv m/\((e=0/\A.dec d=some m/\1<=m.kind/\m.kind<=10)\/(e≠0/\A.dec d=none)))/\GB none w w')
 beg:∀(w:World) (g n:Nat),g<n->n<=4->CY 55 #[.int .i64 g,.int .i64 n] w (λv w'=>∃T M D O I e,v=.tuple #[.agg #[.int .u8 (A.bg g n).g,.int .u8 (A.bg g n).n,T,M,D,O,I],.int .i64 e]/\(∀w'':World,(∀x,w.heap.size<=x->x<w'.heap.size->w''.heap[x]?=w'.heap[x]?)->fE w'' T M D O I (A.bg g n))/\GB none w w')
 Ag:∀g n,n=A.N->g<n->n<=4->A.good 0 (A.bg g n)
 dl:∀{k} s,A.good k s->s.D.length<=1000000
 ol:∀{k} s,A.good k s->s.O.length<=200
 L8:∀{k} s,A.good k s->∀(i:Nat) (x:Int),s.I[i]?=some x->0<=x
theorem bG.next{A:aI}(HA:bG A){l:List MC}{s:St}{c:MC}(h:A.good l.length s)(hl:l.length<=60)(hc:A.gc c):A.good (l++[c]).length (A.ap s c).1:=by rw[Jc6];exact HA.Kr _ _ hl h hc
section
variable(A:aI)
def oH(R:MR)(c:MC)(p:ag):MR:=if c.kind=1 then Ae A.enc R p else if c.kind=2 then Af A.enc R c.r.src.toNat (fK R.sc.g R.sc.i c.r.src.toNat R.sc.sz)else R
def qd(R:MR)(c:MC):MR:=if R.sc.role=2 then oH A {R with st:=(A.ap R.st c).1,log:=R.log++[c]} c (A.ap R.st c).2 else{ R with st:=(A.ap R.st c).1,log:=R.log++[c]}
def gZ:Nat->MR->MR
 |0,R=>R
 |n+1,R=>match R.known R.log.length with
  |none=>R
  |some c=>gZ n (qd A {R with known:=upd R.known R.log.length none} c)
def jh(R:MR)(s:Nat)(c:MC):MR:=if s<R.log.length then R else gZ A 61 {R with props:=upd R.props s none,acc:=upd R.acc s none,sc:={R.sc with next:=max R.sc.next (s+1)},known:=upd R.known s (some c)}
end
theorem kJ(enc:MM->ByteArray)(R:MR)(m:MM)(tl:List (Nat×Nat)):(mh enc R m tl).out.length=R.out.length+tl.length:=by simp[mh,kg]
section
variable{A:aI}(HA:bG A){Λ:bW}{w:World}{br:Nat}{R:MR}
include HA
theorem ab4(h:Wk Λ br R w){c:MC}{cv:Value}(hc:kF w cv c){p:ag}(hp:0<=p.c)(hs:c.kind=2->0<=c.r.src/\c.r.src.toNat<R.st.I.length)(hz:R.sc.sz<=5)(hb:R.out.length<=900000):CY 199 #[Ptt br,cv,.agg p.cells.toArray] w (λv w'=>v=.tuple #[]/\Wk Λ br (oH A R c p) w'/\Kz w w'):=by
 obtain⟨rv,dv,rfl,hr⟩:=hc;refine aj Tryz.func199 rfl rfl ?_;intro w1 b1 m1 g1 l1 w2 b2 m2 g2 l2;have m1:=g2.get m1 nofun;have g:=g1.trans g2;refine⟨_,_,m1,_,rfl,?_⟩;unfold oH;refine ah (λd=>?_) (λd=>?_)
 .have d1:c.kind=1:=by simpa using d
  rw[Jb6 d1];refine⟨_,_,m2,_,rfl,rfl,_,OZ HA.nW (h.ay g) hp hb,?_⟩;rintro _ w3 ⟨rfl,h3,k3⟩;exact⟨rfl,h3,g.kz.trans k3⟩
 .have d1:¬c.kind=1:=by simpa using d
  rw[Jb5 d1];refine ah (λe=>?_) (λe=>?_)
  .have e1:c.kind=2:=by simpa using e
   rw[Jb6 e1];obtain⟨s0,s1⟩:=hs e1;have es:(c.r.src.toNat:Int)=c.r.src:=Jfp s0;refine⟨by kernel_rfl,_,_,m1,_,rfl,_,_,m1,_,rfl,?_⟩;have ho:=Cg (h.ay g) c.r.src.toNat hz;rw[es]at ho;refine⟨_,ho,?_⟩;rintro v w3 ⟨hv,g3⟩;have hol:=jm R.sc.g R.sc.i c.r.src.toNat R.sc.sz;have ha:=TI HA.nW ((h.ay g).ay g3) s1 hv (by omega);rw[es]at ha;refine⟨⟨g3.get m1 nofun,g3.get m1 nofun,trivial⟩,_,ha,?_⟩;rintro _ w4 ⟨rfl,h4,k4⟩;exact⟨rfl,h4,(g.trans g3).kz.trans k4⟩
  .have e1:¬c.kind=2:=by simpa using e
   rw[Jb5 e1];exact⟨rfl,h.ay g,g.kz⟩
theorem aeu(h:Wk Λ br R w){c:MC}{cv:Value}(hc:kF w cv c){k:Nat}(agV:k<=60)(hg:A.good k R.st)(hgc:A.gc c)(hz:R.sc.sz<=5)(hl:R.log.length<=1000)(hb:R.out.length<=900000):CY 185 #[Ptt br,cv] w (λv w'=>v=.tuple #[]/\Wk Λ br (qd A R c) w'/\Kz w w'):=by
 have hc0:=hc;obtain⟨rv,dv,rfl,hr⟩:=hc;refine aj Tryz.func185 rfl rfl ?_;intro w1 b1 m1 g1 l1 w2 b2 m2 g2 l2;obtain⟨h1,u1⟩:=h.box g1 m1 l1;have g:=g1.trans g2;obtain⟨a,h1⟩:=h1;obtain⟨vm,wm,kn,mt,pp,ac,lg,ob,sT,sM,sD,sO,sI⟩:=a;have h2:=h1.ay g2;have hbr:br<w1.heap.size:=ae h1.ri.mem;refine⟨by kernel_rfl,_,_,h2.ri.mem,_,rfl,rfl,_,_,g2.get m1 nofun,_,rfl,rfl,_,HA.call w2 R.st c _ _ _ _ _ _ h2.ri.st hg (hc0.kz g.kz) hgc,?_⟩;rintro _ w3 ⟨T,M,D,O,I,rfl,hs3,g3⟩;have h3:=h2.ay g3;obtain⟨ta,tn,tc,ma,mn,mc,da,dn,dc,oa,on,oc,ia,il,ic,rfl,rfl,rfl,rfl,rfl⟩:=(hs3 w3 λ_ _ _=>rfl).sl;refine⟨_,_,_,h3.ri.mem,rfl,rfl,λw4 m4 g4=>?_⟩;have m2':Hl w4 b2 (zc fG.T 70) 70:=g4.get (g3.get m2 nofun) λe=>by cases e;omega
 refine⟨_,_,_,m2',rfl,rfl,λw5 m5 g5=>?_⟩;have g15:GB (some br) w1 w5:=⟨g5.os.trans (g4.os.trans (g3.os.trans g2.os)),g5.out.trans (g4.out.trans (g3.out.trans g2.out)),Jb1 g2.size (Jb1 g3.size (Jb1 g4.size g5.size)),λx hx hne=>(g5.block x (Jbz hx (Jb1 g2.size (Jb1 g3.size g4.size))) (λe=>by cases e;omega)).trans ((g4.block x (Jbz hx (Jb1 g2.size g3.size)) hne).trans ((g3.block x (Jbz hx g2.size) nofun).trans (g2.block x hx nofun)))⟩;have ajL:b2<w2.heap.size:=ae m2;obtain⟨h5,k5⟩:=h1.st' (hs3 w5 λx hx hx3=>(g5.block x (Jbz hx3 g4.size) (λe=>by cases e;omega)).trans (g4.block x hx3 λe=>by cases e;have:=g2.size;omega)) (g5.get m4 λe=>by cases e;omega) g15;have GJ:w5.heap[b1]?=_:=(h5.pr b1 _ (by unfold bW.add;simp;rfl)).1;obtain⟨la,lc,rfl⟩:∃la lc,lg=.slice la R.log.length lc:=by obtain⟨_,_,h,_⟩:=h5.ri.lg;exact af h
 obtain⟨ra,rn,rc,qf,vH,qg,rfl,rfl⟩:=hr.sl;refine⟨by kernel_rfl,_,_,h5.ri.mem,_,rfl,_,_,GJ,_,rfl,rfl,λw6 b6 m6 g6 l6=>?_⟩;have h6:=h5.ay g6;obtain⟨ps,hpl,hlo,hlr⟩:=h6.ri.lg;refine⟨⟨g6.get GJ nofun,h6.ri.mem,trivial⟩,_,dF c (.slice ra rn rc) (.slice qf vH qg),hlo,⟨_,_,m6,rfl,rfl,rfl⟩,by omega,λlv w7 nU g7 n7=>?_⟩;obtain⟨la',lc',rfl⟩:=af nU;have m7:w7.heap[br]?=_:=(g7.block br (ae h6.ri.mem) λe=>h6.ri.Ac e.symm rfl).trans h6.ri.mem;refine⟨_,_,_,m7,rfl,rfl,λw8 m8 g8=>?_⟩;have TK:Kz w6 w7:=λt ht b cc hb=>g7.get hb λe=>h6.ri.mut (h6.ri.wU e.symm) t ht cc hb
 have Q0:Kz w w6:=(g1.kz.trans k5).trans g6.kz;obtain⟨h8,k8⟩:=h6.lg' (ls:=R.log++[c]) g7 ⟨ps++[(.slice ra rn rc,.slice qf vH qg)],by simp[hpl],by rw[Jc6,zipWith_append (by rw[hpl]),Jfr];exact nU,λi x p hx hp=>(O0 hpl hlr (hr.kz Q0) i x p hx hp).kz TK⟩ n7 m8 g8;have Wz:=Q0.trans k8;unfold qd;refine⟨_,_,h8.ri.mem,_,rfl,ah (λd=>?_) (λd=>?_)⟩
 .have d1:R.sc.role=2:=by simp at d;omega
  rw[Jb6 d1];have Q3:w8.heap[b1]?=_:=(h8.pr b1 _ (by unfold bW.add;simp;rfl)).1;have vJ:w8.heap[b2]?=_:=k8 _ (by decide) _ _ (g6.get m5 nofun);refine⟨_,_,Q3,_,rfl,rfl,_,_,vJ,_,rfl,rfl,_,ab4 HA ⟨_,h8⟩ ⟨_,_,rfl,hr.kz Wz⟩ (HA.rep _ _ hg hgc) (λhk=>HA.src _ c (HA.Kr _ _ agV hg hgc) hgc hk) hz hb,?_⟩;rintro _ w9 ⟨rfl,h9,k9⟩;exact⟨rfl,h9.drop u1,Wz.trans k9⟩
 .have d1:¬R.sc.role=2:=by simp at d;omega
  rw[Jb5 d1];exact⟨rfl,Wk.drop ⟨_,h8⟩ u1,Wz⟩
end
def Jy(l:List Int):List Value:=l.map λb=>.int .u8 b
theorem ZM(a b:List Int):Jy (a++b)=Jy a++Jy b:=Jda
structure Put(w:World)(v:Value)(n:Nat)(xs:List Value)(new:List Int)(v':Value)(w':World):Prop where
 row:w'.ownsRow 0 5 1 v' (n+new.length) (xs++Jy new)
 gb:GB v.ownBlock w w'
 own:∀g,v'.ownBlock=some g->v.ownBlock=some g\/w.heap.size<=g
theorem dw{w:World}{x y:Nat}{c c':Array Value}{t t':TypeId}(h:w.heap[x]?=some (.cells c t))(h':w.heap[y]?=some (.cells c' t'))(hne:t≠t'):x≠y:=λe=>by
 subst e;rw[h]at h';injection h' with h';injection h' with _ h';exact hne h'
section
variable{w w0 w1 w2:World}{v v1 v2:Value}{n:Nat}{xs:List Value}{a b:List Int}
theorem Put.trans(h:Put w v n xs a v1 w1)(k:Put w1 v1 (n+a.length) (xs++Jy a) b v2 w2):Put w v n xs (a++b) v2 w2:=by
 refine⟨?_,⟨k.gb.os.trans h.gb.os,k.gb.out.trans h.gb.out,Jb1 h.gb.size k.gb.size,λx hx hn=>(k.gb.block x (Jbz hx h.gb.size) λe=>?_).trans (h.gb.block x hx hn)⟩,λg hg=>?_⟩
 .have:=k.row
  rw[Jd4,<-ZM,Nat.add_assoc,<-Jc6]at this;exact this
 .rcases h.own x e.symm with q|q
  .exact hn q.symm
  .omega
 .rcases k.own g hg with q|q
  .exact h.own g q
  .exact .inr (Jb1 h.gb.size q)
theorem Put.pre(g:GB none w0 w)(h:Put w v n xs a v1 w1):Put w0 v n xs a v1 w1:=⟨h.row,⟨h.gb.os.trans g.os,h.gb.out.trans g.out,Jb1 g.size h.gb.size,λx hx hn=>(h.gb.block x (Jbz hx g.size) hn).trans (g.block x hx nofun)⟩,λx hx=>(h.own x hx).imp id λe=>Jb1 g.size e⟩
theorem Put.nil(ho:w.ownsRow 0 5 1 v n xs):Put w v n xs [] v w:=⟨by simpa[Jy]using ho,GB.refl _ _,λ_ h=>.inl h⟩
theorem Put.get(h:Put w v n xs a v1 w1)(ho:w.ownsRow 0 5 1 v n xs){x:Nat}{c:Array Value}{t:TypeId}(hx:w.heap[x]?=some (.cells c t))(ht:t≠5):w1.heap[x]?=some (.cells c t):=h.gb.get hx λe=>by
 obtain⟨c',hc⟩:=au ho e.symm;exact dw hx hc ht rfl
theorem kK(ho:w.ownsRow 0 5 1 v n xs)(g:GB none w w1):w1.ownsRow 0 5 1 v n xs:=ax ho λx hx=>by obtain⟨c,hc⟩:=au ho hx;exact g.block x (ae hc) nofun
theorem dJ(ho:w.ownsRow 0 5 1 v n xs)(hn:n<=900000000)(x:Int):CY 119 #[v,.int .u8 x] w (λv' w'=>Put w v n xs [x] v' w'):=by
 obtain⟨va,vc,rfl⟩:=af ho;refine aj Tryz.func119 rfl rfl ?_;refine λw1 b1 m1 g1 l1=>?_
 refine⟨_,[.int .u8 x],kK ho g1,⟨_,_,m1,rfl,rfl,rfl⟩,by omega,λv' w2 ho2 g2 n2=>?_⟩;exact Put.pre g1 ⟨ho2,g2,n2⟩
def b32(x:Int):List Int:=[IntKind.u8.wrap (x.fdiv (2^24)),IntKind.u8.wrap (x.fdiv (2^16)),IntKind.u8.wrap (x.fdiv (2^8)),IntKind.u8.wrap x]
theorem jA(ho:w.ownsRow 0 5 1 v n xs)(hn:n<=900000000)(x:Int):CY 125 #[v,.int .u32 x] w (λv' w'=>Put w v n xs (b32 x) v' w'):=by
 obtain⟨va,vc,rfl⟩:=af ho;refine aj Tryz.func125 rfl rfl ?_;refine⟨by decide,.inr ⟨by decide,.inr ⟨by decide,.inr (.inr (λw1 b1 m1 g1 l1=>?_))⟩⟩⟩;refine⟨_,Jy (b32 x),kK ho g1,⟨_,_,m1,rfl,rfl,rfl⟩,by omega,λv' w2 ho2 g2 n2=>?_⟩;exact Put.pre g1 ⟨ho2,g2,n2⟩
def b64(x:Int):List Int:=b32 (IntKind.u32.wrap (x.fdiv (2^32)))++b32 (IntKind.u32.wrap x)
theorem mJ(ho:w.ownsRow 0 5 1 v n xs)(hn:n<=800000000)(x:Int):CY 174 #[v,.int .u64 x] w (λv' w'=>Put w v n xs (b64 x) v' w'):=by
 refine aj Tryz.func174 rfl rfl ?_;refine⟨by decide,.inr ⟨_,jA ho (by omega) _,?_⟩⟩;intro v1 w1 p1;refine .inr ⟨_,jA p1.row (by show n+4<=_;omega) _,?_⟩;intro v2 w2 p2;exact p1.trans p2
end
end
