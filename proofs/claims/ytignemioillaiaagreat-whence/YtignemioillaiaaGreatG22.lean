/- A replica at work (7): messages; tell, acknowledge, sendAccept, refuse, takeReject. -/
import Derived.Test.YtignemioillaiaaGreatG21
namespace Go.Proofs.YtignemioillaiaaGreat
set_option maxHeartbeats 8000000
set_option maxRecDepth 100000
section
open Go Go.Conc
structure MM where
 kind:Int
 q:bQ
 p:aB
 b:bF
 s:Nat
 c:MC
 vs:List MV
 r:Rg
 (peer seq:Int)
def qN:bQ:=⟨0,0,0,0,0,0,0⟩
def tJ:aB:=⟨0,0,0,0,false,0,0⟩
def qh:Rg:=⟨0,0,0,0,0,[],[]⟩
def nD:MC:=⟨0,qN,qh,0,0⟩
def aO(k:Int):MM:=⟨k,qN,tJ,⟨0,0⟩,0,nD,[],qh,0,0⟩
def dS(m:MM)(rv dv vv rv' eO:Value):List Value:=(.int .u8 m.kind::m.q.cells)++m.p.cells++[.int .u32 m.b.n,.int .u8 m.b.id,.int .u32 m.s]++dA m.c rv dv++[vv]++dP m.r rv' eO++[.int .u8 m.peer,.int .u32 m.seq]
def bY(w:World)(v:Value)(l:List MV):Prop:=∃ps:List (Value×Value),ps.length=l.length/\Fz w 196 20 v l.length (List.zipWith (λx p=>jL x p.1 p.2) l ps).flatten/\∀(i:Nat) (x:MV) (p:Value×Value),l[i]? = some x->ps[i]? = some p->aL w x.c.r p.1 p.2
theorem bY.kz{w w':World}{v:Value}{l:List MV}(h:bY w v l)(k:Kz w w'):bY w' v l:=by
 obtain⟨vs,h1,h2,h3⟩:=h;exact⟨vs,h1,h2.kz k (by decide),λi r p hr hp=>(h3 i r p hr hp).kz k⟩
def AR(w:World)(v:Value)(m:MM):Prop:=∃rv dv vv rv' eO,v=.agg (dS m rv dv vv rv' eO).toArray/\aL w m.c.r rv dv/\bY w vv m.vs/\aL w m.r rv' eO
theorem AR.kz{w w':World}{v:Value}{m:MM}(h:AR w v m)(k:Kz w w'):AR w' v m:=by
 obtain⟨rv,dv,vv,rv',eO,h1,h2,h3,h4⟩:=h;exact⟨rv,dv,vv,rv',eO,h1,h2.kz k,h3.kz k,h4.kz k⟩
theorem aL.zero(w:World):aL w qh (.slice none 0 0) (.slice none 0 0):=⟨Fz.nil _ _ _,Fz.nil _ _ _⟩
theorem bY.zero(w:World):bY w (.slice none 0 0) []:=⟨[],rfl,Fz.nil _ _ _,λi x p h=>by simp at h⟩
def Ga(enc:MM->ByteArray):Prop:=∀w v m,AR w v m->ag Tryz.prog 158 #[v] w (λv w'=>(∃e,v=.tuple #[.string (enc m),.int .i64 e])/\GB none w w')
def kR(enc:MM->ByteArray)(R:MR)(m:MM)(tl:List (Nat×Nat)):MR:=jO R (enc m) tl
section
variable{enc:MM->ByteArray}(HM:Ga enc){Λ:bU}{w:World}{br:Nat}{R:MR}
include HM
theorem nE(h:Wk Λ br R w){v:Value}{m:MM}(hv:AR w v m){tv:Value}{tl:List (Nat×Nat)}(ht:Fz w 66 2 tv tl.length (Cz tl))(hb:R.out.length+tl.length<=1000000):ag Tryz.prog 108 #[Ptt br,v,tv] w (λv w'=>v=.tuple #[]/\Wk Λ br (kR enc R m tl) w'/\Kz w w'):=by
 have hv0:=hv;obtain⟨rv,dv,vv,rv',eO,rfl,_⟩:=hv;exact Xr h rfl (λw1 k1=>HM w1 _ m (hv0.kz k1)) ht hb
def BO(enc:MM->ByteArray)(R:MR)(p:aB):MR:=kR enc R { aO 2 with p:=p } [(255,p.c.toNat)]
theorem MJ(h:Wk Λ br R w){p:aB}(hp:0<=p.c)(hb:R.out.length<=900000):ag Tryz.prog 163 #[Ptt br,.agg p.cells.toArray] w (λv w'=>v=.tuple #[]/\Wk Λ br (BO enc R p) w'/\Kz w w'):=by
 refine aj ah mixed Tryz.func163 rfl rfl ?_;intro w1 b1 m1 g1 l1;refine⟨_,_,m1,_,rfl,λw2 b2 m2 g2 l2=>⟨_,_,_,m2,rfl,rfl,λw3 m3 g3=>?_⟩⟩;have g13:GB none w1 w3:=⟨g3.os.trans g2.os,g3.out.trans g2.out,Nat.le_trans g2.size g3.size,λx hx _=>(g3.block x (Nat.lt_of_lt_of_le hx g2.size) (λe=>by cases e;omega)).trans (g2.block x hx nofun)⟩;refine⟨_,_,g13.get m1 nofun,_,rfl,rfl,_,_,m3,_,rfl,rfl,λw4 b4 m4 g4 l4=>?_⟩;have g:=(g1.trans g13).trans g4;refine⟨_,nE HM (h.ax g) (m:={ aO 2 with p:=p }) ⟨_,_,_,_,_,rfl,aL.zero _,bY.zero _,aL.zero _⟩ (tl:=[(255,p.c.toNat)]) ⟨_,_,rfl,Nat.le_refl _,rfl,.inr ⟨_,_,_,rfl,m4,?_⟩⟩ (by simp;omega),?_⟩
 ·show[Value.int .u8 255,Value.int .u8 p.c]=[.int .u8 255,.int .u8 (p.c.toNat:Int)]
  rw[Int.toNat_of_nonneg hp]
 ·rintro v w5 ⟨rfl,h5,k5⟩
  exact⟨rfl,h5,g.kz.trans k5⟩
def yS(enc:MM->ByteArray)(R:MR)(src:Nat)(tl:List (Nat×Nat)):MR:=kR enc R { aO 10 with peer:=R.sc.g,seq:=R.st.I.getD src 0 } tl
theorem QH(h:Wk Λ br R w){src:Nat}(hs:src<R.st.I.length){tv:Value}{tl:List (Nat×Nat)}(ht:Fz w 66 2 tv tl.length (Cz tl))(hb:R.out.length+tl.length<=1000000):ag Tryz.prog 171 #[Ptt br,.int .u8 src,tv] w (λv w'=>v=.tuple #[]/\Wk Λ br (yS enc R src tl) w'/\Kz w w'):=by
 have h0:=h;obtain⟨a,h⟩:=h;obtain⟨vm,wm,kn,mt,pp,ac,lg,ob,sT,sM,sD,sO,sI⟩:=a;obtain⟨ia,ic,rfl,i1,i2,i3⟩:=h.ri.st.I;rcases i3 with⟨_,i3⟩|⟨B,off,cs,rfl,hB,hcut⟩
 ·omega
 refine aj ah mixed Tryz.func171 rfl rfl ?_;obtain⟨x,hx⟩:∃x,R.st.I[src]? = some x:=⟨R.st.I[src],by simp[hs]⟩;have hx2:cs.toList[off+src]? = some (.int .u32 x):=by
  have h1:(aJ cs.toList off (R.st.I.length*1))[src]? = some (.int .u32 x):=by rw[hcut,List.getElem?_map,hx];rfl
  unfold aJ at h1;rw[List.getElem?_take,if_pos (by omega),List.getElem?_drop]at h1;exact h1
 refine⟨by kernel_rfl,_,_,h.ri.mem,_,rfl,_,_,h.ri.mem,_,rfl,⟨by omega,by omega⟩,_,_,hB,.int .u32 x,by show cs.toList[off+src*1]? = _;rw[Nat.mul_one];exact hx2,?_⟩;refine⟨_,nE HM h0 (m:={ aO 10 with peer:=R.sc.g,seq:=R.st.I.getD src 0 }) ⟨_,_,_,_,_,?_,aL.zero _,bY.zero _,aL.zero _⟩ ht hb,by rintro _ w' ⟨rfl,h,k⟩;exact⟨rfl,h,k⟩⟩;rw[List.getD_eq_getElem?_getD,hx];rfl
def JP(enc:MM->ByteArray)(R:MR)(s:Nat)(c:MC):MR:=kR enc R { aO 6 with b:=R.sc.b,s:=s,c:=c } (fI R.sc.g R.sc.i R.sc.g R.sc.sz)
theorem VK(h:Wk Λ br R w)(hz:R.sc.sz<=5){s:Nat}{c:MC}{cv:Value}(hc:jS w cv c)(hb:R.out.length<=900000):ag Tryz.prog 160 #[Ptt br,.int .u32 s,cv] w (λv w'=>v=.tuple #[]/\Wk Λ br (JP enc R s c) w'/\Kz w w'):=by
 obtain⟨rv,dv,rfl,hr⟩:=hc;refine aj ah mixed Tryz.func160 rfl rfl ?_;intro w1 b1 m1 g1 l1;have h1:=h.ax g1;have h10:=h1;obtain⟨a,h1⟩:=h1;refine⟨by kernel_rfl,_,_,h1.ri.mem,_,rfl,rfl,_,_,m1,_,rfl,rfl,_,yR h10 hz,?_⟩;rintro v w2 ⟨hv,g2⟩;have hol:=iY R.sc.g R.sc.i R.sc.g R.sc.sz;refine⟨⟨g2.get m1 nofun,(h1.ax g2).ri.mem,trivial⟩,_,nE HM (h10.ax g2) (m:={ aO 6 with b:=R.sc.b,s:=s,c:=c }) ⟨_,_,_,_,_,rfl,(hr.kz g1.kz).kz g2.kz,bY.zero _,aL.zero _⟩ hv (by omega),?_⟩;rintro v w3 ⟨rfl,h3,k3⟩;exact⟨rfl,h3,(g1.trans g2).kz.trans k3⟩
end
def bF.lt(a b:bF):Bool:=decide (a.n<b.n) || (a.n == b.n && decide (a.id<b.id))
def bC(b:bF):List Value:=[.int .u32 b.n,.int .u8 b.id]
theorem Dv(w:World)(a b:bF):ag Tryz.prog 167 #[.agg (bC a).toArray,.agg (bC b).toArray] w (λv w'=>v=.bool (a.lt b)/\GB none w w'):=by
 refine aj ah mixed Tryz.func167 rfl rfl ?_;intro w1 b1 h1 g1 l1 w2 b2 h2 g2 l2;have h1:=g2.get h1 nofun;refine⟨_,_,h1,_,rfl,_,_,h2,_,rfl,?_⟩;have gg:GB none w w2:=g1.trans g2;unfold bF.lt;refine au (λc=>?_) (λc=>?_)
 ·have c1:¬a.n<b.n:=by simp at c;omega
  refine⟨_,_,h1,_,rfl,_,_,h2,_,rfl,?_⟩;refine au (λd=>?_) (λd=>?_)
  ·have d1:a.n=b.n:=by simp at d;omega
   refine⟨_,_,h1,_,rfl,_,_,h2,_,rfl,?_,gg⟩;simp[d1]
  ·have d1:¬a.n=b.n:=by simp at d;omega
   exact⟨by simp[c1,d1],gg⟩
 ·have c1:a.n<b.n:=by simp at c;omega
  exact⟨by simp[c1],gg⟩
theorem bF.eq{a b:bF}(h1:a.n=b.n)(h2:a.id=b.id):a=b:=by
 cases a
 cases b
 simp_all
instance:DecidableEq bF:=λa b=>by
 obtain⟨n,i⟩:=a;obtain⟨m,j⟩:=b;exact decidable_of_iff (n=m/\i=j) (by simp)
def bR(enc:MM->ByteArray)(R:MR)(f:Nat×Nat)(b:bF):MR :=
 if b.lt R.sc.b=true then kR enc R { aO 5 with b:=R.sc.b } [f]else if b=R.sc.b then R else fP { R with sc:={ R.sc with b:=b } }
theorem bY.sl{w:World}{v:Value}{l:List MV}(h:bY w v l):∃a c,v=.slice a l.length c:=by
 obtain⟨_,_,⟨a,c,h1,_⟩,_⟩:=h;exact⟨a,c,h1⟩
theorem aL.sl{w:World}{r:Rg}{rv dv:Value}(h:aL w r rv dv):∃ra rn rc da dn dc,rv=.slice ra rn rc/\dv=.slice da dn dc:=by
 obtain⟨⟨ra,rc,h1,_⟩,⟨da,dc,h2,_⟩⟩:=h;exact⟨ra,_,rc,da,_,dc,h1,h2⟩
def mY(f:Nat->Option MV)(k:Nat):List MV:=(List.range k).filterMap f
theorem EO(f:Nat->Option MV)(k:Nat):mY f (k+1)=mY f k++(f k).toList:=by
 unfold mY;rw[List.range_succ,List.filterMap_append];cases h:f k<;>simp[h]
theorem AU(f:Nat->Option MV)(k:Nat):(mY f k).length<=k:=by
 unfold mY;exact Nat.le_trans (List.length_filterMap_le _ _) (by simp)
theorem MK{α β:Type}{Rel:α->β->Prop}{l:List α}{ps:List β}(hl:ps.length=l.length){x:α}{y:β}(h:∀(i:Nat) (a:α) (b:β),l[i]? = some a->ps[i]? = some b->Rel a b)(hx:Rel x y):∀(i:Nat) (a:α) (b:β),(l++[x])[i]? = some a->(ps++[y])[i]? = some b->Rel a b:=by
 intro i a b ha hb;rcases Nat.lt_or_ge i l.length with hi|hi
 ·rw[List.getElem?_append_left hi]at ha
  rw[List.getElem?_append_left (by omega)]at hb;exact h i a b ha hb
 ·rw[List.getElem?_append_right hi]at ha
  rw[List.getElem?_append_right (by omega)]at hb;have h1:i - l.length=0:=by
   have:=(List.getElem?_eq_some_iff.1 ha).1;simp at this;omega
  rw[h1]at ha;rw[hl,h1]at hb;simp only[List.getElem?_cons_zero,Option.some.injEq]at ha hb;subst ha hb;exact hx
section
variable{enc:MM->ByteArray}(HM:Ga enc){Λ:bU}{w:World}{br:Nat}{R:MR}
include HM
theorem Hd(h:Wk Λ br R w)(f:Nat×Nat)(b:bF)(hb:R.out.length<=900000):ag Tryz.prog 165 #[Ptt br,.agg #[.int .u8 f.1,.int .u8 f.2],.agg (bC b).toArray] w (λv w'=>v=.bool (b.lt R.sc.b)/\Wk Λ br (bR enc R f b) w'/\Kz w w'):=by
 refine aj ah mixed Tryz.func165 rfl rfl ?_;intro w1 b1 m1 g1 l1 w2 b2 m2 g2 l2;have m1:=g2.get m1 nofun;have g:=g1.trans g2;have h2:=h.ax g;have h20:=h2;obtain⟨a,h2⟩:=h2;refine⟨by kernel_rfl,_,_,m2,_,rfl,rfl,_,_,h2.ri.mem,_,rfl,rfl,_,Dv w2 b R.sc.b,?_⟩;rintro _ w3 ⟨rfl,g3⟩;have h3:=h2.ax g3;have m2:=g3.get m2 nofun;have m1:=g3.get m1 nofun;unfold bR;refine au (λc=>?_) (λc=>?_)
 ·rw[if_pos c]
  refine⟨by kernel_rfl,_,_,h3.ri.mem,_,rfl,rfl,_,_,m1,_,rfl,rfl,λw4 b4 m4 g4 l4=>?_⟩;refine⟨⟨g4.get m1 nofun,(h3.ax g4).ri.mem,trivial⟩,_,nE HM ((h20.ax g3).ax g4) (m:={ aO 5 with b:=R.sc.b }) ⟨_,_,_,_,_,rfl,aL.zero _,bY.zero _,aL.zero _⟩ (tl:=[f]) ⟨_,_,rfl,Nat.le_refl _,rfl,.inr ⟨_,_,_,rfl,m4,rfl⟩⟩ (by simp;omega),?_⟩;rintro _ w5 ⟨rfl,h5,k5⟩;exact⟨by rw[c],h5,((g.trans g3).trans g4).kz.trans k5⟩
 ·rw[if_neg (by rw[c];decide)]
  refine⟨by kernel_rfl,_,_,m2,_,rfl,rfl,_,_,h3.ri.mem,_,rfl,rfl,au (λd=>?_) (λd=>?_)⟩
  ·have d1:¬b=R.sc.b:=by rintro rfl;simp at d
   rw[if_neg d1];refine⟨_,_,m2,_,rfl,rfl,_,_,_,h3.ri.mem,rfl,rfl,λw4 m4 g4=>?_⟩;have h4:=h3.cell (s':={ R.sc with b:=b }) m4 g4;refine⟨_,Du br _ Λ w4 ⟨_,h4⟩,?_⟩;rintro _ w5 ⟨rfl,h5,k5⟩;exact⟨by rw[c],h5,((g.trans g3).kz.trans (h3.ri.kz h3.ri.je g4)).trans k5⟩
  ·have d1:b=R.sc.b:=by
    have e:b.n=R.sc.b.n/\b.id=R.sc.b.id:=by simp at d;omega
    exact bF.eq e.1 e.2
   rw[if_pos d1];exact⟨by rw[c],⟨_,h3⟩,(g.trans g3).kz⟩
omit HM in
theorem QI(h:Wk Λ br R w)(b:bF):ag Tryz.prog 117 #[Ptt br,.agg (bC b).toArray] w (λv w'=>v=.tuple #[]/\Wk Λ br (if R.sc.b.lt b=true then fP R else R) w'/\Kz w w'):=by
 refine aj ah mixed Tryz.func117 rfl rfl ?_;intro w1 b1 m1 g1 l1;have h1:=h.ax g1;have h10:=h1;obtain⟨a,h1⟩:=h1;refine⟨by kernel_rfl,_,_,h1.ri.mem,_,rfl,rfl,_,_,m1,_,rfl,rfl,_,Dv w1 R.sc.b b,?_⟩;rintro _ w3 ⟨rfl,g3⟩;refine au (λc=>?_) (λc=>?_)
 ·rw[if_pos c]
  refine⟨_,Du br _ Λ w3 (h10.ax g3),?_⟩;rintro _ w5 ⟨rfl,h5,k5⟩;exact⟨rfl,h5,(g1.trans g3).kz.trans k5⟩
 ·rw[if_neg (by rw[c];decide)]
  exact⟨rfl,h10.ax g3,(g1.trans g3).kz⟩
def VL(w0 w:World)(v:Value)(l:List MV):Prop:=∃ps:List (Value×Value),ps.length=l.length/\w.ownsRow 0 196 20 v l.length (List.zipWith (λx p=>jL x p.1 p.2) l ps).flatten/\∀(i:Nat) (x:MV) (p:Value×Value),l[i]? = some x->ps[i]? = some p->aL w0 x.c.r p.1 p.2
omit HM in
theorem VL.vs{w':World}{v:Value}{l:List MV}(h:VL w w' v l)(g:GB none w w'):bY w' v l:=by
 obtain⟨ps,h1,h2,h3⟩:=h;exact⟨ps,h1,mg h2,λi x p hx hp=>(h3 i x p hx hp).kz g.kz⟩
omit HM in
theorem jY{α:Type}{rel:World->Value->α->Prop}{g:Nat->Option α}{f:Int->Option Value}(h3:∀k:Nat,match g k with|none=>f k=none|some x=>∃v,f k=some v/\rel w v x)(k:Nat):(g k=none/\f k=none)\/∃x v,g k=some x/\f k=some v/\rel w v x:=by
 have:=h3 k;cases hg:g k with
 |none=>rw[hg]at this;exact .inl ⟨rfl,this⟩
 |some x=>rw[hg]at this;obtain⟨v,h1,h2⟩:=this;exact .inr ⟨x,v,rfl,h1,h2⟩
omit HM in
theorem CB(h:Wk Λ br R w):ag Tryz.prog 166 #[Ptt br] w (λv w'=>bY w' v (mY R.cK 60)/\GB none w w'):=by
 obtain⟨a,h⟩:=h;refine aj ah mixed Tryz.func166 rfl rfl ?_;refine⟨λm s w1=>∃(k:Nat) (lv:Value),m=60 - k/\k<=60/\s=[(0,Ptt br),(3,lv),(7,.int .u32 k)]/\VL w w1 lv (mY R.cK k)/\GB none w w1/\∀g,lv.ownBlock=some g->w.heap.size<=g,⟨_,_,⟨0,.slice none 0 0,rfl,by omega,rfl,⟨[],rfl,dY _ _ _,λi x p h=>by simp[mY]at h⟩,GB.refl _ _,nofun⟩,rfl,rfl,rfl,trivial⟩,?_⟩;rintro m s w1 ⟨k,lv,rfl,hk,rfl,⟨ps,hpl,ho,hps⟩,g1,hn⟩;refine au (λc=>?_) (λc=>?_)
 ·have c1:k<60:=by simp at c;omega
  have h1:=h.ax g1;obtain⟨f,e1,e2,e3⟩:=h.ri.vm;refine⟨_,_,h1.ri.mem,_,rfl,f,e1.keep (g1.block _ h.ri.vm.lt nofun),λw2 b2 m2 g2 l2=>?_⟩;rcases jY e3 k with⟨n1,n2⟩|⟨x,v,n1,n2,rv,dv,rfl,hr⟩
  ·rw[n2]
   refine⟨_,_,_,m2,rfl,rfl,λw3 m3 g3=>?_⟩;have g13:GB none w1 w3:=⟨g3.os.trans g2.os,g3.out.trans g2.out,Nat.le_trans g2.size g3.size,λx hx _=>(g3.block x (Nat.lt_of_lt_of_le hx g2.size) (λe=>by cases e;omega)).trans (g2.block x hx nofun)⟩;refine⟨by omega,_,_,⟨k+1,lv,rfl,by omega,rfl,?_,g1.trans g13,hn⟩,⟨rfl,rfl,rfl,trivial⟩,by omega⟩;rw[EO,n1,Option.toList_none,List.append_nil];exact⟨ps,hpl,az ho λg hg=>by obtain⟨cur,hc⟩:=ay ho hg;exact g13.block g (ae hc) nofun,hps⟩
  ·rw[n2]
   obtain⟨ra,rn,rc,da,dn,dc,rfl,rfl⟩:=hr.sl;refine⟨_,_,_,m2,rfl,rfl,λw3 m3 g3=>?_⟩;have g13:GB none w1 w3:=⟨g3.os.trans g2.os,g3.out.trans g2.out,Nat.le_trans g2.size g3.size,λx hx _=>(g3.block x (Nat.lt_of_lt_of_le hx g2.size) (λe=>by cases e;omega)).trans (g2.block x hx nofun)⟩;obtain⟨oa,oc,rfl⟩:=af ho;refine⟨_,_,m3,_,rfl,rfl,λw4 b4 m4 g4 l4=>?_⟩;have zK:=az ho (w1:=w4) λg hg=>by obtain⟨cur,hc⟩:=ay ho hg;exact(g13.trans g4).block g (ae hc) nofun
   have hol:=AU R.cK k;refine⟨_,jL x (.slice ra rn rc) (.slice da dn dc),zK,⟨_,_,m4,rfl,rfl,rfl⟩,by omega,λv' w5 EN g5 n5=>?_⟩;have g15:GB none w w5:=GB.ownB ((g1.trans g13).trans g4) g5 hn;refine⟨by omega,_,_,⟨k+1,v',rfl,by omega,rfl,?_,g15,λg hg=>(n5 g hg).elim (hn g) (λhl=>by have:=((g1.trans g13).trans g4).size;omega)⟩,⟨rfl,rfl,rfl,trivial⟩,by omega⟩;rw[EO,n1];refine⟨ps++[(.slice ra rn rc,.slice da dn dc)],by simp[hpl],?_,MK hpl hps hr⟩
   ·rw[Option.toList_some,List.length_append,List.zipWith_append (by rw[hpl]),List.flatten_append]
    exact EN
 ·have c1:k=60:=by simp at c;omega
  subst c1;exact⟨VL.vs ⟨ps,hpl,ho,hps⟩ g1,g1⟩
def sG(enc:MM->ByteArray)(R:MR)(f:Nat×Nat)(b:bF):MR:=if b.lt R.sc.b=true then bR enc R f b else kR enc (bR enc R f b) { aO 4 with b:=b,vs:=mY (bR enc R f b).cK 60 } [f]
theorem Xt(h:Wk Λ br R w)(f:Nat×Nat)(b:bF)(hb:R.out.length<=900000):ag Tryz.prog 115 #[Ptt br,.agg #[.int .u8 f.1,.int .u8 f.2],.agg (bC b).toArray] w (λv w'=>v=.tuple #[]/\Wk Λ br (sG enc R f b) w'/\Kz w w'):=by
 refine aj ah mixed Tryz.func115 rfl rfl ?_;intro w1 b1 m1 g1 l1 w2 b2 m2 g2 l2;have m1:=g2.get m1 nofun;have g:=g1.trans g2;refine⟨_,_,m1,_,rfl,rfl,_,_,m2,_,rfl,rfl,_,Hd HM (h.ax g) f b hb,?_⟩;rintro _ w3 ⟨rfl,h3,k3⟩;have m2:=k3 _ (by decide) _ _ m2;have m1:=k3 _ (by decide) _ _ m1;unfold sG;refine au (λc=>?_) (λc=>?_)
 ·rw[if_pos c]
  exact⟨rfl,h3,g.kz.trans k3⟩
 rw[if_neg (by rw[c];decide)];have hl:(bR enc R f b).out.length<=900000:=by
  unfold bR;rw[if_neg (by rw[c];decide)];split<;>exact hb
 refine⟨by kernel_rfl,_,_,m2,_,rfl,rfl,_,_,m1,_,rfl,rfl,⟨_,CB h3,?_⟩,?_⟩
 ·rintro v w4 ⟨hv,g4⟩
  obtain⟨va,vc,rfl⟩:=hv.sl;refine⟨⟨g4.get m1 nofun,g4.get m2 nofun,trivial⟩,?_⟩;intro w5 b5 m5 g5 l5;refine⟨⟨(g4.trans g5).get m1 nofun,(g4.trans g5).get m2 nofun,trivial⟩,_,nE HM ((h3.ax g4).ax g5) (m:={ aO 4 with b:=b,vs:=mY (bR enc R f b).cK 60 }) ⟨_,_,_,_,_,rfl,aL.zero _,hv.kz g5.kz,aL.zero _⟩ (tl:=[f]) ⟨_,_,rfl,Nat.le_refl _,rfl,.inr ⟨_,_,_,rfl,m5,rfl⟩⟩ (by simp;omega),?_⟩;rintro _ w6 ⟨rfl,h6,k6⟩;exact⟨rfl,h6,(g.kz.trans k3).trans ((g4.trans g5).kz.trans k6)⟩
 ·intro w4 b4 m4 g4 l4
  refine⟨⟨g4.get m1 nofun,g4.get m2 nofun,trivial⟩,_,CB (h3.ax g4),?_⟩;rintro v w5 ⟨hv,g5⟩;obtain⟨va,vc,rfl⟩:=hv.sl;refine⟨⟨(g4.trans g5).get m1 nofun,(g4.trans g5).get m2 nofun,trivial⟩,_,nE HM ((h3.ax g4).ax g5) (m:={ aO 4 with b:=b,vs:=mY (bR enc R f b).cK 60 }) ⟨_,_,_,_,_,rfl,aL.zero _,hv,aL.zero _⟩ (tl:=[f]) ⟨_,_,rfl,Nat.le_refl _,rfl,.inr ⟨_,_,_,rfl,g5.get m4 nofun,rfl⟩⟩ (by simp;omega),?_⟩;rintro _ w6 ⟨rfl,h6,k6⟩;exact⟨rfl,h6,(g.kz.trans k3).trans ((g4.trans g5).kz.trans k6)⟩
end
section
variable{Λ:bU}{w w1 w2:World}{br:Nat}{R:MR}{a:fO}
theorem Wa.lg'(h:Wa Λ br R a w){lv:Value}{ls:List MC}(g1:GB a.lg.ownBlock w w1)(ho:jA w1 lv ls)(hn:∀g,lv.ownBlock=some g->a.lg.ownBlock=some g\/w.heap.size<=g)(m2:w2.heap[br]? = some (.cells (oK { R with log:=ls } { a with lg:=lv }).toArray 152))(g2:GB (some br) w1 w2):Wa Λ br { R with log:=ls } { a with lg:=lv } w2/\Kz w w2:=by
 have Uc:∀g,lv.ownBlock=some g->g≠br:=λg hg e=>by
  subst e;rcases hn g hg with h1|h1
  ·exact h.ri.yQ h1 rfl
  ·have:=ae h.ri.mem;omega
 have mbr:w1.heap[br]? = w.heap[br]?:=g1.block br (ae h.ri.mem) λe=>h.ri.yQ e.symm rfl
 have kp:∀x,x<w.heap.size->some x≠a.lg.ownBlock->x≠br->w2.heap[x]? = w.heap[x]?:=λx hx h1 h2=>(g2.block x (Nat.lt_of_lt_of_le hx g1.size) λe=>h2 (Option.some.inj e)).trans (g1.block x hx h1)
 have k:Kz w w2:=λt ht b c hb=>by
  refine(kp b (ae hb) (λe=>?_) (λe=>?_)).trans hb
  ·exact h.ri.mut (h.ri.vG e.symm) t ht c hb
  ·subst e;exact h.ri.mut h.ri.je t ht c hb
 have k1:Kz w1 w2:=g2.Cy λc t ht hc=>by rw[mbr,h.ri.mem]at hc;injection hc with hc;injection hc with _ hc;subst hc;revert ht;decide
 have mp:∀m:Nat,(∃es c,w.heap[m]? = some (Obj.map es c))->w2.heap[m]? = w.heap[m]?:=λm hm=>kp m (by obtain⟨_,_,h⟩:=hm;exact ae h) (λe=>iq hm (h.ri.clg e.symm) rfl) (iq hm h.ri.tH)
 refine⟨⟨⟨m2,h.ri.vm.keep (λ_ _ h=>h.kz k) (mp _ h.ri.vm.obj),h.ri.wm.keep (λ_ _ h=>h.kz k) (mp _ h.ri.wm.obj),h.ri.kn.keep (λ_ _ h=>h.kz k) (mp _ h.ri.kn.obj),h.ri.mt.keep (λ_ _ h=>h.kz k) (mp _ h.ri.mt.obj),h.ri.pp.keep (λ_ _ h=>h.kz k) (mp _ h.ri.pp.obj),h.ri.ac.keep (w':=w2) (λv x (h:mX w v x)=>(show mX w2 v x from h)) (mp _ h.ri.ac.obj),ho.kz k1 (λg hg=>?_),h.ri.st.kz k,az h.ri.ob (λg hg=>?_),h.ri.sep⟩,λb o hb=>?_,g2.os.trans (g1.os.trans h.os),g2.out.trans (g1.out.trans h.out)⟩,k⟩
 ·obtain⟨cur,hc⟩:=ho.obj hg
  exact g2.block g (ae hc) λe=>Uc g hg (Option.some.inj e)
 ·exact kp g (h.ri.lt (h.ri.tZ hg)) (λe=>h.ri.OJ e.symm hg rfl) (h.ri.BN hg)
 ·obtain⟨p1,p2⟩:=h.pr b o hb
  have hl:=ae p1;refine⟨(kp b hl (λe=>p2 (h.ri.vG e.symm)) (λe=>p2 (by rw[e];exact h.ri.je))).trans p1,λho=>?_⟩;rcases ho with e|e|e|e|e|e|e|e|e
  ·exact p2 (.inl e)
  ·exact p2 (.inr (.inl e))
  ·exact p2 (.inr (.inr (.inl e)))
  ·exact p2 (.inr (.inr (.inr (.inl e))))
  ·exact p2 (.inr (.inr (.inr (.inr (.inl e)))))
  ·exact p2 (.inr (.inr (.inr (.inr (.inr (.inl e))))))
  ·exact p2 (.inr (.inr (.inr (.inr (.inr (.inr (.inl e)))))))
  ·rcases hn b e with h1|h1
   ·exact p2 (h.ri.vG h1)
   ·omega
  ·exact p2 (h.ri.tZ e)
theorem Wa.st'(h:Wa Λ br R a w){s:St}{T M D O I:Value}(hs:fM w1 T M D O I s)(m1:w1.heap[br]? = some (.cells (oK { R with st:=s } { a with sT:=T,sM:=M,sD:=D,sO:=O,sI:=I }).toArray 152))(g:GB (some br) w w1):Wa Λ br { R with st:=s } { a with sT:=T,sM:=M,sD:=D,sO:=O,sI:=I } w1/\Kz w w1:=by
 have k:=h.ri.kz h.ri.je g;have r:=h.ri;refine⟨⟨⟨m1,r.vm.keep (λ_ _ h=>h.kz k) (r.far r.vB g (iq r.vm.obj r.tH)),r.wm.keep (λ_ _ h=>h.kz k) (r.far r.Dt g (iq r.wm.obj r.tH)),r.kn.keep (λ_ _ h=>h.kz k) (r.far r.vC g (iq r.kn.obj r.tH)),r.mt.keep (λ_ _ h=>h.kz k) (r.far r.mK g (iq r.mt.obj r.tH)),r.pp.keep (λ_ _ h=>h.kz k) (r.far r.vE g (iq r.pp.obj r.tH)),r.ac.keep (w':=w1) (λv x (h:mX w v x)=>(show mX w1 v x from h)) (r.far r.vF g (iq r.ac.obj r.tH)),r.lg.kz k (λx hx=>r.far (r.vG hx) g (r.yQ hx)),hs,az r.ob (λx hx=>r.far (r.tZ hx) g (r.BN hx)),r.sep⟩,λb o hb=>?_,g.os.trans h.os,g.out.trans h.out⟩,k⟩;exact⟨g.get (h.pr b o hb).1 λe=>(h.pr b o hb).2 (by cases e;exact r.je),(h.pr b o hb).2⟩
end
structure aR where
 N:Nat
 enc:MM->ByteArray
 ap:St->MC->St×aB
 bg:Nat->Nat->St
 dec:ByteArray->Option MM
 good:Nat->St->Prop
 gc:MC->Prop
structure bG(A:aR):Prop where
 mZ:Ga A.enc
 call:∀{k:Nat} (w:World) (s:St) (c:MC) (vT vM vD vO vI cv:Value),fM w vT vM vD vO vI s->A.good k s->jS w cv c->A.gc c->ag Tryz.prog 12 #[.agg #[.int .u8 s.g,.int .u8 s.n,vT,vM,vD,vO,vI],cv] w (λv w'=>∃T M D O I,v=.tuple #[.agg #[.int .u8 (A.ap s c).1.g,.int .u8 (A.ap s c).1.n,T,M,D,O,I],.agg (A.ap s c).2.cells.toArray]/\(∀w'':World,(∀x,w.heap.size<=x->x<w'.heap.size->w''.heap[x]? = w'.heap[x]?)->fM w'' T M D O I (A.ap s c).1)/\GB none w w')
 IK:∀{k} s c,k<=60->A.good k s->A.gc c->A.good (k+1) (A.ap s c).1
 rep:∀{k} s c,A.good k s->A.gc c->0<=(A.ap s c).2.c
 src:∀{k} s c,A.good k s->A.gc c->c.kind=2->0<=c.r.src/\c.r.src.toNat<s.I.length
 JQ:A.gc nD
 parse:∀(w:World) (d:ByteArray),ag Tryz.prog 113 #[.string d] w (λv w'=>(∃mv e m,v=.tuple #[mv,.int .i64 e]/\AR w' mv m/\((e=0/\A.dec d=some m/\1<=m.kind/\m.kind<=10)\/(e≠0/\A.dec d=none)))/\GB none w w')
 ZH:∀(w:World) (g n:Nat),g<n->n<=4->ag Tryz.prog 8 #[.int .i64 g,.int .i64 n] w (λv w'=>∃T M D O I e,v=.tuple #[.agg #[.int .u8 (A.bg g n).g,.int .u8 (A.bg g n).n,T,M,D,O,I],.int .i64 e]/\(∀w'':World,(∀x,w.heap.size<=x->x<w'.heap.size->w''.heap[x]? = w'.heap[x]?)->fM w'' T M D O I (A.bg g n))/\GB none w w')
 BP:∀g n,n=A.N->g<n->n<=4->A.good 0 (A.bg g n)
 dl:∀{k} s,A.good k s->s.D.length<=1000000
 ol:∀{k} s,A.good k s->s.O.length<=200
 JR:∀{k} s,A.good k s->∀(i:Nat) (x:Int),s.I[i]? = some x->0<=x
theorem bG.next{A:aR}(HA:bG A){l:List MC}{s:St}{c:MC}(h:A.good l.length s)(hl:l.length<=60)(hc:A.gc c):A.good (l++[c]).length (A.ap s c).1:=by rw[List.length_append];exact HA.IK _ _ hl h hc
section
variable(A:aR)
def nG(R:MR)(c:MC)(p:aB):MR:=if c.kind=1 then BO A.enc R p else if c.kind=2 then yS A.enc R c.r.src.toNat (fI R.sc.g R.sc.i c.r.src.toNat R.sc.sz)else R
def oM(R:MR)(c:MC):MR:=if R.sc.role=2 then nG A { R with st:=(A.ap R.st c).1,log:=R.log++[c] } c (A.ap R.st c).2 else{ R with st:=(A.ap R.st c).1,log:=R.log++[c] }
def gD:Nat->MR->MR
 |0,R=>R
 |n+1,R=>match R.known R.log.length with
  |none=>R
  |some c=>gD n (oM A { R with known:=upd R.known R.log.length none } c)
def iT(R:MR)(s:Nat)(c:MC):MR:=if s<R.log.length then R else gD A 61 { R with props:=upd R.props s none,acc:=upd R.acc s none,sc:={ R.sc with next:=max R.sc.next (s+1) },known:=upd R.known s (some c) }
end
theorem jZ(enc:MM->ByteArray)(R:MR)(m:MM)(tl:List (Nat×Nat)):(kR enc R m tl).out.length=R.out.length+tl.length:=by simp[kR,jO]
section
variable{A:aR}(HA:bG A){Λ:bU}{w:World}{br:Nat}{R:MR}
include HA
theorem ZI(h:Wk Λ br R w){c:MC}{cv:Value}(hc:jS w cv c){p:aB}(hp:0<=p.c)(hs:c.kind=2->0<=c.r.src/\c.r.src.toNat<R.st.I.length)(hz:R.sc.sz<=5)(hb:R.out.length<=900000):ag Tryz.prog 229 #[Ptt br,cv,.agg p.cells.toArray] w (λv w'=>v=.tuple #[]/\Wk Λ br (nG A R c p) w'/\Kz w w'):=by
 obtain⟨rv,dv,rfl,hr⟩:=hc;refine aj ah mixed Tryz.func229 rfl rfl ?_;intro w1 b1 m1 g1 l1 w2 b2 m2 g2 l2;have m1:=g2.get m1 nofun;have g:=g1.trans g2;refine⟨_,_,m1,_,rfl,?_⟩;unfold nG;refine au (λd=>?_) (λd=>?_)
 ·have d1:c.kind=1:=by simpa using d
  rw[if_pos d1];refine⟨_,_,m2,_,rfl,rfl,_,MJ HA.mZ (h.ax g) hp hb,?_⟩;rintro _ w3 ⟨rfl,h3,k3⟩;exact⟨rfl,h3,g.kz.trans k3⟩
 ·have d1:¬c.kind=1:=by simpa using d
  rw[if_neg d1];refine au (λe=>?_) (λe=>?_)
  ·have e1:c.kind=2:=by simpa using e
   rw[if_pos e1];obtain⟨s0,s1⟩:=hs e1;have es:(c.r.src.toNat:Int)=c.r.src:=Int.toNat_of_nonneg s0;refine⟨by kernel_rfl,_,_,m1,_,rfl,_,_,m1,_,rfl,?_⟩;have ho:=AQ (h.ax g) c.r.src.toNat hz;rw[es]at ho;refine⟨_,ho,?_⟩;rintro v w3 ⟨hv,g3⟩;have hol:=iY R.sc.g R.sc.i c.r.src.toNat R.sc.sz;have ha:=QH HA.mZ ((h.ax g).ax g3) s1 hv (by omega);rw[es]at ha;refine⟨⟨g3.get m1 nofun,g3.get m1 nofun,trivial⟩,_,ha,?_⟩;rintro _ w4 ⟨rfl,h4,k4⟩;exact⟨rfl,h4,(g.trans g3).kz.trans k4⟩
  ·have e1:¬c.kind=2:=by simpa using e
   rw[if_neg e1];exact⟨rfl,h.ax g,g.kz⟩
theorem abN(h:Wk Λ br R w){c:MC}{cv:Value}(hc:jS w cv c){k:Nat}(aes:k<=60)(hg:A.good k R.st)(hgc:A.gc c)(hz:R.sc.sz<=5)(hl:R.log.length<=1000)(hb:R.out.length<=900000):ag Tryz.prog 203 #[Ptt br,cv] w (λv w'=>v=.tuple #[]/\Wk Λ br (oM A R c) w'/\Kz w w'):=by
 have hc0:=hc;obtain⟨rv,dv,rfl,hr⟩:=hc;refine aj ah mixed Tryz.func203 rfl rfl ?_;intro w1 b1 m1 g1 l1 w2 b2 m2 g2 l2;obtain⟨h1,u1⟩:=h.box g1 m1 l1;have g:=g1.trans g2;obtain⟨a,h1⟩:=h1;obtain⟨vm,wm,kn,mt,pp,ac,lg,ob,sT,sM,sD,sO,sI⟩:=a;have h2:=h1.ax g2;have hbr:br<w1.heap.size:=ae h1.ri.mem;refine⟨by kernel_rfl,_,_,h2.ri.mem,_,rfl,rfl,_,_,g2.get m1 nofun,_,rfl,rfl,_,HA.call w2 R.st c _ _ _ _ _ _ h2.ri.st hg (hc0.kz g.kz) hgc,?_⟩;rintro _ w3 ⟨T,M,D,O,I,rfl,hs3,g3⟩;have h3:=h2.ax g3;obtain⟨ta,tn,tc,ma,mn,mc,da,dn,dc,oa,on,oc,ia,il,ic,rfl,rfl,rfl,rfl,rfl⟩:=(hs3 w3 λ_ _ _=>rfl).sl;refine⟨_,_,_,h3.ri.mem,rfl,rfl,λw4 m4 g4=>?_⟩;have m2':w4.heap[b2]? = some (.cells (zc ah.T 57).toArray 57):=g4.get (g3.get m2 nofun) λe=>by cases e;omega
 refine⟨_,_,_,m2',rfl,rfl,λw5 m5 g5=>?_⟩;have g15:GB (some br) w1 w5:=⟨g5.os.trans (g4.os.trans (g3.os.trans g2.os)),g5.out.trans (g4.out.trans (g3.out.trans g2.out)),Nat.le_trans g2.size (Nat.le_trans g3.size (Nat.le_trans g4.size g5.size)),λx hx hne=>(g5.block x (Nat.lt_of_lt_of_le hx (Nat.le_trans g2.size (Nat.le_trans g3.size g4.size))) (λe=>by cases e;omega)).trans ((g4.block x (Nat.lt_of_lt_of_le hx (Nat.le_trans g2.size g3.size)) hne).trans ((g3.block x (Nat.lt_of_lt_of_le hx g2.size) nofun).trans (g2.block x hx nofun)))⟩;have ag3:b2<w2.heap.size:=ae m2;obtain⟨h5,k5⟩:=h1.st' (hs3 w5 λx hx hx3=>(g5.block x (Nat.lt_of_lt_of_le hx3 g4.size) (λe=>by cases e;omega)).trans (g4.block x hx3 λe=>by cases e;have:=g2.size;omega)) (g5.get m4 λe=>by cases e;omega) g15;have EP:w5.heap[b1]? = _:=(h5.pr b1 _ (by unfold bU.add;simp;rfl)).1;obtain⟨la,lc,rfl⟩:∃la lc,lg=.slice la R.log.length lc:=by obtain⟨_,_,h,_⟩:=h5.ri.lg;exact af h
 obtain⟨ra,rn,rc,qi,zL,qj,rfl,rfl⟩:=hr.sl;refine⟨by kernel_rfl,_,_,h5.ri.mem,_,rfl,_,_,EP,_,rfl,rfl,λw6 b6 m6 g6 l6=>?_⟩;have h6:=h5.ax g6;obtain⟨ps,hpl,hlo,hlr⟩:=h6.ri.lg;refine⟨⟨g6.get EP nofun,h6.ri.mem,trivial⟩,_,dA c (.slice ra rn rc) (.slice qi zL qj),hlo,⟨_,_,m6,rfl,rfl,rfl⟩,by omega,λlv w7 nY g7 n7=>?_⟩;obtain⟨la',lc',rfl⟩:=af nY;have m7:w7.heap[br]? = _:=(g7.block br (ae h6.ri.mem) λe=>h6.ri.yQ e.symm rfl).trans h6.ri.mem;refine⟨_,_,_,m7,rfl,rfl,λw8 m8 g8=>?_⟩;have QJ:Kz w6 w7:=λt ht b cc hb=>g7.get hb λe=>h6.ri.mut (h6.ri.vG e.symm) t ht cc hb
 have OL:Kz w w6:=(g1.kz.trans k5).trans g6.kz;obtain⟨h8,k8⟩:=h6.lg' (ls:=R.log++[c]) g7 ⟨ps++[(.slice ra rn rc,.slice qi zL qj)],by simp[hpl],by rw[List.length_append,List.zipWith_append (by rw[hpl]),List.flatten_append];exact nY,λi x p hx hp=>(MK hpl hlr (hr.kz OL) i x p hx hp).kz QJ⟩ n7 m8 g8;have Ud:=OL.trans k8;unfold oM;refine⟨_,_,h8.ri.mem,_,rfl,au (λd=>?_) (λd=>?_)⟩
 ·have d1:R.sc.role=2:=by simp at d;omega
  rw[if_pos d1];have OM:w8.heap[b1]? = _:=(h8.pr b1 _ (by unfold bU.add;simp;rfl)).1;have qm:w8.heap[b2]? = _:=k8 _ (by decide) _ _ (g6.get m5 nofun);refine⟨_,_,OM,_,rfl,rfl,_,_,qm,_,rfl,rfl,_,ZI HA ⟨_,h8⟩ ⟨_,_,rfl,hr.kz Ud⟩ (HA.rep _ _ hg hgc) (λhk=>HA.src _ c (HA.IK _ _ aes hg hgc) hgc hk) hz hb,?_⟩;rintro _ w9 ⟨rfl,h9,k9⟩;exact⟨rfl,h9.drop u1,Ud.trans k9⟩
 ·have d1:¬R.sc.role=2:=by simp at d;omega
  rw[if_neg d1];exact⟨rfl,Wk.drop ⟨_,h8⟩ u1,Ud⟩
end
def He(l:List Int):List Value:=l.map λb=>.int .u8 b
theorem Xu(a b:List Int):He (a++b)=He a++He b:=List.map_append
structure Put(w:World)(v:Value)(n:Nat)(xs:List Value)(new:List Int)(v':Value)(w':World):Prop where
 row:w'.ownsRow 0 5 1 v' (n+new.length) (xs++He new)
 gb:GB v.ownBlock w w'
 own:∀g,v'.ownBlock=some g->v.ownBlock=some g\/w.heap.size<=g
theorem dw{w:World}{x y:Nat}{c c':Array Value}{t t':TypeId}(h:w.heap[x]? = some (.cells c t))(h':w.heap[y]? = some (.cells c' t'))(hne:t≠t'):x≠y:=λe=>by
 subst e;rw[h]at h';injection h' with h';injection h' with _ h';exact hne h'
section
variable{w w0 w1 w2:World}{v v1 v2:Value}{n:Nat}{xs:List Value}{a b:List Int}
theorem Put.trans(h:Put w v n xs a v1 w1)(k:Put w1 v1 (n+a.length) (xs++He a) b v2 w2):Put w v n xs (a++b) v2 w2:=by
 refine⟨?_,⟨k.gb.os.trans h.gb.os,k.gb.out.trans h.gb.out,Nat.le_trans h.gb.size k.gb.size,λx hx hn=>(k.gb.block x (Nat.lt_of_lt_of_le hx h.gb.size) λe=>?_).trans (h.gb.block x hx hn)⟩,λg hg=>?_⟩
 ·have:=k.row
  rw[List.append_assoc,<-Xu,Nat.add_assoc,<-List.length_append]at this;exact this
 ·rcases h.own x e.symm with q|q
  ·exact hn q.symm
  ·omega
 ·rcases k.own g hg with q|q
  ·exact h.own g q
  ·exact .inr (Nat.le_trans h.gb.size q)
theorem Put.pre(g:GB none w0 w)(h:Put w v n xs a v1 w1):Put w0 v n xs a v1 w1:=⟨h.row,⟨h.gb.os.trans g.os,h.gb.out.trans g.out,Nat.le_trans g.size h.gb.size,λx hx hn=>(h.gb.block x (Nat.lt_of_lt_of_le hx g.size) hn).trans (g.block x hx nofun)⟩,λx hx=>(h.own x hx).imp id λe=>Nat.le_trans g.size e⟩
theorem Put.nil(ho:w.ownsRow 0 5 1 v n xs):Put w v n xs [] v w:=⟨by simpa[He]using ho,GB.refl _ _,λ_ h=>.inl h⟩
theorem Put.get(h:Put w v n xs a v1 w1)(ho:w.ownsRow 0 5 1 v n xs){x:Nat}{c:Array Value}{t:TypeId}(hx:w.heap[x]? = some (.cells c t))(ht:t≠5):w1.heap[x]? = some (.cells c t):=h.gb.get hx λe=>by
 obtain⟨c',hc⟩:=ay ho e.symm;exact dw hx hc ht rfl
theorem jG(ho:w.ownsRow 0 5 1 v n xs)(g:GB none w w1):w1.ownsRow 0 5 1 v n xs:=az ho λx hx=>by obtain⟨c,hc⟩:=ay ho hx;exact g.block x (ae hc) nofun
theorem dD(ho:w.ownsRow 0 5 1 v n xs)(hn:n<=900000000)(x:Int):ag Tryz.prog 214 #[v,.int .u8 x] w (λv' w'=>Put w v n xs [x] v' w'):=by
 obtain⟨va,vc,rfl⟩:=af ho;refine aj ah mixed Tryz.func214 rfl rfl ?_;refine λw1 b1 m1 g1 l1=>?_
 refine⟨_,[.int .u8 x],jG ho g1,⟨_,_,m1,rfl,rfl,rfl⟩,by omega,λv' w2 ho2 g2 n2=>?_⟩;exact Put.pre g1 ⟨ho2,g2,n2⟩
def b32(x:Int):List Int:=[IntKind.u8.wrap (x.fdiv (2 ^ 24)),IntKind.u8.wrap (x.fdiv (2 ^ 16)),IntKind.u8.wrap (x.fdiv (2 ^ 8)),IntKind.u8.wrap x]
theorem jf(ho:w.ownsRow 0 5 1 v n xs)(hn:n<=900000000)(x:Int):ag Tryz.prog 220 #[v,.int .u32 x] w (λv' w'=>Put w v n xs (b32 x) v' w'):=by
 obtain⟨va,vc,rfl⟩:=af ho;refine aj ah mixed Tryz.func220 rfl rfl ?_;refine⟨by decide,.inr ⟨by decide,.inr ⟨by decide,.inr (.inr (λw1 b1 m1 g1 l1=>?_))⟩⟩⟩;refine⟨_,He (b32 x),jG ho g1,⟨_,_,m1,rfl,rfl,rfl⟩,by omega,λv' w2 ho2 g2 n2=>?_⟩;exact Put.pre g1 ⟨ho2,g2,n2⟩
def b64(x:Int):List Int:=b32 (IntKind.u32.wrap (x.fdiv (2 ^ 32)))++b32 (IntKind.u32.wrap x)
theorem lN(ho:w.ownsRow 0 5 1 v n xs)(hn:n<=800000000)(x:Int):ag Tryz.prog 234 #[v,.int .u64 x] w (λv' w'=>Put w v n xs (b64 x) v' w'):=by
 refine aj ah mixed Tryz.func234 rfl rfl ?_;refine⟨by decide,.inr ⟨_,jf ho (by omega) _,?_⟩⟩;intro v1 w1 p1;refine .inr ⟨_,jf p1.row (by show n+4<=_;omega) _,?_⟩;intro v2 w2 p2;exact p1.trans p2
end
end
