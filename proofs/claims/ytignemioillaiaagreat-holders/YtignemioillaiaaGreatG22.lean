/- Lemmas. -/
import Derived.Test.YtignemioillaiaaGreatG21
namespace Go.Proofs.YtignemioillaiaaGreat
set_option maxHeartbeats 8000000
set_option maxRecDepth 100000
open List
section
open Go Go.Conc
structure MM where
 kind:Int
 q:bQ
 p:aA
 b:bF
 s:Nat
 c:MC
 vs:List MV
 r:Rg
 (peer seq:Int)
def rf:bQ:=⟨0,0,0,0,0,0,0⟩
def uk:aA:=⟨0,0,0,0,false,0,0⟩
def qF:Rg:=⟨0,0,0,0,0,[],[]⟩
def nP:MC:=⟨0,rf,qF,0,0⟩
def aN(k:Int):MM:=⟨k,rf,uk,⟨0,0⟩,0,nP,[],qF,0,0⟩
def dS(m:MM)(rv dv vv rv' eU:Value):List Value:=(.int .u8 m.kind::m.q.cells)++m.p.cells++[.int .u32 m.b.n,.int .u8 m.b.id,.int .u32 m.s]++dC m.c rv dv++[vv]++eu m.r rv' eU++[.int .u8 m.peer,.int .u32 m.seq]
def bY(w:World)(v:Value)(l:List MV):Prop:=∃ps:List (Value×Value),ps.length=l.length/\Fz w 196 20 v l.length (zipWith (λx p=>jU x p.1 p.2) l ps).flatten/\∀(i:Nat) (x:MV) (p:Value×Value),l[i]? = some x->ps[i]? = some p->aM w x.c.r p.1 p.2
theorem bY.kz{w w':World}{v:Value}{l:List MV}(h:bY w v l)(k:Kz w w'):bY w' v l:=by
 obtain⟨vs,h1,h2,h3⟩:=h;exact⟨vs,h1,h2.kz k (by decide),λi r p hr hp=>(h3 i r p hr hp).kz k⟩
def Bh(w:World)(v:Value)(m:MM):Prop:=∃rv dv vv rv' eU,v=.agg (dS m rv dv vv rv' eU).toArray/\aM w m.c.r rv dv/\bY w vv m.vs/\aM w m.r rv' eU
theorem Bh.kz{w w':World}{v:Value}{m:MM}(h:Bh w v m)(k:Kz w w'):Bh w' v m:=by
 obtain⟨rv,dv,vv,rv',eU,h1,h2,h3,h4⟩:=h;exact⟨rv,dv,vv,rv',eU,h1,h2.kz k,h3.kz k,h4.kz k⟩
theorem aM.zero(w:World):aM w qF Ptz Ptz:=⟨Fz.nil _ _ _,Fz.nil _ _ _⟩
theorem bY.zero(w:World):bY w Ptz []:=⟨[],rfl,Fz.nil _ _ _,λi x p h=>by simp at h⟩
def GI(enc:MM->ByteArray):Prop:=∀w v m,Bh w v m->ag Tryz.prog 158 #[v] w (λv w'=>(∃e,v=.tuple #[.string (enc m),.int .i64 e])/\GB none w w')
def lJ(enc:MM->ByteArray)(R:MR)(m:MM)(tl:List (Nat×Nat)):MR:=j4 R (enc m) tl
section
variable{enc:MM->ByteArray}(HM:GI enc){Λ:bU}{w:World}{br:Nat}{R:MR}
include HM
theorem nQ(h:Wk Λ br R w){v:Value}{m:MM}(hv:Bh w v m){tv:Value}{tl:List (Nat×Nat)}(ht:Fz w 66 2 tv tl.length (Df tl))(hb:R.out.length+tl.length<=1000000):ag Tryz.prog 108 #[Ptt br,v,tv] w (λv w'=>v=.tuple #[]/\Wk Λ br (lJ enc R m tl) w'/\Kz w w'):=by
 have hv0:=hv;obtain⟨rv,dv,vv,rv',eU,rfl,_⟩:=hv;exact X3 h rfl (λw1 k1=>HM w1 _ m (hv0.kz k1)) ht hb
def Cn(enc:MM->ByteArray)(R:MR)(p:aA):MR:=lJ enc R { aN 2 with p:=p } [(255,p.c.toNat)]
theorem Nr(h:Wk Λ br R w){p:aA}(hp:0<=p.c)(hb:R.out.length<=900000):ag Tryz.prog 163 #[Ptt br,.agg p.cells.toArray] w (λv w'=>v=.tuple #[]/\Wk Λ br (Cn enc R p) w'/\Kz w w'):=by
 refine ah Tryz.func163 rfl rfl ?_;intro w1 b1 m1 g1 l1;refine⟨_,_,m1,_,rfl,λw2 b2 m2 g2 l2=>⟨_,_,_,m2,rfl,rfl,λw3 m3 g3=>?_⟩⟩;have g13:GB none w1 w3:=⟨g3.os.trans g2.os,g3.out.trans g2.out,Nat.le_trans g2.size g3.size,λx hx _=>(g3.block x (Nat.lt_of_lt_of_le hx g2.size) (λe=>by cases e;omega)).trans (g2.block x hx nofun)⟩;refine⟨_,_,g13.get m1 nofun,_,rfl,rfl,_,_,m3,_,rfl,rfl,λw4 b4 m4 g4 l4=>?_⟩;have g:=(g1.trans g13).trans g4;refine⟨_,nQ HM (h.au g) (m:={ aN 2 with p:=p }) ⟨_,_,_,_,_,rfl,aM.zero _,bY.zero _,aM.zero _⟩ (tl:=[(255,p.c.toNat)]) ⟨_,_,rfl,Nat.le_refl _,rfl,.inr ⟨_,_,_,rfl,m4,?_⟩⟩ (by simp;omega),?_⟩
 ·show[Value.int .u8 255,Value.int .u8 p.c]=[.int .u8 255,.int .u8 (p.c.toNat:Int)]
  rw[Int.toNat_of_nonneg hp]
 ·rintro v w5 ⟨rfl,h5,k5⟩
  exact⟨rfl,h5,g.kz.trans k5⟩
def zo(enc:MM->ByteArray)(R:MR)(src:Nat)(tl:List (Nat×Nat)):MR:=lJ enc R { aN 10 with peer:=R.sc.g,seq:=R.st.I.getD src 0 } tl
theorem Rj(h:Wk Λ br R w){src:Nat}(hs:src<R.st.I.length){tv:Value}{tl:List (Nat×Nat)}(ht:Fz w 66 2 tv tl.length (Df tl))(hb:R.out.length+tl.length<=1000000):ag Tryz.prog 171 #[Ptt br,.int .u8 src,tv] w (λv w'=>v=.tuple #[]/\Wk Λ br (zo enc R src tl) w'/\Kz w w'):=by
 have h0:=h;obtain⟨a,h⟩:=h;obtain⟨vm,wm,kn,mt,pp,ac,lg,ob,sT,sM,sD,sO,sI⟩:=a;obtain⟨ia,ic,rfl,i1,i2,i3⟩:=h.ri.st.I;rcases i3 with⟨_,i3⟩|⟨B,off,cs,rfl,hB,hcut⟩
 ·omega
 refine ah Tryz.func171 rfl rfl ?_;obtain⟨x,hx⟩:∃x,R.st.I[src]? = some x:=⟨R.st.I[src],by simp[hs]⟩;have hx2:cs.toList[off+src]? = some (.int .u32 x):=by
  have h1:(aK cs.toList off (R.st.I.length*1))[src]? = some (.int .u32 x):=by rw[hcut,getElem?_map,hx];rfl
  unfold aK at h1;rw[getElem?_take,if_pos (by omega),getElem?_drop]at h1;exact h1
 refine⟨by kernel_rfl,_,_,h.ri.mem,_,rfl,_,_,h.ri.mem,_,rfl,by omega,_,_,hB,.int .u32 x,by show cs.toList[off+src*1]? = _;rw[Nat.mul_one];exact hx2,?_⟩;refine⟨_,nQ HM h0 (m:={ aN 10 with peer:=R.sc.g,seq:=R.st.I.getD src 0 }) ⟨_,_,_,_,_,?_,aM.zero _,bY.zero _,aM.zero _⟩ ht hb,by rintro _ w' ⟨rfl,h,k⟩;exact⟨rfl,h,k⟩⟩;rw[getD_eq_getElem?_getD,hx];rfl
def Kj(enc:MM->ByteArray)(R:MR)(s:Nat)(c:MC):MR:=lJ enc R { aN 6 with b:=R.sc.b,s:=s,c:=c } (fU R.sc.g R.sc.i R.sc.g R.sc.sz)
theorem Wp(h:Wk Λ br R w)(hz:R.sc.sz<=5){s:Nat}{c:MC}{cv:Value}(hc:kr w cv c)(hb:R.out.length<=900000):ag Tryz.prog 160 #[Ptt br,.int .u32 s,cv] w (λv w'=>v=.tuple #[]/\Wk Λ br (Kj enc R s c) w'/\Kz w w'):=by
 obtain⟨rv,dv,rfl,hr⟩:=hc;refine ah Tryz.func160 rfl rfl ?_;intro w1 b1 m1 g1 l1;have h1:=h.au g1;have h10:=h1;obtain⟨a,h1⟩:=h1;refine⟨by kernel_rfl,_,_,h1.ri.mem,_,rfl,rfl,_,_,m1,_,rfl,rfl,_,zn h10 hz,?_⟩;rintro v w2 ⟨hv,g2⟩;have hol:=jf R.sc.g R.sc.i R.sc.g R.sc.sz;refine⟨⟨g2.get m1 nofun,(h1.au g2).ri.mem,trivial⟩,_,nQ HM (h10.au g2) (m:={ aN 6 with b:=R.sc.b,s:=s,c:=c }) ⟨_,_,_,_,_,rfl,(hr.kz g1.kz).kz g2.kz,bY.zero _,aM.zero _⟩ hv (by omega),?_⟩;rintro v w3 ⟨rfl,h3,k3⟩;exact⟨rfl,h3,(g1.trans g2).kz.trans k3⟩
end
def bF.lt(a b:bF):Bool:=decide (a.n<b.n) || (a.n == b.n && decide (a.id<b.id))
def bC(b:bF):List Value:=[.int .u32 b.n,.int .u8 b.id]
theorem D7(w:World)(a b:bF):ag Tryz.prog 167 #[.agg (bC a).toArray,.agg (bC b).toArray] w (λv w'=>v=.bool (a.lt b)/\GB none w w'):=by
 refine ah Tryz.func167 rfl rfl ?_;intro w1 b1 h1 g1 l1 w2 b2 h2 g2 l2;have h1:=g2.get h1 nofun;refine⟨_,_,h1,_,rfl,_,_,h2,_,rfl,?_⟩;have gg:GB none w w2:=g1.trans g2;unfold bF.lt;refine aj (λc=>?_) (λc=>?_)
 ·have c1:¬a.n<b.n:=by simp at c;omega
  refine⟨_,_,h1,_,rfl,_,_,h2,_,rfl,?_⟩;refine aj (λd=>?_) (λd=>?_)
  ·have d1:a.n=b.n:=by simp at d;omega
   refine⟨_,_,h1,_,rfl,_,_,h2,_,rfl,?_,gg⟩;simp[d1]
  ·have d1:¬a.n=b.n:=by simp at d;omega
   exact⟨by simp[c1,d1],gg⟩
 ·have c1:a.n<b.n:=by simp at c;omega
  exact⟨by simp[c1],gg⟩
theorem bF.eq{a b:bF}(h1:a.n=b.n)(h2:a.id=b.id):a=b:=by
 cases a
 cases b
 simp_all
instance:DecidableEq bF:=λa b=>by
 obtain⟨n,i⟩:=a;obtain⟨m,j⟩:=b;exact decidable_of_iff (n=m/\i=j) (by simp)
def bR(enc:MM->ByteArray)(R:MR)(f:Nat×Nat)(b:bF):MR :=
 if b.lt R.sc.b=true then lJ enc R { aN 5 with b:=R.sc.b } [f]else if b=R.sc.b then R else gq { R with sc:={ R.sc with b:=b } }
theorem bY.sl{w:World}{v:Value}{l:List MV}(h:bY w v l):∃a c,v=.slice a l.length c:=by
 obtain⟨_,_,⟨a,c,h1,_⟩,_⟩:=h;exact⟨a,c,h1⟩
theorem aM.sl{w:World}{r:Rg}{rv dv:Value}(h:aM w r rv dv):∃ra rn rc da dn dc,rv=.slice ra rn rc/\dv=.slice da dn dc:=by
 obtain⟨⟨ra,rc,h1,_⟩,⟨da,dc,h2,_⟩⟩:=h;exact⟨ra,_,rc,da,_,dc,h1,h2⟩
def nH(f:Nat->Option MV)(k:Nat):List MV:=(List.range k).filterMap f
theorem Fs(f:Nat->Option MV)(k:Nat):nH f (k+1)=nH f k++(f k).toList:=by
 unfold nH;rw[range_succ,filterMap_append];cases h:f k<;>simp[h]
theorem Bi(f:Nat->Option MV)(k:Nat):(nH f k).length<=k:=by
 unfold nH;exact Nat.le_trans (length_filterMap_le _ _) (by simp)
theorem Ns{α β:Type}{Rel:α->β->Prop}{l:List α}{ps:List β}(hl:ps.length=l.length){x:α}{y:β}(h:∀(i:Nat) (a:α) (b:β),l[i]? = some a->ps[i]? = some b->Rel a b)(hx:Rel x y):∀(i:Nat) (a:α) (b:β),(l++[x])[i]? = some a->(ps++[y])[i]? = some b->Rel a b:=by
 intro i a b ha hb;rcases Nat.lt_or_ge i l.length with hi|hi
 ·rw[getElem?_append_left hi]at ha
  rw[getElem?_append_left (by omega)]at hb;exact h i a b ha hb
 ·rw[getElem?_append_right hi]at ha
  rw[getElem?_append_right (by omega)]at hb;have h1:i - l.length=0:=by
   have:=(List.getElem?_eq_some_iff.1 ha).1;simp at this;omega
  rw[h1]at ha;rw[hl,h1]at hb;simp only[getElem?_cons_zero,Option.some.injEq]at ha hb;subst ha hb;exact hx
section
variable{enc:MM->ByteArray}(HM:GI enc){Λ:bU}{w:World}{br:Nat}{R:MR}
include HM
theorem Ij(h:Wk Λ br R w)(f:Nat×Nat)(b:bF)(hb:R.out.length<=900000):ag Tryz.prog 165 #[Ptt br,.agg #[.int .u8 f.1,.int .u8 f.2],.agg (bC b).toArray] w (λv w'=>v=.bool (b.lt R.sc.b)/\Wk Λ br (bR enc R f b) w'/\Kz w w'):=by
 refine ah Tryz.func165 rfl rfl ?_;intro w1 b1 m1 g1 l1 w2 b2 m2 g2 l2;have m1:=g2.get m1 nofun;have g:=g1.trans g2;have h2:=h.au g;have h20:=h2;obtain⟨a,h2⟩:=h2;refine⟨by kernel_rfl,_,_,m2,_,rfl,rfl,_,_,h2.ri.mem,_,rfl,rfl,_,D7 w2 b R.sc.b,?_⟩;rintro _ w3 ⟨rfl,g3⟩;have h3:=h2.au g3;have m2:=g3.get m2 nofun;have m1:=g3.get m1 nofun;unfold bR;refine aj (λc=>?_) (λc=>?_)
 ·rw[if_pos c]
  refine⟨by kernel_rfl,_,_,h3.ri.mem,_,rfl,rfl,_,_,m1,_,rfl,rfl,λw4 b4 m4 g4 l4=>?_⟩;refine⟨⟨g4.get m1 nofun,(h3.au g4).ri.mem,trivial⟩,_,nQ HM ((h20.au g3).au g4) (m:={ aN 5 with b:=R.sc.b }) ⟨_,_,_,_,_,rfl,aM.zero _,bY.zero _,aM.zero _⟩ (tl:=[f]) ⟨_,_,rfl,Nat.le_refl _,rfl,.inr ⟨_,_,_,rfl,m4,rfl⟩⟩ (by simp;omega),?_⟩;rintro _ w5 ⟨rfl,h5,k5⟩;exact⟨by rw[c],h5,((g.trans g3).trans g4).kz.trans k5⟩
 ·rw[if_neg (by rw[c];decide)]
  refine⟨by kernel_rfl,_,_,m2,_,rfl,rfl,_,_,h3.ri.mem,_,rfl,rfl,aj (λd=>?_) (λd=>?_)⟩
  ·have d1:¬b=R.sc.b:=by rintro rfl;simp at d
   rw[if_neg d1];refine⟨_,_,m2,_,rfl,rfl,_,_,_,h3.ri.mem,rfl,rfl,λw4 m4 g4=>?_⟩;have h4:=h3.cell (s':={ R.sc with b:=b }) m4 g4;refine⟨_,D6 br _ Λ w4 ⟨_,h4⟩,?_⟩;rintro _ w5 ⟨rfl,h5,k5⟩;exact⟨by rw[c],h5,((g.trans g3).kz.trans (h3.ri.kz h3.ri.jo g4)).trans k5⟩
  ·have d1:b=R.sc.b:=by
    have e:b.n=R.sc.b.n/\b.id=R.sc.b.id:=by simp at d;omega
    exact bF.eq e.1 e.2
   rw[if_pos d1];exact⟨by rw[c],⟨_,h3⟩,(g.trans g3).kz⟩
omit HM in
theorem Rk(h:Wk Λ br R w)(b:bF):ag Tryz.prog 117 #[Ptt br,.agg (bC b).toArray] w (λv w'=>v=.tuple #[]/\Wk Λ br (if R.sc.b.lt b=true then gq R else R) w'/\Kz w w'):=by
 refine ah Tryz.func117 rfl rfl ?_;intro w1 b1 m1 g1 l1;have h1:=h.au g1;have h10:=h1;obtain⟨a,h1⟩:=h1;refine⟨by kernel_rfl,_,_,h1.ri.mem,_,rfl,rfl,_,_,m1,_,rfl,rfl,_,D7 w1 R.sc.b b,?_⟩;rintro _ w3 ⟨rfl,g3⟩;refine aj (λc=>?_) (λc=>?_)
 ·rw[if_pos c]
  refine⟨_,D6 br _ Λ w3 (h10.au g3),?_⟩;rintro _ w5 ⟨rfl,h5,k5⟩;exact⟨rfl,h5,(g1.trans g3).kz.trans k5⟩
 ·rw[if_neg (by rw[c];decide)]
  exact⟨rfl,h10.au g3,(g1.trans g3).kz⟩
def Wq(w0 w:World)(v:Value)(l:List MV):Prop:=∃ps:List (Value×Value),ps.length=l.length/\w.ownsRow 0 196 20 v l.length (zipWith (λx p=>jU x p.1 p.2) l ps).flatten/\∀(i:Nat) (x:MV) (p:Value×Value),l[i]? = some x->ps[i]? = some p->aM w0 x.c.r p.1 p.2
omit HM in
theorem Wq.vs{w':World}{v:Value}{l:List MV}(h:Wq w w' v l)(g:GB none w w'):bY w' v l:=by
 obtain⟨ps,h1,h2,h3⟩:=h;exact⟨ps,h1,mK h2,λi x p hx hp=>(h3 i x p hx hp).kz g.kz⟩
omit HM in
theorem kC{α:Type}{rel:World->Value->α->Prop}{g:Nat->Option α}{f:Int->Option Value}(h3:∀k:Nat,match g k with|none=>f k=none|some x=>∃v,f k=some v/\rel w v x)(k:Nat):(g k=none/\f k=none)\/∃x v,g k=some x/\f k=some v/\rel w v x:=by
 have:=h3 k;cases hg:g k with
 |none=>rw[hg]at this;exact .inl ⟨rfl,this⟩
 |some x=>rw[hg]at this;obtain⟨v,h1,h2⟩:=this;exact .inr ⟨x,v,rfl,h1,h2⟩
omit HM in
theorem Dh(h:Wk Λ br R w):ag Tryz.prog 166 #[Ptt br] w (λv w'=>bY w' v (nH R.cK 60)/\GB none w w'):=by
 obtain⟨a,h⟩:=h;refine ah Tryz.func166 rfl rfl ?_;refine⟨λm s w1=>∃(k:Nat) (lv:Value),m=60 - k/\k<=60/\s=[(0,Ptt br),(3,lv),(7,.int .u32 k)]/\Wq w w1 lv (nH R.cK k)/\GB none w w1/\∀g,lv.ownBlock=some g->w.heap.size<=g,⟨_,_,⟨0,Ptz,rfl,by omega,rfl,⟨[],rfl,dZ _ _ _,λi x p h=>by simp[nH]at h⟩,GB.refl _ _,nofun⟩,rfl,rfl,rfl,trivial⟩,?_⟩;rintro m s w1 ⟨k,lv,rfl,hk,rfl,⟨ps,hpl,ho,hps⟩,g1,hn⟩;refine aj (λc=>?_) (λc=>?_)
 ·have c1:k<60:=by simp at c;omega
  have h1:=h.au g1;obtain⟨f,e1,e2,e3⟩:=h.ri.vm;refine⟨_,_,h1.ri.mem,_,rfl,f,e1.keep (g1.block _ h.ri.vm.lt nofun),λw2 b2 m2 g2 l2=>?_⟩;rcases kC e3 k with⟨n1,n2⟩|⟨x,v,n1,n2,rv,dv,rfl,hr⟩
  ·rw[n2]
   refine⟨_,_,_,m2,rfl,rfl,λw3 m3 g3=>?_⟩;have g13:GB none w1 w3:=⟨g3.os.trans g2.os,g3.out.trans g2.out,Nat.le_trans g2.size g3.size,λx hx _=>(g3.block x (Nat.lt_of_lt_of_le hx g2.size) (λe=>by cases e;omega)).trans (g2.block x hx nofun)⟩;refine⟨by omega,_,_,⟨k+1,lv,rfl,by omega,rfl,?_,g1.trans g13,hn⟩,⟨rfl,rfl,rfl,trivial⟩,by omega⟩;rw[Fs,n1,Option.toList_none,append_nil];exact⟨ps,hpl,ay ho λg hg=>by obtain⟨cur,hc⟩:=ax ho hg;exact g13.block g (ae hc) nofun,hps⟩
  ·rw[n2]
   obtain⟨ra,rn,rc,da,dn,dc,rfl,rfl⟩:=hr.sl;refine⟨_,_,_,m2,rfl,rfl,λw3 m3 g3=>?_⟩;have g13:GB none w1 w3:=⟨g3.os.trans g2.os,g3.out.trans g2.out,Nat.le_trans g2.size g3.size,λx hx _=>(g3.block x (Nat.lt_of_lt_of_le hx g2.size) (λe=>by cases e;omega)).trans (g2.block x hx nofun)⟩;obtain⟨oa,oc,rfl⟩:=af ho;refine⟨_,_,m3,_,rfl,rfl,λw4 b4 m4 g4 l4=>?_⟩;have Ae:=ay ho (w1:=w4) λg hg=>by obtain⟨cur,hc⟩:=ax ho hg;exact(g13.trans g4).block g (ae hc) nofun
   have hol:=Bi R.cK k;refine⟨_,jU x (.slice ra rn rc) (.slice da dn dc),Ae,⟨_,_,m4,rfl,rfl,rfl⟩,by omega,λv' w5 Fq g5 n5=>?_⟩;have g15:GB none w w5:=GB.ownB ((g1.trans g13).trans g4) g5 hn;refine⟨by omega,_,_,⟨k+1,v',rfl,by omega,rfl,?_,g15,λg hg=>(n5 g hg).elim (hn g) (λhl=>by have:=((g1.trans g13).trans g4).size;omega)⟩,⟨rfl,rfl,rfl,trivial⟩,by omega⟩;rw[Fs,n1];refine⟨ps++[(.slice ra rn rc,.slice da dn dc)],by simp[hpl],?_,Ns hpl hps hr⟩
   ·rw[Option.toList_some,length_append,zipWith_append (by rw[hpl]),flatten_append]
    exact Fq
 ·have c1:k=60:=by simp at c;omega
  subst c1;exact⟨Wq.vs ⟨ps,hpl,ho,hps⟩ g1,g1⟩
def tN(enc:MM->ByteArray)(R:MR)(f:Nat×Nat)(b:bF):MR:=if b.lt R.sc.b=true then bR enc R f b else lJ enc (bR enc R f b) { aN 4 with b:=b,vs:=nH (bR enc R f b).cK 60 } [f]
theorem X4(h:Wk Λ br R w)(f:Nat×Nat)(b:bF)(hb:R.out.length<=900000):ag Tryz.prog 115 #[Ptt br,.agg #[.int .u8 f.1,.int .u8 f.2],.agg (bC b).toArray] w (λv w'=>v=.tuple #[]/\Wk Λ br (tN enc R f b) w'/\Kz w w'):=by
 refine ah Tryz.func115 rfl rfl ?_;intro w1 b1 m1 g1 l1 w2 b2 m2 g2 l2;have m1:=g2.get m1 nofun;have g:=g1.trans g2;refine⟨_,_,m1,_,rfl,rfl,_,_,m2,_,rfl,rfl,_,Ij HM (h.au g) f b hb,?_⟩;rintro _ w3 ⟨rfl,h3,k3⟩;have m2:=k3 _ (by decide) _ _ m2;have m1:=k3 _ (by decide) _ _ m1;unfold tN;refine aj (λc=>?_) (λc=>?_)
 ·rw[if_pos c]
  exact⟨rfl,h3,g.kz.trans k3⟩
 rw[if_neg (by rw[c];decide)];have hl:(bR enc R f b).out.length<=900000:=by
  unfold bR;rw[if_neg (by rw[c];decide)];split<;>exact hb
 refine⟨by kernel_rfl,_,_,m2,_,rfl,rfl,_,_,m1,_,rfl,rfl,⟨_,Dh h3,?_⟩,?_⟩
 ·rintro v w4 ⟨hv,g4⟩
  obtain⟨va,vc,rfl⟩:=hv.sl;refine⟨⟨g4.get m1 nofun,g4.get m2 nofun,trivial⟩,?_⟩;intro w5 b5 m5 g5 l5;refine⟨⟨(g4.trans g5).get m1 nofun,(g4.trans g5).get m2 nofun,trivial⟩,_,nQ HM ((h3.au g4).au g5) (m:={ aN 4 with b:=b,vs:=nH (bR enc R f b).cK 60 }) ⟨_,_,_,_,_,rfl,aM.zero _,hv.kz g5.kz,aM.zero _⟩ (tl:=[f]) ⟨_,_,rfl,Nat.le_refl _,rfl,.inr ⟨_,_,_,rfl,m5,rfl⟩⟩ (by simp;omega),?_⟩;rintro _ w6 ⟨rfl,h6,k6⟩;exact⟨rfl,h6,(g.kz.trans k3).trans ((g4.trans g5).kz.trans k6)⟩
 ·intro w4 b4 m4 g4 l4
  refine⟨⟨g4.get m1 nofun,g4.get m2 nofun,trivial⟩,_,Dh (h3.au g4),?_⟩;rintro v w5 ⟨hv,g5⟩;obtain⟨va,vc,rfl⟩:=hv.sl;refine⟨⟨(g4.trans g5).get m1 nofun,(g4.trans g5).get m2 nofun,trivial⟩,_,nQ HM ((h3.au g4).au g5) (m:={ aN 4 with b:=b,vs:=nH (bR enc R f b).cK 60 }) ⟨_,_,_,_,_,rfl,aM.zero _,hv,aM.zero _⟩ (tl:=[f]) ⟨_,_,rfl,Nat.le_refl _,rfl,.inr ⟨_,_,_,rfl,g5.get m4 nofun,rfl⟩⟩ (by simp;omega),?_⟩;rintro _ w6 ⟨rfl,h6,k6⟩;exact⟨rfl,h6,(g.kz.trans k3).trans ((g4.trans g5).kz.trans k6)⟩
end
section
variable{Λ:bU}{w w1 w2:World}{br:Nat}{R:MR}{a:gp}
theorem Wa.lg'(h:Wa Λ br R a w){lv:Value}{ls:List MC}(g1:GB a.lg.ownBlock w w1)(ho:jV w1 lv ls)(hn:∀g,lv.ownBlock=some g->a.lg.ownBlock=some g\/w.heap.size<=g)(m2:w2.heap[br]? = some (.cells (pG { R with log:=ls } { a with lg:=lv }).toArray 152))(g2:GB (some br) w1 w2):Wa Λ br { R with log:=ls } { a with lg:=lv } w2/\Kz w w2:=by
 have UI:∀g,lv.ownBlock=some g->g≠br:=λg hg e=>by
  subst e;rcases hn g hg with h1|h1
  ·exact h.ri.zm h1 rfl
  ·have:=ae h.ri.mem;omega
 have mbr:w1.heap[br]? = w.heap[br]?:=g1.block br (ae h.ri.mem) λe=>h.ri.zm e.symm rfl
 have kp:∀x,x<w.heap.size->some x≠a.lg.ownBlock->x≠br->w2.heap[x]? = w.heap[x]?:=λx hx h1 h2=>(g2.block x (Nat.lt_of_lt_of_le hx g1.size) λe=>h2 (Option.some.inj e)).trans (g1.block x hx h1)
 have k:Kz w w2:=λt ht b c hb=>by
  refine(kp b (ae hb) (λe=>?_) (λe=>?_)).trans hb
  ·exact h.ri.mut (h.ri.vY e.symm) t ht c hb
  ·subst e;exact h.ri.mut h.ri.jo t ht c hb
 have k1:Kz w1 w2:=g2.De λc t ht hc=>by rw[mbr,h.ri.mem]at hc;injection hc with hc;injection hc with _ hc;subst hc;revert ht;decide
 have mp:∀m:Nat,(∃es c,w.heap[m]? = some (Obj.map es c))->w2.heap[m]? = w.heap[m]?:=λm hm=>kp m (by obtain⟨_,_,h⟩:=hm;exact ae h) (λe=>iE hm (h.ri.clg e.symm) rfl) (iE hm h.ri.uj)
 refine⟨⟨⟨m2,h.ri.vm.keep (λ_ _ h=>h.kz k) (mp _ h.ri.vm.obj),h.ri.wm.keep (λ_ _ h=>h.kz k) (mp _ h.ri.wm.obj),h.ri.kn.keep (λ_ _ h=>h.kz k) (mp _ h.ri.kn.obj),h.ri.mt.keep (λ_ _ h=>h.kz k) (mp _ h.ri.mt.obj),h.ri.pp.keep (λ_ _ h=>h.kz k) (mp _ h.ri.pp.obj),h.ri.ac.keep (w':=w2) (λv x (h:nG w v x)=>(show nG w2 v x from h)) (mp _ h.ri.ac.obj),ho.kz k1 (λg hg=>?_),h.ri.st.kz k,ay h.ri.ob (λg hg=>?_),h.ri.sep⟩,λb o hb=>?_,g2.os.trans (g1.os.trans h.os),g2.out.trans (g1.out.trans h.out)⟩,k⟩
 ·obtain⟨cur,hc⟩:=ho.obj hg
  exact g2.block g (ae hc) λe=>UI g hg (Option.some.inj e)
 ·exact kp g (h.ri.lt (h.ri.uD hg)) (λe=>h.ri.Pn e.symm hg rfl) (h.ri.Cm hg)
 ·obtain⟨p1,p2⟩:=h.pr b o hb
  have hl:=ae p1;refine⟨(kp b hl (λe=>p2 (h.ri.vY e.symm)) (λe=>p2 (by rw[e];exact h.ri.jo))).trans p1,λho=>?_⟩;rcases ho with e|e|e|e|e|e|e|e|e
  ·exact p2 (.inl e)
  ·exact p2 (.inr (.inl e))
  ·exact p2 (.inr (.inr (.inl e)))
  ·exact p2 (.inr (.inr (.inr (.inl e))))
  ·exact p2 (.inr (.inr (.inr (.inr (.inl e)))))
  ·exact p2 (.inr (.inr (.inr (.inr (.inr (.inl e))))))
  ·exact p2 (.inr (.inr (.inr (.inr (.inr (.inr (.inl e)))))))
  ·rcases hn b e with h1|h1
   ·exact p2 (h.ri.vY h1)
   ·omega
  ·exact p2 (h.ri.uD e)
theorem Wa.st'(h:Wa Λ br R a w){s:St}{T M D O I:Value}(hs:fG w1 T M D O I s)(m1:w1.heap[br]? = some (.cells (pG { R with st:=s } { a with sT:=T,sM:=M,sD:=D,sO:=O,sI:=I }).toArray 152))(g:GB (some br) w w1):Wa Λ br { R with st:=s } { a with sT:=T,sM:=M,sD:=D,sO:=O,sI:=I } w1/\Kz w w1:=by
 have k:=h.ri.kz h.ri.jo g;have r:=h.ri;refine⟨⟨⟨m1,r.vm.keep (λ_ _ h=>h.kz k) (r.far r.vU g (iE r.vm.obj r.uj)),r.wm.keep (λ_ _ h=>h.kz k) (r.far r.DZ g (iE r.wm.obj r.uj)),r.kn.keep (λ_ _ h=>h.kz k) (r.far r.vV g (iE r.kn.obj r.uj)),r.mt.keep (λ_ _ h=>h.kz k) (r.far r.nu g (iE r.mt.obj r.uj)),r.pp.keep (λ_ _ h=>h.kz k) (r.far r.vW g (iE r.pp.obj r.uj)),r.ac.keep (w':=w1) (λv x (h:nG w v x)=>(show nG w1 v x from h)) (r.far r.vX g (iE r.ac.obj r.uj)),r.lg.kz k (λx hx=>r.far (r.vY hx) g (r.zm hx)),hs,ay r.ob (λx hx=>r.far (r.uD hx) g (r.Cm hx)),r.sep⟩,λb o hb=>?_,g.os.trans h.os,g.out.trans h.out⟩,k⟩;exact⟨g.get (h.pr b o hb).1 λe=>(h.pr b o hb).2 (by cases e;exact r.jo),(h.pr b o hb).2⟩
end
structure aO where
 N:Nat
 enc:MM->ByteArray
 ap:St->MC->St×aA
 bg:Nat->Nat->St
 dec:ByteArray->Option MM
 good:Nat->St->Prop
 gc:MC->Prop
structure bH(A:aO):Prop where
 nI:GI A.enc
 call:∀{k:Nat} (w:World) (s:St) (c:MC) (vT vM vD vO vI cv:Value),fG w vT vM vD vO vI s->A.good k s->kr w cv c->A.gc c->ag Tryz.prog 12 #[.agg #[.int .u8 s.g,.int .u8 s.n,vT,vM,vD,vO,vI],cv] w (λv w'=>∃T M D O I,v=.tuple #[.agg #[.int .u8 (A.ap s c).1.g,.int .u8 (A.ap s c).1.n,T,M,D,O,I],.agg (A.ap s c).2.cells.toArray]/\(∀w'':World,(∀x,w.heap.size<=x->x<w'.heap.size->w''.heap[x]? = w'.heap[x]?)->fG w'' T M D O I (A.ap s c).1)/\GB none w w')
 Jg:∀{k} s c,k<=60->A.good k s->A.gc c->A.good (k+1) (A.ap s c).1
 rep:∀{k} s c,A.good k s->A.gc c->0<=(A.ap s c).2.c
 src:∀{k} s c,A.good k s->A.gc c->c.kind=2->0<=c.r.src/\c.r.src.toNat<s.I.length
 Kk:A.gc nP
 parse:∀(w:World) (d:ByteArray),ag Tryz.prog 113 #[.string d] w (λv w'=>(∃mv e m,v=.tuple #[mv,.int .i64 e]/\Bh w' mv m/\((e=0/\A.dec d=some m/\1<=m.kind/\m.kind<=10)\/(e≠0/\A.dec d=none)))/\GB none w w')
 beg:∀(w:World) (g n:Nat),g<n->n<=4->ag Tryz.prog 8 #[.int .i64 g,.int .i64 n] w (λv w'=>∃T M D O I e,v=.tuple #[.agg #[.int .u8 (A.bg g n).g,.int .u8 (A.bg g n).n,T,M,D,O,I],.int .i64 e]/\(∀w'':World,(∀x,w.heap.size<=x->x<w'.heap.size->w''.heap[x]? = w'.heap[x]?)->fG w'' T M D O I (A.bg g n))/\GB none w w')
 Co:∀g n,n=A.N->g<n->n<=4->A.good 0 (A.bg g n)
 dl:∀{k} s,A.good k s->s.D.length<=1000000
 ol:∀{k} s,A.good k s->s.O.length<=200
 Kl:∀{k} s,A.good k s->∀(i:Nat) (x:Int),s.I[i]? = some x->0<=x
theorem bH.next{A:aO}(HA:bH A){l:List MC}{s:St}{c:MC}(h:A.good l.length s)(hl:l.length<=60)(hc:A.gc c):A.good (l++[c]).length (A.ap s c).1:=by rw[length_append];exact HA.Jg _ _ hl h hc
section
variable(A:aO)
def nR(R:MR)(c:MC)(p:aA):MR:=if c.kind=1 then Cn A.enc R p else if c.kind=2 then zo A.enc R c.r.src.toNat (fU R.sc.g R.sc.i c.r.src.toNat R.sc.sz)else R
def pI(R:MR)(c:MC):MR:=if R.sc.role=2 then nR A { R with st:=(A.ap R.st c).1,log:=R.log++[c] } c (A.ap R.st c).2 else{ R with st:=(A.ap R.st c).1,log:=R.log++[c] }
def gL:Nat->MR->MR
 |0,R=>R
 |n+1,R=>match R.known R.log.length with
  |none=>R
  |some c=>gL n (pI A { R with known:=upd R.known R.log.length none } c)
def iZ(R:MR)(s:Nat)(c:MC):MR:=if s<R.log.length then R else gL A 61 { R with props:=upd R.props s none,acc:=upd R.acc s none,sc:={ R.sc with next:=max R.sc.next (s+1) },known:=upd R.known s (some c) }
end
theorem kD(enc:MM->ByteArray)(R:MR)(m:MM)(tl:List (Nat×Nat)):(lJ enc R m tl).out.length=R.out.length+tl.length:=by simp[lJ,j4]
section
variable{A:aO}(HA:bH A){Λ:bU}{w:World}{br:Nat}{R:MR}
include HA
theorem aao(h:Wk Λ br R w){c:MC}{cv:Value}(hc:kr w cv c){p:aA}(hp:0<=p.c)(hs:c.kind=2->0<=c.r.src/\c.r.src.toNat<R.st.I.length)(hz:R.sc.sz<=5)(hb:R.out.length<=900000):ag Tryz.prog 229 #[Ptt br,cv,.agg p.cells.toArray] w (λv w'=>v=.tuple #[]/\Wk Λ br (nR A R c p) w'/\Kz w w'):=by
 obtain⟨rv,dv,rfl,hr⟩:=hc;refine ah Tryz.func229 rfl rfl ?_;intro w1 b1 m1 g1 l1 w2 b2 m2 g2 l2;have m1:=g2.get m1 nofun;have g:=g1.trans g2;refine⟨_,_,m1,_,rfl,?_⟩;unfold nR;refine aj (λd=>?_) (λd=>?_)
 ·have d1:c.kind=1:=by simpa using d
  rw[if_pos d1];refine⟨_,_,m2,_,rfl,rfl,_,Nr HA.nI (h.au g) hp hb,?_⟩;rintro _ w3 ⟨rfl,h3,k3⟩;exact⟨rfl,h3,g.kz.trans k3⟩
 ·have d1:¬c.kind=1:=by simpa using d
  rw[if_neg d1];refine aj (λe=>?_) (λe=>?_)
  ·have e1:c.kind=2:=by simpa using e
   rw[if_pos e1];obtain⟨s0,s1⟩:=hs e1;have es:(c.r.src.toNat:Int)=c.r.src:=Int.toNat_of_nonneg s0;refine⟨by kernel_rfl,_,_,m1,_,rfl,_,_,m1,_,rfl,?_⟩;have ho:=Bg (h.au g) c.r.src.toNat hz;rw[es]at ho;refine⟨_,ho,?_⟩;rintro v w3 ⟨hv,g3⟩;have hol:=jf R.sc.g R.sc.i c.r.src.toNat R.sc.sz;have ha:=Rj HA.nI ((h.au g).au g3) s1 hv (by omega);rw[es]at ha;refine⟨⟨g3.get m1 nofun,g3.get m1 nofun,trivial⟩,_,ha,?_⟩;rintro _ w4 ⟨rfl,h4,k4⟩;exact⟨rfl,h4,(g.trans g3).kz.trans k4⟩
  ·have e1:¬c.kind=2:=by simpa using e
   rw[if_neg e1];exact⟨rfl,h.au g,g.kz⟩
theorem acn(h:Wk Λ br R w){c:MC}{cv:Value}(hc:kr w cv c){k:Nat}(aeV:k<=60)(hg:A.good k R.st)(hgc:A.gc c)(hz:R.sc.sz<=5)(hl:R.log.length<=1000)(hb:R.out.length<=900000):ag Tryz.prog 203 #[Ptt br,cv] w (λv w'=>v=.tuple #[]/\Wk Λ br (pI A R c) w'/\Kz w w'):=by
 have hc0:=hc;obtain⟨rv,dv,rfl,hr⟩:=hc;refine ah Tryz.func203 rfl rfl ?_;intro w1 b1 m1 g1 l1 w2 b2 m2 g2 l2;obtain⟨h1,u1⟩:=h.box g1 m1 l1;have g:=g1.trans g2;obtain⟨a,h1⟩:=h1;obtain⟨vm,wm,kn,mt,pp,ac,lg,ob,sT,sM,sD,sO,sI⟩:=a;have h2:=h1.au g2;have hbr:br<w1.heap.size:=ae h1.ri.mem;refine⟨by kernel_rfl,_,_,h2.ri.mem,_,rfl,rfl,_,_,g2.get m1 nofun,_,rfl,rfl,_,HA.call w2 R.st c _ _ _ _ _ _ h2.ri.st hg (hc0.kz g.kz) hgc,?_⟩;rintro _ w3 ⟨T,M,D,O,I,rfl,hs3,g3⟩;have h3:=h2.au g3;obtain⟨ta,tn,tc,ma,mn,mc,da,dn,dc,oa,on,oc,ia,il,ic,rfl,rfl,rfl,rfl,rfl⟩:=(hs3 w3 λ_ _ _=>rfl).sl;refine⟨_,_,_,h3.ri.mem,rfl,rfl,λw4 m4 g4=>?_⟩;have m2':w4.heap[b2]? = some (.cells (zc fD.T 57).toArray 57):=g4.get (g3.get m2 nofun) λe=>by cases e;omega
 refine⟨_,_,_,m2',rfl,rfl,λw5 m5 g5=>?_⟩;have g15:GB (some br) w1 w5:=⟨g5.os.trans (g4.os.trans (g3.os.trans g2.os)),g5.out.trans (g4.out.trans (g3.out.trans g2.out)),Nat.le_trans g2.size (Nat.le_trans g3.size (Nat.le_trans g4.size g5.size)),λx hx hne=>(g5.block x (Nat.lt_of_lt_of_le hx (Nat.le_trans g2.size (Nat.le_trans g3.size g4.size))) (λe=>by cases e;omega)).trans ((g4.block x (Nat.lt_of_lt_of_le hx (Nat.le_trans g2.size g3.size)) hne).trans ((g3.block x (Nat.lt_of_lt_of_le hx g2.size) nofun).trans (g2.block x hx nofun)))⟩;have ahF:b2<w2.heap.size:=ae m2;obtain⟨h5,k5⟩:=h1.st' (hs3 w5 λx hx hx3=>(g5.block x (Nat.lt_of_lt_of_le hx3 g4.size) (λe=>by cases e;omega)).trans (g4.block x hx3 λe=>by cases e;have:=g2.size;omega)) (g5.get m4 λe=>by cases e;omega) g15;have Fu:w5.heap[b1]? = _:=(h5.pr b1 _ (by unfold bU.add;simp;rfl)).1;obtain⟨la,lc,rfl⟩:∃la lc,lg=.slice la R.log.length lc:=by obtain⟨_,_,h,_⟩:=h5.ri.lg;exact af h
 obtain⟨ra,rn,rc,sj,yA,su,rfl,rfl⟩:=hr.sl;refine⟨by kernel_rfl,_,_,h5.ri.mem,_,rfl,_,_,Fu,_,rfl,rfl,λw6 b6 m6 g6 l6=>?_⟩;have h6:=h5.au g6;obtain⟨ps,hpl,hlo,hlr⟩:=h6.ri.lg;refine⟨⟨g6.get Fu nofun,h6.ri.mem,trivial⟩,_,dC c (.slice ra rn rc) (.slice sj yA su),hlo,⟨_,_,m6,rfl,rfl,rfl⟩,by omega,λlv w7 oM g7 n7=>?_⟩;obtain⟨la',lc',rfl⟩:=af oM;have m7:w7.heap[br]? = _:=(g7.block br (ae h6.ri.mem) λe=>h6.ri.zm e.symm rfl).trans h6.ri.mem;refine⟨_,_,_,m7,rfl,rfl,λw8 m8 g8=>?_⟩;have Rl:Kz w6 w7:=λt ht b cc hb=>g7.get hb λe=>h6.ri.mut (h6.ri.vY e.symm) t ht cc hb
 have Po:Kz w w6:=(g1.kz.trans k5).trans g6.kz;obtain⟨h8,k8⟩:=h6.lg' (ls:=R.log++[c]) g7 ⟨ps++[(.slice ra rn rc,.slice sj yA su)],by simp[hpl],by rw[length_append,zipWith_append (by rw[hpl]),flatten_append];exact oM,λi x p hx hp=>(Ns hpl hlr (hr.kz Po) i x p hx hp).kz Rl⟩ n7 m8 g8;have UJ:=Po.trans k8;unfold pI;refine⟨_,_,h8.ri.mem,_,rfl,aj (λd=>?_) (λd=>?_)⟩
 ·have d1:R.sc.role=2:=by simp at d;omega
  rw[if_pos d1];have Pp:w8.heap[b1]? = _:=(h8.pr b1 _ (by unfold bU.add;simp;rfl)).1;have qG:w8.heap[b2]? = _:=k8 _ (by decide) _ _ (g6.get m5 nofun);refine⟨_,_,Pp,_,rfl,rfl,_,_,qG,_,rfl,rfl,_,aao HA ⟨_,h8⟩ ⟨_,_,rfl,hr.kz UJ⟩ (HA.rep _ _ hg hgc) (λhk=>HA.src _ c (HA.Jg _ _ aeV hg hgc) hgc hk) hz hb,?_⟩;rintro _ w9 ⟨rfl,h9,k9⟩;exact⟨rfl,h9.drop u1,UJ.trans k9⟩
 ·have d1:¬R.sc.role=2:=by simp at d;omega
  rw[if_neg d1];exact⟨rfl,Wk.drop ⟨_,h8⟩ u1,UJ⟩
end
def Ik(l:List Int):List Value:=l.map λb=>.int .u8 b
theorem X5(a b:List Int):Ik (a++b)=Ik a++Ik b:=map_append
structure Put(w:World)(v:Value)(n:Nat)(xs:List Value)(new:List Int)(v':Value)(w':World):Prop where
 row:w'.ownsRow 0 5 1 v' (n+new.length) (xs++Ik new)
 gb:GB v.ownBlock w w'
 own:∀g,v'.ownBlock=some g->v.ownBlock=some g\/w.heap.size<=g
theorem dw{w:World}{x y:Nat}{c c':Array Value}{t t':TypeId}(h:w.heap[x]? = some (.cells c t))(h':w.heap[y]? = some (.cells c' t'))(hne:t≠t'):x≠y:=λe=>by
 subst e;rw[h]at h';injection h' with h';injection h' with _ h';exact hne h'
section
variable{w w0 w1 w2:World}{v v1 v2:Value}{n:Nat}{xs:List Value}{a b:List Int}
theorem Put.trans(h:Put w v n xs a v1 w1)(k:Put w1 v1 (n+a.length) (xs++Ik a) b v2 w2):Put w v n xs (a++b) v2 w2:=by
 refine⟨?_,⟨k.gb.os.trans h.gb.os,k.gb.out.trans h.gb.out,Nat.le_trans h.gb.size k.gb.size,λx hx hn=>(k.gb.block x (Nat.lt_of_lt_of_le hx h.gb.size) λe=>?_).trans (h.gb.block x hx hn)⟩,λg hg=>?_⟩
 ·have:=k.row
  rw[append_assoc,<-X5,Nat.add_assoc,<-length_append]at this;exact this
 ·rcases h.own x e.symm with q|q
  ·exact hn q.symm
  ·omega
 ·rcases k.own g hg with q|q
  ·exact h.own g q
  ·exact .inr (Nat.le_trans h.gb.size q)
theorem Put.pre(g:GB none w0 w)(h:Put w v n xs a v1 w1):Put w0 v n xs a v1 w1:=⟨h.row,⟨h.gb.os.trans g.os,h.gb.out.trans g.out,Nat.le_trans g.size h.gb.size,λx hx hn=>(h.gb.block x (Nat.lt_of_lt_of_le hx g.size) hn).trans (g.block x hx nofun)⟩,λx hx=>(h.own x hx).imp id λe=>Nat.le_trans g.size e⟩
theorem Put.nil(ho:w.ownsRow 0 5 1 v n xs):Put w v n xs [] v w:=⟨by simpa[Ik]using ho,GB.refl _ _,λ_ h=>.inl h⟩
theorem Put.get(h:Put w v n xs a v1 w1)(ho:w.ownsRow 0 5 1 v n xs){x:Nat}{c:Array Value}{t:TypeId}(hx:w.heap[x]? = some (.cells c t))(ht:t≠5):w1.heap[x]? = some (.cells c t):=h.gb.get hx λe=>by
 obtain⟨c',hc⟩:=ax ho e.symm;exact dw hx hc ht rfl
theorem jP(ho:w.ownsRow 0 5 1 v n xs)(g:GB none w w1):w1.ownsRow 0 5 1 v n xs:=ay ho λx hx=>by obtain⟨c,hc⟩:=ax ho hx;exact g.block x (ae hc) nofun
theorem dE(ho:w.ownsRow 0 5 1 v n xs)(hn:n<=900000000)(x:Int):ag Tryz.prog 214 #[v,.int .u8 x] w (λv' w'=>Put w v n xs [x] v' w'):=by
 obtain⟨va,vc,rfl⟩:=af ho;refine ah Tryz.func214 rfl rfl ?_;refine λw1 b1 m1 g1 l1=>?_
 refine⟨_,[.int .u8 x],jP ho g1,⟨_,_,m1,rfl,rfl,rfl⟩,by omega,λv' w2 ho2 g2 n2=>?_⟩;exact Put.pre g1 ⟨ho2,g2,n2⟩
def b32(x:Int):List Int:=[IntKind.u8.wrap (x.fdiv (2 ^ 24)),IntKind.u8.wrap (x.fdiv (2 ^ 16)),IntKind.u8.wrap (x.fdiv (2 ^ 8)),IntKind.u8.wrap x]
theorem jq(ho:w.ownsRow 0 5 1 v n xs)(hn:n<=900000000)(x:Int):ag Tryz.prog 220 #[v,.int .u32 x] w (λv' w'=>Put w v n xs (b32 x) v' w'):=by
 obtain⟨va,vc,rfl⟩:=af ho;refine ah Tryz.func220 rfl rfl ?_;refine⟨by decide,.inr ⟨by decide,.inr ⟨by decide,.inr (.inr (λw1 b1 m1 g1 l1=>?_))⟩⟩⟩;refine⟨_,Ik (b32 x),jP ho g1,⟨_,_,m1,rfl,rfl,rfl⟩,by omega,λv' w2 ho2 g2 n2=>?_⟩;exact Put.pre g1 ⟨ho2,g2,n2⟩
def b64(x:Int):List Int:=b32 (IntKind.u32.wrap (x.fdiv (2 ^ 32)))++b32 (IntKind.u32.wrap x)
theorem mi(ho:w.ownsRow 0 5 1 v n xs)(hn:n<=800000000)(x:Int):ag Tryz.prog 234 #[v,.int .u64 x] w (λv' w'=>Put w v n xs (b64 x) v' w'):=by
 refine ah Tryz.func234 rfl rfl ?_;refine⟨by decide,.inr ⟨_,jq ho (by omega) _,?_⟩⟩;intro v1 w1 p1;refine .inr ⟨_,jq p1.row (by show n+4<=_;omega) _,?_⟩;intro v2 w2 p2;exact p1.trans p2
end
end
