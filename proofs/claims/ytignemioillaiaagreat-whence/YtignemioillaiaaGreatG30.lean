/- What is right (2): the lists of a range. -/
import Derived.Test.YtignemioillaiaaGreatG29
namespace Go.Proofs.YtignemioillaiaaGreat
set_option maxHeartbeats 8000000
set_option maxRecDepth 100000
section
open Go Go.Conc
section
variable{α:Type}(f:α->Bool)(lt:α->α->Bool)
def wP(l:List α)(i:Nat):Bool:=match l[i]? with
 |none=>true
 |some x=>f x && (match i with
  |0=>true
  |j+1=>match l[j]? with
   |none=>true
   |some y=>lt y x)
def jP(l:List α):Bool:=decide (l.length<=255) && (List.range l.length).all (wP f lt l)
variable{f lt}{l:List α}
theorem y9(h:¬l.length<=255):jP f lt l=false:=by simp[jP,h]
theorem xY{k:Nat}{x:α}(hx:l[k]? = some x)(h:f x=false):jP f lt l=false:=by
 have hk:=(List.getElem?_eq_some_iff.1 hx).1;unfold jP;rw[Mf hk (by simp[wP,hx,h]),Bool.and_false]
theorem DF{k:Nat}{x y:α}(hx:l[k+1]? = some x)(hy:l[k]? = some y)(h:lt y x=false):jP f lt l=false:=by
 have hk:=(List.getElem?_eq_some_iff.1 hx).1;unfold jP;rw[Mf hk (by simp[wP,hx,hy,h]),Bool.and_false]
theorem vL{k:Nat}{x:α}(hx:l[k]? = some x)(h:f x=true)(hl:∀j y,k=j+1->l[j]? = some y->lt y x=true):wP f lt l k=true:=by
 unfold wP;rw[hx];simp only[h,Bool.true_and];cases k with
 |zero=>rfl
 |succ j =>
  simp only;cases hj:l[j]? with
  |none=>rfl
  |some y=>exact hl j y rfl hj
end
def EW(r:Rg)(k:Int):Bool:=decide (r.lo<=k) && decide (k<=r.hi)
def BS(r:Rg):Bool:=jP (λx:Row=>EW r x.key) (λy x=>decide (y.key<x.key)) r.rows
def za(r:Rg):Bool:=jP (λp:aB=>uy p && (kept p.k && EW r p.key)) ahead r.aW
theorem MU{l:List Row}{k:Nat}{x:Row}(hx:l[k]? = some x){cs:List Value}{off:Nat}(hcut:aJ cs off (l.length*2)=(l.map Row.cells).flatten):aJ cs (off+k*2) 2=x.cells:=by
 have hk:=(List.getElem?_eq_some_iff.1 hx).1;have h1:=jB (f:=Row.cells) (size:=2) (λ_=>rfl) l k x hx;rw[List.flatMap_def,<-hcut,uN _ _ _ _ _ (by omega)]at h1;exact h1
theorem MW{l:List aB}{k:Nat}{x:aB}(hx:l[k]? = some x){cs:List Value}{off:Nat}(hcut:aJ cs off (l.length*7)=(l.map aB.cells).flatten):aJ cs (off+k*7) 7=x.cells:=by
 have hk:=(List.getElem?_eq_some_iff.1 hx).1;have h1:=jB (f:=aB.cells) (size:=7) (λ_=>rfl) l k x hx;rw[List.flatMap_def,<-hcut,uN _ _ _ _ _ (by omega)]at h1;exact h1
theorem iF{cs:List Value}{o n i:Nat}{xs:List Value}{v:Value}(h:aJ cs o n=xs)(hi:xs[i]? = some v)(hn:i<n):cs[o+i]? = some v:=by
 rw[<-h]at hi;unfold aJ at hi;rw[List.getElem?_take,if_pos hn,List.getElem?_drop]at hi;exact hi
section
variable{w:World}{r:Rg}{rv dv:Value}
theorem rows_ok(hr:aL w r rv dv):ag Tryz.prog 144 #[.agg (dP r rv dv).toArray] w (λv w'=>v=.bool (BS r)/\GB none w w'):=by
 obtain⟨a0,n0,c0,_,_,_,rfl,rfl⟩:=hr.sl;obtain⟨⟨a,c,e,hcap,hlen,hv⟩,_⟩:=hr;injection e with e1 e2 e3;subst e1 e2 e3;refine aj ah mixed Tryz.func144 rfl rfl ?_;refine λw1 b1 m1 g1 l1=>⟨_,_,m1,_,rfl,au (λd=>?_) (λd=>?_)⟩
 ·exact⟨congrArg Value.bool (y9 (by simp at d;omega)).symm,g1⟩
 have yU:r.rows.length<=255:=by simp at d;omega
 refine⟨_,_,m1,_,rfl,λm s wk=>∃k:Nat,m=r.rows.length - k/\k<=r.rows.length/\s=[(1,Ptt b1),(10,.slice a0 r.rows.length c0),(11,.int .i64 r.rows.length),(12,.int .i64 k)]/\GB none w1 wk/\(List.range k).all (wP (λx:Row=>EW r x.key) (λy x=>decide (y.key<x.key)) r.rows)=true,⟨_,_,⟨0,rfl,Nat.zero_le _,rfl,GB.refl _ _,rfl⟩,rfl,rfl,rfl,rfl,trivial⟩,?_⟩;rintro m s wk ⟨k,rfl,hk,rfl,gk,hall⟩;refine au (λd=>?_) (λd=>?_)
 ·have d1:k<r.rows.length:=by have:=of_decide_eq_true d;omega
  obtain⟨x,hx⟩:∃x,r.rows[k]? = some x:=⟨r.rows[k],by simp[d1]⟩;rcases hv with⟨_,h0⟩|⟨b,off,cs,rfl,hb,hcut⟩
  ·omega
  have hb1:=(g1.trans gk).get hb nofun;refine⟨⟨by omega,by omega⟩,_,_,hb1,x.cells,by show aJ cs.toList (off+(k:Int).toNat*2) 2=_;rw[Int.toNat_natCast];exact MU hx hcut,rfl,λw2 b2 m2 g2 l2=>⟨_,_,_,m2,rfl,rfl,λw3 m3 g3=>?_⟩⟩;have g23:=g2.new g3 l2;have m13:=(gk.trans g23).get m1 nofun;refine⟨_,_,m13,dP r _ _,rfl,rfl,_,_,m3,_,rfl,_,Ht w3 r _ _ _,?_⟩;rintro _ w4 ⟨rfl,g4⟩;have G:=(gk.trans g23).trans g4;have gw:=g1.trans G;obtain⟨z,hz⟩:∃z,EW r x.key=z:=⟨_,rfl⟩;have hz':(decide (r.lo<=x.key) && decide (x.key<=r.hi))=z:=hz;rw[hz'];cases z
  ·exact⟨congrArg Value.bool (xY hx hz).symm,gw⟩
  have Q4:=g4.get m3 nofun;have m14:=G.get m1 nofun;have hb4:=gw.get hb nofun;refine⟨by kernel_rfl,au (λe=>?_) (λe=>?_)⟩
  ·have e1:0<k:=by simp at e;omega
   obtain⟨j,rfl⟩:∃j,k=j+1:=⟨k - 1,by omega⟩;obtain⟨y,hy⟩:∃y,r.rows[j]? = some y:=⟨r.rows[j]'(by omega),by simp[show j<r.rows.length by omega]⟩;have ej:(((j+1:Nat):Int) - 1).toNat=j:=by omega
   refine⟨_,_,Q4,_,rfl,_,_,m14,_,rfl,⟨by omega,by omega⟩,⟨by omega,by omega⟩,_,_,hb4,.int .u64 y.key,by show cs.toList[off+(((j+1:Nat):Int) - 1).toNat*2+0]? = _;rw[ej];exact iF (MU hy hcut) rfl (by decide),?_⟩;refine au (λq=>?_) (λq=>?_)
   ·exact⟨congrArg Value.bool (DF hx hy (by simp at q;simp;omega)).symm,gw⟩
   ·exact⟨⟨by omega,by omega⟩,_,_,⟨j+2,rfl,by omega,rfl,G,u7 hall (vL hx hz λi y' ei hy'=>by cases ei;rw[hy]at hy';cases hy';simp at q;simp;omega)⟩,⟨rfl,rfl,rfl,rfl,trivial⟩,by omega⟩
  ·have e1:k=0:=by simp at e;omega
   subst e1;exact⟨⟨by omega,by omega⟩,_,_,⟨1,rfl,by omega,rfl,G,u7 hall (vL hx hz nofun)⟩,⟨rfl,rfl,rfl,rfl,trivial⟩,by omega⟩
 ·have d1:k=r.rows.length:=by have:=of_decide_eq_false d;omega
  subst d1;exact⟨congrArg Value.bool (by unfold BS jP;rw[hall];simp[yU]),g1.trans gk⟩
theorem XL(hr:aL w r rv dv):ag Tryz.prog 145 #[.agg (dP r rv dv).toArray] w (λv w'=>v=.bool (za r)/\GB none w w'):=by
 obtain⟨_,_,_,a0,n0,c0,rfl,rfl⟩:=hr.sl;obtain⟨_,⟨a,c,e,hcap,hlen,hv⟩⟩:=hr;injection e with e1 e2 e3;subst e1 e2 e3;refine aj ah mixed Tryz.func145 rfl rfl ?_;refine λw1 b1 m1 g1 l1=>⟨_,_,m1,_,rfl,au (λd=>?_) (λd=>?_)⟩
 ·exact⟨congrArg Value.bool (y9 (by simp at d;omega)).symm,g1⟩
 have yU:r.aW.length<=255:=by simp at d;omega
 refine⟨_,_,m1,_,rfl,λm s wk=>∃k:Nat,m=r.aW.length - k/\k<=r.aW.length/\s=[(1,Ptt b1),(10,.slice a0 r.aW.length c0),(11,.int .i64 r.aW.length),(12,.int .i64 k)]/\GB none w1 wk/\(List.range k).all (wP (λp:aB=>uy p && (kept p.k && EW r p.key)) ahead r.aW)=true,⟨_,_,⟨0,rfl,Nat.zero_le _,rfl,GB.refl _ _,rfl⟩,rfl,rfl,rfl,rfl,trivial⟩,?_⟩;rintro m s wk ⟨k,rfl,hk,rfl,gk,hall⟩;refine au (λd=>?_) (λd=>?_)
 ·have d1:k<r.aW.length:=by have:=of_decide_eq_true d;omega
  obtain⟨x,hx⟩:∃x,r.aW[k]? = some x:=⟨r.aW[k],by simp[d1]⟩;rcases hv with⟨_,h0⟩|⟨b,off,cs,rfl,hb,hcut⟩
  ·omega
  have hb1:=(g1.trans gk).get hb nofun;refine⟨⟨by omega,by omega⟩,_,_,hb1,x.cells,by show aJ cs.toList (off+(k:Int).toNat*7) 7=_;rw[Int.toNat_natCast];exact MW hx hcut,rfl,λw2 b2 m2 g2 l2=>⟨_,_,_,m2,rfl,rfl,λw3 m3 g3=>?_⟩⟩;have g23:=g2.new g3 l2;refine⟨_,_,m3,x.cells,rfl,rfl,_,J9 w3 x,?_⟩;rintro _ w4 ⟨rfl,g4⟩;have G:=(gk.trans g23).trans g4;have gw:=g1.trans G;obtain⟨z,hz⟩:∃z,uy x=z:=⟨_,rfl⟩;rw[hz];cases z
  ·exact⟨congrArg Value.bool (xY hx (by simp[hz])).symm,gw⟩
  have Q4:=g4.get m3 nofun;refine⟨_,_,Q4,_,rfl,_,IB w4 _,?_⟩;rintro _ w4 ⟨rfl,rfl⟩;obtain⟨y,hy⟩:∃y,kept x.k=y:=⟨_,rfl⟩;rw[hy];cases y
  ·exact⟨congrArg Value.bool (xY hx (by simp[hy])).symm,gw⟩
  have m14:=G.get m1 nofun;refine⟨_,_,m14,dP r _ _,rfl,rfl,_,_,Q4,_,rfl,_,Ht w4 r _ _ _,?_⟩;rintro _ w5 ⟨rfl,g5⟩;obtain⟨t,ht⟩:∃t,EW r x.key=t:=⟨_,rfl⟩;have ht':(decide (r.lo<=x.key) && decide (x.key<=r.hi))=t:=ht;rw[ht'];have G:=G.trans g5;have gw:=gw.trans g5;cases t
  ·exact⟨congrArg Value.bool (xY hx (by simp[ht])).symm,gw⟩
  have hf:(uy x && (kept x.k && EW r x.key))=true:=by rw[hz,hy,ht];rfl
  have Z4:=g5.get Q4 nofun;have m15:=G.get m1 nofun;have hb5:=gw.get hb nofun;refine⟨by kernel_rfl,au (λe=>?_) (λe=>?_)⟩
  ·have e1:0<k:=by simp at e;omega
   obtain⟨j,rfl⟩:∃j,k=j+1:=⟨k - 1,by omega⟩;obtain⟨y,hy⟩:∃y,r.aW[j]? = some y:=⟨r.aW[j]'(by omega),by simp[show j<r.aW.length by omega]⟩;have ej:(((j+1:Nat):Int) - 1).toNat=j:=by omega
   refine⟨_,_,m15,_,rfl,⟨by omega,by omega⟩,⟨by omega,by omega⟩,_,_,hb5,y.cells,by show aJ cs.toList (off+(((j+1:Nat):Int) - 1).toNat*7) 7=_;rw[ej];exact MW hy hcut,rfl,_,_,Z4,x.cells,rfl,rfl,_,Uu w5 y x,?_⟩;rintro _ w6 ⟨rfl,g6⟩;obtain⟨q,hq⟩:∃q,ahead y x=q:=⟨_,rfl⟩;rw[hq];cases q
   ·exact⟨congrArg Value.bool (DF hx hy hq).symm,gw.trans g6⟩
   ·exact⟨⟨by omega,by omega⟩,_,_,⟨j+2,rfl,by omega,rfl,G.trans g6,u7 hall (vL hx hf λi y' ei hy'=>by cases ei;rw[hy]at hy';cases hy';exact hq)⟩,⟨rfl,rfl,rfl,rfl,trivial⟩,by omega⟩
  ·have e1:k=0:=by simp at e;omega
   subst e1;exact⟨⟨by omega,by omega⟩,_,_,⟨1,rfl,by omega,rfl,G,u7 hall (vL hx hf nofun)⟩,⟨rfl,rfl,rfl,rfl,trivial⟩,by omega⟩
 ·have d1:k=r.aW.length:=by have:=of_decide_eq_false d;omega
  subst d1;exact⟨congrArg Value.bool (by unfold za jP;rw[hall];simp[yU]),g1.trans gk⟩
end
def oU(r:Rg):Bool:=decide (r.src<4) && (decide (r.dst<4) && (decide (1<=r.seq) && (decide (r.lo<=r.hi) && (BS r && za r))))
def tO(r:Rg):Bool:=r.src == 0 && (r.dst == 0 && (r.seq == 0 && (r.lo == 0 && (r.hi == 0 && (r.rows.length == 0 && r.aW.length == 0)))))
def oV(q:bQ):Bool:=q.c == 0 && (q.s == 0 && (q.k == 0 && (q.key == 0 && (q.v == 0 && (q.hi == 0 && q.to == 0)))))
def xZ(c:MC):Bool:=oV c.q && (tO c.r && (c.peer == 0 && c.seq == 0))
def lh(c:MC):Bool:=if c.kind=0 then xZ c else if c.kind=1 then kJ c.q && (tO c.r && (c.peer == 0 && c.seq == 0))else if c.kind=2 then oU c.r && (oV c.q && (c.peer == 0 && c.seq == 0))else if c.kind=3 then decide (c.peer<4) && (oV c.q && tO c.r)else false
section
variable{w:World}{r:Rg}{rv dv:Value}
theorem DI(hr:aL w r rv dv):ag Tryz.prog 86 #[.agg (dP r rv dv).toArray] w (λv w'=>v=.bool (oU r)/\GB none w w'):=by
 obtain⟨_,_,_,_,_,_,rfl,rfl⟩:=hr.sl;refine aj ah mixed Tryz.func86 rfl rfl ?_;refine λw1 b1 m1 g1 l1=>?_
 have hr1:=hr.kz g1.kz;refine⟨_,_,m1,_,rfl,_,pV _ _,?_⟩;rintro _ w1 ⟨rfl,rfl⟩;refine au (λc0=>?_) (λc0=>?_)
 ·refine⟨_,_,m1,_,rfl,_,pV _ _,?_⟩
  rintro _ w1 ⟨rfl,rfl⟩;refine au (λc1=>?_) (λc1=>?_)
  ·refine⟨_,_,m1,_,rfl,?_⟩
   refine au (λc2=>?_) (λc2=>?_)
   ·refine⟨_,_,m1,_,rfl,?_⟩
    refine⟨_,_,m1,_,rfl,?_⟩;refine au (λc3=>?_) (λc3=>?_)
    ·refine⟨_,_,m1,dP r _ _,rfl,rfl,_,rows_ok hr1,?_⟩
     rintro _ w2 ⟨rfl,g2⟩;have g12:=g1.trans g2;refine au (λc4=>?_) (λc4=>?_)
     ·refine⟨_,_,g2.get m1 nofun,dP r _ _,rfl,rfl,_,XL (hr1.kz g2.kz),?_⟩
      rintro _ w3 ⟨rfl,g3⟩;exact⟨congrArg Value.bool (by grind [oU]),g12.trans g3⟩
     ·exact⟨congrArg Value.bool (by grind [oU]),g12⟩
    ·exact⟨congrArg Value.bool (by grind [oU]),g1⟩
   ·exact⟨congrArg Value.bool (by grind [oU]),g1⟩
  ·exact⟨congrArg Value.bool (by grind [oU]),g1⟩
 ·exact⟨congrArg Value.bool (by grind [oU]),g1⟩
theorem EX(hr:aL w r rv dv):ag Tryz.prog 233 #[.agg (dP r rv dv).toArray] w (λv w'=>v=.bool (tO r)/\GB none w w'):=by
 obtain⟨_,n1,_,_,n2,_,rfl,rfl⟩:=hr.sl;obtain⟨⟨_,_,e1,_⟩,_,_,e2,_⟩:=hr;obtain rfl:n1=r.rows.length:=by injection e1
 obtain rfl:n2=r.aW.length:=by injection e2
 refine aj ah mixed Tryz.func233 rfl rfl ?_;refine λw1 b1 m1 g1 l1=>?_
 refine⟨_,_,m1,_,rfl,?_⟩;refine au (λc0=>?_) (λc0=>?_)
 ·refine⟨_,_,m1,_,rfl,?_⟩
  refine au (λc1=>?_) (λc1=>?_)
  ·refine⟨_,_,m1,_,rfl,?_⟩
   refine au (λc2=>?_) (λc2=>?_)
   ·refine⟨_,_,m1,_,rfl,?_⟩
    refine au (λc3=>?_) (λc3=>?_)
    ·refine⟨_,_,m1,_,rfl,?_⟩
     refine au (λc4=>?_) (λc4=>?_)
     ·refine⟨_,_,m1,_,rfl,?_⟩
      refine au (λc5=>?_) (λc5=>?_)
      ·refine⟨_,_,m1,_,rfl,?_⟩
       exact⟨congrArg Value.bool (by grind [tO]),g1⟩
      ·exact⟨congrArg Value.bool (by grind [tO]),g1⟩
     ·exact⟨congrArg Value.bool (by grind [tO]),g1⟩
    ·exact⟨congrArg Value.bool (by grind [tO]),g1⟩
   ·exact⟨congrArg Value.bool (by grind [tO]),g1⟩
  ·exact⟨congrArg Value.bool (by grind [tO]),g1⟩
 ·exact⟨congrArg Value.bool (by grind [tO]),g1⟩
end
section
variable{w:World}{c:MC}{rv dv:Value}
theorem yc(hr:aL w c.r rv dv):ag Tryz.prog 232 #[.agg (dA c rv dv).toArray] w (λv w'=>v=.bool (xZ c)/\GB none w w'):=by
 obtain⟨_,_,_,_,_,_,rfl,rfl⟩:=hr.sl;refine aj ah mixed Tryz.func232 rfl rfl ?_;refine λw1 b1 m1 g1 l1=>?_
 have hr1:=hr.kz g1.kz;refine⟨_,_,m1,c.q.cells,rfl,rfl,?_⟩;refine au (λc0=>?_) (λc0=>?_)
 ·refine⟨_,_,m1,dP c.r _ _,rfl,rfl,_,EX hr1,?_⟩
  rintro _ w2 ⟨rfl,g2⟩;have g12:=g1.trans g2;have m2:=g2.get m1 nofun;refine au (λc1=>?_) (λc1=>?_)
  ·refine⟨_,_,m2,_,rfl,?_⟩
   refine au (λc2=>?_) (λc2=>?_)
   ·refine⟨_,_,m2,_,rfl,?_⟩
    exact⟨congrArg Value.bool (by grind [xZ,oV]),g12⟩
   ·exact⟨congrArg Value.bool (by grind [xZ,oV]),g12⟩
  ·exact⟨congrArg Value.bool (by grind [xZ,oV]),g12⟩
 ·exact⟨congrArg Value.bool (by grind [xZ,oV]),g1⟩
theorem zb(hr:aL w c.r rv dv):ag Tryz.prog 212 #[.agg (dA c rv dv).toArray] w (λv w'=>v=.bool (lh c)/\GB none w w'):=by
 obtain⟨_,_,_,_,_,_,rfl,rfl⟩:=hr.sl;obtain⟨k,q,r,peer,seq⟩:=c;dsimp only at hr;by_cases k0:k=0
 ·subst k0
  refine aj ah mixed Tryz.func212 rfl rfl ?_;refine λw1 b1 m1 g1 l1=>⟨_,_,m1,_,rfl,_,_,m1,dA ⟨0,q,r,peer,seq⟩ _ _,rfl,rfl,_,yc (hr.kz g1.kz),?_⟩
  rintro _ w2 ⟨rfl,g2⟩;exact⟨congrArg Value.bool (by simp[lh]),g1.trans g2⟩
 by_cases k1:k=1
 ·subst k1
  refine aj ah mixed Tryz.func212 rfl rfl ?_;refine λw1 b1 m1 g1 l1=>⟨_,_,m1,_,rfl,_,_,m1,q.cells,rfl,rfl,_,y7 w1 q,?_⟩
  rintro _ w2 ⟨rfl,g2⟩;refine⟨_,_,_,g2.get m1 nofun,rfl,rfl,λw3 m3 g3=>?_⟩;have G:=(g1.trans g2).new g3 l1;obtain⟨a,ha⟩:∃a,kJ q=a:=⟨_,rfl⟩;rw[ha];cases a
  ·exact⟨congrArg Value.bool (by simp[lh,ha]),G⟩
  ·refine⟨_,_,m3,dA ⟨1,qN,r,peer,seq⟩ _ _,rfl,rfl,_,yc (c:=⟨1,qN,r,peer,seq⟩) (hr.kz G.kz),?_⟩
   rintro _ w4 ⟨rfl,g4⟩;exact⟨congrArg Value.bool (by simp[lh,ha,xZ,oV,qN]),G.trans g4⟩
 by_cases k2:k=2
 ·subst k2
  refine aj ah mixed Tryz.func212 rfl rfl ?_;refine λw1 b1 m1 g1 l1=>⟨_,_,m1,_,rfl,_,_,m1,dP r _ _,rfl,rfl,_,DI (hr.kz g1.kz),?_⟩
  rintro _ w2 ⟨rfl,g2⟩;refine⟨_,_,_,g2.get m1 nofun,rfl,rfl,λw3 m3 g3=>?_⟩;have G:=(g1.trans g2).new g3 l1;obtain⟨a,ha⟩:∃a,oU r=a:=⟨_,rfl⟩;rw[ha];cases a
  ·exact⟨congrArg Value.bool (by simp[lh,ha]),G⟩
  ·refine⟨_,_,m3,dA ⟨2,q,qh,peer,seq⟩ (.slice none 0 0) (.slice none 0 0),rfl,rfl,_,yc (c:=⟨2,q,qh,peer,seq⟩) (aL.zero w3),?_⟩
   rintro _ w4 ⟨rfl,g4⟩;exact⟨congrArg Value.bool (by simp[lh,ha,xZ,tO,qh]),G.trans g4⟩
 by_cases k3:k=3
 ·subst k3
  refine aj ah mixed Tryz.func212 rfl rfl ?_;refine λw1 b1 m1 g1 l1=>⟨_,_,m1,_,rfl,_,_,m1,_,rfl,_,pV w1 _,?_⟩
  rintro _ w1 ⟨rfl,rfl⟩;refine⟨_,_,_,m1,rfl,rfl,λw2 m2 g2=>⟨_,_,_,m2,rfl,rfl,λw3 m3 g3=>?_⟩⟩;have G:=(g1.new g2 l1).new g3 l1;obtain⟨a,ha⟩:∃a,decide (peer<4)=a:=⟨_,rfl⟩;rw[ha];cases a
  ·exact⟨congrArg Value.bool (by simp[lh,ha]),G⟩
  ·refine⟨_,_,m3,dA ⟨3,q,r,0,0⟩ _ _,rfl,rfl,_,yc (c:=⟨3,q,r,0,0⟩) (hr.kz G.kz),?_⟩
   rintro _ w4 ⟨rfl,g4⟩;exact⟨congrArg Value.bool (by simp[lh,ha,xZ]),G.trans g4⟩
 refine aj ah mixed Tryz.func212 rfl rfl ?_;refine λw1 b1 m1 g1 l1=>⟨_,_,m1,_,rfl,?_⟩
 refine au (λe=>absurd (by simpa using e) k0) (λ_=>?_);refine au (λe=>absurd (by simpa using e) k1) (λ_=>?_);refine au (λe=>absurd (by simpa using e) k2) (λ_=>?_);refine au (λe=>absurd (by simpa using e) k3) (λ_=>?_);exact⟨congrArg Value.bool (by simp[lh,k0,k1,k2,k3]),g1⟩
end
def nI(l:List MV):Bool:=jP (λv:MV=>lh v.c) (λy x=>decide (y.slot<x.slot)) l
def Ba(p:aB):Bool:=p.c == 0 && (p.s == 0 && (p.key == 0 && (p.k == 0 && (p.found == false && (p.v == 0 && p.g == 0)))))
def Bb(b:bF):Bool:=(b.n:Int) == 0 && (b.id:Int) == 0
def nJ(m:MM):Bool:=oV m.q && (Ba m.p && (Bb m.b && ((m.s:Int) == 0 && (m.c.kind == 0 && (xZ m.c && ((m.vs.length:Int) == 0 && (tO m.r && (m.peer == 0 && m.seq == 0))))))))
def fu(m:MM):Bool:=if m.kind=1 then kJ m.q && nJ { m with q:=qN }else if m.kind=2 then uy m.p && nJ { m with p:=tJ }else if m.kind=3 then nJ { m with b:=⟨0,0⟩ }else if m.kind=5 then nJ { m with b:=⟨0,0⟩ }else if m.kind=4 then nI m.vs && nJ { m with b:=⟨0,0⟩,vs:=[] }else if m.kind=6 then lh m.c && nJ { m with b:=⟨0,0⟩,s:=0,c:=nD }else if m.kind=7 then nJ { m with b:=⟨0,0⟩,s:=0 }else if m.kind=8 then lh m.c && nJ { m with s:=0,c:=nD }else if m.kind=9 then oU m.r && nJ { m with r:=qh }else if m.kind=10 then decide (m.peer<4) && nJ { m with peer:=0,seq:=0 }else false
theorem MX{l:List MV}{ps:List (Value×Value)}{k:Nat}{x:MV}{p:Value×Value}(_hl:ps.length=l.length)(hx:l[k]? = some x)(hp:ps[k]? = some p){cs:List Value}{off:Nat}(hcut:aJ cs off (l.length*20)=(List.zipWith (λx p=>jL x p.1 p.2) l ps).flatten):aJ cs (off+k*20) 20=jL x p.1 p.2:=by
 have hk:=(List.getElem?_eq_some_iff.1 hx).1;have h0:(l.zip ps)[k]? = some (x,p):=by rw[List.getElem?_zip_eq_some];exact⟨hx,hp⟩
 have h1:=jB (f:=λx:MV×Value×Value=>jL x.1 x.2.1 x.2.2) (size:=20) (λ_=>rfl) (l.zip ps) k (x,p) h0;rw[List.flatMap_def,<-J2,<-hcut,uN _ _ _ _ _ (by omega)]at h1;exact h1
section
variable{w:World}
theorem Uv{l:List MV}{v:Value}(hv:bY w v l):ag Tryz.prog 211 #[v] w (λv w'=>v=.bool (nI l)/\GB none w w'):=by
 obtain⟨ps,hp,⟨a,c,rfl,hcap,hlen,hv⟩,hr⟩:=hv;refine aj ah mixed Tryz.func211 rfl rfl ?_;refine au (λd=>?_) (λd=>?_)
 ·exact⟨congrArg Value.bool (y9 (by simp at d;omega)).symm,GB.refl _ _⟩
 have yU:l.length<=255:=by simp at d;omega
 refine⟨λm s wk=>∃k:Nat,m=l.length - k/\k<=l.length/\s=[(0,.slice a l.length c),(8,.slice a l.length c),(9,.int .i64 l.length),(10,.int .i64 k)]/\GB none w wk/\(List.range k).all (wP (λv:MV=>lh v.c) (λy x=>decide (y.slot<x.slot)) l)=true,⟨_,_,⟨0,rfl,Nat.zero_le _,rfl,GB.refl _ _,rfl⟩,rfl,rfl,rfl,rfl,trivial⟩,?_⟩;rintro m s wk ⟨k,rfl,hk,rfl,gk,hall⟩;refine au (λd=>?_) (λd=>?_)
 ·have d1:k<l.length:=by have:=of_decide_eq_true d;omega
  obtain⟨x,hx⟩:∃x,l[k]? = some x:=⟨l[k],by simp[d1]⟩;obtain⟨⟨p1,p2⟩,hpk⟩:∃p,ps[k]? = some p:=⟨ps[k]'(by omega),by simp[show k<ps.length by omega]⟩;have hrx:=hr k x _ hx hpk;obtain⟨x1,x2,x3,x4,x5,x6,q1,q2⟩:=hrx.sl;dsimp only at q1 q2 hrx;subst q1 q2;rcases hv with⟨_,h0⟩|⟨b,off,cs,rfl,hb,hcut⟩
  ·omega
  have hb1:=gk.get hb nofun;refine⟨⟨by omega,by omega⟩,_,_,hb1,jL x (.slice x1 x2 x3) (.slice x4 x5 x6),by show aJ cs.toList (off+(k:Int).toNat*20) 20=_;rw[Int.toNat_natCast];exact MX hp hx hpk hcut,rfl,λw2 b2 m2 g2 l2=>⟨_,_,_,m2,rfl,rfl,λw3 m3 g3=>?_⟩⟩;have G:=gk.trans (g2.new g3 l2);have hb3:=G.get hb nofun;have last:(∀j y,k=j+1->l[j]? = some y->decide (y.slot<x.slot)=true)->∃Post,ag Tryz.prog 212 #[.agg (dA x.c (.slice x1 x2 x3) (.slice x4 x5 x6)).toArray] w3 Post/\∀v w4,Post v w4->∃z,v=.bool z/\GB none w3 w4/\(z=false->nI l=false)/\(z=true->(List.range (k+1)).all (wP (λv:MV=>lh v.c) (λy x=>decide (y.slot<x.slot)) l)=true):=λhlt=>⟨_,zb (c:=x.c) (hrx.kz G.kz),by
   rintro _ w4 ⟨rfl,g4⟩;exact⟨_,rfl,g4,λhz=>xY hx hz,λhz=>u7 hall (vL hx hz hlt)⟩⟩
  refine⟨by kernel_rfl,au (λe=>?_) (λe=>?_)⟩
  ·have e1:0<k:=by simp at e;omega
   obtain⟨j,rfl⟩:∃j,k=j+1:=⟨k - 1,by omega⟩;obtain⟨y,hy⟩:∃y,l[j]? = some y:=⟨l[j]'(by omega),by simp[show j<l.length by omega]⟩;obtain⟨p',hpj⟩:∃p,ps[j]? = some p:=⟨ps[j]'(by omega),by simp[show j<ps.length by omega]⟩;have ej:(((j+1:Nat):Int) - 1).toNat=j:=by omega
   refine⟨_,_,m3,_,rfl,⟨by omega,by omega⟩,⟨by omega,by omega⟩,_,_,hb3,.int .u32 y.slot,by show cs.toList[off+(((j+1:Nat):Int) - 1).toNat*20+0]? = _;rw[ej];exact iF (MX hp hy hpj hcut) rfl (by decide),?_⟩;refine au (λq=>?_) (λq=>?_)
   ·exact⟨congrArg Value.bool (DF hx hy (by simp at q;simp;omega)).symm,G⟩
   ·obtain⟨Post,h1,h2⟩:=last λi y' ei hy'=>by cases ei;rw[hy]at hy';cases hy';simp at q;simp;omega
    refine⟨_,_,m3,dA x.c (.slice x1 x2 x3) (.slice x4 x5 x6),rfl,rfl,_,h1,λv w4 hv=>?_⟩;obtain⟨z,rfl,g4,z1,z2⟩:=h2 v w4 hv;cases z
    ·exact⟨congrArg Value.bool (z1 rfl).symm,G.trans g4⟩
    ·exact⟨⟨by omega,by omega⟩,_,_,⟨j+2,rfl,by omega,rfl,G.trans g4,z2 rfl⟩,⟨rfl,rfl,rfl,rfl,trivial⟩,by omega⟩
  ·have e1:k=0:=by simp at e;omega
   subst e1;obtain⟨Post,h1,h2⟩:=last λj y e _=>absurd e (Nat.succ_ne_zero j).symm
   refine⟨_,_,m3,dA x.c (.slice x1 x2 x3) (.slice x4 x5 x6),rfl,rfl,_,h1,λv w4 hv=>?_⟩;obtain⟨z,rfl,g4,z1,z2⟩:=h2 v w4 hv;cases z
   ·exact⟨congrArg Value.bool (z1 rfl).symm,G.trans g4⟩
   ·exact⟨⟨by omega,by omega⟩,_,_,⟨1,rfl,by omega,rfl,G.trans g4,z2 rfl⟩,⟨rfl,rfl,rfl,rfl,trivial⟩,by omega⟩
 ·have d1:k=l.length:=by have:=of_decide_eq_false d;omega
  subst d1;exact⟨congrArg Value.bool (by unfold nI jP;rw[hall];simp[yU]),gk⟩
variable{m:MM}{rv dv vv rv' eO:Value}
theorem gP(hc:aL w m.c.r rv dv)(hv:bY w vv m.vs)(hr:aL w m.r rv' eO):ag Tryz.prog 213 #[.agg (dS m rv dv vv rv' eO).toArray] w (λv w'=>v=.bool (nJ m)/\GB none w w'):=by
 obtain⟨_,_,_,_,_,_,rfl,rfl⟩:=hc.sl;obtain⟨_,_,_,_,_,_,rfl,rfl⟩:=hr.sl;obtain⟨_,_,rfl⟩:=hv.sl;refine aj ah mixed Tryz.func213 rfl rfl ?_;refine λw1 b1 m1 g1 l1=>?_
 have hc1:=hc.kz g1.kz;have hr1:=hr.kz g1.kz;refine⟨_,_,m1,m.q.cells,rfl,rfl,?_⟩;refine au (λc0=>?_) (λc0=>?_)
 ·refine⟨_,_,m1,m.p.cells,rfl,rfl,?_⟩
  refine au (λc1=>?_) (λc1=>?_)
  ·refine⟨_,_,m1,[.int .u32 m.b.n,.int .u8 m.b.id],rfl,rfl,?_⟩
   refine au (λc2=>?_) (λc2=>?_)
   ·refine⟨_,_,m1,_,rfl,?_⟩
    refine au (λc3=>?_) (λc3=>?_)
    ·refine⟨_,_,m1,_,rfl,?_⟩
     refine au (λc4=>?_) (λc4=>?_)
     ·refine⟨_,_,m1,dA m.c _ _,rfl,rfl,_,yc (c:=m.c) hc1,?_⟩
      rintro _ w2 ⟨rfl,g2⟩;have m2:=g2.get m1 nofun;have g12:=g1.trans g2;refine au (λc5=>?_) (λc5=>?_)
      ·refine⟨_,_,m2,_,rfl,?_⟩
       refine au (λc6=>?_) (λc6=>?_)
       ·refine⟨_,_,m2,dP m.r _ _,rfl,rfl,_,EX (r:=m.r) (hr1.kz g2.kz),?_⟩
        rintro _ w3 ⟨rfl,g3⟩;have m3:=g3.get m2 nofun;have g13:=g12.trans g3;refine au (λc7=>?_) (λc7=>?_)
        ·refine⟨_,_,m3,_,rfl,?_⟩
         refine au (λc8=>?_) (λc8=>?_)
         ·refine⟨_,_,m3,_,rfl,?_⟩
          exact⟨congrArg Value.bool (by grind [nJ,oV,Ba,Bb]),g13⟩
         ·exact⟨congrArg Value.bool (by grind [nJ,oV,Ba,Bb]),g13⟩
        ·exact⟨congrArg Value.bool (by grind [nJ,oV,Ba,Bb]),g13⟩
       ·exact⟨congrArg Value.bool (by grind [nJ,oV,Ba,Bb]),g12⟩
      ·exact⟨congrArg Value.bool (by grind [nJ,oV,Ba,Bb]),g12⟩
     ·exact⟨congrArg Value.bool (by grind [nJ,oV,Ba,Bb]),g1⟩
    ·exact⟨congrArg Value.bool (by grind [nJ,oV,Ba,Bb]),g1⟩
   ·exact⟨congrArg Value.bool (by grind [nJ,oV,Ba,Bb]),g1⟩
  ·exact⟨congrArg Value.bool (by grind [nJ,oV,Ba,Bb]),g1⟩
 ·exact⟨congrArg Value.bool (by grind [nJ,oV,Ba,Bb]),g1⟩
end
def fZ(a b:Int):Int:=if a<b then -1 else if b<a then 1 else 0
def MZ(a b:Int):Int:=if a=0 then b else a
def jh(a b:aB):Int:=MZ (fZ a.key b.key) (fZ a.c b.c)
def dU{α:Type}(f:α->Int)(l:List α):Nat:=l.countP (λx=>decide (f x<0))
def nK{α:Type}(f:α->Int)(l:List α):Bool:=match l[dU f l]? with|some x=>f x == 0|none=>false
theorem uO{a b:Int}:fZ a b<0↔a<b:=by
 unfold fZ;split
 ·simp;omega
 ·split<;>omega
theorem mG{a b:Int}:fZ a b=0↔a=b:=by
 unfold fZ;split
 ·simp;omega
 ·split<;>omega
theorem BU{a b:aB}:jh a b<0↔a.key<b.key\/a.key=b.key/\a.c<b.c:=by
 unfold jh MZ;split
 ·rename_i h
  rw[mG]at h;rw[uO];omega
 ·rename_i h
  rw[mG]at h;rw[uO];omega
theorem XM{a b:aB}:jh a b=0↔a.key=b.key/\a.c=b.c:=by
 unfold jh MZ;split
 ·rename_i h
  rw[mG]at h;rw[mG];omega
 ·rename_i h
  rw[mG]at h;rw[mG];omega
def Bc{α:Type}(f:α->Int)(l:List α):Prop:=∀(i j:Nat) (x y:α),i<=j->l[i]? = some x->l[j]? = some y->f y<0->f x<0
def gJ(T:List Row):Prop:=T.Pairwise (λa b=>a.key<b.key)
def iN(D:List aB):Prop:=D.Pairwise (λa b=>a.key<b.key\/a.key=b.key/\a.c<b.c)
theorem BV{α:Type}{R:α->α->Prop}{l:List α}(h:l.Pairwise R){i j:Nat}{x y:α}(hij:i<j)(hx:l[i]? = some x)(hy:l[j]? = some y):R x y:=by
 obtain⟨hi,rfl⟩:=List.getElem?_eq_some_iff.1 hx;obtain⟨hj,rfl⟩:=List.getElem?_eq_some_iff.1 hy;exact List.pairwise_iff_getElem.1 h i j hi hj hij
theorem VT{T:List Row}(h:gJ T)(key:Int):Bc (λx:Row=>fZ x.key key) T:=by
 intro i j x y hij hx hy hl;rcases Nat.lt_or_eq_of_le hij with h1|rfl
 ·have:=BV h h1 hx hy
  rw[uO]at hl |-;omega
 ·rw[hx]at hy;cases hy;exact hl
theorem VU{D:List aB}(h:iN D)(q:aB):Bc (λx:aB=>jh x q) D:=by
 intro i j x y hij hx hy hl;rcases Nat.lt_or_eq_of_le hij with h1|rfl
 ·have:=BV h h1 hx hy
  rw[BU]at hl |-;omega
 ·rw[hx]at hy;cases hy;exact hl
theorem BX{α:Type}(f:α->Int)(l:List α):dU f l<=l.length:=List.countP_le_length
theorem tQ{α:Type}(f:α->Int):∀(l:List α),Bc f l->(∀(t:Nat) (x:α),t<dU f l->l[t]? = some x->f x<0)/\(∀(t:Nat) (x:α),dU f l<=t->l[t]? = some x->0<=f x)
 | [],_=>⟨λt x _ h=>by simp at h,λt x _ h=>by simp at h⟩
 |a::r,h=>by
  have hr:Bc f r:=λi j x y hij hx hy=>h (i+1) (j+1) x y (by omega) (by simpa using hx) (by simpa using hy)
  obtain⟨h1,h2⟩:=tQ f r hr;by_cases ha:f a<0
  ·have hp:dU f (a::r)=dU f r+1:=by unfold dU;rw[List.countP_cons_of_pos (by simp[ha])]
   rw[hp];refine⟨λt x ht hx=>?_,λt x ht hx=>?_⟩
   ·cases t with
    |zero=>simp at hx;subst hx;exact ha
    |succ t=>exact h1 t x (by omega) (by simpa using hx)
   ·cases t with
    |zero=>omega
    |succ t=>exact h2 t x (by omega) (by simpa using hx)
  ·have hz:dU f r=0:=by
    unfold dU;rw[List.countP_eq_zero];intro x hx;obtain⟨t,ht,rfl⟩:=List.getElem_of_mem hx;intro hc;exact ha (h 0 (t+1) a r[t] (Nat.zero_le _) rfl (by simp[ht]) (by simpa using hc))
   have hp:dU f (a::r)=0:=by
    unfold dU at hz |-;rw[List.countP_cons_of_neg (by simp[ha]),hz]
   rw[hp];refine⟨λt x ht _=>by omega,λt x ht hx=>?_⟩;cases t with
   |zero=>simp at hx;subst hx;exact Int.not_lt.1 ha
   |succ t=>exact h2 t x (by omega) (by simpa using hx)
def kE{α:Type}(l:List α)(i:Nat)(x:α):List α:=l.take i++(x::l.drop i)
abbrev tT(T:List Row)(key:Int):Nat:=dU (λx:Row=>fZ x.key key) T
abbrev kU(T:List Row)(key:Int):Bool:=nK (λx:Row=>fZ x.key key) T
abbrev zM(D:List aB)(q:aB):Nat:=dU (λx:aB=>jh x q) D
abbrev Ka(D:List aB)(q:aB):Bool:=nK (λx:aB=>jh x q) D
def rV(T:List Row)(key:Int):Int:=if kU T key then((T[tT T key]?).map Row.val).getD 0 else 0
def rW(T:List Row)(key:Int):Int:=if kU T key then 2 else if 8<=T.length then 5 else 2
def oD(T:List Row)(key v:Int):List Row:=if kU T key then T.set (tT T key) ⟨key,v⟩else if 8<=T.length then T else kE T (tT T key) ⟨key,v⟩
def xu(T:List Row)(key:Int):List Row:=if kU T key then T.eraseIdx (tT T key)else T
def ji(D:List aB)(q:aB):List aB:=if Ka D q then D.set (zM D q) q else kE D (zM D q) q
def CK(lo hi:Int)(p:Pc):Bool:=decide (lo<p.f) && decide (p.f<=hi)
def Kb(m:List Pc)(g lo hi:Int):Int:=if own 0 m lo≠g then own 0 m lo else((m.find? (CK lo hi)).map Pc.g).getD 0
def OY(m:List Pc)(g lo hi:Int):Bool:=if own 0 m lo≠g then true else(m.find? (CK lo hi)).isSome
def sB{α:Type}(f:α->Int)(lo:Int)(l:List α):List α:=l.filter λx=>decide (f x<lo)
def sA{α:Type}(f:α->Int)(lo hi:Int)(l:List α):List α:=l.filter λx=>!decide (f x<lo) && decide (hi<f x)
def sW{α:Type}(f:α->Int)(lo hi:Int)(l:List α):List α:=l.filter λx=>!decide (f x<lo) && !decide (hi<f x)
def ze(T:List Row)(lo hi:Int):List Row:=sB (λx:Row=>x.key) lo T++sA (λx:Row=>x.key) lo hi T
def zf(D:List aB)(lo hi:Int):List aB:=sB (λx:aB=>x.key) lo D++sA (λx:aB=>x.key) lo hi D
def Be(g j next lo hi:Int)(T:List Row)(D:List aB):Rg:=⟨g,j,next,lo,hi,sW (λx:Row=>x.key) lo hi T,sW (λx:aB=>x.key) lo hi D⟩
def bJ(O:List (Int×List Rg))(k:Int):Int×List Rg:=(O[k.toNat]?).getD (0,[])
def gT(s:St)(q:bQ):Bool:=!(q.to == s.g) && decide (q.to<s.n) && decide ((bJ s.O q.to).2.length<4) && decide ((iL s.M q.key q.hi q.to).length<=8)
def lT(q:bQ):aB:=⟨q.c,q.s,q.key,0,false,0,0⟩
def kV(s:St)(q:bQ):aB :=
 if q.k=1 then⟨q.c,q.s,q.key,1,kU s.T q.key,rV s.T q.key,0⟩
 else if q.k=2 then⟨q.c,q.s,q.key,rW s.T q.key,false,0,0⟩
 else if q.k=3 then⟨q.c,q.s,q.key,2,false,0,0⟩
 else if gT s q then⟨q.c,q.s,q.key,2,false,0,0⟩else⟨q.c,q.s,q.key,5,false,0,0⟩
def Z5(s:St)(q:bQ)(D1:List aB):St:={ s with T:=ze s.T q.key q.hi,M:=iL s.M q.key q.hi q.to,D:=zf D1 q.key q.hi,O:=s.O.set q.to.toNat (IntKind.u32.wrap ((bJ s.O q.to).1+1),(bJ s.O q.to).2++[Be s.g q.to (bJ s.O q.to).1 q.key q.hi s.T D1]) }
def oW(s:St)(q:bQ):St :=
 if q.k=2 then{ s with T:=oD s.T q.key q.v,D:=ji s.D (kV s q) }
 else if q.k=3 then{ s with T:=xu s.T q.key,D:=ji s.D (kV s q) }
 else if q.k=4/\gT s q=true then Z5 s q (ji s.D (kV s q))
 else{ s with D:=ji s.D (kV s q) }
def zg(g n:Int)(I:List Int)(r:Rg):Bool:=r.dst == g && !(r.src == g) && decide (r.src<n) && r.seq == IntKind.u32.wrap (((I[r.src.toNat]?).getD 0)+1)
def xw(s:St)(r:Rg):St :=
 if oU r=true/\zg s.g s.n s.I r=true/\(iL s.M r.lo r.hi s.g).length<=1000 then
  { s with T:=sB (λx:Row=>x.key) r.lo s.T++(r.rows++sA (λx:Row=>x.key) r.lo r.hi s.T),M:=iL s.M r.lo r.hi s.g,D:=sB (λx:aB=>x.key) r.lo s.D++(r.aW++sA (λx:aB=>x.key) r.lo r.hi s.D),I:=s.I.set r.src.toNat r.seq }
 else s
def keepR(sq:Int)(q:List Rg):List Rg:=q.filter λr=>!decide (r.seq<=sq)
def vN(s:St)(peer sq:Int):St:=if peer<s.n then{ s with O:=s.O.set peer.toNat ((bJ s.O peer).1,keepR sq (bJ s.O peer).2) }else s
def M0(q:bQ):Int:=if q.key<q.hi then q.hi else q.key
def ug(s:St)(q:bQ):St×aB :=
 if kJ q=false then(s,tJ)
 else if OY s.M s.g q.key (M0 q)=true then(s,⟨q.c,q.s,q.key,3,false,0,Kb s.M s.g q.key (M0 q)⟩)
 else if Ka s.D (lT q)=true then
  match s.D[zM s.D (lT q)]? with
  |some x=>if x.s<q.s then(oW s q,kV s q)else if x.s=q.s then(s,x)else(s,⟨q.c,q.s,q.key,4,false,0,0⟩)
  |none=>(s,tJ)
 else(oW s q,kV s q)
def oF(s:St)(c:MC):St×aB :=
 if c.kind=1 then ug s c.q else if c.kind=2 then(xw s c.r,tJ)else if c.kind=3 then(vN s c.peer c.seq,tJ)else(s,tJ)
def Kc(g n:Nat):St:=⟨g,n,[],[⟨0,0⟩],[],List.replicate n (1,[]),List.replicate n 0⟩
end
