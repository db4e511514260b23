/- Lemmas. -/
import Derived.Test.YtignemioillaiaaGreatG29
namespace Go.Proofs.YtignemioillaiaaGreat
set_option maxHeartbeats 8000000
set_option maxRecDepth 100000
open List
section
open Go Go.Conc
def oO(r:Rg):Bool:=decide (r.src<4) && (decide (r.dst<4) && (decide (1<=r.seq) && (decide (r.lo<=r.hi) && (Cs r && zB r))))
def uq(r:Rg):Bool:=r.src == 0 && (r.dst == 0 && (r.seq == 0 && (r.lo == 0 && (r.hi == 0 && (r.rows.length == 0 && r.aZ.length == 0)))))
def pO(q:bQ):Bool:=q.c == 0 && (q.s == 0 && (q.k == 0 && (q.key == 0 && (q.v == 0 && (q.hi == 0 && q.to == 0)))))
def yE(c:MC):Bool:=pO c.q && (uq c.r && (c.peer == 0 && c.seq == 0))
def lV(c:MC):Bool:=if c.kind=0 then yE c else if c.kind=1 then jN c.q && (uq c.r && (c.peer == 0 && c.seq == 0))else if c.kind=2 then oO c.r && (pO c.q && (c.peer == 0 && c.seq == 0))else if c.kind=3 then decide (c.peer<4) && (pO c.q && uq c.r)else false
section
variable{w:World}{r:Rg}{rv dv:Value}
theorem Ef(hr:aM w r rv dv):ag Tryz.prog 86 #[.agg (eu r rv dv).toArray] w (λv w'=>v=.bool (oO r)/\GB none w w'):=by
 obtain⟨_,_,_,_,_,_,rfl,rfl⟩:=hr.sl;refine ah Tryz.func86 rfl rfl ?_;refine λw1 b1 m1 g1 l1=>?_
 have hr1:=hr.kz g1.kz;refine⟨_,_,m1,_,rfl,_,qm _ _,?_⟩;rintro _ w1 ⟨rfl,rfl⟩;refine aj (λc0=>?_) (λc0=>?_)
 ·refine⟨_,_,m1,_,rfl,_,qm _ _,?_⟩
  rintro _ w1 ⟨rfl,rfl⟩;refine aj (λc1=>?_) (λc1=>?_)
  ·refine⟨_,_,m1,_,rfl,?_⟩
   refine aj (λc2=>?_) (λc2=>?_)
   ·refine⟨_,_,m1,_,rfl,?_⟩
    refine⟨_,_,m1,_,rfl,?_⟩;refine aj (λc3=>?_) (λc3=>?_)
    ·refine⟨_,_,m1,eu r _ _,rfl,rfl,_,rows_ok hr1,?_⟩
     rintro _ w2 ⟨rfl,g2⟩;have g12:=g1.trans g2;refine aj (λc4=>?_) (λc4=>?_)
     ·refine⟨_,_,g2.get m1 nofun,eu r _ _,rfl,rfl,_,Ym (hr1.kz g2.kz),?_⟩
      rintro _ w3 ⟨rfl,g3⟩;exact⟨congrArg Value.bool (by grind [oO]),g12.trans g3⟩
     ·exact⟨congrArg Value.bool (by grind [oO]),g12⟩
    ·exact⟨congrArg Value.bool (by grind [oO]),g1⟩
   ·exact⟨congrArg Value.bool (by grind [oO]),g1⟩
  ·exact⟨congrArg Value.bool (by grind [oO]),g1⟩
 ·exact⟨congrArg Value.bool (by grind [oO]),g1⟩
theorem FC(hr:aM w r rv dv):ag Tryz.prog 233 #[.agg (eu r rv dv).toArray] w (λv w'=>v=.bool (uq r)/\GB none w w'):=by
 obtain⟨_,n1,_,_,n2,_,rfl,rfl⟩:=hr.sl;obtain⟨⟨_,_,e1,_⟩,_,_,e2,_⟩:=hr;obtain rfl:n1=r.rows.length:=by injection e1
 obtain rfl:n2=r.aZ.length:=by injection e2
 refine ah Tryz.func233 rfl rfl ?_;refine λw1 b1 m1 g1 l1=>?_
 refine⟨_,_,m1,_,rfl,?_⟩;refine aj (λc0=>?_) (λc0=>?_)
 ·refine⟨_,_,m1,_,rfl,?_⟩
  refine aj (λc1=>?_) (λc1=>?_)
  ·refine⟨_,_,m1,_,rfl,?_⟩
   refine aj (λc2=>?_) (λc2=>?_)
   ·refine⟨_,_,m1,_,rfl,?_⟩
    refine aj (λc3=>?_) (λc3=>?_)
    ·refine⟨_,_,m1,_,rfl,?_⟩
     refine aj (λc4=>?_) (λc4=>?_)
     ·refine⟨_,_,m1,_,rfl,?_⟩
      refine aj (λc5=>?_) (λc5=>?_)
      ·refine⟨_,_,m1,_,rfl,?_⟩
       exact⟨congrArg Value.bool (by grind [uq]),g1⟩
      ·exact⟨congrArg Value.bool (by grind [uq]),g1⟩
     ·exact⟨congrArg Value.bool (by grind [uq]),g1⟩
    ·exact⟨congrArg Value.bool (by grind [uq]),g1⟩
   ·exact⟨congrArg Value.bool (by grind [uq]),g1⟩
  ·exact⟨congrArg Value.bool (by grind [uq]),g1⟩
 ·exact⟨congrArg Value.bool (by grind [uq]),g1⟩
end
section
variable{w:World}{c:MC}{rv dv:Value}
theorem yF(hr:aM w c.r rv dv):ag Tryz.prog 232 #[.agg (dC c rv dv).toArray] w (λv w'=>v=.bool (yE c)/\GB none w w'):=by
 obtain⟨_,_,_,_,_,_,rfl,rfl⟩:=hr.sl;refine ah Tryz.func232 rfl rfl ?_;refine λw1 b1 m1 g1 l1=>?_
 have hr1:=hr.kz g1.kz;refine⟨_,_,m1,c.q.cells,rfl,rfl,?_⟩;refine aj (λc0=>?_) (λc0=>?_)
 ·refine⟨_,_,m1,eu c.r _ _,rfl,rfl,_,FC hr1,?_⟩
  rintro _ w2 ⟨rfl,g2⟩;have g12:=g1.trans g2;have m2:=g2.get m1 nofun;refine aj (λc1=>?_) (λc1=>?_)
  ·refine⟨_,_,m2,_,rfl,?_⟩
   refine aj (λc2=>?_) (λc2=>?_)
   ·refine⟨_,_,m2,_,rfl,?_⟩
    exact⟨congrArg Value.bool (by grind [yE,pO]),g12⟩
   ·exact⟨congrArg Value.bool (by grind [yE,pO]),g12⟩
  ·exact⟨congrArg Value.bool (by grind [yE,pO]),g12⟩
 ·exact⟨congrArg Value.bool (by grind [yE,pO]),g1⟩
theorem zC(hr:aM w c.r rv dv):ag Tryz.prog 212 #[.agg (dC c rv dv).toArray] w (λv w'=>v=.bool (lV c)/\GB none w w'):=by
 obtain⟨_,_,_,_,_,_,rfl,rfl⟩:=hr.sl;obtain⟨k,q,r,peer,seq⟩:=c;dsimp only at hr;by_cases k0:k=0
 ·subst k0
  refine ah Tryz.func212 rfl rfl ?_;refine λw1 b1 m1 g1 l1=>⟨_,_,m1,_,rfl,_,_,m1,dC ⟨0,q,r,peer,seq⟩ _ _,rfl,rfl,_,yF (hr.kz g1.kz),?_⟩
  rintro _ w2 ⟨rfl,g2⟩;exact⟨congrArg Value.bool (by simp[lV]),g1.trans g2⟩
 by_cases k1:k=1
 ·subst k1
  refine ah Tryz.func212 rfl rfl ?_;refine λw1 b1 m1 g1 l1=>⟨_,_,m1,_,rfl,_,_,m1,q.cells,rfl,rfl,_,zz w1 q,?_⟩
  rintro _ w2 ⟨rfl,g2⟩;refine⟨_,_,_,g2.get m1 nofun,rfl,rfl,λw3 m3 g3=>?_⟩;have G:=(g1.trans g2).new g3 l1;obtain⟨a,ha⟩:∃a,jN q=a:=⟨_,rfl⟩;rw[ha];cases a
  ·exact⟨congrArg Value.bool (by simp[lV,ha]),G⟩
  ·refine⟨_,_,m3,dC ⟨1,rf,r,peer,seq⟩ _ _,rfl,rfl,_,yF (c:=⟨1,rf,r,peer,seq⟩) (hr.kz G.kz),?_⟩
   rintro _ w4 ⟨rfl,g4⟩;exact⟨congrArg Value.bool (by simp[lV,ha,yE,pO,rf]),G.trans g4⟩
 by_cases k2:k=2
 ·subst k2
  refine ah Tryz.func212 rfl rfl ?_;refine λw1 b1 m1 g1 l1=>⟨_,_,m1,_,rfl,_,_,m1,eu r _ _,rfl,rfl,_,Ef (hr.kz g1.kz),?_⟩
  rintro _ w2 ⟨rfl,g2⟩;refine⟨_,_,_,g2.get m1 nofun,rfl,rfl,λw3 m3 g3=>?_⟩;have G:=(g1.trans g2).new g3 l1;obtain⟨a,ha⟩:∃a,oO r=a:=⟨_,rfl⟩;rw[ha];cases a
  ·exact⟨congrArg Value.bool (by simp[lV,ha]),G⟩
  ·refine⟨_,_,m3,dC ⟨2,q,qF,peer,seq⟩ Ptz Ptz,rfl,rfl,_,yF (c:=⟨2,q,qF,peer,seq⟩) (aM.zero w3),?_⟩
   rintro _ w4 ⟨rfl,g4⟩;exact⟨congrArg Value.bool (by simp[lV,ha,yE,uq,qF]),G.trans g4⟩
 by_cases k3:k=3
 ·subst k3
  refine ah Tryz.func212 rfl rfl ?_;refine λw1 b1 m1 g1 l1=>⟨_,_,m1,_,rfl,_,_,m1,_,rfl,_,qm w1 _,?_⟩
  rintro _ w1 ⟨rfl,rfl⟩;refine⟨_,_,_,m1,rfl,rfl,λw2 m2 g2=>⟨_,_,_,m2,rfl,rfl,λw3 m3 g3=>?_⟩⟩;have G:=(g1.new g2 l1).new g3 l1;obtain⟨a,ha⟩:∃a,decide (peer<4)=a:=⟨_,rfl⟩;rw[ha];cases a
  ·exact⟨congrArg Value.bool (by simp[lV,ha]),G⟩
  ·refine⟨_,_,m3,dC ⟨3,q,r,0,0⟩ _ _,rfl,rfl,_,yF (c:=⟨3,q,r,0,0⟩) (hr.kz G.kz),?_⟩
   rintro _ w4 ⟨rfl,g4⟩;exact⟨congrArg Value.bool (by simp[lV,ha,yE]),G.trans g4⟩
 refine ah Tryz.func212 rfl rfl ?_;refine λw1 b1 m1 g1 l1=>⟨_,_,m1,_,rfl,?_⟩
 refine aj (λe=>absurd (by simpa using e) k0) (λ_=>?_);refine aj (λe=>absurd (by simpa using e) k1) (λ_=>?_);refine aj (λe=>absurd (by simpa using e) k2) (λ_=>?_);refine aj (λe=>absurd (by simpa using e) k3) (λ_=>?_);exact⟨congrArg Value.bool (by simp[lV,k0,k1,k2,k3]),g1⟩
end
def nU(l:List MV):Bool:=j5 (λv:MV=>lV v.c) (λy x=>decide (y.slot<x.slot)) l
def Bt(p:aA):Bool:=p.c == 0 && (p.s == 0 && (p.key == 0 && (p.k == 0 && (p.found == false && (p.v == 0 && p.g == 0)))))
def Bu(b:bF):Bool:=(b.n:Int) == 0 && (b.id:Int) == 0
def nV(m:MM):Bool:=pO m.q && (Bt m.p && (Bu m.b && ((m.s:Int) == 0 && (m.c.kind == 0 && (yE m.c && ((m.vs.length:Int) == 0 && (uq m.r && (m.peer == 0 && m.seq == 0))))))))
def fF(m:MM):Bool:=if m.kind=1 then jN m.q && nV { m with q:=rf }else if m.kind=2 then uQ m.p && nV { m with p:=uk }else if m.kind=3 then nV { m with b:=⟨0,0⟩ }else if m.kind=5 then nV { m with b:=⟨0,0⟩ }else if m.kind=4 then nU m.vs && nV { m with b:=⟨0,0⟩,vs:=[] }else if m.kind=6 then lV m.c && nV { m with b:=⟨0,0⟩,s:=0,c:=nP }else if m.kind=7 then nV { m with b:=⟨0,0⟩,s:=0 }else if m.kind=8 then lV m.c && nV { m with s:=0,c:=nP }else if m.kind=9 then oO m.r && nV { m with r:=qF }else if m.kind=10 then decide (m.peer<4) && nV { m with peer:=0,seq:=0 }else false
theorem NB{l:List MV}{ps:List (Value×Value)}{k:Nat}{x:MV}{p:Value×Value}(_hl:ps.length=l.length)(hx:l[k]? = some x)(hp:ps[k]? = some p){cs:List Value}{off:Nat}(hcut:aK cs off (l.length*20)=(zipWith (λx p=>jU x p.1 p.2) l ps).flatten):aK cs (off+k*20) 20=jU x p.1 p.2:=by
 have hk:=(List.getElem?_eq_some_iff.1 hx).1;have h0:(l.zip ps)[k]? = some (x,p):=by rw[getElem?_zip_eq_some];exact⟨hx,hp⟩
 have h1:=jZ (f:=λx:MV×Value×Value=>jU x.1 x.2.1 x.2.2) (size:=20) (λ_=>rfl) (l.zip ps) k (x,p) h0;rw[flatMap_def,<-Ku,<-hcut,vg _ _ _ _ _ (by omega)]at h1;exact h1
section
variable{w:World}
theorem U3{l:List MV}{v:Value}(hv:bY w v l):ag Tryz.prog 211 #[v] w (λv w'=>v=.bool (nU l)/\GB none w w'):=by
 obtain⟨ps,hp,⟨a,c,rfl,hcap,hlen,hv⟩,hr⟩:=hv;refine ah Tryz.func211 rfl rfl ?_;refine aj (λd=>?_) (λd=>?_)
 ·exact⟨congrArg Value.bool (zA (by simp at d;omega)).symm,GB.refl _ _⟩
 have zt:l.length<=255:=by simp at d;omega
 refine⟨λm s wk=>∃k:Nat,m=l.length - k/\k<=l.length/\s=[(0,.slice a l.length c),(8,.slice a l.length c),(9,.int .i64 l.length),(10,.int .i64 k)]/\GB none w wk/\(List.range k).all (xn (λv:MV=>lV v.c) (λy x=>decide (y.slot<x.slot)) l)=true,⟨_,_,⟨0,rfl,Nat.zero_le _,rfl,GB.refl _ _,rfl⟩,rfl,rfl,rfl,rfl,trivial⟩,?_⟩;rintro m s wk ⟨k,rfl,hk,rfl,gk,hall⟩;refine aj (λd=>?_) (λd=>?_)
 ·have d1:k<l.length:=by have:=Ptq d;omega
  obtain⟨x,hx⟩:∃x,l[k]? = some x:=⟨l[k],by simp[d1]⟩;obtain⟨⟨p1,p2⟩,hpk⟩:∃p,ps[k]? = some p:=⟨ps[k]'(by omega),by simp[show k<ps.length by omega]⟩;have hrx:=hr k x _ hx hpk;obtain⟨x1,x2,x3,x4,x5,x6,q1,q2⟩:=hrx.sl;dsimp only at q1 q2 hrx;subst q1 q2;rcases hv with⟨_,h0⟩|⟨b,off,cs,rfl,hb,hcut⟩
  ·omega
  have hb1:=gk.get hb nofun;refine⟨by omega,_,_,hb1,jU x (.slice x1 x2 x3) (.slice x4 x5 x6),by show aK cs.toList (off+(k:Int).toNat*20) 20=_;rw[Int.toNat_natCast];exact NB hp hx hpk hcut,rfl,λw2 b2 m2 g2 l2=>⟨_,_,_,m2,rfl,rfl,λw3 m3 g3=>?_⟩⟩;have G:=gk.trans (g2.new g3 l2);have hb3:=G.get hb nofun;have last:(∀j y,k=j+1->l[j]? = some y->decide (y.slot<x.slot)=true)->∃Post,ag Tryz.prog 212 #[.agg (dC x.c (.slice x1 x2 x3) (.slice x4 x5 x6)).toArray] w3 Post/\∀v w4,Post v w4->∃z,v=.bool z/\GB none w3 w4/\(z=false->nU l=false)/\(z=true->(List.range (k+1)).all (xn (λv:MV=>lV v.c) (λy x=>decide (y.slot<x.slot)) l)=true):=λhlt=>⟨_,zC (c:=x.c) (hrx.kz G.kz),by
   rintro _ w4 ⟨rfl,g4⟩;exact⟨_,rfl,g4,λhz=>yD hx hz,λhz=>vP hall (wB hx hz hlt)⟩⟩
  refine⟨by kernel_rfl,aj (λe=>?_) (λe=>?_)⟩
  ·have e1:0<k:=by simp at e;omega
   obtain⟨j,rfl⟩:∃j,k=j+1:=⟨k - 1,by omega⟩;obtain⟨y,hy⟩:∃y,l[j]? = some y:=⟨l[j]'(by omega),by simp[show j<l.length by omega]⟩;obtain⟨p',hpj⟩:∃p,ps[j]? = some p:=⟨ps[j]'(by omega),by simp[show j<ps.length by omega]⟩;have ej:(((j+1:Nat):Int) - 1).toNat=j:=by omega
   refine⟨_,_,m3,_,rfl,by omega,by omega,_,_,hb3,.int .u32 y.slot,by show cs.toList[off+(((j+1:Nat):Int) - 1).toNat*20+0]? = _;rw[ej];exact iM (NB hp hy hpj hcut) rfl (by decide),?_⟩;refine aj (λq=>?_) (λq=>?_)
   ·exact⟨congrArg Value.bool (Ee hx hy (by simp at q;simp;omega)).symm,G⟩
   ·obtain⟨Post,h1,h2⟩:=last λi y' ei hy'=>by cases ei;rw[hy]at hy';cases hy';simp at q;simp;omega
    refine⟨_,_,m3,dC x.c (.slice x1 x2 x3) (.slice x4 x5 x6),rfl,rfl,_,h1,λv w4 hv=>?_⟩;obtain⟨z,rfl,g4,z1,z2⟩:=h2 v w4 hv;cases z
    ·exact⟨congrArg Value.bool (z1 rfl).symm,G.trans g4⟩
    ·exact⟨by omega,_,_,⟨j+2,rfl,by omega,rfl,G.trans g4,z2 rfl⟩,⟨rfl,rfl,rfl,rfl,trivial⟩,by omega⟩
  ·have e1:k=0:=by simp at e;omega
   subst e1;obtain⟨Post,h1,h2⟩:=last λj y e _=>absurd e (Nat.succ_ne_zero j).symm
   refine⟨_,_,m3,dC x.c (.slice x1 x2 x3) (.slice x4 x5 x6),rfl,rfl,_,h1,λv w4 hv=>?_⟩;obtain⟨z,rfl,g4,z1,z2⟩:=h2 v w4 hv;cases z
   ·exact⟨congrArg Value.bool (z1 rfl).symm,G.trans g4⟩
   ·exact⟨by omega,_,_,⟨1,rfl,by omega,rfl,G.trans g4,z2 rfl⟩,⟨rfl,rfl,rfl,rfl,trivial⟩,by omega⟩
 ·have d1:k=l.length:=by have:=Ptx d;omega
  subst d1;exact⟨congrArg Value.bool (by unfold nU j5;rw[hall];simp[zt]),gk⟩
variable{m:MM}{rv dv vv rv' eU:Value}
theorem ig(hc:aM w m.c.r rv dv)(hv:bY w vv m.vs)(hr:aM w m.r rv' eU):ag Tryz.prog 213 #[.agg (dS m rv dv vv rv' eU).toArray] w (λv w'=>v=.bool (nV m)/\GB none w w'):=by
 obtain⟨_,_,_,_,_,_,rfl,rfl⟩:=hc.sl;obtain⟨_,_,_,_,_,_,rfl,rfl⟩:=hr.sl;obtain⟨_,_,rfl⟩:=hv.sl;refine ah Tryz.func213 rfl rfl ?_;refine λw1 b1 m1 g1 l1=>?_
 have hc1:=hc.kz g1.kz;have hr1:=hr.kz g1.kz;refine⟨_,_,m1,m.q.cells,rfl,rfl,?_⟩;refine aj (λc0=>?_) (λc0=>?_)
 ·refine⟨_,_,m1,m.p.cells,rfl,rfl,?_⟩
  refine aj (λc1=>?_) (λc1=>?_)
  ·refine⟨_,_,m1,[.int .u32 m.b.n,.int .u8 m.b.id],rfl,rfl,?_⟩
   refine aj (λc2=>?_) (λc2=>?_)
   ·refine⟨_,_,m1,_,rfl,?_⟩
    refine aj (λc3=>?_) (λc3=>?_)
    ·refine⟨_,_,m1,_,rfl,?_⟩
     refine aj (λc4=>?_) (λc4=>?_)
     ·refine⟨_,_,m1,dC m.c _ _,rfl,rfl,_,yF (c:=m.c) hc1,?_⟩
      rintro _ w2 ⟨rfl,g2⟩;have m2:=g2.get m1 nofun;have g12:=g1.trans g2;refine aj (λc5=>?_) (λc5=>?_)
      ·refine⟨_,_,m2,_,rfl,?_⟩
       refine aj (λc6=>?_) (λc6=>?_)
       ·refine⟨_,_,m2,eu m.r _ _,rfl,rfl,_,FC (r:=m.r) (hr1.kz g2.kz),?_⟩
        rintro _ w3 ⟨rfl,g3⟩;have m3:=g3.get m2 nofun;have g13:=g12.trans g3;refine aj (λc7=>?_) (λc7=>?_)
        ·refine⟨_,_,m3,_,rfl,?_⟩
         refine aj (λc8=>?_) (λc8=>?_)
         ·refine⟨_,_,m3,_,rfl,?_⟩
          exact⟨congrArg Value.bool (by grind [nV,pO,Bt,Bu]),g13⟩
         ·exact⟨congrArg Value.bool (by grind [nV,pO,Bt,Bu]),g13⟩
        ·exact⟨congrArg Value.bool (by grind [nV,pO,Bt,Bu]),g13⟩
       ·exact⟨congrArg Value.bool (by grind [nV,pO,Bt,Bu]),g12⟩
      ·exact⟨congrArg Value.bool (by grind [nV,pO,Bt,Bu]),g12⟩
     ·exact⟨congrArg Value.bool (by grind [nV,pO,Bt,Bu]),g1⟩
    ·exact⟨congrArg Value.bool (by grind [nV,pO,Bt,Bu]),g1⟩
   ·exact⟨congrArg Value.bool (by grind [nV,pO,Bt,Bu]),g1⟩
  ·exact⟨congrArg Value.bool (by grind [nV,pO,Bt,Bu]),g1⟩
 ·exact⟨congrArg Value.bool (by grind [nV,pO,Bt,Bu]),g1⟩
end
def gG(a b:Int):Int:=if a<b then -1 else if b<a then 1 else 0
def NC(a b:Int):Int:=if a=0 then b else a
def jv(a b:aA):Int:=NC (gG a.key b.key) (gG a.c b.c)
def dU{α:Type}(f:α->Int)(l:List α):Nat:=l.countP (λx=>decide (f x<0))
def nW{α:Type}(f:α->Int)(l:List α):Bool:=match l[dU f l]? with|some x=>f x == 0|none=>false
theorem vw{a b:Int}:gG a b<0↔a<b:=by
 unfold gG;split
 ·simp;omega
 ·split<;>omega
theorem mZ{a b:Int}:gG a b=0↔a=b:=by
 unfold gG;split
 ·simp;omega
 ·split<;>omega
theorem Ct{a b:aA}:jv a b<0↔a.key<b.key\/a.key=b.key/\a.c<b.c:=by
 unfold jv NC;split
 ·rename_i h
  rw[mZ]at h;rw[vw];omega
 ·rename_i h
  rw[mZ]at h;rw[vw];omega
theorem Yn{a b:aA}:jv a b=0↔a.key=b.key/\a.c=b.c:=by
 unfold jv NC;split
 ·rename_i h
  rw[mZ]at h;rw[mZ];omega
 ·rename_i h
  rw[mZ]at h;rw[mZ];omega
def Bw{α:Type}(f:α->Int)(l:List α):Prop:=∀(i j:Nat) (x y:α),i<=j->l[i]? = some x->l[j]? = some y->f y<0->f x<0
def gU(T:List Row):Prop:=T.Pairwise (λa b=>a.key<b.key)
def iU(D:List aA):Prop:=D.Pairwise (λa b=>a.key<b.key\/a.key=b.key/\a.c<b.c)
theorem Cu{α:Type}{R:α->α->Prop}{l:List α}(h:l.Pairwise R){i j:Nat}{x y:α}(hij:i<j)(hx:l[i]? = some x)(hy:l[j]? = some y):R x y:=by
 obtain⟨hi,rfl⟩:=List.getElem?_eq_some_iff.1 hx;obtain⟨hj,rfl⟩:=List.getElem?_eq_some_iff.1 hy;exact pairwise_iff_getElem.1 h i j hi hj hij
theorem WA{T:List Row}(h:gU T)(key:Int):Bw (λx:Row=>gG x.key key) T:=by
 intro i j x y hij hx hy hl;rcases Nat.lt_or_eq_of_le hij with h1|rfl
 ·have:=Cu h h1 hx hy
  rw[vw]at hl |-;omega
 ·rw[hx]at hy;cases hy;exact hl
theorem WB{D:List aA}(h:iU D)(q:aA):Bw (λx:aA=>jv x q) D:=by
 intro i j x y hij hx hy hl;rcases Nat.lt_or_eq_of_le hij with h1|rfl
 ·have:=Cu h h1 hx hy
  rw[Ct]at hl |-;omega
 ·rw[hx]at hy;cases hy;exact hl
theorem Cv{α:Type}(f:α->Int)(l:List α):dU f l<=l.length:=countP_le_length
theorem uu{α:Type}(f:α->Int):∀(l:List α),Bw f l->(∀(t:Nat) (x:α),t<dU f l->l[t]? = some x->f x<0)/\(∀(t:Nat) (x:α),dU f l<=t->l[t]? = some x->0<=f x)
 | [],_=>⟨λt x _ h=>by simp at h,λt x _ h=>by simp at h⟩
 |a::r,h=>by
  have hr:Bw f r:=λi j x y hij hx hy=>h (i+1) (j+1) x y (by omega) (by simpa using hx) (by simpa using hy)
  obtain⟨h1,h2⟩:=uu f r hr;by_cases ha:f a<0
  ·have hp:dU f (a::r)=dU f r+1:=by unfold dU;rw[countP_cons_of_pos (by simp[ha])]
   rw[hp];refine⟨λt x ht hx=>?_,λt x ht hx=>?_⟩
   ·cases t with
    |zero=>simp at hx;subst hx;exact ha
    |succ t=>exact h1 t x (by omega) (by simpa using hx)
   ·cases t with
    |zero=>omega
    |succ t=>exact h2 t x (by omega) (by simpa using hx)
  ·have hz:dU f r=0:=by
    unfold dU;rw[countP_eq_zero];intro x hx;obtain⟨t,ht,rfl⟩:=getElem_of_mem hx;intro hc;exact ha (h 0 (t+1) a r[t] (Nat.zero_le _) rfl (by simp[ht]) (by simpa using hc))
   have hp:dU f (a::r)=0:=by
    unfold dU at hz |-;rw[countP_cons_of_neg (by simp[ha]),hz]
   rw[hp];refine⟨λt x ht _=>by omega,λt x ht hx=>?_⟩;cases t with
   |zero=>simp at hx;subst hx;exact Int.not_lt.1 ha
   |succ t=>exact h2 t x (by omega) (by simpa using hx)
def kQ{α:Type}(l:List α)(i:Nat)(x:α):List α:=l.take i++(x::l.drop i)
abbrev uw(T:List Row)(key:Int):Nat:=dU (λx:Row=>gG x.key key) T
abbrev lN(T:List Row)(key:Int):Bool:=nW (λx:Row=>gG x.key key) T
abbrev Af(D:List aA)(q:aA):Nat:=dU (λx:aA=>jv x q) D
abbrev KF(D:List aA)(q:aA):Bool:=nW (λx:aA=>jv x q) D
def sU(T:List Row)(key:Int):Int:=if lN T key then((T[uw T key]?).map Row.val).getD 0 else 0
def sV(T:List Row)(key:Int):Int:=if lN T key then 2 else if 8<=T.length then 5 else 2
def pg(T:List Row)(key v:Int):List Row:=if lN T key then T.set (uw T key) ⟨key,v⟩else if 8<=T.length then T else kQ T (uw T key) ⟨key,v⟩
def xP(T:List Row)(key:Int):List Row:=if lN T key then T.eraseIdx (uw T key)else T
def ja(D:List aA)(q:aA):List aA:=if KF D q then D.set (Af D q) q else kQ D (Af D q) q
def Bz(lo hi:Int)(p:Pc):Bool:=decide (lo<p.f) && decide (p.f<=hi)
def KG(m:List Pc)(g lo hi:Int):Int:=if own 0 m lo≠g then own 0 m lo else((m.find? (Bz lo hi)).map Pc.g).getD 0
def Eg(m:List Pc)(g lo hi:Int):Bool:=if own 0 m lo≠g then true else(m.find? (Bz lo hi)).isSome
def sB{α:Type}(f:α->Int)(lo:Int)(l:List α):List α:=l.filter λx=>decide (f x<lo)
def sA{α:Type}(f:α->Int)(lo hi:Int)(l:List α):List α:=l.filter λx=>!decide (f x<lo) && decide (hi<f x)
def sW{α:Type}(f:α->Int)(lo hi:Int)(l:List α):List α:=l.filter λx=>!decide (f x<lo) && !decide (hi<f x)
def zD(T:List Row)(lo hi:Int):List Row:=sB (λx:Row=>x.key) lo T++sA (λx:Row=>x.key) lo hi T
def zF(D:List aA)(lo hi:Int):List aA:=sB (λx:aA=>x.key) lo D++sA (λx:aA=>x.key) lo hi D
def zG(g j next lo hi:Int)(T:List Row)(D:List aA):Rg:=⟨g,j,next,lo,hi,sW (λx:Row=>x.key) lo hi T,sW (λx:aA=>x.key) lo hi D⟩
def aT(O:List (Int×List Rg))(k:Int):Int×List Rg:=(O[k.toNat]?).getD (0,[])
def gV(s:St)(q:bQ):Bool:=!(q.to == s.g) && decide (q.to<s.n) && decide ((aT s.O q.to).2.length<4) && decide ((fT s.M q.key q.hi q.to).length<=8)
def mD(q:bQ):aA:=⟨q.c,q.s,q.key,0,false,0,0⟩
def kX(s:St)(q:bQ):aA :=
 if q.k=1 then⟨q.c,q.s,q.key,1,lN s.T q.key,sU s.T q.key,0⟩
 else if q.k=2 then⟨q.c,q.s,q.key,sV s.T q.key,false,0,0⟩
 else if q.k=3 then⟨q.c,q.s,q.key,2,false,0,0⟩
 else if gV s q then⟨q.c,q.s,q.key,2,false,0,0⟩else⟨q.c,q.s,q.key,5,false,0,0⟩
def aaG(s:St)(q:bQ)(D1:List aA):St:={ s with T:=zD s.T q.key q.hi,M:=fT s.M q.key q.hi q.to,D:=zF D1 q.key q.hi,O:=s.O.set q.to.toNat (IntKind.u32.wrap ((aT s.O q.to).1+1),(aT s.O q.to).2++[zG s.g q.to (aT s.O q.to).1 q.key q.hi s.T D1]) }
def nX(s:St)(q:bQ):St :=
 if q.k=2 then{ s with T:=pg s.T q.key q.v,D:=ja s.D (kX s q) }
 else if q.k=3 then{ s with T:=xP s.T q.key,D:=ja s.D (kX s q) }
 else if q.k=4/\gV s q=true then aaG s q (ja s.D (kX s q))
 else{ s with D:=ja s.D (kX s q) }
def xq(g n:Int)(I:List Int)(r:Rg):Bool:=r.dst == g && !(r.src == g) && decide (r.src<n) && r.seq == IntKind.u32.wrap (((I[r.src.toNat]?).getD 0)+1)
def uF(s:St)(r:Rg):St :=
 if oO r=true/\xq s.g s.n s.I r=true/\(fT s.M r.lo r.hi s.g).length<=1000 then
  { s with T:=sB (λx:Row=>x.key) r.lo s.T++(r.rows++sA (λx:Row=>x.key) r.lo r.hi s.T),M:=fT s.M r.lo r.hi s.g,D:=sB (λx:aA=>x.key) r.lo s.D++(r.aZ++sA (λx:aA=>x.key) r.lo r.hi s.D),I:=s.I.set r.src.toNat r.seq }
 else s
def keepR(sq:Int)(q:List Rg):List Rg:=q.filter λr=>!decide (r.seq<=sq)
def sZ(s:St)(peer sq:Int):St:=if peer<s.n then{ s with O:=s.O.set peer.toNat ((aT s.O peer).1,keepR sq (aT s.O peer).2) }else s
def FD(q:bQ):Int:=if q.key<q.hi then q.hi else q.key
def tq(s:St)(q:bQ):St×aA :=
 if jN q=false then(s,uk)
 else if Eg s.M s.g q.key (FD q)=true then(s,⟨q.c,q.s,q.key,3,false,0,KG s.M s.g q.key (FD q)⟩)
 else if KF s.D (mD q)=true then
  match s.D[Af s.D (mD q)]? with
  |some x=>if x.s<q.s then(nX s q,kX s q)else if x.s=q.s then(s,x)else(s,⟨q.c,q.s,q.key,4,false,0,0⟩)
  |none=>(s,uk)
 else(nX s q,kX s q)
def lQ(s:St)(c:MC):St×aA :=
 if c.kind=1 then tq s c.q else if c.kind=2 then(uF s c.r,uk)else if c.kind=3 then(sZ s c.peer c.seq,uk)else(s,uk)
def nY(g n:Nat):St:=⟨g,n,[],[⟨0,0⟩],[],replicate n (1,[]),replicate n 0⟩
theorem Wk.snap{w w':World}{br:Nat}{R:MR}(h:Wk (fI w) br R w'):∃a,RI w' br R a/\(∀x,Own br a x->w.heap.size<=x)/\GB none w w':=by
 obtain⟨a,h⟩:=h;have kp:∀x,x<w.heap.size->w'.heap[x]? = w.heap[x]?/\¬Own br a x:=λx hx=>by
  obtain⟨o,ho⟩:∃o,w.heap[x]? = some o:=⟨w.heap[x],by simp[hx]⟩;obtain⟨h1,h2⟩:=h.pr x o ho;exact⟨h1.trans ho.symm,h2⟩
 refine⟨a,h.ri,λx hx=>?_,h.os,h.out,?_,λx hx _=>(kp x hx).1⟩
 ·by_cases hl:x<w.heap.size
  ·exact((kp x hl).2 hx).elim
  ·omega
 ·by_cases h0:w.heap.size=0
  ·omega
  ·have h1:=(kp (w.heap.size - 1) (by omega)).1
   obtain⟨o,ho⟩:∃o,w.heap[w.heap.size - 1]? = some o:=⟨w.heap[w.heap.size - 1]'(by omega),by simp[show w.heap.size - 1<w.heap.size by omega]⟩;rw[ho]at h1;have:=ae h1;omega
theorem jD{w:World}{e:TypeId}{size n:Nat}{v:Value}{xs:List Value}(h:w.ownsRow 0 e size v n xs)(_hn:0<n):∃g cap cur,v=.slice (Pty g) n cap/\w.heap[g]? = some (.cells cur e)/\cur.toList.take (n*size)=xs/\n*size<=cur.size/\n<=cap:=by
 rcases h.2 with⟨_,h1⟩|⟨g,cap,cur,h1,h0,h2,h3,h4,h5,h6⟩
 ·omega
 ·refine⟨g,cap,cur,h1,h2,h6,?_,h3⟩
  have:=h.1;have h7:=congrArg length h6;rw[length_take,Array.length_toList]at h7;omega
def Made(sz g j g' i':Nat):Prop:=(g'<g/\i'<sz)\/(g'=g/\i'<j)
structure NV(A:aO)(w wk:World)(n sz g j:Nat)(B:Nat->Nat->Nat)(ad:Nat->Nat->gp):Prop where
 rep:∀g' i',Made sz g j g' i'->RI wk (B g' i') (Ed A g' i' n sz) (ad g' i')
 new:∀g' i' x,Made sz g j g' i'->Own (B g' i') (ad g' i') x->w.heap.size<=x
 sep:∀g1 i1 g2 i2 x,Made sz g j g1 i1->Made sz g j g2 i2->Own (B g1 i1) (ad g1 i1) x->Own (B g2 i2) (ad g2 i2) x->g1=g2/\i1=i2
def ptrs(B:Nat->Nat->Nat)(g j:Nat):List Value:=(List.range j).map λi=>.pointer (some ⟨B g i,0,none⟩)
def BA(wk:World)(sz g:Nat)(B:Nat->Nat->Nat)(gl:List Value):Prop:=gl.length=g/\∀g',g'<g->∃bs ct cur,gl[g']? = some (.slice (Pty bs) sz ct)/\sz<=ct/\wk.heap[bs]? = some (.cells cur 133)/\∀i,i<sz->cur.toList[i]? = some (.pointer (some ⟨B g' i,0,none⟩))
section
variable{A:aO}{w wk xu:World}{n sz g j:Nat}{B:Nat->Nat->Nat}{ad:Nat->Nat->gp}
theorem NV.keep(h:NV A w wk n sz g j B ad)(k:Kz wk xu)(hb:∀g' i' x,Made sz g j g' i'->Own (B g' i') (ad g' i') x->xu.heap[x]? = wk.heap[x]?):NV A w xu n sz g j B ad:=⟨λg' i' hm=>(h.rep g' i' hm).keep k λx hx=>hb g' i' x hm hx,h.new,h.sep⟩
theorem NV.au(h:NV A w wk n sz g j B ad)(k:GB none wk xu):NV A w xu n sz g j B ad:=h.keep k.kz λg' i' x hm hx=>k.block x ((h.rep g' i' hm).lt hx) nofun
theorem NV.Ip(h:NV A w wk n sz g j B ad){r:Option Nat}(k:GB r wk xu){t:TypeId}(ht:t ∉ Ni)(hm:t≠152/\t≠54/\t≠139)(hr:∀x,r=some x->∃c,wk.heap[x]? = some (.cells c t)):NV A w xu n sz g j B ad:=by
 refine h.keep (λt' ht' b c hb=>k.get hb λe=>?_) λg' i' x hM hx=>k.block x ((h.rep g' i' hM).lt hx) λe=>?_
 ·obtain⟨c',hc⟩:=hr b e.symm
  rw[hb]at hc;injection hc with hc;injection hc with _ hc;subst hc;exact ht ht'
 ·obtain⟨c',hc⟩:=hr x e.symm
  rcases(h.rep g' i' hM).Br hx hc with q|q|q
  ·exact hm.1 q
  ·exact hm.2.1 q
  ·exact hm.2.2 q
theorem NV.more(h:NV A w wk n sz g j B ad)(hj:j<sz)(gw:GB none w wk){br:Nat}(hW:Wk (fI wk) br (Ed A g j n sz) xu):∃jM,NV A w xu n sz g (j+1) (fH B g j br) jM/\GB none wk xu:=by
 obtain⟨a,hR,hn,k⟩:=hW.snap;have h1:=h.au k;have ne:∀{g' i'},Made sz g j g' i'->¬(g'=g/\i'=j):=λhm e=>by unfold Made at hm;omega
 have cs:∀{g' i'},Made sz g (j+1) g' i'->Made sz g j g' i'\/(g'=g/\i'=j):=λ{g' i'} hm=>by unfold Made at hm |-;omega
 refine⟨fH ad g j a,⟨λg' i' hm=>?_,λg' i' x hm hx=>?_,λg1 i1 g2 i2 x m1 m2 o1 o2=>?_⟩,k⟩
 ·rcases cs hm with q|⟨rfl,rfl⟩
  ·rw[bf _ _ (ne q),bf _ _ (ne q)];exact h1.rep g' i' q
  ·rw[bL,bL];exact hR
 ·rcases cs hm with q|⟨rfl,rfl⟩
  ·rw[bf _ _ (ne q),bf _ _ (ne q)]at hx;exact h.new g' i' x q hx
  ·rw[bL,bL]at hx;have:=hn x hx;have:=gw.size;omega
 ·rcases cs m1 with q1|⟨rfl,rfl⟩<;>rcases cs m2 with q2|⟨e2,e2'⟩
  ·rw[bf _ _ (ne q1),bf _ _ (ne q1)]at o1
   rw[bf _ _ (ne q2),bf _ _ (ne q2)]at o2;exact h.sep _ _ _ _ x q1 q2 o1 o2
  ·subst e2;subst e2'
   rw[bf _ _ (ne q1),bf _ _ (ne q1)]at o1;rw[bL,bL]at o2;have:=hn x o2;have:=(h.rep _ _ q1).lt o1;omega
  ·rw[bL,bL]at o1
   rw[bf _ _ (ne q2),bf _ _ (ne q2)]at o2;have:=hn x o1;have:=(h.rep _ _ q2).lt o2;omega
  ·exact⟨e2.symm,e2'.symm⟩
theorem NV.next(h:NV A w wk n sz g sz B ad):NV A w wk n sz (g+1) 0 B ad:=by
 have e:∀{g' i'},Made sz (g+1) 0 g' i'->Made sz g sz g' i':=λhm=>by unfold Made at hm |-;omega
 exact⟨λg' i' hm=>h.rep g' i' (e hm),λg' i' x hm=>h.new g' i' x (e hm),λg1 i1 g2 i2 x m1 m2=>h.sep g1 i1 g2 i2 x (e m1) (e m2)⟩
theorem U4{br:Nat}:ptrs (fH B g j br) g (j+1)=ptrs B g j++[Ptt br]:=by
 unfold ptrs;rw[range_succ,map_append];congr 1
 ·refine map_congr_left λi hi=>?_
  have:=mem_range.1 hi;rw[bf _ _ (λe=>by omega)]
 ·simp[bL]
theorem BA.upd{gl:List Value}{br:Nat}(h:BA wk sz g B gl):BA wk sz g (fH B g j br) gl:=⟨h.1,λg' hg'=>by
 obtain⟨bs,ct,cur,h1,h2,h3,h4⟩:=h.2 g' hg';exact⟨bs,ct,cur,h1,h2,h3,λi hi=>by rw[bf _ _ (λe=>by omega)];exact h4 i hi⟩⟩
theorem BA.au{gl:List Value}(h:BA wk sz g B gl)(k:GB none wk xu):BA xu sz g B gl:=⟨h.1,λg' hg'=>by
 obtain⟨bs,ct,cur,h1,h2,h3,h4⟩:=h.2 g' hg';exact⟨bs,ct,cur,h1,h2,k.get h3 nofun,h4⟩⟩
theorem BA.Ip{gl:List Value}(h:BA wk sz g B gl){r:Option Nat}(k:GB r wk xu){t:TypeId}(ht:t≠133)(hr:∀x,r=some x->∃c,wk.heap[x]? = some (.cells c t)):BA xu sz g B gl:=⟨h.1,λg' hg'=>by
 obtain⟨bs,ct,cur,h1,h2,h3,h4⟩:=h.2 g' hg';exact⟨bs,ct,cur,h1,h2,k.get h3 λe=>by
  obtain⟨c,hc⟩:=hr bs e.symm;rw[h3]at hc;injection hc with hc;injection hc with _ hc;exact ht hc.symm,h4⟩⟩
end
section
variable{A:aO}(HA:bH A)
include HA
theorem acp(w:World)(n f:Nat)(hn:1<=n/\n<=4)(hf:f<=2):ag Tryz.prog 18 #[.int .i64 n,.int .i64 f] w (λv w'=>∃bc,v=.tuple #[Ptt bc,.int .i64 0]/\w.heap.size<=bc/\uP (fI w) bc (aL.new A n (2*f+1)) w'/\Kz w w'):=by
 have q1:decide ((n:Int)<1)=false:=by simp;omega
 have q2:decide ((n:Int) > 4)=false:=by simp;omega
 have q4:decide ((f:Int) > 2)=false:=by simp;omega
 refine ah Tryz.func18 rfl rfl ?_;refine aj (λc=>?_) (λc=>(by rw[q1]at c;cases c));refine aj (λc=>?_) (λc=>(by rw[q2]at c;cases c));refine aj (λc=>(by rw[q4]at c;cases c)) (λc=>?_);refine λw1 bc m1 g1 l1=>?_
 refine⟨λm s wk=>∃(g:Nat) (gv:Value) (gl:List Value) (B:Nat->Nat->Nat) (ad:Nat->Nat->gp),m=n - g/\g<=n/\s=[(0,.int .i64 n),(1,.int .i64 f),(6,Ptt bc),(27,.int .i64 n),(28,.int .i64 g)]/\wk.heap[bc]? = some (.cells #[gv,Ptz] 131)/\wk.ownsRow 0 132 1 gv g gl/\(∀x,gv.ownBlock=some x->w.heap.size<=x)/\BA wk (2*f+1) g B gl/\NV A w wk n (2*f+1) g 0 B ad/\GB none w wk,⟨_,_,⟨0,Ptz,[],λ_ _=>0,λ_ _=>⟨0,0,0,0,0,0,Ptz,Ptz,Ptz,Ptz,Ptz,Ptz,.slice none 0 0⟩,rfl,Nat.zero_le _,rfl,m1,dZ _ _ _,nofun,⟨rfl,λg' hg'=>(by omega)⟩,⟨λg' i' hm=>(by unfold Made at hm;omega),λg' i' x hm=>(by unfold Made at hm;omega),λg' i' _ _ x hm=>(by unfold Made at hm;omega)⟩,g1⟩,rfl,rfl,rfl,rfl,rfl,trivial⟩,?_⟩;rintro m s wg ⟨g,gv,gl,B,ad,rfl,hg,rfl,hc,hgo,hgn,xw,Iw,hgb⟩;refine aj (λc=>?_) (λc=>?_)
 ·have c1:g<n:=by simp at c;omega
  refine⟨by omega,by omega,?_⟩;refine⟨λm s wk=>∃(j:Nat) (av:Value) (B:Nat->Nat->Nat) (ad:Nat->Nat->gp),m=2*f+1 - j/\j<=2*f+1/\s=[(0,.int .i64 n),(1,.int .i64 f),(6,Ptt bc),(7,.int .i64 g),(8,av),(27,.int .i64 n),(28,.int .i64 g),(33,.int .i64 (2*(f:Int)+1)),(34,.int .i64 j)]/\wk.ownsRow 0 133 1 av j (ptrs B g j)/\(∀x,av.ownBlock=some x->wg.heap.size<=x)/\BA wk (2*f+1) g B gl/\NV A w wk n (2*f+1) g j B ad/\GB none wg wk,⟨_,_,⟨0,Ptz,B,ad,rfl,Nat.zero_le _,rfl,dZ _ _ _,nofun,xw,Iw,GB.refl _ _⟩,rfl,rfl,rfl,rfl,rfl,rfl,rfl,rfl,rfl,trivial⟩,?_⟩;have ae4:=xw;clear Iw xw;rintro m s wk ⟨j,av,B,ad,rfl,hj,rfl,hao,han,xw,Iw,mQ⟩;refine aj (λc=>?_) (λc=>?_)
  ·have c2:j<2*f+1:=by simp at c;omega
   refine .inl ⟨by omega,.inl ⟨by omega,λw2 b2 m2 g2 l2=>⟨_,_,_,m2,rfl,rfl,λw3 m3 g3=>?_⟩⟩⟩;have g13:GB none wk w3:=g2.new g3 l2;refine⟨_,_,m3,[.int .u8 g,.int .u8 j],rfl,rfl,by omega,by omega,_,aay HA g j n (2*f+1) c1 hn.2,?_⟩;rintro _ w4 ⟨br,rfl,hb,hW,k4⟩;have U5:=Iw.au g13;obtain⟨jM,U6,um⟩:=U5.more c2 ((hgb.trans mQ).trans g13) hW;have gk4:GB none wk w4:=g13.trans um;refine λw5 b5 m5 g5 l5=>?_
   have WC:GB none wk w5:=gk4.trans g5;obtain⟨aa,ac,rfl⟩:=af hao;have aaI:=ay hao (w1:=w5) λx hx=>by obtain⟨cur,hc⟩:=ax hao hx;exact WC.block x (ae hc) nofun
   refine⟨_,[Ptt br],aaI,⟨_,_,m5,rfl,rfl,rfl⟩,by omega,λv' w6 ND g6 n6=>?_⟩;refine⟨by omega,_,_,⟨j+1,v',fH B g j br,jM,rfl,by omega,rfl,by rw[U4];exact ND,λx hx=>(n6 x hx).elim (han x) λhl=>?_,?_,?_,GB.ownB (mQ.trans WC) g6 han⟩,⟨rfl,rfl,rfl,rfl,rfl,rfl,rfl,rfl,rfl,trivial⟩,by omega⟩
   ·have:=(mQ.trans WC).size;omega
   ·refine⟨xw.1,λg' hg'=>?_⟩
    obtain⟨bs,ct,cur,h1,h2,h3,h4⟩:=(xw.au WC).upd.2 g' hg';refine⟨bs,ct,cur,h1,h2,g6.get h3 λe=>?_,h4⟩;have e1:=han bs e.symm;obtain⟨bs',WE,cur',p1,p2,p3,p4⟩:=ae4.2 g' hg';rw[h1]at p1;injection p1 with p1;injection p1 with p1;injection p1 with p1;injection p1 with p1;have:=ae p3;omega
   ·exact(U6.au g5).Ip g6 (t:=133) (by decide) ⟨by decide,by decide,by decide⟩ λx hx=>ax aaI hx
  ·have c2:j=2*f+1:=by simp at c;omega
   subst c2;obtain⟨ga,gc,rfl⟩:=af hgo;have hck:=mQ.get hc nofun;have hgo':=ay hgo (w1:=wk) λx hx=>by obtain⟨cur,hc⟩:=ax hgo hx;exact mQ.block x (ae hc) nofun
   obtain⟨bs,cap,cur,rfl,aR,htk,hsz,hcap⟩:=jD hao (by omega);refine⟨_,_,hck,_,rfl,λw2 b2 m2 g2 l2=>?_⟩;have KH:=ay hgo' (w1:=w2) λx hx=>by obtain⟨cur,hc⟩:=ax hgo' hx;exact g2.block x (ae hc) nofun
   refine⟨_,[.slice (Pty bs) (2*f+1) cap],KH,⟨_,_,m2,rfl,rfl,rfl⟩,by omega,λRH w3 ho3 g3 n3=>?_⟩;have hc3:w3.heap[bc]? = _:=g3.get (g2.get hck nofun) λe=>by
    obtain⟨c,hc'⟩:=ax KH e.symm;rw[g2.get hck nofun]at hc';injection hc' with hc';injection hc' with _ hc';revert hc';decide
   obtain⟨na,nc,rfl⟩:=af ho3;refine⟨_,_,_,hc3,rfl,rfl,λw4 m4 g4=>?_⟩;have lbc:w.heap.size<=bc:=l1;have G2:GB none w w2:=(hgb.trans mQ).trans g2;have G3:GB none w w3:=GB.ownB G2 g3 hgn;have G4:GB none w w4:=G3.new g4 lbc;have ae5:=xw.au g2;have ae6:=ae5.Ip g3 (t:=132) (by decide) λx hx=>ax KH hx
   have ae7:=ae6.Ip g4 (t:=131) (by decide) λx hx=>⟨_,by cases hx;exact hc3⟩
   have U5:=(Iw.au g2).Ip g3 (t:=132) (by decide) ⟨by decide,by decide,by decide⟩ λx hx=>ax KH hx
   have U6:=U5.Ip g4 (t:=131) (by decide) ⟨by decide,by decide,by decide⟩ λx hx=>⟨_,by cases hx;exact hc3⟩
   have ae8:w4.heap[bs]? = some (.cells cur 133):=g4.get (g3.get (g2.get aR nofun) λe=>by
    obtain⟨c,hc'⟩:=ax KH e.symm;rw[g2.get aR nofun]at hc';injection hc' with hc';injection hc' with _ hc';revert hc';decide) λe=>by
    cases e
    rw[aR]at hck;injection hck with hck;injection hck with _ hck;revert hck;decide
   refine⟨by omega,_,_,⟨g+1,_,gl++[.slice (Pty bs) (2*f+1) cap],B,ad,rfl,by omega,rfl,m4,ay ho3 λx hx=>?_,λx hx=>(n3 x hx).elim (hgn x) λhl=>?_,⟨?_,λg' hg'=>?_⟩,U6.next,G4⟩,⟨rfl,rfl,rfl,rfl,rfl,trivial⟩,by omega⟩
   ·obtain⟨c,hc'⟩:=ax ho3 hx
    refine g4.block x (ae hc') λe=>?_
    cases e
    rw[hc3]at hc';injection hc' with hc';injection hc' with _ hc';revert hc';decide
   ·have:=G2.size;omega
   ·rw[length_append,xw.1];rfl
   ·by_cases e:g'<g
    ·obtain⟨bs',WE,cur',p1,p2,p3,p4⟩:=ae7.2 g' e
     exact⟨bs',WE,cur',by rw[getElem?_append_left (by rw[xw.1];exact e)];exact p1,p2,p3,p4⟩
    ·have e:g'=g:=by omega
     subst e;refine⟨bs,cap,cur,by rw[getElem?_append_right (by rw[xw.1];exact Nat.le_refl _),xw.1,Nat.sub_self];rfl,?_,ae8,λi hi=>?_⟩
     ·exact hcap
     ·have:=congrArg (λl=>l[i]?) htk
      simp only[Nat.mul_one]at this;rw[getElem?_take,if_pos hi]at this;rw[this];simp[ptrs,hi]
 ·have c1:g=n:=by simp at c;omega
  subst c1;obtain⟨bg,cap,cur,rfl,aR,htk,hsz,hcap⟩:=jD hgo (by omega);refine⟨bc,rfl,l1,⟨_,_,B,ad,⟨⟨hc,dZ _ _ _,Nat.zero_le _,⟨bg,cap,cur,_,rfl,hcap,aR,by decide,λg' hg'=>?_⟩,λg' i' hg' hi'=>Iw.rep g' i' (.inl ⟨hg',hi'⟩),λg1 i1 g2 i2 x p1 p2 p3 p4=>Iw.sep g1 i1 g2 i2 x (.inl ⟨p1,p2⟩) (.inl ⟨p3,p4⟩),nofun⟩,λb o hb=>⟨hgb.get hb nofun,λhC=>?_⟩,hgb.os,hgb.out⟩⟩,hgb.kz⟩
  ·obtain⟨bs',WE,cur',p1,p2,p3,p4⟩:=xw.2 g' hg'
   refine⟨bs',WE,cur',_,?_,p2,p3,by decide,p4⟩;have hg'':g'<g:=hg';refine Eq.trans ?_ p1;rw[<-htk,getElem?_take,if_pos (by omega)]
  ·have hl:=ae hb
   rcases hC with e|e|⟨g',i',p1,p2,p3⟩
   ·have lbc:w.heap.size<=bc:=l1
    omega
   ·cases e
   ·have:=Iw.new g' i' b (.inl ⟨p1,p2⟩) p3;omega
end
end
