/- Lemmas. -/
import Derived.Test.YtignemioillaiabGreatG29
namespace Go.Proofs.YtignemioillaiabGreat
set_option maxHeartbeats 8000000
set_option maxRecDepth 100000
open List
section
open Go Go.Conc
def nY(r:Rg):Bool:=decide (r.src<4)&&(decide (r.dst<4)&&(decide (1<=r.seq)&&(decide (r.lo<=r.hi)&&(Dy r&&Aq r))))
def uS(r:Rg):Bool:=r.src==0&&(r.dst==0&&(r.seq==0&&(r.lo==0&&(r.hi==0&&(r.rows.length==0&&r.aX.length==0)))))
def qp(q:aW):Bool:=q.c==0&&(q.s==0&&(q.k==0&&(q.key==0&&(q.v==0&&(q.hi==0&&q.to==0)))))
def zn(c:MC):Bool:=qp c.q&&(uS c.r&&(c.peer==0&&c.seq==0))
def mi(c:MC):Bool:=if c.kind=0 then zn c else if c.kind=1 then fV c.q&&(uS c.r&&(c.peer==0&&c.seq==0))else if c.kind=2 then nY c.r&&(qp c.q&&(c.peer==0&&c.seq==0))else if c.kind=3 then decide (c.peer<4)&&(qp c.q&&uS c.r)else false
section
variable{w:World}{r:Rg}{rv dv:Value}
theorem Ff(hr:aS w r rv dv):CY 103 #[.agg (fB r rv dv).toArray] w (λv w'=>v=.bool (nY r)/\GB none w w'):=by
 obtain⟨_,_,_,_,_,_,rfl,rfl⟩:=hr.sl;refine aj Tryz.func103 rfl rfl ?_;refine λw1 b1 m1 g1 l1=>?_
 have hr1:=hr.kz g1.kz;refine⟨_,_,m1,_,rfl,_,qP _ _,?_⟩;rintro _ w1 ⟨rfl,rfl⟩;refine ah (λc0=>?_) (λc0=>?_)
 .refine⟨_,_,m1,_,rfl,_,qP _ _,?_⟩
  rintro _ w1 ⟨rfl,rfl⟩;refine ah (λc1=>?_) (λc1=>?_)
  .refine⟨_,_,m1,_,rfl,?_⟩
   refine ah (λc2=>?_) (λc2=>?_)
   .refine⟨_,_,m1,_,rfl,?_⟩
    refine⟨_,_,m1,_,rfl,?_⟩;refine ah (λc3=>?_) (λc3=>?_)
    .refine⟨_,_,m1,fB r _ _,rfl,rfl,_,rows_ok hr1,?_⟩
     rintro _ w2 ⟨rfl,g2⟩;have g12:=g1.trans g2;refine ah (λc4=>?_) (λc4=>?_)
     .refine⟨_,_,g2.get m1 nofun,fB r _ _,rfl,rfl,_,Z8 (hr1.kz g2.kz),?_⟩
      rintro _ w3 ⟨rfl,g3⟩;exact⟨vb (by grind [nY]),g12.trans g3⟩
     .exact⟨vb (by grind [nY]),g12⟩
    .exact⟨vb (by grind [nY]),g1⟩
   .exact⟨vb (by grind [nY]),g1⟩
  .exact⟨vb (by grind [nY]),g1⟩
 .exact⟨vb (by grind [nY]),g1⟩
theorem GU(hr:aS w r rv dv):CY 173 #[.agg (fB r rv dv).toArray] w (λv w'=>v=.bool (uS r)/\GB none w w'):=by
 obtain⟨_,n1,_,_,n2,_,rfl,rfl⟩:=hr.sl;obtain⟨⟨_,_,e1,_⟩,_,_,e2,_⟩:=hr;obtain rfl:n1=r.rows.length:=by injection e1
 obtain rfl:n2=r.aX.length:=by injection e2
 refine aj Tryz.func173 rfl rfl ?_;refine λw1 b1 m1 g1 l1=>?_
 refine⟨_,_,m1,_,rfl,?_⟩;refine ah (λc0=>?_) (λc0=>?_)
 .refine⟨_,_,m1,_,rfl,?_⟩
  refine ah (λc1=>?_) (λc1=>?_)
  .refine⟨_,_,m1,_,rfl,?_⟩
   refine ah (λc2=>?_) (λc2=>?_)
   .refine⟨_,_,m1,_,rfl,?_⟩
    refine ah (λc3=>?_) (λc3=>?_)
    .refine⟨_,_,m1,_,rfl,?_⟩
     refine ah (λc4=>?_) (λc4=>?_)
     .refine⟨_,_,m1,_,rfl,?_⟩
      refine ah (λc5=>?_) (λc5=>?_)
      .refine⟨_,_,m1,_,rfl,?_⟩
       exact⟨vb (by grind [uS]),g1⟩
      .exact⟨vb (by grind [uS]),g1⟩
     .exact⟨vb (by grind [uS]),g1⟩
    .exact⟨vb (by grind [uS]),g1⟩
   .exact⟨vb (by grind [uS]),g1⟩
  .exact⟨vb (by grind [uS]),g1⟩
 .exact⟨vb (by grind [uS]),g1⟩
end
section
variable{w:World}{c:MC}{rv dv:Value}
theorem zo(hr:aS w c.r rv dv):CY 172 #[.agg (dF c rv dv).toArray] w (λv w'=>v=.bool (zn c)/\GB none w w'):=by
 obtain⟨_,_,_,_,_,_,rfl,rfl⟩:=hr.sl;refine aj Tryz.func172 rfl rfl ?_;refine λw1 b1 m1 g1 l1=>?_
 have hr1:=hr.kz g1.kz;refine⟨_,_,m1,c.q.cells,rfl,rfl,?_⟩;refine ah (λc0=>?_) (λc0=>?_)
 .refine⟨_,_,m1,fB c.r _ _,rfl,rfl,_,GU hr1,?_⟩
  rintro _ w2 ⟨rfl,g2⟩;have g12:=g1.trans g2;have m2:=g2.get m1 nofun;refine ah (λc1=>?_) (λc1=>?_)
  .refine⟨_,_,m2,_,rfl,?_⟩
   refine ah (λc2=>?_) (λc2=>?_)
   .refine⟨_,_,m2,_,rfl,?_⟩
    exact⟨vb (by grind [zn,qp]),g12⟩
   .exact⟨vb (by grind [zn,qp]),g12⟩
  .exact⟨vb (by grind [zn,qp]),g12⟩
 .exact⟨vb (by grind [zn,qp]),g1⟩
theorem Ar(hr:aS w c.r rv dv):CY 116 #[.agg (dF c rv dv).toArray] w (λv w'=>v=.bool (mi c)/\GB none w w'):=by
 obtain⟨_,_,_,_,_,_,rfl,rfl⟩:=hr.sl;obtain⟨k,q,r,peer,seq⟩:=c;dsimp only at hr;by_cases k0:k=0
 .subst k0
  refine aj Tryz.func116 rfl rfl ?_;refine λw1 b1 m1 g1 l1=>⟨_,_,m1,_,rfl,_,_,m1,dF ⟨0,q,r,peer,seq⟩ _ _,rfl,rfl,_,zo (hr.kz g1.kz),?_⟩
  rintro _ w2 ⟨rfl,g2⟩;exact⟨vb (by simp[mi]),g1.trans g2⟩
 by_cases k1:k=1
 .subst k1
  refine aj Tryz.func116 rfl rfl ?_;refine λw1 b1 m1 g1 l1=>⟨_,_,m1,_,rfl,_,_,m1,q.cells,rfl,rfl,_,Ao w1 q,?_⟩
  rintro _ w2 ⟨rfl,g2⟩;refine⟨_,_,_,g2.get m1 nofun,rfl,rfl,λw3 m3 g3=>?_⟩;have G:=(g1.trans g2).new g3 l1;obtain⟨a,ha⟩:∃a,fV q=a:=⟨_,rfl⟩;rw[ha];cases a
  .exact⟨vb (by simp[mi,ha]),G⟩
  .refine⟨_,_,m3,dF ⟨1,vG,r,peer,seq⟩ _ _,rfl,rfl,_,zo (c:=⟨1,vG,r,peer,seq⟩) (hr.kz G.kz),?_⟩
   rintro _ w4 ⟨rfl,g4⟩;exact⟨vb (by simp[mi,ha,zn,qp,vG]),G.trans g4⟩
 by_cases k2:k=2
 .subst k2
  refine aj Tryz.func116 rfl rfl ?_;refine λw1 b1 m1 g1 l1=>⟨_,_,m1,_,rfl,_,_,m1,fB r _ _,rfl,rfl,_,Ff (hr.kz g1.kz),?_⟩
  rintro _ w2 ⟨rfl,g2⟩;refine⟨_,_,_,g2.get m1 nofun,rfl,rfl,λw3 m3 g3=>?_⟩;have G:=(g1.trans g2).new g3 l1;obtain⟨a,ha⟩:∃a,nY r=a:=⟨_,rfl⟩;rw[ha];cases a
  .exact⟨vb (by simp[mi,ha]),G⟩
  .refine⟨_,_,m3,dF ⟨2,q,uP,peer,seq⟩ Ptz Ptz,rfl,rfl,_,zo (c:=⟨2,q,uP,peer,seq⟩) (aS.zero w3),?_⟩
   rintro _ w4 ⟨rfl,g4⟩;exact⟨vb (by simp[mi,ha,zn,uS,uP]),G.trans g4⟩
 by_cases k3:k=3
 .subst k3
  refine aj Tryz.func116 rfl rfl ?_;refine λw1 b1 m1 g1 l1=>⟨_,_,m1,_,rfl,_,_,m1,_,rfl,_,qP w1 _,?_⟩
  rintro _ w1 ⟨rfl,rfl⟩;refine⟨_,_,_,m1,rfl,rfl,λw2 m2 g2=>⟨_,_,_,m2,rfl,rfl,λw3 m3 g3=>?_⟩⟩;have G:=(g1.new g2 l1).new g3 l1;obtain⟨a,ha⟩:∃a,decide (peer<4)=a:=⟨_,rfl⟩;rw[ha];cases a
  .exact⟨vb (by simp[mi,ha]),G⟩
  .refine⟨_,_,m3,dF ⟨3,q,r,0,0⟩ _ _,rfl,rfl,_,zo (c:=⟨3,q,r,0,0⟩) (hr.kz G.kz),?_⟩
   rintro _ w4 ⟨rfl,g4⟩;exact⟨vb (by simp[mi,ha,zn]),G.trans g4⟩
 refine aj Tryz.func116 rfl rfl ?_;refine λw1 b1 m1 g1 l1=>⟨_,_,m1,_,rfl,?_⟩
 refine ah (λe=>absurd (by simpa using e) k0) (λ_=>?_);refine ah (λe=>absurd (by simpa using e) k1) (λ_=>?_);refine ah (λe=>absurd (by simpa using e) k2) (λ_=>?_);refine ah (λe=>absurd (by simpa using e) k3) (λ_=>?_);exact⟨vb (by simp[mi,k0,k1,k2,k3]),g1⟩
end
def oM(l:List MV):Bool:=kr (λv:MV=>mi v.c) (λy x=>decide (y.slot<x.slot)) l
def Ct(p:ag):Bool:=p.c==0&&(p.s==0&&(p.key==0&&(p.k==0&&(p.found==false&&(p.v==0&&p.g==0)))))
def Cu(b:bH):Bool:=(b.n:Int)==0&&(b.id:Int)==0
def nZ(m:MM):Bool:=qp m.q&&(Ct m.p&&(Cu m.b&&((m.s:Int)==0&&(m.c.kind==0&&(zn m.c&&((m.vs.length:Int)==0&&(uS m.r&&(m.peer==0&&m.seq==0))))))))
def mo(m:MM):Bool:=if m.kind=1 then fV m.q&&nZ {m with q:=vG}else if m.kind=2 then lJ m.p&&nZ {m with p:=rV}else if m.kind=3 then nZ {m with b:=⟨0,0⟩}else if m.kind=5 then nZ {m with b:=⟨0,0⟩}else if m.kind=4 then oM m.vs&&nZ {m with b:=⟨0,0⟩,vs:=[]}else if m.kind=6 then mi m.c&&nZ {m with b:=⟨0,0⟩,s:=0,c:=nu}else if m.kind=7 then nZ {m with b:=⟨0,0⟩,s:=0}else if m.kind=8 then mi m.c&&nZ {m with s:=0,c:=nu}else if m.kind=9 then nY m.r&&nZ {m with r:=uP}else if m.kind=10 then decide (m.peer<4)&&nZ {m with peer:=0,seq:=0}else false
theorem O8{l:List MV}{ps:List (Value×Value)}{k:Nat}{x:MV}{p:Value×Value}(_hl:ps.length=l.length)(hx:l[k]?=some x)(hp:ps[k]?=some p){cs:List Value}{off:Nat}(hcut:aG cs off (l.length*20)=(zipWith (λx p=>kE x p.1 p.2) l ps).flatten):aG cs (off+k*20) 20=kE x p.1 p.2:=by
 have hk:=(Jcn.1 hx).1;have h0:(l.zip ps)[k]?=some (x,p):=by rw[Jg0];exact⟨hx,hp⟩
 have h1:=jb (f:=λx:MV×Value×Value=>kE x.1 x.2.1 x.2.2) (size:=20) (λ_=>rfl) (l.zip ps) k (x,p) h0;rw[Jfx,<-Mj,<-hcut,zh _ _ _ _ _ (by omega)]at h1;exact h1
section
variable{w:World}
theorem WU{l:List MV}{v:Value}(hv:dC w v l):CY 115 #[v] w (λv w'=>v=.bool (oM l)/\GB none w w'):=by
 obtain⟨ps,hp,⟨a,c,rfl,hcap,hlen,hv⟩,hr⟩:=hv;refine aj Tryz.func115 rfl rfl ?_;refine ah (λd=>?_) (λd=>?_)
 .exact⟨vb (Ap (by simp at d;omega)).symm,GB.refl _ _⟩
 have Cm:l.length<=255:=by simp at d;omega
 refine⟨λm s wk=>∃k:Nat,m=l.length-k/\k<=l.length/\s=[(0,.slice a l.length c),(8,.slice a l.length c),(9,.int .i64 l.length),(10,.int .i64 k)]/\GB none w wk/\(List.range k).all (xU (λv:MV=>mi v.c) (λy x=>decide (y.slot<x.slot)) l)=true,⟨_,_,⟨0,rfl,Jcm _,rfl,GB.refl _ _,rfl⟩,sb rfl⟩,?_⟩;rintro m s wk ⟨k,rfl,hk,rfl,gk,hall⟩;refine ah (λd=>?_) (λd=>?_)
 .have d1:k<l.length:=by have:=Ptq d;omega
  obtain⟨x,hx⟩:∃x,l[k]?=some x:=⟨l[k],by simp[d1]⟩;obtain⟨⟨p1,p2⟩,hpk⟩:∃p,ps[k]?=some p:=⟨ps[k]'(by omega),by simp[show k<ps.length by omega]⟩;have hrx:=hr k x _ hx hpk;obtain⟨x1,x2,x3,x4,x5,x6,q1,q2⟩:=hrx.sl;dsimp only at q1 q2 hrx;subst q1 q2;rcases hv with⟨_,h0⟩|⟨b,off,cs,rfl,hb,hcut⟩
  .omega
  have hb1:=gk.get hb nofun;refine⟨by omega,_,_,hb1,kE x (.slice x1 x2 x3) (.slice x4 x5 x6),by show aG cs.toList (off+(k:Int).toNat*20) 20=_;rw[Jfa];exact O8 hp hx hpk hcut,rfl,λw2 b2 m2 g2 l2=>⟨_,_,_,m2,rfl,rfl,λw3 m3 g3=>?_⟩⟩;have G:=gk.trans (g2.new g3 l2);have hb3:=G.get hb nofun;have last:(∀j y,k=j+1->l[j]?=some y->decide (y.slot<x.slot)=true)->∃Post,CY 116 #[.agg (dF x.c (.slice x1 x2 x3) (.slice x4 x5 x6)).toArray] w3 Post/\∀v w4,Post v w4->∃z,v=.bool z/\GB none w3 w4/\(z=false->oM l=false)/\(z=true->(List.range (k+1)).all (xU (λv:MV=>mi v.c) (λy x=>decide (y.slot<x.slot)) l)=true):=λhlt=>⟨_,Ar (c:=x.c) (hrx.kz G.kz),by
   rintro _ w4 ⟨rfl,g4⟩;exact⟨_,rfl,g4,λhz=>zm hx hz,λhz=>wO hall (wX hx hz hlt)⟩⟩
  refine⟨by kernel_rfl,ah (λe=>?_) (λe=>?_)⟩
  .have e1:0<k:=by simp at e;omega
   obtain⟨j,rfl⟩:∃j,k=j+1:=⟨k-1,by omega⟩;obtain⟨y,hy⟩:∃y,l[j]?=some y:=⟨l[j]'(by omega),by simp[show j<l.length by omega]⟩;obtain⟨p',hpj⟩:∃p,ps[j]?=some p:=⟨ps[j]'(by omega),by simp[show j<ps.length by omega]⟩;have ej:(((j+1:Nat):Int)-1).toNat=j:=by omega
   refine⟨_,_,m3,_,rfl,by omega,by omega,_,_,hb3,.int .u32 y.slot,by show cs.toList[off+(((j+1:Nat):Int)-1).toNat*20+0]?=_;rw[ej];exact iU (O8 hp hy hpj hcut) rfl (by decide),?_⟩;refine ah (λq=>?_) (λq=>?_)
   .exact⟨vb (Fe hx hy (by simp at q;simp;omega)).symm,G⟩
   .obtain⟨Post,h1,h2⟩:=last λi y' ei hy'=>by cases ei;rw[hy]at hy';cases hy';simp at q;simp;omega
    refine⟨_,_,m3,dF x.c (.slice x1 x2 x3) (.slice x4 x5 x6),rfl,rfl,_,h1,λv w4 hv=>?_⟩;obtain⟨z,rfl,g4,z1,z2⟩:=h2 v w4 hv;cases z
    .exact⟨vb (z1 rfl).symm,G.trans g4⟩
    .exact⟨by omega,_,_,⟨j+2,rfl,by omega,rfl,G.trans g4,z2 rfl⟩,(sb rfl),by omega⟩
  .have e1:k=0:=by simp at e;omega
   subst e1;obtain⟨Post,h1,h2⟩:=last λj y e _=>absurd e (Nat.succ_ne_zero j).symm
   refine⟨_,_,m3,dF x.c (.slice x1 x2 x3) (.slice x4 x5 x6),rfl,rfl,_,h1,λv w4 hv=>?_⟩;obtain⟨z,rfl,g4,z1,z2⟩:=h2 v w4 hv;cases z
   .exact⟨vb (z1 rfl).symm,G.trans g4⟩
   .exact⟨by omega,_,_,⟨1,rfl,by omega,rfl,G.trans g4,z2 rfl⟩,(sb rfl),by omega⟩
 .have d1:k=l.length:=by have:=Ptx d;omega
  subst d1;exact⟨vb (by unfold oM kr;rw[hall];simp[Cm]),gk⟩
variable{m:MM}{rv dv vv rv' jU:Value}
theorem iA(hc:aS w m.c.r rv dv)(hv:dC w vv m.vs)(hr:aS w m.r rv' jU):CY 118 #[.agg (iW m rv dv vv rv' jU).toArray] w (λv w'=>v=.bool (nZ m)/\GB none w w'):=by
 obtain⟨_,_,_,_,_,_,rfl,rfl⟩:=hc.sl;obtain⟨_,_,_,_,_,_,rfl,rfl⟩:=hr.sl;obtain⟨_,_,rfl⟩:=hv.sl;refine aj Tryz.func118 rfl rfl ?_;refine λw1 b1 m1 g1 l1=>?_
 have hc1:=hc.kz g1.kz;have hr1:=hr.kz g1.kz;refine⟨_,_,m1,m.q.cells,rfl,rfl,?_⟩;refine ah (λc0=>?_) (λc0=>?_)
 .refine⟨_,_,m1,m.p.cells,rfl,rfl,?_⟩
  refine ah (λc1=>?_) (λc1=>?_)
  .refine⟨_,_,m1,[.int .u32 m.b.n,.int .u8 m.b.id],rfl,rfl,?_⟩
   refine ah (λc2=>?_) (λc2=>?_)
   .refine⟨_,_,m1,_,rfl,?_⟩
    refine ah (λc3=>?_) (λc3=>?_)
    .refine⟨_,_,m1,_,rfl,?_⟩
     refine ah (λc4=>?_) (λc4=>?_)
     .refine⟨_,_,m1,dF m.c _ _,rfl,rfl,_,zo (c:=m.c) hc1,?_⟩
      rintro _ w2 ⟨rfl,g2⟩;have m2:=g2.get m1 nofun;have g12:=g1.trans g2;refine ah (λc5=>?_) (λc5=>?_)
      .refine⟨_,_,m2,_,rfl,?_⟩
       refine ah (λc6=>?_) (λc6=>?_)
       .refine⟨_,_,m2,fB m.r _ _,rfl,rfl,_,GU (r:=m.r) (hr1.kz g2.kz),?_⟩
        rintro _ w3 ⟨rfl,g3⟩;have m3:=g3.get m2 nofun;have g13:=g12.trans g3;refine ah (λc7=>?_) (λc7=>?_)
        .refine⟨_,_,m3,_,rfl,?_⟩
         refine ah (λc8=>?_) (λc8=>?_)
         .refine⟨_,_,m3,_,rfl,?_⟩
          exact⟨vb (by grind [nZ,qp,Ct,Cu]),g13⟩
         .exact⟨vb (by grind [nZ,qp,Ct,Cu]),g13⟩
        .exact⟨vb (by grind [nZ,qp,Ct,Cu]),g13⟩
       .exact⟨vb (by grind [nZ,qp,Ct,Cu]),g12⟩
      .exact⟨vb (by grind [nZ,qp,Ct,Cu]),g12⟩
     .exact⟨vb (by grind [nZ,qp,Ct,Cu]),g1⟩
    .exact⟨vb (by grind [nZ,qp,Ct,Cu]),g1⟩
   .exact⟨vb (by grind [nZ,qp,Ct,Cu]),g1⟩
  .exact⟨vb (by grind [nZ,qp,Ct,Cu]),g1⟩
 .exact⟨vb (by grind [nZ,qp,Ct,Cu]),g1⟩
end
def gQ(a b:Int):Int:=if a<b then -1 else if b<a then 1 else 0
def O9(a b:Int):Int:=if a=0 then b else a
def jC(a b:ag):Int:=O9 (gQ a.key b.key) (gQ a.c b.c)
def dM{α:Type}(f:α->Int)(l:List α):Nat:=l.countP (λx=>decide (f x<0))
def mU{α:Type}(f:α->Int)(l:List α):Bool:=match l[dM f l]? with|some x=>f x==0|none=>false
theorem wz{a b:Int}:gQ a b<0↔a<b:=by
 unfold gQ;split
 .simp;omega
 .split<;>omega
theorem jq{a b:Int}:gQ a b=0↔a=b:=by
 unfold gQ;split
 .simp;omega
 .split<;>omega
theorem Dz{a b:ag}:jC a b<0↔a.key<b.key\/a.key=b.key/\a.c<b.c:=by
 unfold jC O9;split
 .rename_i h
  rw[jq]at h;rw[wz];omega
 .rename_i h
  rw[jq]at h;rw[wz];omega
theorem IJ{a b:ag}:jC a b=0↔a.key=b.key/\a.c=b.c:=by
 unfold jC O9;split
 .rename_i h
  rw[jq]at h;rw[jq];omega
 .rename_i h
  rw[jq]at h;rw[jq];omega
def Au{α:Type}(f:α->Int)(l:List α):Prop:=∀(i j:Nat) (x y:α),i<=j->l[i]?=some x->l[j]?=some y->f y<0->f x<0
def fT(T:List Row):Prop:=T.Pairwise (λa b=>a.key<b.key)
def iM(D:List ag):Prop:=D.Pairwise (λa b=>a.key<b.key\/a.key=b.key/\a.c<b.c)
theorem nJ{α:Type}{R:α->α->Prop}{l:List α}(h:l.Pairwise R){i j:Nat}{x y:α}(hij:i<j)(hx:l[i]?=some x)(hy:l[j]?=some y):R x y:=by
 obtain⟨hi,rfl⟩:=Jcn.1 hx;obtain⟨hj,rfl⟩:=Jcn.1 hy;exact pairwise_iff_getElem.1 h i j hi hj hij
theorem Kv{T:List Row}(h:fT T)(key:Int):Au (λx:Row=>gQ x.key key) T:=by
 intro i j x y hij hx hy hl;rcases Jg9 hij with h1|rfl
 .have:=nJ h h1 hx hy
  rw[wz]at hl |-;omega
 .rw[hx]at hy;cases hy;exact hl
theorem Rh{D:List ag}(h:iM D)(q:ag):Au (λx:ag=>jC x q) D:=by
 intro i j x y hij hx hy hl;rcases Jg9 hij with h1|rfl
 .have:=nJ h h1 hx hy
  rw[Dz]at hl |-;omega
 .rw[hx]at hy;cases hy;exact hl
theorem DC{α:Type}(f:α->Int)(l:List α):dM f l<=l.length:=countP_le_length
theorem ry{α:Type}(f:α->Int):∀(l:List α),Au f l->(∀(t:Nat) (x:α),t<dM f l->l[t]?=some x->f x<0)/\(∀(t:Nat) (x:α),dM f l<=t->l[t]?=some x->0<=f x)
 | [],_=>⟨λt x _ h=>by simp at h,λt x _ h=>by simp at h⟩
 |a::r,h=>by
  have hr:Au f r:=λi j x y hij hx hy=>h (i+1) (j+1) x y (by omega) (by simpa using hx) (by simpa using hy)
  obtain⟨h1,h2⟩:=ry f r hr;by_cases ha:f a<0
  .have hp:dM f (a::r)=dM f r+1:=by unfold dM;rw[countP_cons_of_pos (by simp[ha])]
   rw[hp];refine⟨λt x ht hx=>?_,λt x ht hx=>?_⟩
   .cases t with
    |zero=>simp at hx;subst hx;exact ha
    |succ t=>exact h1 t x (by omega) (by simpa using hx)
   .cases t with
    |zero=>omega
    |succ t=>exact h2 t x (by omega) (by simpa using hx)
  .have hz:dM f r=0:=by
    unfold dM;rw[countP_eq_zero];intro x hx;obtain⟨t,ht,rfl⟩:=Jga hx;intro hc;exact ha (h 0 (t+1) a r[t] (Jcm _) rfl (by simp[ht]) (by simpa using hc))
   have hp:dM f (a::r)=0:=by
    unfold dM at hz |-;rw[countP_cons_of_neg (by simp[ha]),hz]
   rw[hp];refine⟨λt x ht _=>by omega,λt x ht hx=>?_⟩;cases t with
   |zero=>simp at hx;subst hx;exact Int.not_lt.1 ha
   |succ t=>exact h2 t x (by omega) (by simpa using hx)
def pV{α:Type}(l:List α)(i:Nat)(x:α):List α:=l.take i++(x::l.drop i)
abbrev uT(T:List Row)(key:Int):Nat:=dM (λx:Row=>gQ x.key key) T
abbrev iV(T:List Row)(key:Int):Bool:=mU (λx:Row=>gQ x.key key) T
abbrev xV(D:List ag)(q:ag):Nat:=dM (λx:ag=>jC x q) D
abbrev Fg(D:List ag)(q:ag):Bool:=mU (λx:ag=>jC x q) D
def oN(T:List Row)(key:Int):Int:=if iV T key then((T[uT T key]?).map Row.val).getD 0 else 0
def jD(T:List Row)(key:Int):Int:=if iV T key then 2 else if 8<=T.length then 5 else 2
def jO(T:List Row)(key v:Int):List Row:=if iV T key then T.set (uT T key) ⟨key,v⟩else if 8<=T.length then T else pV T (uT T key) ⟨key,v⟩
def ug(T:List Row)(key:Int):List Row:=if iV T key then T.eraseIdx (uT T key)else T
def gH(D:List ag)(q:ag):List ag:=if Fg D q then D.set (xV D q) q else pV D (xV D q) q
def zq(lo hi:Int)(p:Pc):Bool:=decide (lo<p.f)&&decide (p.f<=hi)
def yE(m:List Pc)(g lo hi:Int):Int:=if own 0 m lo≠g then own 0 m lo else((m.find? (zq lo hi)).map Pc.g).getD 0
def yF(m:List Pc)(g lo hi:Int):Bool:=if own 0 m lo≠g then true else(m.find? (zq lo hi)).isSome
def sB{α:Type}(f:α->Int)(lo:Int)(l:List α):List α:=l.filter λx=>decide (f x<lo)
def sA{α:Type}(f:α->Int)(lo hi:Int)(l:List α):List α:=l.filter λx=>!decide (f x<lo)&&decide (hi<f x)
def sW{α:Type}(f:α->Int)(lo hi:Int)(l:List α):List α:=l.filter λx=>!decide (f x<lo) && !decide (hi<f x)
def Av(T:List Row)(lo hi:Int):List Row:=sB (λx:Row=>x.key) lo T++sA (λx:Row=>x.key) lo hi T
def Aw(D:List ag)(lo hi:Int):List ag:=sB (λx:ag=>x.key) lo D++sA (λx:ag=>x.key) lo hi D
def yG(g j next lo hi:Int)(T:List Row)(D:List ag):Rg:=⟨g,j,next,lo,hi,sW (λx:Row=>x.key) lo hi T,sW (λx:ag=>x.key) lo hi D⟩
def aP(O:List (Int×List Rg))(k:Int):Int×List Rg:=(O[k.toNat]?).getD (0,[])
def gP(s:St)(q:aW):Bool:=!(q.to==s.g)&&decide (q.to<s.n)&&decide ((aP s.O q.to).2.length<4)&&decide ((fC s.M q.key q.hi q.to).length<=8)
def lX(q:aW):ag:=⟨q.c,q.s,q.key,0,false,0,0⟩
def dN(s:St)(q:aW):ag :=
 if q.k=1 then⟨q.c,q.s,q.key,1,iV s.T q.key,oN s.T q.key,0⟩
 else if q.k=2 then⟨q.c,q.s,q.key,jD s.T q.key,false,0,0⟩
 else if q.k=3 then⟨q.c,q.s,q.key,2,false,0,0⟩
 else if gP s q then⟨q.c,q.s,q.key,2,false,0,0⟩else⟨q.c,q.s,q.key,5,false,0,0⟩
def acr(s:St)(q:aW)(D1:List ag):St:={s with T:=Av s.T q.key q.hi,M:=fC s.M q.key q.hi q.to,D:=Aw D1 q.key q.hi,O:=s.O.set q.to.toNat (IntKind.u32.wrap ((aP s.O q.to).1+1),(aP s.O q.to).2++[yG s.g q.to (aP s.O q.to).1 q.key q.hi s.T D1])}
def fP(s:St)(q:aW):St :=
 if q.k=2 then{ s with T:=jO s.T q.key q.v,D:=gH s.D (dN s q)}
 else if q.k=3 then{ s with T:=ug s.T q.key,D:=gH s.D (dN s q)}
 else if q.k=4/\gP s q=true then acr s q (gH s.D (dN s q))
 else{ s with D:=gH s.D (dN s q)}
def vX(g n:Int)(I:List Int)(r:Rg):Bool:=r.dst==g && !(r.src==g)&&decide (r.src<n)&&r.seq==IntKind.u32.wrap (((I[r.src.toNat]?).getD 0)+1)
def mV(s:St)(r:Rg):St :=
 if nY r=true/\vX s.g s.n s.I r=true/\(fC s.M r.lo r.hi s.g).length<=1000 then
  {s with T:=sB (λx:Row=>x.key) r.lo s.T++(r.rows++sA (λx:Row=>x.key) r.lo r.hi s.T),M:=fC s.M r.lo r.hi s.g,D:=sB (λx:ag=>x.key) r.lo s.D++(r.aX++sA (λx:ag=>x.key) r.lo r.hi s.D),I:=s.I.set r.src.toNat r.seq}
 else s
def keepR(sq:Int)(q:List Rg):List Rg:=q.filter λr=>!decide (r.seq<=sq)
def lY(s:St)(peer sq:Int):St:=if peer<s.n then{ s with O:=s.O.set peer.toNat ((aP s.O peer).1,keepR sq (aP s.O peer).2)}else s
def sF(q:aW):Int:=if q.key<q.hi then q.hi else q.key
def iy(s:St)(q:aW):St×ag :=
 if fV q=false then(s,rV)
 else if yF s.M s.g q.key (sF q)=true then(s,⟨q.c,q.s,q.key,3,false,0,yE s.M s.g q.key (sF q)⟩)
 else if Fg s.D (lX q)=true then
  match s.D[xV s.D (lX q)]? with
  |some x=>if x.s<q.s then(fP s q,dN s q)else if x.s=q.s then(s,x)else(s,⟨q.c,q.s,q.key,4,false,0,0⟩)
  |none=>(s,rV)
 else(fP s q,dN s q)
def cB(s:St)(c:MC):St×ag :=
 if c.kind=1 then iy s c.q else if c.kind=2 then(mV s c.r,rV)else if c.kind=3 then(lY s c.peer c.seq,rV)else(s,rV)
def kS(g n:Nat):St:=⟨g,n,[],[⟨0,0⟩],[],replicate n (1,[]),replicate n 0⟩
theorem Wk.snap{w w':World}{br:Nat}{R:MR}(h:Wk (fQ w) br R w'):∃a,RI w' br R a/\(∀x,Own br a x->w.heap.size<=x)/\GB none w w':=by
 obtain⟨a,h⟩:=h;have kp:∀x,x<w.heap.size->w'.heap[x]?=w.heap[x]?/\¬Own br a x:=λx hx=>by
  obtain⟨o,ho⟩:∃o,w.heap[x]?=some o:=⟨w.heap[x],by simp[hx]⟩;obtain⟨h1,h2⟩:=h.pr x o ho;exact⟨h1.trans ho.symm,h2⟩
 refine⟨a,h.ri,λx hx=>?_,h.os,h.out,?_,λx hx _=>(kp x hx).1⟩
 .by_cases hl:x<w.heap.size
  .exact((kp x hl).2 hx).elim
  .omega
 .by_cases h0:w.heap.size=0
  .omega
  .have h1:=(kp (w.heap.size-1) (by omega)).1
   obtain⟨o,ho⟩:∃o,w.heap[w.heap.size-1]?=some o:=⟨w.heap[w.heap.size-1]'(by omega),by simp[show w.heap.size-1<w.heap.size by omega]⟩;rw[ho]at h1;have:=ae h1;omega
theorem j5{w:World}{e:TypeId}{size n:Nat}{v:Value}{xs:List Value}(h:w.ownsRow 0 e size v n xs)(_hn:0<n):∃g cap cur,v=.slice (Pty g) n cap/\w.heap[g]?=some (.cells cur e)/\cur.toList.take (n*size)=xs/\n*size<=cur.size/\n<=cap:=by
 rcases h.2 with⟨_,h1⟩|⟨g,cap,cur,h1,h0,h2,h3,h4,h5,h6⟩
 .omega
 .refine⟨g,cap,cur,h1,h2,h6,?_,h3⟩
  have:=h.1;have h7:=congrArg length h6;rw[Jd6,Array.length_toList]at h7;omega
def Made(sz g j g' i':Nat):Prop:=(g'<g/\i'<sz)\/(g'=g/\i'<j)
structure NV(A:aI)(w wk:World)(n sz g j:Nat)(B:Nat->Nat->Nat)(ad:Nat->Nat->gD):Prop where
 rep:∀g' i',Made sz g j g' i'->RI wk (B g' i') (Fb A g' i' n sz) (ad g' i')
 new:∀g' i' x,Made sz g j g' i'->Own (B g' i') (ad g' i') x->w.heap.size<=x
 sep:∀g1 i1 g2 i2 x,Made sz g j g1 i1->Made sz g j g2 i2->Own (B g1 i1) (ad g1 i1) x->Own (B g2 i2) (ad g2 i2) x->g1=g2/\i1=i2
def ptrs(B:Nat->Nat->Nat)(g j:Nat):List Value:=(List.range j).map λi=>.pointer (some ⟨B g i,0,none⟩)
def Cv(wk:World)(sz g:Nat)(B:Nat->Nat->Nat)(gl:List Value):Prop:=gl.length=g/\∀g',g'<g->∃bs ct cur,gl[g']?=some (.slice (Pty bs) sz ct)/\sz<=ct/\wk.heap[bs]?=some (.cells cur 123)/\∀i,i<sz->cur.toList[i]?=some (.pointer (some ⟨B g' i,0,none⟩))
section
variable{A:aI}{w wk xW:World}{n sz g j:Nat}{B:Nat->Nat->Nat}{ad:Nat->Nat->gD}
theorem NV.keep(h:NV A w wk n sz g j B ad)(k:Kz wk xW)(hb:∀g' i' x,Made sz g j g' i'->Own (B g' i') (ad g' i') x->xW.heap[x]?=wk.heap[x]?):NV A w xW n sz g j B ad:=⟨λg' i' hm=>(h.rep g' i' hm).keep k λx hx=>hb g' i' x hm hx,h.new,h.sep⟩
theorem NV.ay(h:NV A w wk n sz g j B ad)(k:GB none wk xW):NV A w xW n sz g j B ad:=h.keep k.kz λg' i' x hm hx=>k.block x ((h.rep g' i' hm).lt hx) nofun
theorem NV.JF(h:NV A w wk n sz g j B ad){r:Option Nat}(k:GB r wk xW){t:TypeId}(ht:t ∉ OO)(hm:t≠135/\t≠80/\t≠97)(hr:∀x,r=some x->∃c,wk.heap[x]?=some (.cells c t)):NV A w xW n sz g j B ad:=by
 refine h.keep (λt' ht' b c hb=>k.get hb λe=>?_) λg' i' x hM hx=>k.block x ((h.rep g' i' hM).lt hx) λe=>?_
 .obtain⟨c',hc⟩:=hr b e.symm
  rw[hb]at hc;injection hc with hc;injection hc with _ hc;subst hc;exact ht ht'
 .obtain⟨c',hc⟩:=hr x e.symm
  rcases(h.rep g' i' hM).Cs hx hc with q|q|q
  .exact hm.1 q
  .exact hm.2.1 q
  .exact hm.2.2 q
theorem NV.more(h:NV A w wk n sz g j B ad)(hj:j<sz)(gw:GB none w wk){br:Nat}(hW:Wk (fQ wk) br (Fb A g j n sz) xW):∃jV,NV A w xW n sz g (j+1) (fF B g j br) jV/\GB none wk xW:=by
 obtain⟨a,hR,hn,k⟩:=hW.snap;have h1:=h.ay k;have ne:∀{g' i'},Made sz g j g' i'->¬(g'=g/\i'=j):=λhm e=>by unfold Made at hm;omega
 have cs:∀{g' i'},Made sz g (j+1) g' i'->Made sz g j g' i'\/(g'=g/\i'=j):=λ{g' i'} hm=>by unfold Made at hm |-;omega
 refine⟨fF ad g j a,⟨λg' i' hm=>?_,λg' i' x hm hx=>?_,λg1 i1 g2 i2 x m1 m2 o1 o2=>?_⟩,k⟩
 .rcases cs hm with q|⟨rfl,rfl⟩
  .rw[aZ _ _ (ne q),aZ _ _ (ne q)];exact h1.rep g' i' q
  .rw[bL,bL];exact hR
 .rcases cs hm with q|⟨rfl,rfl⟩
  .rw[aZ _ _ (ne q),aZ _ _ (ne q)]at hx;exact h.new g' i' x q hx
  .rw[bL,bL]at hx;have:=hn x hx;have:=gw.size;omega
 .rcases cs m1 with q1|⟨rfl,rfl⟩<;>rcases cs m2 with q2|⟨e2,e2'⟩
  .rw[aZ _ _ (ne q1),aZ _ _ (ne q1)]at o1
   rw[aZ _ _ (ne q2),aZ _ _ (ne q2)]at o2;exact h.sep _ _ _ _ x q1 q2 o1 o2
  .subst e2;subst e2'
   rw[aZ _ _ (ne q1),aZ _ _ (ne q1)]at o1;rw[bL,bL]at o2;have:=hn x o2;have:=(h.rep _ _ q1).lt o1;omega
  .rw[bL,bL]at o1
   rw[aZ _ _ (ne q2),aZ _ _ (ne q2)]at o2;have:=hn x o1;have:=(h.rep _ _ q2).lt o2;omega
  .exact⟨e2.symm,e2'.symm⟩
theorem NV.next(h:NV A w wk n sz g sz B ad):NV A w wk n sz (g+1) 0 B ad:=by
 have e:∀{g' i'},Made sz (g+1) 0 g' i'->Made sz g sz g' i':=λhm=>by unfold Made at hm |-;omega
 exact⟨λg' i' hm=>h.rep g' i' (e hm),λg' i' x hm=>h.new g' i' x (e hm),λg1 i1 g2 i2 x m1 m2=>h.sep g1 i1 g2 i2 x (e m1) (e m2)⟩
theorem WV{br:Nat}:ptrs (fF B g j br) g (j+1)=ptrs B g j++[Ptt br]:=by
 unfold ptrs;rw[Jc2,Jda];congr 1
 .refine map_congr_left λi hi=>?_
  have:=Jc3.1 hi;rw[aZ _ _ (λe=>by omega)]
 .simp[bL]
theorem Cv.upd{gl:List Value}{br:Nat}(h:Cv wk sz g B gl):Cv wk sz g (fF B g j br) gl:=⟨h.1,λg' hg'=>by
 obtain⟨bs,ct,cur,h1,h2,h3,h4⟩:=h.2 g' hg';exact⟨bs,ct,cur,h1,h2,h3,λi hi=>by rw[aZ _ _ (λe=>by omega)];exact h4 i hi⟩⟩
theorem Cv.ay{gl:List Value}(h:Cv wk sz g B gl)(k:GB none wk xW):Cv xW sz g B gl:=⟨h.1,λg' hg'=>by
 obtain⟨bs,ct,cur,h1,h2,h3,h4⟩:=h.2 g' hg';exact⟨bs,ct,cur,h1,h2,k.get h3 nofun,h4⟩⟩
theorem Cv.JF{gl:List Value}(h:Cv wk sz g B gl){r:Option Nat}(k:GB r wk xW){t:TypeId}(ht:t≠123)(hr:∀x,r=some x->∃c,wk.heap[x]?=some (.cells c t)):Cv xW sz g B gl:=⟨h.1,λg' hg'=>by
 obtain⟨bs,ct,cur,h1,h2,h3,h4⟩:=h.2 g' hg';exact⟨bs,ct,cur,h1,h2,k.get h3 λe=>by
  obtain⟨c,hc⟩:=hr bs e.symm;rw[h3]at hc;injection hc with hc;injection hc with _ hc;exact ht hc.symm,h4⟩⟩
end
section
variable{A:aI}(HA:bG A)
include HA
theorem aew(w:World)(n f:Nat)(hn:1<=n/\n<=4)(hf:f<=2):CY 87 #[.int .i64 n,.int .i64 f] w (λv w'=>∃bc,v=.tuple #[Ptt bc,.int .i64 0]/\w.heap.size<=bc/\vL (fQ w) bc (aJ.new A n (2*f+1)) w'/\Kz w w'):=by
 have q1:decide ((n:Int)<1)=false:=by simp;omega
 have q2:decide ((n:Int)>4)=false:=by simp;omega
 have q4:decide ((f:Int)>2)=false:=by simp;omega
 refine aj Tryz.func87 rfl rfl ?_;refine ah (λc=>?_) (λc=>(by rw[q1]at c;cases c));refine ah (λc=>?_) (λc=>(by rw[q2]at c;cases c));refine ah (λc=>(by rw[q4]at c;cases c)) (λc=>?_);refine λw1 bc m1 g1 l1=>?_
 refine⟨λm s wk=>∃(g:Nat) (gv:Value) (gl:List Value) (B:Nat->Nat->Nat) (ad:Nat->Nat->gD),m=n-g/\g<=n/\s=[(0,.int .i64 n),(1,.int .i64 f),(6,Ptt bc),(27,.int .i64 n),(28,.int .i64 g)]/\wk.heap[bc]?=some (.cells #[gv,Ptz] 118)/\wk.ownsRow 0 159 1 gv g gl/\(∀x,gv.ownBlock=some x->w.heap.size<=x)/\Cv wk (2*f+1) g B gl/\NV A w wk n (2*f+1) g 0 B ad/\GB none w wk,⟨_,_,⟨0,Ptz,[],λ_ _=>0,λ_ _=>⟨0,0,0,0,0,0,Ptz,Ptz,Ptz,Ptz,Ptz,Ptz,.slice none 0 0⟩,rfl,Jcm _,rfl,m1,eu _ _ _,nofun,⟨rfl,λg' hg'=>(by omega)⟩,⟨λg' i' hm=>(by unfold Made at hm;omega),λg' i' x hm=>(by unfold Made at hm;omega),λg' i' _ _ x hm=>(by unfold Made at hm;omega)⟩,g1⟩,sb rfl⟩,?_⟩;rintro m s wg ⟨g,gv,gl,B,ad,rfl,hg,rfl,hc,hgo,hgn,xX,JK,hgb⟩;refine ah (λc=>?_) (λc=>?_)
 .have c1:g<n:=by simp at c;omega
  refine⟨by omega,by omega,?_⟩;refine⟨λm s wk=>∃(j:Nat) (av:Value) (B:Nat->Nat->Nat) (ad:Nat->Nat->gD),m=2*f+1-j/\j<=2*f+1/\s=[(0,.int .i64 n),(1,.int .i64 f),(6,Ptt bc),(7,.int .i64 g),(8,av),(27,.int .i64 n),(28,.int .i64 g),(33,.int .i64 (2*(f:Int)+1)),(34,.int .i64 j)]/\wk.ownsRow 0 123 1 av j (ptrs B g j)/\(∀x,av.ownBlock=some x->wg.heap.size<=x)/\Cv wk (2*f+1) g B gl/\NV A w wk n (2*f+1) g j B ad/\GB none wg wk,⟨_,_,⟨0,Ptz,B,ad,rfl,Jcm _,rfl,eu _ _ _,nofun,xX,JK,GB.refl _ _⟩,sb rfl⟩,?_⟩;have ag4:=xX;clear JK xX;rintro m s wk ⟨j,av,B,ad,rfl,hj,rfl,hao,han,xX,JK,ny⟩;refine ah (λc=>?_) (λc=>?_)
  .have c2:j<2*f+1:=by simp at c;omega
   refine .inl ⟨by omega,.inl ⟨by omega,λw2 b2 m2 g2 l2=>⟨_,_,_,m2,rfl,rfl,λw3 m3 g3=>?_⟩⟩⟩;have g13:GB none wk w3:=g2.new g3 l2;refine⟨_,_,m3,[.int .u8 g,.int .u8 j],rfl,rfl,by omega,by omega,_,acg HA g j n (2*f+1) c1 hn.2,?_⟩;rintro _ w4 ⟨br,rfl,hb,hW,k4⟩;have WW:=JK.ay g13;obtain⟨jV,WX,uQ⟩:=WW.more c2 ((hgb.trans ny).trans g13) hW;have gk4:GB none wk w4:=g13.trans uQ;refine λw5 b5 m5 g5 l5=>?_
   have Yw:GB none wk w5:=gk4.trans g5;obtain⟨aa,ac,rfl⟩:=af hao;have acu:=ax hao (w1:=w5) λx hx=>by obtain⟨cur,hc⟩:=au hao hx;exact Yw.block x (ae hc) nofun
   refine⟨_,[Ptt br],acu,⟨_,_,m5,rfl,rfl,rfl⟩,by omega,λv' w6 Pb g6 n6=>?_⟩;refine⟨by omega,_,_,⟨j+1,v',fF B g j br,jV,rfl,by omega,rfl,by rw[WV];exact Pb,λx hx=>(n6 x hx).elim (han x) λhl=>?_,?_,?_,GB.ownB (ny.trans Yw) g6 han⟩,(sb rfl),by omega⟩
   .have:=(ny.trans Yw).size;omega
   .refine⟨xX.1,λg' hg'=>?_⟩
    obtain⟨bs,ct,cur,h1,h2,h3,h4⟩:=(xX.ay Yw).upd.2 g' hg';refine⟨bs,ct,cur,h1,h2,g6.get h3 λe=>?_,h4⟩;have e1:=han bs e.symm;obtain⟨bs',Yx,cur',p1,p2,p3,p4⟩:=ag4.2 g' hg';rw[h1]at p1;injection p1 with p1;injection p1 with p1;injection p1 with p1;injection p1 with p1;have:=ae p3;omega
   .exact(WX.ay g5).JF g6 (t:=123) (by decide) ⟨by decide,by decide,by decide⟩ λx hx=>au acu hx
  .have c2:j=2*f+1:=by simp at c;omega
   subst c2;obtain⟨ga,gc,rfl⟩:=af hgo;have hck:=ny.get hc nofun;have hgo':=ax hgo (w1:=wk) λx hx=>by obtain⟨cur,hc⟩:=au hgo hx;exact ny.block x (ae hc) nofun
   obtain⟨bs,cap,cur,rfl,aR,htk,hsz,hcap⟩:=j5 hao (by omega);refine⟨_,_,hck,_,rfl,λw2 b2 m2 g2 l2=>?_⟩;have Mw:=ax hgo' (w1:=w2) λx hx=>by obtain⟨cur,hc⟩:=au hgo' hx;exact g2.block x (ae hc) nofun
   refine⟨_,[.slice (Pty bs) (2*f+1) cap],Mw,⟨_,_,m2,rfl,rfl,rfl⟩,by omega,λUh w3 ho3 g3 n3=>?_⟩;have hc3:w3.heap[bc]?=_:=g3.get (g2.get hck nofun) λe=>by
    obtain⟨c,hc'⟩:=au Mw e.symm;rw[g2.get hck nofun]at hc';injection hc' with hc';injection hc' with _ hc';revert hc';decide
   obtain⟨na,nc,rfl⟩:=af ho3;refine⟨_,_,_,hc3,rfl,rfl,λw4 m4 g4=>?_⟩;have lbc:w.heap.size<=bc:=l1;have G2:GB none w w2:=(hgb.trans ny).trans g2;have G3:GB none w w3:=GB.ownB G2 g3 hgn;have G4:GB none w w4:=G3.new g4 lbc;have ag5:=xX.ay g2;have ag6:=ag5.JF g3 (t:=159) (by decide) λx hx=>au Mw hx
   have ag7:=ag6.JF g4 (t:=118) (by decide) λx hx=>⟨_,by cases hx;exact hc3⟩
   have WW:=(JK.ay g2).JF g3 (t:=159) (by decide) ⟨by decide,by decide,by decide⟩ λx hx=>au Mw hx
   have WX:=WW.JF g4 (t:=118) (by decide) ⟨by decide,by decide,by decide⟩ λx hx=>⟨_,by cases hx;exact hc3⟩
   have ag8:w4.heap[bs]?=some (.cells cur 123):=g4.get (g3.get (g2.get aR nofun) λe=>by
    obtain⟨c,hc'⟩:=au Mw e.symm;rw[g2.get aR nofun]at hc';injection hc' with hc';injection hc' with _ hc';revert hc';decide) λe=>by
    cases e
    rw[aR]at hck;injection hck with hck;injection hck with _ hck;revert hck;decide
   refine⟨by omega,_,_,⟨g+1,_,gl++[.slice (Pty bs) (2*f+1) cap],B,ad,rfl,by omega,rfl,m4,ax ho3 λx hx=>?_,λx hx=>(n3 x hx).elim (hgn x) λhl=>?_,⟨?_,λg' hg'=>?_⟩,WX.next,G4⟩,(sb rfl),by omega⟩
   .obtain⟨c,hc'⟩:=au ho3 hx
    refine g4.block x (ae hc') λe=>?_
    cases e
    rw[hc3]at hc';injection hc' with hc';injection hc' with _ hc';revert hc';decide
   .have:=G2.size;omega
   .rw[Jc6,xX.1];rfl
   .by_cases e:g'<g
    .obtain⟨bs',Yx,cur',p1,p2,p3,p4⟩:=ag7.2 g' e
     exact⟨bs',Yx,cur',by rw[Jc8 (by rw[xX.1];exact e)];exact p1,p2,p3,p4⟩
    .have e:g'=g:=by omega
     subst e;refine⟨bs,cap,cur,by rw[Jc9 (by rw[xX.1];exact Jb0 _),xX.1,Nat.sub_self];rfl,?_,ag8,λi hi=>?_⟩
     .exact hcap
     .have:=congrArg (λl=>l[i]?) htk
      simp only[Jfq]at this;rw[Jc5,Jb6 hi]at this;rw[this];simp[ptrs,hi]
 .have c1:g=n:=by simp at c;omega
  subst c1;obtain⟨bg,cap,cur,rfl,aR,htk,hsz,hcap⟩:=j5 hgo (by omega);refine⟨bc,rfl,l1,⟨_,_,B,ad,⟨⟨hc,eu _ _ _,Jcm _,⟨bg,cap,cur,_,rfl,hcap,aR,by decide,λg' hg'=>?_⟩,λg' i' hg' hi'=>JK.rep g' i' (.inl ⟨hg',hi'⟩),λg1 i1 g2 i2 x p1 p2 p3 p4=>JK.sep g1 i1 g2 i2 x (.inl ⟨p1,p2⟩) (.inl ⟨p3,p4⟩),nofun⟩,λb o hb=>⟨hgb.get hb nofun,λhC=>?_⟩,hgb.os,hgb.out⟩⟩,hgb.kz⟩
  .obtain⟨bs',Yx,cur',p1,p2,p3,p4⟩:=xX.2 g' hg'
   refine⟨bs',Yx,cur',_,?_,p2,p3,by decide,p4⟩;have hg'':g'<g:=hg';refine Eq.trans ?_ p1;rw[<-htk,Jc5,Jb6 (by omega)]
  .have hl:=ae hb
   rcases hC with e|e|⟨g',i',p1,p2,p3⟩
   .have lbc:w.heap.size<=bc:=l1
    omega
   .cases e
   .have:=JK.new g' i' b (.inl ⟨p1,p2⟩) p3;omega
end
end
