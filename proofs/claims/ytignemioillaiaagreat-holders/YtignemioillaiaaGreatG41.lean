/- Lemmas. -/
import Derived.Test.YtignemioillaiaaGreatG40
namespace Go.Proofs.YtignemioillaiaaGreat
set_option maxHeartbeats 8000000
set_option maxRecDepth 100000
open List
section
open Go Go.Conc
section
variable{w:World}{m:MM}{rv dv vv rv' eU:Value}
theorem acD{q:bQ}{p:aA}{b:bF}{s:Nat}{c:MC}{vs:List MV}{r:Rg}{peer seq:Int}(hc:aM w c.r rv dv)(hv:bY w vv vs)(hr:aM w r rv' eU):ag Tryz.prog 189 #[.agg (dS ⟨1,q,p,b,s,c,vs,r,peer,seq⟩ rv dv vv rv' eU).toArray] w (λv w'=>v=.bool (fF ⟨1,q,p,b,s,c,vs,r,peer,seq⟩)/\GB none w w'):=by
 obtain⟨_,_,_,_,_,_,rfl,rfl⟩:=hc.sl;obtain⟨_,_,_,_,_,_,rfl,rfl⟩:=hr.sl;obtain⟨_,_,rfl⟩:=hv.sl;refine ah Tryz.func189 rfl rfl ?_;refine λw1 b1 m1 g1 l1=>⟨_,_,m1,_,rfl,?_⟩
 refine⟨_,_,m1,q.cells,rfl,rfl,_,zz w1 q,?_⟩;rintro _ w2 ⟨rfl,g2⟩;have m1:=g2.get m1 nofun;have G:=g1.trans g2;refine⟨_,_,_,m1,rfl,rfl,λw3 m1 g3=>?_⟩;have G:=G.new g3 l1;obtain⟨a,ha⟩:∃a,jN q=a:=⟨_,rfl⟩;rw[ha];cases a
 ·exact⟨congrArg Value.bool (by simp[fF,ha]),G⟩
 ·refine⟨_,_,m1,dS ⟨1,rf,p,b,s,c,vs,r,peer,seq⟩ _ _ _ _ _,rfl,rfl,_,ig (m:=⟨1,rf,p,b,s,c,vs,r,peer,seq⟩) (hc.kz G.kz) (hv.kz G.kz) (hr.kz G.kz),?_⟩
  rintro _ w9 ⟨rfl,g9⟩;exact⟨congrArg Value.bool (by simp[fF,ha]),G.trans g9⟩
theorem acE{q:bQ}{p:aA}{b:bF}{s:Nat}{c:MC}{vs:List MV}{r:Rg}{peer seq:Int}(hc:aM w c.r rv dv)(hv:bY w vv vs)(hr:aM w r rv' eU):ag Tryz.prog 189 #[.agg (dS ⟨2,q,p,b,s,c,vs,r,peer,seq⟩ rv dv vv rv' eU).toArray] w (λv w'=>v=.bool (fF ⟨2,q,p,b,s,c,vs,r,peer,seq⟩)/\GB none w w'):=by
 obtain⟨_,_,_,_,_,_,rfl,rfl⟩:=hc.sl;obtain⟨_,_,_,_,_,_,rfl,rfl⟩:=hr.sl;obtain⟨_,_,rfl⟩:=hv.sl;refine ah Tryz.func189 rfl rfl ?_;refine λw1 b1 m1 g1 l1=>⟨_,_,m1,_,rfl,?_⟩
 refine⟨_,_,m1,p.cells,rfl,rfl,_,KE w1 p,?_⟩;rintro _ w2 ⟨rfl,g2⟩;have m1:=g2.get m1 nofun;have G:=g1.trans g2;refine⟨_,_,_,m1,rfl,rfl,λw3 m1 g3=>?_⟩;have G:=G.new g3 l1;obtain⟨a,ha⟩:∃a,uQ p=a:=⟨_,rfl⟩;rw[ha];cases a
 ·exact⟨congrArg Value.bool (by simp[fF,ha]),G⟩
 ·refine⟨_,_,m1,dS ⟨2,q,uk,b,s,c,vs,r,peer,seq⟩ _ _ _ _ _,rfl,rfl,_,ig (m:=⟨2,q,uk,b,s,c,vs,r,peer,seq⟩) (hc.kz G.kz) (hv.kz G.kz) (hr.kz G.kz),?_⟩
  rintro _ w9 ⟨rfl,g9⟩;exact⟨congrArg Value.bool (by simp[fF,ha]),G.trans g9⟩
theorem acF{q:bQ}{p:aA}{b:bF}{s:Nat}{c:MC}{vs:List MV}{r:Rg}{peer seq:Int}(hc:aM w c.r rv dv)(hv:bY w vv vs)(hr:aM w r rv' eU):ag Tryz.prog 189 #[.agg (dS ⟨3,q,p,b,s,c,vs,r,peer,seq⟩ rv dv vv rv' eU).toArray] w (λv w'=>v=.bool (fF ⟨3,q,p,b,s,c,vs,r,peer,seq⟩)/\GB none w w'):=by
 obtain⟨_,_,_,_,_,_,rfl,rfl⟩:=hc.sl;obtain⟨_,_,_,_,_,_,rfl,rfl⟩:=hr.sl;obtain⟨_,_,rfl⟩:=hv.sl;refine ah Tryz.func189 rfl rfl ?_;refine λw1 b1 m1 g1 l1=>⟨_,_,m1,_,rfl,?_⟩
 have G:=g1;refine⟨_,_,_,m1,rfl,rfl,λw3 m1 g3=>?_⟩;have G:=G.new g3 l1;refine⟨_,_,m1,dS ⟨3,q,p,⟨0,0⟩,s,c,vs,r,peer,seq⟩ _ _ _ _ _,rfl,rfl,_,ig (m:=⟨3,q,p,⟨0,0⟩,s,c,vs,r,peer,seq⟩) (hc.kz G.kz) (hv.kz G.kz) (hr.kz G.kz),?_⟩;rintro _ w9 ⟨rfl,g9⟩;exact⟨congrArg Value.bool (by simp[fF]),G.trans g9⟩
theorem acG{q:bQ}{p:aA}{b:bF}{s:Nat}{c:MC}{vs:List MV}{r:Rg}{peer seq:Int}(hc:aM w c.r rv dv)(hv:bY w vv vs)(hr:aM w r rv' eU):ag Tryz.prog 189 #[.agg (dS ⟨4,q,p,b,s,c,vs,r,peer,seq⟩ rv dv vv rv' eU).toArray] w (λv w'=>v=.bool (fF ⟨4,q,p,b,s,c,vs,r,peer,seq⟩)/\GB none w w'):=by
 obtain⟨_,_,_,_,_,_,rfl,rfl⟩:=hc.sl;obtain⟨_,_,_,_,_,_,rfl,rfl⟩:=hr.sl;obtain⟨_,_,rfl⟩:=hv.sl;refine ah Tryz.func189 rfl rfl ?_;refine λw1 b1 m1 g1 l1=>⟨_,_,m1,_,rfl,?_⟩
 refine⟨_,_,m1,_,rfl,_,U3 (hv.kz g1.kz),?_⟩;rintro _ w2 ⟨rfl,g2⟩;have m1:=g2.get m1 nofun;have G:=g1.trans g2;refine⟨_,_,_,m1,rfl,rfl,λw3 m1 g3=>?_⟩;have G:=G.new g3 l1;refine⟨_,_,_,m1,rfl,rfl,λw4 m1 g4=>?_⟩;have G:=G.new g4 l1;obtain⟨a,ha⟩:∃a,nU vs=a:=⟨_,rfl⟩;rw[ha];cases a
 ·exact⟨congrArg Value.bool (by simp[fF,ha]),G⟩
 ·refine⟨_,_,m1,dS ⟨4,q,p,⟨0,0⟩,s,c,[],r,peer,seq⟩ _ _ Ptz _ _,rfl,rfl,_,ig (m:=⟨4,q,p,⟨0,0⟩,s,c,[],r,peer,seq⟩) (hc.kz G.kz) (bY.zero _) (hr.kz G.kz),?_⟩
  rintro _ w9 ⟨rfl,g9⟩;exact⟨congrArg Value.bool (by simp[fF,ha]),G.trans g9⟩
theorem acH{q:bQ}{p:aA}{b:bF}{s:Nat}{c:MC}{vs:List MV}{r:Rg}{peer seq:Int}(hc:aM w c.r rv dv)(hv:bY w vv vs)(hr:aM w r rv' eU):ag Tryz.prog 189 #[.agg (dS ⟨5,q,p,b,s,c,vs,r,peer,seq⟩ rv dv vv rv' eU).toArray] w (λv w'=>v=.bool (fF ⟨5,q,p,b,s,c,vs,r,peer,seq⟩)/\GB none w w'):=by
 obtain⟨_,_,_,_,_,_,rfl,rfl⟩:=hc.sl;obtain⟨_,_,_,_,_,_,rfl,rfl⟩:=hr.sl;obtain⟨_,_,rfl⟩:=hv.sl;refine ah Tryz.func189 rfl rfl ?_;refine λw1 b1 m1 g1 l1=>⟨_,_,m1,_,rfl,?_⟩
 have G:=g1;refine⟨_,_,_,m1,rfl,rfl,λw3 m1 g3=>?_⟩;have G:=G.new g3 l1;refine⟨_,_,m1,dS ⟨5,q,p,⟨0,0⟩,s,c,vs,r,peer,seq⟩ _ _ _ _ _,rfl,rfl,_,ig (m:=⟨5,q,p,⟨0,0⟩,s,c,vs,r,peer,seq⟩) (hc.kz G.kz) (hv.kz G.kz) (hr.kz G.kz),?_⟩;rintro _ w9 ⟨rfl,g9⟩;exact⟨congrArg Value.bool (by simp[fF]),G.trans g9⟩
theorem acI{q:bQ}{p:aA}{b:bF}{s:Nat}{c:MC}{vs:List MV}{r:Rg}{peer seq:Int}(hc:aM w c.r rv dv)(hv:bY w vv vs)(hr:aM w r rv' eU):ag Tryz.prog 189 #[.agg (dS ⟨6,q,p,b,s,c,vs,r,peer,seq⟩ rv dv vv rv' eU).toArray] w (λv w'=>v=.bool (fF ⟨6,q,p,b,s,c,vs,r,peer,seq⟩)/\GB none w w'):=by
 obtain⟨_,_,_,_,_,_,rfl,rfl⟩:=hc.sl;obtain⟨_,_,_,_,_,_,rfl,rfl⟩:=hr.sl;obtain⟨_,_,rfl⟩:=hv.sl;refine ah Tryz.func189 rfl rfl ?_;refine λw1 b1 m1 g1 l1=>⟨_,_,m1,_,rfl,?_⟩
 refine⟨_,_,m1,dC c _ _,rfl,rfl,_,zC (c:=c) (hc.kz g1.kz),?_⟩;rintro _ w2 ⟨rfl,g2⟩;have m1:=g2.get m1 nofun;have G:=g1.trans g2;refine⟨_,_,_,m1,rfl,rfl,λw3 m1 g3=>?_⟩;have G:=G.new g3 l1;refine⟨_,_,_,m1,rfl,rfl,λw4 m1 g4=>?_⟩;have G:=G.new g4 l1;refine⟨_,_,_,m1,rfl,rfl,λw5 m1 g5=>?_⟩;have G:=G.new g5 l1;obtain⟨a,ha⟩:∃a,lV c=a:=⟨_,rfl⟩;rw[ha];cases a
 ·exact⟨congrArg Value.bool (by simp[fF,ha]),G⟩
 ·refine⟨_,_,m1,dS ⟨6,q,p,⟨0,0⟩,0,nP,vs,r,peer,seq⟩ Ptz Ptz _ _ _,rfl,rfl,_,ig (m:=⟨6,q,p,⟨0,0⟩,0,nP,vs,r,peer,seq⟩) (aM.zero _) (hv.kz G.kz) (hr.kz G.kz),?_⟩
  rintro _ w9 ⟨rfl,g9⟩;exact⟨congrArg Value.bool (by simp[fF,ha]),G.trans g9⟩
theorem acJ{q:bQ}{p:aA}{b:bF}{s:Nat}{c:MC}{vs:List MV}{r:Rg}{peer seq:Int}(hc:aM w c.r rv dv)(hv:bY w vv vs)(hr:aM w r rv' eU):ag Tryz.prog 189 #[.agg (dS ⟨7,q,p,b,s,c,vs,r,peer,seq⟩ rv dv vv rv' eU).toArray] w (λv w'=>v=.bool (fF ⟨7,q,p,b,s,c,vs,r,peer,seq⟩)/\GB none w w'):=by
 obtain⟨_,_,_,_,_,_,rfl,rfl⟩:=hc.sl;obtain⟨_,_,_,_,_,_,rfl,rfl⟩:=hr.sl;obtain⟨_,_,rfl⟩:=hv.sl;refine ah Tryz.func189 rfl rfl ?_;refine λw1 b1 m1 g1 l1=>⟨_,_,m1,_,rfl,?_⟩
 have G:=g1;refine⟨_,_,_,m1,rfl,rfl,λw3 m1 g3=>?_⟩;have G:=G.new g3 l1;refine⟨_,_,_,m1,rfl,rfl,λw4 m1 g4=>?_⟩;have G:=G.new g4 l1;refine⟨_,_,m1,dS ⟨7,q,p,⟨0,0⟩,0,c,vs,r,peer,seq⟩ _ _ _ _ _,rfl,rfl,_,ig (m:=⟨7,q,p,⟨0,0⟩,0,c,vs,r,peer,seq⟩) (hc.kz G.kz) (hv.kz G.kz) (hr.kz G.kz),?_⟩;rintro _ w9 ⟨rfl,g9⟩;exact⟨congrArg Value.bool (by simp[fF]),G.trans g9⟩
theorem acK{q:bQ}{p:aA}{b:bF}{s:Nat}{c:MC}{vs:List MV}{r:Rg}{peer seq:Int}(hc:aM w c.r rv dv)(hv:bY w vv vs)(hr:aM w r rv' eU):ag Tryz.prog 189 #[.agg (dS ⟨8,q,p,b,s,c,vs,r,peer,seq⟩ rv dv vv rv' eU).toArray] w (λv w'=>v=.bool (fF ⟨8,q,p,b,s,c,vs,r,peer,seq⟩)/\GB none w w'):=by
 obtain⟨_,_,_,_,_,_,rfl,rfl⟩:=hc.sl;obtain⟨_,_,_,_,_,_,rfl,rfl⟩:=hr.sl;obtain⟨_,_,rfl⟩:=hv.sl;refine ah Tryz.func189 rfl rfl ?_;refine λw1 b1 m1 g1 l1=>⟨_,_,m1,_,rfl,?_⟩
 refine⟨_,_,m1,dC c _ _,rfl,rfl,_,zC (c:=c) (hc.kz g1.kz),?_⟩;rintro _ w2 ⟨rfl,g2⟩;have m1:=g2.get m1 nofun;have G:=g1.trans g2;refine⟨_,_,_,m1,rfl,rfl,λw3 m1 g3=>?_⟩;have G:=G.new g3 l1;refine⟨_,_,_,m1,rfl,rfl,λw4 m1 g4=>?_⟩;have G:=G.new g4 l1;obtain⟨a,ha⟩:∃a,lV c=a:=⟨_,rfl⟩;rw[ha];cases a
 ·exact⟨congrArg Value.bool (by simp[fF,ha]),G⟩
 ·refine⟨_,_,m1,dS ⟨8,q,p,b,0,nP,vs,r,peer,seq⟩ Ptz Ptz _ _ _,rfl,rfl,_,ig (m:=⟨8,q,p,b,0,nP,vs,r,peer,seq⟩) (aM.zero _) (hv.kz G.kz) (hr.kz G.kz),?_⟩
  rintro _ w9 ⟨rfl,g9⟩;exact⟨congrArg Value.bool (by simp[fF,ha]),G.trans g9⟩
theorem acL{q:bQ}{p:aA}{b:bF}{s:Nat}{c:MC}{vs:List MV}{r:Rg}{peer seq:Int}(hc:aM w c.r rv dv)(hv:bY w vv vs)(hr:aM w r rv' eU):ag Tryz.prog 189 #[.agg (dS ⟨9,q,p,b,s,c,vs,r,peer,seq⟩ rv dv vv rv' eU).toArray] w (λv w'=>v=.bool (fF ⟨9,q,p,b,s,c,vs,r,peer,seq⟩)/\GB none w w'):=by
 obtain⟨_,_,_,_,_,_,rfl,rfl⟩:=hc.sl;obtain⟨_,_,_,_,_,_,rfl,rfl⟩:=hr.sl;obtain⟨_,_,rfl⟩:=hv.sl;refine ah Tryz.func189 rfl rfl ?_;refine λw1 b1 m1 g1 l1=>⟨_,_,m1,_,rfl,?_⟩
 refine⟨_,_,m1,eu r _ _,rfl,rfl,_,Ef (r:=r) (hr.kz g1.kz),?_⟩;rintro _ w2 ⟨rfl,g2⟩;have m1:=g2.get m1 nofun;have G:=g1.trans g2;refine⟨_,_,_,m1,rfl,rfl,λw3 m1 g3=>?_⟩;have G:=G.new g3 l1;obtain⟨a,ha⟩:∃a,oO r=a:=⟨_,rfl⟩;rw[ha];cases a
 ·exact⟨congrArg Value.bool (by simp[fF,ha]),G⟩
 ·refine⟨_,_,m1,dS ⟨9,q,p,b,s,c,vs,qF,peer,seq⟩ _ _ _ Ptz Ptz,rfl,rfl,_,ig (m:=⟨9,q,p,b,s,c,vs,qF,peer,seq⟩) (hc.kz G.kz) (hv.kz G.kz) (aM.zero _),?_⟩
  rintro _ w9 ⟨rfl,g9⟩;exact⟨congrArg Value.bool (by simp[fF,ha]),G.trans g9⟩
theorem abl{q:bQ}{p:aA}{b:bF}{s:Nat}{c:MC}{vs:List MV}{r:Rg}{peer seq:Int}(hc:aM w c.r rv dv)(hv:bY w vv vs)(hr:aM w r rv' eU):ag Tryz.prog 189 #[.agg (dS ⟨10,q,p,b,s,c,vs,r,peer,seq⟩ rv dv vv rv' eU).toArray] w (λv w'=>v=.bool (fF ⟨10,q,p,b,s,c,vs,r,peer,seq⟩)/\GB none w w'):=by
 obtain⟨_,_,_,_,_,_,rfl,rfl⟩:=hc.sl;obtain⟨_,_,_,_,_,_,rfl,rfl⟩:=hr.sl;obtain⟨_,_,rfl⟩:=hv.sl;refine ah Tryz.func189 rfl rfl ?_;refine λw1 b1 m1 g1 l1=>⟨_,_,m1,_,rfl,?_⟩
 refine⟨_,_,m1,_,rfl,_,qm w1 _,?_⟩;rintro _ w2 ⟨rfl,rfl⟩;have G:=g1;refine⟨_,_,_,m1,rfl,rfl,λw3 m1 g3=>?_⟩;have G:=G.new g3 l1;refine⟨_,_,_,m1,rfl,rfl,λw4 m1 g4=>?_⟩;have G:=G.new g4 l1;obtain⟨a,ha⟩:∃a,decide (peer<4)=a:=⟨_,rfl⟩;rw[ha];cases a
 ·exact⟨congrArg Value.bool (by simp[fF,ha]),G⟩
 ·refine⟨_,_,m1,dS ⟨10,q,p,b,s,c,vs,r,0,0⟩ _ _ _ _ _,rfl,rfl,_,ig (m:=⟨10,q,p,b,s,c,vs,r,0,0⟩) (hc.kz G.kz) (hv.kz G.kz) (hr.kz G.kz),?_⟩
  rintro _ w9 ⟨rfl,g9⟩;exact⟨congrArg Value.bool (by simp[fF,ha]),G.trans g9⟩
theorem PW(hc:aM w m.c.r rv dv)(hv:bY w vv m.vs)(hr:aM w m.r rv' eU):ag Tryz.prog 189 #[.agg (dS m rv dv vv rv' eU).toArray] w (λv w'=>v=.bool (fF m)/\GB none w w'):=by
 obtain⟨k,q,p,b,s,c,vs,r,peer,seq⟩:=m;by_cases k1:k=1
 ·subst k1;exact acD hc hv hr
 by_cases k2:k=2
 ·subst k2;exact acE hc hv hr
 by_cases k3:k=3
 ·subst k3;exact acF hc hv hr
 by_cases k4:k=4
 ·subst k4;exact acG hc hv hr
 by_cases k5:k=5
 ·subst k5;exact acH hc hv hr
 by_cases k6:k=6
 ·subst k6;exact acI hc hv hr
 by_cases k7:k=7
 ·subst k7;exact acJ hc hv hr
 by_cases k8:k=8
 ·subst k8;exact acK hc hv hr
 by_cases k9:k=9
 ·subst k9;exact acL hc hv hr
 by_cases k10:k=10
 ·subst k10;exact abl hc hv hr
 obtain⟨_,_,_,_,_,_,rfl,rfl⟩:=hc.sl;obtain⟨_,_,_,_,_,_,rfl,rfl⟩:=hr.sl;obtain⟨_,_,rfl⟩:=hv.sl;refine ah Tryz.func189 rfl rfl ?_;refine λw1 b1 m1 g1 l1=>⟨_,_,m1,_,rfl,?_⟩
 refine aj (λe=>absurd (by simpa using e) k1) (λ_=>?_);refine aj (λe=>absurd (by simpa using e) k2) (λ_=>?_);refine aj (λe=>absurd (by simpa using e) k3) (λ_=>?_);refine aj (λe=>absurd (by simpa using e) k5) (λ_=>?_);refine aj (λe=>absurd (by simpa using e) k4) (λ_=>?_);refine aj (λe=>absurd (by simpa using e) k6) (λ_=>?_);refine aj (λe=>absurd (by simpa using e) k7) (λ_=>?_);refine aj (λe=>absurd (by simpa using e) k8) (λ_=>?_);refine aj (λe=>absurd (by simpa using e) k9) (λ_=>?_);refine aj (λe=>absurd (by simpa using e) k10) (λ_=>?_);exact⟨congrArg Value.bool (by simp[fF,k1,k2,k3,k4,k5,k6,k7,k8,k9,k10]),g1⟩
end
def dW(l:List Nat):MM×List Nat:=nx 1 l λk l =>
 if k=1 then rn p9 l λq l=>({ aN k with q:=q },l)
 else if k=2 then rn mE l λp l=>({ aN k with p:=p },l)
 else if k=3 then rn iH l λb l=>({ aN k with b:=b },l)
 else if k=5 then rn iH l λb l=>({ aN k with b:=b },l)
 else if k=4 then rn iH l λb l=>rn (jE nZ) l λvs l=>({ aN k with b:=b,vs:=vs },l)
 else if k=6 then rn iH l λb l=>nx 4 l λs l=>rn nK l λc l=>({ aN k with b:=b,s:=s,c:=c },l)
 else if k=7 then rn iH l λb l=>nx 4 l λs l=>({ aN k with b:=b,s:=s },l)
 else if k=8 then nx 4 l λs l=>rn nK l λc l=>({ aN k with s:=s,c:=c },l)
 else if k=9 then rn BH l λr l=>({ aN k with r:=r },l)
 else if k=10 then nx 1 l λp l=>nx 4 l λs l=>({ aN k with peer:=p,seq:=s },l)
 else(aN k,l)
theorem bY.bV{w w':World}{v:Value}{l:List MV}{x t:Nat}{c:Array Value}(h:bY w v l)(g:GB (some x) w w')(hx:w.heap[x]? = some (.cells c t))(h1:t≠128)(h2:t≠57)(h3:t≠196):bY w' v l:=by
 obtain⟨ps,a1,a2,a3⟩:=h;exact⟨ps,a1,a2.bV g hx h3,λi y p hy hp=>(a3 i y p hy hp).bV g hx h1 h2⟩
section
variable{w:World}{b:Nat}{l:List Nat}
theorem abm(hs:Src w b l):ag Tryz.prog 161 #[Ptt b] w (λv w'=>∃x l',dW l=(x,l')/\Bh w' v x/\Src w' b l'/\GB (some b) w w'):=by
 refine ah Tryz.func161 rfl rfl ?_;refine λw1 b1 m1 g1 l1=>?_
 refine⟨_,kK (hs.keep (g1.block b hs.lt nofun)),?_⟩;rintro _ w2 ⟨k,l2,ek,ck,rfl,s2,g2⟩;refine λw3 b3 m3 g3 l3=>⟨_,_,_,m3,rfl,rfl,λw4 m4 g4=>?_⟩
 have B:=Bx.aaP hs m1 g1 l1 s2 g2 m3 g3 l3 m4 g4;clear m1 g1 l1 s2 g2 m3 g3 l3 m4 g4;by_cases k1:k=1
 ·subst k1
  refine⟨_,_,B.m2,_,rfl,?_⟩;refine⟨_,RS B.s,?_⟩;rintro _ w3 ⟨q,l3,eq,rfl,s3,g3⟩;replace B:=B.rd s3 g3;clear s3 g3;refine⟨_,_,_,B.m2,rfl,rfl,λw4 m4 g4=>?_⟩;replace B:=B.st m4 g4;clear m4 g4;refine⟨_,_,B.m2,dS { aN 1 with q:=q } Ptz Ptz Ptz Ptz Ptz,rfl,rfl,_,_,_,B.m1,rfl,rfl,λw5 m5 g5=>?_⟩;obtain⟨s5,g5⟩:=B.fin g5;exact⟨_,_,m5,dS { aN 1 with q:=q } Ptz Ptz Ptz Ptz Ptz,rfl,rfl,_,_,by rw[dW,aX ek,if_pos rfl,dP eq];rfl,⟨_,_,_,_,_,rfl,aM.zero _,bY.zero _,aM.zero _⟩,s5,g5⟩
 by_cases k2:k=2
 ·subst k2
  refine⟨_,_,B.m2,_,rfl,?_⟩;refine⟨_,RU B.s,?_⟩;rintro _ w3 ⟨p,l3,ep,rfl,s3,g3⟩;replace B:=B.rd s3 g3;clear s3 g3;refine⟨_,_,_,B.m2,rfl,rfl,λw4 m4 g4=>?_⟩;replace B:=B.st m4 g4;clear m4 g4;refine⟨_,_,B.m2,dS { aN 2 with p:=p } Ptz Ptz Ptz Ptz Ptz,rfl,rfl,_,_,_,B.m1,rfl,rfl,λw5 m5 g5=>?_⟩;obtain⟨s5,g5⟩:=B.fin g5;exact⟨_,_,m5,dS { aN 2 with p:=p } Ptz Ptz Ptz Ptz Ptz,rfl,rfl,_,_,by rw[dW,aX ek,if_neg (by decide),if_pos rfl,dP ep];rfl,⟨_,_,_,_,_,rfl,aM.zero _,bY.zero _,aM.zero _⟩,s5,g5⟩
 by_cases k3:k=3
 ·subst k3
  refine⟨_,_,B.m2,_,rfl,?_⟩;refine⟨_,yG B.s,?_⟩;rintro _ w3 ⟨bb,l3,FM,rfl,s3,g3⟩;replace B:=B.rd s3 g3;clear s3 g3;refine⟨_,_,_,B.m2,rfl,rfl,λw4 m4 g4=>?_⟩;replace B:=B.st m4 g4;clear m4 g4;refine⟨_,_,B.m2,dS { aN 3 with b:=bb } Ptz Ptz Ptz Ptz Ptz,rfl,rfl,_,_,_,B.m1,rfl,rfl,λw5 m5 g5=>?_⟩;obtain⟨s5,g5⟩:=B.fin g5;exact⟨_,_,m5,dS { aN 3 with b:=bb } Ptz Ptz Ptz Ptz Ptz,rfl,rfl,_,_,by rw[dW,aX ek,if_neg (by decide),if_neg (by decide),if_pos rfl,dP FM];rfl,⟨_,_,_,_,_,rfl,aM.zero _,bY.zero _,aM.zero _⟩,s5,g5⟩
 by_cases k5:k=5
 ·subst k5
  refine⟨_,_,B.m2,_,rfl,?_⟩;refine⟨_,yG B.s,?_⟩;rintro _ w3 ⟨bb,l3,FM,rfl,s3,g3⟩;replace B:=B.rd s3 g3;clear s3 g3;refine⟨_,_,_,B.m2,rfl,rfl,λw4 m4 g4=>?_⟩;replace B:=B.st m4 g4;clear m4 g4;refine⟨_,_,B.m2,dS { aN 5 with b:=bb } Ptz Ptz Ptz Ptz Ptz,rfl,rfl,_,_,_,B.m1,rfl,rfl,λw5 m5 g5=>?_⟩;obtain⟨s5,g5⟩:=B.fin g5;exact⟨_,_,m5,dS { aN 5 with b:=bb } Ptz Ptz Ptz Ptz Ptz,rfl,rfl,_,_,by rw[dW,aX ek,if_neg (by decide),if_neg (by decide),if_neg (by decide),if_pos rfl,dP FM];rfl,⟨_,_,_,_,_,rfl,aM.zero _,bY.zero _,aM.zero _⟩,s5,g5⟩
 by_cases k4:k=4
 ·subst k4
  refine⟨_,_,B.m2,_,rfl,?_⟩;refine⟨_,yG B.s,?_⟩;rintro _ w3 ⟨bb,l3,FM,rfl,s3,g3⟩;replace B:=B.rd s3 g3;clear s3 g3;refine⟨_,_,_,B.m2,rfl,rfl,λw4 m4 g4=>?_⟩;replace B:=B.st m4 g4;clear m4 g4;refine⟨_,Vy B.s,?_⟩;rintro vv w3 ⟨vs,l3,evs,hv,s3,g3⟩;obtain⟨va,vc,rfl⟩:=hv.sl;replace B:=B.rd s3 g3;clear s3 g3;refine⟨_,_,_,B.m2,rfl,rfl,λw4 m4 g4=>?_⟩;replace hv:=hv.bV g4 B.m2 (by decide) (by decide) (by decide);replace B:=B.st m4 g4;clear m4 g4;refine⟨_,_,B.m2,dS { aN 4 with b:=bb,vs:=vs } Ptz Ptz (.slice va vs.length vc) Ptz Ptz,rfl,rfl,_,_,_,B.m1,rfl,rfl,λw5 m5 g5=>?_⟩;replace hv:=hv.bV g5 B.m1 (by decide) (by decide) (by decide);obtain⟨s5,g5⟩:=B.fin g5;exact⟨_,_,m5,dS { aN 4 with b:=bb,vs:=vs } Ptz Ptz (.slice va vs.length vc) Ptz Ptz,rfl,rfl,_,_,by rw[dW,aX ek,if_neg (by decide),if_neg (by decide),if_neg (by decide),if_neg (by decide),if_pos rfl,dP FM,dP evs];rfl,⟨_,_,_,_,_,rfl,aM.zero _,hv,aM.zero _⟩,s5,g5⟩
 by_cases k6:k=6
 ·subst k6
  refine⟨_,_,B.m2,_,rfl,?_⟩;refine⟨_,yG B.s,?_⟩;rintro _ w3 ⟨bb,l3,FM,rfl,s3,g3⟩;replace B:=B.rd s3 g3;clear s3 g3;refine⟨_,_,_,B.m2,rfl,rfl,λw4 m4 g4=>?_⟩;replace B:=B.st m4 g4;clear m4 g4;refine⟨_,pQ B.s,?_⟩;rintro _ w3 ⟨s,l3,es,cs,rfl,s3,g3⟩;replace B:=B.rd s3 g3;clear s3 g3;refine⟨_,_,_,B.m2,rfl,rfl,λw4 m4 g4=>?_⟩;replace B:=B.st m4 g4;clear m4 g4;refine⟨_,KL B.s,?_⟩;rintro _ w3 ⟨c,l3,ec,⟨rv,dv,rfl,hr⟩,s3,g3⟩;obtain⟨ra,rm,rc,da,dm,dc,rfl,rfl⟩:=hr.sl;replace B:=B.rd s3 g3;clear s3 g3;refine⟨_,_,_,B.m2,rfl,rfl,λw4 m4 g4=>?_⟩;replace hr:=hr.bV g4 B.m2 (by decide) (by decide);replace B:=B.st m4 g4;clear m4 g4;refine⟨_,_,B.m2,dS { aN 6 with b:=bb,s:=s,c:=c } (.slice ra rm rc) (.slice da dm dc) Ptz Ptz Ptz,rfl,rfl,_,_,_,B.m1,rfl,rfl,λw5 m5 g5=>?_⟩;replace hr:=hr.bV g5 B.m1 (by decide) (by decide);obtain⟨s5,g5⟩:=B.fin g5;exact⟨_,_,m5,dS { aN 6 with b:=bb,s:=s,c:=c } (.slice ra rm rc) (.slice da dm dc) Ptz Ptz Ptz,rfl,rfl,_,_,by rw[dW,aX ek,if_neg (by decide),if_neg (by decide),if_neg (by decide),if_neg (by decide),if_neg (by decide),if_pos rfl,dP FM,aX es,dP ec];rfl,⟨_,_,_,_,_,rfl,hr,bY.zero _,aM.zero _⟩,s5,g5⟩
 by_cases k7:k=7
 ·subst k7
  refine⟨_,_,B.m2,_,rfl,?_⟩;refine⟨_,yG B.s,?_⟩;rintro _ w3 ⟨bb,l3,FM,rfl,s3,g3⟩;replace B:=B.rd s3 g3;clear s3 g3;refine⟨_,_,_,B.m2,rfl,rfl,λw4 m4 g4=>?_⟩;replace B:=B.st m4 g4;clear m4 g4;refine⟨_,pQ B.s,?_⟩;rintro _ w3 ⟨s,l3,es,cs,rfl,s3,g3⟩;replace B:=B.rd s3 g3;clear s3 g3;refine⟨_,_,_,B.m2,rfl,rfl,λw4 m4 g4=>?_⟩;replace B:=B.st m4 g4;clear m4 g4;refine⟨_,_,B.m2,dS { aN 7 with b:=bb,s:=s } Ptz Ptz Ptz Ptz Ptz,rfl,rfl,_,_,_,B.m1,rfl,rfl,λw5 m5 g5=>?_⟩;obtain⟨s5,g5⟩:=B.fin g5;exact⟨_,_,m5,dS { aN 7 with b:=bb,s:=s } Ptz Ptz Ptz Ptz Ptz,rfl,rfl,_,_,by rw[dW,aX ek,if_neg (by decide),if_neg (by decide),if_neg (by decide),if_neg (by decide),if_neg (by decide),if_neg (by decide),if_pos rfl,dP FM,aX es];rfl,⟨_,_,_,_,_,rfl,aM.zero _,bY.zero _,aM.zero _⟩,s5,g5⟩
 by_cases k8:k=8
 ·subst k8
  refine⟨_,_,B.m2,_,rfl,?_⟩;refine⟨_,pQ B.s,?_⟩;rintro _ w3 ⟨s,l3,es,cs,rfl,s3,g3⟩;replace B:=B.rd s3 g3;clear s3 g3;refine⟨_,_,_,B.m2,rfl,rfl,λw4 m4 g4=>?_⟩;replace B:=B.st m4 g4;clear m4 g4;refine⟨_,KL B.s,?_⟩;rintro _ w3 ⟨c,l3,ec,⟨rv,dv,rfl,hr⟩,s3,g3⟩;obtain⟨ra,rm,rc,da,dm,dc,rfl,rfl⟩:=hr.sl;replace B:=B.rd s3 g3;clear s3 g3;refine⟨_,_,_,B.m2,rfl,rfl,λw4 m4 g4=>?_⟩;replace hr:=hr.bV g4 B.m2 (by decide) (by decide);replace B:=B.st m4 g4;clear m4 g4;refine⟨_,_,B.m2,dS { aN 8 with s:=s,c:=c } (.slice ra rm rc) (.slice da dm dc) Ptz Ptz Ptz,rfl,rfl,_,_,_,B.m1,rfl,rfl,λw5 m5 g5=>?_⟩;replace hr:=hr.bV g5 B.m1 (by decide) (by decide);obtain⟨s5,g5⟩:=B.fin g5;exact⟨_,_,m5,dS { aN 8 with s:=s,c:=c } (.slice ra rm rc) (.slice da dm dc) Ptz Ptz Ptz,rfl,rfl,_,_,by rw[dW,aX ek,if_neg (by decide),if_neg (by decide),if_neg (by decide),if_neg (by decide),if_neg (by decide),if_neg (by decide),if_neg (by decide),if_pos rfl,aX es,dP ec];rfl,⟨_,_,_,_,_,rfl,hr,bY.zero _,aM.zero _⟩,s5,g5⟩
 by_cases k9:k=9
 ·subst k9
  refine⟨_,_,B.m2,_,rfl,?_⟩;refine⟨_,WG B.s,?_⟩;rintro _ w3 ⟨r,l3,er,⟨rv,dv,rfl,hr⟩,s3,g3⟩;obtain⟨ra,rm,rc,da,dm,dc,rfl,rfl⟩:=hr.sl;replace B:=B.rd s3 g3;clear s3 g3;refine⟨_,_,_,B.m2,rfl,rfl,λw4 m4 g4=>?_⟩;replace hr:=hr.bV g4 B.m2 (by decide) (by decide);replace B:=B.st m4 g4;clear m4 g4;refine⟨_,_,B.m2,dS { aN 9 with r:=r } Ptz Ptz Ptz (.slice ra rm rc) (.slice da dm dc),rfl,rfl,_,_,_,B.m1,rfl,rfl,λw5 m5 g5=>?_⟩;replace hr:=hr.bV g5 B.m1 (by decide) (by decide);obtain⟨s5,g5⟩:=B.fin g5;exact⟨_,_,m5,dS { aN 9 with r:=r } Ptz Ptz Ptz (.slice ra rm rc) (.slice da dm dc),rfl,rfl,_,_,by rw[dW,aX ek,if_neg (by decide),if_neg (by decide),if_neg (by decide),if_neg (by decide),if_neg (by decide),if_neg (by decide),if_neg (by decide),if_neg (by decide),if_pos rfl,dP er];rfl,⟨_,_,_,_,_,rfl,aM.zero _,bY.zero _,hr⟩,s5,g5⟩
 by_cases k10:k=10
 ·subst k10
  refine⟨_,_,B.m2,_,rfl,?_⟩;refine⟨_,kK B.s,?_⟩;rintro _ w3 ⟨p,l3,ep,cp,rfl,s3,g3⟩;replace B:=B.rd s3 g3;clear s3 g3;refine⟨_,_,_,B.m2,rfl,rfl,λw4 m4 g4=>?_⟩;replace B:=B.st m4 g4;clear m4 g4;refine⟨_,pQ B.s,?_⟩;rintro _ w3 ⟨t,l3,et,ct,rfl,s3,g3⟩;replace B:=B.rd s3 g3;clear s3 g3;refine⟨_,_,_,B.m2,rfl,rfl,λw4 m4 g4=>?_⟩;replace B:=B.st m4 g4;clear m4 g4;refine⟨_,_,B.m2,dS { aN 10 with peer:=p,seq:=t } Ptz Ptz Ptz Ptz Ptz,rfl,rfl,_,_,_,B.m1,rfl,rfl,λw5 m5 g5=>?_⟩;obtain⟨s5,g5⟩:=B.fin g5;exact⟨_,_,m5,dS { aN 10 with peer:=p,seq:=t } Ptz Ptz Ptz Ptz Ptz,rfl,rfl,_,_,by rw[dW,aX ek,if_neg (by decide),if_neg (by decide),if_neg (by decide),if_neg (by decide),if_neg (by decide),if_neg (by decide),if_neg (by decide),if_neg (by decide),if_neg (by decide),if_pos rfl,aX ep,aX et];rfl,⟨_,_,_,_,_,rfl,aM.zero _,bY.zero _,aM.zero _⟩,s5,g5⟩
 refine⟨_,_,B.m2,_,rfl,?_⟩;refine aj (λq=>absurd (by simp at q;omega) k1) (λ_=>?_);refine aj (λq=>absurd (by simp at q;omega) k2) (λ_=>?_);refine aj (λq=>absurd (by simp at q;omega) k3) (λ_=>?_);refine aj (λq=>absurd (by simp at q;omega) k5) (λ_=>?_);refine aj (λq=>absurd (by simp at q;omega) k4) (λ_=>?_);refine aj (λq=>absurd (by simp at q;omega) k6) (λ_=>?_);refine aj (λq=>absurd (by simp at q;omega) k7) (λ_=>?_);refine aj (λq=>absurd (by simp at q;omega) k8) (λ_=>?_);refine aj (λq=>absurd (by simp at q;omega) k9) (λ_=>?_);refine aj (λq=>absurd (by simp at q;omega) k10) (λ_=>?_);refine⟨_,_,B.m2,dS (aN k) Ptz Ptz Ptz Ptz Ptz,rfl,rfl,_,_,_,B.m1,rfl,rfl,λw5 m5 g5=>?_⟩;obtain⟨s5,g5⟩:=B.fin g5;exact⟨_,_,m5,dS (aN k) Ptz Ptz Ptz Ptz Ptz,rfl,rfl,_,_,by rw[dW,aX ek,if_neg k1,if_neg k2,if_neg k3,if_neg k5,if_neg k4,if_neg k6,if_neg k7,if_neg k8,if_neg k9,if_neg k10],⟨_,_,_,_,_,rfl,aM.zero _,bY.zero _,aM.zero _⟩,s5,g5⟩
end
theorem El{r:Rg}(h:oO r=true):r.sm:=by
 unfold oO Cs zB j5 at h;simp only[Bool.and_eq_true,decide_eq_true_eq]at h;exact⟨h.2.2.2.2.1.1,h.2.2.2.2.2.1⟩
theorem BM{r:Rg}(h:uq r=true):r.sm:=by
 unfold uq at h;simp only[Bool.and_eq_true,beq_iff_eq]at h;exact⟨by omega,by omega⟩
theorem Lc{c:MC}(h:lV c=true):c.r.sm:=by
 unfold lV yE at h;split at h
 ·simp only[Bool.and_eq_true]at h;exact BM h.2.1
 split at h
 ·simp only[Bool.and_eq_true]at h;exact BM h.2.1
 split at h
 ·simp only[Bool.and_eq_true]at h;exact El h.1
 split at h
 ·simp only[Bool.and_eq_true]at h;exact BM h.2.2
 ·cases h
theorem IK{l:List MV}(h:nU l=true):l.length<=255/\∀v∈l,v.c.r.sm:=by
 unfold nU j5 at h;simp only[Bool.and_eq_true,decide_eq_true_eq]at h;refine⟨h.1,λv hv=>?_⟩;obtain⟨i,hi,rfl⟩:=getElem_of_mem hv;have:=all_eq_true.1 h.2 i (mem_range.2 hi);unfold xn at this;rw[getElem?_eq_getElem hi]at this;simp only[Bool.and_eq_true]at this;exact Lc this.1
theorem pU{m:MM}(h:nV m=true):m.c.r.sm/\m.vs.length=0/\m.r.sm:=by
 unfold nV yE at h;simp only[Bool.and_eq_true,beq_iff_eq]at h;exact⟨BM h.2.2.2.2.2.1.2.1,by omega,BM h.2.2.2.2.2.2.2.1⟩
theorem MM.sm.of{m:MM}(h1:m.c.r.sm)(h2:m.r.sm)(h3:m.vs.length=0):m.sm:=⟨h1,h2,by omega,λv hv=>by rw[eq_nil_of_length_eq_zero h3]at hv;cases hv⟩
theorem FN{m:MM}(h:fF m=true):m.sm/\1<=m.kind/\m.kind<=10:=by
 unfold fF at h;split at h
 ·simp only[Bool.and_eq_true]at h;obtain⟨a,b,c⟩:=pU h.2;exact⟨.of a c b,by omega,by omega⟩
 split at h
 ·simp only[Bool.and_eq_true]at h;obtain⟨a,b,c⟩:=pU h.2;exact⟨.of a c b,by omega,by omega⟩
 split at h
 ·obtain⟨a,b,c⟩:=pU h;exact⟨.of a c b,by omega,by omega⟩
 split at h
 ·obtain⟨a,b,c⟩:=pU h;exact⟨.of a c b,by omega,by omega⟩
 split at h
 ·simp only[Bool.and_eq_true]at h;obtain⟨a,b,c⟩:=pU h.2;exact⟨⟨a,c,(IK h.1).1,(IK h.1).2⟩,by omega,by omega⟩
 split at h
 ·simp only[Bool.and_eq_true]at h;obtain⟨a,b,c⟩:=pU h.2;exact⟨.of (Lc h.1) c b,by omega,by omega⟩
 split at h
 ·obtain⟨a,b,c⟩:=pU h;exact⟨.of a c b,by omega,by omega⟩
 split at h
 ·simp only[Bool.and_eq_true]at h;obtain⟨a,b,c⟩:=pU h.2;exact⟨.of (Lc h.1) c b,by omega,by omega⟩
 split at h
 ·simp only[Bool.and_eq_true]at h;obtain⟨a,b,c⟩:=pU h.2;exact⟨.of a (El h.1) b,by omega,by omega⟩
 split at h
 ·simp only[Bool.and_eq_true]at h;obtain⟨a,b,c⟩:=pU h.2;exact⟨.of a c b,by omega,by omega⟩
 ·cases h
def rQ(m:MM):ByteArray:=if fF m=true then vQ (kN m)else⟨#[]⟩
def pq(d:ByteArray):Option MM:=if fF (dW (dl d)).1=true/\(vQ (kN (dW (dl d)).1)).data.toList=d.data.toList then some (dW (dl d)).1 else none
section
variable{w:World}{v:Value}{m:MM}
theorem zN(h:Bh w v m):ag Tryz.prog 158 #[v] w (λv' w'=>v'=.tuple #[.string (rQ m),.int .i64 (if fF m=true then 0 else 1)]/\GB none w w'):=by
 obtain⟨rv,dv,vv,rv',eU,rfl,hc,hv,hr⟩:=h;obtain⟨_,_,_,_,_,_,e1,e2⟩:=hc.sl;obtain⟨_,_,_,_,_,_,e3,e4⟩:=hr.sl;obtain⟨_,_,e5⟩:=hv.sl;subst e1 e2 e3 e4 e5;refine ah Tryz.func158 rfl rfl ?_;refine λw1 b1 m1 g1 l1=>?_
 refine⟨_,_,m1,dS m _ _ _ _ _,rfl,rfl,_,PW (hc.kz g1.kz) (hv.kz g1.kz) (hr.kz g1.kz),?_⟩;rintro _ w2 ⟨rfl,g2⟩;have G:=g1.trans g2;unfold rQ;obtain⟨a,ha⟩:∃a,fF m=a:=⟨_,rfl⟩;rw[ha];cases a
 ·exact⟨rfl,G⟩
 ·obtain⟨hs,hk⟩:=FN ha
  refine⟨_,_,g2.get m1 nofun,dS m _ _ _ _ _,rfl,rfl,_,Rp (dZ _ _ _) (by decide) (hc.kz G.kz) (hv.kz G.kz) (hr.kz G.kz) hs hk,?_⟩;intro v3 w3 P;have hrow:=P.row;rw[Nat.zero_add,nil_append]at hrow;obtain⟨a3,c3,rfl⟩:=af hrow;exact⟨kN m,hrow,rfl,G.trans P.gb⟩
theorem Vz(w:World)(d:ByteArray):ag Tryz.prog 113 #[.string d] w (λv w'=>(∃mv e m,v=.tuple #[mv,.int .i64 e]/\Bh w' mv m/\((e=0/\pq d=some m/\1<=m.kind/\m.kind<=10)\/(e≠0/\pq d=none)))/\GB none w w'):=by
 refine ah Tryz.func113 rfl rfl ?_;refine λw1 b1 m1 g1 l1 w2 b2 m2 g2 l2=>⟨_,_,_,m2,rfl,rfl,λw3 m3 g3=>?_⟩
 have G3:=g2.new g3 l2;refine⟨_,abm ⟨d,m3,rfl⟩,?_⟩;rintro _ w4 ⟨m,l4,em,hm,s4,g4⟩;have G4:GB none w w4:=(g1.trans G3).new g4 (Nat.le_trans g1.size l2);have Fu:w4.heap[b1]? = _:=g4.get (G3.get m1 nofun) λe=>by injection e with e;have:=ae m1;omega
 obtain⟨rv,dv,vv,rv',eU,rfl,hc,hv,hr⟩:=hm;obtain⟨_,_,_,_,_,_,e1,e2⟩:=hc.sl;obtain⟨_,_,_,_,_,_,e3,e4⟩:=hr.sl;obtain⟨_,_,e5⟩:=hv.sl;subst e1 e2 e3 e4 e5;refine λw5 b5 m5 g5 l5=>⟨_,_,_,m5,rfl,rfl,λw6 m6 g6=>?_⟩
 have NW:=g5.new g6 l5;have Pp:=NW.get Fu nofun;refine⟨_,_,m6,dS m _ _ _ _ _,rfl,rfl,_,zN ⟨_,_,_,_,_,rfl,hc.kz NW.kz,hv.kz NW.kz,hr.kz NW.kz⟩,?_⟩;rintro _ w7 ⟨rfl,g7⟩;have G7:=(G4.trans NW).trans g7;have m1:=g7.get Pp nofun;have m6:=g7.get m6 nofun;have k:=NW.trans g7;have em1:(dW (dl d)).1=m:=by rw[em]
 have none':∀w8,GB (some b1) w7 w8->GB none w w8:=λw8 g8=>G7.new g8 l1
 clear Fu Pp m3 m2 g3 g1 g2 G3 g4 m5 g5 g6;obtain⟨a,ha⟩:∃a,fF m=a:=⟨_,rfl⟩;have hdn:a=false->pq d=none:=λh=>by unfold pq;rw[em1,ha,h];simp
 unfold rQ;rw[ha];cases a
 ·refine⟨_,_,_,m1,rfl,rfl,λw8 m8 g8=>?_⟩
  exact⟨_,_,m8,dS (aN 0) Ptz Ptz Ptz Ptz Ptz,rfl,rfl,⟨_,_,aN 0,rfl,⟨_,_,_,_,_,rfl,aM.zero _,bY.zero _,aM.zero _⟩,.inr ⟨by decide,hdn rfl⟩⟩,none' w8 g8⟩
 ·refine aj (λq=>?_) (λq=>?_)
  ·have q1:pq d=none:=by
    unfold pq;rw[em1,if_neg];rintro⟨_,h⟩;rw[show(if true=true then vQ (kN m)else⟨#[]⟩)=vQ (kN m)from rfl,ByteArray.toList_eq,ByteArray.toList_eq,h]at q;simp at q
   refine⟨_,_,_,m1,rfl,rfl,λw8 m8 g8=>?_⟩;exact⟨_,_,m8,dS (aN 0) Ptz Ptz Ptz Ptz Ptz,rfl,rfl,⟨_,_,aN 0,rfl,⟨_,_,_,_,_,rfl,aM.zero _,bY.zero _,aM.zero _⟩,.inr ⟨by decide,q1⟩⟩,none' w8 g8⟩
  ·have q1:pq d=some m:=by
    unfold pq;rw[em1,if_pos];rw[show(if true=true then vQ (kN m)else⟨#[]⟩)=vQ (kN m)from rfl,ByteArray.toList_eq,ByteArray.toList_eq]at q;simp at q;exact⟨ha,by simp[q]⟩
   refine⟨_,_,m6,dS m _ _ _ _ _,rfl,rfl,_,_,_,m1,rfl,rfl,λw8 m8 g8=>?_⟩;have hb1:∀{c t},(x:Nat)->w7.heap[x]? = some (.cells c t)->t≠203->x≠b1:=λx hx ht=>dw hx m1 ht
   refine⟨_,_,m8,dS m _ _ _ _ _,rfl,rfl,⟨_,_,m,rfl,⟨_,_,_,_,_,rfl,(hc.kz k.kz).bV g8 m1 (by decide) (by decide),(hv.kz k.kz).bV g8 m1 (by decide) (by decide) (by decide),(hr.kz k.kz).bV g8 m1 (by decide) (by decide)⟩,.inl ⟨rfl,q1,(FN ha).2⟩⟩,none' w8 g8⟩
end
end
