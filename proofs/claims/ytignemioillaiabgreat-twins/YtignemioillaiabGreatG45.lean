/- What is right (5): messages; Marshal. -/
import Derived.Test.YtignemioillaiabGreatG44
namespace Go.Proofs.YtignemioillaiabGreat
set_option maxHeartbeats 8000000
set_option maxRecDepth 100000
section
open Go Go.Conc
section
variable {w:World} {m:MM} {rv dv vv rv' cB:Value}
theorem aaS {q:bH} {p:aD} {b:dh} {s:Nat} {c:MC} {vs:List MV} {r:Rg} {peer seq:Int} (hc:aP w c.r rv dv) (hv:bY w vv vs) (hr:aP w r rv' cB):af Tryz.prog 66 #[.agg (dK ⟨1,q,p,b,s,c,vs,r,peer,seq⟩ rv dv vv rv' cB).toArray] w (fun v w'=>v=.bool (eF ⟨1,q,p,b,s,c,vs,r,peer,seq⟩)∧GB none w w'):=by
 obtain ⟨_,_,_,_,_,_,rfl,rfl⟩:=hc.sl;obtain ⟨_,_,_,_,_,_,rfl,rfl⟩:=hr.sl;obtain ⟨_,_,rfl⟩:=hv.sl;refine ah au mixed Tryz.func66 rfl rfl ?_;refine fun w1 b1 m1 g1 l1=>⟨_,_,m1,_,rfl,?_⟩
 refine ⟨_,_,m1,q.cells,rfl,rfl,_,yn w1 q,?_⟩;rintro _ w2 ⟨rfl,g2⟩;have m1:=g2.get m1 nofun;have G:=g1.trans g2;refine ⟨_,_,_,m1,rfl,rfl,fun w3 m1 g3=>?_⟩;have G:=G.new g3 l1;obtain ⟨a,ha⟩:∃ a,kJ q=a:=⟨_,rfl⟩;rw [ha];cases a
 ·exact ⟨congrArg Value.bool (by simp [eF,ha]),G⟩
 ·refine ⟨_,_,m1,dK ⟨1,qb,p,b,s,c,vs,r,peer,seq⟩ _ _ _ _ _,rfl,rfl,_,fU (m:=⟨1,qb,p,b,s,c,vs,r,peer,seq⟩) (hc.kz G.kz) (hv.kz G.kz) (hr.kz G.kz),?_⟩
  rintro _ w9 ⟨rfl,g9⟩;exact ⟨congrArg Value.bool (by simp [eF,ha]),G.trans g9⟩
theorem aaT {q:bH} {p:aD} {b:dh} {s:Nat} {c:MC} {vs:List MV} {r:Rg} {peer seq:Int} (hc:aP w c.r rv dv) (hv:bY w vv vs) (hr:aP w r rv' cB):af Tryz.prog 66 #[.agg (dK ⟨2,q,p,b,s,c,vs,r,peer,seq⟩ rv dv vv rv' cB).toArray] w (fun v w'=>v=.bool (eF ⟨2,q,p,b,s,c,vs,r,peer,seq⟩)∧GB none w w'):=by
 obtain ⟨_,_,_,_,_,_,rfl,rfl⟩:=hc.sl;obtain ⟨_,_,_,_,_,_,rfl,rfl⟩:=hr.sl;obtain ⟨_,_,rfl⟩:=hv.sl;refine ah au mixed Tryz.func66 rfl rfl ?_;refine fun w1 b1 m1 g1 l1=>⟨_,_,m1,_,rfl,?_⟩
 refine ⟨_,_,m1,p.cells,rfl,rfl,_,Jh w1 p,?_⟩;rintro _ w2 ⟨rfl,g2⟩;have m1:=g2.get m1 nofun;have G:=g1.trans g2;refine ⟨_,_,_,m1,rfl,rfl,fun w3 m1 g3=>?_⟩;have G:=G.new g3 l1;obtain ⟨a,ha⟩:∃ a,tJ p=a:=⟨_,rfl⟩;rw [ha];cases a
 ·exact ⟨congrArg Value.bool (by simp [eF,ha]),G⟩
 ·refine ⟨_,_,m1,dK ⟨2,q,rY,b,s,c,vs,r,peer,seq⟩ _ _ _ _ _,rfl,rfl,_,fU (m:=⟨2,q,rY,b,s,c,vs,r,peer,seq⟩) (hc.kz G.kz) (hv.kz G.kz) (hr.kz G.kz),?_⟩
  rintro _ w9 ⟨rfl,g9⟩;exact ⟨congrArg Value.bool (by simp [eF,ha]),G.trans g9⟩
theorem aaU {q:bH} {p:aD} {b:dh} {s:Nat} {c:MC} {vs:List MV} {r:Rg} {peer seq:Int} (hc:aP w c.r rv dv) (hv:bY w vv vs) (hr:aP w r rv' cB):af Tryz.prog 66 #[.agg (dK ⟨3,q,p,b,s,c,vs,r,peer,seq⟩ rv dv vv rv' cB).toArray] w (fun v w'=>v=.bool (eF ⟨3,q,p,b,s,c,vs,r,peer,seq⟩)∧GB none w w'):=by
 obtain ⟨_,_,_,_,_,_,rfl,rfl⟩:=hc.sl;obtain ⟨_,_,_,_,_,_,rfl,rfl⟩:=hr.sl;obtain ⟨_,_,rfl⟩:=hv.sl;refine ah au mixed Tryz.func66 rfl rfl ?_;refine fun w1 b1 m1 g1 l1=>⟨_,_,m1,_,rfl,?_⟩
 have G:=g1;refine ⟨_,_,_,m1,rfl,rfl,fun w3 m1 g3=>?_⟩;have G:=G.new g3 l1;refine ⟨_,_,m1,dK ⟨3,q,p,⟨0,0⟩,s,c,vs,r,peer,seq⟩ _ _ _ _ _,rfl,rfl,_,fU (m:=⟨3,q,p,⟨0,0⟩,s,c,vs,r,peer,seq⟩) (hc.kz G.kz) (hv.kz G.kz) (hr.kz G.kz),?_⟩;rintro _ w9 ⟨rfl,g9⟩;exact ⟨congrArg Value.bool (by simp [eF]),G.trans g9⟩
theorem aaV {q:bH} {p:aD} {b:dh} {s:Nat} {c:MC} {vs:List MV} {r:Rg} {peer seq:Int} (hc:aP w c.r rv dv) (hv:bY w vv vs) (hr:aP w r rv' cB):af Tryz.prog 66 #[.agg (dK ⟨4,q,p,b,s,c,vs,r,peer,seq⟩ rv dv vv rv' cB).toArray] w (fun v w'=>v=.bool (eF ⟨4,q,p,b,s,c,vs,r,peer,seq⟩)∧GB none w w'):=by
 obtain ⟨_,_,_,_,_,_,rfl,rfl⟩:=hc.sl;obtain ⟨_,_,_,_,_,_,rfl,rfl⟩:=hr.sl;obtain ⟨_,_,rfl⟩:=hv.sl;refine ah au mixed Tryz.func66 rfl rfl ?_;refine fun w1 b1 m1 g1 l1=>⟨_,_,m1,_,rfl,?_⟩
 refine ⟨_,_,m1,_,rfl,_,SS (hv.kz g1.kz),?_⟩;rintro _ w2 ⟨rfl,g2⟩;have m1:=g2.get m1 nofun;have G:=g1.trans g2;refine ⟨_,_,_,m1,rfl,rfl,fun w3 m1 g3=>?_⟩;have G:=G.new g3 l1;refine ⟨_,_,_,m1,rfl,rfl,fun w4 m1 g4=>?_⟩;have G:=G.new g4 l1;obtain ⟨a,ha⟩:∃ a,mY vs=a:=⟨_,rfl⟩;rw [ha];cases a
 ·exact ⟨congrArg Value.bool (by simp [eF,ha]),G⟩
 ·refine ⟨_,_,m1,dK ⟨4,q,p,⟨0,0⟩,s,c,[],r,peer,seq⟩ _ _ (.slice none 0 0) _ _,rfl,rfl,_,fU (m:=⟨4,q,p,⟨0,0⟩,s,c,[],r,peer,seq⟩) (hc.kz G.kz) (bY.zero _) (hr.kz G.kz),?_⟩
  rintro _ w9 ⟨rfl,g9⟩;exact ⟨congrArg Value.bool (by simp [eF,ha]),G.trans g9⟩
theorem aaW {q:bH} {p:aD} {b:dh} {s:Nat} {c:MC} {vs:List MV} {r:Rg} {peer seq:Int} (hc:aP w c.r rv dv) (hv:bY w vv vs) (hr:aP w r rv' cB):af Tryz.prog 66 #[.agg (dK ⟨5,q,p,b,s,c,vs,r,peer,seq⟩ rv dv vv rv' cB).toArray] w (fun v w'=>v=.bool (eF ⟨5,q,p,b,s,c,vs,r,peer,seq⟩)∧GB none w w'):=by
 obtain ⟨_,_,_,_,_,_,rfl,rfl⟩:=hc.sl;obtain ⟨_,_,_,_,_,_,rfl,rfl⟩:=hr.sl;obtain ⟨_,_,rfl⟩:=hv.sl;refine ah au mixed Tryz.func66 rfl rfl ?_;refine fun w1 b1 m1 g1 l1=>⟨_,_,m1,_,rfl,?_⟩
 have G:=g1;refine ⟨_,_,_,m1,rfl,rfl,fun w3 m1 g3=>?_⟩;have G:=G.new g3 l1;refine ⟨_,_,m1,dK ⟨5,q,p,⟨0,0⟩,s,c,vs,r,peer,seq⟩ _ _ _ _ _,rfl,rfl,_,fU (m:=⟨5,q,p,⟨0,0⟩,s,c,vs,r,peer,seq⟩) (hc.kz G.kz) (hv.kz G.kz) (hr.kz G.kz),?_⟩;rintro _ w9 ⟨rfl,g9⟩;exact ⟨congrArg Value.bool (by simp [eF]),G.trans g9⟩
theorem aaX {q:bH} {p:aD} {b:dh} {s:Nat} {c:MC} {vs:List MV} {r:Rg} {peer seq:Int} (hc:aP w c.r rv dv) (hv:bY w vv vs) (hr:aP w r rv' cB):af Tryz.prog 66 #[.agg (dK ⟨6,q,p,b,s,c,vs,r,peer,seq⟩ rv dv vv rv' cB).toArray] w (fun v w'=>v=.bool (eF ⟨6,q,p,b,s,c,vs,r,peer,seq⟩)∧GB none w w'):=by
 obtain ⟨_,_,_,_,_,_,rfl,rfl⟩:=hc.sl;obtain ⟨_,_,_,_,_,_,rfl,rfl⟩:=hr.sl;obtain ⟨_,_,rfl⟩:=hv.sl;refine ah au mixed Tryz.func66 rfl rfl ?_;refine fun w1 b1 m1 g1 l1=>⟨_,_,m1,_,rfl,?_⟩
 refine ⟨_,_,m1,cK c _ _,rfl,rfl,_,yw (c:=c) (hc.kz g1.kz),?_⟩;rintro _ w2 ⟨rfl,g2⟩;have m1:=g2.get m1 nofun;have G:=g1.trans g2;refine ⟨_,_,_,m1,rfl,rfl,fun w3 m1 g3=>?_⟩;have G:=G.new g3 l1;refine ⟨_,_,_,m1,rfl,rfl,fun w4 m1 g4=>?_⟩;have G:=G.new g4 l1;refine ⟨_,_,_,m1,rfl,rfl,fun w5 m1 g5=>?_⟩;have G:=G.new g5 l1;obtain ⟨a,ha⟩:∃ a,kR c=a:=⟨_,rfl⟩;rw [ha];cases a
 ·exact ⟨congrArg Value.bool (by simp [eF,ha]),G⟩
 ·refine ⟨_,_,m1,dK ⟨6,q,p,⟨0,0⟩,0,kQ,vs,r,peer,seq⟩ (.slice none 0 0) (.slice none 0 0) _ _ _,rfl,rfl,_,fU (m:=⟨6,q,p,⟨0,0⟩,0,kQ,vs,r,peer,seq⟩) (aP.zero _) (hv.kz G.kz) (hr.kz G.kz),?_⟩
  rintro _ w9 ⟨rfl,g9⟩;exact ⟨congrArg Value.bool (by simp [eF,ha]),G.trans g9⟩
theorem aaY {q:bH} {p:aD} {b:dh} {s:Nat} {c:MC} {vs:List MV} {r:Rg} {peer seq:Int} (hc:aP w c.r rv dv) (hv:bY w vv vs) (hr:aP w r rv' cB):af Tryz.prog 66 #[.agg (dK ⟨7,q,p,b,s,c,vs,r,peer,seq⟩ rv dv vv rv' cB).toArray] w (fun v w'=>v=.bool (eF ⟨7,q,p,b,s,c,vs,r,peer,seq⟩)∧GB none w w'):=by
 obtain ⟨_,_,_,_,_,_,rfl,rfl⟩:=hc.sl;obtain ⟨_,_,_,_,_,_,rfl,rfl⟩:=hr.sl;obtain ⟨_,_,rfl⟩:=hv.sl;refine ah au mixed Tryz.func66 rfl rfl ?_;refine fun w1 b1 m1 g1 l1=>⟨_,_,m1,_,rfl,?_⟩
 have G:=g1;refine ⟨_,_,_,m1,rfl,rfl,fun w3 m1 g3=>?_⟩;have G:=G.new g3 l1;refine ⟨_,_,_,m1,rfl,rfl,fun w4 m1 g4=>?_⟩;have G:=G.new g4 l1;refine ⟨_,_,m1,dK ⟨7,q,p,⟨0,0⟩,0,c,vs,r,peer,seq⟩ _ _ _ _ _,rfl,rfl,_,fU (m:=⟨7,q,p,⟨0,0⟩,0,c,vs,r,peer,seq⟩) (hc.kz G.kz) (hv.kz G.kz) (hr.kz G.kz),?_⟩;rintro _ w9 ⟨rfl,g9⟩;exact ⟨congrArg Value.bool (by simp [eF]),G.trans g9⟩
theorem aaZ {q:bH} {p:aD} {b:dh} {s:Nat} {c:MC} {vs:List MV} {r:Rg} {peer seq:Int} (hc:aP w c.r rv dv) (hv:bY w vv vs) (hr:aP w r rv' cB):af Tryz.prog 66 #[.agg (dK ⟨8,q,p,b,s,c,vs,r,peer,seq⟩ rv dv vv rv' cB).toArray] w (fun v w'=>v=.bool (eF ⟨8,q,p,b,s,c,vs,r,peer,seq⟩)∧GB none w w'):=by
 obtain ⟨_,_,_,_,_,_,rfl,rfl⟩:=hc.sl;obtain ⟨_,_,_,_,_,_,rfl,rfl⟩:=hr.sl;obtain ⟨_,_,rfl⟩:=hv.sl;refine ah au mixed Tryz.func66 rfl rfl ?_;refine fun w1 b1 m1 g1 l1=>⟨_,_,m1,_,rfl,?_⟩
 refine ⟨_,_,m1,cK c _ _,rfl,rfl,_,yw (c:=c) (hc.kz g1.kz),?_⟩;rintro _ w2 ⟨rfl,g2⟩;have m1:=g2.get m1 nofun;have G:=g1.trans g2;refine ⟨_,_,_,m1,rfl,rfl,fun w3 m1 g3=>?_⟩;have G:=G.new g3 l1;refine ⟨_,_,_,m1,rfl,rfl,fun w4 m1 g4=>?_⟩;have G:=G.new g4 l1;obtain ⟨a,ha⟩:∃ a,kR c=a:=⟨_,rfl⟩;rw [ha];cases a
 ·exact ⟨congrArg Value.bool (by simp [eF,ha]),G⟩
 ·refine ⟨_,_,m1,dK ⟨8,q,p,b,0,kQ,vs,r,peer,seq⟩ (.slice none 0 0) (.slice none 0 0) _ _ _,rfl,rfl,_,fU (m:=⟨8,q,p,b,0,kQ,vs,r,peer,seq⟩) (aP.zero _) (hv.kz G.kz) (hr.kz G.kz),?_⟩
  rintro _ w9 ⟨rfl,g9⟩;exact ⟨congrArg Value.bool (by simp [eF,ha]),G.trans g9⟩
theorem aa0 {q:bH} {p:aD} {b:dh} {s:Nat} {c:MC} {vs:List MV} {r:Rg} {peer seq:Int} (hc:aP w c.r rv dv) (hv:bY w vv vs) (hr:aP w r rv' cB):af Tryz.prog 66 #[.agg (dK ⟨9,q,p,b,s,c,vs,r,peer,seq⟩ rv dv vv rv' cB).toArray] w (fun v w'=>v=.bool (eF ⟨9,q,p,b,s,c,vs,r,peer,seq⟩)∧GB none w w'):=by
 obtain ⟨_,_,_,_,_,_,rfl,rfl⟩:=hc.sl;obtain ⟨_,_,_,_,_,_,rfl,rfl⟩:=hr.sl;obtain ⟨_,_,rfl⟩:=hv.sl;refine ah au mixed Tryz.func66 rfl rfl ?_;refine fun w1 b1 m1 g1 l1=>⟨_,_,m1,_,rfl,?_⟩
 refine ⟨_,_,m1,dN r _ _,rfl,rfl,_,CL (r:=r) (hr.kz g1.kz),?_⟩;rintro _ w2 ⟨rfl,g2⟩;have m1:=g2.get m1 nofun;have G:=g1.trans g2;refine ⟨_,_,_,m1,rfl,rfl,fun w3 m1 g3=>?_⟩;have G:=G.new g3 l1;obtain ⟨a,ha⟩:∃ a,og r=a:=⟨_,rfl⟩;rw [ha];cases a
 ·exact ⟨congrArg Value.bool (by simp [eF,ha]),G⟩
 ·refine ⟨_,_,m1,dK ⟨9,q,p,b,s,c,vs,pE,peer,seq⟩ _ _ _ (.slice none 0 0) (.slice none 0 0),rfl,rfl,_,fU (m:=⟨9,q,p,b,s,c,vs,pE,peer,seq⟩) (hc.kz G.kz) (hv.kz G.kz) (aP.zero _),?_⟩
  rintro _ w9 ⟨rfl,g9⟩;exact ⟨congrArg Value.bool (by simp [eF,ha]),G.trans g9⟩
theorem ZG {q:bH} {p:aD} {b:dh} {s:Nat} {c:MC} {vs:List MV} {r:Rg} {peer seq:Int} (hc:aP w c.r rv dv) (hv:bY w vv vs) (hr:aP w r rv' cB):af Tryz.prog 66 #[.agg (dK ⟨10,q,p,b,s,c,vs,r,peer,seq⟩ rv dv vv rv' cB).toArray] w (fun v w'=>v=.bool (eF ⟨10,q,p,b,s,c,vs,r,peer,seq⟩)∧GB none w w'):=by
 obtain ⟨_,_,_,_,_,_,rfl,rfl⟩:=hc.sl;obtain ⟨_,_,_,_,_,_,rfl,rfl⟩:=hr.sl;obtain ⟨_,_,rfl⟩:=hv.sl;refine ah au mixed Tryz.func66 rfl rfl ?_;refine fun w1 b1 m1 g1 l1=>⟨_,_,m1,_,rfl,?_⟩
 refine ⟨_,_,m1,_,rfl,_,oQ w1 _,?_⟩;rintro _ w2 ⟨rfl,rfl⟩;have G:=g1;refine ⟨_,_,_,m1,rfl,rfl,fun w3 m1 g3=>?_⟩;have G:=G.new g3 l1;refine ⟨_,_,_,m1,rfl,rfl,fun w4 m1 g4=>?_⟩;have G:=G.new g4 l1;obtain ⟨a,ha⟩:∃ a,decide (peer<4)=a:=⟨_,rfl⟩;rw [ha];cases a
 ·exact ⟨congrArg Value.bool (by simp [eF,ha]),G⟩
 ·refine ⟨_,_,m1,dK ⟨10,q,p,b,s,c,vs,r,0,0⟩ _ _ _ _ _,rfl,rfl,_,fU (m:=⟨10,q,p,b,s,c,vs,r,0,0⟩) (hc.kz G.kz) (hv.kz G.kz) (hr.kz G.kz),?_⟩
  rintro _ w9 ⟨rfl,g9⟩;exact ⟨congrArg Value.bool (by simp [eF,ha]),G.trans g9⟩
theorem Oh (hc:aP w m.c.r rv dv) (hv:bY w vv m.vs) (hr:aP w m.r rv' cB):af Tryz.prog 66 #[.agg (dK m rv dv vv rv' cB).toArray] w (fun v w'=>v=.bool (eF m)∧GB none w w'):=by
 obtain ⟨k,q,p,b,s,c,vs,r,peer,seq⟩:=m;by_cases k1:k=1
 ·subst k1;exact aaS hc hv hr
 by_cases k2:k=2
 ·subst k2;exact aaT hc hv hr
 by_cases k3:k=3
 ·subst k3;exact aaU hc hv hr
 by_cases k4:k=4
 ·subst k4;exact aaV hc hv hr
 by_cases k5:k=5
 ·subst k5;exact aaW hc hv hr
 by_cases k6:k=6
 ·subst k6;exact aaX hc hv hr
 by_cases k7:k=7
 ·subst k7;exact aaY hc hv hr
 by_cases k8:k=8
 ·subst k8;exact aaZ hc hv hr
 by_cases k9:k=9
 ·subst k9;exact aa0 hc hv hr
 by_cases k10:k=10
 ·subst k10;exact ZG hc hv hr
 obtain ⟨_,_,_,_,_,_,rfl,rfl⟩:=hc.sl;obtain ⟨_,_,_,_,_,_,rfl,rfl⟩:=hr.sl;obtain ⟨_,_,rfl⟩:=hv.sl;refine ah au mixed Tryz.func66 rfl rfl ?_;refine fun w1 b1 m1 g1 l1=>⟨_,_,m1,_,rfl,?_⟩
 refine aj (fun e=>absurd (by simpa using e) k1) (fun _=>?_);refine aj (fun e=>absurd (by simpa using e) k2) (fun _=>?_);refine aj (fun e=>absurd (by simpa using e) k3) (fun _=>?_);refine aj (fun e=>absurd (by simpa using e) k5) (fun _=>?_);refine aj (fun e=>absurd (by simpa using e) k4) (fun _=>?_);refine aj (fun e=>absurd (by simpa using e) k6) (fun _=>?_);refine aj (fun e=>absurd (by simpa using e) k7) (fun _=>?_);refine aj (fun e=>absurd (by simpa using e) k8) (fun _=>?_);refine aj (fun e=>absurd (by simpa using e) k9) (fun _=>?_);refine aj (fun e=>absurd (by simpa using e) k10) (fun _=>?_);exact ⟨congrArg Value.bool (by simp [eF,k1,k2,k3,k4,k5,k6,k7,k8,k9,k10]),g1⟩
end
def dX (l:List Nat):MM×List Nat:=nx 1 l fun k l =>
 if k=1 then rn qp l fun q l=>({ bf k with q:=q },l)
 else if k=2 then rn lG l fun p l=>({ bf k with p:=p },l)
 else if k=3 then rn gN l fun b l=>({ bf k with b:=b },l)
 else if k=5 then rn gN l fun b l=>({ bf k with b:=b },l)
 else if k=4 then rn gN l fun b l=>rn (ja ni) l fun vs l=>({ bf k with b:=b,vs:=vs },l)
 else if k=6 then rn gN l fun b l=>nx 4 l fun s l=>rn mF l fun c l=>({ bf k with b:=b,s:=s,c:=c },l)
 else if k=7 then rn gN l fun b l=>nx 4 l fun s l=>({ bf k with b:=b,s:=s },l)
 else if k=8 then nx 4 l fun s l=>rn mF l fun c l=>({ bf k with s:=s,c:=c },l)
 else if k=9 then rn Ar l fun r l=>({ bf k with r:=r },l)
 else if k=10 then nx 1 l fun p l=>nx 4 l fun s l=>({ bf k with peer:=p,seq:=s },l)
 else (bf k,l)
theorem bY.bU {w w':World} {v:Value} {l:List MV} {x t:Nat} {c:Array Value} (h:bY w v l) (g:GB (some x) w w') (hx:w.heap[x]? = some (.cells c t)) (h1:t≠139) (h2:t≠70) (h3:t≠178):bY w' v l:=by
 obtain ⟨ps,a1,a2,a3⟩:=h;exact ⟨ps,a1,a2.bU g hx h3,fun i y p hy hp=>(a3 i y p hy hp).bU g hx h1 h2⟩
section
variable {w:World} {b:Nat} {l:List Nat}
theorem ZH (hs:Src w b l):af Tryz.prog 44 #[.pointer (some ⟨b,0,none⟩)] w (fun v w'=>∃ x l',dX l=(x,l')∧zW w' v x∧Src w' b l'∧GB (some b) w w'):=by
 refine ah au mixed Tryz.func44 rfl rfl ?_;refine fun w1 b1 m1 g1 l1=>?_
 refine ⟨_,jW (hs.keep (g1.block b hs.lt nofun)),?_⟩;rintro _ w2 ⟨k,l2,ek,ck,rfl,s2,g2⟩;refine fun w3 b3 m3 g3 l3=>⟨_,_,_,m3,rfl,rfl,fun w4 m4 g4=>?_⟩
 have B:=Bx.Y9 hs m1 g1 l1 s2 g2 m3 g3 l3 m4 g4;clear m1 g1 l1 s2 g2 m3 g3 l3 m4 g4;by_cases k1:k=1
 ·subst k1
  refine ⟨_,_,B.m2,_,rfl,?_⟩;refine ⟨_,Qe B.s,?_⟩;rintro _ w3 ⟨q,l3,eq,rfl,s3,g3⟩;replace B:=B.rd s3 g3;clear s3 g3;refine ⟨_,_,_,B.m2,rfl,rfl,fun w4 m4 g4=>?_⟩;replace B:=B.st m4 g4;clear m4 g4;refine ⟨_,_,B.m2,dK { bf 1 with q:=q } (.slice none 0 0) (.slice none 0 0) (.slice none 0 0) (.slice none 0 0) (.slice none 0 0),rfl,rfl,_,_,_,B.m1,rfl,rfl,fun w5 m5 g5=>?_⟩;obtain ⟨s5,g5⟩:=B.fin g5;exact ⟨_,_,m5,dK { bf 1 with q:=q } (.slice none 0 0) (.slice none 0 0) (.slice none 0 0) (.slice none 0 0) (.slice none 0 0),rfl,rfl,_,_,by rw [dX,aZ ek,if_pos rfl,dP eq];rfl,⟨_,_,_,_,_,rfl,aP.zero _,bY.zero _,aP.zero _⟩,s5,g5⟩
 by_cases k2:k=2
 ·subst k2
  refine ⟨_,_,B.m2,_,rfl,?_⟩;refine ⟨_,Qf B.s,?_⟩;rintro _ w3 ⟨p,l3,ep,rfl,s3,g3⟩;replace B:=B.rd s3 g3;clear s3 g3;refine ⟨_,_,_,B.m2,rfl,rfl,fun w4 m4 g4=>?_⟩;replace B:=B.st m4 g4;clear m4 g4;refine ⟨_,_,B.m2,dK { bf 2 with p:=p } (.slice none 0 0) (.slice none 0 0) (.slice none 0 0) (.slice none 0 0) (.slice none 0 0),rfl,rfl,_,_,_,B.m1,rfl,rfl,fun w5 m5 g5=>?_⟩;obtain ⟨s5,g5⟩:=B.fin g5;exact ⟨_,_,m5,dK { bf 2 with p:=p } (.slice none 0 0) (.slice none 0 0) (.slice none 0 0) (.slice none 0 0) (.slice none 0 0),rfl,rfl,_,_,by rw [dX,aZ ek,if_neg (by decide),if_pos rfl,dP ep];rfl,⟨_,_,_,_,_,rfl,aP.zero _,bY.zero _,aP.zero _⟩,s5,g5⟩
 by_cases k3:k=3
 ·subst k3
  refine ⟨_,_,B.m2,_,rfl,?_⟩;refine ⟨_,xz B.s,?_⟩;rintro _ w3 ⟨bb,l3,Eu,rfl,s3,g3⟩;replace B:=B.rd s3 g3;clear s3 g3;refine ⟨_,_,_,B.m2,rfl,rfl,fun w4 m4 g4=>?_⟩;replace B:=B.st m4 g4;clear m4 g4;refine ⟨_,_,B.m2,dK { bf 3 with b:=bb } (.slice none 0 0) (.slice none 0 0) (.slice none 0 0) (.slice none 0 0) (.slice none 0 0),rfl,rfl,_,_,_,B.m1,rfl,rfl,fun w5 m5 g5=>?_⟩;obtain ⟨s5,g5⟩:=B.fin g5;exact ⟨_,_,m5,dK { bf 3 with b:=bb } (.slice none 0 0) (.slice none 0 0) (.slice none 0 0) (.slice none 0 0) (.slice none 0 0),rfl,rfl,_,_,by rw [dX,aZ ek,if_neg (by decide),if_neg (by decide),if_pos rfl,dP Eu];rfl,⟨_,_,_,_,_,rfl,aP.zero _,bY.zero _,aP.zero _⟩,s5,g5⟩
 by_cases k5:k=5
 ·subst k5
  refine ⟨_,_,B.m2,_,rfl,?_⟩;refine ⟨_,xz B.s,?_⟩;rintro _ w3 ⟨bb,l3,Eu,rfl,s3,g3⟩;replace B:=B.rd s3 g3;clear s3 g3;refine ⟨_,_,_,B.m2,rfl,rfl,fun w4 m4 g4=>?_⟩;replace B:=B.st m4 g4;clear m4 g4;refine ⟨_,_,B.m2,dK { bf 5 with b:=bb } (.slice none 0 0) (.slice none 0 0) (.slice none 0 0) (.slice none 0 0) (.slice none 0 0),rfl,rfl,_,_,_,B.m1,rfl,rfl,fun w5 m5 g5=>?_⟩;obtain ⟨s5,g5⟩:=B.fin g5;exact ⟨_,_,m5,dK { bf 5 with b:=bb } (.slice none 0 0) (.slice none 0 0) (.slice none 0 0) (.slice none 0 0) (.slice none 0 0),rfl,rfl,_,_,by rw [dX,aZ ek,if_neg (by decide),if_neg (by decide),if_neg (by decide),if_pos rfl,dP Eu];rfl,⟨_,_,_,_,_,rfl,aP.zero _,bY.zero _,aP.zero _⟩,s5,g5⟩
 by_cases k4:k=4
 ·subst k4
  refine ⟨_,_,B.m2,_,rfl,?_⟩;refine ⟨_,xz B.s,?_⟩;rintro _ w3 ⟨bb,l3,Eu,rfl,s3,g3⟩;replace B:=B.rd s3 g3;clear s3 g3;refine ⟨_,_,_,B.m2,rfl,rfl,fun w4 m4 g4=>?_⟩;replace B:=B.st m4 g4;clear m4 g4;refine ⟨_,TI B.s,?_⟩;rintro vv w3 ⟨vs,l3,evs,hv,s3,g3⟩;obtain ⟨va,vc,rfl⟩:=hv.sl;replace B:=B.rd s3 g3;clear s3 g3;refine ⟨_,_,_,B.m2,rfl,rfl,fun w4 m4 g4=>?_⟩;replace hv:=hv.bU g4 B.m2 (by decide) (by decide) (by decide);replace B:=B.st m4 g4;clear m4 g4;refine ⟨_,_,B.m2,dK { bf 4 with b:=bb,vs:=vs } (.slice none 0 0) (.slice none 0 0) (.slice va vs.length vc) (.slice none 0 0) (.slice none 0 0),rfl,rfl,_,_,_,B.m1,rfl,rfl,fun w5 m5 g5=>?_⟩;replace hv:=hv.bU g5 B.m1 (by decide) (by decide) (by decide);obtain ⟨s5,g5⟩:=B.fin g5;exact ⟨_,_,m5,dK { bf 4 with b:=bb,vs:=vs } (.slice none 0 0) (.slice none 0 0) (.slice va vs.length vc) (.slice none 0 0) (.slice none 0 0),rfl,rfl,_,_,by rw [dX,aZ ek,if_neg (by decide),if_neg (by decide),if_neg (by decide),if_neg (by decide),if_pos rfl,dP Eu,dP evs];rfl,⟨_,_,_,_,_,rfl,aP.zero _,hv,aP.zero _⟩,s5,g5⟩
 by_cases k6:k=6
 ·subst k6
  refine ⟨_,_,B.m2,_,rfl,?_⟩;refine ⟨_,xz B.s,?_⟩;rintro _ w3 ⟨bb,l3,Eu,rfl,s3,g3⟩;replace B:=B.rd s3 g3;clear s3 g3;refine ⟨_,_,_,B.m2,rfl,rfl,fun w4 m4 g4=>?_⟩;replace B:=B.st m4 g4;clear m4 g4;refine ⟨_,om B.s,?_⟩;rintro _ w3 ⟨s,l3,es,cs,rfl,s3,g3⟩;replace B:=B.rd s3 g3;clear s3 g3;refine ⟨_,_,_,B.m2,rfl,rfl,fun w4 m4 g4=>?_⟩;replace B:=B.st m4 g4;clear m4 g4;refine ⟨_,Jo B.s,?_⟩;rintro _ w3 ⟨c,l3,ec,⟨rv,dv,rfl,hr⟩,s3,g3⟩;obtain ⟨ra,rm,rc,da,dm,dc,rfl,rfl⟩:=hr.sl;replace B:=B.rd s3 g3;clear s3 g3;refine ⟨_,_,_,B.m2,rfl,rfl,fun w4 m4 g4=>?_⟩;replace hr:=hr.bU g4 B.m2 (by decide) (by decide);replace B:=B.st m4 g4;clear m4 g4;refine ⟨_,_,B.m2,dK { bf 6 with b:=bb,s:=s,c:=c } (.slice ra rm rc) (.slice da dm dc) (.slice none 0 0) (.slice none 0 0) (.slice none 0 0),rfl,rfl,_,_,_,B.m1,rfl,rfl,fun w5 m5 g5=>?_⟩;replace hr:=hr.bU g5 B.m1 (by decide) (by decide);obtain ⟨s5,g5⟩:=B.fin g5;exact ⟨_,_,m5,dK { bf 6 with b:=bb,s:=s,c:=c } (.slice ra rm rc) (.slice da dm dc) (.slice none 0 0) (.slice none 0 0) (.slice none 0 0),rfl,rfl,_,_,by rw [dX,aZ ek,if_neg (by decide),if_neg (by decide),if_neg (by decide),if_neg (by decide),if_neg (by decide),if_pos rfl,dP Eu,aZ es,dP ec];rfl,⟨_,_,_,_,_,rfl,hr,bY.zero _,aP.zero _⟩,s5,g5⟩
 by_cases k7:k=7
 ·subst k7
  refine ⟨_,_,B.m2,_,rfl,?_⟩;refine ⟨_,xz B.s,?_⟩;rintro _ w3 ⟨bb,l3,Eu,rfl,s3,g3⟩;replace B:=B.rd s3 g3;clear s3 g3;refine ⟨_,_,_,B.m2,rfl,rfl,fun w4 m4 g4=>?_⟩;replace B:=B.st m4 g4;clear m4 g4;refine ⟨_,om B.s,?_⟩;rintro _ w3 ⟨s,l3,es,cs,rfl,s3,g3⟩;replace B:=B.rd s3 g3;clear s3 g3;refine ⟨_,_,_,B.m2,rfl,rfl,fun w4 m4 g4=>?_⟩;replace B:=B.st m4 g4;clear m4 g4;refine ⟨_,_,B.m2,dK { bf 7 with b:=bb,s:=s } (.slice none 0 0) (.slice none 0 0) (.slice none 0 0) (.slice none 0 0) (.slice none 0 0),rfl,rfl,_,_,_,B.m1,rfl,rfl,fun w5 m5 g5=>?_⟩;obtain ⟨s5,g5⟩:=B.fin g5;exact ⟨_,_,m5,dK { bf 7 with b:=bb,s:=s } (.slice none 0 0) (.slice none 0 0) (.slice none 0 0) (.slice none 0 0) (.slice none 0 0),rfl,rfl,_,_,by rw [dX,aZ ek,if_neg (by decide),if_neg (by decide),if_neg (by decide),if_neg (by decide),if_neg (by decide),if_neg (by decide),if_pos rfl,dP Eu,aZ es];rfl,⟨_,_,_,_,_,rfl,aP.zero _,bY.zero _,aP.zero _⟩,s5,g5⟩
 by_cases k8:k=8
 ·subst k8
  refine ⟨_,_,B.m2,_,rfl,?_⟩;refine ⟨_,om B.s,?_⟩;rintro _ w3 ⟨s,l3,es,cs,rfl,s3,g3⟩;replace B:=B.rd s3 g3;clear s3 g3;refine ⟨_,_,_,B.m2,rfl,rfl,fun w4 m4 g4=>?_⟩;replace B:=B.st m4 g4;clear m4 g4;refine ⟨_,Jo B.s,?_⟩;rintro _ w3 ⟨c,l3,ec,⟨rv,dv,rfl,hr⟩,s3,g3⟩;obtain ⟨ra,rm,rc,da,dm,dc,rfl,rfl⟩:=hr.sl;replace B:=B.rd s3 g3;clear s3 g3;refine ⟨_,_,_,B.m2,rfl,rfl,fun w4 m4 g4=>?_⟩;replace hr:=hr.bU g4 B.m2 (by decide) (by decide);replace B:=B.st m4 g4;clear m4 g4;refine ⟨_,_,B.m2,dK { bf 8 with s:=s,c:=c } (.slice ra rm rc) (.slice da dm dc) (.slice none 0 0) (.slice none 0 0) (.slice none 0 0),rfl,rfl,_,_,_,B.m1,rfl,rfl,fun w5 m5 g5=>?_⟩;replace hr:=hr.bU g5 B.m1 (by decide) (by decide);obtain ⟨s5,g5⟩:=B.fin g5;exact ⟨_,_,m5,dK { bf 8 with s:=s,c:=c } (.slice ra rm rc) (.slice da dm dc) (.slice none 0 0) (.slice none 0 0) (.slice none 0 0),rfl,rfl,_,_,by rw [dX,aZ ek,if_neg (by decide),if_neg (by decide),if_neg (by decide),if_neg (by decide),if_neg (by decide),if_neg (by decide),if_neg (by decide),if_pos rfl,aZ es,dP ec];rfl,⟨_,_,_,_,_,rfl,hr,bY.zero _,aP.zero _⟩,s5,g5⟩
 by_cases k9:k=9
 ·subst k9
  refine ⟨_,_,B.m2,_,rfl,?_⟩;refine ⟨_,UJ B.s,?_⟩;rintro _ w3 ⟨r,l3,er,⟨rv,dv,rfl,hr⟩,s3,g3⟩;obtain ⟨ra,rm,rc,da,dm,dc,rfl,rfl⟩:=hr.sl;replace B:=B.rd s3 g3;clear s3 g3;refine ⟨_,_,_,B.m2,rfl,rfl,fun w4 m4 g4=>?_⟩;replace hr:=hr.bU g4 B.m2 (by decide) (by decide);replace B:=B.st m4 g4;clear m4 g4;refine ⟨_,_,B.m2,dK { bf 9 with r:=r } (.slice none 0 0) (.slice none 0 0) (.slice none 0 0) (.slice ra rm rc) (.slice da dm dc),rfl,rfl,_,_,_,B.m1,rfl,rfl,fun w5 m5 g5=>?_⟩;replace hr:=hr.bU g5 B.m1 (by decide) (by decide);obtain ⟨s5,g5⟩:=B.fin g5;exact ⟨_,_,m5,dK { bf 9 with r:=r } (.slice none 0 0) (.slice none 0 0) (.slice none 0 0) (.slice ra rm rc) (.slice da dm dc),rfl,rfl,_,_,by rw [dX,aZ ek,if_neg (by decide),if_neg (by decide),if_neg (by decide),if_neg (by decide),if_neg (by decide),if_neg (by decide),if_neg (by decide),if_neg (by decide),if_pos rfl,dP er];rfl,⟨_,_,_,_,_,rfl,aP.zero _,bY.zero _,hr⟩,s5,g5⟩
 by_cases k10:k=10
 ·subst k10
  refine ⟨_,_,B.m2,_,rfl,?_⟩;refine ⟨_,jW B.s,?_⟩;rintro _ w3 ⟨p,l3,ep,cp,rfl,s3,g3⟩;replace B:=B.rd s3 g3;clear s3 g3;refine ⟨_,_,_,B.m2,rfl,rfl,fun w4 m4 g4=>?_⟩;replace B:=B.st m4 g4;clear m4 g4;refine ⟨_,om B.s,?_⟩;rintro _ w3 ⟨t,l3,et,ct,rfl,s3,g3⟩;replace B:=B.rd s3 g3;clear s3 g3;refine ⟨_,_,_,B.m2,rfl,rfl,fun w4 m4 g4=>?_⟩;replace B:=B.st m4 g4;clear m4 g4;refine ⟨_,_,B.m2,dK { bf 10 with peer:=p,seq:=t } (.slice none 0 0) (.slice none 0 0) (.slice none 0 0) (.slice none 0 0) (.slice none 0 0),rfl,rfl,_,_,_,B.m1,rfl,rfl,fun w5 m5 g5=>?_⟩;obtain ⟨s5,g5⟩:=B.fin g5;exact ⟨_,_,m5,dK { bf 10 with peer:=p,seq:=t } (.slice none 0 0) (.slice none 0 0) (.slice none 0 0) (.slice none 0 0) (.slice none 0 0),rfl,rfl,_,_,by rw [dX,aZ ek,if_neg (by decide),if_neg (by decide),if_neg (by decide),if_neg (by decide),if_neg (by decide),if_neg (by decide),if_neg (by decide),if_neg (by decide),if_neg (by decide),if_pos rfl,aZ ep,aZ et];rfl,⟨_,_,_,_,_,rfl,aP.zero _,bY.zero _,aP.zero _⟩,s5,g5⟩
 refine ⟨_,_,B.m2,_,rfl,?_⟩;refine aj (fun q=>absurd (by simp at q;omega) k1) (fun _=>?_);refine aj (fun q=>absurd (by simp at q;omega) k2) (fun _=>?_);refine aj (fun q=>absurd (by simp at q;omega) k3) (fun _=>?_);refine aj (fun q=>absurd (by simp at q;omega) k5) (fun _=>?_);refine aj (fun q=>absurd (by simp at q;omega) k4) (fun _=>?_);refine aj (fun q=>absurd (by simp at q;omega) k6) (fun _=>?_);refine aj (fun q=>absurd (by simp at q;omega) k7) (fun _=>?_);refine aj (fun q=>absurd (by simp at q;omega) k8) (fun _=>?_);refine aj (fun q=>absurd (by simp at q;omega) k9) (fun _=>?_);refine aj (fun q=>absurd (by simp at q;omega) k10) (fun _=>?_);refine ⟨_,_,B.m2,dK (bf k) (.slice none 0 0) (.slice none 0 0) (.slice none 0 0) (.slice none 0 0) (.slice none 0 0),rfl,rfl,_,_,_,B.m1,rfl,rfl,fun w5 m5 g5=>?_⟩;obtain ⟨s5,g5⟩:=B.fin g5;exact ⟨_,_,m5,dK (bf k) (.slice none 0 0) (.slice none 0 0) (.slice none 0 0) (.slice none 0 0) (.slice none 0 0),rfl,rfl,_,_,by rw [dX,aZ ek,if_neg k1,if_neg k2,if_neg k3,if_neg k5,if_neg k4,if_neg k6,if_neg k7,if_neg k8,if_neg k9,if_neg k10],⟨_,_,_,_,_,rfl,aP.zero _,bY.zero _,aP.zero _⟩,s5,g5⟩
end
theorem CV {r:Rg} (h:og r=true):r.sm:=by
 unfold og Bb yu jC at h;simp only [Bool.and_eq_true,decide_eq_true_eq] at h;exact ⟨h.2.2.2.2.1.1,h.2.2.2.2.2.1⟩
theorem Az {r:Rg} (h:sj r=true):r.sm:=by
 unfold sj at h;simp only [Bool.and_eq_true,beq_iff_eq] at h;exact ⟨by omega,by omega⟩
theorem JH {c:MC} (h:kR c=true):c.r.sm:=by
 unfold kR xx at h;split at h
 ·simp only [Bool.and_eq_true] at h;exact Az h.2.1
 split at h
 ·simp only [Bool.and_eq_true] at h;exact Az h.2.1
 split at h
 ·simp only [Bool.and_eq_true] at h;exact CV h.1
 split at h
 ·simp only [Bool.and_eq_true] at h;exact Az h.2.2
 ·cases h
theorem Gu {l:List MV} (h:mY l=true):l.length≤255∧∀ v∈l,v.c.r.sm:=by
 unfold mY jC at h;simp only [Bool.and_eq_true,decide_eq_true_eq] at h;refine ⟨h.1,fun v hv=>?_⟩;obtain ⟨i,hi,rfl⟩:=List.getElem_of_mem hv;have:=List.all_eq_true.1 h.2 i (List.mem_range.2 hi);unfold vV at this;rw [List.getElem?_eq_getElem hi] at this;simp only [Bool.and_eq_true] at this;exact JH this.1
theorem oq {m:MM} (h:mZ m=true):m.c.r.sm∧m.vs.length=0∧m.r.sm:=by
 unfold mZ xx at h;simp only [Bool.and_eq_true,beq_iff_eq] at h;exact ⟨Az h.2.2.2.2.2.1.2.1,by omega,Az h.2.2.2.2.2.2.2.1⟩
theorem MM.sm.of {m:MM} (h1:m.c.r.sm) (h2:m.r.sm) (h3:m.vs.length=0):m.sm:=⟨h1,h2,by omega,fun v hv=>by rw [List.eq_nil_of_length_eq_zero h3] at hv;cases hv⟩
theorem Ev {m:MM} (h:eF m=true):m.sm∧1≤m.kind∧m.kind≤10:=by
 unfold eF at h;split at h
 ·simp only [Bool.and_eq_true] at h;obtain ⟨a,b,c⟩:=oq h.2;exact ⟨.of a c b,by omega,by omega⟩
 split at h
 ·simp only [Bool.and_eq_true] at h;obtain ⟨a,b,c⟩:=oq h.2;exact ⟨.of a c b,by omega,by omega⟩
 split at h
 ·obtain ⟨a,b,c⟩:=oq h;exact ⟨.of a c b,by omega,by omega⟩
 split at h
 ·obtain ⟨a,b,c⟩:=oq h;exact ⟨.of a c b,by omega,by omega⟩
 split at h
 ·simp only [Bool.and_eq_true] at h;obtain ⟨a,b,c⟩:=oq h.2;exact ⟨⟨a,c,(Gu h.1).1,(Gu h.1).2⟩,by omega,by omega⟩
 split at h
 ·simp only [Bool.and_eq_true] at h;obtain ⟨a,b,c⟩:=oq h.2;exact ⟨.of (JH h.1) c b,by omega,by omega⟩
 split at h
 ·obtain ⟨a,b,c⟩:=oq h;exact ⟨.of a c b,by omega,by omega⟩
 split at h
 ·simp only [Bool.and_eq_true] at h;obtain ⟨a,b,c⟩:=oq h.2;exact ⟨.of (JH h.1) c b,by omega,by omega⟩
 split at h
 ·simp only [Bool.and_eq_true] at h;obtain ⟨a,b,c⟩:=oq h.2;exact ⟨.of a (CV h.1) b,by omega,by omega⟩
 split at h
 ·simp only [Bool.and_eq_true] at h;obtain ⟨a,b,c⟩:=oq h.2;exact ⟨.of a c b,by omega,by omega⟩
 ·cases h
def AA (m:MM):ByteArray:=if eF m=true then uD (kZ m) else ⟨#[]⟩
def sV (d:ByteArray):Option MM:=if eF (dX (dl d)).1=true∧(uD (kZ (dX (dl d)).1)).data.toList=d.data.toList then some (dX (dl d)).1 else none
section
variable {w:World} {v:Value} {m:MM}
theorem yH (h:zW w v m):af Tryz.prog 43 #[v] w (fun v' w'=>v'=.tuple #[.string (AA m),.int .i64 (if eF m=true then 0 else 1)]∧GB none w w'):=by
 obtain ⟨rv,dv,vv,rv',cB,rfl,hc,hv,hr⟩:=h;obtain ⟨_,_,_,_,_,_,e1,e2⟩:=hc.sl;obtain ⟨_,_,_,_,_,_,e3,e4⟩:=hr.sl;obtain ⟨_,_,e5⟩:=hv.sl;subst e1 e2 e3 e4 e5;refine ah au mixed Tryz.func43 rfl rfl ?_;refine fun w1 b1 m1 g1 l1=>?_
 refine ⟨_,_,m1,dK m _ _ _ _ _,rfl,rfl,_,Oh (hc.kz g1.kz) (hv.kz g1.kz) (hr.kz g1.kz),?_⟩;rintro _ w2 ⟨rfl,g2⟩;have G:=g1.trans g2;unfold AA;obtain ⟨a,ha⟩:∃ a,eF m=a:=⟨_,rfl⟩;rw [ha];cases a
 ·exact ⟨rfl,G⟩
 ·obtain ⟨hs,hk⟩:=Ev ha
  refine ⟨_,_,g2.get m1 nofun,dK m _ _ _ _ _,rfl,rfl,_,PL (eG _ _ _) (by decide) (hc.kz G.kz) (hv.kz G.kz) (hr.kz G.kz) hs hk,?_⟩;intro v3 w3 P;have hrow:=P.row;rw [Nat.zero_add,List.nil_append] at hrow;obtain ⟨a3,c3,rfl⟩:=ag hrow;exact ⟨kZ m,hrow,rfl,G.trans P.gb⟩
theorem TJ (w:World) (d:ByteArray):af Tryz.prog 21 #[.string d] w (fun v w'=>(∃ mv e m,v=.tuple #[mv,.int .i64 e]∧zW w' mv m∧((e=0∧sV d=some m∧1≤m.kind∧m.kind≤10)∨(e≠0∧sV d=none)))∧GB none w w'):=by
 refine ah au mixed Tryz.func21 rfl rfl ?_;refine fun w1 b1 m1 g1 l1 w2 b2 m2 g2 l2=>⟨_,_,_,m2,rfl,rfl,fun w3 m3 g3=>?_⟩
 have G3:=g2.new g3 l2;refine ⟨_,ZH ⟨d,m3,rfl⟩,?_⟩;rintro _ w4 ⟨m,l4,em,hm,s4,g4⟩;have G4:GB none w w4:=(g1.trans G3).new g4 (Nat.le_trans g1.size l2);have yX:w4.heap[b1]? = _:=g4.get (G3.get m1 nofun) fun e=>by injection e with e;have:=ae m1;omega
 obtain ⟨rv,dv,vv,rv',cB,rfl,hc,hv,hr⟩:=hm;obtain ⟨_,_,_,_,_,_,e1,e2⟩:=hc.sl;obtain ⟨_,_,_,_,_,_,e3,e4⟩:=hr.sl;obtain ⟨_,_,e5⟩:=hv.sl;subst e1 e2 e3 e4 e5;refine fun w5 b5 m5 g5 l5=>⟨_,_,_,m5,rfl,rfl,fun w6 m6 g6=>?_⟩
 have Mi:=g5.new g6 l5;have NF:=Mi.get yX nofun;refine ⟨_,_,m6,dK m _ _ _ _ _,rfl,rfl,_,yH ⟨_,_,_,_,_,rfl,hc.kz Mi.kz,hv.kz Mi.kz,hr.kz Mi.kz⟩,?_⟩;rintro _ w7 ⟨rfl,g7⟩;have G7:=(G4.trans Mi).trans g7;have m1:=g7.get NF nofun;have m6:=g7.get m6 nofun;have k:=Mi.trans g7;have ZI:(dX (dl d)).1=m:=by rw [em]
 have none':∀ w8,GB (some b1) w7 w8→GB none w w8:=fun w8 g8=>G7.new g8 l1
 clear yX NF m3 m2 g3 g1 g2 G3 g4 m5 g5 g6;obtain ⟨a,ha⟩:∃ a,eF m=a:=⟨_,rfl⟩;have hdn:a=false→sV d=none:=fun h=>by unfold sV;rw [ZI,ha,h];simp
 unfold AA;rw [ha];cases a
 ·refine ⟨_,_,_,m1,rfl,rfl,fun w8 m8 g8=>?_⟩
  exact ⟨_,_,m8,dK (bf 0) (.slice none 0 0) (.slice none 0 0) (.slice none 0 0) (.slice none 0 0) (.slice none 0 0),rfl,rfl,⟨_,_,bf 0,rfl,⟨_,_,_,_,_,rfl,aP.zero _,bY.zero _,aP.zero _⟩,.inr ⟨by decide,hdn rfl⟩⟩,none' w8 g8⟩
 ·refine aj (fun q=>?_) (fun q=>?_)
  ·have q1:sV d=none:=by
    unfold sV;rw [ZI,if_neg];rintro ⟨_,h⟩;rw [show (if true=true then uD (kZ m) else ⟨#[]⟩)=uD (kZ m) from rfl,ByteArray.toList_eq,ByteArray.toList_eq,h] at q;simp at q
   refine ⟨_,_,_,m1,rfl,rfl,fun w8 m8 g8=>?_⟩;exact ⟨_,_,m8,dK (bf 0) (.slice none 0 0) (.slice none 0 0) (.slice none 0 0) (.slice none 0 0) (.slice none 0 0),rfl,rfl,⟨_,_,bf 0,rfl,⟨_,_,_,_,_,rfl,aP.zero _,bY.zero _,aP.zero _⟩,.inr ⟨by decide,q1⟩⟩,none' w8 g8⟩
  ·have q1:sV d=some m:=by
    unfold sV;rw [ZI,if_pos];rw [show (if true=true then uD (kZ m) else ⟨#[]⟩)=uD (kZ m) from rfl,ByteArray.toList_eq,ByteArray.toList_eq] at q;simp at q;exact ⟨ha,by simp [q]⟩
   refine ⟨_,_,m6,dK m _ _ _ _ _,rfl,rfl,_,_,_,m1,rfl,rfl,fun w8 m8 g8=>?_⟩;have hb1:∀ {c t},(x:Nat)→w7.heap[x]? = some (.cells c t)→t≠83→x≠b1:=fun x hx ht=>cO hx m1 ht
   refine ⟨_,_,m8,dK m _ _ _ _ _,rfl,rfl,⟨_,_,m,rfl,⟨_,_,_,_,_,rfl,(hc.kz k.kz).bU g8 m1 (by decide) (by decide),(hv.kz k.kz).bU g8 m1 (by decide) (by decide) (by decide),(hr.kz k.kz).bU g8 m1 (by decide) (by decide)⟩,.inl ⟨rfl,q1,(Ev ha).2⟩⟩,none' w8 g8⟩
end
end
end Go.Proofs.YtignemioillaiabGreat
