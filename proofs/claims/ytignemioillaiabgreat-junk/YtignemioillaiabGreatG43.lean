/- What is read (4): lists of votes. -/
import Derived.Test.YtignemioillaiabGreatG33
namespace Go.Proofs.YtignemioillaiabGreat
set_option maxHeartbeats 8000000
set_option maxRecDepth 100000
section
open Go Go.Conc
theorem aM.own {w w':World} {r:Rg} {rv dv v:Value} {n:Nat} {xs:List Value} (h:aM w r rv dv) (ho:w.ownsRow 0 178 20 v n xs) (g:GB v.ownBlock w w'):aM w' r rv dv:=by
 cases hv:v.ownBlock with
 | none=>rw [hv] at g;exact h.kz g.kz
 | some x =>
  rw [hv] at g;obtain ⟨c,hc⟩:=aD ho hv;exact h.bS g hc (by decide) (by decide)
theorem zip_map {α β γ:Type} (f:α->β->γ):∀ l:List (α×β),List.zipWith f (l.map (·.1)) (l.map (·.2))=l.map λ x=>f x.1 x.2
 | []=>rfl
 | _::l=>by simp only [List.map_cons,List.zipWith_cons_cons,zip_map f l]
section
variable {w:World} {b:Nat} {l:List Nat}
abbrev mvA (x:MV×Value×Value):List Value:=jA x.1 x.2.1 x.2.2
theorem bV.of {w:World} {v:Value} {acc:List (MV×Value×Value)} (ho:w.ownsRow 0 178 20 v acc.length (acc.map mvA).flatten) (hr:∀ x∈acc,aM w x.1.c.r x.2.1 x.2.2):bV w v (acc.map (·.1)):=by
 refine ⟨acc.map (·.2),by simp,?_,λ i x p hx hp=>?_⟩
 ·rw [zip_map (λ x (p:Value×Value)=>jA x p.1 p.2),List.length_map]
  exact lG ho
 ·rw [List.getElem?_map] at hx hp
  cases ha:acc[i]? with
  | none=>rw [ha] at hx;cases hx
  | some y =>
   rw [ha] at hx hp;cases hx;cases hp
   exact hr y (List.mem_of_getElem? ha)
theorem Uc (hs:Src w b l):af Tryz.prog 72 #[Ptt b,.func (.func 73) #[Ptt b] #[]] w (λ v w'=>∃ x l',jg mZ l=(x,l')/\bV w' v x/\Src w' b l'/\GB (some b) w w'):=by
 refine aj ah mixed Tryz.func72 rfl rfl ?_;refine ⟨_,jX hs,?_⟩;rintro _ w1 ⟨n,l1,en,hn,rfl,s1,g1⟩;refine ⟨λ m s wk=>∃ (i:Nat) (v:Value) (acc:List (MV×Value×Value)) (li:List Nat),m=n - i/\i<=n/\s=[(0,Ptt b),(1,.func (.func 73) #[Ptt b] #[]),(5,v),(7,.int .u8 n),(8,.int .u8 i)]/\wk.ownsRow 0 178 20 v acc.length (acc.map mvA).flatten/\Src wk b li/\GB (some b) w wk/\(∀ g,v.ownBlock=some g->w.heap.size<=g)/\nJ mZ n l1=(acc.map (·.1)++(nJ mZ (n - i) li).1,(nJ mZ (n - i) li).2)/\acc.length=i/\∀ x∈acc,aM wk x.1.c.r x.2.1 x.2.2,⟨_,_,⟨0,_,[],l1,rfl,Nat.zero_le _,rfl,eX _ _ _,s1,g1,nofun,rfl,rfl,λ _ h=>by cases h⟩,rfl,rfl,rfl,rfl,rfl,trivial⟩,?_⟩;clear s1 g1;rintro m s wk ⟨i,v,acc,li,rfl,hi,rfl,ho,sk,gk,nk,hr,I9,hrg⟩;obtain ⟨va,vc,rfl⟩:=ae ho;refine au (λ e=>?_) (λ e=>?_)
 ·have e1:i<n:=by have:=of_decide_eq_true e;omega
  obtain ⟨d,hd,rfl⟩:=sk;refine ⟨_,_,hd,_,rfl,au (λ q=>?_) (λ q=>?_)⟩
  ·rw [qB.1 q,FI,List.append_nil] at hr
   exact ⟨_,_,by rw [jg,aX en];exact hr,bV.of ho hrg,⟨d,hd,qB.1 q⟩,gk⟩
  ·have q1:dl d≠[]:=λ z=>by rw [qB.2 z] at q;cases q
   refine ⟨_,WK ⟨d,hd,rfl⟩,?_⟩;rintro _ w2 ⟨x,l2,ex,⟨rv,dv,rfl,hx⟩,s2,g2⟩;obtain ⟨ra,rm,rc,da,dm,dc,rfl,rfl⟩:=hx.sl;refine λ w3 b3 m3 g3 l3=>?_
   have hb:=hs.lt;have ho3:=aA (uo ho g2 nk hb) λ x hx=>by obtain ⟨c,hc⟩:=aD (uo ho g2 nk hb) hx;exact g3.block x (ag hc) nofun
   refine ⟨_,jA x (.slice ra rm rc) (.slice da dm dc),ho3,⟨_,_,m3,rfl,rfl,rfl⟩,by omega,λ v' w4 zf g4 n4=>?_⟩;obtain ⟨LV,LW,rfl⟩:=ae zf;have pM:GB (some b) w w3:=(gk.trans g2).trans g3.weak;have Qs:∀ g,(Value.slice LV (acc.length+1) LW).ownBlock=some g->w.heap.size<=g:=λ g hg=>(n4.own g hg).elim (nk g) λ z=>Nat.le_trans pM.size z
   have s4:Src w4 b l2:=(s2.keep (g3.block b s2.lt nofun)).keep (g4.block b (Nat.lt_of_lt_of_le s2.lt g3.size) λ z=>by have:=nk b z.symm;omega);have g4':GB (some b) w w4:=⟨g4.os.trans pM.os,g4.out.trans pM.out,Nat.le_trans pM.size g4.size,λ y hy hn=>(g4.block y (Nat.lt_of_lt_of_le hy pM.size) λ z=>by have:=nk y z.symm;omega).trans (pM.block y hy hn)⟩;have adi:∀ y∈acc++[(x,Value.slice ra rm rc,Value.slice da dm dc)],aM w4 y.1.c.r y.2.1 y.2.2:=λ y hy=>by
    rcases List.mem_append.1 hy with hy | hy
    ·exact (((hrg y hy).bS g2 hd (by decide) (by decide)).kz g3.kz).own ho3 g4
    ·rw [List.mem_singleton] at hy
     subst hy;exact (hx.kz g3.kz).own ho3 g4
   refine ⟨⟨by omega,by omega⟩,_,_,⟨i+1,_,acc++[(x,.slice ra rm rc,.slice da dm dc)],l2,rfl,by omega,rfl,by simpa using (show w4.ownsRow 0 178 20 _ _ _ from zf),s4,g4',Qs,?_,by simp [I9],adi⟩,⟨rfl,rfl,rfl,rfl,rfl,trivial⟩,by omega⟩;rw [hr,show n - i=(n - (i+1))+1 by omega,yJ ex q1];simp
 ·have e1:i=n:=by have:=of_decide_eq_false e;omega
  rw [e1,Nat.sub_self] at hr;exact ⟨_,_,by rw [jg,aX en];simpa [nJ] using hr,bV.of ho hrg,sk,gk⟩
end
section
variable {w:World} {m:MM} {rv dv vv rv' dS:Value}
theorem aaL {q:bN} {p:az} {b:bE} {s:Nat} {c:MC} {vs:List MV} {r:Rg} {peer seq:Int} (hc:aM w c.r rv dv) (hv:bV w vv vs) (hr:aM w r rv' dS):af Tryz.prog 66 #[.agg (dL ⟨1,q,p,b,s,c,vs,r,peer,seq⟩ rv dv vv rv' dS).toArray] w (λ v w'=>v=.bool (eT ⟨1,q,p,b,s,c,vs,r,peer,seq⟩)/\GB none w w'):=by
 obtain ⟨_,_,_,_,_,_,rfl,rfl⟩:=hc.sl;obtain ⟨_,_,_,_,_,_,rfl,rfl⟩:=hr.sl;obtain ⟨_,_,rfl⟩:=hv.sl;refine aj ah mixed Tryz.func66 rfl rfl ?_;refine λ w1 b1 m1 g1 l1=>⟨_,_,m1,_,rfl,?_⟩
 refine ⟨_,_,m1,q.cells,rfl,rfl,_,yB w1 q,?_⟩;rintro _ w2 ⟨rfl,g2⟩;have m1:=g2.get m1 nofun;have G:=g1.trans g2;refine ⟨_,_,_,m1,rfl,rfl,λ w3 m1 g3=>?_⟩;have G:=G.new g3 l1;obtain ⟨a,ha⟩:∃ a,kI q=a:=⟨_,rfl⟩;rw [ha];cases a
 ·exact ⟨congrArg Value.bool (by simp [eT,ha]),G⟩
 ·refine ⟨_,_,m1,dL ⟨1,qg,p,b,s,c,vs,r,peer,seq⟩ _ _ _ _ _,rfl,rfl,_,gG (m:=⟨1,qg,p,b,s,c,vs,r,peer,seq⟩) (hc.kz G.kz) (hv.kz G.kz) (hr.kz G.kz),?_⟩
  rintro _ w9 ⟨rfl,g9⟩;exact ⟨congrArg Value.bool (by simp [eT,ha]),G.trans g9⟩
theorem aaM {q:bN} {p:az} {b:bE} {s:Nat} {c:MC} {vs:List MV} {r:Rg} {peer seq:Int} (hc:aM w c.r rv dv) (hv:bV w vv vs) (hr:aM w r rv' dS):af Tryz.prog 66 #[.agg (dL ⟨2,q,p,b,s,c,vs,r,peer,seq⟩ rv dv vv rv' dS).toArray] w (λ v w'=>v=.bool (eT ⟨2,q,p,b,s,c,vs,r,peer,seq⟩)/\GB none w w'):=by
 obtain ⟨_,_,_,_,_,_,rfl,rfl⟩:=hc.sl;obtain ⟨_,_,_,_,_,_,rfl,rfl⟩:=hr.sl;obtain ⟨_,_,rfl⟩:=hv.sl;refine aj ah mixed Tryz.func66 rfl rfl ?_;refine λ w1 b1 m1 g1 l1=>⟨_,_,m1,_,rfl,?_⟩
 refine ⟨_,_,m1,p.cells,rfl,rfl,_,Jy w1 p,?_⟩;rintro _ w2 ⟨rfl,g2⟩;have m1:=g2.get m1 nofun;have G:=g1.trans g2;refine ⟨_,_,_,m1,rfl,rfl,λ w3 m1 g3=>?_⟩;have G:=G.new g3 l1;obtain ⟨a,ha⟩:∃ a,tL p=a:=⟨_,rfl⟩;rw [ha];cases a
 ·exact ⟨congrArg Value.bool (by simp [eT,ha]),G⟩
 ·refine ⟨_,_,m1,dL ⟨2,q,rY,b,s,c,vs,r,peer,seq⟩ _ _ _ _ _,rfl,rfl,_,gG (m:=⟨2,q,rY,b,s,c,vs,r,peer,seq⟩) (hc.kz G.kz) (hv.kz G.kz) (hr.kz G.kz),?_⟩
  rintro _ w9 ⟨rfl,g9⟩;exact ⟨congrArg Value.bool (by simp [eT,ha]),G.trans g9⟩
theorem aaN {q:bN} {p:az} {b:bE} {s:Nat} {c:MC} {vs:List MV} {r:Rg} {peer seq:Int} (hc:aM w c.r rv dv) (hv:bV w vv vs) (hr:aM w r rv' dS):af Tryz.prog 66 #[.agg (dL ⟨3,q,p,b,s,c,vs,r,peer,seq⟩ rv dv vv rv' dS).toArray] w (λ v w'=>v=.bool (eT ⟨3,q,p,b,s,c,vs,r,peer,seq⟩)/\GB none w w'):=by
 obtain ⟨_,_,_,_,_,_,rfl,rfl⟩:=hc.sl;obtain ⟨_,_,_,_,_,_,rfl,rfl⟩:=hr.sl;obtain ⟨_,_,rfl⟩:=hv.sl;refine aj ah mixed Tryz.func66 rfl rfl ?_;refine λ w1 b1 m1 g1 l1=>⟨_,_,m1,_,rfl,?_⟩
 have G:=g1;refine ⟨_,_,_,m1,rfl,rfl,λ w3 m1 g3=>?_⟩;have G:=G.new g3 l1;refine ⟨_,_,m1,dL ⟨3,q,p,⟨0,0⟩,s,c,vs,r,peer,seq⟩ _ _ _ _ _,rfl,rfl,_,gG (m:=⟨3,q,p,⟨0,0⟩,s,c,vs,r,peer,seq⟩) (hc.kz G.kz) (hv.kz G.kz) (hr.kz G.kz),?_⟩;rintro _ w9 ⟨rfl,g9⟩;exact ⟨congrArg Value.bool (by simp [eT]),G.trans g9⟩
theorem aaO {q:bN} {p:az} {b:bE} {s:Nat} {c:MC} {vs:List MV} {r:Rg} {peer seq:Int} (hc:aM w c.r rv dv) (hv:bV w vv vs) (hr:aM w r rv' dS):af Tryz.prog 66 #[.agg (dL ⟨4,q,p,b,s,c,vs,r,peer,seq⟩ rv dv vv rv' dS).toArray] w (λ v w'=>v=.bool (eT ⟨4,q,p,b,s,c,vs,r,peer,seq⟩)/\GB none w w'):=by
 obtain ⟨_,_,_,_,_,_,rfl,rfl⟩:=hc.sl;obtain ⟨_,_,_,_,_,_,rfl,rfl⟩:=hr.sl;obtain ⟨_,_,rfl⟩:=hv.sl;refine aj ah mixed Tryz.func66 rfl rfl ?_;refine λ w1 b1 m1 g1 l1=>⟨_,_,m1,_,rfl,?_⟩
 refine ⟨_,_,m1,_,rfl,_,Tu (hv.kz g1.kz),?_⟩;rintro _ w2 ⟨rfl,g2⟩;have m1:=g2.get m1 nofun;have G:=g1.trans g2;refine ⟨_,_,_,m1,rfl,rfl,λ w3 m1 g3=>?_⟩;have G:=G.new g3 l1;refine ⟨_,_,_,m1,rfl,rfl,λ w4 m1 g4=>?_⟩;have G:=G.new g4 l1;obtain ⟨a,ha⟩:∃ a,mW vs=a:=⟨_,rfl⟩;rw [ha];cases a
 ·exact ⟨congrArg Value.bool (by simp [eT,ha]),G⟩
 ·refine ⟨_,_,m1,dL ⟨4,q,p,⟨0,0⟩,s,c,[],r,peer,seq⟩ _ _ (.slice none 0 0) _ _,rfl,rfl,_,gG (m:=⟨4,q,p,⟨0,0⟩,s,c,[],r,peer,seq⟩) (hc.kz G.kz) (bV.zero _) (hr.kz G.kz),?_⟩
  rintro _ w9 ⟨rfl,g9⟩;exact ⟨congrArg Value.bool (by simp [eT,ha]),G.trans g9⟩
theorem aaP {q:bN} {p:az} {b:bE} {s:Nat} {c:MC} {vs:List MV} {r:Rg} {peer seq:Int} (hc:aM w c.r rv dv) (hv:bV w vv vs) (hr:aM w r rv' dS):af Tryz.prog 66 #[.agg (dL ⟨5,q,p,b,s,c,vs,r,peer,seq⟩ rv dv vv rv' dS).toArray] w (λ v w'=>v=.bool (eT ⟨5,q,p,b,s,c,vs,r,peer,seq⟩)/\GB none w w'):=by
 obtain ⟨_,_,_,_,_,_,rfl,rfl⟩:=hc.sl;obtain ⟨_,_,_,_,_,_,rfl,rfl⟩:=hr.sl;obtain ⟨_,_,rfl⟩:=hv.sl;refine aj ah mixed Tryz.func66 rfl rfl ?_;refine λ w1 b1 m1 g1 l1=>⟨_,_,m1,_,rfl,?_⟩
 have G:=g1;refine ⟨_,_,_,m1,rfl,rfl,λ w3 m1 g3=>?_⟩;have G:=G.new g3 l1;refine ⟨_,_,m1,dL ⟨5,q,p,⟨0,0⟩,s,c,vs,r,peer,seq⟩ _ _ _ _ _,rfl,rfl,_,gG (m:=⟨5,q,p,⟨0,0⟩,s,c,vs,r,peer,seq⟩) (hc.kz G.kz) (hv.kz G.kz) (hr.kz G.kz),?_⟩;rintro _ w9 ⟨rfl,g9⟩;exact ⟨congrArg Value.bool (by simp [eT]),G.trans g9⟩
theorem aaQ {q:bN} {p:az} {b:bE} {s:Nat} {c:MC} {vs:List MV} {r:Rg} {peer seq:Int} (hc:aM w c.r rv dv) (hv:bV w vv vs) (hr:aM w r rv' dS):af Tryz.prog 66 #[.agg (dL ⟨6,q,p,b,s,c,vs,r,peer,seq⟩ rv dv vv rv' dS).toArray] w (λ v w'=>v=.bool (eT ⟨6,q,p,b,s,c,vs,r,peer,seq⟩)/\GB none w w'):=by
 obtain ⟨_,_,_,_,_,_,rfl,rfl⟩:=hc.sl;obtain ⟨_,_,_,_,_,_,rfl,rfl⟩:=hr.sl;obtain ⟨_,_,rfl⟩:=hv.sl;refine aj ah mixed Tryz.func66 rfl rfl ?_;refine λ w1 b1 m1 g1 l1=>⟨_,_,m1,_,rfl,?_⟩
 refine ⟨_,_,m1,dz c _ _,rfl,rfl,_,yE (c:=c) (hc.kz g1.kz),?_⟩;rintro _ w2 ⟨rfl,g2⟩;have m1:=g2.get m1 nofun;have G:=g1.trans g2;refine ⟨_,_,_,m1,rfl,rfl,λ w3 m1 g3=>?_⟩;have G:=G.new g3 l1;refine ⟨_,_,_,m1,rfl,rfl,λ w4 m1 g4=>?_⟩;have G:=G.new g4 l1;refine ⟨_,_,_,m1,rfl,rfl,λ w5 m1 g5=>?_⟩;have G:=G.new g5 l1;obtain ⟨a,ha⟩:∃ a,kN c=a:=⟨_,rfl⟩;rw [ha];cases a
 ·exact ⟨congrArg Value.bool (by simp [eT,ha]),G⟩
 ·refine ⟨_,_,m1,dL ⟨6,q,p,⟨0,0⟩,0,nW,vs,r,peer,seq⟩ (.slice none 0 0) (.slice none 0 0) _ _ _,rfl,rfl,_,gG (m:=⟨6,q,p,⟨0,0⟩,0,nW,vs,r,peer,seq⟩) (aM.zero _) (hv.kz G.kz) (hr.kz G.kz),?_⟩
  rintro _ w9 ⟨rfl,g9⟩;exact ⟨congrArg Value.bool (by simp [eT,ha]),G.trans g9⟩
theorem aaR {q:bN} {p:az} {b:bE} {s:Nat} {c:MC} {vs:List MV} {r:Rg} {peer seq:Int} (hc:aM w c.r rv dv) (hv:bV w vv vs) (hr:aM w r rv' dS):af Tryz.prog 66 #[.agg (dL ⟨7,q,p,b,s,c,vs,r,peer,seq⟩ rv dv vv rv' dS).toArray] w (λ v w'=>v=.bool (eT ⟨7,q,p,b,s,c,vs,r,peer,seq⟩)/\GB none w w'):=by
 obtain ⟨_,_,_,_,_,_,rfl,rfl⟩:=hc.sl;obtain ⟨_,_,_,_,_,_,rfl,rfl⟩:=hr.sl;obtain ⟨_,_,rfl⟩:=hv.sl;refine aj ah mixed Tryz.func66 rfl rfl ?_;refine λ w1 b1 m1 g1 l1=>⟨_,_,m1,_,rfl,?_⟩
 have G:=g1;refine ⟨_,_,_,m1,rfl,rfl,λ w3 m1 g3=>?_⟩;have G:=G.new g3 l1;refine ⟨_,_,_,m1,rfl,rfl,λ w4 m1 g4=>?_⟩;have G:=G.new g4 l1;refine ⟨_,_,m1,dL ⟨7,q,p,⟨0,0⟩,0,c,vs,r,peer,seq⟩ _ _ _ _ _,rfl,rfl,_,gG (m:=⟨7,q,p,⟨0,0⟩,0,c,vs,r,peer,seq⟩) (hc.kz G.kz) (hv.kz G.kz) (hr.kz G.kz),?_⟩;rintro _ w9 ⟨rfl,g9⟩;exact ⟨congrArg Value.bool (by simp [eT]),G.trans g9⟩
theorem aaS {q:bN} {p:az} {b:bE} {s:Nat} {c:MC} {vs:List MV} {r:Rg} {peer seq:Int} (hc:aM w c.r rv dv) (hv:bV w vv vs) (hr:aM w r rv' dS):af Tryz.prog 66 #[.agg (dL ⟨8,q,p,b,s,c,vs,r,peer,seq⟩ rv dv vv rv' dS).toArray] w (λ v w'=>v=.bool (eT ⟨8,q,p,b,s,c,vs,r,peer,seq⟩)/\GB none w w'):=by
 obtain ⟨_,_,_,_,_,_,rfl,rfl⟩:=hc.sl;obtain ⟨_,_,_,_,_,_,rfl,rfl⟩:=hr.sl;obtain ⟨_,_,rfl⟩:=hv.sl;refine aj ah mixed Tryz.func66 rfl rfl ?_;refine λ w1 b1 m1 g1 l1=>⟨_,_,m1,_,rfl,?_⟩
 refine ⟨_,_,m1,dz c _ _,rfl,rfl,_,yE (c:=c) (hc.kz g1.kz),?_⟩;rintro _ w2 ⟨rfl,g2⟩;have m1:=g2.get m1 nofun;have G:=g1.trans g2;refine ⟨_,_,_,m1,rfl,rfl,λ w3 m1 g3=>?_⟩;have G:=G.new g3 l1;refine ⟨_,_,_,m1,rfl,rfl,λ w4 m1 g4=>?_⟩;have G:=G.new g4 l1;obtain ⟨a,ha⟩:∃ a,kN c=a:=⟨_,rfl⟩;rw [ha];cases a
 ·exact ⟨congrArg Value.bool (by simp [eT,ha]),G⟩
 ·refine ⟨_,_,m1,dL ⟨8,q,p,b,0,nW,vs,r,peer,seq⟩ (.slice none 0 0) (.slice none 0 0) _ _ _,rfl,rfl,_,gG (m:=⟨8,q,p,b,0,nW,vs,r,peer,seq⟩) (aM.zero _) (hv.kz G.kz) (hr.kz G.kz),?_⟩
  rintro _ w9 ⟨rfl,g9⟩;exact ⟨congrArg Value.bool (by simp [eT,ha]),G.trans g9⟩
theorem aaT {q:bN} {p:az} {b:bE} {s:Nat} {c:MC} {vs:List MV} {r:Rg} {peer seq:Int} (hc:aM w c.r rv dv) (hv:bV w vv vs) (hr:aM w r rv' dS):af Tryz.prog 66 #[.agg (dL ⟨9,q,p,b,s,c,vs,r,peer,seq⟩ rv dv vv rv' dS).toArray] w (λ v w'=>v=.bool (eT ⟨9,q,p,b,s,c,vs,r,peer,seq⟩)/\GB none w w'):=by
 obtain ⟨_,_,_,_,_,_,rfl,rfl⟩:=hc.sl;obtain ⟨_,_,_,_,_,_,rfl,rfl⟩:=hr.sl;obtain ⟨_,_,rfl⟩:=hv.sl;refine aj ah mixed Tryz.func66 rfl rfl ?_;refine λ w1 b1 m1 g1 l1=>⟨_,_,m1,_,rfl,?_⟩
 refine ⟨_,_,m1,eO r _ _,rfl,rfl,_,C9 (r:=r) (hr.kz g1.kz),?_⟩;rintro _ w2 ⟨rfl,g2⟩;have m1:=g2.get m1 nofun;have G:=g1.trans g2;refine ⟨_,_,_,m1,rfl,rfl,λ w3 m1 g3=>?_⟩;have G:=G.new g3 l1;obtain ⟨a,ha⟩:∃ a,og r=a:=⟨_,rfl⟩;rw [ha];cases a
 ·exact ⟨congrArg Value.bool (by simp [eT,ha]),G⟩
 ·refine ⟨_,_,m1,dL ⟨9,q,p,b,s,c,vs,pG,peer,seq⟩ _ _ _ (.slice none 0 0) (.slice none 0 0),rfl,rfl,_,gG (m:=⟨9,q,p,b,s,c,vs,pG,peer,seq⟩) (hc.kz G.kz) (hv.kz G.kz) (aM.zero _),?_⟩
  rintro _ w9 ⟨rfl,g9⟩;exact ⟨congrArg Value.bool (by simp [eT,ha]),G.trans g9⟩
theorem ZH {q:bN} {p:az} {b:bE} {s:Nat} {c:MC} {vs:List MV} {r:Rg} {peer seq:Int} (hc:aM w c.r rv dv) (hv:bV w vv vs) (hr:aM w r rv' dS):af Tryz.prog 66 #[.agg (dL ⟨10,q,p,b,s,c,vs,r,peer,seq⟩ rv dv vv rv' dS).toArray] w (λ v w'=>v=.bool (eT ⟨10,q,p,b,s,c,vs,r,peer,seq⟩)/\GB none w w'):=by
 obtain ⟨_,_,_,_,_,_,rfl,rfl⟩:=hc.sl;obtain ⟨_,_,_,_,_,_,rfl,rfl⟩:=hr.sl;obtain ⟨_,_,rfl⟩:=hv.sl;refine aj ah mixed Tryz.func66 rfl rfl ?_;refine λ w1 b1 m1 g1 l1=>⟨_,_,m1,_,rfl,?_⟩
 refine ⟨_,_,m1,_,rfl,_,oU w1 _,?_⟩;rintro _ w2 ⟨rfl,rfl⟩;have G:=g1;refine ⟨_,_,_,m1,rfl,rfl,λ w3 m1 g3=>?_⟩;have G:=G.new g3 l1;refine ⟨_,_,_,m1,rfl,rfl,λ w4 m1 g4=>?_⟩;have G:=G.new g4 l1;obtain ⟨a,ha⟩:∃ a,decide (peer<4)=a:=⟨_,rfl⟩;rw [ha];cases a
 ·exact ⟨congrArg Value.bool (by simp [eT,ha]),G⟩
 ·refine ⟨_,_,m1,dL ⟨10,q,p,b,s,c,vs,r,0,0⟩ _ _ _ _ _,rfl,rfl,_,gG (m:=⟨10,q,p,b,s,c,vs,r,0,0⟩) (hc.kz G.kz) (hv.kz G.kz) (hr.kz G.kz),?_⟩
  rintro _ w9 ⟨rfl,g9⟩;exact ⟨congrArg Value.bool (by simp [eT,ha]),G.trans g9⟩
theorem Oy (hc:aM w m.c.r rv dv) (hv:bV w vv m.vs) (hr:aM w m.r rv' dS):af Tryz.prog 66 #[.agg (dL m rv dv vv rv' dS).toArray] w (λ v w'=>v=.bool (eT m)/\GB none w w'):=by
 obtain ⟨k,q,p,b,s,c,vs,r,peer,seq⟩:=m;by_cases k1:k=1
 ·subst k1;exact aaL hc hv hr
 by_cases k2:k=2
 ·subst k2;exact aaM hc hv hr
 by_cases k3:k=3
 ·subst k3;exact aaN hc hv hr
 by_cases k4:k=4
 ·subst k4;exact aaO hc hv hr
 by_cases k5:k=5
 ·subst k5;exact aaP hc hv hr
 by_cases k6:k=6
 ·subst k6;exact aaQ hc hv hr
 by_cases k7:k=7
 ·subst k7;exact aaR hc hv hr
 by_cases k8:k=8
 ·subst k8;exact aaS hc hv hr
 by_cases k9:k=9
 ·subst k9;exact aaT hc hv hr
 by_cases k10:k=10
 ·subst k10;exact ZH hc hv hr
 obtain ⟨_,_,_,_,_,_,rfl,rfl⟩:=hc.sl;obtain ⟨_,_,_,_,_,_,rfl,rfl⟩:=hr.sl;obtain ⟨_,_,rfl⟩:=hv.sl;refine aj ah mixed Tryz.func66 rfl rfl ?_;refine λ w1 b1 m1 g1 l1=>⟨_,_,m1,_,rfl,?_⟩
 refine au (λ e=>absurd (by simpa using e) k1) (λ _=>?_);refine au (λ e=>absurd (by simpa using e) k2) (λ _=>?_);refine au (λ e=>absurd (by simpa using e) k3) (λ _=>?_);refine au (λ e=>absurd (by simpa using e) k5) (λ _=>?_);refine au (λ e=>absurd (by simpa using e) k4) (λ _=>?_);refine au (λ e=>absurd (by simpa using e) k6) (λ _=>?_);refine au (λ e=>absurd (by simpa using e) k7) (λ _=>?_);refine au (λ e=>absurd (by simpa using e) k8) (λ _=>?_);refine au (λ e=>absurd (by simpa using e) k9) (λ _=>?_);refine au (λ e=>absurd (by simpa using e) k10) (λ _=>?_);exact ⟨congrArg Value.bool (by simp [eT,k1,k2,k3,k4,k5,k6,k7,k8,k9,k10]),g1⟩
end
def dP (l:List Nat):MM×List Nat:=nx 1 l λ k l =>
 if k=1 then rn qz l λ q l=>({ aP k with q:=q },l)
 else if k=2 then rn kZ l λ p l=>({ aP k with p:=p },l)
 else if k=3 then rn gZ l λ b l=>({ aP k with b:=b },l)
 else if k=5 then rn gZ l λ b l=>({ aP k with b:=b },l)
 else if k=4 then rn gZ l λ b l=>rn (jg mZ) l λ vs l=>({ aP k with b:=b,vs:=vs },l)
 else if k=6 then rn gZ l λ b l=>nx 4 l λ s l=>rn mF l λ c l=>({ aP k with b:=b,s:=s,c:=c },l)
 else if k=7 then rn gZ l λ b l=>nx 4 l λ s l=>({ aP k with b:=b,s:=s },l)
 else if k=8 then nx 4 l λ s l=>rn mF l λ c l=>({ aP k with s:=s,c:=c },l)
 else if k=9 then rn AP l λ r l=>({ aP k with r:=r },l)
 else if k=10 then nx 1 l λ p l=>nx 4 l λ s l=>({ aP k with peer:=p,seq:=s },l)
 else (aP k,l)
theorem bV.bS {w w':World} {v:Value} {l:List MV} {x t:Nat} {c:Array Value} (h:bV w v l) (g:GB (some x) w w') (hx:w.heap[x]? = some (.cells c t)) (h1:t≠139) (h2:t≠70) (h3:t≠178):bV w' v l:=by
 obtain ⟨ps,a1,a2,a3⟩:=h;exact ⟨ps,a1,a2.bS g hx h3,λ i y p hy hp=>(a3 i y p hy hp).bS g hx h1 h2⟩
section
variable {w:World} {b:Nat} {l:List Nat}
theorem ZI (hs:Src w b l):af Tryz.prog 44 #[Ptt b] w (λ v w'=>∃ x l',dP l=(x,l')/\Ae w' v x/\Src w' b l'/\GB (some b) w w'):=by
 refine aj ah mixed Tryz.func44 rfl rfl ?_;refine λ w1 b1 m1 g1 l1=>?_
 refine ⟨_,jX (hs.keep (g1.block b hs.lt nofun)),?_⟩;rintro _ w2 ⟨k,l2,ek,ck,rfl,s2,g2⟩;refine λ w3 b3 m3 g3 l3=>⟨_,_,_,m3,rfl,rfl,λ w4 m4 g4=>?_⟩
 have B:=Bx.Za hs m1 g1 l1 s2 g2 m3 g3 l3 m4 g4;clear m1 g1 l1 s2 g2 m3 g3 l3 m4 g4;by_cases k1:k=1
 ·subst k1
  refine ⟨_,_,B.m2,_,rfl,?_⟩;refine ⟨_,Qp B.s,?_⟩;rintro _ w3 ⟨q,l3,eq,rfl,s3,g3⟩;replace B:=B.rd s3 g3;clear s3 g3;refine ⟨_,_,_,B.m2,rfl,rfl,λ w4 m4 g4=>?_⟩;replace B:=B.st m4 g4;clear m4 g4;refine ⟨_,_,B.m2,dL { aP 1 with q:=q } (.slice none 0 0) (.slice none 0 0) (.slice none 0 0) (.slice none 0 0) (.slice none 0 0),rfl,rfl,_,_,_,B.m1,rfl,rfl,λ w5 m5 g5=>?_⟩;obtain ⟨s5,g5⟩:=B.fin g5;exact ⟨_,_,m5,dL { aP 1 with q:=q } (.slice none 0 0) (.slice none 0 0) (.slice none 0 0) (.slice none 0 0) (.slice none 0 0),rfl,rfl,_,_,by rw [dP,aX ek,if_pos rfl,dV eq];rfl,⟨_,_,_,_,_,rfl,aM.zero _,bV.zero _,aM.zero _⟩,s5,g5⟩
 by_cases k2:k=2
 ·subst k2
  refine ⟨_,_,B.m2,_,rfl,?_⟩;refine ⟨_,Qq B.s,?_⟩;rintro _ w3 ⟨p,l3,ep,rfl,s3,g3⟩;replace B:=B.rd s3 g3;clear s3 g3;refine ⟨_,_,_,B.m2,rfl,rfl,λ w4 m4 g4=>?_⟩;replace B:=B.st m4 g4;clear m4 g4;refine ⟨_,_,B.m2,dL { aP 2 with p:=p } (.slice none 0 0) (.slice none 0 0) (.slice none 0 0) (.slice none 0 0) (.slice none 0 0),rfl,rfl,_,_,_,B.m1,rfl,rfl,λ w5 m5 g5=>?_⟩;obtain ⟨s5,g5⟩:=B.fin g5;exact ⟨_,_,m5,dL { aP 2 with p:=p } (.slice none 0 0) (.slice none 0 0) (.slice none 0 0) (.slice none 0 0) (.slice none 0 0),rfl,rfl,_,_,by rw [dP,aX ek,if_neg (by decide),if_pos rfl,dV ep];rfl,⟨_,_,_,_,_,rfl,aM.zero _,bV.zero _,aM.zero _⟩,s5,g5⟩
 by_cases k3:k=3
 ·subst k3
  refine ⟨_,_,B.m2,_,rfl,?_⟩;refine ⟨_,xE B.s,?_⟩;rintro _ w3 ⟨bb,l3,EH,rfl,s3,g3⟩;replace B:=B.rd s3 g3;clear s3 g3;refine ⟨_,_,_,B.m2,rfl,rfl,λ w4 m4 g4=>?_⟩;replace B:=B.st m4 g4;clear m4 g4;refine ⟨_,_,B.m2,dL { aP 3 with b:=bb } (.slice none 0 0) (.slice none 0 0) (.slice none 0 0) (.slice none 0 0) (.slice none 0 0),rfl,rfl,_,_,_,B.m1,rfl,rfl,λ w5 m5 g5=>?_⟩;obtain ⟨s5,g5⟩:=B.fin g5;exact ⟨_,_,m5,dL { aP 3 with b:=bb } (.slice none 0 0) (.slice none 0 0) (.slice none 0 0) (.slice none 0 0) (.slice none 0 0),rfl,rfl,_,_,by rw [dP,aX ek,if_neg (by decide),if_neg (by decide),if_pos rfl,dV EH];rfl,⟨_,_,_,_,_,rfl,aM.zero _,bV.zero _,aM.zero _⟩,s5,g5⟩
 by_cases k5:k=5
 ·subst k5
  refine ⟨_,_,B.m2,_,rfl,?_⟩;refine ⟨_,xE B.s,?_⟩;rintro _ w3 ⟨bb,l3,EH,rfl,s3,g3⟩;replace B:=B.rd s3 g3;clear s3 g3;refine ⟨_,_,_,B.m2,rfl,rfl,λ w4 m4 g4=>?_⟩;replace B:=B.st m4 g4;clear m4 g4;refine ⟨_,_,B.m2,dL { aP 5 with b:=bb } (.slice none 0 0) (.slice none 0 0) (.slice none 0 0) (.slice none 0 0) (.slice none 0 0),rfl,rfl,_,_,_,B.m1,rfl,rfl,λ w5 m5 g5=>?_⟩;obtain ⟨s5,g5⟩:=B.fin g5;exact ⟨_,_,m5,dL { aP 5 with b:=bb } (.slice none 0 0) (.slice none 0 0) (.slice none 0 0) (.slice none 0 0) (.slice none 0 0),rfl,rfl,_,_,by rw [dP,aX ek,if_neg (by decide),if_neg (by decide),if_neg (by decide),if_pos rfl,dV EH];rfl,⟨_,_,_,_,_,rfl,aM.zero _,bV.zero _,aM.zero _⟩,s5,g5⟩
 by_cases k4:k=4
 ·subst k4
  refine ⟨_,_,B.m2,_,rfl,?_⟩;refine ⟨_,xE B.s,?_⟩;rintro _ w3 ⟨bb,l3,EH,rfl,s3,g3⟩;replace B:=B.rd s3 g3;clear s3 g3;refine ⟨_,_,_,B.m2,rfl,rfl,λ w4 m4 g4=>?_⟩;replace B:=B.st m4 g4;clear m4 g4;refine ⟨_,Uc B.s,?_⟩;rintro vv w3 ⟨vs,l3,evs,hv,s3,g3⟩;obtain ⟨va,vc,rfl⟩:=hv.sl;replace B:=B.rd s3 g3;clear s3 g3;refine ⟨_,_,_,B.m2,rfl,rfl,λ w4 m4 g4=>?_⟩;replace hv:=hv.bS g4 B.m2 (by decide) (by decide) (by decide);replace B:=B.st m4 g4;clear m4 g4;refine ⟨_,_,B.m2,dL { aP 4 with b:=bb,vs:=vs } (.slice none 0 0) (.slice none 0 0) (.slice va vs.length vc) (.slice none 0 0) (.slice none 0 0),rfl,rfl,_,_,_,B.m1,rfl,rfl,λ w5 m5 g5=>?_⟩;replace hv:=hv.bS g5 B.m1 (by decide) (by decide) (by decide);obtain ⟨s5,g5⟩:=B.fin g5;exact ⟨_,_,m5,dL { aP 4 with b:=bb,vs:=vs } (.slice none 0 0) (.slice none 0 0) (.slice va vs.length vc) (.slice none 0 0) (.slice none 0 0),rfl,rfl,_,_,by rw [dP,aX ek,if_neg (by decide),if_neg (by decide),if_neg (by decide),if_neg (by decide),if_pos rfl,dV EH,dV evs];rfl,⟨_,_,_,_,_,rfl,aM.zero _,hv,aM.zero _⟩,s5,g5⟩
 by_cases k6:k=6
 ·subst k6
  refine ⟨_,_,B.m2,_,rfl,?_⟩;refine ⟨_,xE B.s,?_⟩;rintro _ w3 ⟨bb,l3,EH,rfl,s3,g3⟩;replace B:=B.rd s3 g3;clear s3 g3;refine ⟨_,_,_,B.m2,rfl,rfl,λ w4 m4 g4=>?_⟩;replace B:=B.st m4 g4;clear m4 g4;refine ⟨_,oo B.s,?_⟩;rintro _ w3 ⟨s,l3,es,cs,rfl,s3,g3⟩;replace B:=B.rd s3 g3;clear s3 g3;refine ⟨_,_,_,B.m2,rfl,rfl,λ w4 m4 g4=>?_⟩;replace B:=B.st m4 g4;clear m4 g4;refine ⟨_,JF B.s,?_⟩;rintro _ w3 ⟨c,l3,ec,⟨rv,dv,rfl,hr⟩,s3,g3⟩;obtain ⟨ra,rm,rc,da,dm,dc,rfl,rfl⟩:=hr.sl;replace B:=B.rd s3 g3;clear s3 g3;refine ⟨_,_,_,B.m2,rfl,rfl,λ w4 m4 g4=>?_⟩;replace hr:=hr.bS g4 B.m2 (by decide) (by decide);replace B:=B.st m4 g4;clear m4 g4;refine ⟨_,_,B.m2,dL { aP 6 with b:=bb,s:=s,c:=c } (.slice ra rm rc) (.slice da dm dc) (.slice none 0 0) (.slice none 0 0) (.slice none 0 0),rfl,rfl,_,_,_,B.m1,rfl,rfl,λ w5 m5 g5=>?_⟩;replace hr:=hr.bS g5 B.m1 (by decide) (by decide);obtain ⟨s5,g5⟩:=B.fin g5;exact ⟨_,_,m5,dL { aP 6 with b:=bb,s:=s,c:=c } (.slice ra rm rc) (.slice da dm dc) (.slice none 0 0) (.slice none 0 0) (.slice none 0 0),rfl,rfl,_,_,by rw [dP,aX ek,if_neg (by decide),if_neg (by decide),if_neg (by decide),if_neg (by decide),if_neg (by decide),if_pos rfl,dV EH,aX es,dV ec];rfl,⟨_,_,_,_,_,rfl,hr,bV.zero _,aM.zero _⟩,s5,g5⟩
 by_cases k7:k=7
 ·subst k7
  refine ⟨_,_,B.m2,_,rfl,?_⟩;refine ⟨_,xE B.s,?_⟩;rintro _ w3 ⟨bb,l3,EH,rfl,s3,g3⟩;replace B:=B.rd s3 g3;clear s3 g3;refine ⟨_,_,_,B.m2,rfl,rfl,λ w4 m4 g4=>?_⟩;replace B:=B.st m4 g4;clear m4 g4;refine ⟨_,oo B.s,?_⟩;rintro _ w3 ⟨s,l3,es,cs,rfl,s3,g3⟩;replace B:=B.rd s3 g3;clear s3 g3;refine ⟨_,_,_,B.m2,rfl,rfl,λ w4 m4 g4=>?_⟩;replace B:=B.st m4 g4;clear m4 g4;refine ⟨_,_,B.m2,dL { aP 7 with b:=bb,s:=s } (.slice none 0 0) (.slice none 0 0) (.slice none 0 0) (.slice none 0 0) (.slice none 0 0),rfl,rfl,_,_,_,B.m1,rfl,rfl,λ w5 m5 g5=>?_⟩;obtain ⟨s5,g5⟩:=B.fin g5;exact ⟨_,_,m5,dL { aP 7 with b:=bb,s:=s } (.slice none 0 0) (.slice none 0 0) (.slice none 0 0) (.slice none 0 0) (.slice none 0 0),rfl,rfl,_,_,by rw [dP,aX ek,if_neg (by decide),if_neg (by decide),if_neg (by decide),if_neg (by decide),if_neg (by decide),if_neg (by decide),if_pos rfl,dV EH,aX es];rfl,⟨_,_,_,_,_,rfl,aM.zero _,bV.zero _,aM.zero _⟩,s5,g5⟩
 by_cases k8:k=8
 ·subst k8
  refine ⟨_,_,B.m2,_,rfl,?_⟩;refine ⟨_,oo B.s,?_⟩;rintro _ w3 ⟨s,l3,es,cs,rfl,s3,g3⟩;replace B:=B.rd s3 g3;clear s3 g3;refine ⟨_,_,_,B.m2,rfl,rfl,λ w4 m4 g4=>?_⟩;replace B:=B.st m4 g4;clear m4 g4;refine ⟨_,JF B.s,?_⟩;rintro _ w3 ⟨c,l3,ec,⟨rv,dv,rfl,hr⟩,s3,g3⟩;obtain ⟨ra,rm,rc,da,dm,dc,rfl,rfl⟩:=hr.sl;replace B:=B.rd s3 g3;clear s3 g3;refine ⟨_,_,_,B.m2,rfl,rfl,λ w4 m4 g4=>?_⟩;replace hr:=hr.bS g4 B.m2 (by decide) (by decide);replace B:=B.st m4 g4;clear m4 g4;refine ⟨_,_,B.m2,dL { aP 8 with s:=s,c:=c } (.slice ra rm rc) (.slice da dm dc) (.slice none 0 0) (.slice none 0 0) (.slice none 0 0),rfl,rfl,_,_,_,B.m1,rfl,rfl,λ w5 m5 g5=>?_⟩;replace hr:=hr.bS g5 B.m1 (by decide) (by decide);obtain ⟨s5,g5⟩:=B.fin g5;exact ⟨_,_,m5,dL { aP 8 with s:=s,c:=c } (.slice ra rm rc) (.slice da dm dc) (.slice none 0 0) (.slice none 0 0) (.slice none 0 0),rfl,rfl,_,_,by rw [dP,aX ek,if_neg (by decide),if_neg (by decide),if_neg (by decide),if_neg (by decide),if_neg (by decide),if_neg (by decide),if_neg (by decide),if_pos rfl,aX es,dV ec];rfl,⟨_,_,_,_,_,rfl,hr,bV.zero _,aM.zero _⟩,s5,g5⟩
 by_cases k9:k=9
 ·subst k9
  refine ⟨_,_,B.m2,_,rfl,?_⟩;refine ⟨_,U4 B.s,?_⟩;rintro _ w3 ⟨r,l3,er,⟨rv,dv,rfl,hr⟩,s3,g3⟩;obtain ⟨ra,rm,rc,da,dm,dc,rfl,rfl⟩:=hr.sl;replace B:=B.rd s3 g3;clear s3 g3;refine ⟨_,_,_,B.m2,rfl,rfl,λ w4 m4 g4=>?_⟩;replace hr:=hr.bS g4 B.m2 (by decide) (by decide);replace B:=B.st m4 g4;clear m4 g4;refine ⟨_,_,B.m2,dL { aP 9 with r:=r } (.slice none 0 0) (.slice none 0 0) (.slice none 0 0) (.slice ra rm rc) (.slice da dm dc),rfl,rfl,_,_,_,B.m1,rfl,rfl,λ w5 m5 g5=>?_⟩;replace hr:=hr.bS g5 B.m1 (by decide) (by decide);obtain ⟨s5,g5⟩:=B.fin g5;exact ⟨_,_,m5,dL { aP 9 with r:=r } (.slice none 0 0) (.slice none 0 0) (.slice none 0 0) (.slice ra rm rc) (.slice da dm dc),rfl,rfl,_,_,by rw [dP,aX ek,if_neg (by decide),if_neg (by decide),if_neg (by decide),if_neg (by decide),if_neg (by decide),if_neg (by decide),if_neg (by decide),if_neg (by decide),if_pos rfl,dV er];rfl,⟨_,_,_,_,_,rfl,aM.zero _,bV.zero _,hr⟩,s5,g5⟩
 by_cases k10:k=10
 ·subst k10
  refine ⟨_,_,B.m2,_,rfl,?_⟩;refine ⟨_,jX B.s,?_⟩;rintro _ w3 ⟨p,l3,ep,cp,rfl,s3,g3⟩;replace B:=B.rd s3 g3;clear s3 g3;refine ⟨_,_,_,B.m2,rfl,rfl,λ w4 m4 g4=>?_⟩;replace B:=B.st m4 g4;clear m4 g4;refine ⟨_,oo B.s,?_⟩;rintro _ w3 ⟨t,l3,et,ct,rfl,s3,g3⟩;replace B:=B.rd s3 g3;clear s3 g3;refine ⟨_,_,_,B.m2,rfl,rfl,λ w4 m4 g4=>?_⟩;replace B:=B.st m4 g4;clear m4 g4;refine ⟨_,_,B.m2,dL { aP 10 with peer:=p,seq:=t } (.slice none 0 0) (.slice none 0 0) (.slice none 0 0) (.slice none 0 0) (.slice none 0 0),rfl,rfl,_,_,_,B.m1,rfl,rfl,λ w5 m5 g5=>?_⟩;obtain ⟨s5,g5⟩:=B.fin g5;exact ⟨_,_,m5,dL { aP 10 with peer:=p,seq:=t } (.slice none 0 0) (.slice none 0 0) (.slice none 0 0) (.slice none 0 0) (.slice none 0 0),rfl,rfl,_,_,by rw [dP,aX ek,if_neg (by decide),if_neg (by decide),if_neg (by decide),if_neg (by decide),if_neg (by decide),if_neg (by decide),if_neg (by decide),if_neg (by decide),if_neg (by decide),if_pos rfl,aX ep,aX et];rfl,⟨_,_,_,_,_,rfl,aM.zero _,bV.zero _,aM.zero _⟩,s5,g5⟩
 refine ⟨_,_,B.m2,_,rfl,?_⟩;refine au (λ q=>absurd (by simp at q;omega) k1) (λ _=>?_);refine au (λ q=>absurd (by simp at q;omega) k2) (λ _=>?_);refine au (λ q=>absurd (by simp at q;omega) k3) (λ _=>?_);refine au (λ q=>absurd (by simp at q;omega) k5) (λ _=>?_);refine au (λ q=>absurd (by simp at q;omega) k4) (λ _=>?_);refine au (λ q=>absurd (by simp at q;omega) k6) (λ _=>?_);refine au (λ q=>absurd (by simp at q;omega) k7) (λ _=>?_);refine au (λ q=>absurd (by simp at q;omega) k8) (λ _=>?_);refine au (λ q=>absurd (by simp at q;omega) k9) (λ _=>?_);refine au (λ q=>absurd (by simp at q;omega) k10) (λ _=>?_);refine ⟨_,_,B.m2,dL (aP k) (.slice none 0 0) (.slice none 0 0) (.slice none 0 0) (.slice none 0 0) (.slice none 0 0),rfl,rfl,_,_,_,B.m1,rfl,rfl,λ w5 m5 g5=>?_⟩;obtain ⟨s5,g5⟩:=B.fin g5;exact ⟨_,_,m5,dL (aP k) (.slice none 0 0) (.slice none 0 0) (.slice none 0 0) (.slice none 0 0) (.slice none 0 0),rfl,rfl,_,_,by rw [dP,aX ek,if_neg k1,if_neg k2,if_neg k3,if_neg k5,if_neg k4,if_neg k6,if_neg k7,if_neg k8,if_neg k9,if_neg k10],⟨_,_,_,_,_,rfl,aM.zero _,bV.zero _,aM.zero _⟩,s5,g5⟩
end
end
end Go.Proofs.YtignemioillaiabGreat
