/- What is read (4): lists of votes. -/
import Derived.Test.YtignemioillaiaaGreatG33
namespace Go.Proofs.YtignemioillaiaaGreat
set_option maxHeartbeats 8000000
set_option maxRecDepth 100000
section
open Go Go.Conc
theorem aM.own {w w':World} {r:Rg} {rv dv v:Value} {n:Nat} {xs:List Value} (h:aM w r rv dv) (ho:w.ownsRow 0 196 20 v n xs) (g:GB v.ownBlock w w'):aM w' r rv dv:=by
 cases hv:v.ownBlock with
 | none=>rw [hv] at g;exact h.kz g.kz
 | some x =>
  rw [hv] at g;obtain ⟨c,hc⟩:=aD ho hv;exact h.bU g hc (by decide) (by decide)
theorem zip_map {α β γ:Type} (f:α->β->γ):∀ l:List (α×β),List.zipWith f (l.map (·.1)) (l.map (·.2))=l.map λ x=>f x.1 x.2
 | []=>rfl
 | _::l=>by simp only [List.map_cons,List.zipWith_cons_cons,zip_map f l]
section
variable {w:World} {b:Nat} {l:List Nat}
abbrev mvA (x:MV×Value×Value):List Value:=jC x.1 x.2.1 x.2.2
theorem bW.of {w:World} {v:Value} {acc:List (MV×Value×Value)} (ho:w.ownsRow 0 196 20 v acc.length (acc.map mvA).flatten) (hr:∀ x∈acc,aM w x.1.c.r x.2.1 x.2.2):bW w v (acc.map (·.1)):=by
 refine ⟨acc.map (·.2),by simp,?_,λ i x p hx hp=>?_⟩
 ·rw [zip_map (λ x (p:Value×Value)=>jC x p.1 p.2),List.length_map]
  exact lK ho
 ·rw [List.getElem?_map] at hx hp
  cases ha:acc[i]? with
  | none=>rw [ha] at hx;cases hx
  | some y =>
   rw [ha] at hx hp;cases hx;cases hp
   exact hr y (List.mem_of_getElem? ha)
theorem Ut (hs:Src w b l):ag Tryz.prog 195 #[Ptt b,.func (.func 196) #[Ptt b] #[]] w (λ v w'=>∃ x l',jl nu l=(x,l')/\bW w' v x/\Src w' b l'/\GB (some b) w w'):=by
 refine au ah mixed Tryz.func195 rfl rfl ?_;refine ⟨_,jY hs,?_⟩;rintro _ w1 ⟨n,l1,en,hn,rfl,s1,g1⟩;refine ⟨λ m s wk=>∃ (i:Nat) (v:Value) (acc:List (MV×Value×Value)) (li:List Nat),m=n - i/\i<=n/\s=[(0,Ptt b),(1,.func (.func 196) #[Ptt b] #[]),(5,v),(7,.int .u8 n),(8,.int .u8 i)]/\wk.ownsRow 0 196 20 v acc.length (acc.map mvA).flatten/\Src wk b li/\GB (some b) w wk/\(∀ g,v.ownBlock=some g->w.heap.size<=g)/\nL nu n l1=(acc.map (·.1)++(nL nu (n - i) li).1,(nL nu (n - i) li).2)/\acc.length=i/\∀ x∈acc,aM wk x.1.c.r x.2.1 x.2.2,⟨_,_,⟨0,_,[],l1,rfl,Nat.zero_le _,rfl,eZ _ _ _,s1,g1,nofun,rfl,rfl,λ _ h=>by cases h⟩,rfl,rfl,rfl,rfl,rfl,trivial⟩,?_⟩;clear s1 g1;rintro m s wk ⟨i,v,acc,li,rfl,hi,rfl,ho,sk,gk,nk,hr,Jl,hrg⟩;obtain ⟨va,vc,rfl⟩:=af ho;refine aj (λ e=>?_) (λ e=>?_)
 ·have e1:i<n:=by have:=of_decide_eq_true e;omega
  obtain ⟨d,hd,rfl⟩:=sk;refine ⟨_,_,hd,_,rfl,aj (λ q=>?_) (λ q=>?_)⟩
  ·rw [qE.1 q,FR,List.append_nil] at hr
   exact ⟨_,_,by rw [jl,aY en];exact hr,bW.of ho hrg,⟨d,hd,qE.1 q⟩,gk⟩
  ·have q1:dl d≠[]:=λ z=>by rw [qE.2 z] at q;cases q
   refine ⟨_,Xj ⟨d,hd,rfl⟩,?_⟩;rintro _ w2 ⟨x,l2,ex,⟨rv,dv,rfl,hx⟩,s2,g2⟩;obtain ⟨ra,rm,rc,da,dm,dc,rfl,rfl⟩:=hx.sl;refine λ w3 b3 m3 g3 l3=>?_
   have hb:=hs.lt;have ho3:=aA (uy ho g2 nk hb) λ x hx=>by obtain ⟨c,hc⟩:=aD (uy ho g2 nk hb) hx;exact g3.block x (ae hc) nofun
   refine ⟨_,jC x (.slice ra rm rc) (.slice da dm dc),ho3,⟨_,_,m3,rfl,rfl,rfl⟩,by omega,λ v' w4 zo g4 n4=>?_⟩;obtain ⟨Mf,Mg,rfl⟩:=af zo;have pQ:GB (some b) w w3:=(gk.trans g2).trans g3.weak;have QE:∀ g,(Value.slice Mf (acc.length+1) Mg).ownBlock=some g->w.heap.size<=g:=λ g hg=>(n4.own g hg).elim (nk g) λ z=>Nat.le_trans pQ.size z
   have s4:Src w4 b l2:=(s2.keep (g3.block b s2.lt nofun)).keep (g4.block b (Nat.lt_of_lt_of_le s2.lt g3.size) λ z=>by have:=nk b z.symm;omega);have g4':GB (some b) w w4:=⟨g4.os.trans pQ.os,g4.out.trans pQ.out,Nat.le_trans pQ.size g4.size,λ y hy hn=>(g4.block y (Nat.lt_of_lt_of_le hy pQ.size) λ z=>by have:=nk y z.symm;omega).trans (pQ.block y hy hn)⟩;have adS:∀ y∈acc++[(x,Value.slice ra rm rc,Value.slice da dm dc)],aM w4 y.1.c.r y.2.1 y.2.2:=λ y hy=>by
    rcases List.mem_append.1 hy with hy | hy
    ·exact (((hrg y hy).bU g2 hd (by decide) (by decide)).kz g3.kz).own ho3 g4
    ·rw [List.mem_singleton] at hy
     subst hy;exact (hx.kz g3.kz).own ho3 g4
   refine ⟨⟨by omega,by omega⟩,_,_,⟨i+1,_,acc++[(x,.slice ra rm rc,.slice da dm dc)],l2,rfl,by omega,rfl,by simpa using (show w4.ownsRow 0 196 20 _ _ _ from zo),s4,g4',QE,?_,by simp [Jl],adS⟩,⟨rfl,rfl,rfl,rfl,rfl,trivial⟩,by omega⟩;rw [hr,show n - i=(n - (i+1))+1 by omega,yQ ex q1];simp
 ·have e1:i=n:=by have:=of_decide_eq_false e;omega
  rw [e1,Nat.sub_self] at hr;exact ⟨_,_,by rw [jl,aY en];simpa [nL] using hr,bW.of ho hrg,sk,gk⟩
end
section
variable {w:World} {m:MM} {rv dv vv rv' eG:Value}
theorem abe {q:bQ} {p:az} {b:bF} {s:Nat} {c:MC} {vs:List MV} {r:Rg} {peer seq:Int} (hc:aM w c.r rv dv) (hv:bW w vv vs) (hr:aM w r rv' eG):ag Tryz.prog 189 #[.agg (dP ⟨1,q,p,b,s,c,vs,r,peer,seq⟩ rv dv vv rv' eG).toArray] w (λ v w'=>v=.bool (eX ⟨1,q,p,b,s,c,vs,r,peer,seq⟩)/\GB none w w'):=by
 obtain ⟨_,_,_,_,_,_,rfl,rfl⟩:=hc.sl;obtain ⟨_,_,_,_,_,_,rfl,rfl⟩:=hr.sl;obtain ⟨_,_,rfl⟩:=hv.sl;refine au ah mixed Tryz.func189 rfl rfl ?_;refine λ w1 b1 m1 g1 l1=>⟨_,_,m1,_,rfl,?_⟩
 refine ⟨_,_,m1,q.cells,rfl,rfl,_,yI w1 q,?_⟩;rintro _ w2 ⟨rfl,g2⟩;have m1:=g2.get m1 nofun;have G:=g1.trans g2;refine ⟨_,_,_,m1,rfl,rfl,λ w3 m1 g3=>?_⟩;have G:=G.new g3 l1;obtain ⟨a,ha⟩:∃ a,kK q=a:=⟨_,rfl⟩;rw [ha];cases a
 ·exact ⟨congrArg Value.bool (by simp [eX,ha]),G⟩
 ·refine ⟨_,_,m1,dP ⟨1,qi,p,b,s,c,vs,r,peer,seq⟩ _ _ _ _ _,rfl,rfl,_,gI (m:=⟨1,qi,p,b,s,c,vs,r,peer,seq⟩) (hc.kz G.kz) (hv.kz G.kz) (hr.kz G.kz),?_⟩
  rintro _ w9 ⟨rfl,g9⟩;exact ⟨congrArg Value.bool (by simp [eX,ha]),G.trans g9⟩
theorem abf {q:bQ} {p:az} {b:bF} {s:Nat} {c:MC} {vs:List MV} {r:Rg} {peer seq:Int} (hc:aM w c.r rv dv) (hv:bW w vv vs) (hr:aM w r rv' eG):ag Tryz.prog 189 #[.agg (dP ⟨2,q,p,b,s,c,vs,r,peer,seq⟩ rv dv vv rv' eG).toArray] w (λ v w'=>v=.bool (eX ⟨2,q,p,b,s,c,vs,r,peer,seq⟩)/\GB none w w'):=by
 obtain ⟨_,_,_,_,_,_,rfl,rfl⟩:=hc.sl;obtain ⟨_,_,_,_,_,_,rfl,rfl⟩:=hr.sl;obtain ⟨_,_,rfl⟩:=hv.sl;refine au ah mixed Tryz.func189 rfl rfl ?_;refine λ w1 b1 m1 g1 l1=>⟨_,_,m1,_,rfl,?_⟩
 refine ⟨_,_,m1,p.cells,rfl,rfl,_,JJ w1 p,?_⟩;rintro _ w2 ⟨rfl,g2⟩;have m1:=g2.get m1 nofun;have G:=g1.trans g2;refine ⟨_,_,_,m1,rfl,rfl,λ w3 m1 g3=>?_⟩;have G:=G.new g3 l1;obtain ⟨a,ha⟩:∃ a,tQ p=a:=⟨_,rfl⟩;rw [ha];cases a
 ·exact ⟨congrArg Value.bool (by simp [eX,ha]),G⟩
 ·refine ⟨_,_,m1,dP ⟨2,q,sj,b,s,c,vs,r,peer,seq⟩ _ _ _ _ _,rfl,rfl,_,gI (m:=⟨2,q,sj,b,s,c,vs,r,peer,seq⟩) (hc.kz G.kz) (hv.kz G.kz) (hr.kz G.kz),?_⟩
  rintro _ w9 ⟨rfl,g9⟩;exact ⟨congrArg Value.bool (by simp [eX,ha]),G.trans g9⟩
theorem abg {q:bQ} {p:az} {b:bF} {s:Nat} {c:MC} {vs:List MV} {r:Rg} {peer seq:Int} (hc:aM w c.r rv dv) (hv:bW w vv vs) (hr:aM w r rv' eG):ag Tryz.prog 189 #[.agg (dP ⟨3,q,p,b,s,c,vs,r,peer,seq⟩ rv dv vv rv' eG).toArray] w (λ v w'=>v=.bool (eX ⟨3,q,p,b,s,c,vs,r,peer,seq⟩)/\GB none w w'):=by
 obtain ⟨_,_,_,_,_,_,rfl,rfl⟩:=hc.sl;obtain ⟨_,_,_,_,_,_,rfl,rfl⟩:=hr.sl;obtain ⟨_,_,rfl⟩:=hv.sl;refine au ah mixed Tryz.func189 rfl rfl ?_;refine λ w1 b1 m1 g1 l1=>⟨_,_,m1,_,rfl,?_⟩
 have G:=g1;refine ⟨_,_,_,m1,rfl,rfl,λ w3 m1 g3=>?_⟩;have G:=G.new g3 l1;refine ⟨_,_,m1,dP ⟨3,q,p,⟨0,0⟩,s,c,vs,r,peer,seq⟩ _ _ _ _ _,rfl,rfl,_,gI (m:=⟨3,q,p,⟨0,0⟩,s,c,vs,r,peer,seq⟩) (hc.kz G.kz) (hv.kz G.kz) (hr.kz G.kz),?_⟩;rintro _ w9 ⟨rfl,g9⟩;exact ⟨congrArg Value.bool (by simp [eX]),G.trans g9⟩
theorem abh {q:bQ} {p:az} {b:bF} {s:Nat} {c:MC} {vs:List MV} {r:Rg} {peer seq:Int} (hc:aM w c.r rv dv) (hv:bW w vv vs) (hr:aM w r rv' eG):ag Tryz.prog 189 #[.agg (dP ⟨4,q,p,b,s,c,vs,r,peer,seq⟩ rv dv vv rv' eG).toArray] w (λ v w'=>v=.bool (eX ⟨4,q,p,b,s,c,vs,r,peer,seq⟩)/\GB none w w'):=by
 obtain ⟨_,_,_,_,_,_,rfl,rfl⟩:=hc.sl;obtain ⟨_,_,_,_,_,_,rfl,rfl⟩:=hr.sl;obtain ⟨_,_,rfl⟩:=hv.sl;refine au ah mixed Tryz.func189 rfl rfl ?_;refine λ w1 b1 m1 g1 l1=>⟨_,_,m1,_,rfl,?_⟩
 refine ⟨_,_,m1,_,rfl,_,TM (hv.kz g1.kz),?_⟩;rintro _ w2 ⟨rfl,g2⟩;have m1:=g2.get m1 nofun;have G:=g1.trans g2;refine ⟨_,_,_,m1,rfl,rfl,λ w3 m1 g3=>?_⟩;have G:=G.new g3 l1;refine ⟨_,_,_,m1,rfl,rfl,λ w4 m1 g4=>?_⟩;have G:=G.new g4 l1;obtain ⟨a,ha⟩:∃ a,mZ vs=a:=⟨_,rfl⟩;rw [ha];cases a
 ·exact ⟨congrArg Value.bool (by simp [eX,ha]),G⟩
 ·refine ⟨_,_,m1,dP ⟨4,q,p,⟨0,0⟩,s,c,[],r,peer,seq⟩ _ _ (.slice none 0 0) _ _,rfl,rfl,_,gI (m:=⟨4,q,p,⟨0,0⟩,s,c,[],r,peer,seq⟩) (hc.kz G.kz) (bW.zero _) (hr.kz G.kz),?_⟩
  rintro _ w9 ⟨rfl,g9⟩;exact ⟨congrArg Value.bool (by simp [eX,ha]),G.trans g9⟩
theorem abj {q:bQ} {p:az} {b:bF} {s:Nat} {c:MC} {vs:List MV} {r:Rg} {peer seq:Int} (hc:aM w c.r rv dv) (hv:bW w vv vs) (hr:aM w r rv' eG):ag Tryz.prog 189 #[.agg (dP ⟨5,q,p,b,s,c,vs,r,peer,seq⟩ rv dv vv rv' eG).toArray] w (λ v w'=>v=.bool (eX ⟨5,q,p,b,s,c,vs,r,peer,seq⟩)/\GB none w w'):=by
 obtain ⟨_,_,_,_,_,_,rfl,rfl⟩:=hc.sl;obtain ⟨_,_,_,_,_,_,rfl,rfl⟩:=hr.sl;obtain ⟨_,_,rfl⟩:=hv.sl;refine au ah mixed Tryz.func189 rfl rfl ?_;refine λ w1 b1 m1 g1 l1=>⟨_,_,m1,_,rfl,?_⟩
 have G:=g1;refine ⟨_,_,_,m1,rfl,rfl,λ w3 m1 g3=>?_⟩;have G:=G.new g3 l1;refine ⟨_,_,m1,dP ⟨5,q,p,⟨0,0⟩,s,c,vs,r,peer,seq⟩ _ _ _ _ _,rfl,rfl,_,gI (m:=⟨5,q,p,⟨0,0⟩,s,c,vs,r,peer,seq⟩) (hc.kz G.kz) (hv.kz G.kz) (hr.kz G.kz),?_⟩;rintro _ w9 ⟨rfl,g9⟩;exact ⟨congrArg Value.bool (by simp [eX]),G.trans g9⟩
theorem abk {q:bQ} {p:az} {b:bF} {s:Nat} {c:MC} {vs:List MV} {r:Rg} {peer seq:Int} (hc:aM w c.r rv dv) (hv:bW w vv vs) (hr:aM w r rv' eG):ag Tryz.prog 189 #[.agg (dP ⟨6,q,p,b,s,c,vs,r,peer,seq⟩ rv dv vv rv' eG).toArray] w (λ v w'=>v=.bool (eX ⟨6,q,p,b,s,c,vs,r,peer,seq⟩)/\GB none w w'):=by
 obtain ⟨_,_,_,_,_,_,rfl,rfl⟩:=hc.sl;obtain ⟨_,_,_,_,_,_,rfl,rfl⟩:=hr.sl;obtain ⟨_,_,rfl⟩:=hv.sl;refine au ah mixed Tryz.func189 rfl rfl ?_;refine λ w1 b1 m1 g1 l1=>⟨_,_,m1,_,rfl,?_⟩
 refine ⟨_,_,m1,dx c _ _,rfl,rfl,_,yL (c:=c) (hc.kz g1.kz),?_⟩;rintro _ w2 ⟨rfl,g2⟩;have m1:=g2.get m1 nofun;have G:=g1.trans g2;refine ⟨_,_,_,m1,rfl,rfl,λ w3 m1 g3=>?_⟩;have G:=G.new g3 l1;refine ⟨_,_,_,m1,rfl,rfl,λ w4 m1 g4=>?_⟩;have G:=G.new g4 l1;refine ⟨_,_,_,m1,rfl,rfl,λ w5 m1 g5=>?_⟩;have G:=G.new g5 l1;obtain ⟨a,ha⟩:∃ a,kQ c=a:=⟨_,rfl⟩;rw [ha];cases a
 ·exact ⟨congrArg Value.bool (by simp [eX,ha]),G⟩
 ·refine ⟨_,_,m1,dP ⟨6,q,p,⟨0,0⟩,0,ky,vs,r,peer,seq⟩ (.slice none 0 0) (.slice none 0 0) _ _ _,rfl,rfl,_,gI (m:=⟨6,q,p,⟨0,0⟩,0,ky,vs,r,peer,seq⟩) (aM.zero _) (hv.kz G.kz) (hr.kz G.kz),?_⟩
  rintro _ w9 ⟨rfl,g9⟩;exact ⟨congrArg Value.bool (by simp [eX,ha]),G.trans g9⟩
theorem abl {q:bQ} {p:az} {b:bF} {s:Nat} {c:MC} {vs:List MV} {r:Rg} {peer seq:Int} (hc:aM w c.r rv dv) (hv:bW w vv vs) (hr:aM w r rv' eG):ag Tryz.prog 189 #[.agg (dP ⟨7,q,p,b,s,c,vs,r,peer,seq⟩ rv dv vv rv' eG).toArray] w (λ v w'=>v=.bool (eX ⟨7,q,p,b,s,c,vs,r,peer,seq⟩)/\GB none w w'):=by
 obtain ⟨_,_,_,_,_,_,rfl,rfl⟩:=hc.sl;obtain ⟨_,_,_,_,_,_,rfl,rfl⟩:=hr.sl;obtain ⟨_,_,rfl⟩:=hv.sl;refine au ah mixed Tryz.func189 rfl rfl ?_;refine λ w1 b1 m1 g1 l1=>⟨_,_,m1,_,rfl,?_⟩
 have G:=g1;refine ⟨_,_,_,m1,rfl,rfl,λ w3 m1 g3=>?_⟩;have G:=G.new g3 l1;refine ⟨_,_,_,m1,rfl,rfl,λ w4 m1 g4=>?_⟩;have G:=G.new g4 l1;refine ⟨_,_,m1,dP ⟨7,q,p,⟨0,0⟩,0,c,vs,r,peer,seq⟩ _ _ _ _ _,rfl,rfl,_,gI (m:=⟨7,q,p,⟨0,0⟩,0,c,vs,r,peer,seq⟩) (hc.kz G.kz) (hv.kz G.kz) (hr.kz G.kz),?_⟩;rintro _ w9 ⟨rfl,g9⟩;exact ⟨congrArg Value.bool (by simp [eX]),G.trans g9⟩
theorem abm {q:bQ} {p:az} {b:bF} {s:Nat} {c:MC} {vs:List MV} {r:Rg} {peer seq:Int} (hc:aM w c.r rv dv) (hv:bW w vv vs) (hr:aM w r rv' eG):ag Tryz.prog 189 #[.agg (dP ⟨8,q,p,b,s,c,vs,r,peer,seq⟩ rv dv vv rv' eG).toArray] w (λ v w'=>v=.bool (eX ⟨8,q,p,b,s,c,vs,r,peer,seq⟩)/\GB none w w'):=by
 obtain ⟨_,_,_,_,_,_,rfl,rfl⟩:=hc.sl;obtain ⟨_,_,_,_,_,_,rfl,rfl⟩:=hr.sl;obtain ⟨_,_,rfl⟩:=hv.sl;refine au ah mixed Tryz.func189 rfl rfl ?_;refine λ w1 b1 m1 g1 l1=>⟨_,_,m1,_,rfl,?_⟩
 refine ⟨_,_,m1,dx c _ _,rfl,rfl,_,yL (c:=c) (hc.kz g1.kz),?_⟩;rintro _ w2 ⟨rfl,g2⟩;have m1:=g2.get m1 nofun;have G:=g1.trans g2;refine ⟨_,_,_,m1,rfl,rfl,λ w3 m1 g3=>?_⟩;have G:=G.new g3 l1;refine ⟨_,_,_,m1,rfl,rfl,λ w4 m1 g4=>?_⟩;have G:=G.new g4 l1;obtain ⟨a,ha⟩:∃ a,kQ c=a:=⟨_,rfl⟩;rw [ha];cases a
 ·exact ⟨congrArg Value.bool (by simp [eX,ha]),G⟩
 ·refine ⟨_,_,m1,dP ⟨8,q,p,b,0,ky,vs,r,peer,seq⟩ (.slice none 0 0) (.slice none 0 0) _ _ _,rfl,rfl,_,gI (m:=⟨8,q,p,b,0,ky,vs,r,peer,seq⟩) (aM.zero _) (hv.kz G.kz) (hr.kz G.kz),?_⟩
  rintro _ w9 ⟨rfl,g9⟩;exact ⟨congrArg Value.bool (by simp [eX,ha]),G.trans g9⟩
theorem abn {q:bQ} {p:az} {b:bF} {s:Nat} {c:MC} {vs:List MV} {r:Rg} {peer seq:Int} (hc:aM w c.r rv dv) (hv:bW w vv vs) (hr:aM w r rv' eG):ag Tryz.prog 189 #[.agg (dP ⟨9,q,p,b,s,c,vs,r,peer,seq⟩ rv dv vv rv' eG).toArray] w (λ v w'=>v=.bool (eX ⟨9,q,p,b,s,c,vs,r,peer,seq⟩)/\GB none w w'):=by
 obtain ⟨_,_,_,_,_,_,rfl,rfl⟩:=hc.sl;obtain ⟨_,_,_,_,_,_,rfl,rfl⟩:=hr.sl;obtain ⟨_,_,rfl⟩:=hv.sl;refine au ah mixed Tryz.func189 rfl rfl ?_;refine λ w1 b1 m1 g1 l1=>⟨_,_,m1,_,rfl,?_⟩
 refine ⟨_,_,m1,dU r _ _,rfl,rfl,_,Dl (r:=r) (hr.kz g1.kz),?_⟩;rintro _ w2 ⟨rfl,g2⟩;have m1:=g2.get m1 nofun;have G:=g1.trans g2;refine ⟨_,_,_,m1,rfl,rfl,λ w3 m1 g3=>?_⟩;have G:=G.new g3 l1;obtain ⟨a,ha⟩:∃ a,oh r=a:=⟨_,rfl⟩;rw [ha];cases a
 ·exact ⟨congrArg Value.bool (by simp [eX,ha]),G⟩
 ·refine ⟨_,_,m1,dP ⟨9,q,p,b,s,c,vs,pG,peer,seq⟩ _ _ _ (.slice none 0 0) (.slice none 0 0),rfl,rfl,_,gI (m:=⟨9,q,p,b,s,c,vs,pG,peer,seq⟩) (hc.kz G.kz) (hv.kz G.kz) (aM.zero _),?_⟩
  rintro _ w9 ⟨rfl,g9⟩;exact ⟨congrArg Value.bool (by simp [eX,ha]),G.trans g9⟩
theorem aad {q:bQ} {p:az} {b:bF} {s:Nat} {c:MC} {vs:List MV} {r:Rg} {peer seq:Int} (hc:aM w c.r rv dv) (hv:bW w vv vs) (hr:aM w r rv' eG):ag Tryz.prog 189 #[.agg (dP ⟨10,q,p,b,s,c,vs,r,peer,seq⟩ rv dv vv rv' eG).toArray] w (λ v w'=>v=.bool (eX ⟨10,q,p,b,s,c,vs,r,peer,seq⟩)/\GB none w w'):=by
 obtain ⟨_,_,_,_,_,_,rfl,rfl⟩:=hc.sl;obtain ⟨_,_,_,_,_,_,rfl,rfl⟩:=hr.sl;obtain ⟨_,_,rfl⟩:=hv.sl;refine au ah mixed Tryz.func189 rfl rfl ?_;refine λ w1 b1 m1 g1 l1=>⟨_,_,m1,_,rfl,?_⟩
 refine ⟨_,_,m1,_,rfl,_,oU w1 _,?_⟩;rintro _ w2 ⟨rfl,rfl⟩;have G:=g1;refine ⟨_,_,_,m1,rfl,rfl,λ w3 m1 g3=>?_⟩;have G:=G.new g3 l1;refine ⟨_,_,_,m1,rfl,rfl,λ w4 m1 g4=>?_⟩;have G:=G.new g4 l1;obtain ⟨a,ha⟩:∃ a,decide (peer<4)=a:=⟨_,rfl⟩;rw [ha];cases a
 ·exact ⟨congrArg Value.bool (by simp [eX,ha]),G⟩
 ·refine ⟨_,_,m1,dP ⟨10,q,p,b,s,c,vs,r,0,0⟩ _ _ _ _ _,rfl,rfl,_,gI (m:=⟨10,q,p,b,s,c,vs,r,0,0⟩) (hc.kz G.kz) (hv.kz G.kz) (hr.kz G.kz),?_⟩
  rintro _ w9 ⟨rfl,g9⟩;exact ⟨congrArg Value.bool (by simp [eX,ha]),G.trans g9⟩
theorem OG (hc:aM w m.c.r rv dv) (hv:bW w vv m.vs) (hr:aM w m.r rv' eG):ag Tryz.prog 189 #[.agg (dP m rv dv vv rv' eG).toArray] w (λ v w'=>v=.bool (eX m)/\GB none w w'):=by
 obtain ⟨k,q,p,b,s,c,vs,r,peer,seq⟩:=m;by_cases k1:k=1
 ·subst k1;exact abe hc hv hr
 by_cases k2:k=2
 ·subst k2;exact abf hc hv hr
 by_cases k3:k=3
 ·subst k3;exact abg hc hv hr
 by_cases k4:k=4
 ·subst k4;exact abh hc hv hr
 by_cases k5:k=5
 ·subst k5;exact abj hc hv hr
 by_cases k6:k=6
 ·subst k6;exact abk hc hv hr
 by_cases k7:k=7
 ·subst k7;exact abl hc hv hr
 by_cases k8:k=8
 ·subst k8;exact abm hc hv hr
 by_cases k9:k=9
 ·subst k9;exact abn hc hv hr
 by_cases k10:k=10
 ·subst k10;exact aad hc hv hr
 obtain ⟨_,_,_,_,_,_,rfl,rfl⟩:=hc.sl;obtain ⟨_,_,_,_,_,_,rfl,rfl⟩:=hr.sl;obtain ⟨_,_,rfl⟩:=hv.sl;refine au ah mixed Tryz.func189 rfl rfl ?_;refine λ w1 b1 m1 g1 l1=>⟨_,_,m1,_,rfl,?_⟩
 refine aj (λ e=>absurd (by simpa using e) k1) (λ _=>?_);refine aj (λ e=>absurd (by simpa using e) k2) (λ _=>?_);refine aj (λ e=>absurd (by simpa using e) k3) (λ _=>?_);refine aj (λ e=>absurd (by simpa using e) k5) (λ _=>?_);refine aj (λ e=>absurd (by simpa using e) k4) (λ _=>?_);refine aj (λ e=>absurd (by simpa using e) k6) (λ _=>?_);refine aj (λ e=>absurd (by simpa using e) k7) (λ _=>?_);refine aj (λ e=>absurd (by simpa using e) k8) (λ _=>?_);refine aj (λ e=>absurd (by simpa using e) k9) (λ _=>?_);refine aj (λ e=>absurd (by simpa using e) k10) (λ _=>?_);exact ⟨congrArg Value.bool (by simp [eX,k1,k2,k3,k4,k5,k6,k7,k8,k9,k10]),g1⟩
end
def dO (l:List Nat):MM×List Nat:=nx 1 l λ k l =>
 if k=1 then rn qC l λ q l=>({ aQ k with q:=q },l)
 else if k=2 then rn lu l λ p l=>({ aQ k with p:=p },l)
 else if k=3 then rn iq l λ b l=>({ aQ k with b:=b },l)
 else if k=5 then rn iq l λ b l=>({ aQ k with b:=b },l)
 else if k=4 then rn iq l λ b l=>rn (jl nu) l λ vs l=>({ aQ k with b:=b,vs:=vs },l)
 else if k=6 then rn iq l λ b l=>nx 4 l λ s l=>rn mK l λ c l=>({ aQ k with b:=b,s:=s,c:=c },l)
 else if k=7 then rn iq l λ b l=>nx 4 l λ s l=>({ aQ k with b:=b,s:=s },l)
 else if k=8 then nx 4 l λ s l=>rn mK l λ c l=>({ aQ k with s:=s,c:=c },l)
 else if k=9 then rn AZ l λ r l=>({ aQ k with r:=r },l)
 else if k=10 then nx 1 l λ p l=>nx 4 l λ s l=>({ aQ k with peer:=p,seq:=s },l)
 else (aQ k,l)
theorem bW.bU {w w':World} {v:Value} {l:List MV} {x t:Nat} {c:Array Value} (h:bW w v l) (g:GB (some x) w w') (hx:w.heap[x]? = some (.cells c t)) (h1:t≠128) (h2:t≠57) (h3:t≠196):bW w' v l:=by
 obtain ⟨ps,a1,a2,a3⟩:=h;exact ⟨ps,a1,a2.bU g hx h3,λ i y p hy hp=>(a3 i y p hy hp).bU g hx h1 h2⟩
section
variable {w:World} {b:Nat} {l:List Nat}
theorem aae (hs:Src w b l):ag Tryz.prog 161 #[Ptt b] w (λ v w'=>∃ x l',dO l=(x,l')/\Ao w' v x/\Src w' b l'/\GB (some b) w w'):=by
 refine au ah mixed Tryz.func161 rfl rfl ?_;refine λ w1 b1 m1 g1 l1=>?_
 refine ⟨_,jY (hs.keep (g1.block b hs.lt nofun)),?_⟩;rintro _ w2 ⟨k,l2,ek,ck,rfl,s2,g2⟩;refine λ w3 b3 m3 g3 l3=>⟨_,_,_,m3,rfl,rfl,λ w4 m4 g4=>?_⟩
 have B:=Bx.ZC hs m1 g1 l1 s2 g2 m3 g3 l3 m4 g4;clear m1 g1 l1 s2 g2 m3 g3 l3 m4 g4;by_cases k1:k=1
 ·subst k1
  refine ⟨_,_,B.m2,_,rfl,?_⟩;refine ⟨_,QC B.s,?_⟩;rintro _ w3 ⟨q,l3,eq,rfl,s3,g3⟩;replace B:=B.rd s3 g3;clear s3 g3;refine ⟨_,_,_,B.m2,rfl,rfl,λ w4 m4 g4=>?_⟩;replace B:=B.st m4 g4;clear m4 g4;refine ⟨_,_,B.m2,dP { aQ 1 with q:=q } (.slice none 0 0) (.slice none 0 0) (.slice none 0 0) (.slice none 0 0) (.slice none 0 0),rfl,rfl,_,_,_,B.m1,rfl,rfl,λ w5 m5 g5=>?_⟩;obtain ⟨s5,g5⟩:=B.fin g5;exact ⟨_,_,m5,dP { aQ 1 with q:=q } (.slice none 0 0) (.slice none 0 0) (.slice none 0 0) (.slice none 0 0) (.slice none 0 0),rfl,rfl,_,_,by rw [dO,aY ek,if_pos rfl,dW eq];rfl,⟨_,_,_,_,_,rfl,aM.zero _,bW.zero _,aM.zero _⟩,s5,g5⟩
 by_cases k2:k=2
 ·subst k2
  refine ⟨_,_,B.m2,_,rfl,?_⟩;refine ⟨_,QD B.s,?_⟩;rintro _ w3 ⟨p,l3,ep,rfl,s3,g3⟩;replace B:=B.rd s3 g3;clear s3 g3;refine ⟨_,_,_,B.m2,rfl,rfl,λ w4 m4 g4=>?_⟩;replace B:=B.st m4 g4;clear m4 g4;refine ⟨_,_,B.m2,dP { aQ 2 with p:=p } (.slice none 0 0) (.slice none 0 0) (.slice none 0 0) (.slice none 0 0) (.slice none 0 0),rfl,rfl,_,_,_,B.m1,rfl,rfl,λ w5 m5 g5=>?_⟩;obtain ⟨s5,g5⟩:=B.fin g5;exact ⟨_,_,m5,dP { aQ 2 with p:=p } (.slice none 0 0) (.slice none 0 0) (.slice none 0 0) (.slice none 0 0) (.slice none 0 0),rfl,rfl,_,_,by rw [dO,aY ek,if_neg (by decide),if_pos rfl,dW ep];rfl,⟨_,_,_,_,_,rfl,aM.zero _,bW.zero _,aM.zero _⟩,s5,g5⟩
 by_cases k3:k=3
 ·subst k3
  refine ⟨_,_,B.m2,_,rfl,?_⟩;refine ⟨_,xM B.s,?_⟩;rintro _ w3 ⟨bb,l3,EO,rfl,s3,g3⟩;replace B:=B.rd s3 g3;clear s3 g3;refine ⟨_,_,_,B.m2,rfl,rfl,λ w4 m4 g4=>?_⟩;replace B:=B.st m4 g4;clear m4 g4;refine ⟨_,_,B.m2,dP { aQ 3 with b:=bb } (.slice none 0 0) (.slice none 0 0) (.slice none 0 0) (.slice none 0 0) (.slice none 0 0),rfl,rfl,_,_,_,B.m1,rfl,rfl,λ w5 m5 g5=>?_⟩;obtain ⟨s5,g5⟩:=B.fin g5;exact ⟨_,_,m5,dP { aQ 3 with b:=bb } (.slice none 0 0) (.slice none 0 0) (.slice none 0 0) (.slice none 0 0) (.slice none 0 0),rfl,rfl,_,_,by rw [dO,aY ek,if_neg (by decide),if_neg (by decide),if_pos rfl,dW EO];rfl,⟨_,_,_,_,_,rfl,aM.zero _,bW.zero _,aM.zero _⟩,s5,g5⟩
 by_cases k5:k=5
 ·subst k5
  refine ⟨_,_,B.m2,_,rfl,?_⟩;refine ⟨_,xM B.s,?_⟩;rintro _ w3 ⟨bb,l3,EO,rfl,s3,g3⟩;replace B:=B.rd s3 g3;clear s3 g3;refine ⟨_,_,_,B.m2,rfl,rfl,λ w4 m4 g4=>?_⟩;replace B:=B.st m4 g4;clear m4 g4;refine ⟨_,_,B.m2,dP { aQ 5 with b:=bb } (.slice none 0 0) (.slice none 0 0) (.slice none 0 0) (.slice none 0 0) (.slice none 0 0),rfl,rfl,_,_,_,B.m1,rfl,rfl,λ w5 m5 g5=>?_⟩;obtain ⟨s5,g5⟩:=B.fin g5;exact ⟨_,_,m5,dP { aQ 5 with b:=bb } (.slice none 0 0) (.slice none 0 0) (.slice none 0 0) (.slice none 0 0) (.slice none 0 0),rfl,rfl,_,_,by rw [dO,aY ek,if_neg (by decide),if_neg (by decide),if_neg (by decide),if_pos rfl,dW EO];rfl,⟨_,_,_,_,_,rfl,aM.zero _,bW.zero _,aM.zero _⟩,s5,g5⟩
 by_cases k4:k=4
 ·subst k4
  refine ⟨_,_,B.m2,_,rfl,?_⟩;refine ⟨_,xM B.s,?_⟩;rintro _ w3 ⟨bb,l3,EO,rfl,s3,g3⟩;replace B:=B.rd s3 g3;clear s3 g3;refine ⟨_,_,_,B.m2,rfl,rfl,λ w4 m4 g4=>?_⟩;replace B:=B.st m4 g4;clear m4 g4;refine ⟨_,Ut B.s,?_⟩;rintro vv w3 ⟨vs,l3,evs,hv,s3,g3⟩;obtain ⟨va,vc,rfl⟩:=hv.sl;replace B:=B.rd s3 g3;clear s3 g3;refine ⟨_,_,_,B.m2,rfl,rfl,λ w4 m4 g4=>?_⟩;replace hv:=hv.bU g4 B.m2 (by decide) (by decide) (by decide);replace B:=B.st m4 g4;clear m4 g4;refine ⟨_,_,B.m2,dP { aQ 4 with b:=bb,vs:=vs } (.slice none 0 0) (.slice none 0 0) (.slice va vs.length vc) (.slice none 0 0) (.slice none 0 0),rfl,rfl,_,_,_,B.m1,rfl,rfl,λ w5 m5 g5=>?_⟩;replace hv:=hv.bU g5 B.m1 (by decide) (by decide) (by decide);obtain ⟨s5,g5⟩:=B.fin g5;exact ⟨_,_,m5,dP { aQ 4 with b:=bb,vs:=vs } (.slice none 0 0) (.slice none 0 0) (.slice va vs.length vc) (.slice none 0 0) (.slice none 0 0),rfl,rfl,_,_,by rw [dO,aY ek,if_neg (by decide),if_neg (by decide),if_neg (by decide),if_neg (by decide),if_pos rfl,dW EO,dW evs];rfl,⟨_,_,_,_,_,rfl,aM.zero _,hv,aM.zero _⟩,s5,g5⟩
 by_cases k6:k=6
 ·subst k6
  refine ⟨_,_,B.m2,_,rfl,?_⟩;refine ⟨_,xM B.s,?_⟩;rintro _ w3 ⟨bb,l3,EO,rfl,s3,g3⟩;replace B:=B.rd s3 g3;clear s3 g3;refine ⟨_,_,_,B.m2,rfl,rfl,λ w4 m4 g4=>?_⟩;replace B:=B.st m4 g4;clear m4 g4;refine ⟨_,oq B.s,?_⟩;rintro _ w3 ⟨s,l3,es,cs,rfl,s3,g3⟩;replace B:=B.rd s3 g3;clear s3 g3;refine ⟨_,_,_,B.m2,rfl,rfl,λ w4 m4 g4=>?_⟩;replace B:=B.st m4 g4;clear m4 g4;refine ⟨_,JQ B.s,?_⟩;rintro _ w3 ⟨c,l3,ec,⟨rv,dv,rfl,hr⟩,s3,g3⟩;obtain ⟨ra,rm,rc,da,dm,dc,rfl,rfl⟩:=hr.sl;replace B:=B.rd s3 g3;clear s3 g3;refine ⟨_,_,_,B.m2,rfl,rfl,λ w4 m4 g4=>?_⟩;replace hr:=hr.bU g4 B.m2 (by decide) (by decide);replace B:=B.st m4 g4;clear m4 g4;refine ⟨_,_,B.m2,dP { aQ 6 with b:=bb,s:=s,c:=c } (.slice ra rm rc) (.slice da dm dc) (.slice none 0 0) (.slice none 0 0) (.slice none 0 0),rfl,rfl,_,_,_,B.m1,rfl,rfl,λ w5 m5 g5=>?_⟩;replace hr:=hr.bU g5 B.m1 (by decide) (by decide);obtain ⟨s5,g5⟩:=B.fin g5;exact ⟨_,_,m5,dP { aQ 6 with b:=bb,s:=s,c:=c } (.slice ra rm rc) (.slice da dm dc) (.slice none 0 0) (.slice none 0 0) (.slice none 0 0),rfl,rfl,_,_,by rw [dO,aY ek,if_neg (by decide),if_neg (by decide),if_neg (by decide),if_neg (by decide),if_neg (by decide),if_pos rfl,dW EO,aY es,dW ec];rfl,⟨_,_,_,_,_,rfl,hr,bW.zero _,aM.zero _⟩,s5,g5⟩
 by_cases k7:k=7
 ·subst k7
  refine ⟨_,_,B.m2,_,rfl,?_⟩;refine ⟨_,xM B.s,?_⟩;rintro _ w3 ⟨bb,l3,EO,rfl,s3,g3⟩;replace B:=B.rd s3 g3;clear s3 g3;refine ⟨_,_,_,B.m2,rfl,rfl,λ w4 m4 g4=>?_⟩;replace B:=B.st m4 g4;clear m4 g4;refine ⟨_,oq B.s,?_⟩;rintro _ w3 ⟨s,l3,es,cs,rfl,s3,g3⟩;replace B:=B.rd s3 g3;clear s3 g3;refine ⟨_,_,_,B.m2,rfl,rfl,λ w4 m4 g4=>?_⟩;replace B:=B.st m4 g4;clear m4 g4;refine ⟨_,_,B.m2,dP { aQ 7 with b:=bb,s:=s } (.slice none 0 0) (.slice none 0 0) (.slice none 0 0) (.slice none 0 0) (.slice none 0 0),rfl,rfl,_,_,_,B.m1,rfl,rfl,λ w5 m5 g5=>?_⟩;obtain ⟨s5,g5⟩:=B.fin g5;exact ⟨_,_,m5,dP { aQ 7 with b:=bb,s:=s } (.slice none 0 0) (.slice none 0 0) (.slice none 0 0) (.slice none 0 0) (.slice none 0 0),rfl,rfl,_,_,by rw [dO,aY ek,if_neg (by decide),if_neg (by decide),if_neg (by decide),if_neg (by decide),if_neg (by decide),if_neg (by decide),if_pos rfl,dW EO,aY es];rfl,⟨_,_,_,_,_,rfl,aM.zero _,bW.zero _,aM.zero _⟩,s5,g5⟩
 by_cases k8:k=8
 ·subst k8
  refine ⟨_,_,B.m2,_,rfl,?_⟩;refine ⟨_,oq B.s,?_⟩;rintro _ w3 ⟨s,l3,es,cs,rfl,s3,g3⟩;replace B:=B.rd s3 g3;clear s3 g3;refine ⟨_,_,_,B.m2,rfl,rfl,λ w4 m4 g4=>?_⟩;replace B:=B.st m4 g4;clear m4 g4;refine ⟨_,JQ B.s,?_⟩;rintro _ w3 ⟨c,l3,ec,⟨rv,dv,rfl,hr⟩,s3,g3⟩;obtain ⟨ra,rm,rc,da,dm,dc,rfl,rfl⟩:=hr.sl;replace B:=B.rd s3 g3;clear s3 g3;refine ⟨_,_,_,B.m2,rfl,rfl,λ w4 m4 g4=>?_⟩;replace hr:=hr.bU g4 B.m2 (by decide) (by decide);replace B:=B.st m4 g4;clear m4 g4;refine ⟨_,_,B.m2,dP { aQ 8 with s:=s,c:=c } (.slice ra rm rc) (.slice da dm dc) (.slice none 0 0) (.slice none 0 0) (.slice none 0 0),rfl,rfl,_,_,_,B.m1,rfl,rfl,λ w5 m5 g5=>?_⟩;replace hr:=hr.bU g5 B.m1 (by decide) (by decide);obtain ⟨s5,g5⟩:=B.fin g5;exact ⟨_,_,m5,dP { aQ 8 with s:=s,c:=c } (.slice ra rm rc) (.slice da dm dc) (.slice none 0 0) (.slice none 0 0) (.slice none 0 0),rfl,rfl,_,_,by rw [dO,aY ek,if_neg (by decide),if_neg (by decide),if_neg (by decide),if_neg (by decide),if_neg (by decide),if_neg (by decide),if_neg (by decide),if_pos rfl,aY es,dW ec];rfl,⟨_,_,_,_,_,rfl,hr,bW.zero _,aM.zero _⟩,s5,g5⟩
 by_cases k9:k=9
 ·subst k9
  refine ⟨_,_,B.m2,_,rfl,?_⟩;refine ⟨_,Vp B.s,?_⟩;rintro _ w3 ⟨r,l3,er,⟨rv,dv,rfl,hr⟩,s3,g3⟩;obtain ⟨ra,rm,rc,da,dm,dc,rfl,rfl⟩:=hr.sl;replace B:=B.rd s3 g3;clear s3 g3;refine ⟨_,_,_,B.m2,rfl,rfl,λ w4 m4 g4=>?_⟩;replace hr:=hr.bU g4 B.m2 (by decide) (by decide);replace B:=B.st m4 g4;clear m4 g4;refine ⟨_,_,B.m2,dP { aQ 9 with r:=r } (.slice none 0 0) (.slice none 0 0) (.slice none 0 0) (.slice ra rm rc) (.slice da dm dc),rfl,rfl,_,_,_,B.m1,rfl,rfl,λ w5 m5 g5=>?_⟩;replace hr:=hr.bU g5 B.m1 (by decide) (by decide);obtain ⟨s5,g5⟩:=B.fin g5;exact ⟨_,_,m5,dP { aQ 9 with r:=r } (.slice none 0 0) (.slice none 0 0) (.slice none 0 0) (.slice ra rm rc) (.slice da dm dc),rfl,rfl,_,_,by rw [dO,aY ek,if_neg (by decide),if_neg (by decide),if_neg (by decide),if_neg (by decide),if_neg (by decide),if_neg (by decide),if_neg (by decide),if_neg (by decide),if_pos rfl,dW er];rfl,⟨_,_,_,_,_,rfl,aM.zero _,bW.zero _,hr⟩,s5,g5⟩
 by_cases k10:k=10
 ·subst k10
  refine ⟨_,_,B.m2,_,rfl,?_⟩;refine ⟨_,jY B.s,?_⟩;rintro _ w3 ⟨p,l3,ep,cp,rfl,s3,g3⟩;replace B:=B.rd s3 g3;clear s3 g3;refine ⟨_,_,_,B.m2,rfl,rfl,λ w4 m4 g4=>?_⟩;replace B:=B.st m4 g4;clear m4 g4;refine ⟨_,oq B.s,?_⟩;rintro _ w3 ⟨t,l3,et,ct,rfl,s3,g3⟩;replace B:=B.rd s3 g3;clear s3 g3;refine ⟨_,_,_,B.m2,rfl,rfl,λ w4 m4 g4=>?_⟩;replace B:=B.st m4 g4;clear m4 g4;refine ⟨_,_,B.m2,dP { aQ 10 with peer:=p,seq:=t } (.slice none 0 0) (.slice none 0 0) (.slice none 0 0) (.slice none 0 0) (.slice none 0 0),rfl,rfl,_,_,_,B.m1,rfl,rfl,λ w5 m5 g5=>?_⟩;obtain ⟨s5,g5⟩:=B.fin g5;exact ⟨_,_,m5,dP { aQ 10 with peer:=p,seq:=t } (.slice none 0 0) (.slice none 0 0) (.slice none 0 0) (.slice none 0 0) (.slice none 0 0),rfl,rfl,_,_,by rw [dO,aY ek,if_neg (by decide),if_neg (by decide),if_neg (by decide),if_neg (by decide),if_neg (by decide),if_neg (by decide),if_neg (by decide),if_neg (by decide),if_neg (by decide),if_pos rfl,aY ep,aY et];rfl,⟨_,_,_,_,_,rfl,aM.zero _,bW.zero _,aM.zero _⟩,s5,g5⟩
 refine ⟨_,_,B.m2,_,rfl,?_⟩;refine aj (λ q=>absurd (by simp at q;omega) k1) (λ _=>?_);refine aj (λ q=>absurd (by simp at q;omega) k2) (λ _=>?_);refine aj (λ q=>absurd (by simp at q;omega) k3) (λ _=>?_);refine aj (λ q=>absurd (by simp at q;omega) k5) (λ _=>?_);refine aj (λ q=>absurd (by simp at q;omega) k4) (λ _=>?_);refine aj (λ q=>absurd (by simp at q;omega) k6) (λ _=>?_);refine aj (λ q=>absurd (by simp at q;omega) k7) (λ _=>?_);refine aj (λ q=>absurd (by simp at q;omega) k8) (λ _=>?_);refine aj (λ q=>absurd (by simp at q;omega) k9) (λ _=>?_);refine aj (λ q=>absurd (by simp at q;omega) k10) (λ _=>?_);refine ⟨_,_,B.m2,dP (aQ k) (.slice none 0 0) (.slice none 0 0) (.slice none 0 0) (.slice none 0 0) (.slice none 0 0),rfl,rfl,_,_,_,B.m1,rfl,rfl,λ w5 m5 g5=>?_⟩;obtain ⟨s5,g5⟩:=B.fin g5;exact ⟨_,_,m5,dP (aQ k) (.slice none 0 0) (.slice none 0 0) (.slice none 0 0) (.slice none 0 0) (.slice none 0 0),rfl,rfl,_,_,by rw [dO,aY ek,if_neg k1,if_neg k2,if_neg k3,if_neg k5,if_neg k4,if_neg k6,if_neg k7,if_neg k8,if_neg k9,if_neg k10],⟨_,_,_,_,_,rfl,aM.zero _,bW.zero _,aM.zero _⟩,s5,g5⟩
end
end
end Go.Proofs.YtignemioillaiaaGreat
