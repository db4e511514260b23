/- A shard copied (3), and in memory. -/
import Derived.Test.YtignemioillaiaaGreatG33
namespace Go.Proofs.YtignemioillaiaaGreat
set_option maxHeartbeats 8000000
set_option maxRecDepth 100000
section
open Go Go.Conc
abbrev La:=Int×Value×List Ra
abbrev mr(l:La):List Value:=[.int .u32 l.1,l.2.1]
abbrev Nb(l:La):Int×List Rg:=(l.1,l.2.2.map (·.1))
abbrev iC(s:St)(T M D O I:Value):List Value:=[.int .u8 s.g,.int .u8 s.n,T,M,D,O,I]
structure SA(w0 w:World)(s:St)(T M D O I:Value)(ls:List La):Prop where
 t:LN 128 2 w0 w T s.T.length (s.T.map Row.cells).flatten
 m:PN w0 w M s.M
 d:LN 57 7 w0 w D s.D.length (s.D.map aB.cells).flatten
 o:LN 103 2 w0 w O ls.length (ls.map mr).flatten
 i:LN 47 1 w0 w I s.I.length (s.I.map λi=>Value.int .u32 i)
 q:∀l∈ls,QN w0 w l.2.1 l.2.2
 core:ls.map Nb=s.O
 sT:∀l∈ls,∀x∈l.2.2,∀g,T.ownBlock=some g->x.2.1.ownBlock≠some g
 sD:∀l∈ls,∀x∈l.2.2,∀g,D.ownBlock=some g->x.2.2.ownBlock≠some g
 sQ:∀(i j:Nat) (l l':La),i≠j->ls[i]? = some l->ls[j]? = some l'->∀g,l.2.1.ownBlock=some g->l'.2.1.ownBlock≠some g
structure StS(s:St):Prop where
 t:s.T.length<=100000
 d:s.D.length<=100000
 m:s.M.length<=1000
 o:s.O.length<=100
 i:s.I.length<=100
 q:∀x∈s.O,x.2.length<=100000/\∀r∈x.2,r.rows.length<=1000000/\r.aW.length<=1000000
theorem fM.la{w:World}{vT vM vD vO vI:Value}{s:St}(h:fM w vT vM vD vO vI s):∃ps:List La,ps.length=s.O.length/\Fz w 103 2 vO ps.length (ps.map mr).flatten/\(∀(j:Nat) (l:La),ps[j]? = some l->∃o,s.O[j]? = some o/\l.1=o.1/\qg w l.2.1 o.2):=by
 obtain⟨qs,h1,h2,h3⟩:=h.O;have hl:(List.zipWith (λ(o:Int×List Rg) q=>((o.1,q,[]):La)) s.O qs).length=s.O.length:=by rw[List.length_zipWith];omega
 refine⟨List.zipWith (λ(o:Int×List Rg) q=>((o.1,q,[]):La)) s.O qs,hl,?_,λj l hj=>?_⟩
 ·rw[hl,List.map_zipWith];exact h2
 ·rw[List.getElem?_zipWith]at hj
  cases ho:s.O[j]? with
  |none=>rw[ho]at hj;simp at hj
  |some o =>
   cases hq:qs[j]? with
   |none=>rw[ho,hq]at hj;simp at hj
   |some q =>
    rw[ho,hq]at hj;simp at hj;subst hj;exact⟨o,rfl,rfl,h3 j o q ho hq⟩
theorem XV{w:World}{ps:List La}(h:∀l∈ps,∃rs,qg w l.2.1 rs):(ps.map mr).flatten.all one=true:=by
 induction ps with
 |nil=>rfl
 |cons x l ih =>
  rw[List.map_cons,List.flatten_cons,List.all_append,ih λy hy=>h y (List.mem_cons_of_mem _ hy),Bool.and_true];obtain⟨n,q,rs⟩:=x;obtain⟨rs',vs,_,⟨a,c,e,_⟩,_⟩:=h _ List.mem_cons_self;have e:q=_:=e;subst e;rfl
theorem zip_map'{α β γ:Type}(f:α->β->γ):∀l:List (α×β),List.zipWith f (l.map (·.1)) (l.map (·.2))=l.map λx=>f x.1 x.2
 | []=>rfl
 |_::l=>by simp only[List.map_cons,List.zipWith_cons_cons,zip_map' f l]
section
variable{w0 w w':World}{s:St}{T M D O I:Value}{ls:List La}
theorem SA.ax(h:SA w0 w s T M D O I ls)(g:GB none w w'):SA w0 w' s T M D O I ls:=⟨h.t.ax g,h.m.ax g,h.d.ax g,h.o.ax g,h.i.ax g,λl hl=>(h.q l hl).ax g,h.core,h.sT,h.sD,h.sQ⟩
theorem SA.bV(h:SA w0 w s T M D O I ls){x t:Nat}{c:Array Value}(g:GB (some x) w w')(hx:w.heap[x]? = some (.cells c t))(h1:t≠128)(h2:t≠57)(h3:t≠52)(h4:t≠107)(h5:t≠103)(h6:t≠47)(hn:w0.heap.size<=x):SA w0 w' s T M D O I ls:=⟨h.t.bV g hx h1 hn,h.m.bV g hx h4 hn,h.d.bV g hx h2 hn,h.o.bV g hx h5 hn,h.i.bV g hx h6 hn,λl hl=>(h.q l hl).bV g hx h1 h2 h3 hn,h.core,h.sT,h.sD,h.sQ⟩
theorem Fz.over{e size n:Nat}{v:Value}{xs:List Value}(h:LN e size w0 w v n xs)(k:∀x,w0.heap.size<=x->x<w.heap.size->w'.heap[x]? = w.heap[x]?):Fz w' e size v n xs:=mg (az h.own λx hx=>by obtain⟨c,hc⟩:=ay h.own hx;exact k x (h.new x hx) (ae hc))
theorem QN.over{q:Value}{rs:List Ra}(h:QN w0 w q rs)(k:∀x,w0.heap.size<=x->x<w.heap.size->w'.heap[x]? = w.heap[x]?):qg w' q (rs.map (·.1)):=by
 refine⟨rs.map (·.2),by simp,?_,λi x p hx hp=>?_⟩
 ·rw[zip_map' (λr (p:Value×Value)=>dP r p.1 p.2),List.length_map]
  exact Fz.over h.q k
 ·rw[List.getElem?_map]at hx hp
  cases ha:rs[i]? with
  |none=>rw[ha]at hx;cases hx
  |some y =>
   rw[ha]at hx hp;cases hx;cases hp
   have:=h.r y (List.mem_of_getElem? ha);exact⟨Fz.over this.r k,Fz.over this.d k⟩
theorem SA.over(h:SA w0 w s T M D O I ls)(k:∀x,w0.heap.size<=x->x<w.heap.size->w'.heap[x]? = w.heap[x]?):fM w' T M D O I s:=by
 have hO:=h.core;refine⟨Fz.over h.t k,Fz.over h.m k,Fz.over h.d k,⟨ls.map (·.2.1),by rw[<-hO];simp,?_,λi o q ho hq=>?_⟩,Fz.over h.i k⟩
 ·have e:List.zipWith (λ(o:Int×List Rg) q=>[Value.int .u32 o.1,q]) s.O (ls.map (·.2.1))=ls.map mr:=by
   rw[<-hO];clear hO h;induction ls with
   |nil=>rfl
   |cons x l ih=>rw[List.map_cons,List.map_cons,List.zipWith_cons_cons,ih];rfl
  rw[e,<-hO,List.length_map];exact Fz.over h.o k
 ·rw[<-hO,List.getElem?_map]at ho
  rw[List.getElem?_map]at hq;cases hl:ls[i]? with
  |none=>rw[hl]at ho;cases ho
  |some l =>
   rw[hl]at ho hq;cases ho;cases hq
   exact QN.over (h.q l (List.mem_of_getElem? hl)) k
end
theorem QN.base{wb w0 w:World}{q:Value}{rs:List Ra}(h:QN w0 w q rs)(g:GB none wb w0):QN wb w q rs:=⟨h.q.base g,λx hx=>⟨(h.r x hx).r.base g,(h.r x hx).d.base g⟩⟩
theorem LN.lt{e size n:Nat}{w0 w:World}{v:Value}{xs:List Value}(h:LN e size w0 w v n xs){g:Nat}(hg:v.ownBlock=some g):g<w.heap.size:=by
 obtain⟨c,hc⟩:=ay h.own hg;exact ae hc
theorem UE{w:World}{s:St}{vT vM vD vO vI:Value}(h:fM w vT vM vD vO vI s)(hs:StS s):ag Tryz.prog 42 #[.agg (iC s vT vM vD vO vI).toArray] w (λv w'=>∃T M D O I ls,v=.agg (iC s T M D O I).toArray/\SA w w' s T M D O I ls):=by
 obtain⟨ps,hpl,V8,hpq⟩:=h.la;have hT:=h.T;have hM:=h.M;have hD:=h.D;have hI:=h.I;obtain⟨ta,tc,rfl,hT'⟩:=h.T;obtain⟨ma,mc,rfl,hM'⟩:=h.M;obtain⟨da,dc,rfl,hD'⟩:=h.D;obtain⟨ia,ic,rfl,hI'⟩:=h.I;obtain⟨oa,oc,rfl,hO'⟩:=V8;have V8:Fz w 103 2 (.slice oa ps.length oc) ps.length (ps.map mr).flatten:=⟨oa,oc,rfl,hO'⟩;refine aj ah mixed Tryz.func42 rfl rfl ?_;refine λw1 b1 m1 g1 l1 w2 b2 m2 g2 l2=>?_
 have m1:=g2.get m1 nofun;have G:=g1.trans g2;have G0:=G;have n2:w.heap.size<=b2:=Nat.le_trans g1.size l2;have ne:b1≠b2:=by have:=ae m1;have:=g2.size;intro e;subst e;rename_i m1o _;have:=ae m1o;omega
 refine⟨_,_,m1,_,rfl,_,Hy (hT.kz G.kz (by decide)) (jk (λ_=>rfl) _) (Nat.le_trans hs.t (by decide)),?_⟩;intro T w3 LT;obtain⟨Ta,Tc,rfl⟩:=af LT.own;replace m1:=LT.gb.get m1 nofun;replace m2:=LT.gb.get m2 nofun;refine⟨_,_,_,m1,rfl,rfl,λw4 m3 g3=>?_⟩;replace m2:=g3.get m2 λe=>ne (Option.some.inj e).symm
 replace G:=(G.trans LT.gb).new g3 l1;replace LT:=(LT.base G0).bV g3 m1 (by decide) l1;replace m1:=m3;have G0:=G;refine⟨_,_,m1,_,rfl,_,UA (hM.kz G.kz (by decide)) (jk (λ_=>rfl) _) (Nat.le_trans hs.m (by decide)),?_⟩;intro M w3 LM;obtain⟨Ma,Mc,rfl⟩:=af LM.own;replace m1:=LM.gb.get m1 nofun;replace m2:=LM.gb.get m2 nofun;replace LT:=LT.ax LM.gb;refine⟨_,_,_,m1,rfl,rfl,λw4 m3 g3=>?_⟩;replace LT:=LT.bV g3 m1 (by decide) l1;replace m2:=g3.get m2 λe=>ne (Option.some.inj e).symm
 replace G:=(G.trans LM.gb).new g3 l1;replace LM:=(LM.base G0).bV g3 m1 (by decide) l1;replace m1:=m3;have G0:=G;refine⟨_,_,m1,_,rfl,_,Hz (hD.kz G.kz (by decide)) (jk (λ_=>rfl) _) (Nat.le_trans hs.d (by decide)),?_⟩;intro D w3 LD;obtain⟨Da,Dc,rfl⟩:=af LD.own;replace m1:=LD.gb.get m1 nofun;replace m2:=LD.gb.get m2 nofun;replace LT:=LT.ax LD.gb;replace LM:=LM.ax LD.gb;refine⟨_,_,_,m1,rfl,rfl,λw4 m3 g3=>?_⟩;replace LT:=LT.bV g3 m1 (by decide) l1;replace LM:=LM.bV g3 m1 (by decide) l1;replace m2:=g3.get m2 λe=>ne (Option.some.inj e).symm
 replace G:=(G.trans LD.gb).new g3 l1;replace LD:=(LD.base G0).bV g3 m1 (by decide) l1;replace m1:=m3;have G0:=G;refine⟨_,_,m1,_,rfl,_,Rb (hI.kz G.kz (by decide)) (by simp[List.all_map,one]) (Nat.le_trans hs.i (by decide)),?_⟩;intro I w3 LI;obtain⟨Ia,Ic,rfl⟩:=af LI.own;replace m1:=LI.gb.get m1 nofun;replace m2:=LI.gb.get m2 nofun;replace LT:=LT.ax LI.gb;replace LM:=LM.ax LI.gb;replace LD:=LD.ax LI.gb;refine⟨_,_,_,m1,rfl,rfl,λw4 m3 g3=>?_⟩;replace LT:=LT.bV g3 m1 (by decide) l1;replace LM:=LM.bV g3 m1 (by decide) l1;replace LD:=LD.bV g3 m1 (by decide) l1;replace m2:=g3.get m2 λe=>ne (Option.some.inj e).symm
 replace G:=(G.trans LI.gb).new g3 l1;replace LI:=(LI.base G0).bV g3 m1 (by decide) l1;replace m1:=m3;have G0:=G;refine⟨_,_,m1,_,rfl,_,OZ (V8.kz G.kz (by decide)) (XV λl hl=>by obtain⟨j,hj⟩:=List.getElem?_of_mem hl;obtain⟨o,_,_,q⟩:=hpq j l hj;exact⟨_,q⟩) (by have:=hs.o;omega),?_⟩;intro O w3 LO;obtain⟨Oa,Oc,rfl⟩:=af LO.own;replace m1:=LO.gb.get m1 nofun;replace m2:=LO.gb.get m2 nofun;replace LT:=LT.ax LO.gb;replace LM:=LM.ax LO.gb;replace LD:=LD.ax LO.gb;replace LI:=LI.ax LO.gb;refine⟨_,_,_,m1,rfl,rfl,λw4 m3 g3=>?_⟩;replace LT:=LT.bV g3 m1 (by decide) l1;replace LM:=LM.bV g3 m1 (by decide) l1;replace LD:=LD.bV g3 m1 (by decide) l1;replace LI:=LI.bV g3 m1 (by decide) l1;replace m2:=g3.get m2 λe=>ne (Option.some.inj e).symm
 replace G:=(G.trans LO.gb).new g3 l1;replace LO:=(LO.base G0).bV g3 m1 (by decide) l1;replace m1:=m3;have G0:=G;replace m1:w4.heap[b1]? = some (.cells (iC s (.slice Ta s.T.length Tc) (.slice Ma s.M.length Mc) (.slice Da s.D.length Dc) (.slice Oa ps.length Oc) (.slice Ia s.I.length Ic)).toArray 31):=m1;have agW:=hs.o;clear hT' hM' hD' hI' hO' hT hM hD hI V8 m3 g3;generalize Value.slice Ta s.T.length Tc=T at *;generalize Value.slice Ma s.M.length Mc=M at *;generalize Value.slice Da s.D.length Dc=D at *;generalize Value.slice Ia s.I.length Ic=I at *;refine⟨_,_,m1,_,rfl,?_⟩;refine⟨λn t wk=>∃(i:Nat) (ls:List La),n=ps.length - i/\i<=ps.length/\t=[(1,Ptt b1),(2,Ptt b2),(26,.slice Oa ps.length Oc),(27,.int .i64 ps.length),(28,.int .i64 i)]/\wk.heap[b1]? = some (.cells (iC s T M D (.slice Oa ps.length Oc) I).toArray 31)/\wk.heap[b2]? = some (.cells (zc ah.T 31).toArray 31)/\LN 128 2 w wk T s.T.length (s.T.map Row.cells).flatten/\PN w wk M s.M/\LN 57 7 w wk D s.D.length (s.D.map aB.cells).flatten/\LN 47 1 w wk I s.I.length (s.I.map λi=>Value.int .u32 i)/\ls.length=ps.length/\LN 103 2 w wk (.slice Oa ls.length Oc) ls.length (ls.map mr).flatten/\(∀(j:Nat) (l:La),j<i->ls[j]? = some l->QN w wk l.2.1 l.2.2/\s.O[j]? = some (Nb l)/\(∀x∈l.2.2,∀g,T.ownBlock=some g->x.2.1.ownBlock≠some g)/\(∀x∈l.2.2,∀g,D.ownBlock=some g->x.2.2.ownBlock≠some g))/\(∀j,i<=j->ls[j]? = ps[j]?)/\(∀(j k:Nat) (l l':La),j<k->k<i->ls[j]? = some l->ls[k]? = some l'->∀g,l.2.1.ownBlock=some g->l'.2.1.ownBlock≠some g),⟨_,_,⟨0,ps,rfl,Nat.zero_le _,rfl,m1,m2,LT,LM,LD,LI,rfl,LO,λ_ _ h=>by omega,λ_ _=>rfl,λ_ _ _ _ _ h=>by omega⟩,rfl,rfl,rfl,rfl,rfl,trivial⟩,?_⟩;clear m1 m2 LT LM LD LI LO G;rintro n t wk ⟨i,ls,rfl,hi,rfl,m1,m2,LT,LM,LD,LI,hlen,LO,hnew,hold,hsep⟩;refine au (λd=>?_) (λd=>?_)
 ·have d1:i<ps.length:=by have:=of_decide_eq_true d;omega
  obtain⟨⟨nx,q,rs0⟩,hx⟩:∃x,ps[i]? = some x:=⟨ps[i],by simp[d1]⟩;have hx':ls[i]? = some (nx,q,rs0):=(hold i (Nat.le_refl _)).trans hx;obtain⟨o,ho,e1,hq⟩:=hpq i _ hx;obtain⟨hq1,hq2⟩:=hs.q o (List.mem_of_getElem? ho);have hq0:=hq;obtain⟨_,_,⟨qa,qc,eq,_⟩,_⟩:=hq0;have eq:q=_:=eq;subst eq;obtain⟨g,cap,cur,ev,hg,aS,hcut,hsz⟩:=LO.at (f:=mr) (λ_=>rfl) hx';injection ev with ea _ ec;subst ea ec;refine⟨⟨by omega,by omega⟩,_,_,aS,[.int .u32 nx,.slice qa o.2.length qc],hcut,rfl,λw2 b3 m3 g3 l3=>⟨_,_,_,m3,rfl,rfl,λw3 m4 g4=>?_⟩⟩;have G3:=g3.new g4 l3;have kb1:=ae m1;replace m1:=G3.get m1 nofun;replace m2:=G3.get m2 nofun;refine⟨by kernel_rfl,_,_,m1,_,rfl,_,_,m4,_,rfl,_,Rp (hq.kz (LO.gb.trans G3).kz) hq1 hq2,?_⟩;rintro q' w5 ⟨rs,hrs,Q5⟩;obtain⟨vP,uu,rfl⟩:=af Q5.q.own;have G5:=G3.trans Q5.q.gb;have sN:=G5.get aS nofun;refine⟨⟨Q5.q.gb.get m4 nofun,Q5.q.gb.get m1 nofun,trivial⟩,⟨by omega,by omega⟩,_,_,_,sN,gp rfl rfl (by rw[Array.length_toList];show 0+(i:Int).toNat*2+1<_;omega),rfl,λw6 m6 g6=>?_⟩;have L6:=(LO.ax G5).set (f:=mr) (j:=1) (x':=(nx,.slice vP rs.length uu,rs)) (λ_=>rfl) sN hx' (by decide) rfl m6 (by show 0+(i:Int).toNat*2+1=_;omega) rfl rfl g6;have Q6:=(Q5.base (LO.gb.trans G3)).bV g6 sN (by decide) (by decide) (by decide) hg;have TA:=G3.size;have hcore:s.O[i]? = some (Nb (nx,Value.slice vP rs.length uu,rs)):=by
   rw[ho];show some o=some (nx,rs.map (·.1));rw[hrs,show nx=o.1 from e1]
  refine⟨⟨by omega,by omega⟩,_,_,⟨i+1,ls.set i (nx,.slice vP rs.length uu,rs),rfl,by omega,rfl,g6.get (Q5.q.gb.get m1 nofun) λe=>dw (Q5.q.gb.get m1 nofun) sN (by decide) (Option.some.inj e),g6.get (Q5.q.gb.get m2 nofun) λe=>dw (Q5.q.gb.get m2 nofun) sN (by decide) (Option.some.inj e),(LT.ax G5).bV g6 sN (by decide) hg,(LM.ax G5).bV g6 sN (by decide) hg,(LD.ax G5).bV g6 sN (by decide) hg,(LI.ax G5).bV g6 sN (by decide) hg,by rw[List.length_set];exact hlen,L6,λj l hj hl=>?_,λj hj=>?_,λj k l l' hjk hk hl hl' gg hgg=>?_⟩,⟨rfl,rfl,rfl,rfl,rfl,trivial⟩,by omega⟩
  ·rw[jb (by omega)]at hl
   split at hl
   ·rename_i e
    subst e;cases hl
    refine⟨Q6,hcore,λx hx gg hgg he=>?_,λx hx gg hgg he=>?_⟩
    ·have a1:=LT.lt hgg
     have a2:=(Q5.r x hx).r.new gg he;omega
    ·have a1:=LD.lt hgg
     have a2:=(Q5.r x hx).d.new gg he;omega
   ·obtain⟨a1,a2,a3,a4⟩:=hnew j l (by omega) hl
    exact⟨(a1.ax G5).bV g6 sN (by decide) (by decide) (by decide) hg,a2,a3,a4⟩
  ·rw[jb (by omega),if_neg (by omega)]
   exact hold j (by omega)
  ·rw[jb (by omega),if_neg (by omega)]at hl
   rw[jb (by omega)]at hl';split at hl'
   ·cases hl'
    intro he;have a1:=(hnew j l (by omega) hl).1.q.lt hgg;have a2:=Q5.q.new gg he;omega
   ·exact hsep j k l l' hjk (by omega) hl hl' gg hgg
 ·have d1:i=ps.length:=by have:=of_decide_eq_false d;omega
  rw[<-hlen]at d1;obtain⟨Rs,Rt,rfl⟩:=af LT.own;obtain⟨Ma',Mc',rfl⟩:=af LM.own;obtain⟨V9,Wd,rfl⟩:=af LD.own;obtain⟨Ia',Ic',rfl⟩:=af LI.own;refine⟨_,_,m1,iC s (.slice Rs s.T.length Rt) (.slice Ma' s.M.length Mc') (.slice V9 s.D.length Wd) (.slice Oa ps.length Oc) (.slice Ia' s.I.length Ic'),rfl,rfl,_,_,_,m2,rfl,rfl,λw5 m5 g5=>?_⟩;refine⟨_,_,m5,iC s (.slice Rs s.T.length Rt) (.slice Ma' s.M.length Mc') (.slice V9 s.D.length Wd) (.slice Oa ps.length Oc) (.slice Ia' s.I.length Ic'),rfl,rfl,_,_,_,_,_,ls,rfl,?_⟩;have S:SA w wk s (.slice Rs s.T.length Rt) (.slice Ma' s.M.length Mc') (.slice V9 s.D.length Wd) (.slice Oa ps.length Oc) (.slice Ia' s.I.length Ic') ls:=by
   have hal:∀l∈ls,∃j,j<i/\ls[j]? = some l:=λl hl=>by
    obtain⟨j,hj⟩:=List.getElem?_of_mem hl;exact⟨j,by have:=(List.getElem?_eq_some_iff.1 hj).1;omega,hj⟩
   refine⟨LT,LM,LD,by rw[<-hlen];exact LO,LI,λl hl=>?_,?_,λl hl=>?_,λl hl=>?_,λj k l l' hjk hl hl'=>?_⟩
   ·obtain⟨j,hj,hl⟩:=hal l hl
    exact(hnew j l hj hl).1
   ·refine List.ext_getElem? λj=>?_
    rw[List.getElem?_map];cases hj:ls[j]? with
    |none =>
     have:=List.getElem?_eq_none_iff.1 hj;rw[List.getElem?_eq_none (by omega)];rfl
    |some l=>rw[(hnew j l (by have:=(List.getElem?_eq_some_iff.1 hj).1;omega) hj).2.1];rfl
   ·obtain⟨j,hj,hl⟩:=hal l hl
    exact(hnew j l hj hl).2.2.1
   ·obtain⟨j,hj,hl⟩:=hal l hl
    exact(hnew j l hj hl).2.2.2
   ·have a1:=(List.getElem?_eq_some_iff.1 hl).1
    have a2:=(List.getElem?_eq_some_iff.1 hl').1;intro gg hgg he;rcases Nat.lt_or_gt_of_ne hjk with q|q
    ·exact hsep j k l l' q (by omega) hl hl' gg hgg he
    ·exact hsep k j l' l q (by omega) hl' hl gg he hgg
  exact S.bV g5 m2 (by decide) (by decide) (by decide) (by decide) (by decide) (by decide) n2
theorem We(a:Int)(w:World):ag Tryz.prog 174 #[.int .u64 a] w (λv w'=>v=.bool false/\w'=w):=by
 refine aj ah mixed Tryz.func174 rfl rfl ?_;exact⟨congrArg Value.bool (by simp),rfl⟩
theorem Kl(a b:Int)(w:World):ag Tryz.prog 137 #[.int .u64 a,.int .u64 b] w (λv w'=>v=.int .i64 (fZ a b)/\w'=w):=by
 refine aj ah mixed Tryz.func137 rfl rfl ?_;refine⟨_,We a w,?_⟩;rintro _ w ⟨rfl,rfl⟩;refine⟨_,We b w,?_⟩;rintro _ w ⟨rfl,rfl⟩;unfold fZ;refine au (λc=>?_) (λc=>?_)
 ·exact⟨congrArg (Value.int .i64) (if_pos (of_decide_eq_true c)).symm,rfl⟩
 ·refine au (λd=>?_) (λd=>?_)
  ·exact⟨congrArg (Value.int .i64) (by rw[if_neg (of_decide_eq_false c),if_pos (of_decide_eq_true d)]),rfl⟩
  ·exact⟨congrArg (Value.int .i64) (by rw[if_neg (of_decide_eq_false c),if_neg (of_decide_eq_false d)]),rfl⟩
theorem aan(a:Int)(w:World):ag Tryz.prog 175 #[.int .u8 a] w (λv w'=>v=.bool false/\w'=w):=by
 refine aj ah mixed Tryz.func175 rfl rfl ?_;exact⟨congrArg Value.bool (by simp),rfl⟩
theorem XW(a b:Int)(w:World):ag Tryz.prog 138 #[.int .u8 a,.int .u8 b] w (λv w'=>v=.int .i64 (fZ a b)/\w'=w):=by
 refine aj ah mixed Tryz.func138 rfl rfl ?_;refine⟨_,aan a w,?_⟩;rintro _ w ⟨rfl,rfl⟩;refine⟨_,aan b w,?_⟩;rintro _ w ⟨rfl,rfl⟩;unfold fZ;refine au (λc=>?_) (λc=>?_)
 ·exact⟨congrArg (Value.int .i64) (if_pos (of_decide_eq_true c)).symm,rfl⟩
 ·refine au (λd=>?_) (λd=>?_)
  ·exact⟨congrArg (Value.int .i64) (by rw[if_neg (of_decide_eq_false c),if_pos (of_decide_eq_true d)]),rfl⟩
  ·exact⟨congrArg (Value.int .i64) (by rw[if_neg (of_decide_eq_false c),if_neg (of_decide_eq_false d)]),rfl⟩
theorem abX{w:World}{b:Nat}{x y:Int}(hb:w.heap[b]? = some (.cells #[.int .i64 x,.int .i64 y] 3)):ag Tryz.prog 136 #[.slice (some ⟨b,0,none⟩) 2 2] w (λv w'=>v=.int .i64 (MZ x y)/\w'=w):=by
 refine aj ah mixed Tryz.func136 rfl rfl ?_;unfold MZ;refine⟨λn s wk=>wk=w/\((n=2/\s=[(3,.int .i64 0),(6,.slice (some ⟨b,0,none⟩) 2 2),(7,.int .i64 2),(8,.int .i64 0)])\/(n=1/\s=[(3,.int .i64 0),(6,.slice (some ⟨b,0,none⟩) 2 2),(7,.int .i64 2),(8,.int .i64 1)]/\x=0)\/(n=0/\s=[(3,.int .i64 0),(6,.slice (some ⟨b,0,none⟩) 2 2),(7,.int .i64 2),(8,.int .i64 2)]/\x=0/\y=0)),⟨_,_,⟨rfl,.inl ⟨rfl,rfl⟩⟩,rfl,rfl,rfl,rfl,trivial⟩,?_⟩;rintro n s wk ⟨rfl,⟨rfl,rfl⟩|⟨rfl,rfl,hx⟩|⟨rfl,rfl,hx,hy⟩⟩
 ·refine⟨⟨by decide,by decide⟩,_,_,hb,_,rfl,au (λc=>?_) (λc=>?_)⟩
  ·exact⟨congrArg (Value.int .i64) (if_neg (by simpa using c)).symm,rfl⟩
  ·exact⟨⟨by decide,by decide⟩,_,_,⟨rfl,.inr (.inl ⟨rfl,rfl,by simpa using c⟩)⟩,⟨rfl,rfl,rfl,rfl,trivial⟩,by decide⟩
 ·refine⟨⟨by decide,by decide⟩,_,_,hb,_,rfl,au (λc=>?_) (λc=>?_)⟩
  ·exact⟨congrArg (Value.int .i64) (if_pos hx).symm,rfl⟩
  ·exact⟨⟨by decide,by decide⟩,_,_,⟨rfl,.inr (.inr ⟨rfl,rfl,hx,by simpa using c⟩)⟩,⟨rfl,rfl,rfl,rfl,trivial⟩,by decide⟩
 ·exact⟨congrArg (Value.int .i64) (by rw[if_pos hx,hy]),rfl⟩
theorem Nc(w:World)(x:Row)(key:Int):ag Tryz.prog 205 #[.agg x.cells.toArray,.int .u64 key] w (λv w'=>v=.int .i64 (fZ x.key key)/\GB none w w'):=by
 refine aj ah mixed Tryz.func205 rfl rfl ?_;refine λw1 b1 m1 g1 l1=>⟨_,_,m1,_,rfl,_,Kl _ _ _,?_⟩
 rintro _ w1 ⟨rfl,rfl⟩;exact⟨rfl,g1⟩
theorem Nf(w:World)(x y:aB):ag Tryz.prog 135 #[.agg x.cells.toArray,.agg y.cells.toArray] w (λv w'=>v=.int .i64 (jh x y)/\GB none w w'):=by
 refine aj ah mixed Tryz.func135 rfl rfl ?_;refine λw1 b1 m1 g1 l1 w2 b2 m2 g2 l2=>?_
 have m1:=g2.get m1 nofun;have G:=g1.trans g2;refine⟨by kernel_rfl,?_⟩;refine⟨_,_,m1,_,rfl,_,_,m2,_,rfl,_,_,m1,_,rfl,_,_,m2,_,rfl,_,Kl _ _ _,?_⟩;rintro _ w2 ⟨rfl,rfl⟩;refine⟨⟨m2,m1,m2,m1,trivial⟩,_,XW _ _ _,?_⟩;rintro _ w2 ⟨rfl,rfl⟩;refine λw3 b3 m3 g3 l3=>?_
 refine⟨_,abX m3,?_⟩;rintro _ w3 ⟨rfl,rfl⟩;exact⟨rfl,G.trans g3⟩
theorem aao{w:World}{v:Value}{l:List Row}(h:Fz w 128 2 v l.length (l.map Row.cells).flatten)(hl:l.length<=1000000){key:Int}(hm:Bc (λx:Row=>fZ x.key key) l):ag Tryz.prog 204 #[v,.int .u64 key,.func (.func 205) #[] #[]] w (λx w'=>x=.tuple #[.int .i64 (dU (λx:Row=>fZ x.key key) l:Nat),.bool (nK (λx:Row=>fZ x.key key) l)]/\GB none w w'):=by
 obtain⟨a,c,rfl,hc,hlen,hv⟩:=h;obtain⟨hp1,hp2⟩:=tQ _ l hm;have Km:=BX (λx:Row=>fZ x.key key) l;obtain⟨p,hp⟩:∃p,p=dU (λx:Row=>fZ x.key key) l:=⟨_,rfl⟩;rw[<-hp]at hp1 hp2 Km |-;refine aj ah mixed Tryz.func204 rfl rfl ?_;refine⟨λn s wk=>∃lo hi:Nat,n=hi - lo/\lo<=p/\p<=hi/\hi<=l.length/\s=[(0,.slice a l.length c),(1,.int .u64 key),(2,.func (.func 205) #[] #[]),(8,.int .i64 l.length),(9,.int .i64 lo),(10,.int .i64 hi)]/\GB none w wk,⟨_,_,⟨0,l.length,rfl,Nat.zero_le _,Km,Nat.le_refl _,rfl,GB.refl _ _⟩,rfl,rfl,rfl,rfl,rfl,rfl,trivial⟩,?_⟩;rintro n s wk ⟨lo,hi,rfl,h1,h2,h3,rfl,P⟩;refine au (λd=>?_) (λd=>?_)
 ·have d1:lo<hi:=by have:=of_decide_eq_true d;omega
  rcases hv with⟨_,hz⟩|⟨b,off,cs,rfl,hb,hcut⟩
  ·omega
  obtain⟨mid,hmid⟩:∃mid:Nat,mid=(lo+hi) / 2:=⟨_,rfl⟩;have lV:((lo:Int)+hi).fdiv (2 ^ min (Int.toNat 1) IntKind.u64.bits)=(mid:Int):=by
   rw[show(2:Int) ^ min (Int.toNat 1) IntKind.u64.bits=2 from rfl,Int.fdiv_eq_ediv_of_nonneg _ (by decide)];omega
  obtain⟨x,hx⟩:∃x,l[mid]? = some x:=⟨l[mid]'(by omega),by simp[show mid<l.length by omega]⟩;have hbk:=P.get hb nofun;refine⟨⟨by omega,by omega⟩,.inl ⟨⟨by omega,by omega⟩,⟨by decide,.inl ⟨⟨by rw[lV];omega,by rw[lV];omega⟩,?_⟩⟩⟩⟩;refine⟨⟨by rw[lV];omega,by rw[lV];omega⟩,_,_,hbk,x.cells,?_,rfl,_,Nc _ x key,?_⟩
  ·rw[lV];exact kP (f:=Row.cells) (λ_=>rfl) hx hcut
  rintro _ w2 ⟨rfl,g2⟩;refine au (λe=>?_) (λe=>?_)
  ·have e1:fZ x.key key<0:=of_decide_eq_true e
   have hlt:mid<p:=Classical.byContradiction λz=>by have:=hp2 mid x (by omega) hx;omega
   refine⟨⟨by rw[lV];omega,by rw[lV];omega⟩,_,_,⟨mid+1,hi,rfl,by omega,h2,h3,rfl,P.trans g2⟩,⟨rfl,rfl,rfl,rfl,?_,rfl,trivial⟩,by omega⟩;show some (Value.int .i64 (((lo:Int)+hi).fdiv (2 ^ min (Int.toNat 1) IntKind.u64.bits)+1))=_;rw[lV];rfl
  ·have e1:¬fZ x.key key<0:=of_decide_eq_false e
   have hle:p<=mid:=Classical.byContradiction λz=>e1 (hp1 mid x (by omega) hx)
   refine⟨_,_,⟨lo,mid,rfl,h1,hle,by omega,rfl,P.trans g2⟩,⟨rfl,rfl,rfl,rfl,rfl,?_,trivial⟩,by omega⟩;show some (Value.int .i64 (((lo:Int)+hi).fdiv (2 ^ min (Int.toNat 1) IntKind.u64.bits)))=_;rw[lV]
 ·have d1:lo=hi:=by have:=of_decide_eq_false d;omega
  obtain rfl:lo=p:=by omega
  refine au (λe=>?_) (λe=>?_)
  ·have e1:lo<l.length:=by have:=of_decide_eq_true (b11 e);omega
   rcases hv with⟨_,hz⟩|⟨b,off,cs,rfl,hb,hcut⟩
   ·omega
   obtain⟨x,hx⟩:∃x,l[lo]? = some x:=⟨l[lo],by simp[e1]⟩;have hh:nK (λx:Row=>fZ x.key key) l=(fZ x.key key == 0):=by simp only[nK,<-hp,hx]
   rw[hh];refine⟨⟨by omega,by omega⟩,_,_,P.get hb nofun,x.cells,kP (f:=Row.cells) (λ_=>rfl) hx hcut,rfl,_,Nc _ x key,?_⟩;rintro _ w2 ⟨rfl,g2⟩;exact⟨rfl,P.trans g2⟩
  ·have e1:¬lo<l.length:=by have:=of_decide_eq_false (b10 e);omega
   have hh:nK (λx:Row=>fZ x.key key) l=false:=by simp only[nK,<-hp,List.getElem?_eq_none (Nat.le_of_not_lt e1)]
   rw[hh];exact⟨rfl,P⟩
theorem aap{w:World}{v:Value}{l:List aB}(h:Fz w 57 7 v l.length (l.map aB.cells).flatten)(hl:l.length<=1000000){q:aB}(hm:Bc (λx:aB=>jh x q) l):ag Tryz.prog 134 #[v,.agg q.cells.toArray,.func (.func 135) #[] #[]] w (λx w'=>x=.tuple #[.int .i64 (dU (λx:aB=>jh x q) l:Nat),.bool (nK (λx:aB=>jh x q) l)]/\GB none w w'):=by
 obtain⟨a,c,rfl,hc,hlen,hv⟩:=h;obtain⟨hp1,hp2⟩:=tQ _ l hm;have Km:=BX (λx:aB=>jh x q) l;obtain⟨p,hp⟩:∃p,p=dU (λx:aB=>jh x q) l:=⟨_,rfl⟩;rw[<-hp]at hp1 hp2 Km |-;refine aj ah mixed Tryz.func134 rfl rfl ?_;refine λw1 b1 m1 g1 l1=>?_
 refine⟨λn s wk=>∃lo hi:Nat,n=hi - lo/\lo<=p/\p<=hi/\hi<=l.length/\s=[(0,.slice a l.length c),(2,.func (.func 135) #[] #[]),(4,Ptt b1),(8,.int .i64 l.length),(9,.int .i64 lo),(10,.int .i64 hi)]/\GB none w1 wk,⟨_,_,⟨0,l.length,rfl,Nat.zero_le _,Km,Nat.le_refl _,rfl,GB.refl _ _⟩,rfl,rfl,rfl,rfl,rfl,rfl,trivial⟩,?_⟩;rintro n s wk ⟨lo,hi,rfl,h1,h2,h3,rfl,P⟩;refine au (λd=>?_) (λd=>?_)
 ·have d1:lo<hi:=by have:=of_decide_eq_true d;omega
  rcases hv with⟨_,hz⟩|⟨b,off,cs,rfl,hb,hcut⟩
  ·omega
  obtain⟨mid,hmid⟩:∃mid:Nat,mid=(lo+hi) / 2:=⟨_,rfl⟩;have lV:((lo:Int)+hi).fdiv (2 ^ min (Int.toNat 1) IntKind.u64.bits)=(mid:Int):=by
   rw[show(2:Int) ^ min (Int.toNat 1) IntKind.u64.bits=2 from rfl,Int.fdiv_eq_ediv_of_nonneg _ (by decide)];omega
  obtain⟨x,hx⟩:∃x,l[mid]? = some x:=⟨l[mid]'(by omega),by simp[show mid<l.length by omega]⟩;have hbk:=P.get (g1.get hb nofun) nofun;refine⟨⟨by omega,by omega⟩,.inl ⟨⟨by omega,by omega⟩,⟨by decide,.inl ⟨⟨by rw[lV];omega,by rw[lV];omega⟩,?_⟩⟩⟩⟩;refine⟨by kernel_rfl,⟨by rw[lV];omega,by rw[lV];omega⟩,_,_,hbk,x.cells,?_,rfl,_,_,P.get m1 nofun,q.cells,rfl,rfl,_,Nf _ x q,?_⟩
  ·rw[lV];exact kP (f:=aB.cells) (λ_=>rfl) hx hcut
  rintro _ w2 ⟨rfl,g2⟩;refine au (λe=>?_) (λe=>?_)
  ·have e1:jh x q<0:=of_decide_eq_true e
   have hlt:mid<p:=Classical.byContradiction λz=>by have:=hp2 mid x (by omega) hx;omega
   refine⟨⟨by rw[lV];omega,by rw[lV];omega⟩,_,_,⟨mid+1,hi,rfl,by omega,h2,h3,rfl,P.trans g2⟩,⟨rfl,rfl,rfl,rfl,?_,rfl,trivial⟩,by omega⟩;show some (Value.int .i64 (((lo:Int)+hi).fdiv (2 ^ min (Int.toNat 1) IntKind.u64.bits)+1))=_;rw[lV];rfl
  ·have e1:¬jh x q<0:=of_decide_eq_false e
   have hle:p<=mid:=Classical.byContradiction λz=>e1 (hp1 mid x (by omega) hx)
   refine⟨_,_,⟨lo,mid,rfl,h1,hle,by omega,rfl,P.trans g2⟩,⟨rfl,rfl,rfl,rfl,rfl,?_,trivial⟩,by omega⟩;show some (Value.int .i64 (((lo:Int)+hi).fdiv (2 ^ min (Int.toNat 1) IntKind.u64.bits)))=_;rw[lV]
 ·have d1:lo=hi:=by have:=of_decide_eq_false d;omega
  obtain rfl:lo=p:=by omega
  refine⟨by kernel_rfl,au (λe=>?_) (λe=>?_)⟩
  ·have e1:lo<l.length:=by have:=of_decide_eq_true (b11 e);omega
   rcases hv with⟨_,hz⟩|⟨b,off,cs,rfl,hb,hcut⟩
   ·omega
   obtain⟨x,hx⟩:∃x,l[lo]? = some x:=⟨l[lo],by simp[e1]⟩;have hh:nK (λx:aB=>jh x q) l=(jh x q == 0):=by simp only[nK,<-hp,hx]
   rw[hh];refine⟨⟨by omega,by omega⟩,_,_,P.get (g1.get hb nofun) nofun,x.cells,kP (f:=aB.cells) (λ_=>rfl) hx hcut,rfl,_,_,P.get m1 nofun,q.cells,rfl,rfl,_,Nf _ x q,?_⟩;rintro _ w2 ⟨rfl,g2⟩;exact⟨rfl,(g1.trans P).trans g2⟩
  ·have e1:¬lo<l.length:=by have:=of_decide_eq_false (b10 e);omega
   have hh:nK (λx:aB=>jh x q) l=false:=by simp only[nK,<-hp,List.getElem?_eq_none (Nat.le_of_not_lt e1)]
   rw[hh];exact⟨rfl,g1.trans P⟩
section
variable{w:World}{b:Nat}{s:St}{T M D O I:Value}
theorem Kn(hm:w.heap[b]? = some (.cells (iC s T M D O I).toArray 31))(hT:Fz w 128 2 T s.T.length (s.T.map Row.cells).flatten)(hl:s.T.length<=1000000)(hs:gJ s.T)(key:Int):ag Tryz.prog 176 #[Ptt b,.int .u64 key] w (λx w'=>x=.tuple #[.int .i64 (tT s.T key:Nat),.bool (kU s.T key)]/\GB none w w'):=by
 refine aj ah mixed Tryz.func176 rfl rfl ?_;refine⟨_,_,hm,_,rfl,_,aao hT hl (VT hs key),?_⟩;rintro _ w1 ⟨rfl,g1⟩;exact⟨rfl,g1⟩
theorem Ru(hm:w.heap[b]? = some (.cells (iC s T M D O I).toArray 31))(hD:Fz w 57 7 D s.D.length (s.D.map aB.cells).flatten)(hl:s.D.length<=1000000)(hs:iN s.D)(q:aB):ag Tryz.prog 84 #[Ptt b,.agg q.cells.toArray] w (λx w'=>x=.tuple #[.int .i64 (zM s.D q:Nat),.bool (Ka s.D q)]/\GB none w w'):=by
 refine aj ah mixed Tryz.func84 rfl rfl ?_;refine λw1 b1 m1 g1 l1=>?_
 refine⟨by kernel_rfl,_,_,g1.get hm nofun,_,rfl,_,_,m1,q.cells,rfl,rfl,_,aap (hD.kz g1.kz (by decide)) hl (VU hs q),?_⟩;rintro _ w2 ⟨rfl,g2⟩;exact⟨rfl,g1.trans g2⟩
theorem yg{α:Type}{f:α->Int}{l:List α}(h:nK f l=true):∃x,l[dU f l]? = some x/\f x=0:=by
 unfold nK at h;cases hx:l[dU f l]? with
 |none=>rw[hx]at h;cases h
 |some x=>rw[hx]at h;exact⟨x,rfl,by simpa using h⟩
theorem aaq(hm:w.heap[b]? = some (.cells (iC s T M D O I).toArray 31))(hT:Fz w 128 2 T s.T.length (s.T.map Row.cells).flatten)(hl:s.T.length<=1000000)(hs:gJ s.T)(key:Int):ag Tryz.prog 139 #[Ptt b,.int .u64 key] w (λx w'=>x=.tuple #[.int .u64 (rV s.T key),.bool (kU s.T key)]/\GB none w w'):=by
 refine aj ah mixed Tryz.func139 rfl rfl ?_;refine⟨_,Kn hm hT hl hs key,?_⟩;rintro _ w1 ⟨rfl,g1⟩;unfold rV;obtain⟨a,ha⟩:∃a,kU s.T key=a:=⟨_,rfl⟩;rw[ha];cases a
 ·exact⟨rfl,g1⟩
 ·obtain⟨x,hx,_⟩:=yg ha
  have hi:tT s.T key<s.T.length:=(List.getElem?_eq_some_iff.1 hx).1;obtain⟨ta,tc,rfl,h1,h2,h3⟩:=hT;rcases h3 with⟨_,hz⟩|⟨g,off,cs,rfl,hb,hcut⟩
  ·omega
  have hc:=kP (f:=Row.cells) (λ_=>rfl) hx hcut;refine⟨_,_,g1.get hm nofun,_,rfl,⟨by omega,by omega⟩,_,_,g1.get hb nofun,.int .u64 x.val,iF hc rfl (by decide),?_⟩;exact⟨by rw[show s.T[tT s.T key]? = some x from hx];rfl,g1⟩
theorem LU(hm:w.heap[b]? = some (.cells (iC s T M D O I).toArray 31))(hM:zN w M s.M)(hok:lL s.M=true)(Bh:Can s.M){lo hi:Int}(h0:0<=lo):ag Tryz.prog 83 #[Ptt b,.int .u64 lo,.int .u64 hi] w (λx w'=>x=.tuple #[.int .u8 (Kb s.M s.g lo hi),.bool (OY s.M s.g lo hi)]/\GB none w w'):=by
 refine aj ah mixed Tryz.func83 rfl rfl ?_;have Kg:=Bg hok;refine⟨_,_,hm,_,rfl,_,M4 hM hok Bh h0,?_⟩;rintro _ w1 ⟨rfl,g1⟩;unfold Kb OY;refine⟨_,_,g1.get hm nofun,_,rfl,au (λc=>?_) (λc=>?_)⟩
 ·have c1:own 0 s.M lo≠s.g:=by simpa using c
  rw[if_pos c1,if_pos c1];exact⟨rfl,g1⟩
 ·have c1:¬own 0 s.M lo≠s.g:=by simpa using c
  rw[if_neg c1,if_neg c1];have hM1:zN w1 M s.M:=hM.kz g1.kz (by decide);obtain⟨a,c,rfl,hc,hl,hv⟩:=hM1;refine⟨_,_,g1.get hm nofun,_,rfl,?_⟩;refine⟨λn t wk=>∃i:Nat,n=s.M.length - i/\i<=s.M.length/\t=[(1,.int .u64 lo),(2,.int .u64 hi),(31,.slice a s.M.length c),(32,.int .i64 s.M.length),(33,.int .i64 i)]/\s.M.find? (CK lo hi)=(s.M.drop i).find? (CK lo hi)/\GB none w1 wk,⟨_,_,⟨0,rfl,Nat.zero_le _,rfl,rfl,GB.refl _ _⟩,rfl,rfl,rfl,rfl,rfl,trivial⟩,?_⟩;rintro n t wk ⟨i,rfl,hi',rfl,hf,P⟩;refine au (λd=>?_) (λd=>?_)
  ·have d1:i<s.M.length:=by have:=of_decide_eq_true d;omega
   rcases hv with⟨_,hz⟩|⟨b,off,cs,rfl,hb,hcut⟩
   ·omega
   obtain⟨y,hy⟩:∃y,s.M[i]? = some y:=⟨s.M[i],by simp[d1]⟩;rw[List.drop_eq_getElem_cons d1,show s.M[i]=y from(List.getElem?_eq_some_iff.1 hy).2,List.find?_cons]at hf;refine⟨⟨by omega,by omega⟩,_,_,P.get hb nofun,y.cells,kP (f:=Pc.cells) (λ_=>rfl) hy hcut,rfl,λw2 b2 m2 g2 l2=>⟨_,_,_,m2,rfl,rfl,λw3 m3 g3=>?_⟩⟩;have G:=P.trans (g2.new g3 l2);refine⟨_,_,m3,_,rfl,au (λe=>?_) (λe=>?_)⟩
   ·have e1:=of_decide_eq_true (b11 e)
    refine⟨_,_,m3,_,rfl,au (λq=>?_) (λq=>?_)⟩
    ·have q1:=of_decide_eq_true q
     have z:CK lo hi y=true:=by simp[CK];omega
     rw[z]at hf;rw[hf];exact⟨_,_,m3,_,rfl,rfl,g1.trans G⟩
    ·have q1:=of_decide_eq_false q
     have z:CK lo hi y=false:=by simp[CK];omega
     exact⟨⟨by omega,by omega⟩,_,_,⟨i+1,rfl,by omega,rfl,by rw[hf,z],G⟩,⟨rfl,rfl,rfl,rfl,rfl,trivial⟩,by omega⟩
   ·have e1:=of_decide_eq_false (b10 e)
    have z:CK lo hi y=false:=by simp[CK];omega
    exact⟨⟨by omega,by omega⟩,_,_,⟨i+1,rfl,by omega,rfl,by rw[hf,z],G⟩,⟨rfl,rfl,rfl,rfl,rfl,trivial⟩,by omega⟩
  ·have d1:i=s.M.length:=by have:=of_decide_eq_false d;omega
   rw[d1,List.drop_length]at hf;rw[hf];exact⟨rfl,g1.trans P⟩
theorem UF(w:World)(hM:zN w M s.M)(hok:lL s.M=true)(Bh:Can s.M)(hO:∃a c,O=.slice a s.O.length c)(hI:∃a c,I=.slice a s.I.length c)(hT:∃a n c,T=.slice a n c)(hD:∃a n c,D=.slice a n c)(hg:s.g<s.n)(hn:s.n<=4)(hn0:0<=s.n)(hol:(s.O.length:Int)=s.n)(hil:(s.I.length:Int)=s.n):ag Tryz.prog 43 #[.agg (iC s T M D O I).toArray] w (λx w'=>x=.bool true/\GB none w w'):=by
 obtain⟨oa,oc,rfl⟩:=hO;obtain⟨ia,ic,rfl⟩:=hI;obtain⟨ta,tn,tc,rfl⟩:=hT;obtain⟨da,dn,dc,rfl⟩:=hD;have hM0:=hM;obtain⟨ma,mc,rfl,_⟩:=hM;refine aj ah mixed Tryz.func43 rfl rfl ?_;refine λw1 b1 m1 g1 l1=>⟨_,_,m1,_,rfl,_,M4 (hM0.kz g1.kz (by decide)) hok Bh (Int.le_refl 0),?_⟩
 rintro _ w2 ⟨rfl,g2⟩;have m1:=g2.get m1 nofun;have G:=g1.trans g2;refine⟨_,_,m1,_,rfl,.inl ⟨⟨by omega,by omega⟩,?_⟩⟩;refine⟨_,_,m1,_,rfl,_,_,m1,_,rfl,au (λe=>?_) (λe=>?_)⟩
 ·refine⟨_,_,m1,_,rfl,au (λe=>?_) (λe=>?_)⟩
  ·refine⟨_,_,m1,_,rfl,?_⟩
   exact⟨congrArg Value.bool (by simpa using hil),G⟩
  ·exact absurd hol (by have:=b10 e;simpa using this)
 ·have:=of_decide_eq_false (b10 e)
  omega
end
end
