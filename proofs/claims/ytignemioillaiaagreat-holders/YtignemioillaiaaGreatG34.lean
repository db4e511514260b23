/- Lemmas. -/
import Derived.Test.YtignemioillaiaaGreatG33
namespace Go.Proofs.YtignemioillaiaaGreat
set_option maxHeartbeats 8000000
set_option maxRecDepth 100000
open List
section
open Go Go.Conc
theorem QN.base{wb w0 w:World}{q:Value}{rs:List Ra}(h:QN w0 w q rs)(g:GB none wb w0):QN wb w q rs:=⟨h.q.base g,λx hx=>⟨(h.r x hx).r.base g,(h.r x hx).d.base g⟩⟩
theorem LN.lt{e size n:Nat}{w0 w:World}{v:Value}{xs:List Value}(h:LN e size w0 w v n xs){g:Nat}(hg:v.ownBlock=some g):g<w.heap.size:=by
 obtain⟨c,hc⟩:=ax h.own hg;exact ae hc
theorem Ve{w:World}{s:St}{vT vM vD vO vI:Value}(h:fG w vT vM vD vO vI s)(hs:StS s):ag Tryz.prog 42 #[.agg (iJ s vT vM vD vO vI).toArray] w (λv w'=>∃T M D O I ls,v=.agg (iJ s T M D O I).toArray/\SA w w' s T M D O I ls):=by
 obtain⟨ps,hpl,WO,hpq⟩:=h.la;have hT:=h.T;have hM:=h.M;have hD:=h.D;have hI:=h.I;obtain⟨ta,tc,rfl,hT'⟩:=h.T;obtain⟨ma,mc,rfl,hM'⟩:=h.M;obtain⟨da,dc,rfl,hD'⟩:=h.D;obtain⟨ia,ic,rfl,hI'⟩:=h.I;obtain⟨oa,oc,rfl,hO'⟩:=WO;have WO:Fz w 103 2 (.slice oa ps.length oc) ps.length (ps.map mV).flatten:=⟨oa,oc,rfl,hO'⟩;refine ah Tryz.func42 rfl rfl ?_;refine λw1 b1 m1 g1 l1 w2 b2 m2 g2 l2=>?_
 have m1:=g2.get m1 nofun;have G:=g1.trans g2;have G0:=G;have n2:w.heap.size<=b2:=Nat.le_trans g1.size l2;have ne:b1≠b2:=by have:=ae m1;have:=g2.size;intro e;subst e;rename_i m1o _;have:=ae m1o;omega
 refine⟨_,_,m1,_,rfl,_,Iz (hT.kz G.kz (by decide)) (jw (λ_=>rfl) _) (Nat.le_trans hs.t (by decide)),?_⟩;intro T w3 LT;obtain⟨Ta,Tc,rfl⟩:=af LT.own;replace m1:=LT.gb.get m1 nofun;replace m2:=LT.gb.get m2 nofun;refine⟨_,_,_,m1,rfl,rfl,λw4 m3 g3=>?_⟩;replace m2:=g3.get m2 λe=>ne (Option.some.inj e).symm
 replace G:=(G.trans LT.gb).new g3 l1;replace LT:=(LT.base G0).bV g3 m1 (by decide) l1;replace m1:=m3;have G0:=G;refine⟨_,_,m1,_,rfl,_,U9 (hM.kz G.kz (by decide)) (jw (λ_=>rfl) _) (Nat.le_trans hs.m (by decide)),?_⟩;intro M w3 LM;obtain⟨Ma,Mc,rfl⟩:=af LM.own;replace m1:=LM.gb.get m1 nofun;replace m2:=LM.gb.get m2 nofun;replace LT:=LT.au LM.gb;refine⟨_,_,_,m1,rfl,rfl,λw4 m3 g3=>?_⟩;replace LT:=LT.bV g3 m1 (by decide) l1;replace m2:=g3.get m2 λe=>ne (Option.some.inj e).symm
 replace G:=(G.trans LM.gb).new g3 l1;replace LM:=(LM.base G0).bV g3 m1 (by decide) l1;replace m1:=m3;have G0:=G;refine⟨_,_,m1,_,rfl,_,IA (hD.kz G.kz (by decide)) (jw (λ_=>rfl) _) (Nat.le_trans hs.d (by decide)),?_⟩;intro D w3 LD;obtain⟨Da,Dc,rfl⟩:=af LD.own;replace m1:=LD.gb.get m1 nofun;replace m2:=LD.gb.get m2 nofun;replace LT:=LT.au LD.gb;replace LM:=LM.au LD.gb;refine⟨_,_,_,m1,rfl,rfl,λw4 m3 g3=>?_⟩;replace LT:=LT.bV g3 m1 (by decide) l1;replace LM:=LM.bV g3 m1 (by decide) l1;replace m2:=g3.get m2 λe=>ne (Option.some.inj e).symm
 replace G:=(G.trans LD.gb).new g3 l1;replace LD:=(LD.base G0).bV g3 m1 (by decide) l1;replace m1:=m3;have G0:=G;refine⟨_,_,m1,_,rfl,_,RO (hI.kz G.kz (by decide)) (by simp[all_map,one]) (Nat.le_trans hs.i (by decide)),?_⟩;intro I w3 LI;obtain⟨Ia,Ic,rfl⟩:=af LI.own;replace m1:=LI.gb.get m1 nofun;replace m2:=LI.gb.get m2 nofun;replace LT:=LT.au LI.gb;replace LM:=LM.au LI.gb;replace LD:=LD.au LI.gb;refine⟨_,_,_,m1,rfl,rfl,λw4 m3 g3=>?_⟩;replace LT:=LT.bV g3 m1 (by decide) l1;replace LM:=LM.bV g3 m1 (by decide) l1;replace LD:=LD.bV g3 m1 (by decide) l1;replace m2:=g3.get m2 λe=>ne (Option.some.inj e).symm
 replace G:=(G.trans LI.gb).new g3 l1;replace LI:=(LI.base G0).bV g3 m1 (by decide) l1;replace m1:=m3;have G0:=G;refine⟨_,_,m1,_,rfl,_,PD (WO.kz G.kz (by decide)) (Yv λl hl=>by obtain⟨j,hj⟩:=getElem?_of_mem hl;obtain⟨o,_,_,q⟩:=hpq j l hj;exact⟨_,q⟩) (by have:=hs.o;omega),?_⟩;intro O w3 LO;obtain⟨Oa,Oc,rfl⟩:=af LO.own;replace m1:=LO.gb.get m1 nofun;replace m2:=LO.gb.get m2 nofun;replace LT:=LT.au LO.gb;replace LM:=LM.au LO.gb;replace LD:=LD.au LO.gb;replace LI:=LI.au LO.gb;refine⟨_,_,_,m1,rfl,rfl,λw4 m3 g3=>?_⟩;replace LT:=LT.bV g3 m1 (by decide) l1;replace LM:=LM.bV g3 m1 (by decide) l1;replace LD:=LD.bV g3 m1 (by decide) l1;replace LI:=LI.bV g3 m1 (by decide) l1;replace m2:=g3.get m2 λe=>ne (Option.some.inj e).symm
 replace G:=(G.trans LO.gb).new g3 l1;replace LO:=(LO.base G0).bV g3 m1 (by decide) l1;replace m1:=m3;have G0:=G;replace m1:w4.heap[b1]? = some (.cells (iJ s (.slice Ta s.T.length Tc) (.slice Ma s.M.length Mc) (.slice Da s.D.length Dc) (.slice Oa ps.length Oc) (.slice Ia s.I.length Ic)).toArray 31):=m1;have ahz:=hs.o;clear hT' hM' hD' hI' hO' hT hM hD hI WO m3 g3;generalize Value.slice Ta s.T.length Tc=T at *;generalize Value.slice Ma s.M.length Mc=M at *;generalize Value.slice Da s.D.length Dc=D at *;generalize Value.slice Ia s.I.length Ic=I at *;refine⟨_,_,m1,_,rfl,?_⟩;refine⟨λn t wk=>∃(i:Nat) (ls:List La),n=ps.length - i/\i<=ps.length/\t=[(1,Ptt b1),(2,Ptt b2),(26,.slice Oa ps.length Oc),(27,.int .i64 ps.length),(28,.int .i64 i)]/\wk.heap[b1]? = some (.cells (iJ s T M D (.slice Oa ps.length Oc) I).toArray 31)/\wk.heap[b2]? = some (.cells (zc fD.T 31).toArray 31)/\LN 128 2 w wk T s.T.length (s.T.map Row.cells).flatten/\PN w wk M s.M/\LN 57 7 w wk D s.D.length (s.D.map aA.cells).flatten/\LN 47 1 w wk I s.I.length (s.I.map λi=>Value.int .u32 i)/\ls.length=ps.length/\LN 103 2 w wk (.slice Oa ls.length Oc) ls.length (ls.map mV).flatten/\(∀(j:Nat) (l:La),j<i->ls[j]? = some l->QN w wk l.2.1 l.2.2/\s.O[j]? = some (NM l)/\(∀x∈l.2.2,∀g,T.ownBlock=some g->x.2.1.ownBlock≠some g)/\(∀x∈l.2.2,∀g,D.ownBlock=some g->x.2.2.ownBlock≠some g))/\(∀j,i<=j->ls[j]? = ps[j]?)/\(∀(j k:Nat) (l l':La),j<k->k<i->ls[j]? = some l->ls[k]? = some l'->∀g,l.2.1.ownBlock=some g->l'.2.1.ownBlock≠some g),⟨_,_,⟨0,ps,rfl,Nat.zero_le _,rfl,m1,m2,LT,LM,LD,LI,rfl,LO,λ_ _ h=>by omega,λ_ _=>rfl,λ_ _ _ _ _ h=>by omega⟩,rfl,rfl,rfl,rfl,rfl,trivial⟩,?_⟩;clear m1 m2 LT LM LD LI LO G;rintro n t wk ⟨i,ls,rfl,hi,rfl,m1,m2,LT,LM,LD,LI,hlen,LO,hnew,hold,hsep⟩;refine aj (λd=>?_) (λd=>?_)
 ·have d1:i<ps.length:=by have:=Ptq d;omega
  obtain⟨⟨nx,q,rs0⟩,hx⟩:∃x,ps[i]? = some x:=⟨ps[i],by simp[d1]⟩;have hx':ls[i]? = some (nx,q,rs0):=(hold i (Nat.le_refl _)).trans hx;obtain⟨o,ho,e1,hq⟩:=hpq i _ hx;obtain⟨hq1,hq2⟩:=hs.q o (List.mem_of_getElem? ho);have hq0:=hq;obtain⟨_,_,⟨qa,qc,eq,_⟩,_⟩:=hq0;have eq:q=_:=eq;subst eq;obtain⟨g,cap,cur,ev,hg,aR,hcut,hsz⟩:=LO.at (f:=mV) (λ_=>rfl) hx';injection ev with ea _ ec;subst ea ec;refine⟨by omega,_,_,aR,[.int .u32 nx,.slice qa o.2.length qc],hcut,rfl,λw2 b3 m3 g3 l3=>⟨_,_,_,m3,rfl,rfl,λw3 m4 g4=>?_⟩⟩;have G3:=g3.new g4 l3;have kb1:=ae m1;replace m1:=G3.get m1 nofun;replace m2:=G3.get m2 nofun;refine⟨by kernel_rfl,_,_,m1,_,rfl,_,_,m4,_,rfl,_,Sa (hq.kz (LO.gb.trans G3).kz) hq1 hq2,?_⟩;rintro q' w5 ⟨rs,hrs,Q5⟩;obtain⟨wC,uO,rfl⟩:=af Q5.q.own;have G5:=G3.trans Q5.q.gb;have tV:=G5.get aR nofun;refine⟨⟨Q5.q.gb.get m4 nofun,Q5.q.gb.get m1 nofun,trivial⟩,by omega,_,_,_,tV,gH rfl rfl (by rw[Array.length_toList];show 0+(i:Int).toNat*2+1<_;omega),rfl,λw6 m6 g6=>?_⟩;have L6:=(LO.au G5).set (f:=mV) (j:=1) (x':=(nx,.slice wC rs.length uO,rs)) (λ_=>rfl) tV hx' (by decide) rfl m6 (by show 0+(i:Int).toNat*2+1=_;omega) rfl rfl g6;have Q6:=(Q5.base (LO.gb.trans G3)).bV g6 tV (by decide) (by decide) (by decide) hg;have Ui:=G3.size;have hcore:s.O[i]? = some (NM (nx,Value.slice wC rs.length uO,rs)):=by
   rw[ho];show some o=some (nx,rs.map (·.1));rw[hrs,show nx=o.1 from e1]
  refine⟨by omega,_,_,⟨i+1,ls.set i (nx,.slice wC rs.length uO,rs),rfl,by omega,rfl,g6.get (Q5.q.gb.get m1 nofun) λe=>dw (Q5.q.gb.get m1 nofun) tV (by decide) (Option.some.inj e),g6.get (Q5.q.gb.get m2 nofun) λe=>dw (Q5.q.gb.get m2 nofun) tV (by decide) (Option.some.inj e),(LT.au G5).bV g6 tV (by decide) hg,(LM.au G5).bV g6 tV (by decide) hg,(LD.au G5).bV g6 tV (by decide) hg,(LI.au G5).bV g6 tV (by decide) hg,by rw[length_set];exact hlen,L6,λj l hj hl=>?_,λj hj=>?_,λj k l l' hjk hk hl hl' gg hgg=>?_⟩,⟨rfl,rfl,rfl,rfl,rfl,trivial⟩,by omega⟩
  ·rw[ji (by omega)]at hl
   split at hl
   ·rename_i e
    subst e;cases hl
    refine⟨Q6,hcore,λx hx gg hgg he=>?_,λx hx gg hgg he=>?_⟩
    ·have a1:=LT.lt hgg
     have a2:=(Q5.r x hx).r.new gg he;omega
    ·have a1:=LD.lt hgg
     have a2:=(Q5.r x hx).d.new gg he;omega
   ·obtain⟨a1,a2,a3,a4⟩:=hnew j l (by omega) hl
    exact⟨(a1.au G5).bV g6 tV (by decide) (by decide) (by decide) hg,a2,a3,a4⟩
  ·rw[ji (by omega),if_neg (by omega)]
   exact hold j (by omega)
  ·rw[ji (by omega),if_neg (by omega)]at hl
   rw[ji (by omega)]at hl';split at hl'
   ·cases hl'
    intro he;have a1:=(hnew j l (by omega) hl).1.q.lt hgg;have a2:=Q5.q.new gg he;omega
   ·exact hsep j k l l' hjk (by omega) hl hl' gg hgg
 ·have d1:i=ps.length:=by have:=Ptx d;omega
  rw[<-hlen]at d1;obtain⟨Sd,Si,rfl⟩:=af LT.own;obtain⟨Ma',Mc',rfl⟩:=af LM.own;obtain⟨WQ,WS,rfl⟩:=af LD.own;obtain⟨Ia',Ic',rfl⟩:=af LI.own;refine⟨_,_,m1,iJ s (.slice Sd s.T.length Si) (.slice Ma' s.M.length Mc') (.slice WQ s.D.length WS) (.slice Oa ps.length Oc) (.slice Ia' s.I.length Ic'),rfl,rfl,_,_,_,m2,rfl,rfl,λw5 m5 g5=>?_⟩;refine⟨_,_,m5,iJ s (.slice Sd s.T.length Si) (.slice Ma' s.M.length Mc') (.slice WQ s.D.length WS) (.slice Oa ps.length Oc) (.slice Ia' s.I.length Ic'),rfl,rfl,_,_,_,_,_,ls,rfl,?_⟩;have S:SA w wk s (.slice Sd s.T.length Si) (.slice Ma' s.M.length Mc') (.slice WQ s.D.length WS) (.slice Oa ps.length Oc) (.slice Ia' s.I.length Ic') ls:=by
   have hal:∀l∈ls,∃j,j<i/\ls[j]? = some l:=λl hl=>by
    obtain⟨j,hj⟩:=getElem?_of_mem hl;exact⟨j,by have:=(List.getElem?_eq_some_iff.1 hj).1;omega,hj⟩
   refine⟨LT,LM,LD,by rw[<-hlen];exact LO,LI,λl hl=>?_,?_,λl hl=>?_,λl hl=>?_,λj k l l' hjk hl hl'=>?_⟩
   ·obtain⟨j,hj,hl⟩:=hal l hl
    exact(hnew j l hj hl).1
   ·refine ext_getElem? λj=>?_
    rw[getElem?_map];cases hj:ls[j]? with
    |none =>
     have:=List.getElem?_eq_none_iff.1 hj;rw[getElem?_eq_none (by omega)];rfl
    |some l=>rw[(hnew j l (by have:=(List.getElem?_eq_some_iff.1 hj).1;omega) hj).2.1];rfl
   ·obtain⟨j,hj,hl⟩:=hal l hl
    exact(hnew j l hj hl).2.2.1
   ·obtain⟨j,hj,hl⟩:=hal l hl
    exact(hnew j l hj hl).2.2.2
   ·have a1:=(List.getElem?_eq_some_iff.1 hl).1
    have a2:=(List.getElem?_eq_some_iff.1 hl').1;intro gg hgg he;rcases Nat.lt_or_gt_of_ne hjk with q|q
    ·exact hsep j k l l' q (by omega) hl hl' gg hgg he
    ·exact hsep k j l' l q (by omega) hl' hl gg he hgg
  exact S.bV g5 m2 (by decide) (by decide) (by decide) (by decide) (by decide) (by decide) n2
theorem WT(a:Int)(w:World):ag Tryz.prog 174 #[.int .u64 a] w (λv w'=>v=.bool false/\w'=w):=by
 refine ah Tryz.func174 rfl rfl ?_;exact⟨congrArg Value.bool (by simp),rfl⟩
theorem KO(a b:Int)(w:World):ag Tryz.prog 137 #[.int .u64 a,.int .u64 b] w (λv w'=>v=.int .i64 (gG a b)/\w'=w):=by
 refine ah Tryz.func137 rfl rfl ?_;refine⟨_,WT a w,?_⟩;rintro _ w ⟨rfl,rfl⟩;refine⟨_,WT b w,?_⟩;rintro _ w ⟨rfl,rfl⟩;unfold gG;refine aj (λc=>?_) (λc=>?_)
 ·exact⟨congrArg (Value.int .i64) (if_pos (Ptq c)).symm,rfl⟩
 ·refine aj (λd=>?_) (λd=>?_)
  ·exact⟨congrArg (Value.int .i64) (by rw[if_neg (Ptx c),if_pos (Ptq d)]),rfl⟩
  ·exact⟨congrArg (Value.int .i64) (by rw[if_neg (Ptx c),if_neg (Ptx d)]),rfl⟩
theorem aaX(a:Int)(w:World):ag Tryz.prog 175 #[.int .u8 a] w (λv w'=>v=.bool false/\w'=w):=by
 refine ah Tryz.func175 rfl rfl ?_;exact⟨congrArg Value.bool (by simp),rfl⟩
theorem Yw(a b:Int)(w:World):ag Tryz.prog 138 #[.int .u8 a,.int .u8 b] w (λv w'=>v=.int .i64 (gG a b)/\w'=w):=by
 refine ah Tryz.func138 rfl rfl ?_;refine⟨_,aaX a w,?_⟩;rintro _ w ⟨rfl,rfl⟩;refine⟨_,aaX b w,?_⟩;rintro _ w ⟨rfl,rfl⟩;unfold gG;refine aj (λc=>?_) (λc=>?_)
 ·exact⟨congrArg (Value.int .i64) (if_pos (Ptq c)).symm,rfl⟩
 ·refine aj (λd=>?_) (λd=>?_)
  ·exact⟨congrArg (Value.int .i64) (by rw[if_neg (Ptx c),if_pos (Ptq d)]),rfl⟩
  ·exact⟨congrArg (Value.int .i64) (by rw[if_neg (Ptx c),if_neg (Ptx d)]),rfl⟩
theorem acz{w:World}{b:Nat}{x y:Int}(hb:w.heap[b]? = some (.cells #[.int .i64 x,.int .i64 y] 3)):ag Tryz.prog 136 #[.slice (Pty b) 2 2] w (λv w'=>v=.int .i64 (NC x y)/\w'=w):=by
 refine ah Tryz.func136 rfl rfl ?_;unfold NC;refine⟨λn s wk=>wk=w/\((n=2/\s=[(3,.int .i64 0),(6,.slice (Pty b) 2 2),(7,.int .i64 2),(8,.int .i64 0)])\/(n=1/\s=[(3,.int .i64 0),(6,.slice (Pty b) 2 2),(7,.int .i64 2),(8,.int .i64 1)]/\x=0)\/(n=0/\s=[(3,.int .i64 0),(6,.slice (Pty b) 2 2),(7,.int .i64 2),(8,.int .i64 2)]/\x=0/\y=0)),⟨_,_,⟨rfl,.inl ⟨rfl,rfl⟩⟩,rfl,rfl,rfl,rfl,trivial⟩,?_⟩;rintro n s wk ⟨rfl,⟨rfl,rfl⟩|⟨rfl,rfl,hx⟩|⟨rfl,rfl,hx,hy⟩⟩
 ·refine⟨⟨by decide,by decide⟩,_,_,hb,_,rfl,aj (λc=>?_) (λc=>?_)⟩
  ·exact⟨congrArg (Value.int .i64) (if_neg (by simpa using c)).symm,rfl⟩
  ·exact⟨⟨by decide,by decide⟩,_,_,⟨rfl,.inr (.inl ⟨rfl,rfl,by simpa using c⟩)⟩,⟨rfl,rfl,rfl,rfl,trivial⟩,by decide⟩
 ·refine⟨⟨by decide,by decide⟩,_,_,hb,_,rfl,aj (λc=>?_) (λc=>?_)⟩
  ·exact⟨congrArg (Value.int .i64) (if_pos hx).symm,rfl⟩
  ·exact⟨⟨by decide,by decide⟩,_,_,⟨rfl,.inr (.inr ⟨rfl,rfl,hx,by simpa using c⟩)⟩,⟨rfl,rfl,rfl,rfl,trivial⟩,by decide⟩
 ·exact⟨congrArg (Value.int .i64) (by rw[if_pos hx,hy]),rfl⟩
theorem NN(w:World)(x:Row)(key:Int):ag Tryz.prog 205 #[.agg x.cells.toArray,.int .u64 key] w (λv w'=>v=.int .i64 (gG x.key key)/\GB none w w'):=by
 refine ah Tryz.func205 rfl rfl ?_;refine λw1 b1 m1 g1 l1=>⟨_,_,m1,_,rfl,_,KO _ _ _,?_⟩
 rintro _ w1 ⟨rfl,rfl⟩;exact⟨rfl,g1⟩
theorem NP(w:World)(x y:aA):ag Tryz.prog 135 #[.agg x.cells.toArray,.agg y.cells.toArray] w (λv w'=>v=.int .i64 (jv x y)/\GB none w w'):=by
 refine ah Tryz.func135 rfl rfl ?_;refine λw1 b1 m1 g1 l1 w2 b2 m2 g2 l2=>?_
 have m1:=g2.get m1 nofun;have G:=g1.trans g2;refine⟨by kernel_rfl,?_⟩;refine⟨_,_,m1,_,rfl,_,_,m2,_,rfl,_,_,m1,_,rfl,_,_,m2,_,rfl,_,KO _ _ _,?_⟩;rintro _ w2 ⟨rfl,rfl⟩;refine⟨⟨m2,m1,m2,m1,trivial⟩,_,Yw _ _ _,?_⟩;rintro _ w2 ⟨rfl,rfl⟩;refine λw3 b3 m3 g3 l3=>?_
 refine⟨_,acz m3,?_⟩;rintro _ w3 ⟨rfl,rfl⟩;exact⟨rfl,G.trans g3⟩
theorem aaY{w:World}{v:Value}{l:List Row}(h:Fz w 128 2 v l.length (l.map Row.cells).flatten)(hl:l.length<=1000000){key:Int}(hm:Bw (λx:Row=>gG x.key key) l):ag Tryz.prog 204 #[v,.int .u64 key,.func (.func 205) #[] #[]] w (λx w'=>x=.tuple #[.int .i64 (dU (λx:Row=>gG x.key key) l:Nat),.bool (nW (λx:Row=>gG x.key key) l)]/\GB none w w'):=by
 obtain⟨a,c,rfl,hc,hlen,hv⟩:=h;obtain⟨hp1,hp2⟩:=uu _ l hm;have KP:=Cv (λx:Row=>gG x.key key) l;obtain⟨p,hp⟩:∃p,p=dU (λx:Row=>gG x.key key) l:=⟨_,rfl⟩;rw[<-hp]at hp1 hp2 KP |-;refine ah Tryz.func204 rfl rfl ?_;refine⟨λn s wk=>∃lo hi:Nat,n=hi - lo/\lo<=p/\p<=hi/\hi<=l.length/\s=[(0,.slice a l.length c),(1,.int .u64 key),(2,.func (.func 205) #[] #[]),(8,.int .i64 l.length),(9,.int .i64 lo),(10,.int .i64 hi)]/\GB none w wk,⟨_,_,⟨0,l.length,rfl,Nat.zero_le _,KP,Nat.le_refl _,rfl,GB.refl _ _⟩,rfl,rfl,rfl,rfl,rfl,rfl,trivial⟩,?_⟩;rintro n s wk ⟨lo,hi,rfl,h1,h2,h3,rfl,P⟩;refine aj (λd=>?_) (λd=>?_)
 ·have d1:lo<hi:=by have:=Ptq d;omega
  rcases hv with⟨_,hz⟩|⟨b,off,cs,rfl,hb,hcut⟩
  ·omega
  obtain⟨mid,hmid⟩:∃mid:Nat,mid=(lo+hi) / 2:=⟨_,rfl⟩;have mF:((lo:Int)+hi).fdiv (2 ^ min (Int.toNat 1) IntKind.u64.bits)=(mid:Int):=by
   rw[show(2:Int) ^ min (Int.toNat 1) IntKind.u64.bits=2 from rfl,Int.fdiv_eq_ediv_of_nonneg _ (by decide)];omega
  obtain⟨x,hx⟩:∃x,l[mid]? = some x:=⟨l[mid]'(by omega),by simp[show mid<l.length by omega]⟩;have hbk:=P.get hb nofun;refine⟨by omega,.inl ⟨by omega,⟨by decide,.inl ⟨⟨by rw[mF];omega,by rw[mF];omega⟩,?_⟩⟩⟩⟩;refine⟨⟨by rw[mF];omega,by rw[mF];omega⟩,_,_,hbk,x.cells,?_,rfl,_,NN _ x key,?_⟩
  ·rw[mF];exact lG (f:=Row.cells) (λ_=>rfl) hx hcut
  rintro _ w2 ⟨rfl,g2⟩;refine aj (λe=>?_) (λe=>?_)
  ·have e1:gG x.key key<0:=Ptq e
   have hlt:mid<p:=Classical.byContradiction λz=>by have:=hp2 mid x (by omega) hx;omega
   refine⟨⟨by rw[mF];omega,by rw[mF];omega⟩,_,_,⟨mid+1,hi,rfl,by omega,h2,h3,rfl,P.trans g2⟩,⟨rfl,rfl,rfl,rfl,?_,rfl,trivial⟩,by omega⟩;show some (Value.int .i64 (((lo:Int)+hi).fdiv (2 ^ min (Int.toNat 1) IntKind.u64.bits)+1))=_;rw[mF];rfl
  ·have e1:¬gG x.key key<0:=Ptx e
   have hle:p<=mid:=Classical.byContradiction λz=>e1 (hp1 mid x (by omega) hx)
   refine⟨_,_,⟨lo,mid,rfl,h1,hle,by omega,rfl,P.trans g2⟩,⟨rfl,rfl,rfl,rfl,rfl,?_,trivial⟩,by omega⟩;show some (Value.int .i64 (((lo:Int)+hi).fdiv (2 ^ min (Int.toNat 1) IntKind.u64.bits)))=_;rw[mF]
 ·have d1:lo=hi:=by have:=Ptx d;omega
  obtain rfl:lo=p:=by omega
  refine aj (λe=>?_) (λe=>?_)
  ·have e1:lo<l.length:=by have:=Ptq (b11 e);omega
   rcases hv with⟨_,hz⟩|⟨b,off,cs,rfl,hb,hcut⟩
   ·omega
   obtain⟨x,hx⟩:∃x,l[lo]? = some x:=⟨l[lo],by simp[e1]⟩;have hh:nW (λx:Row=>gG x.key key) l=(gG x.key key == 0):=by simp only[nW,<-hp,hx]
   rw[hh];refine⟨by omega,_,_,P.get hb nofun,x.cells,lG (f:=Row.cells) (λ_=>rfl) hx hcut,rfl,_,NN _ x key,?_⟩;rintro _ w2 ⟨rfl,g2⟩;exact⟨rfl,P.trans g2⟩
  ·have e1:¬lo<l.length:=by have:=Ptx (b10 e);omega
   have hh:nW (λx:Row=>gG x.key key) l=false:=by simp only[nW,<-hp,getElem?_eq_none (Nat.le_of_not_lt e1)]
   rw[hh];exact⟨rfl,P⟩
theorem aaZ{w:World}{v:Value}{l:List aA}(h:Fz w 57 7 v l.length (l.map aA.cells).flatten)(hl:l.length<=1000000){q:aA}(hm:Bw (λx:aA=>jv x q) l):ag Tryz.prog 134 #[v,.agg q.cells.toArray,.func (.func 135) #[] #[]] w (λx w'=>x=.tuple #[.int .i64 (dU (λx:aA=>jv x q) l:Nat),.bool (nW (λx:aA=>jv x q) l)]/\GB none w w'):=by
 obtain⟨a,c,rfl,hc,hlen,hv⟩:=h;obtain⟨hp1,hp2⟩:=uu _ l hm;have KP:=Cv (λx:aA=>jv x q) l;obtain⟨p,hp⟩:∃p,p=dU (λx:aA=>jv x q) l:=⟨_,rfl⟩;rw[<-hp]at hp1 hp2 KP |-;refine ah Tryz.func134 rfl rfl ?_;refine λw1 b1 m1 g1 l1=>?_
 refine⟨λn s wk=>∃lo hi:Nat,n=hi - lo/\lo<=p/\p<=hi/\hi<=l.length/\s=[(0,.slice a l.length c),(2,.func (.func 135) #[] #[]),(4,Ptt b1),(8,.int .i64 l.length),(9,.int .i64 lo),(10,.int .i64 hi)]/\GB none w1 wk,⟨_,_,⟨0,l.length,rfl,Nat.zero_le _,KP,Nat.le_refl _,rfl,GB.refl _ _⟩,rfl,rfl,rfl,rfl,rfl,rfl,trivial⟩,?_⟩;rintro n s wk ⟨lo,hi,rfl,h1,h2,h3,rfl,P⟩;refine aj (λd=>?_) (λd=>?_)
 ·have d1:lo<hi:=by have:=Ptq d;omega
  rcases hv with⟨_,hz⟩|⟨b,off,cs,rfl,hb,hcut⟩
  ·omega
  obtain⟨mid,hmid⟩:∃mid:Nat,mid=(lo+hi) / 2:=⟨_,rfl⟩;have mF:((lo:Int)+hi).fdiv (2 ^ min (Int.toNat 1) IntKind.u64.bits)=(mid:Int):=by
   rw[show(2:Int) ^ min (Int.toNat 1) IntKind.u64.bits=2 from rfl,Int.fdiv_eq_ediv_of_nonneg _ (by decide)];omega
  obtain⟨x,hx⟩:∃x,l[mid]? = some x:=⟨l[mid]'(by omega),by simp[show mid<l.length by omega]⟩;have hbk:=P.get (g1.get hb nofun) nofun;refine⟨by omega,.inl ⟨by omega,⟨by decide,.inl ⟨⟨by rw[mF];omega,by rw[mF];omega⟩,?_⟩⟩⟩⟩;refine⟨by kernel_rfl,⟨by rw[mF];omega,by rw[mF];omega⟩,_,_,hbk,x.cells,?_,rfl,_,_,P.get m1 nofun,q.cells,rfl,rfl,_,NP _ x q,?_⟩
  ·rw[mF];exact lG (f:=aA.cells) (λ_=>rfl) hx hcut
  rintro _ w2 ⟨rfl,g2⟩;refine aj (λe=>?_) (λe=>?_)
  ·have e1:jv x q<0:=Ptq e
   have hlt:mid<p:=Classical.byContradiction λz=>by have:=hp2 mid x (by omega) hx;omega
   refine⟨⟨by rw[mF];omega,by rw[mF];omega⟩,_,_,⟨mid+1,hi,rfl,by omega,h2,h3,rfl,P.trans g2⟩,⟨rfl,rfl,rfl,rfl,?_,rfl,trivial⟩,by omega⟩;show some (Value.int .i64 (((lo:Int)+hi).fdiv (2 ^ min (Int.toNat 1) IntKind.u64.bits)+1))=_;rw[mF];rfl
  ·have e1:¬jv x q<0:=Ptx e
   have hle:p<=mid:=Classical.byContradiction λz=>e1 (hp1 mid x (by omega) hx)
   refine⟨_,_,⟨lo,mid,rfl,h1,hle,by omega,rfl,P.trans g2⟩,⟨rfl,rfl,rfl,rfl,rfl,?_,trivial⟩,by omega⟩;show some (Value.int .i64 (((lo:Int)+hi).fdiv (2 ^ min (Int.toNat 1) IntKind.u64.bits)))=_;rw[mF]
 ·have d1:lo=hi:=by have:=Ptx d;omega
  obtain rfl:lo=p:=by omega
  refine⟨by kernel_rfl,aj (λe=>?_) (λe=>?_)⟩
  ·have e1:lo<l.length:=by have:=Ptq (b11 e);omega
   rcases hv with⟨_,hz⟩|⟨b,off,cs,rfl,hb,hcut⟩
   ·omega
   obtain⟨x,hx⟩:∃x,l[lo]? = some x:=⟨l[lo],by simp[e1]⟩;have hh:nW (λx:aA=>jv x q) l=(jv x q == 0):=by simp only[nW,<-hp,hx]
   rw[hh];refine⟨by omega,_,_,P.get (g1.get hb nofun) nofun,x.cells,lG (f:=aA.cells) (λ_=>rfl) hx hcut,rfl,_,_,P.get m1 nofun,q.cells,rfl,rfl,_,NP _ x q,?_⟩;rintro _ w2 ⟨rfl,g2⟩;exact⟨rfl,(g1.trans P).trans g2⟩
  ·have e1:¬lo<l.length:=by have:=Ptx (b10 e);omega
   have hh:nW (λx:aA=>jv x q) l=false:=by simp only[nW,<-hp,getElem?_eq_none (Nat.le_of_not_lt e1)]
   rw[hh];exact⟨rfl,g1.trans P⟩
section
variable{w:World}{b:Nat}{s:St}{T M D O I:Value}
theorem KQ(hm:w.heap[b]? = some (.cells (iJ s T M D O I).toArray 31))(hT:Fz w 128 2 T s.T.length (s.T.map Row.cells).flatten)(hl:s.T.length<=1000000)(hs:gU s.T)(key:Int):ag Tryz.prog 176 #[Ptt b,.int .u64 key] w (λx w'=>x=.tuple #[.int .i64 (uw s.T key:Nat),.bool (lN s.T key)]/\GB none w w'):=by
 refine ah Tryz.func176 rfl rfl ?_;refine⟨_,_,hm,_,rfl,_,aaY hT hl (WA hs key),?_⟩;rintro _ w1 ⟨rfl,g1⟩;exact⟨rfl,g1⟩
theorem Sj(hm:w.heap[b]? = some (.cells (iJ s T M D O I).toArray 31))(hD:Fz w 57 7 D s.D.length (s.D.map aA.cells).flatten)(hl:s.D.length<=1000000)(hs:iU s.D)(q:aA):ag Tryz.prog 84 #[Ptt b,.agg q.cells.toArray] w (λx w'=>x=.tuple #[.int .i64 (Af s.D q:Nat),.bool (KF s.D q)]/\GB none w w'):=by
 refine ah Tryz.func84 rfl rfl ?_;refine λw1 b1 m1 g1 l1=>?_
 refine⟨by kernel_rfl,_,_,g1.get hm nofun,_,rfl,_,_,m1,q.cells,rfl,rfl,_,aaZ (hD.kz g1.kz (by decide)) hl (WB hs q),?_⟩;rintro _ w2 ⟨rfl,g2⟩;exact⟨rfl,g1.trans g2⟩
theorem yH{α:Type}{f:α->Int}{l:List α}(h:nW f l=true):∃x,l[dU f l]? = some x/\f x=0:=by
 unfold nW at h;cases hx:l[dU f l]? with
 |none=>rw[hx]at h;cases h
 |some x=>rw[hx]at h;exact⟨x,rfl,by simpa using h⟩
theorem aa0(hm:w.heap[b]? = some (.cells (iJ s T M D O I).toArray 31))(hT:Fz w 128 2 T s.T.length (s.T.map Row.cells).flatten)(hl:s.T.length<=1000000)(hs:gU s.T)(key:Int):ag Tryz.prog 139 #[Ptt b,.int .u64 key] w (λx w'=>x=.tuple #[.int .u64 (sU s.T key),.bool (lN s.T key)]/\GB none w w'):=by
 refine ah Tryz.func139 rfl rfl ?_;refine⟨_,KQ hm hT hl hs key,?_⟩;rintro _ w1 ⟨rfl,g1⟩;unfold sU;obtain⟨a,ha⟩:∃a,lN s.T key=a:=⟨_,rfl⟩;rw[ha];cases a
 ·exact⟨rfl,g1⟩
 ·obtain⟨x,hx,_⟩:=yH ha
  have hi:uw s.T key<s.T.length:=(List.getElem?_eq_some_iff.1 hx).1;obtain⟨ta,tc,rfl,h1,h2,h3⟩:=hT;rcases h3 with⟨_,hz⟩|⟨g,off,cs,rfl,hb,hcut⟩
  ·omega
  have hc:=lG (f:=Row.cells) (λ_=>rfl) hx hcut;refine⟨_,_,g1.get hm nofun,_,rfl,by omega,_,_,g1.get hb nofun,.int .u64 x.val,iM hc rfl (by decide),?_⟩;exact⟨by rw[show s.T[uw s.T key]? = some x from hx];rfl,g1⟩
theorem ML(hm:w.heap[b]? = some (.cells (iJ s T M D O I).toArray 31))(hM:Ag w M s.M)(hok:jY s.M=true)(BC:Can s.M){lo hi:Int}(h0:0<=lo):ag Tryz.prog 83 #[Ptt b,.int .u64 lo,.int .u64 hi] w (λx w'=>x=.tuple #[.int .u8 (KG s.M s.g lo hi),.bool (Eg s.M s.g lo hi)]/\GB none w w'):=by
 refine ah Tryz.func83 rfl rfl ?_;have KI:=BB hok;refine⟨_,_,hm,_,rfl,_,GN hM hok BC h0,?_⟩;rintro _ w1 ⟨rfl,g1⟩;unfold KG Eg;refine⟨_,_,g1.get hm nofun,_,rfl,aj (λc=>?_) (λc=>?_)⟩
 ·have c1:own 0 s.M lo≠s.g:=by simpa using c
  rw[if_pos c1,if_pos c1];exact⟨rfl,g1⟩
 ·have c1:¬own 0 s.M lo≠s.g:=by simpa using c
  rw[if_neg c1,if_neg c1];have hM1:Ag w1 M s.M:=hM.kz g1.kz (by decide);obtain⟨a,c,rfl,hc,hl,hv⟩:=hM1;refine⟨_,_,g1.get hm nofun,_,rfl,?_⟩;refine⟨λn t wk=>∃i:Nat,n=s.M.length - i/\i<=s.M.length/\t=[(1,.int .u64 lo),(2,.int .u64 hi),(31,.slice a s.M.length c),(32,.int .i64 s.M.length),(33,.int .i64 i)]/\s.M.find? (Bz lo hi)=(s.M.drop i).find? (Bz lo hi)/\GB none w1 wk,⟨_,_,⟨0,rfl,Nat.zero_le _,rfl,rfl,GB.refl _ _⟩,rfl,rfl,rfl,rfl,rfl,trivial⟩,?_⟩;rintro n t wk ⟨i,rfl,hi',rfl,hf,P⟩;refine aj (λd=>?_) (λd=>?_)
  ·have d1:i<s.M.length:=by have:=Ptq d;omega
   rcases hv with⟨_,hz⟩|⟨b,off,cs,rfl,hb,hcut⟩
   ·omega
   obtain⟨y,hy⟩:∃y,s.M[i]? = some y:=⟨s.M[i],by simp[d1]⟩;rw[drop_eq_getElem_cons d1,show s.M[i]=y from(List.getElem?_eq_some_iff.1 hy).2,find?_cons]at hf;refine⟨by omega,_,_,P.get hb nofun,y.cells,lG (f:=Pc.cells) (λ_=>rfl) hy hcut,rfl,λw2 b2 m2 g2 l2=>⟨_,_,_,m2,rfl,rfl,λw3 m3 g3=>?_⟩⟩;have G:=P.trans (g2.new g3 l2);refine⟨_,_,m3,_,rfl,aj (λe=>?_) (λe=>?_)⟩
   ·have e1:=Ptq (b11 e)
    refine⟨_,_,m3,_,rfl,aj (λq=>?_) (λq=>?_)⟩
    ·have q1:=Ptq q
     have z:Bz lo hi y=true:=by simp[Bz];omega
     rw[z]at hf;rw[hf];exact⟨_,_,m3,_,rfl,rfl,g1.trans G⟩
    ·have q1:=Ptx q
     have z:Bz lo hi y=false:=by simp[Bz];omega
     exact⟨by omega,_,_,⟨i+1,rfl,by omega,rfl,by rw[hf,z],G⟩,⟨rfl,rfl,rfl,rfl,rfl,trivial⟩,by omega⟩
   ·have e1:=Ptx (b10 e)
    have z:Bz lo hi y=false:=by simp[Bz];omega
    exact⟨by omega,_,_,⟨i+1,rfl,by omega,rfl,by rw[hf,z],G⟩,⟨rfl,rfl,rfl,rfl,rfl,trivial⟩,by omega⟩
  ·have d1:i=s.M.length:=by have:=Ptx d;omega
   rw[d1,drop_length]at hf;rw[hf];exact⟨rfl,g1.trans P⟩
theorem Vf(w:World)(hM:Ag w M s.M)(hok:jY s.M=true)(BC:Can s.M)(hO:∃a c,O=.slice a s.O.length c)(hI:∃a c,I=.slice a s.I.length c)(hT:∃a n c,T=.slice a n c)(hD:∃a n c,D=.slice a n c)(hg:s.g<s.n)(hn:s.n<=4)(hn0:0<=s.n)(hol:(s.O.length:Int)=s.n)(hil:(s.I.length:Int)=s.n):ag Tryz.prog 43 #[.agg (iJ s T M D O I).toArray] w (λx w'=>x=.bool true/\GB none w w'):=by
 obtain⟨oa,oc,rfl⟩:=hO;obtain⟨ia,ic,rfl⟩:=hI;obtain⟨ta,tn,tc,rfl⟩:=hT;obtain⟨da,dn,dc,rfl⟩:=hD;have hM0:=hM;obtain⟨ma,mc,rfl,_⟩:=hM;refine ah Tryz.func43 rfl rfl ?_;refine λw1 b1 m1 g1 l1=>⟨_,_,m1,_,rfl,_,GN (hM0.kz g1.kz (by decide)) hok BC (Int.le_refl 0),?_⟩
 rintro _ w2 ⟨rfl,g2⟩;have m1:=g2.get m1 nofun;have G:=g1.trans g2;refine⟨_,_,m1,_,rfl,.inl ⟨by omega,?_⟩⟩;refine⟨_,_,m1,_,rfl,_,_,m1,_,rfl,aj (λe=>?_) (λe=>?_)⟩
 ·refine⟨_,_,m1,_,rfl,aj (λe=>?_) (λe=>?_)⟩
  ·refine⟨_,_,m1,_,rfl,?_⟩
   exact⟨congrArg Value.bool (by simpa using hil),G⟩
  ·exact absurd hol (by have:=b10 e;simpa using this)
 ·have:=Ptx (b10 e)
  omega
end
end
