/- A shard copied (4): fresh. -/
import Derived.Test.YtignemioillaiabGreatG34
namespace Go.Proofs.YtignemioillaiabGreat
set_option maxHeartbeats 8000000
set_option maxRecDepth 100000
section
open Go Go.Conc
theorem QN.base {wb w0 w:World} {q:Value} {rs:List Ra} (h:QN w0 w q rs) (g:GB none wb w0):QN wb w q rs:=⟨h.q.base g,λ x hx=>⟨(h.r x hx).r.base g,(h.r x hx).d.base g⟩⟩
theorem LN.lt {e size n:Nat} {w0 w:World} {v:Value} {xs:List Value} (h:LN e size w0 w v n xs) {g:Nat} (hg:v.ownBlock=some g):g<w.heap.size:=by
 obtain ⟨c,hc⟩:=aD h.own hg;exact ag hc
theorem TE {w:World} {s:St} {vT vM vD vO vI:Value} (h:jZ w vT vM vD vO vI s) (hs:Zc s):af Tryz.prog 59 #[.agg (ik s vT vM vD vO vI).toArray] w (λ v w'=>∃ T M D O I ls,v=.agg (ik s T M D O I).toArray/\SA w w' s T M D O I ls):=by
 obtain ⟨ps,hpl,Vd,hpq⟩:=h.la;have hT:=h.T;have hM:=h.M;have hD:=h.D;have hI:=h.I;obtain ⟨ta,tc,rfl,hT'⟩:=h.T;obtain ⟨ma,mc,rfl,hM'⟩:=h.M;obtain ⟨da,dc,rfl,hD'⟩:=h.D;obtain ⟨ia,ic,rfl,hI'⟩:=h.I;obtain ⟨oa,oc,rfl,Zd⟩:=Vd;have Vd:Fz w 62 2 (.slice oa ps.length oc) ps.length (ps.map lN).flatten:=⟨oa,oc,rfl,Zd⟩;refine aj ah mixed Tryz.func59 rfl rfl ?_;refine λ w1 b1 m1 g1 l1 w2 b2 m2 g2 l2=>?_
 have m1:=g2.get m1 nofun;have G:=g1.trans g2;have G0:=G;have n2:w.heap.size<=b2:=Nat.le_trans g1.size l2;have ne:b1≠b2:=by have:=ag m1;have:=g2.size;intro e;subst e;rename_i m1o _;have:=ag m1o;omega
 refine ⟨_,_,m1,_,rfl,_,GD (hT.kz G.kz (by decide)) (jd (λ _=>rfl) _) (Nat.le_trans hs.t (by decide)),?_⟩;intro T w3 LT;obtain ⟨Ta,Tc,rfl⟩:=ae LT.own;replace m1:=LT.gb.get m1 nofun;replace m2:=LT.gb.get m2 nofun;refine ⟨_,_,_,m1,rfl,rfl,λ w4 m3 g3=>?_⟩;replace m2:=g3.get m2 λ e=>ne (Option.some.inj e).symm
 replace G:=(G.trans LT.gb).new g3 l1;replace LT:=(LT.base G0).bS g3 m1 (by decide) l1;replace m1:=m3;have G0:=G;refine ⟨_,_,m1,_,rfl,_,TA (hM.kz G.kz (by decide)) (jd (λ _=>rfl) _) (Nat.le_trans hs.m (by decide)),?_⟩;intro M w3 LM;obtain ⟨Ma,Mc,rfl⟩:=ae LM.own;replace m1:=LM.gb.get m1 nofun;replace m2:=LM.gb.get m2 nofun;replace LT:=LT.ax LM.gb;refine ⟨_,_,_,m1,rfl,rfl,λ w4 m3 g3=>?_⟩;replace LT:=LT.bS g3 m1 (by decide) l1;replace m2:=g3.get m2 λ e=>ne (Option.some.inj e).symm
 replace G:=(G.trans LM.gb).new g3 l1;replace LM:=(LM.base G0).bS g3 m1 (by decide) l1;replace m1:=m3;have G0:=G;refine ⟨_,_,m1,_,rfl,_,GH (hD.kz G.kz (by decide)) (jd (λ _=>rfl) _) (Nat.le_trans hs.d (by decide)),?_⟩;intro D w3 LD;obtain ⟨Da,Dc,rfl⟩:=ae LD.own;replace m1:=LD.gb.get m1 nofun;replace m2:=LD.gb.get m2 nofun;replace LT:=LT.ax LD.gb;replace LM:=LM.ax LD.gb;refine ⟨_,_,_,m1,rfl,rfl,λ w4 m3 g3=>?_⟩;replace LT:=LT.bS g3 m1 (by decide) l1;replace LM:=LM.bS g3 m1 (by decide) l1;replace m2:=g3.get m2 λ e=>ne (Option.some.inj e).symm
 replace G:=(G.trans LD.gb).new g3 l1;replace LD:=(LD.base G0).bS g3 m1 (by decide) l1;replace m1:=m3;have G0:=G;refine ⟨_,_,m1,_,rfl,_,Ql (hI.kz G.kz (by decide)) (by simp [List.all_map,one]) (Nat.le_trans hs.i (by decide)),?_⟩;intro I w3 LI;obtain ⟨Ia,Ic,rfl⟩:=ae LI.own;replace m1:=LI.gb.get m1 nofun;replace m2:=LI.gb.get m2 nofun;replace LT:=LT.ax LI.gb;replace LM:=LM.ax LI.gb;replace LD:=LD.ax LI.gb;refine ⟨_,_,_,m1,rfl,rfl,λ w4 m3 g3=>?_⟩;replace LT:=LT.bS g3 m1 (by decide) l1;replace LM:=LM.bS g3 m1 (by decide) l1;replace LD:=LD.bS g3 m1 (by decide) l1;replace m2:=g3.get m2 λ e=>ne (Option.some.inj e).symm
 replace G:=(G.trans LI.gb).new g3 l1;replace LI:=(LI.base G0).bS g3 m1 (by decide) l1;replace m1:=m3;have G0:=G;refine ⟨_,_,m1,_,rfl,_,Og (Vd.kz G.kz (by decide)) (WN λ l hl=>by obtain ⟨j,hj⟩:=List.getElem?_of_mem hl;obtain ⟨o,_,_,q⟩:=hpq j l hj;exact ⟨_,q⟩) (by have:=hs.o;omega),?_⟩;intro O w3 LO;obtain ⟨Oa,Oc,rfl⟩:=ae LO.own;replace m1:=LO.gb.get m1 nofun;replace m2:=LO.gb.get m2 nofun;replace LT:=LT.ax LO.gb;replace LM:=LM.ax LO.gb;replace LD:=LD.ax LO.gb;replace LI:=LI.ax LO.gb;refine ⟨_,_,_,m1,rfl,rfl,λ w4 m3 g3=>?_⟩;replace LT:=LT.bS g3 m1 (by decide) l1;replace LM:=LM.bS g3 m1 (by decide) l1;replace LD:=LD.bS g3 m1 (by decide) l1;replace LI:=LI.bS g3 m1 (by decide) l1;replace m2:=g3.get m2 λ e=>ne (Option.some.inj e).symm
 replace G:=(G.trans LO.gb).new g3 l1;replace LO:=(LO.base G0).bS g3 m1 (by decide) l1;replace m1:=m3;have G0:=G;replace m1:w4.heap[b1]? = some (.cells (ik s (.slice Ta s.T.length Tc) (.slice Ma s.M.length Mc) (.slice Da s.D.length Dc) (.slice Oa ps.length Oc) (.slice Ia s.I.length Ic)).toArray 55):=m1;have afC:=hs.o;clear hT' hM' hD' hI' Zd hT hM hD hI Vd m3 g3;generalize Value.slice Ta s.T.length Tc=T at *;generalize Value.slice Ma s.M.length Mc=M at *;generalize Value.slice Da s.D.length Dc=D at *;generalize Value.slice Ia s.I.length Ic=I at *;refine ⟨_,_,m1,_,rfl,?_⟩;refine ⟨λ n t wk=>∃ (i:Nat) (ls:List La),n=ps.length - i/\i<=ps.length/\t=[(1,Ptt b1),(2,Ptt b2),(26,.slice Oa ps.length Oc),(27,.int .i64 ps.length),(28,.int .i64 i)]/\wk.heap[b1]? = some (.cells (ik s T M D (.slice Oa ps.length Oc) I).toArray 55)/\wk.heap[b2]? = some (.cells (zc ah.T 55).toArray 55)/\LN 139 2 w wk T s.T.length (s.T.map Row.cells).flatten/\PN w wk M s.M/\LN 70 7 w wk D s.D.length (s.D.map az.cells).flatten/\LN 59 1 w wk I s.I.length (s.I.map λ i=>Value.int .u32 i)/\ls.length=ps.length/\LN 62 2 w wk (.slice Oa ls.length Oc) ls.length (ls.map lN).flatten/\(∀ (j:Nat) (l:La),j<i->ls[j]? = some l->QN w wk l.2.1 l.2.2/\s.O[j]? = some (Mo l)/\(∀ x∈l.2.2,∀ g,T.ownBlock=some g->x.2.1.ownBlock≠some g)/\(∀ x∈l.2.2,∀ g,D.ownBlock=some g->x.2.2.ownBlock≠some g))/\(∀ j,i<=j->ls[j]? = ps[j]?)/\(∀ (j k:Nat) (l l':La),j<k->k<i->ls[j]? = some l->ls[k]? = some l'->∀ g,l.2.1.ownBlock=some g->l'.2.1.ownBlock≠some g),⟨_,_,⟨0,ps,rfl,Nat.zero_le _,rfl,m1,m2,LT,LM,LD,LI,rfl,LO,λ _ _ h=>by omega,λ _ _=>rfl,λ _ _ _ _ _ h=>by omega⟩,rfl,rfl,rfl,rfl,rfl,trivial⟩,?_⟩;clear m1 m2 LT LM LD LI LO G;rintro n t wk ⟨i,ls,rfl,hi,rfl,m1,m2,LT,LM,LD,LI,hlen,LO,hnew,hold,hsep⟩;refine au (λ d=>?_) (λ d=>?_)
 ·have d1:i<ps.length:=by have:=of_decide_eq_true d;omega
  obtain ⟨⟨nx,q,rs0⟩,hx⟩:∃ x,ps[i]? = some x:=⟨ps[i],by simp [d1]⟩;have hx':ls[i]? = some (nx,q,rs0):=(hold i (Nat.le_refl _)).trans hx;obtain ⟨o,ho,e1,hq⟩:=hpq i _ hx;obtain ⟨hq1,hq2⟩:=hs.q o (List.mem_of_getElem? ho);have hq0:=hq;obtain ⟨_,_,⟨qa,qc,eq,_⟩,_⟩:=hq0;have eq:q=_:=eq;subst eq;obtain ⟨g,cap,cur,ev,hg,aR,hcut,hsz⟩:=LO.at (f:=lN) (λ _=>rfl) hx';injection ev with ea _ ec;subst ea ec;refine ⟨⟨by omega,by omega⟩,_,_,aR,[.int .u32 nx,.slice qa o.2.length qc],hcut,rfl,λ w2 b3 m3 g3 l3=>⟨_,_,_,m3,rfl,rfl,λ w3 m4 g4=>?_⟩⟩;have G3:=g3.new g4 l3;have kb1:=ag m1;replace m1:=G3.get m1 nofun;replace m2:=G3.get m2 nofun;refine ⟨by kernel_rfl,_,_,m1,_,rfl,_,_,m4,_,rfl,_,Qz (hq.kz (LO.gb.trans G3).kz) hq1 hq2,?_⟩;rintro q' w5 ⟨rs,hrs,Q5⟩;obtain ⟨uV,tJ,rfl⟩:=ae Q5.q.own;have G5:=G3.trans Q5.q.gb;have rJ:=G5.get aR nofun;refine ⟨⟨Q5.q.gb.get m4 nofun,Q5.q.gb.get m1 nofun,trivial⟩,⟨by omega,by omega⟩,_,_,_,rJ,fJ rfl rfl (by rw [Array.length_toList];show 0+(i:Int).toNat*2+1<_;omega),rfl,λ w6 m6 g6=>?_⟩;have L6:=(LO.ax G5).set (f:=lN) (j:=1) (x':=(nx,.slice uV rs.length tJ,rs)) (λ _=>rfl) rJ hx' (by decide) rfl m6 (by show 0+(i:Int).toNat*2+1=_;omega) rfl rfl g6;have Q6:=(Q5.base (LO.gb.trans G3)).bS g6 rJ (by decide) (by decide) (by decide) hg;have R8:=G3.size;have hcore:s.O[i]? = some (Mo (nx,Value.slice uV rs.length tJ,rs)):=by
   rw [ho];show some o=some (nx,rs.map (·.1));rw [hrs,show nx=o.1 from e1]
  refine ⟨⟨by omega,by omega⟩,_,_,⟨i+1,ls.set i (nx,.slice uV rs.length tJ,rs),rfl,by omega,rfl,g6.get (Q5.q.gb.get m1 nofun) λ e=>df (Q5.q.gb.get m1 nofun) rJ (by decide) (Option.some.inj e),g6.get (Q5.q.gb.get m2 nofun) λ e=>df (Q5.q.gb.get m2 nofun) rJ (by decide) (Option.some.inj e),(LT.ax G5).bS g6 rJ (by decide) hg,(LM.ax G5).bS g6 rJ (by decide) hg,(LD.ax G5).bS g6 rJ (by decide) hg,(LI.ax G5).bS g6 rJ (by decide) hg,by rw [List.length_set];exact hlen,L6,λ j l hj hl=>?_,λ j hj=>?_,λ j k l l' hjk hk hl hl' gg hgg=>?_⟩,⟨rfl,rfl,rfl,rfl,rfl,trivial⟩,by omega⟩
  ·rw [iV (by omega)] at hl
   split at hl
   ·rename_i e
    subst e;cases hl
    refine ⟨Q6,hcore,λ x hx gg hgg he=>?_,λ x hx gg hgg he=>?_⟩
    ·have a1:=LT.lt hgg
     have a2:=(Q5.r x hx).r.new gg he;omega
    ·have a1:=LD.lt hgg
     have a2:=(Q5.r x hx).d.new gg he;omega
   ·obtain ⟨a1,a2,a3,a4⟩:=hnew j l (by omega) hl
    exact ⟨(a1.ax G5).bS g6 rJ (by decide) (by decide) (by decide) hg,a2,a3,a4⟩
  ·rw [iV (by omega),if_neg (by omega)]
   exact hold j (by omega)
  ·rw [iV (by omega),if_neg (by omega)] at hl
   rw [iV (by omega)] at hl';split at hl'
   ·cases hl'
    intro he;have a1:=(hnew j l (by omega) hl).1.q.lt hgg;have a2:=Q5.q.new gg he;omega
   ·exact hsep j k l l' hjk (by omega) hl hl' gg hgg
 ·have d1:i=ps.length:=by have:=of_decide_eq_false d;omega
  rw [<- hlen] at d1;obtain ⟨QB,QC,rfl⟩:=ae LT.own;obtain ⟨Ze,Zf,rfl⟩:=ae LM.own;obtain ⟨Ve,Vf,rfl⟩:=ae LD.own;obtain ⟨Zg,Zh,rfl⟩:=ae LI.own;refine ⟨_,_,m1,ik s (.slice QB s.T.length QC) (.slice Ze s.M.length Zf) (.slice Ve s.D.length Vf) (.slice Oa ps.length Oc) (.slice Zg s.I.length Zh),rfl,rfl,_,_,_,m2,rfl,rfl,λ w5 m5 g5=>?_⟩;refine ⟨_,_,m5,ik s (.slice QB s.T.length QC) (.slice Ze s.M.length Zf) (.slice Ve s.D.length Vf) (.slice Oa ps.length Oc) (.slice Zg s.I.length Zh),rfl,rfl,_,_,_,_,_,ls,rfl,?_⟩;have S:SA w wk s (.slice QB s.T.length QC) (.slice Ze s.M.length Zf) (.slice Ve s.D.length Vf) (.slice Oa ps.length Oc) (.slice Zg s.I.length Zh) ls:=by
   have hal:∀ l∈ls,∃ j,j<i/\ls[j]? = some l:=λ l hl=>by
    obtain ⟨j,hj⟩:=List.getElem?_of_mem hl;exact ⟨j,by have:=(List.getElem?_eq_some_iff.1 hj).1;omega,hj⟩
   refine ⟨LT,LM,LD,by rw [<- hlen];exact LO,LI,λ l hl=>?_,?_,λ l hl=>?_,λ l hl=>?_,λ j k l l' hjk hl hl'=>?_⟩
   ·obtain ⟨j,hj,hl⟩:=hal l hl
    exact (hnew j l hj hl).1
   ·refine List.ext_getElem? λ j=>?_
    rw [List.getElem?_map];cases hj:ls[j]? with
    | none =>
     have:=List.getElem?_eq_none_iff.1 hj;rw [List.getElem?_eq_none (by omega)];rfl
    | some l=>rw [(hnew j l (by have:=(List.getElem?_eq_some_iff.1 hj).1;omega) hj).2.1];rfl
   ·obtain ⟨j,hj,hl⟩:=hal l hl
    exact (hnew j l hj hl).2.2.1
   ·obtain ⟨j,hj,hl⟩:=hal l hl
    exact (hnew j l hj hl).2.2.2
   ·have a1:=(List.getElem?_eq_some_iff.1 hl).1
    have a2:=(List.getElem?_eq_some_iff.1 hl').1;intro gg hgg he;rcases Nat.lt_or_gt_of_ne hjk with q | q
    ·exact hsep j k l l' q (by omega) hl hl' gg hgg he
    ·exact hsep k j l' l q (by omega) hl' hl gg he hgg
  exact S.bS g5 m2 (by decide) (by decide) (by decide) (by decide) (by decide) (by decide) n2
theorem Vg (a:Int) (w:World):af Tryz.prog 186 #[.int .u64 a] w (λ v w'=>v=.bool false/\w'=w):=by
 refine aj ah mixed Tryz.func186 rfl rfl ?_;exact ⟨congrArg Value.bool (by simp),rfl⟩
theorem JJ (a b:Int) (w:World):af Tryz.prog 157 #[.int .u64 a,.int .u64 b] w (λ v w'=>v=.int .i64 (fI a b)/\w'=w):=by
 refine aj ah mixed Tryz.func157 rfl rfl ?_;refine ⟨_,Vg a w,?_⟩;rintro _ w ⟨rfl,rfl⟩;refine ⟨_,Vg b w,?_⟩;rintro _ w ⟨rfl,rfl⟩;unfold fI;refine au (λ c=>?_) (λ c=>?_)
 ·exact ⟨congrArg (Value.int .i64) (if_pos (of_decide_eq_true c)).symm,rfl⟩
 ·refine au (λ d=>?_) (λ d=>?_)
  ·exact ⟨congrArg (Value.int .i64) (by rw [if_neg (of_decide_eq_false c),if_pos (of_decide_eq_true d)]),rfl⟩
  ·exact ⟨congrArg (Value.int .i64) (by rw [if_neg (of_decide_eq_false c),if_neg (of_decide_eq_false d)]),rfl⟩
theorem Zi (a:Int) (w:World):af Tryz.prog 187 #[.int .u8 a] w (λ v w'=>v=.bool false/\w'=w):=by
 refine aj ah mixed Tryz.func187 rfl rfl ?_;exact ⟨congrArg Value.bool (by simp),rfl⟩
theorem WO (a b:Int) (w:World):af Tryz.prog 158 #[.int .u8 a,.int .u8 b] w (λ v w'=>v=.int .i64 (fI a b)/\w'=w):=by
 refine aj ah mixed Tryz.func158 rfl rfl ?_;refine ⟨_,Zi a w,?_⟩;rintro _ w ⟨rfl,rfl⟩;refine ⟨_,Zi b w,?_⟩;rintro _ w ⟨rfl,rfl⟩;unfold fI;refine au (λ c=>?_) (λ c=>?_)
 ·exact ⟨congrArg (Value.int .i64) (if_pos (of_decide_eq_true c)).symm,rfl⟩
 ·refine au (λ d=>?_) (λ d=>?_)
  ·exact ⟨congrArg (Value.int .i64) (by rw [if_neg (of_decide_eq_false c),if_pos (of_decide_eq_true d)]),rfl⟩
  ·exact ⟨congrArg (Value.int .i64) (by rw [if_neg (of_decide_eq_false c),if_neg (of_decide_eq_false d)]),rfl⟩
theorem aaH {w:World} {b:Nat} {x y:Int} (hb:w.heap[b]? = some (.cells #[.int .i64 x,.int .i64 y] 3)):af Tryz.prog 156 #[.slice (some ⟨b,0,none⟩) 2 2] w (λ v w'=>v=.int .i64 (Md x y)/\w'=w):=by
 refine aj ah mixed Tryz.func156 rfl rfl ?_;unfold Md;refine ⟨λ n s wk=>wk=w/\((n=2/\s=[(3,.int .i64 0),(6,.slice (some ⟨b,0,none⟩) 2 2),(7,.int .i64 2),(8,.int .i64 0)])\/(n=1/\s=[(3,.int .i64 0),(6,.slice (some ⟨b,0,none⟩) 2 2),(7,.int .i64 2),(8,.int .i64 1)]/\x=0)\/(n=0/\s=[(3,.int .i64 0),(6,.slice (some ⟨b,0,none⟩) 2 2),(7,.int .i64 2),(8,.int .i64 2)]/\x=0/\y=0)),⟨_,_,⟨rfl,.inl ⟨rfl,rfl⟩⟩,rfl,rfl,rfl,rfl,trivial⟩,?_⟩;rintro n s wk ⟨rfl,⟨rfl,rfl⟩ | ⟨rfl,rfl,hx⟩ | ⟨rfl,rfl,hx,hy⟩⟩
 ·refine ⟨⟨by decide,by decide⟩,_,_,hb,_,rfl,au (λ c=>?_) (λ c=>?_)⟩
  ·exact ⟨congrArg (Value.int .i64) (if_neg (by simpa using c)).symm,rfl⟩
  ·exact ⟨⟨by decide,by decide⟩,_,_,⟨rfl,.inr (.inl ⟨rfl,rfl,by simpa using c⟩)⟩,⟨rfl,rfl,rfl,rfl,trivial⟩,by decide⟩
 ·refine ⟨⟨by decide,by decide⟩,_,_,hb,_,rfl,au (λ c=>?_) (λ c=>?_)⟩
  ·exact ⟨congrArg (Value.int .i64) (if_pos hx).symm,rfl⟩
  ·exact ⟨⟨by decide,by decide⟩,_,_,⟨rfl,.inr (.inr ⟨rfl,rfl,hx,by simpa using c⟩)⟩,⟨rfl,rfl,rfl,rfl,trivial⟩,by decide⟩
 ·exact ⟨congrArg (Value.int .i64) (by rw [if_pos hx,hy]),rfl⟩
theorem Mq (w:World) (x:Row) (key:Int):af Tryz.prog 201 #[.agg x.cells.toArray,.int .u64 key] w (λ v w'=>v=.int .i64 (fI x.key key)/\GB none w w'):=by
 refine aj ah mixed Tryz.func201 rfl rfl ?_;refine λ w1 b1 m1 g1 l1=>⟨_,_,m1,_,rfl,_,JJ _ _ _,?_⟩
 rintro _ w1 ⟨rfl,rfl⟩;exact ⟨rfl,g1⟩
theorem Mr (w:World) (x y:az):af Tryz.prog 155 #[.agg x.cells.toArray,.agg y.cells.toArray] w (λ v w'=>v=.int .i64 (jb x y)/\GB none w w'):=by
 refine aj ah mixed Tryz.func155 rfl rfl ?_;refine λ w1 b1 m1 g1 l1 w2 b2 m2 g2 l2=>?_
 have m1:=g2.get m1 nofun;have G:=g1.trans g2;refine ⟨by kernel_rfl,?_⟩;refine ⟨_,_,m1,_,rfl,_,_,m2,_,rfl,_,_,m1,_,rfl,_,_,m2,_,rfl,_,JJ _ _ _,?_⟩;rintro _ w2 ⟨rfl,rfl⟩;refine ⟨⟨m2,m1,m2,m1,trivial⟩,_,WO _ _ _,?_⟩;rintro _ w2 ⟨rfl,rfl⟩;refine λ w3 b3 m3 g3 l3=>?_
 refine ⟨_,aaH m3,?_⟩;rintro _ w3 ⟨rfl,rfl⟩;exact ⟨rfl,G.trans g3⟩
theorem Zj {w:World} {v:Value} {l:List Row} (h:Fz w 139 2 v l.length (l.map Row.cells).flatten) (hl:l.length<=1000000) {key:Int} (hm:Aw (λ x:Row=>fI x.key key) l):af Tryz.prog 200 #[v,.int .u64 key,.func (.func 201) #[] #[]] w (λ x w'=>x=.tuple #[.int .i64 (dQ (λ x:Row=>fI x.key key) l:Nat),.bool (mY (λ x:Row=>fI x.key key) l)]/\GB none w w'):=by
 obtain ⟨a,c,rfl,hc,hlen,hv⟩:=h;obtain ⟨hp1,hp2⟩:=sG _ l hm;have JK:=Bw (λ x:Row=>fI x.key key) l;obtain ⟨p,hp⟩:∃ p,p=dQ (λ x:Row=>fI x.key key) l:=⟨_,rfl⟩;rw [<- hp] at hp1 hp2 JK |-;refine aj ah mixed Tryz.func200 rfl rfl ?_;refine ⟨λ n s wk=>∃ lo hi:Nat,n=hi - lo/\lo<=p/\p<=hi/\hi<=l.length/\s=[(0,.slice a l.length c),(1,.int .u64 key),(2,.func (.func 201) #[] #[]),(8,.int .i64 l.length),(9,.int .i64 lo),(10,.int .i64 hi)]/\GB none w wk,⟨_,_,⟨0,l.length,rfl,Nat.zero_le _,JK,Nat.le_refl _,rfl,GB.refl _ _⟩,rfl,rfl,rfl,rfl,rfl,rfl,trivial⟩,?_⟩;rintro n s wk ⟨lo,hi,rfl,h1,h2,h3,rfl,P⟩;refine au (λ d=>?_) (λ d=>?_)
 ·have d1:lo<hi:=by have:=of_decide_eq_true d;omega
  rcases hv with ⟨_,hz⟩ | ⟨b,off,cs,rfl,hb,hcut⟩
  ·omega
  obtain ⟨mid,hmid⟩:∃ mid:Nat,mid=(lo+hi) / 2:=⟨_,rfl⟩;have lh:((lo:Int)+hi).fdiv (2 ^ min (Int.toNat 1) IntKind.u64.bits)=(mid:Int):=by
   rw [show (2:Int) ^ min (Int.toNat 1) IntKind.u64.bits=2 from rfl,Int.fdiv_eq_ediv_of_nonneg _ (by decide)];omega
  obtain ⟨x,hx⟩:∃ x,l[mid]? = some x:=⟨l[mid]'(by omega),by simp [show mid<l.length by omega]⟩;have hbk:=P.get hb nofun;refine ⟨⟨by omega,by omega⟩,.inl ⟨⟨by omega,by omega⟩,⟨by decide,.inl ⟨⟨by rw [lh];omega,by rw [lh];omega⟩,?_⟩⟩⟩⟩;refine ⟨⟨by rw [lh];omega,by rw [lh];omega⟩,_,_,hbk,x.cells,?_,rfl,_,Mq _ x key,?_⟩
  ·rw [lh];exact kD (f:=Row.cells) (λ _=>rfl) hx hcut
  rintro _ w2 ⟨rfl,g2⟩;refine au (λ e=>?_) (λ e=>?_)
  ·have e1:fI x.key key<0:=of_decide_eq_true e
   have hlt:mid<p:=Classical.byContradiction λ z=>by have:=hp2 mid x (by omega) hx;omega
   refine ⟨⟨by rw [lh];omega,by rw [lh];omega⟩,_,_,⟨mid+1,hi,rfl,by omega,h2,h3,rfl,P.trans g2⟩,⟨rfl,rfl,rfl,rfl,?_,rfl,trivial⟩,by omega⟩;show some (Value.int .i64 (((lo:Int)+hi).fdiv (2 ^ min (Int.toNat 1) IntKind.u64.bits)+1))=_;rw [lh];rfl
  ·have e1:¬ fI x.key key<0:=of_decide_eq_false e
   have hle:p<=mid:=Classical.byContradiction λ z=>e1 (hp1 mid x (by omega) hx)
   refine ⟨_,_,⟨lo,mid,rfl,h1,hle,by omega,rfl,P.trans g2⟩,⟨rfl,rfl,rfl,rfl,rfl,?_,trivial⟩,by omega⟩;show some (Value.int .i64 (((lo:Int)+hi).fdiv (2 ^ min (Int.toNat 1) IntKind.u64.bits)))=_;rw [lh]
 ·have d1:lo=hi:=by have:=of_decide_eq_false d;omega
  obtain rfl:lo=p:=by omega
  refine au (λ e=>?_) (λ e=>?_)
  ·have e1:lo<l.length:=by have:=of_decide_eq_true (b11 e);omega
   rcases hv with ⟨_,hz⟩ | ⟨b,off,cs,rfl,hb,hcut⟩
   ·omega
   obtain ⟨x,hx⟩:∃ x,l[lo]? = some x:=⟨l[lo],by simp [e1]⟩;have hh:mY (λ x:Row=>fI x.key key) l=(fI x.key key == 0):=by simp only [mY,<- hp,hx]
   rw [hh];refine ⟨⟨by omega,by omega⟩,_,_,P.get hb nofun,x.cells,kD (f:=Row.cells) (λ _=>rfl) hx hcut,rfl,_,Mq _ x key,?_⟩;rintro _ w2 ⟨rfl,g2⟩;exact ⟨rfl,P.trans g2⟩
  ·have e1:¬ lo<l.length:=by have:=of_decide_eq_false (b10 e);omega
   have hh:mY (λ x:Row=>fI x.key key) l=false:=by simp only [mY,<- hp,List.getElem?_eq_none (Nat.le_of_not_lt e1)]
   rw [hh];exact ⟨rfl,P⟩
theorem Zk {w:World} {v:Value} {l:List az} (h:Fz w 70 7 v l.length (l.map az.cells).flatten) (hl:l.length<=1000000) {q:az} (hm:Aw (λ x:az=>jb x q) l):af Tryz.prog 154 #[v,.agg q.cells.toArray,.func (.func 155) #[] #[]] w (λ x w'=>x=.tuple #[.int .i64 (dQ (λ x:az=>jb x q) l:Nat),.bool (mY (λ x:az=>jb x q) l)]/\GB none w w'):=by
 obtain ⟨a,c,rfl,hc,hlen,hv⟩:=h;obtain ⟨hp1,hp2⟩:=sG _ l hm;have JK:=Bw (λ x:az=>jb x q) l;obtain ⟨p,hp⟩:∃ p,p=dQ (λ x:az=>jb x q) l:=⟨_,rfl⟩;rw [<- hp] at hp1 hp2 JK |-;refine aj ah mixed Tryz.func154 rfl rfl ?_;refine λ w1 b1 m1 g1 l1=>?_
 refine ⟨λ n s wk=>∃ lo hi:Nat,n=hi - lo/\lo<=p/\p<=hi/\hi<=l.length/\s=[(0,.slice a l.length c),(2,.func (.func 155) #[] #[]),(4,Ptt b1),(8,.int .i64 l.length),(9,.int .i64 lo),(10,.int .i64 hi)]/\GB none w1 wk,⟨_,_,⟨0,l.length,rfl,Nat.zero_le _,JK,Nat.le_refl _,rfl,GB.refl _ _⟩,rfl,rfl,rfl,rfl,rfl,rfl,trivial⟩,?_⟩;rintro n s wk ⟨lo,hi,rfl,h1,h2,h3,rfl,P⟩;refine au (λ d=>?_) (λ d=>?_)
 ·have d1:lo<hi:=by have:=of_decide_eq_true d;omega
  rcases hv with ⟨_,hz⟩ | ⟨b,off,cs,rfl,hb,hcut⟩
  ·omega
  obtain ⟨mid,hmid⟩:∃ mid:Nat,mid=(lo+hi) / 2:=⟨_,rfl⟩;have lh:((lo:Int)+hi).fdiv (2 ^ min (Int.toNat 1) IntKind.u64.bits)=(mid:Int):=by
   rw [show (2:Int) ^ min (Int.toNat 1) IntKind.u64.bits=2 from rfl,Int.fdiv_eq_ediv_of_nonneg _ (by decide)];omega
  obtain ⟨x,hx⟩:∃ x,l[mid]? = some x:=⟨l[mid]'(by omega),by simp [show mid<l.length by omega]⟩;have hbk:=P.get (g1.get hb nofun) nofun;refine ⟨⟨by omega,by omega⟩,.inl ⟨⟨by omega,by omega⟩,⟨by decide,.inl ⟨⟨by rw [lh];omega,by rw [lh];omega⟩,?_⟩⟩⟩⟩;refine ⟨by kernel_rfl,⟨by rw [lh];omega,by rw [lh];omega⟩,_,_,hbk,x.cells,?_,rfl,_,_,P.get m1 nofun,q.cells,rfl,rfl,_,Mr _ x q,?_⟩
  ·rw [lh];exact kD (f:=az.cells) (λ _=>rfl) hx hcut
  rintro _ w2 ⟨rfl,g2⟩;refine au (λ e=>?_) (λ e=>?_)
  ·have e1:jb x q<0:=of_decide_eq_true e
   have hlt:mid<p:=Classical.byContradiction λ z=>by have:=hp2 mid x (by omega) hx;omega
   refine ⟨⟨by rw [lh];omega,by rw [lh];omega⟩,_,_,⟨mid+1,hi,rfl,by omega,h2,h3,rfl,P.trans g2⟩,⟨rfl,rfl,rfl,rfl,?_,rfl,trivial⟩,by omega⟩;show some (Value.int .i64 (((lo:Int)+hi).fdiv (2 ^ min (Int.toNat 1) IntKind.u64.bits)+1))=_;rw [lh];rfl
  ·have e1:¬ jb x q<0:=of_decide_eq_false e
   have hle:p<=mid:=Classical.byContradiction λ z=>e1 (hp1 mid x (by omega) hx)
   refine ⟨_,_,⟨lo,mid,rfl,h1,hle,by omega,rfl,P.trans g2⟩,⟨rfl,rfl,rfl,rfl,rfl,?_,trivial⟩,by omega⟩;show some (Value.int .i64 (((lo:Int)+hi).fdiv (2 ^ min (Int.toNat 1) IntKind.u64.bits)))=_;rw [lh]
 ·have d1:lo=hi:=by have:=of_decide_eq_false d;omega
  obtain rfl:lo=p:=by omega
  refine ⟨by kernel_rfl,au (λ e=>?_) (λ e=>?_)⟩
  ·have e1:lo<l.length:=by have:=of_decide_eq_true (b11 e);omega
   rcases hv with ⟨_,hz⟩ | ⟨b,off,cs,rfl,hb,hcut⟩
   ·omega
   obtain ⟨x,hx⟩:∃ x,l[lo]? = some x:=⟨l[lo],by simp [e1]⟩;have hh:mY (λ x:az=>jb x q) l=(jb x q == 0):=by simp only [mY,<- hp,hx]
   rw [hh];refine ⟨⟨by omega,by omega⟩,_,_,P.get (g1.get hb nofun) nofun,x.cells,kD (f:=az.cells) (λ _=>rfl) hx hcut,rfl,_,_,P.get m1 nofun,q.cells,rfl,rfl,_,Mr _ x q,?_⟩;rintro _ w2 ⟨rfl,g2⟩;exact ⟨rfl,(g1.trans P).trans g2⟩
  ·have e1:¬ lo<l.length:=by have:=of_decide_eq_false (b10 e);omega
   have hh:mY (λ x:az=>jb x q) l=false:=by simp only [mY,<- hp,List.getElem?_eq_none (Nat.le_of_not_lt e1)]
   rw [hh];exact ⟨rfl,g1.trans P⟩
section
variable {w:World} {b:Nat} {s:St} {T M D O I:Value}
theorem JL (hm:w.heap[b]? = some (.cells (ik s T M D O I).toArray 55)) (hT:Fz w 139 2 T s.T.length (s.T.map Row.cells).flatten) (hl:s.T.length<=1000000) (hs:gq s.T) (key:Int):af Tryz.prog 188 #[Ptt b,.int .u64 key] w (λ x w'=>x=.tuple #[.int .i64 (sH s.T key:Nat),.bool (kJ s.T key)]/\GB none w w'):=by
 refine aj ah mixed Tryz.func188 rfl rfl ?_;refine ⟨_,_,hm,_,rfl,_,Zj hT hl (U0 hs key),?_⟩;rintro _ w1 ⟨rfl,g1⟩;exact ⟨rfl,g1⟩
theorem QD (hm:w.heap[b]? = some (.cells (ik s T M D O I).toArray 55)) (hD:Fz w 70 7 D s.D.length (s.D.map az.cells).flatten) (hl:s.D.length<=1000000) (hs:iI s.D) (q:az):af Tryz.prog 101 #[Ptt b,.agg q.cells.toArray] w (λ x w'=>x=.tuple #[.int .i64 (zh s.D q:Nat),.bool (Jz s.D q)]/\GB none w w'):=by
 refine aj ah mixed Tryz.func101 rfl rfl ?_;refine λ w1 b1 m1 g1 l1=>?_
 refine ⟨by kernel_rfl,_,_,g1.get hm nofun,_,rfl,_,_,m1,q.cells,rfl,rfl,_,Zk (hD.kz g1.kz (by decide)) hl (U1 hs q),?_⟩;rintro _ w2 ⟨rfl,g2⟩;exact ⟨rfl,g1.trans g2⟩
theorem xG {α:Type} {f:α->Int} {l:List α} (h:mY f l=true):∃ x,l[dQ f l]? = some x/\f x=0:=by
 unfold mY at h;cases hx:l[dQ f l]? with
 | none=>rw [hx] at h;cases h
 | some x=>rw [hx] at h;exact ⟨x,rfl,by simpa using h⟩
theorem Zl (hm:w.heap[b]? = some (.cells (ik s T M D O I).toArray 55)) (hT:Fz w 139 2 T s.T.length (s.T.map Row.cells).flatten) (hl:s.T.length<=1000000) (hs:gq s.T) (key:Int):af Tryz.prog 159 #[Ptt b,.int .u64 key] w (λ x w'=>x=.tuple #[.int .u64 (q8 s.T key),.bool (kJ s.T key)]/\GB none w w'):=by
 refine aj ah mixed Tryz.func159 rfl rfl ?_;refine ⟨_,JL hm hT hl hs key,?_⟩;rintro _ w1 ⟨rfl,g1⟩;unfold q8;obtain ⟨a,ha⟩:∃ a,kJ s.T key=a:=⟨_,rfl⟩;rw [ha];cases a
 ·exact ⟨rfl,g1⟩
 ·obtain ⟨x,hx,_⟩:=xG ha
  have hi:sH s.T key<s.T.length:=(List.getElem?_eq_some_iff.1 hx).1;obtain ⟨ta,tc,rfl,h1,h2,h3⟩:=hT;rcases h3 with ⟨_,hz⟩ | ⟨g,off,cs,rfl,hb,hcut⟩
  ·omega
  have hc:=kD (f:=Row.cells) (λ _=>rfl) hx hcut;refine ⟨_,_,g1.get hm nofun,_,rfl,⟨by omega,by omega⟩,_,_,g1.get hb nofun,.int .u64 x.val,iy hc rfl (by decide),?_⟩;exact ⟨by rw [show s.T[sH s.T key]? = some x from hx];rfl,g1⟩
theorem KS (hm:w.heap[b]? = some (.cells (ik s T M D O I).toArray 55)) (hM:zi w M s.M) (hok:kU s.M=true) (AB:Can s.M) {lo hi:Int} (h0:0<=lo):af Tryz.prog 100 #[Ptt b,.int .u64 lo,.int .u64 hi] w (λ x w'=>x=.tuple #[.int .u8 (JA s.M s.g lo hi),.bool (Oe s.M s.g lo hi)]/\GB none w w'):=by
 refine aj ah mixed Tryz.func100 rfl rfl ?_;have JD:=AA hok;refine ⟨_,_,hm,_,rfl,_,Mg hM hok AB h0,?_⟩;rintro _ w1 ⟨rfl,g1⟩;unfold JA Oe;refine ⟨_,_,g1.get hm nofun,_,rfl,au (λ c=>?_) (λ c=>?_)⟩
 ·have c1:own 0 s.M lo≠s.g:=by simpa using c
  rw [if_pos c1,if_pos c1];exact ⟨rfl,g1⟩
 ·have c1:¬ own 0 s.M lo≠s.g:=by simpa using c
  rw [if_neg c1,if_neg c1];have hM1:zi w1 M s.M:=hM.kz g1.kz (by decide);obtain ⟨a,c,rfl,hc,hl,hv⟩:=hM1;refine ⟨_,_,g1.get hm nofun,_,rfl,?_⟩;refine ⟨λ n t wk=>∃ i:Nat,n=s.M.length - i/\i<=s.M.length/\t=[(1,.int .u64 lo),(2,.int .u64 hi),(31,.slice a s.M.length c),(32,.int .i64 s.M.length),(33,.int .i64 i)]/\s.M.find? (Ch lo hi)=(s.M.drop i).find? (Ch lo hi)/\GB none w1 wk,⟨_,_,⟨0,rfl,Nat.zero_le _,rfl,rfl,GB.refl _ _⟩,rfl,rfl,rfl,rfl,rfl,trivial⟩,?_⟩;rintro n t wk ⟨i,rfl,hi',rfl,hf,P⟩;refine au (λ d=>?_) (λ d=>?_)
  ·have d1:i<s.M.length:=by have:=of_decide_eq_true d;omega
   rcases hv with ⟨_,hz⟩ | ⟨b,off,cs,rfl,hb,hcut⟩
   ·omega
   obtain ⟨y,hy⟩:∃ y,s.M[i]? = some y:=⟨s.M[i],by simp [d1]⟩;rw [List.drop_eq_getElem_cons d1,show s.M[i]=y from (List.getElem?_eq_some_iff.1 hy).2,List.find?_cons] at hf;refine ⟨⟨by omega,by omega⟩,_,_,P.get hb nofun,y.cells,kD (f:=Pc.cells) (λ _=>rfl) hy hcut,rfl,λ w2 b2 m2 g2 l2=>⟨_,_,_,m2,rfl,rfl,λ w3 m3 g3=>?_⟩⟩;have G:=P.trans (g2.new g3 l2);refine ⟨_,_,m3,_,rfl,au (λ e=>?_) (λ e=>?_)⟩
   ·have e1:=of_decide_eq_true (b11 e)
    refine ⟨_,_,m3,_,rfl,au (λ q=>?_) (λ q=>?_)⟩
    ·have q1:=of_decide_eq_true q
     have z:Ch lo hi y=true:=by simp [Ch];omega
     rw [z] at hf;rw [hf];exact ⟨_,_,m3,_,rfl,rfl,g1.trans G⟩
    ·have q1:=of_decide_eq_false q
     have z:Ch lo hi y=false:=by simp [Ch];omega
     exact ⟨⟨by omega,by omega⟩,_,_,⟨i+1,rfl,by omega,rfl,by rw [hf,z],G⟩,⟨rfl,rfl,rfl,rfl,rfl,trivial⟩,by omega⟩
   ·have e1:=of_decide_eq_false (b10 e)
    have z:Ch lo hi y=false:=by simp [Ch];omega
    exact ⟨⟨by omega,by omega⟩,_,_,⟨i+1,rfl,by omega,rfl,by rw [hf,z],G⟩,⟨rfl,rfl,rfl,rfl,rfl,trivial⟩,by omega⟩
  ·have d1:i=s.M.length:=by have:=of_decide_eq_false d;omega
   rw [d1,List.drop_length] at hf;rw [hf];exact ⟨rfl,g1.trans P⟩
theorem TF (w:World) (hM:zi w M s.M) (hok:kU s.M=true) (AB:Can s.M) (hO:∃ a c,O=.slice a s.O.length c) (hI:∃ a c,I=.slice a s.I.length c) (hT:∃ a n c,T=.slice a n c) (hD:∃ a n c,D=.slice a n c) (hg:s.g<s.n) (hn:s.n<=4) (hn0:0<=s.n) (hol:(s.O.length:Int)=s.n) (hil:(s.I.length:Int)=s.n):af Tryz.prog 60 #[.agg (ik s T M D O I).toArray] w (λ x w'=>x=.bool true/\GB none w w'):=by
 obtain ⟨oa,oc,rfl⟩:=hO;obtain ⟨ia,ic,rfl⟩:=hI;obtain ⟨ta,tn,tc,rfl⟩:=hT;obtain ⟨da,dn,dc,rfl⟩:=hD;have hM0:=hM;obtain ⟨ma,mc,rfl,_⟩:=hM;refine aj ah mixed Tryz.func60 rfl rfl ?_;refine λ w1 b1 m1 g1 l1=>⟨_,_,m1,_,rfl,_,Mg (hM0.kz g1.kz (by decide)) hok AB (Int.le_refl 0),?_⟩
 rintro _ w2 ⟨rfl,g2⟩;have m1:=g2.get m1 nofun;have G:=g1.trans g2;refine ⟨_,_,m1,_,rfl,.inl ⟨⟨by omega,by omega⟩,?_⟩⟩;refine ⟨_,_,m1,_,rfl,_,_,m1,_,rfl,au (λ e=>?_) (λ e=>?_)⟩
 ·refine ⟨_,_,m1,_,rfl,au (λ e=>?_) (λ e=>?_)⟩
  ·refine ⟨_,_,m1,_,rfl,?_⟩
   exact ⟨congrArg Value.bool (by simpa using hil),G⟩
  ·exact absurd hol (by have:=b10 e;simpa using this)
 ·have:=of_decide_eq_false (b10 e)
  omega
end
end
end Go.Proofs.YtignemioillaiabGreat
