/- Lemmas. -/
import Derived.Test.YtignemioillaiaaGreatG45
namespace Go.Proofs.YtignemioillaiaaGreat
set_option maxHeartbeats 8000000
set_option linter.unusedSectionVars false
set_option maxRecDepth 100000
open List
section
open Go Go.Conc
section
variable{A:aO}(HA:bH A){Λ:bU}{w:World}{bs:Nat}{S:Sit}
theorem Sit.acV(A:aO)(S:Sit)(t:Stp):(S.uy A t).bad=S.bad:=by
 unfold Sit.uy;split
 ·split<;>rfl
 ·rfl
include HA
theorem acW(h:df Λ bs S w)(hF:S.aJ A){t:Stp}(ht:t.wf A)(hj:bz t.kind 7=1):gQ Tryz.prog 70 #[Ptt bs,.agg t.cells.toArray] w (λv w'=>v=.bool (S.do A t).2/\df Λ bs (S.do A t).1 w'/\Kz w w'):=by
 have hdo:S.do A t=(S.uy A t,!S.bad):=by unfold Sit.do;rw[hj];rfl
 rw[hdo];have jh:=hF.cl.n;have hs5:=hF.cl.sz;have hlen:=hF.cl.len;have hak:=hF.ak;obtain⟨bc,a,gv,sv,B,ad,hS⟩:=h;obtain⟨q1,q2⟩:=oH (C:=S.C) (k:=t.a) hF.n hF.sz;refine Fy fD Tryz.func70 rfl rfl ?_;refine aG.piece (Q:=λq w1=>∃b3,q=[(0,Ptt bs),(3,Ptt b3)]/\w1.heap[b3]? = some (.cells t.cells.toArray 158)/\GB none w w1/\w.heap.size<=b3) (aG.e ?_) ?_
 ·exact λw1 b3 m1 g1 l1=>⟨_,by exact⟨rfl,rfl,trivial⟩,b3,rfl,m1,g1,l1⟩
 rintro q w1 ⟨b3,rfl,m1,g1,IQ⟩;have h1:=hS.au g1;refine aG.piece (Q:=λq w2=>q=[(0,Ptt bs),(3,Ptt b3),(5,.int .i64 S.C.q.length)]/\GB none w1 w2) (aG.e ?_) ?_
 ·refine⟨_,_,h1.si.mem,_,rfl,_,(rH h1.enter hlen 0 (by decide) (by decide)).x,?_⟩
  rintro lv w2 ⟨o2,g2,_⟩;have e0:S.C.q.length - min (0:Int).toNat S.C.q.length=S.C.q.length:=by simp
  rw[e0]at o2;obtain⟨la,lc,rfl⟩:=af o2;exact⟨_,by exact⟨rfl,rfl,rfl,trivial⟩,rfl,g2⟩
 rintro q w2 ⟨rfl,g2⟩;have h2:=h1.au g2;refine aG.piece (Q:=λq w5=>∃b6,q=[(0,Ptt bs),(3,Ptt b3),(5,.int .i64 S.C.q.length),(6,Ptt b6)]/\w5.heap[b6]? = some (.cells #[.int .u8 (aY S.C t.a),.int .u8 (bN S.C t.a)] 66)/\GB none w2 w5/\w.heap.size<=b6) (aG.e ?_) ?_
 ·refine⟨_,_,g2.get m1 nofun,_,rfl,_,(qL h2.si.mem ⟨hF.n,jh⟩ ⟨hF.sz,hs5⟩ t.a ht.a.1 ht.a.2).x,?_⟩
  rintro _ w3 ⟨rfl,g3⟩;refine λw4 b6 m4 g4 l4=>⟨_,_,_,m4,rfl,rfl,λw5 m5 g5=>?_⟩
  exact⟨_,by exact⟨rfl,rfl,rfl,rfl,trivial⟩,b6,rfl,m5,g3.trans (g4.new g5 l4),Nat.le_trans ((g1.trans g2).trans g3).size l4⟩
 rintro q w5 ⟨b6,rfl,m5,ku,IU⟩;have G:GB none w w5:=(g1.trans g2).trans ku;have m15:=(g2.trans ku).get m1 nofun;have h5:=hS.au G;refine aG.cut (Qn:=λq w'=>q=[(0,Ptt bs)]/\df Λ bs (S.uy A t) w'/\Kz w w') (Qx:=λ_ _ _=>False) (Qr:=λ_ _=>False) ?_ ?_ (λ_ _ _ _ h _=>h.elim) (λ_ _ _ h _=>h.elim);rotate_left
 ·rintro q w' ⟨rfl,h',k'⟩
  refine aG.e ?_;obtain⟨_,_,_,_,_,_,h'⟩:=h';refine⟨_,_,h'.si.mem,_,rfl,?_,⟨_,_,_,_,_,_,h'⟩,k'⟩;show Value.bool (!(S.uy A t).bad)=_;rw[Sit.acV]
 refine aG.piece (Q:=λq w'=>q=[(0,Ptt bs),(3,Ptt b3),(5,.int .i64 S.C.q.length),(6,Ptt b6),(28,.int .i64 1)]/\w'=w5) (aG.e ?_) ?_
 ·have pk:=jk w5 t.kind 7 (by decide) ht.kind.1 ht.kind.2
  rw[hj]at pk;refine⟨_,_,m15,_,rfl,_,pk.x,?_⟩;rintro _ w5 ⟨rfl,rfl⟩;exact⟨_,by exact⟨rfl,rfl,rfl,rfl,rfl,trivial⟩,rfl,rfl⟩
 rintro q w5 ⟨rfl,rfl⟩;refine aG.block ?_;refine aG.piece (Q:=λq w'=>q=[(0,Ptt bs),(3,Ptt b3),(5,.int .i64 S.C.q.length),(6,Ptt b6),(28,.int .i64 1),(35,.bool false)]/\w'=w5) (aG.e ⟨_,by exact⟨rfl,rfl,rfl,rfl,rfl,rfl,trivial⟩,rfl,rfl⟩) ?_;rintro q w5 ⟨rfl,rfl⟩;refine aG.cond false rfl ?_;refine aG.piece (Q:=λq w'=>q=[(0,Ptt bs),(3,Ptt b3),(5,.int .i64 S.C.q.length),(6,Ptt b6),(45,.bool true)]/\w'=w5) (aG.e ⟨_,by exact⟨rfl,rfl,rfl,rfl,rfl,trivial⟩,rfl,rfl⟩) ?_;rintro q w5 ⟨rfl,rfl⟩;refine aG.cond true rfl ?_;refine aG.piece (Q:=λq w8=>∃b7 e m rv dv vv rv' eU,q=[(0,Ptt bs),(3,Ptt b3),(5,.int .i64 S.C.q.length),(6,Ptt b6),(7,Ptt b7),(8,.int .i64 e)]/\w8.heap[b7]? = some (.cells (dS m rv dv vv rv' eU).toArray 203)/\((e=0/\A.dec t.d=some m)\/(e≠0/\A.dec t.d=none))/\GB none w5 w8/\w.heap.size<=b7) (aG.e ?_) ?_
 ·refine⟨_,_,m15,_,rfl,_,(HA.parse w5 t.d).x,?_⟩
  rintro _ w6 ⟨⟨mv,e,m,rfl,hm,hc⟩,g6⟩;obtain⟨rv,dv,vv,rv',eU,rfl,i1,i2,i3⟩:=hm;obtain⟨_,_,_,_,_,_,rfl,rfl⟩:=i1.sl;obtain⟨_,_,rfl⟩:=i2.sl;obtain⟨_,_,_,_,_,_,rfl,rfl⟩:=i3.sl;refine λw7 b7 m7 g7 l7=>⟨_,_,_,m7,rfl,rfl,λw8 m8 g8=>?_⟩
  exact⟨_,by exact⟨rfl,rfl,rfl,rfl,rfl,rfl,trivial⟩,b7,e,m,_,_,_,_,_,rfl,m8,hc.imp (λx=>⟨x.1,x.2.1⟩) id,g6.trans (g7.new g8 l7),Nat.le_trans (G.trans g6).size l7⟩
 rintro q w8 ⟨b7,e,m,rv,dv,vv,rv',eU,rfl,m8,hc,Dm,lb7⟩;have h8:=h5.au Dm;have afr:=Dm.get m15 nofun;have m58:=Dm.get m5 nofun;have nc:∀{x:Nat},w.heap.size<=x->¬nC S.C.n S.C.sz B bc sv ad x:=λ{x} hl hC=>by
  rcases hC with e|e|⟨g',i',p1,p2,p3⟩
  ·subst e;have:=ae hS.ci.fC;omega
  ·obtain⟨c',hc'⟩:=ax hS.ci.row e;have:=ae hc';omega
  ·have:=(hS.ci.rep g' i' p1 p2).lt p3;omega
 refine aG.piece (Q:=λq w9=>∃k f,q=[(0,Ptt bs),(5,.int .i64 S.C.q.length),(6,Ptt b6),(7,Ptt b7),(8,.int .i64 e),(9,.int .i64 k),(10,.int .i64 f)]/\(f=0↔¬t.d.size > 1000)/\(f=0->k=(S.C.q.length:Nat))/\w9.heap[b6]? = some (.cells #[.int .u8 (aY S.C t.a),.int .u8 (bN S.C t.a)] 66)/\w9.heap[b7]? = some (.cells (dS m rv dv vv rv' eU).toArray 203)/\df Λ bs { S with C:=S.C.send (aY S.C t.a) (bN S.C t.a) t.d } w9/\Kz w w9) (aG.e ?_) ?_
 ·refine⟨by kernel_rfl,_,_,h8.si.mem,_,rfl,_,_,m58,[.int .u8 (aY S.C t.a),.int .u8 (bN S.C t.a)],rfl,rfl,_,_,afr,_,rfl,_,(RA h8.enter jh hs5 (aY S.C t.a) (bN S.C t.a) (by omega) (by omega) t.d).x,?_⟩
  rintro _ w9 ⟨rfl,hC9,k9⟩;have pr9:∀{x:Nat} {o:Obj},w8.heap[x]? = some o->w.heap.size<=x->w9.heap[x]? = some o:=λ{x o} hx hl=>by
   obtain⟨_,_,_,_,h'⟩:=hC9;exact(h'.pr x o (by unfold zO;dsimp only;rw[if_neg (nc hl)];exact hx)).1
  obtain⟨en,ez⟩:=S.C.pV (aY S.C t.a) (bN S.C t.a) t.d;refine⟨_,by exact⟨rfl,rfl,rfl,rfl,rfl,rfl,rfl,trivial⟩,_,_,rfl,?_,?_,pr9 m58 IU,pr9 m8 lb7,h8.leave en ez hC9 k9,(G.trans Dm).kz.trans k9⟩
  ·rw[if_pos ⟨q1,q2⟩]
   by_cases c:t.d.size > 1000
   ·rw[if_pos c];simp[c]
   ·rw[if_neg c];simp[c]
  ·rw[if_pos ⟨q1,q2⟩]
   by_cases c:t.d.size > 1000
   ·rw[if_pos c];intro h;cases h
   ·intro _;exact if_pos ⟨⟨q1,q2⟩,c⟩
 rintro q w9 ⟨k,f,rfl,hf1,hf2,m59,m79,h9,K9⟩;have eno:(∀m',A.dec t.d=some m'->¬(m'.kind=1/\¬t.d.size > 1000/\S.C.q.length<20000))->S.uy A t={ S with C:=S.C.send (aY S.C t.a) (bN S.C t.a) t.d }:=λh=>by
  unfold Sit.uy;cases hd:A.dec t.d with
  |none=>rfl
  |some m'=>show(if m'.kind=1/\¬t.d.size > 1000/\S.C.q.length<20000 then _ else _)=_;rw[if_neg (h m' hd)]
 refine aG.piece (Q:=λq w'=>∃r:Bool,q=[(0,Ptt bs),(6,Ptt b6),(7,Ptt b7),(9,.int .i64 k),(78,.bool r)]/\(r=true↔(e=0/\m.kind=1/\f=0/\S.C.q.length<20000))/\w'=w9) (aG.e ?_) ?_
 ·refine aj (λx=>?_) (λx=>?_)
  ·have x1:e=0:=by simpa using x
   refine⟨_,_,m79,_,rfl,?_⟩;refine aj (λy=>?_) (λy=>?_)
   ·have y1:m.kind=1:=by simpa using y
    refine aj (λz=>?_) (λz=>?_)
    ·have z1:f=0:=by simpa using z
     exact⟨_,by exact⟨rfl,rfl,rfl,rfl,rfl,trivial⟩,_,rfl,⟨λu=>⟨x1,y1,z1,UT u⟩,λu=>decide_eq_true (by omega)⟩,rfl⟩
    ·have z1:¬f=0:=by simpa using z
     exact⟨_,by exact⟨rfl,rfl,rfl,rfl,rfl,trivial⟩,false,rfl,⟨λu=>(by cases u),λu=>absurd u.2.2.1 z1⟩,rfl⟩
   ·have y1:¬m.kind=1:=by simpa using y
    exact⟨_,by exact⟨rfl,rfl,rfl,rfl,rfl,trivial⟩,false,rfl,⟨λu=>(by cases u),λu=>absurd u.2.1 y1⟩,rfl⟩
  ·have x1:¬e=0:=by simpa using x
   exact⟨_,by exact⟨rfl,rfl,rfl,rfl,rfl,trivial⟩,false,rfl,⟨λu=>(by cases u),λu=>absurd u.1 x1⟩,rfl⟩
 rintro q w9 ⟨r,rfl,hr,rfl⟩;refine aG.cond r rfl ?_;cases r
 ·refine aG.e ⟨_,by exact⟨rfl,trivial⟩,rfl,?_,K9⟩
  rw[eno λm' hm' h=>?_]
  ·exact h9
  ·have:¬(e=0/\m.kind=1/\f=0/\S.C.q.length<20000):=λh=>by have:=hr.2 h;cases this
   rcases hc with⟨e0,hd⟩|⟨e0,hd⟩
   ·rw[hd]at hm';cases hm';exact this ⟨e0,h.1,hf1.2 h.2.1,h.2.2⟩
   ·rw[hd]at hm';cases hm'
 ·obtain⟨x1,y1,z1,u1⟩:=hr.1 rfl
  have hd:A.dec t.d=some m:=by
   rcases hc with⟨_,hd⟩|⟨e0,_⟩
   ·exact hd
   ·exact absurd x1 e0
  have ek:S.uy A t=S.doA A t m:=by
   unfold Sit.uy;rw[hd];show(if m.kind=1/\¬t.d.size > 1000/\S.C.q.length<20000 then _ else _)=_;rw[if_pos ⟨y1,hf1.1 z1,u1⟩]
  have hk:=hf2 z1;subst hk;rw[ek];refine aG.e ?_;obtain⟨bc',a',RH,bX,B',jM,h9⟩:=h9;have xB:=h9.si.mem;obtain⟨aa,VF,haq⟩:=af h9.si.ak;have ha9:=h9.si.ak;rw[haq]at ha9;refine⟨by kernel_rfl,_,_,xB,.slice aa S.asks.length VF,by show(fV _ _ _)[3]? = _;unfold fV;rw[haq];rfl,_,_,m79,m.q.cells,rfl,rfl,_,_,m59,_,rfl,λwa ba ma ga la=>?_⟩;have haa:=ay ha9 (w1:=wa) λx hx=>by obtain⟨c,hc⟩:=ax ha9 hx;exact ga.block x (ae hc) nofun
  refine⟨⟨ga.get m59 nofun,ga.get m79 nofun,ga.get xB nofun,trivial⟩,?_⟩;refine⟨_,(Ask.mk m.q (aY S.C t.a) S.C.q.length).cells,haa,⟨_,_,ma,rfl,rfl,rfl⟩,by show S.asks.length+1<=_;omega,λv' wb Ww gb nb=>?_⟩;have mm:wb.heap[bs]? = _:=gb.get (ga.get xB nofun) λe=>by
   obtain⟨c,hc⟩:=ax haa e.symm;exact dw (ga.get xB nofun) hc (by decide) rfl
  obtain⟨va,vc,rfl⟩:=af Ww;refine⟨_,_,_,mm,rfl,rfl,λwc mc gc=>?_⟩;obtain⟨hz,kz⟩:=(h9.au ga).ak' (l:=S.asks++[⟨m.q,aY S.C t.a,S.C.q.length⟩]) (by rw[haq];exact gb) (by rw[length_append,map_append,flatten_append];exact Ww) (λx hx=>by rw[haq];exact nb x hx) mc gc;exact⟨_,by exact⟨rfl,trivial⟩,rfl,⟨_,_,_,_,_,_,hz⟩,(K9.trans ga.kz).trans kz⟩
end
section
variable{Λ:bU}{w w':World}{bs bc:Nat}{S:Sit}{a:yJ}{gv sv:Value}{B:Nat->Nat->Nat}{ad:Nat->Nat->gp}
theorem iC.q9(h:iC Λ bs bc S a gv sv B ad w){b:Nat}(hb:w.heap.size<=b):Λ.pr b=none:=by
 cases hp:Λ.pr b with
 |none=>rfl
 |some o=>have:=ae (h.pr b o hp).1;omega
theorem iC.cl(h:iC Λ bs bc S a gv sv B ad w){x:Nat}(hx:nC S.C.n S.C.sz B bc sv ad x):x<w.heap.size:=by
 rcases hx with rfl|hx|⟨g,i,hg,hi,hx⟩
 ·exact ae h.ci.fC
 ·obtain⟨c,hc⟩:=ax h.ci.row hx;exact ae hc
 ·exact(h.ci.rep g i hg hi).lt hx
theorem iC.box(h:iC Λ bs bc S a gv sv B ad w)(g:GB none w w'){b:Nat}{o:Obj}(hb:w'.heap[b]? = some o)(hl:w.heap.size<=b):iC (Λ.add b o) bs bc S a gv sv B ad w':=by
 have h':=h.au g;refine⟨h'.si,h'.ci,h'.dj,λx q hx=>?_,h'.os,h'.out⟩;unfold bU.add at hx;dsimp only at hx;split at hx
 ·rename_i e
  subst e;cases hx
  exact⟨hb,λe=>(by have:=h.si.lt e;omega),λe=>(by have:=h.cl e;omega)⟩
 ·exact h'.pr x q hx
theorem df.at{b:Nat}{o:Obj}(h:df (Λ.add b o) bs S w):w.heap[b]? = some o:=by
 obtain⟨_,_,_,_,_,_,h⟩:=h;exact(h.pr b o (bU.yB _ _ _)).1
theorem df.drop{b:Nat}{o:Obj}(h:df (Λ.add b o) bs S w)(hb:Λ.pr b=none):df Λ bs S w:=by
 obtain⟨bc,a,gv,sv,B,ad,h⟩:=h;refine⟨bc,a,gv,sv,B,ad,h.si,h.ci,h.dj,λx q hx=>h.pr x q ?_,h.os,h.out⟩;unfold bU.add;dsimp only;rw[if_neg (λe=>by subst e;rw[hb]at hx;cases hx)];exact hx
end
section
variable{A:aO}(HA:bH A)(HN:dH A){Λ:bU}{w:World}{bs:Nat}{S:Sit}
include HA HN
theorem acX(h:df Λ bs S w)(hF:S.aJ A){t:Stp}(ht:t.wf A)(hj:bz t.kind 7=5):gQ Tryz.prog 70 #[Ptt bs,.agg t.cells.toArray] w (λv w'=>v=.bool (S.do A t).2/\df Λ bs (S.do A t).1 w'/\Kz w w'):=by
 have hdo:S.do A t=(S.Od A t,S.look.2):=by unfold Sit.do;rw[hj];rfl
 rw[hdo];have jh:=hF.cl.n;have hs5:=hF.cl.sz;have hlen:=hF.cl.len;have hak:=hF.ak;obtain⟨bc,a,gv,sv,B,ad,hS⟩:=h;obtain⟨q1,q2⟩:=oH (C:=S.C) (k:=t.a) hF.n hF.sz;refine Fy fD Tryz.func70 rfl rfl ?_;refine aG.piece (Q:=λq w1=>∃b3,q=[(0,Ptt bs),(3,Ptt b3)]/\w1.heap[b3]? = some (.cells t.cells.toArray 158)/\GB none w w1/\w.heap.size<=b3) (aG.e ?_) ?_
 ·exact λw1 b3 m1 g1 l1=>⟨_,by exact⟨rfl,rfl,trivial⟩,b3,rfl,m1,g1,l1⟩
 rintro q w1 ⟨b3,rfl,m1,g1,IQ⟩;have h1:=hS.au g1;refine aG.piece (Q:=λq w2=>q=[(0,Ptt bs),(3,Ptt b3),(5,.int .i64 S.C.q.length)]/\GB none w1 w2) (aG.e ?_) ?_
 ·refine⟨_,_,h1.si.mem,_,rfl,_,(rH h1.enter hlen 0 (by decide) (by decide)).x,?_⟩
  rintro lv w2 ⟨o2,g2,_⟩;have e0:S.C.q.length - min (0:Int).toNat S.C.q.length=S.C.q.length:=by simp
  rw[e0]at o2;obtain⟨la,lc,rfl⟩:=af o2;exact⟨_,by exact⟨rfl,rfl,rfl,trivial⟩,rfl,g2⟩
 rintro q w2 ⟨rfl,g2⟩;have h2:=h1.au g2;refine aG.piece (Q:=λq w5=>∃b6,q=[(0,Ptt bs),(3,Ptt b3),(5,.int .i64 S.C.q.length),(6,Ptt b6)]/\w5.heap[b6]? = some (.cells #[.int .u8 (aY S.C t.a),.int .u8 (bN S.C t.a)] 66)/\GB none w2 w5/\w.heap.size<=b6) (aG.e ?_) ?_
 ·refine⟨_,_,g2.get m1 nofun,_,rfl,_,(qL h2.si.mem ⟨hF.n,jh⟩ ⟨hF.sz,hs5⟩ t.a ht.a.1 ht.a.2).x,?_⟩
  rintro _ w3 ⟨rfl,g3⟩;refine λw4 b6 m4 g4 l4=>⟨_,_,_,m4,rfl,rfl,λw5 m5 g5=>?_⟩
  exact⟨_,by exact⟨rfl,rfl,rfl,rfl,trivial⟩,b6,rfl,m5,g3.trans (g4.new g5 l4),Nat.le_trans ((g1.trans g2).trans g3).size l4⟩
 rintro q w5 ⟨b6,rfl,m5,ku,IU⟩;have G:GB none w w5:=(g1.trans g2).trans ku;have m15:=(g2.trans ku).get m1 nofun;have h5:=hS.au G;have un3:Λ.pr b3=none:=hS.q9 IQ;have un6:Λ.pr b6=none:=hS.q9 IU;have l36:b6≠b3:=λe=>by
  subst e;rw[m5]at m15;injection m15 with m15;injection m15 with _ m15;revert m15;decide
 obtain⟨o3,ho3⟩:∃o,o=Obj.cells t.cells.toArray 158:=⟨_,rfl⟩;obtain⟨o6,ND⟩:∃o,o=Obj.cells #[.int .u8 (aY S.C t.a),.int .u8 (bN S.C t.a)] 66:=⟨_,rfl⟩;rw[<-ho3]at m15;rw[<-ND]at m5;have h5':iC ((Λ.add b3 o3).add b6 o6) bs bc S a gv sv B ad w5:=by
  have z:=hS.box G m15 IQ;have z':=h5;refine⟨z.si,z.ci,z.dj,λx q hx=>?_,z.os,z.out⟩;unfold bU.add at hx;dsimp only at hx;split at hx
  ·rename_i e;subst e;cases hx
   exact⟨m5,λe=>(by have:=hS.si.lt e;omega),λe=>(by have:=hS.cl e;omega)⟩
  ·exact z.pr x q hx
 have unA:(Λ.add b3 o3).pr b6=none:=by unfold bU.add;dsimp only;rw[if_neg l36];exact un6
 refine aG.cut (Qn:=λ_ _=>False) (Qx:=λ_ _ _=>False) (Qr:=λq w'=>q=[(4,.bool S.look.2)]/\df Λ bs (S.Od A t) w'/\Kz w w') ?_ (λ_ _ h=>h.elim) (λ_ _ _ _ h _=>h.elim) ?_;rotate_left
 ·rintro q s w' ⟨rfl,h',k'⟩ hs
  exact wo hs ⟨rfl,h',k'⟩
 refine aG.piece (Q:=λq w'=>q=[(0,Ptt bs),(3,Ptt b3),(6,Ptt b6),(28,.int .i64 5)]/\w'=w5) (aG.e ?_) ?_
 ·have pk:=jk w5 t.kind 7 (by decide) ht.kind.1 ht.kind.2
  rw[hj]at pk;rw[ho3]at m15;refine⟨_,_,m15,_,rfl,_,pk.x,?_⟩;rintro _ w5 ⟨rfl,rfl⟩;exact⟨_,by exact⟨rfl,rfl,rfl,rfl,trivial⟩,rfl,rfl⟩
 rintro q w5 ⟨rfl,rfl⟩;refine aG.block ?_;refine aG.piece (Q:=λq w'=>q=[(0,Ptt bs),(3,Ptt b3),(6,Ptt b6),(28,.int .i64 5),(35,.bool false)]/\w'=w5) (aG.e ⟨_,by exact⟨rfl,rfl,rfl,rfl,rfl,trivial⟩,rfl,rfl⟩) ?_;rintro q w5 ⟨rfl,rfl⟩;refine aG.cond false rfl ?_;refine aG.piece (Q:=λq w'=>q=[(0,Ptt bs),(3,Ptt b3),(6,Ptt b6),(28,.int .i64 5),(45,.bool false)]/\w'=w5) (aG.e ⟨_,by exact⟨rfl,rfl,rfl,rfl,rfl,trivial⟩,rfl,rfl⟩) ?_;rintro q w5 ⟨rfl,rfl⟩;refine aG.cond false rfl ?_;refine aG.piece (Q:=λq w'=>q=[(0,Ptt bs),(3,Ptt b3),(6,Ptt b6),(28,.int .i64 5),(94,.bool false)]/\w'=w5) (aG.e ⟨_,by exact⟨rfl,rfl,rfl,rfl,rfl,trivial⟩,rfl,rfl⟩) ?_;rintro q w5 ⟨rfl,rfl⟩;refine aG.cond false rfl ?_;refine aG.piece (Q:=λq w'=>q=[(0,Ptt bs),(3,Ptt b3),(6,Ptt b6),(28,.int .i64 5),(109,.bool false)]/\w'=w5) (aG.e ⟨_,by exact⟨rfl,rfl,rfl,rfl,rfl,trivial⟩,rfl,rfl⟩) ?_;rintro q w5 ⟨rfl,rfl⟩;refine aG.cond false rfl ?_;refine aG.piece (Q:=λq w'=>q=[(0,Ptt bs),(3,Ptt b3),(6,Ptt b6),(28,.int .i64 5),(128,.bool false)]/\w'=w5) (aG.e ⟨_,by exact⟨rfl,rfl,rfl,rfl,rfl,trivial⟩,rfl,rfl⟩) ?_;rintro q w5 ⟨rfl,rfl⟩;refine aG.cond false rfl ?_;refine aG.piece (Q:=λq w'=>q=[(0,Ptt bs),(3,Ptt b3),(6,Ptt b6),(138,.bool true)]/\w'=w5) (aG.e ⟨_,by exact⟨rfl,rfl,rfl,rfl,trivial⟩,rfl,rfl⟩) ?_;rintro q w5 ⟨rfl,rfl⟩;refine aG.cond true rfl ?_;obtain⟨lF,lC⟩:=hF.dX (S.C.n*S.C.sz);have lF:S.look.1.aJ A:=lF;have lC:S.look.1.C=S.C:=lC;obtain⟨T,hT⟩:∃T,T=S.look.1:=⟨_,rfl⟩;obtain⟨r,hr⟩:∃r,r=S.look.2:=⟨_,rfl⟩;have hlk:=SV HN ⟨_,_,_,_,_,_,h5'⟩ hF;have hd5:S.Od A t={ T with C:=T.C.dA A (aY S.C t.a) (bN S.C t.a),fell:=T.fell.set (bz t.a (S.C.n*S.C.sz)) true }:=by rw[hT];rfl
 rw[hd5];rw[<-hT]at lF lC hlk;rw[<-hr]at hlk |-;have hle:S.C.n*S.C.sz<=20:=Nat.mul_le_mul jh hs5;have hpos:0<S.C.n*S.C.sz:=Nat.mul_pos hF.n hF.sz;have hpl:=jy t.a hpos;refine aG.piece (Q:=λq w6=>q=[(0,Ptt bs),(3,Ptt b3),(6,Ptt b6),(14,.bool r)]/\df ((Λ.add b3 o3).add b6 o6) bs T w6/\Kz w w6) (aG.e ?_) ?_
 ·refine⟨_,hlk.x,?_⟩
  rintro _ w6 ⟨rfl,h6,k6⟩;exact⟨_,by exact⟨rfl,rfl,rfl,rfl,trivial⟩,rfl,h6,G.kz.trans k6⟩
 rintro q w6 ⟨rfl,h6,K6⟩;have m66:=h6.at;rw[ND]at m66;obtain⟨bc6,a6,gv6,sv6,B6,ad6,h6⟩:=h6;refine aG.piece (Q:=λq w7=>q=[(0,Ptt bs),(3,Ptt b3),(14,.bool r),(15,.int .i64 0)]/\df ((Λ.add b3 o3).add b6 o6) bs { T with C:=T.C.dA A (aY S.C t.a) (bN S.C t.a) } w7/\Kz w w7) (aG.e ?_) ?_
 ·have hcr:ag Tryz.prog 21 #[Ptt bc6,.agg #[.int .u8 (aY S.C t.a),.int .u8 (bN S.C t.a)]] w6 (λv w'=>v=.int .i64 0/\uP (zO w6 T.C.n T.C.sz B6 bc6 sv6 ad6) bc6 (T.C.dA A (aY S.C t.a) (bN S.C t.a)) w'/\Kz w6 w'):=ag.mono' (Yl HA h6.enter lF.cl (aY S.C t.a) (bN S.C t.a) (by omega) (by omega)) λv w' hp=>⟨hp.1.trans (by rw[if_pos ⟨by rw[lC];exact q1,by rw[lC];exact q2⟩]),hp.2⟩
  refine⟨by kernel_rfl,_,_,h6.si.mem,_,rfl,_,_,m66,[.int .u8 (aY S.C t.a),.int .u8 (bN S.C t.a)],rfl,rfl,_,hcr.x,?_⟩;rintro _ w7 ⟨rfl,hC,k7⟩;obtain⟨en,ez⟩:=aL.vB A T.C (aY S.C t.a) (bN S.C t.a);exact⟨_,by exact⟨rfl,rfl,rfl,rfl,trivial⟩,rfl,h6.leave en ez hC k7,K6.trans k7⟩
 rintro q w7 ⟨rfl,h7,K7⟩;have m37:w7.heap[b3]? = some o3:=(h7.drop unA).at;rw[ho3]at m37;obtain⟨en,ez⟩:=aL.vB A T.C (aY S.C t.a) (bN S.C t.a);refine aG.piece (Q:=λq w8=>q=[(14,.bool r),(15,.int .i64 0)]/\df Λ bs { T with C:=T.C.dA A (aY S.C t.a) (bN S.C t.a),fell:=T.fell.set (bz t.a (S.C.n*S.C.sz)) true } w8/\Kz w w8) (aG.e ?_) ?_
 ·obtain⟨bc7,a7,gv7,sv7,B7,ad7,h7⟩:=h7
  have hmem:=h7.si.mem;have hcn:((T.C.dA A (aY S.C t.a) (bN S.C t.a)).n:Int)*((T.C.dA A (aY S.C t.a) (bN S.C t.a)).sz:Int)=((S.C.n*S.C.sz:Nat):Int):=by rw[en,ez,lC];exact(Int.natCast_mul _ _).symm
  obtain⟨fl,hfl⟩:∃x,T.fell[bz t.a (S.C.n*S.C.sz)]? = some x:=⟨T.fell[bz t.a (S.C.n*S.C.sz)]'(by rw[lF.fe,lC];exact hpl),by simp[lF.fe,lC,hpl]⟩;obtain⟨gf,Qc,abC,Ll,FV,Xj,abD,afn⟩:=qw h7.si.fe (k:=bz t.a (S.C.n*S.C.sz)) (x:=.bool fl) (by rw[getElem?_map];show(T.fell[_]?).map _=_;rw[hfl];rfl);have pk:=jk w7 t.a (S.C.n*S.C.sz) hpos ht.a.1 ht.a.2;rw[<-hcn]at pk;refine⟨by kernel_rfl,_,_,hmem,.slice (Pty gf) T.fell.length Qc,by show(fV _ _ _)[6]? = _;unfold fV;rw[Ll];rfl,_,_,m37,_,rfl,_,_,hmem,_,rfl,_,_,hmem,_,rfl,⟨by show _<=((T.C.dA A (aY S.C t.a) (bN S.C t.a)).n:Int)*((T.C.dA A (aY S.C t.a) (bN S.C t.a)).sz:Int);omega,by show((T.C.dA A (aY S.C t.a) (bN S.C t.a)).n:Int)*((T.C.dA A (aY S.C t.a) (bN S.C t.a)).sz:Int)<=_;omega⟩,_,pk.x,?_⟩;rintro _ w7 ⟨rfl,rfl⟩;have acP:bz t.a (S.C.n*S.C.sz)<T.fell.length:=abD;refine⟨⟨hmem,hmem,m37,hmem,trivial⟩,by omega,_,_,_,FV,gH rfl rfl (by show 0+((bz t.a (S.C.n*S.C.sz):Nat):Int).toNat*1<_;omega),rfl,λw8 m8 g8=>?_⟩;have abL:=h7.si.fe;rw[Ll]at abL;have o8:=own_set' (off:=bz t.a (S.C.n*S.C.sz)) (v:=.bool true) abL FV m8 (by show 0+((bz t.a (S.C.n*S.C.sz):Nat):Int).toNat*1=_;omega) rfl rfl (by show _<T.fell.length*1;omega);have afs:w8.heap[bs]? = _:=g8.get hmem λe=>dw hmem FV (by decide) (Option.some.inj e)
  obtain⟨h8,k8⟩:=h7.fe' (v:=.slice (Pty gf) T.fell.length Qc) (l:=T.fell.set (bz t.a (S.C.n*S.C.sz)) true) (w1:=w8) (w2:=w8) (by rw[Ll];exact g8) (by rw[length_set,map_set];exact o8) (λx hx=>by rw[Ll];exact .inl hx) (by rw[afs];unfold fV;rw[Ll]) (GB.refl _ _);exact⟨_,by exact⟨rfl,rfl,trivial⟩,rfl,df.drop (df.drop ⟨_,_,_,_,_,_,h8⟩ unA) un3,K7.trans k8⟩
 rintro q w8 ⟨rfl,h8,K8⟩;refine aG.e ?_;cases r
 ·exact⟨_,by exact⟨rfl,trivial⟩,rfl,h8,K8⟩
 ·exact⟨_,by exact⟨rfl,trivial⟩,rfl,h8,K8⟩
end
theorem aL.SY{C:aL}(h:C.q.length<=20000)(g i:Nat)(R:MR):C.q.length<=(C.done g i R).q.length:=by
 show _<=(List.take 20000 _).length;rw[length_take,length_append];omega
theorem aL.Hf{A:aO}{C:aL}(h:C.q.length<=20000)(k:Int):C.q.length<=(C.eT A k).q.length:=by
 unfold aL.eT;split
 ·unfold aL.jQ
  split
  ·exact Nat.le_refl _
  ·split
   ·exact aL.SY h _ _ _
   ·exact Nat.le_refl _
 ·exact Nat.le_refl _
theorem aL.Lr{A:aO}{C:aL}(h:C.q.length<=20000)(g i:Nat):C.q.length<=(C.tick A g i).q.length:=by
 unfold aL.tick;split
 ·exact aL.SY h _ _ _
 ·exact Nat.le_refl _
theorem aL.Oe{A:aO}(C:aL)(g i:Nat):(C.dA A g i).q=C.q:=by unfold aL.dA;split<;>rfl
theorem aL.FX(C:aL)(g i:Nat)(d:ByteArray):C.q.length<=(C.send g i d).q.length:=by
 unfold aL.send;split
 ·show _<=(lD _ _).length
  unfold lD;split
  ·simp
  ·exact Nat.le_refl _
 ·exact Nat.le_refl _
theorem aL.Og{C:aL}{g i:Nat}{d:ByteArray}(hg:g<C.n)(hi:i<C.sz)(hd:¬d.size > 1000)(hq:C.q.length<20000):(C.send g i d).q.length=C.q.length+1:=by
 unfold aL.send;rw[if_pos ⟨⟨hg,hi⟩,hd⟩];show(lD _ _).length=_;rw[Ir hq];simp
section
variable{A:aO}{S:Sit}
theorem Sit.aJ.fC(h:S.aJ A){C:aL}(hC:C.aJ A)(hn:C.n=S.C.n)(hz:C.sz=S.C.sz)(hq:S.C.q.length<=C.q.length):Sit.aJ A { S with C:=C }:=⟨hC,by show 0<C.n;rw[hn];exact h.n,by show 0<C.sz;rw[hz];exact h.sz,by show S.bG.length=C.n;rw[hn];exact h.be,by show S.len.length=C.n*C.sz;rw[hn,hz];exact h.le,by show S.fell.length=C.n*C.sz;rw[hn,hz];exact h.fe,Nat.le_trans h.ak hq⟩
theorem Sit.aJ.nxt(h:S.aJ A)(k:Nat):Sit.aJ A { S with next:=k }:=⟨h.cl,h.n,h.sz,h.be,h.le,h.fe,h.ak⟩
end
section
variable{A:aO}(HA:bH A)(HN:dH A)(HL:qb A){S:Sit}
include HA HN
theorem Sit.aJ.all:∀(n:Nat) {S:Sit},S.aJ A->(S.all A n).aJ A
 |0,_,h=>h
 |n+1,S,h=>by
  unfold Sit.all;split
  ·exact Sit.aJ.all n (S:=S.one A) ((h.fC (h.cl.eT HA HN (S.next:Int)) (aL.jl _ _ _).1 (aL.jl _ _ _).2 (aL.Hf h.cl.len _)).nxt _)
  ·exact h
theorem Sit.aJ.j6(h:S.aJ A):∀g,(S.j6 A g).aJ A
 |0=>h
 |g+1=>(Sit.aJ.j6 h g).fC ((Sit.aJ.j6 h g).cl.tick HA HN _ _) (aL.oh _ _ _ _).1 (aL.oh _ _ _ _).2 (aL.Lr (Sit.aJ.j6 h g).cl.len _ _)
theorem Sit.aJ.round(h:S.aJ A):(S.round A).aJ A:=Sit.aJ.all HA HN _ (Sit.aJ.j6 HA HN h _)
include HL
theorem Sit.aJ.sends(h:S.aJ A){q:bQ}(hq:A.gc (fQ q)){g i:Nat}(hg:g<S.C.n)(hi:i<S.C.sz)(hl:S.C.q.length<20000):(S.sends A q g i).aJ A:=by
 have hsm:=HL.small q hq;have h4:=h.cl.n;have h5:=h.cl.sz;have z:=h.fC (h.cl.send (g:=g) (i:=i) (by omega) (by omega) (A.enc (oI q))) (S.C.pV g i _).1 (S.C.pV g i _).2 (S.C.FX g i _);refine⟨z.cl,z.n,z.sz,z.be,z.le,z.fe,?_⟩;show(S.asks++[_]).length<=(S.C.send g i (A.enc (oI q))).q.length;rw[length_append,aL.Og hg hi (by omega) hl];have:=h.ak;show S.asks.length+1<=_;omega
theorem Sit.aJ.do(h:S.aJ A){t:Stp}(ht:t.wf A):(S.do A t).1.aJ A:=by
 obtain⟨q1,q2⟩:=oH (C:=S.C) (k:=t.a) h.n h.sz;have h4:=h.cl.n;have h5:=h.cl.sz;have hp:=jy t.kind (show 0<7 by decide);have hs:=h.fC (h.cl.send (g:=aY S.C t.a) (i:=bN S.C t.a) (by omega) (by omega) t.d) (S.C.pV _ _ _).1 (S.C.pV _ _ _).2 (S.C.FX _ _ _);have hdl:∀k:Int,Sit.aJ A { S with C:=S.C.eT A k }:=λk=>h.fC (h.cl.eT HA HN k) (aL.jl _ _ _).1 (aL.jl _ _ _).2 (aL.Hf h.cl.len _)
 unfold Sit.do;generalize bz t.kind 7=K at hp;match K,hp with
 |0,_ =>
  show Sit.aJ A (if S.C.q.length<20000 then _ else _);split
  ·rename_i c;exact Sit.aJ.sends HA HN HL h ht.r q1 q2 c
  ·exact h
 |1,_ =>
  show Sit.aJ A (S.uy A t);unfold Sit.uy;split
  ·rename_i m hm
   split
   ·rename_i c
    refine⟨hs.cl,hs.n,hs.sz,hs.be,hs.le,hs.fe,?_⟩;show(S.asks++[_]).length<=(S.C.send _ _ t.d).q.length;rw[length_append,aL.Og q1 q2 c.2.1 c.2.2];have:=h.ak;show S.asks.length+1<=_;omega
   ·exact hs
  ·exact hs
 |2,_ =>
  show Sit.aJ A (if 0<S.C.q.length then _ else _:Sit×Bool).1;split
  ·exact hdl _
  ·exact h
 |3,_ =>
  show Sit.aJ A (if 0<S.C.q.length then _ else _:Sit×Bool).1;split
  ·exact hdl _
  ·exact h
 |4,_=>exact h.fC (h.cl.tick HA HN _ _) (aL.oh _ _ _ _).1 (aL.oh _ _ _ _).2 (aL.Lr h.cl.len _ _)
 |5,_ =>
  obtain⟨lF,lC⟩:=h.dX (S.C.n*S.C.sz);have lF:S.look.1.aJ A:=lF;have z:=lF.fC (lF.cl.dA HA HN (aY S.C t.a) (bN S.C t.a)) (aL.vB _ _ _ _).1 (aL.vB _ _ _ _).2 (Nat.le_of_eq (by rw[aL.Oe]));refine⟨z.cl,z.n,z.sz,z.be,z.le,?_,z.ak⟩;show(S.look.1.fell.set _ _).length=_;rw[length_set];exact z.fe
 |6,_=>exact Sit.aJ.all HA HN _ h
variable{Λ:bU}{w:World}{bs:Nat}
theorem aft(h:df Λ bs S w)(hF:S.aJ A){t:Stp}(ht:t.wf A):gQ Tryz.prog 70 #[Ptt bs,.agg t.cells.toArray] w (λv w'=>v=.bool (S.do A t).2/\df Λ bs (S.do A t).1 w'/\Kz w w'):=by
 have hp:=jy t.kind (show 0<7 by decide);obtain⟨K,hK⟩:∃K,bz t.kind 7=K:=⟨_,rfl⟩;rw[hK]at hp;match K,hp,hK with
 |0,_,hK=>exact acQ HA HN HL h hF ht hK
 |1,_,hK=>exact acW HA h hF ht hK
 |2,_,hK=>exact acR HA HN HL h hF ht hK
 |3,_,hK=>exact acS HA HN HL h hF ht hK
 |4,_,hK=>exact acT HA HN HL h hF ht hK
 |5,_,hK=>exact acX HA HN h hF ht hK
 |6,_,hK=>exact acU HA HN HL h hF ht hK
end
end
