/- A step of a script: bytes that are sent. -/
import Derived.Test.YtignemioillaiabGreatG47
namespace Go.Proofs.YtignemioillaiabGreat
set_option maxHeartbeats 8000000
set_option linter.unusedSectionVars false
set_option maxRecDepth 100000
section
open Go Go.Conc
section
variable {A:aT} (HA:bK A) {Λ:bU} {w:World} {bs:Nat} {S:Sit}
theorem Sit.aa3 (A:aT) (S:Sit) (t:Stp):(S.u7 A t).bad=S.bad:=by
 unfold Sit.u7;split
 ·split <;> rfl
 ·rfl
include HA
theorem aa4 (h:bY Λ bs S w) (hF:S.aK A) {t:Stp} (ht:t.wf A) (hj:bf t.kind 7=1):fZ Tryz.prog 26 #[Ptt bs,.agg t.cells.toArray] w (λ v w'=>v=.bool (S.do A t).2/\bY Λ bs (S.do A t).1 w'/\Kz w w'):=by
 have hdo:S.do A t=(S.u7 A t,!S.bad):=by unfold Sit.do;rw [hj];rfl
 rw [hdo];have jB:=hF.cl.n;have hs5:=hF.cl.sz;have hlen:=hF.cl.len;have hak:=hF.ak;obtain ⟨bc,a,gv,sv,B,ad,hS⟩:=h;obtain ⟨q1,q2⟩:=mG (C:=S.C) (k:=t.a) hF.n hF.sz;refine Ew ah Tryz.func26 rfl rfl ?_;refine aJ.piece (Q:=λ q w1=>∃ b3,q=[(0,Ptt bs),(3,Ptt b3)]/\w1.heap[b3]? = some (.cells t.cells.toArray 95)/\GB none w w1/\w.heap.size<=b3) (aJ.of ah mixed ?_) ?_
 ·exact λ w1 b3 m1 g1 l1=>⟨_,by exact ⟨rfl,rfl,trivial⟩,b3,rfl,m1,g1,l1⟩
 rintro q w1 ⟨b3,rfl,m1,g1,GY⟩;have h1:=hS.ax g1;refine aJ.piece (Q:=λ q w2=>q=[(0,Ptt bs),(3,Ptt b3),(5,.int .i64 S.C.q.length)]/\GB none w1 w2) (aJ.of ah mixed ?_) ?_
 ·refine ⟨_,_,h1.si.mem,_,rfl,_,(oq h1.enter hlen 0 (by decide) (by decide)).x,?_⟩
  rintro lv w2 ⟨o2,g2,_⟩;have e0:S.C.q.length - min (0:Int).toNat S.C.q.length=S.C.q.length:=by simp
  rw [e0] at o2;obtain ⟨la,lc,rfl⟩:=ae o2;exact ⟨_,by exact ⟨rfl,rfl,rfl,trivial⟩,rfl,g2⟩
 rintro q w2 ⟨rfl,g2⟩;have h2:=h1.ax g2;refine aJ.piece (Q:=λ q w5=>∃ b6,q=[(0,Ptt bs),(3,Ptt b3),(5,.int .i64 S.C.q.length),(6,Ptt b6)]/\w5.heap[b6]? = some (.cells #[.int .u8 (aZ S.C t.a),.int .u8 (bH S.C t.a)] 48)/\GB none w2 w5/\w.heap.size<=b6) (aJ.of ah mixed ?_) ?_
 ·refine ⟨_,_,g2.get m1 nofun,_,rfl,_,(nD h2.si.mem ⟨hF.n,jB⟩ ⟨hF.sz,hs5⟩ t.a ht.a.1 ht.a.2).x,?_⟩
  rintro _ w3 ⟨rfl,g3⟩;refine λ w4 b6 m4 g4 l4=>⟨_,_,_,m4,rfl,rfl,λ w5 m5 g5=>?_⟩
  exact ⟨_,by exact ⟨rfl,rfl,rfl,rfl,trivial⟩,b6,rfl,m5,g3.trans (g4.new g5 l4),Nat.le_trans ((g1.trans g2).trans g3).size l4⟩
 rintro q w5 ⟨b6,rfl,m5,jJ,GZ⟩;have G:GB none w w5:=(g1.trans g2).trans jJ;have m15:=(g2.trans jJ).get m1 nofun;have h5:=hS.ax G;refine aJ.cut (Qn:=λ q w'=>q=[(0,Ptt bs)]/\bY Λ bs (S.u7 A t) w'/\Kz w w') (Qx:=λ _ _ _=>False) (Qr:=λ _ _=>False) ?_ ?_ (λ _ _ _ _ h _=>h.elim) (λ _ _ _ h _=>h.elim);rotate_left
 ·rintro q w' ⟨rfl,h',k'⟩
  refine aJ.of ah mixed ?_;obtain ⟨_,_,_,_,_,_,h'⟩:=h';refine ⟨_,_,h'.si.mem,_,rfl,?_,⟨_,_,_,_,_,_,h'⟩,k'⟩;show Value.bool (!(S.u7 A t).bad)=_;rw [Sit.aa3]
 refine aJ.piece (Q:=λ q w'=>q=[(0,Ptt bs),(3,Ptt b3),(5,.int .i64 S.C.q.length),(6,Ptt b6),(28,.int .i64 1)]/\w'=w5) (aJ.of ah mixed ?_) ?_
 ·have pk:=iW w5 t.kind 7 (by decide) ht.kind.1 ht.kind.2
  rw [hj] at pk;refine ⟨_,_,m15,_,rfl,_,pk.x,?_⟩;rintro _ w5 ⟨rfl,rfl⟩;exact ⟨_,by exact ⟨rfl,rfl,rfl,rfl,rfl,trivial⟩,rfl,rfl⟩
 rintro q w5 ⟨rfl,rfl⟩;refine aJ.block ?_;refine aJ.piece (Q:=λ q w'=>q=[(0,Ptt bs),(3,Ptt b3),(5,.int .i64 S.C.q.length),(6,Ptt b6),(28,.int .i64 1),(35,.bool false)]/\w'=w5) (aJ.of ah mixed ⟨_,by exact ⟨rfl,rfl,rfl,rfl,rfl,rfl,trivial⟩,rfl,rfl⟩) ?_;rintro q w5 ⟨rfl,rfl⟩;refine aJ.cond false rfl ?_;refine aJ.piece (Q:=λ q w'=>q=[(0,Ptt bs),(3,Ptt b3),(5,.int .i64 S.C.q.length),(6,Ptt b6),(45,.bool true)]/\w'=w5) (aJ.of ah mixed ⟨_,by exact ⟨rfl,rfl,rfl,rfl,rfl,trivial⟩,rfl,rfl⟩) ?_;rintro q w5 ⟨rfl,rfl⟩;refine aJ.cond true rfl ?_;refine aJ.piece (Q:=λ q w8=>∃ b7 e m rv dv vv rv' dS,q=[(0,Ptt bs),(3,Ptt b3),(5,.int .i64 S.C.q.length),(6,Ptt b6),(7,Ptt b7),(8,.int .i64 e)]/\w8.heap[b7]? = some (.cells (dL m rv dv vv rv' dS).toArray 83)/\((e=0/\A.dec t.d=some m)\/(e≠0/\A.dec t.d=none))/\GB none w5 w8/\w.heap.size<=b7) (aJ.of ah mixed ?_) ?_
 ·refine ⟨_,_,m15,_,rfl,_,(HA.parse w5 t.d).x,?_⟩
  rintro _ w6 ⟨⟨mv,e,m,rfl,hm,hc⟩,g6⟩;obtain ⟨rv,dv,vv,rv',dS,rfl,i1,i2,i3⟩:=hm;obtain ⟨_,_,_,_,_,_,rfl,rfl⟩:=i1.sl;obtain ⟨_,_,rfl⟩:=i2.sl;obtain ⟨_,_,_,_,_,_,rfl,rfl⟩:=i3.sl;refine λ w7 b7 m7 g7 l7=>⟨_,_,_,m7,rfl,rfl,λ w8 m8 g8=>?_⟩
  exact ⟨_,by exact ⟨rfl,rfl,rfl,rfl,rfl,rfl,trivial⟩,b7,e,m,_,_,_,_,_,rfl,m8,hc.imp (λ x=>⟨x.1,x.2.1⟩) id,g6.trans (g7.new g8 l7),Nat.le_trans (G.trans g6).size l7⟩
 rintro q w8 ⟨b7,e,m,rv,dv,vv,rv',dS,rfl,m8,hc,Cg,lb7⟩;have h8:=h5.ax Cg;have adu:=Cg.get m15 nofun;have m58:=Cg.get m5 nofun;have nc:∀ {x:Nat},w.heap.size<=x->¬ mh S.C.n S.C.sz B bc sv ad x:=λ {x} hl hC=>by
  rcases hC with e | e | ⟨g',i',p1,p2,p3⟩
  ·subst e;have:=ag hS.ci.eH;omega
  ·obtain ⟨c',hc'⟩:=aD hS.ci.row e;have:=ag hc';omega
  ·have:=(hS.ci.rep g' i' p1 p2).lt p3;omega
 refine aJ.piece (Q:=λ q w9=>∃ k f,q=[(0,Ptt bs),(5,.int .i64 S.C.q.length),(6,Ptt b6),(7,Ptt b7),(8,.int .i64 e),(9,.int .i64 k),(10,.int .i64 f)]/\(f=0↔¬ t.d.size > 1000)/\(f=0->k=(S.C.q.length:Nat))/\w9.heap[b6]? = some (.cells #[.int .u8 (aZ S.C t.a),.int .u8 (bH S.C t.a)] 48)/\w9.heap[b7]? = some (.cells (dL m rv dv vv rv' dS).toArray 83)/\bY Λ bs { S with C:=S.C.send (aZ S.C t.a) (bH S.C t.a) t.d } w9/\Kz w w9) (aJ.of ah mixed ?_) ?_
 ·refine ⟨by kernel_rfl,_,_,h8.si.mem,_,rfl,_,_,m58,[.int .u8 (aZ S.C t.a),.int .u8 (bH S.C t.a)],rfl,rfl,_,_,adu,_,rfl,_,(Jw h8.enter jB hs5 (aZ S.C t.a) (bH S.C t.a) (by omega) (by omega) t.d).x,?_⟩
  rintro _ w9 ⟨rfl,Vy,k9⟩;have pr9:∀ {x:Nat} {o:Obj},w8.heap[x]? = some o->w.heap.size<=x->w9.heap[x]? = some o:=λ {x o} hx hl=>by
   obtain ⟨_,_,_,_,h'⟩:=Vy;exact (h'.pr x o (by unfold yP;dsimp only;rw [if_neg (nc hl)];exact hx)).1
  obtain ⟨en,ez⟩:=S.C.qG (aZ S.C t.a) (bH S.C t.a) t.d;refine ⟨_,by exact ⟨rfl,rfl,rfl,rfl,rfl,rfl,rfl,trivial⟩,_,_,rfl,?_,?_,pr9 m58 GZ,pr9 m8 lb7,h8.leave en ez Vy k9,(G.trans Cg).kz.trans k9⟩
  ·rw [if_pos ⟨q1,q2⟩]
   by_cases c:t.d.size > 1000
   ·rw [if_pos c];simp [c]
   ·rw [if_neg c];simp [c]
  ·rw [if_pos ⟨q1,q2⟩]
   by_cases c:t.d.size > 1000
   ·rw [if_pos c];intro h;cases h
   ·intro _;exact if_pos ⟨⟨q1,q2⟩,c⟩
 rintro q w9 ⟨k,f,rfl,hf1,hf2,m59,Z4,h9,K9⟩;have eno:(∀ m',A.dec t.d=some m'->¬ (m'.kind=1/\¬ t.d.size > 1000/\S.C.q.length<20000))->S.u7 A t={ S with C:=S.C.send (aZ S.C t.a) (bH S.C t.a) t.d }:=λ h=>by
  unfold Sit.u7;cases hd:A.dec t.d with
  | none=>rfl
  | some m'=>show (if m'.kind=1/\¬ t.d.size > 1000/\S.C.q.length<20000 then _ else _)=_;rw [if_neg (h m' hd)]
 refine aJ.piece (Q:=λ q w'=>∃ r:Bool,q=[(0,Ptt bs),(6,Ptt b6),(7,Ptt b7),(9,.int .i64 k),(78,.bool r)]/\(r=true↔(e=0/\m.kind=1/\f=0/\S.C.q.length<20000))/\w'=w9) (aJ.of ah mixed ?_) ?_
 ·refine au (λ x=>?_) (λ x=>?_)
  ·have x1:e=0:=by simpa using x
   refine ⟨_,_,Z4,_,rfl,?_⟩;refine au (λ y=>?_) (λ y=>?_)
   ·have y1:m.kind=1:=by simpa using y
    refine au (λ z=>?_) (λ z=>?_)
    ·have z1:f=0:=by simpa using z
     exact ⟨_,by exact ⟨rfl,rfl,rfl,rfl,rfl,trivial⟩,_,rfl,⟨λ u=>⟨x1,y1,z1,Ti u⟩,λ u=>decide_eq_true (by omega)⟩,rfl⟩
    ·have z1:¬ f=0:=by simpa using z
     exact ⟨_,by exact ⟨rfl,rfl,rfl,rfl,rfl,trivial⟩,false,rfl,⟨λ u=>(by cases u),λ u=>absurd u.2.2.1 z1⟩,rfl⟩
   ·have y1:¬ m.kind=1:=by simpa using y
    exact ⟨_,by exact ⟨rfl,rfl,rfl,rfl,rfl,trivial⟩,false,rfl,⟨λ u=>(by cases u),λ u=>absurd u.2.1 y1⟩,rfl⟩
  ·have x1:¬ e=0:=by simpa using x
   exact ⟨_,by exact ⟨rfl,rfl,rfl,rfl,rfl,trivial⟩,false,rfl,⟨λ u=>(by cases u),λ u=>absurd u.1 x1⟩,rfl⟩
 rintro q w9 ⟨r,rfl,hr,rfl⟩;refine aJ.cond r rfl ?_;cases r
 ·refine aJ.of ah mixed ⟨_,by exact ⟨rfl,trivial⟩,rfl,?_,K9⟩
  rw [eno λ m' hm' h=>?_]
  ·exact h9
  ·have:¬ (e=0/\m.kind=1/\f=0/\S.C.q.length<20000):=λ h=>by have:=hr.2 h;cases this
   rcases hc with ⟨e0,hd⟩ | ⟨e0,hd⟩
   ·rw [hd] at hm';cases hm';exact this ⟨e0,h.1,hf1.2 h.2.1,h.2.2⟩
   ·rw [hd] at hm';cases hm'
 ·obtain ⟨x1,y1,z1,u1⟩:=hr.1 rfl
  have hd:A.dec t.d=some m:=by
   rcases hc with ⟨_,hd⟩ | ⟨e0,_⟩
   ·exact hd
   ·exact absurd x1 e0
  have ek:S.u7 A t=S.Z0 A t m:=by
   unfold Sit.u7;rw [hd];show (if m.kind=1/\¬ t.d.size > 1000/\S.C.q.length<20000 then _ else _)=_;rw [if_pos ⟨y1,hf1.1 z1,u1⟩]
  have hk:=hf2 z1;subst hk;rw [ek];refine aJ.of ah mixed ?_;obtain ⟨bc',a',Qi,dx,B',jo,h9⟩:=h9;have wB:=h9.si.mem;obtain ⟨aa,Uk,haq⟩:=ae h9.si.ak;have Z5:=h9.si.ak;rw [haq] at Z5;refine ⟨by kernel_rfl,_,_,wB,.slice aa S.asks.length Uk,by show (gp _ _ _)[3]? = _;unfold gp;rw [haq];rfl,_,_,Z4,m.q.cells,rfl,rfl,_,_,m59,_,rfl,λ wa ba ma ga la=>?_⟩;have haa:=aA Z5 (w1:=wa) λ x hx=>by obtain ⟨c,hc⟩:=aD Z5 hx;exact ga.block x (ag hc) nofun
  refine ⟨⟨ga.get m59 nofun,ga.get Z4 nofun,ga.get wB nofun,trivial⟩,?_⟩;refine ⟨_,(Ask.mk m.q (aZ S.C t.a) S.C.q.length).cells,haa,⟨_,_,ma,rfl,rfl,rfl⟩,by show S.asks.length+1<=_;omega,λ v' wb UU gb nb=>?_⟩;have mm:wb.heap[bs]? = _:=gb.get (ga.get wB nofun) λ e=>by
   obtain ⟨c,hc⟩:=aD haa e.symm;exact df (ga.get wB nofun) hc (by decide) rfl
  obtain ⟨va,vc,rfl⟩:=ae UU;refine ⟨_,_,_,mm,rfl,rfl,λ wc mc gc=>?_⟩;obtain ⟨hz,kz⟩:=(h9.ax ga).ak' (l:=S.asks++[⟨m.q,aZ S.C t.a,S.C.q.length⟩]) (by rw [haq];exact gb) (by rw [List.length_append,List.map_append,List.flatten_append];exact UU) (λ x hx=>by rw [haq];exact nb x hx) mc gc;exact ⟨_,by exact ⟨rfl,trivial⟩,rfl,⟨_,_,_,_,_,_,hz⟩,(K9.trans ga.kz).trans kz⟩
end
section
variable {Λ:bU} {w w':World} {bs bc:Nat} {S:Sit} {a:zk} {gv sv:Value} {B:Nat->Nat->Nat} {ad:Nat->Nat->fH}
theorem gU.qf (h:gU Λ bs bc S a gv sv B ad w) {b:Nat} (hb:w.heap.size<=b):Λ.pr b=none:=by
 cases hp:Λ.pr b with
 | none=>rfl
 | some o=>have:=ag (h.pr b o hp).1;omega
theorem gU.cl (h:gU Λ bs bc S a gv sv B ad w) {x:Nat} (hx:mh S.C.n S.C.sz B bc sv ad x):x<w.heap.size:=by
 rcases hx with rfl | hx | ⟨g,i,hg,hi,hx⟩
 ·exact ag h.ci.eH
 ·obtain ⟨c,hc⟩:=aD h.ci.row hx;exact ag hc
 ·exact (h.ci.rep g i hg hi).lt hx
theorem gU.box (h:gU Λ bs bc S a gv sv B ad w) (g:GB none w w') {b:Nat} {o:Obj} (hb:w'.heap[b]? = some o) (hl:w.heap.size<=b):gU (Λ.add b o) bs bc S a gv sv B ad w':=by
 have h':=h.ax g;refine ⟨h'.si,h'.ci,h'.dj,λ x q hx=>?_,h'.os,h'.out⟩;unfold bU.add at hx;dsimp only at hx;split at hx
 ·rename_i e
  subst e;cases hx
  exact ⟨hb,λ e=>(by have:=h.si.lt e;omega),λ e=>(by have:=h.cl e;omega)⟩
 ·exact h'.pr x q hx
theorem bY.at {b:Nat} {o:Obj} (h:bY (Λ.add b o) bs S w):w.heap[b]? = some o:=by
 obtain ⟨_,_,_,_,_,_,h⟩:=h;exact (h.pr b o (bU.xz _ _ _)).1
theorem bY.drop {b:Nat} {o:Obj} (h:bY (Λ.add b o) bs S w) (hb:Λ.pr b=none):bY Λ bs S w:=by
 obtain ⟨bc,a,gv,sv,B,ad,h⟩:=h;refine ⟨bc,a,gv,sv,B,ad,h.si,h.ci,h.dj,λ x q hx=>h.pr x q ?_,h.os,h.out⟩;unfold bU.add;dsimp only;rw [if_neg (λ e=>by subst e;rw [hb] at hx;cases hx)];exact hx
end
section
variable {A:aT} (HA:bK A) (HN:gJ A) {Λ:bU} {w:World} {bs:Nat} {S:Sit}
include HA HN
theorem aa5 (h:bY Λ bs S w) (hF:S.aK A) {t:Stp} (ht:t.wf A) (hj:bf t.kind 7=5):fZ Tryz.prog 26 #[Ptt bs,.agg t.cells.toArray] w (λ v w'=>v=.bool (S.do A t).2/\bY Λ bs (S.do A t).1 w'/\Kz w w'):=by
 have hdo:S.do A t=(S.MN A t,S.look.2):=by unfold Sit.do;rw [hj];rfl
 rw [hdo];have jB:=hF.cl.n;have hs5:=hF.cl.sz;have hlen:=hF.cl.len;have hak:=hF.ak;obtain ⟨bc,a,gv,sv,B,ad,hS⟩:=h;obtain ⟨q1,q2⟩:=mG (C:=S.C) (k:=t.a) hF.n hF.sz;refine Ew ah Tryz.func26 rfl rfl ?_;refine aJ.piece (Q:=λ q w1=>∃ b3,q=[(0,Ptt bs),(3,Ptt b3)]/\w1.heap[b3]? = some (.cells t.cells.toArray 95)/\GB none w w1/\w.heap.size<=b3) (aJ.of ah mixed ?_) ?_
 ·exact λ w1 b3 m1 g1 l1=>⟨_,by exact ⟨rfl,rfl,trivial⟩,b3,rfl,m1,g1,l1⟩
 rintro q w1 ⟨b3,rfl,m1,g1,GY⟩;have h1:=hS.ax g1;refine aJ.piece (Q:=λ q w2=>q=[(0,Ptt bs),(3,Ptt b3),(5,.int .i64 S.C.q.length)]/\GB none w1 w2) (aJ.of ah mixed ?_) ?_
 ·refine ⟨_,_,h1.si.mem,_,rfl,_,(oq h1.enter hlen 0 (by decide) (by decide)).x,?_⟩
  rintro lv w2 ⟨o2,g2,_⟩;have e0:S.C.q.length - min (0:Int).toNat S.C.q.length=S.C.q.length:=by simp
  rw [e0] at o2;obtain ⟨la,lc,rfl⟩:=ae o2;exact ⟨_,by exact ⟨rfl,rfl,rfl,trivial⟩,rfl,g2⟩
 rintro q w2 ⟨rfl,g2⟩;have h2:=h1.ax g2;refine aJ.piece (Q:=λ q w5=>∃ b6,q=[(0,Ptt bs),(3,Ptt b3),(5,.int .i64 S.C.q.length),(6,Ptt b6)]/\w5.heap[b6]? = some (.cells #[.int .u8 (aZ S.C t.a),.int .u8 (bH S.C t.a)] 48)/\GB none w2 w5/\w.heap.size<=b6) (aJ.of ah mixed ?_) ?_
 ·refine ⟨_,_,g2.get m1 nofun,_,rfl,_,(nD h2.si.mem ⟨hF.n,jB⟩ ⟨hF.sz,hs5⟩ t.a ht.a.1 ht.a.2).x,?_⟩
  rintro _ w3 ⟨rfl,g3⟩;refine λ w4 b6 m4 g4 l4=>⟨_,_,_,m4,rfl,rfl,λ w5 m5 g5=>?_⟩
  exact ⟨_,by exact ⟨rfl,rfl,rfl,rfl,trivial⟩,b6,rfl,m5,g3.trans (g4.new g5 l4),Nat.le_trans ((g1.trans g2).trans g3).size l4⟩
 rintro q w5 ⟨b6,rfl,m5,jJ,GZ⟩;have G:GB none w w5:=(g1.trans g2).trans jJ;have m15:=(g2.trans jJ).get m1 nofun;have h5:=hS.ax G;have un3:Λ.pr b3=none:=hS.qf GY;have un6:Λ.pr b6=none:=hS.qf GZ;have l36:b6≠b3:=λ e=>by
  subst e;rw [m5] at m15;injection m15 with m15;injection m15 with _ m15;revert m15;decide
 obtain ⟨o3,ho3⟩:∃ o,o=Obj.cells t.cells.toArray 95:=⟨_,rfl⟩;obtain ⟨o6,Mf⟩:∃ o,o=Obj.cells #[.int .u8 (aZ S.C t.a),.int .u8 (bH S.C t.a)] 48:=⟨_,rfl⟩;rw [<- ho3] at m15;rw [<- Mf] at m5;have h5':gU ((Λ.add b3 o3).add b6 o6) bs bc S a gv sv B ad w5:=by
  have z:=hS.box G m15 GY;have z':=h5;refine ⟨z.si,z.ci,z.dj,λ x q hx=>?_,z.os,z.out⟩;unfold bU.add at hx;dsimp only at hx;split at hx
  ·rename_i e;subst e;cases hx
   exact ⟨m5,λ e=>(by have:=hS.si.lt e;omega),λ e=>(by have:=hS.cl e;omega)⟩
  ·exact z.pr x q hx
 have unA:(Λ.add b3 o3).pr b6=none:=by unfold bU.add;dsimp only;rw [if_neg l36];exact un6
 refine aJ.cut (Qn:=λ _ _=>False) (Qx:=λ _ _ _=>False) (Qr:=λ q w'=>q=[(4,.bool S.look.2)]/\bY Λ bs (S.MN A t) w'/\Kz w w') ?_ (λ _ _ h=>h.elim) (λ _ _ _ _ h _=>h.elim) ?_;rotate_left
 ·rintro q s w' ⟨rfl,h',k'⟩ hs
  exact qY hs ⟨rfl,h',k'⟩
 refine aJ.piece (Q:=λ q w'=>q=[(0,Ptt bs),(3,Ptt b3),(6,Ptt b6),(28,.int .i64 5)]/\w'=w5) (aJ.of ah mixed ?_) ?_
 ·have pk:=iW w5 t.kind 7 (by decide) ht.kind.1 ht.kind.2
  rw [hj] at pk;rw [ho3] at m15;refine ⟨_,_,m15,_,rfl,_,pk.x,?_⟩;rintro _ w5 ⟨rfl,rfl⟩;exact ⟨_,by exact ⟨rfl,rfl,rfl,rfl,trivial⟩,rfl,rfl⟩
 rintro q w5 ⟨rfl,rfl⟩;refine aJ.block ?_;refine aJ.piece (Q:=λ q w'=>q=[(0,Ptt bs),(3,Ptt b3),(6,Ptt b6),(28,.int .i64 5),(35,.bool false)]/\w'=w5) (aJ.of ah mixed ⟨_,by exact ⟨rfl,rfl,rfl,rfl,rfl,trivial⟩,rfl,rfl⟩) ?_;rintro q w5 ⟨rfl,rfl⟩;refine aJ.cond false rfl ?_;refine aJ.piece (Q:=λ q w'=>q=[(0,Ptt bs),(3,Ptt b3),(6,Ptt b6),(28,.int .i64 5),(45,.bool false)]/\w'=w5) (aJ.of ah mixed ⟨_,by exact ⟨rfl,rfl,rfl,rfl,rfl,trivial⟩,rfl,rfl⟩) ?_;rintro q w5 ⟨rfl,rfl⟩;refine aJ.cond false rfl ?_;refine aJ.piece (Q:=λ q w'=>q=[(0,Ptt bs),(3,Ptt b3),(6,Ptt b6),(28,.int .i64 5),(94,.bool false)]/\w'=w5) (aJ.of ah mixed ⟨_,by exact ⟨rfl,rfl,rfl,rfl,rfl,trivial⟩,rfl,rfl⟩) ?_;rintro q w5 ⟨rfl,rfl⟩;refine aJ.cond false rfl ?_;refine aJ.piece (Q:=λ q w'=>q=[(0,Ptt bs),(3,Ptt b3),(6,Ptt b6),(28,.int .i64 5),(109,.bool false)]/\w'=w5) (aJ.of ah mixed ⟨_,by exact ⟨rfl,rfl,rfl,rfl,rfl,trivial⟩,rfl,rfl⟩) ?_;rintro q w5 ⟨rfl,rfl⟩;refine aJ.cond false rfl ?_;refine aJ.piece (Q:=λ q w'=>q=[(0,Ptt bs),(3,Ptt b3),(6,Ptt b6),(28,.int .i64 5),(128,.bool false)]/\w'=w5) (aJ.of ah mixed ⟨_,by exact ⟨rfl,rfl,rfl,rfl,rfl,trivial⟩,rfl,rfl⟩) ?_;rintro q w5 ⟨rfl,rfl⟩;refine aJ.cond false rfl ?_;refine aJ.piece (Q:=λ q w'=>q=[(0,Ptt bs),(3,Ptt b3),(6,Ptt b6),(138,.bool true)]/\w'=w5) (aJ.of ah mixed ⟨_,by exact ⟨rfl,rfl,rfl,rfl,trivial⟩,rfl,rfl⟩) ?_;rintro q w5 ⟨rfl,rfl⟩;refine aJ.cond true rfl ?_;obtain ⟨lF,lC⟩:=hF.eU (S.C.n*S.C.sz);have lF:S.look.1.aK A:=lF;have lC:S.look.1.C=S.C:=lC;obtain ⟨T,hT⟩:∃ T,T=S.look.1:=⟨_,rfl⟩;obtain ⟨r,hr⟩:∃ r,r=S.look.2:=⟨_,rfl⟩;have hlk:=J6 HN ⟨_,_,_,_,_,_,h5'⟩ hF;have hd5:S.MN A t={ T with C:=T.C.di A (aZ S.C t.a) (bH S.C t.a),fell:=T.fell.set (bf t.a (S.C.n*S.C.sz)) true }:=by rw [hT];rfl
 rw [hd5];rw [<- hT] at lF lC hlk;rw [<- hr] at hlk |-;have hle:S.C.n*S.C.sz<=20:=Nat.mul_le_mul jB hs5;have hpos:0<S.C.n*S.C.sz:=Nat.mul_pos hF.n hF.sz;have hpl:=je t.a hpos;refine aJ.piece (Q:=λ q w6=>q=[(0,Ptt bs),(3,Ptt b3),(6,Ptt b6),(14,.bool r)]/\bY ((Λ.add b3 o3).add b6 o6) bs T w6/\Kz w w6) (aJ.of ah mixed ?_) ?_
 ·refine ⟨_,hlk.x,?_⟩
  rintro _ w6 ⟨rfl,h6,k6⟩;exact ⟨_,by exact ⟨rfl,rfl,rfl,rfl,trivial⟩,rfl,h6,G.kz.trans k6⟩
 rintro q w6 ⟨rfl,h6,K6⟩;have m66:=h6.at;rw [Mf] at m66;obtain ⟨Vz,a6,gv6,sv6,B6,ad6,h6⟩:=h6;refine aJ.piece (Q:=λ q w7=>q=[(0,Ptt bs),(3,Ptt b3),(14,.bool r),(15,.int .i64 0)]/\bY ((Λ.add b3 o3).add b6 o6) bs { T with C:=T.C.di A (aZ S.C t.a) (bH S.C t.a) } w7/\Kz w w7) (aJ.of ah mixed ?_) ?_
 ·have hcr:af Tryz.prog 53 #[Ptt Vz,.agg #[.int .u8 (aZ S.C t.a),.int .u8 (bH S.C t.a)]] w6 (λ v w'=>v=.int .i64 0/\tK (yP w6 T.C.n T.C.sz B6 Vz sv6 ad6) Vz (T.C.di A (aZ S.C t.a) (bH S.C t.a)) w'/\Kz w6 w'):=af.mono' (WC HA h6.enter lF.cl (aZ S.C t.a) (bH S.C t.a) (by omega) (by omega)) λ v w' hp=>⟨hp.1.trans (by rw [if_pos ⟨by rw [lC];exact q1,by rw [lC];exact q2⟩]),hp.2⟩
  refine ⟨by kernel_rfl,_,_,h6.si.mem,_,rfl,_,_,m66,[.int .u8 (aZ S.C t.a),.int .u8 (bH S.C t.a)],rfl,rfl,_,hcr.x,?_⟩;rintro _ w7 ⟨rfl,hC,k7⟩;obtain ⟨en,ez⟩:=aL.xI A T.C (aZ S.C t.a) (bH S.C t.a);exact ⟨_,by exact ⟨rfl,rfl,rfl,rfl,trivial⟩,rfl,h6.leave en ez hC k7,K6.trans k7⟩
 rintro q w7 ⟨rfl,h7,K7⟩;have Z6:w7.heap[b3]? = some o3:=(h7.drop unA).at;rw [ho3] at Z6;obtain ⟨en,ez⟩:=aL.xI A T.C (aZ S.C t.a) (bH S.C t.a);refine aJ.piece (Q:=λ q w8=>q=[(14,.bool r),(15,.int .i64 0)]/\bY Λ bs { T with C:=T.C.di A (aZ S.C t.a) (bH S.C t.a),fell:=T.fell.set (bf t.a (S.C.n*S.C.sz)) true } w8/\Kz w w8) (aJ.of ah mixed ?_) ?_
 ·obtain ⟨bc7,a7,gv7,sv7,B7,ad7,h7⟩:=h7
  have hmem:=h7.si.mem;have hcn:((T.C.di A (aZ S.C t.a) (bH S.C t.a)).n:Int)*((T.C.di A (aZ S.C t.a) (bH S.C t.a)).sz:Int)=((S.C.n*S.C.sz:Nat):Int):=by rw [en,ez,lC];exact (Int.natCast_mul _ _).symm
  obtain ⟨fl,hfl⟩:∃ x,T.fell[bf t.a (S.C.n*S.C.sz)]? = some x:=⟨T.fell[bf t.a (S.C.n*S.C.sz)]'(by rw [lF.fe,lC];exact hpl),by simp [lF.fe,lC,hpl]⟩;obtain ⟨gf,OJ,ZW,J8,ER,Vw,ZX,adq⟩:=ru h7.si.fe (k:=bf t.a (S.C.n*S.C.sz)) (x:=.bool fl) (by rw [List.getElem?_map];show (T.fell[_]?).map _=_;rw [hfl];rfl);have pk:=iW w7 t.a (S.C.n*S.C.sz) hpos ht.a.1 ht.a.2;rw [<- hcn] at pk;refine ⟨by kernel_rfl,_,_,hmem,.slice (some ⟨gf,0,none⟩) T.fell.length OJ,by show (gp _ _ _)[6]? = _;unfold gp;rw [J8];rfl,_,_,Z6,_,rfl,_,_,hmem,_,rfl,_,_,hmem,_,rfl,⟨by show _<=((T.C.di A (aZ S.C t.a) (bH S.C t.a)).n:Int)*((T.C.di A (aZ S.C t.a) (bH S.C t.a)).sz:Int);omega,by show ((T.C.di A (aZ S.C t.a) (bH S.C t.a)).n:Int)*((T.C.di A (aZ S.C t.a) (bH S.C t.a)).sz:Int)<=_;omega⟩,_,pk.x,?_⟩;rintro _ w7 ⟨rfl,rfl⟩;have aaX:bf t.a (S.C.n*S.C.sz)<T.fell.length:=ZX;refine ⟨⟨hmem,hmem,Z6,hmem,trivial⟩,⟨by omega,by omega⟩,_,_,_,ER,fJ rfl rfl (by show 0+((bf t.a (S.C.n*S.C.sz):Nat):Int).toNat*1<_;omega),rfl,λ w8 m8 g8=>?_⟩;have Z7:=h7.si.fe;rw [J8] at Z7;have o8:=own_set' (off:=bf t.a (S.C.n*S.C.sz)) (v:=.bool true) Z7 ER m8 (by show 0+((bf t.a (S.C.n*S.C.sz):Nat):Int).toNat*1=_;omega) rfl rfl (by show _<T.fell.length*1;omega);have adv:w8.heap[bs]? = _:=g8.get hmem λ e=>df hmem ER (by decide) (Option.some.inj e)
  obtain ⟨h8,k8⟩:=h7.ZM (v:=.slice (some ⟨gf,0,none⟩) T.fell.length OJ) (l:=T.fell.set (bf t.a (S.C.n*S.C.sz)) true) (w1:=w8) (w2:=w8) (by rw [J8];exact g8) (by rw [List.length_set,List.map_set];exact o8) (λ x hx=>by rw [J8];exact .inl hx) (by rw [adv];unfold gp;rw [J8]) (GB.refl _ _);exact ⟨_,by exact ⟨rfl,rfl,trivial⟩,rfl,bY.drop (bY.drop ⟨_,_,_,_,_,_,h8⟩ unA) un3,K7.trans k8⟩
 rintro q w8 ⟨rfl,h8,K8⟩;refine aJ.of ah mixed ?_;cases r
 ·exact ⟨_,by exact ⟨rfl,trivial⟩,rfl,h8,K8⟩
 ·exact ⟨_,by exact ⟨rfl,trivial⟩,rfl,h8,K8⟩
end
theorem aL.Q0 {C:aL} (h:C.q.length<=20000) (g i:Nat) (R:MR):C.q.length<=(C.done g i R).q.length:=by
 show _<=(List.take 20000 _).length;rw [List.length_take,List.length_append];omega
theorem aL.FU {A:aT} {C:aL} (h:C.q.length<=20000) (k:Int):C.q.length<=(C.dH A k).q.length:=by
 unfold aL.dH;split
 ·unfold aL.fV
  split
  ·exact Nat.le_refl _
  ·split
   ·exact aL.Q0 h _ _ _
   ·exact Nat.le_refl _
 ·exact Nat.le_refl _
theorem aL.Kb {A:aT} {C:aL} (h:C.q.length<=20000) (g i:Nat):C.q.length<=(C.tick A g i).q.length:=by
 unfold aL.tick;split
 ·exact aL.Q0 h _ _ _
 ·exact Nat.le_refl _
theorem aL.MO {A:aT} (C:aL) (g i:Nat):(C.di A g i).q=C.q:=by unfold aL.di;split <;> rfl
theorem aL.Kc (C:aL) (g i:Nat) (d:ByteArray):C.q.length<=(C.send g i d).q.length:=by
 unfold aL.send;split
 ·show _<=(kC _ _).length
  unfold kC;split
  ·simp
  ·exact Nat.le_refl _
 ·exact Nat.le_refl _
theorem aL.MP {C:aL} {g i:Nat} {d:ByteArray} (hg:g<C.n) (hi:i<C.sz) (hd:¬ d.size > 1000) (hq:C.q.length<20000):(C.send g i d).q.length=C.q.length+1:=by
 unfold aL.send;rw [if_pos ⟨⟨hg,hi⟩,hd⟩];show (kC _ _).length=_;rw [Ar hq];simp
section
variable {A:aT} {S:Sit}
theorem Sit.aK.eH (h:S.aK A) {C:aL} (hC:C.aK A) (hn:C.n=S.C.n) (hz:C.sz=S.C.sz) (hq:S.C.q.length<=C.q.length):Sit.aK A { S with C:=C }:=⟨hC,by show 0<C.n;rw [hn];exact h.n,by show 0<C.sz;rw [hz];exact h.sz,by show S.dM.length=C.n;rw [hn];exact h.be,by show S.len.length=C.n*C.sz;rw [hn,hz];exact h.le,by show S.fell.length=C.n*C.sz;rw [hn,hz];exact h.fe,Nat.le_trans h.ak hq⟩
theorem Sit.aK.nxt (h:S.aK A) (k:Nat):Sit.aK A { S with next:=k }:=⟨h.cl,h.n,h.sz,h.be,h.le,h.fe,h.ak⟩
end
section
variable {A:aT} (HA:bK A) (HN:gJ A) (HL:rO A) {S:Sit}
include HA HN
theorem Sit.aK.all:∀ (n:Nat) {S:Sit},S.aK A->(S.all A n).aK A
 | 0,_,h=>h
 | n+1,S,h=>by
  unfold Sit.all;split
  ·exact Sit.aK.all n (S:=S.one A) ((h.eH (h.cl.dH HA HN (S.next:Int)) (aL.jr _ _ _).1 (aL.jr _ _ _).2 (aL.FU h.cl.len _)).nxt _)
  ·exact h
theorem Sit.aK.jH (h:S.aK A):∀ g,(S.jH A g).aK A
 | 0=>h
 | g+1=>(Sit.aK.jH h g).eH ((Sit.aK.jH h g).cl.tick HA HN _ _) (aL.oD _ _ _ _).1 (aL.oD _ _ _ _).2 (aL.Kb (Sit.aK.jH h g).cl.len _ _)
theorem Sit.aK.round (h:S.aK A):(S.round A).aK A:=Sit.aK.all HA HN _ (Sit.aK.jH HA HN h _)
include HL
theorem Sit.aK.sends (h:S.aK A) {q:bN} (hq:A.gc (gI q)) {g i:Nat} (hg:g<S.C.n) (hi:i<S.C.sz) (hl:S.C.q.length<20000):(S.sends A q g i).aK A:=by
 have hsm:=HL.small q hq;have h4:=h.cl.n;have h5:=h.cl.sz;have z:=h.eH (h.cl.send (g:=g) (i:=i) (by omega) (by omega) (A.enc (nE q))) (S.C.qG g i _).1 (S.C.qG g i _).2 (S.C.Kc g i _);refine ⟨z.cl,z.n,z.sz,z.be,z.le,z.fe,?_⟩;show (S.asks++[_]).length<=(S.C.send g i (A.enc (nE q))).q.length;rw [List.length_append,aL.MP hg hi (by omega) hl];have:=h.ak;show S.asks.length+1<=_;omega
theorem Sit.aK.do (h:S.aK A) {t:Stp} (ht:t.wf A):(S.do A t).1.aK A:=by
 obtain ⟨q1,q2⟩:=mG (C:=S.C) (k:=t.a) h.n h.sz;have h4:=h.cl.n;have h5:=h.cl.sz;have hp:=je t.kind (show 0<7 by decide);have hs:=h.eH (h.cl.send (g:=aZ S.C t.a) (i:=bH S.C t.a) (by omega) (by omega) t.d) (S.C.qG _ _ _).1 (S.C.qG _ _ _).2 (S.C.Kc _ _ _);have hdl:∀ k:Int,Sit.aK A { S with C:=S.C.dH A k }:=λ k=>h.eH (h.cl.dH HA HN k) (aL.jr _ _ _).1 (aL.jr _ _ _).2 (aL.FU h.cl.len _)
 unfold Sit.do;generalize bf t.kind 7=K at hp;match K,hp with
 | 0,_ =>
  show Sit.aK A (if S.C.q.length<20000 then _ else _);split
  ·rename_i c;exact Sit.aK.sends HA HN HL h ht.r q1 q2 c
  ·exact h
 | 1,_ =>
  show Sit.aK A (S.u7 A t);unfold Sit.u7;split
  ·rename_i m hm
   split
   ·rename_i c
    refine ⟨hs.cl,hs.n,hs.sz,hs.be,hs.le,hs.fe,?_⟩;show (S.asks++[_]).length<=(S.C.send _ _ t.d).q.length;rw [List.length_append,aL.MP q1 q2 c.2.1 c.2.2];have:=h.ak;show S.asks.length+1<=_;omega
   ·exact hs
  ·exact hs
 | 2,_ =>
  show Sit.aK A (if 0<S.C.q.length then _ else _:Sit×Bool).1;split
  ·exact hdl _
  ·exact h
 | 3,_ =>
  show Sit.aK A (if 0<S.C.q.length then _ else _:Sit×Bool).1;split
  ·exact hdl _
  ·exact h
 | 4,_=>exact h.eH (h.cl.tick HA HN _ _) (aL.oD _ _ _ _).1 (aL.oD _ _ _ _).2 (aL.Kb h.cl.len _ _)
 | 5,_ =>
  obtain ⟨lF,lC⟩:=h.eU (S.C.n*S.C.sz);have lF:S.look.1.aK A:=lF;have z:=lF.eH (lF.cl.di HA HN (aZ S.C t.a) (bH S.C t.a)) (aL.xI _ _ _ _).1 (aL.xI _ _ _ _).2 (Nat.le_of_eq (by rw [aL.MO]));refine ⟨z.cl,z.n,z.sz,z.be,z.le,?_,z.ak⟩;show (S.look.1.fell.set _ _).length=_;rw [List.length_set];exact z.fe
 | 6,_=>exact Sit.aK.all HA HN _ h
variable {Λ:bU} {w:World} {bs:Nat}
theorem adw (h:bY Λ bs S w) (hF:S.aK A) {t:Stp} (ht:t.wf A):fZ Tryz.prog 26 #[Ptt bs,.agg t.cells.toArray] w (λ v w'=>v=.bool (S.do A t).2/\bY Λ bs (S.do A t).1 w'/\Kz w w'):=by
 have hp:=je t.kind (show 0<7 by decide);obtain ⟨K,hK⟩:∃ K,bf t.kind 7=K:=⟨_,rfl⟩;rw [hK] at hp;match K,hp,hK with
 | 0,_,hK=>exact aaY HA HN HL h hF ht hK
 | 1,_,hK=>exact aa4 HA h hF ht hK
 | 2,_,hK=>exact aaZ HA HN HL h hF ht hK
 | 3,_,hK=>exact aa0 HA HN HL h hF ht hK
 | 4,_,hK=>exact aa1 HA HN HL h hF ht hK
 | 5,_,hK=>exact aa5 HA HN h hF ht hK
 | 6,_,hK=>exact aa2 HA HN HL h hF ht hK
end
end
end Go.Proofs.YtignemioillaiabGreat
