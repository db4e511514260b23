/- Lemmas. -/
import Derived.Test.YtignemioillaiaaGreatG26
namespace Go.Proofs.YtignemioillaiaaGreat
set_option maxHeartbeats 8000000
set_option maxRecDepth 100000
open List
section
open Go Go.Conc
structure GM(A:aO)(R:MR)(f:Nat×Nat)(m:MM):Prop where
 bn:m.b.n<=4294967295
 ask:m.kind=1->A.gc (fQ m.q)
 vs:m.kind=4->(∀v∈m.vs,A.gc v.c/\v.slot<60)/\m.vs.length<=1000000/\f.2<5
 acc:m.kind=6->A.gc m.c/\m.s<60
 qI:m.kind=7->m.s<60/\f.2<5
 dec:m.kind=8->A.gc m.c/\m.s<60
 lU:m.kind=9->0<=m.r.src/\m.r.src.toNat<R.st.I.length/\m.r.seq<=4294967295/\A.gc (kZ m.r)
 jC:m.kind=10->0<=m.peer/\m.peer.toNat<R.st.O.length/\A.gc (oZ m.peer m.seq)
section
variable(A:aO)
def pK(R:MR)(f:Nat×Nat)(m:MM):MR:=if m.kind=1 then wy A R m.q else if m.kind=3 then tN A.enc R f m.b else if m.kind=4 then jr A R f m.b m.vs else if m.kind=5 then(if R.sc.b.lt m.b=true then gq R else R)else if m.kind=6 then kP A R f m else if m.kind=7 then uX A R f m else if m.kind=8 then iZ A R m.s m.c else if m.kind=9 then tO A R f m.r else if m.kind=10 then tQ A R m.peer.toNat m.seq else R
def oG(R:MR)(m:MM):MR:={ R with sc:={ R.sc with seen:=max R.sc.seen m.b.n } }
def kJ(R:MR)(f:Nat×Nat)(d:ByteArray):MR:=match A.dec d with
 |none=>R
 |some m=>if f.1=255/\m.kind≠1 then R else pK A (oG R m) f m
end
section
variable{A:aO}(HA:bH A){Λ:bU}{w:World}{br:Nat}{R:MR}
theorem Ok.seen(ho:Ok A R){m:MM}(hm:m.b.n<=4294967295):Ok A (oG R m):=⟨ho.sz,ho.i,ho.st,ho.kn,ho.pp,ho.vt,ho.wv,ho.mt,ho.ac,ho.pr,ho.lg,ho.lc,ho.nx,by show max R.sc.seen m.b.n<=_;have:=ho.sn.1;omega,ho.sn.2.1,ho.sn.2.2⟩
include HA
theorem Yi(hk:∀d m,A.dec d=some m->1<=m.kind/\m.kind<=10)(h:Wk Λ br R w)(ho:Ok A R)(f t:Nat×Nat)(d:ByteArray)(hm:∀m,A.dec d=some m->¬(f.1=255/\m.kind≠1)->GM A R f m)(hb:R.out.length<=840000):ag Tryz.prog 65 #[Ptt br,.agg #[.int .u8 f.1,.int .u8 f.2,.int .u8 t.1,.int .u8 t.2,.string d]] w (λv w'=>v=.tuple #[]/\Wk Λ br (kJ A R f d) w'/\Kz w w'):=by
 have hbr:br<w.heap.size:=by obtain⟨a,h⟩:=h;exact ae h.ri.mem
 refine wu fD Tryz.func65 rfl rfl ?_;refine CS.piece (Q:=λq w'=>∃b1,q=[(0,Ptt br),(3,Ptt b1)]/\w'.heap[b1]? = some (.cells #[.int .u8 f.1,.int .u8 f.2,.int .u8 t.1,.int .u8 t.2,.string d] 139)/\GB none w w'/\w.heap.size<=b1) (CS.e λw1 b1 m1 g1 l1=>⟨_,by exact⟨rfl,rfl,trivial⟩,b1,rfl,m1,g1,l1⟩) ?_;rintro _ w1 ⟨b1,rfl,m1,g1,l1⟩;refine CS.piece (Q:=λq w4=>∃b3 e m ra rn rc da dn dc uo Kw rc' sj yA su va vc,q=[(0,Ptt br),(3,Ptt b1),(4,Ptt b3),(5,.int .i64 e)]/\w4.heap[b3]? = some (.cells (dS m (.slice ra rn rc) (.slice da dn dc) (.slice va m.vs.length vc) (.slice uo Kw rc') (.slice sj yA su)).toArray 203)/\aM w4 m.c.r (.slice ra rn rc) (.slice da dn dc)/\bY w4 (.slice va m.vs.length vc) m.vs/\aM w4 m.r (.slice uo Kw rc') (.slice sj yA su)/\GB none w1 w4/\w1.heap.size<=b3/\((e=0/\A.dec d=some m)\/(e≠0/\A.dec d=none))) (CS.e ?_) ?_
 ·refine⟨_,_,m1,_,rfl,_,HA.parse w1 d,?_⟩
  rintro _ w2 ⟨⟨mv,e,m,rfl,hmv,hd'⟩,g2⟩;obtain⟨rv,dv,vv,rv',eU,rfl,hr,hvs,hr'⟩:=hmv;obtain⟨ra,rn,rc,da,dn,dc,rfl,rfl⟩:=hr.sl;obtain⟨uo,Kw,rc',sj,yA,su,rfl,rfl⟩:=hr'.sl;obtain⟨va,vc,rfl⟩:=hvs.sl;intro w3 b3 m3 g3 l3;refine⟨_,_,_,m3,rfl,rfl,λw4 m4 g4=>?_⟩;have g24:GB none w2 w4:=g3.new g4 l3;exact⟨_,by exact⟨rfl,rfl,rfl,rfl,trivial⟩,b3,e,m,ra,rn,rc,da,dn,dc,uo,Kw,rc',sj,yA,su,va,vc,rfl,m4,hr.kz g24.kz,hvs.kz g24.kz,hr'.kz g24.kz,g2.trans g24,Nat.le_trans g2.size l3,hd'.imp (λq=>⟨q.1,q.2.1⟩) id⟩
 rintro _ w4 ⟨b3,e,m,ra,rn,rc,da,dn,dc,uo,Kw,rc',sj,yA,su,va,vc,rfl,m4,hr,hvs,hr',g4,l3,hd⟩;have m1:=g4.get m1 nofun;have gg:=g1.trans g4;obtain⟨a,h4⟩:=h.au gg;refine CS.cut (Qn:=λq w'=>A.dec d=some m/\¬(f.1=255/\m.kind≠1)/\q=[(0,Ptt br),(3,Ptt b1),(4,Ptt b3)]/\w'=w4) (Qx:=λ_ _ _=>False) (Qr:=λq w'=>kJ A R f d=R/\q=[]/\w'=w4) (CS.e ?_) ?_ (λ_ _ _ _ h _=>h.elim) ?_
 ·rcases hd with⟨rfl,hd⟩|⟨he,hd⟩
  ·refine⟨_,_,m1,_,rfl,aj (λc=>?_) (λc=>?_)⟩
   ·have c1:f.1=255:=by simp at c;omega
    refine⟨_,_,m4,_,rfl,aj (λc=>?_) (λc=>?_)⟩
    ·have c2:m.kind≠1:=by simpa using c
     exact⟨_,by exact trivial,by unfold kJ;rw[hd];exact if_pos ⟨c1,c2⟩,rfl,rfl⟩
    ·have c2:m.kind=1:=by simpa using c
     exact⟨_,by exact⟨rfl,rfl,rfl,trivial⟩,hd,λq=>q.2 c2,rfl,rfl⟩
   ·have c1:¬f.1=255:=by simp at c;omega
    exact⟨_,by exact⟨rfl,rfl,rfl,trivial⟩,hd,λq=>c1 q.1,rfl,rfl⟩
  ·refine aj (λc=>?_) (λc=>?_)
   ·exfalso;simp at c;exact he c
   ·exact⟨_,by exact trivial,by unfold kJ;rw[hd],rfl,rfl⟩
 rotate_left
 ·rintro _ s w4 ⟨em,rfl,rfl⟩ hs
  rw[em];exact wo hs ⟨rfl,⟨_,h4⟩,gg.kz⟩
 rintro _ w4 ⟨hd,hn,rfl,rfl⟩;have em:kJ A R f d=pK A (oG R m) f m:=by unfold kJ;rw[hd];exact if_neg hn
 rw[em];have hkk:=hk d m hd;have hm:=hm m hd hn;have ho:=ho.seen hm.bn;have l4:=g1.size;have GJ:(if(m.b.n:Int) > (R.sc.seen:Int)then(m.b.n:Int)else(R.sc.seen:Int))=((max R.sc.seen m.b.n:Nat):Int):=by split<;>omega
 refine CS.piece (Q:=λq w5=>q=[(0,Ptt br),(3,Ptt b1),(4,Ptt b3)]/\Wk Λ br (oG R m) w5/\GB (some br) w4 w5/\Kz w4 w5) (CS.e ?_) ?_
 ·refine⟨by kernel_rfl,_,_,h4.ri.mem,_,rfl,_,_,m4,_,rfl,_,_,pG (oG R m) a,h4.ri.mem,rfl,by unfold pG oG;dsimp only;rw[<-GJ];rfl,λw5 m5 g5=>?_⟩
  exact⟨_,by exact⟨rfl,rfl,rfl,trivial⟩,rfl,⟨_,h4.cell (s':=(oG R m).sc) m5 g5⟩,g5,h4.ri.kz h4.ri.jo g5⟩
 rintro _ w5 ⟨rfl,h,g5,k5⟩;replace m1:=g5.get m1 λe=>by cases e;omega
 replace m4:=g5.get m4 λe=>by cases e;omega
 replace hr:=hr.kz k5;replace hvs:=hvs.kz k5;replace hr':=hr'.kz k5;have K5:=gg.kz.trans k5;have hb1:(oG R m).out.length<=840000:=hb;replace hm:GM A (oG R m) f m:=⟨hm.bn,hm.ask,hm.vs,hm.acc,hm.qI,hm.dec,hm.lU,hm.jC⟩;refine CS.piece (Q:=λq w'=>q=[(0,Ptt br),(3,Ptt b1),(4,Ptt b3),(37,.int .u8 m.kind)]/\w'=w5) (CS.e ⟨_,_,m4,_,rfl,_,by exact⟨rfl,rfl,rfl,rfl,trivial⟩,rfl,rfl⟩) ?_;rintro _ w5 ⟨rfl,rfl⟩;clear h4 g5 k5 hk hd hn em GJ;generalize oG R m=R at *;obtain⟨kind,q,p,b,s,c,vs,r,peer,seq⟩:=m;dsimp only at hkk;refine CS.e ?_;obtain rfl|rfl|rfl|rfl|rfl|rfl|rfl|rfl|rfl|rfl:kind=1\/kind=2\/kind=3\/kind=4\/kind=5\/kind=6\/kind=7\/kind=8\/kind=9\/kind=10:=by omega
 ·refine⟨_,_,m4,q.cells,rfl,rfl,_,aat HA h ho (q:=q) (hm.ask rfl) (by omega),?_⟩
  rintro _ w6 ⟨rfl,h6,k6⟩;exact⟨rfl,h6,K5.trans k6⟩
 ·exact⟨rfl,h,K5⟩
 ·refine⟨_,_,m1,[.int .u8 f.1,.int .u8 f.2],rfl,rfl,_,_,m4,bC b,rfl,rfl,_,X4 HA.nI h f b (by omega),?_⟩
  rintro _ w6 ⟨rfl,h6,k6⟩;exact⟨rfl,h6,K5.trans k6⟩
 ·refine⟨_,_,m1,[.int .u8 f.1,.int .u8 f.2],rfl,rfl,_,_,m4,bC b,rfl,rfl,_,_,m4,_,rfl,_,Px HA h ho f (hm.vs rfl).2.2 b (hm.vs rfl).1 (hm.vs rfl).2.1 hvs hb1,?_⟩
  rintro _ w6 ⟨rfl,h6,k6⟩;exact⟨rfl,h6,K5.trans k6⟩
 ·refine⟨_,_,m4,bC b,rfl,rfl,_,Rk h b,?_⟩
  rintro _ w6 ⟨rfl,h6,k6⟩;exact⟨rfl,h6,K5.trans k6⟩
 ·refine⟨_,_,m1,[.int .u8 f.1,.int .u8 f.2],rfl,rfl,_,_,m4,_,rfl,rfl,_,Pv HA h f ⟨_,_,_,_,_,rfl,hr,hvs,hr'⟩ (by omega),?_⟩
  rintro _ w6 ⟨rfl,h6,k6⟩;exact⟨rfl,h6,K5.trans k6⟩
 ·refine⟨_,_,m1,[.int .u8 f.1,.int .u8 f.2],rfl,rfl,_,_,m4,_,rfl,rfl,_,X8 HA h ho f (hm.qI rfl).2 (hm.qI rfl).1 ⟨_,_,_,_,_,rfl,hr,hvs,hr'⟩ (by omega),?_⟩
  rintro _ w6 ⟨rfl,h6,k6⟩;exact⟨rfl,h6,K5.trans k6⟩
 ·refine⟨_,_,m4,_,rfl,_,_,m4,dC c (.slice ra rn rc) (.slice da dn dc),rfl,rfl,_,Kn HA h ho (hm.dec rfl).2 (hm.dec rfl).1 (c:=c) ⟨_,_,rfl,hr⟩ (by omega),?_⟩
  rintro _ w6 ⟨rfl,h6,k6⟩;exact⟨rfl,h6,K5.trans k6⟩
 ·refine⟨_,_,m1,[.int .u8 f.1,.int .u8 f.2],rfl,rfl,_,_,m4,eu r (.slice uo Kw rc') (.slice sj yA su),rfl,rfl,_,X9 HA h ho f (hm.lU rfl).1 (hm.lU rfl).2.1 (hm.lU rfl).2.2.1 (hm.lU rfl).2.2.2 hr' (by omega),?_⟩
  rintro _ w6 ⟨rfl,h6,k6⟩;exact⟨rfl,h6,K5.trans k6⟩
 ·have ep:(peer.toNat:Int)=peer:=Int.toNat_of_nonneg (hm.jC rfl).1
  have hcall:=Yd HA h ho (p:=peer.toNat) (hm.jC rfl).2.1 (s:=seq) (by rw[ep];exact(hm.jC rfl).2.2) (by omega);rw[ep]at hcall;refine⟨_,_,m4,_,rfl,_,_,m4,_,rfl,_,hcall,?_⟩;rintro _ w6 ⟨rfl,h6,k6⟩;exact⟨rfl,h6,K5.trans k6⟩
end
def fI(w:World):bU:=⟨λb=>w.heap[b]?,w.os,w.output⟩
def zSt:St:=⟨0,0,[],[],[],[],[]⟩
def zR(g i gs sz:Nat):MR:=⟨⟨g,i,gs,sz,⟨0,0⟩,⟨0,0⟩,0,0,0,0⟩,λ_=>none,λ_=>none,λ_=>none,[],zSt,[],λ_=>none,λ_=>none,λ_=>none⟩
def Ed(A:aO)(g i gs sz:Nat):MR:=mStart A (zR g i gs sz)
theorem fG.zero(w:World):fG w Ptz Ptz Ptz Ptz Ptz zSt :=
 ⟨Fz.nil _ _ _,Fz.nil _ _ _,Fz.nil _ _ _,⟨[],rfl,Fz.nil _ _ _,λi o q h=>(by simp[zSt]at h)⟩,Fz.nil _ _ _⟩
section
variable{A:aO}(HA:bH A){w:World}
include HA
theorem aay(g i gs sz:Nat)(hg:g<gs)(hn:gs<=4):ag Tryz.prog 57 #[.agg #[.int .u8 g,.int .u8 i],.int .i64 gs,.int .i64 sz] w (λv w'=>∃br,v=(Ptt br)/\w.heap.size<=br/\Wk (fI w) br (Ed A g i gs sz) w'/\Kz w w'):=by
 refine ah Tryz.func57 rfl rfl ?_;intro w1 b1 m1 g1 l1;refine⟨_,_,m1,[.int .u8 g,.int .u8 i],rfl,rfl,?_⟩;refine λw2 b2 m2 g2 l2=>?_
 refine λw3 b3 m3 g3 l3=>?_
 refine λw4 b4 m4 g4 l4=>?_
 refine λw5 b5 m5 g5 l5=>?_
 refine λw6 b6 m6 g6 l6=>?_
 refine @Eq.mp (∀w7 b7,fP w7 b7 (λ_=>none)->GB none w6 w7->w6.heap.size<=b7->∀w8 b8,w8.heap[b8]? = some (.cells (pG (zR g i gs sz) ⟨b2,b3,b4,b5,b6,b7,Ptz,Ptz,Ptz,Ptz,Ptz,Ptz,.slice none 0 0⟩).toArray 152)->GB none w7 w8->w7.heap.size<=b8->∃Q:Value->World->Prop,ag Tryz.prog 61 #[Ptt b8] w8 Q/\∀v w',Q v w'->∃br,(Ptt b8)=(Ptt br)/\w.heap.size<=br/\Wk (fI w) br (Ed A g i gs sz) w'/\Kz w w') _ (by kernel_rfl) ?_;intro w7 b7 m7 g7 l7 w8 b8 m8 g8 l8;have m8':w8.heap[b8]? = some (.cells (pG (zR g i gs sz) ⟨b2,b3,b4,b5,b6,b7,Ptz,Ptz,Ptz,Ptz,Ptz,Ptz,.slice none 0 0⟩).toArray 152):=m8;have G2:GB none w w2:=g1.trans g2;have G7:GB none w w7:=((((G2.trans g3).trans g4).trans g5).trans g6).trans g7;have G8:GB none w w8:=G7.trans g8;have t7:GB none w7 w8:=g8;have t6:=g7.trans t7;have t5:=g6.trans t6;have t4:=g5.trans t5;have t3:=g4.trans t4;have t2:=g3.trans t3;have q2:=m2.lt;have q3:=m3.lt;have q4:=m4.lt;have q5:=m5.lt;have q6:=m6.lt;have q7:=m7.lt;have z1:=g1.size;have z2:=g2.size;have z3:=g3.size;have z4:=g4.size;have z5:=g5.size;have z6:=g6.size;have z7:=g7.size;have Bf:RI w8 b8 (zR g i gs sz) ⟨b2,b3,b4,b5,b6,b7,Ptz,Ptz,Ptz,Ptz,Ptz,Ptz,.slice none 0 0⟩:=by
  refine⟨m8',bT.none (m2.keep (t2.block _ q2 nofun)),bT.none (m3.keep (t3.block _ q3 nofun)),bT.none (m4.keep (t4.block _ q4 nofun)),bT.none (m5.keep (t5.block _ q5 nofun)),bT.none (m6.keep (t6.block _ q6 nofun)),bT.none (m7.keep (t7.block _ q7 nofun)),⟨[],rfl,dZ _ _ _,λi c p h=>(by simp[zR]at h)⟩,fG.zero _,dZ _ _ _,?_⟩;simp;omega
 have h8:Wk (fI w) b8 (zR g i gs sz) w8:=by
  refine⟨_,Bf,λb o hb=>?_,G8.os,G8.out⟩;have hl:=ae hb;refine⟨G8.get hb nofun,λho=>?_⟩;rcases ho with e|e|e|e|e|e|e|e|e
  ·omega
  ·have e:b=b2:=e
   omega
  ·have e:b=b3:=e
   omega
  ·have e:b=b4:=e
   omega
  ·have e:b=b5:=e
   omega
  ·have e:b=b6:=e
   omega
  ·have e:b=b7:=e
   omega
  ·cases e
  ·cases e
 refine⟨_,Ky HA h8 hg hn,?_⟩;rintro _ w9 ⟨rfl,h9,k9⟩;exact⟨b8,rfl,by omega,h9,G8.kz.trans k9⟩
end
def Wy:List Nat:=[152,54,139,131]
def Ny:List Nat:=[132,133]
theorem mU{t:Nat}(h:t∈Ny):t ∉ Wy:=by
 unfold Ny at h;simp only[mem_cons,not_mem_nil,or_false]at h;rcases h with rfl|rfl<;>decide
def aeY(w:World)(gv:Value)(n sz:Nat)(B:Nat->Nat->Nat):Prop:=∃bg cg cur tg,gv=.slice (Pty bg) n cg/\n<=cg/\w.heap[bg]? = some (.cells cur tg)/\tg∈Ny/\∀g,g<n->∃bs ct cur' ts,cur.toList[g]? = some (.slice (Pty bs) sz ct)/\sz<=ct/\w.heap[bs]? = some (.cells cur' ts)/\ts∈Ny/\∀i,i<sz->cur'.toList[i]? = some (.pointer (some ⟨B g i,0,none⟩))
structure CI(w:World)(bc:Nat)(gv sv:Value)(q:List bJ)(n sz:Nat)(B:Nat->Nat->Nat)(ad:Nat->Nat->gp)(F:Nat->Nat->MR):Prop where
 fC:w.heap[bc]? = some (.cells #[gv,sv] 131)
 row:w.ownsRow 0 139 5 sv q.length (flat q)
 len:q.length<=20000
 ptr:aeY w gv n sz B
 rep:∀g i,g<n->i<sz->RI w (B g i) (F g i) (ad g i)
 sep:∀g i g' i' x,g<n->i<sz->g'<n->i'<sz->Own (B g i) (ad g i) x->Own (B g' i') (ad g' i') x->g=g'/\i=i'
 ob:∀g i x,g<n->i<sz->sv.ownBlock=some x->¬Own (B g i) (ad g i) x
open Classical in
noncomputable def rest(w:World)(br:Nat)(a:gp):bU:=⟨λb=>if Own br a b then none else w.heap[b]?,w.os,w.output⟩
def fH{α:Type}(F:Nat->Nat->α)(g i:Nat)(r:α):Nat->Nat->α:=λg' i'=>if g'=g/\i'=i then r else F g' i'
theorem bL{α:Type}(F:Nat->Nat->α)(g i:Nat)(r:α):fH F g i r g i=r:=if_pos ⟨rfl,rfl⟩
theorem bf{α:Type}(F:Nat->Nat->α){g i g' i':Nat}(r:α)(h:¬(g'=g/\i'=i)):fH F g i r g' i'=F g' i':=if_neg h
def nC(n sz:Nat)(B:Nat->Nat->Nat)(bc:Nat)(sv:Value)(ad:Nat->Nat->gp)(x:Nat):Prop:=x=bc\/sv.ownBlock=some x\/∃g i,g<n/\i<sz/\Own (B g i) (ad g i) x
def pM(n sz:Nat)(B:Nat->Nat->Nat)(bc:Nat)(w:World)(sv:Value)(ad:Nat->Nat->gp)(w':World)(bX:Value)(jM:Nat->Nat->gp):Prop:=∀x o,w.heap[x]? = some o->¬nC n sz B bc sv ad x->w'.heap[x]? = some o/\¬nC n sz B bc bX jM x
theorem pM.trans{n sz:Nat}{B:Nat->Nat->Nat}{bc:Nat}{w w' w'':World}{sv bX aaz:Value}{ad jM aaA:Nat->Nat->gp}(h:pM n sz B bc w sv ad w' bX jM)(k:pM n sz B bc w' bX jM w'' aaz aaA):pM n sz B bc w sv ad w'' aaz aaA:=λx o hx hn=>k x o (h x o hx hn).1 (h x o hx hn).2
theorem pM.au{n sz:Nat}{B:Nat->Nat->Nat}{bc:Nat}{w w':World}{sv:Value}{ad:Nat->Nat->gp}(k:GB none w w'):pM n sz B bc w sv ad w' sv ad:=λ_ _ hx hn=>⟨k.get hx nofun,hn⟩
theorem RI.Br{w:World}{br:Nat}{R:MR}{a:gp}(h:RI w br R a){x:Nat}(hx:Own br a x){c:Array Value}{t:TypeId}(hc:w.heap[x]? = some (.cells c t)):t=152\/t=54\/t=139:=by
 have mp:∀{m:Nat},(∃es k,w.heap[m]? = some (.map es k))->x=m->False:=by
  rintro m ⟨es,k,h1⟩ rfl;rw[h1]at hc;cases hc
 rcases hx with hx|hx|hx|hx|hx|hx|hx|hx|hx
 ·subst hx;rw[h.mem]at hc;injection hc with hc;injection hc with _ hc;exact .inl hc.symm
 ·exact(mp h.vm.obj hx).elim
 ·exact(mp h.wm.obj hx).elim
 ·exact(mp h.kn.obj hx).elim
 ·exact(mp h.mt.obj hx).elim
 ·exact(mp h.pp.obj hx).elim
 ·exact(mp h.ac.obj hx).elim
 ·obtain⟨cur,h1⟩:=h.lg.obj hx;rw[h1]at hc;injection hc with hc;injection hc with _ hc;exact .inr (.inl hc.symm)
 ·obtain⟨cur,h1⟩:=ax h.ob hx;rw[h1]at hc;injection hc with hc;injection hc with _ hc;exact .inr (.inr hc.symm)
section
variable{w w':World}{bc:Nat}{gv sv:Value}{q:List bJ}{n sz:Nat}{B:Nat->Nat->Nat}{ad:Nat->Nat->gp}{F:Nat->Nat->MR}
theorem CI.au(h:CI w bc gv sv q n sz B ad F)(k:GB none w w'):CI w' bc gv sv q n sz B ad F:=by
 obtain⟨bg,cg,cur,tg,e1,e2,e3,e4,e5⟩:=h.ptr;refine⟨k.get h.fC nofun,ay h.row λx hx=>?_,h.len,⟨bg,cg,cur,tg,e1,e2,k.get e3 nofun,e4,λg hg=>?_⟩,λg i hg hi=>(h.rep g i hg hi).au k,h.sep,h.ob⟩
 ·obtain⟨c,hc⟩:=ax h.row hx
  exact k.block x (ae hc) nofun
 ·obtain⟨bs,ct,cur',ts,f1,f2,f3,f4,f5⟩:=e5 g hg
  exact⟨bs,ct,cur',ts,f1,f2,k.get f3 nofun,f4,f5⟩
theorem CI.enter(h:CI w bc gv sv q n sz B ad F){g i:Nat}(hg:g<n)(hi:i<sz):Wk (rest w (B g i) (ad g i)) (B g i) (F g i) w:=by
 refine⟨ad g i,h.rep g i hg hi,λb o hb=>?_,rfl,rfl⟩;unfold rest at hb;dsimp only at hb;split at hb
 ·cases hb
 ·rename_i hn
  exact⟨hb,hn⟩
theorem CI.Rv(h:CI w bc gv sv q n sz B ad F){g i:Nat}(hg:g<n)(hi:i<sz){R':MR}{a':gp}(hw:Wa (rest w (B g i) (ad g i)) (B g i) R' a' w')(k:Kz w w'):CI w' bc gv sv q n sz B (fH ad g i a') (fH F g i R')/\w'.os=w.os/\w'.output=w.output/\pM n sz B bc w sv ad w' sv (fH ad g i a'):=by
 have kp:∀{x:Nat} {o:Obj},w.heap[x]? = some o->¬Own (B g i) (ad g i) x->w'.heap[x]? = some o/\¬Own (B g i) a' x:=λ{x o} hx hn=>hw.pr x o (by unfold rest;dsimp only;rw[if_neg hn];exact hx)
 have nm:∀{x:Nat} {c:Array Value} {t:TypeId},w.heap[x]? = some (.cells c t)->t≠152->t≠54->t≠139->¬Own (B g i) (ad g i) x:=λhx h1 h2 h3 ho=>by
  rcases(h.rep g i hg hi).Br ho hx with e|e|e
  ·exact h1 e
  ·exact h2 e
  ·exact h3 e
 have nt:∀{t:TypeId},t ∉ Wy->t≠152/\t≠54/\t≠139:=λ{t} ht=>⟨λe=>ht (by rw[e];decide),λe=>ht (by rw[e];decide),λe=>ht (by rw[e];decide)⟩
 have fU:∀{g' i':Nat},g'<n->i'<sz->¬(g'=g/\i'=i)->∀x,Own (B g' i') (ad g' i') x->w'.heap[x]? = w.heap[x]?/\¬Own (B g i) a' x:=by
  intro g' i' hg' hi' hne x hx;have hlt:=(h.rep g' i' hg' hi').lt hx;obtain⟨o,ho⟩:∃o,w.heap[x]? = some o:=⟨w.heap[x],by simp[hlt]⟩;obtain⟨h1,h2⟩:=kp ho λhx'=>hne (by obtain⟨e1,e2⟩:=h.sep g' i' g i x hg' hi' hg hi hx hx';exact⟨e1,e2⟩)
  exact⟨h1.trans ho.symm,h2⟩
 refine⟨⟨(kp h.fC (nm h.fC (by decide) (by decide) (by decide))).1,ay h.row λx hx=>?_,h.len,?_,λg' i' hg' hi'=>?_,?_,?_⟩,hw.os,hw.out,λx o hx hn=>?_⟩
 ·obtain⟨c,hc⟩:=ax h.row hx
  exact(kp hc (h.ob g i x hg hi hx)).1.trans hc.symm
 ·obtain⟨bg,cg,cur,tg,e1,e2,e3,e4,e5⟩:=h.ptr
  obtain⟨t1,t2,t3⟩:=nt (mU e4);refine⟨bg,cg,cur,tg,e1,e2,(kp e3 (nm e3 t1 t2 t3)).1,e4,λg hg=>?_⟩;obtain⟨bs,ct,cur',ts,f1,f2,f3,f4,f5⟩:=e5 g hg;obtain⟨t1,t2,t3⟩:=nt (mU f4);exact⟨bs,ct,cur',ts,f1,f2,(kp f3 (nm f3 t1 t2 t3)).1,f4,f5⟩
 ·by_cases e:g'=g/\i'=i
  ·obtain⟨rfl,rfl⟩:=e
   rw[bL,bL];exact hw.ri
  ·rw[bf _ _ e,bf _ _ e]
   exact(h.rep g' i' hg' hi').keep k λx hx=>(fU hg' hi' e x hx).1
 ·intro g1 i1 g2 i2 x h1 h2 h3 h4 o1 o2
  by_cases e1:g1=g/\i1=i<;>by_cases e2:g2=g/\i2=i
  ·exact⟨e1.1.trans e2.1.symm,e1.2.trans e2.2.symm⟩
  ·obtain⟨rfl,rfl⟩:=e1
   rw[bL]at o1;rw[bf _ _ e2]at o2;exact((fU h3 h4 e2 x o2).2 o1).elim
  ·obtain⟨rfl,rfl⟩:=e2
   rw[bL]at o2;rw[bf _ _ e1]at o1;exact((fU h1 h2 e1 x o1).2 o2).elim
  ·rw[bf _ _ e1]at o1
   rw[bf _ _ e2]at o2;exact h.sep g1 i1 g2 i2 x h1 h2 h3 h4 o1 o2
 ·intro g1 i1 x h1 h2 hx o1
  by_cases e1:g1=g/\i1=i
  ·obtain⟨rfl,rfl⟩:=e1
   rw[bL]at o1;obtain⟨c,hc⟩:=ax h.row hx;exact(kp hc (h.ob _ _ x h1 h2 hx)).2 o1
  ·rw[bf _ _ e1]at o1
   exact h.ob g1 i1 x h1 h2 hx o1
 ·obtain⟨h1,h2⟩:=kp hx λho=>hn (.inr (.inr ⟨g,i,hg,hi,ho⟩))
  refine⟨h1,λhc=>?_⟩;rcases hc with e|e|⟨g1,i1,q1,q2,o1⟩
  ·exact hn (.inl e)
  ·exact hn (.inr (.inl e))
  ·by_cases e1:g1=g/\i1=i
   ·obtain⟨rfl,rfl⟩:=e1
    rw[bL]at o1;exact h2 o1
   ·rw[bf _ _ e1]at o1
    exact hn (.inr (.inr ⟨g1,i1,q1,q2,o1⟩))
theorem CI.leave(h:CI w bc gv sv q n sz B ad F){g i:Nat}(hg:g<n)(hi:i<sz){R':MR}(hw:Wk (rest w (B g i) (ad g i)) (B g i) R' w')(k:Kz w w'):∃jM,CI w' bc gv sv q n sz B jM (fH F g i R')/\w'.os=w.os/\w'.output=w.output/\pM n sz B bc w sv ad w' sv jM:=by
 obtain⟨a',hw⟩:=hw;exact⟨_,h.Rv hg hi hw k⟩
end
section
variable{w:World}{bc:Nat}{gv sv:Value}{q:List bJ}{n sz:Nat}{B:Nat->Nat->Nat}{ad:Nat->Nat->gp}{F:Nat->Nat->MR}
theorem find_ok(h:CI w bc gv sv q n sz B ad F)(_hn:n<=4)(_hs:sz<=5)(g i:Nat)(hg:g<256)(hi:i<256):ag Tryz.prog 58 #[Ptt bc,.agg #[.int .u8 g,.int .u8 i]] w (λv w'=>v=.pointer (if g<n/\i<sz then some ⟨B g i,0,none⟩else none)/\GB none w w'):=by
 refine ah Tryz.func58 rfl rfl ?_;intro w1 b1 m1 g1 l1;obtain⟨bg,cg,cur,tg,rfl,e2,e3,e4,e5⟩:=h.ptr;have hc:=g1.get h.fC nofun;have e3:=g1.get e3 nofun;refine⟨by kernel_rfl,_,_,m1,_,rfl,.inl ⟨by omega,_,_,m1,_,rfl,.inl ⟨by omega,?_⟩⟩⟩;refine⟨_,_,hc,_,rfl,aj (λc=>?_) (λc=>?_)⟩
 ·have c1:g<n:=by simp at c;omega
  obtain⟨bs,ct,cur',ts,f1,f2,f3,f4,f5⟩:=e5 g c1;have f3:=g1.get f3 nofun;refine⟨_,_,hc,_,rfl,by omega,_,_,e3,.slice (Pty bs) sz ct,by show cur.toList[0+g*1]? = _;rw[Nat.mul_one,Nat.zero_add];exact f1,?_⟩;refine aj (λd=>?_) (λd=>?_)
  ·have d1:¬(g<n/\i<sz):=by simp at d;omega
   rw[if_neg d1];exact⟨rfl,g1⟩
  ·have d1:i<sz:=by simp at d;omega
   rw[if_pos ⟨c1,d1⟩];refine⟨_,_,hc,_,rfl,by omega,_,_,e3,.slice (Pty bs) sz ct,by show cur.toList[0+g*1]? = _;rw[Nat.mul_one,Nat.zero_add];exact f1,by omega,_,_,f3,.pointer (some ⟨B g i,0,none⟩),by show cur'.toList[0+i*1]? = _;rw[Nat.mul_one,Nat.zero_add];exact f5 i d1,?_⟩;exact⟨rfl,g1⟩
 ·have c1:¬(g<n/\i<sz):=by simp at c;omega
  rw[if_neg c1];exact⟨rfl,g1⟩
end
section
variable{A:aO}(HA:bH A){w:World}{bc:Nat}{gv sv:Value}{q:List bJ}{n sz:Nat}{B:Nat->Nat->Nat}{ad:Nat->Nat->gp}{F:Nat->Nat->MR}
include HA
theorem UR(h:CI w bc gv sv q n sz B ad F)(hn:n<=4)(hs:sz<=5)(g i:Nat)(hg:g<256)(hi:i<256)(hF:g<n->i<sz->Ok A (F g i)):ag Tryz.prog 21 #[Ptt bc,.agg #[.int .u8 g,.int .u8 i]] w (λv w'=>v=.int .i64 (if g<n/\i<sz then 0 else 6)/\(∃jM,CI w' bc gv sv q n sz B jM (if g<n/\i<sz then fH F g i (mStart A (F g i))else F)/\pM n sz B bc w sv ad w' sv jM)/\w'.os=w.os/\w'.output=w.output/\Kz w w'):=by
 refine ah Tryz.func21 rfl rfl ?_;intro w1 b1 m1 g1 l1;have h1:=h.au g1;refine⟨_,_,m1,[.int .u8 g,.int .u8 i],rfl,rfl,_,find_ok h1 hn hs g i hg hi,?_⟩;rintro _ w2 ⟨rfl,g2⟩;have h2:=h1.au g2;have G:=g1.trans g2;by_cases c:g<n/\i<sz
 ·rw[if_pos c,if_pos c,if_pos c]
  have o:=hF c.1 c.2;refine⟨_,Ky HA (h2.enter c.1 c.2) o.i.2.1 o.i.2.2.1,?_⟩;rintro _ w3 ⟨rfl,h3,k3⟩;obtain⟨jM,h4,h5,h6,f6⟩:=h2.leave c.1 c.2 h3 k3;exact⟨rfl,⟨jM,h4,(pM.au G).trans f6⟩,h5.trans G.os,h6.trans G.out,G.kz.trans k3⟩
 ·rw[if_neg c,if_neg c,if_neg c]
  exact⟨rfl,⟨ad,h2,pM.au G⟩,G.os,G.out,G.kz⟩
end
section
variable{w w1 w2:World}{bc:Nat}{gv sv:Value}{q:List bJ}{n sz:Nat}{B:Nat->Nat->Nat}{ad:Nat->Nat->gp}{F:Nat->Nat->MR}
theorem CI.pk(h:CI w bc gv sv q n sz B ad F){bX:Value}{q':List bJ}(hl:q'.length<=20000)(g1:GB sv.ownBlock w w1)(ho:w1.ownsRow 0 139 5 bX q'.length (flat q'))(hn:∀g,bX.ownBlock=some g->sv.ownBlock=some g\/w.heap.size<=g)(m2:w2.heap[bc]? = some (.cells #[gv,bX] 131))(g2:GB (some bc) w1 w2):CI w2 bc gv bX q' n sz B ad F/\Kz w w2/\w2.os=w.os/\w2.output=w.output/\pM n sz B bc w sv ad w2 bX ad:=by
 have tb:∀{x:Nat},sv.ownBlock=some x->∃cur,w.heap[x]? = some (.cells cur 139):=λhx=>ax h.row hx
 have nb:∀x,sv.ownBlock=some x->x≠bc:=λx hx e=>by
  subst e;obtain⟨c,hc⟩:=tb hx;rw[h.fC]at hc;injection hc with hc;injection hc with _ hc;revert hc;decide
 have nb':∀x,bX.ownBlock=some x->x≠bc:=λx hx e=>by
  rcases hn x hx with h1|h1
  ·exact nb x h1 e
  ·have:=ae h.fC;omega
 have kp:∀x,x<w.heap.size->some x≠sv.ownBlock->x≠bc->w2.heap[x]? = w.heap[x]?:=λx hx h1 h2=>(g2.block x (Nat.lt_of_lt_of_le hx g1.size) λe=>h2 (Option.some.inj e)).trans (g1.block x hx h1)
 have kt:∀{x:Nat} {c:Array Value} {t:TypeId},w.heap[x]? = some (.cells c t)->t≠139->t≠131->w2.heap[x]? = some (.cells c t):=λ{x c t} hx h1 h2=>(kp x (ae hx) (λe=>by obtain⟨cur,hc⟩:=tb e.symm;rw[hx]at hc;injection hc with hc;injection hc with _ hc;exact h1 hc) (λe=>by subst e;rw[h.fC]at hx;injection hx with hx;injection hx with _ hx;exact h2 hx.symm)).trans hx
 have k:Kz w w2:=λt ht b c hb=>kt hb (λe=>by subst e;revert ht;decide) (λe=>by subst e;revert ht;decide)
 have nt:∀{t:TypeId},t ∉ Wy->t≠139/\t≠131:=λ{t} ht=>⟨λe=>ht (by rw[e];decide),λe=>ht (by rw[e];decide)⟩
 have ow:∀g i x,g<n->i<sz->Own (B g i) (ad g i) x->x≠bc:=λg i x hg hi ho e=>by
  subst e;rcases(h.rep g i hg hi).Br ho h.fC with e|e|e<;>revert e<;>decide
 refine⟨⟨m2,ay ho λx hx=>?_,hl,?_,λg i hg hi=>(h.rep g i hg hi).keep k λx hx=>kp x ((h.rep g i hg hi).lt hx) (λe=>h.ob g i x hg hi e.symm hx) (ow g i x hg hi hx),h.sep,λg i x hg hi hx hO=>?_⟩,k,g2.os.trans g1.os,g2.out.trans g1.out,λx o hx hN=>?_⟩
 ·obtain⟨cur,hc⟩:=ax ho hx
  exact g2.block x (ae hc) λe=>nb' x hx (Option.some.inj e)
 ·obtain⟨bg,cg,cur,tg,e1,e2,e3,e4,e5⟩:=h.ptr
  refine⟨bg,cg,cur,tg,e1,e2,kt e3 (nt (mU e4)).1 (nt (mU e4)).2,e4,λg hg=>?_⟩;obtain⟨bs,ct,cur',ts,f1,f2,f3,f4,f5⟩:=e5 g hg;exact⟨bs,ct,cur',ts,f1,f2,kt f3 (nt (mU f4)).1 (nt (mU f4)).2,f4,f5⟩
 ·rcases hn x hx with h1|h1
  ·exact h.ob g i x hg hi h1 hO
  ·have:=(h.rep g i hg hi).lt hO;omega
 ·refine⟨(kp x (ae hx) (λe=>hN (.inr (.inl e.symm))) λe=>hN (.inl e)).trans hx,λhc=>?_⟩
  rcases hc with e|e|e
  ·exact hN (.inl e)
  ·rcases hn x e with h1|h1
   ·exact hN (.inr (.inl h1))
   ·have:=ae hx;omega
  ·exact hN (.inr (.inr e))
def lD(q:List bJ)(p:bJ):List bJ:=if q.length<20000 then q++[p]else q
theorem UT{k:Nat}(h:decide ((k:Int)<20000)=true):k<20000:=by have:=Ptq h;omega
theorem aaB{k:Nat}(h:decide ((k:Int)<20000)=false):¬k<20000:=by have:=Ptx h;omega
theorem Ir{q:List bJ}{p:bJ}(h:q.length<20000):lD q p=q++[p]:=by unfold lD;rw[if_pos h]
theorem UU{q:List bJ}{p:bJ}(h:¬q.length<20000):lD q p=q:=by unfold lD;rw[if_neg h]
theorem Yj(h:CI w bc gv sv q n sz B ad F)(p:bJ):ag Tryz.prog 63 #[Ptt bc,.agg p.cells.toArray] w (λv w'=>v=.tuple #[]/\(∃bX,CI w' bc gv bX (lD q p) n sz B ad F/\pM n sz B bc w sv ad w' bX ad)/\Kz w w'/\w'.os=w.os/\w'.output=w.output):=by
 refine ah Tryz.func63 rfl rfl ?_;intro w1 b1 m1 g1 l1;have h1:=h.au g1;obtain⟨sa,sc,rfl⟩:=af h1.row;have hlen:=h.len;obtain⟨bg,cg,cur,tg,egv,_⟩:=h.ptr;subst egv;refine⟨_,_,h1.fC,_,rfl,aj (λc=>?_) (λc=>?_)⟩
 ·have c1:q.length<20000:=UT c
  have em:=Ir (p:=p) c1;rw[em];refine⟨by kernel_rfl,_,_,h1.fC,_,rfl,_,_,m1,p.cells,rfl,rfl,λw2 b2 m2 g2 l2=>?_⟩;have h2:=h1.au g2;refine⟨⟨g2.get m1 nofun,h2.fC,trivial⟩,_,p.cells,h2.row,⟨_,_,m2,rfl,rfl,rfl⟩,by omega,λlv w3 ho3 g3 n3=>?_⟩;have m3:w3.heap[bc]? = _:=(g3.block bc (ae h2.fC) λe=>by
   obtain⟨c,hc⟩:=ax h2.row e.symm;rw[h2.fC]at hc;injection hc with hc;injection hc with _ hc;revert hc;decide).trans h2.fC
  obtain⟨la,lc,rfl⟩:=af ho3;refine⟨_,_,_,m3,rfl,rfl,λw4 m4 g4=>?_⟩;obtain⟨h4,k4,o4,u4,f4⟩:=h2.pk (q':=q++[p]) (by simp;omega) g3 (by rw[length_append,show flat (q++[p])=flat q++p.cells by simp[flat]];exact ho3) n3 m4 g4;have G:=g1.trans g2;exact⟨rfl,⟨_,h4,(pM.au G).trans f4⟩,G.kz.trans k4,o4.trans G.os,u4.trans G.out⟩
 ·have c1:¬q.length<20000:=aaB c
  have em:=UU (p:=p) c1;rw[em];exact⟨rfl,⟨_,h1,pM.au g1⟩,g1.kz,g1.os,g1.out⟩
end
theorem aeZ{k:Nat}(h:decide ((k:Int) > 1000)=true):k > 1000:=by have:=Ptq h;omega
theorem ae0{k:Nat}(h:decide ((k:Int) > 1000)=false):¬k > 1000:=by have:=Ptx h;omega
section
variable{w:World}{bc:Nat}{gv sv:Value}{q:List bJ}{n sz:Nat}{B:Nat->Nat->Nat}{ad:Nat->Nat->gp}{F:Nat->Nat->MR}
theorem UW(h:CI w bc gv sv q n sz B ad F)(hn:n<=4)(hs:sz<=5)(g i:Nat)(hg:g<256)(hi:i<256)(d:ByteArray):ag Tryz.prog 23 #[Ptt bc,.agg #[.int .u8 g,.int .u8 i],.string d] w (λv w'=>(∃bX q',CI w' bc gv bX q' n sz B ad F/\pM n sz B bc w sv ad w' bX ad/\((¬(g<n/\i<sz)/\v=.tuple #[.int .i64 0,.int .i64 6]/\q'=q)\/((g<n/\i<sz)/\d.size > 1000/\v=.tuple #[.int .i64 0,.int .i64 2]/\q'=q)\/((g<n/\i<sz)/\¬d.size > 1000/\v=.tuple #[.int .i64 q.length,.int .i64 0]/\q'=lD q ⟨255,255,g,i,d⟩)))/\Kz w w'/\w'.os=w.os/\w'.output=w.output):=by
 refine ah Tryz.func23 rfl rfl ?_;intro w1 b1 m1 g1 l1;have h1:=h.au g1;refine⟨_,_,m1,[.int .u8 g,.int .u8 i],rfl,rfl,_,find_ok h1 hn hs g i hg hi,?_⟩;rintro _ w2 ⟨rfl,g2⟩;have h2:=h1.au g2;have G:=g1.trans g2;by_cases c:g<n/\i<sz
 ·rw[if_pos c]
  refine aj (λe=>?_) (λe=>?_)
  ·have e1:d.size > 1000:=aeZ e
   exact⟨⟨_,_,h2,pM.au G,.inr (.inl ⟨c,e1,rfl,rfl⟩)⟩,G.kz,G.os,G.out⟩
  ·have e1:¬d.size > 1000:=ae0 e
   obtain⟨bg,cg,cur,tg,egv,_⟩:=h.ptr;subst egv;obtain⟨sa,sc,rfl⟩:=af h2.row;refine⟨_,_,h2.fC,_,rfl,λw3 b3 m3 g3 l3=>⟨_,_,_,m3,rfl,rfl,λw4 m4 g4=>?_⟩⟩;have g24:GB none w2 w4:=g3.new g4 l3;have h4:=h2.au g24;refine⟨_,_,m4,[.int .u8 255,.int .u8 255],rfl,rfl,_,_,(g2.trans g24).get m1 nofun,[.int .u8 g,.int .u8 i],rfl,rfl,_,Yj h4 ⟨255,255,g,i,d⟩,?_⟩;rintro _ w5 ⟨rfl,⟨bX,h5,f5⟩,k5,o5,u5⟩;have GG:=G.trans g24;exact⟨⟨_,_,h5,(pM.au GG).trans f5,.inr (.inr ⟨c,e1,rfl,rfl⟩)⟩,GG.kz.trans k5,o5.trans GG.os,u5.trans GG.out⟩
 ·rw[if_neg c]
  exact⟨⟨_,_,h2,pM.au G,.inl ⟨c,rfl,rfl⟩⟩,G.kz,G.os,G.out⟩
end
section
variable{A:aO}{R:MR}
theorem Ok.stand(ho:Ok A R):Ok A (gq R):=⟨ho.sz,ho.i,ho.st,ho.kn,λ_ _ h=>(by cases h),ho.vt,ho.wv,λ_ _ h=>(by cases h),λ_ _ h=>(by cases h),Nat.zero_lt_succ _,ho.lg,ho.lc,ho.nx,ho.sn⟩
theorem Ok.fO(ho:Ok A R){b:bF}(hb:b.n<=4294967295):Ok A { R with sc:={ R.sc with b:=b } }:=⟨ho.sz,ho.i,ho.st,ho.kn,ho.pp,ho.vt,ho.wv,ho.mt,ho.ac,ho.pr,ho.lg,ho.lc,ho.nx,ho.sn.1,hb,ho.sn.2.2⟩
theorem Ok.refuse(ho:Ok A R)(f:Nat×Nat){b:bF}(hb:b.n<=4294967295):Ok A (bR A.enc R f b):=by
 unfold bR;split
 ·exact ho.snd _ _ _
 ·split
  ·exact ho
  ·exact(ho.fO hb).stand
theorem Ok.KA(ho:Ok A R)(f:Nat×Nat){b:bF}(hb:b.n<=4294967295):Ok A (tN A.enc R f b):=by
 unfold tN;split
 ·exact ho.refuse f hb
 ·exact(ho.refuse f hb).snd _ _ _
theorem Ok.yC(ho:Ok A R)(f:Nat×Nat){m:MM}(hb:m.b.n<=4294967295)(hc:A.gc m.c/\m.s<60):Ok A (kP A R f m):=by
 unfold kP;split
 ·exact ho.refuse f hb
 ·exact((ho.refuse f hb).D9 hc.2 hc.1).snd _ _ _
end
section
variable{A:aO}(HA:bH A){R:MR}
include HA
theorem Ok.UX(ho:Ok A R){f:Nat×Nat}(hf:f.2<5)(m:MM):Ok A (uX A R f m):=by
 unfold uX;split
 ·exact(ho.zq HA hf).1
 ·exact ho
theorem Ok.ask(ho:Ok A R){q:bQ}(hq:A.gc (fQ q)):Ok A (wy A R q):=by
 unfold wy;split
 ·exact ho
 ·split
  ·exact ho.snd _ _ _
  ·exact(ho.offer HA hq).1
theorem Ok.promise(ho:Ok A R){f:Nat×Nat}(hf:f.2<5)(b:bF){vs:List MV}(hv:∀v∈vs,A.gc v.c/\v.slot<60):Ok A (jr A R f b vs):=by
 unfold jr;split
 ·exact ho
 ·exact((ho.gP hv).zu HA hf).1
theorem Ok.move(ho:Ok A R)(f:Nat×Nat){r:Rg}(hr:A.gc (kZ r)):Ok A (tO A R f r):=by
 unfold tO;split
 ·exact ho
 ·split
  ·exact ho.snd _ _ _
  ·split
   ·exact(ho.offer HA hr).1
   ·exact ho
theorem Ok.UY(ho:Ok A R){p:Nat}{s:Int}(hp:A.gc (oZ p s)):Ok A (tQ A R p s):=by
 unfold tQ;split
 ·exact ho
 ·split
  ·exact ho
  ·split
   ·exact(ho.offer HA hp).1
   ·exact ho
theorem Ok.take2(ho:Ok A R){f:Nat×Nat}{m:MM}(hm:GM A R f m):Ok A (pK A R f m):=by
 unfold pK;split
 ·rename_i k;exact ho.ask HA (hm.ask k)
 split
 ·exact ho.KA f hm.bn
 split
 ·rename_i k;exact ho.promise HA (hm.vs k).2.2 _ (hm.vs k).1
 split
 ·split
  ·exact ho.stand
  ·exact ho
 split
 ·rename_i k;exact ho.yC f hm.bn (hm.acc k)
 split
 ·rename_i k;exact ho.UX HA (hm.qI k).2 m
 split
 ·rename_i k;exact(ho.agree HA (hm.dec k).2 (hm.dec k).1).1
 split
 ·rename_i k;exact ho.move HA f (hm.lU k).2.2.2
 split
 ·rename_i k
  have e:(m.peer.toNat:Int)=m.peer:=Int.toNat_of_nonneg (hm.jC k).1;exact ho.UY HA (by rw[e];exact(hm.jC k).2.2)
 ·exact ho
theorem Ok.take(ho:Ok A R){f:Nat×Nat}{d:ByteArray}(hm:∀m,A.dec d=some m->¬(f.1=255/\m.kind≠1)->GM A R f m):Ok A (kJ A R f d):=by
 unfold kJ;split
 ·exact ho
 ·rename_i m hd
  split
  ·exact ho
  ·rename_i hn
   have g:=hm m hd hn;exact(ho.seen g.bn).take2 HA ⟨g.bn,g.ask,g.vs,g.acc,g.qI,g.dec,g.lU,g.jC⟩
end
section
variable{A:aO}(HA:bH A){R:MR}
include HA
theorem Ok.new{g i gs sz:Nat}(hg:g<gs)(hn:gs<=4)(hN:gs=A.N)(hi:i<sz)(hz:sz<=5):Ok A (Ed A g i gs sz) :=
 ⟨hz,⟨hi,hg,hn,hN⟩,HA.Co _ _ hN hg hn,λ_ _ h=>(by cases h),λ_ _ h=>(by cases h),λ_ _ h=>(by cases h),λ_ _ h=>(by cases h),λ_ _ h=>(by cases h),λ_ _ h=>(by cases h),Nat.zero_lt_succ _,Nat.zero_le _,λ_ h=>(by cases h),Nat.zero_le _,Nat.zero_le _,Nat.zero_le _,Nat.zero_le _⟩
omit HA in
theorem Fx(R:MR)(f:Nat×Nat)(b:bF):(bR A.enc R f b).out.length<=R.out.length+1:=by
 unfold bR;split
 ·rw[kD];simp
 ·split
  ·omega
  ·show R.out.length<=_;omega
theorem Rw(ho:Ok A R){f:Nat×Nat}{m:MM}(hm:GM A R f m):(pK A R f m).out.length<=R.out.length+20000:=by
 have one:∀(R:MR) (mm:MM) (x:Nat×Nat),(lJ A.enc R mm [x]).out.length=R.out.length+1:=λR mm x=>by rw[kD];rfl
 unfold pK;split
 ·rename_i k
  unfold wy;split
  ·omega
  split
  ·unfold Cn;rw[one];omega
  ·exact Nat.le_trans (ho.offer HA (hm.ask k)).2.1 (by omega)
 split
 ·unfold tN
  have:=Fx (A:=A) R f m.b;split
  ·omega
  ·rw[one];omega
 split
 ·rename_i k
  unfold jr;split
  ·omega
  ·exact((ho.gP (hm.vs k).1).zu HA (hm.vs k).2.2).2.1
 split
 ·split
  ·show R.out.length<=_;omega
  ·omega
 split
 ·unfold kP
  have:=Fx (A:=A) R f m.b;split
  ·omega
  ·rw[one]
   show(bR A.enc R f m.b).out.length+1<=_;omega
 split
 ·rename_i k
  unfold uX;split
  ·exact Nat.le_trans (ho.zq HA (hm.qI k).2).2.1 (by omega)
  ·omega
 split
 ·rename_i k
  exact Nat.le_trans (ho.agree HA (hm.dec k).2 (hm.dec k).1).2.1 (by omega)
 split
 ·rename_i k
  unfold tO;split
  ·omega
  split
  ·unfold zo;rw[one];omega
  split
  ·exact Nat.le_trans (ho.offer HA (hm.lU k).2.2.2).2.1 (by omega)
  ·omega
 split
 ·rename_i k
  have e:(m.peer.toNat:Int)=m.peer:=Int.toNat_of_nonneg (hm.jC k).1;unfold tQ;split
  ·omega
  split
  ·omega
  split
  ·exact Nat.le_trans (ho.offer HA (by rw[e];exact(hm.jC k).2.2)).2.1 (by omega)
  ·omega
 ·omega
theorem take_len(ho:Ok A R){f:Nat×Nat}{d:ByteArray}(hm:∀m,A.dec d=some m->¬(f.1=255/\m.kind≠1)->GM A R f m):(kJ A R f d).out.length<=R.out.length+20000:=by
 unfold kJ;split
 ·omega
 ·rename_i m hd
  split
  ·omega
  ·rename_i hn
   have g:=hm m hd hn;exact Rw HA (ho.seen g.bn) ⟨g.bn,g.ask,g.vs,g.acc,g.qI,g.dec,g.lU,g.jC⟩
theorem UZ(ho:Ok A R):(mr A R).out.length<=R.out.length+30000:=by
 obtain⟨o1,l1,_,_⟩:=ho.bK HA;have h2:(gF A (bK A R)).out.length<=(bK A R).out.length+5:=by
  unfold gF;rw[kD];have:=jf (bK A R).sc.g (bK A R).sc.i (bK A R).sc.g (bK A R).sc.sz;have:=o1.sz;omega
 unfold mr rC;split
 ·omega
 split
 ·have o2:Ok A (gF A (bK A R)):=o1.snd _ _ _
  have r1:=xk A.enc (gF A (bK A R)) o2.sz (gF A (bK A R)).sc.next;have o3:=r1.ok o2;have r2:=xm A.enc (iG A.enc (gF A (bK A R)) (gF A (bK A R)).sc.next) o3.sz (gF A (bK A R)).st.O.length;have a1:=r1.len;have a2:=r2.len;have a3:=HA.ol _ o2.st;have a4:=o2.nx;unfold sS;exact Nat.le_trans a2 (by omega)
 ·omega
end
end
