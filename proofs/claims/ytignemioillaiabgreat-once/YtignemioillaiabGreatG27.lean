/- Lemmas. -/
import Derived.Test.YtignemioillaiabGreatG26
namespace Go.Proofs.YtignemioillaiabGreat
set_option maxHeartbeats 8000000
set_option maxRecDepth 100000
open List
section
open Go Go.Conc
structure GM(A:aI)(R:MR)(f:Nat×Nat)(m:MM):Prop where
 bn:m.b.n<=4294967295
 ask:m.kind=1->A.gc (fM m.q)
 vs:m.kind=4->(∀v∈m.vs,A.gc v.c/\v.slot<60)/\m.vs.length<=1000000/\f.2<5
 acc:m.kind=6->A.gc m.c/\m.s<60
 ru:m.kind=7->m.s<60/\f.2<5
 dec:m.kind=8->A.gc m.c/\m.s<60
 lU:m.kind=9->0<=m.r.src/\m.r.src.toNat<R.st.I.length/\m.r.seq<=4294967295/\A.gc (lL m.r)
 jH:m.kind=10->0<=m.peer/\m.peer.toNat<R.st.O.length/\A.gc (pU m.peer m.seq)
section
variable(A:aI)
def qm(R:MR)(f:Nat×Nat)(m:MM):MR:=if m.kind=1 then wW A R m.q else if m.kind=3 then uw A.enc R f m.b else if m.kind=4 then jB A R f m.b m.vs else if m.kind=5 then(if R.sc.b.lt m.b=true then gF R else R)else if m.kind=6 then kX A R f m else if m.kind=7 then vW A R f m else if m.kind=8 then jh A R m.s m.c else if m.kind=9 then uy A R f m.r else if m.kind=10 then uz A R m.peer.toNat m.seq else R
def pE(R:MR)(m:MM):MR:={R with sc:={R.sc with seen:=max R.sc.seen m.b.n} }
def kR(R:MR)(f:Nat×Nat)(d:ByteArray):MR:=match A.dec d with
 |none=>R
 |some m=>if f.1=255/\m.kind≠1 then R else qm A (pE R m) f m
end
section
variable{A:aI}(HA:bG A){Λ:bW}{w:World}{br:Nat}{R:MR}
theorem Ok.seen(ho:Ok A R){m:MM}(hm:m.b.n<=4294967295):Ok A (pE R m):=⟨ho.sz,ho.i,ho.st,ho.kn,ho.pp,ho.vt,ho.wv,ho.mt,ho.ac,ho.pr,ho.lg,ho.lc,ho.nx,by show max R.sc.seen m.b.n<=_;have:=ho.sn.1;omega,ho.sn.2.1,ho.sn.2.2⟩
include HA
theorem Z4(hk:∀d m,A.dec d=some m->1<=m.kind/\m.kind<=10)(h:Wk Λ br R w)(ho:Ok A R)(f t:Nat×Nat)(d:ByteArray)(hm:∀m,A.dec d=some m->¬(f.1=255/\m.kind≠1)->GM A R f m)(hb:R.out.length<=840000):CY 49 #[Ptt br,.agg #[.int .u8 f.1,.int .u8 f.2,.int .u8 t.1,.int .u8 t.2,.string d]] w (λv w'=>v=.tuple #[]/\Wk Λ br (kR A R f d) w'/\Kz w w'):=by
 have hbr:br<w.heap.size:=by obtain⟨a,h⟩:=h;exact ae h.ri.mem
 refine qh fG Tryz.func49 rfl rfl ?_;refine CS.piece (Q:=λq w'=>∃b1,q=[(0,Ptt br),(3,Ptt b1)]/\w'.heap[b1]?=some (.cells #[.int .u8 f.1,.int .u8 f.2,.int .u8 t.1,.int .u8 t.2,.string d] 97)/\GB none w w'/\w.heap.size<=b1) (CS.e λw1 b1 m1 g1 l1=>⟨_,by exact sb rfl,b1,rfl,m1,g1,l1⟩) ?_;rintro _ w1 ⟨b1,rfl,m1,g1,l1⟩;refine CS.piece (Q:=λq w4=>∃b3 e m ra rn rc da dn dc uR Ml rc' qf vH qg va vc,q=[(0,Ptt br),(3,Ptt b1),(4,Ptt b3),(5,.int .i64 e)]/\Hl w4 b3 (iW m (.slice ra rn rc) (.slice da dn dc) (.slice va m.vs.length vc) (.slice uR Ml rc') (.slice qf vH qg)) 83/\aS w4 m.c.r (.slice ra rn rc) (.slice da dn dc)/\dC w4 (.slice va m.vs.length vc) m.vs/\aS w4 m.r (.slice uR Ml rc') (.slice qf vH qg)/\GB none w1 w4/\w1.heap.size<=b3/\((e=0/\A.dec d=some m)\/(e≠0/\A.dec d=none))) (CS.e ?_) ?_
 .refine⟨_,_,m1,_,rfl,_,HA.parse w1 d,?_⟩
  rintro _ w2 ⟨⟨mv,e,m,rfl,hmv,hd'⟩,g2⟩;obtain⟨rv,dv,vv,rv',jU,rfl,hr,hvs,hr'⟩:=hmv;obtain⟨ra,rn,rc,da,dn,dc,rfl,rfl⟩:=hr.sl;obtain⟨uR,Ml,rc',qf,vH,qg,rfl,rfl⟩:=hr'.sl;obtain⟨va,vc,rfl⟩:=hvs.sl;intro w3 b3 m3 g3 l3;refine⟨_,_,_,m3,rfl,rfl,λw4 m4 g4=>?_⟩;have g24:GB none w2 w4:=g3.new g4 l3;exact⟨_,by exact sb rfl,b3,e,m,ra,rn,rc,da,dn,dc,uR,Ml,rc',qf,vH,qg,va,vc,rfl,m4,hr.kz g24.kz,hvs.kz g24.kz,hr'.kz g24.kz,g2.trans g24,Jb1 g2.size l3,hd'.imp (λq=>⟨q.1,q.2.1⟩) id⟩
 rintro _ w4 ⟨b3,e,m,ra,rn,rc,da,dn,dc,uR,Ml,rc',qf,vH,qg,va,vc,rfl,m4,hr,hvs,hr',g4,l3,hd⟩;have m1:=g4.get m1 nofun;have gg:=g1.trans g4;obtain⟨a,h4⟩:=h.ay gg;refine CS.cut (Qn:=λq w'=>A.dec d=some m/\¬(f.1=255/\m.kind≠1)/\q=[(0,Ptt br),(3,Ptt b1),(4,Ptt b3)]/\w'=w4) (Qx:=λ_ _ _=>False) (Qr:=λq w'=>kR A R f d=R/\q=[]/\w'=w4) (CS.e ?_) ?_ (λ_ _ _ _ h _=>h.elim) ?_
 .rcases hd with⟨rfl,hd⟩|⟨he,hd⟩
  .refine⟨_,_,m1,_,rfl,ah (λc=>?_) (λc=>?_)⟩
   .have c1:f.1=255:=by simp at c;omega
    refine⟨_,_,m4,_,rfl,ah (λc=>?_) (λc=>?_)⟩
    .have c2:m.kind≠1:=by simpa using c
     exact⟨_,by exact trivial,by unfold kR;rw[hd];exact Jb6 ⟨c1,c2⟩,rfl,rfl⟩
    .have c2:m.kind=1:=by simpa using c
     exact⟨_,by exact sb rfl,hd,λq=>q.2 c2,rfl,rfl⟩
   .have c1:¬f.1=255:=by simp at c;omega
    exact⟨_,by exact sb rfl,hd,λq=>c1 q.1,rfl,rfl⟩
  .refine ah (λc=>?_) (λc=>?_)
   .exfalso;simp at c;exact he c
   .exact⟨_,by exact trivial,by unfold kR;rw[hd],rfl,rfl⟩
 rotate_left
 .rintro _ s w4 ⟨em,rfl,rfl⟩ hs
  rw[em];exact qO hs ⟨rfl,⟨_,h4⟩,gg.kz⟩
 rintro _ w4 ⟨hd,hn,rfl,rfl⟩;have em:kR A R f d=qm A (pE R m) f m:=by unfold kR;rw[hd];exact Jb5 hn
 rw[em];have hkk:=hk d m hd;have hm:=hm m hd hn;have ho:=ho.seen hm.bn;have l4:=g1.size;have IE:(if(m.b.n:Int)>(R.sc.seen:Int)then(m.b.n:Int)else(R.sc.seen:Int))=((max R.sc.seen m.b.n:Nat):Int):=by split<;>omega
 refine CS.piece (Q:=λq w5=>q=[(0,Ptt br),(3,Ptt b1),(4,Ptt b3)]/\Wk Λ br (pE R m) w5/\GB (some br) w4 w5/\Kz w4 w5) (CS.e ?_) ?_
 .refine⟨by kernel_rfl,_,_,h4.ri.mem,_,rfl,_,_,m4,_,rfl,_,_,p9 (pE R m) a,h4.ri.mem,rfl,by unfold p9 pE;dsimp only;rw[<-IE];rfl,λw5 m5 g5=>?_⟩
  exact⟨_,by exact sb rfl,rfl,⟨_,h4.cell (s':=(pE R m).sc) m5 g5⟩,g5,h4.ri.kz h4.ri.jy g5⟩
 rintro _ w5 ⟨rfl,h,g5,k5⟩;replace m1:=g5.get m1 λe=>by cases e;omega
 replace m4:=g5.get m4 λe=>by cases e;omega
 replace hr:=hr.kz k5;replace hvs:=hvs.kz k5;replace hr':=hr'.kz k5;have K5:=gg.kz.trans k5;have hb1:(pE R m).out.length<=840000:=hb;replace hm:GM A (pE R m) f m:=⟨hm.bn,hm.ask,hm.vs,hm.acc,hm.ru,hm.dec,hm.lU,hm.jH⟩;refine CS.piece (Q:=λq w'=>q=[(0,Ptt br),(3,Ptt b1),(4,Ptt b3),(37,.int .u8 m.kind)]/\w'=w5) (CS.e ⟨_,_,m4,_,rfl,_,by exact sb rfl,rfl,rfl⟩) ?_;rintro _ w5 ⟨rfl,rfl⟩;clear h4 g5 k5 hk hd hn em IE;generalize pE R m=R at *;obtain⟨kind,q,p,b,s,c,vs,r,peer,seq⟩:=m;dsimp only at hkk;refine CS.e ?_;obtain rfl|rfl|rfl|rfl|rfl|rfl|rfl|rfl|rfl|rfl:kind=1\/kind=2\/kind=3\/kind=4\/kind=5\/kind=6\/kind=7\/kind=8\/kind=9\/kind=10:=by omega
 .refine⟨_,_,m4,q.cells,rfl,rfl,_,aca HA h ho (q:=q) (hm.ask rfl) (by omega),?_⟩
  rintro _ w6 ⟨rfl,h6,k6⟩;exact⟨rfl,h6,K5.trans k6⟩
 .exact⟨rfl,h,K5⟩
 .refine⟨_,_,m1,[.int .u8 f.1,.int .u8 f.2],rfl,rfl,_,_,m4,bC b,rfl,rfl,_,ZL HA.nW h f b (by omega),?_⟩
  rintro _ w6 ⟨rfl,h6,k6⟩;exact⟨rfl,h6,K5.trans k6⟩
 .refine⟨_,_,m1,[.int .u8 f.1,.int .u8 f.2],rfl,rfl,_,_,m4,bC b,rfl,rfl,_,_,m4,_,rfl,_,Rc HA h ho f (hm.vs rfl).2.2 b (hm.vs rfl).1 (hm.vs rfl).2.1 hvs hb1,?_⟩
  rintro _ w6 ⟨rfl,h6,k6⟩;exact⟨rfl,h6,K5.trans k6⟩
 .refine⟨_,_,m4,bC b,rfl,rfl,_,TJ h b,?_⟩
  rintro _ w6 ⟨rfl,h6,k6⟩;exact⟨rfl,h6,K5.trans k6⟩
 .refine⟨_,_,m1,[.int .u8 f.1,.int .u8 f.2],rfl,rfl,_,_,m4,_,rfl,rfl,_,Q9 HA h f ⟨_,_,_,_,_,rfl,hr,hvs,hr'⟩ (by omega),?_⟩
  rintro _ w6 ⟨rfl,h6,k6⟩;exact⟨rfl,h6,K5.trans k6⟩
 .refine⟨_,_,m1,[.int .u8 f.1,.int .u8 f.2],rfl,rfl,_,_,m4,_,rfl,rfl,_,ZP HA h ho f (hm.ru rfl).2 (hm.ru rfl).1 ⟨_,_,_,_,_,rfl,hr,hvs,hr'⟩ (by omega),?_⟩
  rintro _ w6 ⟨rfl,h6,k6⟩;exact⟨rfl,h6,K5.trans k6⟩
 .refine⟨_,_,m4,_,rfl,_,_,m4,dF c (.slice ra rn rc) (.slice da dn dc),rfl,rfl,_,Md HA h ho (hm.dec rfl).2 (hm.dec rfl).1 (c:=c) ⟨_,_,rfl,hr⟩ (by omega),?_⟩
  rintro _ w6 ⟨rfl,h6,k6⟩;exact⟨rfl,h6,K5.trans k6⟩
 .refine⟨_,_,m1,[.int .u8 f.1,.int .u8 f.2],rfl,rfl,_,_,m4,fB r (.slice uR Ml rc') (.slice qf vH qg),rfl,rfl,_,ZQ HA h ho f (hm.lU rfl).1 (hm.lU rfl).2.1 (hm.lU rfl).2.2.1 (hm.lU rfl).2.2.2 hr' (by omega),?_⟩
  rintro _ w6 ⟨rfl,h6,k6⟩;exact⟨rfl,h6,K5.trans k6⟩
 .have ep:(peer.toNat:Int)=peer:=Jfp (hm.jH rfl).1
  have hcall:=ZV HA h ho (p:=peer.toNat) (hm.jH rfl).2.1 (s:=seq) (by rw[ep];exact(hm.jH rfl).2.2) (by omega);rw[ep]at hcall;refine⟨_,_,m4,_,rfl,_,_,m4,_,rfl,_,hcall,?_⟩;rintro _ w6 ⟨rfl,h6,k6⟩;exact⟨rfl,h6,K5.trans k6⟩
end
def fQ(w:World):bW:=⟨λb=>w.heap[b]?,w.os,w.output⟩
def zSt:St:=⟨0,0,[],[],[],[],[]⟩
def zR(g i gs sz:Nat):MR:=⟨⟨g,i,gs,sz,⟨0,0⟩,⟨0,0⟩,0,0,0,0⟩,λ_=>none,λ_=>none,λ_=>none,[],zSt,[],λ_=>none,λ_=>none,λ_=>none⟩
def Fb(A:aI)(g i gs sz:Nat):MR:=mStart A (zR g i gs sz)
theorem fE.zero(w:World):fE w Ptz Ptz Ptz Ptz Ptz zSt :=
 ⟨Fz.nil _ _ _,Fz.nil _ _ _,Fz.nil _ _ _,⟨[],rfl,Fz.nil _ _ _,λi o q h=>(by simp[zSt]at h)⟩,Fz.nil _ _ _⟩
section
variable{A:aI}(HA:bG A){w:World}
include HA
theorem acg(g i gs sz:Nat)(hg:g<gs)(hn:gs<=4):CY 147 #[.agg #[.int .u8 g,.int .u8 i],.int .i64 gs,.int .i64 sz] w (λv w'=>∃br,v=(Ptt br)/\w.heap.size<=br/\Wk (fQ w) br (Fb A g i gs sz) w'/\Kz w w'):=by
 refine aj Tryz.func147 rfl rfl ?_;intro w1 b1 m1 g1 l1;refine⟨_,_,m1,[.int .u8 g,.int .u8 i],rfl,rfl,?_⟩;refine λw2 b2 m2 g2 l2=>?_
 refine λw3 b3 m3 g3 l3=>?_
 refine λw4 b4 m4 g4 l4=>?_
 refine λw5 b5 m5 g5 l5=>?_
 refine λw6 b6 m6 g6 l6=>?_
 refine @Eq.mp (∀w7 b7,fZ w7 b7 (λ_=>none)->GB none w6 w7->w6.heap.size<=b7->∀w8 b8,Hl w8 b8 (p9 (zR g i gs sz) ⟨b2,b3,b4,b5,b6,b7,Ptz,Ptz,Ptz,Ptz,Ptz,Ptz,.slice none 0 0⟩) 135->GB none w7 w8->w7.heap.size<=b8->∃Q:Value->World->Prop,CY 88 #[Ptt b8] w8 Q/\∀v w',Q v w'->∃br,(Ptt b8)=(Ptt br)/\w.heap.size<=br/\Wk (fQ w) br (Fb A g i gs sz) w'/\Kz w w') _ (by kernel_rfl) ?_;intro w7 b7 m7 g7 l7 w8 b8 m8 g8 l8;have m8':Hl w8 b8 (p9 (zR g i gs sz) ⟨b2,b3,b4,b5,b6,b7,Ptz,Ptz,Ptz,Ptz,Ptz,Ptz,.slice none 0 0⟩) 135:=m8;have G2:GB none w w2:=g1.trans g2;have G7:GB none w w7:=((((G2.trans g3).trans g4).trans g5).trans g6).trans g7;have G8:GB none w w8:=G7.trans g8;have t7:GB none w7 w8:=g8;have t6:=g7.trans t7;have t5:=g6.trans t6;have t4:=g5.trans t5;have t3:=g4.trans t4;have t2:=g3.trans t3;have q2:=m2.lt;have q3:=m3.lt;have q4:=m4.lt;have q5:=m5.lt;have q6:=m6.lt;have q7:=m7.lt;have z1:=g1.size;have z2:=g2.size;have z3:=g3.size;have z4:=g4.size;have z5:=g5.size;have z6:=g6.size;have z7:=g7.size;have Cf:RI w8 b8 (zR g i gs sz) ⟨b2,b3,b4,b5,b6,b7,Ptz,Ptz,Ptz,Ptz,Ptz,Ptz,.slice none 0 0⟩:=by
  refine⟨m8',bT.none (m2.keep (t2.block _ q2 nofun)),bT.none (m3.keep (t3.block _ q3 nofun)),bT.none (m4.keep (t4.block _ q4 nofun)),bT.none (m5.keep (t5.block _ q5 nofun)),bT.none (m6.keep (t6.block _ q6 nofun)),bT.none (m7.keep (t7.block _ q7 nofun)),⟨[],rfl,eu _ _ _,λi c p h=>(by simp[zR]at h)⟩,fE.zero _,eu _ _ _,?_⟩;simp;omega
 have h8:Wk (fQ w) b8 (zR g i gs sz) w8:=by
  refine⟨_,Cf,λb o hb=>?_,G8.os,G8.out⟩;have hl:=ae hb;refine⟨G8.get hb nofun,λho=>?_⟩;rcases ho with e|e|e|e|e|e|e|e|e
  .omega
  .have e:b=b2:=e
   omega
  .have e:b=b3:=e
   omega
  .have e:b=b4:=e
   omega
  .have e:b=b5:=e
   omega
  .have e:b=b6:=e
   omega
  .have e:b=b7:=e
   omega
  .cases e
  .cases e
 refine⟨_,Mo HA h8 hg hn,?_⟩;rintro _ w9 ⟨rfl,h9,k9⟩;exact⟨b8,rfl,by omega,h9,G8.kz.trans k9⟩
end
def Yu:List Nat:=[135,80,97,118]
def O5:List Nat:=[159,123]
theorem nC{t:Nat}(h:t∈O5):t ∉ Yu:=by
 unfold O5 at h;simp only[Jb3,Jbw,Jbx]at h;rcases h with rfl|rfl<;>decide
def agY(w:World)(gv:Value)(n sz:Nat)(B:Nat->Nat->Nat):Prop:=∃bg cg cur tg,gv=.slice (Pty bg) n cg/\n<=cg/\w.heap[bg]?=some (.cells cur tg)/\tg∈O5/\∀g,g<n->∃bs ct cur' ts,cur.toList[g]?=some (.slice (Pty bs) sz ct)/\sz<=ct/\w.heap[bs]?=some (.cells cur' ts)/\ts∈O5/\∀i,i<sz->cur'.toList[i]?=some (.pointer (some ⟨B g i,0,none⟩))
structure CI(w:World)(bc:Nat)(gv sv:Value)(q:List bF)(n sz:Nat)(B:Nat->Nat->Nat)(ad:Nat->Nat->gD)(F:Nat->Nat->MR):Prop where
 fu:w.heap[bc]?=some (.cells #[gv,sv] 118)
 row:w.ownsRow 0 97 5 sv q.length (flat q)
 len:q.length<=20000
 ptr:agY w gv n sz B
 rep:∀g i,g<n->i<sz->RI w (B g i) (F g i) (ad g i)
 sep:∀g i g' i' x,g<n->i<sz->g'<n->i'<sz->Own (B g i) (ad g i) x->Own (B g' i') (ad g' i') x->g=g'/\i=i'
 ob:∀g i x,g<n->i<sz->sv.ownBlock=some x->¬Own (B g i) (ad g i) x
open Classical in
noncomputable def rest(w:World)(br:Nat)(a:gD):bW:=⟨λb=>if Own br a b then none else w.heap[b]?,w.os,w.output⟩
def fF{α:Type}(F:Nat->Nat->α)(g i:Nat)(r:α):Nat->Nat->α:=λg' i'=>if g'=g/\i'=i then r else F g' i'
theorem bL{α:Type}(F:Nat->Nat->α)(g i:Nat)(r:α):fF F g i r g i=r:=Jb6 ⟨rfl,rfl⟩
theorem aZ{α:Type}(F:Nat->Nat->α){g i g' i':Nat}(r:α)(h:¬(g'=g/\i'=i)):fF F g i r g' i'=F g' i':=Jb5 h
def nO(n sz:Nat)(B:Nat->Nat->Nat)(bc:Nat)(sv:Value)(ad:Nat->Nat->gD)(x:Nat):Prop:=x=bc\/sv.ownBlock=some x\/∃g i,g<n/\i<sz/\Own (B g i) (ad g i) x
def qo(n sz:Nat)(B:Nat->Nat->Nat)(bc:Nat)(w:World)(sv:Value)(ad:Nat->Nat->gD)(w':World)(bX:Value)(jV:Nat->Nat->gD):Prop:=∀x o,w.heap[x]?=some o->¬nO n sz B bc sv ad x->w'.heap[x]?=some o/\¬nO n sz B bc bX jV x
theorem qo.trans{n sz:Nat}{B:Nat->Nat->Nat}{bc:Nat}{w w' w'':World}{sv bX ach:Value}{ad jV aci:Nat->Nat->gD}(h:qo n sz B bc w sv ad w' bX jV)(k:qo n sz B bc w' bX jV w'' ach aci):qo n sz B bc w sv ad w'' ach aci:=λx o hx hn=>k x o (h x o hx hn).1 (h x o hx hn).2
theorem qo.ay{n sz:Nat}{B:Nat->Nat->Nat}{bc:Nat}{w w':World}{sv:Value}{ad:Nat->Nat->gD}(k:GB none w w'):qo n sz B bc w sv ad w' sv ad:=λ_ _ hx hn=>⟨k.get hx nofun,hn⟩
theorem RI.Cs{w:World}{br:Nat}{R:MR}{a:gD}(h:RI w br R a){x:Nat}(hx:Own br a x){c:Array Value}{t:TypeId}(hc:w.heap[x]?=some (.cells c t)):t=135\/t=80\/t=97:=by
 have mp:∀{m:Nat},(∃es k,w.heap[m]?=some (.map es k))->x=m->False:=by
  rintro m ⟨es,k,h1⟩ rfl;rw[h1]at hc;cases hc
 rcases hx with hx|hx|hx|hx|hx|hx|hx|hx|hx
 .subst hx;rw[h.mem]at hc;injection hc with hc;injection hc with _ hc;exact .inl hc.symm
 .exact(mp h.vm.obj hx).elim
 .exact(mp h.wm.obj hx).elim
 .exact(mp h.kn.obj hx).elim
 .exact(mp h.mt.obj hx).elim
 .exact(mp h.pp.obj hx).elim
 .exact(mp h.ac.obj hx).elim
 .obtain⟨cur,h1⟩:=h.lg.obj hx;rw[h1]at hc;injection hc with hc;injection hc with _ hc;exact .inr (.inl hc.symm)
 .obtain⟨cur,h1⟩:=au h.ob hx;rw[h1]at hc;injection hc with hc;injection hc with _ hc;exact .inr (.inr hc.symm)
section
variable{w w':World}{bc:Nat}{gv sv:Value}{q:List bF}{n sz:Nat}{B:Nat->Nat->Nat}{ad:Nat->Nat->gD}{F:Nat->Nat->MR}
theorem CI.ay(h:CI w bc gv sv q n sz B ad F)(k:GB none w w'):CI w' bc gv sv q n sz B ad F:=by
 obtain⟨bg,cg,cur,tg,e1,e2,e3,e4,e5⟩:=h.ptr;refine⟨k.get h.fu nofun,ax h.row λx hx=>?_,h.len,⟨bg,cg,cur,tg,e1,e2,k.get e3 nofun,e4,λg hg=>?_⟩,λg i hg hi=>(h.rep g i hg hi).ay k,h.sep,h.ob⟩
 .obtain⟨c,hc⟩:=au h.row hx
  exact k.block x (ae hc) nofun
 .obtain⟨bs,ct,cur',ts,f1,f2,f3,f4,f5⟩:=e5 g hg
  exact⟨bs,ct,cur',ts,f1,f2,k.get f3 nofun,f4,f5⟩
theorem CI.enter(h:CI w bc gv sv q n sz B ad F){g i:Nat}(hg:g<n)(hi:i<sz):Wk (rest w (B g i) (ad g i)) (B g i) (F g i) w:=by
 refine⟨ad g i,h.rep g i hg hi,λb o hb=>?_,rfl,rfl⟩;unfold rest at hb;dsimp only at hb;split at hb
 .cases hb
 .rename_i hn
  exact⟨hb,hn⟩
theorem CI.TY(h:CI w bc gv sv q n sz B ad F){g i:Nat}(hg:g<n)(hi:i<sz){R':MR}{a':gD}(hw:Wa (rest w (B g i) (ad g i)) (B g i) R' a' w')(k:Kz w w'):CI w' bc gv sv q n sz B (fF ad g i a') (fF F g i R')/\w'.os=w.os/\w'.output=w.output/\qo n sz B bc w sv ad w' sv (fF ad g i a'):=by
 have kp:∀{x:Nat} {o:Obj},w.heap[x]?=some o->¬Own (B g i) (ad g i) x->w'.heap[x]?=some o/\¬Own (B g i) a' x:=λ{x o} hx hn=>hw.pr x o (by unfold rest;dsimp only;rw[Jb5 hn];exact hx)
 have nm:∀{x:Nat} {c:Array Value} {t:TypeId},w.heap[x]?=some (.cells c t)->t≠135->t≠80->t≠97->¬Own (B g i) (ad g i) x:=λhx h1 h2 h3 ho=>by
  rcases(h.rep g i hg hi).Cs ho hx with e|e|e
  .exact h1 e
  .exact h2 e
  .exact h3 e
 have nt:∀{t:TypeId},t ∉ Yu->t≠135/\t≠80/\t≠97:=λ{t} ht=>⟨λe=>ht (by rw[e];decide),λe=>ht (by rw[e];decide),λe=>ht (by rw[e];decide)⟩
 have fK:∀{g' i':Nat},g'<n->i'<sz->¬(g'=g/\i'=i)->∀x,Own (B g' i') (ad g' i') x->w'.heap[x]?=w.heap[x]?/\¬Own (B g i) a' x:=by
  intro g' i' hg' hi' hne x hx;have hlt:=(h.rep g' i' hg' hi').lt hx;obtain⟨o,ho⟩:∃o,w.heap[x]?=some o:=⟨w.heap[x],by simp[hlt]⟩;obtain⟨h1,h2⟩:=kp ho λhx'=>hne (by obtain⟨e1,e2⟩:=h.sep g' i' g i x hg' hi' hg hi hx hx';exact⟨e1,e2⟩)
  exact⟨h1.trans ho.symm,h2⟩
 refine⟨⟨(kp h.fu (nm h.fu (by decide) (by decide) (by decide))).1,ax h.row λx hx=>?_,h.len,?_,λg' i' hg' hi'=>?_,?_,?_⟩,hw.os,hw.out,λx o hx hn=>?_⟩
 .obtain⟨c,hc⟩:=au h.row hx
  exact(kp hc (h.ob g i x hg hi hx)).1.trans hc.symm
 .obtain⟨bg,cg,cur,tg,e1,e2,e3,e4,e5⟩:=h.ptr
  obtain⟨t1,t2,t3⟩:=nt (nC e4);refine⟨bg,cg,cur,tg,e1,e2,(kp e3 (nm e3 t1 t2 t3)).1,e4,λg hg=>?_⟩;obtain⟨bs,ct,cur',ts,f1,f2,f3,f4,f5⟩:=e5 g hg;obtain⟨t1,t2,t3⟩:=nt (nC f4);exact⟨bs,ct,cur',ts,f1,f2,(kp f3 (nm f3 t1 t2 t3)).1,f4,f5⟩
 .by_cases e:g'=g/\i'=i
  .obtain⟨rfl,rfl⟩:=e
   rw[bL,bL];exact hw.ri
  .rw[aZ _ _ e,aZ _ _ e]
   exact(h.rep g' i' hg' hi').keep k λx hx=>(fK hg' hi' e x hx).1
 .intro g1 i1 g2 i2 x h1 h2 h3 h4 o1 o2
  by_cases e1:g1=g/\i1=i<;>by_cases e2:g2=g/\i2=i
  .exact⟨e1.1.trans e2.1.symm,e1.2.trans e2.2.symm⟩
  .obtain⟨rfl,rfl⟩:=e1
   rw[bL]at o1;rw[aZ _ _ e2]at o2;exact((fK h3 h4 e2 x o2).2 o1).elim
  .obtain⟨rfl,rfl⟩:=e2
   rw[bL]at o2;rw[aZ _ _ e1]at o1;exact((fK h1 h2 e1 x o1).2 o2).elim
  .rw[aZ _ _ e1]at o1
   rw[aZ _ _ e2]at o2;exact h.sep g1 i1 g2 i2 x h1 h2 h3 h4 o1 o2
 .intro g1 i1 x h1 h2 hx o1
  by_cases e1:g1=g/\i1=i
  .obtain⟨rfl,rfl⟩:=e1
   rw[bL]at o1;obtain⟨c,hc⟩:=au h.row hx;exact(kp hc (h.ob _ _ x h1 h2 hx)).2 o1
  .rw[aZ _ _ e1]at o1
   exact h.ob g1 i1 x h1 h2 hx o1
 .obtain⟨h1,h2⟩:=kp hx λho=>hn (.inr (.inr ⟨g,i,hg,hi,ho⟩))
  refine⟨h1,λhc=>?_⟩;rcases hc with e|e|⟨g1,i1,q1,q2,o1⟩
  .exact hn (.inl e)
  .exact hn (.inr (.inl e))
  .by_cases e1:g1=g/\i1=i
   .obtain⟨rfl,rfl⟩:=e1
    rw[bL]at o1;exact h2 o1
   .rw[aZ _ _ e1]at o1
    exact hn (.inr (.inr ⟨g1,i1,q1,q2,o1⟩))
theorem CI.leave(h:CI w bc gv sv q n sz B ad F){g i:Nat}(hg:g<n)(hi:i<sz){R':MR}(hw:Wk (rest w (B g i) (ad g i)) (B g i) R' w')(k:Kz w w'):∃jV,CI w' bc gv sv q n sz B jV (fF F g i R')/\w'.os=w.os/\w'.output=w.output/\qo n sz B bc w sv ad w' sv jV:=by
 obtain⟨a',hw⟩:=hw;exact⟨_,h.TY hg hi hw k⟩
end
section
variable{w:World}{bc:Nat}{gv sv:Value}{q:List bF}{n sz:Nat}{B:Nat->Nat->Nat}{ad:Nat->Nat->gD}{F:Nat->Nat->MR}
theorem find_ok(h:CI w bc gv sv q n sz B ad F)(_hn:n<=4)(_hs:sz<=5)(g i:Nat)(hg:g<256)(hi:i<256):CY 37 #[Ptt bc,.agg #[.int .u8 g,.int .u8 i]] w (λv w'=>v=.pointer (if g<n/\i<sz then some ⟨B g i,0,none⟩else none)/\GB none w w'):=by
 refine aj Tryz.func37 rfl rfl ?_;intro w1 b1 m1 g1 l1;obtain⟨bg,cg,cur,tg,rfl,e2,e3,e4,e5⟩:=h.ptr;have hc:=g1.get h.fu nofun;have e3:=g1.get e3 nofun;refine⟨by kernel_rfl,_,_,m1,_,rfl,.inl ⟨by omega,_,_,m1,_,rfl,.inl ⟨by omega,?_⟩⟩⟩;refine⟨_,_,hc,_,rfl,ah (λc=>?_) (λc=>?_)⟩
 .have c1:g<n:=by simp at c;omega
  obtain⟨bs,ct,cur',ts,f1,f2,f3,f4,f5⟩:=e5 g c1;have f3:=g1.get f3 nofun;refine⟨_,_,hc,_,rfl,by omega,_,_,e3,.slice (Pty bs) sz ct,by show cur.toList[0+g*1]?=_;rw[Jfq,Jbh];exact f1,?_⟩;refine ah (λd=>?_) (λd=>?_)
  .have d1:¬(g<n/\i<sz):=by simp at d;omega
   rw[Jb5 d1];exact⟨rfl,g1⟩
  .have d1:i<sz:=by simp at d;omega
   rw[Jb6 ⟨c1,d1⟩];refine⟨_,_,hc,_,rfl,by omega,_,_,e3,.slice (Pty bs) sz ct,by show cur.toList[0+g*1]?=_;rw[Jfq,Jbh];exact f1,by omega,_,_,f3,.pointer (some ⟨B g i,0,none⟩),by show cur'.toList[0+i*1]?=_;rw[Jfq,Jbh];exact f5 i d1,?_⟩;exact⟨rfl,g1⟩
 .have c1:¬(g<n/\i<sz):=by simp at c;omega
  rw[Jb5 c1];exact⟨rfl,g1⟩
end
section
variable{A:aI}(HA:bG A){w:World}{bc:Nat}{gv sv:Value}{q:List bF}{n sz:Nat}{B:Nat->Nat->Nat}{ad:Nat->Nat->gD}{F:Nat->Nat->MR}
include HA
theorem WI(h:CI w bc gv sv q n sz B ad F)(hn:n<=4)(hs:sz<=5)(g i:Nat)(hg:g<256)(hi:i<256)(hF:g<n->i<sz->Ok A (F g i)):CY 53 #[Ptt bc,.agg #[.int .u8 g,.int .u8 i]] w (λv w'=>v=.int .i64 (if g<n/\i<sz then 0 else 6)/\(∃jV,CI w' bc gv sv q n sz B jV (if g<n/\i<sz then fF F g i (mStart A (F g i))else F)/\qo n sz B bc w sv ad w' sv jV)/\w'.os=w.os/\w'.output=w.output/\Kz w w'):=by
 refine aj Tryz.func53 rfl rfl ?_;intro w1 b1 m1 g1 l1;have h1:=h.ay g1;refine⟨_,_,m1,[.int .u8 g,.int .u8 i],rfl,rfl,_,find_ok h1 hn hs g i hg hi,?_⟩;rintro _ w2 ⟨rfl,g2⟩;have h2:=h1.ay g2;have G:=g1.trans g2;by_cases c:g<n/\i<sz
 .rw[Jb6 c,Jb6 c,Jb6 c]
  have o:=hF c.1 c.2;refine⟨_,Mo HA (h2.enter c.1 c.2) o.i.2.1 o.i.2.2.1,?_⟩;rintro _ w3 ⟨rfl,h3,k3⟩;obtain⟨jV,h4,h5,h6,f6⟩:=h2.leave c.1 c.2 h3 k3;exact⟨rfl,⟨jV,h4,(qo.ay G).trans f6⟩,h5.trans G.os,h6.trans G.out,G.kz.trans k3⟩
 .rw[Jb5 c,Jb5 c,Jb5 c]
  exact⟨rfl,⟨ad,h2,qo.ay G⟩,G.os,G.out,G.kz⟩
end
section
variable{w w1 w2:World}{bc:Nat}{gv sv:Value}{q:List bF}{n sz:Nat}{B:Nat->Nat->Nat}{ad:Nat->Nat->gD}{F:Nat->Nat->MR}
theorem CI.pk(h:CI w bc gv sv q n sz B ad F){bX:Value}{q':List bF}(hl:q'.length<=20000)(g1:GB sv.ownBlock w w1)(ho:w1.ownsRow 0 97 5 bX q'.length (flat q'))(hn:∀g,bX.ownBlock=some g->sv.ownBlock=some g\/w.heap.size<=g)(m2:w2.heap[bc]?=some (.cells #[gv,bX] 118))(g2:GB (some bc) w1 w2):CI w2 bc gv bX q' n sz B ad F/\Kz w w2/\w2.os=w.os/\w2.output=w.output/\qo n sz B bc w sv ad w2 bX ad:=by
 have tb:∀{x:Nat},sv.ownBlock=some x->∃cur,w.heap[x]?=some (.cells cur 97):=λhx=>au h.row hx
 have nb:∀x,sv.ownBlock=some x->x≠bc:=λx hx e=>by
  subst e;obtain⟨c,hc⟩:=tb hx;rw[h.fu]at hc;injection hc with hc;injection hc with _ hc;revert hc;decide
 have nb':∀x,bX.ownBlock=some x->x≠bc:=λx hx e=>by
  rcases hn x hx with h1|h1
  .exact nb x h1 e
  .have:=ae h.fu;omega
 have kp:∀x,x<w.heap.size->some x≠sv.ownBlock->x≠bc->w2.heap[x]?=w.heap[x]?:=λx hx h1 h2=>(g2.block x (Jbz hx g1.size) λe=>h2 (Jbm e)).trans (g1.block x hx h1)
 have kt:∀{x:Nat} {c:Array Value} {t:TypeId},w.heap[x]?=some (.cells c t)->t≠97->t≠118->w2.heap[x]?=some (.cells c t):=λ{x c t} hx h1 h2=>(kp x (ae hx) (λe=>by obtain⟨cur,hc⟩:=tb e.symm;rw[hx]at hc;injection hc with hc;injection hc with _ hc;exact h1 hc) (λe=>by subst e;rw[h.fu]at hx;injection hx with hx;injection hx with _ hx;exact h2 hx.symm)).trans hx
 have k:Kz w w2:=λt ht b c hb=>kt hb (λe=>by subst e;revert ht;decide) (λe=>by subst e;revert ht;decide)
 have nt:∀{t:TypeId},t ∉ Yu->t≠97/\t≠118:=λ{t} ht=>⟨λe=>ht (by rw[e];decide),λe=>ht (by rw[e];decide)⟩
 have ow:∀g i x,g<n->i<sz->Own (B g i) (ad g i) x->x≠bc:=λg i x hg hi ho e=>by
  subst e;rcases(h.rep g i hg hi).Cs ho h.fu with e|e|e<;>revert e<;>decide
 refine⟨⟨m2,ax ho λx hx=>?_,hl,?_,λg i hg hi=>(h.rep g i hg hi).keep k λx hx=>kp x ((h.rep g i hg hi).lt hx) (λe=>h.ob g i x hg hi e.symm hx) (ow g i x hg hi hx),h.sep,λg i x hg hi hx hO=>?_⟩,k,g2.os.trans g1.os,g2.out.trans g1.out,λx o hx hN=>?_⟩
 .obtain⟨cur,hc⟩:=au ho hx
  exact g2.block x (ae hc) λe=>nb' x hx (Jbm e)
 .obtain⟨bg,cg,cur,tg,e1,e2,e3,e4,e5⟩:=h.ptr
  refine⟨bg,cg,cur,tg,e1,e2,kt e3 (nt (nC e4)).1 (nt (nC e4)).2,e4,λg hg=>?_⟩;obtain⟨bs,ct,cur',ts,f1,f2,f3,f4,f5⟩:=e5 g hg;exact⟨bs,ct,cur',ts,f1,f2,kt f3 (nt (nC f4)).1 (nt (nC f4)).2,f4,f5⟩
 .rcases hn x hx with h1|h1
  .exact h.ob g i x hg hi h1 hO
  .have:=(h.rep g i hg hi).lt hO;omega
 .refine⟨(kp x (ae hx) (λe=>hN (.inr (.inl e.symm))) λe=>hN (.inl e)).trans hx,λhc=>?_⟩
  rcases hc with e|e|e
  .exact hN (.inl e)
  .rcases hn x e with h1|h1
   .exact hN (.inr (.inl h1))
   .have:=ae hx;omega
  .exact hN (.inr (.inr e))
def ko(q:List bF)(p:bF):List bF:=if q.length<20000 then q++[p]else q
theorem WJ{k:Nat}(h:decide ((k:Int)<20000)=true):k<20000:=by have:=Ptq h;omega
theorem acj{k:Nat}(h:decide ((k:Int)<20000)=false):¬k<20000:=by have:=Ptx h;omega
theorem JH{q:List bF}{p:bF}(h:q.length<20000):ko q p=q++[p]:=by unfold ko;rw[Jb6 h]
theorem WK{q:List bF}{p:bF}(h:¬q.length<20000):ko q p=q:=by unfold ko;rw[Jb5 h]
theorem Z5(h:CI w bc gv sv q n sz B ad F)(p:bF):CY 45 #[Ptt bc,.agg p.cells.toArray] w (λv w'=>v=.tuple #[]/\(∃bX,CI w' bc gv bX (ko q p) n sz B ad F/\qo n sz B bc w sv ad w' bX ad)/\Kz w w'/\w'.os=w.os/\w'.output=w.output):=by
 refine aj Tryz.func45 rfl rfl ?_;intro w1 b1 m1 g1 l1;have h1:=h.ay g1;obtain⟨sa,sc,rfl⟩:=af h1.row;have hlen:=h.len;obtain⟨bg,cg,cur,tg,egv,_⟩:=h.ptr;subst egv;refine⟨_,_,h1.fu,_,rfl,ah (λc=>?_) (λc=>?_)⟩
 .have c1:q.length<20000:=WJ c
  have em:=JH (p:=p) c1;rw[em];refine⟨by kernel_rfl,_,_,h1.fu,_,rfl,_,_,m1,p.cells,rfl,rfl,λw2 b2 m2 g2 l2=>?_⟩;have h2:=h1.ay g2;refine⟨⟨g2.get m1 nofun,h2.fu,trivial⟩,_,p.cells,h2.row,⟨_,_,m2,rfl,rfl,rfl⟩,by omega,λlv w3 ho3 g3 n3=>?_⟩;have m3:w3.heap[bc]?=_:=(g3.block bc (ae h2.fu) λe=>by
   obtain⟨c,hc⟩:=au h2.row e.symm;rw[h2.fu]at hc;injection hc with hc;injection hc with _ hc;revert hc;decide).trans h2.fu
  obtain⟨la,lc,rfl⟩:=af ho3;refine⟨_,_,_,m3,rfl,rfl,λw4 m4 g4=>?_⟩;obtain⟨h4,k4,o4,u4,f4⟩:=h2.pk (q':=q++[p]) (by simp;omega) g3 (by rw[Jc6,show flat (q++[p])=flat q++p.cells by simp[flat]];exact ho3) n3 m4 g4;have G:=g1.trans g2;exact⟨rfl,⟨_,h4,(qo.ay G).trans f4⟩,G.kz.trans k4,o4.trans G.os,u4.trans G.out⟩
 .have c1:¬q.length<20000:=acj c
  have em:=WK (p:=p) c1;rw[em];exact⟨rfl,⟨_,h1,qo.ay g1⟩,g1.kz,g1.os,g1.out⟩
end
theorem agZ{k:Nat}(h:decide ((k:Int)>1000)=true):k>1000:=by have:=Ptq h;omega
theorem ag0{k:Nat}(h:decide ((k:Int)>1000)=false):¬k>1000:=by have:=Ptx h;omega
section
variable{w:World}{bc:Nat}{gv sv:Value}{q:List bF}{n sz:Nat}{B:Nat->Nat->Nat}{ad:Nat->Nat->gD}{F:Nat->Nat->MR}
theorem WL(h:CI w bc gv sv q n sz B ad F)(hn:n<=4)(hs:sz<=5)(g i:Nat)(hg:g<256)(hi:i<256)(d:ByteArray):CY 22 #[Ptt bc,.agg #[.int .u8 g,.int .u8 i],.string d] w (λv w'=>(∃bX q',CI w' bc gv bX q' n sz B ad F/\qo n sz B bc w sv ad w' bX ad/\((¬(g<n/\i<sz)/\v=.tuple #[.int .i64 0,.int .i64 6]/\q'=q)\/((g<n/\i<sz)/\d.size>1000/\v=.tuple #[.int .i64 0,.int .i64 2]/\q'=q)\/((g<n/\i<sz)/\¬d.size>1000/\v=.tuple #[.int .i64 q.length,.int .i64 0]/\q'=ko q ⟨255,255,g,i,d⟩)))/\Kz w w'/\w'.os=w.os/\w'.output=w.output):=by
 refine aj Tryz.func22 rfl rfl ?_;intro w1 b1 m1 g1 l1;have h1:=h.ay g1;refine⟨_,_,m1,[.int .u8 g,.int .u8 i],rfl,rfl,_,find_ok h1 hn hs g i hg hi,?_⟩;rintro _ w2 ⟨rfl,g2⟩;have h2:=h1.ay g2;have G:=g1.trans g2;by_cases c:g<n/\i<sz
 .rw[Jb6 c]
  refine ah (λe=>?_) (λe=>?_)
  .have e1:d.size>1000:=agZ e
   exact⟨⟨_,_,h2,qo.ay G,.inr (.inl ⟨c,e1,rfl,rfl⟩)⟩,G.kz,G.os,G.out⟩
  .have e1:¬d.size>1000:=ag0 e
   obtain⟨bg,cg,cur,tg,egv,_⟩:=h.ptr;subst egv;obtain⟨sa,sc,rfl⟩:=af h2.row;refine⟨_,_,h2.fu,_,rfl,λw3 b3 m3 g3 l3=>⟨_,_,_,m3,rfl,rfl,λw4 m4 g4=>?_⟩⟩;have g24:GB none w2 w4:=g3.new g4 l3;have h4:=h2.ay g24;refine⟨_,_,m4,[.int .u8 255,.int .u8 255],rfl,rfl,_,_,(g2.trans g24).get m1 nofun,[.int .u8 g,.int .u8 i],rfl,rfl,_,Z5 h4 ⟨255,255,g,i,d⟩,?_⟩;rintro _ w5 ⟨rfl,⟨bX,h5,f5⟩,k5,o5,u5⟩;have GG:=G.trans g24;exact⟨⟨_,_,h5,(qo.ay GG).trans f5,.inr (.inr ⟨c,e1,rfl,rfl⟩)⟩,GG.kz.trans k5,o5.trans GG.os,u5.trans GG.out⟩
 .rw[Jb5 c]
  exact⟨⟨_,_,h2,qo.ay G,.inl ⟨c,rfl,rfl⟩⟩,G.kz,G.os,G.out⟩
end
section
variable{A:aI}{R:MR}
theorem Ok.stand(ho:Ok A R):Ok A (gF R):=⟨ho.sz,ho.i,ho.st,ho.kn,λ_ _ h=>(by cases h),ho.vt,ho.wv,λ_ _ h=>(by cases h),λ_ _ h=>(by cases h),Jg5 _,ho.lg,ho.lc,ho.nx,ho.sn⟩
theorem Ok.fO(ho:Ok A R){b:bH}(hb:b.n<=4294967295):Ok A {R with sc:={R.sc with b:=b} }:=⟨ho.sz,ho.i,ho.st,ho.kn,ho.pp,ho.vt,ho.wv,ho.mt,ho.ac,ho.pr,ho.lg,ho.lc,ho.nx,ho.sn.1,hb,ho.sn.2.2⟩
theorem Ok.refuse(ho:Ok A R)(f:Nat×Nat){b:bH}(hb:b.n<=4294967295):Ok A (bN A.enc R f b):=by
 unfold bN;split
 .exact ho.snd _ _ _
 .split
  .exact ho
  .exact(ho.fO hb).stand
theorem Ok.Mq(ho:Ok A R)(f:Nat×Nat){b:bH}(hb:b.n<=4294967295):Ok A (uw A.enc R f b):=by
 unfold uw;split
 .exact ho.refuse f hb
 .exact(ho.refuse f hb).snd _ _ _
theorem Ok.zk(ho:Ok A R)(f:Nat×Nat){m:MM}(hb:m.b.n<=4294967295)(hc:A.gc m.c/\m.s<60):Ok A (kX A R f m):=by
 unfold kX;split
 .exact ho.refuse f hb
 .exact((ho.refuse f hb).E5 hc.2 hc.1).snd _ _ _
end
section
variable{A:aI}(HA:bG A){R:MR}
include HA
theorem Ok.WM(ho:Ok A R){f:Nat×Nat}(hf:f.2<5)(m:MM):Ok A (vW A R f m):=by
 unfold vW;split
 .exact(ho.Ah HA hf).1
 .exact ho
theorem Ok.ask(ho:Ok A R){q:aW}(hq:A.gc (fM q)):Ok A (wW A R q):=by
 unfold wW;split
 .exact ho
 .split
  .exact ho.snd _ _ _
  .exact(ho.offer HA hq).1
theorem Ok.promise(ho:Ok A R){f:Nat×Nat}(hf:f.2<5)(b:bH){vs:List MV}(hv:∀v∈vs,A.gc v.c/\v.slot<60):Ok A (jB A R f b vs):=by
 unfold jB;split
 .exact ho
 .exact((ho.ik hv).Ai HA hf).1
theorem Ok.move(ho:Ok A R)(f:Nat×Nat){r:Rg}(hr:A.gc (lL r)):Ok A (uy A R f r):=by
 unfold uy;split
 .exact ho
 .split
  .exact ho.snd _ _ _
  .split
   .exact(ho.offer HA hr).1
   .exact ho
theorem Ok.WN(ho:Ok A R){p:Nat}{s:Int}(hp:A.gc (pU p s)):Ok A (uz A R p s):=by
 unfold uz;split
 .exact ho
 .split
  .exact ho
  .split
   .exact(ho.offer HA hp).1
   .exact ho
theorem Ok.take2(ho:Ok A R){f:Nat×Nat}{m:MM}(hm:GM A R f m):Ok A (qm A R f m):=by
 unfold qm;split
 .rename_i k;exact ho.ask HA (hm.ask k)
 split
 .exact ho.Mq f hm.bn
 split
 .rename_i k;exact ho.promise HA (hm.vs k).2.2 _ (hm.vs k).1
 split
 .split
  .exact ho.stand
  .exact ho
 split
 .rename_i k;exact ho.zk f hm.bn (hm.acc k)
 split
 .rename_i k;exact ho.WM HA (hm.ru k).2 m
 split
 .rename_i k;exact(ho.agree HA (hm.dec k).2 (hm.dec k).1).1
 split
 .rename_i k;exact ho.move HA f (hm.lU k).2.2.2
 split
 .rename_i k
  have e:(m.peer.toNat:Int)=m.peer:=Jfp (hm.jH k).1;exact ho.WN HA (by rw[e];exact(hm.jH k).2.2)
 .exact ho
theorem Ok.take(ho:Ok A R){f:Nat×Nat}{d:ByteArray}(hm:∀m,A.dec d=some m->¬(f.1=255/\m.kind≠1)->GM A R f m):Ok A (kR A R f d):=by
 unfold kR;split
 .exact ho
 .rename_i m hd
  split
  .exact ho
  .rename_i hn
   have g:=hm m hd hn;exact(ho.seen g.bn).take2 HA ⟨g.bn,g.ask,g.vs,g.acc,g.ru,g.dec,g.lU,g.jH⟩
end
section
variable{A:aI}(HA:bG A){R:MR}
include HA
theorem Ok.new{g i gs sz:Nat}(hg:g<gs)(hn:gs<=4)(hN:gs=A.N)(hi:i<sz)(hz:sz<=5):Ok A (Fb A g i gs sz) :=
 ⟨hz,⟨hi,hg,hn,hN⟩,HA.Ag _ _ hN hg hn,λ_ _ h=>(by cases h),λ_ _ h=>(by cases h),λ_ _ h=>(by cases h),λ_ _ h=>(by cases h),λ_ _ h=>(by cases h),λ_ _ h=>(by cases h),Jg5 _,Jcm _,λ_ h=>(by cases h),Jcm _,Jcm _,Jcm _,Jcm _⟩
omit HA in
theorem GN(R:MR)(f:Nat×Nat)(b:bH):(bN A.enc R f b).out.length<=R.out.length+1:=by
 unfold bN;split
 .rw[kJ];simp
 .split
  .omega
  .show R.out.length<=_;omega
theorem TZ(ho:Ok A R){f:Nat×Nat}{m:MM}(hm:GM A R f m):(qm A R f m).out.length<=R.out.length+20000:=by
 have one:∀(R:MR) (mm:MM) (x:Nat×Nat),(mh A.enc R mm [x]).out.length=R.out.length+1:=λR mm x=>by rw[kJ];rfl
 unfold qm;split
 .rename_i k
  unfold wW;split
  .omega
  split
  .unfold Ae;rw[one];omega
  .exact Jb1 (ho.offer HA (hm.ask k)).2.1 (by omega)
 split
 .unfold uw
  have:=GN (A:=A) R f m.b;split
  .omega
  .rw[one];omega
 split
 .rename_i k
  unfold jB;split
  .omega
  .exact((ho.ik (hm.vs k).1).Ai HA (hm.vs k).2.2).2.1
 split
 .split
  .show R.out.length<=_;omega
  .omega
 split
 .unfold kX
  have:=GN (A:=A) R f m.b;split
  .omega
  .rw[one]
   show(bN A.enc R f m.b).out.length+1<=_;omega
 split
 .rename_i k
  unfold vW;split
  .exact Jb1 (ho.Ah HA (hm.ru k).2).2.1 (by omega)
  .omega
 split
 .rename_i k
  exact Jb1 (ho.agree HA (hm.dec k).2 (hm.dec k).1).2.1 (by omega)
 split
 .rename_i k
  unfold uy;split
  .omega
  split
  .unfold Af;rw[one];omega
  split
  .exact Jb1 (ho.offer HA (hm.lU k).2.2.2).2.1 (by omega)
  .omega
 split
 .rename_i k
  have e:(m.peer.toNat:Int)=m.peer:=Jfp (hm.jH k).1;unfold uz;split
  .omega
  split
  .omega
  split
  .exact Jb1 (ho.offer HA (by rw[e];exact(hm.jH k).2.2)).2.1 (by omega)
  .omega
 .omega
theorem take_len(ho:Ok A R){f:Nat×Nat}{d:ByteArray}(hm:∀m,A.dec d=some m->¬(f.1=255/\m.kind≠1)->GM A R f m):(kR A R f d).out.length<=R.out.length+20000:=by
 unfold kR;split
 .omega
 .rename_i m hd
  split
  .omega
  .rename_i hn
   have g:=hm m hd hn;exact TZ HA (ho.seen g.bn) ⟨g.bn,g.ask,g.vs,g.acc,g.ru,g.dec,g.lU,g.jH⟩
theorem WO(ho:Ok A R):(mR A R).out.length<=R.out.length+30000:=by
 obtain⟨o1,l1,_,_⟩:=ho.bK HA;have h2:(gN A (bK A R)).out.length<=(bK A R).out.length+5:=by
  unfold gN;rw[kJ];have:=jm (bK A R).sc.g (bK A R).sc.i (bK A R).sc.g (bK A R).sc.sz;have:=o1.sz;omega
 unfold mR sj;split
 .omega
 split
 .have o2:Ok A (gN A (bK A R)):=o1.snd _ _ _
  have r1:=xR A.enc (gN A (bK A R)) o2.sz (gN A (bK A R)).sc.next;have o3:=r1.ok o2;have r2:=xS A.enc (iL A.enc (gN A (bK A R)) (gN A (bK A R)).sc.next) o3.sz (gN A (bK A R)).st.O.length;have a1:=r1.len;have a2:=r2.len;have a3:=HA.ol _ o2.st;have a4:=o2.nx;unfold uf;exact Jb1 a2 (by omega)
 .omega
end
end
