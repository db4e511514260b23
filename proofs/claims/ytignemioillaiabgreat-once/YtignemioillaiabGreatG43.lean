/- Lemmas. -/
import Derived.Test.YtignemioillaiabGreatG42
namespace Go.Proofs.YtignemioillaiabGreat
set_option maxHeartbeats 8000000
set_option linter.unusedSectionVars false
set_option maxRecDepth 100000
open List
section
open Go Go.Conc
theorem Sit.aeP(A:aI)(S:Sit)(t:Stp):(S.uU A t).bad=S.bad:=by
 unfold Sit.uU;split
 .split<;>rfl
 .rfl
section
variable{Λ:bW}{w w':World}{bs bc:Nat}{S:Sit}{a:zz}{gv sv:Value}{B:Nat->Nat->Nat}{ad:Nat->Nat->gD}
theorem iI.rU(h:iI Λ bs bc S a gv sv B ad w){b:Nat}(hb:w.heap.size<=b):Λ.pr b=none:=by
 cases hp:Λ.pr b with
 |none=>rfl
 |some o=>have:=ae (h.pr b o hp).1;omega
theorem iI.cl(h:iI Λ bs bc S a gv sv B ad w){x:Nat}(hx:nO S.C.n S.C.sz B bc sv ad x):x<w.heap.size:=by
 rcases hx with rfl|hx|⟨g,i,hg,hi,hx⟩
 .exact ae h.ci.fu
 .obtain⟨c,hc⟩:=au h.ci.row hx;exact ae hc
 .exact(h.ci.rep g i hg hi).lt hx
theorem iI.box(h:iI Λ bs bc S a gv sv B ad w)(g:GB none w w'){b:Nat}{o:Obj}(hb:w'.heap[b]?=some o)(hl:w.heap.size<=b):iI (Λ.add b o) bs bc S a gv sv B ad w':=by
 have h':=h.ay g;refine⟨h'.si,h'.ci,h'.dj,λx q hx=>?_,h'.os,h'.out⟩;unfold bW.add at hx;dsimp only at hx;split at hx
 .rename_i e
  subst e;cases hx
  exact⟨hb,λe=>(by have:=h.si.lt e;omega),λe=>(by have:=h.cl e;omega)⟩
 .exact h'.pr x q hx
theorem dX.at{b:Nat}{o:Obj}(h:dX (Λ.add b o) bs S w):w.heap[b]?=some o:=by
 obtain⟨_,_,_,_,_,_,h⟩:=h;exact(h.pr b o (bW.zi _ _ _)).1
theorem dX.drop{b:Nat}{o:Obj}(h:dX (Λ.add b o) bs S w)(hb:Λ.pr b=none):dX Λ bs S w:=by
 obtain⟨bc,a,gv,sv,B,ad,h⟩:=h;refine⟨bc,a,gv,sv,B,ad,h.si,h.ci,h.dj,λx q hx=>h.pr x q ?_,h.os,h.out⟩;unfold bW.add;dsimp only;rw[Jb5 (λe=>by subst e;rw[hb]at hx;cases hx)];exact hx
end
section
variable{A:aI}(HA:bG A)(HN:dS A)(HL:uD A){Λ:bW}{w:World}{bs:Nat}{S:Sit}
include HA HN HL
theorem ahw(h:dX Λ bs S w)(hF:S.aK A){t:Stp}(ht:t.wf A):lV Tryz.prog 26 #[Ptt bs,.agg t.cells.toArray] w (λv w'=>v=.bool (S.do A t).2/\dX Λ bs (S.do A t).1 w'/\Kz w w'):=by
 have oI:=hF.cl.n;have hs5:=hF.cl.sz;have hlen:=hF.cl.len;have hak:=hF.ak;obtain⟨bc,a,gv,sv,B,ad,hS⟩:=h;obtain⟨q1,q2⟩:=AX (C:=S.C) (k:=t.a) hF.n hF.sz;refine Mt fG Tryz.func26 rfl rfl ?_;refine aM.piece (Q:=λq w1=>∃b3,q=[(0,Ptt bs),(3,Ptt b3)]/\Hl w1 b3 t.cells 95/\GB none w w1/\w.heap.size<=b3) (aM.e ?_) ?_
 .exact λw1 b3 m1 g1 l1=>⟨_,by exact sb rfl,b3,rfl,m1,g1,l1⟩
 rintro q w1 ⟨b3,rfl,m1,g1,lb3⟩;have h1:=hS.ay g1;refine aM.piece (Q:=λq w2=>q=[(0,Ptt bs),(3,Ptt b3),(5,.int .i64 S.C.q.length)]/\GB none w1 w2) (aM.e ?_) ?_
 .refine⟨_,_,h1.si.mem,_,rfl,_,(MJ h1.enter hlen 0 (by decide) (by decide)).x,?_⟩
  rintro lv w2 ⟨o2,g2,_⟩;have e0:S.C.q.length-min (0:Int).toNat S.C.q.length=S.C.q.length:=by simp
  rw[e0]at o2;obtain⟨la,lc,rfl⟩:=af o2;exact⟨_,by exact sb rfl,rfl,g2⟩
 rintro q w2 ⟨rfl,g2⟩;have h2:=h1.ay g2;refine aM.piece (Q:=λq w5=>∃b6,q=[(0,Ptt bs),(3,Ptt b3),(5,.int .i64 S.C.q.length),(6,Ptt b6)]/\w5.heap[b6]?=some (.cells #[.int .u8 (bf S.C t.a),.int .u8 (bQ S.C t.a)] 48)/\GB none w2 w5/\w.heap.size<=b6) (aM.e ?_) ?_
 .refine⟨_,_,g2.get m1 nofun,_,rfl,_,(PH h2.si.mem ⟨hF.n,oI⟩ ⟨hF.sz,hs5⟩ t.a ht.a.1 ht.a.2).x,?_⟩
  rintro _ w3 ⟨rfl,g3⟩;refine λw4 b6 m4 g4 l4=>⟨_,_,_,m4,rfl,rfl,λw5 m5 g5=>?_⟩
  exact⟨_,by exact sb rfl,b6,rfl,m5,g3.trans (g4.new g5 l4),Jb1 ((g1.trans g2).trans g3).size l4⟩
 rintro q w5 ⟨b6,rfl,m5,MI,lb6⟩;have G:GB none w w5:=(g1.trans g2).trans MI;have m15:=(g2.trans MI).get m1 nofun;have h5:=hS.ay G;have hmem:=h5.si.mem;have vJ:=m5;have pk:=rA w5 t.kind 7 (by decide) ht.kind.1 ht.kind.2;have hp:=jE t.kind (show 0<7 by decide);unfold Sit.do;generalize bE t.kind 7=j at pk hp;obtain rfl|rfl|rfl|rfl|rfl|rfl|rfl:j=0\/j=1\/j=2\/j=3\/j=4\/j=5\/j=6:=by omega
 .refine aM.e ⟨_,_,m15,_,rfl,_,pk.x,?_⟩
  rintro _ w5 ⟨rfl,rfl⟩;refine ah (λc=>?_) (λc=>?_)
  .have c1:S.C.q.length<20000:=WJ c
   have ek:S.yh A t 0=(S.sends A (dh t.q) (bf S.C t.a) (bQ S.C t.a),!S.bad):=by show(if S.C.q.length<20000 then _ else _,_)=_;rw[Jb6 c1]
   refine⟨by kernel_rfl,_,_,m15,t.q.cells,rfl,rfl,_,_,vJ,[.int .u8 (bf S.C t.a),.int .u8 (bQ S.C t.a)],rfl,rfl,_,(Xu w5 t.q ht.s ht.k).x,?_⟩;rintro _ w6 ⟨rfl,g6⟩;have hak:=hF.ak;refine⟨⟨g6.get vJ nofun,g6.get m15 nofun,trivial⟩,_,(PI HL ⟨_,_,_,_,_,_,h5.ay g6⟩ hF.cl ht.r q1 q2 (by omega)).x,?_⟩;rintro _ w7 ⟨rfl,h7,k7⟩;rw[ek];obtain⟨_,_,_,_,_,_,h7⟩:=h7;exact⟨_,_,h7.si.mem,_,rfl,rfl,⟨_,_,_,_,_,_,h7⟩,(G.kz.trans g6.kz).trans k7⟩
  .have c1:¬S.C.q.length<20000:=acj c
   have ek:S.yh A t 0=(S,!S.bad):=by show(if S.C.q.length<20000 then _ else _,_)=_;rw[Jb5 c1]
   rw[ek];exact⟨_,_,hmem,_,rfl,rfl,⟨_,_,_,_,_,_,h5⟩,G.kz⟩
 .rw[show S.yh A t 1=(S.uU A t,!S.bad)from rfl]
  refine aM.cut (Qn:=λq w'=>q=[(0,Ptt bs)]/\dX Λ bs (S.uU A t) w'/\Kz w w') (Qx:=λ_ _ _=>False) (Qr:=λ_ _=>False) ?_ ?_ (λ_ _ _ _ h _=>h.elim) (λ_ _ _ h _=>h.elim);rotate_left
  .rintro q w' ⟨rfl,h',k'⟩
   refine aM.e ?_;obtain⟨_,_,_,_,_,_,h'⟩:=h';refine⟨_,_,h'.si.mem,_,rfl,?_,⟨_,_,_,_,_,_,h'⟩,k'⟩;show Value.bool (!(S.uU A t).bad)=_;rw[Sit.aeP]
  refine aM.piece (Q:=λq w'=>q=[(0,Ptt bs),(3,Ptt b3),(5,.int .i64 S.C.q.length),(6,Ptt b6),(28,.int .i64 1)]/\w'=w5) (aM.e ?_) ?_
  .refine⟨_,_,m15,_,rfl,_,pk.x,?_⟩
   rintro _ w5 ⟨rfl,rfl⟩;exact⟨_,by exact sb rfl,rfl,rfl⟩
  rintro q w5 ⟨rfl,rfl⟩;refine aM.block ?_;refine aM.piece (Q:=λq w'=>q=[(0,Ptt bs),(3,Ptt b3),(5,.int .i64 S.C.q.length),(6,Ptt b6),(28,.int .i64 1),(35,.bool false)]/\w'=w5) (aM.e ⟨_,by exact sb rfl,rfl,rfl⟩) ?_;rintro q w5 ⟨rfl,rfl⟩;refine aM.cond false rfl ?_;refine aM.piece (Q:=λq w'=>q=[(0,Ptt bs),(3,Ptt b3),(5,.int .i64 S.C.q.length),(6,Ptt b6),(45,.bool true)]/\w'=w5) (aM.e ⟨_,by exact sb rfl,rfl,rfl⟩) ?_;rintro q w5 ⟨rfl,rfl⟩;refine aM.cond true rfl ?_;refine aM.piece (Q:=λq w8=>∃b7 e m rv dv vv rv' jU,q=[(0,Ptt bs),(3,Ptt b3),(5,.int .i64 S.C.q.length),(6,Ptt b6),(7,Ptt b7),(8,.int .i64 e)]/\Hl w8 b7 (iW m rv dv vv rv' jU) 83/\((e=0/\A.dec t.d=some m)\/(e≠0/\A.dec t.d=none))/\GB none w5 w8/\w.heap.size<=b7) (aM.e ?_) ?_
  .refine⟨_,_,m15,_,rfl,_,(HA.parse w5 t.d).x,?_⟩
   rintro _ w6 ⟨⟨mv,e,m,rfl,hm,hc⟩,g6⟩;obtain⟨rv,dv,vv,rv',jU,rfl,i1,i2,i3⟩:=hm;obtain⟨_,_,_,_,_,_,rfl,rfl⟩:=i1.sl;obtain⟨_,_,rfl⟩:=i2.sl;obtain⟨_,_,_,_,_,_,rfl,rfl⟩:=i3.sl;refine λw7 b7 m7 g7 l7=>⟨_,_,_,m7,rfl,rfl,λw8 m8 g8=>?_⟩
   exact⟨_,by exact sb rfl,b7,e,m,_,_,_,_,_,rfl,m8,hc.imp (λx=>⟨x.1,x.2.1⟩) id,g6.trans (g7.new g8 l7),Jb1 (G.trans g6).size l7⟩
  rintro q w8 ⟨b7,e,m,rv,dv,vv,rv',jU,rfl,m8,hc,Er,lb7⟩;have h8:=h5.ay Er;have ahx:=Er.get m15 nofun;have m58:=Er.get m5 nofun;have nc:∀{x:Nat},w.heap.size<=x->¬nO S.C.n S.C.sz B bc sv ad x:=λ{x} hl hC=>by
   rcases hC with e|e|⟨g',i',p1,p2,p3⟩
   .subst e;have:=ae hS.ci.fu;omega
   .obtain⟨c',hc'⟩:=au hS.ci.row e;have:=ae hc';omega
   .have:=(hS.ci.rep g' i' p1 p2).lt p3;omega
  refine aM.piece (Q:=λq w9=>∃k f,q=[(0,Ptt bs),(5,.int .i64 S.C.q.length),(6,Ptt b6),(7,Ptt b7),(8,.int .i64 e),(9,.int .i64 k),(10,.int .i64 f)]/\(f=0↔¬t.d.size>1000)/\(f=0->k=(S.C.q.length:Nat))/\w9.heap[b6]?=some (.cells #[.int .u8 (bf S.C t.a),.int .u8 (bQ S.C t.a)] 48)/\Hl w9 b7 (iW m rv dv vv rv' jU) 83/\dX Λ bs {S with C:=S.C.send (bf S.C t.a) (bQ S.C t.a) t.d} w9/\Kz w w9) (aM.e ?_) ?_
  .refine⟨by kernel_rfl,_,_,h8.si.mem,_,rfl,_,_,m58,[.int .u8 (bf S.C t.a),.int .u8 (bQ S.C t.a)],rfl,rfl,_,_,ahx,_,rfl,_,(Uc h8.enter oI hs5 (bf S.C t.a) (bQ S.C t.a) (by omega) (by omega) t.d).x,?_⟩
   rintro _ w9 ⟨rfl,hC9,k9⟩;have pr9:∀{x:Nat} {o:Obj},w8.heap[x]?=some o->w.heap.size<=x->w9.heap[x]?=some o:=λ{x o} hx hl=>by
    obtain⟨_,_,_,_,h'⟩:=hC9;exact(h'.pr x o (by unfold AU;dsimp only;rw[Jb5 (nc hl)];exact hx)).1
   obtain⟨en,ez⟩:=S.C.qz (bf S.C t.a) (bQ S.C t.a) t.d;refine⟨_,by exact sb rfl,_,_,rfl,?_,?_,pr9 m58 lb6,pr9 m8 lb7,h8.leave en ez hC9 k9,(G.trans Er).kz.trans k9⟩
   .rw[Jb6 ⟨q1,q2⟩]
    by_cases c:t.d.size>1000
    .rw[Jb6 c];simp[c]
    .rw[Jb5 c];simp[c]
   .rw[Jb6 ⟨q1,q2⟩]
    by_cases c:t.d.size>1000
    .rw[Jb6 c];intro h;cases h
    .intro _;exact Jb6 ⟨⟨q1,q2⟩,c⟩
  rintro q w9 ⟨k,f,rfl,hf1,hf2,m59,m79,h9,K9⟩;have eno:(∀m',A.dec t.d=some m'->¬(m'.kind=1/\¬t.d.size>1000/\S.C.q.length<20000))->S.uU A t={S with C:=S.C.send (bf S.C t.a) (bQ S.C t.a) t.d}:=λh=>by
   unfold Sit.uU;cases hd:A.dec t.d with
   |none=>rfl
   |some m'=>show(if m'.kind=1/\¬t.d.size>1000/\S.C.q.length<20000 then _ else _)=_;rw[Jb5 (h m' hd)]
  refine aM.piece (Q:=λq w'=>∃r:Bool,q=[(0,Ptt bs),(6,Ptt b6),(7,Ptt b7),(9,.int .i64 k),(78,.bool r)]/\(r=true↔(e=0/\m.kind=1/\f=0/\S.C.q.length<20000))/\w'=w9) (aM.e ?_) ?_
  .refine ah (λx=>?_) (λx=>?_)
   .have x1:e=0:=by simpa using x
    refine⟨_,_,m79,_,rfl,?_⟩;refine ah (λy=>?_) (λy=>?_)
    .have y1:m.kind=1:=by simpa using y
     refine ah (λz=>?_) (λz=>?_)
     .have z1:f=0:=by simpa using z
      exact⟨_,by exact sb rfl,_,rfl,⟨λu=>⟨x1,y1,z1,WJ u⟩,λu=>Jg1 (by omega)⟩,rfl⟩
     .have z1:¬f=0:=by simpa using z
      exact⟨_,by exact sb rfl,false,rfl,⟨λu=>(by cases u),λu=>absurd u.2.2.1 z1⟩,rfl⟩
    .have y1:¬m.kind=1:=by simpa using y
     exact⟨_,by exact sb rfl,false,rfl,⟨λu=>(by cases u),λu=>absurd u.2.1 y1⟩,rfl⟩
   .have x1:¬e=0:=by simpa using x
    exact⟨_,by exact sb rfl,false,rfl,⟨λu=>(by cases u),λu=>absurd u.1 x1⟩,rfl⟩
  rintro q w9 ⟨r,rfl,hr,rfl⟩;refine aM.cond r rfl ?_;cases r
  .refine aM.e ⟨_,by exact sb rfl,rfl,?_,K9⟩
   rw[eno λm' hm' h=>?_]
   .exact h9
   .have:¬(e=0/\m.kind=1/\f=0/\S.C.q.length<20000):=λh=>by have:=hr.2 h;cases this
    rcases hc with⟨e0,hd⟩|⟨e0,hd⟩
    .rw[hd]at hm';cases hm';exact this ⟨e0,h.1,hf1.2 h.2.1,h.2.2⟩
    .rw[hd]at hm';cases hm'
  .obtain⟨x1,y1,z1,u1⟩:=hr.1 rfl
   have hd:A.dec t.d=some m:=by
    rcases hc with⟨_,hd⟩|⟨e0,_⟩
    .exact hd
    .exact absurd x1 e0
   have ek:S.uU A t=S.doA A t m:=by
    unfold Sit.uU;rw[hd];show(if m.kind=1/\¬t.d.size>1000/\S.C.q.length<20000 then _ else _)=_;rw[Jb6 ⟨y1,hf1.1 z1,u1⟩]
   have hk:=hf2 z1;subst hk;rw[ek];refine aM.e ?_;obtain⟨bc',a',Uh,bX,B',jV,h9⟩:=h9;have yf:=h9.si.mem;obtain⟨aa,Xx,haq⟩:=af h9.si.ak;have ha9:=h9.si.ak;rw[haq]at ha9;refine⟨by kernel_rfl,_,_,yf,.slice aa S.asks.length Xx,by show(fD _ _ _)[3]?=_;unfold fD;rw[haq];rfl,_,_,m79,m.q.cells,rfl,rfl,_,_,m59,_,rfl,λwa ba ma ga la=>?_⟩;have haa:=ax ha9 (w1:=wa) λx hx=>by obtain⟨c,hc⟩:=au ha9 hx;exact ga.block x (ae hc) nofun
   refine⟨⟨ga.get m59 nofun,ga.get m79 nofun,ga.get yf nofun,trivial⟩,?_⟩;refine⟨_,(Ask.mk m.q (bf S.C t.a) S.C.q.length).cells,haa,⟨_,_,ma,rfl,rfl,rfl⟩,by show S.asks.length+1<=_;omega,λv' wb Yp gb nb=>?_⟩;have mm:wb.heap[bs]?=_:=gb.get (ga.get yf nofun) λe=>by
    obtain⟨c,hc⟩:=au haa e.symm;exact dw (ga.get yf nofun) hc (by decide) rfl
   obtain⟨va,vc,rfl⟩:=af Yp;refine⟨_,_,_,mm,rfl,rfl,λwc mc gc=>?_⟩;obtain⟨hz,kz⟩:=(h9.ay ga).JZ (l:=S.asks++[⟨m.q,bf S.C t.a,S.C.q.length⟩]) (by rw[haq];exact gb) (by rw[Jc6,Jda,Jfr];exact Yp) (λx hx=>by rw[haq];exact nb x hx) mc gc;exact⟨_,by exact sb rfl,rfl,⟨_,_,_,_,_,_,hz⟩,(K9.trans ga.kz).trans kz⟩
 .refine aM.e ⟨_,_,m15,_,rfl,_,pk.x,?_⟩
  rintro _ w5 ⟨rfl,rfl⟩;refine ah (λc=>?_) (λc=>?_)
  .have c1:0<S.C.q.length:=by have:=Ptq c;omega
   have ek:S.yh A t 2=({S with C:=S.C.eX A (bE t.b S.C.q.length)},true):=Jb6 c1;have pb:=rA w5 t.b S.C.q.length c1 ht.b.1 ht.b.2;have lb:=jE t.b c1;refine⟨by kernel_rfl,_,_,hmem,_,rfl,_,_,m15,_,rfl,_,pb.x,?_⟩;rintro _ w5 ⟨rfl,rfl⟩;refine⟨⟨m15,hmem,trivial⟩,_,CF HA HN h5.enter hF.cl (bE t.b S.C.q.length:Nat),?_⟩;rintro _ w8 ⟨rfl,hC,k⟩;rw[Jb6 ⟨by omega,by omega⟩];obtain⟨en,ez⟩:=aJ.jv A S.C (bE t.b S.C.q.length:Nat);exact⟨by rw[ek];rfl,by rw[ek];exact h5.leave en ez hC k,G.kz.trans k⟩
  .have c1:¬0<S.C.q.length:=by have:=Ptx c;omega
   have ek:S.yh A t 2=(S,!S.bad):=Jb5 c1;exact⟨_,_,hmem,_,rfl,by rw[ek],by rw[ek];exact⟨_,_,_,_,_,_,h5⟩,G.kz⟩
 .refine aM.e ⟨_,_,m15,_,rfl,_,pk.x,?_⟩
  rintro _ w5 ⟨rfl,rfl⟩;refine ah (λc=>?_) (λc=>?_)
  .have c1:0<S.C.q.length:=by have:=Ptq c;omega
   have ek:S.yh A t 3=({S with C:=S.C.eX A ((S.C.q.length:Int)-1-(bE t.b S.C.q.length%12:Nat))},true):=Jb6 c1;have pb:=rA w5 t.b S.C.q.length c1 ht.b.1 ht.b.2;have lb:=jE t.b c1;have lm:bE t.b S.C.q.length%12<=bE t.b S.C.q.length:=Nat.mod_le _ _;have et:((bE t.b S.C.q.length:Nat):Int).tmod 12=((bE t.b S.C.q.length%12:Nat):Int):=AV _ 12;refine⟨by kernel_rfl,_,_,hmem,_,rfl,by omega,_,_,m15,_,rfl,_,pb.x,?_⟩;rintro _ w5 ⟨rfl,rfl⟩;have hdl:=CF HA HN h5.enter hF.cl ((S.C.q.length:Int)-1-(bE t.b S.C.q.length%12:Nat));rw[<-et]at hdl;refine⟨⟨m15,hmem,trivial⟩,by decide,⟨by rw[et];omega,by rw[et];omega⟩,_,hdl,?_⟩;rintro _ w8 ⟨rfl,hC,k⟩;rw[et]at hC |-;rw[Jb6 ⟨by omega,by omega⟩];obtain⟨en,ez⟩:=aJ.jv A S.C ((S.C.q.length:Int)-1-(bE t.b S.C.q.length%12:Nat));exact⟨by rw[ek];rfl,by rw[ek];exact h5.leave en ez hC k,G.kz.trans k⟩
  .have c1:¬0<S.C.q.length:=by have:=Ptx c;omega
   have ek:S.yh A t 3=(S,!S.bad):=Jb5 c1;exact⟨_,_,hmem,_,rfl,by rw[ek],by rw[ek];exact⟨_,_,_,_,_,_,h5⟩,G.kz⟩
 .refine aM.e ⟨_,_,m15,_,rfl,_,pk.x,?_⟩
  rintro _ w5 ⟨rfl,rfl⟩;refine⟨by kernel_rfl,_,_,hmem,_,rfl,_,_,vJ,[.int .u8 (bf S.C t.a),.int .u8 (bQ S.C t.a)],rfl,rfl,_,Ue HA h5.enter hF.cl _ _ (by omega) (by omega),?_⟩;rintro _ w7 ⟨rfl,hC,k⟩;rw[Jb6 ⟨q1,q2⟩];obtain⟨en,ez⟩:=aJ.oV A S.C (bf S.C t.a) (bQ S.C t.a);exact⟨rfl,h5.leave en ez hC k,G.kz.trans k⟩
 .rw[show S.yh A t 5=(S.PQ A t,S.look.2)from rfl]
  have un3:Λ.pr b3=none:=hS.rU lb3;have un6:Λ.pr b6=none:=hS.rU lb6;have l36:b6≠b3:=λe=>by
   subst e;rw[m5]at m15;injection m15 with m15;injection m15 with _ m15;revert m15;decide
  obtain⟨o3,ho3⟩:∃o,o=Obj.cells t.cells.toArray 95:=⟨_,rfl⟩;obtain⟨o6,Pb⟩:∃o,o=Obj.cells #[.int .u8 (bf S.C t.a),.int .u8 (bQ S.C t.a)] 48:=⟨_,rfl⟩;rw[<-ho3]at m15;rw[<-Pb]at m5;have h5':iI ((Λ.add b3 o3).add b6 o6) bs bc S a gv sv B ad w5:=by
   have z:=hS.box G m15 lb3;have z':=h5;refine⟨z.si,z.ci,z.dj,λx q hx=>?_,z.os,z.out⟩;unfold bW.add at hx;dsimp only at hx;split at hx
   .rename_i e;subst e;cases hx
    exact⟨m5,λe=>(by have:=hS.si.lt e;omega),λe=>(by have:=hS.cl e;omega)⟩
   .exact z.pr x q hx
  have unA:(Λ.add b3 o3).pr b6=none:=by unfold bW.add;dsimp only;rw[Jb5 l36];exact un6
  refine aM.cut (Qn:=λ_ _=>False) (Qx:=λ_ _ _=>False) (Qr:=λq w'=>q=[(4,.bool S.look.2)]/\dX Λ bs (S.PQ A t) w'/\Kz w w') ?_ (λ_ _ h=>h.elim) (λ_ _ _ _ h _=>h.elim) ?_;rotate_left
  .rintro q s w' ⟨rfl,h',k'⟩ hs
   exact qO hs ⟨rfl,h',k'⟩
  refine aM.piece (Q:=λq w'=>q=[(0,Ptt bs),(3,Ptt b3),(6,Ptt b6),(28,.int .i64 5)]/\w'=w5) (aM.e ?_) ?_
  .rw[ho3]at m15
   refine⟨_,_,m15,_,rfl,_,pk.x,?_⟩;rintro _ w5 ⟨rfl,rfl⟩;exact⟨_,by exact sb rfl,rfl,rfl⟩
  rintro q w5 ⟨rfl,rfl⟩;refine aM.block ?_;refine aM.piece (Q:=λq w'=>q=[(0,Ptt bs),(3,Ptt b3),(6,Ptt b6),(28,.int .i64 5),(35,.bool false)]/\w'=w5) (aM.e ⟨_,by exact sb rfl,rfl,rfl⟩) ?_;rintro q w5 ⟨rfl,rfl⟩;refine aM.cond false rfl ?_;refine aM.piece (Q:=λq w'=>q=[(0,Ptt bs),(3,Ptt b3),(6,Ptt b6),(28,.int .i64 5),(45,.bool false)]/\w'=w5) (aM.e ⟨_,by exact sb rfl,rfl,rfl⟩) ?_;rintro q w5 ⟨rfl,rfl⟩;refine aM.cond false rfl ?_;refine aM.piece (Q:=λq w'=>q=[(0,Ptt bs),(3,Ptt b3),(6,Ptt b6),(28,.int .i64 5),(94,.bool false)]/\w'=w5) (aM.e ⟨_,by exact sb rfl,rfl,rfl⟩) ?_;rintro q w5 ⟨rfl,rfl⟩;refine aM.cond false rfl ?_;refine aM.piece (Q:=λq w'=>q=[(0,Ptt bs),(3,Ptt b3),(6,Ptt b6),(28,.int .i64 5),(109,.bool false)]/\w'=w5) (aM.e ⟨_,by exact sb rfl,rfl,rfl⟩) ?_;rintro q w5 ⟨rfl,rfl⟩;refine aM.cond false rfl ?_;refine aM.piece (Q:=λq w'=>q=[(0,Ptt bs),(3,Ptt b3),(6,Ptt b6),(28,.int .i64 5),(128,.bool false)]/\w'=w5) (aM.e ⟨_,by exact sb rfl,rfl,rfl⟩) ?_;rintro q w5 ⟨rfl,rfl⟩;refine aM.cond false rfl ?_;refine aM.piece (Q:=λq w'=>q=[(0,Ptt bs),(3,Ptt b3),(6,Ptt b6),(138,.bool true)]/\w'=w5) (aM.e ⟨_,by exact sb rfl,rfl,rfl⟩) ?_;rintro q w5 ⟨rfl,rfl⟩;refine aM.cond true rfl ?_;obtain⟨lF,lC⟩:=hF.dZ (S.C.n*S.C.sz);have lF:S.look.1.aK A:=lF;have lC:S.look.1.C=S.C:=lC;obtain⟨T,hT⟩:∃T,T=S.look.1:=⟨_,rfl⟩;obtain⟨r,hr⟩:∃r,r=S.look.2:=⟨_,rfl⟩;have hlk:=UU HN ⟨_,_,_,_,_,_,h5'⟩ hF;have hd5:S.PQ A t={T with C:=T.C.dA A (bf S.C t.a) (bQ S.C t.a),fell:=T.fell.set (bE t.a (S.C.n*S.C.sz)) true}:=by rw[hT];rfl
  rw[hd5];rw[<-hT]at lF lC hlk;rw[<-hr]at hlk |-;have hle:S.C.n*S.C.sz<=20:=Jf9 oI hs5;have hpos:0<S.C.n*S.C.sz:=Nat.mul_pos hF.n hF.sz;have hpl:=jE t.a hpos;refine aM.piece (Q:=λq w6=>q=[(0,Ptt bs),(3,Ptt b3),(6,Ptt b6),(14,.bool r)]/\dX ((Λ.add b3 o3).add b6 o6) bs T w6/\Kz w w6) (aM.e ?_) ?_
  .refine⟨_,hlk.x,?_⟩
   rintro _ w6 ⟨rfl,h6,k6⟩;exact⟨_,by exact sb rfl,rfl,h6,G.kz.trans k6⟩
  rintro q w6 ⟨rfl,h6,K6⟩;have m66:=h6.at;rw[Pb]at m66;obtain⟨bc6,a6,gv6,sv6,B6,ad6,h6⟩:=h6;refine aM.piece (Q:=λq w7=>q=[(0,Ptt bs),(3,Ptt b3),(14,.bool r),(15,.int .i64 0)]/\dX ((Λ.add b3 o3).add b6 o6) bs {T with C:=T.C.dA A (bf S.C t.a) (bQ S.C t.a)} w7/\Kz w w7) (aM.e ?_) ?_
  .have hcr:CY 53 #[Ptt bc6,.agg #[.int .u8 (bf S.C t.a),.int .u8 (bQ S.C t.a)]] w6 (λv w'=>v=.int .i64 0/\vL (AU w6 T.C.n T.C.sz B6 bc6 sv6 ad6) bc6 (T.C.dA A (bf S.C t.a) (bQ S.C t.a)) w'/\Kz w6 w'):=gU.mono' (Z7 HA h6.enter lF.cl (bf S.C t.a) (bQ S.C t.a) (by omega) (by omega)) λv w' hp=>⟨hp.1.trans (by rw[Jb6 ⟨by rw[lC];exact q1,by rw[lC];exact q2⟩]),hp.2⟩
   refine⟨by kernel_rfl,_,_,h6.si.mem,_,rfl,_,_,m66,[.int .u8 (bf S.C t.a),.int .u8 (bQ S.C t.a)],rfl,rfl,_,hcr.x,?_⟩;rintro _ w7 ⟨rfl,hC,k7⟩;obtain⟨en,ez⟩:=aJ.wC A T.C (bf S.C t.a) (bQ S.C t.a);exact⟨_,by exact sb rfl,rfl,h6.leave en ez hC k7,K6.trans k7⟩
  rintro q w7 ⟨rfl,h7,K7⟩;have m37:w7.heap[b3]?=some o3:=(h7.drop unA).at;rw[ho3]at m37;obtain⟨en,ez⟩:=aJ.wC A T.C (bf S.C t.a) (bQ S.C t.a);refine aM.piece (Q:=λq w8=>q=[(14,.bool r),(15,.int .i64 0)]/\dX Λ bs {T with C:=T.C.dA A (bf S.C t.a) (bQ S.C t.a),fell:=T.fell.set (bE t.a (S.C.n*S.C.sz)) true} w8/\Kz w w8) (aM.e ?_) ?_
  .obtain⟨bc7,a7,gv7,sv7,B7,ad7,h7⟩:=h7
   have hmem:=h7.si.mem;have hcn:((T.C.dA A (bf S.C t.a) (bQ S.C t.a)).n:Int)*((T.C.dA A (bf S.C t.a) (bQ S.C t.a)).sz:Int)=((S.C.n*S.C.sz:Nat):Int):=by rw[en,ez,lC];exact(Jf4 _ _).symm
   obtain⟨fl,hfl⟩:∃x,T.fell[bE t.a (S.C.n*S.C.sz)]?=some x:=⟨T.fell[bE t.a (S.C.n*S.C.sz)]'(by rw[lF.fe,lC];exact hpl),by simp[lF.fe,lC,hpl]⟩;obtain⟨gf,RP,adn,Nh,Ht,YU,ado,ahs⟩:=qR h7.si.fe (k:=bE t.a (S.C.n*S.C.sz)) (x:=.bool fl) (by rw[Jdd];show(T.fell[_]?).map _=_;rw[hfl];rfl);have pk:=rA w7 t.a (S.C.n*S.C.sz) hpos ht.a.1 ht.a.2;rw[<-hcn]at pk;refine⟨by kernel_rfl,_,_,hmem,.slice (Pty gf) T.fell.length RP,by show(fD _ _ _)[6]?=_;unfold fD;rw[Nh];rfl,_,_,m37,_,rfl,_,_,hmem,_,rfl,_,_,hmem,_,rfl,⟨by show _<=((T.C.dA A (bf S.C t.a) (bQ S.C t.a)).n:Int)*((T.C.dA A (bf S.C t.a) (bQ S.C t.a)).sz:Int);omega,by show((T.C.dA A (bf S.C t.a) (bQ S.C t.a)).n:Int)*((T.C.dA A (bf S.C t.a) (bQ S.C t.a)).sz:Int)<=_;omega⟩,_,pk.x,?_⟩;rintro _ w7 ⟨rfl,rfl⟩;have aeO:bE t.a (S.C.n*S.C.sz)<T.fell.length:=ado;refine⟨⟨hmem,hmem,m37,hmem,trivial⟩,by omega,_,_,_,Ht,gT rfl rfl (by show 0+((bE t.a (S.C.n*S.C.sz):Nat):Int).toNat*1<_;omega),rfl,λw8 m8 g8=>?_⟩;have adw:=h7.si.fe;rw[Nh]at adw;have o8:=own_set' (off:=bE t.a (S.C.n*S.C.sz)) (v:=.bool true) adw Ht m8 (by show 0+((bE t.a (S.C.n*S.C.sz):Nat):Int).toNat*1=_;omega) rfl rfl (by show _<T.fell.length*1;omega);have ahy:w8.heap[bs]?=_:=g8.get hmem λe=>dw hmem Ht (by decide) (Jbm e)
   obtain⟨h8,k8⟩:=h7.fe' (v:=.slice (Pty gf) T.fell.length RP) (l:=T.fell.set (bE t.a (S.C.n*S.C.sz)) true) (w1:=w8) (w2:=w8) (by rw[Nh];exact g8) (by rw[Jgd,map_set];exact o8) (λx hx=>by rw[Nh];exact .inl hx) (by rw[Hl,ahy];unfold fD;rw[Nh]) (GB.refl _ _);exact⟨_,by exact sb rfl,rfl,dX.drop (dX.drop ⟨_,_,_,_,_,_,h8⟩ unA) un3,K7.trans k8⟩
  rintro q w8 ⟨rfl,h8,K8⟩;refine aM.e ?_;cases r
  .exact⟨_,by exact sb rfl,rfl,h8,K8⟩
  .exact⟨_,by exact sb rfl,rfl,h8,K8⟩
 .refine aM.e ⟨_,_,m15,_,rfl,_,pk.x,?_⟩
  rintro _ w5 ⟨rfl,rfl⟩;have pb:=rA w5 t.b 60 (by decide) ht.b.1 ht.b.2;have lb:=jE t.b (show 0<60 by decide);refine⟨_,_,m15,_,rfl,_,pb.x,?_⟩;rintro _ w5 ⟨rfl,rfl⟩;have hall:=YS HA HN ⟨_,_,_,_,_,_,h5⟩ hF.cl (1+bE t.b 60) (by omega);rw[Int.natCast_add]at hall;refine⟨by omega,_,hall,?_⟩;rintro _ w8 ⟨rfl,h8,k8⟩;exact⟨rfl,h8,G.kz.trans k8⟩
end
theorem aJ.UY{C:aJ}(h:C.q.length<=20000)(g i:Nat)(R:MR):C.q.length<=(C.done g i R).q.length:=by
 show _<=(List.take 20000 _).length;rw[Jd6,Jc6];omega
theorem aJ.I6{A:aI}{C:aJ}(h:C.q.length<=20000)(k:Int):C.q.length<=(C.eX A k).q.length:=by
 unfold aJ.eX;split
 .unfold aJ.jW
  split
  .exact Jb0 _
  .split
   .exact aJ.UY h _ _ _
   .exact Jb0 _
 .exact Jb0 _
theorem aJ.Nk{A:aI}{C:aJ}(h:C.q.length<=20000)(g i:Nat):C.q.length<=(C.tick A g i).q.length:=by
 unfold aJ.tick;split
 .exact aJ.UY h _ _ _
 .exact Jb0 _
theorem aJ.PR{A:aI}(C:aJ)(g i:Nat):(C.dA A g i).q=C.q:=by unfold aJ.dA;split<;>rfl
theorem aJ.CV(C:aJ)(g i:Nat)(d:ByteArray):C.q.length<=(C.send g i d).q.length:=by
 unfold aJ.send;split
 .show _<=(ko _ _).length
  unfold ko;split
  .simp
  .exact Jb0 _
 .exact Jb0 _
theorem aJ.I7{C:aJ}{g i:Nat}{d:ByteArray}(hg:g<C.n)(hi:i<C.sz)(hd:¬d.size>1000)(hq:C.q.length<20000):(C.send g i d).q.length=C.q.length+1:=by
 unfold aJ.send;rw[Jb6 ⟨⟨hg,hi⟩,hd⟩];show(ko _ _).length=_;rw[JH hq];simp
section
variable{A:aI}{S:Sit}
theorem Sit.aK.fu(h:S.aK A){C:aJ}(hC:C.aK A)(hn:C.n=S.C.n)(hz:C.sz=S.C.sz)(hq:S.C.q.length<=C.q.length):Sit.aK A {S with C:=C}:=⟨hC,by show 0<C.n;rw[hn];exact h.n,by show 0<C.sz;rw[hz];exact h.sz,by show S.bz.length=C.n;rw[hn];exact h.be,by show S.len.length=C.n*C.sz;rw[hn,hz];exact h.le,by show S.fell.length=C.n*C.sz;rw[hn,hz];exact h.fe,Jb1 h.ak hq⟩
theorem Sit.aK.nxt(h:S.aK A)(k:Nat):Sit.aK A {S with next:=k}:=⟨h.cl,h.n,h.sz,h.be,h.le,h.fe,h.ak⟩
end
section
variable{A:aI}(HA:bG A)(HN:dS A)(HL:uD A){S:Sit}
include HA HN
theorem Sit.aK.all:∀(n:Nat) {S:Sit},S.aK A->(S.all A n).aK A
 |0,_,h=>h
 |n+1,S,h=>by
  unfold Sit.all;split
  .exact Sit.aK.all n (S:=S.one A) ((h.fu (h.cl.eX HA HN (S.next:Int)) (aJ.jv _ _ _).1 (aJ.jv _ _ _).2 (aJ.I6 h.cl.len _)).nxt _)
  .exact h
theorem Sit.aK.ku(h:S.aK A):∀g,(S.ku A g).aK A
 |0=>h
 |g+1=>(Sit.aK.ku h g).fu ((Sit.aK.ku h g).cl.tick HA HN _ _) (aJ.oV _ _ _ _).1 (aJ.oV _ _ _ _).2 (aJ.Nk (Sit.aK.ku h g).cl.len _ _)
theorem Sit.aK.round(h:S.aK A):(S.round A).aK A:=Sit.aK.all HA HN _ (Sit.aK.ku HA HN h _)
include HL
theorem Sit.aK.sends(h:S.aK A){q:aW}(hq:A.gc (fM q)){g i:Nat}(hg:g<S.C.n)(hi:i<S.C.sz)(hl:S.C.q.length<20000):(S.sends A q g i).aK A:=by
 have hsm:=HL.small q hq;have h4:=h.cl.n;have h5:=h.cl.sz;have z:=h.fu (h.cl.send (g:=g) (i:=i) (by omega) (by omega) (A.enc (pF q))) (S.C.qz g i _).1 (S.C.qz g i _).2 (S.C.CV g i _);refine⟨z.cl,z.n,z.sz,z.be,z.le,z.fe,?_⟩;show(S.asks++[_]).length<=(S.C.send g i (A.enc (pF q))).q.length;rw[Jc6,aJ.I7 hg hi (by omega) hl];have:=h.ak;show S.asks.length+1<=_;omega
theorem Sit.aK.do(h:S.aK A){t:Stp}(ht:t.wf A):(S.do A t).1.aK A:=by
 obtain⟨q1,q2⟩:=AX (C:=S.C) (k:=t.a) h.n h.sz;have h4:=h.cl.n;have h5:=h.cl.sz;have hp:=jE t.kind (show 0<7 by decide);have hs:=h.fu (h.cl.send (g:=bf S.C t.a) (i:=bQ S.C t.a) (by omega) (by omega) t.d) (S.C.qz _ _ _).1 (S.C.qz _ _ _).2 (S.C.CV _ _ _);have hdl:∀k:Int,Sit.aK A {S with C:=S.C.eX A k}:=λk=>h.fu (h.cl.eX HA HN k) (aJ.jv _ _ _).1 (aJ.jv _ _ _).2 (aJ.I6 h.cl.len _)
 unfold Sit.do;generalize bE t.kind 7=K at hp;match K,hp with
 |0,_ =>
  show Sit.aK A (if S.C.q.length<20000 then _ else _);split
  .rename_i c;exact Sit.aK.sends HA HN HL h ht.r q1 q2 c
  .exact h
 |1,_ =>
  show Sit.aK A (S.uU A t);unfold Sit.uU;split
  .rename_i m hm
   split
   .rename_i c
    refine⟨hs.cl,hs.n,hs.sz,hs.be,hs.le,hs.fe,?_⟩;show(S.asks++[_]).length<=(S.C.send _ _ t.d).q.length;rw[Jc6,aJ.I7 q1 q2 c.2.1 c.2.2];have:=h.ak;show S.asks.length+1<=_;omega
   .exact hs
  .exact hs
 |2,_ =>
  show Sit.aK A (if 0<S.C.q.length then _ else _:Sit×Bool).1;split
  .exact hdl _
  .exact h
 |3,_ =>
  show Sit.aK A (if 0<S.C.q.length then _ else _:Sit×Bool).1;split
  .exact hdl _
  .exact h
 |4,_=>exact h.fu (h.cl.tick HA HN _ _) (aJ.oV _ _ _ _).1 (aJ.oV _ _ _ _).2 (aJ.Nk h.cl.len _ _)
 |5,_ =>
  obtain⟨lF,lC⟩:=h.dZ (S.C.n*S.C.sz);have lF:S.look.1.aK A:=lF;have z:=lF.fu (lF.cl.dA HA HN (bf S.C t.a) (bQ S.C t.a)) (aJ.wC _ _ _ _).1 (aJ.wC _ _ _ _).2 (Jc0 (by rw[aJ.PR]));refine⟨z.cl,z.n,z.sz,z.be,z.le,?_,z.ak⟩;show(S.look.1.fell.set _ _).length=_;rw[Jgd];exact z.fe
 |6,_=>exact Sit.aK.all HA HN _ h
end
end
