/- Lemmas. -/
import Derived.Test.YtignemioillaiabGreatG41
namespace Go.Proofs.YtignemioillaiabGreat
set_option maxHeartbeats 8000000
set_option maxRecDepth 100000
open List
section
open Go Go.Conc
def iQ(A:aI)(q:List bF)(k:Nat)(acc:List (ag×Nat)):List (ag×Nat)×Bool:=match q[k]? with
 |none=>(acc,true)
 |some p=>if p.tg≠255 then(acc,true)else match A.dec p.d with
  |none=>(acc,false)
  |some m=>if m.kind=2/\m.p.c=p.tr then(acc++[(m.p,k)],true)else(acc,false)
def uF(A:aI)(q:List bF):Nat->List (ag×Nat)×Bool
 |0=>([],true)
 |k+1=>match uF A q k with
  |(acc,true)=>iQ A q k acc
  |(acc,false)=>(acc,false)
def nE(A:aI)(q:List bF):List (ag×Nat)×Bool:=uF A q q.length
theorem Hq{A:aI}{q:List bF}{T:List (ag×Nat)}:∀{i:Nat} (m:Nat),uF A q i=(T,false)->uF A q (i+m)=(T,false)
 |_,0,h=>h
 |i,m+1,h=>by
  have:=Hq m h;show(match uF A q (i+m)with|(acc,true)=>iQ A q (i+m) acc|(acc,false)=>(acc,false))=_;rw[this]
def yc(x:ag×Nat):List Value:=x.1.cells++[.int .i64 (x.2:Nat)]
section
variable{A:aI}(HA:bG A){Λ:bW}{w:World}{bs:Nat}{S:Sit}
include HA
theorem PL(h:dX Λ bs S w)(hF:S.C.aK A):CY 8 #[Ptt bs] w (λv w'=>(∃lv,v=.tuple #[lv,.bool (nE A S.C.q).2]/\w'.ownsRow 0 72 8 lv (nE A S.C.q).1.length ((nE A S.C.q).1.map yc).flatten)/\GB none w w'):=by
 refine aj Tryz.func8 rfl rfl ?_;obtain⟨bc,a,gv,sv,B,ad,hS⟩:=h;have hlen:=hF.len;refine⟨_,_,hS.si.mem,_,rfl,_,MJ hS.enter hlen 0 (by decide) (by decide),?_⟩;rintro lv w1 ⟨o1,g1,f1⟩;have e0:S.C.q.length-min (0:Int).toNat S.C.q.length=S.C.q.length:=by simp
 have e1:S.C.q.drop (min (0:Int).toNat S.C.q.length)=S.C.q:=by simp
 rw[e0,e1]at o1;obtain⟨la,lc,rfl⟩:=af o1;generalize hq:S.C.q=q at *;refine⟨λm s wk=>∃(k:Nat) (acc:List (ag×Nat)) (tv:Value),m=q.length-k/\k<=q.length/\s=[(4,tv),(5,.slice la q.length lc),(6,.int .i64 k)]/\uF A q k=(acc,true)/\wk.ownsRow 0 72 8 tv acc.length (acc.map yc).flatten/\(∀x,tv.ownBlock=some x->w1.heap.size<=x)/\acc.length<=k/\GB none w1 wk,⟨_,_,⟨0,[],Ptz,rfl,Jcm _,rfl,rfl,eu _ _ _,nofun,Jb0 _,GB.refl _ _⟩,sb rfl⟩,?_⟩;rintro m s wk ⟨k,acc,tv,rfl,hk,rfl,ht,tw,tn,tl,gk⟩;have RH:uF A q (k+1)=iQ A q k acc:=by
  show(match uF A q k with|(acc,true)=>iQ A q k acc|(acc,false)=>(acc,false))=_;rw[ht]
 have hstop:∀T,iQ A q k acc=(T,false)->k<q.length->nE A q=(T,false):=λT e hlt=>by
  unfold nE;rw[<-Nat.add_sub_cancel' (show k+1<=q.length from hlt)];exact Hq _ (RH.trans e)
 refine ah (λc=>?_) (λc=>?_)
 .have c1:k<q.length:=by have:=Ptq c;omega
  replace hstop:=λT e=>hstop T e c1
  obtain⟨p,hp⟩:∃p,q[k]?=some p:=⟨q[k],by simp[c1]⟩;obtain⟨gb,cap,cur,ev,aR,htk,hsz,hcap⟩:=j5 o1 (by omega);injection ev with ev _ Uu;subst ev;subst Uu;have RJ:=gk.get aR nofun;have hel:=Yz hp htk;have get:∀(j:Nat) (v:Value),p.cells[j]?=some v->cur.toList[k*5+j]?=some v:=λj v hj=>by
   have hj5:j<5:=(Jcn.1 hj).1;rw[<-hel]at hj;unfold aG at hj;rw[Jc5,Jb6 hj5,Jcf]at hj;exact hj
  refine⟨by omega,_,_,RJ,.int .u8 p.tg,by show cur.toList[0+(k:Int).toNat*5+2]?=_;rw[Jbh,Jfa];exact get 2 _ rfl,?_⟩;refine ah (λd=>?_) (λd=>?_)
  .have d1:p.tg≠255:=by simpa using d
   have el:iQ A q k acc=(acc,true):=by unfold iQ;rw[hp];show(if p.tg≠255 then _ else _)=_;rw[Jb6 d1]
   exact⟨by omega,_,_,⟨k+1,acc,tv,rfl,by omega,rfl,RH.trans el,tw,tn,by omega,gk⟩,(sb rfl),by omega⟩
  .have d1:p.tg=255:=by simpa using d
   refine⟨by omega,_,_,RJ,.string p.d,by show cur.toList[0+(k:Int).toNat*5+4]?=_;rw[Jbh,Jfa];exact get 4 _ rfl,_,HA.parse wk p.d,?_⟩;rintro _ w2 ⟨⟨mv,e,m,rfl,hm,hc⟩,g2⟩;obtain⟨rv,dv,vv,rv',jU,rfl,i1,i2,i3⟩:=hm;obtain⟨_,_,_,_,_,_,rfl,rfl⟩:=i1.sl;obtain⟨_,_,rfl⟩:=i2.sl;obtain⟨_,_,_,_,_,_,rfl,rfl⟩:=i3.sl;refine λw3 b3 m3 g3 l3=>⟨_,_,_,m3,rfl,rfl,λw4 m4 g4=>?_⟩
   have G4:GB none wk w4:=g2.trans (g3.new g4 l3);have UT:=ax tw (w1:=w4) λx hx=>by obtain⟨c,hc⟩:=au tw hx;exact G4.block x (ae hc) nofun
   have sJ:=G4.get RJ nofun;rcases hc with⟨rfl,hd,_⟩|⟨he,hd⟩
   .refine⟨by kernel_rfl,_,_,m4,_,rfl,?_⟩
    refine ah (λx=>?_) (λx=>?_)
    .have x1:m.kind=2:=by simpa using x
     refine⟨_,_,m4,_,rfl,by omega,_,_,sJ,.int .u8 p.tr,by show cur.toList[0+(k:Int).toNat*5+2+1]?=_;rw[Jbh,Jfa];exact get 3 _ rfl,?_⟩;refine ah (λy=>?_) (λy=>?_)
     .have y1:¬m.p.c=p.tr:=by simpa using y
      have el:iQ A q k acc=(acc,false):=by
       unfold iQ;rw[hp];show(if p.tg≠255 then _ else _)=_;rw[Jb5 (λh=>h d1),hd];show(if m.kind=2/\m.p.c=p.tr then _ else _)=_;rw[Jb5 (λh=>y1 h.2)]
      have et:=hstop _ el;exact⟨⟨tv,by rw[et],by rw[et];exact UT⟩,(g1.trans gk).trans G4⟩
     .have y1:m.p.c=p.tr:=by simpa using y
      have el:iQ A q k acc=(acc++[(m.p,k)],true):=by
       unfold iQ;rw[hp];show(if p.tg≠255 then _ else _)=_;rw[Jb5 (λh=>h d1),hd];show(if m.kind=2/\m.p.c=p.tr then _ else _)=_;rw[Jb6 ⟨x1,y1⟩]
      obtain⟨ta,tc,rfl⟩:=af tw;refine⟨_,_,m4,m.p.cells,rfl,rfl,λw5 b5 m5 g5 l5=>?_⟩;have to5:=ax UT (w1:=w5) λx hx=>by obtain⟨c,hc⟩:=au UT hx;exact g5.block x (ae hc) nofun
      refine⟨_,yc (m.p,k),to5,⟨_,_,m5,rfl,rfl,rfl⟩,by omega,λv' w6 Pb g6 n6=>?_⟩;refine⟨by omega,_,_,⟨k+1,acc++[(m.p,k)],v',rfl,by omega,rfl,RH.trans el,?_,λx hx=>(n6 x hx).elim (tn x) λhl=>?_,by rw[Jc6];show acc.length+1<=_;omega,GB.ownB ((gk.trans G4).trans g5) g6 tn⟩,(sb rfl),by omega⟩
      .rw[Jc6,Jda,Jfr,show(map yc [(m.p,k)]).flatten=yc (m.p,k)by simp];exact Pb
      .have:=((gk.trans G4).trans g5).size;omega
    .have x1:¬m.kind=2:=by simpa using x
     have el:iQ A q k acc=(acc,false):=by
      unfold iQ;rw[hp];show(if p.tg≠255 then _ else _)=_;rw[Jb5 (λh=>h d1),hd];show(if m.kind=2/\m.p.c=p.tr then _ else _)=_;rw[Jb5 (λh=>x1 h.1)]
     have et:=hstop _ el;exact⟨⟨tv,by rw[et],by rw[et];exact UT⟩,(g1.trans gk).trans G4⟩
   .refine⟨by kernel_rfl,?_⟩
    have el:iQ A q k acc=(acc,false):=by unfold iQ;rw[hp];show(if p.tg≠255 then _ else _)=_;rw[Jb5 (λh=>h d1),hd]
    have et:=hstop _ el;refine ah (λx=>?_) (λx=>?_)
    .have:e=0:=by simpa using x
     exact absurd this he
    .exact⟨⟨tv,by rw[et],by rw[et];exact UT⟩,(g1.trans gk).trans G4⟩
 .have c1:k=q.length:=by have:=Ptx c;omega
  subst c1;have et:nE A q=(acc,true):=ht;exact⟨⟨tv,by rw[et],by rw[et];exact tw⟩,g1.trans gk⟩
end
abbrev I3(bs i:Nat)(t:Sg):Sg:=(0,Ptt bs)::(3,.int .i64 i)::t
abbrev I5(bs i b4:Nat)(la:Option Addr)(l:List MC)(jR:Nat)(t:Sg):Sg:=I3 bs i ((4,Ptt b4)::(5,.slice la l.length jR)::t)
section
variable{A:aI}(HN:dS A){Λ:bW}{w:World}{bs:Nat}{S:Sit}
include HN
theorem UU(h:dX Λ bs S w)(hF:S.aK A):CY 15 #[Ptt bs] w (λv w'=>v=.bool S.look.2/\dX Λ bs S.look.1 w'/\Kz w w'):=by
 have RN:S.look=S.dZ (S.C.n*S.C.sz):=rfl;have oI:=hF.cl.n;have hs5:=hF.cl.sz;have hle:S.C.n*S.C.sz<=20:=Jf9 oI hs5;refine qh fG Tryz.func15 rfl rfl ?_;refine CS.piece (Q:=λq w'=>q=[(0,Ptt bs)]/\w'=w) (CS.e ⟨_,by exact sb rfl,rfl,rfl⟩) ?_;rintro q w ⟨rfl,rfl⟩;refine CS.cut (Qn:=λq w1=>q=[]/\S.look.2=true/\dX Λ bs S.look.1 w1/\Kz w w1) (Qx:=λ_ _ _=>False) (Qr:=λq w1=>q=[(2,.bool S.look.2)]/\dX Λ bs S.look.1 w1/\Kz w w1) ?_ ?_ (λ_ _ _ _ h _=>h.elim) ?_;rotate_left
 .rintro q w1 ⟨rfl,e,h1,k1⟩
  refine CS.e ?_;exact⟨by rw[e],h1,k1⟩
 .rintro q s w1 ⟨rfl,h1,k1⟩ hs
  exact qO hs ⟨rfl,h1,k1⟩
 refine CS.piece (Q:=λq w'=>q=[(0,Ptt bs),(3,.int .i64 0)]/\w'=w) (CS.e ⟨_,by exact sb rfl,rfl,rfl⟩) ?_;rintro q w ⟨rfl,rfl⟩;refine CS.block ?_;refine CS.loop (λm s wk=>∃(i:Nat) (T:Sit),m=S.C.n*S.C.sz-i/\i<=S.C.n*S.C.sz/\s=I3 bs i []/\S.dZ i=(T,true)/\dX Λ bs T wk/\Kz w wk) ⟨_,_,⟨0,S,rfl,Jcm _,rfl,rfl,h,Kz.refl _⟩,sb rfl⟩ ?_;rintro m s wk ⟨i,T,rfl,hi,rfl,hT,hS,K⟩;obtain⟨qA,J2⟩:=hF.dZ i;rw[hT]at qA J2;have qA:T.aK A:=qA;have J2:T.C=S.C:=J2;have hcast:((T.C.n:Nat):Int)*((T.C.sz:Nat):Int)=((S.C.n*S.C.sz:Nat):Int):=by rw[J2];exact(Jf4 _ _).symm
 obtain⟨bc,a,gv,sv,B,ad,hS⟩:=hS;have hmem:=hS.si.mem;refine CS.cut (Qn:=λq w1=>i<S.C.n*S.C.sz/\q=I3 bs i []/\w1=wk) (Qx:=λj q w1=>j=0/\i=S.C.n*S.C.sz/\q=[]/\w1=wk) (Qr:=λ_ _=>False) (CS.e ?_) ?_ ?_ (λ_ _ _ h _=>h.elim)
 .refine⟨by kernel_rfl,_,_,hmem,_,rfl,_,_,hmem,_,rfl,⟨by rw[hcast];omega,by rw[hcast];omega⟩,?_⟩
  refine ah (λc=>?_) (λc=>?_)
  .exact⟨_,by exact sb rfl,by have:=Ptq c;rw[hcast]at this;omega,rfl,rfl⟩
  .exact⟨_,by exact trivial,rfl,by have:=Ptx c;rw[hcast]at this;omega,rfl,rfl⟩
 rotate_left
 .rintro j q s w1 ⟨rfl,e,rfl,rfl⟩ _
  refine⟨[],by exact trivial,rfl,?_,?_,K⟩
  .rw[RN,<-e,hT]
  .rw[RN,<-e,hT];exact⟨_,_,_,_,_,_,hS⟩
 rintro q wk ⟨c1,rfl,rfl⟩;have hstop:∀T',T.dz i=(T',false)->S.look=(T',false):=λT' e=>by
  have e1:S.dZ (i+1)=(T',false):=by
   show(match S.dZ i with|(T,true)=>T.dz i|(T,false)=>(T,false))=_;rw[hT];exact e
  rw[RN,<-Nat.add_sub_cancel' (show i+1<=S.C.n*S.C.sz from c1)];exact Sit.Ho _ e1
 have hgo:∀T',T.dz i=(T',true)->S.dZ (i+1)=(T',true):=λT' e=>by
  show(match S.dZ i with|(T,true)=>T.dz i|(T,false)=>(T,false))=_;rw[hT];exact e
 refine CS.cut (Qn:=λq w1=>q=I3 bs i []/\∃T',S.dZ (i+1)=(T',true)/\dX Λ bs T' w1/\Kz w w1) (Qx:=λ_ _ _=>False) (Qr:=λq w1=>q=[(2,.bool false)]/\S.look.2=false/\dX Λ bs S.look.1 w1/\Kz w w1) ?_ ?_ (λ_ _ _ _ h _=>h.elim) ?_;rotate_left
 .rintro q w1 ⟨rfl,T',e,h1,k1⟩
  refine CS.e ?_;exact⟨by omega,_,_,⟨i+1,T',rfl,by omega,rfl,e,h1,k1⟩,(sb rfl),by omega⟩
 .rintro q s w1 ⟨rfl,e,h1,k1⟩ hs
  exact⟨_,hs,by rw[e],h1,k1⟩
 refine CS.block ?_;obtain⟨q1,q2⟩:=AX (C:=T.C) (k:=(i:Int)) qA.n qA.sz;refine CS.piece (Q:=λq w3=>∃b4,q=I3 bs i [(4,Ptt b4)]/\w3.heap[b4]?=some (.cells #[.int .u8 (bf T.C i),.int .u8 (bQ T.C i)] 48)/\GB none wk w3/\wk.heap.size<=b4) (CS.e ?_) ?_
 .refine⟨_,PH hmem ⟨qA.n,qA.cl.n⟩ ⟨qA.sz,qA.cl.sz⟩ i (by omega) (by omega),?_⟩
  rintro _ w1 ⟨rfl,g1⟩;refine λw2 b4 m2 g2 l2=>⟨_,_,_,m2,rfl,rfl,λw3 m3 g3=>?_⟩
  exact⟨_,by exact sb rfl,b4,rfl,m3,g1.trans (g2.new g3 l2),Jb1 g1.size l2⟩
 rintro q w3 ⟨b4,rfl,m3,G3,lb4⟩;have h3:=hS.ay G3;obtain⟨l,hl⟩:∃l,l=(T.C.F (bf T.C i) (bQ T.C i)).log:=⟨_,rfl⟩;have hok:=qA.cl.ok _ _ q1 q2;have Xz:l.length<=60:=by rw[hl];exact hok.lg
 have hlc:∀c∈l,A.gc c:=by rw[hl];exact hok.lc
 refine CS.piece (Q:=λq w4=>∃la jR,q=I5 bs i b4 la l jR []/\jL w4 (.slice la l.length jR) l/\GB none w3 w4/\∀x,(Value.slice la l.length jR).ownBlock=some x->w3.heap.size<=x) (CS.e ?_) ?_
 .refine⟨by kernel_rfl,_,_,h3.si.mem,_,rfl,_,_,m3,[.int .u8 (bf T.C i),.int .u8 (bQ T.C i)],rfl,rfl,_,aeG HN h3.enter qA.cl (bf T.C i) (bQ T.C i) q1 q2,?_⟩
  rintro lv w4 ⟨L4,g4,n4⟩;rw[<-hl]at L4;obtain⟨la,jR,rfl⟩:∃a c,lv=.slice a l.length c:=by obtain⟨vs,v1,v2,v3⟩:=L4;exact af v2
  exact⟨_,by exact sb rfl,la,jR,rfl,L4,g4,n4⟩
 rintro q w4 ⟨la,jR,rfl,L4,g4,n4⟩;have G4:=G3.trans g4;have h4:=hS.ay G4;have m4:=g4.get m3 nofun;have n4':∀x,(Value.slice la l.length jR).ownBlock=some x->wk.heap.size<=x:=λx hx=>by have:=n4 x hx;have:=G3.size;omega
 obtain⟨be,hbe⟩:∃b,T.bz[bf T.C i]?=some b:=⟨T.bz[bf T.C i]'(by rw[qA.be];exact q1),by simp[qA.be,q1]⟩;obtain⟨bv,hbv⟩:∃b,a.bv[bf T.C i]?=some b:=⟨a.bv[bf T.C i]'(by rw[hS.si.bl,qA.be];exact q1),by simp[hS.si.bl,qA.be,q1]⟩;have Nf:T.bz.getD (bf T.C i) []=be:=by rw[Jdx,hbe];rfl
 have Lb0:=hS.si.bi _ _ _ hbe hbv;obtain⟨ba,kH,rfl⟩:∃a c,bv=.slice a be.length c:=by obtain⟨vs,v1,v2,v3⟩:=Lb0;exact af v2
 refine CS.piece (Q:=λq w5=>q=I5 bs i b4 la l jR [(6,.slice ba be.length kH)]/\w5=w4) (CS.e ?_) ?_
 .obtain⟨gb,I4,RO,Hr,AZ,KE,adi,adj⟩:=qR h4.si.be hbv
  refine⟨by kernel_rfl,_,_,h4.si.mem,.slice (Pty gb) T.bz.length I4,by show(fD _ _ _)[4]?=_;unfold fD;rw[Hr];rfl,_,_,m4,_,rfl,by omega,_,_,AZ,.slice ba be.length kH,by show RO.toList[0+((bf T.C i:Nat):Int).toNat*1]?=_;rw[Jbh,Jfq,Jfa];exact KE,?_⟩;exact⟨_,by exact sb rfl,rfl,rfl⟩
 rintro q w4 ⟨rfl,rfl⟩;refine CS.cut (Qn:=λq w6=>q=I5 bs i b4 la l jR [(6,.slice ba be.length kH)]/\GB none w4 w6/\oW vw l be=true) (Qx:=λ_ _ _=>False) (Qr:=λq w6=>q=[(2,.bool false)]/\GB none w4 w6/\oW vw l be=false) ?_ ?_ (λ_ _ _ _ h _=>h.elim) ?_
 .refine CS.piece (Q:=λq w6=>q=I5 bs i b4 la l jR [(6,.slice ba be.length kH),(7,.int .i64 0)]/\w6=w4) (CS.e ⟨_,by exact sb rfl,rfl,rfl⟩) ?_
  rintro q w4 ⟨rfl,rfl⟩;refine CS.block ?_;refine CS.loop (λm s w5=>∃k:Nat,m=l.length-k/\k<=l.length/\s=I5 bs i b4 la l jR [(6,.slice ba be.length kH),(7,.int .i64 k)]/\GB none w4 w5/\∀(j:Nat) (x y:MC),j<k->l[j]?=some x->be[j]?=some y->vw x y=true) ⟨_,_,⟨0,rfl,Jcm _,rfl,GB.refl _ _,λj x y h=>by omega⟩,sb rfl⟩ ?_;rintro m s w5 ⟨k,rfl,hk,rfl,g5,hall⟩;refine CS.cut (Qn:=λq w6=>k<l.length/\k<be.length/\q=I5 bs i b4 la l jR [(6,.slice ba be.length kH),(7,.int .i64 k)]/\w6=w5) (Qx:=λj q w6=>j=2/\(¬k<l.length\/¬k<be.length)/\q=I5 bs i b4 la l jR [(6,.slice ba be.length kH)]/\w6=w5) (Qr:=λ_ _=>False) (CS.e ?_) ?_ ?_ (λ_ _ _ h _=>h.elim)
  .refine ah (λc2=>?_) (λc2=>?_)
   .have d2:k<l.length:=by simp at c2;omega
    refine ah (λc3=>?_) (λc3=>?_)
    .have d3:k<be.length:=by have:=Ptq c3;omega
     exact⟨_,by exact sb rfl,d2,d3,rfl,rfl⟩
    .have d3:¬k<be.length:=by have:=Ptx c3;omega
     exact⟨_,by exact sb rfl,rfl,.inr d3,rfl,rfl⟩
   .have d2:¬k<l.length:=by simp at c2;omega
    exact⟨_,by exact sb rfl,rfl,.inl d2,rfl,rfl⟩
  rotate_left
  .rintro j q s w6 ⟨rfl,hor,rfl,rfl⟩ hs
   exact⟨_,hs,rfl,g5,xh λj x y hj h1 h2=>hall j x y (by have:=(Jcn.1 h1).1;have:=(Jcn.1 h2).1;omega) h1 h2⟩
  rintro q w6 ⟨d2,d3,rfl,rfl⟩;have L5:jL w6 (.slice la l.length jR) l:=L4.kz g5.kz λx hx=>by obtain⟨c,hc⟩:=L4.obj hx;exact g5.block x (ae hc) nofun
  have Lb5:=(h4.ay g5).si.bi _ _ _ hbe hbv;obtain⟨x,hx⟩:∃x,l[k]?=some x:=⟨l[k],by simp[d2]⟩;obtain⟨y,hy⟩:∃y,be[k]?=some y:=⟨be[k],by simp[d3]⟩;obtain⟨gx,Ng,UW,UX,ex,_,hcx,hex,hrx⟩:=L5.el hx;obtain⟨gy,ahp,rvy,dvy,ey,_,hcy,hey,hry⟩:=Lb5.el hy;obtain⟨rb1,rb2⟩:=HN.rl x (hlc x (Jcv hx));subst ex;subst ey;refine CS.cut (Qn:=λq w7=>vw x y=true/\q=I3 bs i [(4,Ptt b4),(5,.slice (Pty gx) l.length jR),(6,.slice (Pty gy) be.length kH),(7,.int .i64 k)]/\GB none w6 w7) (Qx:=λ_ _ _=>False) (Qr:=λq w7=>vw x y=false/\q=[(2,.bool false)]/\GB none w6 w7) (CS.e ?_) ?_ (λ_ _ _ _ h _=>h.elim) ?_
  .have hsc:=aaw w6 ⟨UW,UX,rfl,hrx⟩ ⟨rvy,dvy,rfl,hry⟩ ⟨by omega,by omega⟩
   obtain⟨r,hr⟩:∃r,r=vw x y:=⟨_,rfl⟩;rw[<-hr]at hsc |-;refine⟨by kernel_rfl,by omega,_,_,hcx,dF x UW UX,by show aG Ng.toList (0+(k:Int).toNat*17) 17=_;rw[Jbh,Jfa];exact hex,rfl,by omega,_,_,hcy,dF y rvy dvy,by show aG ahp.toList (0+(k:Int).toNat*17) 17=_;rw[Jbh,Jfa];exact hey,rfl,_,hsc,?_⟩;rintro _ w7 ⟨rfl,g7⟩;cases r
   .exact⟨_,by exact sb rfl,rfl,rfl,g7⟩
   .exact⟨_,by exact sb rfl,rfl,rfl,g7⟩
  .rintro q w7 ⟨e,rfl,g7⟩
   refine CS.e ?_;refine⟨by omega,_,_,⟨k+1,rfl,by omega,rfl,g5.trans g7,λj x' y' hj h1 h2=>?_⟩,(sb rfl),by omega⟩;by_cases ej:j=k
   .subst ej;rw[hx]at h1;rw[hy]at h2;cases h1;cases h2;exact e
   .exact hall j x' y' (by omega) h1 h2
  .rintro q s w7 ⟨e,rfl,g7⟩ hs
   exact⟨_,hs,rfl,g5.trans g7,IY hx hy e⟩
 rotate_left
 .rintro q s w6 ⟨rfl,g6,e⟩ hs
  have el:T.dz i=(T,false):=by unfold Sit.dz;rw[Nf,<-hl,Jb6 e]
  exact⟨_,hs,rfl,by rw[hstop _ el],by rw[hstop _ el];exact⟨_,_,_,_,_,_,h4.ay g6⟩,K.trans (G4.trans g6).kz⟩
 rintro q w6 ⟨rfl,g6,hzy⟩;have G6:=G4.trans g6;have h6:=hS.ay G6;have m6:=g6.get m4 nofun;have L6:jL w6 (.slice la l.length jR) l:=L4.kz g6.kz λx hx=>by obtain⟨c,hc⟩:=L4.obj hx;exact g6.block x (ae hc) nofun
 obtain⟨e1,e2,e3,e4,e5⟩:=T.DN i;refine CS.piece (Q:=λq w7=>q=I3 bs i [(5,.slice la l.length jR)]/\∃a5,iI Λ bs bc (T.dx i) a5 gv sv B ad w7/\Kz w w7) (CS.e ?_) ?_
 .refine ah (λc=>?_) (λc=>?_)
  .have d1:l.length>be.length:=by have:=Ptq c;omega
   have eb:T.dx i={T with bz:=T.bz.set (bf T.C i) l}:=by unfold Sit.dx;rw[Nf,<-hl,Jb6 d1]
   obtain⟨gb,I4,RO,Hr,AZ,KE,adi,adj⟩:=qR h6.si.be hbv;refine⟨by kernel_rfl,_,_,h6.si.mem,.slice (Pty gb) T.bz.length I4,by show(fD _ _ _)[4]?=_;unfold fD;rw[Hr];rfl,_,_,m6,_,rfl,by omega,_,_,_,AZ,gT rfl rfl (by show 0+((bf T.C i:Nat):Int).toNat*1<_;omega),rfl,λw7 m7 g7=>?_⟩;have adk:=h6.si.be;rw[Hr]at adk;have o7:=own_set' (off:=bf T.C i) (v:=.slice la l.length jR) adk AZ m7 (by show 0+((bf T.C i:Nat):Int).toNat*1=_;omega) rfl rfl (by omega);have ahq:w7.heap[bs]?=_:=g7.get h6.si.mem λe=>dw h6.si.mem AZ (by decide) (Jbm e)
   obtain⟨h7,k7⟩:=hS.be' (v:=.slice (Pty gb) T.bz.length I4) (bz:=T.bz.set (bf T.C i) l) (bv:=a.bv.set (bf T.C i) (.slice la l.length jR)) (w1:=w7) (w2:=w7) G6 (by rw[Hr];exact g7) (by rw[Jgd];exact o7) (λx hx=>by rw[Hr];exact .inl hx) (by rw[Jgd,Jgd];exact hS.si.bl) (by rw[Hl,ahq];unfold fD;rw[Hr]) (GB.refl _ _) (λg l' u p1 p2=>by
    by_cases e:bf T.C i=g
    .subst e
     rw[Jgf (by rw[qA.be];exact q1)]at p1;rw[Jgf (by rw[hS.si.bl,qA.be];exact q1)]at p2;cases p1;cases p2
     exact .inr ⟨L6,n4'⟩
    .rw[Jgg e]at p1 p2
     exact .inl ⟨p1,p2⟩)
   rw[<-eb]at h7;exact⟨_,by exact sb rfl,rfl,_,h7,K.trans k7⟩
  .have d1:¬l.length>be.length:=by have:=Ptx c;omega
   have eb:T.dx i=T:=by unfold Sit.dx;rw[Nf,<-hl,Jb5 d1]
   rw[eb];exact⟨_,by exact sb rfl,rfl,_,h6,K.trans G6.kz⟩
 rintro q w7 ⟨rfl,a5,h5,K5⟩;obtain⟨ln,hln⟩:∃x,T.len[i]?=some x:=⟨T.len[i]'(by rw[qA.le,J2];exact c1),by simp[qA.le,J2,c1]⟩;obtain⟨fl,hfl⟩:∃x,T.fell[i]?=some x:=⟨T.fell[i]'(by rw[qA.fe,J2];exact c1),by simp[qA.fe,J2,c1]⟩;have adl:T.len.getD i 0=ln:=by rw[Jdx,hln];rfl
 have adm:T.fell.getD i true=fl:=by rw[Jdx,hfl];rfl
 obtain⟨gl,XA,ahr,PO,KF,aeN,ajU,ajV⟩:=qR h5.si.le (k:=i) (x:=.int .i64 (ln:Nat)) (by rw[Jdd,e2,hln];rfl);obtain⟨gf,RP,adn,Nh,Ht,YU,ado,ahs⟩:=qR h5.si.fe (k:=i) (x:=.bool fl) (by rw[Jdd,e3,hfl];rfl);have uE:=h5.si.mem;have aht:decide ((l.length:Int)>60)=false:=Jg2 (by omega);refine CS.cut (Qn:=λq w8=>¬(l.length<ln/\fl=false)/\q=I3 bs i [(5,.slice la l.length jR)]/\w8=w7) (Qx:=λ_ _ _=>False) (Qr:=λq w8=>(l.length<ln/\fl=false)/\q=[(2,.bool false)]/\w8=w7) (CS.e ?_) ?_ (λ_ _ _ _ h _=>h.elim) ?_
 .refine ah (λd=>?_) (λd=>(by rw[aht]at d;cases d))
  refine⟨_,_,uE,.slice (Pty gl) (T.dx i).len.length XA,by show(fD _ _ _)[5]?=_;unfold fD;rw[PO];rfl,by omega,_,_,KF,.int .i64 (ln:Nat),by show ahr.toList[0+(i:Int).toNat*1]?=_;rw[Jbh,Jfq,Jfa];exact aeN,?_⟩;refine ah (λd2=>?_) (λd2=>?_)
  .have z2:l.length<ln:=by simp at d2;omega
   refine⟨_,_,uE,.slice (Pty gf) (T.dx i).fell.length RP,by show(fD _ _ _)[6]?=_;unfold fD;rw[Nh];rfl,by omega,_,_,Ht,.bool fl,by show adn.toList[0+(i:Int).toNat*1]?=_;rw[Jbh,Jfq,Jfa];exact YU,?_⟩;cases fl
   .exact⟨_,by exact sb rfl,⟨z2,rfl⟩,rfl,rfl⟩
   .exact⟨_,by exact sb rfl,λh=>(by cases h.2),rfl,rfl⟩
  .have z2:¬l.length<ln:=by simp at d2;omega
   exact⟨_,by exact sb rfl,λh=>z2 h.1,rfl,rfl⟩
 rotate_left
 .rintro q s w8 ⟨e,rfl,rfl⟩ hs
  have el:T.dz i=(T.dx i,false):=by unfold Sit.dz;rw[Nf,<-hl,Jb5 (by rw[hzy];decide),Jb6 ⟨by rw[adl];exact e.1,by rw[adm];exact e.2⟩]
  exact⟨_,hs,rfl,by rw[hstop _ el],by rw[hstop _ el];exact⟨_,_,_,_,_,_,h5⟩,K5⟩
 rintro q w8 ⟨hno,rfl,rfl⟩;have el:T.dz i=({T.dx i with len:=T.len.set i l.length,fell:=T.fell.set i false},true):=by unfold Sit.dz;rw[Nf,<-hl,Jb5 (by rw[hzy];decide),Jb5 (by rw[adl,adm];exact hno)]
 refine CS.e ?_;refine⟨_,_,uE,.slice (Pty gl) (T.dx i).len.length XA,by show(fD _ _ _)[5]?=_;unfold fD;rw[PO];rfl,by omega,_,_,_,KF,gT rfl rfl (by show 0+(i:Int).toNat*1<_;omega),rfl,λw9 m9 g9=>?_⟩;have adp:=h5.si.le;rw[PO]at adp;have o9:=own_set' (off:=i) (v:=.int .i64 (l.length:Nat)) adp KF m9 (by show 0+(i:Int).toNat*1=_;omega) rfl rfl (by omega);have ahu:w9.heap[bs]?=_:=g9.get uE λe=>dw uE KF (by decide) (Jbm e)
 obtain⟨h9,k9⟩:=h5.le' (v:=.slice (Pty gl) (T.dx i).len.length XA) (l:=(T.dx i).len.set i l.length) (w1:=w9) (w2:=w9) (by rw[PO];exact g9) (by rw[Jgd,map_set];exact o9) (λx hx=>by rw[PO];exact .inl hx) (by rw[Hl,ahu];unfold fD;rw[PO]) (GB.refl _ _);have yf:=h9.si.mem;obtain⟨gf',YV,ajG,Ni,Nj,ai8,aeO,ajH⟩:=qR h9.si.fe (k:=i) (x:=.bool fl) (by rw[Jdd];show((T.dx i).fell[i]?).map _=_;rw[e3,hfl];rfl);refine⟨_,_,yf,.slice (Pty gf') (T.dx i).fell.length YV,by show(fD _ _ _)[6]?=_;unfold fD;rw[Ni];rfl,by omega,_,_,_,Nj,gT rfl rfl (by show 0+(i:Int).toNat*1<_;omega),rfl,λwa ma ga=>?_⟩;have adq:=h9.si.fe;rw[Ni]at adq;have oa:=own_set' (off:=i) (v:=.bool false) adq Nj ma (by show 0+(i:Int).toNat*1=_;omega) rfl rfl (by omega);have ahv:wa.heap[bs]?=_:=ga.get yf λe=>dw yf Nj (by decide) (Jbm e)
 obtain⟨ha,ka⟩:=h9.fe' (v:=.slice (Pty gf') (T.dx i).fell.length YV) (l:=(T.dx i).fell.set i false) (w1:=wa) (w2:=wa) (by rw[Ni];exact ga) (by rw[Jgd,map_set];exact oa) (λx hx=>by rw[Ni];exact .inl hx) (by rw[Hl,ahv];unfold fD;rw[Ni]) (GB.refl _ _);rw[e2,e3]at ha;exact⟨_,by exact sb rfl,rfl,_,hgo _ el,⟨_,_,_,_,_,_,ha⟩,(K5.trans k9).trans ka⟩
end
structure Stp where
 (kind a b:Int)
 d:ByteArray
 q:aW
def Stp.cells(t:Stp):List Value:=[.int .i64 t.kind,.int .i64 t.a,.int .i64 t.b,.string t.d]++t.q.cells
def yg(x:Int):Prop:=-9223372036854775808<=x/\x<9223372036854775808
structure Stp.wf(A:aI)(t:Stp):Prop where
 kind:yg t.kind
 a:yg t.a
 b:yg t.b
 s:0<=t.q.s
 k:0<=t.q.k
 r:A.gc (fM (dh t.q))
def Sit.doA(_A:aI)(S:Sit)(t:Stp)(m:MM):Sit:={S with C:=S.C.send (bf S.C t.a) (bQ S.C t.a) t.d,asks:=S.asks++[⟨m.q,bf S.C t.a,S.C.q.length⟩]}
def Sit.uU(A:aI)(S:Sit)(t:Stp):Sit:=match A.dec t.d with
 |some m=>if m.kind=1/\¬t.d.size>1000/\S.C.q.length<20000 then S.doA A t m else{ S with C:=S.C.send (bf S.C t.a) (bQ S.C t.a) t.d}
 |none=>{S with C:=S.C.send (bf S.C t.a) (bQ S.C t.a) t.d}
def Sit.PQ(A:aI)(S:Sit)(t:Stp):Sit:={S.look.1 with C:=S.look.1.C.dA A (bf S.C t.a) (bQ S.C t.a),fell:=S.look.1.fell.set (bE t.a (S.C.n*S.C.sz)) true}
def Sit.yh(A:aI)(S:Sit)(t:Stp):Nat->Sit×Bool
 |0=>(if S.C.q.length<20000 then S.sends A (dh t.q) (bf S.C t.a) (bQ S.C t.a)else S,!S.bad)
 |1=>(S.uU A t,!S.bad)
 |2=>if 0<S.C.q.length then({S with C:=S.C.eX A (bE t.b S.C.q.length)},true)else(S,!S.bad)
 |3=>if 0<S.C.q.length then({S with C:=S.C.eX A ((S.C.q.length:Int)-1-(bE t.b S.C.q.length%12:Nat))},true)else(S,!S.bad)
 |4=>({S with C:=S.C.tick A (bf S.C t.a) (bQ S.C t.a)},true)
 |5=>(S.PQ A t,S.look.2)
 |_=>(S.all A (1+bE t.b 60),true)
def Sit.do(A:aI)(S:Sit)(t:Stp):Sit×Bool:=S.yh A t (bE t.kind 7)
end
