/- All replies that were sent. -/
import Derived.Test.YtignemioillaiaaGreatG44
namespace Go.Proofs.YtignemioillaiaaGreat
set_option maxHeartbeats 8000000
set_option maxRecDepth 100000
section
open Go Go.Conc
def jN(A:aR)(q:List bH)(k:Nat)(acc:List (aB×Nat)):List (aB×Nat)×Bool:=match q[k]? with
 |none=>(acc,true)
 |some p=>if p.tg≠255 then(acc,true)else match A.dec p.d with
  |none=>(acc,false)
  |some m=>if m.kind=2/\m.p.c=p.tr then(acc++[(m.p,k)],true)else(acc,false)
def wU(A:aR)(q:List bH):Nat->List (aB×Nat)×Bool
 |0=>([],true)
 |k+1=>match wU A q k with
  |(acc,true)=>jN A q k acc
  |(acc,false)=>(acc,false)
def nP(A:aR)(q:List bH):List (aB×Nat)×Bool:=wU A q q.length
theorem Fp{A:aR}{q:List bH}{T:List (aB×Nat)}:∀{i:Nat} (m:Nat),wU A q i=(T,false)->wU A q (i+m)=(T,false)
 |_,0,h=>h
 |i,m+1,h=>by
  have:=Fp m h;show(match wU A q (i+m)with|(acc,true)=>jN A q (i+m) acc|(acc,false)=>(acc,false))=_;rw[this]
def Fq(x:aB×Nat):List Value:=x.1.cells++[.int .i64 (x.2:Nat)]
section
variable{A:aR}(HA:bG A){Λ:bU}{w:World}{bs:Nat}{S:Sit}
include HA
theorem Yi(h:cZ Λ bs S w)(hF:S.C.aK A):ag Tryz.prog 173 #[Ptt bs] w (λv w'=>(∃lv,v=.tuple #[lv,.bool (nP A S.C.q).2]/\w'.ownsRow 0 264 8 lv (nP A S.C.q).1.length ((nP A S.C.q).1.map Fq).flatten)/\GB none w w'):=by
 refine aj ah mixed Tryz.func173 rfl rfl ?_;obtain⟨bc,a,gv,sv,B,ad,hS⟩:=h;have hlen:=hF.len;refine⟨_,_,hS.si.mem,_,rfl,_,q8 hS.enter hlen 0 (by decide) (by decide),?_⟩;rintro lv w1 ⟨o1,g1,f1⟩;have e0:S.C.q.length - min (0:Int).toNat S.C.q.length=S.C.q.length:=by simp
 have e1:S.C.q.drop (min (0:Int).toNat S.C.q.length)=S.C.q:=by simp
 rw[e0,e1]at o1;obtain⟨la,lc,rfl⟩:=af o1;generalize hq:S.C.q=q at *;refine⟨λm s wk=>∃(k:Nat) (acc:List (aB×Nat)) (tv:Value),m=q.length - k/\k<=q.length/\s=[(4,tv),(5,.slice la q.length lc),(6,.int .i64 k)]/\wU A q k=(acc,true)/\wk.ownsRow 0 264 8 tv acc.length (acc.map Fq).flatten/\(∀x,tv.ownBlock=some x->w1.heap.size<=x)/\acc.length<=k/\GB none w1 wk,⟨_,_,⟨0,[],.slice none 0 0,rfl,Nat.zero_le _,rfl,rfl,dY _ _ _,nofun,Nat.le_refl _,GB.refl _ _⟩,rfl,rfl,rfl,trivial⟩,?_⟩;rintro m s wk ⟨k,acc,tv,rfl,hk,rfl,ht,tw,tn,tl,gk⟩;have Po:wU A q (k+1)=jN A q k acc:=by
  show(match wU A q k with|(acc,true)=>jN A q k acc|(acc,false)=>(acc,false))=_;rw[ht]
 have hstop:∀T,jN A q k acc=(T,false)->k<q.length->nP A q=(T,false):=λT e hlt=>by
  unfold nP;rw[<-Nat.add_sub_cancel' (show k+1<=q.length from hlt)];exact Fp _ (Po.trans e)
 refine au (λc=>?_) (λc=>?_)
 ·have c1:k<q.length:=by have:=of_decide_eq_true c;omega
  replace hstop:=λT e=>hstop T e c1
  obtain⟨p,hp⟩:∃p,q[k]? = some p:=⟨q[k],by simp[c1]⟩;obtain⟨gb,cap,cur,ev,aS,htk,hsz,hcap⟩:=jq o1 (by omega);injection ev with ev _ Ro;subst ev;subst Ro;have Pp:=gk.get aS nofun;have hel:=V6 hp htk;have get:∀(j:Nat) (v:Value),p.cells[j]? = some v->cur.toList[k*5+j]? = some v:=λj v hj=>by
   have hj5:j<5:=(List.getElem?_eq_some_iff.1 hj).1;rw[<-hel]at hj;unfold aJ at hj;rw[List.getElem?_take,if_pos hj5,List.getElem?_drop]at hj;exact hj
  refine⟨⟨by omega,by omega⟩,_,_,Pp,.int .u8 p.tg,by show cur.toList[0+(k:Int).toNat*5+2]? = _;rw[Nat.zero_add,Int.toNat_natCast];exact get 2 _ rfl,?_⟩;refine au (λd=>?_) (λd=>?_)
  ·have d1:p.tg≠255:=by simpa using d
   have el:jN A q k acc=(acc,true):=by unfold jN;rw[hp];show(if p.tg≠255 then _ else _)=_;rw[if_pos d1]
   exact⟨by omega,_,_,⟨k+1,acc,tv,rfl,by omega,rfl,Po.trans el,tw,tn,by omega,gk⟩,⟨rfl,rfl,rfl,trivial⟩,by omega⟩
  ·have d1:p.tg=255:=by simpa using d
   refine⟨⟨by omega,by omega⟩,_,_,Pp,.string p.d,by show cur.toList[0+(k:Int).toNat*5+4]? = _;rw[Nat.zero_add,Int.toNat_natCast];exact get 4 _ rfl,_,HA.parse wk p.d,?_⟩;rintro _ w2 ⟨⟨mv,e,m,rfl,hm,hc⟩,g2⟩;obtain⟨rv,dv,vv,rv',eO,rfl,i1,i2,i3⟩:=hm;obtain⟨_,_,_,_,_,_,rfl,rfl⟩:=i1.sl;obtain⟨_,_,rfl⟩:=i2.sl;obtain⟨_,_,_,_,_,_,rfl,rfl⟩:=i3.sl;refine λw3 b3 m3 g3 l3=>⟨_,_,_,m3,rfl,rfl,λw4 m4 g4=>?_⟩
   have G4:GB none wk w4:=g2.trans (g3.new g4 l3);have RX:=az tw (w1:=w4) λx hx=>by obtain⟨c,hc⟩:=ay tw hx;exact G4.block x (ae hc) nofun
   have q9:=G4.get Pp nofun;rcases hc with⟨rfl,hd,_⟩|⟨he,hd⟩
   ·refine⟨by kernel_rfl,_,_,m4,_,rfl,?_⟩
    refine au (λx=>?_) (λx=>?_)
    ·have x1:m.kind=2:=by simpa using x
     refine⟨_,_,m4,_,rfl,⟨by omega,by omega⟩,_,_,q9,.int .u8 p.tr,by show cur.toList[0+(k:Int).toNat*5+2+1]? = _;rw[Nat.zero_add,Int.toNat_natCast];exact get 3 _ rfl,?_⟩;refine au (λy=>?_) (λy=>?_)
     ·have y1:¬m.p.c=p.tr:=by simpa using y
      have el:jN A q k acc=(acc,false):=by
       unfold jN;rw[hp];show(if p.tg≠255 then _ else _)=_;rw[if_neg (λh=>h d1),hd];show(if m.kind=2/\m.p.c=p.tr then _ else _)=_;rw[if_neg (λh=>y1 h.2)]
      have et:=hstop _ el;exact⟨⟨tv,by rw[et],by rw[et];exact RX⟩,(g1.trans gk).trans G4⟩
     ·have y1:m.p.c=p.tr:=by simpa using y
      have el:jN A q k acc=(acc++[(m.p,k)],true):=by
       unfold jN;rw[hp];show(if p.tg≠255 then _ else _)=_;rw[if_neg (λh=>h d1),hd];show(if m.kind=2/\m.p.c=p.tr then _ else _)=_;rw[if_pos ⟨x1,y1⟩]
      obtain⟨ta,tc,rfl⟩:=af tw;refine⟨_,_,m4,m.p.cells,rfl,rfl,λw5 b5 m5 g5 l5=>?_⟩;have to5:=az RX (w1:=w5) λx hx=>by obtain⟨c,hc⟩:=ay RX hx;exact g5.block x (ae hc) nofun
      refine⟨_,Fq (m.p,k),to5,⟨_,_,m5,rfl,rfl,rfl⟩,by omega,λv' w6 M3 g6 n6=>?_⟩;refine⟨by omega,_,_,⟨k+1,acc++[(m.p,k)],v',rfl,by omega,rfl,Po.trans el,?_,λx hx=>(n6 x hx).elim (tn x) λhl=>?_,by rw[List.length_append];show acc.length+1<=_;omega,GB.ownB ((gk.trans G4).trans g5) g6 tn⟩,⟨rfl,rfl,rfl,trivial⟩,by omega⟩
      ·rw[List.length_append,List.map_append,List.flatten_append,show(List.map Fq [(m.p,k)]).flatten=Fq (m.p,k)by simp];exact M3
      ·have:=((gk.trans G4).trans g5).size;omega
    ·have x1:¬m.kind=2:=by simpa using x
     have el:jN A q k acc=(acc,false):=by
      unfold jN;rw[hp];show(if p.tg≠255 then _ else _)=_;rw[if_neg (λh=>h d1),hd];show(if m.kind=2/\m.p.c=p.tr then _ else _)=_;rw[if_neg (λh=>x1 h.1)]
     have et:=hstop _ el;exact⟨⟨tv,by rw[et],by rw[et];exact RX⟩,(g1.trans gk).trans G4⟩
   ·refine⟨by kernel_rfl,?_⟩
    have el:jN A q k acc=(acc,false):=by unfold jN;rw[hp];show(if p.tg≠255 then _ else _)=_;rw[if_neg (λh=>h d1),hd]
    have et:=hstop _ el;refine au (λx=>?_) (λx=>?_)
    ·have:e=0:=by simpa using x
     exact absurd this he
    ·exact⟨⟨tv,by rw[et],by rw[et];exact RX⟩,(g1.trans gk).trans G4⟩
 ·have c1:k=q.length:=by have:=of_decide_eq_false c;omega
  subst c1;have et:nP A q=(acc,true):=ht;exact⟨⟨tv,by rw[et],by rw[et];exact tw⟩,g1.trans gk⟩
end
section
variable{A:aR}(HN:dL A){Λ:bU}{w:World}{bs:Nat}{S:Sit}
include HN
theorem RY(h:cZ Λ bs S w)(hF:S.aK A):ag Tryz.prog 71 #[Ptt bs] w (λv w'=>v=.bool S.look.2/\cZ Λ bs S.look.1 w'/\Kz w w'):=by
 have Pq:S.look=S.dX (S.C.n*S.C.sz):=rfl;have ja:=hF.cl.n;have hs5:=hF.cl.sz;have hle:S.C.n*S.C.sz<=20:=Nat.mul_le_mul ja hs5;refine tL ah Tryz.func71 rfl rfl ?_;refine CS.piece (Q:=λq w'=>q=[(0,Ptt bs)]/\w'=w) (CS.of ah mixed ⟨_,by exact⟨rfl,trivial⟩,rfl,rfl⟩) ?_;rintro q w ⟨rfl,rfl⟩;refine CS.cut (Qn:=λq w1=>q=[]/\S.look.2=true/\cZ Λ bs S.look.1 w1/\Kz w w1) (Qx:=λ_ _ _=>False) (Qr:=λq w1=>q=[(2,.bool S.look.2)]/\cZ Λ bs S.look.1 w1/\Kz w w1) ?_ ?_ (λ_ _ _ _ h _=>h.elim) ?_;rotate_left
 ·rintro q w1 ⟨rfl,e,h1,k1⟩
  refine CS.of ah mixed ?_;exact⟨by rw[e],h1,k1⟩
 ·rintro q s w1 ⟨rfl,h1,k1⟩ hs
  exact rT hs ⟨rfl,h1,k1⟩
 refine CS.piece (Q:=λq w'=>q=[(0,Ptt bs),(3,.int .i64 0)]/\w'=w) (CS.of ah mixed ⟨_,by exact⟨rfl,rfl,trivial⟩,rfl,rfl⟩) ?_;rintro q w ⟨rfl,rfl⟩;refine CS.block ?_;refine CS.loop (λm s wk=>∃(i:Nat) (T:Sit),m=S.C.n*S.C.sz - i/\i<=S.C.n*S.C.sz/\s=[(0,Ptt bs),(3,.int .i64 i)]/\S.dX i=(T,true)/\cZ Λ bs T wk/\Kz w wk) ⟨_,_,⟨0,S,rfl,Nat.zero_le _,rfl,rfl,h,Kz.refl _⟩,rfl,rfl,trivial⟩ ?_;rintro m s wk ⟨i,T,rfl,hi,rfl,hT,hS,K⟩;obtain⟨pE,Ig⟩:=hF.dX i;rw[hT]at pE Ig;have pE:T.aK A:=pE;have Ig:T.C=S.C:=Ig;have hcast:((T.C.n:Nat):Int)*((T.C.sz:Nat):Int)=((S.C.n*S.C.sz:Nat):Int):=by rw[Ig];exact(Int.natCast_mul _ _).symm
 obtain⟨bc,a,gv,sv,B,ad,hS⟩:=hS;have hmem:=hS.si.mem;refine CS.cut (Qn:=λq w1=>i<S.C.n*S.C.sz/\q=[(0,Ptt bs),(3,.int .i64 i)]/\w1=wk) (Qx:=λj q w1=>j=0/\i=S.C.n*S.C.sz/\q=[]/\w1=wk) (Qr:=λ_ _=>False) (CS.of ah mixed ?_) ?_ ?_ (λ_ _ _ h _=>h.elim)
 ·refine⟨by kernel_rfl,_,_,hmem,_,rfl,_,_,hmem,_,rfl,⟨by rw[hcast];omega,by rw[hcast];omega⟩,?_⟩
  refine au (λc=>?_) (λc=>?_)
  ·exact⟨_,by exact⟨rfl,rfl,trivial⟩,by have:=of_decide_eq_true c;rw[hcast]at this;omega,rfl,rfl⟩
  ·exact⟨_,by exact trivial,rfl,by have:=of_decide_eq_false c;rw[hcast]at this;omega,rfl,rfl⟩
 rotate_left
 ·rintro j q s w1 ⟨rfl,e,rfl,rfl⟩ _
  refine⟨[],by exact trivial,rfl,?_,?_,K⟩
  ·rw[Pq,<-e,hT]
  ·rw[Pq,<-e,hT];exact⟨_,_,_,_,_,_,hS⟩
 rintro q wk ⟨c1,rfl,rfl⟩;have hstop:∀T',T.dz i=(T',false)->S.look=(T',false):=λT' e=>by
  have e1:S.dX (i+1)=(T',false):=by
   show(match S.dX i with|(T,true)=>T.dz i|(T,false)=>(T,false))=_;rw[hT];exact e
  rw[Pq,<-Nat.add_sub_cancel' (show i+1<=S.C.n*S.C.sz from c1)];exact Sit.Fj _ e1
 have hgo:∀T',T.dz i=(T',true)->S.dX (i+1)=(T',true):=λT' e=>by
  show(match S.dX i with|(T,true)=>T.dz i|(T,false)=>(T,false))=_;rw[hT];exact e
 refine CS.cut (Qn:=λq w1=>q=[(0,Ptt bs),(3,.int .i64 i)]/\∃T',S.dX (i+1)=(T',true)/\cZ Λ bs T' w1/\Kz w w1) (Qx:=λ_ _ _=>False) (Qr:=λq w1=>q=[(2,.bool false)]/\S.look.2=false/\cZ Λ bs S.look.1 w1/\Kz w w1) ?_ ?_ (λ_ _ _ _ h _=>h.elim) ?_;rotate_left
 ·rintro q w1 ⟨rfl,T',e,h1,k1⟩
  refine CS.of ah mixed ?_;exact⟨⟨by omega,by omega⟩,_,_,⟨i+1,T',rfl,by omega,rfl,e,h1,k1⟩,⟨rfl,rfl,trivial⟩,by omega⟩
 ·rintro q s w1 ⟨rfl,e,h1,k1⟩ hs
  exact⟨_,hs,by rw[e],h1,k1⟩
 refine CS.block ?_;obtain⟨q1,q2⟩:=nV (C:=T.C) (k:=(i:Int)) pE.n pE.sz;refine CS.piece (Q:=λq w3=>∃b4,q=[(0,Ptt bs),(3,.int .i64 i),(4,Ptt b4)]/\w3.heap[b4]? = some (.cells #[.int .u8 (aZ T.C i),.int .u8 (bN T.C i)] 66)/\GB none wk w3/\wk.heap.size<=b4) (CS.of ah mixed ?_) ?_
 ·refine⟨_,qz hmem ⟨pE.n,pE.cl.n⟩ ⟨pE.sz,pE.cl.sz⟩ i (by omega) (by omega),?_⟩
  rintro _ w1 ⟨rfl,g1⟩;refine λw2 b4 m2 g2 l2=>⟨_,_,_,m2,rfl,rfl,λw3 m3 g3=>?_⟩
  exact⟨_,by exact⟨rfl,rfl,rfl,trivial⟩,b4,rfl,m3,g1.trans (g2.new g3 l2),Nat.le_trans g1.size l2⟩
 rintro q w3 ⟨b4,rfl,m3,G3,lb4⟩;have h3:=hS.ax G3;obtain⟨l,hl⟩:∃l,l=(T.C.F (aZ T.C i) (bN T.C i)).log:=⟨_,rfl⟩;have hok:=pE.cl.ok _ _ q1 q2;have Ps:l.length<=60:=by rw[hl];exact hok.lg
 have hlc:∀c∈l,A.gc c:=by rw[hl];exact hok.lc
 refine CS.piece (Q:=λq w4=>∃la jX,q=[(0,Ptt bs),(3,.int .i64 i),(4,Ptt b4),(5,.slice la l.length jX)]/\jA w4 (.slice la l.length jX) l/\GB none w3 w4/\∀x,(Value.slice la l.length jX).ownBlock=some x->w3.heap.size<=x) (CS.of ah mixed ?_) ?_
 ·refine⟨by kernel_rfl,_,_,h3.si.mem,_,rfl,_,_,m3,[.int .u8 (aZ T.C i),.int .u8 (bN T.C i)],rfl,rfl,_,abV HN h3.enter pE.cl (aZ T.C i) (bN T.C i) q1 q2,?_⟩
  rintro lv w4 ⟨L4,g4,n4⟩;rw[<-hl]at L4;obtain⟨la,jX,rfl⟩:∃a c,lv=.slice a l.length c:=by obtain⟨vs,v1,v2,v3⟩:=L4;exact af v2
  exact⟨_,by exact⟨rfl,rfl,rfl,rfl,trivial⟩,la,jX,rfl,L4,g4,n4⟩
 rintro q w4 ⟨la,jX,rfl,L4,g4,n4⟩;have G4:=G3.trans g4;have h4:=hS.ax G4;have m4:=g4.get m3 nofun;have n4':∀x,(Value.slice la l.length jX).ownBlock=some x->wk.heap.size<=x:=λx hx=>by have:=n4 x hx;have:=G3.size;omega
 obtain⟨be,hbe⟩:∃b,T.bf[aZ T.C i]? = some b:=⟨T.bf[aZ T.C i]'(by rw[pE.be];exact q1),by simp[pE.be,q1]⟩;obtain⟨bv,hbv⟩:∃b,a.bv[aZ T.C i]? = some b:=⟨a.bv[aZ T.C i]'(by rw[hS.si.bl,pE.be];exact q1),by simp[hS.si.bl,pE.be,q1]⟩;have KL:T.bf.getD (aZ T.C i) []=be:=by rw[List.getD_eq_getElem?_getD,hbe];rfl
 have Lb0:=hS.si.bi _ _ _ hbe hbv;obtain⟨ba,jW,rfl⟩:∃a c,bv=.slice a be.length c:=by obtain⟨vs,v1,v2,v3⟩:=Lb0;exact af v2
 refine CS.piece (Q:=λq w5=>q=[(0,Ptt bs),(3,.int .i64 i),(4,Ptt b4),(5,.slice la l.length jX),(6,.slice ba be.length jW)]/\w5=w4) (CS.of ah mixed ?_) ?_
 ·obtain⟨gb,Gt,Pt,Fs,zx,IV,aaX,aaY⟩:=pX h4.si.be hbv
  refine⟨by kernel_rfl,_,_,h4.si.mem,.slice (some ⟨gb,0,none⟩) T.bf.length Gt,by show(fJ _ _ _)[4]? = _;unfold fJ;rw[Fs];rfl,_,_,m4,_,rfl,⟨by omega,by omega⟩,_,_,zx,.slice ba be.length jW,by show Pt.toList[0+((aZ T.C i:Nat):Int).toNat*1]? = _;rw[Nat.zero_add,Nat.mul_one,Int.toNat_natCast];exact IV,?_⟩;exact⟨_,by exact⟨rfl,rfl,rfl,rfl,rfl,trivial⟩,rfl,rfl⟩
 rintro q w4 ⟨rfl,rfl⟩;refine CS.cut (Qn:=λq w6=>q=[(0,Ptt bs),(3,.int .i64 i),(4,Ptt b4),(5,.slice la l.length jX),(6,.slice ba be.length jW)]/\GB none w4 w6/\nO uh l be=true) (Qx:=λ_ _ _=>False) (Qr:=λq w6=>q=[(2,.bool false)]/\GB none w4 w6/\nO uh l be=false) ?_ ?_ (λ_ _ _ _ h _=>h.elim) ?_
 ·refine CS.piece (Q:=λq w6=>q=[(0,Ptt bs),(3,.int .i64 i),(4,Ptt b4),(5,.slice la l.length jX),(6,.slice ba be.length jW),(7,.int .i64 0)]/\w6=w4) (CS.of ah mixed ⟨_,by exact⟨rfl,rfl,rfl,rfl,rfl,rfl,trivial⟩,rfl,rfl⟩) ?_
  rintro q w4 ⟨rfl,rfl⟩;refine CS.block ?_;refine CS.loop (λm s w5=>∃k:Nat,m=l.length - k/\k<=l.length/\s=[(0,Ptt bs),(3,.int .i64 i),(4,Ptt b4),(5,.slice la l.length jX),(6,.slice ba be.length jW),(7,.int .i64 k)]/\GB none w4 w5/\∀(j:Nat) (x y:MC),j<k->l[j]? = some x->be[j]? = some y->uh x y=true) ⟨_,_,⟨0,rfl,Nat.zero_le _,rfl,GB.refl _ _,λj x y h=>by omega⟩,rfl,rfl,rfl,rfl,rfl,rfl,trivial⟩ ?_;rintro m s w5 ⟨k,rfl,hk,rfl,g5,hall⟩;refine CS.cut (Qn:=λq w6=>k<l.length/\k<be.length/\q=[(0,Ptt bs),(3,.int .i64 i),(4,Ptt b4),(5,.slice la l.length jX),(6,.slice ba be.length jW),(7,.int .i64 k)]/\w6=w5) (Qx:=λj q w6=>j=2/\(¬k<l.length\/¬k<be.length)/\q=[(0,Ptt bs),(3,.int .i64 i),(4,Ptt b4),(5,.slice la l.length jX),(6,.slice ba be.length jW)]/\w6=w5) (Qr:=λ_ _=>False) (CS.of ah mixed ?_) ?_ ?_ (λ_ _ _ h _=>h.elim)
  ·refine au (λc2=>?_) (λc2=>?_)
   ·have d2:k<l.length:=by simp at c2;omega
    refine au (λc3=>?_) (λc3=>?_)
    ·have d3:k<be.length:=by have:=of_decide_eq_true c3;omega
     exact⟨_,by exact⟨rfl,rfl,rfl,rfl,rfl,rfl,trivial⟩,d2,d3,rfl,rfl⟩
    ·have d3:¬k<be.length:=by have:=of_decide_eq_false c3;omega
     exact⟨_,by exact⟨rfl,rfl,rfl,rfl,rfl,trivial⟩,rfl,.inr d3,rfl,rfl⟩
   ·have d2:¬k<l.length:=by simp at c2;omega
    exact⟨_,by exact⟨rfl,rfl,rfl,rfl,rfl,trivial⟩,rfl,.inl d2,rfl,rfl⟩
  rotate_left
  ·rintro j q s w6 ⟨rfl,hor,rfl,rfl⟩ hs
   exact⟨_,hs,rfl,g5,vU λj x y hj h1 h2=>hall j x y (by have:=(List.getElem?_eq_some_iff.1 h1).1;have:=(List.getElem?_eq_some_iff.1 h2).1;omega) h1 h2⟩
  rintro q w6 ⟨d2,d3,rfl,rfl⟩;have L5:jA w6 (.slice la l.length jX) l:=L4.kz g5.kz λx hx=>by obtain⟨c,hc⟩:=L4.obj hx;exact g5.block x (ae hc) nofun
  have Lb5:=(h4.ax g5).si.bi _ _ _ hbe hbv;obtain⟨x,hx⟩:∃x,l[k]? = some x:=⟨l[k],by simp[d2]⟩;obtain⟨y,hy⟩:∃y,be[k]? = some y:=⟨be[k],by simp[d3]⟩;obtain⟨gx,Vb,Wy,Wz,ex,_,hcx,hex,hrx⟩:=L5.el hx;obtain⟨gy,aeQ,rvy,dvy,ey,_,hcy,hey,hry⟩:=Lb5.el hy;obtain⟨rb1,rb2⟩:=HN.rl x (hlc x (List.mem_of_getElem? hx));subst ex;subst ey;refine CS.cut (Qn:=λq w7=>uh x y=true/\q=[(0,Ptt bs),(3,.int .i64 i),(4,Ptt b4),(5,.slice (some ⟨gx,0,none⟩) l.length jX),(6,.slice (some ⟨gy,0,none⟩) be.length jW),(7,.int .i64 k)]/\GB none w6 w7) (Qx:=λ_ _ _=>False) (Qr:=λq w7=>uh x y=false/\q=[(2,.bool false)]/\GB none w6 w7) (CS.of ah mixed ?_) ?_ (λ_ _ _ _ h _=>h.elim) ?_
  ·have hsc:=Yh w6 ⟨Wy,Wz,rfl,hrx⟩ ⟨rvy,dvy,rfl,hry⟩ ⟨by omega,by omega⟩
   obtain⟨r,hr⟩:∃r,r=uh x y:=⟨_,rfl⟩;rw[<-hr]at hsc |-;refine⟨by kernel_rfl,⟨by omega,by omega⟩,_,_,hcx,dA x Wy Wz,by show aJ Vb.toList (0+(k:Int).toNat*17) 17=_;rw[Nat.zero_add,Int.toNat_natCast];exact hex,rfl,⟨by omega,by omega⟩,_,_,hcy,dA y rvy dvy,by show aJ aeQ.toList (0+(k:Int).toNat*17) 17=_;rw[Nat.zero_add,Int.toNat_natCast];exact hey,rfl,_,hsc,?_⟩;rintro _ w7 ⟨rfl,g7⟩;cases r
   ·exact⟨_,by exact⟨rfl,trivial⟩,rfl,rfl,g7⟩
   ·exact⟨_,by exact⟨rfl,rfl,rfl,rfl,rfl,rfl,trivial⟩,rfl,rfl,g7⟩
  ·rintro q w7 ⟨e,rfl,g7⟩
   refine CS.of ah mixed ?_;refine⟨⟨by omega,by omega⟩,_,_,⟨k+1,rfl,by omega,rfl,g5.trans g7,λj x' y' hj h1 h2=>?_⟩,⟨rfl,rfl,rfl,rfl,rfl,rfl,trivial⟩,by omega⟩;by_cases ej:j=k
   ·subst ej;rw[hx]at h1;rw[hy]at h2;cases h1;cases h2;exact e
   ·exact hall j x' y' (by omega) h1 h2
  ·rintro q s w7 ⟨e,rfl,g7⟩ hs
   exact⟨_,hs,rfl,g5.trans g7,Gp hx hy e⟩
 rotate_left
 ·rintro q s w6 ⟨rfl,g6,e⟩ hs
  have el:T.dz i=(T,false):=by unfold Sit.dz;rw[KL,<-hl,if_pos e]
  exact⟨_,hs,rfl,by rw[hstop _ el],by rw[hstop _ el];exact⟨_,_,_,_,_,_,h4.ax g6⟩,K.trans (G4.trans g6).kz⟩
 rintro q w6 ⟨rfl,g6,hzy⟩;have G6:=G4.trans g6;have h6:=hS.ax G6;have m6:=g6.get m4 nofun;have L6:jA w6 (.slice la l.length jX) l:=L4.kz g6.kz λx hx=>by obtain⟨c,hc⟩:=L4.obj hx;exact g6.block x (ae hc) nofun
 obtain⟨e1,e2,e3,e4,e5⟩:=T.Ce i;refine CS.piece (Q:=λq w7=>q=[(0,Ptt bs),(3,.int .i64 i),(5,.slice la l.length jX)]/\∃a5,ig Λ bs bc (T.dx i) a5 gv sv B ad w7/\Kz w w7) (CS.of ah mixed ?_) ?_
 ·refine au (λc=>?_) (λc=>?_)
  ·have d1:l.length > be.length:=by have:=of_decide_eq_true c;omega
   have eb:T.dx i={ T with bf:=T.bf.set (aZ T.C i) l }:=by unfold Sit.dx;rw[KL,<-hl,if_pos d1]
   obtain⟨gb,Gt,Pt,Fs,zx,IV,aaX,aaY⟩:=pX h6.si.be hbv;refine⟨by kernel_rfl,_,_,h6.si.mem,.slice (some ⟨gb,0,none⟩) T.bf.length Gt,by show(fJ _ _ _)[4]? = _;unfold fJ;rw[Fs];rfl,_,_,m6,_,rfl,⟨by omega,by omega⟩,_,_,_,zx,gp rfl rfl (by show 0+((aZ T.C i:Nat):Int).toNat*1<_;omega),rfl,λw7 m7 g7=>?_⟩;have aaZ:=h6.si.be;rw[Fs]at aaZ;have o7:=own_set' (off:=aZ T.C i) (v:=.slice la l.length jX) aaZ zx m7 (by show 0+((aZ T.C i:Nat):Int).toNat*1=_;omega) rfl rfl (by omega);have aeR:w7.heap[bs]? = _:=g7.get h6.si.mem λe=>dw h6.si.mem zx (by decide) (Option.some.inj e)
   obtain⟨h7,k7⟩:=hS.be' (v:=.slice (some ⟨gb,0,none⟩) T.bf.length Gt) (bf:=T.bf.set (aZ T.C i) l) (bv:=a.bv.set (aZ T.C i) (.slice la l.length jX)) (w1:=w7) (w2:=w7) G6 (by rw[Fs];exact g7) (by rw[List.length_set];exact o7) (λx hx=>by rw[Fs];exact .inl hx) (by rw[List.length_set,List.length_set];exact hS.si.bl) (by rw[aeR];unfold fJ;rw[Fs]) (GB.refl _ _) (λg l' u p1 p2=>by
    by_cases e:aZ T.C i=g
    ·subst e
     rw[List.getElem?_set_self (by rw[pE.be];exact q1)]at p1;rw[List.getElem?_set_self (by rw[hS.si.bl,pE.be];exact q1)]at p2;cases p1;cases p2
     exact .inr ⟨L6,n4'⟩
    ·rw[List.getElem?_set_ne e]at p1 p2
     exact .inl ⟨p1,p2⟩)
   rw[<-eb]at h7;exact⟨_,by exact⟨rfl,rfl,rfl,trivial⟩,rfl,_,h7,K.trans k7⟩
  ·have d1:¬l.length > be.length:=by have:=of_decide_eq_false c;omega
   have eb:T.dx i=T:=by unfold Sit.dx;rw[KL,<-hl,if_neg d1]
   rw[eb];exact⟨_,by exact⟨rfl,rfl,rfl,trivial⟩,rfl,_,h6,K.trans G6.kz⟩
 rintro q w7 ⟨rfl,a5,h5,K5⟩;obtain⟨ln,hln⟩:∃x,T.len[i]? = some x:=⟨T.len[i]'(by rw[pE.le,Ig];exact c1),by simp[pE.le,Ig,c1]⟩;obtain⟨fl,hfl⟩:∃x,T.fell[i]? = some x:=⟨T.fell[i]'(by rw[pE.fe,Ig];exact c1),by simp[pE.fe,Ig,c1]⟩;have aa0:T.len.getD i 0=ln:=by rw[List.getD_eq_getElem?_getD,hln];rfl
 have aa1:T.fell.getD i true=fl:=by rw[List.getD_eq_getElem?_getD,hfl];rfl
 obtain⟨gl,Vd,aeS,Nu,IW,ace,ahc,ahd⟩:=pX h5.si.le (k:=i) (x:=.int .i64 (ln:Nat)) (by rw[List.getElem?_map,e2,hln];rfl);obtain⟨gf,Pv,KM,KN,Fu,WA,aa2,aeT⟩:=pX h5.si.fe (k:=i) (x:=.bool fl) (by rw[List.getElem?_map,e3,hfl];rfl);have sU:=h5.si.mem;have aeU:decide ((l.length:Int) > 60)=false:=decide_eq_false (by omega);refine CS.cut (Qn:=λq w8=>¬(l.length<ln/\fl=false)/\q=[(0,Ptt bs),(3,.int .i64 i),(5,.slice la l.length jX)]/\w8=w7) (Qx:=λ_ _ _=>False) (Qr:=λq w8=>(l.length<ln/\fl=false)/\q=[(2,.bool false)]/\w8=w7) (CS.of ah mixed ?_) ?_ (λ_ _ _ _ h _=>h.elim) ?_
 ·refine au (λd=>?_) (λd=>(by rw[aeU]at d;cases d))
  refine⟨_,_,sU,.slice (some ⟨gl,0,none⟩) (T.dx i).len.length Vd,by show(fJ _ _ _)[5]? = _;unfold fJ;rw[Nu];rfl,⟨by omega,by omega⟩,_,_,IW,.int .i64 (ln:Nat),by show aeS.toList[0+(i:Int).toNat*1]? = _;rw[Nat.zero_add,Nat.mul_one,Int.toNat_natCast];exact ace,?_⟩;refine au (λd2=>?_) (λd2=>?_)
  ·have z2:l.length<ln:=by simp at d2;omega
   refine⟨_,_,sU,.slice (some ⟨gf,0,none⟩) (T.dx i).fell.length Pv,by show(fJ _ _ _)[6]? = _;unfold fJ;rw[KN];rfl,⟨by omega,by omega⟩,_,_,Fu,.bool fl,by show KM.toList[0+(i:Int).toNat*1]? = _;rw[Nat.zero_add,Nat.mul_one,Int.toNat_natCast];exact WA,?_⟩;cases fl
   ·exact⟨_,by exact⟨rfl,trivial⟩,⟨z2,rfl⟩,rfl,rfl⟩
   ·exact⟨_,by exact⟨rfl,rfl,rfl,trivial⟩,λh=>(by cases h.2),rfl,rfl⟩
  ·have z2:¬l.length<ln:=by simp at d2;omega
   exact⟨_,by exact⟨rfl,rfl,rfl,trivial⟩,λh=>z2 h.1,rfl,rfl⟩
 rotate_left
 ·rintro q s w8 ⟨e,rfl,rfl⟩ hs
  have el:T.dz i=(T.dx i,false):=by unfold Sit.dz;rw[KL,<-hl,if_neg (by rw[hzy];decide),if_pos ⟨by rw[aa0];exact e.1,by rw[aa1];exact e.2⟩]
  exact⟨_,hs,rfl,by rw[hstop _ el],by rw[hstop _ el];exact⟨_,_,_,_,_,_,h5⟩,K5⟩
 rintro q w8 ⟨hno,rfl,rfl⟩;have el:T.dz i=({ T.dx i with len:=T.len.set i l.length,fell:=T.fell.set i false },true):=by unfold Sit.dz;rw[KL,<-hl,if_neg (by rw[hzy];decide),if_neg (by rw[aa0,aa1];exact hno)]
 refine CS.of ah mixed ?_;refine⟨_,_,sU,.slice (some ⟨gl,0,none⟩) (T.dx i).len.length Vd,by show(fJ _ _ _)[5]? = _;unfold fJ;rw[Nu];rfl,⟨by omega,by omega⟩,_,_,_,IW,gp rfl rfl (by show 0+(i:Int).toNat*1<_;omega),rfl,λw9 m9 g9=>?_⟩;have aa3:=h5.si.le;rw[Nu]at aa3;have o9:=own_set' (off:=i) (v:=.int .i64 (l.length:Nat)) aa3 IW m9 (by show 0+(i:Int).toNat*1=_;omega) rfl rfl (by omega);have aeV:w9.heap[bs]? = _:=g9.get sU λe=>dw sU IW (by decide) (Option.some.inj e)
 obtain⟨h9,k9⟩:=h5.le' (v:=.slice (some ⟨gl,0,none⟩) (T.dx i).len.length Vd) (l:=(T.dx i).len.set i l.length) (w1:=w9) (w2:=w9) (by rw[Nu];exact g9) (by rw[List.length_set,List.map_set];exact o9) (λx hx=>by rw[Nu];exact .inl hx) (by rw[aeV];unfold fJ;rw[Nu]) (GB.refl _ _);have wV:=h9.si.mem;obtain⟨gf',WB,agX,KO,KP,agw,acf,agY⟩:=pX h9.si.fe (k:=i) (x:=.bool fl) (by rw[List.getElem?_map];show((T.dx i).fell[i]?).map _=_;rw[e3,hfl];rfl);refine⟨_,_,wV,.slice (some ⟨gf',0,none⟩) (T.dx i).fell.length WB,by show(fJ _ _ _)[6]? = _;unfold fJ;rw[KO];rfl,⟨by omega,by omega⟩,_,_,_,KP,gp rfl rfl (by show 0+(i:Int).toNat*1<_;omega),rfl,λwa ma ga=>?_⟩;have aa4:=h9.si.fe;rw[KO]at aa4;have oa:=own_set' (off:=i) (v:=.bool false) aa4 KP ma (by show 0+(i:Int).toNat*1=_;omega) rfl rfl (by omega);have aeW:wa.heap[bs]? = _:=ga.get wV λe=>dw wV KP (by decide) (Option.some.inj e)
 obtain⟨ha,ka⟩:=h9.fe' (v:=.slice (some ⟨gf',0,none⟩) (T.dx i).fell.length WB) (l:=(T.dx i).fell.set i false) (w1:=wa) (w2:=wa) (by rw[KO];exact ga) (by rw[List.length_set,List.map_set];exact oa) (λx hx=>by rw[KO];exact .inl hx) (by rw[aeW];unfold fJ;rw[KO]) (GB.refl _ _);rw[e2,e3]at ha;exact⟨_,by exact⟨rfl,rfl,trivial⟩,rfl,_,hgo _ el,⟨_,_,_,_,_,_,ha⟩,(K5.trans k9).trans ka⟩
end
end
