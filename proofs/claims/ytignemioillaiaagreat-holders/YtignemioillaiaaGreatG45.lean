/- Lemmas. -/
import Derived.Test.YtignemioillaiaaGreatG44
namespace Go.Proofs.YtignemioillaiaaGreat
set_option maxHeartbeats 8000000
set_option linter.unusedSectionVars false
set_option maxRecDepth 100000
open List
section
open Go Go.Conc
section
variable{A:aO}(HN:dH A){Λ:bU}{w:World}{bs:Nat}{S:Sit}
include HN
theorem SV(h:df Λ bs S w)(hF:S.aJ A):ag Tryz.prog 71 #[Ptt bs] w (λv w'=>v=.bool S.look.2/\df Λ bs S.look.1 w'/\Kz w w'):=by
 have Qa:S.look=S.dX (S.C.n*S.C.sz):=rfl;have jh:=hF.cl.n;have hs5:=hF.cl.sz;have hle:S.C.n*S.C.sz<=20:=Nat.mul_le_mul jh hs5;refine wu fD Tryz.func71 rfl rfl ?_;refine CS.piece (Q:=λq w'=>q=[(0,Ptt bs)]/\w'=w) (CS.e ⟨_,by exact⟨rfl,trivial⟩,rfl,rfl⟩) ?_;rintro q w ⟨rfl,rfl⟩;refine CS.cut (Qn:=λq w1=>q=[]/\S.look.2=true/\df Λ bs S.look.1 w1/\Kz w w1) (Qx:=λ_ _ _=>False) (Qr:=λq w1=>q=[(2,.bool S.look.2)]/\df Λ bs S.look.1 w1/\Kz w w1) ?_ ?_ (λ_ _ _ _ h _=>h.elim) ?_;rotate_left
 ·rintro q w1 ⟨rfl,e,h1,k1⟩
  refine CS.e ?_;exact⟨by rw[e],h1,k1⟩
 ·rintro q s w1 ⟨rfl,h1,k1⟩ hs
  exact wo hs ⟨rfl,h1,k1⟩
 refine CS.piece (Q:=λq w'=>q=[(0,Ptt bs),(3,.int .i64 0)]/\w'=w) (CS.e ⟨_,by exact⟨rfl,rfl,trivial⟩,rfl,rfl⟩) ?_;rintro q w ⟨rfl,rfl⟩;refine CS.block ?_;refine CS.loop (λm s wk=>∃(i:Nat) (T:Sit),m=S.C.n*S.C.sz - i/\i<=S.C.n*S.C.sz/\s=[(0,Ptt bs),(3,.int .i64 i)]/\S.dX i=(T,true)/\df Λ bs T wk/\Kz w wk) ⟨_,_,⟨0,S,rfl,Nat.zero_le _,rfl,rfl,h,Kz.refl _⟩,rfl,rfl,trivial⟩ ?_;rintro m s wk ⟨i,T,rfl,hi,rfl,hT,hS,K⟩;obtain⟨pW,IP⟩:=hF.dX i;rw[hT]at pW IP;have pW:T.aJ A:=pW;have IP:T.C=S.C:=IP;have hcast:((T.C.n:Nat):Int)*((T.C.sz:Nat):Int)=((S.C.n*S.C.sz:Nat):Int):=by rw[IP];exact(Int.natCast_mul _ _).symm
 obtain⟨bc,a,gv,sv,B,ad,hS⟩:=hS;have hmem:=hS.si.mem;refine CS.cut (Qn:=λq w1=>i<S.C.n*S.C.sz/\q=[(0,Ptt bs),(3,.int .i64 i)]/\w1=wk) (Qx:=λj q w1=>j=0/\i=S.C.n*S.C.sz/\q=[]/\w1=wk) (Qr:=λ_ _=>False) (CS.e ?_) ?_ ?_ (λ_ _ _ h _=>h.elim)
 ·refine⟨by kernel_rfl,_,_,hmem,_,rfl,_,_,hmem,_,rfl,⟨by rw[hcast];omega,by rw[hcast];omega⟩,?_⟩
  refine aj (λc=>?_) (λc=>?_)
  ·exact⟨_,by exact⟨rfl,rfl,trivial⟩,by have:=Ptq c;rw[hcast]at this;omega,rfl,rfl⟩
  ·exact⟨_,by exact trivial,rfl,by have:=Ptx c;rw[hcast]at this;omega,rfl,rfl⟩
 rotate_left
 ·rintro j q s w1 ⟨rfl,e,rfl,rfl⟩ _
  refine⟨[],by exact trivial,rfl,?_,?_,K⟩
  ·rw[Qa,<-e,hT]
  ·rw[Qa,<-e,hT];exact⟨_,_,_,_,_,_,hS⟩
 rintro q wk ⟨c1,rfl,rfl⟩;have hstop:∀T',T.dz i=(T',false)->S.look=(T',false):=λT' e=>by
  have e1:S.dX (i+1)=(T',false):=by
   show(match S.dX i with|(T,true)=>T.dz i|(T,false)=>(T,false))=_;rw[hT];exact e
  rw[Qa,<-Nat.add_sub_cancel' (show i+1<=S.C.n*S.C.sz from c1)];exact Sit.FQ _ e1
 have hgo:∀T',T.dz i=(T',true)->S.dX (i+1)=(T',true):=λT' e=>by
  show(match S.dX i with|(T,true)=>T.dz i|(T,false)=>(T,false))=_;rw[hT];exact e
 refine CS.cut (Qn:=λq w1=>q=[(0,Ptt bs),(3,.int .i64 i)]/\∃T',S.dX (i+1)=(T',true)/\df Λ bs T' w1/\Kz w w1) (Qx:=λ_ _ _=>False) (Qr:=λq w1=>q=[(2,.bool false)]/\S.look.2=false/\df Λ bs S.look.1 w1/\Kz w w1) ?_ ?_ (λ_ _ _ _ h _=>h.elim) ?_;rotate_left
 ·rintro q w1 ⟨rfl,T',e,h1,k1⟩
  refine CS.e ?_;exact⟨by omega,_,_,⟨i+1,T',rfl,by omega,rfl,e,h1,k1⟩,⟨rfl,rfl,trivial⟩,by omega⟩
 ·rintro q s w1 ⟨rfl,e,h1,k1⟩ hs
  exact⟨_,hs,by rw[e],h1,k1⟩
 refine CS.block ?_;obtain⟨q1,q2⟩:=oH (C:=T.C) (k:=(i:Int)) pW.n pW.sz;refine CS.piece (Q:=λq w3=>∃b4,q=[(0,Ptt bs),(3,.int .i64 i),(4,Ptt b4)]/\w3.heap[b4]? = some (.cells #[.int .u8 (aY T.C i),.int .u8 (bN T.C i)] 66)/\GB none wk w3/\wk.heap.size<=b4) (CS.e ?_) ?_
 ·refine⟨_,qL hmem ⟨pW.n,pW.cl.n⟩ ⟨pW.sz,pW.cl.sz⟩ i (by omega) (by omega),?_⟩
  rintro _ w1 ⟨rfl,g1⟩;refine λw2 b4 m2 g2 l2=>⟨_,_,_,m2,rfl,rfl,λw3 m3 g3=>?_⟩
  exact⟨_,by exact⟨rfl,rfl,rfl,trivial⟩,b4,rfl,m3,g1.trans (g2.new g3 l2),Nat.le_trans g1.size l2⟩
 rintro q w3 ⟨b4,rfl,m3,G3,lb4⟩;have h3:=hS.au G3;obtain⟨l,hl⟩:∃l,l=(T.C.F (aY T.C i) (bN T.C i)).log:=⟨_,rfl⟩;have hok:=pW.cl.ok _ _ q1 q2;have VH:l.length<=60:=by rw[hl];exact hok.lg
 have hlc:∀c∈l,A.gc c:=by rw[hl];exact hok.lc
 refine CS.piece (Q:=λq w4=>∃la ky,q=[(0,Ptt bs),(3,.int .i64 i),(4,Ptt b4),(5,.slice la l.length ky)]/\jV w4 (.slice la l.length ky) l/\GB none w3 w4/\∀x,(Value.slice la l.length ky).ownBlock=some x->w3.heap.size<=x) (CS.e ?_) ?_
 ·refine⟨by kernel_rfl,_,_,h3.si.mem,_,rfl,_,_,m3,[.int .u8 (aY T.C i),.int .u8 (bN T.C i)],rfl,rfl,_,acx HN h3.enter pW.cl (aY T.C i) (bN T.C i) q1 q2,?_⟩
  rintro lv w4 ⟨L4,g4,n4⟩;rw[<-hl]at L4;obtain⟨la,ky,rfl⟩:∃a c,lv=.slice a l.length c:=by obtain⟨vs,v1,v2,v3⟩:=L4;exact af v2
  exact⟨_,by exact⟨rfl,rfl,rfl,rfl,trivial⟩,la,ky,rfl,L4,g4,n4⟩
 rintro q w4 ⟨la,ky,rfl,L4,g4,n4⟩;have G4:=G3.trans g4;have h4:=hS.au G4;have m4:=g4.get m3 nofun;have n4':∀x,(Value.slice la l.length ky).ownBlock=some x->wk.heap.size<=x:=λx hx=>by have:=n4 x hx;have:=G3.size;omega
 obtain⟨be,hbe⟩:∃b,T.bG[aY T.C i]? = some b:=⟨T.bG[aY T.C i]'(by rw[pW.be];exact q1),by simp[pW.be,q1]⟩;obtain⟨bv,hbv⟩:∃b,a.bv[aY T.C i]? = some b:=⟨a.bv[aY T.C i]'(by rw[hS.si.bl,pW.be];exact q1),by simp[hS.si.bl,pW.be,q1]⟩;have Lj:T.bG.getD (aY T.C i) []=be:=by rw[getD_eq_getElem?_getD,hbe];rfl
 have Lb0:=hS.si.bi _ _ _ hbe hbv;obtain⟨ba,kv,rfl⟩:∃a c,bv=.slice a be.length c:=by obtain⟨vs,v1,v2,v3⟩:=Lb0;exact af v2
 refine CS.piece (Q:=λq w5=>q=[(0,Ptt bs),(3,.int .i64 i),(4,Ptt b4),(5,.slice la l.length ky),(6,.slice ba be.length kv)]/\w5=w4) (CS.e ?_) ?_
 ·obtain⟨gb,He,Qb,FU,zS,Jm,abx,aby⟩:=qw h4.si.be hbv
  refine⟨by kernel_rfl,_,_,h4.si.mem,.slice (Pty gb) T.bG.length He,by show(fV _ _ _)[4]? = _;unfold fV;rw[FU];rfl,_,_,m4,_,rfl,by omega,_,_,zS,.slice ba be.length kv,by show Qb.toList[0+((aY T.C i:Nat):Int).toNat*1]? = _;rw[Nat.zero_add,Nat.mul_one,Int.toNat_natCast];exact Jm,?_⟩;exact⟨_,by exact⟨rfl,rfl,rfl,rfl,rfl,trivial⟩,rfl,rfl⟩
 rintro q w4 ⟨rfl,rfl⟩;refine CS.cut (Qn:=λq w6=>q=[(0,Ptt bs),(3,.int .i64 i),(4,Ptt b4),(5,.slice la l.length ky),(6,.slice ba be.length kv)]/\GB none w4 w6/\oo uG l be=true) (Qx:=λ_ _ _=>False) (Qr:=λq w6=>q=[(2,.bool false)]/\GB none w4 w6/\oo uG l be=false) ?_ ?_ (λ_ _ _ _ h _=>h.elim) ?_
 ·refine CS.piece (Q:=λq w6=>q=[(0,Ptt bs),(3,.int .i64 i),(4,Ptt b4),(5,.slice la l.length ky),(6,.slice ba be.length kv),(7,.int .i64 0)]/\w6=w4) (CS.e ⟨_,by exact⟨rfl,rfl,rfl,rfl,rfl,rfl,trivial⟩,rfl,rfl⟩) ?_
  rintro q w4 ⟨rfl,rfl⟩;refine CS.block ?_;refine CS.loop (λm s w5=>∃k:Nat,m=l.length - k/\k<=l.length/\s=[(0,Ptt bs),(3,.int .i64 i),(4,Ptt b4),(5,.slice la l.length ky),(6,.slice ba be.length kv),(7,.int .i64 k)]/\GB none w4 w5/\∀(j:Nat) (x y:MC),j<k->l[j]? = some x->be[j]? = some y->uG x y=true) ⟨_,_,⟨0,rfl,Nat.zero_le _,rfl,GB.refl _ _,λj x y h=>by omega⟩,rfl,rfl,rfl,rfl,rfl,rfl,trivial⟩ ?_;rintro m s w5 ⟨k,rfl,hk,rfl,g5,hall⟩;refine CS.cut (Qn:=λq w6=>k<l.length/\k<be.length/\q=[(0,Ptt bs),(3,.int .i64 i),(4,Ptt b4),(5,.slice la l.length ky),(6,.slice ba be.length kv),(7,.int .i64 k)]/\w6=w5) (Qx:=λj q w6=>j=2/\(¬k<l.length\/¬k<be.length)/\q=[(0,Ptt bs),(3,.int .i64 i),(4,Ptt b4),(5,.slice la l.length ky),(6,.slice ba be.length kv)]/\w6=w5) (Qr:=λ_ _=>False) (CS.e ?_) ?_ ?_ (λ_ _ _ h _=>h.elim)
  ·refine aj (λc2=>?_) (λc2=>?_)
   ·have d2:k<l.length:=by simp at c2;omega
    refine aj (λc3=>?_) (λc3=>?_)
    ·have d3:k<be.length:=by have:=Ptq c3;omega
     exact⟨_,by exact⟨rfl,rfl,rfl,rfl,rfl,rfl,trivial⟩,d2,d3,rfl,rfl⟩
    ·have d3:¬k<be.length:=by have:=Ptx c3;omega
     exact⟨_,by exact⟨rfl,rfl,rfl,rfl,rfl,trivial⟩,rfl,.inr d3,rfl,rfl⟩
   ·have d2:¬k<l.length:=by simp at c2;omega
    exact⟨_,by exact⟨rfl,rfl,rfl,rfl,rfl,trivial⟩,rfl,.inl d2,rfl,rfl⟩
  rotate_left
  ·rintro j q s w6 ⟨rfl,hor,rfl,rfl⟩ hs
   exact⟨_,hs,rfl,g5,wF λj x y hj h1 h2=>hall j x y (by have:=(List.getElem?_eq_some_iff.1 h1).1;have:=(List.getElem?_eq_some_iff.1 h2).1;omega) h1 h2⟩
  rintro q w6 ⟨d2,d3,rfl,rfl⟩;have L5:jV w6 (.slice la l.length ky) l:=L4.kz g5.kz λx hx=>by obtain⟨c,hc⟩:=L4.obj hx;exact g5.block x (ae hc) nofun
  have Lb5:=(h4.au g5).si.bi _ _ _ hbe hbv;obtain⟨x,hx⟩:∃x,l[k]? = some x:=⟨l[k],by simp[d2]⟩;obtain⟨y,hy⟩:∃y,be[k]? = some y:=⟨be[k],by simp[d3]⟩;obtain⟨gx,VI,Xh,Xi,ex,_,hcx,hex,hrx⟩:=L5.el hx;obtain⟨gy,afk,rvy,dvy,ey,_,hcy,hey,hry⟩:=Lb5.el hy;obtain⟨rb1,rb2⟩:=HN.rl x (hlc x (List.mem_of_getElem? hx));subst ex;subst ey;refine CS.cut (Qn:=λq w7=>uG x y=true/\q=[(0,Ptt bs),(3,.int .i64 i),(4,Ptt b4),(5,.slice (Pty gx) l.length ky),(6,.slice (Pty gy) be.length kv),(7,.int .i64 k)]/\GB none w6 w7) (Qx:=λ_ _ _=>False) (Qr:=λq w7=>uG x y=false/\q=[(2,.bool false)]/\GB none w6 w7) (CS.e ?_) ?_ (λ_ _ _ _ h _=>h.elim) ?_
  ·have hsc:=YQ w6 ⟨Xh,Xi,rfl,hrx⟩ ⟨rvy,dvy,rfl,hry⟩ ⟨by omega,by omega⟩
   obtain⟨r,hr⟩:∃r,r=uG x y:=⟨_,rfl⟩;rw[<-hr]at hsc |-;refine⟨by kernel_rfl,by omega,_,_,hcx,dC x Xh Xi,by show aK VI.toList (0+(k:Int).toNat*17) 17=_;rw[Nat.zero_add,Int.toNat_natCast];exact hex,rfl,by omega,_,_,hcy,dC y rvy dvy,by show aK afk.toList (0+(k:Int).toNat*17) 17=_;rw[Nat.zero_add,Int.toNat_natCast];exact hey,rfl,_,hsc,?_⟩;rintro _ w7 ⟨rfl,g7⟩;cases r
   ·exact⟨_,by exact⟨rfl,trivial⟩,rfl,rfl,g7⟩
   ·exact⟨_,by exact⟨rfl,rfl,rfl,rfl,rfl,rfl,trivial⟩,rfl,rfl,g7⟩
  ·rintro q w7 ⟨e,rfl,g7⟩
   refine CS.e ?_;refine⟨by omega,_,_,⟨k+1,rfl,by omega,rfl,g5.trans g7,λj x' y' hj h1 h2=>?_⟩,⟨rfl,rfl,rfl,rfl,rfl,rfl,trivial⟩,by omega⟩;by_cases ej:j=k
   ·subst ej;rw[hx]at h1;rw[hy]at h2;cases h1;cases h2;exact e
   ·exact hall j x' y' (by omega) h1 h2
  ·rintro q s w7 ⟨e,rfl,g7⟩ hs
   exact⟨_,hs,rfl,g5.trans g7,GZ hx hy e⟩
 rotate_left
 ·rintro q s w6 ⟨rfl,g6,e⟩ hs
  have el:T.dz i=(T,false):=by unfold Sit.dz;rw[Lj,<-hl,if_pos e]
  exact⟨_,hs,rfl,by rw[hstop _ el],by rw[hstop _ el];exact⟨_,_,_,_,_,_,h4.au g6⟩,K.trans (G4.trans g6).kz⟩
 rintro q w6 ⟨rfl,g6,hzy⟩;have G6:=G4.trans g6;have h6:=hS.au G6;have m6:=g6.get m4 nofun;have L6:jV w6 (.slice la l.length ky) l:=L4.kz g6.kz λx hx=>by obtain⟨c,hc⟩:=L4.obj hx;exact g6.block x (ae hc) nofun
 obtain⟨e1,e2,e3,e4,e5⟩:=T.CB i;refine CS.piece (Q:=λq w7=>q=[(0,Ptt bs),(3,.int .i64 i),(5,.slice la l.length ky)]/\∃a5,iC Λ bs bc (T.dx i) a5 gv sv B ad w7/\Kz w w7) (CS.e ?_) ?_
 ·refine aj (λc=>?_) (λc=>?_)
  ·have d1:l.length > be.length:=by have:=Ptq c;omega
   have eb:T.dx i={ T with bG:=T.bG.set (aY T.C i) l }:=by unfold Sit.dx;rw[Lj,<-hl,if_pos d1]
   obtain⟨gb,He,Qb,FU,zS,Jm,abx,aby⟩:=qw h6.si.be hbv;refine⟨by kernel_rfl,_,_,h6.si.mem,.slice (Pty gb) T.bG.length He,by show(fV _ _ _)[4]? = _;unfold fV;rw[FU];rfl,_,_,m6,_,rfl,by omega,_,_,_,zS,gH rfl rfl (by show 0+((aY T.C i:Nat):Int).toNat*1<_;omega),rfl,λw7 m7 g7=>?_⟩;have abz:=h6.si.be;rw[FU]at abz;have o7:=own_set' (off:=aY T.C i) (v:=.slice la l.length ky) abz zS m7 (by show 0+((aY T.C i:Nat):Int).toNat*1=_;omega) rfl rfl (by omega);have afl:w7.heap[bs]? = _:=g7.get h6.si.mem λe=>dw h6.si.mem zS (by decide) (Option.some.inj e)
   obtain⟨h7,k7⟩:=hS.be' (v:=.slice (Pty gb) T.bG.length He) (bG:=T.bG.set (aY T.C i) l) (bv:=a.bv.set (aY T.C i) (.slice la l.length ky)) (w1:=w7) (w2:=w7) G6 (by rw[FU];exact g7) (by rw[length_set];exact o7) (λx hx=>by rw[FU];exact .inl hx) (by rw[length_set,length_set];exact hS.si.bl) (by rw[afl];unfold fV;rw[FU]) (GB.refl _ _) (λg l' u p1 p2=>by
    by_cases e:aY T.C i=g
    ·subst e
     rw[getElem?_set_self (by rw[pW.be];exact q1)]at p1;rw[getElem?_set_self (by rw[hS.si.bl,pW.be];exact q1)]at p2;cases p1;cases p2
     exact .inr ⟨L6,n4'⟩
    ·rw[getElem?_set_ne e]at p1 p2
     exact .inl ⟨p1,p2⟩)
   rw[<-eb]at h7;exact⟨_,by exact⟨rfl,rfl,rfl,trivial⟩,rfl,_,h7,K.trans k7⟩
  ·have d1:¬l.length > be.length:=by have:=Ptx c;omega
   have eb:T.dx i=T:=by unfold Sit.dx;rw[Lj,<-hl,if_neg d1]
   rw[eb];exact⟨_,by exact⟨rfl,rfl,rfl,trivial⟩,rfl,_,h6,K.trans G6.kz⟩
 rintro q w7 ⟨rfl,a5,h5,K5⟩;obtain⟨ln,hln⟩:∃x,T.len[i]? = some x:=⟨T.len[i]'(by rw[pW.le,IP];exact c1),by simp[pW.le,IP,c1]⟩;obtain⟨fl,hfl⟩:∃x,T.fell[i]? = some x:=⟨T.fell[i]'(by rw[pW.fe,IP];exact c1),by simp[pW.fe,IP,c1]⟩;have abA:T.len.getD i 0=ln:=by rw[getD_eq_getElem?_getD,hln];rfl
 have abB:T.fell.getD i true=fl:=by rw[getD_eq_getElem?_getD,hfl];rfl
 obtain⟨gl,VJ,afm,Ob,Jn,acO,ahO,ahP⟩:=qw h5.si.le (k:=i) (x:=.int .i64 (ln:Nat)) (by rw[getElem?_map,e2,hln];rfl);obtain⟨gf,Qc,abC,Ll,FV,Xj,abD,afn⟩:=qw h5.si.fe (k:=i) (x:=.bool fl) (by rw[getElem?_map,e3,hfl];rfl);have tY:=h5.si.mem;have afo:decide ((l.length:Int) > 60)=false:=decide_eq_false (by omega);refine CS.cut (Qn:=λq w8=>¬(l.length<ln/\fl=false)/\q=[(0,Ptt bs),(3,.int .i64 i),(5,.slice la l.length ky)]/\w8=w7) (Qx:=λ_ _ _=>False) (Qr:=λq w8=>(l.length<ln/\fl=false)/\q=[(2,.bool false)]/\w8=w7) (CS.e ?_) ?_ (λ_ _ _ _ h _=>h.elim) ?_
 ·refine aj (λd=>?_) (λd=>(by rw[afo]at d;cases d))
  refine⟨_,_,tY,.slice (Pty gl) (T.dx i).len.length VJ,by show(fV _ _ _)[5]? = _;unfold fV;rw[Ob];rfl,by omega,_,_,Jn,.int .i64 (ln:Nat),by show afm.toList[0+(i:Int).toNat*1]? = _;rw[Nat.zero_add,Nat.mul_one,Int.toNat_natCast];exact acO,?_⟩;refine aj (λd2=>?_) (λd2=>?_)
  ·have z2:l.length<ln:=by simp at d2;omega
   refine⟨_,_,tY,.slice (Pty gf) (T.dx i).fell.length Qc,by show(fV _ _ _)[6]? = _;unfold fV;rw[Ll];rfl,by omega,_,_,FV,.bool fl,by show abC.toList[0+(i:Int).toNat*1]? = _;rw[Nat.zero_add,Nat.mul_one,Int.toNat_natCast];exact Xj,?_⟩;cases fl
   ·exact⟨_,by exact⟨rfl,trivial⟩,⟨z2,rfl⟩,rfl,rfl⟩
   ·exact⟨_,by exact⟨rfl,rfl,rfl,trivial⟩,λh=>(by cases h.2),rfl,rfl⟩
  ·have z2:¬l.length<ln:=by simp at d2;omega
   exact⟨_,by exact⟨rfl,rfl,rfl,trivial⟩,λh=>z2 h.1,rfl,rfl⟩
 rotate_left
 ·rintro q s w8 ⟨e,rfl,rfl⟩ hs
  have el:T.dz i=(T.dx i,false):=by unfold Sit.dz;rw[Lj,<-hl,if_neg (by rw[hzy];decide),if_pos ⟨by rw[abA];exact e.1,by rw[abB];exact e.2⟩]
  exact⟨_,hs,rfl,by rw[hstop _ el],by rw[hstop _ el];exact⟨_,_,_,_,_,_,h5⟩,K5⟩
 rintro q w8 ⟨hno,rfl,rfl⟩;have el:T.dz i=({ T.dx i with len:=T.len.set i l.length,fell:=T.fell.set i false },true):=by unfold Sit.dz;rw[Lj,<-hl,if_neg (by rw[hzy];decide),if_neg (by rw[abA,abB];exact hno)]
 refine CS.e ?_;refine⟨_,_,tY,.slice (Pty gl) (T.dx i).len.length VJ,by show(fV _ _ _)[5]? = _;unfold fV;rw[Ob];rfl,by omega,_,_,_,Jn,gH rfl rfl (by show 0+(i:Int).toNat*1<_;omega),rfl,λw9 m9 g9=>?_⟩;have abE:=h5.si.le;rw[Ob]at abE;have o9:=own_set' (off:=i) (v:=.int .i64 (l.length:Nat)) abE Jn m9 (by show 0+(i:Int).toNat*1=_;omega) rfl rfl (by omega);have afp:w9.heap[bs]? = _:=g9.get tY λe=>dw tY Jn (by decide) (Option.some.inj e)
 obtain⟨h9,k9⟩:=h5.le' (v:=.slice (Pty gl) (T.dx i).len.length VJ) (l:=(T.dx i).len.set i l.length) (w1:=w9) (w2:=w9) (by rw[Ob];exact g9) (by rw[length_set,map_set];exact o9) (λx hx=>by rw[Ob];exact .inl hx) (by rw[afp];unfold fV;rw[Ob]) (GB.refl _ _);have xB:=h9.si.mem;obtain⟨gf',Xk,ahA,Lm,Lp,ag3,acP,ahB⟩:=qw h9.si.fe (k:=i) (x:=.bool fl) (by rw[getElem?_map];show((T.dx i).fell[i]?).map _=_;rw[e3,hfl];rfl);refine⟨_,_,xB,.slice (Pty gf') (T.dx i).fell.length Xk,by show(fV _ _ _)[6]? = _;unfold fV;rw[Lm];rfl,by omega,_,_,_,Lp,gH rfl rfl (by show 0+(i:Int).toNat*1<_;omega),rfl,λwa ma ga=>?_⟩;have abF:=h9.si.fe;rw[Lm]at abF;have oa:=own_set' (off:=i) (v:=.bool false) abF Lp ma (by show 0+(i:Int).toNat*1=_;omega) rfl rfl (by omega);have afq:wa.heap[bs]? = _:=ga.get xB λe=>dw xB Lp (by decide) (Option.some.inj e)
 obtain⟨ha,ka⟩:=h9.fe' (v:=.slice (Pty gf') (T.dx i).fell.length Xk) (l:=(T.dx i).fell.set i false) (w1:=wa) (w2:=wa) (by rw[Lm];exact ga) (by rw[length_set,map_set];exact oa) (λx hx=>by rw[Lm];exact .inl hx) (by rw[afq];unfold fV;rw[Lm]) (GB.refl _ _);rw[e2,e3]at ha;exact⟨_,by exact⟨rfl,rfl,trivial⟩,rfl,_,hgo _ el,⟨_,_,_,_,_,_,ha⟩,(K5.trans k9).trans ka⟩
end
structure Stp where
 (kind a b:Int)
 d:ByteArray
 q:bQ
def Stp.cells(t:Stp):List Value:=[.int .i64 t.kind,.int .i64 t.a,.int .i64 t.b,.string t.d]++t.q.cells
def xC(x:Int):Prop:=-9223372036854775808<=x/\x<9223372036854775808
structure Stp.wf(A:aO)(t:Stp):Prop where
 kind:xC t.kind
 a:xC t.a
 b:xC t.b
 s:0<=t.q.s
 k:0<=t.q.k
 r:A.gc (fQ (dh t.q))
def Sit.doA(_A:aO)(S:Sit)(t:Stp)(m:MM):Sit:={ S with C:=S.C.send (aY S.C t.a) (bN S.C t.a) t.d,asks:=S.asks++[⟨m.q,aY S.C t.a,S.C.q.length⟩] }
def Sit.uy(A:aO)(S:Sit)(t:Stp):Sit:=match A.dec t.d with
 |some m=>if m.kind=1/\¬t.d.size > 1000/\S.C.q.length<20000 then S.doA A t m else{ S with C:=S.C.send (aY S.C t.a) (bN S.C t.a) t.d }
 |none=>{ S with C:=S.C.send (aY S.C t.a) (bN S.C t.a) t.d }
def Sit.Od(A:aO)(S:Sit)(t:Stp):Sit:={ S.look.1 with C:=S.look.1.C.dA A (aY S.C t.a) (bN S.C t.a),fell:=S.look.1.fell.set (bz t.a (S.C.n*S.C.sz)) true }
def Sit.uz(A:aO)(S:Sit)(t:Stp):Nat->Sit×Bool
 |0=>(if S.C.q.length<20000 then S.sends A (dh t.q) (aY S.C t.a) (bN S.C t.a)else S,!S.bad)
 |1=>(S.uy A t,!S.bad)
 |2=>if 0<S.C.q.length then({ S with C:=S.C.eT A (bz t.b S.C.q.length) },true)else(S,!S.bad)
 |3=>if 0<S.C.q.length then({ S with C:=S.C.eT A ((S.C.q.length:Int) - 1 - (bz t.b S.C.q.length%12:Nat)) },true)else(S,!S.bad)
 |4=>({ S with C:=S.C.tick A (aY S.C t.a) (bN S.C t.a) },true)
 |5=>(S.Od A t,S.look.2)
 |_=>(S.all A (1+bz t.b 60),true)
def Sit.do(A:aO)(S:Sit)(t:Stp):Sit×Bool:=S.uz A t (bz t.kind 7)
section
variable{A:aO}(HA:bH A)(HN:dH A)(HL:qb A){Λ:bU}{w:World}{bs:Nat}{S:Sit}
include HA HN HL
theorem acQ(h:df Λ bs S w)(hF:S.aJ A){t:Stp}(ht:t.wf A)(hj:bz t.kind 7=0):gQ Tryz.prog 70 #[Ptt bs,.agg t.cells.toArray] w (λv w'=>v=.bool (S.do A t).2/\df Λ bs (S.do A t).1 w'/\Kz w w'):=by
 have hdo:S.do A t=S.uz A t 0:=by unfold Sit.do;rw[hj]
 rw[hdo];obtain⟨bc,a,gv,sv,B,ad,hS⟩:=h;have jh:=hF.cl.n;have hs5:=hF.cl.sz;have hlen:=hF.cl.len;refine tT fD mixed Tryz.func70 rfl rfl ?_;refine λw1 b3 m1 g1 l1=>?_
 have h1:=hS.au g1;refine⟨_,_,h1.si.mem,_,rfl,_,(rH h1.enter hlen 0 (by decide) (by decide)).x,?_⟩;rintro lv w2 ⟨o2,g2,_⟩;have e0:S.C.q.length - min (0:Int).toNat S.C.q.length=S.C.q.length:=by simp
 rw[e0]at o2;obtain⟨la,lc,rfl⟩:=af o2;clear o2;have h2:=h1.au g2;obtain⟨q1,q2⟩:=oH (C:=S.C) (k:=t.a) hF.n hF.sz;refine⟨_,_,g2.get m1 nofun,_,rfl,_,(qL h2.si.mem ⟨hF.n,jh⟩ ⟨hF.sz,hs5⟩ t.a ht.a.1 ht.a.2).x,?_⟩;rintro _ w3 ⟨rfl,g3⟩;refine λw4 b6 m4 g4 l4=>⟨_,_,_,m4,rfl,rfl,λw5 m5 g5=>?_⟩
 have ku:GB none w2 w5:=g3.trans (g4.new g5 l4);have G:GB none w w5:=(g1.trans g2).trans ku;have m15:w5.heap[b3]? = some (.cells t.cells.toArray 158):=(g2.trans ku).get m1 nofun;have qG:w5.heap[b6]? = some (.cells #[.int .u8 (aY S.C t.a),.int .u8 (bN S.C t.a)] 66):=m5;have h5:=hS.au G;have hmem:=h5.si.mem;have IQ:w.heap.size<=b3:=l1;have IU:w.heap.size<=b6:=Nat.le_trans ((g1.trans g2).trans g3).size l4;have pk:=jk w5 t.kind 7 (by decide) ht.kind.1 ht.kind.2;rw[hj]at pk;refine⟨_,_,m15,_,rfl,_,pk.x,?_⟩;rintro _ w5 ⟨rfl,rfl⟩;clear m4 m5 g4 g5 l4 ku g3 h2 g2 m1 h1 g1 l1 pk hdo;refine aj (λc=>?_) (λc=>?_)
 ·have c1:S.C.q.length<20000:=UT c
  have ek:S.uz A t 0=(S.sends A (dh t.q) (aY S.C t.a) (bN S.C t.a),!S.bad):=by show(if S.C.q.length<20000 then _ else _,_)=_;rw[if_pos c1]
  refine⟨by kernel_rfl,_,_,m15,t.q.cells,rfl,rfl,_,_,qG,[.int .u8 (aY S.C t.a),.int .u8 (bN S.C t.a)],rfl,rfl,_,(VC w5 t.q ht.s ht.k).x,?_⟩;rintro _ w6 ⟨rfl,g6⟩;have hak:=hF.ak;refine⟨⟨g6.get qG nofun,g6.get m15 nofun,trivial⟩,_,(N8 HL ⟨_,_,_,_,_,_,h5.au g6⟩ hF.cl ht.r q1 q2 (by omega)).x,?_⟩;rintro _ w7 ⟨rfl,h7,k7⟩;rw[ek];obtain⟨_,_,_,_,_,_,h7⟩:=h7;exact⟨_,_,h7.si.mem,_,rfl,rfl,⟨_,_,_,_,_,_,h7⟩,(G.kz.trans g6.kz).trans k7⟩
 ·have c1:¬S.C.q.length<20000:=aaB c
  have ek:S.uz A t 0=(S,!S.bad):=by show(if S.C.q.length<20000 then _ else _,_)=_;rw[if_neg c1]
  rw[ek];exact⟨_,_,hmem,_,rfl,rfl,⟨_,_,_,_,_,_,h5⟩,G.kz⟩
theorem acR(h:df Λ bs S w)(hF:S.aJ A){t:Stp}(ht:t.wf A)(hj:bz t.kind 7=2):gQ Tryz.prog 70 #[Ptt bs,.agg t.cells.toArray] w (λv w'=>v=.bool (S.do A t).2/\df Λ bs (S.do A t).1 w'/\Kz w w'):=by
 have hdo:S.do A t=S.uz A t 2:=by unfold Sit.do;rw[hj]
 rw[hdo];obtain⟨bc,a,gv,sv,B,ad,hS⟩:=h;have jh:=hF.cl.n;have hs5:=hF.cl.sz;have hlen:=hF.cl.len;refine tT fD mixed Tryz.func70 rfl rfl ?_;refine λw1 b3 m1 g1 l1=>?_
 have h1:=hS.au g1;refine⟨_,_,h1.si.mem,_,rfl,_,(rH h1.enter hlen 0 (by decide) (by decide)).x,?_⟩;rintro lv w2 ⟨o2,g2,_⟩;have e0:S.C.q.length - min (0:Int).toNat S.C.q.length=S.C.q.length:=by simp
 rw[e0]at o2;obtain⟨la,lc,rfl⟩:=af o2;clear o2;have h2:=h1.au g2;obtain⟨q1,q2⟩:=oH (C:=S.C) (k:=t.a) hF.n hF.sz;refine⟨_,_,g2.get m1 nofun,_,rfl,_,(qL h2.si.mem ⟨hF.n,jh⟩ ⟨hF.sz,hs5⟩ t.a ht.a.1 ht.a.2).x,?_⟩;rintro _ w3 ⟨rfl,g3⟩;refine λw4 b6 m4 g4 l4=>⟨_,_,_,m4,rfl,rfl,λw5 m5 g5=>?_⟩
 have ku:GB none w2 w5:=g3.trans (g4.new g5 l4);have G:GB none w w5:=(g1.trans g2).trans ku;have m15:w5.heap[b3]? = some (.cells t.cells.toArray 158):=(g2.trans ku).get m1 nofun;have qG:w5.heap[b6]? = some (.cells #[.int .u8 (aY S.C t.a),.int .u8 (bN S.C t.a)] 66):=m5;have h5:=hS.au G;have hmem:=h5.si.mem;have IQ:w.heap.size<=b3:=l1;have IU:w.heap.size<=b6:=Nat.le_trans ((g1.trans g2).trans g3).size l4;have pk:=jk w5 t.kind 7 (by decide) ht.kind.1 ht.kind.2;rw[hj]at pk;refine⟨_,_,m15,_,rfl,_,pk.x,?_⟩;rintro _ w5 ⟨rfl,rfl⟩;clear m4 m5 g4 g5 l4 ku g3 h2 g2 m1 h1 g1 l1 pk hdo;refine aj (λc=>?_) (λc=>?_)
 ·have c1:0<S.C.q.length:=by have:=Ptq c;omega
  have ek:S.uz A t 2=({ S with C:=S.C.eT A (bz t.b S.C.q.length) },true):=if_pos c1;have pb:=jk w5 t.b S.C.q.length c1 ht.b.1 ht.b.2;have lb:=jy t.b c1;refine⟨by kernel_rfl,_,_,hmem,_,rfl,_,_,m15,_,rfl,_,pb.x,?_⟩;rintro _ w5 ⟨rfl,rfl⟩;refine⟨⟨m15,hmem,trivial⟩,_,BI HA HN h5.enter hF.cl (bz t.b S.C.q.length:Nat),?_⟩;rintro _ w8 ⟨rfl,hC,k⟩;rw[if_pos ⟨by omega,by omega⟩];obtain⟨en,ez⟩:=aL.jl A S.C (bz t.b S.C.q.length:Nat);exact⟨by rw[ek];rfl,by rw[ek];exact h5.leave en ez hC k,G.kz.trans k⟩
 ·have c1:¬0<S.C.q.length:=by have:=Ptx c;omega
  have ek:S.uz A t 2=(S,!S.bad):=if_neg c1;exact⟨_,_,hmem,_,rfl,by rw[ek],by rw[ek];exact⟨_,_,_,_,_,_,h5⟩,G.kz⟩
theorem acS(h:df Λ bs S w)(hF:S.aJ A){t:Stp}(ht:t.wf A)(hj:bz t.kind 7=3):gQ Tryz.prog 70 #[Ptt bs,.agg t.cells.toArray] w (λv w'=>v=.bool (S.do A t).2/\df Λ bs (S.do A t).1 w'/\Kz w w'):=by
 have hdo:S.do A t=S.uz A t 3:=by unfold Sit.do;rw[hj]
 rw[hdo];obtain⟨bc,a,gv,sv,B,ad,hS⟩:=h;have jh:=hF.cl.n;have hs5:=hF.cl.sz;have hlen:=hF.cl.len;refine tT fD mixed Tryz.func70 rfl rfl ?_;refine λw1 b3 m1 g1 l1=>?_
 have h1:=hS.au g1;refine⟨_,_,h1.si.mem,_,rfl,_,(rH h1.enter hlen 0 (by decide) (by decide)).x,?_⟩;rintro lv w2 ⟨o2,g2,_⟩;have e0:S.C.q.length - min (0:Int).toNat S.C.q.length=S.C.q.length:=by simp
 rw[e0]at o2;obtain⟨la,lc,rfl⟩:=af o2;clear o2;have h2:=h1.au g2;obtain⟨q1,q2⟩:=oH (C:=S.C) (k:=t.a) hF.n hF.sz;refine⟨_,_,g2.get m1 nofun,_,rfl,_,(qL h2.si.mem ⟨hF.n,jh⟩ ⟨hF.sz,hs5⟩ t.a ht.a.1 ht.a.2).x,?_⟩;rintro _ w3 ⟨rfl,g3⟩;refine λw4 b6 m4 g4 l4=>⟨_,_,_,m4,rfl,rfl,λw5 m5 g5=>?_⟩
 have ku:GB none w2 w5:=g3.trans (g4.new g5 l4);have G:GB none w w5:=(g1.trans g2).trans ku;have m15:w5.heap[b3]? = some (.cells t.cells.toArray 158):=(g2.trans ku).get m1 nofun;have qG:w5.heap[b6]? = some (.cells #[.int .u8 (aY S.C t.a),.int .u8 (bN S.C t.a)] 66):=m5;have h5:=hS.au G;have hmem:=h5.si.mem;have IQ:w.heap.size<=b3:=l1;have IU:w.heap.size<=b6:=Nat.le_trans ((g1.trans g2).trans g3).size l4;have pk:=jk w5 t.kind 7 (by decide) ht.kind.1 ht.kind.2;rw[hj]at pk;refine⟨_,_,m15,_,rfl,_,pk.x,?_⟩;rintro _ w5 ⟨rfl,rfl⟩;clear m4 m5 g4 g5 l4 ku g3 h2 g2 m1 h1 g1 l1 pk hdo;refine aj (λc=>?_) (λc=>?_)
 ·have c1:0<S.C.q.length:=by have:=Ptq c;omega
  have ek:S.uz A t 3=({ S with C:=S.C.eT A ((S.C.q.length:Int) - 1 - (bz t.b S.C.q.length%12:Nat)) },true):=if_pos c1;have pb:=jk w5 t.b S.C.q.length c1 ht.b.1 ht.b.2;have lb:=jy t.b c1;have lm:bz t.b S.C.q.length%12<=bz t.b S.C.q.length:=Nat.mod_le _ _;have et:((bz t.b S.C.q.length:Nat):Int).tmod 12=((bz t.b S.C.q.length%12:Nat):Int):=zP _ 12;refine⟨by kernel_rfl,_,_,hmem,_,rfl,by omega,_,_,m15,_,rfl,_,pb.x,?_⟩;rintro _ w5 ⟨rfl,rfl⟩;have hdl:=BI HA HN h5.enter hF.cl ((S.C.q.length:Int) - 1 - (bz t.b S.C.q.length%12:Nat));rw[<-et]at hdl;refine⟨⟨m15,hmem,trivial⟩,by decide,⟨by rw[et];omega,by rw[et];omega⟩,_,hdl,?_⟩;rintro _ w8 ⟨rfl,hC,k⟩;rw[et]at hC |-;rw[if_pos ⟨by omega,by omega⟩];obtain⟨en,ez⟩:=aL.jl A S.C ((S.C.q.length:Int) - 1 - (bz t.b S.C.q.length%12:Nat));exact⟨by rw[ek];rfl,by rw[ek];exact h5.leave en ez hC k,G.kz.trans k⟩
 ·have c1:¬0<S.C.q.length:=by have:=Ptx c;omega
  have ek:S.uz A t 3=(S,!S.bad):=if_neg c1;exact⟨_,_,hmem,_,rfl,by rw[ek],by rw[ek];exact⟨_,_,_,_,_,_,h5⟩,G.kz⟩
theorem acT(h:df Λ bs S w)(hF:S.aJ A){t:Stp}(ht:t.wf A)(hj:bz t.kind 7=4):gQ Tryz.prog 70 #[Ptt bs,.agg t.cells.toArray] w (λv w'=>v=.bool (S.do A t).2/\df Λ bs (S.do A t).1 w'/\Kz w w'):=by
 have hdo:S.do A t=S.uz A t 4:=by unfold Sit.do;rw[hj]
 rw[hdo];obtain⟨bc,a,gv,sv,B,ad,hS⟩:=h;have jh:=hF.cl.n;have hs5:=hF.cl.sz;have hlen:=hF.cl.len;refine tT fD mixed Tryz.func70 rfl rfl ?_;refine λw1 b3 m1 g1 l1=>?_
 have h1:=hS.au g1;refine⟨_,_,h1.si.mem,_,rfl,_,(rH h1.enter hlen 0 (by decide) (by decide)).x,?_⟩;rintro lv w2 ⟨o2,g2,_⟩;have e0:S.C.q.length - min (0:Int).toNat S.C.q.length=S.C.q.length:=by simp
 rw[e0]at o2;obtain⟨la,lc,rfl⟩:=af o2;clear o2;have h2:=h1.au g2;obtain⟨q1,q2⟩:=oH (C:=S.C) (k:=t.a) hF.n hF.sz;refine⟨_,_,g2.get m1 nofun,_,rfl,_,(qL h2.si.mem ⟨hF.n,jh⟩ ⟨hF.sz,hs5⟩ t.a ht.a.1 ht.a.2).x,?_⟩;rintro _ w3 ⟨rfl,g3⟩;refine λw4 b6 m4 g4 l4=>⟨_,_,_,m4,rfl,rfl,λw5 m5 g5=>?_⟩
 have ku:GB none w2 w5:=g3.trans (g4.new g5 l4);have G:GB none w w5:=(g1.trans g2).trans ku;have m15:w5.heap[b3]? = some (.cells t.cells.toArray 158):=(g2.trans ku).get m1 nofun;have qG:w5.heap[b6]? = some (.cells #[.int .u8 (aY S.C t.a),.int .u8 (bN S.C t.a)] 66):=m5;have h5:=hS.au G;have hmem:=h5.si.mem;have IQ:w.heap.size<=b3:=l1;have IU:w.heap.size<=b6:=Nat.le_trans ((g1.trans g2).trans g3).size l4;have pk:=jk w5 t.kind 7 (by decide) ht.kind.1 ht.kind.2;rw[hj]at pk;refine⟨_,_,m15,_,rfl,_,pk.x,?_⟩;rintro _ w5 ⟨rfl,rfl⟩;clear m4 m5 g4 g5 l4 ku g3 h2 g2 m1 h1 g1 l1 pk hdo;refine⟨by kernel_rfl,_,_,hmem,_,rfl,_,_,qG,[.int .u8 (aY S.C t.a),.int .u8 (bN S.C t.a)],rfl,rfl,_,RD HA h5.enter hF.cl _ _ (by omega) (by omega),?_⟩;rintro _ w7 ⟨rfl,hC,k⟩;rw[if_pos ⟨q1,q2⟩];obtain⟨en,ez⟩:=aL.oh A S.C (aY S.C t.a) (bN S.C t.a);exact⟨rfl,h5.leave en ez hC k,G.kz.trans k⟩
theorem acU(h:df Λ bs S w)(hF:S.aJ A){t:Stp}(ht:t.wf A)(hj:bz t.kind 7=6):gQ Tryz.prog 70 #[Ptt bs,.agg t.cells.toArray] w (λv w'=>v=.bool (S.do A t).2/\df Λ bs (S.do A t).1 w'/\Kz w w'):=by
 have hdo:S.do A t=S.uz A t 6:=by unfold Sit.do;rw[hj]
 rw[hdo];obtain⟨bc,a,gv,sv,B,ad,hS⟩:=h;have jh:=hF.cl.n;have hs5:=hF.cl.sz;have hlen:=hF.cl.len;refine tT fD mixed Tryz.func70 rfl rfl ?_;refine λw1 b3 m1 g1 l1=>?_
 have h1:=hS.au g1;refine⟨_,_,h1.si.mem,_,rfl,_,(rH h1.enter hlen 0 (by decide) (by decide)).x,?_⟩;rintro lv w2 ⟨o2,g2,_⟩;have e0:S.C.q.length - min (0:Int).toNat S.C.q.length=S.C.q.length:=by simp
 rw[e0]at o2;obtain⟨la,lc,rfl⟩:=af o2;clear o2;have h2:=h1.au g2;obtain⟨q1,q2⟩:=oH (C:=S.C) (k:=t.a) hF.n hF.sz;refine⟨_,_,g2.get m1 nofun,_,rfl,_,(qL h2.si.mem ⟨hF.n,jh⟩ ⟨hF.sz,hs5⟩ t.a ht.a.1 ht.a.2).x,?_⟩;rintro _ w3 ⟨rfl,g3⟩;refine λw4 b6 m4 g4 l4=>⟨_,_,_,m4,rfl,rfl,λw5 m5 g5=>?_⟩
 have ku:GB none w2 w5:=g3.trans (g4.new g5 l4);have G:GB none w w5:=(g1.trans g2).trans ku;have m15:w5.heap[b3]? = some (.cells t.cells.toArray 158):=(g2.trans ku).get m1 nofun;have qG:w5.heap[b6]? = some (.cells #[.int .u8 (aY S.C t.a),.int .u8 (bN S.C t.a)] 66):=m5;have h5:=hS.au G;have hmem:=h5.si.mem;have IQ:w.heap.size<=b3:=l1;have IU:w.heap.size<=b6:=Nat.le_trans ((g1.trans g2).trans g3).size l4;have pk:=jk w5 t.kind 7 (by decide) ht.kind.1 ht.kind.2;rw[hj]at pk;refine⟨_,_,m15,_,rfl,_,pk.x,?_⟩;rintro _ w5 ⟨rfl,rfl⟩;clear m4 m5 g4 g5 l4 ku g3 h2 g2 m1 h1 g1 l1 pk hdo;have pb:=jk w5 t.b 60 (by decide) ht.b.1 ht.b.2;have lb:=jy t.b (show 0<60 by decide);refine⟨_,_,m15,_,rfl,_,pb.x,?_⟩;rintro _ w5 ⟨rfl,rfl⟩;have hall:=Xf HA HN ⟨_,_,_,_,_,_,h5⟩ hF.cl (1+bz t.b 60) (by omega);rw[Int.natCast_add]at hall;refine⟨by omega,_,hall,?_⟩;rintro _ w8 ⟨rfl,h8,k8⟩;exact⟨rfl,h8,G.kz.trans k8⟩
end
end
