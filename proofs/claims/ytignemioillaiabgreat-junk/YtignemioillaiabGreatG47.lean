/- look, in memory. -/
import Derived.Test.YtignemioillaiabGreatG46
namespace Go.Proofs.YtignemioillaiabGreat
set_option maxHeartbeats 8000000
set_option linter.unusedSectionVars false
set_option maxRecDepth 100000
section
open Go Go.Conc
section
variable {A:aT} (HN:gJ A) {Λ:bU} {w:World} {bs:Nat} {S:Sit}
include HN
theorem J6 (h:bY Λ bs S w) (hF:S.aK A):af Tryz.prog 15 #[Ptt bs] w (λ v w'=>v=.bool S.look.2/\bY Λ bs S.look.1 w'/\Kz w w'):=by
 have OH:S.look=S.eU (S.C.n*S.C.sz):=rfl;have jB:=hF.cl.n;have hs5:=hF.cl.sz;have hle:S.C.n*S.C.sz<=20:=Nat.mul_le_mul jB hs5;refine Ak ah Tryz.func15 rfl rfl ?_;refine CS.piece (Q:=λ q w'=>q=[(0,Ptt bs)]/\w'=w) (CS.of ah mixed ⟨_,by exact ⟨rfl,trivial⟩,rfl,rfl⟩) ?_;rintro q w ⟨rfl,rfl⟩;refine CS.cut (Qn:=λ q w1=>q=[]/\S.look.2=true/\bY Λ bs S.look.1 w1/\Kz w w1) (Qx:=λ _ _ _=>False) (Qr:=λ q w1=>q=[(2,.bool S.look.2)]/\bY Λ bs S.look.1 w1/\Kz w w1) ?_ ?_ (λ _ _ _ _ h _=>h.elim) ?_;rotate_left
 ·rintro q w1 ⟨rfl,e,h1,k1⟩
  refine CS.of ah mixed ?_;exact ⟨by rw [e],h1,k1⟩
 ·rintro q s w1 ⟨rfl,h1,k1⟩ hs
  exact qY hs ⟨rfl,h1,k1⟩
 refine CS.piece (Q:=λ q w'=>q=[(0,Ptt bs),(3,.int .i64 0)]/\w'=w) (CS.of ah mixed ⟨_,by exact ⟨rfl,rfl,trivial⟩,rfl,rfl⟩) ?_;rintro q w ⟨rfl,rfl⟩;refine CS.block ?_;refine CS.loop (λ m s wk=>∃ (i:Nat) (T:Sit),m=S.C.n*S.C.sz - i/\i<=S.C.n*S.C.sz/\s=[(0,Ptt bs),(3,.int .i64 i)]/\S.eU i=(T,true)/\bY Λ bs T wk/\Kz w wk) ⟨_,_,⟨0,S,rfl,Nat.zero_le _,rfl,rfl,h,Kz.refl _⟩,rfl,rfl,trivial⟩ ?_;rintro m s wk ⟨i,T,rfl,hi,rfl,hT,hS,K⟩;obtain ⟨oF,GX⟩:=hF.eU i;rw [hT] at oF GX;have oF:T.aK A:=oF;have GX:T.C=S.C:=GX;have hcast:((T.C.n:Nat):Int)*((T.C.sz:Nat):Int)=((S.C.n*S.C.sz:Nat):Int):=by rw [GX];exact (Int.natCast_mul _ _).symm
 obtain ⟨bc,a,gv,sv,B,ad,hS⟩:=hS;have hmem:=hS.si.mem;refine CS.cut (Qn:=λ q w1=>i<S.C.n*S.C.sz/\q=[(0,Ptt bs),(3,.int .i64 i)]/\w1=wk) (Qx:=λ j q w1=>j=0/\i=S.C.n*S.C.sz/\q=[]/\w1=wk) (Qr:=λ _ _=>False) (CS.of ah mixed ?_) ?_ ?_ (λ _ _ _ h _=>h.elim)
 ·refine ⟨by kernel_rfl,_,_,hmem,_,rfl,_,_,hmem,_,rfl,⟨by rw [hcast];omega,by rw [hcast];omega⟩,?_⟩
  refine au (λ c=>?_) (λ c=>?_)
  ·exact ⟨_,by exact ⟨rfl,rfl,trivial⟩,by have:=of_decide_eq_true c;rw [hcast] at this;omega,rfl,rfl⟩
  ·exact ⟨_,by exact trivial,rfl,by have:=of_decide_eq_false c;rw [hcast] at this;omega,rfl,rfl⟩
 rotate_left
 ·rintro j q s w1 ⟨rfl,e,rfl,rfl⟩ _
  refine ⟨[],by exact trivial,rfl,?_,?_,K⟩
  ·rw [OH,<- e,hT]
  ·rw [OH,<- e,hT];exact ⟨_,_,_,_,_,_,hS⟩
 rintro q wk ⟨c1,rfl,rfl⟩;have hstop:∀ T',T.dW i=(T',false)->S.look=(T',false):=λ T' e=>by
  have e1:S.eU (i+1)=(T',false):=by
   show (match S.eU i with | (T,true)=>T.dW i | (T,false)=>(T,false))=_;rw [hT];exact e
  rw [OH,<- Nat.add_sub_cancel' (show i+1<=S.C.n*S.C.sz from c1)];exact Sit.EM _ e1
 have hgo:∀ T',T.dW i=(T',true)->S.eU (i+1)=(T',true):=λ T' e=>by
  show (match S.eU i with | (T,true)=>T.dW i | (T,false)=>(T,false))=_;rw [hT];exact e
 refine CS.cut (Qn:=λ q w1=>q=[(0,Ptt bs),(3,.int .i64 i)]/\∃ T',S.eU (i+1)=(T',true)/\bY Λ bs T' w1/\Kz w w1) (Qx:=λ _ _ _=>False) (Qr:=λ q w1=>q=[(2,.bool false)]/\S.look.2=false/\bY Λ bs S.look.1 w1/\Kz w w1) ?_ ?_ (λ _ _ _ _ h _=>h.elim) ?_;rotate_left
 ·rintro q w1 ⟨rfl,T',e,h1,k1⟩
  refine CS.of ah mixed ?_;exact ⟨⟨by omega,by omega⟩,_,_,⟨i+1,T',rfl,by omega,rfl,e,h1,k1⟩,⟨rfl,rfl,trivial⟩,by omega⟩
 ·rintro q s w1 ⟨rfl,e,h1,k1⟩ hs
  exact ⟨_,hs,by rw [e],h1,k1⟩
 refine CS.block ?_;obtain ⟨q1,q2⟩:=mG (C:=T.C) (k:=(i:Int)) oF.n oF.sz;refine CS.piece (Q:=λ q w3=>∃ b4,q=[(0,Ptt bs),(3,.int .i64 i),(4,Ptt b4)]/\w3.heap[b4]? = some (.cells #[.int .u8 (aZ T.C i),.int .u8 (bH T.C i)] 48)/\GB none wk w3/\wk.heap.size<=b4) (CS.of ah mixed ?_) ?_
 ·refine ⟨_,nD hmem ⟨oF.n,oF.cl.n⟩ ⟨oF.sz,oF.cl.sz⟩ i (by omega) (by omega),?_⟩
  rintro _ w1 ⟨rfl,g1⟩;refine λ w2 b4 m2 g2 l2=>⟨_,_,_,m2,rfl,rfl,λ w3 m3 g3=>?_⟩
  exact ⟨_,by exact ⟨rfl,rfl,rfl,trivial⟩,b4,rfl,m3,g1.trans (g2.new g3 l2),Nat.le_trans g1.size l2⟩
 rintro q w3 ⟨b4,rfl,m3,G3,lb4⟩;have h3:=hS.ax G3;obtain ⟨l,hl⟩:∃ l,l=(T.C.F (aZ T.C i) (bH T.C i)).log:=⟨_,rfl⟩;have hok:=oF.cl.ok _ _ q1 q2;have afT:l.length<=60:=by rw [hl];exact hok.lg
 have hlc:∀ c∈l,A.gc c:=by rw [hl];exact hok.lc
 refine CS.piece (Q:=λ q w4=>∃ la jL,q=[(0,Ptt bs),(3,.int .i64 i),(4,Ptt b4),(5,.slice la l.length jL)]/\mR w4 (.slice la l.length jL) l/\GB none w3 w4/\∀ x,(Value.slice la l.length jL).ownBlock=some x->w3.heap.size<=x) (CS.of ah mixed ?_) ?_
 ·refine ⟨by kernel_rfl,_,_,h3.si.mem,_,rfl,_,_,m3,[.int .u8 (aZ T.C i),.int .u8 (bH T.C i)],rfl,rfl,_,aaF HN h3.enter oF.cl (aZ T.C i) (bH T.C i) q1 q2,?_⟩
  rintro lv w4 ⟨L4,g4,n4⟩;rw [<- hl] at L4;obtain ⟨la,jL,rfl⟩:∃ a c,lv=.slice a l.length c:=by obtain ⟨vs,v1,v2,v3⟩:=L4;exact ae v2
  exact ⟨_,by exact ⟨rfl,rfl,rfl,rfl,trivial⟩,la,jL,rfl,L4,g4,n4⟩
 rintro q w4 ⟨la,jL,rfl,L4,g4,n4⟩;have G4:=G3.trans g4;have h4:=hS.ax G4;have m4:=g4.get m3 nofun;have n4':∀ x,(Value.slice la l.length jL).ownBlock=some x->wk.heap.size<=x:=λ x hx=>by have:=n4 x hx;have:=G3.size;omega
 obtain ⟨be,hbe⟩:∃ b,T.dM[aZ T.C i]? = some b:=⟨T.dM[aZ T.C i]'(by rw [oF.be];exact q1),by simp [oF.be,q1]⟩;obtain ⟨bv,hbv⟩:∃ b,a.bv[aZ T.C i]? = some b:=⟨a.bv[aZ T.C i]'(by rw [hS.si.bl,oF.be];exact q1),by simp [hS.si.bl,oF.be,q1]⟩;have QZ:T.dM.getD (aZ T.C i) []=be:=by rw [List.getD_eq_getElem?_getD,hbe];rfl
 have Lb0:=hS.si.bi _ _ _ hbe hbv;obtain ⟨ba,wQ,rfl⟩:∃ a c,bv=.slice a be.length c:=by obtain ⟨vs,v1,v2,v3⟩:=Lb0;exact ae v2
 refine CS.piece (Q:=λ q w5=>q=[(0,Ptt bs),(3,.int .i64 i),(4,Ptt b4),(5,.slice la l.length jL),(6,.slice ba be.length wQ)]/\w5=w4) (CS.of ah mixed ?_) ?_
 ·obtain ⟨gb,OI,ZR,J7,EP,Vv,adk,adl⟩:=ru h4.si.be hbv
  refine ⟨by kernel_rfl,_,_,h4.si.mem,.slice (some ⟨gb,0,none⟩) T.dM.length OI,by show (gp _ _ _)[4]? = _;unfold gp;rw [J7];rfl,_,_,m4,_,rfl,⟨by omega,by omega⟩,_,_,EP,.slice ba be.length wQ,by show ZR.toList[0+((aZ T.C i:Nat):Int).toNat*1]? = _;rw [Nat.zero_add,Nat.mul_one,Int.toNat_natCast];exact Vv,?_⟩;exact ⟨_,by exact ⟨rfl,rfl,rfl,rfl,rfl,trivial⟩,rfl,rfl⟩
 rintro q w4 ⟨rfl,rfl⟩;refine CS.cut (Qn:=λ q w6=>q=[(0,Ptt bs),(3,.int .i64 i),(4,Ptt b4),(5,.slice la l.length jL),(6,.slice ba be.length wQ)]/\GB none w4 w6/\lu sZ l be=true) (Qx:=λ _ _ _=>False) (Qr:=λ q w6=>q=[(2,.bool false)]/\GB none w4 w6/\lu sZ l be=false) ?_ ?_ (λ _ _ _ _ h _=>h.elim) ?_
 ·refine CS.piece (Q:=λ q w6=>q=[(0,Ptt bs),(3,.int .i64 i),(4,Ptt b4),(5,.slice la l.length jL),(6,.slice ba be.length wQ),(7,.int .i64 0)]/\w6=w4) (CS.of ah mixed ⟨_,by exact ⟨rfl,rfl,rfl,rfl,rfl,rfl,trivial⟩,rfl,rfl⟩) ?_
  rintro q w4 ⟨rfl,rfl⟩;refine CS.block ?_;refine CS.loop (λ m s w5=>∃ k:Nat,m=l.length - k/\k<=l.length/\s=[(0,Ptt bs),(3,.int .i64 i),(4,Ptt b4),(5,.slice la l.length jL),(6,.slice ba be.length wQ),(7,.int .i64 k)]/\GB none w4 w5/\∀ (j:Nat) (x y:MC),j<k->l[j]? = some x->be[j]? = some y->sZ x y=true) ⟨_,_,⟨0,rfl,Nat.zero_le _,rfl,GB.refl _ _,λ j x y h=>by omega⟩,rfl,rfl,rfl,rfl,rfl,rfl,trivial⟩ ?_;rintro m s w5 ⟨k,rfl,hk,rfl,g5,hall⟩;refine CS.cut (Qn:=λ q w6=>k<l.length/\k<be.length/\q=[(0,Ptt bs),(3,.int .i64 i),(4,Ptt b4),(5,.slice la l.length jL),(6,.slice ba be.length wQ),(7,.int .i64 k)]/\w6=w5) (Qx:=λ j q w6=>j=2/\(¬ k<l.length\/¬ k<be.length)/\q=[(0,Ptt bs),(3,.int .i64 i),(4,Ptt b4),(5,.slice la l.length jL),(6,.slice ba be.length wQ)]/\w6=w5) (Qr:=λ _ _=>False) (CS.of ah mixed ?_) ?_ ?_ (λ _ _ _ h _=>h.elim)
  ·refine au (λ c2=>?_) (λ c2=>?_)
   ·have d2:k<l.length:=by simp at c2;omega
    refine au (λ c3=>?_) (λ c3=>?_)
    ·have d3:k<be.length:=by have:=of_decide_eq_true c3;omega
     exact ⟨_,by exact ⟨rfl,rfl,rfl,rfl,rfl,rfl,trivial⟩,d2,d3,rfl,rfl⟩
    ·have d3:¬ k<be.length:=by have:=of_decide_eq_false c3;omega
     exact ⟨_,by exact ⟨rfl,rfl,rfl,rfl,rfl,trivial⟩,rfl,.inr d3,rfl,rfl⟩
   ·have d2:¬ k<l.length:=by simp at c2;omega
    exact ⟨_,by exact ⟨rfl,rfl,rfl,rfl,rfl,trivial⟩,rfl,.inl d2,rfl,rfl⟩
  rotate_left
  ·rintro j q s w6 ⟨rfl,hor,rfl,rfl⟩ hs
   exact ⟨_,hs,rfl,g5,uZ λ j x y hj h1 h2=>hall j x y (by have:=(List.getElem?_eq_some_iff.1 h1).1;have:=(List.getElem?_eq_some_iff.1 h2).1;omega) h1 h2⟩
  rintro q w6 ⟨d2,d3,rfl,rfl⟩;have L5:mR w6 (.slice la l.length jL) l:=L4.kz g5.kz λ x hx=>by obtain ⟨c,hc⟩:=L4.obj hx;exact g5.block x (ag hc) nofun
  have Lb5:=(h4.ax g5).si.bi _ _ _ hbe hbv;obtain ⟨x,hx⟩:∃ x,l[k]? = some x:=⟨l[k],by simp [d2]⟩;obtain ⟨y,hy⟩:∃ y,be[k]? = some y:=⟨be[k],by simp [d3]⟩;obtain ⟨gx,adm,rvx,dvx,ex,_,hcx,hex,hrx⟩:=L5.el hx;obtain ⟨gy,adn,rvy,dvy,ey,_,hcy,hey,hry⟩:=Lb5.el hy;obtain ⟨rb1,rb2⟩:=HN.rl x (hlc x (List.mem_of_getElem? hx));subst ex;subst ey;refine CS.cut (Qn:=λ q w7=>sZ x y=true/\q=[(0,Ptt bs),(3,.int .i64 i),(4,Ptt b4),(5,.slice (some ⟨gx,0,none⟩) l.length jL),(6,.slice (some ⟨gy,0,none⟩) be.length wQ),(7,.int .i64 k)]/\GB none w6 w7) (Qx:=λ _ _ _=>False) (Qr:=λ q w7=>sZ x y=false/\q=[(2,.bool false)]/\GB none w6 w7) (CS.of ah mixed ?_) ?_ (λ _ _ _ _ h _=>h.elim) ?_
  ·have hsc:=Xj w6 ⟨rvx,dvx,rfl,hrx⟩ ⟨rvy,dvy,rfl,hry⟩ ⟨by omega,by omega⟩
   obtain ⟨r,hr⟩:∃ r,r=sZ x y:=⟨_,rfl⟩;rw [<- hr] at hsc |-;refine ⟨by kernel_rfl,⟨by omega,by omega⟩,_,_,hcx,dz x rvx dvx,by show aQ adm.toList (0+(k:Int).toNat*17) 17=_;rw [Nat.zero_add,Int.toNat_natCast];exact hex,rfl,⟨by omega,by omega⟩,_,_,hcy,dz y rvy dvy,by show aQ adn.toList (0+(k:Int).toNat*17) 17=_;rw [Nat.zero_add,Int.toNat_natCast];exact hey,rfl,_,hsc,?_⟩;rintro _ w7 ⟨rfl,g7⟩;cases r
   ·exact ⟨_,by exact ⟨rfl,trivial⟩,rfl,rfl,g7⟩
   ·exact ⟨_,by exact ⟨rfl,rfl,rfl,rfl,rfl,rfl,trivial⟩,rfl,rfl,g7⟩
  ·rintro q w7 ⟨e,rfl,g7⟩
   refine CS.of ah mixed ?_;refine ⟨⟨by omega,by omega⟩,_,_,⟨k+1,rfl,by omega,rfl,g5.trans g7,λ j x' y' hj h1 h2=>?_⟩,⟨rfl,rfl,rfl,rfl,rfl,rfl,trivial⟩,by omega⟩;by_cases ej:j=k
   ·subst ej;rw [hx] at h1;rw [hy] at h2;cases h1;cases h2;exact e
   ·exact hall j x' y' (by omega) h1 h2
  ·rintro q s w7 ⟨e,rfl,g7⟩ hs
   exact ⟨_,hs,rfl,g5.trans g7,FP hx hy e⟩
 rotate_left
 ·rintro q s w6 ⟨rfl,g6,e⟩ hs
  have el:T.dW i=(T,false):=by unfold Sit.dW;rw [QZ,<- hl,if_pos e]
  exact ⟨_,hs,rfl,by rw [hstop _ el],by rw [hstop _ el];exact ⟨_,_,_,_,_,_,h4.ax g6⟩,K.trans (G4.trans g6).kz⟩
 rintro q w6 ⟨rfl,g6,hzy⟩;have G6:=G4.trans g6;have h6:=hS.ax G6;have m6:=g6.get m4 nofun;have L6:mR w6 (.slice la l.length jL) l:=L4.kz g6.kz λ x hx=>by obtain ⟨c,hc⟩:=L4.obj hx;exact g6.block x (ag hc) nofun
 obtain ⟨e1,e2,e3,e4,e5⟩:=T.FT i;refine CS.piece (Q:=λ q w7=>q=[(0,Ptt bs),(3,.int .i64 i),(5,.slice la l.length jL)]/\∃ a5,gU Λ bs bc (T.dh i) a5 gv sv B ad w7/\Kz w w7) (CS.of ah mixed ?_) ?_
 ·refine au (λ c=>?_) (λ c=>?_)
  ·have d1:l.length > be.length:=by have:=of_decide_eq_true c;omega
   have eb:T.dh i={ T with dM:=T.dM.set (aZ T.C i) l }:=by unfold Sit.dh;rw [QZ,<- hl,if_pos d1]
   obtain ⟨gb,OI,ZR,J7,EP,Vv,adk,adl⟩:=ru h6.si.be hbv;refine ⟨by kernel_rfl,_,_,h6.si.mem,.slice (some ⟨gb,0,none⟩) T.dM.length OI,by show (gp _ _ _)[4]? = _;unfold gp;rw [J7];rfl,_,_,m6,_,rfl,⟨by omega,by omega⟩,_,_,_,EP,fJ rfl rfl (by show 0+((aZ T.C i:Nat):Int).toNat*1<_;omega),rfl,λ w7 m7 g7=>?_⟩;have ZT:=h6.si.be;rw [J7] at ZT;have o7:=own_set' (off:=aZ T.C i) (v:=.slice la l.length jL) ZT EP m7 (by show 0+((aZ T.C i:Nat):Int).toNat*1=_;omega) rfl rfl (by omega);have ado:w7.heap[bs]? = _:=g7.get h6.si.mem λ e=>df h6.si.mem EP (by decide) (Option.some.inj e)
   obtain ⟨h7,k7⟩:=hS.be' (v:=.slice (some ⟨gb,0,none⟩) T.dM.length OI) (dM:=T.dM.set (aZ T.C i) l) (bv:=a.bv.set (aZ T.C i) (.slice la l.length jL)) (w1:=w7) (w2:=w7) G6 (by rw [J7];exact g7) (by rw [List.length_set];exact o7) (λ x hx=>by rw [J7];exact .inl hx) (by rw [List.length_set,List.length_set];exact hS.si.bl) (by rw [ado];unfold gp;rw [J7]) (GB.refl _ _) (λ g l' u p1 p2=>by
    by_cases e:aZ T.C i=g
    ·subst e
     rw [List.getElem?_set_self (by rw [oF.be];exact q1)] at p1;rw [List.getElem?_set_self (by rw [hS.si.bl,oF.be];exact q1)] at p2;cases p1;cases p2
     exact .inr ⟨L6,n4'⟩
    ·rw [List.getElem?_set_ne e] at p1 p2
     exact .inl ⟨p1,p2⟩)
   rw [<- eb] at h7;exact ⟨_,by exact ⟨rfl,rfl,rfl,trivial⟩,rfl,_,h7,K.trans k7⟩
  ·have d1:¬ l.length > be.length:=by have:=of_decide_eq_false c;omega
   have eb:T.dh i=T:=by unfold Sit.dh;rw [QZ,<- hl,if_neg d1]
   rw [eb];exact ⟨_,by exact ⟨rfl,rfl,rfl,trivial⟩,rfl,_,h6,K.trans G6.kz⟩
 rintro q w7 ⟨rfl,a5,h5,K5⟩;obtain ⟨ln,hln⟩:∃ x,T.len[i]? = some x:=⟨T.len[i]'(by rw [oF.le,GX];exact c1),by simp [oF.le,GX,c1]⟩;obtain ⟨fl,hfl⟩:∃ x,T.fell[i]? = some x:=⟨T.fell[i]'(by rw [oF.fe,GX];exact c1),by simp [oF.fe,GX,c1]⟩;have ZU:T.len.getD i 0=ln:=by rw [List.getD_eq_getElem?_getD,hln];rfl
 have ZV:T.fell.getD i true=fl:=by rw [List.getD_eq_getElem?_getD,hfl];rfl
 obtain ⟨gl,Um,adp,ML,H9,aaW,afU,afV⟩:=ru h5.si.le (k:=i) (x:=.int .i64 (ln:Nat)) (by rw [List.getElem?_map,e2,hln];rfl);obtain ⟨gf,OJ,ZW,J8,ER,Vw,ZX,adq⟩:=ru h5.si.fe (k:=i) (x:=.bool fl) (by rw [List.getElem?_map,e3,hfl];rfl);have rP:=h5.si.mem;have adr:decide ((l.length:Int) > 60)=false:=decide_eq_false (by omega);refine CS.cut (Qn:=λ q w8=>¬ (l.length<ln/\fl=false)/\q=[(0,Ptt bs),(3,.int .i64 i),(5,.slice la l.length jL)]/\w8=w7) (Qx:=λ _ _ _=>False) (Qr:=λ q w8=>(l.length<ln/\fl=false)/\q=[(2,.bool false)]/\w8=w7) (CS.of ah mixed ?_) ?_ (λ _ _ _ _ h _=>h.elim) ?_
 ·refine au (λ d=>?_) (λ d=>(by rw [adr] at d;cases d))
  refine ⟨_,_,rP,.slice (some ⟨gl,0,none⟩) (T.dh i).len.length Um,by show (gp _ _ _)[5]? = _;unfold gp;rw [ML];rfl,⟨by omega,by omega⟩,_,_,H9,.int .i64 (ln:Nat),by show adp.toList[0+(i:Int).toNat*1]? = _;rw [Nat.zero_add,Nat.mul_one,Int.toNat_natCast];exact aaW,?_⟩;refine au (λ d2=>?_) (λ d2=>?_)
  ·have z2:l.length<ln:=by simp at d2;omega
   refine ⟨_,_,rP,.slice (some ⟨gf,0,none⟩) (T.dh i).fell.length OJ,by show (gp _ _ _)[6]? = _;unfold gp;rw [J8];rfl,⟨by omega,by omega⟩,_,_,ER,.bool fl,by show ZW.toList[0+(i:Int).toNat*1]? = _;rw [Nat.zero_add,Nat.mul_one,Int.toNat_natCast];exact Vw,?_⟩;cases fl
   ·exact ⟨_,by exact ⟨rfl,trivial⟩,⟨z2,rfl⟩,rfl,rfl⟩
   ·exact ⟨_,by exact ⟨rfl,rfl,rfl,trivial⟩,λ h=>(by cases h.2),rfl,rfl⟩
  ·have z2:¬ l.length<ln:=by simp at d2;omega
   exact ⟨_,by exact ⟨rfl,rfl,rfl,trivial⟩,λ h=>z2 h.1,rfl,rfl⟩
 rotate_left
 ·rintro q s w8 ⟨e,rfl,rfl⟩ hs
  have el:T.dW i=(T.dh i,false):=by unfold Sit.dW;rw [QZ,<- hl,if_neg (by rw [hzy];decide),if_pos ⟨by rw [ZU];exact e.1,by rw [ZV];exact e.2⟩]
  exact ⟨_,hs,rfl,by rw [hstop _ el],by rw [hstop _ el];exact ⟨_,_,_,_,_,_,h5⟩,K5⟩
 rintro q w8 ⟨hno,rfl,rfl⟩;have el:T.dW i=({ T.dh i with len:=T.len.set i l.length,fell:=T.fell.set i false },true):=by unfold Sit.dW;rw [QZ,<- hl,if_neg (by rw [hzy];decide),if_neg (by rw [ZU,ZV];exact hno)]
 refine CS.of ah mixed ?_;refine ⟨_,_,rP,.slice (some ⟨gl,0,none⟩) (T.dh i).len.length Um,by show (gp _ _ _)[5]? = _;unfold gp;rw [ML];rfl,⟨by omega,by omega⟩,_,_,_,H9,fJ rfl rfl (by show 0+(i:Int).toNat*1<_;omega),rfl,λ w9 m9 g9=>?_⟩;have ZY:=h5.si.le;rw [ML] at ZY;have o9:=own_set' (off:=i) (v:=.int .i64 (l.length:Nat)) ZY H9 m9 (by show 0+(i:Int).toNat*1=_;omega) rfl rfl (by omega);have ads:w9.heap[bs]? = _:=g9.get rP λ e=>df rP H9 (by decide) (Option.some.inj e)
 obtain ⟨h9,k9⟩:=h5.le' (v:=.slice (some ⟨gl,0,none⟩) (T.dh i).len.length Um) (l:=(T.dh i).len.set i l.length) (w1:=w9) (w2:=w9) (by rw [ML];exact g9) (by rw [List.length_set,List.map_set];exact o9) (λ x hx=>by rw [ML];exact .inl hx) (by rw [ads];unfold gp;rw [ML]) (GB.refl _ _);have wB:=h9.si.mem;obtain ⟨gf',Vx,afD,J9,Ka,afc,aaX,afE⟩:=ru h9.si.fe (k:=i) (x:=.bool fl) (by rw [List.getElem?_map];show ((T.dh i).fell[i]?).map _=_;rw [e3,hfl];rfl);refine ⟨_,_,wB,.slice (some ⟨gf',0,none⟩) (T.dh i).fell.length Vx,by show (gp _ _ _)[6]? = _;unfold gp;rw [J9];rfl,⟨by omega,by omega⟩,_,_,_,Ka,fJ rfl rfl (by show 0+(i:Int).toNat*1<_;omega),rfl,λ wa ma ga=>?_⟩;have ZZ:=h9.si.fe;rw [J9] at ZZ;have oa:=own_set' (off:=i) (v:=.bool false) ZZ Ka ma (by show 0+(i:Int).toNat*1=_;omega) rfl rfl (by omega);have adt:wa.heap[bs]? = _:=ga.get wB λ e=>df wB Ka (by decide) (Option.some.inj e)
 obtain ⟨ha,ka⟩:=h9.ZM (v:=.slice (some ⟨gf',0,none⟩) (T.dh i).fell.length Vx) (l:=(T.dh i).fell.set i false) (w1:=wa) (w2:=wa) (by rw [J9];exact ga) (by rw [List.length_set,List.map_set];exact oa) (λ x hx=>by rw [J9];exact .inl hx) (by rw [adt];unfold gp;rw [J9]) (GB.refl _ _);rw [e2,e3] at ha;exact ⟨_,by exact ⟨rfl,rfl,trivial⟩,rfl,_,hgo _ el,⟨_,_,_,_,_,_,ha⟩,(K5.trans k9).trans ka⟩
end
structure Stp where
 (kind a b:Int)
 d:ByteArray
 q:bN
def Stp.cells (t:Stp):List Value:=[.int .i64 t.kind,.int .i64 t.a,.int .i64 t.b,.string t.d]++t.q.cells
def qH (x:Int):Prop:=-9223372036854775808<=x/\x<9223372036854775808
structure Stp.wf (A:aT) (t:Stp):Prop where
 kind:qH t.kind
 a:qH t.a
 b:qH t.b
 s:0<=t.q.s
 k:0<=t.q.k
 r:A.gc (gI (cO t.q))
def Sit.Z0 (_A:aT) (S:Sit) (t:Stp) (m:MM):Sit:={ S with C:=S.C.send (aZ S.C t.a) (bH S.C t.a) t.d,asks:=S.asks++[⟨m.q,aZ S.C t.a,S.C.q.length⟩] }
def Sit.u7 (A:aT) (S:Sit) (t:Stp):Sit:=match A.dec t.d with
 | some m=>if m.kind=1/\¬ t.d.size > 1000/\S.C.q.length<20000 then S.Z0 A t m else { S with C:=S.C.send (aZ S.C t.a) (bH S.C t.a) t.d }
 | none=>{ S with C:=S.C.send (aZ S.C t.a) (bH S.C t.a) t.d }
def Sit.MN (A:aT) (S:Sit) (t:Stp):Sit:={ S.look.1 with C:=S.look.1.C.di A (aZ S.C t.a) (bH S.C t.a),fell:=S.look.1.fell.set (bf t.a (S.C.n*S.C.sz)) true }
def Sit.tQ (A:aT) (S:Sit) (t:Stp):Nat->Sit×Bool
 | 0=>(if S.C.q.length<20000 then S.sends A (cO t.q) (aZ S.C t.a) (bH S.C t.a) else S,!S.bad)
 | 1=>(S.u7 A t,!S.bad)
 | 2=>if 0<S.C.q.length then ({ S with C:=S.C.dH A (bf t.b S.C.q.length) },true) else (S,!S.bad)
 | 3=>if 0<S.C.q.length then ({ S with C:=S.C.dH A ((S.C.q.length:Int) - 1 - (bf t.b S.C.q.length%12:Nat)) },true) else (S,!S.bad)
 | 4=>({ S with C:=S.C.tick A (aZ S.C t.a) (bH S.C t.a) },true)
 | 5=>(S.MN A t,S.look.2)
 | _=>(S.all A (1+bf t.b 60),true)
def Sit.do (A:aT) (S:Sit) (t:Stp):Sit×Bool:=S.tQ A t (bf t.kind 7)
section
variable {A:aT} (HA:bK A) (HN:gJ A) (HL:rO A) {Λ:bU} {w:World} {bs:Nat} {S:Sit}
include HA HN HL
theorem aaY (h:bY Λ bs S w) (hF:S.aK A) {t:Stp} (ht:t.wf A) (hj:bf t.kind 7=0):fZ Tryz.prog 26 #[Ptt bs,.agg t.cells.toArray] w (λ v w'=>v=.bool (S.do A t).2/\bY Λ bs (S.do A t).1 w'/\Kz w w'):=by
 have hdo:S.do A t=S.tQ A t 0:=by unfold Sit.do;rw [hj]
 rw [hdo];obtain ⟨bc,a,gv,sv,B,ad,hS⟩:=h;have jB:=hF.cl.n;have hs5:=hF.cl.sz;have hlen:=hF.cl.len;refine rH ah mixed Tryz.func26 rfl rfl ?_;refine λ w1 b3 m1 g1 l1=>?_
 have h1:=hS.ax g1;refine ⟨_,_,h1.si.mem,_,rfl,_,(oq h1.enter hlen 0 (by decide) (by decide)).x,?_⟩;rintro lv w2 ⟨o2,g2,_⟩;have e0:S.C.q.length - min (0:Int).toNat S.C.q.length=S.C.q.length:=by simp
 rw [e0] at o2;obtain ⟨la,lc,rfl⟩:=ae o2;clear o2;have h2:=h1.ax g2;obtain ⟨q1,q2⟩:=mG (C:=S.C) (k:=t.a) hF.n hF.sz;refine ⟨_,_,g2.get m1 nofun,_,rfl,_,(nD h2.si.mem ⟨hF.n,jB⟩ ⟨hF.sz,hs5⟩ t.a ht.a.1 ht.a.2).x,?_⟩;rintro _ w3 ⟨rfl,g3⟩;refine λ w4 b6 m4 g4 l4=>⟨_,_,_,m4,rfl,rfl,λ w5 m5 g5=>?_⟩
 have jJ:GB none w2 w5:=g3.trans (g4.new g5 l4);have G:GB none w w5:=(g1.trans g2).trans jJ;have m15:w5.heap[b3]? = some (.cells t.cells.toArray 95):=(g2.trans jJ).get m1 nofun;have pI:w5.heap[b6]? = some (.cells #[.int .u8 (aZ S.C t.a),.int .u8 (bH S.C t.a)] 48):=m5;have h5:=hS.ax G;have hmem:=h5.si.mem;have GY:w.heap.size<=b3:=l1;have GZ:w.heap.size<=b6:=Nat.le_trans ((g1.trans g2).trans g3).size l4;have pk:=iW w5 t.kind 7 (by decide) ht.kind.1 ht.kind.2;rw [hj] at pk;refine ⟨_,_,m15,_,rfl,_,pk.x,?_⟩;rintro _ w5 ⟨rfl,rfl⟩;clear m4 m5 g4 g5 l4 jJ g3 h2 g2 m1 h1 g1 l1 pk hdo;refine au (λ c=>?_) (λ c=>?_)
 ·have c1:S.C.q.length<20000:=Ti c
  have ek:S.tQ A t 0=(S.sends A (cO t.q) (aZ S.C t.a) (bH S.C t.a),!S.bad):=by show (if S.C.q.length<20000 then _ else _,_)=_;rw [if_pos c1]
  refine ⟨by kernel_rfl,_,_,m15,t.q.cells,rfl,rfl,_,_,pI,[.int .u8 (aZ S.C t.a),.int .u8 (bH S.C t.a)],rfl,rfl,_,(Uh w5 t.q ht.s ht.k).x,?_⟩;rintro _ w6 ⟨rfl,g6⟩;have hak:=hF.ak;refine ⟨⟨g6.get pI nofun,g6.get m15 nofun,trivial⟩,_,(MJ HL ⟨_,_,_,_,_,_,h5.ax g6⟩ hF.cl ht.r q1 q2 (by omega)).x,?_⟩;rintro _ w7 ⟨rfl,h7,k7⟩;rw [ek];obtain ⟨_,_,_,_,_,_,h7⟩:=h7;exact ⟨_,_,h7.si.mem,_,rfl,rfl,⟨_,_,_,_,_,_,h7⟩,(G.kz.trans g6.kz).trans k7⟩
 ·have c1:¬ S.C.q.length<20000:=YU c
  have ek:S.tQ A t 0=(S,!S.bad):=by show (if S.C.q.length<20000 then _ else _,_)=_;rw [if_neg c1]
  rw [ek];exact ⟨_,_,hmem,_,rfl,rfl,⟨_,_,_,_,_,_,h5⟩,G.kz⟩
theorem aaZ (h:bY Λ bs S w) (hF:S.aK A) {t:Stp} (ht:t.wf A) (hj:bf t.kind 7=2):fZ Tryz.prog 26 #[Ptt bs,.agg t.cells.toArray] w (λ v w'=>v=.bool (S.do A t).2/\bY Λ bs (S.do A t).1 w'/\Kz w w'):=by
 have hdo:S.do A t=S.tQ A t 2:=by unfold Sit.do;rw [hj]
 rw [hdo];obtain ⟨bc,a,gv,sv,B,ad,hS⟩:=h;have jB:=hF.cl.n;have hs5:=hF.cl.sz;have hlen:=hF.cl.len;refine rH ah mixed Tryz.func26 rfl rfl ?_;refine λ w1 b3 m1 g1 l1=>?_
 have h1:=hS.ax g1;refine ⟨_,_,h1.si.mem,_,rfl,_,(oq h1.enter hlen 0 (by decide) (by decide)).x,?_⟩;rintro lv w2 ⟨o2,g2,_⟩;have e0:S.C.q.length - min (0:Int).toNat S.C.q.length=S.C.q.length:=by simp
 rw [e0] at o2;obtain ⟨la,lc,rfl⟩:=ae o2;clear o2;have h2:=h1.ax g2;obtain ⟨q1,q2⟩:=mG (C:=S.C) (k:=t.a) hF.n hF.sz;refine ⟨_,_,g2.get m1 nofun,_,rfl,_,(nD h2.si.mem ⟨hF.n,jB⟩ ⟨hF.sz,hs5⟩ t.a ht.a.1 ht.a.2).x,?_⟩;rintro _ w3 ⟨rfl,g3⟩;refine λ w4 b6 m4 g4 l4=>⟨_,_,_,m4,rfl,rfl,λ w5 m5 g5=>?_⟩
 have jJ:GB none w2 w5:=g3.trans (g4.new g5 l4);have G:GB none w w5:=(g1.trans g2).trans jJ;have m15:w5.heap[b3]? = some (.cells t.cells.toArray 95):=(g2.trans jJ).get m1 nofun;have pI:w5.heap[b6]? = some (.cells #[.int .u8 (aZ S.C t.a),.int .u8 (bH S.C t.a)] 48):=m5;have h5:=hS.ax G;have hmem:=h5.si.mem;have GY:w.heap.size<=b3:=l1;have GZ:w.heap.size<=b6:=Nat.le_trans ((g1.trans g2).trans g3).size l4;have pk:=iW w5 t.kind 7 (by decide) ht.kind.1 ht.kind.2;rw [hj] at pk;refine ⟨_,_,m15,_,rfl,_,pk.x,?_⟩;rintro _ w5 ⟨rfl,rfl⟩;clear m4 m5 g4 g5 l4 jJ g3 h2 g2 m1 h1 g1 l1 pk hdo;refine au (λ c=>?_) (λ c=>?_)
 ·have c1:0<S.C.q.length:=by have:=of_decide_eq_true c;omega
  have ek:S.tQ A t 2=({ S with C:=S.C.dH A (bf t.b S.C.q.length) },true):=if_pos c1;have pb:=iW w5 t.b S.C.q.length c1 ht.b.1 ht.b.2;have lb:=je t.b c1;refine ⟨by kernel_rfl,_,_,hmem,_,rfl,_,_,m15,_,rfl,_,pb.x,?_⟩;rintro _ w5 ⟨rfl,rfl⟩;refine ⟨⟨m15,hmem,trivial⟩,_,wo HA HN h5.enter hF.cl (bf t.b S.C.q.length:Nat),?_⟩;rintro _ w8 ⟨rfl,hC,k⟩;rw [if_pos ⟨by omega,by omega⟩];obtain ⟨en,ez⟩:=aL.jr A S.C (bf t.b S.C.q.length:Nat);exact ⟨by rw [ek];rfl,by rw [ek];exact h5.leave en ez hC k,G.kz.trans k⟩
 ·have c1:¬ 0<S.C.q.length:=by have:=of_decide_eq_false c;omega
  have ek:S.tQ A t 2=(S,!S.bad):=if_neg c1;exact ⟨_,_,hmem,_,rfl,by rw [ek],by rw [ek];exact ⟨_,_,_,_,_,_,h5⟩,G.kz⟩
theorem aa0 (h:bY Λ bs S w) (hF:S.aK A) {t:Stp} (ht:t.wf A) (hj:bf t.kind 7=3):fZ Tryz.prog 26 #[Ptt bs,.agg t.cells.toArray] w (λ v w'=>v=.bool (S.do A t).2/\bY Λ bs (S.do A t).1 w'/\Kz w w'):=by
 have hdo:S.do A t=S.tQ A t 3:=by unfold Sit.do;rw [hj]
 rw [hdo];obtain ⟨bc,a,gv,sv,B,ad,hS⟩:=h;have jB:=hF.cl.n;have hs5:=hF.cl.sz;have hlen:=hF.cl.len;refine rH ah mixed Tryz.func26 rfl rfl ?_;refine λ w1 b3 m1 g1 l1=>?_
 have h1:=hS.ax g1;refine ⟨_,_,h1.si.mem,_,rfl,_,(oq h1.enter hlen 0 (by decide) (by decide)).x,?_⟩;rintro lv w2 ⟨o2,g2,_⟩;have e0:S.C.q.length - min (0:Int).toNat S.C.q.length=S.C.q.length:=by simp
 rw [e0] at o2;obtain ⟨la,lc,rfl⟩:=ae o2;clear o2;have h2:=h1.ax g2;obtain ⟨q1,q2⟩:=mG (C:=S.C) (k:=t.a) hF.n hF.sz;refine ⟨_,_,g2.get m1 nofun,_,rfl,_,(nD h2.si.mem ⟨hF.n,jB⟩ ⟨hF.sz,hs5⟩ t.a ht.a.1 ht.a.2).x,?_⟩;rintro _ w3 ⟨rfl,g3⟩;refine λ w4 b6 m4 g4 l4=>⟨_,_,_,m4,rfl,rfl,λ w5 m5 g5=>?_⟩
 have jJ:GB none w2 w5:=g3.trans (g4.new g5 l4);have G:GB none w w5:=(g1.trans g2).trans jJ;have m15:w5.heap[b3]? = some (.cells t.cells.toArray 95):=(g2.trans jJ).get m1 nofun;have pI:w5.heap[b6]? = some (.cells #[.int .u8 (aZ S.C t.a),.int .u8 (bH S.C t.a)] 48):=m5;have h5:=hS.ax G;have hmem:=h5.si.mem;have GY:w.heap.size<=b3:=l1;have GZ:w.heap.size<=b6:=Nat.le_trans ((g1.trans g2).trans g3).size l4;have pk:=iW w5 t.kind 7 (by decide) ht.kind.1 ht.kind.2;rw [hj] at pk;refine ⟨_,_,m15,_,rfl,_,pk.x,?_⟩;rintro _ w5 ⟨rfl,rfl⟩;clear m4 m5 g4 g5 l4 jJ g3 h2 g2 m1 h1 g1 l1 pk hdo;refine au (λ c=>?_) (λ c=>?_)
 ·have c1:0<S.C.q.length:=by have:=of_decide_eq_true c;omega
  have ek:S.tQ A t 3=({ S with C:=S.C.dH A ((S.C.q.length:Int) - 1 - (bf t.b S.C.q.length%12:Nat)) },true):=if_pos c1;have pb:=iW w5 t.b S.C.q.length c1 ht.b.1 ht.b.2;have lb:=je t.b c1;have lm:bf t.b S.C.q.length%12<=bf t.b S.C.q.length:=Nat.mod_le _ _;have et:((bf t.b S.C.q.length:Nat):Int).tmod 12=((bf t.b S.C.q.length%12:Nat):Int):=yQ _ 12;refine ⟨by kernel_rfl,_,_,hmem,_,rfl,⟨by omega,by omega⟩,_,_,m15,_,rfl,_,pb.x,?_⟩;rintro _ w5 ⟨rfl,rfl⟩;have hdl:=wo HA HN h5.enter hF.cl ((S.C.q.length:Int) - 1 - (bf t.b S.C.q.length%12:Nat));rw [<- et] at hdl;refine ⟨⟨m15,hmem,trivial⟩,by decide,⟨by rw [et];omega,by rw [et];omega⟩,_,hdl,?_⟩;rintro _ w8 ⟨rfl,hC,k⟩;rw [et] at hC |-;rw [if_pos ⟨by omega,by omega⟩];obtain ⟨en,ez⟩:=aL.jr A S.C ((S.C.q.length:Int) - 1 - (bf t.b S.C.q.length%12:Nat));exact ⟨by rw [ek];rfl,by rw [ek];exact h5.leave en ez hC k,G.kz.trans k⟩
 ·have c1:¬ 0<S.C.q.length:=by have:=of_decide_eq_false c;omega
  have ek:S.tQ A t 3=(S,!S.bad):=if_neg c1;exact ⟨_,_,hmem,_,rfl,by rw [ek],by rw [ek];exact ⟨_,_,_,_,_,_,h5⟩,G.kz⟩
theorem aa1 (h:bY Λ bs S w) (hF:S.aK A) {t:Stp} (ht:t.wf A) (hj:bf t.kind 7=4):fZ Tryz.prog 26 #[Ptt bs,.agg t.cells.toArray] w (λ v w'=>v=.bool (S.do A t).2/\bY Λ bs (S.do A t).1 w'/\Kz w w'):=by
 have hdo:S.do A t=S.tQ A t 4:=by unfold Sit.do;rw [hj]
 rw [hdo];obtain ⟨bc,a,gv,sv,B,ad,hS⟩:=h;have jB:=hF.cl.n;have hs5:=hF.cl.sz;have hlen:=hF.cl.len;refine rH ah mixed Tryz.func26 rfl rfl ?_;refine λ w1 b3 m1 g1 l1=>?_
 have h1:=hS.ax g1;refine ⟨_,_,h1.si.mem,_,rfl,_,(oq h1.enter hlen 0 (by decide) (by decide)).x,?_⟩;rintro lv w2 ⟨o2,g2,_⟩;have e0:S.C.q.length - min (0:Int).toNat S.C.q.length=S.C.q.length:=by simp
 rw [e0] at o2;obtain ⟨la,lc,rfl⟩:=ae o2;clear o2;have h2:=h1.ax g2;obtain ⟨q1,q2⟩:=mG (C:=S.C) (k:=t.a) hF.n hF.sz;refine ⟨_,_,g2.get m1 nofun,_,rfl,_,(nD h2.si.mem ⟨hF.n,jB⟩ ⟨hF.sz,hs5⟩ t.a ht.a.1 ht.a.2).x,?_⟩;rintro _ w3 ⟨rfl,g3⟩;refine λ w4 b6 m4 g4 l4=>⟨_,_,_,m4,rfl,rfl,λ w5 m5 g5=>?_⟩
 have jJ:GB none w2 w5:=g3.trans (g4.new g5 l4);have G:GB none w w5:=(g1.trans g2).trans jJ;have m15:w5.heap[b3]? = some (.cells t.cells.toArray 95):=(g2.trans jJ).get m1 nofun;have pI:w5.heap[b6]? = some (.cells #[.int .u8 (aZ S.C t.a),.int .u8 (bH S.C t.a)] 48):=m5;have h5:=hS.ax G;have hmem:=h5.si.mem;have GY:w.heap.size<=b3:=l1;have GZ:w.heap.size<=b6:=Nat.le_trans ((g1.trans g2).trans g3).size l4;have pk:=iW w5 t.kind 7 (by decide) ht.kind.1 ht.kind.2;rw [hj] at pk;refine ⟨_,_,m15,_,rfl,_,pk.x,?_⟩;rintro _ w5 ⟨rfl,rfl⟩;clear m4 m5 g4 g5 l4 jJ g3 h2 g2 m1 h1 g1 l1 pk hdo;refine ⟨by kernel_rfl,_,_,hmem,_,rfl,_,_,pI,[.int .u8 (aZ S.C t.a),.int .u8 (bH S.C t.a)],rfl,rfl,_,Qf HA h5.enter hF.cl _ _ (by omega) (by omega),?_⟩;rintro _ w7 ⟨rfl,hC,k⟩;rw [if_pos ⟨q1,q2⟩];obtain ⟨en,ez⟩:=aL.oD A S.C (aZ S.C t.a) (bH S.C t.a);exact ⟨rfl,h5.leave en ez hC k,G.kz.trans k⟩
theorem aa2 (h:bY Λ bs S w) (hF:S.aK A) {t:Stp} (ht:t.wf A) (hj:bf t.kind 7=6):fZ Tryz.prog 26 #[Ptt bs,.agg t.cells.toArray] w (λ v w'=>v=.bool (S.do A t).2/\bY Λ bs (S.do A t).1 w'/\Kz w w'):=by
 have hdo:S.do A t=S.tQ A t 6:=by unfold Sit.do;rw [hj]
 rw [hdo];obtain ⟨bc,a,gv,sv,B,ad,hS⟩:=h;have jB:=hF.cl.n;have hs5:=hF.cl.sz;have hlen:=hF.cl.len;refine rH ah mixed Tryz.func26 rfl rfl ?_;refine λ w1 b3 m1 g1 l1=>?_
 have h1:=hS.ax g1;refine ⟨_,_,h1.si.mem,_,rfl,_,(oq h1.enter hlen 0 (by decide) (by decide)).x,?_⟩;rintro lv w2 ⟨o2,g2,_⟩;have e0:S.C.q.length - min (0:Int).toNat S.C.q.length=S.C.q.length:=by simp
 rw [e0] at o2;obtain ⟨la,lc,rfl⟩:=ae o2;clear o2;have h2:=h1.ax g2;obtain ⟨q1,q2⟩:=mG (C:=S.C) (k:=t.a) hF.n hF.sz;refine ⟨_,_,g2.get m1 nofun,_,rfl,_,(nD h2.si.mem ⟨hF.n,jB⟩ ⟨hF.sz,hs5⟩ t.a ht.a.1 ht.a.2).x,?_⟩;rintro _ w3 ⟨rfl,g3⟩;refine λ w4 b6 m4 g4 l4=>⟨_,_,_,m4,rfl,rfl,λ w5 m5 g5=>?_⟩
 have jJ:GB none w2 w5:=g3.trans (g4.new g5 l4);have G:GB none w w5:=(g1.trans g2).trans jJ;have m15:w5.heap[b3]? = some (.cells t.cells.toArray 95):=(g2.trans jJ).get m1 nofun;have pI:w5.heap[b6]? = some (.cells #[.int .u8 (aZ S.C t.a),.int .u8 (bH S.C t.a)] 48):=m5;have h5:=hS.ax G;have hmem:=h5.si.mem;have GY:w.heap.size<=b3:=l1;have GZ:w.heap.size<=b6:=Nat.le_trans ((g1.trans g2).trans g3).size l4;have pk:=iW w5 t.kind 7 (by decide) ht.kind.1 ht.kind.2;rw [hj] at pk;refine ⟨_,_,m15,_,rfl,_,pk.x,?_⟩;rintro _ w5 ⟨rfl,rfl⟩;clear m4 m5 g4 g5 l4 jJ g3 h2 g2 m1 h1 g1 l1 pk hdo;have pb:=iW w5 t.b 60 (by decide) ht.b.1 ht.b.2;have lb:=je t.b (show 0<60 by decide);refine ⟨_,_,m15,_,rfl,_,pb.x,?_⟩;rintro _ w5 ⟨rfl,rfl⟩;have hall:=Vt HA HN ⟨_,_,_,_,_,_,h5⟩ hF.cl (1+bf t.b 60) (by omega);rw [Int.natCast_add] at hall;refine ⟨⟨by omega,by omega⟩,_,hall,?_⟩;rintro _ w8 ⟨rfl,h8,k8⟩;exact ⟨rfl,h8,G.kz.trans k8⟩
end
end
end Go.Proofs.YtignemioillaiabGreat
