/- look, in memory. -/
import Derived.Test.YtignemioillaiabGreatG48
namespace Go.Proofs.YtignemioillaiabGreat
set_option maxHeartbeats 8000000
set_option linter.unusedSectionVars false
set_option maxRecDepth 100000
section
open Go Go.Conc
section
variable {A:bE} (HN:je A) {Λ:bN} {w:World} {bs:Nat} {S:Sit}
include HN
theorem ZQ (h:cz Λ bs S w) (hF:S.aN A):af Tryz.prog 15 #[.pointer (some ⟨bs,0,none⟩)] w (fun v w'=>v=.bool S.look.2∧cz Λ bs S.look.1 w'∧Kz w w'):=by
 have Ou:S.look=S.iE (S.C.n*S.C.sz):=rfl;have jr:=hF.cl.n;have hs5:=hF.cl.sz;have hle:S.C.n*S.C.sz≤20:=Nat.mul_le_mul jr hs5;refine Ae au Tryz.func15 rfl rfl ?_;refine CS.piece (Q:=fun q w'=>q=[(0,.pointer (some ⟨bs,0,none⟩))]∧w'=w) (CS.of au mixed ⟨_,by exact ⟨rfl,trivial⟩,rfl,rfl⟩) ?_;rintro q w ⟨rfl,rfl⟩;refine CS.cut (Qn:=fun q w1=>q=[]∧S.look.2=true∧cz Λ bs S.look.1 w1∧Kz w w1) (Qx:=fun _ _ _=>False) (Qr:=fun q w1=>q=[(2,.bool S.look.2)]∧cz Λ bs S.look.1 w1∧Kz w w1) ?_ ?_ (fun _ _ _ _ h _=>h.elim) ?_;rotate_left
 ·rintro q w1 ⟨rfl,e,h1,k1⟩
  refine CS.of au mixed ?_;exact ⟨by rw [e],h1,k1⟩
 ·rintro q s w1 ⟨rfl,h1,k1⟩ hs
  exact CJ hs ⟨rfl,h1,k1⟩
 refine CS.piece (Q:=fun q w'=>q=[(0,.pointer (some ⟨bs,0,none⟩)),(3,.int .i64 0)]∧w'=w) (CS.of au mixed ⟨_,by exact ⟨rfl,rfl,trivial⟩,rfl,rfl⟩) ?_;rintro q w ⟨rfl,rfl⟩;refine CS.block ?_;refine CS.loop (fun m s wk=>∃ (i:Nat) (T:Sit),m=S.C.n*S.C.sz - i∧i≤S.C.n*S.C.sz∧s=[(0,.pointer (some ⟨bs,0,none⟩)),(3,.int .i64 i)]∧S.iE i=(T,true)∧cz Λ bs T wk∧Kz w wk) ⟨_,_,⟨0,S,rfl,Nat.zero_le _,rfl,rfl,h,Kz.refl _⟩,rfl,rfl,trivial⟩ ?_;rintro m s wk ⟨i,T,rfl,hi,rfl,hT,hS,K⟩;obtain ⟨oz,Gy⟩:=hF.iE i;rw [hT] at oz Gy;have oz:T.aN A:=oz;have Gy:T.C=S.C:=Gy;have hcast:((T.C.n:Nat):Int)*((T.C.sz:Nat):Int)=((S.C.n*S.C.sz:Nat):Int):=by rw [Gy];exact (Int.natCast_mul _ _).symm
 obtain ⟨bc,a,gv,sv,B,ad,hS⟩:=hS;have hmem:=hS.si.mem;refine CS.cut (Qn:=fun q w1=>i<S.C.n*S.C.sz∧q=[(0,.pointer (some ⟨bs,0,none⟩)),(3,.int .i64 i)]∧w1=wk) (Qx:=fun j q w1=>j=0∧i=S.C.n*S.C.sz∧q=[]∧w1=wk) (Qr:=fun _ _=>False) (CS.of au mixed ?_) ?_ ?_ (fun _ _ _ h _=>h.elim)
 ·refine ⟨by kernel_rfl,_,_,hmem,_,rfl,_,_,hmem,_,rfl,⟨by rw [hcast];omega,by rw [hcast];omega⟩,?_⟩
  refine aj (fun c=>?_) (fun c=>?_)
  ·exact ⟨_,by exact ⟨rfl,rfl,trivial⟩,by have:=of_decide_eq_true c;rw [hcast] at this;omega,rfl,rfl⟩
  ·exact ⟨_,by exact trivial,rfl,by have:=of_decide_eq_false c;rw [hcast] at this;omega,rfl,rfl⟩
 rotate_left
 ·rintro j q s w1 ⟨rfl,e,rfl,rfl⟩ _
  refine ⟨[],by exact trivial,rfl,?_,?_,K⟩
  ·rw [Ou,← e,hT]
  ·rw [Ou,← e,hT];exact ⟨_,_,_,_,_,_,hS⟩
 rintro q wk ⟨c1,rfl,rfl⟩;have hstop:∀ T',T.gT i=(T',false)→S.look=(T',false):=fun T' e=>by
  have e1:S.iE (i+1)=(T',false):=by
   show (match S.iE i with | (T,true)=>T.gT i | (T,false)=>(T,false))=_;rw [hT];exact e
  rw [Ou,← Nat.add_sub_cancel' (show i+1≤S.C.n*S.C.sz from c1)];exact Sit.EB _ e1
 have hgo:∀ T',T.gT i=(T',true)→S.iE (i+1)=(T',true):=fun T' e=>by
  show (match S.iE i with | (T,true)=>T.gT i | (T,false)=>(T,false))=_;rw [hT];exact e
 refine CS.cut (Qn:=fun q w1=>q=[(0,.pointer (some ⟨bs,0,none⟩)),(3,.int .i64 i)]∧∃ T',S.iE (i+1)=(T',true)∧cz Λ bs T' w1∧Kz w w1) (Qx:=fun _ _ _=>False) (Qr:=fun q w1=>q=[(2,.bool false)]∧S.look.2=false∧cz Λ bs S.look.1 w1∧Kz w w1) ?_ ?_ (fun _ _ _ _ h _=>h.elim) ?_;rotate_left
 ·rintro q w1 ⟨rfl,T',e,h1,k1⟩
  refine CS.of au mixed ?_;exact ⟨⟨by omega,by omega⟩,_,_,⟨i+1,T',rfl,by omega,rfl,e,h1,k1⟩,⟨rfl,rfl,trivial⟩,by omega⟩
 ·rintro q s w1 ⟨rfl,e,h1,k1⟩ hs
  exact ⟨_,hs,by rw [e],h1,k1⟩
 refine CS.block ?_;obtain ⟨q1,q2⟩:=qD (C:=T.C) (k:=(i:Int)) oz.n oz.sz;refine CS.piece (Q:=fun q w3=>∃ b4,q=[(0,.pointer (some ⟨bs,0,none⟩)),(3,.int .i64 i),(4,.pointer (some ⟨b4,0,none⟩))]∧w3.heap[b4]? = some (.cells #[.int .u8 (bV T.C i),.int .u8 (dF T.C i)] 48)∧GB none wk w3∧wk.heap.size≤b4) (CS.of au mixed ?_) ?_
 ·refine ⟨_,nI hmem ⟨oz.n,oz.cl.n⟩ ⟨oz.sz,oz.cl.sz⟩ i (by omega) (by omega),?_⟩
  rintro _ w1 ⟨rfl,g1⟩;refine fun w2 b4 m2 g2 l2=>⟨_,_,_,m2,rfl,rfl,fun w3 m3 g3=>?_⟩
  exact ⟨_,by exact ⟨rfl,rfl,rfl,trivial⟩,b4,rfl,m3,g1.trans (g2.new g3 l2),Nat.le_trans g1.size l2⟩
 rintro q w3 ⟨b4,rfl,m3,G3,lb4⟩;have h3:=hS.ax G3;obtain ⟨l,hl⟩:∃ l,l=(T.C.F (bV T.C i) (dF T.C i)).log:=⟨_,rfl⟩;have hok:=oz.cl.ok _ _ q1 q2;have af3:l.length≤60:=by rw [hl];exact hok.lg
 have hlc:∀ c∈l,A.gc c:=by rw [hl];exact hok.lc
 refine CS.piece (Q:=fun q w4=>∃ la jJ,q=[(0,.pointer (some ⟨bs,0,none⟩)),(3,.int .i64 i),(4,.pointer (some ⟨b4,0,none⟩)),(5,.slice la l.length jJ)]∧mQ w4 (.slice la l.length jJ) l∧GB none w3 w4∧∀ x,(Value.slice la l.length jJ).ownBlock=some x→w3.heap.size≤x) (CS.of au mixed ?_) ?_
 ·refine ⟨by kernel_rfl,_,_,h3.si.mem,_,rfl,_,_,m3,[.int .u8 (bV T.C i),.int .u8 (dF T.C i)],rfl,rfl,_,aaM HN h3.enter oz.cl (bV T.C i) (dF T.C i) q1 q2,?_⟩
  rintro lv w4 ⟨L4,g4,n4⟩;rw [← hl] at L4;obtain ⟨la,jJ,rfl⟩:∃ a c,lv=.slice a l.length c:=by obtain ⟨vs,v1,v2,v3⟩:=L4;exact ag v2
  exact ⟨_,by exact ⟨rfl,rfl,rfl,rfl,trivial⟩,la,jJ,rfl,L4,g4,n4⟩
 rintro q w4 ⟨la,jJ,rfl,L4,g4,n4⟩;have G4:=G3.trans g4;have h4:=hS.ax G4;have m4:=g4.get m3 nofun;have n4':∀ x,(Value.slice la l.length jJ).ownBlock=some x→wk.heap.size≤x:=fun x hx=>by have:=n4 x hx;have:=G3.size;omega
 obtain ⟨be,hbe⟩:∃ b,T.dY[bV T.C i]? = some b:=⟨T.dY[bV T.C i]'(by rw [oz.be];exact q1),by simp [oz.be,q1]⟩;obtain ⟨bv,hbv⟩:∃ b,a.bv[bV T.C i]? = some b:=⟨a.bv[bV T.C i]'(by rw [hS.si.bl,oz.be];exact q1),by simp [hS.si.bl,oz.be,q1]⟩;have QL:T.dY.getD (bV T.C i) []=be:=by rw [List.getD_eq_getElem?_getD,hbe];rfl
 have Lb0:=hS.si.bi _ _ _ hbe hbv;obtain ⟨ba,wJ,rfl⟩:∃ a c,bv=.slice a be.length c:=by obtain ⟨vs,v1,v2,v3⟩:=Lb0;exact ag v2
 refine CS.piece (Q:=fun q w5=>q=[(0,.pointer (some ⟨bs,0,none⟩)),(3,.int .i64 i),(4,.pointer (some ⟨b4,0,none⟩)),(5,.slice la l.length jJ),(6,.slice ba be.length wJ)]∧w5=w4) (CS.of au mixed ?_) ?_
 ·obtain ⟨gb,Ov,ZR,JP,EE,Vf,adx,ady⟩:=rA h4.si.be hbv
  refine ⟨by kernel_rfl,_,_,h4.si.mem,.slice (some ⟨gb,0,none⟩) T.dY.length Ov,by show (fI _ _ _)[4]? = _;unfold fI;rw [JP];rfl,_,_,m4,_,rfl,⟨by omega,by omega⟩,_,_,EE,.slice ba be.length wJ,by show ZR.toList[0+((bV T.C i:Nat):Int).toNat*1]? = _;rw [Nat.zero_add,Nat.mul_one,Int.toNat_natCast];exact Vf,?_⟩;exact ⟨_,by exact ⟨rfl,rfl,rfl,rfl,rfl,trivial⟩,rfl,rfl⟩
 rintro q w4 ⟨rfl,rfl⟩;refine CS.cut (Qn:=fun q w6=>q=[(0,.pointer (some ⟨bs,0,none⟩)),(3,.int .i64 i),(4,.pointer (some ⟨b4,0,none⟩)),(5,.slice la l.length jJ),(6,.slice ba be.length wJ)]∧GB none w4 w6∧qE yL l be=true) (Qx:=fun _ _ _=>False) (Qr:=fun q w6=>q=[(2,.bool false)]∧GB none w4 w6∧qE yL l be=false) ?_ ?_ (fun _ _ _ _ h _=>h.elim) ?_
 ·refine CS.piece (Q:=fun q w6=>q=[(0,.pointer (some ⟨bs,0,none⟩)),(3,.int .i64 i),(4,.pointer (some ⟨b4,0,none⟩)),(5,.slice la l.length jJ),(6,.slice ba be.length wJ),(7,.int .i64 0)]∧w6=w4) (CS.of au mixed ⟨_,by exact ⟨rfl,rfl,rfl,rfl,rfl,rfl,trivial⟩,rfl,rfl⟩) ?_
  rintro q w4 ⟨rfl,rfl⟩;refine CS.block ?_;refine CS.loop (fun m s w5=>∃ k:Nat,m=l.length - k∧k≤l.length∧s=[(0,.pointer (some ⟨bs,0,none⟩)),(3,.int .i64 i),(4,.pointer (some ⟨b4,0,none⟩)),(5,.slice la l.length jJ),(6,.slice ba be.length wJ),(7,.int .i64 k)]∧GB none w4 w5∧∀ (j:Nat) (x y:MC),j<k→l[j]? = some x→be[j]? = some y→yL x y=true) ⟨_,_,⟨0,rfl,Nat.zero_le _,rfl,GB.refl _ _,fun j x y h=>by omega⟩,rfl,rfl,rfl,rfl,rfl,rfl,trivial⟩ ?_;rintro m s w5 ⟨k,rfl,hk,rfl,g5,hall⟩;refine CS.cut (Qn:=fun q w6=>k<l.length∧k<be.length∧q=[(0,.pointer (some ⟨bs,0,none⟩)),(3,.int .i64 i),(4,.pointer (some ⟨b4,0,none⟩)),(5,.slice la l.length jJ),(6,.slice ba be.length wJ),(7,.int .i64 k)]∧w6=w5) (Qx:=fun j q w6=>j=2∧(¬ k<l.length∨¬ k<be.length)∧q=[(0,.pointer (some ⟨bs,0,none⟩)),(3,.int .i64 i),(4,.pointer (some ⟨b4,0,none⟩)),(5,.slice la l.length jJ),(6,.slice ba be.length wJ)]∧w6=w5) (Qr:=fun _ _=>False) (CS.of au mixed ?_) ?_ ?_ (fun _ _ _ h _=>h.elim)
  ·refine aj (fun c2=>?_) (fun c2=>?_)
   ·have d2:k<l.length:=by simp at c2;omega
    refine aj (fun c3=>?_) (fun c3=>?_)
    ·have d3:k<be.length:=by have:=of_decide_eq_true c3;omega
     exact ⟨_,by exact ⟨rfl,rfl,rfl,rfl,rfl,rfl,trivial⟩,d2,d3,rfl,rfl⟩
    ·have d3:¬ k<be.length:=by have:=of_decide_eq_false c3;omega
     exact ⟨_,by exact ⟨rfl,rfl,rfl,rfl,rfl,trivial⟩,rfl,.inr d3,rfl,rfl⟩
   ·have d2:¬ k<l.length:=by simp at c2;omega
    exact ⟨_,by exact ⟨rfl,rfl,rfl,rfl,rfl,trivial⟩,rfl,.inl d2,rfl,rfl⟩
  rotate_left
  ·rintro j q s w6 ⟨rfl,hor,rfl,rfl⟩ hs
   exact ⟨_,hs,rfl,g5,uX fun j x y hj h1 h2=>hall j x y (by have:=(List.getElem?_eq_some_iff.1 h1).1;have:=(List.getElem?_eq_some_iff.1 h2).1;omega) h1 h2⟩
  rintro q w6 ⟨d2,d3,rfl,rfl⟩;have L5:mQ w6 (.slice la l.length jJ) l:=L4.kz g5.kz fun x hx=>by obtain ⟨c,hc⟩:=L4.obj hx;exact g5.block x (ae hc) nofun
  have Lb5:=(h4.ax g5).si.bi _ _ _ hbe hbv;obtain ⟨x,hx⟩:∃ x,l[k]? = some x:=⟨l[k],by simp [d2]⟩;obtain ⟨y,hy⟩:∃ y,be[k]? = some y:=⟨be[k],by simp [d3]⟩;obtain ⟨gx,adz,rvx,dvx,ex,_,hcx,hex,hrx⟩:=L5.el hx;obtain ⟨gy,adA,rvy,dvy,ey,_,hcy,hey,hry⟩:=Lb5.el hy;obtain ⟨rb1,rb2⟩:=HN.rl x (hlc x (List.mem_of_getElem? hx));subst ex;subst ey;refine CS.cut (Qn:=fun q w7=>yL x y=true∧q=[(0,.pointer (some ⟨bs,0,none⟩)),(3,.int .i64 i),(4,.pointer (some ⟨b4,0,none⟩)),(5,.slice (some ⟨gx,0,none⟩) l.length jJ),(6,.slice (some ⟨gy,0,none⟩) be.length wJ),(7,.int .i64 k)]∧GB none w6 w7) (Qx:=fun _ _ _=>False) (Qr:=fun q w7=>yL x y=false∧q=[(2,.bool false)]∧GB none w6 w7) (CS.of au mixed ?_) ?_ (fun _ _ _ _ h _=>h.elim) ?_
  ·have hsc:=WU w6 ⟨rvx,dvx,rfl,hrx⟩ ⟨rvy,dvy,rfl,hry⟩ ⟨by omega,by omega⟩
   obtain ⟨r,hr⟩:∃ r,r=yL x y:=⟨_,rfl⟩;rw [← hr] at hsc ⊢;refine ⟨by kernel_rfl,⟨by omega,by omega⟩,_,_,hcx,cK x rvx dvx,by show aO adz.toList (0+(k:Int).toNat*17) 17=_;rw [Nat.zero_add,Int.toNat_natCast];exact hex,rfl,⟨by omega,by omega⟩,_,_,hcy,cK y rvy dvy,by show aO adA.toList (0+(k:Int).toNat*17) 17=_;rw [Nat.zero_add,Int.toNat_natCast];exact hey,rfl,_,hsc,?_⟩;rintro _ w7 ⟨rfl,g7⟩;cases r
   ·exact ⟨_,by exact ⟨rfl,trivial⟩,rfl,rfl,g7⟩
   ·exact ⟨_,by exact ⟨rfl,rfl,rfl,rfl,rfl,rfl,trivial⟩,rfl,rfl,g7⟩
  ·rintro q w7 ⟨e,rfl,g7⟩
   refine CS.of au mixed ?_;refine ⟨⟨by omega,by omega⟩,_,_,⟨k+1,rfl,by omega,rfl,g5.trans g7,fun j x' y' hj h1 h2=>?_⟩,⟨rfl,rfl,rfl,rfl,rfl,rfl,trivial⟩,by omega⟩;by_cases ej:j=k
   ·subst ej;rw [hx] at h1;rw [hy] at h2;cases h1;cases h2;exact e
   ·exact hall j x' y' (by omega) h1 h2
  ·rintro q s w7 ⟨e,rfl,g7⟩ hs
   exact ⟨_,hs,rfl,g5.trans g7,Fx hx hy e⟩
 rotate_left
 ·rintro q s w6 ⟨rfl,g6,e⟩ hs
  have el:T.gT i=(T,false):=by unfold Sit.gT;rw [QL,← hl,if_pos e]
  exact ⟨_,hs,rfl,by rw [hstop _ el],by rw [hstop _ el];exact ⟨_,_,_,_,_,_,h4.ax g6⟩,K.trans (G4.trans g6).kz⟩
 rintro q w6 ⟨rfl,g6,hzy⟩;have G6:=G4.trans g6;have h6:=hS.ax G6;have m6:=g6.get m4 nofun;have L6:mQ w6 (.slice la l.length jJ) l:=L4.kz g6.kz fun x hx=>by obtain ⟨c,hc⟩:=L4.obj hx;exact g6.block x (ae hc) nofun
 obtain ⟨e1,e2,e3,e4,e5⟩:=T.Ms i;refine CS.piece (Q:=fun q w7=>q=[(0,.pointer (some ⟨bs,0,none⟩)),(3,.int .i64 i),(5,.slice la l.length jJ)]∧∃ a5,dR Λ bs bc (T.dJ i) a5 gv sv B ad w7∧Kz w w7) (CS.of au mixed ?_) ?_
 ·refine aj (fun c=>?_) (fun c=>?_)
  ·have d1:l.length > be.length:=by have:=of_decide_eq_true c;omega
   have eb:T.dJ i={ T with dY:=T.dY.set (bV T.C i) l }:=by unfold Sit.dJ;rw [QL,← hl,if_pos d1]
   obtain ⟨gb,Ov,ZR,JP,EE,Vf,adx,ady⟩:=rA h6.si.be hbv;refine ⟨by kernel_rfl,_,_,h6.si.mem,.slice (some ⟨gb,0,none⟩) T.dY.length Ov,by show (fI _ _ _)[4]? = _;unfold fI;rw [JP];rfl,_,_,m6,_,rfl,⟨by omega,by omega⟩,_,_,_,EE,fC rfl rfl (by show 0+((bV T.C i:Nat):Int).toNat*1<_;omega),rfl,fun w7 m7 g7=>?_⟩;have ZT:=h6.si.be;rw [JP] at ZT;have o7:=own_set' (off:=bV T.C i) (v:=.slice la l.length jJ) ZT EE m7 (by show 0+((bV T.C i:Nat):Int).toNat*1=_;omega) rfl rfl (by omega);have adB:w7.heap[bs]? = _:=g7.get h6.si.mem fun e=>cO h6.si.mem EE (by decide) (Option.some.inj e)
   obtain ⟨h7,k7⟩:=hS.be' (v:=.slice (some ⟨gb,0,none⟩) T.dY.length Ov) (dY:=T.dY.set (bV T.C i) l) (bv:=a.bv.set (bV T.C i) (.slice la l.length jJ)) (w1:=w7) (w2:=w7) G6 (by rw [JP];exact g7) (by rw [List.length_set];exact o7) (fun x hx=>by rw [JP];exact .inl hx) (by rw [List.length_set,List.length_set];exact hS.si.bl) (by rw [adB];unfold fI;rw [JP]) (GB.refl _ _) (fun g l' u p1 p2=>by
    by_cases e:bV T.C i=g
    ·subst e
     rw [List.getElem?_set_self (by rw [oz.be];exact q1)] at p1;rw [List.getElem?_set_self (by rw [hS.si.bl,oz.be];exact q1)] at p2;cases p1;cases p2
     exact .inr ⟨L6,n4'⟩
    ·rw [List.getElem?_set_ne e] at p1 p2
     exact .inl ⟨p1,p2⟩)
   rw [← eb] at h7;exact ⟨_,by exact ⟨rfl,rfl,rfl,trivial⟩,rfl,_,h7,K.trans k7⟩
  ·have d1:¬ l.length > be.length:=by have:=of_decide_eq_false c;omega
   have eb:T.dJ i=T:=by unfold Sit.dJ;rw [QL,← hl,if_neg d1]
   rw [eb];exact ⟨_,by exact ⟨rfl,rfl,rfl,trivial⟩,rfl,_,h6,K.trans G6.kz⟩
 rintro q w7 ⟨rfl,a5,h5,K5⟩;obtain ⟨ln,hln⟩:∃ x,T.len[i]? = some x:=⟨T.len[i]'(by rw [oz.le,Gy];exact c1),by simp [oz.le,Gy,c1]⟩;obtain ⟨fl,hfl⟩:∃ x,T.fell[i]? = some x:=⟨T.fell[i]'(by rw [oz.fe,Gy];exact c1),by simp [oz.fe,Gy,c1]⟩;have ZU:T.len.getD i 0=ln:=by rw [List.getD_eq_getElem?_getD,hln];rfl
 have ZV:T.fell.getD i true=fl:=by rw [List.getD_eq_getElem?_getD,hfl];rfl
 obtain ⟨gl,TU,adD,Mt,Hg,aa3,af4,af5⟩:=rA h5.si.le (k:=i) (x:=.int .i64 (ln:Nat)) (by rw [List.getElem?_map,e2,hln];rfl);obtain ⟨gf,Ow,ZW,JQ,EF,Vg,ZX,adE⟩:=rA h5.si.fe (k:=i) (x:=.bool fl) (by rw [List.getElem?_map,e3,hfl];rfl);have rQ:=h5.si.mem;have adF:decide ((l.length:Int) > 60)=false:=decide_eq_false (by omega);refine CS.cut (Qn:=fun q w8=>¬ (l.length<ln∧fl=false)∧q=[(0,.pointer (some ⟨bs,0,none⟩)),(3,.int .i64 i),(5,.slice la l.length jJ)]∧w8=w7) (Qx:=fun _ _ _=>False) (Qr:=fun q w8=>(l.length<ln∧fl=false)∧q=[(2,.bool false)]∧w8=w7) (CS.of au mixed ?_) ?_ (fun _ _ _ _ h _=>h.elim) ?_
 ·refine aj (fun d=>?_) (fun d=>(by rw [adF] at d;cases d))
  refine ⟨_,_,rQ,.slice (some ⟨gl,0,none⟩) (T.dJ i).len.length TU,by show (fI _ _ _)[5]? = _;unfold fI;rw [Mt];rfl,⟨by omega,by omega⟩,_,_,Hg,.int .i64 (ln:Nat),by show adD.toList[0+(i:Int).toNat*1]? = _;rw [Nat.zero_add,Nat.mul_one,Int.toNat_natCast];exact aa3,?_⟩;refine aj (fun d2=>?_) (fun d2=>?_)
  ·have z2:l.length<ln:=by simp at d2;omega
   refine ⟨_,_,rQ,.slice (some ⟨gf,0,none⟩) (T.dJ i).fell.length Ow,by show (fI _ _ _)[6]? = _;unfold fI;rw [JQ];rfl,⟨by omega,by omega⟩,_,_,EF,.bool fl,by show ZW.toList[0+(i:Int).toNat*1]? = _;rw [Nat.zero_add,Nat.mul_one,Int.toNat_natCast];exact Vg,?_⟩;cases fl
   ·exact ⟨_,by exact ⟨rfl,trivial⟩,⟨z2,rfl⟩,rfl,rfl⟩
   ·exact ⟨_,by exact ⟨rfl,rfl,rfl,trivial⟩,fun h=>(by cases h.2),rfl,rfl⟩
  ·have z2:¬ l.length<ln:=by simp at d2;omega
   exact ⟨_,by exact ⟨rfl,rfl,rfl,trivial⟩,fun h=>z2 h.1,rfl,rfl⟩
 rotate_left
 ·rintro q s w8 ⟨e,rfl,rfl⟩ hs
  have el:T.gT i=(T.dJ i,false):=by unfold Sit.gT;rw [QL,← hl,if_neg (by rw [hzy];decide),if_pos ⟨by rw [ZU];exact e.1,by rw [ZV];exact e.2⟩]
  exact ⟨_,hs,rfl,by rw [hstop _ el],by rw [hstop _ el];exact ⟨_,_,_,_,_,_,h5⟩,K5⟩
 rintro q w8 ⟨hno,rfl,rfl⟩;have el:T.gT i=({ T.dJ i with len:=T.len.set i l.length,fell:=T.fell.set i false },true):=by unfold Sit.gT;rw [QL,← hl,if_neg (by rw [hzy];decide),if_neg (by rw [ZU,ZV];exact hno)]
 refine CS.of au mixed ?_;refine ⟨_,_,rQ,.slice (some ⟨gl,0,none⟩) (T.dJ i).len.length TU,by show (fI _ _ _)[5]? = _;unfold fI;rw [Mt];rfl,⟨by omega,by omega⟩,_,_,_,Hg,fC rfl rfl (by show 0+(i:Int).toNat*1<_;omega),rfl,fun w9 m9 g9=>?_⟩;have ZY:=h5.si.le;rw [Mt] at ZY;have o9:=own_set' (off:=i) (v:=.int .i64 (l.length:Nat)) ZY Hg m9 (by show 0+(i:Int).toNat*1=_;omega) rfl rfl (by omega);have adH:w9.heap[bs]? = _:=g9.get rQ fun e=>cO rQ Hg (by decide) (Option.some.inj e)
 obtain ⟨h9,k9⟩:=h5.le' (v:=.slice (some ⟨gl,0,none⟩) (T.dJ i).len.length TU) (l:=(T.dJ i).len.set i l.length) (w1:=w9) (w2:=w9) (by rw [Mt];exact g9) (by rw [List.length_set,List.map_set];exact o9) (fun x hx=>by rw [Mt];exact .inl hx) (by rw [adH];unfold fI;rw [Mt]) (GB.refl _ _);have wu:=h9.si.mem;obtain ⟨gf',Vh,afP,JR,JU,afi,aa4,afQ⟩:=rA h9.si.fe (k:=i) (x:=.bool fl) (by rw [List.getElem?_map];show ((T.dJ i).fell[i]?).map _=_;rw [e3,hfl];rfl);refine ⟨_,_,wu,.slice (some ⟨gf',0,none⟩) (T.dJ i).fell.length Vh,by show (fI _ _ _)[6]? = _;unfold fI;rw [JR];rfl,⟨by omega,by omega⟩,_,_,_,JU,fC rfl rfl (by show 0+(i:Int).toNat*1<_;omega),rfl,fun wa ma ga=>?_⟩;have ZZ:=h9.si.fe;rw [JR] at ZZ;have oa:=own_set' (off:=i) (v:=.bool false) ZZ JU ma (by show 0+(i:Int).toNat*1=_;omega) rfl rfl (by omega);have adJ:wa.heap[bs]? = _:=ga.get wu fun e=>cO wu JU (by decide) (Option.some.inj e)
 obtain ⟨ha,ka⟩:=h9.ZL (v:=.slice (some ⟨gf',0,none⟩) (T.dJ i).fell.length Vh) (l:=(T.dJ i).fell.set i false) (w1:=wa) (w2:=wa) (by rw [JR];exact ga) (by rw [List.length_set,List.map_set];exact oa) (fun x hx=>by rw [JR];exact .inl hx) (by rw [adJ];unfold fI;rw [JR]) (GB.refl _ _);rw [e2,e3] at ha;exact ⟨_,by exact ⟨rfl,rfl,trivial⟩,rfl,_,hgo _ el,⟨_,_,_,_,_,_,ha⟩,(K5.trans k9).trans ka⟩
end
structure Stp where
 (kind a b:Int)
 d:ByteArray
 q:bH
def Stp.cells (t:Stp):List Value:=[.int .i64 t.kind,.int .i64 t.a,.int .i64 t.b,.string t.d]++t.q.cells
def uY (x:Int):Prop:=-9223372036854775808≤x∧x<9223372036854775808
structure Stp.wf (A:bE) (t:Stp):Prop where
 kind:uY t.kind
 a:uY t.a
 b:uY t.b
 s:0≤t.q.s
 k:0≤t.q.k
 r:A.gc (bZ (dD t.q))
def Sit.doA (_A:bE) (S:Sit) (t:Stp) (m:MM):Sit:={ S with C:=S.C.send (bV S.C t.a) (dF S.C t.a) t.d,asks:=S.asks++[⟨m.q,bV S.C t.a,S.C.q.length⟩] }
def Sit.y7 (A:bE) (S:Sit) (t:Stp):Sit:=match A.dec t.d with
 | some m=>if m.kind=1∧¬ t.d.size > 1000∧S.C.q.length<20000 then S.doA A t m else { S with C:=S.C.send (bV S.C t.a) (dF S.C t.a) t.d }
 | none=>{ S with C:=S.C.send (bV S.C t.a) (dF S.C t.a) t.d }
def Sit.Vi (A:bE) (S:Sit) (t:Stp):Sit:={ S.look.1 with C:=S.look.1.C.gL A (bV S.C t.a) (dF S.C t.a),fell:=S.look.1.fell.set (bA t.a (S.C.n*S.C.sz)) true }
def Sit.y9 (A:bE) (S:Sit) (t:Stp):Nat→Sit×Bool
 | 0=>(if S.C.q.length<20000 then S.sends A (dD t.q) (bV S.C t.a) (dF S.C t.a) else S,!S.bad)
 | 1=>(S.y7 A t,!S.bad)
 | 2=>if 0<S.C.q.length then ({ S with C:=S.C.fM A (bA t.b S.C.q.length) },true) else (S,!S.bad)
 | 3=>if 0<S.C.q.length then ({ S with C:=S.C.fM A ((S.C.q.length:Int) - 1 - (bA t.b S.C.q.length%12:Nat)) },true) else (S,!S.bad)
 | 4=>({ S with C:=S.C.tick A (bV S.C t.a) (dF S.C t.a) },true)
 | 5=>(S.Vi A t,S.look.2)
 | _=>(S.all A (1+bA t.b 60),true)
def Sit.do (A:bE) (S:Sit) (t:Stp):Sit×Bool:=S.y9 A t (bA t.kind 7)
section
variable {A:bE} (HA:bW A) (HN:je A) (HL:wh A) {Λ:bN} {w:World} {bs:Nat} {S:Sit}
include HA HN HL
theorem aa5 (h:cz Λ bs S w) (hF:S.aN A) {t:Stp} (ht:t.wf A) (hj:bA t.kind 7=0):gq Tryz.prog 26 #[.pointer (some ⟨bs,0,none⟩),.agg t.cells.toArray] w (fun v w'=>v=.bool (S.do A t).2∧cz Λ bs (S.do A t).1 w'∧Kz w w'):=by
 have hdo:S.do A t=S.y9 A t 0:=by unfold Sit.do;rw [hj]
 rw [hdo];obtain ⟨bc,a,gv,sv,B,ad,hS⟩:=h;have jr:=hF.cl.n;have hs5:=hF.cl.sz;have hlen:=hF.cl.len;refine rO au mixed Tryz.func26 rfl rfl ?_;refine fun w1 b3 m1 g1 l1=>?_
 have h1:=hS.ax g1;refine ⟨_,_,h1.si.mem,_,rfl,_,(nu h1.enter hlen 0 (by decide) (by decide)).x,?_⟩;rintro lv w2 ⟨o2,g2,_⟩;have e0:S.C.q.length - min (0:Int).toNat S.C.q.length=S.C.q.length:=by simp
 rw [e0] at o2;obtain ⟨la,lc,rfl⟩:=ag o2;clear o2;have h2:=h1.ax g2;obtain ⟨q1,q2⟩:=qD (C:=S.C) (k:=t.a) hF.n hF.sz;refine ⟨_,_,g2.get m1 nofun,_,rfl,_,(nI h2.si.mem ⟨hF.n,jr⟩ ⟨hF.sz,hs5⟩ t.a ht.a.1 ht.a.2).x,?_⟩;rintro _ w3 ⟨rfl,g3⟩;refine fun w4 b6 m4 g4 l4=>⟨_,_,_,m4,rfl,rfl,fun w5 m5 g5=>?_⟩
 have jF:GB none w2 w5:=g3.trans (g4.new g5 l4);have G:GB none w w5:=(g1.trans g2).trans jF;have m15:w5.heap[b3]? = some (.cells t.cells.toArray 95):=(g2.trans jF).get m1 nofun;have pF:w5.heap[b6]? = some (.cells #[.int .u8 (bV S.C t.a),.int .u8 (dF S.C t.a)] 48):=m5;have h5:=hS.ax G;have hmem:=h5.si.mem;have Gz:w.heap.size≤b3:=l1;have GA:w.heap.size≤b6:=Nat.le_trans ((g1.trans g2).trans g3).size l4;have pk:=iR w5 t.kind 7 (by decide) ht.kind.1 ht.kind.2;rw [hj] at pk;refine ⟨_,_,m15,_,rfl,_,pk.x,?_⟩;rintro _ w5 ⟨rfl,rfl⟩;clear m4 m5 g4 g5 l4 jF g3 h2 g2 m1 h1 g1 l1 pk hdo;refine aj (fun c=>?_) (fun c=>?_)
 ·have c1:S.C.q.length<20000:=SE c
  have ek:S.y9 A t 0=(S.sends A (dD t.q) (bV S.C t.a) (dF S.C t.a),!S.bad):=by show (if S.C.q.length<20000 then _ else _,_)=_;rw [if_pos c1]
  refine ⟨by kernel_rfl,_,_,m15,t.q.cells,rfl,rfl,_,_,pF,[.int .u8 (bV S.C t.a),.int .u8 (dF S.C t.a)],rfl,rfl,_,(TP w5 t.q ht.s ht.k).x,?_⟩;rintro _ w6 ⟨rfl,g6⟩;have hak:=hF.ak;refine ⟨⟨g6.get pF nofun,g6.get m15 nofun,trivial⟩,_,(Mo HL ⟨_,_,_,_,_,_,h5.ax g6⟩ hF.cl ht.r q1 q2 (by omega)).x,?_⟩;rintro _ w7 ⟨rfl,h7,k7⟩;rw [ek];obtain ⟨_,_,_,_,_,_,h7⟩:=h7;exact ⟨_,_,h7.si.mem,_,rfl,rfl,⟨_,_,_,_,_,_,h7⟩,(G.kz.trans g6.kz).trans k7⟩
 ·have c1:¬ S.C.q.length<20000:=YS c
  have ek:S.y9 A t 0=(S,!S.bad):=by show (if S.C.q.length<20000 then _ else _,_)=_;rw [if_neg c1]
  rw [ek];exact ⟨_,_,hmem,_,rfl,rfl,⟨_,_,_,_,_,_,h5⟩,G.kz⟩
theorem aa6 (h:cz Λ bs S w) (hF:S.aN A) {t:Stp} (ht:t.wf A) (hj:bA t.kind 7=2):gq Tryz.prog 26 #[.pointer (some ⟨bs,0,none⟩),.agg t.cells.toArray] w (fun v w'=>v=.bool (S.do A t).2∧cz Λ bs (S.do A t).1 w'∧Kz w w'):=by
 have hdo:S.do A t=S.y9 A t 2:=by unfold Sit.do;rw [hj]
 rw [hdo];obtain ⟨bc,a,gv,sv,B,ad,hS⟩:=h;have jr:=hF.cl.n;have hs5:=hF.cl.sz;have hlen:=hF.cl.len;refine rO au mixed Tryz.func26 rfl rfl ?_;refine fun w1 b3 m1 g1 l1=>?_
 have h1:=hS.ax g1;refine ⟨_,_,h1.si.mem,_,rfl,_,(nu h1.enter hlen 0 (by decide) (by decide)).x,?_⟩;rintro lv w2 ⟨o2,g2,_⟩;have e0:S.C.q.length - min (0:Int).toNat S.C.q.length=S.C.q.length:=by simp
 rw [e0] at o2;obtain ⟨la,lc,rfl⟩:=ag o2;clear o2;have h2:=h1.ax g2;obtain ⟨q1,q2⟩:=qD (C:=S.C) (k:=t.a) hF.n hF.sz;refine ⟨_,_,g2.get m1 nofun,_,rfl,_,(nI h2.si.mem ⟨hF.n,jr⟩ ⟨hF.sz,hs5⟩ t.a ht.a.1 ht.a.2).x,?_⟩;rintro _ w3 ⟨rfl,g3⟩;refine fun w4 b6 m4 g4 l4=>⟨_,_,_,m4,rfl,rfl,fun w5 m5 g5=>?_⟩
 have jF:GB none w2 w5:=g3.trans (g4.new g5 l4);have G:GB none w w5:=(g1.trans g2).trans jF;have m15:w5.heap[b3]? = some (.cells t.cells.toArray 95):=(g2.trans jF).get m1 nofun;have pF:w5.heap[b6]? = some (.cells #[.int .u8 (bV S.C t.a),.int .u8 (dF S.C t.a)] 48):=m5;have h5:=hS.ax G;have hmem:=h5.si.mem;have Gz:w.heap.size≤b3:=l1;have GA:w.heap.size≤b6:=Nat.le_trans ((g1.trans g2).trans g3).size l4;have pk:=iR w5 t.kind 7 (by decide) ht.kind.1 ht.kind.2;rw [hj] at pk;refine ⟨_,_,m15,_,rfl,_,pk.x,?_⟩;rintro _ w5 ⟨rfl,rfl⟩;clear m4 m5 g4 g5 l4 jF g3 h2 g2 m1 h1 g1 l1 pk hdo;refine aj (fun c=>?_) (fun c=>?_)
 ·have c1:0<S.C.q.length:=by have:=of_decide_eq_true c;omega
  have ek:S.y9 A t 2=({ S with C:=S.C.fM A (bA t.b S.C.q.length) },true):=if_pos c1;have pb:=iR w5 t.b S.C.q.length c1 ht.b.1 ht.b.2;have lb:=gF t.b c1;refine ⟨by kernel_rfl,_,_,hmem,_,rfl,_,_,m15,_,rfl,_,pb.x,?_⟩;rintro _ w5 ⟨rfl,rfl⟩;refine ⟨⟨m15,hmem,trivial⟩,_,Au HA HN h5.enter hF.cl (bA t.b S.C.q.length:Nat),?_⟩;rintro _ w8 ⟨rfl,hC,k⟩;rw [if_pos ⟨by omega,by omega⟩];obtain ⟨en,ez⟩:=aW.nJ A S.C (bA t.b S.C.q.length:Nat);exact ⟨by rw [ek];rfl,by rw [ek];exact h5.leave en ez hC k,G.kz.trans k⟩
 ·have c1:¬ 0<S.C.q.length:=by have:=of_decide_eq_false c;omega
  have ek:S.y9 A t 2=(S,!S.bad):=if_neg c1;exact ⟨_,_,hmem,_,rfl,by rw [ek],by rw [ek];exact ⟨_,_,_,_,_,_,h5⟩,G.kz⟩
theorem aa7 (h:cz Λ bs S w) (hF:S.aN A) {t:Stp} (ht:t.wf A) (hj:bA t.kind 7=3):gq Tryz.prog 26 #[.pointer (some ⟨bs,0,none⟩),.agg t.cells.toArray] w (fun v w'=>v=.bool (S.do A t).2∧cz Λ bs (S.do A t).1 w'∧Kz w w'):=by
 have hdo:S.do A t=S.y9 A t 3:=by unfold Sit.do;rw [hj]
 rw [hdo];obtain ⟨bc,a,gv,sv,B,ad,hS⟩:=h;have jr:=hF.cl.n;have hs5:=hF.cl.sz;have hlen:=hF.cl.len;refine rO au mixed Tryz.func26 rfl rfl ?_;refine fun w1 b3 m1 g1 l1=>?_
 have h1:=hS.ax g1;refine ⟨_,_,h1.si.mem,_,rfl,_,(nu h1.enter hlen 0 (by decide) (by decide)).x,?_⟩;rintro lv w2 ⟨o2,g2,_⟩;have e0:S.C.q.length - min (0:Int).toNat S.C.q.length=S.C.q.length:=by simp
 rw [e0] at o2;obtain ⟨la,lc,rfl⟩:=ag o2;clear o2;have h2:=h1.ax g2;obtain ⟨q1,q2⟩:=qD (C:=S.C) (k:=t.a) hF.n hF.sz;refine ⟨_,_,g2.get m1 nofun,_,rfl,_,(nI h2.si.mem ⟨hF.n,jr⟩ ⟨hF.sz,hs5⟩ t.a ht.a.1 ht.a.2).x,?_⟩;rintro _ w3 ⟨rfl,g3⟩;refine fun w4 b6 m4 g4 l4=>⟨_,_,_,m4,rfl,rfl,fun w5 m5 g5=>?_⟩
 have jF:GB none w2 w5:=g3.trans (g4.new g5 l4);have G:GB none w w5:=(g1.trans g2).trans jF;have m15:w5.heap[b3]? = some (.cells t.cells.toArray 95):=(g2.trans jF).get m1 nofun;have pF:w5.heap[b6]? = some (.cells #[.int .u8 (bV S.C t.a),.int .u8 (dF S.C t.a)] 48):=m5;have h5:=hS.ax G;have hmem:=h5.si.mem;have Gz:w.heap.size≤b3:=l1;have GA:w.heap.size≤b6:=Nat.le_trans ((g1.trans g2).trans g3).size l4;have pk:=iR w5 t.kind 7 (by decide) ht.kind.1 ht.kind.2;rw [hj] at pk;refine ⟨_,_,m15,_,rfl,_,pk.x,?_⟩;rintro _ w5 ⟨rfl,rfl⟩;clear m4 m5 g4 g5 l4 jF g3 h2 g2 m1 h1 g1 l1 pk hdo;refine aj (fun c=>?_) (fun c=>?_)
 ·have c1:0<S.C.q.length:=by have:=of_decide_eq_true c;omega
  have ek:S.y9 A t 3=({ S with C:=S.C.fM A ((S.C.q.length:Int) - 1 - (bA t.b S.C.q.length%12:Nat)) },true):=if_pos c1;have pb:=iR w5 t.b S.C.q.length c1 ht.b.1 ht.b.2;have lb:=gF t.b c1;have lm:bA t.b S.C.q.length%12≤bA t.b S.C.q.length:=Nat.mod_le _ _;have et:((bA t.b S.C.q.length:Nat):Int).tmod 12=((bA t.b S.C.q.length%12:Nat):Int):=yJ _ 12;refine ⟨by kernel_rfl,_,_,hmem,_,rfl,⟨by omega,by omega⟩,_,_,m15,_,rfl,_,pb.x,?_⟩;rintro _ w5 ⟨rfl,rfl⟩;have hdl:=Au HA HN h5.enter hF.cl ((S.C.q.length:Int) - 1 - (bA t.b S.C.q.length%12:Nat));rw [← et] at hdl;refine ⟨⟨m15,hmem,trivial⟩,by decide,⟨by rw [et];omega,by rw [et];omega⟩,_,hdl,?_⟩;rintro _ w8 ⟨rfl,hC,k⟩;rw [et] at hC ⊢;rw [if_pos ⟨by omega,by omega⟩];obtain ⟨en,ez⟩:=aW.nJ A S.C ((S.C.q.length:Int) - 1 - (bA t.b S.C.q.length%12:Nat));exact ⟨by rw [ek];rfl,by rw [ek];exact h5.leave en ez hC k,G.kz.trans k⟩
 ·have c1:¬ 0<S.C.q.length:=by have:=of_decide_eq_false c;omega
  have ek:S.y9 A t 3=(S,!S.bad):=if_neg c1;exact ⟨_,_,hmem,_,rfl,by rw [ek],by rw [ek];exact ⟨_,_,_,_,_,_,h5⟩,G.kz⟩
theorem aa8 (h:cz Λ bs S w) (hF:S.aN A) {t:Stp} (ht:t.wf A) (hj:bA t.kind 7=4):gq Tryz.prog 26 #[.pointer (some ⟨bs,0,none⟩),.agg t.cells.toArray] w (fun v w'=>v=.bool (S.do A t).2∧cz Λ bs (S.do A t).1 w'∧Kz w w'):=by
 have hdo:S.do A t=S.y9 A t 4:=by unfold Sit.do;rw [hj]
 rw [hdo];obtain ⟨bc,a,gv,sv,B,ad,hS⟩:=h;have jr:=hF.cl.n;have hs5:=hF.cl.sz;have hlen:=hF.cl.len;refine rO au mixed Tryz.func26 rfl rfl ?_;refine fun w1 b3 m1 g1 l1=>?_
 have h1:=hS.ax g1;refine ⟨_,_,h1.si.mem,_,rfl,_,(nu h1.enter hlen 0 (by decide) (by decide)).x,?_⟩;rintro lv w2 ⟨o2,g2,_⟩;have e0:S.C.q.length - min (0:Int).toNat S.C.q.length=S.C.q.length:=by simp
 rw [e0] at o2;obtain ⟨la,lc,rfl⟩:=ag o2;clear o2;have h2:=h1.ax g2;obtain ⟨q1,q2⟩:=qD (C:=S.C) (k:=t.a) hF.n hF.sz;refine ⟨_,_,g2.get m1 nofun,_,rfl,_,(nI h2.si.mem ⟨hF.n,jr⟩ ⟨hF.sz,hs5⟩ t.a ht.a.1 ht.a.2).x,?_⟩;rintro _ w3 ⟨rfl,g3⟩;refine fun w4 b6 m4 g4 l4=>⟨_,_,_,m4,rfl,rfl,fun w5 m5 g5=>?_⟩
 have jF:GB none w2 w5:=g3.trans (g4.new g5 l4);have G:GB none w w5:=(g1.trans g2).trans jF;have m15:w5.heap[b3]? = some (.cells t.cells.toArray 95):=(g2.trans jF).get m1 nofun;have pF:w5.heap[b6]? = some (.cells #[.int .u8 (bV S.C t.a),.int .u8 (dF S.C t.a)] 48):=m5;have h5:=hS.ax G;have hmem:=h5.si.mem;have Gz:w.heap.size≤b3:=l1;have GA:w.heap.size≤b6:=Nat.le_trans ((g1.trans g2).trans g3).size l4;have pk:=iR w5 t.kind 7 (by decide) ht.kind.1 ht.kind.2;rw [hj] at pk;refine ⟨_,_,m15,_,rfl,_,pk.x,?_⟩;rintro _ w5 ⟨rfl,rfl⟩;clear m4 m5 g4 g5 l4 jF g3 h2 g2 m1 h1 g1 l1 pk hdo;refine ⟨by kernel_rfl,_,_,hmem,_,rfl,_,_,pF,[.int .u8 (bV S.C t.a),.int .u8 (dF S.C t.a)],rfl,rfl,_,PZ HA h5.enter hF.cl _ _ (by omega) (by omega),?_⟩;rintro _ w7 ⟨rfl,hC,k⟩;rw [if_pos ⟨q1,q2⟩];obtain ⟨en,ez⟩:=aW.sJ A S.C (bV S.C t.a) (dF S.C t.a);exact ⟨rfl,h5.leave en ez hC k,G.kz.trans k⟩
theorem aa9 (h:cz Λ bs S w) (hF:S.aN A) {t:Stp} (ht:t.wf A) (hj:bA t.kind 7=6):gq Tryz.prog 26 #[.pointer (some ⟨bs,0,none⟩),.agg t.cells.toArray] w (fun v w'=>v=.bool (S.do A t).2∧cz Λ bs (S.do A t).1 w'∧Kz w w'):=by
 have hdo:S.do A t=S.y9 A t 6:=by unfold Sit.do;rw [hj]
 rw [hdo];obtain ⟨bc,a,gv,sv,B,ad,hS⟩:=h;have jr:=hF.cl.n;have hs5:=hF.cl.sz;have hlen:=hF.cl.len;refine rO au mixed Tryz.func26 rfl rfl ?_;refine fun w1 b3 m1 g1 l1=>?_
 have h1:=hS.ax g1;refine ⟨_,_,h1.si.mem,_,rfl,_,(nu h1.enter hlen 0 (by decide) (by decide)).x,?_⟩;rintro lv w2 ⟨o2,g2,_⟩;have e0:S.C.q.length - min (0:Int).toNat S.C.q.length=S.C.q.length:=by simp
 rw [e0] at o2;obtain ⟨la,lc,rfl⟩:=ag o2;clear o2;have h2:=h1.ax g2;obtain ⟨q1,q2⟩:=qD (C:=S.C) (k:=t.a) hF.n hF.sz;refine ⟨_,_,g2.get m1 nofun,_,rfl,_,(nI h2.si.mem ⟨hF.n,jr⟩ ⟨hF.sz,hs5⟩ t.a ht.a.1 ht.a.2).x,?_⟩;rintro _ w3 ⟨rfl,g3⟩;refine fun w4 b6 m4 g4 l4=>⟨_,_,_,m4,rfl,rfl,fun w5 m5 g5=>?_⟩
 have jF:GB none w2 w5:=g3.trans (g4.new g5 l4);have G:GB none w w5:=(g1.trans g2).trans jF;have m15:w5.heap[b3]? = some (.cells t.cells.toArray 95):=(g2.trans jF).get m1 nofun;have pF:w5.heap[b6]? = some (.cells #[.int .u8 (bV S.C t.a),.int .u8 (dF S.C t.a)] 48):=m5;have h5:=hS.ax G;have hmem:=h5.si.mem;have Gz:w.heap.size≤b3:=l1;have GA:w.heap.size≤b6:=Nat.le_trans ((g1.trans g2).trans g3).size l4;have pk:=iR w5 t.kind 7 (by decide) ht.kind.1 ht.kind.2;rw [hj] at pk;refine ⟨_,_,m15,_,rfl,_,pk.x,?_⟩;rintro _ w5 ⟨rfl,rfl⟩;clear m4 m5 g4 g5 l4 jF g3 h2 g2 m1 h1 g1 l1 pk hdo;have pb:=iR w5 t.b 60 (by decide) ht.b.1 ht.b.2;have lb:=gF t.b (show 0<60 by decide);refine ⟨_,_,m15,_,rfl,_,pb.x,?_⟩;rintro _ w5 ⟨rfl,rfl⟩;have hall:=Vd HA HN ⟨_,_,_,_,_,_,h5⟩ hF.cl (1+bA t.b 60) (by omega);rw [Int.natCast_add] at hall;refine ⟨⟨by omega,by omega⟩,_,hall,?_⟩;rintro _ w8 ⟨rfl,h8,k8⟩;exact ⟨rfl,h8,G.kz.trans k8⟩
end
end
end Go.Proofs.YtignemioillaiabGreat
