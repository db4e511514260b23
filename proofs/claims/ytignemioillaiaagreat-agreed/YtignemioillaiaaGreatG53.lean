/- Agreed. -/
import Derived.Test.YtignemioillaiaaGreatG52
import Derived.Test.YtignemioillaiaaGreatG50
namespace Go.Proofs.YtignemioillaiaaGreat
set_option maxHeartbeats 8000000
set_option maxRecDepth 100000
section
open Go Go.Conc
def Fh (w:World) (b:Nat) (s:St):Prop:=∃ T M D O I,w.heap[b]? = some (.cells #[.int .u8 s.g,.int .u8 s.n,T,M,D,O,I] 31)/\iR w T M D O I s
theorem Fh.gb {w w':World} {b:Nat} {s:St} (h:Fh w b s) (g:GB none w w'):Fh w' b s:=by
 obtain ⟨T,M,D,O,I,h1,h2⟩:=h;exact ⟨T,M,D,O,I,g.get h1 nofun,h2.kz g.kz⟩
theorem O5 {w w':World} {b:Nat} {c:Array Value} {t:TypeId} (hm:w.heap[b]? = some (.cells c t)) (ht:¬ t∈Jo) (g:GB (some b) w w'):Kz w w':=g.Aj λ c' t' ht' e=>by rw [hm] at e;injection e with e;injection e with _ e;subst e;exact ht ht'
def um (A:aT) (s:St) (l:List MC):St:=l.foldl (λ s c=>(A.ap s c).1) s
theorem Fj {A:aT} {s:St} {l:List MC} {k:Nat} {c:MC} (h:l[k]? = some c):um A s (l.take (k+1))=(A.ap (um A s (l.take k)) c).1:=by
 unfold um;rw [List.take_add_one,h,List.foldl_append];rfl
theorem ze {A:aT} (HA:bK A) {s:St} (h0:A.good 0 s) {l:List MC} (hl:l.length<=60) (hc:∀ c∈l,A.gc c):∀ k,k<=l.length->A.good k (um A s (l.take k))
 | 0,_=>h0
 | k+1,hk=>by
  obtain ⟨c,e⟩:∃ c,l[k]? = some c:=⟨l[k],by simp [show k<l.length from hk]⟩;rw [Fj e];exact HA.Ii _ _ (by omega) (ze HA h0 hl hc k (by omega)) (hc c (List.mem_of_getElem? e))
section
variable {A L:aT} (HA:bK A) (HN:gL A) (HL:rR A) (HP:rU A) (HB:Rp A) (HA1:bK L) (RO:gL L) (RP:rR L) (HV:Fb L) (hL:L.N=1) (aaJ:∀ s,(A.ap s ky).1=s) {W:World}
include HA HN HL HP HB HA1 RO RP HV hL aaJ
theorem RQ {g f:Int} (hg:wH g) (hf:wH f) (hNA:1+bf g 4=A.N) {l:List Stp} {v:Value} (hl:FzZ W 11 v l.length (l.map Stp.cells).flatten) (hn:l.length<=9223372036854775807) (hwf:∀ t∈l,t.wf A):aK Tryz.prog Tryz.f5.ntmps (Tryz.f5.body.getD .skip) (Ai ah Tryz.f5.results.toList (λ v w'=>v=.bool true/\GB none W w')) (uN [.int .i64 g,.int .i64 f,v] 0) W:=by
 refine aK.piece (Q:=λ q w'=>q=[(0,.int .i64 g),(1,.int .i64 f),(2,v)]/\w'=W) (aK.of ah mixed ⟨_,by exact ⟨rfl,rfl,rfl,trivial⟩,rfl,rfl⟩) ?_;rintro q W ⟨rfl,rfl⟩;refine aK.piece (Q:=λ q w1=>∃ bs S,q=[(7,Ptt bs),(8,.bool true)]/\di (fu W) bs S w1/\cu A S) (aK.of ah mixed ?_) ?_
 ·have hp:=UM HA HN HL HP HA1 RO RP HV hL hg hf hNA hl hn hwf
  obtain ⟨va,vc,rfl,_⟩:=hl;refine ⟨_,hp,?_⟩;rintro _ w1 ⟨bs,S,rfl,h1,i1⟩;exact ⟨_,by exact ⟨rfl,rfl,trivial⟩,bs,S,rfl,h1,i1⟩
 rintro q w1 ⟨bs,S,rfl,h1,hI⟩;refine aK.piece (Q:=λ q w'=>q=[(7,Ptt bs)]/\w'=w1) (aK.of ah mixed ⟨_,by exact ⟨rfl,trivial⟩,rfl,rfl⟩) ?_;rintro q w1 ⟨rfl,rfl⟩;have hF:=hI.fine;have jk:=hF.cl.n;have hs5:=hF.cl.sz;have hle:S.C.n*S.C.sz<=20:=Nat.mul_le_mul jk hs5;have hcast:((S.C.n:Nat):Int)*((S.C.sz:Nat):Int)=((S.C.n*S.C.sz:Nat):Int):=(Int.natCast_mul _ _).symm;refine aK.piece (Q:=λ q w'=>q=[]/\GB none W w') ?_ ?_;rotate_left
 ·rintro q w' ⟨rfl,g'⟩
  refine aK.of ah mixed ?_;exact ⟨rfl,g'⟩
 refine aK.piece (Q:=λ q w'=>q=[(7,Ptt bs),(9,.int .i64 0)]/\w'=w1) (aK.of ah mixed ⟨_,by exact ⟨rfl,rfl,trivial⟩,rfl,rfl⟩) ?_;rintro q w1 ⟨rfl,rfl⟩;refine aK.block ?_;refine aK.loop (λ m s wk=>∃ i:Nat,m=S.C.n*S.C.sz - i/\i<=S.C.n*S.C.sz/\s=[(7,Ptt bs),(9,.int .i64 i)]/\di (fu W) bs S wk) ⟨_,_,⟨0,rfl,Nat.zero_le _,rfl,h1⟩,rfl,rfl,trivial⟩ ?_;clear h1;rintro m s wk ⟨i,rfl,hi,rfl,hK⟩;have hK0:=hK;obtain ⟨bc,a,gv,sv,B,ad,hS⟩:=hK;have hmem:=hS.si.mem;refine aK.cut (Qn:=λ q w'=>i<S.C.n*S.C.sz/\q=[(7,Ptt bs),(9,.int .i64 i)]/\w'=wk) (Qx:=λ j q w'=>j=0/\q=[]/\w'=wk) (Qr:=λ _ _=>False) (aK.of ah mixed ?_) ?_ ?_ (λ _ _ _ h _=>h.elim)
 ·refine ⟨by kernel_rfl,_,_,hmem,_,rfl,_,_,hmem,_,rfl,⟨by rw [hcast];omega,by rw [hcast];omega⟩,?_⟩
  refine aj (λ c=>?_) (λ c=>?_)
  ·exact ⟨_,by exact ⟨rfl,rfl,trivial⟩,by have:=of_decide_eq_true c;rw [hcast] at this;omega,rfl,rfl⟩
  ·exact ⟨_,by exact trivial,rfl,rfl,rfl⟩
 rotate_left
 ·rintro j q s w' ⟨rfl,rfl,rfl⟩ hs
  exact ⟨_,hs,rfl,hK0.snap⟩
 rintro q' wk ⟨c1,rfl,rfl⟩;obtain ⟨q1,q2⟩:=mQ (C:=S.C) (k:=(i:Int)) hF.n hF.sz;refine aK.piece (Q:=λ q w'=>q=[(7,Ptt bs),(9,.int .i64 i)]/\GB none wk w') ?_ ?_;rotate_left
 ·rintro q' w' ⟨rfl,g'⟩
  refine aK.of ah mixed ?_;exact ⟨⟨by omega,by omega⟩,_,_,⟨i+1,rfl,by omega,rfl,_,_,_,_,_,_,hS.ax g'⟩,⟨rfl,rfl,trivial⟩,by omega⟩
 refine aK.block ?_;refine aK.piece (Q:=λ q w3=>∃ b4,q=[(7,Ptt bs),(9,.int .i64 i),(10,Ptt b4)]/\w3.heap[b4]? = some (.cells #[.int .u8 (aX S.C i),.int .u8 (bJ S.C i)] 66)/\GB none wk w3) (aK.of ah mixed ?_) ?_
 ·refine ⟨_,(nH hmem ⟨hF.n,jk⟩ ⟨hF.sz,hs5⟩ i (by omega) (by omega)).x,?_⟩
  rintro _ w1 ⟨rfl,g1⟩;refine λ w2 b4 m2 g2 l2=>⟨_,_,_,m2,rfl,rfl,λ w3 m3 g3=>?_⟩
  exact ⟨_,by exact ⟨rfl,rfl,rfl,trivial⟩,b4,rfl,m3,g1.trans (g2.new g3 l2)⟩
 rintro q' w3 ⟨b4,rfl,m3,g3⟩;have ok:=hF.cl.ok _ _ q1 q2;have at_:=hF.cl.at_ _ _ q1 q2
 obtain ⟨st,hst⟩:∃ st,st=(S.C.F (aX S.C i) (bJ S.C i)).st:=⟨_,rfl⟩;obtain ⟨lg,EB⟩:∃ lg,lg=(S.C.F (aX S.C i) (bJ S.C i)).log:=⟨_,rfl⟩;have UD:lg.length<=60:=by rw [EB];exact ok.lg
 have hlc:∀ c∈lg,A.gc c:=by rw [EB];exact ok.lc
 obtain ⟨s0,hs0⟩:∃ s0,s0=A.bg (aX S.C i) S.C.n:=⟨_,rfl⟩;have hgood:A.good 0 s0:=by rw [hs0];exact HA.Ij _ _ (by rw [<- at_.2.2.1];exact ok.i.2.2.2) q1 jk
 have V6:st=um A s0 lg:=by
  obtain ⟨Γ,c,_⟩:=hI.gh;have:=(c.rv _ _ q1 q2).1.st;rw [at_.1,at_.2.2.1] at this;rw [hst,EB,hs0];exact this
 have hsb:=HB.sb _ (ze HA hgood UD hlc lg.length (Nat.le_refl _));rw [List.take_length,<- V6] at hsb;refine aK.piece (Q:=λ q w4=>∃ la eF,q=[(7,Ptt bs),(9,.int .i64 i),(10,Ptt b4),(11,.slice la lg.length eF)]/\j4 w4 (.slice la lg.length eF) lg/\GB none w3 w4) (aK.of ah mixed ?_) ?_
 ·refine ⟨by kernel_rfl,_,_,(hS.ax g3).si.mem,_,rfl,_,_,m3,[.int .u8 (aX S.C i),.int .u8 (bJ S.C i)],rfl,rfl,_,(Vx HN (hS.ax g3).enter hF.cl (aX S.C i) (bJ S.C i) q1 q2).x,?_⟩
  rintro lv w4 ⟨L4,g4,n4⟩;rw [<- EB] at L4;obtain ⟨la,eF,rfl⟩:∃ a c,lv=.slice a lg.length c:=by obtain ⟨vs,v1,v2,v3⟩:=L4;exact af v2
  exact ⟨_,by exact ⟨rfl,rfl,rfl,rfl,trivial⟩,la,eF,rfl,L4,g4⟩
 rintro q w4 ⟨la,eF,rfl,L4,g4⟩;have G4:=g3.trans g4;have m4:=g4.get m3 nofun;refine aK.piece (Q:=λ q w5=>∃ bx,q=[(7,Ptt bs),(9,.int .i64 i),(10,Ptt b4),(11,.slice la lg.length eF),(12,Ptt bx)]/\Fh w5 bx s0/\GB none w4 w5/\w4.heap.size<=bx) (aK.of ah mixed ?_) ?_
 ·have UN:=λ w'=>(HA.Y6 w' (aX S.C i) S.C.n q1 jk).x
  rw [<- hs0] at UN;refine ⟨by kernel_rfl,_,_,m4,_,rfl,.inl ⟨by omega,?_⟩⟩;refine ⟨_,_,(hS.ax G4).si.mem,_,rfl,?_⟩;refine ⟨⟨_,UN w4,?_⟩,?_⟩
  ·rintro _ v1 ⟨T,M,D,O,I,e,rfl,hs,K1⟩
   obtain ⟨ta,tn,tc,ma,mn,mc,da,dn,dc,oa,on,oc,ia,il,ic,rfl,rfl,rfl,rfl,rfl⟩:=(hs _ λ _ _ _=>rfl).sl;have sh:=hs v1 λ _ _ _=>rfl
   intro v2 b5 m5 K2 L5;refine ⟨⟨(K1.trans K2).get ((hS.ax G4).si.mem) nofun,(K1.trans K2).get m4 nofun,trivial⟩,?_⟩;refine ⟨_,_,_,m5,rfl,rfl,λ w7 m7 g7=>?_⟩;exact ⟨_,by exact ⟨rfl,rfl,rfl,rfl,rfl,trivial⟩,b5,rfl,⟨_,_,_,_,_,m7,(sh.kz K2.kz).kz (O5 m5 (by decide) g7)⟩,K1.trans (K2.new g7 L5),Nat.le_trans K1.size L5⟩
  ·intro v1 b5 m5 K1 L5
   refine ⟨⟨K1.get ((hS.ax G4).si.mem) nofun,K1.get m4 nofun,trivial⟩,_,UN v1,?_⟩;rintro _ v2 ⟨T,M,D,O,I,e,rfl,hs,K2⟩;obtain ⟨ta,tn,tc,ma,mn,mc,da,dn,dc,oa,on,oc,ia,il,ic,rfl,rfl,rfl,rfl,rfl⟩:=(hs _ λ _ _ _=>rfl).sl;have sh:=hs v2 λ _ _ _=>rfl
   refine ⟨_,_,_,K2.get m5 nofun,rfl,rfl,λ w7 m7 g7=>?_⟩;exact ⟨_,by exact ⟨rfl,rfl,rfl,rfl,rfl,trivial⟩,b5,rfl,⟨_,_,_,_,_,m7,sh.kz (O5 (K2.get m5 nofun) (by decide) g7)⟩,(K1.trans K2).new g7 L5,L5⟩
 rintro q w4' ⟨bx,rfl,hx0,g4',lbx⟩;have G4':=G4.trans g4';have L4':j4 w4' (.slice la lg.length eF) lg:=L4.kz g4'.kz λ x hx=>by obtain ⟨c,hc⟩:=L4.obj hx;exact g4'.block x (ae hc) nofun
 have lwx:wk.heap.size<=bx:=Nat.le_trans G4.size lbx;refine aK.piece (Q:=λ q w6=>q=[(7,Ptt bs),(9,.int .i64 i),(10,Ptt b4),(12,Ptt bx)]/\Fh w6 bx st/\GB none wk w6/\w6.heap[b4]? = some (.cells #[.int .u8 (aX S.C i),.int .u8 (bJ S.C i)] 66)) ?_ ?_
 ·refine aK.piece (Q:=λ q w'=>q=[(7,Ptt bs),(9,.int .i64 i),(10,Ptt b4),(11,.slice la lg.length eF),(12,Ptt bx),(14,.int .i64 0)]/\w'=w4') (aK.of ah mixed ⟨_,by exact ⟨rfl,rfl,rfl,rfl,rfl,rfl,trivial⟩,rfl,rfl⟩) ?_
  rintro q w4' ⟨rfl,rfl⟩;refine aK.block ?_;refine aK.loop (λ m s w5=>∃ k:Nat,m=lg.length - k/\k<=lg.length/\s=[(7,Ptt bs),(9,.int .i64 i),(10,Ptt b4),(11,.slice la lg.length eF),(12,Ptt bx),(14,.int .i64 k)]/\Fh w5 bx (um A s0 (lg.take k))/\j4 w5 (.slice la lg.length eF) lg/\GB none wk w5/\w5.heap[b4]? = some (.cells #[.int .u8 (aX S.C i),.int .u8 (bJ S.C i)] 66)) ⟨_,_,⟨0,rfl,Nat.zero_le _,rfl,hx0,L4',G4',g4'.get m4 nofun⟩,rfl,rfl,rfl,rfl,rfl,rfl,trivial⟩ ?_;clear hx0 L4' G4' g4' L4 m4 g4 G4;rintro m s w5 ⟨k,rfl,hk,rfl,hx,L5,G5,m4⟩;refine aK.cut (Qn:=λ q w6=>k<lg.length/\q=[(7,Ptt bs),(9,.int .i64 i),(10,Ptt b4),(11,.slice la lg.length eF),(12,Ptt bx),(14,.int .i64 k)]/\w6=w5) (Qx:=λ j q w6=>j=2/\k=lg.length/\q=[(7,Ptt bs),(9,.int .i64 i),(10,Ptt b4),(12,Ptt bx)]/\w6=w5) (Qr:=λ _ _=>False) (aK.of ah mixed ?_) ?_ ?_ (λ _ _ _ h _=>h.elim)
  ·refine aj (λ c=>?_) (λ c=>?_)
   ·exact ⟨_,by exact ⟨rfl,rfl,rfl,rfl,rfl,rfl,trivial⟩,by have:=of_decide_eq_true c;omega,rfl,rfl⟩
   ·exact ⟨_,by exact ⟨rfl,rfl,rfl,rfl,trivial⟩,rfl,by have:=of_decide_eq_false c;omega,rfl,rfl⟩
  rotate_left
  ·rintro j q s w6 ⟨rfl,rfl,rfl,rfl⟩ hs
   rw [List.take_length,<- V6] at hx;exact ⟨_,hs,rfl,hx,G5,m4⟩
  rintro q w5 ⟨d2,rfl,rfl⟩;obtain ⟨c,hc⟩:∃ c,lg[k]? = some c:=⟨lg[k],by simp [d2]⟩;have mH:=ze HA hgood UD hlc k hk;have hgc:=hlc c (List.mem_of_getElem? hc);rw [show um A s0 (lg.take k)=um A s0 (lg.take k) from rfl] at hx;have ek:=Fj (A:=A) (s:=s0) hc;generalize um A s0 (lg.take k)=sk at *;obtain ⟨s1,hs1⟩:∃ s1,s1=(A.ap sk c).1:=⟨_,rfl⟩;rw [<- hs1] at ek;obtain ⟨Tx,Mx,Dx,Ox,Ix,mx,V7⟩:=hx;obtain ⟨gx,UE,VR,VS,ex,_,hcx,hex,hrx⟩:=L5.el hc;subst ex;have nb4:b4≠bx:=λ e=>by subst e;rw [mx] at m4;injection m4 with m4;injection m4 with m4;injection m4 with m4;simp at m4
  refine aK.piece (Q:=λ q w6=>q=[(7,Ptt bs),(9,.int .i64 i),(10,Ptt b4),(11,.slice (some ⟨gx,0,none⟩) lg.length eF),(12,Ptt bx),(14,.int .i64 k)]/\Fh w6 bx s1/\j4 w6 (.slice (some ⟨gx,0,none⟩) lg.length eF) lg/\GB none wk w6/\w6.heap[b4]? = some (.cells #[.int .u8 (aX S.C i),.int .u8 (bJ S.C i)] 66)) ?_ ?_;rotate_left
  ·rintro q w6 ⟨rfl,hx6,L6,G6,m6⟩
   refine aK.of ah mixed ?_;exact ⟨⟨by omega,by omega⟩,_,_,⟨k+1,rfl,by omega,rfl,by rw [ek];exact hx6,L6,G6,m6⟩,⟨rfl,rfl,rfl,rfl,rfl,rfl,trivial⟩,by omega⟩
  refine aK.block ?_;have hcall:=λ w' (g:GB none w5 w')=>HA.call w' sk c _ _ _ _ _ _ (V7.kz g.kz) mH ⟨_,_,rfl,hrx.kz g.kz⟩ hgc
  rw [<- hs1] at hcall;refine aK.piece (Q:=λ q w6=>∃ by',q=[(7,Ptt bs),(9,.int .i64 i),(10,Ptt b4),(11,.slice (some ⟨gx,0,none⟩) lg.length eF),(12,Ptt bx),(14,.int .i64 k),(15,Ptt by')]/\Fh w6 by' s1/\GB none w5 w6/\by'≠bx) (aK.of ah mixed ?_) ?_
  ·have hx5:=ae mx
   have fin:∀ {vc v3:World} {T M D O I:Value} {b5 b6 s0:Nat},(∀ w'':World,(∀ x,s0<=x->x<vc.heap.size->w''.heap[x]? = vc.heap[x]?)->iR w'' T M D O I s1)->GB none vc v3->GB none w5 v3->(b5<s0\/vc.heap.size<=b5)->(b6<s0\/vc.heap.size<=b6)->w5.heap.size<=b5->(w5.heap.size<=b6/\b5≠b6)->∀ {w7 w8:World},w7.heap[b5]? = some (.cells #[.int .u8 s1.g,.int .u8 s1.n,T,M,D,O,I] 31)->GB (some b5) v3 w7->GB (some b6) w7 w8->∃ by',([(7,Ptt bs),(9,.int .i64 i),(10,Ptt b4),(11,.slice (some ⟨gx,0,none⟩) lg.length eF),(12,Ptt bx),(14,.int .i64 k),(15,Ptt b5)]:Sg)=[(7,Ptt bs),(9,.int .i64 i),(10,Ptt b4),(11,.slice (some ⟨gx,0,none⟩) lg.length eF),(12,Ptt bx),(14,.int .i64 k),(15,Ptt by')]/\Fh w8 by' s1/\GB none w5 w8/\by'≠bx:=λ {vc v3 T M D O I b5 b6 s0} hs kc G e5 e6 l5 l6 w7 w8 m7 g7 g8=>by
    refine ⟨b5,rfl,⟨T,M,D,O,I,g8.get m7 (λ e=>by cases e;exact l6.2 rfl),hs w8 λ x h1 h2=>?_⟩,(G.new g7 l5).new g8 l6.1,by omega⟩;have:=kc.size;have:=g7.size;exact (g8.block x (by omega) (λ e=>by cases e;omega)).trans ((g7.block x (by omega) (λ e=>by cases e;omega)).trans (kc.block x h2 nofun))
   refine ⟨by kernel_rfl,_,_,mx,_,rfl,rfl,⟨by omega,by omega⟩,_,_,hcx,dx c VR VS,by show aL UE.toList (0+(k:Int).toNat*17) 17=_;rw [Nat.zero_add,Int.toNat_natCast];exact hex,rfl,?_⟩;refine ⟨⟨_,(hcall w5 (GB.refl _ _)).x,?_⟩,?_,?_⟩
   ·rintro _ v1 ⟨T,M,D,O,I,rfl,hs,K1⟩
    have G1:GB none w5 v1:=K1;obtain ⟨ta,tn,tc,ma,mn,mc,da,dn,dc,oa,on,oc,ia,il,ic,rfl,rfl,rfl,rfl,rfl⟩:=(hs _ λ _ _ _=>rfl).sl;have z1:=K1.size;refine ⟨?_,?_⟩
    ·intro v2 b5 m5 K2 L5
     have G2:GB none w5 v2:=G1.trans K2;have l5:w5.heap.size<=b5:=Nat.le_trans G1.size L5;have u7:=ae m5;have z2:=K2.size;refine ⟨⟨G2.get hcx nofun,G2.get mx nofun,trivial⟩,?_⟩;intro v3 b6 m6 K3 L6;have G3:GB none w5 v3:=G2.trans K3;have l6:w5.heap.size<=b6:=Nat.le_trans G2.size L6;have ve:=ae m6;have u7:=ae m5;have m5:=K3.get m5 nofun;have z3:=K3.size;refine ⟨⟨G3.get hcx nofun,G3.get mx nofun,trivial⟩,?_⟩;refine ⟨_,_,_,m5,rfl,rfl,λ w7 m7 g7=>⟨_,_,_,g7.get m6 (λ e=>by cases e;omega),rfl,rfl,λ w8 m8 g8=>?_⟩⟩;exact ⟨_,by exact ⟨rfl,rfl,rfl,rfl,rfl,rfl,rfl,trivial⟩,fin (vc:=v1) (s0:=w5.heap.size) hs (K2.trans K3) G3 (by omega) (by omega) l5 (by omega) m7 g7 g8⟩
    ·intro v2 b6 m6 K2 L6
     have G2:GB none w5 v2:=G1.trans K2;have l6:w5.heap.size<=b6:=Nat.le_trans G1.size L6;have ve:=ae m6;have z2:=K2.size;refine ⟨⟨G2.get hcx nofun,G2.get mx nofun,trivial⟩,?_⟩;intro v3 b5 m5 K3 L5;have G3:GB none w5 v3:=G2.trans K3;have l5:w5.heap.size<=b5:=Nat.le_trans G2.size L5;have u7:=ae m5;have ve:=ae m6;have m6:=K3.get m6 nofun;have z3:=K3.size;refine ⟨⟨G3.get hcx nofun,G3.get mx nofun,trivial⟩,?_⟩;refine ⟨_,_,_,m5,rfl,rfl,λ w7 m7 g7=>⟨_,_,_,g7.get m6 (λ e=>by cases e;omega),rfl,rfl,λ w8 m8 g8=>?_⟩⟩;exact ⟨_,by exact ⟨rfl,rfl,rfl,rfl,rfl,rfl,rfl,trivial⟩,fin (vc:=v1) (s0:=w5.heap.size) hs (K2.trans K3) G3 (by omega) (by omega) l5 (by omega) m7 g7 g8⟩
   ·intro v1 b5 m5 K1 L5
    have G1:GB none w5 v1:=K1;have l5:w5.heap.size<=b5:=L5;have u7:=ae m5;have z1:=K1.size;refine ⟨⟨G1.get hcx nofun,G1.get mx nofun,trivial⟩,?_⟩;refine ⟨⟨_,(hcall v1 G1).x,?_⟩,?_⟩
    ·rintro _ v2 ⟨T,M,D,O,I,rfl,hs,K2⟩
     have G2:GB none w5 v2:=G1.trans K2;obtain ⟨ta,tn,tc,ma,mn,mc,da,dn,dc,oa,on,oc,ia,il,ic,rfl,rfl,rfl,rfl,rfl⟩:=(hs _ λ _ _ _=>rfl).sl;have z2:=K2.size;have m5:=K2.get m5 nofun;intro v3 b6 m6 K3 L6;have G3:GB none w5 v3:=G2.trans K3;have l6:w5.heap.size<=b6:=Nat.le_trans G2.size L6;have ve:=ae m6;have u7:=ae m5;have m5:=K3.get m5 nofun;have z3:=K3.size;refine ⟨⟨G3.get hcx nofun,G3.get mx nofun,trivial⟩,?_⟩;refine ⟨_,_,_,m5,rfl,rfl,λ w7 m7 g7=>⟨_,_,_,g7.get m6 (λ e=>by cases e;omega),rfl,rfl,λ w8 m8 g8=>?_⟩⟩;exact ⟨_,by exact ⟨rfl,rfl,rfl,rfl,rfl,rfl,rfl,trivial⟩,fin (vc:=v2) (s0:=v1.heap.size) hs K3 G3 (by omega) (by omega) l5 (by omega) m7 g7 g8⟩
    ·intro v2 b6 m6 K2 L6
     have G2:GB none w5 v2:=G1.trans K2;have l6:w5.heap.size<=b6:=Nat.le_trans G1.size L6;have ve:=ae m6;have u7:=ae m5;have m5:=K2.get m5 nofun;have z2:=K2.size;refine ⟨⟨G2.get hcx nofun,G2.get mx nofun,trivial⟩,?_⟩;refine ⟨_,(hcall v2 G2).x,?_⟩;rintro _ v3 ⟨T,M,D,O,I,rfl,hs,K3⟩;have G3:GB none w5 v3:=G2.trans K3;obtain ⟨ta,tn,tc,ma,mn,mc,da,dn,dc,oa,on,oc,ia,il,ic,rfl,rfl,rfl,rfl,rfl⟩:=(hs _ λ _ _ _=>rfl).sl;have z3:=K3.size;have m5:=K3.get m5 nofun;have m6:=K3.get m6 nofun;refine ⟨_,_,_,m5,rfl,rfl,λ w7 m7 g7=>⟨_,_,_,g7.get m6 (λ e=>by cases e;omega),rfl,rfl,λ w8 m8 g8=>?_⟩⟩;exact ⟨_,by exact ⟨rfl,rfl,rfl,rfl,rfl,rfl,rfl,trivial⟩,fin (vc:=v3) (s0:=v2.heap.size) hs (GB.refl _ _) G3 (by omega) (by omega) l5 (by omega) m7 g7 g8⟩
   ·intro v1 b6 m6 K1 L6
    have G1:GB none w5 v1:=K1;have l6:w5.heap.size<=b6:=L6;have ve:=ae m6;have z1:=K1.size;refine ⟨⟨G1.get hcx nofun,G1.get mx nofun,trivial⟩,?_⟩;refine ⟨⟨_,(hcall v1 G1).x,?_⟩,?_⟩
    ·rintro _ v2 ⟨T,M,D,O,I,rfl,hs,K2⟩
     have G2:GB none w5 v2:=G1.trans K2;obtain ⟨ta,tn,tc,ma,mn,mc,da,dn,dc,oa,on,oc,ia,il,ic,rfl,rfl,rfl,rfl,rfl⟩:=(hs _ λ _ _ _=>rfl).sl;have z2:=K2.size;have m6:=K2.get m6 nofun;intro v3 b5 m5 K3 L5;have G3:GB none w5 v3:=G2.trans K3;have l5:w5.heap.size<=b5:=Nat.le_trans G2.size L5;have u7:=ae m5;have ve:=ae m6;have m6:=K3.get m6 nofun;have z3:=K3.size;refine ⟨⟨G3.get hcx nofun,G3.get mx nofun,trivial⟩,?_⟩;refine ⟨_,_,_,m5,rfl,rfl,λ w7 m7 g7=>⟨_,_,_,g7.get m6 (λ e=>by cases e;omega),rfl,rfl,λ w8 m8 g8=>?_⟩⟩;exact ⟨_,by exact ⟨rfl,rfl,rfl,rfl,rfl,rfl,rfl,trivial⟩,fin (vc:=v2) (s0:=v1.heap.size) hs K3 G3 (by omega) (by omega) l5 (by omega) m7 g7 g8⟩
    ·intro v2 b5 m5 K2 L5
     have G2:GB none w5 v2:=G1.trans K2;have l5:w5.heap.size<=b5:=Nat.le_trans G1.size L5;have u7:=ae m5;have ve:=ae m6;have m6:=K2.get m6 nofun;have z2:=K2.size;refine ⟨⟨G2.get hcx nofun,G2.get mx nofun,trivial⟩,?_⟩;refine ⟨_,(hcall v2 G2).x,?_⟩;rintro _ v3 ⟨T,M,D,O,I,rfl,hs,K3⟩;have G3:GB none w5 v3:=G2.trans K3;obtain ⟨ta,tn,tc,ma,mn,mc,da,dn,dc,oa,on,oc,ia,il,ic,rfl,rfl,rfl,rfl,rfl⟩:=(hs _ λ _ _ _=>rfl).sl;have z3:=K3.size;have m5:=K3.get m5 nofun;have m6:=K3.get m6 nofun;refine ⟨_,_,_,m5,rfl,rfl,λ w7 m7 g7=>⟨_,_,_,g7.get m6 (λ e=>by cases e;omega),rfl,rfl,λ w8 m8 g8=>?_⟩⟩;exact ⟨_,by exact ⟨rfl,rfl,rfl,rfl,rfl,rfl,rfl,trivial⟩,fin (vc:=v3) (s0:=v2.heap.size) hs (GB.refl _ _) G3 (by omega) (by omega) l5 (by omega) m7 g7 g8⟩
  rintro q w6 ⟨by',rfl,hy,g6,ne⟩;obtain ⟨T,M,D,O,I,my,shy⟩:=hy;obtain ⟨ta,tn,tc,ma,mn,mc,da,dn,dc,oa,on,oc,ia,il,ic,rfl,rfl,rfl,rfl,rfl⟩:=V7.sl;obtain ⟨ta',tn',tc',ma',mn',mc',pI,xG,pJ,U9,on',Va,ia',il',ic',rfl,rfl,rfl,rfl,rfl⟩:=shy.sl;refine aK.of ah mixed ?_;refine ⟨_,_,my,_,rfl,rfl,?_⟩;refine ⟨_,_,_,g6.get mx nofun,rfl,rfl,λ w7 m7 g7=>?_⟩;have k7:=O5 (g6.get mx nofun) (by decide) g7;have G7:GB none wk w7:=(G5.trans g6).new g7 lwx;exact ⟨_,by exact ⟨rfl,rfl,rfl,rfl,rfl,rfl,trivial⟩,rfl,⟨_,_,_,_,_,m7,shy.kz k7⟩,L5.kz (g6.kz.trans k7) (λ x hx=>by obtain ⟨c,hc⟩:=L5.obj hx;exact (g7.block x (Nat.lt_of_lt_of_le (ae hc) g6.size) (λ e=>by cases e;rw [mx] at hc;injection hc with hc;injection hc with _ hc;exact absurd hc (by decide))).trans (g6.block x (ae hc) nofun)),G7,g7.get (g6.get m4 nofun) (λ e=>by cases e;exact nb4 rfl)⟩
 rintro q w6 ⟨rfl,hx6,G6,m6⟩;have hs1:=λ w' (g:GB none wk w')=>Xk HA (hS.ax g).enter hF.cl (aX S.C i) (bJ S.C i) q1 q2
 rw [aaJ,<- hst] at hs1;obtain ⟨Tx,Mx,Dx,Ox,Ix,mx,V7⟩:=hx6;refine aK.piece (Q:=λ q w'=>q=[(7,Ptt bs),(9,.int .i64 i),(17,.bool true)]/\GB none wk w') (aK.of ah mixed ?_) ?_
 ·refine ⟨by kernel_rfl,_,_,(hS.ax G6).si.mem,_,rfl,_,_,m6,[.int .u8 (aX S.C i),.int .u8 (bJ S.C i)],rfl,rfl,_,_,mx,_,rfl,rfl,?_⟩
  refine ⟨_,(hs1 w6 G6).x,?_⟩;rintro x1 w7 ⟨sv1,g7⟩;refine ⟨⟨g7.get mx nofun,g7.get m6 nofun,(hS.ax (G6.trans g7)).si.mem,trivial⟩,_,(OY w7 sv1 ⟨_,_,_,_,_,rfl,V7.kz g7.kz⟩ hsb).x,?_⟩;rintro _ w8 ⟨rfl,g8⟩;exact ⟨_,by exact ⟨rfl,rfl,rfl,trivial⟩,rfl,(G6.trans g7).trans g8⟩
 rintro q w7 ⟨rfl,g7⟩;refine aK.of ah mixed ?_;exact ⟨_,by exact ⟨rfl,rfl,trivial⟩,rfl,g7⟩
end
theorem F9 {b:bF} (h:b.W):nb b=b:=by
 unfold nb;rw [Nat.mod_eq_of_lt (Nat.lt_succ_of_le h.1),Nat.mod_eq_of_lt h.2]
theorem RS {m m':MM} (hk:m.kind=2\/m.kind=9\/m.kind=10) (hd:oV (tC m)=some m'):m'.kind=m.kind:=by
 obtain ⟨ok',e⟩:=y9 hd;unfold tC at e;split at e
 case isFalse=>subst e;exact absurd ok' (by decide)
 rw [FV] at e;unfold kI at e;obtain ⟨kd,q,p,b,s,c,vs,r,peer,seq⟩:=m;rcases hk with rfl | rfl | rfl
 ·have e:(dO (dn ([((2:Nat):Int)]++mi p))).1=m':=e
  rw [jR (by decide),VZ] at e;subst e;rfl
 ·have e:(dO (dn ([((9:Nat):Int)]++Ck r))).1=m':=e
  rw [jR (by decide),V3] at e;subst e;rfl
 ·have e:(dO (dn ([((10:Nat):Int)]++([peer]++b32 seq)))).1=m':=e
  rw [jR (by decide),Rv] at e;subst e;rfl
theorem uz {N n:Nat} {m m':MM} (h:MG (qK N) n m) (k:m.kind≠2) (hd:oV (tC m)=some m'):m'=Fe m:=(Rw h hd).elim (λ q=>(k q.1).elim) And.left
theorem aaL (N:Nat):rU (qK N) where
 fC:=λ {k b m} hk hb hd=>by
  rcases hk with rfl | rfl
  ·dsimp only [qK] at hd
   rw [uz (N:=N) (n:=0) (MG.fC (.inl rfl) hb.1) (λ e=>absurd (show (3:Int)=2 from e) (by decide)) hd];simp [Fe,aQ,F9 hb]
  ·dsimp only [qK] at hd
   rw [uz (N:=N) (n:=0) (MG.fC (.inr rfl) hb.1) (λ e=>absurd (show (5:Int)=2 from e) (by decide)) hd];simp [Fe,aQ,F9 hb]
 prom:=λ {b vs m} hb hl hv hd=>by
  have e:vs.map nv=vs:=by
   refine (List.map_congr_left λ v q=>?_).trans (List.map_id _);obtain ⟨_,h2,h3⟩:=hv v q;show (⟨v.slot%4294967296,nb v.b,v.c⟩:MV)=v;rw [Nat.mod_eq_of_lt (Nat.lt_trans h2 (by decide)),F9 h3]
  dsimp only [qK] at hd;rw [uz (N:=N) (n:=0) (MG.promise hb.1 (λ v q=>⟨(hv v q).1,(hv v q).2.1⟩) hl) (λ e=>absurd (show (4:Int)=2 from e) (by decide)) hd];simp [Fe,aQ,F9 hb,e]
 acc:=λ {b s c m} hb hs hc hd=>by
  dsimp only [qK] at hd;rw [uz (N:=N) (n:=0) (MG.accept hb.1 hs hc) (λ e=>absurd (show (6:Int)=2 from e) (by decide)) hd];simp [Fe,aQ,F9 hb,Nat.mod_eq_of_lt (Nat.lt_trans hs (by decide:60<4294967296))]
 pO:=λ {b s m} hb hs hd=>by
  dsimp only [qK] at hd;rw [uz (N:=N) (n:=0) (MG.accepted hb.1 hs) (λ e=>absurd (show (7:Int)=2 from e) (by decide)) hd];simp [Fe,aQ,F9 hb,Nat.mod_eq_of_lt (Nat.lt_trans hs (by decide:60<4294967296))]
 dec:=λ {s c m} hs hc hd=>by
  dsimp only [qK] at hd;rw [uz (N:=N) (n:=0) (MG.decide hs hc) (λ e=>absurd (show (8:Int)=2 from e) (by decide)) hd];simp [Fe,aQ,Nat.mod_eq_of_lt (Nat.lt_trans hs (by decide:60<4294967296))]
 rest:=λ hk hd=>RS hk hd
end
end Go.Proofs.YtignemioillaiaaGreat
