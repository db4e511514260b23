/- Lemmas. -/
import Derived.Test.YtignemioillaiaaGreatG39
namespace Go.Proofs.YtignemioillaiaaGreat
set_option maxHeartbeats 8000000
set_option maxRecDepth 100000
open List
section
open Go Go.Conc
noncomputable def zl(m e:Nat):Array Value:=((List.range (m*bD fD.T e)).map λq=>(zc fD.T e).getD (q%bD fD.T e) undef).toArray
theorem NT{n:Nat}(hn:n<=4):(zl n 103).toList=((replicate n ((0,Ptz,[]):La)).map mV).flatten:=by
 have:n=0\/n=1\/n=2\/n=3\/n=4:=by omega
 rcases this with rfl|rfl|rfl|rfl|rfl<;>rfl
theorem SH{n:Nat}(hn:n<=4):(zl n 47).toList=(replicate n (0:Int)).map λi=>Value.int .u32 i:=by
 have:n=0\/n=1\/n=2\/n=3\/n=4:=by omega
 rcases this with rfl|rfl|rfl|rfl|rfl<;>rfl
structure Bgn(w:World)(g n b4 b6 bM bO bI:Nat)(w':World):Prop where
 m4:w'.heap[b4]? = some (.cells (zc fD.T 31).toArray 31)
 m6:w'.heap[b6]? = some (.cells #[.int .u8 g,.int .u8 n,Ptz,.slice (Pty bM) 1 1,Ptz,.slice (Pty bO) n n,.slice (Pty bI) n n] 31)
 mM:w'.heap[bM]? = some (.cells #[.int .u64 0,.int .u8 0] 107)
 mO:w'.heap[bO]? = some (.cells (zl n 103) 103)
 mI:w'.heap[bI]? = some (.cells (zl n 47) 47)
 gb:GB none w w'
 l4:w.heap.size<=b4
 l6:w.heap.size<=b6
 lM:w.heap.size<=bM
 lO:w.heap.size<=bO
 lI:w.heap.size<=bI
 ne:b4≠b6
theorem GB.cO{r:Option Nat}{w w':World}{b:Nat}(h:GB r w w')(l:w'.heap.size<=b):w.heap.size<=b:=Nat.le_trans h.size l
theorem dQ{w w1 v4 v5:World}{g n b4 bB bP bO bI:Nat}{c:Array Value}(gA:GB none w w1)(k4:GB none w1 v4)(l4:w.heap.size<=b4)(m4:w1.heap[b4]? = some (.cells (zc fD.T 31).toArray 31))(mP:v4.heap[bP]? = some (.cells #[.int .u64 0,.int .u8 0] 107))(mO:v4.heap[bO]? = some (.cells (zl n 103) 103))(mI:v4.heap[bI]? = some (.cells (zl n 47) 47))(mB:v4.heap[bB]? = some (.cells c 31))(LP:w1.heap.size<=bP)(LO:w1.heap.size<=bO)(LI:w1.heap.size<=bI)(LB:w1.heap.size<=bB)(m5:v5.heap[bB]? = some (.cells #[.int .u8 g,.int .u8 n,Ptz,.slice (Pty bP) 1 1,Ptz,.slice (Pty bO) n n,.slice (Pty bI) n n] 31))(K5:GB (some bB) v4 v5):Bgn w g n b4 bB bP bO bI v5:=by
 have j:=ae m4;have z:=gA.size;have o:∀{x t:Nat} {c:Array Value},v4.heap[x]? = some (.cells c t)->t≠31->v5.heap[x]? = some (.cells c t):=λhx ht=>K5.get hx λe=>dw hx mB ht (Option.some.inj e)
 exact⟨K5.get (k4.get m4 nofun) (λe=>by injection e with e;omega),m5,o mP (by decide),o mO (by decide),o mI (by decide),(gA.trans k4).new K5 (by omega),l4,by omega,by omega,by omega,by omega,by omega⟩
theorem Vu(w:World){g n:Nat}(hg:g<n)(hn:n<=4):ag Tryz.prog 8 #[.int .i64 g,.int .i64 n] w (λv w'=>∃T M D O I e,v=.tuple #[.agg (iJ (nY g n) T M D O I).toArray,.int .i64 e]/\(∀w'':World,(∀x,w.heap.size<=x->x<w'.heap.size->w''.heap[x]? = w'.heap[x]?)->fG w'' T M D O I (nY g n))/\GB none w w'):=by
 refine wu fD Tryz.func8 rfl rfl ?_;refine CS.piece (Q:=λq w'=>∃b4,q=[(0,.int .i64 g),(1,.int .i64 n),(4,Ptt b4)]/\w'.heap[b4]? = some (.cells (zc fD.T 31).toArray 31)/\GB none w w'/\w.heap.size<=b4) (CS.e (λw1 b1 m1 g1 l1=>⟨_,by exact⟨rfl,rfl,rfl,trivial⟩,b1,rfl,m1,g1,l1⟩)) ?_;rintro q w1 ⟨b4,rfl,m4,g1,l4⟩;refine CS.piece (Q:=λq w'=>q=[(0,.int .i64 g),(1,.int .i64 n),(4,Ptt b4)]/\w'=w1) (CS.e ?_) ?_
 ·refine aj (λe=>?_) (λe=>?_)
  ·refine aj (λe=>?_) (λe=>?_)
   ·refine aj (λe=>?_) (λe=>?_)
    ·have:=Ptq e
     omega
    ·exact⟨_,by exact⟨rfl,rfl,rfl,trivial⟩,rfl,rfl⟩
   ·have:=Ptq (b00 e)
    omega
  ·have:=Ptq (b00 e)
   omega
 rintro q w1 ⟨rfl,rfl⟩;refine CS.piece (Q:=λq w'=>∃b6 bM bO bI,q=[(4,Ptt b4),(6,Ptt b6)]/\Bgn w g n b4 b6 bM bO bI w') (CS.e ?_) ?_
 ·refine⟨by kernel_rfl,.inl ⟨by omega,.inl ⟨by omega,?_⟩⟩⟩
  refine⟨?_,?_,?_,?_⟩
  ·refine λv1 bP mP K1 LP=>?_
   refine⟨?_,?_,?_⟩
   ·refine⟨rfl,by omega,by omega,λv2 bO mO K2 LO=>?_⟩
    refine⟨?_,?_⟩
    ·refine⟨rfl,by omega,by omega,λv3 bI mI K3 LI=>?_⟩
     refine λv4 bB mB K4 LB=>?_
     refine⟨_,_,_,mB,rfl,rfl,λv5 m5 K5=>⟨_,by exact⟨rfl,rfl,trivial⟩,bB,bP,bO,bI,rfl,dQ g1 (K1.trans (K2.trans (K3.trans K4))) l4 m4 ((K2.trans (K3.trans K4)).get mP nofun) ((K3.trans K4).get mO nofun) (K4.get mI nofun) mB LP (K1.cO LO) ((K1.trans K2).cO LI) ((K1.trans (K2.trans K3)).cO LB) m5 K5⟩⟩
    ·refine λv3 bB mB K3 LB=>?_
     refine⟨rfl,by omega,by omega,λv4 bI mI K4 LI=>?_⟩;refine⟨_,_,_,(K4.get mB nofun),rfl,rfl,λv5 m5 K5=>⟨_,by exact⟨rfl,rfl,trivial⟩,bB,bP,bO,bI,rfl,dQ g1 (K1.trans (K2.trans (K3.trans K4))) l4 m4 ((K2.trans (K3.trans K4)).get mP nofun) ((K3.trans K4).get mO nofun) mI (K4.get mB nofun) LP (K1.cO LO) ((K1.trans (K2.trans K3)).cO LI) ((K1.trans K2).cO LB) m5 K5⟩⟩
   ·refine⟨rfl,by omega,by omega,λv2 bI mI K2 LI=>?_⟩
    refine⟨?_,?_⟩
    ·refine⟨rfl,by omega,by omega,λv3 bO mO K3 LO=>?_⟩
     refine λv4 bB mB K4 LB=>?_
     refine⟨_,_,_,mB,rfl,rfl,λv5 m5 K5=>⟨_,by exact⟨rfl,rfl,trivial⟩,bB,bP,bO,bI,rfl,dQ g1 (K1.trans (K2.trans (K3.trans K4))) l4 m4 ((K2.trans (K3.trans K4)).get mP nofun) (K4.get mO nofun) ((K3.trans K4).get mI nofun) mB LP ((K1.trans K2).cO LO) (K1.cO LI) ((K1.trans (K2.trans K3)).cO LB) m5 K5⟩⟩
    ·refine λv3 bB mB K3 LB=>?_
     refine⟨rfl,by omega,by omega,λv4 bO mO K4 LO=>?_⟩;refine⟨_,_,_,(K4.get mB nofun),rfl,rfl,λv5 m5 K5=>⟨_,by exact⟨rfl,rfl,trivial⟩,bB,bP,bO,bI,rfl,dQ g1 (K1.trans (K2.trans (K3.trans K4))) l4 m4 ((K2.trans (K3.trans K4)).get mP nofun) mO ((K3.trans K4).get mI nofun) (K4.get mB nofun) LP ((K1.trans (K2.trans K3)).cO LO) (K1.cO LI) ((K1.trans K2).cO LB) m5 K5⟩⟩
   ·refine λv2 bB mB K2 LB=>?_
    refine⟨?_,?_⟩
    ·refine⟨rfl,by omega,by omega,λv3 bO mO K3 LO=>?_⟩
     refine⟨rfl,by omega,by omega,λv4 bI mI K4 LI=>?_⟩;refine⟨_,_,_,((K3.trans K4).get mB nofun),rfl,rfl,λv5 m5 K5=>⟨_,by exact⟨rfl,rfl,trivial⟩,bB,bP,bO,bI,rfl,dQ g1 (K1.trans (K2.trans (K3.trans K4))) l4 m4 ((K2.trans (K3.trans K4)).get mP nofun) (K4.get mO nofun) mI ((K3.trans K4).get mB nofun) LP ((K1.trans K2).cO LO) ((K1.trans (K2.trans K3)).cO LI) (K1.cO LB) m5 K5⟩⟩
    ·refine⟨rfl,by omega,by omega,λv3 bI mI K3 LI=>?_⟩
     refine⟨rfl,by omega,by omega,λv4 bO mO K4 LO=>?_⟩;refine⟨_,_,_,((K3.trans K4).get mB nofun),rfl,rfl,λv5 m5 K5=>⟨_,by exact⟨rfl,rfl,trivial⟩,bB,bP,bO,bI,rfl,dQ g1 (K1.trans (K2.trans (K3.trans K4))) l4 m4 ((K2.trans (K3.trans K4)).get mP nofun) mO (K4.get mI nofun) ((K3.trans K4).get mB nofun) LP ((K1.trans (K2.trans K3)).cO LO) ((K1.trans K2).cO LI) (K1.cO LB) m5 K5⟩⟩
  ·refine⟨rfl,by omega,by omega,λv1 bO mO K1 LO=>?_⟩
   refine⟨?_,?_,?_⟩
   ·refine λv2 bP mP K2 LP=>?_
    refine⟨?_,?_⟩
    ·refine⟨rfl,by omega,by omega,λv3 bI mI K3 LI=>?_⟩
     refine λv4 bB mB K4 LB=>?_
     refine⟨_,_,_,mB,rfl,rfl,λv5 m5 K5=>⟨_,by exact⟨rfl,rfl,trivial⟩,bB,bP,bO,bI,rfl,dQ g1 (K1.trans (K2.trans (K3.trans K4))) l4 m4 ((K3.trans K4).get mP nofun) ((K2.trans (K3.trans K4)).get mO nofun) (K4.get mI nofun) mB (K1.cO LP) LO ((K1.trans K2).cO LI) ((K1.trans (K2.trans K3)).cO LB) m5 K5⟩⟩
    ·refine λv3 bB mB K3 LB=>?_
     refine⟨rfl,by omega,by omega,λv4 bI mI K4 LI=>?_⟩;refine⟨_,_,_,(K4.get mB nofun),rfl,rfl,λv5 m5 K5=>⟨_,by exact⟨rfl,rfl,trivial⟩,bB,bP,bO,bI,rfl,dQ g1 (K1.trans (K2.trans (K3.trans K4))) l4 m4 ((K3.trans K4).get mP nofun) ((K2.trans (K3.trans K4)).get mO nofun) mI (K4.get mB nofun) (K1.cO LP) LO ((K1.trans (K2.trans K3)).cO LI) ((K1.trans K2).cO LB) m5 K5⟩⟩
   ·refine⟨rfl,by omega,by omega,λv2 bI mI K2 LI=>?_⟩
    refine⟨?_,?_⟩
    ·refine λv3 bP mP K3 LP=>?_
     refine λv4 bB mB K4 LB=>?_
     refine⟨_,_,_,mB,rfl,rfl,λv5 m5 K5=>⟨_,by exact⟨rfl,rfl,trivial⟩,bB,bP,bO,bI,rfl,dQ g1 (K1.trans (K2.trans (K3.trans K4))) l4 m4 (K4.get mP nofun) ((K2.trans (K3.trans K4)).get mO nofun) ((K3.trans K4).get mI nofun) mB ((K1.trans K2).cO LP) LO (K1.cO LI) ((K1.trans (K2.trans K3)).cO LB) m5 K5⟩⟩
    ·refine λv3 bB mB K3 LB=>?_
     refine λv4 bP mP K4 LP=>?_
     refine⟨_,_,_,(K4.get mB nofun),rfl,rfl,λv5 m5 K5=>⟨_,by exact⟨rfl,rfl,trivial⟩,bB,bP,bO,bI,rfl,dQ g1 (K1.trans (K2.trans (K3.trans K4))) l4 m4 mP ((K2.trans (K3.trans K4)).get mO nofun) ((K3.trans K4).get mI nofun) (K4.get mB nofun) ((K1.trans (K2.trans K3)).cO LP) LO (K1.cO LI) ((K1.trans K2).cO LB) m5 K5⟩⟩
   ·refine λv2 bB mB K2 LB=>?_
    refine⟨?_,?_⟩
    ·refine λv3 bP mP K3 LP=>?_
     refine⟨rfl,by omega,by omega,λv4 bI mI K4 LI=>?_⟩;refine⟨_,_,_,((K3.trans K4).get mB nofun),rfl,rfl,λv5 m5 K5=>⟨_,by exact⟨rfl,rfl,trivial⟩,bB,bP,bO,bI,rfl,dQ g1 (K1.trans (K2.trans (K3.trans K4))) l4 m4 (K4.get mP nofun) ((K2.trans (K3.trans K4)).get mO nofun) mI ((K3.trans K4).get mB nofun) ((K1.trans K2).cO LP) LO ((K1.trans (K2.trans K3)).cO LI) (K1.cO LB) m5 K5⟩⟩
    ·refine⟨rfl,by omega,by omega,λv3 bI mI K3 LI=>?_⟩
     refine λv4 bP mP K4 LP=>?_
     refine⟨_,_,_,((K3.trans K4).get mB nofun),rfl,rfl,λv5 m5 K5=>⟨_,by exact⟨rfl,rfl,trivial⟩,bB,bP,bO,bI,rfl,dQ g1 (K1.trans (K2.trans (K3.trans K4))) l4 m4 mP ((K2.trans (K3.trans K4)).get mO nofun) (K4.get mI nofun) ((K3.trans K4).get mB nofun) ((K1.trans (K2.trans K3)).cO LP) LO ((K1.trans K2).cO LI) (K1.cO LB) m5 K5⟩⟩
  ·refine⟨rfl,by omega,by omega,λv1 bI mI K1 LI=>?_⟩
   refine⟨?_,?_,?_⟩
   ·refine λv2 bP mP K2 LP=>?_
    refine⟨?_,?_⟩
    ·refine⟨rfl,by omega,by omega,λv3 bO mO K3 LO=>?_⟩
     refine λv4 bB mB K4 LB=>?_
     refine⟨_,_,_,mB,rfl,rfl,λv5 m5 K5=>⟨_,by exact⟨rfl,rfl,trivial⟩,bB,bP,bO,bI,rfl,dQ g1 (K1.trans (K2.trans (K3.trans K4))) l4 m4 ((K3.trans K4).get mP nofun) (K4.get mO nofun) ((K2.trans (K3.trans K4)).get mI nofun) mB (K1.cO LP) ((K1.trans K2).cO LO) LI ((K1.trans (K2.trans K3)).cO LB) m5 K5⟩⟩
    ·refine λv3 bB mB K3 LB=>?_
     refine⟨rfl,by omega,by omega,λv4 bO mO K4 LO=>?_⟩;refine⟨_,_,_,(K4.get mB nofun),rfl,rfl,λv5 m5 K5=>⟨_,by exact⟨rfl,rfl,trivial⟩,bB,bP,bO,bI,rfl,dQ g1 (K1.trans (K2.trans (K3.trans K4))) l4 m4 ((K3.trans K4).get mP nofun) mO ((K2.trans (K3.trans K4)).get mI nofun) (K4.get mB nofun) (K1.cO LP) ((K1.trans (K2.trans K3)).cO LO) LI ((K1.trans K2).cO LB) m5 K5⟩⟩
   ·refine⟨rfl,by omega,by omega,λv2 bO mO K2 LO=>?_⟩
    refine⟨?_,?_⟩
    ·refine λv3 bP mP K3 LP=>?_
     refine λv4 bB mB K4 LB=>?_
     refine⟨_,_,_,mB,rfl,rfl,λv5 m5 K5=>⟨_,by exact⟨rfl,rfl,trivial⟩,bB,bP,bO,bI,rfl,dQ g1 (K1.trans (K2.trans (K3.trans K4))) l4 m4 (K4.get mP nofun) ((K3.trans K4).get mO nofun) ((K2.trans (K3.trans K4)).get mI nofun) mB ((K1.trans K2).cO LP) (K1.cO LO) LI ((K1.trans (K2.trans K3)).cO LB) m5 K5⟩⟩
    ·refine λv3 bB mB K3 LB=>?_
     refine λv4 bP mP K4 LP=>?_
     refine⟨_,_,_,(K4.get mB nofun),rfl,rfl,λv5 m5 K5=>⟨_,by exact⟨rfl,rfl,trivial⟩,bB,bP,bO,bI,rfl,dQ g1 (K1.trans (K2.trans (K3.trans K4))) l4 m4 mP ((K3.trans K4).get mO nofun) ((K2.trans (K3.trans K4)).get mI nofun) (K4.get mB nofun) ((K1.trans (K2.trans K3)).cO LP) (K1.cO LO) LI ((K1.trans K2).cO LB) m5 K5⟩⟩
   ·refine λv2 bB mB K2 LB=>?_
    refine⟨?_,?_⟩
    ·refine λv3 bP mP K3 LP=>?_
     refine⟨rfl,by omega,by omega,λv4 bO mO K4 LO=>?_⟩;refine⟨_,_,_,((K3.trans K4).get mB nofun),rfl,rfl,λv5 m5 K5=>⟨_,by exact⟨rfl,rfl,trivial⟩,bB,bP,bO,bI,rfl,dQ g1 (K1.trans (K2.trans (K3.trans K4))) l4 m4 (K4.get mP nofun) mO ((K2.trans (K3.trans K4)).get mI nofun) ((K3.trans K4).get mB nofun) ((K1.trans K2).cO LP) ((K1.trans (K2.trans K3)).cO LO) LI (K1.cO LB) m5 K5⟩⟩
    ·refine⟨rfl,by omega,by omega,λv3 bO mO K3 LO=>?_⟩
     refine λv4 bP mP K4 LP=>?_
     refine⟨_,_,_,((K3.trans K4).get mB nofun),rfl,rfl,λv5 m5 K5=>⟨_,by exact⟨rfl,rfl,trivial⟩,bB,bP,bO,bI,rfl,dQ g1 (K1.trans (K2.trans (K3.trans K4))) l4 m4 mP (K4.get mO nofun) ((K2.trans (K3.trans K4)).get mI nofun) ((K3.trans K4).get mB nofun) ((K1.trans (K2.trans K3)).cO LP) ((K1.trans K2).cO LO) LI (K1.cO LB) m5 K5⟩⟩
  ·refine λv1 bB mB K1 LB=>?_
   refine⟨?_,?_,?_⟩
   ·refine λv2 bP mP K2 LP=>?_
    refine⟨?_,?_⟩
    ·refine⟨rfl,by omega,by omega,λv3 bO mO K3 LO=>?_⟩
     refine⟨rfl,by omega,by omega,λv4 bI mI K4 LI=>?_⟩;refine⟨_,_,_,((K2.trans (K3.trans K4)).get mB nofun),rfl,rfl,λv5 m5 K5=>⟨_,by exact⟨rfl,rfl,trivial⟩,bB,bP,bO,bI,rfl,dQ g1 (K1.trans (K2.trans (K3.trans K4))) l4 m4 ((K3.trans K4).get mP nofun) (K4.get mO nofun) mI ((K2.trans (K3.trans K4)).get mB nofun) (K1.cO LP) ((K1.trans K2).cO LO) ((K1.trans (K2.trans K3)).cO LI) LB m5 K5⟩⟩
    ·refine⟨rfl,by omega,by omega,λv3 bI mI K3 LI=>?_⟩
     refine⟨rfl,by omega,by omega,λv4 bO mO K4 LO=>?_⟩;refine⟨_,_,_,((K2.trans (K3.trans K4)).get mB nofun),rfl,rfl,λv5 m5 K5=>⟨_,by exact⟨rfl,rfl,trivial⟩,bB,bP,bO,bI,rfl,dQ g1 (K1.trans (K2.trans (K3.trans K4))) l4 m4 ((K3.trans K4).get mP nofun) mO (K4.get mI nofun) ((K2.trans (K3.trans K4)).get mB nofun) (K1.cO LP) ((K1.trans (K2.trans K3)).cO LO) ((K1.trans K2).cO LI) LB m5 K5⟩⟩
   ·refine⟨rfl,by omega,by omega,λv2 bO mO K2 LO=>?_⟩
    refine⟨?_,?_⟩
    ·refine λv3 bP mP K3 LP=>?_
     refine⟨rfl,by omega,by omega,λv4 bI mI K4 LI=>?_⟩;refine⟨_,_,_,((K2.trans (K3.trans K4)).get mB nofun),rfl,rfl,λv5 m5 K5=>⟨_,by exact⟨rfl,rfl,trivial⟩,bB,bP,bO,bI,rfl,dQ g1 (K1.trans (K2.trans (K3.trans K4))) l4 m4 (K4.get mP nofun) ((K3.trans K4).get mO nofun) mI ((K2.trans (K3.trans K4)).get mB nofun) ((K1.trans K2).cO LP) (K1.cO LO) ((K1.trans (K2.trans K3)).cO LI) LB m5 K5⟩⟩
    ·refine⟨rfl,by omega,by omega,λv3 bI mI K3 LI=>?_⟩
     refine λv4 bP mP K4 LP=>?_
     refine⟨_,_,_,((K2.trans (K3.trans K4)).get mB nofun),rfl,rfl,λv5 m5 K5=>⟨_,by exact⟨rfl,rfl,trivial⟩,bB,bP,bO,bI,rfl,dQ g1 (K1.trans (K2.trans (K3.trans K4))) l4 m4 mP ((K3.trans K4).get mO nofun) (K4.get mI nofun) ((K2.trans (K3.trans K4)).get mB nofun) ((K1.trans (K2.trans K3)).cO LP) (K1.cO LO) ((K1.trans K2).cO LI) LB m5 K5⟩⟩
   ·refine⟨rfl,by omega,by omega,λv2 bI mI K2 LI=>?_⟩
    refine⟨?_,?_⟩
    ·refine λv3 bP mP K3 LP=>?_
     refine⟨rfl,by omega,by omega,λv4 bO mO K4 LO=>?_⟩;refine⟨_,_,_,((K2.trans (K3.trans K4)).get mB nofun),rfl,rfl,λv5 m5 K5=>⟨_,by exact⟨rfl,rfl,trivial⟩,bB,bP,bO,bI,rfl,dQ g1 (K1.trans (K2.trans (K3.trans K4))) l4 m4 (K4.get mP nofun) mO ((K3.trans K4).get mI nofun) ((K2.trans (K3.trans K4)).get mB nofun) ((K1.trans K2).cO LP) ((K1.trans (K2.trans K3)).cO LO) (K1.cO LI) LB m5 K5⟩⟩
    ·refine⟨rfl,by omega,by omega,λv3 bO mO K3 LO=>?_⟩
     refine λv4 bP mP K4 LP=>?_
     refine⟨_,_,_,((K2.trans (K3.trans K4)).get mB nofun),rfl,rfl,λv5 m5 K5=>⟨_,by exact⟨rfl,rfl,trivial⟩,bB,bP,bO,bI,rfl,dQ g1 (K1.trans (K2.trans (K3.trans K4))) l4 m4 mP (K4.get mO nofun) ((K3.trans K4).get mI nofun) ((K2.trans (K3.trans K4)).get mB nofun) ((K1.trans (K2.trans K3)).cO LP) ((K1.trans K2).cO LO) (K1.cO LI) LB m5 K5⟩⟩
 rintro q w2 ⟨b6,bM,bO,bI,rfl,B⟩;have hO:LN 103 2 w w2 (.slice (Pty bO) n n) n ((replicate n ((0,Ptz,[]):La)).map mV).flatten:=by
  have hl:(((replicate n ((0,Ptz,[]):La)).map mV).flatten).length=n*2:=by rw[kF (f:=mV) (size:=2) (λ_=>rfl),length_replicate]
  refine⟨⟨hl,.inr ⟨bO,n,_,rfl,Nat.zero_le _,B.mO,Nat.le_refl _,Nat.le_trans hn (by decide),?_,?_⟩⟩,B.gb,λy hy=>by have:=B.lO;simp[Value.ownBlock]at hy;omega⟩
  ·rw[<-Array.length_toList,NT hn,hl]
  ·rw[NT hn,take_of_length_le (by rw[hl];exact Nat.le_refl _)]
 have hI:LN 47 1 w w2 (.slice (Pty bI) n n) n ((replicate n (0:Int)).map λi=>Value.int .u32 i):=by
  have hl:((replicate n (0:Int)).map λi=>Value.int .u32 i).length=n*1:=by rw[length_map,length_replicate];omega
  refine⟨⟨hl,.inr ⟨bI,n,_,rfl,Nat.zero_le _,B.mI,Nat.le_refl _,Nat.le_trans hn (by decide),?_,?_⟩⟩,B.gb,λy hy=>by have:=B.lI;simp[Value.ownBlock]at hy;omega⟩
  ·rw[<-Array.length_toList,SH hn,hl]
  ·rw[SH hn,take_of_length_le (by rw[hl];exact Nat.le_refl _)]
 have hM:PN w w2 (.slice (Pty bM) 1 1) [⟨0,0⟩]:=⟨⟨rfl,.inr ⟨bM,1,_,rfl,Nat.zero_le _,B.mM,Nat.le_refl _,by decide,rfl,rfl⟩⟩,B.gb,λy hy=>by have:=B.lM;simp[Value.ownBlock]at hy;omega⟩;refine CS.e ?_;refine⟨_,_,B.m6,_,rfl,?_⟩;refine⟨λm t wk=>∃(i:Nat) (ls:List La),m=n - i/\i<=n/\t=[(4,Ptt b4),(6,Ptt b6),(37,.int .i64 n),(38,.int .i64 i)]/\ls.length=n/\LN 103 2 w wk (.slice (Pty bO) ls.length n) ls.length (ls.map mV).flatten/\(∀j,ls[j]? = if j<i then some (1,Ptz,[])else if j<n then some (0,Ptz,[])else none)/\GB (some bO) w2 wk,⟨_,_,⟨0,replicate n (0,Ptz,[]),rfl,Nat.zero_le _,rfl,length_replicate,by rw[length_replicate];exact hO,λj=>?_,GB.refl _ _⟩,rfl,rfl,rfl,rfl,trivial⟩,?_⟩
 ·rw[if_neg (by omega),getElem?_replicate]
 have Xb:∀{c:Array Value} {x t:Nat},w2.heap[x]? = some (.cells c t)->t≠103->some x≠some bO:=λhx ht e=>dw hx B.mO ht (Option.some.inj e)
 rintro m t wk ⟨i,ls,rfl,hi,rfl,hll,L,hat,gk⟩;have m6:=gk.get B.m6 (Xb B.m6 (by decide));refine aj (λd=>?_) (λd=>?_)
 ·have d1:i<n:=by have:=Ptq d;omega
  have hx:ls[i]? = some (0,Ptz,[]):=by rw[hat,if_neg (by omega),if_pos d1]
  obtain⟨g',cap',cur,ev,hg',aR,hcut,hsz⟩:=L.at (f:=mV) (λ_=>rfl) hx;injection ev with ea _ ec;injection ea with ea;injection ea with ea;subst ea ec;refine⟨_,_,m6,_,rfl,by omega,_,_,_,aR,gH rfl rfl (by rw[Array.length_toList];show 0+(i:Int).toNat*2+0<_;omega),rfl,λw3 m3 g3=>?_⟩;have L3:=L.set (f:=mV) (j:=0) (x':=(1,Ptz,[])) (λ_=>rfl) aR hx (by decide) rfl m3 (by show 0+(i:Int).toNat*2+0=i*2+0;rw[Int.toNat_natCast,Nat.zero_add]) rfl rfl g3;refine⟨by omega,_,_,⟨i+1,ls.set i (1,Ptz,[]),rfl,by omega,rfl,by rw[length_set];exact hll,L3,λj=>?_,gk.trans g3⟩,⟨rfl,rfl,rfl,rfl,trivial⟩,by omega⟩;rw[ji (by omega),hat];by_cases e1:j=i
  ·rw[if_pos e1,if_pos (by omega)]
  ·rw[if_neg e1]
   by_cases e2:j<i
   ·rw[if_pos e2,if_pos (by omega)]
   ·rw[if_neg e2,if_neg (show ¬j<i+1 by omega)]
 ·have d1:i=n:=by have:=Ptx d;omega
  subst d1;have hls:ls=replicate i (1,Ptz,[]):=by
   refine ext_getElem? λj=>?_
   rw[hat,getElem?_replicate];by_cases e:j<i
   ·rw[if_pos e,if_pos e]
   ·rw[if_neg e,if_neg e,if_neg e]
  have gw:GB none w wk:=L.gb;have hIk:=hI.off gk (λx hx=>by cases hx;exact λz=>Xb B.mI (by decide) (by simpa[Value.ownBlock]using z)) gw;have hMk:=hM.off gk (λx hx=>by cases hx;exact λz=>Xb B.mM (by decide) (by simpa[Value.ownBlock]using z)) gw;have S:SA w wk (nY g i) Ptz (.slice (Pty bM) 1 1) Ptz (.slice (Pty bO) i i) (.slice (Pty bI) i i) ls:=by
   have hmem:∀l∈ls,l=(1,Ptz,[]):=λl hl=>by rw[hls]at hl;exact eq_of_mem_replicate hl
   refine⟨LN.nil gw,hMk,LN.nil gw,by rw[<-hll];rw[hll]at L |-;exact L,by show LN _ _ _ _ _ (replicate i (0:Int)).length _;rw[length_replicate];exact hIk,λl hl=>?_,?_,λl hl x hx=>?_,λl hl x hx=>?_,λa b l l' _ hl _ y hy=>?_⟩
   ·rw[hmem l hl];exact⟨LN.nil gw,λx hx=>by cases hx⟩
   ·show ls.map NM=replicate i (1,[])
    rw[hls,map_replicate];rfl
   ·rw[hmem l hl]at hx;cases hx
   ·rw[hmem l hl]at hx;cases hx
   ·rw[hmem l (List.mem_of_getElem? hl)]at hy;cases hy
  have m4k:=gk.get B.m4 (Xb B.m4 (by decide));refine⟨_,_,m6,iJ (nY g i) Ptz (.slice (Pty bM) 1 1) Ptz (.slice (Pty bO) i i) (.slice (Pty bI) i i),rfl,rfl,_,_,_,m4k,rfl,rfl,λw3 m3 g3=>?_⟩;refine⟨_,_,m3,iJ (nY g i) Ptz (.slice (Pty bM) 1 1) Ptz (.slice (Pty bO) i i) (.slice (Pty bI) i i),rfl,rfl,_,_,_,_,_,_,rfl,λw'' hw=>?_,gw.new g3 B.l4⟩;have S3:=S.bV g3 m4k (by decide) (by decide) (by decide) (by decide) (by decide) (by decide) B.l4;exact S3.over hw
structure Row.b(x:Row):Prop where
 k:iN x.key
 v:iN x.val
structure aA.b(p:aA):Prop where
 c:U8 p.c
 s:rW p.s
 key:iN p.key
 k:U8 p.k
 v:iN p.v
 g:U8 p.g
structure bQ.b(q:bQ):Prop where
 c:U8 q.c
 s:rW q.s
 k:U8 q.k
 key:iN q.key
 v:iN q.v
 hi:iN q.hi
 to:U8 q.to
structure Rg.b(r:Rg):Prop where
 src:U8 r.src
 dst:U8 r.dst
 seq:rW r.seq
 lo:iN r.lo
 hi:iN r.hi
 rows:∀x∈r.rows,x.b
 aZ:∀x∈r.aZ,x.b
 rl:r.rows.length<=20000
 dl:r.aZ.length<=20000
structure jO(N:Nat)(c:MC):Prop where
 kind:U8 c.kind
 q:c.q.b
 r:c.r.b
 peer:U8 c.peer
 seq:rW c.seq
 src:c.kind=2->c.r.src<N
 ask:c.kind=1->jN c.q=true
structure dB(N k:Nat)(s:St):Prop where
 xz:k<=61
 ok:rO s
 n:s.n=N
 t:s.T.length<=256*k
 tb:∀x∈s.T,x.b
 d:s.D.length<=256*k
 db:∀x∈s.D,x.b
 o:∀o∈s.O,o.2.length<=4/\1<=o.1/\o.1<=k+1/\∀r∈o.2,r.src=s.g/\r.b
 i:∀x∈s.I,0<=x/\x<=k
theorem Lb{α:Type}{l:List α}{i:Nat}{a x:α}(h:x∈kQ l i a):x=a\/x∈l:=by
 unfold kQ at h;rcases mem_append.1 h with h|h
 ·exact .inr (mem_of_mem_take h)
 ·rcases mem_cons.1 h with h|h
  ·exact .inl h
  ·exact .inr (mem_of_mem_drop h)
theorem Vv{T:List Row}{key v:Int}{x:Row}(h:x∈pg T key v):x=⟨key,v⟩\/x∈T:=by
 unfold pg at h;split at h
 ·exact wE h
 ·split at h
  ·exact .inr h
  ·exact Lb h
theorem Vw{T:List Row}{key:Int}{x:Row}(h:x∈xP T key):x∈T:=by
 unfold xP at h;split at h
 ·exact(eraseIdx_sublist _ _).subset h
 ·exact h
theorem Vx{D:List aA}{q x:aA}(h:x∈ja D q):x=q\/x∈D:=by
 unfold ja at h;split at h
 ·exact wE h
 ·exact Lb h
theorem NU{α:Type}{f:α->Int}{lo hi:Int}{l:List α}{x:α}(h:x∈sB f lo l++sA f lo hi l):x∈l:=by
 rcases mem_append.1 h with h|h
 ·exact(mem_filter.1 h).1
 ·exact(mem_filter.1 h).1
theorem abk{T:List Row}(h:∀x∈T,x.b)(key:Int):iN (sU T key):=by
 unfold sU;split
 ·cases hx:T[uw T key]? with
  |none=>exact⟨Int.le_refl 0,by decide⟩
  |some x=>exact(h x (List.mem_of_getElem? hx)).v
 ·exact⟨Int.le_refl 0,by decide⟩
theorem Xc{s:St}(hT:∀x∈s.T,x.b){q:bQ}(hq:q.b):(kX s q).b:=by
 have z:iN 0:=⟨Int.le_refl 0,by decide⟩;have z8:U8 0:=⟨Int.le_refl 0,by decide⟩;have e1:U8 1:=⟨by decide,by decide⟩;have e2:U8 2:=⟨by decide,by decide⟩;have e5:U8 5:=⟨by decide,by decide⟩;unfold kX;split
 ·exact⟨hq.c,hq.s,hq.key,e1,abk hT _,z8⟩
 split
 ·refine⟨hq.c,hq.s,hq.key,?_,z,z8⟩
  show U8 (sV _ _);unfold sV;split
  ·exact e2
  ·split
   ·exact e5
   ·exact e2
 split
 ·exact⟨hq.c,hq.s,hq.key,e2,z,z8⟩
 split
 ·exact⟨hq.c,hq.s,hq.key,e2,z,z8⟩
 ·exact⟨hq.c,hq.s,hq.key,e5,z,z8⟩
section
variable{N k:Nat}{s:St}
theorem dB.up(h:dB N k s)(hk:k<=60):dB N (k+1) s:=⟨by omega,h.ok,h.n,by have:=h.t;omega,h.tb,by have:=h.d;omega,h.db,λo ho=>by
 obtain⟨a,b,c,d⟩:=h.o o ho;exact⟨a,b,by omega,d⟩,λx hx=>by have:=h.i x hx;omega⟩
theorem YO{q:bQ}(h:jN q=true)(h4:q.k=4):q.key<=q.hi/\q.to<4:=by
 unfold jN at h;rw[h4]at h;simp at h;exact⟨h.2.1,h.2.2.1⟩
theorem dB.do(h:dB N k s)(hk:k<=60){q:bQ}(hq:q.b)(ho:jN q=true):dB N (k+1) (nX s q):=by
 have hr:=NS h.ok.sD (kX s q);have hpb:=Xc h.tb hq;have hd:=h.d;have ht:=h.t;have u:=h.up hk;have ok:=h.ok;have db:∀x∈ja s.D (kX s q),x.b:=λx hx=>by
  rcases Vx hx with rfl|hx
  ·exact hpb
  ·exact h.db x hx
 unfold nX;split
 ·have h1:=YJ ok.sT q.key q.v
  exact⟨u.xz,⟨ok.g0,ok.gn,ok.n4,h1.1,hr.1,ok.BJ,ok.can,ok.ol,ok.il⟩,h.n,by have:=h1.2;dsimp only;omega,λx hx=>(Vv hx).elim (λe=>by rw[e];exact⟨hq.key,hq.v⟩) (h.tb x),by have:=hr.2;dsimp only;omega,db,u.o,u.i⟩
 split
 ·have h1:=YK ok.sT q.key
  exact⟨u.xz,⟨ok.g0,ok.gn,ok.n4,h1.1,hr.1,ok.BJ,ok.can,ok.ol,ok.il⟩,h.n,by have:=h1.2;dsimp only;omega,λx hx=>h.tb x (Vw hx),by have:=hr.2;dsimp only;omega,db,u.o,u.i⟩
 split
 ·rename_i c4
  obtain⟨h4,hf⟩:=c4;obtain⟨hlh,hto⟩:=YO ho h4;obtain⟨gc,_⟩:=wZ ok.can hq.key.1 hlh (by have:=hq.hi.2;omega) (g:=q.to) ⟨hq.to.1,hto⟩;have f8:(fT s.M q.key q.hi q.to).length<=8:=by unfold gV at hf;simp at hf;exact hf.2
  have fq:(aT s.O q.to).2.length<4:=by unfold gV at hf;simp at hf;exact hf.1.2
  have fn:q.to<s.n:=by unfold gV at hf;simp at hf;exact hf.1.1.2
  have hlm:aT s.O q.to∈s.O:=by
   unfold aT;have hl:q.to.toNat<s.O.length:=by have:=ok.ol;have:=hq.to.1;omega
   rw[getElem?_eq_getElem hl];exact getElem_mem hl
  obtain⟨l1,l2,l3,l4⟩:=h.o _ hlm;have hw:IntKind.u32.wrap ((aT s.O q.to).1+1)=(aT s.O q.to).1+1:=wrap_u32 (by omega);have a1:(sW (λx:Row=>x.key) q.key q.hi s.T).length<=s.T.length:=length_filter_le _ _;have a2:(sW (λx:aA=>x.key) q.key q.hi (ja s.D (kX s q))).length<=(ja s.D (kX s q)).length:=length_filter_le _ _;have a3:(zD s.T q.key q.hi).length<=s.T.length:=by unfold zD;exact Cx hlh ok.sT.le
  have a4:(zF (ja s.D (kX s q)) q.key q.hi).length<=(ja s.D (kX s q)).length:=by unfold zF;exact Cx hlh hr.1.le
  have hr2:=hr.2;refine⟨u.xz,⟨ok.g0,ok.gn,ok.n4,?_,?_,FL gc (Nat.le_trans f8 (by omega)),gc,?_,ok.il⟩,h.n,?_,λx hx=>h.tb x (NU hx),?_,λx hx=>db x (NU hx),λo ho'=>?_,u.i⟩
  ·show gU (zD _ _ _);unfold zD;rw[xx hlh ok.sT.le];exact ok.sT.sublist filter_sublist
  ·show iU (zF _ _ _);unfold zF;rw[xx hlh hr.1.le];exact hr.1.sublist filter_sublist
  ·show((List.set _ _ _).length:Int)=_;rw[length_set];exact ok.ol
  ·show(zD _ _ _).length<=_;omega
  ·show(zF _ _ _).length<=_;omega
  ·rcases wE ho' with rfl|ho'
   ·rw[hw]
    refine⟨by simp only[length_append,length_singleton];omega,by dsimp only;omega,by dsimp only;omega,λr hr'=>?_⟩;rcases mem_append.1 hr' with hr' | hr'
    ·exact l4 r hr'
    ·rw[mem_singleton]at hr'
     subst hr';have hg:=ok.g0;have hgn:=ok.gn;have jh:=ok.n4;exact⟨rfl,⟨⟨hg,by show s.g<256;omega⟩,hq.to,⟨by show 0<=(aT s.O q.to).1;omega,by show(aT s.O q.to).1<4294967296;omega⟩,hq.key,hq.hi,λx hx=>h.tb x (mem_filter.1 hx).1,λx hx=>db x (mem_filter.1 hx).1,by show(sW _ _ _ _).length<=_;omega,by show(sW _ _ _ _).length<=_;omega⟩⟩
   ·exact u.o o ho'
 ·exact⟨u.xz,⟨ok.g0,ok.gn,ok.n4,ok.sT,hr.1,ok.BJ,ok.can,ok.ol,ok.il⟩,h.n,u.t,h.tb,by have:=hr.2;dsimp only;omega,db,u.o,u.i⟩
theorem dB.ask(h:dB N k s)(hk:k<=60){q:bQ}(hq:q.b):dB N (k+1) (tq s q).1:=by
 have u:=h.up hk;unfold tq;split
 ·exact u
 ·rename_i hok
  have hdo:=h.do hk hq (by simpa using hok);split
  ·exact u
  ·split
   ·split
    ·split
     ·exact hdo
     ·split<;>exact u
    ·exact u
   ·exact hdo
theorem dB.rcv(h:dB N k s)(hk:k<=60){r:Rg}(hr:r.b):dB N (k+1) (uF s r):=by
 have u:=h.up hk;have ok:=h.ok;unfold uF;split
 ·rename_i c
  obtain⟨hok,hn,hg⟩:=c;obtain⟨hlh,h1,h2⟩:=IJ hok;obtain⟨s1,i1,l1⟩:=Dq h1;obtain⟨s2,i2,l2⟩:=Dr h2;have hg4:=ok.gn;have jh:=ok.n4;have hg0:=ok.g0;obtain⟨gc,_⟩:=wZ ok.can hr.lo.1 hlh (by have:=hr.hi.2;omega) (g:=s.g) ⟨hg0,by omega⟩;have b1:(sB (λx:Row=>x.key) r.lo s.T++sA (λx:Row=>x.key) r.lo r.hi s.T).length<=s.T.length:=Cx hlh ok.sT.le;have b2:(sB (λx:aA=>x.key) r.lo s.D++sA (λx:aA=>x.key) r.lo r.hi s.D).length<=s.D.length:=Cx hlh ok.sD.le;simp only[length_append]at b1 b2;have ht:=h.t;have hd:=h.d;refine⟨u.xz,⟨ok.g0,ok.gn,ok.n4,abd (lo:=r.lo) (hi:=r.hi) (λx hx=>WY hx) (λx hx=>WZ hx) i1 (ok.sT.sublist filter_sublist) s1 (ok.sT.sublist filter_sublist) hlh,YL (lo:=r.lo) (hi:=r.hi) (λx hx=>WY hx) (λx hx=>WZ hx) i2 (ok.sD.sublist filter_sublist) s2 (ok.sD.sublist filter_sublist) hlh,FL gc hg,gc,ok.ol,?_⟩,h.n,?_,λx hx=>?_,?_,λx hx=>?_,u.o,λx hx=>?_⟩
  ·show((List.set _ _ _).length:Int)=_;rw[length_set];exact ok.il
  ·simp only[length_append];omega
  ·rcases mem_append.1 hx with hx|hx
   ·exact h.tb x (mem_filter.1 hx).1
   ·rcases mem_append.1 hx with hx|hx
    ·exact hr.rows x hx
    ·exact h.tb x (mem_filter.1 hx).1
  ·simp only[length_append];omega
  ·rcases mem_append.1 hx with hx|hx
   ·exact h.db x (mem_filter.1 hx).1
   ·rcases mem_append.1 hx with hx|hx
    ·exact hr.aZ x hx
    ·exact h.db x (mem_filter.1 hx).1
  ·rcases wE hx with rfl|hx
   ·have hsrc:r.seq=IntKind.u32.wrap (((s.I[r.src.toNat]?).getD 0)+1):=by unfold xq at hn;simp at hn;exact hn.2
    have hold:0<=(s.I[r.src.toNat]?).getD 0/\(s.I[r.src.toNat]?).getD 0<=k:=by
     cases hx:s.I[r.src.toNat]? with
     |none=>exact⟨Int.le_refl 0,by show(0:Int)<=k;omega⟩
     |some y=>exact h.i y (List.mem_of_getElem? hx)
    rw[wrap_u32 (by omega)]at hsrc;omega
   ·exact u.i x hx
 ·exact u
theorem dB.set(h:dB N k s)(hk:k<=60){peer:Int}(hp0:0<=peer)(sq:Int):dB N (k+1) (sZ s peer sq):=by
 have u:=h.up hk;have ok:=h.ok;unfold sZ;split
 ·refine⟨u.xz,⟨ok.g0,ok.gn,ok.n4,ok.sT,ok.sD,ok.BJ,ok.can,?_,ok.il⟩,h.n,u.t,u.tb,u.d,u.db,λo ho=>?_,u.i⟩
  ·show((List.set _ _ _).length:Int)=_;rw[length_set];exact ok.ol
  ·rcases wE ho with rfl|ho
   ·rename_i hpn
    have hlm:aT s.O peer∈s.O:=by
     unfold aT;have hl:peer.toNat<s.O.length:=by have:=ok.ol;omega
     rw[getElem?_eq_getElem hl];exact getElem_mem hl
    obtain⟨l1,l2,l3,l4⟩:=u.o _ hlm;exact⟨Nat.le_trans (length_filter_le _ _) l1,l2,l3,λr hr=>l4 r (mem_filter.1 hr).1⟩
   ·exact u.o o ho
 ·exact u
theorem dB.app(h:dB N k s)(hk:k<=60){c:MC}(hc:jO N c):dB N (k+1) (lQ s c).1:=by
 unfold lQ;split
 ·exact h.ask hk hc.q
 split
 ·exact h.rcv hk hc.r
 split
 ·exact h.set hk hc.peer.1 _
 ·exact h.up hk
end
theorem aM.own{w w':World}{r:Rg}{rv dv v:Value}{n:Nat}{xs:List Value}(h:aM w r rv dv)(ho:w.ownsRow 0 196 20 v n xs)(g:GB v.ownBlock w w'):aM w' r rv dv:=by
 cases hv:v.ownBlock with
 |none=>rw[hv]at g;exact h.kz g.kz
 |some x =>
  rw[hv]at g;obtain⟨c,hc⟩:=ax ho hv;exact h.bV g hc (by decide) (by decide)
theorem zip_map{α β γ:Type}(f:α->β->γ):∀l:List (α×β),zipWith f (l.map (·.1)) (l.map (·.2))=l.map λx=>f x.1 x.2
 | []=>rfl
 |_::l=>by simp only[map_cons,zipWith_cons_cons,zip_map f l]
section
variable{w:World}{b:Nat}{l:List Nat}
abbrev mvA(x:MV×Value×Value):List Value:=jU x.1 x.2.1 x.2.2
theorem bY.of{w:World}{v:Value}{acc:List (MV×Value×Value)}(ho:w.ownsRow 0 196 20 v acc.length (acc.map mvA).flatten)(hr:∀x∈acc,aM w x.1.c.r x.2.1 x.2.2):bY w v (acc.map (·.1)):=by
 refine⟨acc.map (·.2),by simp,?_,λi x p hx hp=>?_⟩
 ·rw[zip_map (λx (p:Value×Value)=>jU x p.1 p.2),length_map]
  exact mK ho
 ·rw[getElem?_map]at hx hp
  cases ha:acc[i]? with
  |none=>rw[ha]at hx;cases hx
  |some y =>
   rw[ha]at hx hp;cases hx;cases hp
   exact hr y (List.mem_of_getElem? ha)
theorem Vy(hs:Src w b l):ag Tryz.prog 195 #[Ptt b,.func (.func 196) #[Ptt b] #[]] w (λv w'=>∃x l',jE nZ l=(x,l')/\bY w' v x/\Src w' b l'/\GB (some b) w w'):=by
 refine ah Tryz.func195 rfl rfl ?_;refine⟨_,kK hs,?_⟩;rintro _ w1 ⟨n,l1,en,hn,rfl,s1,g1⟩;refine⟨λm s wk=>∃(i:Nat) (v:Value) (acc:List (MV×Value×Value)) (li:List Nat),m=n - i/\i<=n/\s=[(0,Ptt b),(1,.func (.func 196) #[Ptt b] #[]),(5,v),(7,.int .u8 n),(8,.int .u8 i)]/\wk.ownsRow 0 196 20 v acc.length (acc.map mvA).flatten/\Src wk b li/\GB (some b) w wk/\(∀g,v.ownBlock=some g->w.heap.size<=g)/\oP nZ n l1=(acc.map (·.1)++(oP nZ (n - i) li).1,(oP nZ (n - i) li).2)/\acc.length=i/\∀x∈acc,aM wk x.1.c.r x.2.1 x.2.2,⟨_,_,⟨0,_,[],l1,rfl,Nat.zero_le _,rfl,dZ _ _ _,s1,g1,nofun,rfl,rfl,λ_ h=>by cases h⟩,rfl,rfl,rfl,rfl,rfl,trivial⟩,?_⟩;clear s1 g1;rintro m s wk ⟨i,v,acc,li,rfl,hi,rfl,ho,sk,gk,nk,hr,Ka,hrg⟩;obtain⟨va,vc,rfl⟩:=af ho;refine aj (λe=>?_) (λe=>?_)
 ·have e1:i<n:=by have:=Ptq e;omega
  obtain⟨d,hd,rfl⟩:=sk;refine⟨_,_,hd,_,rfl,aj (λq=>?_) (λq=>?_)⟩
  ·rw[rF.1 q,GQ,append_nil]at hr
   exact⟨_,_,by rw[jE,aX en];exact hr,bY.of ho hrg,⟨d,hd,rF.1 q⟩,gk⟩
  ·have q1:dl d≠[]:=λz=>by rw[rF.2 z]at q;cases q
   refine⟨_,Yr ⟨d,hd,rfl⟩,?_⟩;rintro _ w2 ⟨x,l2,ex,⟨rv,dv,rfl,hx⟩,s2,g2⟩;obtain⟨ra,rm,rc,da,dm,dc,rfl,rfl⟩:=hx.sl;refine λw3 b3 m3 g3 l3=>?_
   have hb:=hs.lt;have ho3:=ay (vz ho g2 nk hb) λx hx=>by obtain⟨c,hc⟩:=ax (vz ho g2 nk hb) hx;exact g3.block x (ae hc) nofun
   refine⟨_,jU x (.slice ra rm rc) (.slice da dm dc),ho3,⟨_,_,m3,rfl,rfl,rfl⟩,by omega,λv' w4 Ae g4 n4=>?_⟩;obtain⟨Nv,Nw,rfl⟩:=af Ae;have qJ:GB (some b) w w3:=(gk.trans g2).trans g3.weak;have RX:∀g,(Value.slice Nv (acc.length+1) Nw).ownBlock=some g->w.heap.size<=g:=λg hg=>(n4.own g hg).elim (nk g) λz=>Nat.le_trans qJ.size z
   have s4:Src w4 b l2:=(s2.keep (g3.block b s2.lt nofun)).keep (g4.block b (Nat.lt_of_lt_of_le s2.lt g3.size) λz=>by have:=nk b z.symm;omega);have g4':GB (some b) w w4:=⟨g4.os.trans qJ.os,g4.out.trans qJ.out,Nat.le_trans qJ.size g4.size,λy hy hn=>(g4.block y (Nat.lt_of_lt_of_le hy qJ.size) λz=>by have:=nk y z.symm;omega).trans (qJ.block y hy hn)⟩;have afi:∀y∈acc++[(x,Value.slice ra rm rc,Value.slice da dm dc)],aM w4 y.1.c.r y.2.1 y.2.2:=λy hy=>by
    rcases mem_append.1 hy with hy|hy
    ·exact(((hrg y hy).bV g2 hd (by decide) (by decide)).kz g3.kz).own ho3 g4
    ·rw[mem_singleton]at hy
     subst hy;exact(hx.kz g3.kz).own ho3 g4
   refine⟨by omega,_,_,⟨i+1,_,acc++[(x,.slice ra rm rc,.slice da dm dc)],l2,rfl,by omega,rfl,by simpa using(show w4.ownsRow 0 196 20 _ _ _ from Ae),s4,g4',RX,?_,by simp[Ka],afi⟩,⟨rfl,rfl,rfl,rfl,rfl,trivial⟩,by omega⟩;rw[hr,show n - i=(n - (i+1))+1 by omega,zI ex q1];simp
 ·have e1:i=n:=by have:=Ptx e;omega
  rw[e1,Nat.sub_self]at hr;exact⟨_,_,by rw[jE,aX en];simpa[oP]using hr,bY.of ho hrg,sk,gk⟩
end
end
