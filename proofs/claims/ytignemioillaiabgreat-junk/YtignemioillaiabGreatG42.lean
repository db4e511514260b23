/- Begin. -/
import Derived.Test.YtignemioillaiabGreatG41
namespace Go.Proofs.YtignemioillaiabGreat
set_option maxHeartbeats 8000000
set_option maxRecDepth 100000
section
open Go Go.Conc
noncomputable def zl (m e:Nat):Array Value:=((List.range (m*bD ah.T e)).map λ q=>(zc ah.T e).getD (q%bD ah.T e) undef).toArray
theorem Mw {n:Nat} (hn:n<=4):(zl n 62).toList=((List.replicate n ((0,.slice none 0 0,[]):La)).map lN).flatten:=by
 have:n=0\/n=1\/n=2\/n=3\/n=4:=by omega
 rcases this with rfl | rfl | rfl | rfl | rfl <;> rfl
theorem QR {n:Nat} (hn:n<=4):(zl n 59).toList=(List.replicate n (0:Int)).map λ i=>Value.int .u32 i:=by
 have:n=0\/n=1\/n=2\/n=3\/n=4:=by omega
 rcases this with rfl | rfl | rfl | rfl | rfl <;> rfl
structure Bgn (w:World) (g n b4 b6 bM bO bI:Nat) (w':World):Prop where
 m4:w'.heap[b4]? = some (.cells (zc ah.T 55).toArray 55)
 m6:w'.heap[b6]? = some (.cells #[.int .u8 g,.int .u8 n,.slice none 0 0,.slice (some ⟨bM,0,none⟩) 1 1,.slice none 0 0,.slice (some ⟨bO,0,none⟩) n n,.slice (some ⟨bI,0,none⟩) n n] 55)
 mM:w'.heap[bM]? = some (.cells #[.int .u64 0,.int .u8 0] 153)
 mO:w'.heap[bO]? = some (.cells (zl n 62) 62)
 mI:w'.heap[bI]? = some (.cells (zl n 59) 59)
 gb:GB none w w'
 l4:w.heap.size<=b4
 l6:w.heap.size<=b6
 lM:w.heap.size<=bM
 lO:w.heap.size<=bO
 lI:w.heap.size<=bI
 ne:b4≠b6
theorem GB.cB {r:Option Nat} {w w':World} {b:Nat} (h:GB r w w') (l:w'.heap.size<=b):w.heap.size<=b:=Nat.le_trans h.size l
theorem dN {w w1 v4 v5:World} {g n b4 bB bP bO bI:Nat} {c:Array Value} (gA:GB none w w1) (k4:GB none w1 v4) (l4:w.heap.size<=b4) (m4:w1.heap[b4]? = some (.cells (zc ah.T 55).toArray 55)) (mP:v4.heap[bP]? = some (.cells #[.int .u64 0,.int .u8 0] 153)) (mO:v4.heap[bO]? = some (.cells (zl n 62) 62)) (mI:v4.heap[bI]? = some (.cells (zl n 59) 59)) (mB:v4.heap[bB]? = some (.cells c 55)) (LP:w1.heap.size<=bP) (LO:w1.heap.size<=bO) (LI:w1.heap.size<=bI) (LB:w1.heap.size<=bB) (m5:v5.heap[bB]? = some (.cells #[.int .u8 g,.int .u8 n,.slice none 0 0,.slice (some ⟨bP,0,none⟩) 1 1,.slice none 0 0,.slice (some ⟨bO,0,none⟩) n n,.slice (some ⟨bI,0,none⟩) n n] 55)) (K5:GB (some bB) v4 v5):Bgn w g n b4 bB bP bO bI v5:=by
 have j:=ag m4;have z:=gA.size;have o:∀ {x t:Nat} {c:Array Value},v4.heap[x]? = some (.cells c t)->t≠55->v5.heap[x]? = some (.cells c t):=λ hx ht=>K5.get hx λ e=>df hx mB ht (Option.some.inj e)
 exact ⟨K5.get (k4.get m4 nofun) (λ e=>by injection e with e;omega),m5,o mP (by decide),o mO (by decide),o mI (by decide),(gA.trans k4).new K5 (by omega),l4,by omega,by omega,by omega,by omega,by omega⟩
theorem TZ (w:World) {g n:Nat} (hg:g<n) (hn:n<=4):af Tryz.prog 55 #[.int .i64 g,.int .i64 n] w (λ v w'=>∃ T M D O I e,v=.tuple #[.agg (ik (JB g n) T M D O I).toArray,.int .i64 e]/\(∀ w'':World,(∀ x,w.heap.size<=x->x<w'.heap.size->w''.heap[x]? = w'.heap[x]?)->jZ w'' T M D O I (JB g n))/\GB none w w'):=by
 refine Ak ah Tryz.func55 rfl rfl ?_;refine CS.piece (Q:=λ q w'=>∃ b4,q=[(0,.int .i64 g),(1,.int .i64 n),(4,Ptt b4)]/\w'.heap[b4]? = some (.cells (zc ah.T 55).toArray 55)/\GB none w w'/\w.heap.size<=b4) (CS.of ah mixed (λ w1 b1 m1 g1 l1=>⟨_,by exact ⟨rfl,rfl,rfl,trivial⟩,b1,rfl,m1,g1,l1⟩)) ?_;rintro q w1 ⟨b4,rfl,m4,g1,l4⟩;refine CS.piece (Q:=λ q w'=>q=[(0,.int .i64 g),(1,.int .i64 n),(4,Ptt b4)]/\w'=w1) (CS.of ah mixed ?_) ?_
 ·refine au (λ e=>?_) (λ e=>?_)
  ·refine au (λ e=>?_) (λ e=>?_)
   ·refine au (λ e=>?_) (λ e=>?_)
    ·have:=of_decide_eq_true e
     omega
    ·exact ⟨_,by exact ⟨rfl,rfl,rfl,trivial⟩,rfl,rfl⟩
   ·have:=of_decide_eq_true (b00 e)
    omega
  ·have:=of_decide_eq_true (b00 e)
   omega
 rintro q w1 ⟨rfl,rfl⟩;refine CS.piece (Q:=λ q w'=>∃ b6 bM bO bI,q=[(4,Ptt b4),(6,Ptt b6)]/\Bgn w g n b4 b6 bM bO bI w') (CS.of ah mixed ?_) ?_
 ·refine ⟨by kernel_rfl,.inl ⟨⟨by omega,by omega⟩,.inl ⟨⟨by omega,by omega⟩,?_⟩⟩⟩
  refine ⟨?_,?_,?_,?_⟩
  ·refine λ v1 bP mP K1 LP=>?_
   refine ⟨?_,?_,?_⟩
   ·refine ⟨rfl,by omega,by omega,λ v2 bO mO K2 LO=>?_⟩
    refine ⟨?_,?_⟩
    ·refine ⟨rfl,by omega,by omega,λ v3 bI mI K3 LI=>?_⟩
     refine λ v4 bB mB K4 LB=>?_
     refine ⟨_,_,_,mB,rfl,rfl,λ v5 m5 K5=>⟨_,by exact ⟨rfl,rfl,trivial⟩,bB,bP,bO,bI,rfl,dN g1 (K1.trans (K2.trans (K3.trans K4))) l4 m4 ((K2.trans (K3.trans K4)).get mP nofun) ((K3.trans K4).get mO nofun) (K4.get mI nofun) mB LP (K1.cB LO) ((K1.trans K2).cB LI) ((K1.trans (K2.trans K3)).cB LB) m5 K5⟩⟩
    ·refine λ v3 bB mB K3 LB=>?_
     refine ⟨rfl,by omega,by omega,λ v4 bI mI K4 LI=>?_⟩;refine ⟨_,_,_,(K4.get mB nofun),rfl,rfl,λ v5 m5 K5=>⟨_,by exact ⟨rfl,rfl,trivial⟩,bB,bP,bO,bI,rfl,dN g1 (K1.trans (K2.trans (K3.trans K4))) l4 m4 ((K2.trans (K3.trans K4)).get mP nofun) ((K3.trans K4).get mO nofun) mI (K4.get mB nofun) LP (K1.cB LO) ((K1.trans (K2.trans K3)).cB LI) ((K1.trans K2).cB LB) m5 K5⟩⟩
   ·refine ⟨rfl,by omega,by omega,λ v2 bI mI K2 LI=>?_⟩
    refine ⟨?_,?_⟩
    ·refine ⟨rfl,by omega,by omega,λ v3 bO mO K3 LO=>?_⟩
     refine λ v4 bB mB K4 LB=>?_
     refine ⟨_,_,_,mB,rfl,rfl,λ v5 m5 K5=>⟨_,by exact ⟨rfl,rfl,trivial⟩,bB,bP,bO,bI,rfl,dN g1 (K1.trans (K2.trans (K3.trans K4))) l4 m4 ((K2.trans (K3.trans K4)).get mP nofun) (K4.get mO nofun) ((K3.trans K4).get mI nofun) mB LP ((K1.trans K2).cB LO) (K1.cB LI) ((K1.trans (K2.trans K3)).cB LB) m5 K5⟩⟩
    ·refine λ v3 bB mB K3 LB=>?_
     refine ⟨rfl,by omega,by omega,λ v4 bO mO K4 LO=>?_⟩;refine ⟨_,_,_,(K4.get mB nofun),rfl,rfl,λ v5 m5 K5=>⟨_,by exact ⟨rfl,rfl,trivial⟩,bB,bP,bO,bI,rfl,dN g1 (K1.trans (K2.trans (K3.trans K4))) l4 m4 ((K2.trans (K3.trans K4)).get mP nofun) mO ((K3.trans K4).get mI nofun) (K4.get mB nofun) LP ((K1.trans (K2.trans K3)).cB LO) (K1.cB LI) ((K1.trans K2).cB LB) m5 K5⟩⟩
   ·refine λ v2 bB mB K2 LB=>?_
    refine ⟨?_,?_⟩
    ·refine ⟨rfl,by omega,by omega,λ v3 bO mO K3 LO=>?_⟩
     refine ⟨rfl,by omega,by omega,λ v4 bI mI K4 LI=>?_⟩;refine ⟨_,_,_,((K3.trans K4).get mB nofun),rfl,rfl,λ v5 m5 K5=>⟨_,by exact ⟨rfl,rfl,trivial⟩,bB,bP,bO,bI,rfl,dN g1 (K1.trans (K2.trans (K3.trans K4))) l4 m4 ((K2.trans (K3.trans K4)).get mP nofun) (K4.get mO nofun) mI ((K3.trans K4).get mB nofun) LP ((K1.trans K2).cB LO) ((K1.trans (K2.trans K3)).cB LI) (K1.cB LB) m5 K5⟩⟩
    ·refine ⟨rfl,by omega,by omega,λ v3 bI mI K3 LI=>?_⟩
     refine ⟨rfl,by omega,by omega,λ v4 bO mO K4 LO=>?_⟩;refine ⟨_,_,_,((K3.trans K4).get mB nofun),rfl,rfl,λ v5 m5 K5=>⟨_,by exact ⟨rfl,rfl,trivial⟩,bB,bP,bO,bI,rfl,dN g1 (K1.trans (K2.trans (K3.trans K4))) l4 m4 ((K2.trans (K3.trans K4)).get mP nofun) mO (K4.get mI nofun) ((K3.trans K4).get mB nofun) LP ((K1.trans (K2.trans K3)).cB LO) ((K1.trans K2).cB LI) (K1.cB LB) m5 K5⟩⟩
  ·refine ⟨rfl,by omega,by omega,λ v1 bO mO K1 LO=>?_⟩
   refine ⟨?_,?_,?_⟩
   ·refine λ v2 bP mP K2 LP=>?_
    refine ⟨?_,?_⟩
    ·refine ⟨rfl,by omega,by omega,λ v3 bI mI K3 LI=>?_⟩
     refine λ v4 bB mB K4 LB=>?_
     refine ⟨_,_,_,mB,rfl,rfl,λ v5 m5 K5=>⟨_,by exact ⟨rfl,rfl,trivial⟩,bB,bP,bO,bI,rfl,dN g1 (K1.trans (K2.trans (K3.trans K4))) l4 m4 ((K3.trans K4).get mP nofun) ((K2.trans (K3.trans K4)).get mO nofun) (K4.get mI nofun) mB (K1.cB LP) LO ((K1.trans K2).cB LI) ((K1.trans (K2.trans K3)).cB LB) m5 K5⟩⟩
    ·refine λ v3 bB mB K3 LB=>?_
     refine ⟨rfl,by omega,by omega,λ v4 bI mI K4 LI=>?_⟩;refine ⟨_,_,_,(K4.get mB nofun),rfl,rfl,λ v5 m5 K5=>⟨_,by exact ⟨rfl,rfl,trivial⟩,bB,bP,bO,bI,rfl,dN g1 (K1.trans (K2.trans (K3.trans K4))) l4 m4 ((K3.trans K4).get mP nofun) ((K2.trans (K3.trans K4)).get mO nofun) mI (K4.get mB nofun) (K1.cB LP) LO ((K1.trans (K2.trans K3)).cB LI) ((K1.trans K2).cB LB) m5 K5⟩⟩
   ·refine ⟨rfl,by omega,by omega,λ v2 bI mI K2 LI=>?_⟩
    refine ⟨?_,?_⟩
    ·refine λ v3 bP mP K3 LP=>?_
     refine λ v4 bB mB K4 LB=>?_
     refine ⟨_,_,_,mB,rfl,rfl,λ v5 m5 K5=>⟨_,by exact ⟨rfl,rfl,trivial⟩,bB,bP,bO,bI,rfl,dN g1 (K1.trans (K2.trans (K3.trans K4))) l4 m4 (K4.get mP nofun) ((K2.trans (K3.trans K4)).get mO nofun) ((K3.trans K4).get mI nofun) mB ((K1.trans K2).cB LP) LO (K1.cB LI) ((K1.trans (K2.trans K3)).cB LB) m5 K5⟩⟩
    ·refine λ v3 bB mB K3 LB=>?_
     refine λ v4 bP mP K4 LP=>?_
     refine ⟨_,_,_,(K4.get mB nofun),rfl,rfl,λ v5 m5 K5=>⟨_,by exact ⟨rfl,rfl,trivial⟩,bB,bP,bO,bI,rfl,dN g1 (K1.trans (K2.trans (K3.trans K4))) l4 m4 mP ((K2.trans (K3.trans K4)).get mO nofun) ((K3.trans K4).get mI nofun) (K4.get mB nofun) ((K1.trans (K2.trans K3)).cB LP) LO (K1.cB LI) ((K1.trans K2).cB LB) m5 K5⟩⟩
   ·refine λ v2 bB mB K2 LB=>?_
    refine ⟨?_,?_⟩
    ·refine λ v3 bP mP K3 LP=>?_
     refine ⟨rfl,by omega,by omega,λ v4 bI mI K4 LI=>?_⟩;refine ⟨_,_,_,((K3.trans K4).get mB nofun),rfl,rfl,λ v5 m5 K5=>⟨_,by exact ⟨rfl,rfl,trivial⟩,bB,bP,bO,bI,rfl,dN g1 (K1.trans (K2.trans (K3.trans K4))) l4 m4 (K4.get mP nofun) ((K2.trans (K3.trans K4)).get mO nofun) mI ((K3.trans K4).get mB nofun) ((K1.trans K2).cB LP) LO ((K1.trans (K2.trans K3)).cB LI) (K1.cB LB) m5 K5⟩⟩
    ·refine ⟨rfl,by omega,by omega,λ v3 bI mI K3 LI=>?_⟩
     refine λ v4 bP mP K4 LP=>?_
     refine ⟨_,_,_,((K3.trans K4).get mB nofun),rfl,rfl,λ v5 m5 K5=>⟨_,by exact ⟨rfl,rfl,trivial⟩,bB,bP,bO,bI,rfl,dN g1 (K1.trans (K2.trans (K3.trans K4))) l4 m4 mP ((K2.trans (K3.trans K4)).get mO nofun) (K4.get mI nofun) ((K3.trans K4).get mB nofun) ((K1.trans (K2.trans K3)).cB LP) LO ((K1.trans K2).cB LI) (K1.cB LB) m5 K5⟩⟩
  ·refine ⟨rfl,by omega,by omega,λ v1 bI mI K1 LI=>?_⟩
   refine ⟨?_,?_,?_⟩
   ·refine λ v2 bP mP K2 LP=>?_
    refine ⟨?_,?_⟩
    ·refine ⟨rfl,by omega,by omega,λ v3 bO mO K3 LO=>?_⟩
     refine λ v4 bB mB K4 LB=>?_
     refine ⟨_,_,_,mB,rfl,rfl,λ v5 m5 K5=>⟨_,by exact ⟨rfl,rfl,trivial⟩,bB,bP,bO,bI,rfl,dN g1 (K1.trans (K2.trans (K3.trans K4))) l4 m4 ((K3.trans K4).get mP nofun) (K4.get mO nofun) ((K2.trans (K3.trans K4)).get mI nofun) mB (K1.cB LP) ((K1.trans K2).cB LO) LI ((K1.trans (K2.trans K3)).cB LB) m5 K5⟩⟩
    ·refine λ v3 bB mB K3 LB=>?_
     refine ⟨rfl,by omega,by omega,λ v4 bO mO K4 LO=>?_⟩;refine ⟨_,_,_,(K4.get mB nofun),rfl,rfl,λ v5 m5 K5=>⟨_,by exact ⟨rfl,rfl,trivial⟩,bB,bP,bO,bI,rfl,dN g1 (K1.trans (K2.trans (K3.trans K4))) l4 m4 ((K3.trans K4).get mP nofun) mO ((K2.trans (K3.trans K4)).get mI nofun) (K4.get mB nofun) (K1.cB LP) ((K1.trans (K2.trans K3)).cB LO) LI ((K1.trans K2).cB LB) m5 K5⟩⟩
   ·refine ⟨rfl,by omega,by omega,λ v2 bO mO K2 LO=>?_⟩
    refine ⟨?_,?_⟩
    ·refine λ v3 bP mP K3 LP=>?_
     refine λ v4 bB mB K4 LB=>?_
     refine ⟨_,_,_,mB,rfl,rfl,λ v5 m5 K5=>⟨_,by exact ⟨rfl,rfl,trivial⟩,bB,bP,bO,bI,rfl,dN g1 (K1.trans (K2.trans (K3.trans K4))) l4 m4 (K4.get mP nofun) ((K3.trans K4).get mO nofun) ((K2.trans (K3.trans K4)).get mI nofun) mB ((K1.trans K2).cB LP) (K1.cB LO) LI ((K1.trans (K2.trans K3)).cB LB) m5 K5⟩⟩
    ·refine λ v3 bB mB K3 LB=>?_
     refine λ v4 bP mP K4 LP=>?_
     refine ⟨_,_,_,(K4.get mB nofun),rfl,rfl,λ v5 m5 K5=>⟨_,by exact ⟨rfl,rfl,trivial⟩,bB,bP,bO,bI,rfl,dN g1 (K1.trans (K2.trans (K3.trans K4))) l4 m4 mP ((K3.trans K4).get mO nofun) ((K2.trans (K3.trans K4)).get mI nofun) (K4.get mB nofun) ((K1.trans (K2.trans K3)).cB LP) (K1.cB LO) LI ((K1.trans K2).cB LB) m5 K5⟩⟩
   ·refine λ v2 bB mB K2 LB=>?_
    refine ⟨?_,?_⟩
    ·refine λ v3 bP mP K3 LP=>?_
     refine ⟨rfl,by omega,by omega,λ v4 bO mO K4 LO=>?_⟩;refine ⟨_,_,_,((K3.trans K4).get mB nofun),rfl,rfl,λ v5 m5 K5=>⟨_,by exact ⟨rfl,rfl,trivial⟩,bB,bP,bO,bI,rfl,dN g1 (K1.trans (K2.trans (K3.trans K4))) l4 m4 (K4.get mP nofun) mO ((K2.trans (K3.trans K4)).get mI nofun) ((K3.trans K4).get mB nofun) ((K1.trans K2).cB LP) ((K1.trans (K2.trans K3)).cB LO) LI (K1.cB LB) m5 K5⟩⟩
    ·refine ⟨rfl,by omega,by omega,λ v3 bO mO K3 LO=>?_⟩
     refine λ v4 bP mP K4 LP=>?_
     refine ⟨_,_,_,((K3.trans K4).get mB nofun),rfl,rfl,λ v5 m5 K5=>⟨_,by exact ⟨rfl,rfl,trivial⟩,bB,bP,bO,bI,rfl,dN g1 (K1.trans (K2.trans (K3.trans K4))) l4 m4 mP (K4.get mO nofun) ((K2.trans (K3.trans K4)).get mI nofun) ((K3.trans K4).get mB nofun) ((K1.trans (K2.trans K3)).cB LP) ((K1.trans K2).cB LO) LI (K1.cB LB) m5 K5⟩⟩
  ·refine λ v1 bB mB K1 LB=>?_
   refine ⟨?_,?_,?_⟩
   ·refine λ v2 bP mP K2 LP=>?_
    refine ⟨?_,?_⟩
    ·refine ⟨rfl,by omega,by omega,λ v3 bO mO K3 LO=>?_⟩
     refine ⟨rfl,by omega,by omega,λ v4 bI mI K4 LI=>?_⟩;refine ⟨_,_,_,((K2.trans (K3.trans K4)).get mB nofun),rfl,rfl,λ v5 m5 K5=>⟨_,by exact ⟨rfl,rfl,trivial⟩,bB,bP,bO,bI,rfl,dN g1 (K1.trans (K2.trans (K3.trans K4))) l4 m4 ((K3.trans K4).get mP nofun) (K4.get mO nofun) mI ((K2.trans (K3.trans K4)).get mB nofun) (K1.cB LP) ((K1.trans K2).cB LO) ((K1.trans (K2.trans K3)).cB LI) LB m5 K5⟩⟩
    ·refine ⟨rfl,by omega,by omega,λ v3 bI mI K3 LI=>?_⟩
     refine ⟨rfl,by omega,by omega,λ v4 bO mO K4 LO=>?_⟩;refine ⟨_,_,_,((K2.trans (K3.trans K4)).get mB nofun),rfl,rfl,λ v5 m5 K5=>⟨_,by exact ⟨rfl,rfl,trivial⟩,bB,bP,bO,bI,rfl,dN g1 (K1.trans (K2.trans (K3.trans K4))) l4 m4 ((K3.trans K4).get mP nofun) mO (K4.get mI nofun) ((K2.trans (K3.trans K4)).get mB nofun) (K1.cB LP) ((K1.trans (K2.trans K3)).cB LO) ((K1.trans K2).cB LI) LB m5 K5⟩⟩
   ·refine ⟨rfl,by omega,by omega,λ v2 bO mO K2 LO=>?_⟩
    refine ⟨?_,?_⟩
    ·refine λ v3 bP mP K3 LP=>?_
     refine ⟨rfl,by omega,by omega,λ v4 bI mI K4 LI=>?_⟩;refine ⟨_,_,_,((K2.trans (K3.trans K4)).get mB nofun),rfl,rfl,λ v5 m5 K5=>⟨_,by exact ⟨rfl,rfl,trivial⟩,bB,bP,bO,bI,rfl,dN g1 (K1.trans (K2.trans (K3.trans K4))) l4 m4 (K4.get mP nofun) ((K3.trans K4).get mO nofun) mI ((K2.trans (K3.trans K4)).get mB nofun) ((K1.trans K2).cB LP) (K1.cB LO) ((K1.trans (K2.trans K3)).cB LI) LB m5 K5⟩⟩
    ·refine ⟨rfl,by omega,by omega,λ v3 bI mI K3 LI=>?_⟩
     refine λ v4 bP mP K4 LP=>?_
     refine ⟨_,_,_,((K2.trans (K3.trans K4)).get mB nofun),rfl,rfl,λ v5 m5 K5=>⟨_,by exact ⟨rfl,rfl,trivial⟩,bB,bP,bO,bI,rfl,dN g1 (K1.trans (K2.trans (K3.trans K4))) l4 m4 mP ((K3.trans K4).get mO nofun) (K4.get mI nofun) ((K2.trans (K3.trans K4)).get mB nofun) ((K1.trans (K2.trans K3)).cB LP) (K1.cB LO) ((K1.trans K2).cB LI) LB m5 K5⟩⟩
   ·refine ⟨rfl,by omega,by omega,λ v2 bI mI K2 LI=>?_⟩
    refine ⟨?_,?_⟩
    ·refine λ v3 bP mP K3 LP=>?_
     refine ⟨rfl,by omega,by omega,λ v4 bO mO K4 LO=>?_⟩;refine ⟨_,_,_,((K2.trans (K3.trans K4)).get mB nofun),rfl,rfl,λ v5 m5 K5=>⟨_,by exact ⟨rfl,rfl,trivial⟩,bB,bP,bO,bI,rfl,dN g1 (K1.trans (K2.trans (K3.trans K4))) l4 m4 (K4.get mP nofun) mO ((K3.trans K4).get mI nofun) ((K2.trans (K3.trans K4)).get mB nofun) ((K1.trans K2).cB LP) ((K1.trans (K2.trans K3)).cB LO) (K1.cB LI) LB m5 K5⟩⟩
    ·refine ⟨rfl,by omega,by omega,λ v3 bO mO K3 LO=>?_⟩
     refine λ v4 bP mP K4 LP=>?_
     refine ⟨_,_,_,((K2.trans (K3.trans K4)).get mB nofun),rfl,rfl,λ v5 m5 K5=>⟨_,by exact ⟨rfl,rfl,trivial⟩,bB,bP,bO,bI,rfl,dN g1 (K1.trans (K2.trans (K3.trans K4))) l4 m4 mP (K4.get mO nofun) ((K3.trans K4).get mI nofun) ((K2.trans (K3.trans K4)).get mB nofun) ((K1.trans (K2.trans K3)).cB LP) ((K1.trans K2).cB LO) (K1.cB LI) LB m5 K5⟩⟩
 rintro q w2 ⟨b6,bM,bO,bI,rfl,B⟩;have hO:LN 62 2 w w2 (.slice (some ⟨bO,0,none⟩) n n) n ((List.replicate n ((0,.slice none 0 0,[]):La)).map lN).flatten:=by
  have hl:(((List.replicate n ((0,.slice none 0 0,[]):La)).map lN).flatten).length=n*2:=by rw [jP (f:=lN) (size:=2) (λ _=>rfl),List.length_replicate]
  refine ⟨⟨hl,.inr ⟨bO,n,_,rfl,Nat.zero_le _,B.mO,Nat.le_refl _,Nat.le_trans hn (by decide),?_,?_⟩⟩,B.gb,λ y hy=>by have:=B.lO;simp [Value.ownBlock] at hy;omega⟩
  ·rw [<- Array.length_toList,Mw hn,hl]
  ·rw [Mw hn,List.take_of_length_le (by rw [hl];exact Nat.le_refl _)]
 have hI:LN 59 1 w w2 (.slice (some ⟨bI,0,none⟩) n n) n ((List.replicate n (0:Int)).map λ i=>Value.int .u32 i):=by
  have hl:((List.replicate n (0:Int)).map λ i=>Value.int .u32 i).length=n*1:=by rw [List.length_map,List.length_replicate];omega
  refine ⟨⟨hl,.inr ⟨bI,n,_,rfl,Nat.zero_le _,B.mI,Nat.le_refl _,Nat.le_trans hn (by decide),?_,?_⟩⟩,B.gb,λ y hy=>by have:=B.lI;simp [Value.ownBlock] at hy;omega⟩
  ·rw [<- Array.length_toList,QR hn,hl]
  ·rw [QR hn,List.take_of_length_le (by rw [hl];exact Nat.le_refl _)]
 have hM:PN w w2 (.slice (some ⟨bM,0,none⟩) 1 1) [⟨0,0⟩]:=⟨⟨rfl,.inr ⟨bM,1,_,rfl,Nat.zero_le _,B.mM,Nat.le_refl _,by decide,rfl,rfl⟩⟩,B.gb,λ y hy=>by have:=B.lM;simp [Value.ownBlock] at hy;omega⟩;refine CS.of ah mixed ?_;refine ⟨_,_,B.m6,_,rfl,?_⟩;refine ⟨λ m t wk=>∃ (i:Nat) (ls:List La),m=n - i/\i<=n/\t=[(4,Ptt b4),(6,Ptt b6),(37,.int .i64 n),(38,.int .i64 i)]/\ls.length=n/\LN 62 2 w wk (.slice (some ⟨bO,0,none⟩) ls.length n) ls.length (ls.map lN).flatten/\(∀ j,ls[j]? = if j<i then some (1,.slice none 0 0,[]) else if j<n then some (0,.slice none 0 0,[]) else none)/\GB (some bO) w2 wk,⟨_,_,⟨0,List.replicate n (0,.slice none 0 0,[]),rfl,Nat.zero_le _,rfl,List.length_replicate,by rw [List.length_replicate];exact hO,λ j=>?_,GB.refl _ _⟩,rfl,rfl,rfl,rfl,trivial⟩,?_⟩
 ·rw [if_neg (by omega),List.getElem?_replicate]
 have Vp:∀ {c:Array Value} {x t:Nat},w2.heap[x]? = some (.cells c t)->t≠62->some x≠some bO:=λ hx ht e=>df hx B.mO ht (Option.some.inj e)
 rintro m t wk ⟨i,ls,rfl,hi,rfl,hll,L,hat,gk⟩;have m6:=gk.get B.m6 (Vp B.m6 (by decide));refine au (λ d=>?_) (λ d=>?_)
 ·have d1:i<n:=by have:=of_decide_eq_true d;omega
  have hx:ls[i]? = some (0,.slice none 0 0,[]):=by rw [hat,if_neg (by omega),if_pos d1]
  obtain ⟨g',cap',cur,ev,hg',aR,hcut,hsz⟩:=L.at (f:=lN) (λ _=>rfl) hx;injection ev with ea _ ec;injection ea with ea;injection ea with ea;subst ea ec;refine ⟨_,_,m6,_,rfl,⟨by omega,by omega⟩,_,_,_,aR,fJ rfl rfl (by rw [Array.length_toList];show 0+(i:Int).toNat*2+0<_;omega),rfl,λ w3 m3 g3=>?_⟩;have L3:=L.set (f:=lN) (j:=0) (x':=(1,.slice none 0 0,[])) (λ _=>rfl) aR hx (by decide) rfl m3 (by show 0+(i:Int).toNat*2+0=i*2+0;rw [Int.toNat_natCast,Nat.zero_add]) rfl rfl g3;refine ⟨⟨by omega,by omega⟩,_,_,⟨i+1,ls.set i (1,.slice none 0 0,[]),rfl,by omega,rfl,by rw [List.length_set];exact hll,L3,λ j=>?_,gk.trans g3⟩,⟨rfl,rfl,rfl,rfl,trivial⟩,by omega⟩;rw [iV (by omega),hat];by_cases e1:j=i
  ·rw [if_pos e1,if_pos (by omega)]
  ·rw [if_neg e1]
   by_cases e2:j<i
   ·rw [if_pos e2,if_pos (by omega)]
   ·rw [if_neg e2,if_neg (show ¬ j<i+1 by omega)]
 ·have d1:i=n:=by have:=of_decide_eq_false d;omega
  subst d1;have hls:ls=List.replicate i (1,.slice none 0 0,[]):=by
   refine List.ext_getElem? λ j=>?_
   rw [hat,List.getElem?_replicate];by_cases e:j<i
   ·rw [if_pos e,if_pos e]
   ·rw [if_neg e,if_neg e,if_neg e]
  have gw:GB none w wk:=L.gb;have hIk:=hI.off gk (λ x hx=>by cases hx;exact λ z=>Vp B.mI (by decide) (by simpa [Value.ownBlock] using z)) gw;have hMk:=hM.off gk (λ x hx=>by cases hx;exact λ z=>Vp B.mM (by decide) (by simpa [Value.ownBlock] using z)) gw;have S:SA w wk (JB g i) (.slice none 0 0) (.slice (some ⟨bM,0,none⟩) 1 1) (.slice none 0 0) (.slice (some ⟨bO,0,none⟩) i i) (.slice (some ⟨bI,0,none⟩) i i) ls:=by
   have hmem:∀ l∈ls,l=(1,.slice none 0 0,[]):=λ l hl=>by rw [hls] at hl;exact List.eq_of_mem_replicate hl
   refine ⟨LN.nil gw,hMk,LN.nil gw,by rw [<- hll];rw [hll] at L |-;exact L,by show LN _ _ _ _ _ (List.replicate i (0:Int)).length _;rw [List.length_replicate];exact hIk,λ l hl=>?_,?_,λ l hl x hx=>?_,λ l hl x hx=>?_,λ a b l l' _ hl _ y hy=>?_⟩
   ·rw [hmem l hl];exact ⟨LN.nil gw,λ x hx=>by cases hx⟩
   ·show ls.map Mo=List.replicate i (1,[])
    rw [hls,List.map_replicate];rfl
   ·rw [hmem l hl] at hx;cases hx
   ·rw [hmem l hl] at hx;cases hx
   ·rw [hmem l (List.mem_of_getElem? hl)] at hy;cases hy
  have m4k:=gk.get B.m4 (Vp B.m4 (by decide));refine ⟨_,_,m6,ik (JB g i) (.slice none 0 0) (.slice (some ⟨bM,0,none⟩) 1 1) (.slice none 0 0) (.slice (some ⟨bO,0,none⟩) i i) (.slice (some ⟨bI,0,none⟩) i i),rfl,rfl,_,_,_,m4k,rfl,rfl,λ w3 m3 g3=>?_⟩;refine ⟨_,_,m3,ik (JB g i) (.slice none 0 0) (.slice (some ⟨bM,0,none⟩) 1 1) (.slice none 0 0) (.slice (some ⟨bO,0,none⟩) i i) (.slice (some ⟨bI,0,none⟩) i i),rfl,rfl,_,_,_,_,_,_,rfl,λ w'' hw=>?_,gw.new g3 B.l4⟩;have S3:=S.bS g3 m4k (by decide) (by decide) (by decide) (by decide) (by decide) (by decide) B.l4;exact S3.over hw
structure Row.b (x:Row):Prop where
 k:iA x.key
 v:iA x.val
structure az.b (p:az):Prop where
 c:U8 p.c
 s:qJ p.s
 key:iA p.key
 k:U8 p.k
 v:iA p.v
 g:U8 p.g
structure bN.b (q:bN):Prop where
 c:U8 q.c
 s:qJ q.s
 k:U8 q.k
 key:iA q.key
 v:iA q.v
 hi:iA q.hi
 to:U8 q.to
structure Rg.b (r:Rg):Prop where
 src:U8 r.src
 dst:U8 r.dst
 seq:qJ r.seq
 lo:iA r.lo
 hi:iA r.hi
 rows:∀ x∈r.rows,x.b
 aY:∀ x∈r.aY,x.b
 rl:r.rows.length<=20000
 dl:r.aY.length<=20000
structure lQ (N:Nat) (c:MC):Prop where
 kind:U8 c.kind
 q:c.q.b
 r:c.r.b
 peer:U8 c.peer
 seq:qJ c.seq
 src:c.kind=2->c.r.src<N
 ask:c.kind=1->kI c.q=true
structure dO (N k:Nat) (s:St):Prop where
 AU:k<=61
 ok:uX s
 n:s.n=N
 t:s.T.length<=256*k
 tb:∀ x∈s.T,x.b
 d:s.D.length<=256*k
 db:∀ x∈s.D,x.b
 o:∀ o∈s.O,o.2.length<=4/\1<=o.1/\o.1<=k+1/\∀ r∈o.2,r.src=s.g/\r.b
 i:∀ x∈s.I,0<=x/\x<=k
theorem JX {α:Type} {l:List α} {i:Nat} {a x:α} (h:x∈j5 l i a):x=a\/x∈l:=by
 unfold j5 at h;rcases List.mem_append.1 h with h | h
 ·exact .inr (List.mem_of_mem_take h)
 ·rcases List.mem_cons.1 h with h | h
  ·exact .inl h
  ·exact .inr (List.mem_of_mem_drop h)
theorem T9 {T:List Row} {key v:Int} {x:Row} (h:x∈nQ T key v):x=⟨key,v⟩\/x∈T:=by
 unfold nQ at h;split at h
 ·exact uY h
 ·split at h
  ·exact .inr h
  ·exact JX h
theorem Ua {T:List Row} {key:Int} {x:Row} (h:x∈wN T key):x∈T:=by
 unfold wN at h;split at h
 ·exact (List.eraseIdx_sublist _ _).subset h
 ·exact h
theorem Ub {D:List az} {q x:az} (h:x∈jc D q):x=q\/x∈D:=by
 unfold jc at h;split at h
 ·exact uY h
 ·exact JX h
theorem Mx {α:Type} {f:α->Int} {lo hi:Int} {l:List α} {x:α} (h:x∈sB f lo l++sA f lo hi l):x∈l:=by
 rcases List.mem_append.1 h with h | h
 ·exact (List.mem_filter.1 h).1
 ·exact (List.mem_filter.1 h).1
theorem ZG {T:List Row} (h:∀ x∈T,x.b) (key:Int):iA (q8 T key):=by
 unfold q8;split
 ·cases hx:T[sH T key]? with
  | none=>exact ⟨Int.le_refl 0,by decide⟩
  | some x=>exact (h x (List.mem_of_getElem? hx)).v
 ·exact ⟨Int.le_refl 0,by decide⟩
theorem Vq {s:St} (hT:∀ x∈s.T,x.b) {q:bN} (hq:q.b):(kK s q).b:=by
 have z:iA 0:=⟨Int.le_refl 0,by decide⟩;have z8:U8 0:=⟨Int.le_refl 0,by decide⟩;have e1:U8 1:=⟨by decide,by decide⟩;have e2:U8 2:=⟨by decide,by decide⟩;have e5:U8 5:=⟨by decide,by decide⟩;unfold kK;split
 ·exact ⟨hq.c,hq.s,hq.key,e1,ZG hT _,z8⟩
 split
 ·refine ⟨hq.c,hq.s,hq.key,?_,z,z8⟩
  show U8 (q9 _ _);unfold q9;split
  ·exact e2
  ·split
   ·exact e5
   ·exact e2
 split
 ·exact ⟨hq.c,hq.s,hq.key,e2,z,z8⟩
 split
 ·exact ⟨hq.c,hq.s,hq.key,e2,z,z8⟩
 ·exact ⟨hq.c,hq.s,hq.key,e5,z,z8⟩
section
variable {N k:Nat} {s:St}
theorem dO.up (h:dO N k s) (hk:k<=60):dO N (k+1) s:=⟨by omega,h.ok,h.n,by have:=h.t;omega,h.tb,by have:=h.d;omega,h.db,λ o ho=>by
 obtain ⟨a,b,c,d⟩:=h.o o ho;exact ⟨a,b,by omega,d⟩,λ x hx=>by have:=h.i x hx;omega⟩
theorem Xh {q:bN} (h:kI q=true) (h4:q.k=4):q.key<=q.hi/\q.to<4:=by
 unfold kI at h;rw [h4] at h;simp at h;exact ⟨h.2.1,h.2.2.1⟩
theorem dO.do (h:dO N k s) (hk:k<=60) {q:bN} (hq:q.b) (ho:kI q=true):dO N (k+1) (sJ s q):=by
 have hr:=Mv h.ok.sD (kK s q);have hpb:=Vq h.tb hq;have hd:=h.d;have ht:=h.t;have u:=h.up hk;have ok:=h.ok;have db:∀ x∈jc s.D (kK s q),x.b:=λ x hx=>by
  rcases Ub hx with rfl | hx
  ·exact hpb
  ·exact h.db x hx
 unfold sJ;split
 ·have h1:=Xc ok.sT q.key q.v
  exact ⟨u.AU,⟨ok.g0,ok.gn,ok.n4,h1.1,hr.1,ok.Ci,ok.can,ok.ol,ok.il⟩,h.n,by have:=h1.2;dsimp only;omega,λ x hx=>(T9 hx).elim (λ e=>by rw [e];exact ⟨hq.key,hq.v⟩) (h.tb x),by have:=hr.2;dsimp only;omega,db,u.o,u.i⟩
 split
 ·have h1:=Xd ok.sT q.key
  exact ⟨u.AU,⟨ok.g0,ok.gn,ok.n4,h1.1,hr.1,ok.Ci,ok.can,ok.ol,ok.il⟩,h.n,by have:=h1.2;dsimp only;omega,λ x hx=>h.tb x (Ua hx),by have:=hr.2;dsimp only;omega,db,u.o,u.i⟩
 split
 ·rename_i c4
  obtain ⟨h4,hf⟩:=c4;obtain ⟨hlh,hto⟩:=Xh ho h4;obtain ⟨gc,_⟩:=Ac ok.can hq.key.1 hlh (by have:=hq.hi.2;omega) (g:=q.to) ⟨hq.to.1,hto⟩;have f8:(iF s.M q.key q.hi q.to).length<=8:=by unfold gK at hf;simp at hf;exact hf.2
  have fq:(dU s.O q.to).2.length<4:=by unfold gK at hf;simp at hf;exact hf.1.2
  have fn:q.to<s.n:=by unfold gK at hf;simp at hf;exact hf.1.1.2
  have hlm:dU s.O q.to∈s.O:=by
   unfold dU;have hl:q.to.toNat<s.O.length:=by have:=ok.ol;have:=hq.to.1;omega
   rw [List.getElem?_eq_getElem hl];exact List.getElem_mem hl
  obtain ⟨l1,l2,l3,l4⟩:=h.o _ hlm;have hw:IntKind.u32.wrap ((dU s.O q.to).1+1)=(dU s.O q.to).1+1:=wrap_u32 (by omega);have a1:(sW (λ x:Row=>x.key) q.key q.hi s.T).length<=s.T.length:=List.length_filter_le _ _;have a2:(sW (λ x:az=>x.key) q.key q.hi (jc s.D (kK s q))).length<=(jc s.D (kK s q)).length:=List.length_filter_le _ _;have a3:(yF s.T q.key q.hi).length<=s.T.length:=by unfold yF;exact BB hlh ok.sT.le
  have a4:(yG (jc s.D (kK s q)) q.key q.hi).length<=(jc s.D (kK s q)).length:=by unfold yG;exact BB hlh hr.1.le
  have hr2:=hr.2;refine ⟨u.AU,⟨ok.g0,ok.gn,ok.n4,?_,?_,EG gc (Nat.le_trans f8 (by omega)),gc,?_,ok.il⟩,h.n,?_,λ x hx=>h.tb x (Mx hx),?_,λ x hx=>db x (Mx hx),λ o ho'=>?_,u.i⟩
  ·show gq (yF _ _ _);unfold yF;rw [wu hlh ok.sT.le];exact ok.sT.sublist List.filter_sublist
  ·show iI (yG _ _ _);unfold yG;rw [wu hlh hr.1.le];exact hr.1.sublist List.filter_sublist
  ·show ((List.set _ _ _).length:Int)=_;rw [List.length_set];exact ok.ol
  ·show (yF _ _ _).length<=_;omega
  ·show (yG _ _ _).length<=_;omega
  ·rcases uY ho' with rfl | ho'
   ·rw [hw]
    refine ⟨by simp only [List.length_append,List.length_singleton];omega,by dsimp only;omega,by dsimp only;omega,λ r hr'=>?_⟩;rcases List.mem_append.1 hr' with hr' | hr'
    ·exact l4 r hr'
    ·rw [List.mem_singleton] at hr'
     subst hr';have hg:=ok.g0;have hgn:=ok.gn;have jB:=ok.n4;exact ⟨rfl,⟨⟨hg,by show s.g<256;omega⟩,hq.to,⟨by show 0<=(dU s.O q.to).1;omega,by show (dU s.O q.to).1<4294967296;omega⟩,hq.key,hq.hi,λ x hx=>h.tb x (List.mem_filter.1 hx).1,λ x hx=>db x (List.mem_filter.1 hx).1,by show (sW _ _ _ _).length<=_;omega,by show (sW _ _ _ _).length<=_;omega⟩⟩
   ·exact u.o o ho'
 ·exact ⟨u.AU,⟨ok.g0,ok.gn,ok.n4,ok.sT,hr.1,ok.Ci,ok.can,ok.ol,ok.il⟩,h.n,u.t,h.tb,by have:=hr.2;dsimp only;omega,db,u.o,u.i⟩
theorem dO.ask (h:dO N k s) (hk:k<=60) {q:bN} (hq:q.b):dO N (k+1) (yH s q).1:=by
 have u:=h.up hk;unfold yH;split
 ·exact u
 ·rename_i hok
  have hdo:=h.do hk hq (by simpa using hok);split
  ·exact u
  ·split
   ·split
    ·split
     ·exact hdo
     ·split <;> exact u
    ·exact u
   ·exact hdo
theorem dO.rcv (h:dO N k s) (hk:k<=60) {r:Rg} (hr:r.b):dO N (k+1) (Db s r):=by
 have u:=h.up hk;have ok:=h.ok;unfold Db;split
 ·rename_i c
  obtain ⟨hok,hn,hg⟩:=c;obtain ⟨hlh,h1,h2⟩:=GQ hok;obtain ⟨s1,i1,l1⟩:=Ck h1;obtain ⟨s2,i2,l2⟩:=Cm h2;have hg4:=ok.gn;have jB:=ok.n4;have hg0:=ok.g0;obtain ⟨gc,_⟩:=Ac ok.can hr.lo.1 hlh (by have:=hr.hi.2;omega) (g:=s.g) ⟨hg0,by omega⟩;have b1:(sB (λ x:Row=>x.key) r.lo s.T++sA (λ x:Row=>x.key) r.lo r.hi s.T).length<=s.T.length:=BB hlh ok.sT.le;have b2:(sB (λ x:az=>x.key) r.lo s.D++sA (λ x:az=>x.key) r.lo r.hi s.D).length<=s.D.length:=BB hlh ok.sD.le;simp only [List.length_append] at b1 b2;have ht:=h.t;have hd:=h.d;refine ⟨u.AU,⟨ok.g0,ok.gn,ok.n4,Zz (lo:=r.lo) (hi:=r.hi) (λ x hx=>Vl hx) (λ x hx=>Vm hx) i1 (ok.sT.sublist List.filter_sublist) s1 (ok.sT.sublist List.filter_sublist) hlh,Xe (lo:=r.lo) (hi:=r.hi) (λ x hx=>Vl hx) (λ x hx=>Vm hx) i2 (ok.sD.sublist List.filter_sublist) s2 (ok.sD.sublist List.filter_sublist) hlh,EG gc hg,gc,ok.ol,?_⟩,h.n,?_,λ x hx=>?_,?_,λ x hx=>?_,u.o,λ x hx=>?_⟩
  ·show ((List.set _ _ _).length:Int)=_;rw [List.length_set];exact ok.il
  ·simp only [List.length_append];omega
  ·rcases List.mem_append.1 hx with hx | hx
   ·exact h.tb x (List.mem_filter.1 hx).1
   ·rcases List.mem_append.1 hx with hx | hx
    ·exact hr.rows x hx
    ·exact h.tb x (List.mem_filter.1 hx).1
  ·simp only [List.length_append];omega
  ·rcases List.mem_append.1 hx with hx | hx
   ·exact h.db x (List.mem_filter.1 hx).1
   ·rcases List.mem_append.1 hx with hx | hx
    ·exact hr.aY x hx
    ·exact h.db x (List.mem_filter.1 hx).1
  ·rcases uY hx with rfl | hx
   ·have hsrc:r.seq=IntKind.u32.wrap (((s.I[r.src.toNat]?).getD 0)+1):=by unfold Bz at hn;simp at hn;exact hn.2
    have hold:0<=(s.I[r.src.toNat]?).getD 0/\(s.I[r.src.toNat]?).getD 0<=k:=by
     cases hx:s.I[r.src.toNat]? with
     | none=>exact ⟨Int.le_refl 0,by show (0:Int)<=k;omega⟩
     | some y=>exact h.i y (List.mem_of_getElem? hx)
    rw [wrap_u32 (by omega)] at hsrc;omega
   ·exact u.i x hx
 ·exact u
theorem dO.set (h:dO N k s) (hk:k<=60) {peer:Int} (hp0:0<=peer) (sq:Int):dO N (k+1) (De s peer sq):=by
 have u:=h.up hk;have ok:=h.ok;unfold De;split
 ·refine ⟨u.AU,⟨ok.g0,ok.gn,ok.n4,ok.sT,ok.sD,ok.Ci,ok.can,?_,ok.il⟩,h.n,u.t,u.tb,u.d,u.db,λ o ho=>?_,u.i⟩
  ·show ((List.set _ _ _).length:Int)=_;rw [List.length_set];exact ok.ol
  ·rcases uY ho with rfl | ho
   ·rename_i hpn
    have hlm:dU s.O peer∈s.O:=by
     unfold dU;have hl:peer.toNat<s.O.length:=by have:=ok.ol;omega
     rw [List.getElem?_eq_getElem hl];exact List.getElem_mem hl
    obtain ⟨l1,l2,l3,l4⟩:=u.o _ hlm;exact ⟨Nat.le_trans (List.length_filter_le _ _) l1,l2,l3,λ r hr=>l4 r (List.mem_filter.1 hr).1⟩
   ·exact u.o o ho
 ·exact u
theorem dO.app (h:dO N k s) (hk:k<=60) {c:MC} (hc:lQ N c):dO N (k+1) (sU s c).1:=by
 unfold sU;split
 ·exact h.ask hk hc.q
 split
 ·exact h.rcv hk hc.r
 split
 ·exact h.set hk hc.peer.1 _
 ·exact h.up hk
end
end
end Go.Proofs.YtignemioillaiabGreat
