/- Begin. -/
import Derived.Test.YtignemioillaiabGreatG43
namespace Go.Proofs.YtignemioillaiabGreat
set_option maxHeartbeats 8000000
set_option maxRecDepth 100000
section
open Go Go.Conc
noncomputable def zl (m e:Nat):Array Value:=((List.range (m*bG au.T e)).map fun q=>(zc au.T e).getD (q%bG au.T e) undef).toArray
theorem Mg {n:Nat} (hn:n≤4):(zl n 62).toList=((List.replicate n ((0,.slice none 0 0,[]):La)).map lN).flatten:=by
 have:n=0∨n=1∨n=2∨n=3∨n=4:=by omega
 rcases this with rfl | rfl | rfl | rfl | rfl <;> rfl
theorem QG {n:Nat} (hn:n≤4):(zl n 59).toList=(List.replicate n (0:Int)).map fun i=>Value.int .u32 i:=by
 have:n=0∨n=1∨n=2∨n=3∨n=4:=by omega
 rcases this with rfl | rfl | rfl | rfl | rfl <;> rfl
structure Bgn (w:World) (g n b4 b6 bM bO bI:Nat) (w':World):Prop where
 m4:w'.heap[b4]? = some (.cells (zc au.T 55).toArray 55)
 m6:w'.heap[b6]? = some (.cells #[.int .u8 g,.int .u8 n,.slice none 0 0,.slice (some ⟨bM,0,none⟩) 1 1,.slice none 0 0,.slice (some ⟨bO,0,none⟩) n n,.slice (some ⟨bI,0,none⟩) n n] 55)
 mM:w'.heap[bM]? = some (.cells #[.int .u64 0,.int .u8 0] 153)
 mO:w'.heap[bO]? = some (.cells (zl n 62) 62)
 mI:w'.heap[bI]? = some (.cells (zl n 59) 59)
 gb:GB none w w'
 l4:w.heap.size≤b4
 l6:w.heap.size≤b6
 lM:w.heap.size≤bM
 lO:w.heap.size≤bO
 lI:w.heap.size≤bI
 ne:b4≠b6
theorem GB.upl {r:Option Nat} {w w':World} {b:Nat} (h:GB r w w') (l:w'.heap.size≤b):w.heap.size≤b:=Nat.le_trans h.size l
theorem bgn_end {w w1 v4 v5:World} {g n b4 bB bP bO bI:Nat} {c:Array Value} (gA:GB none w w1) (k4:GB none w1 v4) (l4:w.heap.size≤b4) (m4:w1.heap[b4]? = some (.cells (zc au.T 55).toArray 55)) (mP:v4.heap[bP]? = some (.cells #[.int .u64 0,.int .u8 0] 153)) (mO:v4.heap[bO]? = some (.cells (zl n 62) 62)) (mI:v4.heap[bI]? = some (.cells (zl n 59) 59)) (mB:v4.heap[bB]? = some (.cells c 55)) (LP:w1.heap.size≤bP) (LO:w1.heap.size≤bO) (LI:w1.heap.size≤bI) (LB:w1.heap.size≤bB) (m5:v5.heap[bB]? = some (.cells #[.int .u8 g,.int .u8 n,.slice none 0 0,.slice (some ⟨bP,0,none⟩) 1 1,.slice none 0 0,.slice (some ⟨bO,0,none⟩) n n,.slice (some ⟨bI,0,none⟩) n n] 55)) (K5:GB (some bB) v4 v5):Bgn w g n b4 bB bP bO bI v5:=by
 have j:=ae m4;have z:=gA.size;have o:∀ {x t:Nat} {c:Array Value},v4.heap[x]? = some (.cells c t)→t≠55→v5.heap[x]? = some (.cells c t):=fun hx ht=>K5.get hx fun e=>cO hx mB ht (Option.some.inj e)
 exact ⟨K5.get (k4.get m4 nofun) (fun e=>by injection e with e;omega),m5,o mP (by decide),o mO (by decide),o mI (by decide),(gA.trans k4).new K5 (by omega),l4,by omega,by omega,by omega,by omega,by omega⟩
theorem TE (w:World) {g n:Nat} (hg:g<n) (hn:n≤4):af Tryz.prog 55 #[.int .i64 g,.int .i64 n] w (fun v w'=>∃ T M D O I e,v=.tuple #[.agg (gQ (Jk g n) T M D O I).toArray,.int .i64 e]∧(∀ w'':World,(∀ x,w.heap.size≤x→x<w'.heap.size→w''.heap[x]? = w'.heap[x]?)→jG w'' T M D O I (Jk g n))∧GB none w w'):=by
 refine Ae au Tryz.func55 rfl rfl ?_;refine CS.piece (Q:=fun q w'=>∃ b4,q=[(0,.int .i64 g),(1,.int .i64 n),(4,.pointer (some ⟨b4,0,none⟩))]∧w'.heap[b4]? = some (.cells (zc au.T 55).toArray 55)∧GB none w w'∧w.heap.size≤b4) (CS.of au mixed (fun w1 b1 m1 g1 l1=>⟨_,by exact ⟨rfl,rfl,rfl,trivial⟩,b1,rfl,m1,g1,l1⟩)) ?_;rintro q w1 ⟨b4,rfl,m4,g1,l4⟩;refine CS.piece (Q:=fun q w'=>q=[(0,.int .i64 g),(1,.int .i64 n),(4,.pointer (some ⟨b4,0,none⟩))]∧w'=w1) (CS.of au mixed ?_) ?_
 ·refine aj (fun e=>?_) (fun e=>?_)
  ·refine aj (fun e=>?_) (fun e=>?_)
   ·refine aj (fun e=>?_) (fun e=>?_)
    ·have:=of_decide_eq_true e
     omega
    ·exact ⟨_,by exact ⟨rfl,rfl,rfl,trivial⟩,rfl,rfl⟩
   ·have:=of_decide_eq_true (b00 e)
    omega
  ·have:=of_decide_eq_true (b00 e)
   omega
 rintro q w1 ⟨rfl,rfl⟩;refine CS.piece (Q:=fun q w'=>∃ b6 bM bO bI,q=[(4,.pointer (some ⟨b4,0,none⟩)),(6,.pointer (some ⟨b6,0,none⟩))]∧Bgn w g n b4 b6 bM bO bI w') (CS.of au mixed ?_) ?_
 ·refine ⟨by kernel_rfl,.inl ⟨⟨by omega,by omega⟩,.inl ⟨⟨by omega,by omega⟩,?_⟩⟩⟩
  refine ⟨?_,?_,?_,?_⟩
  ·refine fun v1 bP mP K1 LP=>?_
   refine ⟨?_,?_,?_⟩
   ·refine ⟨rfl,by omega,by omega,fun v2 bO mO K2 LO=>?_⟩
    refine ⟨?_,?_⟩
    ·refine ⟨rfl,by omega,by omega,fun v3 bI mI K3 LI=>?_⟩
     refine fun v4 bB mB K4 LB=>?_
     refine ⟨_,_,_,mB,rfl,rfl,fun v5 m5 K5=>⟨_,by exact ⟨rfl,rfl,trivial⟩,bB,bP,bO,bI,rfl,bgn_end g1 (K1.trans (K2.trans (K3.trans K4))) l4 m4 ((K2.trans (K3.trans K4)).get mP nofun) ((K3.trans K4).get mO nofun) (K4.get mI nofun) mB LP (K1.upl LO) ((K1.trans K2).upl LI) ((K1.trans (K2.trans K3)).upl LB) m5 K5⟩⟩
    ·refine fun v3 bB mB K3 LB=>?_
     refine ⟨rfl,by omega,by omega,fun v4 bI mI K4 LI=>?_⟩;refine ⟨_,_,_,(K4.get mB nofun),rfl,rfl,fun v5 m5 K5=>⟨_,by exact ⟨rfl,rfl,trivial⟩,bB,bP,bO,bI,rfl,bgn_end g1 (K1.trans (K2.trans (K3.trans K4))) l4 m4 ((K2.trans (K3.trans K4)).get mP nofun) ((K3.trans K4).get mO nofun) mI (K4.get mB nofun) LP (K1.upl LO) ((K1.trans (K2.trans K3)).upl LI) ((K1.trans K2).upl LB) m5 K5⟩⟩
   ·refine ⟨rfl,by omega,by omega,fun v2 bI mI K2 LI=>?_⟩
    refine ⟨?_,?_⟩
    ·refine ⟨rfl,by omega,by omega,fun v3 bO mO K3 LO=>?_⟩
     refine fun v4 bB mB K4 LB=>?_
     refine ⟨_,_,_,mB,rfl,rfl,fun v5 m5 K5=>⟨_,by exact ⟨rfl,rfl,trivial⟩,bB,bP,bO,bI,rfl,bgn_end g1 (K1.trans (K2.trans (K3.trans K4))) l4 m4 ((K2.trans (K3.trans K4)).get mP nofun) (K4.get mO nofun) ((K3.trans K4).get mI nofun) mB LP ((K1.trans K2).upl LO) (K1.upl LI) ((K1.trans (K2.trans K3)).upl LB) m5 K5⟩⟩
    ·refine fun v3 bB mB K3 LB=>?_
     refine ⟨rfl,by omega,by omega,fun v4 bO mO K4 LO=>?_⟩;refine ⟨_,_,_,(K4.get mB nofun),rfl,rfl,fun v5 m5 K5=>⟨_,by exact ⟨rfl,rfl,trivial⟩,bB,bP,bO,bI,rfl,bgn_end g1 (K1.trans (K2.trans (K3.trans K4))) l4 m4 ((K2.trans (K3.trans K4)).get mP nofun) mO ((K3.trans K4).get mI nofun) (K4.get mB nofun) LP ((K1.trans (K2.trans K3)).upl LO) (K1.upl LI) ((K1.trans K2).upl LB) m5 K5⟩⟩
   ·refine fun v2 bB mB K2 LB=>?_
    refine ⟨?_,?_⟩
    ·refine ⟨rfl,by omega,by omega,fun v3 bO mO K3 LO=>?_⟩
     refine ⟨rfl,by omega,by omega,fun v4 bI mI K4 LI=>?_⟩;refine ⟨_,_,_,((K3.trans K4).get mB nofun),rfl,rfl,fun v5 m5 K5=>⟨_,by exact ⟨rfl,rfl,trivial⟩,bB,bP,bO,bI,rfl,bgn_end g1 (K1.trans (K2.trans (K3.trans K4))) l4 m4 ((K2.trans (K3.trans K4)).get mP nofun) (K4.get mO nofun) mI ((K3.trans K4).get mB nofun) LP ((K1.trans K2).upl LO) ((K1.trans (K2.trans K3)).upl LI) (K1.upl LB) m5 K5⟩⟩
    ·refine ⟨rfl,by omega,by omega,fun v3 bI mI K3 LI=>?_⟩
     refine ⟨rfl,by omega,by omega,fun v4 bO mO K4 LO=>?_⟩;refine ⟨_,_,_,((K3.trans K4).get mB nofun),rfl,rfl,fun v5 m5 K5=>⟨_,by exact ⟨rfl,rfl,trivial⟩,bB,bP,bO,bI,rfl,bgn_end g1 (K1.trans (K2.trans (K3.trans K4))) l4 m4 ((K2.trans (K3.trans K4)).get mP nofun) mO (K4.get mI nofun) ((K3.trans K4).get mB nofun) LP ((K1.trans (K2.trans K3)).upl LO) ((K1.trans K2).upl LI) (K1.upl LB) m5 K5⟩⟩
  ·refine ⟨rfl,by omega,by omega,fun v1 bO mO K1 LO=>?_⟩
   refine ⟨?_,?_,?_⟩
   ·refine fun v2 bP mP K2 LP=>?_
    refine ⟨?_,?_⟩
    ·refine ⟨rfl,by omega,by omega,fun v3 bI mI K3 LI=>?_⟩
     refine fun v4 bB mB K4 LB=>?_
     refine ⟨_,_,_,mB,rfl,rfl,fun v5 m5 K5=>⟨_,by exact ⟨rfl,rfl,trivial⟩,bB,bP,bO,bI,rfl,bgn_end g1 (K1.trans (K2.trans (K3.trans K4))) l4 m4 ((K3.trans K4).get mP nofun) ((K2.trans (K3.trans K4)).get mO nofun) (K4.get mI nofun) mB (K1.upl LP) LO ((K1.trans K2).upl LI) ((K1.trans (K2.trans K3)).upl LB) m5 K5⟩⟩
    ·refine fun v3 bB mB K3 LB=>?_
     refine ⟨rfl,by omega,by omega,fun v4 bI mI K4 LI=>?_⟩;refine ⟨_,_,_,(K4.get mB nofun),rfl,rfl,fun v5 m5 K5=>⟨_,by exact ⟨rfl,rfl,trivial⟩,bB,bP,bO,bI,rfl,bgn_end g1 (K1.trans (K2.trans (K3.trans K4))) l4 m4 ((K3.trans K4).get mP nofun) ((K2.trans (K3.trans K4)).get mO nofun) mI (K4.get mB nofun) (K1.upl LP) LO ((K1.trans (K2.trans K3)).upl LI) ((K1.trans K2).upl LB) m5 K5⟩⟩
   ·refine ⟨rfl,by omega,by omega,fun v2 bI mI K2 LI=>?_⟩
    refine ⟨?_,?_⟩
    ·refine fun v3 bP mP K3 LP=>?_
     refine fun v4 bB mB K4 LB=>?_
     refine ⟨_,_,_,mB,rfl,rfl,fun v5 m5 K5=>⟨_,by exact ⟨rfl,rfl,trivial⟩,bB,bP,bO,bI,rfl,bgn_end g1 (K1.trans (K2.trans (K3.trans K4))) l4 m4 (K4.get mP nofun) ((K2.trans (K3.trans K4)).get mO nofun) ((K3.trans K4).get mI nofun) mB ((K1.trans K2).upl LP) LO (K1.upl LI) ((K1.trans (K2.trans K3)).upl LB) m5 K5⟩⟩
    ·refine fun v3 bB mB K3 LB=>?_
     refine fun v4 bP mP K4 LP=>?_
     refine ⟨_,_,_,(K4.get mB nofun),rfl,rfl,fun v5 m5 K5=>⟨_,by exact ⟨rfl,rfl,trivial⟩,bB,bP,bO,bI,rfl,bgn_end g1 (K1.trans (K2.trans (K3.trans K4))) l4 m4 mP ((K2.trans (K3.trans K4)).get mO nofun) ((K3.trans K4).get mI nofun) (K4.get mB nofun) ((K1.trans (K2.trans K3)).upl LP) LO (K1.upl LI) ((K1.trans K2).upl LB) m5 K5⟩⟩
   ·refine fun v2 bB mB K2 LB=>?_
    refine ⟨?_,?_⟩
    ·refine fun v3 bP mP K3 LP=>?_
     refine ⟨rfl,by omega,by omega,fun v4 bI mI K4 LI=>?_⟩;refine ⟨_,_,_,((K3.trans K4).get mB nofun),rfl,rfl,fun v5 m5 K5=>⟨_,by exact ⟨rfl,rfl,trivial⟩,bB,bP,bO,bI,rfl,bgn_end g1 (K1.trans (K2.trans (K3.trans K4))) l4 m4 (K4.get mP nofun) ((K2.trans (K3.trans K4)).get mO nofun) mI ((K3.trans K4).get mB nofun) ((K1.trans K2).upl LP) LO ((K1.trans (K2.trans K3)).upl LI) (K1.upl LB) m5 K5⟩⟩
    ·refine ⟨rfl,by omega,by omega,fun v3 bI mI K3 LI=>?_⟩
     refine fun v4 bP mP K4 LP=>?_
     refine ⟨_,_,_,((K3.trans K4).get mB nofun),rfl,rfl,fun v5 m5 K5=>⟨_,by exact ⟨rfl,rfl,trivial⟩,bB,bP,bO,bI,rfl,bgn_end g1 (K1.trans (K2.trans (K3.trans K4))) l4 m4 mP ((K2.trans (K3.trans K4)).get mO nofun) (K4.get mI nofun) ((K3.trans K4).get mB nofun) ((K1.trans (K2.trans K3)).upl LP) LO ((K1.trans K2).upl LI) (K1.upl LB) m5 K5⟩⟩
  ·refine ⟨rfl,by omega,by omega,fun v1 bI mI K1 LI=>?_⟩
   refine ⟨?_,?_,?_⟩
   ·refine fun v2 bP mP K2 LP=>?_
    refine ⟨?_,?_⟩
    ·refine ⟨rfl,by omega,by omega,fun v3 bO mO K3 LO=>?_⟩
     refine fun v4 bB mB K4 LB=>?_
     refine ⟨_,_,_,mB,rfl,rfl,fun v5 m5 K5=>⟨_,by exact ⟨rfl,rfl,trivial⟩,bB,bP,bO,bI,rfl,bgn_end g1 (K1.trans (K2.trans (K3.trans K4))) l4 m4 ((K3.trans K4).get mP nofun) (K4.get mO nofun) ((K2.trans (K3.trans K4)).get mI nofun) mB (K1.upl LP) ((K1.trans K2).upl LO) LI ((K1.trans (K2.trans K3)).upl LB) m5 K5⟩⟩
    ·refine fun v3 bB mB K3 LB=>?_
     refine ⟨rfl,by omega,by omega,fun v4 bO mO K4 LO=>?_⟩;refine ⟨_,_,_,(K4.get mB nofun),rfl,rfl,fun v5 m5 K5=>⟨_,by exact ⟨rfl,rfl,trivial⟩,bB,bP,bO,bI,rfl,bgn_end g1 (K1.trans (K2.trans (K3.trans K4))) l4 m4 ((K3.trans K4).get mP nofun) mO ((K2.trans (K3.trans K4)).get mI nofun) (K4.get mB nofun) (K1.upl LP) ((K1.trans (K2.trans K3)).upl LO) LI ((K1.trans K2).upl LB) m5 K5⟩⟩
   ·refine ⟨rfl,by omega,by omega,fun v2 bO mO K2 LO=>?_⟩
    refine ⟨?_,?_⟩
    ·refine fun v3 bP mP K3 LP=>?_
     refine fun v4 bB mB K4 LB=>?_
     refine ⟨_,_,_,mB,rfl,rfl,fun v5 m5 K5=>⟨_,by exact ⟨rfl,rfl,trivial⟩,bB,bP,bO,bI,rfl,bgn_end g1 (K1.trans (K2.trans (K3.trans K4))) l4 m4 (K4.get mP nofun) ((K3.trans K4).get mO nofun) ((K2.trans (K3.trans K4)).get mI nofun) mB ((K1.trans K2).upl LP) (K1.upl LO) LI ((K1.trans (K2.trans K3)).upl LB) m5 K5⟩⟩
    ·refine fun v3 bB mB K3 LB=>?_
     refine fun v4 bP mP K4 LP=>?_
     refine ⟨_,_,_,(K4.get mB nofun),rfl,rfl,fun v5 m5 K5=>⟨_,by exact ⟨rfl,rfl,trivial⟩,bB,bP,bO,bI,rfl,bgn_end g1 (K1.trans (K2.trans (K3.trans K4))) l4 m4 mP ((K3.trans K4).get mO nofun) ((K2.trans (K3.trans K4)).get mI nofun) (K4.get mB nofun) ((K1.trans (K2.trans K3)).upl LP) (K1.upl LO) LI ((K1.trans K2).upl LB) m5 K5⟩⟩
   ·refine fun v2 bB mB K2 LB=>?_
    refine ⟨?_,?_⟩
    ·refine fun v3 bP mP K3 LP=>?_
     refine ⟨rfl,by omega,by omega,fun v4 bO mO K4 LO=>?_⟩;refine ⟨_,_,_,((K3.trans K4).get mB nofun),rfl,rfl,fun v5 m5 K5=>⟨_,by exact ⟨rfl,rfl,trivial⟩,bB,bP,bO,bI,rfl,bgn_end g1 (K1.trans (K2.trans (K3.trans K4))) l4 m4 (K4.get mP nofun) mO ((K2.trans (K3.trans K4)).get mI nofun) ((K3.trans K4).get mB nofun) ((K1.trans K2).upl LP) ((K1.trans (K2.trans K3)).upl LO) LI (K1.upl LB) m5 K5⟩⟩
    ·refine ⟨rfl,by omega,by omega,fun v3 bO mO K3 LO=>?_⟩
     refine fun v4 bP mP K4 LP=>?_
     refine ⟨_,_,_,((K3.trans K4).get mB nofun),rfl,rfl,fun v5 m5 K5=>⟨_,by exact ⟨rfl,rfl,trivial⟩,bB,bP,bO,bI,rfl,bgn_end g1 (K1.trans (K2.trans (K3.trans K4))) l4 m4 mP (K4.get mO nofun) ((K2.trans (K3.trans K4)).get mI nofun) ((K3.trans K4).get mB nofun) ((K1.trans (K2.trans K3)).upl LP) ((K1.trans K2).upl LO) LI (K1.upl LB) m5 K5⟩⟩
  ·refine fun v1 bB mB K1 LB=>?_
   refine ⟨?_,?_,?_⟩
   ·refine fun v2 bP mP K2 LP=>?_
    refine ⟨?_,?_⟩
    ·refine ⟨rfl,by omega,by omega,fun v3 bO mO K3 LO=>?_⟩
     refine ⟨rfl,by omega,by omega,fun v4 bI mI K4 LI=>?_⟩;refine ⟨_,_,_,((K2.trans (K3.trans K4)).get mB nofun),rfl,rfl,fun v5 m5 K5=>⟨_,by exact ⟨rfl,rfl,trivial⟩,bB,bP,bO,bI,rfl,bgn_end g1 (K1.trans (K2.trans (K3.trans K4))) l4 m4 ((K3.trans K4).get mP nofun) (K4.get mO nofun) mI ((K2.trans (K3.trans K4)).get mB nofun) (K1.upl LP) ((K1.trans K2).upl LO) ((K1.trans (K2.trans K3)).upl LI) LB m5 K5⟩⟩
    ·refine ⟨rfl,by omega,by omega,fun v3 bI mI K3 LI=>?_⟩
     refine ⟨rfl,by omega,by omega,fun v4 bO mO K4 LO=>?_⟩;refine ⟨_,_,_,((K2.trans (K3.trans K4)).get mB nofun),rfl,rfl,fun v5 m5 K5=>⟨_,by exact ⟨rfl,rfl,trivial⟩,bB,bP,bO,bI,rfl,bgn_end g1 (K1.trans (K2.trans (K3.trans K4))) l4 m4 ((K3.trans K4).get mP nofun) mO (K4.get mI nofun) ((K2.trans (K3.trans K4)).get mB nofun) (K1.upl LP) ((K1.trans (K2.trans K3)).upl LO) ((K1.trans K2).upl LI) LB m5 K5⟩⟩
   ·refine ⟨rfl,by omega,by omega,fun v2 bO mO K2 LO=>?_⟩
    refine ⟨?_,?_⟩
    ·refine fun v3 bP mP K3 LP=>?_
     refine ⟨rfl,by omega,by omega,fun v4 bI mI K4 LI=>?_⟩;refine ⟨_,_,_,((K2.trans (K3.trans K4)).get mB nofun),rfl,rfl,fun v5 m5 K5=>⟨_,by exact ⟨rfl,rfl,trivial⟩,bB,bP,bO,bI,rfl,bgn_end g1 (K1.trans (K2.trans (K3.trans K4))) l4 m4 (K4.get mP nofun) ((K3.trans K4).get mO nofun) mI ((K2.trans (K3.trans K4)).get mB nofun) ((K1.trans K2).upl LP) (K1.upl LO) ((K1.trans (K2.trans K3)).upl LI) LB m5 K5⟩⟩
    ·refine ⟨rfl,by omega,by omega,fun v3 bI mI K3 LI=>?_⟩
     refine fun v4 bP mP K4 LP=>?_
     refine ⟨_,_,_,((K2.trans (K3.trans K4)).get mB nofun),rfl,rfl,fun v5 m5 K5=>⟨_,by exact ⟨rfl,rfl,trivial⟩,bB,bP,bO,bI,rfl,bgn_end g1 (K1.trans (K2.trans (K3.trans K4))) l4 m4 mP ((K3.trans K4).get mO nofun) (K4.get mI nofun) ((K2.trans (K3.trans K4)).get mB nofun) ((K1.trans (K2.trans K3)).upl LP) (K1.upl LO) ((K1.trans K2).upl LI) LB m5 K5⟩⟩
   ·refine ⟨rfl,by omega,by omega,fun v2 bI mI K2 LI=>?_⟩
    refine ⟨?_,?_⟩
    ·refine fun v3 bP mP K3 LP=>?_
     refine ⟨rfl,by omega,by omega,fun v4 bO mO K4 LO=>?_⟩;refine ⟨_,_,_,((K2.trans (K3.trans K4)).get mB nofun),rfl,rfl,fun v5 m5 K5=>⟨_,by exact ⟨rfl,rfl,trivial⟩,bB,bP,bO,bI,rfl,bgn_end g1 (K1.trans (K2.trans (K3.trans K4))) l4 m4 (K4.get mP nofun) mO ((K3.trans K4).get mI nofun) ((K2.trans (K3.trans K4)).get mB nofun) ((K1.trans K2).upl LP) ((K1.trans (K2.trans K3)).upl LO) (K1.upl LI) LB m5 K5⟩⟩
    ·refine ⟨rfl,by omega,by omega,fun v3 bO mO K3 LO=>?_⟩
     refine fun v4 bP mP K4 LP=>?_
     refine ⟨_,_,_,((K2.trans (K3.trans K4)).get mB nofun),rfl,rfl,fun v5 m5 K5=>⟨_,by exact ⟨rfl,rfl,trivial⟩,bB,bP,bO,bI,rfl,bgn_end g1 (K1.trans (K2.trans (K3.trans K4))) l4 m4 mP (K4.get mO nofun) ((K3.trans K4).get mI nofun) ((K2.trans (K3.trans K4)).get mB nofun) ((K1.trans (K2.trans K3)).upl LP) ((K1.trans K2).upl LO) (K1.upl LI) LB m5 K5⟩⟩
 rintro q w2 ⟨b6,bM,bO,bI,rfl,B⟩;have hO:LN 62 2 w w2 (.slice (some ⟨bO,0,none⟩) n n) n ((List.replicate n ((0,.slice none 0 0,[]):La)).map lN).flatten:=by
  have hl:(((List.replicate n ((0,.slice none 0 0,[]):La)).map lN).flatten).length=n*2:=by rw [jO (f:=lN) (size:=2) (fun _=>rfl),List.length_replicate]
  refine ⟨⟨hl,.inr ⟨bO,n,_,rfl,Nat.zero_le _,B.mO,Nat.le_refl _,Nat.le_trans hn (by decide),?_,?_⟩⟩,B.gb,fun y hy=>by have:=B.lO;simp [Value.ownBlock] at hy;omega⟩
  ·rw [← Array.length_toList,Mg hn,hl]
  ·rw [Mg hn,List.take_of_length_le (by rw [hl];exact Nat.le_refl _)]
 have hI:LN 59 1 w w2 (.slice (some ⟨bI,0,none⟩) n n) n ((List.replicate n (0:Int)).map fun i=>Value.int .u32 i):=by
  have hl:((List.replicate n (0:Int)).map fun i=>Value.int .u32 i).length=n*1:=by rw [List.length_map,List.length_replicate];omega
  refine ⟨⟨hl,.inr ⟨bI,n,_,rfl,Nat.zero_le _,B.mI,Nat.le_refl _,Nat.le_trans hn (by decide),?_,?_⟩⟩,B.gb,fun y hy=>by have:=B.lI;simp [Value.ownBlock] at hy;omega⟩
  ·rw [← Array.length_toList,QG hn,hl]
  ·rw [QG hn,List.take_of_length_le (by rw [hl];exact Nat.le_refl _)]
 have hM:PN w w2 (.slice (some ⟨bM,0,none⟩) 1 1) [⟨0,0⟩]:=⟨⟨rfl,.inr ⟨bM,1,_,rfl,Nat.zero_le _,B.mM,Nat.le_refl _,by decide,rfl,rfl⟩⟩,B.gb,fun y hy=>by have:=B.lM;simp [Value.ownBlock] at hy;omega⟩;refine CS.of au mixed ?_;refine ⟨_,_,B.m6,_,rfl,?_⟩;refine ⟨fun m t wk=>∃ (i:Nat) (ls:List La),m=n - i∧i≤n∧t=[(4,.pointer (some ⟨b4,0,none⟩)),(6,.pointer (some ⟨b6,0,none⟩)),(37,.int .i64 n),(38,.int .i64 i)]∧ls.length=n∧LN 62 2 w wk (.slice (some ⟨bO,0,none⟩) ls.length n) ls.length (ls.map lN).flatten∧(∀ j,ls[j]? = if j<i then some (1,.slice none 0 0,[]) else if j<n then some (0,.slice none 0 0,[]) else none)∧GB (some bO) w2 wk,⟨_,_,⟨0,List.replicate n (0,.slice none 0 0,[]),rfl,Nat.zero_le _,rfl,List.length_replicate,by rw [List.length_replicate];exact hO,fun j=>?_,GB.refl _ _⟩,rfl,rfl,rfl,rfl,trivial⟩,?_⟩
 ·rw [if_neg (by omega),List.getElem?_replicate]
 have U7:∀ {c:Array Value} {x t:Nat},w2.heap[x]? = some (.cells c t)→t≠62→some x≠some bO:=fun hx ht e=>cO hx B.mO ht (Option.some.inj e)
 rintro m t wk ⟨i,ls,rfl,hi,rfl,hll,L,hat,gk⟩;have m6:=gk.get B.m6 (U7 B.m6 (by decide));refine aj (fun d=>?_) (fun d=>?_)
 ·have d1:i<n:=by have:=of_decide_eq_true d;omega
  have hx:ls[i]? = some (0,.slice none 0 0,[]):=by rw [hat,if_neg (by omega),if_pos d1]
  obtain ⟨g',cap',cur,ev,hg',aT,hcut,hsz⟩:=L.at (f:=lN) (fun _=>rfl) hx;injection ev with ea _ ec;injection ea with ea;injection ea with ea;subst ea ec;refine ⟨_,_,m6,_,rfl,⟨by omega,by omega⟩,_,_,_,aT,fC rfl rfl (by rw [Array.length_toList];show 0+(i:Int).toNat*2+0<_;omega),rfl,fun w3 m3 g3=>?_⟩;have L3:=L.set (f:=lN) (j:=0) (x':=(1,.slice none 0 0,[])) (fun _=>rfl) aT hx (by decide) rfl m3 (by show 0+(i:Int).toNat*2+0=i*2+0;rw [Int.toNat_natCast,Nat.zero_add]) rfl rfl g3;refine ⟨⟨by omega,by omega⟩,_,_,⟨i+1,ls.set i (1,.slice none 0 0,[]),rfl,by omega,rfl,by rw [List.length_set];exact hll,L3,fun j=>?_,gk.trans g3⟩,⟨rfl,rfl,rfl,rfl,trivial⟩,by omega⟩;rw [iQ (by omega),hat];by_cases e1:j=i
  ·rw [if_pos e1,if_pos (by omega)]
  ·rw [if_neg e1]
   by_cases e2:j<i
   ·rw [if_pos e2,if_pos (by omega)]
   ·rw [if_neg e2,if_neg (show ¬ j<i+1 by omega)]
 ·have d1:i=n:=by have:=of_decide_eq_false d;omega
  subst d1;have hls:ls=List.replicate i (1,.slice none 0 0,[]):=by
   refine List.ext_getElem? fun j=>?_
   rw [hat,List.getElem?_replicate];by_cases e:j<i
   ·rw [if_pos e,if_pos e]
   ·rw [if_neg e,if_neg e,if_neg e]
  have gw:GB none w wk:=L.gb;have hIk:=hI.off gk (fun x hx=>by cases hx;exact fun z=>U7 B.mI (by decide) (by simpa [Value.ownBlock] using z)) gw;have hMk:=hM.off gk (fun x hx=>by cases hx;exact fun z=>U7 B.mM (by decide) (by simpa [Value.ownBlock] using z)) gw;have S:SA w wk (Jk g i) (.slice none 0 0) (.slice (some ⟨bM,0,none⟩) 1 1) (.slice none 0 0) (.slice (some ⟨bO,0,none⟩) i i) (.slice (some ⟨bI,0,none⟩) i i) ls:=by
   have hmem:∀ l∈ls,l=(1,.slice none 0 0,[]):=fun l hl=>by rw [hls] at hl;exact List.eq_of_mem_replicate hl
   refine ⟨LN.nil gw,hMk,LN.nil gw,by rw [← hll];rw [hll] at L ⊢;exact L,by show LN _ _ _ _ _ (List.replicate i (0:Int)).length _;rw [List.length_replicate];exact hIk,fun l hl=>?_,?_,fun l hl x hx=>?_,fun l hl x hx=>?_,fun a b l l' _ hl _ y hy=>?_⟩
   ·rw [hmem l hl];exact ⟨LN.nil gw,fun x hx=>by cases hx⟩
   ·show ls.map LZ=List.replicate i (1,[])
    rw [hls,List.map_replicate];rfl
   ·rw [hmem l hl] at hx;cases hx
   ·rw [hmem l hl] at hx;cases hx
   ·rw [hmem l (List.mem_of_getElem? hl)] at hy;cases hy
  have m4k:=gk.get B.m4 (U7 B.m4 (by decide));refine ⟨_,_,m6,gQ (Jk g i) (.slice none 0 0) (.slice (some ⟨bM,0,none⟩) 1 1) (.slice none 0 0) (.slice (some ⟨bO,0,none⟩) i i) (.slice (some ⟨bI,0,none⟩) i i),rfl,rfl,_,_,_,m4k,rfl,rfl,fun w3 m3 g3=>?_⟩;refine ⟨_,_,m3,gQ (Jk g i) (.slice none 0 0) (.slice (some ⟨bM,0,none⟩) 1 1) (.slice none 0 0) (.slice (some ⟨bO,0,none⟩) i i) (.slice (some ⟨bI,0,none⟩) i i),rfl,rfl,_,_,_,_,_,_,rfl,fun w'' hw=>?_,gw.new g3 B.l4⟩;have S3:=S.bU g3 m4k (by decide) (by decide) (by decide) (by decide) (by decide) (by decide) B.l4;exact S3.over hw
structure Row.b (x:Row):Prop where
 k:gZ x.key
 v:gZ x.val
structure aD.b (p:aD):Prop where
 c:U8 p.c
 s:qH p.s
 key:gZ p.key
 k:U8 p.k
 v:gZ p.v
 g:U8 p.g
structure bH.b (q:bH):Prop where
 c:U8 q.c
 s:qH q.s
 k:U8 q.k
 key:gZ q.key
 v:gZ q.v
 hi:gZ q.hi
 to:U8 q.to
structure Rg.b (r:Rg):Prop where
 src:U8 r.src
 dst:U8 r.dst
 seq:qH r.seq
 lo:gZ r.lo
 hi:gZ r.hi
 rows:∀ x∈r.rows,x.b
 bz:∀ x∈r.bz,x.b
 rl:r.rows.length≤20000
 dl:r.bz.length≤20000
structure lQ (N:Nat) (c:MC):Prop where
 kind:U8 c.kind
 q:c.q.b
 r:c.r.b
 peer:U8 c.peer
 seq:qH c.seq
 src:c.kind=2→c.r.src<N
 ask:c.kind=1→kJ c.q=true
structure dI (N k:Nat) (s:St):Prop where
 Ay:k≤61
 ok:uU s
 n:s.n=N
 t:s.T.length≤256*k
 tb:∀ x∈s.T,x.b
 d:s.D.length≤256*k
 db:∀ x∈s.D,x.b
 o:∀ o∈s.O,o.2.length≤4∧1≤o.1∧o.1≤k+1∧∀ r∈o.2,r.src=s.g∧r.b
 i:∀ x∈s.I,0≤x∧x≤k
theorem JG {α:Type} {l:List α} {i:Nat} {a x:α} (h:x∈jZ l i a):x=a∨x∈l:=by
 unfold jZ at h;rcases List.mem_append.1 h with h | h
 ·exact .inr (List.mem_of_mem_take h)
 ·rcases List.mem_cons.1 h with h | h
  ·exact .inl h
  ·exact .inr (List.mem_of_mem_drop h)
theorem TF {T:List Row} {key v:Int} {x:Row} (h:x∈nU T key v):x=⟨key,v⟩∨x∈T:=by
 unfold nU at h;split at h
 ·exact uV h
 ·split at h
  ·exact .inr h
  ·exact JG h
theorem TG {T:List Row} {key:Int} {x:Row} (h:x∈wH T key):x∈T:=by
 unfold wH at h;split at h
 ·exact (List.eraseIdx_sublist _ _).subset h
 ·exact h
theorem TH {D:List aD} {q x:aD} (h:x∈iX D q):x=q∨x∈D:=by
 unfold iX at h;split at h
 ·exact uV h
 ·exact JG h
theorem Mh {α:Type} {f:α→Int} {lo hi:Int} {l:List α} {x:α} (h:x∈sB f lo l++sA f lo hi l):x∈l:=by
 rcases List.mem_append.1 h with h | h
 ·exact (List.mem_filter.1 h).1
 ·exact (List.mem_filter.1 h).1
theorem ZF {T:List Row} (h:∀ x∈T,x.b) (key:Int):gZ (rq T key):=by
 unfold rq;split
 ·cases hx:T[sF T key]? with
  | none=>exact ⟨Int.le_refl 0,by decide⟩
  | some x=>exact (h x (List.mem_of_getElem? hx)).v
 ·exact ⟨Int.le_refl 0,by decide⟩
theorem U9 {s:St} (hT:∀ x∈s.T,x.b) {q:bH} (hq:q.b):(kL s q).b:=by
 have z:gZ 0:=⟨Int.le_refl 0,by decide⟩;have z8:U8 0:=⟨Int.le_refl 0,by decide⟩;have e1:U8 1:=⟨by decide,by decide⟩;have e2:U8 2:=⟨by decide,by decide⟩;have e5:U8 5:=⟨by decide,by decide⟩;unfold kL;split
 ·exact ⟨hq.c,hq.s,hq.key,e1,ZF hT _,z8⟩
 split
 ·refine ⟨hq.c,hq.s,hq.key,?_,z,z8⟩
  show U8 (ru _ _);unfold ru;split
  ·exact e2
  ·split
   ·exact e5
   ·exact e2
 split
 ·exact ⟨hq.c,hq.s,hq.key,e2,z,z8⟩
 split
 ·exact ⟨hq.c,hq.s,hq.key,e2,z,z8⟩
 ·exact ⟨hq.c,hq.s,hq.key,e5,z,z8⟩
section
variable {N k:Nat} {s:St}
theorem dI.up (h:dI N k s) (hk:k≤60):dI N (k+1) s:=⟨by omega,h.ok,h.n,by have:=h.t;omega,h.tb,by have:=h.d;omega,h.db,fun o ho=>by
 obtain ⟨a,b,c,d⟩:=h.o o ho;exact ⟨a,b,by omega,d⟩,fun x hx=>by have:=h.i x hx;omega⟩
theorem WT {q:bH} (h:kJ q=true) (h4:q.k=4):q.key≤q.hi∧q.to<4:=by
 unfold kJ at h;rw [h4] at h;simp at h;exact ⟨h.2.1,h.2.2.1⟩
theorem dI.do (h:dI N k s) (hk:k≤60) {q:bH} (hq:q.b) (ho:kJ q=true):dI N (k+1) (sG s q):=by
 have hr:=Mf h.ok.sD (kL s q);have hpb:=U9 h.tb hq;have hd:=h.d;have ht:=h.t;have u:=h.up hk;have ok:=h.ok;have db:∀ x∈iX s.D (kL s q),x.b:=fun x hx=>by
  rcases TH hx with rfl | hx
  ·exact hpb
  ·exact h.db x hx
 unfold sG;split
 ·have h1:=WN ok.sT q.key q.v
  exact ⟨u.Ay,⟨ok.g0,ok.gn,ok.n4,h1.1,hr.1,ok.BU,ok.can,ok.ol,ok.il⟩,h.n,by have:=h1.2;dsimp only;omega,fun x hx=>(TF hx).elim (fun e=>by rw [e];exact ⟨hq.key,hq.v⟩) (h.tb x),by have:=hr.2;dsimp only;omega,db,u.o,u.i⟩
 split
 ·have h1:=WO ok.sT q.key
  exact ⟨u.Ay,⟨ok.g0,ok.gn,ok.n4,h1.1,hr.1,ok.BU,ok.can,ok.ol,ok.il⟩,h.n,by have:=h1.2;dsimp only;omega,fun x hx=>h.tb x (TG hx),by have:=hr.2;dsimp only;omega,db,u.o,u.i⟩
 split
 ·rename_i c4
  obtain ⟨h4,hf⟩:=c4;obtain ⟨hlh,hto⟩:=WT ho h4;obtain ⟨gc,_⟩:=zU ok.can hq.key.1 hlh (by have:=hq.hi.2;omega) (g:=q.to) ⟨hq.to.1,hto⟩;have f8:(iB s.M q.key q.hi q.to).length≤8:=by unfold gu at hf;simp at hf;exact hf.2
  have fq:(dO s.O q.to).2.length<4:=by unfold gu at hf;simp at hf;exact hf.1.2
  have fn:q.to<s.n:=by unfold gu at hf;simp at hf;exact hf.1.1.2
  have hlm:dO s.O q.to∈s.O:=by
   unfold dO;have hl:q.to.toNat<s.O.length:=by have:=ok.ol;have:=hq.to.1;omega
   rw [List.getElem?_eq_getElem hl];exact List.getElem_mem hl
  obtain ⟨l1,l2,l3,l4⟩:=h.o _ hlm;have hw:IntKind.u32.wrap ((dO s.O q.to).1+1)=(dO s.O q.to).1+1:=wrap_u32 (by omega);have a1:(sW (fun x:Row=>x.key) q.key q.hi s.T).length≤s.T.length:=List.length_filter_le _ _;have a2:(sW (fun x:aD=>x.key) q.key q.hi (iX s.D (kL s q))).length≤(iX s.D (kL s q)).length:=List.length_filter_le _ _;have a3:(yx s.T q.key q.hi).length≤s.T.length:=by unfold yx;exact Bi hlh ok.sT.le
  have a4:(yz (iX s.D (kL s q)) q.key q.hi).length≤(iX s.D (kL s q)).length:=by unfold yz;exact Bi hlh hr.1.le
  have hr2:=hr.2;refine ⟨u.Ay,⟨ok.g0,ok.gn,ok.n4,?_,?_,Et gc (Nat.le_trans f8 (by omega)),gc,?_,ok.il⟩,h.n,?_,fun x hx=>h.tb x (Mh hx),?_,fun x hx=>db x (Mh hx),fun o ho'=>?_,u.i⟩
  ·show fK (yx _ _ _);unfold yx;rw [vY hlh ok.sT.le];exact ok.sT.sublist List.filter_sublist
  ·show iD (yz _ _ _);unfold yz;rw [vY hlh hr.1.le];exact hr.1.sublist List.filter_sublist
  ·show ((List.set _ _ _).length:Int)=_;rw [List.length_set];exact ok.ol
  ·show (yx _ _ _).length≤_;omega
  ·show (yz _ _ _).length≤_;omega
  ·rcases uV ho' with rfl | ho'
   ·rw [hw]
    refine ⟨by simp only [List.length_append,List.length_singleton];omega,by dsimp only;omega,by dsimp only;omega,fun r hr'=>?_⟩;rcases List.mem_append.1 hr' with hr' | hr'
    ·exact l4 r hr'
    ·rw [List.mem_singleton] at hr'
     subst hr';have hg:=ok.g0;have hgn:=ok.gn;have jr:=ok.n4;exact ⟨rfl,⟨⟨hg,by show s.g<256;omega⟩,hq.to,⟨by show 0≤(dO s.O q.to).1;omega,by show (dO s.O q.to).1<4294967296;omega⟩,hq.key,hq.hi,fun x hx=>h.tb x (List.mem_filter.1 hx).1,fun x hx=>db x (List.mem_filter.1 hx).1,by show (sW _ _ _ _).length≤_;omega,by show (sW _ _ _ _).length≤_;omega⟩⟩
   ·exact u.o o ho'
 ·exact ⟨u.Ay,⟨ok.g0,ok.gn,ok.n4,ok.sT,hr.1,ok.BU,ok.can,ok.ol,ok.il⟩,h.n,u.t,h.tb,by have:=hr.2;dsimp only;omega,db,u.o,u.i⟩
theorem dI.ask (h:dI N k s) (hk:k≤60) {q:bH} (hq:q.b):dI N (k+1) (yA s q).1:=by
 have u:=h.up hk;unfold yA;split
 ·exact u
 ·rename_i hok
  have hdo:=h.do hk hq (by simpa using hok);split
  ·exact u
  ·split
   ·split
    ·split
     ·exact hdo
     ·split <;> exact u
    ·exact u
   ·exact hdo
theorem dI.rcv (h:dI N k s) (hk:k≤60) {r:Rg} (hr:r.b):dI N (k+1) (CO s r):=by
 have u:=h.up hk;have ok:=h.ok;unfold CO;split
 ·rename_i c
  obtain ⟨hok,hn,hg⟩:=c;obtain ⟨hlh,h1,h2⟩:=Gt hok;obtain ⟨s1,i1,l1⟩:=BX h1;obtain ⟨s2,i2,l2⟩:=BZ h2;have hg4:=ok.gn;have jr:=ok.n4;have hg0:=ok.g0;obtain ⟨gc,_⟩:=zU ok.can hr.lo.1 hlh (by have:=hr.hi.2;omega) (g:=s.g) ⟨hg0,by omega⟩;have b1:(sB (fun x:Row=>x.key) r.lo s.T++sA (fun x:Row=>x.key) r.lo r.hi s.T).length≤s.T.length:=Bi hlh ok.sT.le;have b2:(sB (fun x:aD=>x.key) r.lo s.D++sA (fun x:aD=>x.key) r.lo r.hi s.D).length≤s.D.length:=Bi hlh ok.sD.le;simp only [List.length_append] at b1 b2;have ht:=h.t;have hd:=h.d;refine ⟨u.Ay,⟨ok.g0,ok.gn,ok.n4,Zy (lo:=r.lo) (hi:=r.hi) (fun x hx=>U3 hx) (fun x hx=>U4 hx) i1 (ok.sT.sublist List.filter_sublist) s1 (ok.sT.sublist List.filter_sublist) hlh,WQ (lo:=r.lo) (hi:=r.hi) (fun x hx=>U3 hx) (fun x hx=>U4 hx) i2 (ok.sD.sublist List.filter_sublist) s2 (ok.sD.sublist List.filter_sublist) hlh,Et gc hg,gc,ok.ol,?_⟩,h.n,?_,fun x hx=>?_,?_,fun x hx=>?_,u.o,fun x hx=>?_⟩
  ·show ((List.set _ _ _).length:Int)=_;rw [List.length_set];exact ok.il
  ·simp only [List.length_append];omega
  ·rcases List.mem_append.1 hx with hx | hx
   ·exact h.tb x (List.mem_filter.1 hx).1
   ·rcases List.mem_append.1 hx with hx | hx
    ·exact hr.rows x hx
    ·exact h.tb x (List.mem_filter.1 hx).1
  ·simp only [List.length_append];omega
  ·rcases List.mem_append.1 hx with hx | hx
   ·exact h.db x (List.mem_filter.1 hx).1
   ·rcases List.mem_append.1 hx with hx | hx
    ·exact hr.bz x hx
    ·exact h.db x (List.mem_filter.1 hx).1
  ·rcases uV hx with rfl | hx
   ·have hsrc:r.seq=IntKind.u32.wrap (((s.I[r.src.toNat]?).getD 0)+1):=by unfold Bg at hn;simp at hn;exact hn.2
    have hold:0≤(s.I[r.src.toNat]?).getD 0∧(s.I[r.src.toNat]?).getD 0≤k:=by
     cases hx:s.I[r.src.toNat]? with
     | none=>exact ⟨Int.le_refl 0,by show (0:Int)≤k;omega⟩
     | some y=>exact h.i y (List.mem_of_getElem? hx)
    rw [wrap_u32 (by omega)] at hsrc;omega
   ·exact u.i x hx
 ·exact u
theorem dI.set (h:dI N k s) (hk:k≤60) {peer:Int} (hp0:0≤peer) (sq:Int):dI N (k+1) (CP s peer sq):=by
 have u:=h.up hk;have ok:=h.ok;unfold CP;split
 ·refine ⟨u.Ay,⟨ok.g0,ok.gn,ok.n4,ok.sT,ok.sD,ok.BU,ok.can,?_,ok.il⟩,h.n,u.t,u.tb,u.d,u.db,fun o ho=>?_,u.i⟩
  ·show ((List.set _ _ _).length:Int)=_;rw [List.length_set];exact ok.ol
  ·rcases uV ho with rfl | ho
   ·rename_i hpn
    have hlm:dO s.O peer∈s.O:=by
     unfold dO;have hl:peer.toNat<s.O.length:=by have:=ok.ol;omega
     rw [List.getElem?_eq_getElem hl];exact List.getElem_mem hl
    obtain ⟨l1,l2,l3,l4⟩:=u.o _ hlm;exact ⟨Nat.le_trans (List.length_filter_le _ _) l1,l2,l3,fun r hr=>l4 r (List.mem_filter.1 hr).1⟩
   ·exact u.o o ho
 ·exact u
theorem dI.app (h:dI N k s) (hk:k≤60) {c:MC} (hc:lQ N c):dI N (k+1) (sU s c).1:=by
 unfold sU;split
 ·exact h.ask hk hc.q
 split
 ·exact h.rcv hk hc.r
 split
 ·exact h.set hk hc.peer.1 _
 ·exact h.up hk
end
theorem aP.own {w w':World} {r:Rg} {rv dv v:Value} {n:Nat} {xs:List Value} (h:aP w r rv dv) (ho:w.ownsRow 0 178 20 v n xs) (g:GB v.ownBlock w w'):aP w' r rv dv:=by
 cases hv:v.ownBlock with
 | none=>rw [hv] at g;exact h.kz g.kz
 | some x =>
  rw [hv] at g;obtain ⟨c,hc⟩:=aG ho hv;exact h.bU g hc (by decide) (by decide)
theorem zip_map {α β γ:Type} (f:α→β→γ):∀ l:List (α×β),List.zipWith f (l.map (·.1)) (l.map (·.2))=l.map fun x=>f x.1 x.2
 | []=>rfl
 | _::l=>by simp only [List.map_cons,List.zipWith_cons_cons,zip_map f l]
section
variable {w:World} {b:Nat} {l:List Nat}
abbrev mvA (x:MV×Value×Value):List Value:=jm x.1 x.2.1 x.2.2
theorem bY.of {w:World} {v:Value} {acc:List (MV×Value×Value)} (ho:w.ownsRow 0 178 20 v acc.length (acc.map mvA).flatten) (hr:∀ x∈acc,aP w x.1.c.r x.2.1 x.2.2):bY w v (acc.map (·.1)):=by
 refine ⟨acc.map (·.2),by simp,?_,fun i x p hx hp=>?_⟩
 ·rw [zip_map (fun x (p:Value×Value)=>jm x p.1 p.2),List.length_map]
  exact lK ho
 ·rw [List.getElem?_map] at hx hp
  cases ha:acc[i]? with
  | none=>rw [ha] at hx;cases hx
  | some y =>
   rw [ha] at hx hp;cases hx;cases hp
   exact hr y (List.mem_of_getElem? ha)
theorem TI (hs:Src w b l):af Tryz.prog 72 #[.pointer (some ⟨b,0,none⟩),.func (.func 73) #[.pointer (some ⟨b,0,none⟩)] #[]] w (fun v w'=>∃ x l',ja ni l=(x,l')∧bY w' v x∧Src w' b l'∧GB (some b) w w'):=by
 refine ah au mixed Tryz.func72 rfl rfl ?_;refine ⟨_,jW hs,?_⟩;rintro _ w1 ⟨n,l1,en,hn,rfl,s1,g1⟩;refine ⟨fun m s wk=>∃ (i:Nat) (v:Value) (acc:List (MV×Value×Value)) (li:List Nat),m=n - i∧i≤n∧s=[(0,.pointer (some ⟨b,0,none⟩)),(1,.func (.func 73) #[.pointer (some ⟨b,0,none⟩)] #[]),(5,v),(7,.int .u8 n),(8,.int .u8 i)]∧wk.ownsRow 0 178 20 v acc.length (acc.map mvA).flatten∧Src wk b li∧GB (some b) w wk∧(∀ g,v.ownBlock=some g→w.heap.size≤g)∧nP ni n l1=(acc.map (·.1)++(nP ni (n - i) li).1,(nP ni (n - i) li).2)∧acc.length=i∧∀ x∈acc,aP wk x.1.c.r x.2.1 x.2.2,⟨_,_,⟨0,_,[],l1,rfl,Nat.zero_le _,rfl,eG _ _ _,s1,g1,nofun,rfl,rfl,fun _ h=>by cases h⟩,rfl,rfl,rfl,rfl,rfl,trivial⟩,?_⟩;clear s1 g1;rintro m s wk ⟨i,v,acc,li,rfl,hi,rfl,ho,sk,gk,nk,hr,IL,hrg⟩;obtain ⟨va,vc,rfl⟩:=ag ho;refine aj (fun e=>?_) (fun e=>?_)
 ·have e1:i<n:=by have:=of_decide_eq_true e;omega
  obtain ⟨d,hd,rfl⟩:=sk;refine ⟨_,_,hd,_,rfl,aj (fun q=>?_) (fun q=>?_)⟩
  ·rw [qx.1 q,Fp,List.append_nil] at hr
   exact ⟨_,_,by rw [ja,aZ en];exact hr,bY.of ho hrg,⟨d,hd,qx.1 q⟩,gk⟩
  ·have q1:dl d≠[]:=fun z=>by rw [qx.2 z] at q;cases q
   refine ⟨_,Wu ⟨d,hd,rfl⟩,?_⟩;rintro _ w2 ⟨x,l2,ex,⟨rv,dv,rfl,hx⟩,s2,g2⟩;obtain ⟨ra,rm,rc,da,dm,dc,rfl,rfl⟩:=hx.sl;refine fun w3 b3 m3 g3 l3=>?_
   have hb:=hs.lt;have ho3:=aF (uk ho g2 nk hb) fun x hx=>by obtain ⟨c,hc⟩:=aG (uk ho g2 nk hb) hx;exact g3.block x (ae hc) nofun
   refine ⟨_,jm x (.slice ra rm rc) (.slice da dm dc),ho3,⟨_,_,m3,rfl,rfl,rfl⟩,by omega,fun v' w4 yV g4 n4=>?_⟩;obtain ⟨Lt,Lu,rfl⟩:=ag yV;have pJ:GB (some b) w w3:=(gk.trans g2).trans g3.weak;have Qg:∀ g,(Value.slice Lt (acc.length+1) Lu).ownBlock=some g→w.heap.size≤g:=fun g hg=>(n4.own g hg).elim (nk g) fun z=>Nat.le_trans pJ.size z
   have s4:Src w4 b l2:=(s2.keep (g3.block b s2.lt nofun)).keep (g4.block b (Nat.lt_of_lt_of_le s2.lt g3.size) fun z=>by have:=nk b z.symm;omega);have g4':GB (some b) w w4:=⟨g4.os.trans pJ.os,g4.out.trans pJ.out,Nat.le_trans pJ.size g4.size,fun y hy hn=>(g4.block y (Nat.lt_of_lt_of_le hy pJ.size) fun z=>by have:=nk y z.symm;omega).trans (pJ.block y hy hn)⟩;have adv:∀ y∈acc++[(x,Value.slice ra rm rc,Value.slice da dm dc)],aP w4 y.1.c.r y.2.1 y.2.2:=fun y hy=>by
    rcases List.mem_append.1 hy with hy | hy
    ·exact (((hrg y hy).bU g2 hd (by decide) (by decide)).kz g3.kz).own ho3 g4
    ·rw [List.mem_singleton] at hy
     subst hy;exact (hx.kz g3.kz).own ho3 g4
   refine ⟨⟨by omega,by omega⟩,_,_,⟨i+1,_,acc++[(x,.slice ra rm rc,.slice da dm dc)],l2,rfl,by omega,rfl,by simpa using (show w4.ownsRow 0 178 20 _ _ _ from yV),s4,g4',Qg,?_,by simp [IL],adv⟩,⟨rfl,rfl,rfl,rfl,rfl,trivial⟩,by omega⟩;rw [hr,show n - i=(n - (i+1))+1 by omega,yC ex q1];simp
 ·have e1:i=n:=by have:=of_decide_eq_false e;omega
  rw [e1,Nat.sub_self] at hr;exact ⟨_,_,by rw [ja,aZ en];simpa [nP] using hr,bY.of ho hrg,sk,gk⟩
end
end
end Go.Proofs.YtignemioillaiabGreat
