/- What is right: requests, replies. -/
import Derived.Test.YtignemioillaiabGreatG29
namespace Go.Proofs.YtignemioillaiabGreat
set_option maxHeartbeats 8000000
set_option maxRecDepth 100000
section
open Go Go.Conc
def kH (c s:Int):Bool:=decide (c<4) && decide (1<=s)
def kI (q:bN):Bool:=kH q.c q.s && (if q.k=1\/q.k=3 then q.v == 0 && (q.hi == 0 && q.to == 0) else if q.k=2 then q.hi == 0 && q.to == 0 else if q.k=4 then decide (q.key<=q.hi) && (decide (q.to<4) && q.v == 0) else false)
def tL (p:az):Bool:=kH p.c p.s && (if p.k=1 then (p.found || p.v == 0) && p.g == 0 else if p.k=3 then decide (p.g<4) && (!p.found && p.v == 0) else if p.k=2\/p.k=4\/p.k=5 then !p.found && (p.v == 0 && p.g == 0) else false)
theorem jC (w:World) (c s:Int):af Tryz.prog 153 #[.int .u8 c,.int .u32 s] w (λ v w'=>v=.bool (kH c s)/\w'=w):=by
 refine aj ah mixed Tryz.func153 rfl rfl ?_;refine au (λ d=>?_) (λ d=>?_)
 ·exact ⟨congrArg Value.bool (by grind [kH]),rfl⟩
 ·exact ⟨congrArg Value.bool (by grind [kH]),rfl⟩
theorem oU (w:World) (g:Int):af Tryz.prog 117 #[.int .u8 g] w (λ v w'=>v=.bool (decide (g<4))/\w'=w):=by
 refine aj ah mixed Tryz.func117 rfl rfl ?_;exact ⟨rfl,rfl⟩
theorem Hu (w:World) (k:Int):af Tryz.prog 195 #[.int .u8 k] w (λ v w'=>v=.bool (kept k)/\w'=w):=by
 refine aj ah mixed Tryz.func195 rfl rfl ?_;refine au (λ d=>?_) (λ d=>?_)
 ·refine au (λ e=>?_) (λ e=>?_)
  ·exact ⟨congrArg Value.bool (by simp at d e;simp [kept,d,e]),rfl⟩
  ·exact ⟨congrArg Value.bool (by simp at d e;simp [kept,e]),rfl⟩
 ·exact ⟨congrArg Value.bool (by simp at d;simp [kept,d]),rfl⟩
theorem Gy (w:World) (r:Rg) (rv dv:Value) (k:Int):af Tryz.prog 194 #[.agg (eO r rv dv).toArray,.int .u64 k] w (λ v w'=>v=.bool (decide (r.lo<=k) && decide (k<=r.hi))/\GB none w w'):=by
 refine aj ah mixed Tryz.func194 rfl rfl ?_;refine λ w1 b1 m1 g1 l1=>⟨_,_,m1,_,rfl,?_⟩
 refine au (λ d=>?_) (λ d=>?_)
 ·exact ⟨_,_,m1,_,rfl,congrArg Value.bool (by grind),g1⟩
 ·exact ⟨congrArg Value.bool (by grind),g1⟩
theorem Tt (w:World) (a b:az):af Tryz.prog 196 #[.agg a.cells.toArray,.agg b.cells.toArray] w (λ v w'=>v=.bool (ahead a b)/\GB none w w'):=by
 refine aj ah mixed Tryz.func196 rfl rfl ?_;refine λ w1 b1 m1 g1 l1 w2 b2 m2 g2 l2=>?_
 have m1:=g2.get m1 nofun;have g:=g1.trans g2;refine ⟨_,_,m1,_,rfl,_,_,m2,_,rfl,?_⟩;refine au (λ d=>?_) (λ d=>?_)
 ·refine ⟨_,_,m1,_,rfl,_,_,m2,_,rfl,?_⟩
  refine au (λ e=>?_) (λ e=>?_)
  ·exact ⟨_,_,m1,_,rfl,_,_,m2,_,rfl,congrArg Value.bool (by simp at d e;simp [ahead,e]),g⟩
  ·exact ⟨congrArg Value.bool (by simp at d e;simp [ahead,e];omega),g⟩
 ·exact ⟨congrArg Value.bool (by simp at d;simp [ahead,d]),g⟩
theorem Qg (w:World) (c s key v hi to:Int):af Tryz.prog 99 #[.agg (bN.cells ⟨c,s,4,key,v,hi,to⟩).toArray] w (λ x w'=>x=.bool (kI ⟨c,s,4,key,v,hi,to⟩)/\GB none w w'):=by
 refine Ak ah Tryz.func99 rfl rfl ?_;refine CS.piece (Q:=λ q w'=>∃ b1,q=[(1,Ptt b1)]/\w'.heap[b1]? = some (.cells (bN.cells ⟨c,s,4,key,v,hi,to⟩).toArray 65)/\GB none w w'/\w.heap.size<=b1) (CS.of ah mixed (λ w1 b1 m1 g1 l1=>⟨_,by exact ⟨rfl,trivial⟩,b1,rfl,m1,g1,l1⟩)) ?_;rintro q w1 ⟨b1,rfl,m1,g1,l1⟩;refine CS.piece (Q:=λ q w'=>q=[(1,Ptt b1),(3,.bool (kH c s))]/\w'=w1) (CS.of ah mixed ?_) ?_
 ·refine ⟨_,_,m1,_,rfl,_,_,m1,_,rfl,_,jC _ _ _,?_⟩
  rintro _ w1 ⟨rfl,rfl⟩;exact ⟨_,by exact ⟨rfl,rfl,trivial⟩,rfl,rfl⟩
 rintro q w1 ⟨rfl,rfl⟩;refine CS.piece (Q:=λ q w'=>∃ a,q=[(1,Ptt b1),(3,.bool a)]/\a=(kH c s && (decide (key<=hi) && decide (to<4)))/\w'.heap[b1]? = some (.cells (bN.cells ⟨c,s,4,key,v,0,0⟩).toArray 65)/\GB none w w') (CS.of ah mixed ?_) ?_
 ·refine ⟨_,_,m1,_,rfl,?_⟩
  generalize kH c s=a;cases a
  ·refine ⟨_,_,_,m1,rfl,rfl,λ w2 m2 g2=>⟨_,_,_,m2,rfl,rfl,λ w3 m3 g3=>?_⟩⟩
   exact ⟨_,by exact ⟨rfl,rfl,trivial⟩,_,rfl,rfl,m3,(g1.new g2 l1).new g3 l1⟩
  ·refine ⟨_,_,m1,_,rfl,_,_,m1,_,rfl,?_⟩
   refine au (λ d=>?_) (λ d=>?_)
   ·refine ⟨_,_,m1,_,rfl,_,oU _ _,?_⟩
    rintro _ w1 ⟨rfl,rfl⟩;refine ⟨_,_,_,m1,rfl,rfl,λ w2 m2 g2=>⟨_,_,_,m2,rfl,rfl,λ w3 m3 g3=>?_⟩⟩;exact ⟨_,by exact ⟨rfl,rfl,trivial⟩,_,rfl,by simp at d;simp [d],m3,(g1.new g2 l1).new g3 l1⟩
   ·refine ⟨_,_,_,m1,rfl,rfl,λ w2 m2 g2=>⟨_,_,_,m2,rfl,rfl,λ w3 m3 g3=>?_⟩⟩
    exact ⟨_,by exact ⟨rfl,rfl,trivial⟩,_,rfl,by simp at d;simp [Int.not_le.2 d],m3,(g1.new g2 l1).new g3 l1⟩
 rintro q w3 ⟨_,rfl,rfl,m3,g⟩;have e:kI ⟨c,s,4,key,v,hi,to⟩=((kH c s && (decide (key<=hi) && decide (to<4))) && v == 0):=by simp [kI,Bool.and_assoc]
 rw [e];generalize (kH c s && (decide (key<=hi) && decide (to<4)))=a;refine CS.of ah mixed ?_;cases a
 ·exact ⟨rfl,g⟩
 ·refine ⟨_,_,m3,_,rfl,?_⟩
  refine au (λ d=>?_) (λ d=>?_)
  ·exact ⟨_,_,m3,_,rfl,_,_,m3,_,rfl,congrArg Value.bool (by grind),g⟩
  ·exact ⟨congrArg Value.bool (by grind),g⟩
theorem yB (w:World) (q:bN):af Tryz.prog 99 #[.agg q.cells.toArray] w (λ v w'=>v=.bool (kI q)/\GB none w w'):=by
 obtain ⟨c,s,k,key,v,hi,to⟩:=q;by_cases k1:k=1
 ·subst k1
  refine aj ah mixed Tryz.func99 rfl rfl ?_;refine λ w1 b1 m1 g1 l1=>⟨_,_,m1,_,rfl,_,_,m1,_,rfl,_,jC _ _ _,?_⟩
  rintro _ w1 ⟨rfl,rfl⟩;simp only [kI];generalize kH c s=a;refine ⟨_,_,m1,_,rfl,?_⟩;cases a
  ·exact ⟨congrArg Value.bool (by grind),g1⟩
  ·refine ⟨_,_,m1,_,rfl,?_⟩
   refine au (λ c0=>?_) (λ c0=>?_)
   ·refine ⟨_,_,m1,_,rfl,?_⟩
    refine au (λ c1=>?_) (λ c1=>?_)
    ·refine ⟨_,_,m1,_,rfl,?_⟩
     exact ⟨congrArg Value.bool (by grind),g1⟩
    ·exact ⟨congrArg Value.bool (by grind),g1⟩
   ·exact ⟨congrArg Value.bool (by grind),g1⟩
 by_cases k3:k=3
 ·subst k3
  refine aj ah mixed Tryz.func99 rfl rfl ?_;refine λ w1 b1 m1 g1 l1=>⟨_,_,m1,_,rfl,_,_,m1,_,rfl,_,jC _ _ _,?_⟩
  rintro _ w1 ⟨rfl,rfl⟩;simp only [kI];generalize kH c s=a;refine ⟨_,_,m1,_,rfl,?_⟩;cases a
  ·exact ⟨congrArg Value.bool (by grind),g1⟩
  ·refine ⟨_,_,m1,_,rfl,?_⟩
   refine au (λ c0=>?_) (λ c0=>?_)
   ·refine ⟨_,_,m1,_,rfl,?_⟩
    refine au (λ c1=>?_) (λ c1=>?_)
    ·refine ⟨_,_,m1,_,rfl,?_⟩
     exact ⟨congrArg Value.bool (by grind),g1⟩
    ·exact ⟨congrArg Value.bool (by grind),g1⟩
   ·exact ⟨congrArg Value.bool (by grind),g1⟩
 by_cases k2:k=2
 ·subst k2
  refine aj ah mixed Tryz.func99 rfl rfl ?_;refine λ w1 b1 m1 g1 l1=>⟨_,_,m1,_,rfl,_,_,m1,_,rfl,_,jC _ _ _,?_⟩
  rintro _ w1 ⟨rfl,rfl⟩;simp only [kI];generalize kH c s=a;refine ⟨_,_,m1,_,rfl,?_⟩;cases a
  ·refine ⟨_,_,_,m1,rfl,rfl,λ w2 m2 g2=>?_⟩
   have g:=g1.new g2 l1;exact ⟨congrArg Value.bool (by grind),g⟩
  ·refine ⟨_,_,_,m1,rfl,rfl,λ w2 m2 g2=>?_⟩
   have g:=g1.new g2 l1;refine ⟨_,_,m2,_,rfl,?_⟩;refine ⟨_,_,m2,_,rfl,?_⟩;refine au (λ c0=>?_) (λ c0=>?_)
   ·refine ⟨_,_,m2,_,rfl,?_⟩
    exact ⟨congrArg Value.bool (by grind),g⟩
   ·exact ⟨congrArg Value.bool (by grind),g⟩
 by_cases k4:k=4
 ·subst k4
  exact Qg w c s key v hi to
 refine aj ah mixed Tryz.func99 rfl rfl ?_;refine λ w1 b1 m1 g1 l1=>⟨_,_,m1,_,rfl,_,_,m1,_,rfl,_,jC _ _ _,?_⟩
 rintro _ w1 ⟨rfl,rfl⟩;refine ⟨_,_,m1,_,rfl,?_⟩;refine au (λ e=>absurd (by simpa using e) k1) (λ _=>?_);refine au (λ e=>absurd (by simpa using e) k3) (λ _=>?_);refine au (λ e=>absurd (by simpa using e) k2) (λ _=>?_);refine au (λ e=>absurd (by simpa using e) k4) (λ _=>?_);exact ⟨congrArg Value.bool (by grind [kI]),g1⟩
theorem Jy (w:World) (p:az):af Tryz.prog 114 #[.agg p.cells.toArray] w (λ v w'=>v=.bool (tL p)/\GB none w w'):=by
 obtain ⟨c,s,key,k,found,v,g⟩:=p;by_cases k1:k=1
 ·subst k1
  refine aj ah mixed Tryz.func114 rfl rfl ?_;refine λ w1 b1 m1 g1 l1=>⟨_,_,m1,_,rfl,_,_,m1,_,rfl,_,jC _ _ _,?_⟩
  rintro _ w1 ⟨rfl,rfl⟩;simp only [tL];generalize kH c s=a;refine ⟨_,_,m1,_,rfl,?_⟩;cases a
  ·cases found
   ·refine ⟨_,_,_,m1,rfl,rfl,λ w2 m2 g2=>⟨_,_,_,m2,rfl,rfl,λ w3 m3 g3=>?_⟩⟩
    have g9:=(g1.new g2 l1).new g3 l1;exact ⟨congrArg Value.bool (by grind),g9⟩
   ·refine ⟨_,_,_,m1,rfl,rfl,λ w2 m2 g2=>⟨_,_,_,m2,rfl,rfl,λ w3 m3 g3=>?_⟩⟩
    have g9:=(g1.new g2 l1).new g3 l1;exact ⟨congrArg Value.bool (by grind),g9⟩
  ·cases found
   ·refine ⟨_,_,m1,_,rfl,?_⟩
    refine ⟨_,_,m1,_,rfl,?_⟩;refine ⟨_,_,_,m1,rfl,rfl,λ w2 m2 g2=>⟨_,_,_,m2,rfl,rfl,λ w3 m3 g3=>?_⟩⟩;have g9:=(g1.new g2 l1).new g3 l1;refine au (λ c0=>?_) (λ c0=>?_)
    ·refine ⟨_,_,m3,_,rfl,?_⟩
     refine ⟨_,_,m3,_,rfl,?_⟩;refine ⟨_,_,m3,_,rfl,?_⟩;exact ⟨congrArg Value.bool (by grind),g9⟩
    ·exact ⟨congrArg Value.bool (by grind),g9⟩
   ·refine ⟨_,_,m1,_,rfl,?_⟩
    refine ⟨_,_,_,m1,rfl,rfl,λ w2 m2 g2=>⟨_,_,_,m2,rfl,rfl,λ w3 m3 g3=>?_⟩⟩;have g9:=(g1.new g2 l1).new g3 l1;refine ⟨_,_,m3,_,rfl,?_⟩;refine ⟨_,_,m3,_,rfl,?_⟩;refine ⟨_,_,m3,_,rfl,?_⟩;exact ⟨congrArg Value.bool (by grind),g9⟩
 by_cases k3:k=3
 ·subst k3
  refine aj ah mixed Tryz.func114 rfl rfl ?_;refine λ w1 b1 m1 g1 l1=>⟨_,_,m1,_,rfl,_,_,m1,_,rfl,_,jC _ _ _,?_⟩
  rintro _ w1 ⟨rfl,rfl⟩;simp only [tL];generalize kH c s=a;refine ⟨_,_,m1,_,rfl,?_⟩;cases a
  ·cases found
   ·refine ⟨_,_,_,m1,rfl,rfl,λ w2 m2 g2=>?_⟩
    have g9:=g1.new g2 l1;exact ⟨congrArg Value.bool (by grind),g9⟩
   ·refine ⟨_,_,_,m1,rfl,rfl,λ w2 m2 g2=>?_⟩
    have g9:=g1.new g2 l1;exact ⟨congrArg Value.bool (by grind),g9⟩
  ·cases found
   ·refine ⟨_,_,m1,_,rfl,?_⟩
    refine ⟨_,oU _ _,?_⟩;rintro _ w1 ⟨rfl,rfl⟩;refine ⟨_,_,_,m1,rfl,rfl,λ w2 m2 g2=>?_⟩;have g9:=g1.new g2 l1;refine au (λ c0=>?_) (λ c0=>?_)
    ·refine ⟨_,_,m2,_,rfl,?_⟩
     refine ⟨_,_,m2,_,rfl,?_⟩;refine au (λ c1=>?_) (λ c1=>?_)
     ·refine ⟨_,_,m2,_,rfl,?_⟩
      exact ⟨congrArg Value.bool (by grind),g9⟩
     ·exact ⟨congrArg Value.bool (by grind),g9⟩
    ·exact ⟨congrArg Value.bool (by grind),g9⟩
   ·refine ⟨_,_,m1,_,rfl,?_⟩
    refine ⟨_,oU _ _,?_⟩;rintro _ w1 ⟨rfl,rfl⟩;refine ⟨_,_,_,m1,rfl,rfl,λ w2 m2 g2=>?_⟩;have g9:=g1.new g2 l1;refine au (λ c0=>?_) (λ c0=>?_)
    ·refine ⟨_,_,m2,_,rfl,?_⟩
     exact ⟨congrArg Value.bool (by grind),g9⟩
    ·exact ⟨congrArg Value.bool (by grind),g9⟩
 by_cases k2:k=2
 ·subst k2
  refine aj ah mixed Tryz.func114 rfl rfl ?_;refine λ w1 b1 m1 g1 l1=>⟨_,_,m1,_,rfl,_,_,m1,_,rfl,_,jC _ _ _,?_⟩
  rintro _ w1 ⟨rfl,rfl⟩;simp only [tL];generalize kH c s=a;refine ⟨_,_,m1,_,rfl,?_⟩;cases a
  ·cases found
   ·exact ⟨congrArg Value.bool (by grind),g1⟩
   ·exact ⟨congrArg Value.bool (by grind),g1⟩
  ·cases found
   ·refine ⟨_,_,m1,_,rfl,?_⟩
    refine ⟨_,_,m1,_,rfl,?_⟩;refine au (λ c0=>?_) (λ c0=>?_)
    ·refine ⟨_,_,m1,_,rfl,?_⟩
     exact ⟨congrArg Value.bool (by grind),g1⟩
    ·exact ⟨congrArg Value.bool (by grind),g1⟩
   ·refine ⟨_,_,m1,_,rfl,?_⟩
    exact ⟨congrArg Value.bool (by grind),g1⟩
 by_cases k4:k=4
 ·subst k4
  refine aj ah mixed Tryz.func114 rfl rfl ?_;refine λ w1 b1 m1 g1 l1=>⟨_,_,m1,_,rfl,_,_,m1,_,rfl,_,jC _ _ _,?_⟩
  rintro _ w1 ⟨rfl,rfl⟩;simp only [tL];generalize kH c s=a;refine ⟨_,_,m1,_,rfl,?_⟩;cases a
  ·cases found
   ·exact ⟨congrArg Value.bool (by grind),g1⟩
   ·exact ⟨congrArg Value.bool (by grind),g1⟩
  ·cases found
   ·refine ⟨_,_,m1,_,rfl,?_⟩
    refine ⟨_,_,m1,_,rfl,?_⟩;refine au (λ c0=>?_) (λ c0=>?_)
    ·refine ⟨_,_,m1,_,rfl,?_⟩
     exact ⟨congrArg Value.bool (by grind),g1⟩
    ·exact ⟨congrArg Value.bool (by grind),g1⟩
   ·refine ⟨_,_,m1,_,rfl,?_⟩
    exact ⟨congrArg Value.bool (by grind),g1⟩
 by_cases k5:k=5
 ·subst k5
  refine aj ah mixed Tryz.func114 rfl rfl ?_;refine λ w1 b1 m1 g1 l1=>⟨_,_,m1,_,rfl,_,_,m1,_,rfl,_,jC _ _ _,?_⟩
  rintro _ w1 ⟨rfl,rfl⟩;simp only [tL];generalize kH c s=a;refine ⟨_,_,m1,_,rfl,?_⟩;cases a
  ·cases found
   ·exact ⟨congrArg Value.bool (by grind),g1⟩
   ·exact ⟨congrArg Value.bool (by grind),g1⟩
  ·cases found
   ·refine ⟨_,_,m1,_,rfl,?_⟩
    refine ⟨_,_,m1,_,rfl,?_⟩;refine au (λ c0=>?_) (λ c0=>?_)
    ·refine ⟨_,_,m1,_,rfl,?_⟩
     exact ⟨congrArg Value.bool (by grind),g1⟩
    ·exact ⟨congrArg Value.bool (by grind),g1⟩
   ·refine ⟨_,_,m1,_,rfl,?_⟩
    exact ⟨congrArg Value.bool (by grind),g1⟩
 refine aj ah mixed Tryz.func114 rfl rfl ?_;refine λ w1 b1 m1 g1 l1=>⟨_,_,m1,_,rfl,_,_,m1,_,rfl,_,jC _ _ _,?_⟩
 rintro _ w1 ⟨rfl,rfl⟩;refine ⟨_,_,m1,_,rfl,?_⟩;refine au (λ e=>absurd (by simpa using e) k1) (λ _=>?_);refine au (λ e=>absurd (by simpa using e) k3) (λ _=>?_);refine au (λ e=>absurd (by simpa using e) k2) (λ _=>?_);refine au (λ e=>absurd (by simpa using e) k4) (λ _=>?_);refine au (λ e=>absurd (by simpa using e) k5) (λ _=>?_);exact ⟨congrArg Value.bool (by grind [tL]),g1⟩
section
variable {α:Type} (f:α->Bool) (lt:α->α->Bool)
def vY (l:List α) (i:Nat):Bool:=match l[i]? with
 | none=>true
 | some x=>f x && (match i with
  | 0=>true
  | j+1=>match l[j]? with
   | none=>true
   | some y=>lt y x)
def jG (l:List α):Bool:=decide (l.length<=255) && (List.range l.length).all (vY f lt l)
variable {f lt} {l:List α}
theorem yC (h:¬ l.length<=255):jG f lt l=false:=by simp [jG,h]
theorem xB {k:Nat} {x:α} (hx:l[k]? = some x) (h:f x=false):jG f lt l=false:=by
 have hk:=(List.getElem?_eq_some_iff.1 hx).1;unfold jG;rw [Lb hk (by simp [vY,hx,h]),Bool.and_false]
theorem C8 {k:Nat} {x y:α} (hx:l[k+1]? = some x) (hy:l[k]? = some y) (h:lt y x=false):jG f lt l=false:=by
 have hk:=(List.getElem?_eq_some_iff.1 hx).1;unfold jG;rw [Lb hk (by simp [vY,hx,hy,h]),Bool.and_false]
theorem uU {k:Nat} {x:α} (hx:l[k]? = some x) (h:f x=true) (hl:∀ j y,k=j+1->l[j]? = some y->lt y x=true):vY f lt l k=true:=by
 unfold vY;rw [hx];simp only [h,Bool.true_and];cases k with
 | zero=>rfl
 | succ j =>
  simp only;cases hj:l[j]? with
  | none=>rfl
  | some y=>exact hl j y rfl hj
end
def Ey (r:Rg) (k:Int):Bool:=decide (r.lo<=k) && decide (k<=r.hi)
def Br (r:Rg):Bool:=jG (λ x:Row=>Ey r x.key) (λ y x=>decide (y.key<x.key)) r.rows
def yD (r:Rg):Bool:=jG (λ p:az=>tL p && (kept p.k && Ey r p.key)) ahead r.aY
theorem LZ {l:List Row} {k:Nat} {x:Row} (hx:l[k]? = some x) {cs:List Value} {off:Nat} (hcut:aQ cs off (l.length*2)=(l.map Row.cells).flatten):aQ cs (off+k*2) 2=x.cells:=by
 have hk:=(List.getElem?_eq_some_iff.1 hx).1;have h1:=jW (f:=Row.cells) (size:=2) (λ _=>rfl) l k x hx;rw [List.flatMap_def,<- hcut,uk _ _ _ _ _ (by omega)] at h1;exact h1
theorem L8 {l:List az} {k:Nat} {x:az} (hx:l[k]? = some x) {cs:List Value} {off:Nat} (hcut:aQ cs off (l.length*7)=(l.map az.cells).flatten):aQ cs (off+k*7) 7=x.cells:=by
 have hk:=(List.getElem?_eq_some_iff.1 hx).1;have h1:=jW (f:=az.cells) (size:=7) (λ _=>rfl) l k x hx;rw [List.flatMap_def,<- hcut,uk _ _ _ _ _ (by omega)] at h1;exact h1
theorem iy {cs:List Value} {o n i:Nat} {xs:List Value} {v:Value} (h:aQ cs o n=xs) (hi:xs[i]? = some v) (hn:i<n):cs[o+i]? = some v:=by
 rw [<- h] at hi;unfold aQ at hi;rw [List.getElem?_take,if_pos hn,List.getElem?_drop] at hi;exact hi
section
variable {w:World} {r:Rg} {rv dv:Value}
theorem rows_ok (hr:aM w r rv dv):af Tryz.prog 164 #[.agg (eO r rv dv).toArray] w (λ v w'=>v=.bool (Br r)/\GB none w w'):=by
 obtain ⟨a0,n0,c0,_,_,_,rfl,rfl⟩:=hr.sl;obtain ⟨⟨a,c,e,hcap,hlen,hv⟩,_⟩:=hr;injection e with e1 e2 e3;subst e1 e2 e3;refine aj ah mixed Tryz.func164 rfl rfl ?_;refine λ w1 b1 m1 g1 l1=>⟨_,_,m1,_,rfl,au (λ d=>?_) (λ d=>?_)⟩
 ·exact ⟨congrArg Value.bool (yC (by simp at d;omega)).symm,g1⟩
 have yu:r.rows.length<=255:=by simp at d;omega
 refine ⟨_,_,m1,_,rfl,λ m s wk=>∃ k:Nat,m=r.rows.length - k/\k<=r.rows.length/\s=[(1,Ptt b1),(10,.slice a0 r.rows.length c0),(11,.int .i64 r.rows.length),(12,.int .i64 k)]/\GB none w1 wk/\(List.range k).all (vY (λ x:Row=>Ey r x.key) (λ y x=>decide (y.key<x.key)) r.rows)=true,⟨_,_,⟨0,rfl,Nat.zero_le _,rfl,GB.refl _ _,rfl⟩,rfl,rfl,rfl,rfl,trivial⟩,?_⟩;rintro m s wk ⟨k,rfl,hk,rfl,gk,hall⟩;refine au (λ d=>?_) (λ d=>?_)
 ·have d1:k<r.rows.length:=by have:=of_decide_eq_true d;omega
  obtain ⟨x,hx⟩:∃ x,r.rows[k]? = some x:=⟨r.rows[k],by simp [d1]⟩;rcases hv with ⟨_,h0⟩ | ⟨b,off,cs,rfl,hb,hcut⟩
  ·omega
  have hb1:=(g1.trans gk).get hb nofun;refine ⟨⟨by omega,by omega⟩,_,_,hb1,x.cells,by show aQ cs.toList (off+(k:Int).toNat*2) 2=_;rw [Int.toNat_natCast];exact LZ hx hcut,rfl,λ w2 b2 m2 g2 l2=>⟨_,_,_,m2,rfl,rfl,λ w3 m3 g3=>?_⟩⟩;have g23:=g2.new g3 l2;have m13:=(gk.trans g23).get m1 nofun;refine ⟨_,_,m13,eO r _ _,rfl,rfl,_,_,m3,_,rfl,_,Gy w3 r _ _ _,?_⟩;rintro _ w4 ⟨rfl,g4⟩;have G:=(gk.trans g23).trans g4;have gw:=g1.trans G;obtain ⟨z,hz⟩:∃ z,Ey r x.key=z:=⟨_,rfl⟩;have hz':(decide (r.lo<=x.key) && decide (x.key<=r.hi))=z:=hz;rw [hz'];cases z
  ·exact ⟨congrArg Value.bool (xB hx hz).symm,gw⟩
  have Qh:=g4.get m3 nofun;have m14:=G.get m1 nofun;have hb4:=gw.get hb nofun;refine ⟨by kernel_rfl,au (λ e=>?_) (λ e=>?_)⟩
  ·have e1:0<k:=by simp at e;omega
   obtain ⟨j,rfl⟩:∃ j,k=j+1:=⟨k - 1,by omega⟩;obtain ⟨y,hy⟩:∃ y,r.rows[j]? = some y:=⟨r.rows[j]'(by omega),by simp [show j<r.rows.length by omega]⟩;have ej:(((j+1:Nat):Int) - 1).toNat=j:=by omega
   refine ⟨_,_,Qh,_,rfl,_,_,m14,_,rfl,⟨by omega,by omega⟩,⟨by omega,by omega⟩,_,_,hb4,.int .u64 y.key,by show cs.toList[off+(((j+1:Nat):Int) - 1).toNat*2+0]? = _;rw [ej];exact iy (LZ hy hcut) rfl (by decide),?_⟩;refine au (λ q=>?_) (λ q=>?_)
   ·exact ⟨congrArg Value.bool (C8 hx hy (by simp at q;simp;omega)).symm,gw⟩
   ·exact ⟨⟨by omega,by omega⟩,_,_,⟨j+2,rfl,by omega,rfl,G,uF hall (uU hx hz λ i y' ei hy'=>by cases ei;rw [hy] at hy';cases hy';simp at q;simp;omega)⟩,⟨rfl,rfl,rfl,rfl,trivial⟩,by omega⟩
  ·have e1:k=0:=by simp at e;omega
   subst e1;exact ⟨⟨by omega,by omega⟩,_,_,⟨1,rfl,by omega,rfl,G,uF hall (uU hx hz nofun)⟩,⟨rfl,rfl,rfl,rfl,trivial⟩,by omega⟩
 ·have d1:k=r.rows.length:=by have:=of_decide_eq_false d;omega
  subst d1;exact ⟨congrArg Value.bool (by unfold Br jG;rw [hall];simp [yu]),g1.trans gk⟩
theorem WE (hr:aM w r rv dv):af Tryz.prog 165 #[.agg (eO r rv dv).toArray] w (λ v w'=>v=.bool (yD r)/\GB none w w'):=by
 obtain ⟨_,_,_,a0,n0,c0,rfl,rfl⟩:=hr.sl;obtain ⟨_,⟨a,c,e,hcap,hlen,hv⟩⟩:=hr;injection e with e1 e2 e3;subst e1 e2 e3;refine aj ah mixed Tryz.func165 rfl rfl ?_;refine λ w1 b1 m1 g1 l1=>⟨_,_,m1,_,rfl,au (λ d=>?_) (λ d=>?_)⟩
 ·exact ⟨congrArg Value.bool (yC (by simp at d;omega)).symm,g1⟩
 have yu:r.aY.length<=255:=by simp at d;omega
 refine ⟨_,_,m1,_,rfl,λ m s wk=>∃ k:Nat,m=r.aY.length - k/\k<=r.aY.length/\s=[(1,Ptt b1),(10,.slice a0 r.aY.length c0),(11,.int .i64 r.aY.length),(12,.int .i64 k)]/\GB none w1 wk/\(List.range k).all (vY (λ p:az=>tL p && (kept p.k && Ey r p.key)) ahead r.aY)=true,⟨_,_,⟨0,rfl,Nat.zero_le _,rfl,GB.refl _ _,rfl⟩,rfl,rfl,rfl,rfl,trivial⟩,?_⟩;rintro m s wk ⟨k,rfl,hk,rfl,gk,hall⟩;refine au (λ d=>?_) (λ d=>?_)
 ·have d1:k<r.aY.length:=by have:=of_decide_eq_true d;omega
  obtain ⟨x,hx⟩:∃ x,r.aY[k]? = some x:=⟨r.aY[k],by simp [d1]⟩;rcases hv with ⟨_,h0⟩ | ⟨b,off,cs,rfl,hb,hcut⟩
  ·omega
  have hb1:=(g1.trans gk).get hb nofun;refine ⟨⟨by omega,by omega⟩,_,_,hb1,x.cells,by show aQ cs.toList (off+(k:Int).toNat*7) 7=_;rw [Int.toNat_natCast];exact L8 hx hcut,rfl,λ w2 b2 m2 g2 l2=>⟨_,_,_,m2,rfl,rfl,λ w3 m3 g3=>?_⟩⟩;have g23:=g2.new g3 l2;refine ⟨_,_,m3,x.cells,rfl,rfl,_,Jy w3 x,?_⟩;rintro _ w4 ⟨rfl,g4⟩;have G:=(gk.trans g23).trans g4;have gw:=g1.trans G;obtain ⟨z,hz⟩:∃ z,tL x=z:=⟨_,rfl⟩;rw [hz];cases z
  ·exact ⟨congrArg Value.bool (xB hx (by simp [hz])).symm,gw⟩
  have Qh:=g4.get m3 nofun;refine ⟨_,_,Qh,_,rfl,_,Hu w4 _,?_⟩;rintro _ w4 ⟨rfl,rfl⟩;obtain ⟨y,hy⟩:∃ y,kept x.k=y:=⟨_,rfl⟩;rw [hy];cases y
  ·exact ⟨congrArg Value.bool (xB hx (by simp [hy])).symm,gw⟩
  have m14:=G.get m1 nofun;refine ⟨_,_,m14,eO r _ _,rfl,rfl,_,_,Qh,_,rfl,_,Gy w4 r _ _ _,?_⟩;rintro _ w5 ⟨rfl,g5⟩;obtain ⟨t,ht⟩:∃ t,Ey r x.key=t:=⟨_,rfl⟩;have ht':(decide (r.lo<=x.key) && decide (x.key<=r.hi))=t:=ht;rw [ht'];have G:=G.trans g5;have gw:=gw.trans g5;cases t
  ·exact ⟨congrArg Value.bool (xB hx (by simp [ht])).symm,gw⟩
  have hf:(tL x && (kept x.k && Ey r x.key))=true:=by rw [hz,hy,ht];rfl
  have Y0:=g5.get Qh nofun;have m15:=G.get m1 nofun;have hb5:=gw.get hb nofun;refine ⟨by kernel_rfl,au (λ e=>?_) (λ e=>?_)⟩
  ·have e1:0<k:=by simp at e;omega
   obtain ⟨j,rfl⟩:∃ j,k=j+1:=⟨k - 1,by omega⟩;obtain ⟨y,hy⟩:∃ y,r.aY[j]? = some y:=⟨r.aY[j]'(by omega),by simp [show j<r.aY.length by omega]⟩;have ej:(((j+1:Nat):Int) - 1).toNat=j:=by omega
   refine ⟨_,_,m15,_,rfl,⟨by omega,by omega⟩,⟨by omega,by omega⟩,_,_,hb5,y.cells,by show aQ cs.toList (off+(((j+1:Nat):Int) - 1).toNat*7) 7=_;rw [ej];exact L8 hy hcut,rfl,_,_,Y0,x.cells,rfl,rfl,_,Tt w5 y x,?_⟩;rintro _ w6 ⟨rfl,g6⟩;obtain ⟨q,hq⟩:∃ q,ahead y x=q:=⟨_,rfl⟩;rw [hq];cases q
   ·exact ⟨congrArg Value.bool (C8 hx hy hq).symm,gw.trans g6⟩
   ·exact ⟨⟨by omega,by omega⟩,_,_,⟨j+2,rfl,by omega,rfl,G.trans g6,uF hall (uU hx hf λ i y' ei hy'=>by cases ei;rw [hy] at hy';cases hy';exact hq)⟩,⟨rfl,rfl,rfl,rfl,trivial⟩,by omega⟩
  ·have e1:k=0:=by simp at e;omega
   subst e1;exact ⟨⟨by omega,by omega⟩,_,_,⟨1,rfl,by omega,rfl,G,uF hall (uU hx hf nofun)⟩,⟨rfl,rfl,rfl,rfl,trivial⟩,by omega⟩
 ·have d1:k=r.aY.length:=by have:=of_decide_eq_false d;omega
  subst d1;exact ⟨congrArg Value.bool (by unfold yD jG;rw [hall];simp [yu]),g1.trans gk⟩
end
def og (r:Rg):Bool:=decide (r.src<4) && (decide (r.dst<4) && (decide (1<=r.seq) && (decide (r.lo<=r.hi) && (Br r && yD r))))
def sF (r:Rg):Bool:=r.src == 0 && (r.dst == 0 && (r.seq == 0 && (r.lo == 0 && (r.hi == 0 && (r.rows.length == 0 && r.aY.length == 0)))))
def oh (q:bN):Bool:=q.c == 0 && (q.s == 0 && (q.k == 0 && (q.key == 0 && (q.v == 0 && (q.hi == 0 && q.to == 0)))))
def xC (c:MC):Bool:=oh c.q && (sF c.r && (c.peer == 0 && c.seq == 0))
def kN (c:MC):Bool:=if c.kind=0 then xC c else if c.kind=1 then kI c.q && (sF c.r && (c.peer == 0 && c.seq == 0)) else if c.kind=2 then og c.r && (oh c.q && (c.peer == 0 && c.seq == 0)) else if c.kind=3 then decide (c.peer<4) && (oh c.q && sF c.r) else false
section
variable {w:World} {r:Rg} {rv dv:Value}
theorem C9 (hr:aM w r rv dv):af Tryz.prog 103 #[.agg (eO r rv dv).toArray] w (λ v w'=>v=.bool (og r)/\GB none w w'):=by
 obtain ⟨_,_,_,_,_,_,rfl,rfl⟩:=hr.sl;refine aj ah mixed Tryz.func103 rfl rfl ?_;refine λ w1 b1 m1 g1 l1=>?_
 have hr1:=hr.kz g1.kz;refine ⟨_,_,m1,_,rfl,_,oU _ _,?_⟩;rintro _ w1 ⟨rfl,rfl⟩;refine au (λ c0=>?_) (λ c0=>?_)
 ·refine ⟨_,_,m1,_,rfl,_,oU _ _,?_⟩
  rintro _ w1 ⟨rfl,rfl⟩;refine au (λ c1=>?_) (λ c1=>?_)
  ·refine ⟨_,_,m1,_,rfl,?_⟩
   refine au (λ c2=>?_) (λ c2=>?_)
   ·refine ⟨_,_,m1,_,rfl,?_⟩
    refine ⟨_,_,m1,_,rfl,?_⟩;refine au (λ c3=>?_) (λ c3=>?_)
    ·refine ⟨_,_,m1,eO r _ _,rfl,rfl,_,rows_ok hr1,?_⟩
     rintro _ w2 ⟨rfl,g2⟩;have g12:=g1.trans g2;refine au (λ c4=>?_) (λ c4=>?_)
     ·refine ⟨_,_,g2.get m1 nofun,eO r _ _,rfl,rfl,_,WE (hr1.kz g2.kz),?_⟩
      rintro _ w3 ⟨rfl,g3⟩;exact ⟨congrArg Value.bool (by grind [og]),g12.trans g3⟩
     ·exact ⟨congrArg Value.bool (by grind [og]),g12⟩
    ·exact ⟨congrArg Value.bool (by grind [og]),g1⟩
   ·exact ⟨congrArg Value.bool (by grind [og]),g1⟩
  ·exact ⟨congrArg Value.bool (by grind [og]),g1⟩
 ·exact ⟨congrArg Value.bool (by grind [og]),g1⟩
theorem Ez (hr:aM w r rv dv):af Tryz.prog 173 #[.agg (eO r rv dv).toArray] w (λ v w'=>v=.bool (sF r)/\GB none w w'):=by
 obtain ⟨_,n1,_,_,n2,_,rfl,rfl⟩:=hr.sl;obtain ⟨⟨_,_,e1,_⟩,_,_,e2,_⟩:=hr;obtain rfl:n1=r.rows.length:=by injection e1
 obtain rfl:n2=r.aY.length:=by injection e2
 refine aj ah mixed Tryz.func173 rfl rfl ?_;refine λ w1 b1 m1 g1 l1=>?_
 refine ⟨_,_,m1,_,rfl,?_⟩;refine au (λ c0=>?_) (λ c0=>?_)
 ·refine ⟨_,_,m1,_,rfl,?_⟩
  refine au (λ c1=>?_) (λ c1=>?_)
  ·refine ⟨_,_,m1,_,rfl,?_⟩
   refine au (λ c2=>?_) (λ c2=>?_)
   ·refine ⟨_,_,m1,_,rfl,?_⟩
    refine au (λ c3=>?_) (λ c3=>?_)
    ·refine ⟨_,_,m1,_,rfl,?_⟩
     refine au (λ c4=>?_) (λ c4=>?_)
     ·refine ⟨_,_,m1,_,rfl,?_⟩
      refine au (λ c5=>?_) (λ c5=>?_)
      ·refine ⟨_,_,m1,_,rfl,?_⟩
       exact ⟨congrArg Value.bool (by grind [sF]),g1⟩
      ·exact ⟨congrArg Value.bool (by grind [sF]),g1⟩
     ·exact ⟨congrArg Value.bool (by grind [sF]),g1⟩
    ·exact ⟨congrArg Value.bool (by grind [sF]),g1⟩
   ·exact ⟨congrArg Value.bool (by grind [sF]),g1⟩
  ·exact ⟨congrArg Value.bool (by grind [sF]),g1⟩
 ·exact ⟨congrArg Value.bool (by grind [sF]),g1⟩
end
section
variable {w:World} {c:MC} {rv dv:Value}
theorem xD (hr:aM w c.r rv dv):af Tryz.prog 172 #[.agg (dz c rv dv).toArray] w (λ v w'=>v=.bool (xC c)/\GB none w w'):=by
 obtain ⟨_,_,_,_,_,_,rfl,rfl⟩:=hr.sl;refine aj ah mixed Tryz.func172 rfl rfl ?_;refine λ w1 b1 m1 g1 l1=>?_
 have hr1:=hr.kz g1.kz;refine ⟨_,_,m1,c.q.cells,rfl,rfl,?_⟩;refine au (λ c0=>?_) (λ c0=>?_)
 ·refine ⟨_,_,m1,eO c.r _ _,rfl,rfl,_,Ez hr1,?_⟩
  rintro _ w2 ⟨rfl,g2⟩;have g12:=g1.trans g2;have m2:=g2.get m1 nofun;refine au (λ c1=>?_) (λ c1=>?_)
  ·refine ⟨_,_,m2,_,rfl,?_⟩
   refine au (λ c2=>?_) (λ c2=>?_)
   ·refine ⟨_,_,m2,_,rfl,?_⟩
    exact ⟨congrArg Value.bool (by grind [xC,oh]),g12⟩
   ·exact ⟨congrArg Value.bool (by grind [xC,oh]),g12⟩
  ·exact ⟨congrArg Value.bool (by grind [xC,oh]),g12⟩
 ·exact ⟨congrArg Value.bool (by grind [xC,oh]),g1⟩
theorem yE (hr:aM w c.r rv dv):af Tryz.prog 116 #[.agg (dz c rv dv).toArray] w (λ v w'=>v=.bool (kN c)/\GB none w w'):=by
 obtain ⟨_,_,_,_,_,_,rfl,rfl⟩:=hr.sl;obtain ⟨k,q,r,peer,seq⟩:=c;dsimp only at hr;by_cases k0:k=0
 ·subst k0
  refine aj ah mixed Tryz.func116 rfl rfl ?_;refine λ w1 b1 m1 g1 l1=>⟨_,_,m1,_,rfl,_,_,m1,dz ⟨0,q,r,peer,seq⟩ _ _,rfl,rfl,_,xD (hr.kz g1.kz),?_⟩
  rintro _ w2 ⟨rfl,g2⟩;exact ⟨congrArg Value.bool (by simp [kN]),g1.trans g2⟩
 by_cases k1:k=1
 ·subst k1
  refine aj ah mixed Tryz.func116 rfl rfl ?_;refine λ w1 b1 m1 g1 l1=>⟨_,_,m1,_,rfl,_,_,m1,q.cells,rfl,rfl,_,yB w1 q,?_⟩
  rintro _ w2 ⟨rfl,g2⟩;refine ⟨_,_,_,g2.get m1 nofun,rfl,rfl,λ w3 m3 g3=>?_⟩;have G:=(g1.trans g2).new g3 l1;obtain ⟨a,ha⟩:∃ a,kI q=a:=⟨_,rfl⟩;rw [ha];cases a
  ·exact ⟨congrArg Value.bool (by simp [kN,ha]),G⟩
  ·refine ⟨_,_,m3,dz ⟨1,qg,r,peer,seq⟩ _ _,rfl,rfl,_,xD (c:=⟨1,qg,r,peer,seq⟩) (hr.kz G.kz),?_⟩
   rintro _ w4 ⟨rfl,g4⟩;exact ⟨congrArg Value.bool (by simp [kN,ha,xC,oh,qg]),G.trans g4⟩
 by_cases k2:k=2
 ·subst k2
  refine aj ah mixed Tryz.func116 rfl rfl ?_;refine λ w1 b1 m1 g1 l1=>⟨_,_,m1,_,rfl,_,_,m1,eO r _ _,rfl,rfl,_,C9 (hr.kz g1.kz),?_⟩
  rintro _ w2 ⟨rfl,g2⟩;refine ⟨_,_,_,g2.get m1 nofun,rfl,rfl,λ w3 m3 g3=>?_⟩;have G:=(g1.trans g2).new g3 l1;obtain ⟨a,ha⟩:∃ a,og r=a:=⟨_,rfl⟩;rw [ha];cases a
  ·exact ⟨congrArg Value.bool (by simp [kN,ha]),G⟩
  ·refine ⟨_,_,m3,dz ⟨2,q,pG,peer,seq⟩ (.slice none 0 0) (.slice none 0 0),rfl,rfl,_,xD (c:=⟨2,q,pG,peer,seq⟩) (aM.zero w3),?_⟩
   rintro _ w4 ⟨rfl,g4⟩;exact ⟨congrArg Value.bool (by simp [kN,ha,xC,sF,pG]),G.trans g4⟩
 by_cases k3:k=3
 ·subst k3
  refine aj ah mixed Tryz.func116 rfl rfl ?_;refine λ w1 b1 m1 g1 l1=>⟨_,_,m1,_,rfl,_,_,m1,_,rfl,_,oU w1 _,?_⟩
  rintro _ w1 ⟨rfl,rfl⟩;refine ⟨_,_,_,m1,rfl,rfl,λ w2 m2 g2=>⟨_,_,_,m2,rfl,rfl,λ w3 m3 g3=>?_⟩⟩;have G:=(g1.new g2 l1).new g3 l1;obtain ⟨a,ha⟩:∃ a,decide (peer<4)=a:=⟨_,rfl⟩;rw [ha];cases a
  ·exact ⟨congrArg Value.bool (by simp [kN,ha]),G⟩
  ·refine ⟨_,_,m3,dz ⟨3,q,r,0,0⟩ _ _,rfl,rfl,_,xD (c:=⟨3,q,r,0,0⟩) (hr.kz G.kz),?_⟩
   rintro _ w4 ⟨rfl,g4⟩;exact ⟨congrArg Value.bool (by simp [kN,ha,xC]),G.trans g4⟩
 refine aj ah mixed Tryz.func116 rfl rfl ?_;refine λ w1 b1 m1 g1 l1=>⟨_,_,m1,_,rfl,?_⟩
 refine au (λ e=>absurd (by simpa using e) k0) (λ _=>?_);refine au (λ e=>absurd (by simpa using e) k1) (λ _=>?_);refine au (λ e=>absurd (by simpa using e) k2) (λ _=>?_);refine au (λ e=>absurd (by simpa using e) k3) (λ _=>?_);exact ⟨congrArg Value.bool (by simp [kN,k0,k1,k2,k3]),g1⟩
end
end
end Go.Proofs.YtignemioillaiabGreat
