/- What is right: requests, replies. -/
import Derived.Test.YtignemioillaiaaGreatG29
namespace Go.Proofs.YtignemioillaiaaGreat
set_option maxHeartbeats 8000000
set_option maxRecDepth 100000
section
open Go Go.Conc
def kJ (c s:Int):Bool:=decide (c<4) && decide (1<=s)
def kK (q:bQ):Bool:=kJ q.c q.s && (if q.k=1\/q.k=3 then q.v == 0 && (q.hi == 0 && q.to == 0) else if q.k=2 then q.hi == 0 && q.to == 0 else if q.k=4 then decide (q.key<=q.hi) && (decide (q.to<4) && q.v == 0) else false)
def tQ (p:az):Bool:=kJ p.c p.s && (if p.k=1 then (p.found || p.v == 0) && p.g == 0 else if p.k=3 then decide (p.g<4) && (!p.found && p.v == 0) else if p.k=2\/p.k=4\/p.k=5 then !p.found && (p.v == 0 && p.g == 0) else false)
theorem jD (w:World) (c s:Int):ag Tryz.prog 132 #[.int .u8 c,.int .u32 s] w (λ v w'=>v=.bool (kJ c s)/\w'=w):=by
 refine au ah mixed Tryz.func132 rfl rfl ?_;refine aj (λ d=>?_) (λ d=>?_)
 ·exact ⟨congrArg Value.bool (by grind [kJ]),rfl⟩
 ·exact ⟨congrArg Value.bool (by grind [kJ]),rfl⟩
theorem oU (w:World) (g:Int):ag Tryz.prog 133 #[.int .u8 g] w (λ v w'=>v=.bool (decide (g<4))/\w'=w):=by
 refine au ah mixed Tryz.func133 rfl rfl ?_;exact ⟨rfl,rfl⟩
theorem H8 (w:World) (k:Int):ag Tryz.prog 184 #[.int .u8 k] w (λ v w'=>v=.bool (kept k)/\w'=w):=by
 refine au ah mixed Tryz.func184 rfl rfl ?_;refine aj (λ d=>?_) (λ d=>?_)
 ·refine aj (λ e=>?_) (λ e=>?_)
  ·exact ⟨congrArg Value.bool (by simp at d e;simp [kept,d,e]),rfl⟩
  ·exact ⟨congrArg Value.bool (by simp at d e;simp [kept,e]),rfl⟩
 ·exact ⟨congrArg Value.bool (by simp at d;simp [kept,d]),rfl⟩
theorem GQ (w:World) (r:Rg) (rv dv:Value) (k:Int):ag Tryz.prog 182 #[.agg (dU r rv dv).toArray,.int .u64 k] w (λ v w'=>v=.bool (decide (r.lo<=k) && decide (k<=r.hi))/\GB none w w'):=by
 refine au ah mixed Tryz.func182 rfl rfl ?_;refine λ w1 b1 m1 g1 l1=>⟨_,_,m1,_,rfl,?_⟩
 refine aj (λ d=>?_) (λ d=>?_)
 ·exact ⟨_,_,m1,_,rfl,congrArg Value.bool (by grind),g1⟩
 ·exact ⟨congrArg Value.bool (by grind),g1⟩
theorem TK (w:World) (a b:az):ag Tryz.prog 185 #[.agg a.cells.toArray,.agg b.cells.toArray] w (λ v w'=>v=.bool (ahead a b)/\GB none w w'):=by
 refine au ah mixed Tryz.func185 rfl rfl ?_;refine λ w1 b1 m1 g1 l1 w2 b2 m2 g2 l2=>?_
 have m1:=g2.get m1 nofun;have g:=g1.trans g2;refine ⟨_,_,m1,_,rfl,_,_,m2,_,rfl,?_⟩;refine aj (λ d=>?_) (λ d=>?_)
 ·refine ⟨_,_,m1,_,rfl,_,_,m2,_,rfl,?_⟩
  refine aj (λ e=>?_) (λ e=>?_)
  ·exact ⟨_,_,m1,_,rfl,_,_,m2,_,rfl,congrArg Value.bool (by simp at d e;simp [ahead,e]),g⟩
  ·exact ⟨congrArg Value.bool (by simp at d e;simp [ahead,e];omega),g⟩
 ·exact ⟨congrArg Value.bool (by simp at d;simp [ahead,d]),g⟩
theorem Qt (w:World) (c s key v hi to:Int):ag Tryz.prog 82 #[.agg (bQ.cells ⟨c,s,4,key,v,hi,to⟩).toArray] w (λ x w'=>x=.bool (kK ⟨c,s,4,key,v,hi,to⟩)/\GB none w w'):=by
 refine uY ah Tryz.func82 rfl rfl ?_;refine CS.piece (Q:=λ q w'=>∃ b1,q=[(1,Ptt b1)]/\w'.heap[b1]? = some (.cells (bQ.cells ⟨c,s,4,key,v,hi,to⟩).toArray 50)/\GB none w w'/\w.heap.size<=b1) (CS.of ah mixed (λ w1 b1 m1 g1 l1=>⟨_,by exact ⟨rfl,trivial⟩,b1,rfl,m1,g1,l1⟩)) ?_;rintro q w1 ⟨b1,rfl,m1,g1,l1⟩;refine CS.piece (Q:=λ q w'=>q=[(1,Ptt b1),(3,.bool (kJ c s))]/\w'=w1) (CS.of ah mixed ?_) ?_
 ·refine ⟨_,_,m1,_,rfl,_,_,m1,_,rfl,_,jD _ _ _,?_⟩
  rintro _ w1 ⟨rfl,rfl⟩;exact ⟨_,by exact ⟨rfl,rfl,trivial⟩,rfl,rfl⟩
 rintro q w1 ⟨rfl,rfl⟩;refine CS.piece (Q:=λ q w'=>∃ a,q=[(1,Ptt b1),(3,.bool a)]/\a=(kJ c s && (decide (key<=hi) && decide (to<4)))/\w'.heap[b1]? = some (.cells (bQ.cells ⟨c,s,4,key,v,0,0⟩).toArray 50)/\GB none w w') (CS.of ah mixed ?_) ?_
 ·refine ⟨_,_,m1,_,rfl,?_⟩
  generalize kJ c s=a;cases a
  ·refine ⟨_,_,_,m1,rfl,rfl,λ w2 m2 g2=>⟨_,_,_,m2,rfl,rfl,λ w3 m3 g3=>?_⟩⟩
   exact ⟨_,by exact ⟨rfl,rfl,trivial⟩,_,rfl,rfl,m3,(g1.new g2 l1).new g3 l1⟩
  ·refine ⟨_,_,m1,_,rfl,_,_,m1,_,rfl,?_⟩
   refine aj (λ d=>?_) (λ d=>?_)
   ·refine ⟨_,_,m1,_,rfl,_,oU _ _,?_⟩
    rintro _ w1 ⟨rfl,rfl⟩;refine ⟨_,_,_,m1,rfl,rfl,λ w2 m2 g2=>⟨_,_,_,m2,rfl,rfl,λ w3 m3 g3=>?_⟩⟩;exact ⟨_,by exact ⟨rfl,rfl,trivial⟩,_,rfl,by simp at d;simp [d],m3,(g1.new g2 l1).new g3 l1⟩
   ·refine ⟨_,_,_,m1,rfl,rfl,λ w2 m2 g2=>⟨_,_,_,m2,rfl,rfl,λ w3 m3 g3=>?_⟩⟩
    exact ⟨_,by exact ⟨rfl,rfl,trivial⟩,_,rfl,by simp at d;simp [Int.not_le.2 d],m3,(g1.new g2 l1).new g3 l1⟩
 rintro q w3 ⟨_,rfl,rfl,m3,g⟩;have e:kK ⟨c,s,4,key,v,hi,to⟩=((kJ c s && (decide (key<=hi) && decide (to<4))) && v == 0):=by simp [kK,Bool.and_assoc]
 rw [e];generalize (kJ c s && (decide (key<=hi) && decide (to<4)))=a;refine CS.of ah mixed ?_;cases a
 ·exact ⟨rfl,g⟩
 ·refine ⟨_,_,m3,_,rfl,?_⟩
  refine aj (λ d=>?_) (λ d=>?_)
  ·exact ⟨_,_,m3,_,rfl,_,_,m3,_,rfl,congrArg Value.bool (by grind),g⟩
  ·exact ⟨congrArg Value.bool (by grind),g⟩
theorem yI (w:World) (q:bQ):ag Tryz.prog 82 #[.agg q.cells.toArray] w (λ v w'=>v=.bool (kK q)/\GB none w w'):=by
 obtain ⟨c,s,k,key,v,hi,to⟩:=q;by_cases k1:k=1
 ·subst k1
  refine au ah mixed Tryz.func82 rfl rfl ?_;refine λ w1 b1 m1 g1 l1=>⟨_,_,m1,_,rfl,_,_,m1,_,rfl,_,jD _ _ _,?_⟩
  rintro _ w1 ⟨rfl,rfl⟩;simp only [kK];generalize kJ c s=a;refine ⟨_,_,m1,_,rfl,?_⟩;cases a
  ·exact ⟨congrArg Value.bool (by grind),g1⟩
  ·refine ⟨_,_,m1,_,rfl,?_⟩
   refine aj (λ c0=>?_) (λ c0=>?_)
   ·refine ⟨_,_,m1,_,rfl,?_⟩
    refine aj (λ c1=>?_) (λ c1=>?_)
    ·refine ⟨_,_,m1,_,rfl,?_⟩
     exact ⟨congrArg Value.bool (by grind),g1⟩
    ·exact ⟨congrArg Value.bool (by grind),g1⟩
   ·exact ⟨congrArg Value.bool (by grind),g1⟩
 by_cases k3:k=3
 ·subst k3
  refine au ah mixed Tryz.func82 rfl rfl ?_;refine λ w1 b1 m1 g1 l1=>⟨_,_,m1,_,rfl,_,_,m1,_,rfl,_,jD _ _ _,?_⟩
  rintro _ w1 ⟨rfl,rfl⟩;simp only [kK];generalize kJ c s=a;refine ⟨_,_,m1,_,rfl,?_⟩;cases a
  ·exact ⟨congrArg Value.bool (by grind),g1⟩
  ·refine ⟨_,_,m1,_,rfl,?_⟩
   refine aj (λ c0=>?_) (λ c0=>?_)
   ·refine ⟨_,_,m1,_,rfl,?_⟩
    refine aj (λ c1=>?_) (λ c1=>?_)
    ·refine ⟨_,_,m1,_,rfl,?_⟩
     exact ⟨congrArg Value.bool (by grind),g1⟩
    ·exact ⟨congrArg Value.bool (by grind),g1⟩
   ·exact ⟨congrArg Value.bool (by grind),g1⟩
 by_cases k2:k=2
 ·subst k2
  refine au ah mixed Tryz.func82 rfl rfl ?_;refine λ w1 b1 m1 g1 l1=>⟨_,_,m1,_,rfl,_,_,m1,_,rfl,_,jD _ _ _,?_⟩
  rintro _ w1 ⟨rfl,rfl⟩;simp only [kK];generalize kJ c s=a;refine ⟨_,_,m1,_,rfl,?_⟩;cases a
  ·refine ⟨_,_,_,m1,rfl,rfl,λ w2 m2 g2=>?_⟩
   have g:=g1.new g2 l1;exact ⟨congrArg Value.bool (by grind),g⟩
  ·refine ⟨_,_,_,m1,rfl,rfl,λ w2 m2 g2=>?_⟩
   have g:=g1.new g2 l1;refine ⟨_,_,m2,_,rfl,?_⟩;refine ⟨_,_,m2,_,rfl,?_⟩;refine aj (λ c0=>?_) (λ c0=>?_)
   ·refine ⟨_,_,m2,_,rfl,?_⟩
    exact ⟨congrArg Value.bool (by grind),g⟩
   ·exact ⟨congrArg Value.bool (by grind),g⟩
 by_cases k4:k=4
 ·subst k4
  exact Qt w c s key v hi to
 refine au ah mixed Tryz.func82 rfl rfl ?_;refine λ w1 b1 m1 g1 l1=>⟨_,_,m1,_,rfl,_,_,m1,_,rfl,_,jD _ _ _,?_⟩
 rintro _ w1 ⟨rfl,rfl⟩;refine ⟨_,_,m1,_,rfl,?_⟩;refine aj (λ e=>absurd (by simpa using e) k1) (λ _=>?_);refine aj (λ e=>absurd (by simpa using e) k3) (λ _=>?_);refine aj (λ e=>absurd (by simpa using e) k2) (λ _=>?_);refine aj (λ e=>absurd (by simpa using e) k4) (λ _=>?_);exact ⟨congrArg Value.bool (by grind [kK]),g1⟩
theorem JJ (w:World) (p:az):ag Tryz.prog 183 #[.agg p.cells.toArray] w (λ v w'=>v=.bool (tQ p)/\GB none w w'):=by
 obtain ⟨c,s,key,k,found,v,g⟩:=p;by_cases k1:k=1
 ·subst k1
  refine au ah mixed Tryz.func183 rfl rfl ?_;refine λ w1 b1 m1 g1 l1=>⟨_,_,m1,_,rfl,_,_,m1,_,rfl,_,jD _ _ _,?_⟩
  rintro _ w1 ⟨rfl,rfl⟩;simp only [tQ];generalize kJ c s=a;refine ⟨_,_,m1,_,rfl,?_⟩;cases a
  ·cases found
   ·refine ⟨_,_,_,m1,rfl,rfl,λ w2 m2 g2=>⟨_,_,_,m2,rfl,rfl,λ w3 m3 g3=>?_⟩⟩
    have g9:=(g1.new g2 l1).new g3 l1;exact ⟨congrArg Value.bool (by grind),g9⟩
   ·refine ⟨_,_,_,m1,rfl,rfl,λ w2 m2 g2=>⟨_,_,_,m2,rfl,rfl,λ w3 m3 g3=>?_⟩⟩
    have g9:=(g1.new g2 l1).new g3 l1;exact ⟨congrArg Value.bool (by grind),g9⟩
  ·cases found
   ·refine ⟨_,_,m1,_,rfl,?_⟩
    refine ⟨_,_,m1,_,rfl,?_⟩;refine ⟨_,_,_,m1,rfl,rfl,λ w2 m2 g2=>⟨_,_,_,m2,rfl,rfl,λ w3 m3 g3=>?_⟩⟩;have g9:=(g1.new g2 l1).new g3 l1;refine aj (λ c0=>?_) (λ c0=>?_)
    ·refine ⟨_,_,m3,_,rfl,?_⟩
     refine ⟨_,_,m3,_,rfl,?_⟩;refine ⟨_,_,m3,_,rfl,?_⟩;exact ⟨congrArg Value.bool (by grind),g9⟩
    ·exact ⟨congrArg Value.bool (by grind),g9⟩
   ·refine ⟨_,_,m1,_,rfl,?_⟩
    refine ⟨_,_,_,m1,rfl,rfl,λ w2 m2 g2=>⟨_,_,_,m2,rfl,rfl,λ w3 m3 g3=>?_⟩⟩;have g9:=(g1.new g2 l1).new g3 l1;refine ⟨_,_,m3,_,rfl,?_⟩;refine ⟨_,_,m3,_,rfl,?_⟩;refine ⟨_,_,m3,_,rfl,?_⟩;exact ⟨congrArg Value.bool (by grind),g9⟩
 by_cases k3:k=3
 ·subst k3
  refine au ah mixed Tryz.func183 rfl rfl ?_;refine λ w1 b1 m1 g1 l1=>⟨_,_,m1,_,rfl,_,_,m1,_,rfl,_,jD _ _ _,?_⟩
  rintro _ w1 ⟨rfl,rfl⟩;simp only [tQ];generalize kJ c s=a;refine ⟨_,_,m1,_,rfl,?_⟩;cases a
  ·cases found
   ·refine ⟨_,_,_,m1,rfl,rfl,λ w2 m2 g2=>?_⟩
    have g9:=g1.new g2 l1;exact ⟨congrArg Value.bool (by grind),g9⟩
   ·refine ⟨_,_,_,m1,rfl,rfl,λ w2 m2 g2=>?_⟩
    have g9:=g1.new g2 l1;exact ⟨congrArg Value.bool (by grind),g9⟩
  ·cases found
   ·refine ⟨_,_,m1,_,rfl,?_⟩
    refine ⟨_,oU _ _,?_⟩;rintro _ w1 ⟨rfl,rfl⟩;refine ⟨_,_,_,m1,rfl,rfl,λ w2 m2 g2=>?_⟩;have g9:=g1.new g2 l1;refine aj (λ c0=>?_) (λ c0=>?_)
    ·refine ⟨_,_,m2,_,rfl,?_⟩
     refine ⟨_,_,m2,_,rfl,?_⟩;refine aj (λ c1=>?_) (λ c1=>?_)
     ·refine ⟨_,_,m2,_,rfl,?_⟩
      exact ⟨congrArg Value.bool (by grind),g9⟩
     ·exact ⟨congrArg Value.bool (by grind),g9⟩
    ·exact ⟨congrArg Value.bool (by grind),g9⟩
   ·refine ⟨_,_,m1,_,rfl,?_⟩
    refine ⟨_,oU _ _,?_⟩;rintro _ w1 ⟨rfl,rfl⟩;refine ⟨_,_,_,m1,rfl,rfl,λ w2 m2 g2=>?_⟩;have g9:=g1.new g2 l1;refine aj (λ c0=>?_) (λ c0=>?_)
    ·refine ⟨_,_,m2,_,rfl,?_⟩
     exact ⟨congrArg Value.bool (by grind),g9⟩
    ·exact ⟨congrArg Value.bool (by grind),g9⟩
 by_cases k2:k=2
 ·subst k2
  refine au ah mixed Tryz.func183 rfl rfl ?_;refine λ w1 b1 m1 g1 l1=>⟨_,_,m1,_,rfl,_,_,m1,_,rfl,_,jD _ _ _,?_⟩
  rintro _ w1 ⟨rfl,rfl⟩;simp only [tQ];generalize kJ c s=a;refine ⟨_,_,m1,_,rfl,?_⟩;cases a
  ·cases found
   ·exact ⟨congrArg Value.bool (by grind),g1⟩
   ·exact ⟨congrArg Value.bool (by grind),g1⟩
  ·cases found
   ·refine ⟨_,_,m1,_,rfl,?_⟩
    refine ⟨_,_,m1,_,rfl,?_⟩;refine aj (λ c0=>?_) (λ c0=>?_)
    ·refine ⟨_,_,m1,_,rfl,?_⟩
     exact ⟨congrArg Value.bool (by grind),g1⟩
    ·exact ⟨congrArg Value.bool (by grind),g1⟩
   ·refine ⟨_,_,m1,_,rfl,?_⟩
    exact ⟨congrArg Value.bool (by grind),g1⟩
 by_cases k4:k=4
 ·subst k4
  refine au ah mixed Tryz.func183 rfl rfl ?_;refine λ w1 b1 m1 g1 l1=>⟨_,_,m1,_,rfl,_,_,m1,_,rfl,_,jD _ _ _,?_⟩
  rintro _ w1 ⟨rfl,rfl⟩;simp only [tQ];generalize kJ c s=a;refine ⟨_,_,m1,_,rfl,?_⟩;cases a
  ·cases found
   ·exact ⟨congrArg Value.bool (by grind),g1⟩
   ·exact ⟨congrArg Value.bool (by grind),g1⟩
  ·cases found
   ·refine ⟨_,_,m1,_,rfl,?_⟩
    refine ⟨_,_,m1,_,rfl,?_⟩;refine aj (λ c0=>?_) (λ c0=>?_)
    ·refine ⟨_,_,m1,_,rfl,?_⟩
     exact ⟨congrArg Value.bool (by grind),g1⟩
    ·exact ⟨congrArg Value.bool (by grind),g1⟩
   ·refine ⟨_,_,m1,_,rfl,?_⟩
    exact ⟨congrArg Value.bool (by grind),g1⟩
 by_cases k5:k=5
 ·subst k5
  refine au ah mixed Tryz.func183 rfl rfl ?_;refine λ w1 b1 m1 g1 l1=>⟨_,_,m1,_,rfl,_,_,m1,_,rfl,_,jD _ _ _,?_⟩
  rintro _ w1 ⟨rfl,rfl⟩;simp only [tQ];generalize kJ c s=a;refine ⟨_,_,m1,_,rfl,?_⟩;cases a
  ·cases found
   ·exact ⟨congrArg Value.bool (by grind),g1⟩
   ·exact ⟨congrArg Value.bool (by grind),g1⟩
  ·cases found
   ·refine ⟨_,_,m1,_,rfl,?_⟩
    refine ⟨_,_,m1,_,rfl,?_⟩;refine aj (λ c0=>?_) (λ c0=>?_)
    ·refine ⟨_,_,m1,_,rfl,?_⟩
     exact ⟨congrArg Value.bool (by grind),g1⟩
    ·exact ⟨congrArg Value.bool (by grind),g1⟩
   ·refine ⟨_,_,m1,_,rfl,?_⟩
    exact ⟨congrArg Value.bool (by grind),g1⟩
 refine au ah mixed Tryz.func183 rfl rfl ?_;refine λ w1 b1 m1 g1 l1=>⟨_,_,m1,_,rfl,_,_,m1,_,rfl,_,jD _ _ _,?_⟩
 rintro _ w1 ⟨rfl,rfl⟩;refine ⟨_,_,m1,_,rfl,?_⟩;refine aj (λ e=>absurd (by simpa using e) k1) (λ _=>?_);refine aj (λ e=>absurd (by simpa using e) k3) (λ _=>?_);refine aj (λ e=>absurd (by simpa using e) k2) (λ _=>?_);refine aj (λ e=>absurd (by simpa using e) k4) (λ _=>?_);refine aj (λ e=>absurd (by simpa using e) k5) (λ _=>?_);exact ⟨congrArg Value.bool (by grind [tQ]),g1⟩
section
variable {α:Type} (f:α->Bool) (lt:α->α->Bool)
def wz (l:List α) (i:Nat):Bool:=match l[i]? with
 | none=>true
 | some x=>f x && (match i with
  | 0=>true
  | j+1=>match l[j]? with
   | none=>true
   | some y=>lt y x)
def jI (l:List α):Bool:=decide (l.length<=255) && (List.range l.length).all (wz f lt l)
variable {f lt} {l:List α}
theorem yJ (h:¬ l.length<=255):jI f lt l=false:=by simp [jI,h]
theorem xJ {k:Nat} {x:α} (hx:l[k]? = some x) (h:f x=false):jI f lt l=false:=by
 have hk:=(List.getElem?_eq_some_iff.1 hx).1;unfold jI;rw [Lm hk (by simp [wz,hx,h]),Bool.and_false]
theorem Dj {k:Nat} {x y:α} (hx:l[k+1]? = some x) (hy:l[k]? = some y) (h:lt y x=false):jI f lt l=false:=by
 have hk:=(List.getElem?_eq_some_iff.1 hx).1;unfold jI;rw [Lm hk (by simp [wz,hx,hy,h]),Bool.and_false]
theorem vg {k:Nat} {x:α} (hx:l[k]? = some x) (h:f x=true) (hl:∀ j y,k=j+1->l[j]? = some y->lt y x=true):wz f lt l k=true:=by
 unfold wz;rw [hx];simp only [h,Bool.true_and];cases k with
 | zero=>rfl
 | succ j =>
  simp only;cases hj:l[j]? with
  | none=>rfl
  | some y=>exact hl j y rfl hj
end
def EF (r:Rg) (k:Int):Bool:=decide (r.lo<=k) && decide (k<=r.hi)
def BC (r:Rg):Bool:=jI (λ x:Row=>EF r x.key) (λ y x=>decide (y.key<x.key)) r.rows
def yK (r:Rg):Bool:=jI (λ p:az=>tQ p && (kept p.k && EF r p.key)) ahead r.aZ
theorem Mi {l:List Row} {k:Nat} {x:Row} (hx:l[k]? = some x) {cs:List Value} {off:Nat} (hcut:aL cs off (l.length*2)=(l.map Row.cells).flatten):aL cs (off+k*2) 2=x.cells:=by
 have hk:=(List.getElem?_eq_some_iff.1 hx).1;have h1:=jG (f:=Row.cells) (size:=2) (λ _=>rfl) l k x hx;rw [List.flatMap_def,<- hcut,uu _ _ _ _ _ (by omega)] at h1;exact h1
theorem Mj {l:List az} {k:Nat} {x:az} (hx:l[k]? = some x) {cs:List Value} {off:Nat} (hcut:aL cs off (l.length*7)=(l.map az.cells).flatten):aL cs (off+k*7) 7=x.cells:=by
 have hk:=(List.getElem?_eq_some_iff.1 hx).1;have h1:=jG (f:=az.cells) (size:=7) (λ _=>rfl) l k x hx;rw [List.flatMap_def,<- hcut,uu _ _ _ _ _ (by omega)] at h1;exact h1
theorem iD {cs:List Value} {o n i:Nat} {xs:List Value} {v:Value} (h:aL cs o n=xs) (hi:xs[i]? = some v) (hn:i<n):cs[o+i]? = some v:=by
 rw [<- h] at hi;unfold aL at hi;rw [List.getElem?_take,if_pos hn,List.getElem?_drop] at hi;exact hi
section
variable {w:World} {r:Rg} {rv dv:Value}
theorem rows_ok (hr:aM w r rv dv):ag Tryz.prog 144 #[.agg (dU r rv dv).toArray] w (λ v w'=>v=.bool (BC r)/\GB none w w'):=by
 obtain ⟨a0,n0,c0,_,_,_,rfl,rfl⟩:=hr.sl;obtain ⟨⟨a,c,e,hcap,hlen,hv⟩,_⟩:=hr;injection e with e1 e2 e3;subst e1 e2 e3;refine au ah mixed Tryz.func144 rfl rfl ?_;refine λ w1 b1 m1 g1 l1=>⟨_,_,m1,_,rfl,aj (λ d=>?_) (λ d=>?_)⟩
 ·exact ⟨congrArg Value.bool (yJ (by simp at d;omega)).symm,g1⟩
 have yD:r.rows.length<=255:=by simp at d;omega
 refine ⟨_,_,m1,_,rfl,λ m s wk=>∃ k:Nat,m=r.rows.length - k/\k<=r.rows.length/\s=[(1,Ptt b1),(10,.slice a0 r.rows.length c0),(11,.int .i64 r.rows.length),(12,.int .i64 k)]/\GB none w1 wk/\(List.range k).all (wz (λ x:Row=>EF r x.key) (λ y x=>decide (y.key<x.key)) r.rows)=true,⟨_,_,⟨0,rfl,Nat.zero_le _,rfl,GB.refl _ _,rfl⟩,rfl,rfl,rfl,rfl,trivial⟩,?_⟩;rintro m s wk ⟨k,rfl,hk,rfl,gk,hall⟩;refine aj (λ d=>?_) (λ d=>?_)
 ·have d1:k<r.rows.length:=by have:=of_decide_eq_true d;omega
  obtain ⟨x,hx⟩:∃ x,r.rows[k]? = some x:=⟨r.rows[k],by simp [d1]⟩;rcases hv with ⟨_,h0⟩ | ⟨b,off,cs,rfl,hb,hcut⟩
  ·omega
  have hb1:=(g1.trans gk).get hb nofun;refine ⟨⟨by omega,by omega⟩,_,_,hb1,x.cells,by show aL cs.toList (off+(k:Int).toNat*2) 2=_;rw [Int.toNat_natCast];exact Mi hx hcut,rfl,λ w2 b2 m2 g2 l2=>⟨_,_,_,m2,rfl,rfl,λ w3 m3 g3=>?_⟩⟩;have g23:=g2.new g3 l2;have m13:=(gk.trans g23).get m1 nofun;refine ⟨_,_,m13,dU r _ _,rfl,rfl,_,_,m3,_,rfl,_,GQ w3 r _ _ _,?_⟩;rintro _ w4 ⟨rfl,g4⟩;have G:=(gk.trans g23).trans g4;have gw:=g1.trans G;obtain ⟨z,hz⟩:∃ z,EF r x.key=z:=⟨_,rfl⟩;have hz':(decide (r.lo<=x.key) && decide (x.key<=r.hi))=z:=hz;rw [hz'];cases z
  ·exact ⟨congrArg Value.bool (xJ hx hz).symm,gw⟩
  have Qu:=g4.get m3 nofun;have m14:=G.get m1 nofun;have hb4:=gw.get hb nofun;refine ⟨by kernel_rfl,aj (λ e=>?_) (λ e=>?_)⟩
  ·have e1:0<k:=by simp at e;omega
   obtain ⟨j,rfl⟩:∃ j,k=j+1:=⟨k - 1,by omega⟩;obtain ⟨y,hy⟩:∃ y,r.rows[j]? = some y:=⟨r.rows[j]'(by omega),by simp [show j<r.rows.length by omega]⟩;have ej:(((j+1:Nat):Int) - 1).toNat=j:=by omega
   refine ⟨_,_,Qu,_,rfl,_,_,m14,_,rfl,⟨by omega,by omega⟩,⟨by omega,by omega⟩,_,_,hb4,.int .u64 y.key,by show cs.toList[off+(((j+1:Nat):Int) - 1).toNat*2+0]? = _;rw [ej];exact iD (Mi hy hcut) rfl (by decide),?_⟩;refine aj (λ q=>?_) (λ q=>?_)
   ·exact ⟨congrArg Value.bool (Dj hx hy (by simp at q;simp;omega)).symm,gw⟩
   ·exact ⟨⟨by omega,by omega⟩,_,_,⟨j+2,rfl,by omega,rfl,G,uJ hall (vg hx hz λ i y' ei hy'=>by cases ei;rw [hy] at hy';cases hy';simp at q;simp;omega)⟩,⟨rfl,rfl,rfl,rfl,trivial⟩,by omega⟩
  ·have e1:k=0:=by simp at e;omega
   subst e1;exact ⟨⟨by omega,by omega⟩,_,_,⟨1,rfl,by omega,rfl,G,uJ hall (vg hx hz nofun)⟩,⟨rfl,rfl,rfl,rfl,trivial⟩,by omega⟩
 ·have d1:k=r.rows.length:=by have:=of_decide_eq_false d;omega
  subst d1;exact ⟨congrArg Value.bool (by unfold BC jI;rw [hall];simp [yD]),g1.trans gk⟩
theorem Xe (hr:aM w r rv dv):ag Tryz.prog 145 #[.agg (dU r rv dv).toArray] w (λ v w'=>v=.bool (yK r)/\GB none w w'):=by
 obtain ⟨_,_,_,a0,n0,c0,rfl,rfl⟩:=hr.sl;obtain ⟨_,⟨a,c,e,hcap,hlen,hv⟩⟩:=hr;injection e with e1 e2 e3;subst e1 e2 e3;refine au ah mixed Tryz.func145 rfl rfl ?_;refine λ w1 b1 m1 g1 l1=>⟨_,_,m1,_,rfl,aj (λ d=>?_) (λ d=>?_)⟩
 ·exact ⟨congrArg Value.bool (yJ (by simp at d;omega)).symm,g1⟩
 have yD:r.aZ.length<=255:=by simp at d;omega
 refine ⟨_,_,m1,_,rfl,λ m s wk=>∃ k:Nat,m=r.aZ.length - k/\k<=r.aZ.length/\s=[(1,Ptt b1),(10,.slice a0 r.aZ.length c0),(11,.int .i64 r.aZ.length),(12,.int .i64 k)]/\GB none w1 wk/\(List.range k).all (wz (λ p:az=>tQ p && (kept p.k && EF r p.key)) ahead r.aZ)=true,⟨_,_,⟨0,rfl,Nat.zero_le _,rfl,GB.refl _ _,rfl⟩,rfl,rfl,rfl,rfl,trivial⟩,?_⟩;rintro m s wk ⟨k,rfl,hk,rfl,gk,hall⟩;refine aj (λ d=>?_) (λ d=>?_)
 ·have d1:k<r.aZ.length:=by have:=of_decide_eq_true d;omega
  obtain ⟨x,hx⟩:∃ x,r.aZ[k]? = some x:=⟨r.aZ[k],by simp [d1]⟩;rcases hv with ⟨_,h0⟩ | ⟨b,off,cs,rfl,hb,hcut⟩
  ·omega
  have hb1:=(g1.trans gk).get hb nofun;refine ⟨⟨by omega,by omega⟩,_,_,hb1,x.cells,by show aL cs.toList (off+(k:Int).toNat*7) 7=_;rw [Int.toNat_natCast];exact Mj hx hcut,rfl,λ w2 b2 m2 g2 l2=>⟨_,_,_,m2,rfl,rfl,λ w3 m3 g3=>?_⟩⟩;have g23:=g2.new g3 l2;refine ⟨_,_,m3,x.cells,rfl,rfl,_,JJ w3 x,?_⟩;rintro _ w4 ⟨rfl,g4⟩;have G:=(gk.trans g23).trans g4;have gw:=g1.trans G;obtain ⟨z,hz⟩:∃ z,tQ x=z:=⟨_,rfl⟩;rw [hz];cases z
  ·exact ⟨congrArg Value.bool (xJ hx (by simp [hz])).symm,gw⟩
  have Qu:=g4.get m3 nofun;refine ⟨_,_,Qu,_,rfl,_,H8 w4 _,?_⟩;rintro _ w4 ⟨rfl,rfl⟩;obtain ⟨y,hy⟩:∃ y,kept x.k=y:=⟨_,rfl⟩;rw [hy];cases y
  ·exact ⟨congrArg Value.bool (xJ hx (by simp [hy])).symm,gw⟩
  have m14:=G.get m1 nofun;refine ⟨_,_,m14,dU r _ _,rfl,rfl,_,_,Qu,_,rfl,_,GQ w4 r _ _ _,?_⟩;rintro _ w5 ⟨rfl,g5⟩;obtain ⟨t,ht⟩:∃ t,EF r x.key=t:=⟨_,rfl⟩;have ht':(decide (r.lo<=x.key) && decide (x.key<=r.hi))=t:=ht;rw [ht'];have G:=G.trans g5;have gw:=gw.trans g5;cases t
  ·exact ⟨congrArg Value.bool (xJ hx (by simp [ht])).symm,gw⟩
  have hf:(tQ x && (kept x.k && EF r x.key))=true:=by rw [hz,hy,ht];rfl
  have Zr:=g5.get Qu nofun;have m15:=G.get m1 nofun;have hb5:=gw.get hb nofun;refine ⟨by kernel_rfl,aj (λ e=>?_) (λ e=>?_)⟩
  ·have e1:0<k:=by simp at e;omega
   obtain ⟨j,rfl⟩:∃ j,k=j+1:=⟨k - 1,by omega⟩;obtain ⟨y,hy⟩:∃ y,r.aZ[j]? = some y:=⟨r.aZ[j]'(by omega),by simp [show j<r.aZ.length by omega]⟩;have ej:(((j+1:Nat):Int) - 1).toNat=j:=by omega
   refine ⟨_,_,m15,_,rfl,⟨by omega,by omega⟩,⟨by omega,by omega⟩,_,_,hb5,y.cells,by show aL cs.toList (off+(((j+1:Nat):Int) - 1).toNat*7) 7=_;rw [ej];exact Mj hy hcut,rfl,_,_,Zr,x.cells,rfl,rfl,_,TK w5 y x,?_⟩;rintro _ w6 ⟨rfl,g6⟩;obtain ⟨q,hq⟩:∃ q,ahead y x=q:=⟨_,rfl⟩;rw [hq];cases q
   ·exact ⟨congrArg Value.bool (Dj hx hy hq).symm,gw.trans g6⟩
   ·exact ⟨⟨by omega,by omega⟩,_,_,⟨j+2,rfl,by omega,rfl,G.trans g6,uJ hall (vg hx hf λ i y' ei hy'=>by cases ei;rw [hy] at hy';cases hy';exact hq)⟩,⟨rfl,rfl,rfl,rfl,trivial⟩,by omega⟩
  ·have e1:k=0:=by simp at e;omega
   subst e1;exact ⟨⟨by omega,by omega⟩,_,_,⟨1,rfl,by omega,rfl,G,uJ hall (vg hx hf nofun)⟩,⟨rfl,rfl,rfl,rfl,trivial⟩,by omega⟩
 ·have d1:k=r.aZ.length:=by have:=of_decide_eq_false d;omega
  subst d1;exact ⟨congrArg Value.bool (by unfold yK jI;rw [hall];simp [yD]),g1.trans gk⟩
end
def oh (r:Rg):Bool:=decide (r.src<4) && (decide (r.dst<4) && (decide (1<=r.seq) && (decide (r.lo<=r.hi) && (BC r && yK r))))
def sH (r:Rg):Bool:=r.src == 0 && (r.dst == 0 && (r.seq == 0 && (r.lo == 0 && (r.hi == 0 && (r.rows.length == 0 && r.aZ.length == 0)))))
def oo (q:bQ):Bool:=q.c == 0 && (q.s == 0 && (q.k == 0 && (q.key == 0 && (q.v == 0 && (q.hi == 0 && q.to == 0)))))
def xK (c:MC):Bool:=oo c.q && (sH c.r && (c.peer == 0 && c.seq == 0))
def kQ (c:MC):Bool:=if c.kind=0 then xK c else if c.kind=1 then kK c.q && (sH c.r && (c.peer == 0 && c.seq == 0)) else if c.kind=2 then oh c.r && (oo c.q && (c.peer == 0 && c.seq == 0)) else if c.kind=3 then decide (c.peer<4) && (oo c.q && sH c.r) else false
section
variable {w:World} {r:Rg} {rv dv:Value}
theorem Dl (hr:aM w r rv dv):ag Tryz.prog 86 #[.agg (dU r rv dv).toArray] w (λ v w'=>v=.bool (oh r)/\GB none w w'):=by
 obtain ⟨_,_,_,_,_,_,rfl,rfl⟩:=hr.sl;refine au ah mixed Tryz.func86 rfl rfl ?_;refine λ w1 b1 m1 g1 l1=>?_
 have hr1:=hr.kz g1.kz;refine ⟨_,_,m1,_,rfl,_,oU _ _,?_⟩;rintro _ w1 ⟨rfl,rfl⟩;refine aj (λ c0=>?_) (λ c0=>?_)
 ·refine ⟨_,_,m1,_,rfl,_,oU _ _,?_⟩
  rintro _ w1 ⟨rfl,rfl⟩;refine aj (λ c1=>?_) (λ c1=>?_)
  ·refine ⟨_,_,m1,_,rfl,?_⟩
   refine aj (λ c2=>?_) (λ c2=>?_)
   ·refine ⟨_,_,m1,_,rfl,?_⟩
    refine ⟨_,_,m1,_,rfl,?_⟩;refine aj (λ c3=>?_) (λ c3=>?_)
    ·refine ⟨_,_,m1,dU r _ _,rfl,rfl,_,rows_ok hr1,?_⟩
     rintro _ w2 ⟨rfl,g2⟩;have g12:=g1.trans g2;refine aj (λ c4=>?_) (λ c4=>?_)
     ·refine ⟨_,_,g2.get m1 nofun,dU r _ _,rfl,rfl,_,Xe (hr1.kz g2.kz),?_⟩
      rintro _ w3 ⟨rfl,g3⟩;exact ⟨congrArg Value.bool (by grind [oh]),g12.trans g3⟩
     ·exact ⟨congrArg Value.bool (by grind [oh]),g12⟩
    ·exact ⟨congrArg Value.bool (by grind [oh]),g1⟩
   ·exact ⟨congrArg Value.bool (by grind [oh]),g1⟩
  ·exact ⟨congrArg Value.bool (by grind [oh]),g1⟩
 ·exact ⟨congrArg Value.bool (by grind [oh]),g1⟩
theorem EG (hr:aM w r rv dv):ag Tryz.prog 233 #[.agg (dU r rv dv).toArray] w (λ v w'=>v=.bool (sH r)/\GB none w w'):=by
 obtain ⟨_,n1,_,_,n2,_,rfl,rfl⟩:=hr.sl;obtain ⟨⟨_,_,e1,_⟩,_,_,e2,_⟩:=hr;obtain rfl:n1=r.rows.length:=by injection e1
 obtain rfl:n2=r.aZ.length:=by injection e2
 refine au ah mixed Tryz.func233 rfl rfl ?_;refine λ w1 b1 m1 g1 l1=>?_
 refine ⟨_,_,m1,_,rfl,?_⟩;refine aj (λ c0=>?_) (λ c0=>?_)
 ·refine ⟨_,_,m1,_,rfl,?_⟩
  refine aj (λ c1=>?_) (λ c1=>?_)
  ·refine ⟨_,_,m1,_,rfl,?_⟩
   refine aj (λ c2=>?_) (λ c2=>?_)
   ·refine ⟨_,_,m1,_,rfl,?_⟩
    refine aj (λ c3=>?_) (λ c3=>?_)
    ·refine ⟨_,_,m1,_,rfl,?_⟩
     refine aj (λ c4=>?_) (λ c4=>?_)
     ·refine ⟨_,_,m1,_,rfl,?_⟩
      refine aj (λ c5=>?_) (λ c5=>?_)
      ·refine ⟨_,_,m1,_,rfl,?_⟩
       exact ⟨congrArg Value.bool (by grind [sH]),g1⟩
      ·exact ⟨congrArg Value.bool (by grind [sH]),g1⟩
     ·exact ⟨congrArg Value.bool (by grind [sH]),g1⟩
    ·exact ⟨congrArg Value.bool (by grind [sH]),g1⟩
   ·exact ⟨congrArg Value.bool (by grind [sH]),g1⟩
  ·exact ⟨congrArg Value.bool (by grind [sH]),g1⟩
 ·exact ⟨congrArg Value.bool (by grind [sH]),g1⟩
end
section
variable {w:World} {c:MC} {rv dv:Value}
theorem xL (hr:aM w c.r rv dv):ag Tryz.prog 232 #[.agg (dx c rv dv).toArray] w (λ v w'=>v=.bool (xK c)/\GB none w w'):=by
 obtain ⟨_,_,_,_,_,_,rfl,rfl⟩:=hr.sl;refine au ah mixed Tryz.func232 rfl rfl ?_;refine λ w1 b1 m1 g1 l1=>?_
 have hr1:=hr.kz g1.kz;refine ⟨_,_,m1,c.q.cells,rfl,rfl,?_⟩;refine aj (λ c0=>?_) (λ c0=>?_)
 ·refine ⟨_,_,m1,dU c.r _ _,rfl,rfl,_,EG hr1,?_⟩
  rintro _ w2 ⟨rfl,g2⟩;have g12:=g1.trans g2;have m2:=g2.get m1 nofun;refine aj (λ c1=>?_) (λ c1=>?_)
  ·refine ⟨_,_,m2,_,rfl,?_⟩
   refine aj (λ c2=>?_) (λ c2=>?_)
   ·refine ⟨_,_,m2,_,rfl,?_⟩
    exact ⟨congrArg Value.bool (by grind [xK,oo]),g12⟩
   ·exact ⟨congrArg Value.bool (by grind [xK,oo]),g12⟩
  ·exact ⟨congrArg Value.bool (by grind [xK,oo]),g12⟩
 ·exact ⟨congrArg Value.bool (by grind [xK,oo]),g1⟩
theorem yL (hr:aM w c.r rv dv):ag Tryz.prog 212 #[.agg (dx c rv dv).toArray] w (λ v w'=>v=.bool (kQ c)/\GB none w w'):=by
 obtain ⟨_,_,_,_,_,_,rfl,rfl⟩:=hr.sl;obtain ⟨k,q,r,peer,seq⟩:=c;dsimp only at hr;by_cases k0:k=0
 ·subst k0
  refine au ah mixed Tryz.func212 rfl rfl ?_;refine λ w1 b1 m1 g1 l1=>⟨_,_,m1,_,rfl,_,_,m1,dx ⟨0,q,r,peer,seq⟩ _ _,rfl,rfl,_,xL (hr.kz g1.kz),?_⟩
  rintro _ w2 ⟨rfl,g2⟩;exact ⟨congrArg Value.bool (by simp [kQ]),g1.trans g2⟩
 by_cases k1:k=1
 ·subst k1
  refine au ah mixed Tryz.func212 rfl rfl ?_;refine λ w1 b1 m1 g1 l1=>⟨_,_,m1,_,rfl,_,_,m1,q.cells,rfl,rfl,_,yI w1 q,?_⟩
  rintro _ w2 ⟨rfl,g2⟩;refine ⟨_,_,_,g2.get m1 nofun,rfl,rfl,λ w3 m3 g3=>?_⟩;have G:=(g1.trans g2).new g3 l1;obtain ⟨a,ha⟩:∃ a,kK q=a:=⟨_,rfl⟩;rw [ha];cases a
  ·exact ⟨congrArg Value.bool (by simp [kQ,ha]),G⟩
  ·refine ⟨_,_,m3,dx ⟨1,qi,r,peer,seq⟩ _ _,rfl,rfl,_,xL (c:=⟨1,qi,r,peer,seq⟩) (hr.kz G.kz),?_⟩
   rintro _ w4 ⟨rfl,g4⟩;exact ⟨congrArg Value.bool (by simp [kQ,ha,xK,oo,qi]),G.trans g4⟩
 by_cases k2:k=2
 ·subst k2
  refine au ah mixed Tryz.func212 rfl rfl ?_;refine λ w1 b1 m1 g1 l1=>⟨_,_,m1,_,rfl,_,_,m1,dU r _ _,rfl,rfl,_,Dl (hr.kz g1.kz),?_⟩
  rintro _ w2 ⟨rfl,g2⟩;refine ⟨_,_,_,g2.get m1 nofun,rfl,rfl,λ w3 m3 g3=>?_⟩;have G:=(g1.trans g2).new g3 l1;obtain ⟨a,ha⟩:∃ a,oh r=a:=⟨_,rfl⟩;rw [ha];cases a
  ·exact ⟨congrArg Value.bool (by simp [kQ,ha]),G⟩
  ·refine ⟨_,_,m3,dx ⟨2,q,pG,peer,seq⟩ (.slice none 0 0) (.slice none 0 0),rfl,rfl,_,xL (c:=⟨2,q,pG,peer,seq⟩) (aM.zero w3),?_⟩
   rintro _ w4 ⟨rfl,g4⟩;exact ⟨congrArg Value.bool (by simp [kQ,ha,xK,sH,pG]),G.trans g4⟩
 by_cases k3:k=3
 ·subst k3
  refine au ah mixed Tryz.func212 rfl rfl ?_;refine λ w1 b1 m1 g1 l1=>⟨_,_,m1,_,rfl,_,_,m1,_,rfl,_,oU w1 _,?_⟩
  rintro _ w1 ⟨rfl,rfl⟩;refine ⟨_,_,_,m1,rfl,rfl,λ w2 m2 g2=>⟨_,_,_,m2,rfl,rfl,λ w3 m3 g3=>?_⟩⟩;have G:=(g1.new g2 l1).new g3 l1;obtain ⟨a,ha⟩:∃ a,decide (peer<4)=a:=⟨_,rfl⟩;rw [ha];cases a
  ·exact ⟨congrArg Value.bool (by simp [kQ,ha]),G⟩
  ·refine ⟨_,_,m3,dx ⟨3,q,r,0,0⟩ _ _,rfl,rfl,_,xL (c:=⟨3,q,r,0,0⟩) (hr.kz G.kz),?_⟩
   rintro _ w4 ⟨rfl,g4⟩;exact ⟨congrArg Value.bool (by simp [kQ,ha,xK]),G.trans g4⟩
 refine au ah mixed Tryz.func212 rfl rfl ?_;refine λ w1 b1 m1 g1 l1=>⟨_,_,m1,_,rfl,?_⟩
 refine aj (λ e=>absurd (by simpa using e) k0) (λ _=>?_);refine aj (λ e=>absurd (by simpa using e) k1) (λ _=>?_);refine aj (λ e=>absurd (by simpa using e) k2) (λ _=>?_);refine aj (λ e=>absurd (by simpa using e) k3) (λ _=>?_);exact ⟨congrArg Value.bool (by simp [kQ,k0,k1,k2,k3]),g1⟩
end
end
end Go.Proofs.YtignemioillaiaaGreat
