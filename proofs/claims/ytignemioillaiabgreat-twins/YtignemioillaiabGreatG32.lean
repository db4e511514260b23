/- What is right: requests, replies. -/
import Derived.Test.YtignemioillaiabGreatG31
namespace Go.Proofs.YtignemioillaiabGreat
set_option maxHeartbeats 8000000
set_option maxRecDepth 100000
section
open Go Go.Conc
def kI (c s:Int):Bool:=decide (c<4) && decide (1≤s)
def kJ (q:bH):Bool:=kI q.c q.s && (if q.k=1∨q.k=3 then q.v == 0 && (q.hi == 0 && q.to == 0) else if q.k=2 then q.hi == 0 && q.to == 0 else if q.k=4 then decide (q.key≤q.hi) && (decide (q.to<4) && q.v == 0) else false)
def tJ (p:aD):Bool:=kI p.c p.s && (if p.k=1 then (p.found || p.v == 0) && p.g == 0 else if p.k=3 then decide (p.g<4) && (!p.found && p.v == 0) else if p.k=2∨p.k=4∨p.k=5 then !p.found && (p.v == 0 && p.g == 0) else false)
theorem jv (w:World) (c s:Int):af Tryz.prog 153 #[.int .u8 c,.int .u32 s] w (fun v w'=>v=.bool (kI c s)∧w'=w):=by
 refine ah au mixed Tryz.func153 rfl rfl ?_;refine aj (fun d=>?_) (fun d=>?_)
 ·exact ⟨congrArg Value.bool (by grind [kI]),rfl⟩
 ·exact ⟨congrArg Value.bool (by grind [kI]),rfl⟩
theorem oQ (w:World) (g:Int):af Tryz.prog 117 #[.int .u8 g] w (fun v w'=>v=.bool (decide (g<4))∧w'=w):=by
 refine ah au mixed Tryz.func117 rfl rfl ?_;exact ⟨rfl,rfl⟩
theorem GU (w:World) (k:Int):af Tryz.prog 195 #[.int .u8 k] w (fun v w'=>v=.bool (kept k)∧w'=w):=by
 refine ah au mixed Tryz.func195 rfl rfl ?_;refine aj (fun d=>?_) (fun d=>?_)
 ·refine aj (fun e=>?_) (fun e=>?_)
  ·exact ⟨congrArg Value.bool (by simp at d e;simp [kept,d,e]),rfl⟩
  ·exact ⟨congrArg Value.bool (by simp at d e;simp [kept,e]),rfl⟩
 ·exact ⟨congrArg Value.bool (by simp at d;simp [kept,d]),rfl⟩
theorem Gh (w:World) (r:Rg) (rv dv:Value) (k:Int):af Tryz.prog 194 #[.agg (dN r rv dv).toArray,.int .u64 k] w (fun v w'=>v=.bool (decide (r.lo≤k) && decide (k≤r.hi))∧GB none w w'):=by
 refine ah au mixed Tryz.func194 rfl rfl ?_;refine fun w1 b1 m1 g1 l1=>⟨_,_,m1,_,rfl,?_⟩
 refine aj (fun d=>?_) (fun d=>?_)
 ·exact ⟨_,_,m1,_,rfl,congrArg Value.bool (by grind),g1⟩
 ·exact ⟨congrArg Value.bool (by grind),g1⟩
theorem SQ (w:World) (a b:aD):af Tryz.prog 196 #[.agg a.cells.toArray,.agg b.cells.toArray] w (fun v w'=>v=.bool (ahead a b)∧GB none w w'):=by
 refine ah au mixed Tryz.func196 rfl rfl ?_;refine fun w1 b1 m1 g1 l1 w2 b2 m2 g2 l2=>?_
 have m1:=g2.get m1 nofun;have g:=g1.trans g2;refine ⟨_,_,m1,_,rfl,_,_,m2,_,rfl,?_⟩;refine aj (fun d=>?_) (fun d=>?_)
 ·refine ⟨_,_,m1,_,rfl,_,_,m2,_,rfl,?_⟩
  refine aj (fun e=>?_) (fun e=>?_)
  ·exact ⟨_,_,m1,_,rfl,_,_,m2,_,rfl,congrArg Value.bool (by simp at d e;simp [ahead,e]),g⟩
  ·exact ⟨congrArg Value.bool (by simp at d e;simp [ahead,e];omega),g⟩
 ·exact ⟨congrArg Value.bool (by simp at d;simp [ahead,d]),g⟩
theorem P6 (w:World) (c s key v hi to:Int):af Tryz.prog 99 #[.agg (bH.cells ⟨c,s,4,key,v,hi,to⟩).toArray] w (fun x w'=>x=.bool (kJ ⟨c,s,4,key,v,hi,to⟩)∧GB none w w'):=by
 refine Ae au Tryz.func99 rfl rfl ?_;refine CS.piece (Q:=fun q w'=>∃ b1,q=[(1,.pointer (some ⟨b1,0,none⟩))]∧w'.heap[b1]? = some (.cells (bH.cells ⟨c,s,4,key,v,hi,to⟩).toArray 65)∧GB none w w'∧w.heap.size≤b1) (CS.of au mixed (fun w1 b1 m1 g1 l1=>⟨_,by exact ⟨rfl,trivial⟩,b1,rfl,m1,g1,l1⟩)) ?_;rintro q w1 ⟨b1,rfl,m1,g1,l1⟩;refine CS.piece (Q:=fun q w'=>q=[(1,.pointer (some ⟨b1,0,none⟩)),(3,.bool (kI c s))]∧w'=w1) (CS.of au mixed ?_) ?_
 ·refine ⟨_,_,m1,_,rfl,_,_,m1,_,rfl,_,jv _ _ _,?_⟩
  rintro _ w1 ⟨rfl,rfl⟩;exact ⟨_,by exact ⟨rfl,rfl,trivial⟩,rfl,rfl⟩
 rintro q w1 ⟨rfl,rfl⟩;refine CS.piece (Q:=fun q w'=>∃ a,q=[(1,.pointer (some ⟨b1,0,none⟩)),(3,.bool a)]∧a=(kI c s && (decide (key≤hi) && decide (to<4)))∧w'.heap[b1]? = some (.cells (bH.cells ⟨c,s,4,key,v,0,0⟩).toArray 65)∧GB none w w') (CS.of au mixed ?_) ?_
 ·refine ⟨_,_,m1,_,rfl,?_⟩
  generalize kI c s=a;cases a
  ·refine ⟨_,_,_,m1,rfl,rfl,fun w2 m2 g2=>⟨_,_,_,m2,rfl,rfl,fun w3 m3 g3=>?_⟩⟩
   exact ⟨_,by exact ⟨rfl,rfl,trivial⟩,_,rfl,rfl,m3,(g1.new g2 l1).new g3 l1⟩
  ·refine ⟨_,_,m1,_,rfl,_,_,m1,_,rfl,?_⟩
   refine aj (fun d=>?_) (fun d=>?_)
   ·refine ⟨_,_,m1,_,rfl,_,oQ _ _,?_⟩
    rintro _ w1 ⟨rfl,rfl⟩;refine ⟨_,_,_,m1,rfl,rfl,fun w2 m2 g2=>⟨_,_,_,m2,rfl,rfl,fun w3 m3 g3=>?_⟩⟩;exact ⟨_,by exact ⟨rfl,rfl,trivial⟩,_,rfl,by simp at d;simp [d],m3,(g1.new g2 l1).new g3 l1⟩
   ·refine ⟨_,_,_,m1,rfl,rfl,fun w2 m2 g2=>⟨_,_,_,m2,rfl,rfl,fun w3 m3 g3=>?_⟩⟩
    exact ⟨_,by exact ⟨rfl,rfl,trivial⟩,_,rfl,by simp at d;simp [Int.not_le.2 d],m3,(g1.new g2 l1).new g3 l1⟩
 rintro q w3 ⟨_,rfl,rfl,m3,g⟩;have e:kJ ⟨c,s,4,key,v,hi,to⟩=((kI c s && (decide (key≤hi) && decide (to<4))) && v == 0):=by simp [kJ,Bool.and_assoc]
 rw [e];generalize (kI c s && (decide (key≤hi) && decide (to<4)))=a;refine CS.of au mixed ?_;cases a
 ·exact ⟨rfl,g⟩
 ·refine ⟨_,_,m3,_,rfl,?_⟩
  refine aj (fun d=>?_) (fun d=>?_)
  ·exact ⟨_,_,m3,_,rfl,_,_,m3,_,rfl,congrArg Value.bool (by grind),g⟩
  ·exact ⟨congrArg Value.bool (by grind),g⟩
theorem yn (w:World) (q:bH):af Tryz.prog 99 #[.agg q.cells.toArray] w (fun v w'=>v=.bool (kJ q)∧GB none w w'):=by
 obtain ⟨c,s,k,key,v,hi,to⟩:=q;by_cases k1:k=1
 ·subst k1
  refine ah au mixed Tryz.func99 rfl rfl ?_;refine fun w1 b1 m1 g1 l1=>⟨_,_,m1,_,rfl,_,_,m1,_,rfl,_,jv _ _ _,?_⟩
  rintro _ w1 ⟨rfl,rfl⟩;simp only [kJ];generalize kI c s=a;refine ⟨_,_,m1,_,rfl,?_⟩;cases a
  ·exact ⟨congrArg Value.bool (by grind),g1⟩
  ·refine ⟨_,_,m1,_,rfl,?_⟩
   refine aj (fun c0=>?_) (fun c0=>?_)
   ·refine ⟨_,_,m1,_,rfl,?_⟩
    refine aj (fun c1=>?_) (fun c1=>?_)
    ·refine ⟨_,_,m1,_,rfl,?_⟩
     exact ⟨congrArg Value.bool (by grind),g1⟩
    ·exact ⟨congrArg Value.bool (by grind),g1⟩
   ·exact ⟨congrArg Value.bool (by grind),g1⟩
 by_cases k3:k=3
 ·subst k3
  refine ah au mixed Tryz.func99 rfl rfl ?_;refine fun w1 b1 m1 g1 l1=>⟨_,_,m1,_,rfl,_,_,m1,_,rfl,_,jv _ _ _,?_⟩
  rintro _ w1 ⟨rfl,rfl⟩;simp only [kJ];generalize kI c s=a;refine ⟨_,_,m1,_,rfl,?_⟩;cases a
  ·exact ⟨congrArg Value.bool (by grind),g1⟩
  ·refine ⟨_,_,m1,_,rfl,?_⟩
   refine aj (fun c0=>?_) (fun c0=>?_)
   ·refine ⟨_,_,m1,_,rfl,?_⟩
    refine aj (fun c1=>?_) (fun c1=>?_)
    ·refine ⟨_,_,m1,_,rfl,?_⟩
     exact ⟨congrArg Value.bool (by grind),g1⟩
    ·exact ⟨congrArg Value.bool (by grind),g1⟩
   ·exact ⟨congrArg Value.bool (by grind),g1⟩
 by_cases k2:k=2
 ·subst k2
  refine ah au mixed Tryz.func99 rfl rfl ?_;refine fun w1 b1 m1 g1 l1=>⟨_,_,m1,_,rfl,_,_,m1,_,rfl,_,jv _ _ _,?_⟩
  rintro _ w1 ⟨rfl,rfl⟩;simp only [kJ];generalize kI c s=a;refine ⟨_,_,m1,_,rfl,?_⟩;cases a
  ·refine ⟨_,_,_,m1,rfl,rfl,fun w2 m2 g2=>?_⟩
   have g:=g1.new g2 l1;exact ⟨congrArg Value.bool (by grind),g⟩
  ·refine ⟨_,_,_,m1,rfl,rfl,fun w2 m2 g2=>?_⟩
   have g:=g1.new g2 l1;refine ⟨_,_,m2,_,rfl,?_⟩;refine ⟨_,_,m2,_,rfl,?_⟩;refine aj (fun c0=>?_) (fun c0=>?_)
   ·refine ⟨_,_,m2,_,rfl,?_⟩
    exact ⟨congrArg Value.bool (by grind),g⟩
   ·exact ⟨congrArg Value.bool (by grind),g⟩
 by_cases k4:k=4
 ·subst k4
  exact P6 w c s key v hi to
 refine ah au mixed Tryz.func99 rfl rfl ?_;refine fun w1 b1 m1 g1 l1=>⟨_,_,m1,_,rfl,_,_,m1,_,rfl,_,jv _ _ _,?_⟩
 rintro _ w1 ⟨rfl,rfl⟩;refine ⟨_,_,m1,_,rfl,?_⟩;refine aj (fun e=>absurd (by simpa using e) k1) (fun _=>?_);refine aj (fun e=>absurd (by simpa using e) k3) (fun _=>?_);refine aj (fun e=>absurd (by simpa using e) k2) (fun _=>?_);refine aj (fun e=>absurd (by simpa using e) k4) (fun _=>?_);exact ⟨congrArg Value.bool (by grind [kJ]),g1⟩
theorem Jh (w:World) (p:aD):af Tryz.prog 114 #[.agg p.cells.toArray] w (fun v w'=>v=.bool (tJ p)∧GB none w w'):=by
 obtain ⟨c,s,key,k,found,v,g⟩:=p;by_cases k1:k=1
 ·subst k1
  refine ah au mixed Tryz.func114 rfl rfl ?_;refine fun w1 b1 m1 g1 l1=>⟨_,_,m1,_,rfl,_,_,m1,_,rfl,_,jv _ _ _,?_⟩
  rintro _ w1 ⟨rfl,rfl⟩;simp only [tJ];generalize kI c s=a;refine ⟨_,_,m1,_,rfl,?_⟩;cases a
  ·cases found
   ·refine ⟨_,_,_,m1,rfl,rfl,fun w2 m2 g2=>⟨_,_,_,m2,rfl,rfl,fun w3 m3 g3=>?_⟩⟩
    have g9:=(g1.new g2 l1).new g3 l1;exact ⟨congrArg Value.bool (by grind),g9⟩
   ·refine ⟨_,_,_,m1,rfl,rfl,fun w2 m2 g2=>⟨_,_,_,m2,rfl,rfl,fun w3 m3 g3=>?_⟩⟩
    have g9:=(g1.new g2 l1).new g3 l1;exact ⟨congrArg Value.bool (by grind),g9⟩
  ·cases found
   ·refine ⟨_,_,m1,_,rfl,?_⟩
    refine ⟨_,_,m1,_,rfl,?_⟩;refine ⟨_,_,_,m1,rfl,rfl,fun w2 m2 g2=>⟨_,_,_,m2,rfl,rfl,fun w3 m3 g3=>?_⟩⟩;have g9:=(g1.new g2 l1).new g3 l1;refine aj (fun c0=>?_) (fun c0=>?_)
    ·refine ⟨_,_,m3,_,rfl,?_⟩
     refine ⟨_,_,m3,_,rfl,?_⟩;refine ⟨_,_,m3,_,rfl,?_⟩;exact ⟨congrArg Value.bool (by grind),g9⟩
    ·exact ⟨congrArg Value.bool (by grind),g9⟩
   ·refine ⟨_,_,m1,_,rfl,?_⟩
    refine ⟨_,_,_,m1,rfl,rfl,fun w2 m2 g2=>⟨_,_,_,m2,rfl,rfl,fun w3 m3 g3=>?_⟩⟩;have g9:=(g1.new g2 l1).new g3 l1;refine ⟨_,_,m3,_,rfl,?_⟩;refine ⟨_,_,m3,_,rfl,?_⟩;refine ⟨_,_,m3,_,rfl,?_⟩;exact ⟨congrArg Value.bool (by grind),g9⟩
 by_cases k3:k=3
 ·subst k3
  refine ah au mixed Tryz.func114 rfl rfl ?_;refine fun w1 b1 m1 g1 l1=>⟨_,_,m1,_,rfl,_,_,m1,_,rfl,_,jv _ _ _,?_⟩
  rintro _ w1 ⟨rfl,rfl⟩;simp only [tJ];generalize kI c s=a;refine ⟨_,_,m1,_,rfl,?_⟩;cases a
  ·cases found
   ·refine ⟨_,_,_,m1,rfl,rfl,fun w2 m2 g2=>?_⟩
    have g9:=g1.new g2 l1;exact ⟨congrArg Value.bool (by grind),g9⟩
   ·refine ⟨_,_,_,m1,rfl,rfl,fun w2 m2 g2=>?_⟩
    have g9:=g1.new g2 l1;exact ⟨congrArg Value.bool (by grind),g9⟩
  ·cases found
   ·refine ⟨_,_,m1,_,rfl,?_⟩
    refine ⟨_,oQ _ _,?_⟩;rintro _ w1 ⟨rfl,rfl⟩;refine ⟨_,_,_,m1,rfl,rfl,fun w2 m2 g2=>?_⟩;have g9:=g1.new g2 l1;refine aj (fun c0=>?_) (fun c0=>?_)
    ·refine ⟨_,_,m2,_,rfl,?_⟩
     refine ⟨_,_,m2,_,rfl,?_⟩;refine aj (fun c1=>?_) (fun c1=>?_)
     ·refine ⟨_,_,m2,_,rfl,?_⟩
      exact ⟨congrArg Value.bool (by grind),g9⟩
     ·exact ⟨congrArg Value.bool (by grind),g9⟩
    ·exact ⟨congrArg Value.bool (by grind),g9⟩
   ·refine ⟨_,_,m1,_,rfl,?_⟩
    refine ⟨_,oQ _ _,?_⟩;rintro _ w1 ⟨rfl,rfl⟩;refine ⟨_,_,_,m1,rfl,rfl,fun w2 m2 g2=>?_⟩;have g9:=g1.new g2 l1;refine aj (fun c0=>?_) (fun c0=>?_)
    ·refine ⟨_,_,m2,_,rfl,?_⟩
     exact ⟨congrArg Value.bool (by grind),g9⟩
    ·exact ⟨congrArg Value.bool (by grind),g9⟩
 by_cases k2:k=2
 ·subst k2
  refine ah au mixed Tryz.func114 rfl rfl ?_;refine fun w1 b1 m1 g1 l1=>⟨_,_,m1,_,rfl,_,_,m1,_,rfl,_,jv _ _ _,?_⟩
  rintro _ w1 ⟨rfl,rfl⟩;simp only [tJ];generalize kI c s=a;refine ⟨_,_,m1,_,rfl,?_⟩;cases a
  ·cases found
   ·exact ⟨congrArg Value.bool (by grind),g1⟩
   ·exact ⟨congrArg Value.bool (by grind),g1⟩
  ·cases found
   ·refine ⟨_,_,m1,_,rfl,?_⟩
    refine ⟨_,_,m1,_,rfl,?_⟩;refine aj (fun c0=>?_) (fun c0=>?_)
    ·refine ⟨_,_,m1,_,rfl,?_⟩
     exact ⟨congrArg Value.bool (by grind),g1⟩
    ·exact ⟨congrArg Value.bool (by grind),g1⟩
   ·refine ⟨_,_,m1,_,rfl,?_⟩
    exact ⟨congrArg Value.bool (by grind),g1⟩
 by_cases k4:k=4
 ·subst k4
  refine ah au mixed Tryz.func114 rfl rfl ?_;refine fun w1 b1 m1 g1 l1=>⟨_,_,m1,_,rfl,_,_,m1,_,rfl,_,jv _ _ _,?_⟩
  rintro _ w1 ⟨rfl,rfl⟩;simp only [tJ];generalize kI c s=a;refine ⟨_,_,m1,_,rfl,?_⟩;cases a
  ·cases found
   ·exact ⟨congrArg Value.bool (by grind),g1⟩
   ·exact ⟨congrArg Value.bool (by grind),g1⟩
  ·cases found
   ·refine ⟨_,_,m1,_,rfl,?_⟩
    refine ⟨_,_,m1,_,rfl,?_⟩;refine aj (fun c0=>?_) (fun c0=>?_)
    ·refine ⟨_,_,m1,_,rfl,?_⟩
     exact ⟨congrArg Value.bool (by grind),g1⟩
    ·exact ⟨congrArg Value.bool (by grind),g1⟩
   ·refine ⟨_,_,m1,_,rfl,?_⟩
    exact ⟨congrArg Value.bool (by grind),g1⟩
 by_cases k5:k=5
 ·subst k5
  refine ah au mixed Tryz.func114 rfl rfl ?_;refine fun w1 b1 m1 g1 l1=>⟨_,_,m1,_,rfl,_,_,m1,_,rfl,_,jv _ _ _,?_⟩
  rintro _ w1 ⟨rfl,rfl⟩;simp only [tJ];generalize kI c s=a;refine ⟨_,_,m1,_,rfl,?_⟩;cases a
  ·cases found
   ·exact ⟨congrArg Value.bool (by grind),g1⟩
   ·exact ⟨congrArg Value.bool (by grind),g1⟩
  ·cases found
   ·refine ⟨_,_,m1,_,rfl,?_⟩
    refine ⟨_,_,m1,_,rfl,?_⟩;refine aj (fun c0=>?_) (fun c0=>?_)
    ·refine ⟨_,_,m1,_,rfl,?_⟩
     exact ⟨congrArg Value.bool (by grind),g1⟩
    ·exact ⟨congrArg Value.bool (by grind),g1⟩
   ·refine ⟨_,_,m1,_,rfl,?_⟩
    exact ⟨congrArg Value.bool (by grind),g1⟩
 refine ah au mixed Tryz.func114 rfl rfl ?_;refine fun w1 b1 m1 g1 l1=>⟨_,_,m1,_,rfl,_,_,m1,_,rfl,_,jv _ _ _,?_⟩
 rintro _ w1 ⟨rfl,rfl⟩;refine ⟨_,_,m1,_,rfl,?_⟩;refine aj (fun e=>absurd (by simpa using e) k1) (fun _=>?_);refine aj (fun e=>absurd (by simpa using e) k3) (fun _=>?_);refine aj (fun e=>absurd (by simpa using e) k2) (fun _=>?_);refine aj (fun e=>absurd (by simpa using e) k4) (fun _=>?_);refine aj (fun e=>absurd (by simpa using e) k5) (fun _=>?_);exact ⟨congrArg Value.bool (by grind [tJ]),g1⟩
section
variable {α:Type} (f:α→Bool) (lt:α→α→Bool)
def vV (l:List α) (i:Nat):Bool:=match l[i]? with
 | none=>true
 | some x=>f x && (match i with
  | 0=>true
  | j+1=>match l[j]? with
   | none=>true
   | some y=>lt y x)
def jC (l:List α):Bool:=decide (l.length≤255) && (List.range l.length).all (vV f lt l)
variable {f lt} {l:List α}
theorem yo (h:¬ l.length≤255):jC f lt l=false:=by simp [jC,h]
theorem xw {k:Nat} {x:α} (hx:l[k]? = some x) (h:f x=false):jC f lt l=false:=by
 have hk:=(List.getElem?_eq_some_iff.1 hx).1;unfold jC;rw [KQ hk (by simp [vV,hx,h]),Bool.and_false]
theorem CK {k:Nat} {x y:α} (hx:l[k+1]? = some x) (hy:l[k]? = some y) (h:lt y x=false):jC f lt l=false:=by
 have hk:=(List.getElem?_eq_some_iff.1 hx).1;unfold jC;rw [KQ hk (by simp [vV,hx,hy,h]),Bool.and_false]
theorem uS {k:Nat} {x:α} (hx:l[k]? = some x) (h:f x=true) (hl:∀ j y,k=j+1→l[j]? = some y→lt y x=true):vV f lt l k=true:=by
 unfold vV;rw [hx];simp only [h,Bool.true_and];cases k with
 | zero=>rfl
 | succ j =>
  simp only;cases hj:l[j]? with
  | none=>rfl
  | some y=>exact hl j y rfl hj
end
def Ej (r:Rg) (k:Int):Bool:=decide (r.lo≤k) && decide (k≤r.hi)
def Bb (r:Rg):Bool:=jC (fun x:Row=>Ej r x.key) (fun y x=>decide (y.key<x.key)) r.rows
def yu (r:Rg):Bool:=jC (fun p:aD=>tJ p && (kept p.k && Ej r p.key)) ahead r.bz
theorem Lv {l:List Row} {k:Nat} {x:Row} (hx:l[k]? = some x) {cs:List Value} {off:Nat} (hcut:aO cs off (l.length*2)=(l.map Row.cells).flatten):aO cs (off+k*2) 2=x.cells:=by
 have hk:=(List.getElem?_eq_some_iff.1 hx).1;have h1:=jy (f:=Row.cells) (size:=2) (fun _=>rfl) l k x hx;rw [List.flatMap_def,← hcut,uh _ _ _ _ _ (by omega)] at h1;exact h1
theorem Lx {l:List aD} {k:Nat} {x:aD} (hx:l[k]? = some x) {cs:List Value} {off:Nat} (hcut:aO cs off (l.length*7)=(l.map aD.cells).flatten):aO cs (off+k*7) 7=x.cells:=by
 have hk:=(List.getElem?_eq_some_iff.1 hx).1;have h1:=jy (f:=aD.cells) (size:=7) (fun _=>rfl) l k x hx;rw [List.flatMap_def,← hcut,uh _ _ _ _ _ (by omega)] at h1;exact h1
theorem gY {cs:List Value} {o n i:Nat} {xs:List Value} {v:Value} (h:aO cs o n=xs) (hi:xs[i]? = some v) (hn:i<n):cs[o+i]? = some v:=by
 rw [← h] at hi;unfold aO at hi;rw [List.getElem?_take,if_pos hn,List.getElem?_drop] at hi;exact hi
section
variable {w:World} {r:Rg} {rv dv:Value}
theorem rows_ok (hr:aP w r rv dv):af Tryz.prog 164 #[.agg (dN r rv dv).toArray] w (fun v w'=>v=.bool (Bb r)∧GB none w w'):=by
 obtain ⟨a0,n0,c0,_,_,_,rfl,rfl⟩:=hr.sl;obtain ⟨⟨a,c,e,hcap,hlen,hv⟩,_⟩:=hr;injection e with e1 e2 e3;subst e1 e2 e3;refine ah au mixed Tryz.func164 rfl rfl ?_;refine fun w1 b1 m1 g1 l1=>⟨_,_,m1,_,rfl,aj (fun d=>?_) (fun d=>?_)⟩
 ·exact ⟨congrArg Value.bool (yo (by simp at d;omega)).symm,g1⟩
 have yg:r.rows.length≤255:=by simp at d;omega
 refine ⟨_,_,m1,_,rfl,fun m s wk=>∃ k:Nat,m=r.rows.length - k∧k≤r.rows.length∧s=[(1,.pointer (some ⟨b1,0,none⟩)),(10,.slice a0 r.rows.length c0),(11,.int .i64 r.rows.length),(12,.int .i64 k)]∧GB none w1 wk∧(List.range k).all (vV (fun x:Row=>Ej r x.key) (fun y x=>decide (y.key<x.key)) r.rows)=true,⟨_,_,⟨0,rfl,Nat.zero_le _,rfl,GB.refl _ _,rfl⟩,rfl,rfl,rfl,rfl,trivial⟩,?_⟩;rintro m s wk ⟨k,rfl,hk,rfl,gk,hall⟩;refine aj (fun d=>?_) (fun d=>?_)
 ·have d1:k<r.rows.length:=by have:=of_decide_eq_true d;omega
  obtain ⟨x,hx⟩:∃ x,r.rows[k]? = some x:=⟨r.rows[k],by simp [d1]⟩;rcases hv with ⟨_,h0⟩ | ⟨b,off,cs,rfl,hb,hcut⟩
  ·omega
  have hb1:=(g1.trans gk).get hb nofun;refine ⟨⟨by omega,by omega⟩,_,_,hb1,x.cells,by show aO cs.toList (off+(k:Int).toNat*2) 2=_;rw [Int.toNat_natCast];exact Lv hx hcut,rfl,fun w2 b2 m2 g2 l2=>⟨_,_,_,m2,rfl,rfl,fun w3 m3 g3=>?_⟩⟩;have g23:=g2.new g3 l2;have m13:=(gk.trans g23).get m1 nofun;refine ⟨_,_,m13,dN r _ _,rfl,rfl,_,_,m3,_,rfl,_,Gh w3 r _ _ _,?_⟩;rintro _ w4 ⟨rfl,g4⟩;have G:=(gk.trans g23).trans g4;have gw:=g1.trans G;obtain ⟨z,hz⟩:∃ z,Ej r x.key=z:=⟨_,rfl⟩;have hz':(decide (r.lo≤x.key) && decide (x.key≤r.hi))=z:=hz;rw [hz'];cases z
  ·exact ⟨congrArg Value.bool (xw hx hz).symm,gw⟩
  have P7:=g4.get m3 nofun;have m14:=G.get m1 nofun;have hb4:=gw.get hb nofun;refine ⟨by kernel_rfl,aj (fun e=>?_) (fun e=>?_)⟩
  ·have e1:0<k:=by simp at e;omega
   obtain ⟨j,rfl⟩:∃ j,k=j+1:=⟨k - 1,by omega⟩;obtain ⟨y,hy⟩:∃ y,r.rows[j]? = some y:=⟨r.rows[j]'(by omega),by simp [show j<r.rows.length by omega]⟩;have ej:(((j+1:Nat):Int) - 1).toNat=j:=by omega
   refine ⟨_,_,P7,_,rfl,_,_,m14,_,rfl,⟨by omega,by omega⟩,⟨by omega,by omega⟩,_,_,hb4,.int .u64 y.key,by show cs.toList[off+(((j+1:Nat):Int) - 1).toNat*2+0]? = _;rw [ej];exact gY (Lv hy hcut) rfl (by decide),?_⟩;refine aj (fun q=>?_) (fun q=>?_)
   ·exact ⟨congrArg Value.bool (CK hx hy (by simp at q;simp;omega)).symm,gw⟩
   ·exact ⟨⟨by omega,by omega⟩,_,_,⟨j+2,rfl,by omega,rfl,G,uC hall (uS hx hz fun i y' ei hy'=>by cases ei;rw [hy] at hy';cases hy';simp at q;simp;omega)⟩,⟨rfl,rfl,rfl,rfl,trivial⟩,by omega⟩
  ·have e1:k=0:=by simp at e;omega
   subst e1;exact ⟨⟨by omega,by omega⟩,_,_,⟨1,rfl,by omega,rfl,G,uC hall (uS hx hz nofun)⟩,⟨rfl,rfl,rfl,rfl,trivial⟩,by omega⟩
 ·have d1:k=r.rows.length:=by have:=of_decide_eq_false d;omega
  subst d1;exact ⟨congrArg Value.bool (by unfold Bb jC;rw [hall];simp [yg]),g1.trans gk⟩
theorem Wo (hr:aP w r rv dv):af Tryz.prog 165 #[.agg (dN r rv dv).toArray] w (fun v w'=>v=.bool (yu r)∧GB none w w'):=by
 obtain ⟨_,_,_,a0,n0,c0,rfl,rfl⟩:=hr.sl;obtain ⟨_,⟨a,c,e,hcap,hlen,hv⟩⟩:=hr;injection e with e1 e2 e3;subst e1 e2 e3;refine ah au mixed Tryz.func165 rfl rfl ?_;refine fun w1 b1 m1 g1 l1=>⟨_,_,m1,_,rfl,aj (fun d=>?_) (fun d=>?_)⟩
 ·exact ⟨congrArg Value.bool (yo (by simp at d;omega)).symm,g1⟩
 have yg:r.bz.length≤255:=by simp at d;omega
 refine ⟨_,_,m1,_,rfl,fun m s wk=>∃ k:Nat,m=r.bz.length - k∧k≤r.bz.length∧s=[(1,.pointer (some ⟨b1,0,none⟩)),(10,.slice a0 r.bz.length c0),(11,.int .i64 r.bz.length),(12,.int .i64 k)]∧GB none w1 wk∧(List.range k).all (vV (fun p:aD=>tJ p && (kept p.k && Ej r p.key)) ahead r.bz)=true,⟨_,_,⟨0,rfl,Nat.zero_le _,rfl,GB.refl _ _,rfl⟩,rfl,rfl,rfl,rfl,trivial⟩,?_⟩;rintro m s wk ⟨k,rfl,hk,rfl,gk,hall⟩;refine aj (fun d=>?_) (fun d=>?_)
 ·have d1:k<r.bz.length:=by have:=of_decide_eq_true d;omega
  obtain ⟨x,hx⟩:∃ x,r.bz[k]? = some x:=⟨r.bz[k],by simp [d1]⟩;rcases hv with ⟨_,h0⟩ | ⟨b,off,cs,rfl,hb,hcut⟩
  ·omega
  have hb1:=(g1.trans gk).get hb nofun;refine ⟨⟨by omega,by omega⟩,_,_,hb1,x.cells,by show aO cs.toList (off+(k:Int).toNat*7) 7=_;rw [Int.toNat_natCast];exact Lx hx hcut,rfl,fun w2 b2 m2 g2 l2=>⟨_,_,_,m2,rfl,rfl,fun w3 m3 g3=>?_⟩⟩;have g23:=g2.new g3 l2;refine ⟨_,_,m3,x.cells,rfl,rfl,_,Jh w3 x,?_⟩;rintro _ w4 ⟨rfl,g4⟩;have G:=(gk.trans g23).trans g4;have gw:=g1.trans G;obtain ⟨z,hz⟩:∃ z,tJ x=z:=⟨_,rfl⟩;rw [hz];cases z
  ·exact ⟨congrArg Value.bool (xw hx (by simp [hz])).symm,gw⟩
  have P7:=g4.get m3 nofun;refine ⟨_,_,P7,_,rfl,_,GU w4 _,?_⟩;rintro _ w4 ⟨rfl,rfl⟩;obtain ⟨y,hy⟩:∃ y,kept x.k=y:=⟨_,rfl⟩;rw [hy];cases y
  ·exact ⟨congrArg Value.bool (xw hx (by simp [hy])).symm,gw⟩
  have m14:=G.get m1 nofun;refine ⟨_,_,m14,dN r _ _,rfl,rfl,_,_,P7,_,rfl,_,Gh w4 r _ _ _,?_⟩;rintro _ w5 ⟨rfl,g5⟩;obtain ⟨t,ht⟩:∃ t,Ej r x.key=t:=⟨_,rfl⟩;have ht':(decide (r.lo≤x.key) && decide (x.key≤r.hi))=t:=ht;rw [ht'];have G:=G.trans g5;have gw:=gw.trans g5;cases t
  ·exact ⟨congrArg Value.bool (xw hx (by simp [ht])).symm,gw⟩
  have hf:(tJ x && (kept x.k && Ej r x.key))=true:=by rw [hz,hy,ht];rfl
  have YZ:=g5.get P7 nofun;have m15:=G.get m1 nofun;have hb5:=gw.get hb nofun;refine ⟨by kernel_rfl,aj (fun e=>?_) (fun e=>?_)⟩
  ·have e1:0<k:=by simp at e;omega
   obtain ⟨j,rfl⟩:∃ j,k=j+1:=⟨k - 1,by omega⟩;obtain ⟨y,hy⟩:∃ y,r.bz[j]? = some y:=⟨r.bz[j]'(by omega),by simp [show j<r.bz.length by omega]⟩;have ej:(((j+1:Nat):Int) - 1).toNat=j:=by omega
   refine ⟨_,_,m15,_,rfl,⟨by omega,by omega⟩,⟨by omega,by omega⟩,_,_,hb5,y.cells,by show aO cs.toList (off+(((j+1:Nat):Int) - 1).toNat*7) 7=_;rw [ej];exact Lx hy hcut,rfl,_,_,YZ,x.cells,rfl,rfl,_,SQ w5 y x,?_⟩;rintro _ w6 ⟨rfl,g6⟩;obtain ⟨q,hq⟩:∃ q,ahead y x=q:=⟨_,rfl⟩;rw [hq];cases q
   ·exact ⟨congrArg Value.bool (CK hx hy hq).symm,gw.trans g6⟩
   ·exact ⟨⟨by omega,by omega⟩,_,_,⟨j+2,rfl,by omega,rfl,G.trans g6,uC hall (uS hx hf fun i y' ei hy'=>by cases ei;rw [hy] at hy';cases hy';exact hq)⟩,⟨rfl,rfl,rfl,rfl,trivial⟩,by omega⟩
  ·have e1:k=0:=by simp at e;omega
   subst e1;exact ⟨⟨by omega,by omega⟩,_,_,⟨1,rfl,by omega,rfl,G,uC hall (uS hx hf nofun)⟩,⟨rfl,rfl,rfl,rfl,trivial⟩,by omega⟩
 ·have d1:k=r.bz.length:=by have:=of_decide_eq_false d;omega
  subst d1;exact ⟨congrArg Value.bool (by unfold yu jC;rw [hall];simp [yg]),g1.trans gk⟩
end
def og (r:Rg):Bool:=decide (r.src<4) && (decide (r.dst<4) && (decide (1≤r.seq) && (decide (r.lo≤r.hi) && (Bb r && yu r))))
def sj (r:Rg):Bool:=r.src == 0 && (r.dst == 0 && (r.seq == 0 && (r.lo == 0 && (r.hi == 0 && (r.rows.length == 0 && r.bz.length == 0)))))
def oh (q:bH):Bool:=q.c == 0 && (q.s == 0 && (q.k == 0 && (q.key == 0 && (q.v == 0 && (q.hi == 0 && q.to == 0)))))
def xx (c:MC):Bool:=oh c.q && (sj c.r && (c.peer == 0 && c.seq == 0))
def kR (c:MC):Bool:=if c.kind=0 then xx c else if c.kind=1 then kJ c.q && (sj c.r && (c.peer == 0 && c.seq == 0)) else if c.kind=2 then og c.r && (oh c.q && (c.peer == 0 && c.seq == 0)) else if c.kind=3 then decide (c.peer<4) && (oh c.q && sj c.r) else false
section
variable {w:World} {r:Rg} {rv dv:Value}
theorem CL (hr:aP w r rv dv):af Tryz.prog 103 #[.agg (dN r rv dv).toArray] w (fun v w'=>v=.bool (og r)∧GB none w w'):=by
 obtain ⟨_,_,_,_,_,_,rfl,rfl⟩:=hr.sl;refine ah au mixed Tryz.func103 rfl rfl ?_;refine fun w1 b1 m1 g1 l1=>?_
 have hr1:=hr.kz g1.kz;refine ⟨_,_,m1,_,rfl,_,oQ _ _,?_⟩;rintro _ w1 ⟨rfl,rfl⟩;refine aj (fun c0=>?_) (fun c0=>?_)
 ·refine ⟨_,_,m1,_,rfl,_,oQ _ _,?_⟩
  rintro _ w1 ⟨rfl,rfl⟩;refine aj (fun c1=>?_) (fun c1=>?_)
  ·refine ⟨_,_,m1,_,rfl,?_⟩
   refine aj (fun c2=>?_) (fun c2=>?_)
   ·refine ⟨_,_,m1,_,rfl,?_⟩
    refine ⟨_,_,m1,_,rfl,?_⟩;refine aj (fun c3=>?_) (fun c3=>?_)
    ·refine ⟨_,_,m1,dN r _ _,rfl,rfl,_,rows_ok hr1,?_⟩
     rintro _ w2 ⟨rfl,g2⟩;have g12:=g1.trans g2;refine aj (fun c4=>?_) (fun c4=>?_)
     ·refine ⟨_,_,g2.get m1 nofun,dN r _ _,rfl,rfl,_,Wo (hr1.kz g2.kz),?_⟩
      rintro _ w3 ⟨rfl,g3⟩;exact ⟨congrArg Value.bool (by grind [og]),g12.trans g3⟩
     ·exact ⟨congrArg Value.bool (by grind [og]),g12⟩
    ·exact ⟨congrArg Value.bool (by grind [og]),g1⟩
   ·exact ⟨congrArg Value.bool (by grind [og]),g1⟩
  ·exact ⟨congrArg Value.bool (by grind [og]),g1⟩
 ·exact ⟨congrArg Value.bool (by grind [og]),g1⟩
theorem El (hr:aP w r rv dv):af Tryz.prog 173 #[.agg (dN r rv dv).toArray] w (fun v w'=>v=.bool (sj r)∧GB none w w'):=by
 obtain ⟨_,n1,_,_,n2,_,rfl,rfl⟩:=hr.sl;obtain ⟨⟨_,_,e1,_⟩,_,_,e2,_⟩:=hr;obtain rfl:n1=r.rows.length:=by injection e1
 obtain rfl:n2=r.bz.length:=by injection e2
 refine ah au mixed Tryz.func173 rfl rfl ?_;refine fun w1 b1 m1 g1 l1=>?_
 refine ⟨_,_,m1,_,rfl,?_⟩;refine aj (fun c0=>?_) (fun c0=>?_)
 ·refine ⟨_,_,m1,_,rfl,?_⟩
  refine aj (fun c1=>?_) (fun c1=>?_)
  ·refine ⟨_,_,m1,_,rfl,?_⟩
   refine aj (fun c2=>?_) (fun c2=>?_)
   ·refine ⟨_,_,m1,_,rfl,?_⟩
    refine aj (fun c3=>?_) (fun c3=>?_)
    ·refine ⟨_,_,m1,_,rfl,?_⟩
     refine aj (fun c4=>?_) (fun c4=>?_)
     ·refine ⟨_,_,m1,_,rfl,?_⟩
      refine aj (fun c5=>?_) (fun c5=>?_)
      ·refine ⟨_,_,m1,_,rfl,?_⟩
       exact ⟨congrArg Value.bool (by grind [sj]),g1⟩
      ·exact ⟨congrArg Value.bool (by grind [sj]),g1⟩
     ·exact ⟨congrArg Value.bool (by grind [sj]),g1⟩
    ·exact ⟨congrArg Value.bool (by grind [sj]),g1⟩
   ·exact ⟨congrArg Value.bool (by grind [sj]),g1⟩
  ·exact ⟨congrArg Value.bool (by grind [sj]),g1⟩
 ·exact ⟨congrArg Value.bool (by grind [sj]),g1⟩
end
section
variable {w:World} {c:MC} {rv dv:Value}
theorem xy (hr:aP w c.r rv dv):af Tryz.prog 172 #[.agg (cK c rv dv).toArray] w (fun v w'=>v=.bool (xx c)∧GB none w w'):=by
 obtain ⟨_,_,_,_,_,_,rfl,rfl⟩:=hr.sl;refine ah au mixed Tryz.func172 rfl rfl ?_;refine fun w1 b1 m1 g1 l1=>?_
 have hr1:=hr.kz g1.kz;refine ⟨_,_,m1,c.q.cells,rfl,rfl,?_⟩;refine aj (fun c0=>?_) (fun c0=>?_)
 ·refine ⟨_,_,m1,dN c.r _ _,rfl,rfl,_,El hr1,?_⟩
  rintro _ w2 ⟨rfl,g2⟩;have g12:=g1.trans g2;have m2:=g2.get m1 nofun;refine aj (fun c1=>?_) (fun c1=>?_)
  ·refine ⟨_,_,m2,_,rfl,?_⟩
   refine aj (fun c2=>?_) (fun c2=>?_)
   ·refine ⟨_,_,m2,_,rfl,?_⟩
    exact ⟨congrArg Value.bool (by grind [xx,oh]),g12⟩
   ·exact ⟨congrArg Value.bool (by grind [xx,oh]),g12⟩
  ·exact ⟨congrArg Value.bool (by grind [xx,oh]),g12⟩
 ·exact ⟨congrArg Value.bool (by grind [xx,oh]),g1⟩
theorem yw (hr:aP w c.r rv dv):af Tryz.prog 116 #[.agg (cK c rv dv).toArray] w (fun v w'=>v=.bool (kR c)∧GB none w w'):=by
 obtain ⟨_,_,_,_,_,_,rfl,rfl⟩:=hr.sl;obtain ⟨k,q,r,peer,seq⟩:=c;dsimp only at hr;by_cases k0:k=0
 ·subst k0
  refine ah au mixed Tryz.func116 rfl rfl ?_;refine fun w1 b1 m1 g1 l1=>⟨_,_,m1,_,rfl,_,_,m1,cK ⟨0,q,r,peer,seq⟩ _ _,rfl,rfl,_,xy (hr.kz g1.kz),?_⟩
  rintro _ w2 ⟨rfl,g2⟩;exact ⟨congrArg Value.bool (by simp [kR]),g1.trans g2⟩
 by_cases k1:k=1
 ·subst k1
  refine ah au mixed Tryz.func116 rfl rfl ?_;refine fun w1 b1 m1 g1 l1=>⟨_,_,m1,_,rfl,_,_,m1,q.cells,rfl,rfl,_,yn w1 q,?_⟩
  rintro _ w2 ⟨rfl,g2⟩;refine ⟨_,_,_,g2.get m1 nofun,rfl,rfl,fun w3 m3 g3=>?_⟩;have G:=(g1.trans g2).new g3 l1;obtain ⟨a,ha⟩:∃ a,kJ q=a:=⟨_,rfl⟩;rw [ha];cases a
  ·exact ⟨congrArg Value.bool (by simp [kR,ha]),G⟩
  ·refine ⟨_,_,m3,cK ⟨1,qb,r,peer,seq⟩ _ _,rfl,rfl,_,xy (c:=⟨1,qb,r,peer,seq⟩) (hr.kz G.kz),?_⟩
   rintro _ w4 ⟨rfl,g4⟩;exact ⟨congrArg Value.bool (by simp [kR,ha,xx,oh,qb]),G.trans g4⟩
 by_cases k2:k=2
 ·subst k2
  refine ah au mixed Tryz.func116 rfl rfl ?_;refine fun w1 b1 m1 g1 l1=>⟨_,_,m1,_,rfl,_,_,m1,dN r _ _,rfl,rfl,_,CL (hr.kz g1.kz),?_⟩
  rintro _ w2 ⟨rfl,g2⟩;refine ⟨_,_,_,g2.get m1 nofun,rfl,rfl,fun w3 m3 g3=>?_⟩;have G:=(g1.trans g2).new g3 l1;obtain ⟨a,ha⟩:∃ a,og r=a:=⟨_,rfl⟩;rw [ha];cases a
  ·exact ⟨congrArg Value.bool (by simp [kR,ha]),G⟩
  ·refine ⟨_,_,m3,cK ⟨2,q,pE,peer,seq⟩ (.slice none 0 0) (.slice none 0 0),rfl,rfl,_,xy (c:=⟨2,q,pE,peer,seq⟩) (aP.zero w3),?_⟩
   rintro _ w4 ⟨rfl,g4⟩;exact ⟨congrArg Value.bool (by simp [kR,ha,xx,sj,pE]),G.trans g4⟩
 by_cases k3:k=3
 ·subst k3
  refine ah au mixed Tryz.func116 rfl rfl ?_;refine fun w1 b1 m1 g1 l1=>⟨_,_,m1,_,rfl,_,_,m1,_,rfl,_,oQ w1 _,?_⟩
  rintro _ w1 ⟨rfl,rfl⟩;refine ⟨_,_,_,m1,rfl,rfl,fun w2 m2 g2=>⟨_,_,_,m2,rfl,rfl,fun w3 m3 g3=>?_⟩⟩;have G:=(g1.new g2 l1).new g3 l1;obtain ⟨a,ha⟩:∃ a,decide (peer<4)=a:=⟨_,rfl⟩;rw [ha];cases a
  ·exact ⟨congrArg Value.bool (by simp [kR,ha]),G⟩
  ·refine ⟨_,_,m3,cK ⟨3,q,r,0,0⟩ _ _,rfl,rfl,_,xy (c:=⟨3,q,r,0,0⟩) (hr.kz G.kz),?_⟩
   rintro _ w4 ⟨rfl,g4⟩;exact ⟨congrArg Value.bool (by simp [kR,ha,xx]),G.trans g4⟩
 refine ah au mixed Tryz.func116 rfl rfl ?_;refine fun w1 b1 m1 g1 l1=>⟨_,_,m1,_,rfl,?_⟩
 refine aj (fun e=>absurd (by simpa using e) k0) (fun _=>?_);refine aj (fun e=>absurd (by simpa using e) k1) (fun _=>?_);refine aj (fun e=>absurd (by simpa using e) k2) (fun _=>?_);refine aj (fun e=>absurd (by simpa using e) k3) (fun _=>?_);exact ⟨congrArg Value.bool (by simp [kR,k0,k1,k2,k3]),g1⟩
end
end
end Go.Proofs.YtignemioillaiabGreat
