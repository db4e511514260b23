/- What is read (2): the small things. -/
import Derived.Test.YtignemioillaiaaGreatG32
namespace Go.Proofs.YtignemioillaiaaGreat
set_option maxHeartbeats 8000000
set_option maxRecDepth 100000
section
open Go Go.Conc
def nx {β:Type} (k:Nat) (l:List Nat) (f:Nat->List Nat->β):β:=f (num k l).1 (num k l).2
theorem aY {β:Type} {k x:Nat} {l l':List Nat} (h:num k l=(x,l')) (f:Nat->List Nat->β):nx k l f=f x l':=by unfold nx;rw [h]
def rn {α β:Type} (rd:List Nat->α×List Nat) (l:List Nat) (f:α->List Nat->β):β:=f (rd l).1 (rd l).2
theorem dW {α β:Type} {rd:List Nat->α×List Nat} {x:α} {l l':List Nat} (h:rd l=(x,l')) (f:α->List Nat->β):rn rd l f=f x l':=by unfold rn;rw [h]
def qC (l:List Nat):bQ×List Nat:=nx 1 l λ c l=>nx 4 l λ s l=>nx 1 l λ k l=>nx 8 l λ key l=>if k=2 then nx 8 l λ v l=>(⟨c,s,k,key,v,0,0⟩,l) else if k=4 then nx 8 l λ hi l=>nx 1 l λ to l=>(⟨c,s,k,key,0,hi,to⟩,l) else (⟨c,s,k,key,0,0,0⟩,l)
def lu (l:List Nat):az×List Nat:=nx 1 l λ c l=>nx 4 l λ s l=>nx 8 l λ key l=>nx 1 l λ k l=>if k=1 then nx 1 l λ f l=>if f=0 then (⟨c,s,key,k,false,0,0⟩,l) else nx 8 l λ v l=>(⟨c,s,key,k,true,v,0⟩,l) else if k=3 then nx 1 l λ g l=>(⟨c,s,key,k,false,0,g⟩,l) else (⟨c,s,key,k,false,0,0⟩,l)
def iq (l:List Nat):bF×List Nat:=nx 4 l λ n l=>nx 1 l λ i l=>(⟨n,i⟩,l)
def uj (l:List Nat):Row×List Nat:=nx 8 l λ k l=>nx 8 l λ v l=>(⟨k,v⟩,l)
structure Bx (w:World) (b b1 b2:Nat) (T:TypeId) (z c:Array Value) (l:List Nat) (w':World):Prop where
 s:Src w' b l
 m1:w'.heap[b1]? = some (.cells z T)
 m2:w'.heap[b2]? = some (.cells c T)
 g:GB (some b) w w'
 n1:w.heap.size<=b1
 n2:w.heap.size<=b2
 ne:b1≠b2
 lb:b<w.heap.size
section
variable {w w1 w2:World} {b b1 b2:Nat} {T:TypeId} {z c c':Array Value} {l l':List Nat}
theorem Bx.new (hs:Src w b l) (m1:w1.heap[b1]? = some (.cells z T)) (g1:GB none w w1) (n1:w.heap.size<=b1) (m2:w2.heap[b2]? = some (.cells c T)) (g2:GB none w1 w2) (n2:w1.heap.size<=b2):Bx w b b1 b2 T z c l w2 :=
 ⟨hs.keep ((g1.trans g2).block b hs.lt nofun),g2.get m1 nofun,m2,(g1.trans g2).weak,n1,Nat.le_trans g1.size n2,λ e=>by have:=ae m1;omega,hs.lt⟩
theorem Bx.rd (h:Bx w b b1 b2 T z c l w1) (hs:Src w2 b l') (g:GB (some b) w1 w2):Bx w b b1 b2 T z c l' w2 :=
 ⟨hs,g.get h.m1 λ e=>by injection e with e;have:=h.n1;have:=h.lb;omega,g.get h.m2 λ e=>by injection e with e;have:=h.n2;have:=h.lb;omega,h.g.trans g,h.n1,h.n2,h.ne,h.lb⟩
theorem Bx.st (h:Bx w b b1 b2 T z c l w1) (m:w2.heap[b2]? = some (.cells c' T)) (g:GB (some b2) w1 w2):Bx w b b1 b2 T z c' l w2 :=
 ⟨h.s.keep (g.block b h.s.lt λ e=>by injection e with e;have:=h.n2;have:=h.lb;omega),g.get h.m1 λ e=>by injection e with e;exact h.ne e,m,h.g.news g h.n2,h.n1,h.n2,h.ne,h.lb⟩
theorem Bx.fin (h:Bx w b b1 b2 T z c l w1) (g:GB (some b1) w1 w2):Src w2 b l/\GB (some b) w w2 :=
 ⟨h.s.keep (g.block b h.s.lt λ e=>by injection e with e;have:=h.n1;have:=h.lb;omega),h.g.news g h.n1⟩
theorem jY (hs:Src w b l):ag Tryz.prog 191 #[Ptt b] w (λ v w'=>∃ x l',num 1 l=(x,l')/\x<256/\v=.int .u8 x/\Src w' b l'/\GB (some b) w w'):=by
 refine au ah mixed Tryz.func191 rfl rfl ?_;refine ⟨_,AX hs 1 (by decide),?_⟩;rintro _ w1 ⟨rfl,s1,g1⟩;have h:=EH (n:=1) hs.b;exact .inl ⟨by omega,_,_,rfl,h,rfl,s1,g1⟩
theorem oq (hs:Src w b l):ag Tryz.prog 197 #[Ptt b] w (λ v w'=>∃ x l',num 4 l=(x,l')/\x<4294967296/\v=.int .u32 x/\Src w' b l'/\GB (some b) w w'):=by
 refine au ah mixed Tryz.func197 rfl rfl ?_;refine ⟨_,AX hs 4 (by decide),?_⟩;rintro _ w1 ⟨rfl,s1,g1⟩;have h:=EH (n:=4) hs.b;exact .inl ⟨by omega,_,_,rfl,h,rfl,s1,g1⟩
theorem qD (hs:Src w b l):ag Tryz.prog 224 #[Ptt b] w (λ v w'=>∃ x l',num 8 l=(x,l')/\x<18446744073709551616/\v=.int .u64 x/\Src w' b l'/\GB (some b) w w'):=by
 refine au ah mixed Tryz.func224 rfl rfl ?_;refine ⟨_,AX hs 8 (by decide),?_⟩;rintro _ w1 ⟨rfl,s1,g1⟩;have h:=EH (n:=8) hs.b;exact ⟨_,_,rfl,h,rfl,s1,g1⟩
theorem ZA (hs:Src w b l):ag Tryz.prog 226 #[Ptt b] w (λ v w'=>∃ x l',uj l=(x,l')/\v=.agg x.cells.toArray/\Src w' b l'/\GB (some b) w w'):=by
 refine au ah mixed Tryz.func226 rfl rfl ?_;refine λ w1 b1 m1 g1 l1 w2 b2 m2 g2 l2=>?_
 have B:=Bx.new hs m1 g1 l1 m2 g2 l2;clear m1 m2 g1 g2 l1 l2;refine ⟨_,qD B.s,?_⟩;rintro _ w3 ⟨k,l3,ek,ck,rfl,s3,g3⟩;replace B:=B.rd s3 g3;clear s3 g3;refine ⟨_,_,_,B.m2,rfl,rfl,λ w4 m4 g4=>?_⟩;replace B:=B.st m4 g4;clear m4 g4;refine ⟨_,qD B.s,?_⟩;rintro _ w3 ⟨v,l3,ev,cv,rfl,s3,g3⟩;replace B:=B.rd s3 g3;clear s3 g3;refine ⟨_,_,_,B.m2,rfl,rfl,λ w4 m4 g4=>?_⟩;replace B:=B.st m4 g4;clear m4 g4;refine ⟨_,_,B.m2,Row.cells ⟨k,v⟩,rfl,rfl,_,_,_,B.m1,rfl,rfl,λ w5 m5 g5=>?_⟩;obtain ⟨s5,g5⟩:=B.fin g5;exact ⟨_,_,m5,Row.cells ⟨k,v⟩,rfl,rfl,_,_,by rw [uj,aY ek,aY ev],rfl,s5,g5⟩
theorem xM (hs:Src w b l):ag Tryz.prog 194 #[Ptt b] w (λ v w'=>∃ x l',iq l=(x,l')/\v=.agg #[.int .u32 x.n,.int .u8 x.id]/\Src w' b l'/\GB (some b) w w'):=by
 refine au ah mixed Tryz.func194 rfl rfl ?_;refine λ w1 b1 m1 g1 l1 w2 b2 m2 g2 l2=>?_
 have B:=Bx.new hs m1 g1 l1 m2 g2 l2;clear m1 m2 g1 g2 l1 l2;refine ⟨_,oq B.s,?_⟩;rintro _ w3 ⟨n,l3,en,cn,rfl,s3,g3⟩;replace B:=B.rd s3 g3;clear s3 g3;refine ⟨_,_,_,B.m2,rfl,rfl,λ w4 m4 g4=>?_⟩;replace B:=B.st m4 g4;clear m4 g4;refine ⟨_,jY B.s,?_⟩;rintro _ w3 ⟨i,l3,ei,ci,rfl,s3,g3⟩;replace B:=B.rd s3 g3;clear s3 g3;refine ⟨_,_,_,B.m2,rfl,rfl,λ w4 m4 g4=>?_⟩;replace B:=B.st m4 g4;clear m4 g4;refine ⟨_,_,B.m2,[.int .u32 n,.int .u8 i],rfl,rfl,_,_,_,B.m1,rfl,rfl,λ w5 m5 g5=>?_⟩;obtain ⟨s5,g5⟩:=B.fin g5;exact ⟨_,_,m5,[.int .u32 n,.int .u8 i],rfl,rfl,_,_,by rw [iq,aY en,aY ei],rfl,s5,g5⟩
theorem QC (hs:Src w b l):ag Tryz.prog 192 #[Ptt b] w (λ v w'=>∃ x l',qC l=(x,l')/\v=.agg x.cells.toArray/\Src w' b l'/\GB (some b) w w'):=by
 refine au ah mixed Tryz.func192 rfl rfl ?_;refine λ w1 b1 m1 g1 l1 w2 b2 m2 g2 l2=>?_
 have B:=Bx.new hs m1 g1 l1 m2 g2 l2;clear m1 m2 g1 g2 l1 l2;refine ⟨_,jY B.s,?_⟩;rintro _ w3 ⟨c,l3,ec,cc,rfl,s3,g3⟩;replace B:=B.rd s3 g3;clear s3 g3;refine ⟨_,_,_,B.m2,rfl,rfl,λ w4 m4 g4=>?_⟩;replace B:=B.st m4 g4;clear m4 g4;refine ⟨_,oq B.s,?_⟩;rintro _ w3 ⟨s,l3,es,cs,rfl,s3,g3⟩;replace B:=B.rd s3 g3;clear s3 g3;refine ⟨_,_,_,B.m2,rfl,rfl,λ w4 m4 g4=>?_⟩;replace B:=B.st m4 g4;clear m4 g4;refine ⟨_,jY B.s,?_⟩;rintro _ w3 ⟨k,l3,ek,ck,rfl,s3,g3⟩;replace B:=B.rd s3 g3;clear s3 g3;refine ⟨_,_,_,B.m2,rfl,rfl,λ w4 m4 g4=>?_⟩;replace B:=B.st m4 g4;clear m4 g4;refine ⟨_,qD B.s,?_⟩;rintro _ w3 ⟨key,l3,AY,adH,rfl,s3,g3⟩;replace B:=B.rd s3 g3;clear s3 g3;refine ⟨_,_,_,B.m2,rfl,rfl,λ w4 m4 g4=>?_⟩;replace B:=B.st m4 g4;clear m4 g4;refine ⟨_,_,B.m2,_,rfl,aj (λ q=>?_) (λ q=>?_)⟩
 ·have q1:k=2:=by simp at q;omega
  refine ⟨_,qD B.s,?_⟩;rintro _ w3 ⟨v,l3,ev,cv,rfl,s3,g3⟩;replace B:=B.rd s3 g3;clear s3 g3;refine ⟨_,_,_,B.m2,rfl,rfl,λ w4 m4 g4=>?_⟩;replace B:=B.st m4 g4;clear m4 g4;refine ⟨_,_,B.m2,bQ.cells ⟨c,s,k,key,v,0,0⟩,rfl,rfl,_,_,_,B.m1,rfl,rfl,λ w5 m5 g5=>?_⟩;obtain ⟨s5,g5⟩:=B.fin g5;exact ⟨_,_,m5,bQ.cells ⟨c,s,k,key,v,0,0⟩,rfl,rfl,_,_,by rw [qC,aY ec,aY es,aY ek,aY AY,if_pos q1,aY ev],rfl,s5,g5⟩
 ·have q1:¬ k=2:=by simp at q;omega
  refine aj (λ q=>?_) (λ q=>?_)
  ·have q2:k=4:=by simp at q;omega
   refine ⟨_,qD B.s,?_⟩;rintro _ w3 ⟨hi,l3,ZB,chi,rfl,s3,g3⟩;replace B:=B.rd s3 g3;clear s3 g3;refine ⟨_,_,_,B.m2,rfl,rfl,λ w4 m4 g4=>?_⟩;replace B:=B.st m4 g4;clear m4 g4;refine ⟨_,jY B.s,?_⟩;rintro _ w3 ⟨to,l3,eto,cto,rfl,s3,g3⟩;replace B:=B.rd s3 g3;clear s3 g3;refine ⟨_,_,_,B.m2,rfl,rfl,λ w4 m4 g4=>?_⟩;replace B:=B.st m4 g4;clear m4 g4;refine ⟨_,_,B.m2,bQ.cells ⟨c,s,k,key,0,hi,to⟩,rfl,rfl,_,_,_,B.m1,rfl,rfl,λ w5 m5 g5=>?_⟩;obtain ⟨s5,g5⟩:=B.fin g5;exact ⟨_,_,m5,bQ.cells ⟨c,s,k,key,0,hi,to⟩,rfl,rfl,_,_,by rw [qC,aY ec,aY es,aY ek,aY AY,if_neg q1,if_pos q2,aY ZB,aY eto],rfl,s5,g5⟩
  ·have q2:¬ k=4:=by simp at q;omega
   refine ⟨_,_,B.m2,bQ.cells ⟨c,s,k,key,0,0,0⟩,rfl,rfl,_,_,_,B.m1,rfl,rfl,λ w5 m5 g5=>?_⟩;obtain ⟨s5,g5⟩:=B.fin g5;exact ⟨_,_,m5,bQ.cells ⟨c,s,k,key,0,0,0⟩,rfl,rfl,_,_,by rw [qC,aY ec,aY es,aY ek,aY AY,if_neg q1,if_neg q2],rfl,s5,g5⟩
theorem QD (hs:Src w b l):ag Tryz.prog 193 #[Ptt b] w (λ v w'=>∃ x l',lu l=(x,l')/\v=.agg x.cells.toArray/\Src w' b l'/\GB (some b) w w'):=by
 refine au ah mixed Tryz.func193 rfl rfl ?_;refine λ w1 b1 m1 g1 l1 w2 b2 m2 g2 l2=>?_
 have B:=Bx.new hs m1 g1 l1 m2 g2 l2;clear m1 m2 g1 g2 l1 l2;refine ⟨_,jY B.s,?_⟩;rintro _ w3 ⟨c,l3,ec,cc,rfl,s3,g3⟩;replace B:=B.rd s3 g3;clear s3 g3;refine ⟨_,_,_,B.m2,rfl,rfl,λ w4 m4 g4=>?_⟩;replace B:=B.st m4 g4;clear m4 g4;refine ⟨_,oq B.s,?_⟩;rintro _ w3 ⟨s,l3,es,cs,rfl,s3,g3⟩;replace B:=B.rd s3 g3;clear s3 g3;refine ⟨_,_,_,B.m2,rfl,rfl,λ w4 m4 g4=>?_⟩;replace B:=B.st m4 g4;clear m4 g4;refine ⟨_,qD B.s,?_⟩;rintro _ w3 ⟨key,l3,AY,adH,rfl,s3,g3⟩;replace B:=B.rd s3 g3;clear s3 g3;refine ⟨_,_,_,B.m2,rfl,rfl,λ w4 m4 g4=>?_⟩;replace B:=B.st m4 g4;clear m4 g4;refine ⟨_,jY B.s,?_⟩;rintro _ w3 ⟨k,l3,ek,ck,rfl,s3,g3⟩;replace B:=B.rd s3 g3;clear s3 g3;refine ⟨_,_,_,B.m2,rfl,rfl,λ w4 m4 g4=>?_⟩;replace B:=B.st m4 g4;clear m4 g4;refine ⟨_,_,B.m2,_,rfl,aj (λ q=>?_) (λ q=>?_)⟩
 ·have q1:k=1:=by simp at q;omega
  refine ⟨_,jY B.s,?_⟩;rintro _ w3 ⟨f,l3,ef,cf,rfl,s3,g3⟩;replace B:=B.rd s3 g3;clear s3 g3;refine ⟨_,_,_,B.m2,rfl,rfl,λ w4 m4 g4=>?_⟩;replace B:=B.st m4 g4;clear m4 g4;refine ⟨_,_,B.m2,_,rfl,aj (λ q=>?_) (λ q=>?_)⟩
  ·have q2:¬ f=0:=by simp at q;omega
   have q3:((f:Int) != 0)=true:=by simpa using q
   refine ⟨_,qD B.s,?_⟩;rintro _ w3 ⟨v,l3,ev,cv,rfl,s3,g3⟩;replace B:=B.rd s3 g3;clear s3 g3;refine ⟨_,_,_,B.m2,rfl,rfl,λ w4 m4 g4=>?_⟩;replace B:=B.st m4 g4;clear m4 g4;refine ⟨_,_,B.m2,az.cells ⟨c,s,key,k,(f:Int) != 0,v,0⟩,rfl,rfl,_,_,_,B.m1,rfl,rfl,λ w5 m5 g5=>?_⟩;obtain ⟨s5,g5⟩:=B.fin g5;exact ⟨_,_,m5,az.cells ⟨c,s,key,k,(f:Int) != 0,v,0⟩,rfl,rfl,_,_,by rw [lu,aY ec,aY es,aY AY,aY ek,if_pos q1,aY ef,if_neg q2,aY ev,q3],rfl,s5,g5⟩
  ·have q2:f=0:=by simp at q;omega
   have q3:((f:Int) != 0)=false:=by simpa using q
   refine ⟨_,_,B.m2,az.cells ⟨c,s,key,k,(f:Int) != 0,0,0⟩,rfl,rfl,_,_,_,B.m1,rfl,rfl,λ w5 m5 g5=>?_⟩;obtain ⟨s5,g5⟩:=B.fin g5;exact ⟨_,_,m5,az.cells ⟨c,s,key,k,(f:Int) != 0,0,0⟩,rfl,rfl,_,_,by rw [lu,aY ec,aY es,aY AY,aY ek,if_pos q1,aY ef,if_pos q2,q3],rfl,s5,g5⟩
 ·have q1:¬ k=1:=by simp at q;omega
  refine aj (λ q=>?_) (λ q=>?_)
  ·have q2:k=3:=by simp at q;omega
   refine ⟨_,jY B.s,?_⟩;rintro _ w3 ⟨g,l3,eg,cg,rfl,s3,g3⟩;replace B:=B.rd s3 g3;clear s3 g3;refine ⟨_,_,_,B.m2,rfl,rfl,λ w4 m4 g4=>?_⟩;replace B:=B.st m4 g4;clear m4 g4;refine ⟨_,_,B.m2,az.cells ⟨c,s,key,k,false,0,g⟩,rfl,rfl,_,_,_,B.m1,rfl,rfl,λ w5 m5 g5=>?_⟩;obtain ⟨s5,g5⟩:=B.fin g5;exact ⟨_,_,m5,az.cells ⟨c,s,key,k,false,0,g⟩,rfl,rfl,_,_,by rw [lu,aY ec,aY es,aY AY,aY ek,if_neg q1,if_pos q2,aY eg],rfl,s5,g5⟩
  ·have q2:¬ k=3:=by simp at q;omega
   refine ⟨_,_,B.m2,az.cells ⟨c,s,key,k,false,0,0⟩,rfl,rfl,_,_,_,B.m1,rfl,rfl,λ w5 m5 g5=>?_⟩;obtain ⟨s5,g5⟩:=B.fin g5;exact ⟨_,_,m5,az.cells ⟨c,s,key,k,false,0,0⟩,rfl,rfl,_,_,by rw [lu,aY ec,aY es,aY AY,aY ek,if_neg q1,if_neg q2],rfl,s5,g5⟩
end
def nL {α:Type} (f:List Nat->α×List Nat):Nat->List Nat->List α×List Nat
 | 0,l=>([],l)
 | n+1,l=>if l=[] then ([],l) else rn f l λ x l=>(x::(nL f n l).1,(nL f n l).2)
def jl {α:Type} (f:List Nat->α×List Nat) (l:List Nat):List α×List Nat:=nx 1 l λ n l=>nL f n l
def AZ (l:List Nat):Rg×List Nat:=nx 1 l λ src l=>nx 1 l λ dst l=>nx 4 l λ seq l=>nx 8 l λ lo l=>nx 8 l λ hi l=>rn (jl uj) l λ rows l=>rn (jl lu) l λ aZ l=>(⟨src,dst,seq,lo,hi,rows,aZ⟩,l)
def mK (l:List Nat):MC×List Nat:=nx 1 l λ k l=>if k=1 then rn qC l λ q l=>(⟨k,q,pG,0,0⟩,l) else if k=2 then rn AZ l λ r l=>(⟨k,qi,r,0,0⟩,l) else if k=3 then nx 1 l λ p l=>nx 4 l λ s l=>(⟨k,qi,pG,p,s⟩,l) else (⟨k,qi,pG,0,0⟩,l)
def nu (l:List Nat):MV×List Nat:=nx 4 l λ s l=>rn iq l λ b l=>rn mK l λ c l=>(⟨s,b,c⟩,l)
theorem qE {d:ByteArray}:(d.toList == (ByteArray.mk #[]).toList)=true↔dl d=[]:=by
 rw [ByteArray.toList_eq,ByteArray.toList_eq];simp [dl]
theorem FR {α:Type} (f:List Nat->α×List Nat) (n:Nat):nL f n []=([],[]):=by cases n <;> simp [nL]
theorem yQ {α:Type} {f:List Nat->α×List Nat} {n:Nat} {l l':List Nat} {x:α} (h:f l=(x,l')) (hl:l≠[]):nL f (n+1) l=(x::(nL f n l').1,(nL f n l').2):=by rw [nL,if_neg hl,dW h]
theorem uy {w w1:World} {b e size n:Nat} {v:Value} {xs:List Value} {w0:World} (h:w.ownsRow 0 e size v n xs) (g:GB (some b) w w1) (hv:∀ g,v.ownBlock=some g->w0.heap.size<=g) (hb:b<w0.heap.size):w1.ownsRow 0 e size v n xs:=aA h λ x hx=>by
 obtain ⟨c,hc⟩:=aD h hx;exact g.block x (ae hc) λ e=>by injection e with e;have:=hv x hx;omega
theorem Fz.bU {w w':World} {e size n x t:Nat} {v:Value} {xs:List Value} {c:Array Value} (h:Fz w e size v n xs) (g:GB (some x) w w') (hx:w.heap[x]? = some (.cells c t)) (ht:t≠e):Fz w' e size v n xs:=by
 obtain ⟨a,c,h1,h2,h3,h4⟩:=h;refine ⟨a,c,h1,h2,h3,h4.imp id ?_⟩;rintro ⟨b,off,cs,h5,h6,h7⟩;exact ⟨b,off,cs,h5,g.get h6 (λ e=>dh h6 hx ht.symm (Option.some.inj e)),h7⟩
theorem aM.bU {w w':World} {r:Rg} {rv dv:Value} {x t:Nat} {c:Array Value} (h:aM w r rv dv) (g:GB (some x) w w') (hx:w.heap[x]? = some (.cells c t)) (h1:t≠128) (h2:t≠57):aM w' r rv dv:=⟨h.1.bU g hx h1,h.2.bU g hx h2⟩
theorem Bx.ZC {w w1 w2 w3 w4:World} {b b1 b2:Nat} {T:TypeId} {z c0 c:Array Value} {l l':List Nat} (hs:Src w b l) (m1:w1.heap[b1]? = some (.cells z T)) (g1:GB none w w1) (n1:w.heap.size<=b1) (s2:Src w2 b l') (g2:GB (some b) w1 w2) (_m3:w3.heap[b2]? = some (.cells c0 T)) (g3:GB none w2 w3) (n3:w2.heap.size<=b2) (m4:w4.heap[b2]? = some (.cells c T)) (g4:GB (some b2) w3 w4):Bx w b b1 b2 T z c l' w4:=by
 have hb:=hs.lt;have e1:b≠b1:=by omega
 have h1:=ae m1;have k1:=g1.size;have k2:=g2.size;have k3:=g3.size;refine ⟨(s2.keep (g3.block b s2.lt nofun)).keep (g4.block b (Nat.lt_of_lt_of_le s2.lt k3) λ e=>by injection e with e;omega),g4.get (g3.get (g2.get m1 λ e=>by injection e with e;omega) nofun) λ e=>by injection e with e;omega,m4,?_,n1,by omega,by omega,hb⟩;exact GB.news ((g1.weak.trans g2).trans g3.weak) g4 (by omega)
section
variable {w:World} {b:Nat} {l:List Nat}
theorem Xh (hs:Src w b l):ag Tryz.prog 225 #[Ptt b,.func (.func 226) #[Ptt b] #[]] w (λ v w'=>∃ x l',jl uj l=(x,l')/\Fz w' 128 2 v x.length (x.map Row.cells).flatten/\Src w' b l'/\GB (some b) w w'):=by
 refine au ah mixed Tryz.func225 rfl rfl ?_;refine ⟨_,jY hs,?_⟩;rintro _ w1 ⟨n,l1,en,hn,rfl,s1,g1⟩;refine ⟨λ m s wk=>∃ (i:Nat) (v:Value) (acc:List Row) (li:List Nat),m=n - i/\i<=n/\s=[(0,Ptt b),(1,.func (.func 226) #[Ptt b] #[]),(5,v),(7,.int .u8 n),(8,.int .u8 i)]/\wk.ownsRow 0 128 2 v acc.length (acc.map Row.cells).flatten/\Src wk b li/\GB (some b) w wk/\(∀ g,v.ownBlock=some g->w.heap.size<=g)/\nL uj n l1=(acc++(nL uj (n - i) li).1,(nL uj (n - i) li).2)/\acc.length=i,⟨_,_,⟨0,_,[],l1,rfl,Nat.zero_le _,rfl,eZ _ _ _,s1,g1,nofun,rfl,rfl⟩,rfl,rfl,rfl,rfl,rfl,trivial⟩,?_⟩;clear s1 g1;rintro m s wk ⟨i,v,acc,li,rfl,hi,rfl,ho,sk,gk,nk,hr,Jl⟩;obtain ⟨va,vc,rfl⟩:=af ho;refine aj (λ e=>?_) (λ e=>?_)
 ·have e1:i<n:=by have:=of_decide_eq_true e;omega
  obtain ⟨d,hd,rfl⟩:=sk;refine ⟨_,_,hd,_,rfl,aj (λ q=>?_) (λ q=>?_)⟩
  ·rw [qE.1 q,FR,List.append_nil] at hr
   exact ⟨_,_,by rw [jl,aY en];exact hr,lK ho,⟨d,hd,qE.1 q⟩,gk⟩
  ·have q1:dl d≠[]:=λ z=>by rw [qE.2 z] at q;cases q
   refine ⟨_,ZA ⟨d,hd,rfl⟩,?_⟩;rintro _ w2 ⟨x,l2,ex,rfl,s2,g2⟩;refine λ w3 b3 m3 g3 l3=>?_
   have hb:=hs.lt;have ho3:=aA (uy ho g2 nk hb) λ x hx=>by obtain ⟨c,hc⟩:=aD (uy ho g2 nk hb) hx;exact g3.block x (ae hc) nofun
   refine ⟨_,x.cells,ho3,⟨_,_,m3,rfl,rfl,rfl⟩,by omega,λ v' w4 zo g4 n4=>?_⟩;obtain ⟨Mf,Mg,rfl⟩:=af zo;have pQ:GB (some b) w w3:=(gk.trans g2).trans g3.weak;have QE:∀ g,(Value.slice Mf (acc.length+1) Mg).ownBlock=some g->w.heap.size<=g:=λ g hg=>(n4.own g hg).elim (nk g) λ z=>Nat.le_trans pQ.size z
   have s4:Src w4 b l2:=(s2.keep (g3.block b s2.lt nofun)).keep (g4.block b (Nat.lt_of_lt_of_le s2.lt g3.size) λ z=>by have:=nk b z.symm;omega);have g4':GB (some b) w w4:=⟨g4.os.trans pQ.os,g4.out.trans pQ.out,Nat.le_trans pQ.size g4.size,λ y hy hn=>(g4.block y (Nat.lt_of_lt_of_le hy pQ.size) λ z=>by have:=nk y z.symm;omega).trans (pQ.block y hy hn)⟩;refine ⟨⟨by omega,by omega⟩,_,_,⟨i+1,_,acc++[x],l2,rfl,by omega,rfl,by simpa using (show w4.ownsRow 0 128 2 _ _ _ from zo),s4,g4',QE,?_,by simp [Jl]⟩,⟨rfl,rfl,rfl,rfl,rfl,trivial⟩,by omega⟩;rw [hr,show n - i=(n - (i+1))+1 by omega,yQ ex q1];simp
 ·have e1:i=n:=by have:=of_decide_eq_false e;omega
  rw [e1,Nat.sub_self] at hr;exact ⟨_,_,by rw [jl,aY en];simpa [nL] using hr,lK ho,sk,gk⟩
theorem Xi (hs:Src w b l):ag Tryz.prog 227 #[Ptt b,.func (.func 193) #[Ptt b] #[]] w (λ v w'=>∃ x l',jl lu l=(x,l')/\Fz w' 57 7 v x.length (x.map az.cells).flatten/\Src w' b l'/\GB (some b) w w'):=by
 refine au ah mixed Tryz.func227 rfl rfl ?_;refine ⟨_,jY hs,?_⟩;rintro _ w1 ⟨n,l1,en,hn,rfl,s1,g1⟩;refine ⟨λ m s wk=>∃ (i:Nat) (v:Value) (acc:List az) (li:List Nat),m=n - i/\i<=n/\s=[(0,Ptt b),(1,.func (.func 193) #[Ptt b] #[]),(5,v),(7,.int .u8 n),(8,.int .u8 i)]/\wk.ownsRow 0 57 7 v acc.length (acc.map az.cells).flatten/\Src wk b li/\GB (some b) w wk/\(∀ g,v.ownBlock=some g->w.heap.size<=g)/\nL lu n l1=(acc++(nL lu (n - i) li).1,(nL lu (n - i) li).2)/\acc.length=i,⟨_,_,⟨0,_,[],l1,rfl,Nat.zero_le _,rfl,eZ _ _ _,s1,g1,nofun,rfl,rfl⟩,rfl,rfl,rfl,rfl,rfl,trivial⟩,?_⟩;clear s1 g1;rintro m s wk ⟨i,v,acc,li,rfl,hi,rfl,ho,sk,gk,nk,hr,Jl⟩;obtain ⟨va,vc,rfl⟩:=af ho;refine aj (λ e=>?_) (λ e=>?_)
 ·have e1:i<n:=by have:=of_decide_eq_true e;omega
  obtain ⟨d,hd,rfl⟩:=sk;refine ⟨_,_,hd,_,rfl,aj (λ q=>?_) (λ q=>?_)⟩
  ·rw [qE.1 q,FR,List.append_nil] at hr
   exact ⟨_,_,by rw [jl,aY en];exact hr,lK ho,⟨d,hd,qE.1 q⟩,gk⟩
  ·have q1:dl d≠[]:=λ z=>by rw [qE.2 z] at q;cases q
   refine ⟨_,QD ⟨d,hd,rfl⟩,?_⟩;rintro _ w2 ⟨x,l2,ex,rfl,s2,g2⟩;refine λ w3 b3 m3 g3 l3=>?_
   have hb:=hs.lt;have ho3:=aA (uy ho g2 nk hb) λ x hx=>by obtain ⟨c,hc⟩:=aD (uy ho g2 nk hb) hx;exact g3.block x (ae hc) nofun
   refine ⟨_,x.cells,ho3,⟨_,_,m3,rfl,rfl,rfl⟩,by omega,λ v' w4 zo g4 n4=>?_⟩;obtain ⟨Mf,Mg,rfl⟩:=af zo;have pQ:GB (some b) w w3:=(gk.trans g2).trans g3.weak;have QE:∀ g,(Value.slice Mf (acc.length+1) Mg).ownBlock=some g->w.heap.size<=g:=λ g hg=>(n4.own g hg).elim (nk g) λ z=>Nat.le_trans pQ.size z
   have s4:Src w4 b l2:=(s2.keep (g3.block b s2.lt nofun)).keep (g4.block b (Nat.lt_of_lt_of_le s2.lt g3.size) λ z=>by have:=nk b z.symm;omega);have g4':GB (some b) w w4:=⟨g4.os.trans pQ.os,g4.out.trans pQ.out,Nat.le_trans pQ.size g4.size,λ y hy hn=>(g4.block y (Nat.lt_of_lt_of_le hy pQ.size) λ z=>by have:=nk y z.symm;omega).trans (pQ.block y hy hn)⟩;refine ⟨⟨by omega,by omega⟩,_,_,⟨i+1,_,acc++[x],l2,rfl,by omega,rfl,by simpa using (show w4.ownsRow 0 57 7 _ _ _ from zo),s4,g4',QE,?_,by simp [Jl]⟩,⟨rfl,rfl,rfl,rfl,rfl,trivial⟩,by omega⟩;rw [hr,show n - i=(n - (i+1))+1 by omega,yQ ex q1];simp
 ·have e1:i=n:=by have:=of_decide_eq_false e;omega
  rw [e1,Nat.sub_self] at hr;exact ⟨_,_,by rw [jl,aY en];simpa [nL] using hr,lK ho,sk,gk⟩
theorem Vp (hs:Src w b l):ag Tryz.prog 199 #[Ptt b] w (λ v w'=>∃ x l',AZ l=(x,l')/\(∃ rv dv,v=.agg (dU x rv dv).toArray/\aM w' x rv dv)/\Src w' b l'/\GB (some b) w w'):=by
 refine au ah mixed Tryz.func199 rfl rfl ?_;refine λ w1 b1 m1 g1 l1 w2 b2 m2 g2 l2=>?_
 have B:=Bx.new hs m1 g1 l1 m2 g2 l2;clear m1 m2 g1 g2 l1 l2;refine ⟨_,jY B.s,?_⟩;rintro _ w3 ⟨src,l3,adJ,agh,rfl,s3,g3⟩;replace B:=B.rd s3 g3;clear s3 g3;refine ⟨_,_,_,B.m2,rfl,rfl,λ w4 m4 g4=>?_⟩;replace B:=B.st m4 g4;clear m4 g4;refine ⟨_,jY B.s,?_⟩;rintro _ w3 ⟨dst,l3,adK,agi,rfl,s3,g3⟩;replace B:=B.rd s3 g3;clear s3 g3;refine ⟨_,_,_,B.m2,rfl,rfl,λ w4 m4 g4=>?_⟩;replace B:=B.st m4 g4;clear m4 g4;refine ⟨_,oq B.s,?_⟩;rintro _ w3 ⟨seq,l3,adL,agj,rfl,s3,g3⟩;replace B:=B.rd s3 g3;clear s3 g3;refine ⟨_,_,_,B.m2,rfl,rfl,λ w4 m4 g4=>?_⟩;replace B:=B.st m4 g4;clear m4 g4;refine ⟨_,qD B.s,?_⟩;rintro _ w3 ⟨lo,l3,elo,rW,rfl,s3,g3⟩;replace B:=B.rd s3 g3;clear s3 g3;refine ⟨_,_,_,B.m2,rfl,rfl,λ w4 m4 g4=>?_⟩;replace B:=B.st m4 g4;clear m4 g4;refine ⟨_,qD B.s,?_⟩;rintro _ w3 ⟨hi,l3,ZB,chi,rfl,s3,g3⟩;replace B:=B.rd s3 g3;clear s3 g3;refine ⟨_,_,_,B.m2,rfl,rfl,λ w4 m4 g4=>?_⟩;replace B:=B.st m4 g4;clear m4 g4;refine ⟨_,Xh B.s,?_⟩;rintro _ w3 ⟨rows,l3,aa5,⟨Vq,Vr,rfl,qF⟩,s3,g3⟩;have qF:Fz w3 _ _ _ _ _:=⟨_,_,rfl,qF⟩;replace B:=B.rd s3 g3;clear s3 g3;refine ⟨_,_,_,B.m2,rfl,rfl,λ w4 m4 g4=>?_⟩;replace qF:=qF.bU g4 B.m2 (by decide);replace B:=B.st m4 g4;clear m4 g4;refine ⟨_,Xi B.s,?_⟩;rintro _ w3 ⟨aZ,l3,aa6,⟨Vs,Vt,rfl,yR⟩,s3,g3⟩;have yR:Fz w3 _ _ _ _ _:=⟨_,_,rfl,yR⟩;replace qF:=qF.bU g3 B.s.choose_spec.1 (by decide);replace B:=B.rd s3 g3;clear s3 g3;refine ⟨_,_,_,B.m2,rfl,rfl,λ w4 m4 g4=>?_⟩;replace qF:=qF.bU g4 B.m2 (by decide);replace yR:=yR.bU g4 B.m2 (by decide);replace B:=B.st m4 g4;clear m4 g4;refine ⟨_,_,B.m2,dU ⟨src,dst,seq,lo,hi,rows,aZ⟩ (.slice Vq rows.length Vr) (.slice Vs aZ.length Vt),rfl,rfl,_,_,_,B.m1,rfl,rfl,λ w5 m5 g5=>?_⟩;replace qF:=qF.bU g5 B.m1 (by decide);replace yR:=yR.bU g5 B.m1 (by decide);obtain ⟨s5,g5⟩:=B.fin g5;exact ⟨_,_,m5,dU ⟨src,dst,seq,lo,hi,rows,aZ⟩ (.slice Vq rows.length Vr) (.slice Vs aZ.length Vt),rfl,rfl,_,_,by rw [AZ,aY adJ,aY adK,aY adL,aY elo,aY ZB,dW aa5,dW aa6],⟨_,_,rfl,qF,yR⟩,s5,g5⟩
theorem JQ (hs:Src w b l):ag Tryz.prog 198 #[Ptt b] w (λ v w'=>∃ x l',mK l=(x,l')/\jK w' v x/\Src w' b l'/\GB (some b) w w'):=by
 refine au ah mixed Tryz.func198 rfl rfl ?_;refine λ w1 b1 m1 g1 l1=>?_
 refine ⟨_,jY (hs.keep (g1.block b hs.lt nofun)),?_⟩;rintro _ w2 ⟨k,l2,ek,ck,rfl,s2,g2⟩;refine λ w3 b3 m3 g3 l3=>⟨_,_,_,m3,rfl,rfl,λ w4 m4 g4=>?_⟩
 have B:=Bx.ZC hs m1 g1 l1 s2 g2 m3 g3 l3 m4 g4;clear m1 g1 l1 s2 g2 m3 g3 l3 m4 g4;refine ⟨_,_,B.m2,_,rfl,aj (λ q=>?_) (λ q=>?_)⟩
 ·have q1:k=1:=by simp at q;omega
  refine ⟨_,QC B.s,?_⟩;rintro _ w3 ⟨x,l3,ex,rfl,s3,g3⟩;replace B:=B.rd s3 g3;clear s3 g3;refine ⟨_,_,_,B.m2,rfl,rfl,λ w4 m4 g4=>?_⟩;replace B:=B.st m4 g4;clear m4 g4;refine ⟨_,_,B.m2,dx ⟨k,x,pG,0,0⟩ (.slice none 0 0) (.slice none 0 0),rfl,rfl,_,_,_,B.m1,rfl,rfl,λ w5 m5 g5=>?_⟩;obtain ⟨s5,g5⟩:=B.fin g5;exact ⟨_,_,m5,dx ⟨k,x,pG,0,0⟩ (.slice none 0 0) (.slice none 0 0),rfl,rfl,_,_,by rw [mK,aY ek,if_pos q1,dW ex],⟨_,_,rfl,aM.zero _⟩,s5,g5⟩
 ·have q1:¬ k=1:=by simp at q;omega
  refine aj (λ q=>?_) (λ q=>?_)
  ·have q2:k=2:=by simp at q;omega
   refine ⟨_,Vp B.s,?_⟩;rintro _ w3 ⟨x,l3,ex,⟨rv,dv,rfl,hr⟩,s3,g3⟩;obtain ⟨ra,rm,rc,da,dm,dc,rfl,rfl⟩:=hr.sl;replace B:=B.rd s3 g3;clear s3 g3;refine ⟨_,_,_,B.m2,rfl,rfl,λ w4 m4 g4=>?_⟩;replace hr:=hr.bU g4 B.m2 (by decide) (by decide);replace B:=B.st m4 g4;clear m4 g4;refine ⟨_,_,B.m2,dx ⟨k,qi,x,0,0⟩ (.slice ra rm rc) (.slice da dm dc),rfl,rfl,_,_,_,B.m1,rfl,rfl,λ w5 m5 g5=>?_⟩;replace hr:=hr.bU g5 B.m1 (by decide) (by decide);obtain ⟨s5,g5⟩:=B.fin g5;exact ⟨_,_,m5,dx ⟨k,qi,x,0,0⟩ (.slice ra rm rc) (.slice da dm dc),rfl,rfl,_,_,by rw [mK,aY ek,if_neg q1,if_pos q2,dW ex],⟨_,_,rfl,hr⟩,s5,g5⟩
  ·have q2:¬ k=2:=by simp at q;omega
   refine aj (λ q=>?_) (λ q=>?_)
   ·have q3:k=3:=by simp at q;omega
    refine ⟨_,jY B.s,?_⟩;rintro _ w3 ⟨p,l3,ep,cp,rfl,s3,g3⟩;replace B:=B.rd s3 g3;clear s3 g3;refine ⟨_,_,_,B.m2,rfl,rfl,λ w4 m4 g4=>?_⟩;replace B:=B.st m4 g4;clear m4 g4;refine ⟨_,oq B.s,?_⟩;rintro _ w3 ⟨s,l3,es,cs,rfl,s3,g3⟩;replace B:=B.rd s3 g3;clear s3 g3;refine ⟨_,_,_,B.m2,rfl,rfl,λ w4 m4 g4=>?_⟩;replace B:=B.st m4 g4;clear m4 g4;refine ⟨_,_,B.m2,dx ⟨k,qi,pG,p,s⟩ (.slice none 0 0) (.slice none 0 0),rfl,rfl,_,_,_,B.m1,rfl,rfl,λ w5 m5 g5=>?_⟩;obtain ⟨s5,g5⟩:=B.fin g5;exact ⟨_,_,m5,dx ⟨k,qi,pG,p,s⟩ (.slice none 0 0) (.slice none 0 0),rfl,rfl,_,_,by rw [mK,aY ek,if_neg q1,if_neg q2,if_pos q3,aY ep,aY es],⟨_,_,rfl,aM.zero _⟩,s5,g5⟩
   ·have q3:¬ k=3:=by simp at q;omega
    refine ⟨_,_,B.m2,dx ⟨k,qi,pG,0,0⟩ (.slice none 0 0) (.slice none 0 0),rfl,rfl,_,_,_,B.m1,rfl,rfl,λ w5 m5 g5=>?_⟩;obtain ⟨s5,g5⟩:=B.fin g5;exact ⟨_,_,m5,dx ⟨k,qi,pG,0,0⟩ (.slice none 0 0) (.slice none 0 0),rfl,rfl,_,_,by rw [mK,aY ek,if_neg q1,if_neg q2,if_neg q3],⟨_,_,rfl,aM.zero _⟩,s5,g5⟩
theorem Xj (hs:Src w b l):ag Tryz.prog 196 #[Ptt b] w (λ v w'=>∃ x l',nu l=(x,l')/\nW w' v x/\Src w' b l'/\GB (some b) w w'):=by
 refine au ah mixed Tryz.func196 rfl rfl ?_;refine λ w1 b1 m1 g1 l1 w2 b2 m2 g2 l2=>?_
 have B:=Bx.new hs m1 g1 l1 m2 g2 l2;clear m1 m2 g1 g2 l1 l2;refine ⟨_,oq B.s,?_⟩;rintro _ w3 ⟨s,l3,es,cs,rfl,s3,g3⟩;replace B:=B.rd s3 g3;clear s3 g3;refine ⟨_,_,_,B.m2,rfl,rfl,λ w4 m4 g4=>?_⟩;replace B:=B.st m4 g4;clear m4 g4;refine ⟨_,xM B.s,?_⟩;rintro _ w3 ⟨x,l3,ex,rfl,s3,g3⟩;replace B:=B.rd s3 g3;clear s3 g3;refine ⟨_,_,_,B.m2,rfl,rfl,λ w4 m4 g4=>?_⟩;replace B:=B.st m4 g4;clear m4 g4;refine ⟨_,JQ B.s,?_⟩;rintro _ w3 ⟨c,l3,ec,⟨rv,dv,rfl,hr⟩,s3,g3⟩;obtain ⟨ra,rm,rc,da,dm,dc,rfl,rfl⟩:=hr.sl;replace B:=B.rd s3 g3;clear s3 g3;refine ⟨_,_,_,B.m2,rfl,rfl,λ w4 m4 g4=>?_⟩;replace hr:=hr.bU g4 B.m2 (by decide) (by decide);replace B:=B.st m4 g4;clear m4 g4;refine ⟨_,_,B.m2,jC ⟨s,x,c⟩ (.slice ra rm rc) (.slice da dm dc),rfl,rfl,_,_,_,B.m1,rfl,rfl,λ w5 m5 g5=>?_⟩;replace hr:=hr.bU g5 B.m1 (by decide) (by decide);obtain ⟨s5,g5⟩:=B.fin g5;exact ⟨_,_,m5,jC ⟨s,x,c⟩ (.slice ra rm rc) (.slice da dm dc),rfl,rfl,_,_,by rw [nu,aY es,dW ex,dW ec],⟨_,_,rfl,hr⟩,s5,g5⟩
end
theorem Vu {q:List bG} {k:Nat} {p:bG} (h:q[k]? = some p) {cur:List Value} (ht:cur.take (q.length*5)=flat q):aL cur (k*5) 5=p.cells:=by
 have h1:=jG (f:=bG.cells) (size:=5) (λ _=>rfl) q k p h;have hk:k<q.length:=(List.getElem?_eq_some_iff.1 h).1;rw [<- h1,show q.flatMap bG.cells=flat q from rfl,<- ht];unfold aL;rw [List.drop_take,List.take_take,Nat.min_eq_left (by omega)]
section
variable {w:World}
theorem QF {b4 b1 br:Nat} {p:bG} {Post:Value->World->Prop} (h4:w.heap[b4]? = some (.cells #[Ptt br] 133)) (h1:w.heap[b1]? = some (.cells p.cells.toArray 139)) (hc:ag Tryz.prog 65 #[Ptt br,.agg p.cells.toArray] w (λ v w'=>v=.tuple #[]/\Post (.tuple #[]) w')):ag Tryz.prog 64 #[Ptt b4,Ptt b1] w Post:=by
 refine au ah mixed Tryz.func64 rfl rfl ?_;refine ⟨_,_,h4,_,rfl,_,_,h1,p.cells,rfl,rfl,_,hc,?_⟩;rintro _ w' ⟨rfl,hp⟩;exact hp
end
def aN.dZ (A:aT) (C:aN) (k:Int):aN:=if 0<=k then C.iC A k.toNat else C
section
variable {A:aT} (HA:bK A) (HN:gL A) {Λ:bV} {w:World} {bc:Nat} {C:aN}
include HA HN
theorem aN.aJ.dZ (h:C.aJ A) (k:Int):(C.dZ A k).aJ A:=by
 unfold aN.dZ;split
 ·exact h.iC HA HN _
 ·exact h
theorem A7 (h:sG Λ bc C w) (hf:C.aJ A) (k:Int):gq Tryz.prog 24 #[Ptt bc,.int .i64 k] w (λ v w'=>v=.int .i64 (if 0<=k/\k<C.q.length then 0 else 7)/\sG Λ bc (C.dZ A k) w'/\Kz w w'):=by
 obtain ⟨gv,sv,B,ad,h⟩:=h;refine rO ah mixed Tryz.func24 rfl rfl ?_;obtain ⟨sa,sc,rfl⟩:=af h.ci.row;have hlen:=hf.len;by_cases k0:k<0
 ·refine aj (λ c=>?_) (λ c=>?_)
  ·have:¬ k<0:=by simpa using c
   omega
  ·have e:aN.dZ A C k=C:=by unfold aN.dZ;rw [if_neg (by omega)]
   rw [e,if_neg (λ x=>by omega)];exact ⟨rfl,⟨_,_,_,_,h⟩,Kz.refl _⟩
 refine aj (λ c=>?_) (λ c=>(by have:k<0:=(by simpa using c);omega));refine ⟨_,_,h.ci.eT,_,rfl,?_⟩;refine aj (λ d=>?_) (λ d=>?_)
 ·have d1:(C.q.length:Int)<=k:=by simpa using d
  have e:aN.dZ A C k=C:=by
   unfold aN.dZ aN.iC;rw [if_pos (by omega),List.getElem?_eq_none (by omega)]
  rw [e,if_neg (λ x=>by omega)];exact ⟨rfl,⟨_,_,_,_,h⟩,Kz.refl _⟩
 ·have d1:k<(C.q.length:Int):=by have:=of_decide_eq_false d;omega
  obtain ⟨k,rfl⟩:∃ k':Nat,k=(k':Int):=⟨k.toNat,by omega⟩;have hk:k<C.q.length:=by omega
  obtain ⟨p,hp⟩:∃ p,C.q[k]? = some p:=⟨C.q[k],by simp [hk]⟩;have hpo:=hf.net p (List.mem_of_getElem? hp);obtain ⟨bs,cap,cur,hsv,aR,htk,hsz,hcap⟩:=jE h.ci.row (by omega);injection hsv with hsv _ hsc;subst hsv;subst hsc;have hel:=Vu hp htk;obtain ⟨f8,ef1,ef2⟩:=hpo.f8 hf.n hf.sz;obtain ⟨t1,t2,t3,t4⟩:=hpo.1;have et1:p.tg=(p.tg.toNat:Int):=by omega
  have et2:p.tr=(p.tr.toNat:Int):=by omega
  refine ⟨_,_,h.ci.eT,_,rfl,⟨by omega,by omega⟩,_,_,aR,p.cells,by show aL cur.toList (0+k*5) 5=_;rw [Nat.zero_add];exact hel,rfl,λ w1 b1 m1 g1 l1=>⟨_,_,_,m1,rfl,rfl,λ w2 m2 g2=>?_⟩⟩;have JR:GB none w w2:=g1.new g2 l1;have h2:=h.ax JR;have hfi:=find_ok h2.ci hf.n hf.sz p.tg.toNat p.tr.toNat (by omega) (by omega);rw [<- et1,<- et2] at hfi;refine ⟨_,_,m2,[.int .u8 p.tg,.int .u8 p.tr],rfl,rfl,_,hfi.x,?_⟩;rintro _ w3 ⟨rfl,g3⟩;refine λ w4 b4 m4 g4 l4=>⟨_,_,_,m4,rfl,rfl,λ w5 m5 g5=>?_⟩
  have Vv:GB none w3 w5:=g4.new g5 l4;have jL:=g3.trans Vv;have h5:=h2.ax jL;have tT:=jL.get m2 nofun;refine ⟨_,_,m5,_,rfl,?_⟩;rw [if_pos ⟨by omega,by omega⟩];have ed:aN.dZ A C (k:Int)=if p.tg.toNat<C.n/\p.tr.toNat<C.sz then C.done p.tg.toNat p.tr.toNat (jX A (C.F p.tg.toNat p.tr.toNat) (p.fg.toNat,p.fr.toNat) p.d) else C:=by
   unfold aN.dZ aN.iC;rw [if_pos (by omega),Int.toNat_natCast,hp]
  rw [ed];by_cases c:p.tg.toNat<C.n/\p.tr.toNat<C.sz
  ·rw [if_pos c] at m5 |-
   rw [if_pos c];have o:=hf.ok _ _ c.1 c.2;have e:=hf.out _ _ c.1 c.2;have gm:=hpo.gm HN hf.sz o (hf.sd _ _ c.1 c.2).1;have hl:=take_len HA o gm;rw [e] at hl;have pK:w5.heap[b4]? = some (.cells #[.pointer (some ⟨B p.tg.toNat p.tr.toNat,0,none⟩)] 133):=m5;have adM:w5.heap[b1]? = some (.cells p.cells.toArray 139):=tT;refine ⟨_,_,pK,_,rfl,_,Qq h5 c.1 c.2 (f:=64) (fst:=#[]) (cap:=#[Ptt b4,Ptt b1]) Tryz.func64 (by kernel_rfl) (by kernel_rfl) (R':=jX A (C.F p.tg.toNat p.tr.toNat) (p.fg.toNat,p.fr.toNat) p.d) (by simp only [List.length_nil] at hl;omega) (λ w6 g6=>?_),?_⟩
   ·have ht:=Xa HA HN.kind ((h5.ax g6).ci.enter c.1 c.2) o (p.fg.toNat,p.fr.toNat) (p.tg.toNat,p.tr.toNat) p.d gm (by rw [e];exact Nat.zero_le _)
    have ep:(Value.agg p.cells.toArray)=.agg #[.int .u8 (p.fg.toNat:Int),.int .u8 (p.fr.toNat:Int),.int .u8 (p.tg.toNat:Int),.int .u8 (p.tr.toNat:Int),.string p.d]:=by
     rw [<- ef1,<- ef2,<- et1,<- et2];rfl
    refine QF (p:=p) (g6.get pK nofun) (g6.get adM nofun) ?_;rw [ep];exact ag.mono' ht λ v w' hp=>⟨hp.1,hp.2⟩
   ·rintro _ w6 ⟨rfl,h6,k6⟩
    exact ⟨rfl,h6,(JR.trans jL).kz.trans k6⟩
  ·rw [if_neg c,if_neg c]
   exact ⟨rfl,⟨_,_,_,_,h5⟩,(JR.trans jL).kz⟩
end
end
end Go.Proofs.YtignemioillaiaaGreat
