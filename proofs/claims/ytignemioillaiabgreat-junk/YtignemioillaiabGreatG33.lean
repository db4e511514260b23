/- What is read (2): the small things. -/
import Derived.Test.YtignemioillaiabGreatG32
namespace Go.Proofs.YtignemioillaiabGreat
set_option maxHeartbeats 8000000
set_option maxRecDepth 100000
section
open Go Go.Conc
def nx {β:Type} (k:Nat) (l:List Nat) (f:Nat->List Nat->β):β:=f (num k l).1 (num k l).2
theorem aX {β:Type} {k x:Nat} {l l':List Nat} (h:num k l=(x,l')) (f:Nat->List Nat->β):nx k l f=f x l':=by unfold nx;rw [h]
def rn {α β:Type} (rd:List Nat->α×List Nat) (l:List Nat) (f:α->List Nat->β):β:=f (rd l).1 (rd l).2
theorem dV {α β:Type} {rd:List Nat->α×List Nat} {x:α} {l l':List Nat} (h:rd l=(x,l')) (f:α->List Nat->β):rn rd l f=f x l':=by unfold rn;rw [h]
def qz (l:List Nat):bN×List Nat:=nx 1 l λ c l=>nx 4 l λ s l=>nx 1 l λ k l=>nx 8 l λ key l=>if k=2 then nx 8 l λ v l=>(⟨c,s,k,key,v,0,0⟩,l) else if k=4 then nx 8 l λ hi l=>nx 1 l λ to l=>(⟨c,s,k,key,0,hi,to⟩,l) else (⟨c,s,k,key,0,0,0⟩,l)
def kZ (l:List Nat):az×List Nat:=nx 1 l λ c l=>nx 4 l λ s l=>nx 8 l λ key l=>nx 1 l λ k l=>if k=1 then nx 1 l λ f l=>if f=0 then (⟨c,s,key,k,false,0,0⟩,l) else nx 8 l λ v l=>(⟨c,s,key,k,true,v,0⟩,l) else if k=3 then nx 1 l λ g l=>(⟨c,s,key,k,false,0,g⟩,l) else (⟨c,s,key,k,false,0,0⟩,l)
def gZ (l:List Nat):bE×List Nat:=nx 4 l λ n l=>nx 1 l λ i l=>(⟨n,i⟩,l)
def ug (l:List Nat):Row×List Nat:=nx 8 l λ k l=>nx 8 l λ v l=>(⟨k,v⟩,l)
structure Bx (w:World) (b b1 b2:Nat) (T:TypeId) (z c:Array Value) (l:List Nat) (w':World):Prop where
 s:Src w' b l
 m1:w'.heap[b1]? = some (.cells z T)
 m2:w'.heap[b2]? = some (.cells c T)
 g:GB (some b) w w'
 n1:w.heap.size<=b1
 n2:w.heap.size<=b2
 ne:b1≠b2
 lb:b<w.heap.size
section
variable {w w1 w2:World} {b b1 b2:Nat} {T:TypeId} {z c c':Array Value} {l l':List Nat}
theorem Bx.new (hs:Src w b l) (m1:w1.heap[b1]? = some (.cells z T)) (g1:GB none w w1) (n1:w.heap.size<=b1) (m2:w2.heap[b2]? = some (.cells c T)) (g2:GB none w1 w2) (n2:w1.heap.size<=b2):Bx w b b1 b2 T z c l w2 :=
 ⟨hs.keep ((g1.trans g2).block b hs.lt nofun),g2.get m1 nofun,m2,(g1.trans g2).weak,n1,Nat.le_trans g1.size n2,λ e=>by have:=ag m1;omega,hs.lt⟩
theorem Bx.rd (h:Bx w b b1 b2 T z c l w1) (hs:Src w2 b l') (g:GB (some b) w1 w2):Bx w b b1 b2 T z c l' w2 :=
 ⟨hs,g.get h.m1 λ e=>by injection e with e;have:=h.n1;have:=h.lb;omega,g.get h.m2 λ e=>by injection e with e;have:=h.n2;have:=h.lb;omega,h.g.trans g,h.n1,h.n2,h.ne,h.lb⟩
theorem Bx.st (h:Bx w b b1 b2 T z c l w1) (m:w2.heap[b2]? = some (.cells c' T)) (g:GB (some b2) w1 w2):Bx w b b1 b2 T z c' l w2 :=
 ⟨h.s.keep (g.block b h.s.lt λ e=>by injection e with e;have:=h.n2;have:=h.lb;omega),g.get h.m1 λ e=>by injection e with e;exact h.ne e,m,h.g.news g h.n2,h.n1,h.n2,h.ne,h.lb⟩
theorem Bx.fin (h:Bx w b b1 b2 T z c l w1) (g:GB (some b1) w1 w2):Src w2 b l/\GB (some b) w w2 :=
 ⟨h.s.keep (g.block b h.s.lt λ e=>by injection e with e;have:=h.n1;have:=h.lb;omega),h.g.news g h.n1⟩
theorem jX (hs:Src w b l):af Tryz.prog 68 #[Ptt b] w (λ v w'=>∃ x l',num 1 l=(x,l')/\x<256/\v=.int .u8 x/\Src w' b l'/\GB (some b) w w'):=by
 refine aj ah mixed Tryz.func68 rfl rfl ?_;refine ⟨_,AL hs 1 (by decide),?_⟩;rintro _ w1 ⟨rfl,s1,g1⟩;have h:=EA (n:=1) hs.b;exact .inl ⟨by omega,_,_,rfl,h,rfl,s1,g1⟩
theorem oo (hs:Src w b l):af Tryz.prog 74 #[Ptt b] w (λ v w'=>∃ x l',num 4 l=(x,l')/\x<4294967296/\v=.int .u32 x/\Src w' b l'/\GB (some b) w w'):=by
 refine aj ah mixed Tryz.func74 rfl rfl ?_;refine ⟨_,AL hs 4 (by decide),?_⟩;rintro _ w1 ⟨rfl,s1,g1⟩;have h:=EA (n:=4) hs.b;exact .inl ⟨by omega,_,_,rfl,h,rfl,s1,g1⟩
theorem qA (hs:Src w b l):af Tryz.prog 129 #[Ptt b] w (λ v w'=>∃ x l',num 8 l=(x,l')/\x<18446744073709551616/\v=.int .u64 x/\Src w' b l'/\GB (some b) w w'):=by
 refine aj ah mixed Tryz.func129 rfl rfl ?_;refine ⟨_,AL hs 8 (by decide),?_⟩;rintro _ w1 ⟨rfl,s1,g1⟩;have h:=EA (n:=8) hs.b;exact ⟨_,_,rfl,h,rfl,s1,g1⟩
theorem Y8 (hs:Src w b l):af Tryz.prog 131 #[Ptt b] w (λ v w'=>∃ x l',ug l=(x,l')/\v=.agg x.cells.toArray/\Src w' b l'/\GB (some b) w w'):=by
 refine aj ah mixed Tryz.func131 rfl rfl ?_;refine λ w1 b1 m1 g1 l1 w2 b2 m2 g2 l2=>?_
 have B:=Bx.new hs m1 g1 l1 m2 g2 l2;clear m1 m2 g1 g2 l1 l2;refine ⟨_,qA B.s,?_⟩;rintro _ w3 ⟨k,l3,ek,ck,rfl,s3,g3⟩;replace B:=B.rd s3 g3;clear s3 g3;refine ⟨_,_,_,B.m2,rfl,rfl,λ w4 m4 g4=>?_⟩;replace B:=B.st m4 g4;clear m4 g4;refine ⟨_,qA B.s,?_⟩;rintro _ w3 ⟨v,l3,ev,cv,rfl,s3,g3⟩;replace B:=B.rd s3 g3;clear s3 g3;refine ⟨_,_,_,B.m2,rfl,rfl,λ w4 m4 g4=>?_⟩;replace B:=B.st m4 g4;clear m4 g4;refine ⟨_,_,B.m2,Row.cells ⟨k,v⟩,rfl,rfl,_,_,_,B.m1,rfl,rfl,λ w5 m5 g5=>?_⟩;obtain ⟨s5,g5⟩:=B.fin g5;exact ⟨_,_,m5,Row.cells ⟨k,v⟩,rfl,rfl,_,_,by rw [ug,aX ek,aX ev],rfl,s5,g5⟩
theorem xE (hs:Src w b l):af Tryz.prog 71 #[Ptt b] w (λ v w'=>∃ x l',gZ l=(x,l')/\v=.agg #[.int .u32 x.n,.int .u8 x.id]/\Src w' b l'/\GB (some b) w w'):=by
 refine aj ah mixed Tryz.func71 rfl rfl ?_;refine λ w1 b1 m1 g1 l1 w2 b2 m2 g2 l2=>?_
 have B:=Bx.new hs m1 g1 l1 m2 g2 l2;clear m1 m2 g1 g2 l1 l2;refine ⟨_,oo B.s,?_⟩;rintro _ w3 ⟨n,l3,en,cn,rfl,s3,g3⟩;replace B:=B.rd s3 g3;clear s3 g3;refine ⟨_,_,_,B.m2,rfl,rfl,λ w4 m4 g4=>?_⟩;replace B:=B.st m4 g4;clear m4 g4;refine ⟨_,jX B.s,?_⟩;rintro _ w3 ⟨i,l3,ei,ci,rfl,s3,g3⟩;replace B:=B.rd s3 g3;clear s3 g3;refine ⟨_,_,_,B.m2,rfl,rfl,λ w4 m4 g4=>?_⟩;replace B:=B.st m4 g4;clear m4 g4;refine ⟨_,_,B.m2,[.int .u32 n,.int .u8 i],rfl,rfl,_,_,_,B.m1,rfl,rfl,λ w5 m5 g5=>?_⟩;obtain ⟨s5,g5⟩:=B.fin g5;exact ⟨_,_,m5,[.int .u32 n,.int .u8 i],rfl,rfl,_,_,by rw [gZ,aX en,aX ei],rfl,s5,g5⟩
theorem Qp (hs:Src w b l):af Tryz.prog 69 #[Ptt b] w (λ v w'=>∃ x l',qz l=(x,l')/\v=.agg x.cells.toArray/\Src w' b l'/\GB (some b) w w'):=by
 refine aj ah mixed Tryz.func69 rfl rfl ?_;refine λ w1 b1 m1 g1 l1 w2 b2 m2 g2 l2=>?_
 have B:=Bx.new hs m1 g1 l1 m2 g2 l2;clear m1 m2 g1 g2 l1 l2;refine ⟨_,jX B.s,?_⟩;rintro _ w3 ⟨c,l3,ec,cc,rfl,s3,g3⟩;replace B:=B.rd s3 g3;clear s3 g3;refine ⟨_,_,_,B.m2,rfl,rfl,λ w4 m4 g4=>?_⟩;replace B:=B.st m4 g4;clear m4 g4;refine ⟨_,oo B.s,?_⟩;rintro _ w3 ⟨s,l3,es,cs,rfl,s3,g3⟩;replace B:=B.rd s3 g3;clear s3 g3;refine ⟨_,_,_,B.m2,rfl,rfl,λ w4 m4 g4=>?_⟩;replace B:=B.st m4 g4;clear m4 g4;refine ⟨_,jX B.s,?_⟩;rintro _ w3 ⟨k,l3,ek,ck,rfl,s3,g3⟩;replace B:=B.rd s3 g3;clear s3 g3;refine ⟨_,_,_,B.m2,rfl,rfl,λ w4 m4 g4=>?_⟩;replace B:=B.st m4 g4;clear m4 g4;refine ⟨_,qA B.s,?_⟩;rintro _ w3 ⟨key,l3,AO,ac7,rfl,s3,g3⟩;replace B:=B.rd s3 g3;clear s3 g3;refine ⟨_,_,_,B.m2,rfl,rfl,λ w4 m4 g4=>?_⟩;replace B:=B.st m4 g4;clear m4 g4;refine ⟨_,_,B.m2,_,rfl,au (λ q=>?_) (λ q=>?_)⟩
 ·have q1:k=2:=by simp at q;omega
  refine ⟨_,qA B.s,?_⟩;rintro _ w3 ⟨v,l3,ev,cv,rfl,s3,g3⟩;replace B:=B.rd s3 g3;clear s3 g3;refine ⟨_,_,_,B.m2,rfl,rfl,λ w4 m4 g4=>?_⟩;replace B:=B.st m4 g4;clear m4 g4;refine ⟨_,_,B.m2,bN.cells ⟨c,s,k,key,v,0,0⟩,rfl,rfl,_,_,_,B.m1,rfl,rfl,λ w5 m5 g5=>?_⟩;obtain ⟨s5,g5⟩:=B.fin g5;exact ⟨_,_,m5,bN.cells ⟨c,s,k,key,v,0,0⟩,rfl,rfl,_,_,by rw [qz,aX ec,aX es,aX ek,aX AO,if_pos q1,aX ev],rfl,s5,g5⟩
 ·have q1:¬ k=2:=by simp at q;omega
  refine au (λ q=>?_) (λ q=>?_)
  ·have q2:k=4:=by simp at q;omega
   refine ⟨_,qA B.s,?_⟩;rintro _ w3 ⟨hi,l3,Y9,chi,rfl,s3,g3⟩;replace B:=B.rd s3 g3;clear s3 g3;refine ⟨_,_,_,B.m2,rfl,rfl,λ w4 m4 g4=>?_⟩;replace B:=B.st m4 g4;clear m4 g4;refine ⟨_,jX B.s,?_⟩;rintro _ w3 ⟨to,l3,eto,cto,rfl,s3,g3⟩;replace B:=B.rd s3 g3;clear s3 g3;refine ⟨_,_,_,B.m2,rfl,rfl,λ w4 m4 g4=>?_⟩;replace B:=B.st m4 g4;clear m4 g4;refine ⟨_,_,B.m2,bN.cells ⟨c,s,k,key,0,hi,to⟩,rfl,rfl,_,_,_,B.m1,rfl,rfl,λ w5 m5 g5=>?_⟩;obtain ⟨s5,g5⟩:=B.fin g5;exact ⟨_,_,m5,bN.cells ⟨c,s,k,key,0,hi,to⟩,rfl,rfl,_,_,by rw [qz,aX ec,aX es,aX ek,aX AO,if_neg q1,if_pos q2,aX Y9,aX eto],rfl,s5,g5⟩
  ·have q2:¬ k=4:=by simp at q;omega
   refine ⟨_,_,B.m2,bN.cells ⟨c,s,k,key,0,0,0⟩,rfl,rfl,_,_,_,B.m1,rfl,rfl,λ w5 m5 g5=>?_⟩;obtain ⟨s5,g5⟩:=B.fin g5;exact ⟨_,_,m5,bN.cells ⟨c,s,k,key,0,0,0⟩,rfl,rfl,_,_,by rw [qz,aX ec,aX es,aX ek,aX AO,if_neg q1,if_neg q2],rfl,s5,g5⟩
theorem Qq (hs:Src w b l):af Tryz.prog 70 #[Ptt b] w (λ v w'=>∃ x l',kZ l=(x,l')/\v=.agg x.cells.toArray/\Src w' b l'/\GB (some b) w w'):=by
 refine aj ah mixed Tryz.func70 rfl rfl ?_;refine λ w1 b1 m1 g1 l1 w2 b2 m2 g2 l2=>?_
 have B:=Bx.new hs m1 g1 l1 m2 g2 l2;clear m1 m2 g1 g2 l1 l2;refine ⟨_,jX B.s,?_⟩;rintro _ w3 ⟨c,l3,ec,cc,rfl,s3,g3⟩;replace B:=B.rd s3 g3;clear s3 g3;refine ⟨_,_,_,B.m2,rfl,rfl,λ w4 m4 g4=>?_⟩;replace B:=B.st m4 g4;clear m4 g4;refine ⟨_,oo B.s,?_⟩;rintro _ w3 ⟨s,l3,es,cs,rfl,s3,g3⟩;replace B:=B.rd s3 g3;clear s3 g3;refine ⟨_,_,_,B.m2,rfl,rfl,λ w4 m4 g4=>?_⟩;replace B:=B.st m4 g4;clear m4 g4;refine ⟨_,qA B.s,?_⟩;rintro _ w3 ⟨key,l3,AO,ac7,rfl,s3,g3⟩;replace B:=B.rd s3 g3;clear s3 g3;refine ⟨_,_,_,B.m2,rfl,rfl,λ w4 m4 g4=>?_⟩;replace B:=B.st m4 g4;clear m4 g4;refine ⟨_,jX B.s,?_⟩;rintro _ w3 ⟨k,l3,ek,ck,rfl,s3,g3⟩;replace B:=B.rd s3 g3;clear s3 g3;refine ⟨_,_,_,B.m2,rfl,rfl,λ w4 m4 g4=>?_⟩;replace B:=B.st m4 g4;clear m4 g4;refine ⟨_,_,B.m2,_,rfl,au (λ q=>?_) (λ q=>?_)⟩
 ·have q1:k=1:=by simp at q;omega
  refine ⟨_,jX B.s,?_⟩;rintro _ w3 ⟨f,l3,ef,cf,rfl,s3,g3⟩;replace B:=B.rd s3 g3;clear s3 g3;refine ⟨_,_,_,B.m2,rfl,rfl,λ w4 m4 g4=>?_⟩;replace B:=B.st m4 g4;clear m4 g4;refine ⟨_,_,B.m2,_,rfl,au (λ q=>?_) (λ q=>?_)⟩
  ·have q2:¬ f=0:=by simp at q;omega
   have q3:((f:Int) != 0)=true:=by simpa using q
   refine ⟨_,qA B.s,?_⟩;rintro _ w3 ⟨v,l3,ev,cv,rfl,s3,g3⟩;replace B:=B.rd s3 g3;clear s3 g3;refine ⟨_,_,_,B.m2,rfl,rfl,λ w4 m4 g4=>?_⟩;replace B:=B.st m4 g4;clear m4 g4;refine ⟨_,_,B.m2,az.cells ⟨c,s,key,k,(f:Int) != 0,v,0⟩,rfl,rfl,_,_,_,B.m1,rfl,rfl,λ w5 m5 g5=>?_⟩;obtain ⟨s5,g5⟩:=B.fin g5;exact ⟨_,_,m5,az.cells ⟨c,s,key,k,(f:Int) != 0,v,0⟩,rfl,rfl,_,_,by rw [kZ,aX ec,aX es,aX AO,aX ek,if_pos q1,aX ef,if_neg q2,aX ev,q3],rfl,s5,g5⟩
  ·have q2:f=0:=by simp at q;omega
   have q3:((f:Int) != 0)=false:=by simpa using q
   refine ⟨_,_,B.m2,az.cells ⟨c,s,key,k,(f:Int) != 0,0,0⟩,rfl,rfl,_,_,_,B.m1,rfl,rfl,λ w5 m5 g5=>?_⟩;obtain ⟨s5,g5⟩:=B.fin g5;exact ⟨_,_,m5,az.cells ⟨c,s,key,k,(f:Int) != 0,0,0⟩,rfl,rfl,_,_,by rw [kZ,aX ec,aX es,aX AO,aX ek,if_pos q1,aX ef,if_pos q2,q3],rfl,s5,g5⟩
 ·have q1:¬ k=1:=by simp at q;omega
  refine au (λ q=>?_) (λ q=>?_)
  ·have q2:k=3:=by simp at q;omega
   refine ⟨_,jX B.s,?_⟩;rintro _ w3 ⟨g,l3,eg,cg,rfl,s3,g3⟩;replace B:=B.rd s3 g3;clear s3 g3;refine ⟨_,_,_,B.m2,rfl,rfl,λ w4 m4 g4=>?_⟩;replace B:=B.st m4 g4;clear m4 g4;refine ⟨_,_,B.m2,az.cells ⟨c,s,key,k,false,0,g⟩,rfl,rfl,_,_,_,B.m1,rfl,rfl,λ w5 m5 g5=>?_⟩;obtain ⟨s5,g5⟩:=B.fin g5;exact ⟨_,_,m5,az.cells ⟨c,s,key,k,false,0,g⟩,rfl,rfl,_,_,by rw [kZ,aX ec,aX es,aX AO,aX ek,if_neg q1,if_pos q2,aX eg],rfl,s5,g5⟩
  ·have q2:¬ k=3:=by simp at q;omega
   refine ⟨_,_,B.m2,az.cells ⟨c,s,key,k,false,0,0⟩,rfl,rfl,_,_,_,B.m1,rfl,rfl,λ w5 m5 g5=>?_⟩;obtain ⟨s5,g5⟩:=B.fin g5;exact ⟨_,_,m5,az.cells ⟨c,s,key,k,false,0,0⟩,rfl,rfl,_,_,by rw [kZ,aX ec,aX es,aX AO,aX ek,if_neg q1,if_neg q2],rfl,s5,g5⟩
end
def nJ {α:Type} (f:List Nat->α×List Nat):Nat->List Nat->List α×List Nat
 | 0,l=>([],l)
 | n+1,l=>if l=[] then ([],l) else rn f l λ x l=>(x::(nJ f n l).1,(nJ f n l).2)
def jg {α:Type} (f:List Nat->α×List Nat) (l:List Nat):List α×List Nat:=nx 1 l λ n l=>nJ f n l
def AP (l:List Nat):Rg×List Nat:=nx 1 l λ src l=>nx 1 l λ dst l=>nx 4 l λ seq l=>nx 8 l λ lo l=>nx 8 l λ hi l=>rn (jg ug) l λ rows l=>rn (jg kZ) l λ aY l=>(⟨src,dst,seq,lo,hi,rows,aY⟩,l)
def mF (l:List Nat):MC×List Nat:=nx 1 l λ k l=>if k=1 then rn qz l λ q l=>(⟨k,q,pG,0,0⟩,l) else if k=2 then rn AP l λ r l=>(⟨k,qg,r,0,0⟩,l) else if k=3 then nx 1 l λ p l=>nx 4 l λ s l=>(⟨k,qg,pG,p,s⟩,l) else (⟨k,qg,pG,0,0⟩,l)
def mZ (l:List Nat):MV×List Nat:=nx 4 l λ s l=>rn gZ l λ b l=>rn mF l λ c l=>(⟨s,b,c⟩,l)
theorem qB {d:ByteArray}:(d.toList == (ByteArray.mk #[]).toList)=true↔dl d=[]:=by
 rw [ByteArray.toList_eq,ByteArray.toList_eq];simp [dl]
theorem FI {α:Type} (f:List Nat->α×List Nat) (n:Nat):nJ f n []=([],[]):=by cases n <;> simp [nJ]
theorem yJ {α:Type} {f:List Nat->α×List Nat} {n:Nat} {l l':List Nat} {x:α} (h:f l=(x,l')) (hl:l≠[]):nJ f (n+1) l=(x::(nJ f n l').1,(nJ f n l').2):=by rw [nJ,if_neg hl,dV h]
theorem uo {w w1:World} {b e size n:Nat} {v:Value} {xs:List Value} {w0:World} (h:w.ownsRow 0 e size v n xs) (g:GB (some b) w w1) (hv:∀ g,v.ownBlock=some g->w0.heap.size<=g) (hb:b<w0.heap.size):w1.ownsRow 0 e size v n xs:=aA h λ x hx=>by
 obtain ⟨c,hc⟩:=aD h hx;exact g.block x (ag hc) λ e=>by injection e with e;have:=hv x hx;omega
theorem Fz.bS {w w':World} {e size n x t:Nat} {v:Value} {xs:List Value} {c:Array Value} (h:Fz w e size v n xs) (g:GB (some x) w w') (hx:w.heap[x]? = some (.cells c t)) (ht:t≠e):Fz w' e size v n xs:=by
 obtain ⟨a,c,h1,h2,h3,h4⟩:=h;refine ⟨a,c,h1,h2,h3,h4.imp id ?_⟩;rintro ⟨b,off,cs,h5,h6,h7⟩;exact ⟨b,off,cs,h5,g.get h6 (λ e=>df h6 hx ht.symm (Option.some.inj e)),h7⟩
theorem aM.bS {w w':World} {r:Rg} {rv dv:Value} {x t:Nat} {c:Array Value} (h:aM w r rv dv) (g:GB (some x) w w') (hx:w.heap[x]? = some (.cells c t)) (h1:t≠139) (h2:t≠70):aM w' r rv dv:=⟨h.1.bS g hx h1,h.2.bS g hx h2⟩
theorem Bx.Za {w w1 w2 w3 w4:World} {b b1 b2:Nat} {T:TypeId} {z c0 c:Array Value} {l l':List Nat} (hs:Src w b l) (m1:w1.heap[b1]? = some (.cells z T)) (g1:GB none w w1) (n1:w.heap.size<=b1) (s2:Src w2 b l') (g2:GB (some b) w1 w2) (_m3:w3.heap[b2]? = some (.cells c0 T)) (g3:GB none w2 w3) (n3:w2.heap.size<=b2) (m4:w4.heap[b2]? = some (.cells c T)) (g4:GB (some b2) w3 w4):Bx w b b1 b2 T z c l' w4:=by
 have hb:=hs.lt;have e1:b≠b1:=by omega
 have h1:=ag m1;have k1:=g1.size;have k2:=g2.size;have k3:=g3.size;refine ⟨(s2.keep (g3.block b s2.lt nofun)).keep (g4.block b (Nat.lt_of_lt_of_le s2.lt k3) λ e=>by injection e with e;omega),g4.get (g3.get (g2.get m1 λ e=>by injection e with e;omega) nofun) λ e=>by injection e with e;omega,m4,?_,n1,by omega,by omega,hb⟩;exact GB.news ((g1.weak.trans g2).trans g3.weak) g4 (by omega)
section
variable {w:World} {b:Nat} {l:List Nat}
theorem WI (hs:Src w b l):af Tryz.prog 130 #[Ptt b,.func (.func 131) #[Ptt b] #[]] w (λ v w'=>∃ x l',jg ug l=(x,l')/\Fz w' 139 2 v x.length (x.map Row.cells).flatten/\Src w' b l'/\GB (some b) w w'):=by
 refine aj ah mixed Tryz.func130 rfl rfl ?_;refine ⟨_,jX hs,?_⟩;rintro _ w1 ⟨n,l1,en,hn,rfl,s1,g1⟩;refine ⟨λ m s wk=>∃ (i:Nat) (v:Value) (acc:List Row) (li:List Nat),m=n - i/\i<=n/\s=[(0,Ptt b),(1,.func (.func 131) #[Ptt b] #[]),(5,v),(7,.int .u8 n),(8,.int .u8 i)]/\wk.ownsRow 0 139 2 v acc.length (acc.map Row.cells).flatten/\Src wk b li/\GB (some b) w wk/\(∀ g,v.ownBlock=some g->w.heap.size<=g)/\nJ ug n l1=(acc++(nJ ug (n - i) li).1,(nJ ug (n - i) li).2)/\acc.length=i,⟨_,_,⟨0,_,[],l1,rfl,Nat.zero_le _,rfl,eX _ _ _,s1,g1,nofun,rfl,rfl⟩,rfl,rfl,rfl,rfl,rfl,trivial⟩,?_⟩;clear s1 g1;rintro m s wk ⟨i,v,acc,li,rfl,hi,rfl,ho,sk,gk,nk,hr,I9⟩;obtain ⟨va,vc,rfl⟩:=ae ho;refine au (λ e=>?_) (λ e=>?_)
 ·have e1:i<n:=by have:=of_decide_eq_true e;omega
  obtain ⟨d,hd,rfl⟩:=sk;refine ⟨_,_,hd,_,rfl,au (λ q=>?_) (λ q=>?_)⟩
  ·rw [qB.1 q,FI,List.append_nil] at hr
   exact ⟨_,_,by rw [jg,aX en];exact hr,lG ho,⟨d,hd,qB.1 q⟩,gk⟩
  ·have q1:dl d≠[]:=λ z=>by rw [qB.2 z] at q;cases q
   refine ⟨_,Y8 ⟨d,hd,rfl⟩,?_⟩;rintro _ w2 ⟨x,l2,ex,rfl,s2,g2⟩;refine λ w3 b3 m3 g3 l3=>?_
   have hb:=hs.lt;have ho3:=aA (uo ho g2 nk hb) λ x hx=>by obtain ⟨c,hc⟩:=aD (uo ho g2 nk hb) hx;exact g3.block x (ag hc) nofun
   refine ⟨_,x.cells,ho3,⟨_,_,m3,rfl,rfl,rfl⟩,by omega,λ v' w4 zf g4 n4=>?_⟩;obtain ⟨LV,LW,rfl⟩:=ae zf;have pM:GB (some b) w w3:=(gk.trans g2).trans g3.weak;have Qs:∀ g,(Value.slice LV (acc.length+1) LW).ownBlock=some g->w.heap.size<=g:=λ g hg=>(n4.own g hg).elim (nk g) λ z=>Nat.le_trans pM.size z
   have s4:Src w4 b l2:=(s2.keep (g3.block b s2.lt nofun)).keep (g4.block b (Nat.lt_of_lt_of_le s2.lt g3.size) λ z=>by have:=nk b z.symm;omega);have g4':GB (some b) w w4:=⟨g4.os.trans pM.os,g4.out.trans pM.out,Nat.le_trans pM.size g4.size,λ y hy hn=>(g4.block y (Nat.lt_of_lt_of_le hy pM.size) λ z=>by have:=nk y z.symm;omega).trans (pM.block y hy hn)⟩;refine ⟨⟨by omega,by omega⟩,_,_,⟨i+1,_,acc++[x],l2,rfl,by omega,rfl,by simpa using (show w4.ownsRow 0 139 2 _ _ _ from zf),s4,g4',Qs,?_,by simp [I9]⟩,⟨rfl,rfl,rfl,rfl,rfl,trivial⟩,by omega⟩;rw [hr,show n - i=(n - (i+1))+1 by omega,yJ ex q1];simp
 ·have e1:i=n:=by have:=of_decide_eq_false e;omega
  rw [e1,Nat.sub_self] at hr;exact ⟨_,_,by rw [jg,aX en];simpa [nJ] using hr,lG ho,sk,gk⟩
theorem WJ (hs:Src w b l):af Tryz.prog 132 #[Ptt b,.func (.func 70) #[Ptt b] #[]] w (λ v w'=>∃ x l',jg kZ l=(x,l')/\Fz w' 70 7 v x.length (x.map az.cells).flatten/\Src w' b l'/\GB (some b) w w'):=by
 refine aj ah mixed Tryz.func132 rfl rfl ?_;refine ⟨_,jX hs,?_⟩;rintro _ w1 ⟨n,l1,en,hn,rfl,s1,g1⟩;refine ⟨λ m s wk=>∃ (i:Nat) (v:Value) (acc:List az) (li:List Nat),m=n - i/\i<=n/\s=[(0,Ptt b),(1,.func (.func 70) #[Ptt b] #[]),(5,v),(7,.int .u8 n),(8,.int .u8 i)]/\wk.ownsRow 0 70 7 v acc.length (acc.map az.cells).flatten/\Src wk b li/\GB (some b) w wk/\(∀ g,v.ownBlock=some g->w.heap.size<=g)/\nJ kZ n l1=(acc++(nJ kZ (n - i) li).1,(nJ kZ (n - i) li).2)/\acc.length=i,⟨_,_,⟨0,_,[],l1,rfl,Nat.zero_le _,rfl,eX _ _ _,s1,g1,nofun,rfl,rfl⟩,rfl,rfl,rfl,rfl,rfl,trivial⟩,?_⟩;clear s1 g1;rintro m s wk ⟨i,v,acc,li,rfl,hi,rfl,ho,sk,gk,nk,hr,I9⟩;obtain ⟨va,vc,rfl⟩:=ae ho;refine au (λ e=>?_) (λ e=>?_)
 ·have e1:i<n:=by have:=of_decide_eq_true e;omega
  obtain ⟨d,hd,rfl⟩:=sk;refine ⟨_,_,hd,_,rfl,au (λ q=>?_) (λ q=>?_)⟩
  ·rw [qB.1 q,FI,List.append_nil] at hr
   exact ⟨_,_,by rw [jg,aX en];exact hr,lG ho,⟨d,hd,qB.1 q⟩,gk⟩
  ·have q1:dl d≠[]:=λ z=>by rw [qB.2 z] at q;cases q
   refine ⟨_,Qq ⟨d,hd,rfl⟩,?_⟩;rintro _ w2 ⟨x,l2,ex,rfl,s2,g2⟩;refine λ w3 b3 m3 g3 l3=>?_
   have hb:=hs.lt;have ho3:=aA (uo ho g2 nk hb) λ x hx=>by obtain ⟨c,hc⟩:=aD (uo ho g2 nk hb) hx;exact g3.block x (ag hc) nofun
   refine ⟨_,x.cells,ho3,⟨_,_,m3,rfl,rfl,rfl⟩,by omega,λ v' w4 zf g4 n4=>?_⟩;obtain ⟨LV,LW,rfl⟩:=ae zf;have pM:GB (some b) w w3:=(gk.trans g2).trans g3.weak;have Qs:∀ g,(Value.slice LV (acc.length+1) LW).ownBlock=some g->w.heap.size<=g:=λ g hg=>(n4.own g hg).elim (nk g) λ z=>Nat.le_trans pM.size z
   have s4:Src w4 b l2:=(s2.keep (g3.block b s2.lt nofun)).keep (g4.block b (Nat.lt_of_lt_of_le s2.lt g3.size) λ z=>by have:=nk b z.symm;omega);have g4':GB (some b) w w4:=⟨g4.os.trans pM.os,g4.out.trans pM.out,Nat.le_trans pM.size g4.size,λ y hy hn=>(g4.block y (Nat.lt_of_lt_of_le hy pM.size) λ z=>by have:=nk y z.symm;omega).trans (pM.block y hy hn)⟩;refine ⟨⟨by omega,by omega⟩,_,_,⟨i+1,_,acc++[x],l2,rfl,by omega,rfl,by simpa using (show w4.ownsRow 0 70 7 _ _ _ from zf),s4,g4',Qs,?_,by simp [I9]⟩,⟨rfl,rfl,rfl,rfl,rfl,trivial⟩,by omega⟩;rw [hr,show n - i=(n - (i+1))+1 by omega,yJ ex q1];simp
 ·have e1:i=n:=by have:=of_decide_eq_false e;omega
  rw [e1,Nat.sub_self] at hr;exact ⟨_,_,by rw [jg,aX en];simpa [nJ] using hr,lG ho,sk,gk⟩
theorem U4 (hs:Src w b l):af Tryz.prog 76 #[Ptt b] w (λ v w'=>∃ x l',AP l=(x,l')/\(∃ rv dv,v=.agg (eO x rv dv).toArray/\aM w' x rv dv)/\Src w' b l'/\GB (some b) w w'):=by
 refine aj ah mixed Tryz.func76 rfl rfl ?_;refine λ w1 b1 m1 g1 l1 w2 b2 m2 g2 l2=>?_
 have B:=Bx.new hs m1 g1 l1 m2 g2 l2;clear m1 m2 g1 g2 l1 l2;refine ⟨_,jX B.s,?_⟩;rintro _ w3 ⟨src,l3,ac8,afN,rfl,s3,g3⟩;replace B:=B.rd s3 g3;clear s3 g3;refine ⟨_,_,_,B.m2,rfl,rfl,λ w4 m4 g4=>?_⟩;replace B:=B.st m4 g4;clear m4 g4;refine ⟨_,jX B.s,?_⟩;rintro _ w3 ⟨dst,l3,ac9,afO,rfl,s3,g3⟩;replace B:=B.rd s3 g3;clear s3 g3;refine ⟨_,_,_,B.m2,rfl,rfl,λ w4 m4 g4=>?_⟩;replace B:=B.st m4 g4;clear m4 g4;refine ⟨_,oo B.s,?_⟩;rintro _ w3 ⟨seq,l3,ada,afP,rfl,s3,g3⟩;replace B:=B.rd s3 g3;clear s3 g3;refine ⟨_,_,_,B.m2,rfl,rfl,λ w4 m4 g4=>?_⟩;replace B:=B.st m4 g4;clear m4 g4;refine ⟨_,qA B.s,?_⟩;rintro _ w3 ⟨lo,l3,elo,rT,rfl,s3,g3⟩;replace B:=B.rd s3 g3;clear s3 g3;refine ⟨_,_,_,B.m2,rfl,rfl,λ w4 m4 g4=>?_⟩;replace B:=B.st m4 g4;clear m4 g4;refine ⟨_,qA B.s,?_⟩;rintro _ w3 ⟨hi,l3,Y9,chi,rfl,s3,g3⟩;replace B:=B.rd s3 g3;clear s3 g3;refine ⟨_,_,_,B.m2,rfl,rfl,λ w4 m4 g4=>?_⟩;replace B:=B.st m4 g4;clear m4 g4;refine ⟨_,WI B.s,?_⟩;rintro _ w3 ⟨rows,l3,aaC,⟨U5,U6,rfl,qC⟩,s3,g3⟩;have qC:Fz w3 _ _ _ _ _:=⟨_,_,rfl,qC⟩;replace B:=B.rd s3 g3;clear s3 g3;refine ⟨_,_,_,B.m2,rfl,rfl,λ w4 m4 g4=>?_⟩;replace qC:=qC.bS g4 B.m2 (by decide);replace B:=B.st m4 g4;clear m4 g4;refine ⟨_,WJ B.s,?_⟩;rintro _ w3 ⟨aY,l3,aaD,⟨U7,U9,rfl,yK⟩,s3,g3⟩;have yK:Fz w3 _ _ _ _ _:=⟨_,_,rfl,yK⟩;replace qC:=qC.bS g3 B.s.choose_spec.1 (by decide);replace B:=B.rd s3 g3;clear s3 g3;refine ⟨_,_,_,B.m2,rfl,rfl,λ w4 m4 g4=>?_⟩;replace qC:=qC.bS g4 B.m2 (by decide);replace yK:=yK.bS g4 B.m2 (by decide);replace B:=B.st m4 g4;clear m4 g4;refine ⟨_,_,B.m2,eO ⟨src,dst,seq,lo,hi,rows,aY⟩ (.slice U5 rows.length U6) (.slice U7 aY.length U9),rfl,rfl,_,_,_,B.m1,rfl,rfl,λ w5 m5 g5=>?_⟩;replace qC:=qC.bS g5 B.m1 (by decide);replace yK:=yK.bS g5 B.m1 (by decide);obtain ⟨s5,g5⟩:=B.fin g5;exact ⟨_,_,m5,eO ⟨src,dst,seq,lo,hi,rows,aY⟩ (.slice U5 rows.length U6) (.slice U7 aY.length U9),rfl,rfl,_,_,by rw [AP,aX ac8,aX ac9,aX ada,aX elo,aX Y9,dV aaC,dV aaD],⟨_,_,rfl,qC,yK⟩,s5,g5⟩
theorem JF (hs:Src w b l):af Tryz.prog 75 #[Ptt b] w (λ v w'=>∃ x l',mF l=(x,l')/\jI w' v x/\Src w' b l'/\GB (some b) w w'):=by
 refine aj ah mixed Tryz.func75 rfl rfl ?_;refine λ w1 b1 m1 g1 l1=>?_
 refine ⟨_,jX (hs.keep (g1.block b hs.lt nofun)),?_⟩;rintro _ w2 ⟨k,l2,ek,ck,rfl,s2,g2⟩;refine λ w3 b3 m3 g3 l3=>⟨_,_,_,m3,rfl,rfl,λ w4 m4 g4=>?_⟩
 have B:=Bx.Za hs m1 g1 l1 s2 g2 m3 g3 l3 m4 g4;clear m1 g1 l1 s2 g2 m3 g3 l3 m4 g4;refine ⟨_,_,B.m2,_,rfl,au (λ q=>?_) (λ q=>?_)⟩
 ·have q1:k=1:=by simp at q;omega
  refine ⟨_,Qp B.s,?_⟩;rintro _ w3 ⟨x,l3,ex,rfl,s3,g3⟩;replace B:=B.rd s3 g3;clear s3 g3;refine ⟨_,_,_,B.m2,rfl,rfl,λ w4 m4 g4=>?_⟩;replace B:=B.st m4 g4;clear m4 g4;refine ⟨_,_,B.m2,dz ⟨k,x,pG,0,0⟩ (.slice none 0 0) (.slice none 0 0),rfl,rfl,_,_,_,B.m1,rfl,rfl,λ w5 m5 g5=>?_⟩;obtain ⟨s5,g5⟩:=B.fin g5;exact ⟨_,_,m5,dz ⟨k,x,pG,0,0⟩ (.slice none 0 0) (.slice none 0 0),rfl,rfl,_,_,by rw [mF,aX ek,if_pos q1,dV ex],⟨_,_,rfl,aM.zero _⟩,s5,g5⟩
 ·have q1:¬ k=1:=by simp at q;omega
  refine au (λ q=>?_) (λ q=>?_)
  ·have q2:k=2:=by simp at q;omega
   refine ⟨_,U4 B.s,?_⟩;rintro _ w3 ⟨x,l3,ex,⟨rv,dv,rfl,hr⟩,s3,g3⟩;obtain ⟨ra,rm,rc,da,dm,dc,rfl,rfl⟩:=hr.sl;replace B:=B.rd s3 g3;clear s3 g3;refine ⟨_,_,_,B.m2,rfl,rfl,λ w4 m4 g4=>?_⟩;replace hr:=hr.bS g4 B.m2 (by decide) (by decide);replace B:=B.st m4 g4;clear m4 g4;refine ⟨_,_,B.m2,dz ⟨k,qg,x,0,0⟩ (.slice ra rm rc) (.slice da dm dc),rfl,rfl,_,_,_,B.m1,rfl,rfl,λ w5 m5 g5=>?_⟩;replace hr:=hr.bS g5 B.m1 (by decide) (by decide);obtain ⟨s5,g5⟩:=B.fin g5;exact ⟨_,_,m5,dz ⟨k,qg,x,0,0⟩ (.slice ra rm rc) (.slice da dm dc),rfl,rfl,_,_,by rw [mF,aX ek,if_neg q1,if_pos q2,dV ex],⟨_,_,rfl,hr⟩,s5,g5⟩
  ·have q2:¬ k=2:=by simp at q;omega
   refine au (λ q=>?_) (λ q=>?_)
   ·have q3:k=3:=by simp at q;omega
    refine ⟨_,jX B.s,?_⟩;rintro _ w3 ⟨p,l3,ep,cp,rfl,s3,g3⟩;replace B:=B.rd s3 g3;clear s3 g3;refine ⟨_,_,_,B.m2,rfl,rfl,λ w4 m4 g4=>?_⟩;replace B:=B.st m4 g4;clear m4 g4;refine ⟨_,oo B.s,?_⟩;rintro _ w3 ⟨s,l3,es,cs,rfl,s3,g3⟩;replace B:=B.rd s3 g3;clear s3 g3;refine ⟨_,_,_,B.m2,rfl,rfl,λ w4 m4 g4=>?_⟩;replace B:=B.st m4 g4;clear m4 g4;refine ⟨_,_,B.m2,dz ⟨k,qg,pG,p,s⟩ (.slice none 0 0) (.slice none 0 0),rfl,rfl,_,_,_,B.m1,rfl,rfl,λ w5 m5 g5=>?_⟩;obtain ⟨s5,g5⟩:=B.fin g5;exact ⟨_,_,m5,dz ⟨k,qg,pG,p,s⟩ (.slice none 0 0) (.slice none 0 0),rfl,rfl,_,_,by rw [mF,aX ek,if_neg q1,if_neg q2,if_pos q3,aX ep,aX es],⟨_,_,rfl,aM.zero _⟩,s5,g5⟩
   ·have q3:¬ k=3:=by simp at q;omega
    refine ⟨_,_,B.m2,dz ⟨k,qg,pG,0,0⟩ (.slice none 0 0) (.slice none 0 0),rfl,rfl,_,_,_,B.m1,rfl,rfl,λ w5 m5 g5=>?_⟩;obtain ⟨s5,g5⟩:=B.fin g5;exact ⟨_,_,m5,dz ⟨k,qg,pG,0,0⟩ (.slice none 0 0) (.slice none 0 0),rfl,rfl,_,_,by rw [mF,aX ek,if_neg q1,if_neg q2,if_neg q3],⟨_,_,rfl,aM.zero _⟩,s5,g5⟩
theorem WK (hs:Src w b l):af Tryz.prog 73 #[Ptt b] w (λ v w'=>∃ x l',mZ l=(x,l')/\nU w' v x/\Src w' b l'/\GB (some b) w w'):=by
 refine aj ah mixed Tryz.func73 rfl rfl ?_;refine λ w1 b1 m1 g1 l1 w2 b2 m2 g2 l2=>?_
 have B:=Bx.new hs m1 g1 l1 m2 g2 l2;clear m1 m2 g1 g2 l1 l2;refine ⟨_,oo B.s,?_⟩;rintro _ w3 ⟨s,l3,es,cs,rfl,s3,g3⟩;replace B:=B.rd s3 g3;clear s3 g3;refine ⟨_,_,_,B.m2,rfl,rfl,λ w4 m4 g4=>?_⟩;replace B:=B.st m4 g4;clear m4 g4;refine ⟨_,xE B.s,?_⟩;rintro _ w3 ⟨x,l3,ex,rfl,s3,g3⟩;replace B:=B.rd s3 g3;clear s3 g3;refine ⟨_,_,_,B.m2,rfl,rfl,λ w4 m4 g4=>?_⟩;replace B:=B.st m4 g4;clear m4 g4;refine ⟨_,JF B.s,?_⟩;rintro _ w3 ⟨c,l3,ec,⟨rv,dv,rfl,hr⟩,s3,g3⟩;obtain ⟨ra,rm,rc,da,dm,dc,rfl,rfl⟩:=hr.sl;replace B:=B.rd s3 g3;clear s3 g3;refine ⟨_,_,_,B.m2,rfl,rfl,λ w4 m4 g4=>?_⟩;replace hr:=hr.bS g4 B.m2 (by decide) (by decide);replace B:=B.st m4 g4;clear m4 g4;refine ⟨_,_,B.m2,jA ⟨s,x,c⟩ (.slice ra rm rc) (.slice da dm dc),rfl,rfl,_,_,_,B.m1,rfl,rfl,λ w5 m5 g5=>?_⟩;replace hr:=hr.bS g5 B.m1 (by decide) (by decide);obtain ⟨s5,g5⟩:=B.fin g5;exact ⟨_,_,m5,jA ⟨s,x,c⟩ (.slice ra rm rc) (.slice da dm dc),rfl,rfl,_,_,by rw [mZ,aX es,dV ex,dV ec],⟨_,_,rfl,hr⟩,s5,g5⟩
end
theorem Va {q:List bF} {k:Nat} {p:bF} (h:q[k]? = some p) {cur:List Value} (ht:cur.take (q.length*5)=flat q):aQ cur (k*5) 5=p.cells:=by
 have h1:=jW (f:=bF.cells) (size:=5) (λ _=>rfl) q k p h;have hk:k<q.length:=(List.getElem?_eq_some_iff.1 h).1;rw [<- h1,show q.flatMap bF.cells=flat q from rfl,<- ht];unfold aQ;rw [List.drop_take,List.take_take,Nat.min_eq_left (by omega)]
section
variable {w:World}
theorem Qt {b4 b1 br:Nat} {p:bF} {Post:Value->World->Prop} (h4:w.heap[b4]? = some (.cells #[Ptt br] 123)) (h1:w.heap[b1]? = some (.cells p.cells.toArray 97)) (hc:af Tryz.prog 49 #[Ptt br,.agg p.cells.toArray] w (λ v w'=>v=.tuple #[]/\Post (.tuple #[]) w')):af Tryz.prog 48 #[Ptt b4,Ptt b1] w Post:=by
 refine aj ah mixed Tryz.func48 rfl rfl ?_;refine ⟨_,_,h4,_,rfl,_,_,h1,p.cells,rfl,rfl,_,hc,?_⟩;rintro _ w' ⟨rfl,hp⟩;exact hp
end
def aL.dH (A:aT) (C:aL) (k:Int):aL:=if 0<=k then C.fV A k.toNat else C
section
variable {A:aT} (HA:bK A) (HN:gJ A) {Λ:bU} {w:World} {bc:Nat} {C:aL}
include HA HN
theorem aL.aK.dH (h:C.aK A) (k:Int):(C.dH A k).aK A:=by
 unfold aL.dH;split
 ·exact h.fV HA HN _
 ·exact h
theorem wo (h:tK Λ bc C w) (hf:C.aK A) (k:Int):fZ Tryz.prog 24 #[Ptt bc,.int .i64 k] w (λ v w'=>v=.int .i64 (if 0<=k/\k<C.q.length then 0 else 7)/\tK Λ bc (C.dH A k) w'/\Kz w w'):=by
 obtain ⟨gv,sv,B,ad,h⟩:=h;refine rH ah mixed Tryz.func24 rfl rfl ?_;obtain ⟨sa,sc,rfl⟩:=ae h.ci.row;have hlen:=hf.len;by_cases k0:k<0
 ·refine au (λ c=>?_) (λ c=>?_)
  ·have:¬ k<0:=by simpa using c
   omega
  ·have e:aL.dH A C k=C:=by unfold aL.dH;rw [if_neg (by omega)]
   rw [e,if_neg (λ x=>by omega)];exact ⟨rfl,⟨_,_,_,_,h⟩,Kz.refl _⟩
 refine au (λ c=>?_) (λ c=>(by have:k<0:=(by simpa using c);omega));refine ⟨_,_,h.ci.eH,_,rfl,?_⟩;refine au (λ d=>?_) (λ d=>?_)
 ·have d1:(C.q.length:Int)<=k:=by simpa using d
  have e:aL.dH A C k=C:=by
   unfold aL.dH aL.fV;rw [if_pos (by omega),List.getElem?_eq_none (by omega)]
  rw [e,if_neg (λ x=>by omega)];exact ⟨rfl,⟨_,_,_,_,h⟩,Kz.refl _⟩
 ·have d1:k<(C.q.length:Int):=by have:=of_decide_eq_false d;omega
  obtain ⟨k,rfl⟩:∃ k':Nat,k=(k':Int):=⟨k.toNat,by omega⟩;have hk:k<C.q.length:=by omega
  obtain ⟨p,hp⟩:∃ p,C.q[k]? = some p:=⟨C.q[k],by simp [hk]⟩;have hpo:=hf.net p (List.mem_of_getElem? hp);obtain ⟨bs,cap,cur,hsv,aR,htk,hsz,hcap⟩:=jD h.ci.row (by omega);injection hsv with hsv _ hsc;subst hsv;subst hsc;have hel:=Va hp htk;obtain ⟨f8,ef1,ef2⟩:=hpo.f8 hf.n hf.sz;obtain ⟨t1,t2,t3,t4⟩:=hpo.1;have et1:p.tg=(p.tg.toNat:Int):=by omega
  have et2:p.tr=(p.tr.toNat:Int):=by omega
  refine ⟨_,_,h.ci.eH,_,rfl,⟨by omega,by omega⟩,_,_,aR,p.cells,by show aQ cur.toList (0+k*5) 5=_;rw [Nat.zero_add];exact hel,rfl,λ w1 b1 m1 g1 l1=>⟨_,_,_,m1,rfl,rfl,λ w2 m2 g2=>?_⟩⟩;have JG:GB none w w2:=g1.new g2 l1;have h2:=h.ax JG;have hfi:=find_ok h2.ci hf.n hf.sz p.tg.toNat p.tr.toNat (by omega) (by omega);rw [<- et1,<- et2] at hfi;refine ⟨_,_,m2,[.int .u8 p.tg,.int .u8 p.tr],rfl,rfl,_,hfi.x,?_⟩;rintro _ w3 ⟨rfl,g3⟩;refine λ w4 b4 m4 g4 l4=>⟨_,_,_,m4,rfl,rfl,λ w5 m5 g5=>?_⟩
  have Vb:GB none w3 w5:=g4.new g5 l4;have jJ:=g3.trans Vb;have h5:=h2.ax jJ;have tN:=jJ.get m2 nofun;refine ⟨_,_,m5,_,rfl,?_⟩;rw [if_pos ⟨by omega,by omega⟩];have ed:aL.dH A C (k:Int)=if p.tg.toNat<C.n/\p.tr.toNat<C.sz then C.done p.tg.toNat p.tr.toNat (iU A (C.F p.tg.toNat p.tr.toNat) (p.fg.toNat,p.fr.toNat) p.d) else C:=by
   unfold aL.dH aL.fV;rw [if_pos (by omega),Int.toNat_natCast,hp]
  rw [ed];by_cases c:p.tg.toNat<C.n/\p.tr.toNat<C.sz
  ·rw [if_pos c] at m5 |-
   rw [if_pos c];have o:=hf.ok _ _ c.1 c.2;have e:=hf.out _ _ c.1 c.2;have gm:=hpo.gm HN hf.sz o (hf.sd _ _ c.1 c.2).1;have hl:=take_len HA o gm;rw [e] at hl;have pI:w5.heap[b4]? = some (.cells #[.pointer (some ⟨B p.tg.toNat p.tr.toNat,0,none⟩)] 123):=m5;have adb:w5.heap[b1]? = some (.cells p.cells.toArray 97):=tN;refine ⟨_,_,pI,_,rfl,_,Qe h5 c.1 c.2 (f:=48) (fst:=#[]) (cap:=#[Ptt b4,Ptt b1]) Tryz.func48 (by kernel_rfl) (by kernel_rfl) (R':=iU A (C.F p.tg.toNat p.tr.toNat) (p.fg.toNat,p.fr.toNat) p.d) (by simp only [List.length_nil] at hl;omega) (λ w6 g6=>?_),?_⟩
   ·have ht:=Wz HA HN.kind ((h5.ax g6).ci.enter c.1 c.2) o (p.fg.toNat,p.fr.toNat) (p.tg.toNat,p.tr.toNat) p.d gm (by rw [e];exact Nat.zero_le _)
    have ep:(Value.agg p.cells.toArray)=.agg #[.int .u8 (p.fg.toNat:Int),.int .u8 (p.fr.toNat:Int),.int .u8 (p.tg.toNat:Int),.int .u8 (p.tr.toNat:Int),.string p.d]:=by
     rw [<- ef1,<- ef2,<- et1,<- et2];rfl
    refine Qt (p:=p) (g6.get pI nofun) (g6.get adb nofun) ?_;rw [ep];exact af.mono' ht λ v w' hp=>⟨hp.1,hp.2⟩
   ·rintro _ w6 ⟨rfl,h6,k6⟩
    exact ⟨rfl,h6,(JG.trans jJ).kz.trans k6⟩
  ·rw [if_neg c,if_neg c]
   exact ⟨rfl,⟨_,_,_,_,h5⟩,(JG.trans jJ).kz⟩
end
end
end Go.Proofs.YtignemioillaiabGreat
