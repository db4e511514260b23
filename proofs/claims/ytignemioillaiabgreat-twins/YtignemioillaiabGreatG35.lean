/- What is read (2): the small things. -/
import Derived.Test.YtignemioillaiabGreatG34
namespace Go.Proofs.YtignemioillaiabGreat
set_option maxHeartbeats 8000000
set_option maxRecDepth 100000
section
open Go Go.Conc
def nx {β:Type} (k:Nat) (l:List Nat) (f:Nat→List Nat→β):β:=f (num k l).1 (num k l).2
theorem aZ {β:Type} {k x:Nat} {l l':List Nat} (h:num k l=(x,l')) (f:Nat→List Nat→β):nx k l f=f x l':=by unfold nx;rw [h]
def rn {α β:Type} (rd:List Nat→α×List Nat) (l:List Nat) (f:α→List Nat→β):β:=f (rd l).1 (rd l).2
theorem dP {α β:Type} {rd:List Nat→α×List Nat} {x:α} {l l':List Nat} (h:rd l=(x,l')) (f:α→List Nat→β):rn rd l f=f x l':=by unfold rn;rw [h]
def qp (l:List Nat):bH×List Nat:=nx 1 l fun c l=>nx 4 l fun s l=>nx 1 l fun k l=>nx 8 l fun key l=>if k=2 then nx 8 l fun v l=>(⟨c,s,k,key,v,0,0⟩,l) else if k=4 then nx 8 l fun hi l=>nx 1 l fun to l=>(⟨c,s,k,key,0,hi,to⟩,l) else (⟨c,s,k,key,0,0,0⟩,l)
def lG (l:List Nat):aD×List Nat:=nx 1 l fun c l=>nx 4 l fun s l=>nx 8 l fun key l=>nx 1 l fun k l=>if k=1 then nx 1 l fun f l=>if f=0 then (⟨c,s,key,k,false,0,0⟩,l) else nx 8 l fun v l=>(⟨c,s,key,k,true,v,0⟩,l) else if k=3 then nx 1 l fun g l=>(⟨c,s,key,k,false,0,g⟩,l) else (⟨c,s,key,k,false,0,0⟩,l)
def gN (l:List Nat):dh×List Nat:=nx 4 l fun n l=>nx 1 l fun i l=>(⟨n,i⟩,l)
def tY (l:List Nat):Row×List Nat:=nx 8 l fun k l=>nx 8 l fun v l=>(⟨k,v⟩,l)
structure Bx (w:World) (b b1 b2:Nat) (T:TypeId) (z c:Array Value) (l:List Nat) (w':World):Prop where
 s:Src w' b l
 m1:w'.heap[b1]? = some (.cells z T)
 m2:w'.heap[b2]? = some (.cells c T)
 g:GB (some b) w w'
 n1:w.heap.size≤b1
 n2:w.heap.size≤b2
 ne:b1≠b2
 lb:b<w.heap.size
section
variable {w w1 w2:World} {b b1 b2:Nat} {T:TypeId} {z c c':Array Value} {l l':List Nat}
theorem Bx.new (hs:Src w b l) (m1:w1.heap[b1]? = some (.cells z T)) (g1:GB none w w1) (n1:w.heap.size≤b1) (m2:w2.heap[b2]? = some (.cells c T)) (g2:GB none w1 w2) (n2:w1.heap.size≤b2):Bx w b b1 b2 T z c l w2 :=
 ⟨hs.keep ((g1.trans g2).block b hs.lt nofun),g2.get m1 nofun,m2,(g1.trans g2).weak,n1,Nat.le_trans g1.size n2,fun e=>by have:=ae m1;omega,hs.lt⟩
theorem Bx.rd (h:Bx w b b1 b2 T z c l w1) (hs:Src w2 b l') (g:GB (some b) w1 w2):Bx w b b1 b2 T z c l' w2 :=
 ⟨hs,g.get h.m1 fun e=>by injection e with e;have:=h.n1;have:=h.lb;omega,g.get h.m2 fun e=>by injection e with e;have:=h.n2;have:=h.lb;omega,h.g.trans g,h.n1,h.n2,h.ne,h.lb⟩
theorem Bx.st (h:Bx w b b1 b2 T z c l w1) (m:w2.heap[b2]? = some (.cells c' T)) (g:GB (some b2) w1 w2):Bx w b b1 b2 T z c' l w2 :=
 ⟨h.s.keep (g.block b h.s.lt fun e=>by injection e with e;have:=h.n2;have:=h.lb;omega),g.get h.m1 fun e=>by injection e with e;exact h.ne e,m,h.g.news g h.n2,h.n1,h.n2,h.ne,h.lb⟩
theorem Bx.fin (h:Bx w b b1 b2 T z c l w1) (g:GB (some b1) w1 w2):Src w2 b l∧GB (some b) w w2 :=
 ⟨h.s.keep (g.block b h.s.lt fun e=>by injection e with e;have:=h.n1;have:=h.lb;omega),h.g.news g h.n1⟩
theorem jW (hs:Src w b l):af Tryz.prog 68 #[.pointer (some ⟨b,0,none⟩)] w (fun v w'=>∃ x l',num 1 l=(x,l')∧x<256∧v=.int .u8 x∧Src w' b l'∧GB (some b) w w'):=by
 refine ah au mixed Tryz.func68 rfl rfl ?_;refine ⟨_,Ap hs 1 (by decide),?_⟩;rintro _ w1 ⟨rfl,s1,g1⟩;have h:=Em (n:=1) hs.b;exact .inl ⟨by omega,_,_,rfl,h,rfl,s1,g1⟩
theorem om (hs:Src w b l):af Tryz.prog 74 #[.pointer (some ⟨b,0,none⟩)] w (fun v w'=>∃ x l',num 4 l=(x,l')∧x<4294967296∧v=.int .u32 x∧Src w' b l'∧GB (some b) w w'):=by
 refine ah au mixed Tryz.func74 rfl rfl ?_;refine ⟨_,Ap hs 4 (by decide),?_⟩;rintro _ w1 ⟨rfl,s1,g1⟩;have h:=Em (n:=4) hs.b;exact .inl ⟨by omega,_,_,rfl,h,rfl,s1,g1⟩
theorem qw (hs:Src w b l):af Tryz.prog 129 #[.pointer (some ⟨b,0,none⟩)] w (fun v w'=>∃ x l',num 8 l=(x,l')∧x<18446744073709551616∧v=.int .u64 x∧Src w' b l'∧GB (some b) w w'):=by
 refine ah au mixed Tryz.func129 rfl rfl ?_;refine ⟨_,Ap hs 8 (by decide),?_⟩;rintro _ w1 ⟨rfl,s1,g1⟩;have h:=Em (n:=8) hs.b;exact ⟨_,_,rfl,h,rfl,s1,g1⟩
theorem Y7 (hs:Src w b l):af Tryz.prog 131 #[.pointer (some ⟨b,0,none⟩)] w (fun v w'=>∃ x l',tY l=(x,l')∧v=.agg x.cells.toArray∧Src w' b l'∧GB (some b) w w'):=by
 refine ah au mixed Tryz.func131 rfl rfl ?_;refine fun w1 b1 m1 g1 l1 w2 b2 m2 g2 l2=>?_
 have B:=Bx.new hs m1 g1 l1 m2 g2 l2;clear m1 m2 g1 g2 l1 l2;refine ⟨_,qw B.s,?_⟩;rintro _ w3 ⟨k,l3,ek,ck,rfl,s3,g3⟩;replace B:=B.rd s3 g3;clear s3 g3;refine ⟨_,_,_,B.m2,rfl,rfl,fun w4 m4 g4=>?_⟩;replace B:=B.st m4 g4;clear m4 g4;refine ⟨_,qw B.s,?_⟩;rintro _ w3 ⟨v,l3,ev,cv,rfl,s3,g3⟩;replace B:=B.rd s3 g3;clear s3 g3;refine ⟨_,_,_,B.m2,rfl,rfl,fun w4 m4 g4=>?_⟩;replace B:=B.st m4 g4;clear m4 g4;refine ⟨_,_,B.m2,Row.cells ⟨k,v⟩,rfl,rfl,_,_,_,B.m1,rfl,rfl,fun w5 m5 g5=>?_⟩;obtain ⟨s5,g5⟩:=B.fin g5;exact ⟨_,_,m5,Row.cells ⟨k,v⟩,rfl,rfl,_,_,by rw [tY,aZ ek,aZ ev],rfl,s5,g5⟩
theorem xz (hs:Src w b l):af Tryz.prog 71 #[.pointer (some ⟨b,0,none⟩)] w (fun v w'=>∃ x l',gN l=(x,l')∧v=.agg #[.int .u32 x.n,.int .u8 x.id]∧Src w' b l'∧GB (some b) w w'):=by
 refine ah au mixed Tryz.func71 rfl rfl ?_;refine fun w1 b1 m1 g1 l1 w2 b2 m2 g2 l2=>?_
 have B:=Bx.new hs m1 g1 l1 m2 g2 l2;clear m1 m2 g1 g2 l1 l2;refine ⟨_,om B.s,?_⟩;rintro _ w3 ⟨n,l3,en,cn,rfl,s3,g3⟩;replace B:=B.rd s3 g3;clear s3 g3;refine ⟨_,_,_,B.m2,rfl,rfl,fun w4 m4 g4=>?_⟩;replace B:=B.st m4 g4;clear m4 g4;refine ⟨_,jW B.s,?_⟩;rintro _ w3 ⟨i,l3,ei,ci,rfl,s3,g3⟩;replace B:=B.rd s3 g3;clear s3 g3;refine ⟨_,_,_,B.m2,rfl,rfl,fun w4 m4 g4=>?_⟩;replace B:=B.st m4 g4;clear m4 g4;refine ⟨_,_,B.m2,[.int .u32 n,.int .u8 i],rfl,rfl,_,_,_,B.m1,rfl,rfl,fun w5 m5 g5=>?_⟩;obtain ⟨s5,g5⟩:=B.fin g5;exact ⟨_,_,m5,[.int .u32 n,.int .u8 i],rfl,rfl,_,_,by rw [gN,aZ en,aZ ei],rfl,s5,g5⟩
theorem Qe (hs:Src w b l):af Tryz.prog 69 #[.pointer (some ⟨b,0,none⟩)] w (fun v w'=>∃ x l',qp l=(x,l')∧v=.agg x.cells.toArray∧Src w' b l'∧GB (some b) w w'):=by
 refine ah au mixed Tryz.func69 rfl rfl ?_;refine fun w1 b1 m1 g1 l1 w2 b2 m2 g2 l2=>?_
 have B:=Bx.new hs m1 g1 l1 m2 g2 l2;clear m1 m2 g1 g2 l1 l2;refine ⟨_,jW B.s,?_⟩;rintro _ w3 ⟨c,l3,ec,cc,rfl,s3,g3⟩;replace B:=B.rd s3 g3;clear s3 g3;refine ⟨_,_,_,B.m2,rfl,rfl,fun w4 m4 g4=>?_⟩;replace B:=B.st m4 g4;clear m4 g4;refine ⟨_,om B.s,?_⟩;rintro _ w3 ⟨s,l3,es,cs,rfl,s3,g3⟩;replace B:=B.rd s3 g3;clear s3 g3;refine ⟨_,_,_,B.m2,rfl,rfl,fun w4 m4 g4=>?_⟩;replace B:=B.st m4 g4;clear m4 g4;refine ⟨_,jW B.s,?_⟩;rintro _ w3 ⟨k,l3,ek,ck,rfl,s3,g3⟩;replace B:=B.rd s3 g3;clear s3 g3;refine ⟨_,_,_,B.m2,rfl,rfl,fun w4 m4 g4=>?_⟩;replace B:=B.st m4 g4;clear m4 g4;refine ⟨_,qw B.s,?_⟩;rintro _ w3 ⟨key,l3,Aq,adm,rfl,s3,g3⟩;replace B:=B.rd s3 g3;clear s3 g3;refine ⟨_,_,_,B.m2,rfl,rfl,fun w4 m4 g4=>?_⟩;replace B:=B.st m4 g4;clear m4 g4;refine ⟨_,_,B.m2,_,rfl,aj (fun q=>?_) (fun q=>?_)⟩
 ·have q1:k=2:=by simp at q;omega
  refine ⟨_,qw B.s,?_⟩;rintro _ w3 ⟨v,l3,ev,cv,rfl,s3,g3⟩;replace B:=B.rd s3 g3;clear s3 g3;refine ⟨_,_,_,B.m2,rfl,rfl,fun w4 m4 g4=>?_⟩;replace B:=B.st m4 g4;clear m4 g4;refine ⟨_,_,B.m2,bH.cells ⟨c,s,k,key,v,0,0⟩,rfl,rfl,_,_,_,B.m1,rfl,rfl,fun w5 m5 g5=>?_⟩;obtain ⟨s5,g5⟩:=B.fin g5;exact ⟨_,_,m5,bH.cells ⟨c,s,k,key,v,0,0⟩,rfl,rfl,_,_,by rw [qp,aZ ec,aZ es,aZ ek,aZ Aq,if_pos q1,aZ ev],rfl,s5,g5⟩
 ·have q1:¬ k=2:=by simp at q;omega
  refine aj (fun q=>?_) (fun q=>?_)
  ·have q2:k=4:=by simp at q;omega
   refine ⟨_,qw B.s,?_⟩;rintro _ w3 ⟨hi,l3,Y8,chi,rfl,s3,g3⟩;replace B:=B.rd s3 g3;clear s3 g3;refine ⟨_,_,_,B.m2,rfl,rfl,fun w4 m4 g4=>?_⟩;replace B:=B.st m4 g4;clear m4 g4;refine ⟨_,jW B.s,?_⟩;rintro _ w3 ⟨to,l3,eto,cto,rfl,s3,g3⟩;replace B:=B.rd s3 g3;clear s3 g3;refine ⟨_,_,_,B.m2,rfl,rfl,fun w4 m4 g4=>?_⟩;replace B:=B.st m4 g4;clear m4 g4;refine ⟨_,_,B.m2,bH.cells ⟨c,s,k,key,0,hi,to⟩,rfl,rfl,_,_,_,B.m1,rfl,rfl,fun w5 m5 g5=>?_⟩;obtain ⟨s5,g5⟩:=B.fin g5;exact ⟨_,_,m5,bH.cells ⟨c,s,k,key,0,hi,to⟩,rfl,rfl,_,_,by rw [qp,aZ ec,aZ es,aZ ek,aZ Aq,if_neg q1,if_pos q2,aZ Y8,aZ eto],rfl,s5,g5⟩
  ·have q2:¬ k=4:=by simp at q;omega
   refine ⟨_,_,B.m2,bH.cells ⟨c,s,k,key,0,0,0⟩,rfl,rfl,_,_,_,B.m1,rfl,rfl,fun w5 m5 g5=>?_⟩;obtain ⟨s5,g5⟩:=B.fin g5;exact ⟨_,_,m5,bH.cells ⟨c,s,k,key,0,0,0⟩,rfl,rfl,_,_,by rw [qp,aZ ec,aZ es,aZ ek,aZ Aq,if_neg q1,if_neg q2],rfl,s5,g5⟩
theorem Qf (hs:Src w b l):af Tryz.prog 70 #[.pointer (some ⟨b,0,none⟩)] w (fun v w'=>∃ x l',lG l=(x,l')∧v=.agg x.cells.toArray∧Src w' b l'∧GB (some b) w w'):=by
 refine ah au mixed Tryz.func70 rfl rfl ?_;refine fun w1 b1 m1 g1 l1 w2 b2 m2 g2 l2=>?_
 have B:=Bx.new hs m1 g1 l1 m2 g2 l2;clear m1 m2 g1 g2 l1 l2;refine ⟨_,jW B.s,?_⟩;rintro _ w3 ⟨c,l3,ec,cc,rfl,s3,g3⟩;replace B:=B.rd s3 g3;clear s3 g3;refine ⟨_,_,_,B.m2,rfl,rfl,fun w4 m4 g4=>?_⟩;replace B:=B.st m4 g4;clear m4 g4;refine ⟨_,om B.s,?_⟩;rintro _ w3 ⟨s,l3,es,cs,rfl,s3,g3⟩;replace B:=B.rd s3 g3;clear s3 g3;refine ⟨_,_,_,B.m2,rfl,rfl,fun w4 m4 g4=>?_⟩;replace B:=B.st m4 g4;clear m4 g4;refine ⟨_,qw B.s,?_⟩;rintro _ w3 ⟨key,l3,Aq,adm,rfl,s3,g3⟩;replace B:=B.rd s3 g3;clear s3 g3;refine ⟨_,_,_,B.m2,rfl,rfl,fun w4 m4 g4=>?_⟩;replace B:=B.st m4 g4;clear m4 g4;refine ⟨_,jW B.s,?_⟩;rintro _ w3 ⟨k,l3,ek,ck,rfl,s3,g3⟩;replace B:=B.rd s3 g3;clear s3 g3;refine ⟨_,_,_,B.m2,rfl,rfl,fun w4 m4 g4=>?_⟩;replace B:=B.st m4 g4;clear m4 g4;refine ⟨_,_,B.m2,_,rfl,aj (fun q=>?_) (fun q=>?_)⟩
 ·have q1:k=1:=by simp at q;omega
  refine ⟨_,jW B.s,?_⟩;rintro _ w3 ⟨f,l3,ef,cf,rfl,s3,g3⟩;replace B:=B.rd s3 g3;clear s3 g3;refine ⟨_,_,_,B.m2,rfl,rfl,fun w4 m4 g4=>?_⟩;replace B:=B.st m4 g4;clear m4 g4;refine ⟨_,_,B.m2,_,rfl,aj (fun q=>?_) (fun q=>?_)⟩
  ·have q2:¬ f=0:=by simp at q;omega
   have q3:((f:Int) != 0)=true:=by simpa using q
   refine ⟨_,qw B.s,?_⟩;rintro _ w3 ⟨v,l3,ev,cv,rfl,s3,g3⟩;replace B:=B.rd s3 g3;clear s3 g3;refine ⟨_,_,_,B.m2,rfl,rfl,fun w4 m4 g4=>?_⟩;replace B:=B.st m4 g4;clear m4 g4;refine ⟨_,_,B.m2,aD.cells ⟨c,s,key,k,(f:Int) != 0,v,0⟩,rfl,rfl,_,_,_,B.m1,rfl,rfl,fun w5 m5 g5=>?_⟩;obtain ⟨s5,g5⟩:=B.fin g5;exact ⟨_,_,m5,aD.cells ⟨c,s,key,k,(f:Int) != 0,v,0⟩,rfl,rfl,_,_,by rw [lG,aZ ec,aZ es,aZ Aq,aZ ek,if_pos q1,aZ ef,if_neg q2,aZ ev,q3],rfl,s5,g5⟩
  ·have q2:f=0:=by simp at q;omega
   have q3:((f:Int) != 0)=false:=by simpa using q
   refine ⟨_,_,B.m2,aD.cells ⟨c,s,key,k,(f:Int) != 0,0,0⟩,rfl,rfl,_,_,_,B.m1,rfl,rfl,fun w5 m5 g5=>?_⟩;obtain ⟨s5,g5⟩:=B.fin g5;exact ⟨_,_,m5,aD.cells ⟨c,s,key,k,(f:Int) != 0,0,0⟩,rfl,rfl,_,_,by rw [lG,aZ ec,aZ es,aZ Aq,aZ ek,if_pos q1,aZ ef,if_pos q2,q3],rfl,s5,g5⟩
 ·have q1:¬ k=1:=by simp at q;omega
  refine aj (fun q=>?_) (fun q=>?_)
  ·have q2:k=3:=by simp at q;omega
   refine ⟨_,jW B.s,?_⟩;rintro _ w3 ⟨g,l3,eg,cg,rfl,s3,g3⟩;replace B:=B.rd s3 g3;clear s3 g3;refine ⟨_,_,_,B.m2,rfl,rfl,fun w4 m4 g4=>?_⟩;replace B:=B.st m4 g4;clear m4 g4;refine ⟨_,_,B.m2,aD.cells ⟨c,s,key,k,false,0,g⟩,rfl,rfl,_,_,_,B.m1,rfl,rfl,fun w5 m5 g5=>?_⟩;obtain ⟨s5,g5⟩:=B.fin g5;exact ⟨_,_,m5,aD.cells ⟨c,s,key,k,false,0,g⟩,rfl,rfl,_,_,by rw [lG,aZ ec,aZ es,aZ Aq,aZ ek,if_neg q1,if_pos q2,aZ eg],rfl,s5,g5⟩
  ·have q2:¬ k=3:=by simp at q;omega
   refine ⟨_,_,B.m2,aD.cells ⟨c,s,key,k,false,0,0⟩,rfl,rfl,_,_,_,B.m1,rfl,rfl,fun w5 m5 g5=>?_⟩;obtain ⟨s5,g5⟩:=B.fin g5;exact ⟨_,_,m5,aD.cells ⟨c,s,key,k,false,0,0⟩,rfl,rfl,_,_,by rw [lG,aZ ec,aZ es,aZ Aq,aZ ek,if_neg q1,if_neg q2],rfl,s5,g5⟩
end
def nP {α:Type} (f:List Nat→α×List Nat):Nat→List Nat→List α×List Nat
 | 0,l=>([],l)
 | n+1,l=>if l=[] then ([],l) else rn f l fun x l=>(x::(nP f n l).1,(nP f n l).2)
def ja {α:Type} (f:List Nat→α×List Nat) (l:List Nat):List α×List Nat:=nx 1 l fun n l=>nP f n l
def Ar (l:List Nat):Rg×List Nat:=nx 1 l fun src l=>nx 1 l fun dst l=>nx 4 l fun seq l=>nx 8 l fun lo l=>nx 8 l fun hi l=>rn (ja tY) l fun rows l=>rn (ja lG) l fun bz l=>(⟨src,dst,seq,lo,hi,rows,bz⟩,l)
def mF (l:List Nat):MC×List Nat:=nx 1 l fun k l=>if k=1 then rn qp l fun q l=>(⟨k,q,pE,0,0⟩,l) else if k=2 then rn Ar l fun r l=>(⟨k,qb,r,0,0⟩,l) else if k=3 then nx 1 l fun p l=>nx 4 l fun s l=>(⟨k,qb,pE,p,s⟩,l) else (⟨k,qb,pE,0,0⟩,l)
def ni (l:List Nat):MV×List Nat:=nx 4 l fun s l=>rn gN l fun b l=>rn mF l fun c l=>(⟨s,b,c⟩,l)
theorem qx {d:ByteArray}:(d.toList == (ByteArray.mk #[]).toList)=true↔dl d=[]:=by
 rw [ByteArray.toList_eq,ByteArray.toList_eq];simp [dl]
theorem Fp {α:Type} (f:List Nat→α×List Nat) (n:Nat):nP f n []=([],[]):=by cases n <;> simp [nP]
theorem yC {α:Type} {f:List Nat→α×List Nat} {n:Nat} {l l':List Nat} {x:α} (h:f l=(x,l')) (hl:l≠[]):nP f (n+1) l=(x::(nP f n l').1,(nP f n l').2):=by rw [nP,if_neg hl,dP h]
theorem uk {w w1:World} {b e size n:Nat} {v:Value} {xs:List Value} {w0:World} (h:w.ownsRow 0 e size v n xs) (g:GB (some b) w w1) (hv:∀ g,v.ownBlock=some g→w0.heap.size≤g) (hb:b<w0.heap.size):w1.ownsRow 0 e size v n xs:=aF h fun x hx=>by
 obtain ⟨c,hc⟩:=aG h hx;exact g.block x (ae hc) fun e=>by injection e with e;have:=hv x hx;omega
theorem Fz.bU {w w':World} {e size n x t:Nat} {v:Value} {xs:List Value} {c:Array Value} (h:Fz w e size v n xs) (g:GB (some x) w w') (hx:w.heap[x]? = some (.cells c t)) (ht:t≠e):Fz w' e size v n xs:=by
 obtain ⟨a,c,h1,h2,h3,h4⟩:=h;refine ⟨a,c,h1,h2,h3,h4.imp id ?_⟩;rintro ⟨b,off,cs,h5,h6,h7⟩;exact ⟨b,off,cs,h5,g.get h6 (fun e=>cO h6 hx ht.symm (Option.some.inj e)),h7⟩
theorem aP.bU {w w':World} {r:Rg} {rv dv:Value} {x t:Nat} {c:Array Value} (h:aP w r rv dv) (g:GB (some x) w w') (hx:w.heap[x]? = some (.cells c t)) (h1:t≠139) (h2:t≠70):aP w' r rv dv:=⟨h.1.bU g hx h1,h.2.bU g hx h2⟩
theorem Bx.Y9 {w w1 w2 w3 w4:World} {b b1 b2:Nat} {T:TypeId} {z c0 c:Array Value} {l l':List Nat} (hs:Src w b l) (m1:w1.heap[b1]? = some (.cells z T)) (g1:GB none w w1) (n1:w.heap.size≤b1) (s2:Src w2 b l') (g2:GB (some b) w1 w2) (_m3:w3.heap[b2]? = some (.cells c0 T)) (g3:GB none w2 w3) (n3:w2.heap.size≤b2) (m4:w4.heap[b2]? = some (.cells c T)) (g4:GB (some b2) w3 w4):Bx w b b1 b2 T z c l' w4:=by
 have hb:=hs.lt;have e1:b≠b1:=by omega
 have h1:=ae m1;have k1:=g1.size;have k2:=g2.size;have k3:=g3.size;refine ⟨(s2.keep (g3.block b s2.lt nofun)).keep (g4.block b (Nat.lt_of_lt_of_le s2.lt k3) fun e=>by injection e with e;omega),g4.get (g3.get (g2.get m1 fun e=>by injection e with e;omega) nofun) fun e=>by injection e with e;omega,m4,?_,n1,by omega,by omega,hb⟩;exact GB.news ((g1.weak.trans g2).trans g3.weak) g4 (by omega)
section
variable {w:World} {b:Nat} {l:List Nat}
theorem Ws (hs:Src w b l):af Tryz.prog 130 #[.pointer (some ⟨b,0,none⟩),.func (.func 131) #[.pointer (some ⟨b,0,none⟩)] #[]] w (fun v w'=>∃ x l',ja tY l=(x,l')∧Fz w' 139 2 v x.length (x.map Row.cells).flatten∧Src w' b l'∧GB (some b) w w'):=by
 refine ah au mixed Tryz.func130 rfl rfl ?_;refine ⟨_,jW hs,?_⟩;rintro _ w1 ⟨n,l1,en,hn,rfl,s1,g1⟩;refine ⟨fun m s wk=>∃ (i:Nat) (v:Value) (acc:List Row) (li:List Nat),m=n - i∧i≤n∧s=[(0,.pointer (some ⟨b,0,none⟩)),(1,.func (.func 131) #[.pointer (some ⟨b,0,none⟩)] #[]),(5,v),(7,.int .u8 n),(8,.int .u8 i)]∧wk.ownsRow 0 139 2 v acc.length (acc.map Row.cells).flatten∧Src wk b li∧GB (some b) w wk∧(∀ g,v.ownBlock=some g→w.heap.size≤g)∧nP tY n l1=(acc++(nP tY (n - i) li).1,(nP tY (n - i) li).2)∧acc.length=i,⟨_,_,⟨0,_,[],l1,rfl,Nat.zero_le _,rfl,eG _ _ _,s1,g1,nofun,rfl,rfl⟩,rfl,rfl,rfl,rfl,rfl,trivial⟩,?_⟩;clear s1 g1;rintro m s wk ⟨i,v,acc,li,rfl,hi,rfl,ho,sk,gk,nk,hr,IL⟩;obtain ⟨va,vc,rfl⟩:=ag ho;refine aj (fun e=>?_) (fun e=>?_)
 ·have e1:i<n:=by have:=of_decide_eq_true e;omega
  obtain ⟨d,hd,rfl⟩:=sk;refine ⟨_,_,hd,_,rfl,aj (fun q=>?_) (fun q=>?_)⟩
  ·rw [qx.1 q,Fp,List.append_nil] at hr
   exact ⟨_,_,by rw [ja,aZ en];exact hr,lK ho,⟨d,hd,qx.1 q⟩,gk⟩
  ·have q1:dl d≠[]:=fun z=>by rw [qx.2 z] at q;cases q
   refine ⟨_,Y7 ⟨d,hd,rfl⟩,?_⟩;rintro _ w2 ⟨x,l2,ex,rfl,s2,g2⟩;refine fun w3 b3 m3 g3 l3=>?_
   have hb:=hs.lt;have ho3:=aF (uk ho g2 nk hb) fun x hx=>by obtain ⟨c,hc⟩:=aG (uk ho g2 nk hb) hx;exact g3.block x (ae hc) nofun
   refine ⟨_,x.cells,ho3,⟨_,_,m3,rfl,rfl,rfl⟩,by omega,fun v' w4 yV g4 n4=>?_⟩;obtain ⟨Lt,Lu,rfl⟩:=ag yV;have pJ:GB (some b) w w3:=(gk.trans g2).trans g3.weak;have Qg:∀ g,(Value.slice Lt (acc.length+1) Lu).ownBlock=some g→w.heap.size≤g:=fun g hg=>(n4.own g hg).elim (nk g) fun z=>Nat.le_trans pJ.size z
   have s4:Src w4 b l2:=(s2.keep (g3.block b s2.lt nofun)).keep (g4.block b (Nat.lt_of_lt_of_le s2.lt g3.size) fun z=>by have:=nk b z.symm;omega);have g4':GB (some b) w w4:=⟨g4.os.trans pJ.os,g4.out.trans pJ.out,Nat.le_trans pJ.size g4.size,fun y hy hn=>(g4.block y (Nat.lt_of_lt_of_le hy pJ.size) fun z=>by have:=nk y z.symm;omega).trans (pJ.block y hy hn)⟩;refine ⟨⟨by omega,by omega⟩,_,_,⟨i+1,_,acc++[x],l2,rfl,by omega,rfl,by simpa using (show w4.ownsRow 0 139 2 _ _ _ from yV),s4,g4',Qg,?_,by simp [IL]⟩,⟨rfl,rfl,rfl,rfl,rfl,trivial⟩,by omega⟩;rw [hr,show n - i=(n - (i+1))+1 by omega,yC ex q1];simp
 ·have e1:i=n:=by have:=of_decide_eq_false e;omega
  rw [e1,Nat.sub_self] at hr;exact ⟨_,_,by rw [ja,aZ en];simpa [nP] using hr,lK ho,sk,gk⟩
theorem Wt (hs:Src w b l):af Tryz.prog 132 #[.pointer (some ⟨b,0,none⟩),.func (.func 70) #[.pointer (some ⟨b,0,none⟩)] #[]] w (fun v w'=>∃ x l',ja lG l=(x,l')∧Fz w' 70 7 v x.length (x.map aD.cells).flatten∧Src w' b l'∧GB (some b) w w'):=by
 refine ah au mixed Tryz.func132 rfl rfl ?_;refine ⟨_,jW hs,?_⟩;rintro _ w1 ⟨n,l1,en,hn,rfl,s1,g1⟩;refine ⟨fun m s wk=>∃ (i:Nat) (v:Value) (acc:List aD) (li:List Nat),m=n - i∧i≤n∧s=[(0,.pointer (some ⟨b,0,none⟩)),(1,.func (.func 70) #[.pointer (some ⟨b,0,none⟩)] #[]),(5,v),(7,.int .u8 n),(8,.int .u8 i)]∧wk.ownsRow 0 70 7 v acc.length (acc.map aD.cells).flatten∧Src wk b li∧GB (some b) w wk∧(∀ g,v.ownBlock=some g→w.heap.size≤g)∧nP lG n l1=(acc++(nP lG (n - i) li).1,(nP lG (n - i) li).2)∧acc.length=i,⟨_,_,⟨0,_,[],l1,rfl,Nat.zero_le _,rfl,eG _ _ _,s1,g1,nofun,rfl,rfl⟩,rfl,rfl,rfl,rfl,rfl,trivial⟩,?_⟩;clear s1 g1;rintro m s wk ⟨i,v,acc,li,rfl,hi,rfl,ho,sk,gk,nk,hr,IL⟩;obtain ⟨va,vc,rfl⟩:=ag ho;refine aj (fun e=>?_) (fun e=>?_)
 ·have e1:i<n:=by have:=of_decide_eq_true e;omega
  obtain ⟨d,hd,rfl⟩:=sk;refine ⟨_,_,hd,_,rfl,aj (fun q=>?_) (fun q=>?_)⟩
  ·rw [qx.1 q,Fp,List.append_nil] at hr
   exact ⟨_,_,by rw [ja,aZ en];exact hr,lK ho,⟨d,hd,qx.1 q⟩,gk⟩
  ·have q1:dl d≠[]:=fun z=>by rw [qx.2 z] at q;cases q
   refine ⟨_,Qf ⟨d,hd,rfl⟩,?_⟩;rintro _ w2 ⟨x,l2,ex,rfl,s2,g2⟩;refine fun w3 b3 m3 g3 l3=>?_
   have hb:=hs.lt;have ho3:=aF (uk ho g2 nk hb) fun x hx=>by obtain ⟨c,hc⟩:=aG (uk ho g2 nk hb) hx;exact g3.block x (ae hc) nofun
   refine ⟨_,x.cells,ho3,⟨_,_,m3,rfl,rfl,rfl⟩,by omega,fun v' w4 yV g4 n4=>?_⟩;obtain ⟨Lt,Lu,rfl⟩:=ag yV;have pJ:GB (some b) w w3:=(gk.trans g2).trans g3.weak;have Qg:∀ g,(Value.slice Lt (acc.length+1) Lu).ownBlock=some g→w.heap.size≤g:=fun g hg=>(n4.own g hg).elim (nk g) fun z=>Nat.le_trans pJ.size z
   have s4:Src w4 b l2:=(s2.keep (g3.block b s2.lt nofun)).keep (g4.block b (Nat.lt_of_lt_of_le s2.lt g3.size) fun z=>by have:=nk b z.symm;omega);have g4':GB (some b) w w4:=⟨g4.os.trans pJ.os,g4.out.trans pJ.out,Nat.le_trans pJ.size g4.size,fun y hy hn=>(g4.block y (Nat.lt_of_lt_of_le hy pJ.size) fun z=>by have:=nk y z.symm;omega).trans (pJ.block y hy hn)⟩;refine ⟨⟨by omega,by omega⟩,_,_,⟨i+1,_,acc++[x],l2,rfl,by omega,rfl,by simpa using (show w4.ownsRow 0 70 7 _ _ _ from yV),s4,g4',Qg,?_,by simp [IL]⟩,⟨rfl,rfl,rfl,rfl,rfl,trivial⟩,by omega⟩;rw [hr,show n - i=(n - (i+1))+1 by omega,yC ex q1];simp
 ·have e1:i=n:=by have:=of_decide_eq_false e;omega
  rw [e1,Nat.sub_self] at hr;exact ⟨_,_,by rw [ja,aZ en];simpa [nP] using hr,lK ho,sk,gk⟩
theorem UJ (hs:Src w b l):af Tryz.prog 76 #[.pointer (some ⟨b,0,none⟩)] w (fun v w'=>∃ x l',Ar l=(x,l')∧(∃ rv dv,v=.agg (dN x rv dv).toArray∧aP w' x rv dv)∧Src w' b l'∧GB (some b) w w'):=by
 refine ah au mixed Tryz.func76 rfl rfl ?_;refine fun w1 b1 m1 g1 l1 w2 b2 m2 g2 l2=>?_
 have B:=Bx.new hs m1 g1 l1 m2 g2 l2;clear m1 m2 g1 g2 l1 l2;refine ⟨_,jW B.s,?_⟩;rintro _ w3 ⟨src,l3,adn,afX,rfl,s3,g3⟩;replace B:=B.rd s3 g3;clear s3 g3;refine ⟨_,_,_,B.m2,rfl,rfl,fun w4 m4 g4=>?_⟩;replace B:=B.st m4 g4;clear m4 g4;refine ⟨_,jW B.s,?_⟩;rintro _ w3 ⟨dst,l3,ado,afY,rfl,s3,g3⟩;replace B:=B.rd s3 g3;clear s3 g3;refine ⟨_,_,_,B.m2,rfl,rfl,fun w4 m4 g4=>?_⟩;replace B:=B.st m4 g4;clear m4 g4;refine ⟨_,om B.s,?_⟩;rintro _ w3 ⟨seq,l3,adp,afZ,rfl,s3,g3⟩;replace B:=B.rd s3 g3;clear s3 g3;refine ⟨_,_,_,B.m2,rfl,rfl,fun w4 m4 g4=>?_⟩;replace B:=B.st m4 g4;clear m4 g4;refine ⟨_,qw B.s,?_⟩;rintro _ w3 ⟨lo,l3,elo,rT,rfl,s3,g3⟩;replace B:=B.rd s3 g3;clear s3 g3;refine ⟨_,_,_,B.m2,rfl,rfl,fun w4 m4 g4=>?_⟩;replace B:=B.st m4 g4;clear m4 g4;refine ⟨_,qw B.s,?_⟩;rintro _ w3 ⟨hi,l3,Y8,chi,rfl,s3,g3⟩;replace B:=B.rd s3 g3;clear s3 g3;refine ⟨_,_,_,B.m2,rfl,rfl,fun w4 m4 g4=>?_⟩;replace B:=B.st m4 g4;clear m4 g4;refine ⟨_,Ws B.s,?_⟩;rintro _ w3 ⟨rows,l3,aaJ,⟨UK,UL,rfl,qy⟩,s3,g3⟩;have qy:Fz w3 _ _ _ _ _:=⟨_,_,rfl,qy⟩;replace B:=B.rd s3 g3;clear s3 g3;refine ⟨_,_,_,B.m2,rfl,rfl,fun w4 m4 g4=>?_⟩;replace qy:=qy.bU g4 B.m2 (by decide);replace B:=B.st m4 g4;clear m4 g4;refine ⟨_,Wt B.s,?_⟩;rintro _ w3 ⟨bz,l3,aaK,⟨UM,UN,rfl,yD⟩,s3,g3⟩;have yD:Fz w3 _ _ _ _ _:=⟨_,_,rfl,yD⟩;replace qy:=qy.bU g3 B.s.choose_spec.1 (by decide);replace B:=B.rd s3 g3;clear s3 g3;refine ⟨_,_,_,B.m2,rfl,rfl,fun w4 m4 g4=>?_⟩;replace qy:=qy.bU g4 B.m2 (by decide);replace yD:=yD.bU g4 B.m2 (by decide);replace B:=B.st m4 g4;clear m4 g4;refine ⟨_,_,B.m2,dN ⟨src,dst,seq,lo,hi,rows,bz⟩ (.slice UK rows.length UL) (.slice UM bz.length UN),rfl,rfl,_,_,_,B.m1,rfl,rfl,fun w5 m5 g5=>?_⟩;replace qy:=qy.bU g5 B.m1 (by decide);replace yD:=yD.bU g5 B.m1 (by decide);obtain ⟨s5,g5⟩:=B.fin g5;exact ⟨_,_,m5,dN ⟨src,dst,seq,lo,hi,rows,bz⟩ (.slice UK rows.length UL) (.slice UM bz.length UN),rfl,rfl,_,_,by rw [Ar,aZ adn,aZ ado,aZ adp,aZ elo,aZ Y8,dP aaJ,dP aaK],⟨_,_,rfl,qy,yD⟩,s5,g5⟩
theorem Jo (hs:Src w b l):af Tryz.prog 75 #[.pointer (some ⟨b,0,none⟩)] w (fun v w'=>∃ x l',mF l=(x,l')∧jE w' v x∧Src w' b l'∧GB (some b) w w'):=by
 refine ah au mixed Tryz.func75 rfl rfl ?_;refine fun w1 b1 m1 g1 l1=>?_
 refine ⟨_,jW (hs.keep (g1.block b hs.lt nofun)),?_⟩;rintro _ w2 ⟨k,l2,ek,ck,rfl,s2,g2⟩;refine fun w3 b3 m3 g3 l3=>⟨_,_,_,m3,rfl,rfl,fun w4 m4 g4=>?_⟩
 have B:=Bx.Y9 hs m1 g1 l1 s2 g2 m3 g3 l3 m4 g4;clear m1 g1 l1 s2 g2 m3 g3 l3 m4 g4;refine ⟨_,_,B.m2,_,rfl,aj (fun q=>?_) (fun q=>?_)⟩
 ·have q1:k=1:=by simp at q;omega
  refine ⟨_,Qe B.s,?_⟩;rintro _ w3 ⟨x,l3,ex,rfl,s3,g3⟩;replace B:=B.rd s3 g3;clear s3 g3;refine ⟨_,_,_,B.m2,rfl,rfl,fun w4 m4 g4=>?_⟩;replace B:=B.st m4 g4;clear m4 g4;refine ⟨_,_,B.m2,cK ⟨k,x,pE,0,0⟩ (.slice none 0 0) (.slice none 0 0),rfl,rfl,_,_,_,B.m1,rfl,rfl,fun w5 m5 g5=>?_⟩;obtain ⟨s5,g5⟩:=B.fin g5;exact ⟨_,_,m5,cK ⟨k,x,pE,0,0⟩ (.slice none 0 0) (.slice none 0 0),rfl,rfl,_,_,by rw [mF,aZ ek,if_pos q1,dP ex],⟨_,_,rfl,aP.zero _⟩,s5,g5⟩
 ·have q1:¬ k=1:=by simp at q;omega
  refine aj (fun q=>?_) (fun q=>?_)
  ·have q2:k=2:=by simp at q;omega
   refine ⟨_,UJ B.s,?_⟩;rintro _ w3 ⟨x,l3,ex,⟨rv,dv,rfl,hr⟩,s3,g3⟩;obtain ⟨ra,rm,rc,da,dm,dc,rfl,rfl⟩:=hr.sl;replace B:=B.rd s3 g3;clear s3 g3;refine ⟨_,_,_,B.m2,rfl,rfl,fun w4 m4 g4=>?_⟩;replace hr:=hr.bU g4 B.m2 (by decide) (by decide);replace B:=B.st m4 g4;clear m4 g4;refine ⟨_,_,B.m2,cK ⟨k,qb,x,0,0⟩ (.slice ra rm rc) (.slice da dm dc),rfl,rfl,_,_,_,B.m1,rfl,rfl,fun w5 m5 g5=>?_⟩;replace hr:=hr.bU g5 B.m1 (by decide) (by decide);obtain ⟨s5,g5⟩:=B.fin g5;exact ⟨_,_,m5,cK ⟨k,qb,x,0,0⟩ (.slice ra rm rc) (.slice da dm dc),rfl,rfl,_,_,by rw [mF,aZ ek,if_neg q1,if_pos q2,dP ex],⟨_,_,rfl,hr⟩,s5,g5⟩
  ·have q2:¬ k=2:=by simp at q;omega
   refine aj (fun q=>?_) (fun q=>?_)
   ·have q3:k=3:=by simp at q;omega
    refine ⟨_,jW B.s,?_⟩;rintro _ w3 ⟨p,l3,ep,cp,rfl,s3,g3⟩;replace B:=B.rd s3 g3;clear s3 g3;refine ⟨_,_,_,B.m2,rfl,rfl,fun w4 m4 g4=>?_⟩;replace B:=B.st m4 g4;clear m4 g4;refine ⟨_,om B.s,?_⟩;rintro _ w3 ⟨s,l3,es,cs,rfl,s3,g3⟩;replace B:=B.rd s3 g3;clear s3 g3;refine ⟨_,_,_,B.m2,rfl,rfl,fun w4 m4 g4=>?_⟩;replace B:=B.st m4 g4;clear m4 g4;refine ⟨_,_,B.m2,cK ⟨k,qb,pE,p,s⟩ (.slice none 0 0) (.slice none 0 0),rfl,rfl,_,_,_,B.m1,rfl,rfl,fun w5 m5 g5=>?_⟩;obtain ⟨s5,g5⟩:=B.fin g5;exact ⟨_,_,m5,cK ⟨k,qb,pE,p,s⟩ (.slice none 0 0) (.slice none 0 0),rfl,rfl,_,_,by rw [mF,aZ ek,if_neg q1,if_neg q2,if_pos q3,aZ ep,aZ es],⟨_,_,rfl,aP.zero _⟩,s5,g5⟩
   ·have q3:¬ k=3:=by simp at q;omega
    refine ⟨_,_,B.m2,cK ⟨k,qb,pE,0,0⟩ (.slice none 0 0) (.slice none 0 0),rfl,rfl,_,_,_,B.m1,rfl,rfl,fun w5 m5 g5=>?_⟩;obtain ⟨s5,g5⟩:=B.fin g5;exact ⟨_,_,m5,cK ⟨k,qb,pE,0,0⟩ (.slice none 0 0) (.slice none 0 0),rfl,rfl,_,_,by rw [mF,aZ ek,if_neg q1,if_neg q2,if_neg q3],⟨_,_,rfl,aP.zero _⟩,s5,g5⟩
theorem Wu (hs:Src w b l):af Tryz.prog 73 #[.pointer (some ⟨b,0,none⟩)] w (fun v w'=>∃ x l',ni l=(x,l')∧nX w' v x∧Src w' b l'∧GB (some b) w w'):=by
 refine ah au mixed Tryz.func73 rfl rfl ?_;refine fun w1 b1 m1 g1 l1 w2 b2 m2 g2 l2=>?_
 have B:=Bx.new hs m1 g1 l1 m2 g2 l2;clear m1 m2 g1 g2 l1 l2;refine ⟨_,om B.s,?_⟩;rintro _ w3 ⟨s,l3,es,cs,rfl,s3,g3⟩;replace B:=B.rd s3 g3;clear s3 g3;refine ⟨_,_,_,B.m2,rfl,rfl,fun w4 m4 g4=>?_⟩;replace B:=B.st m4 g4;clear m4 g4;refine ⟨_,xz B.s,?_⟩;rintro _ w3 ⟨x,l3,ex,rfl,s3,g3⟩;replace B:=B.rd s3 g3;clear s3 g3;refine ⟨_,_,_,B.m2,rfl,rfl,fun w4 m4 g4=>?_⟩;replace B:=B.st m4 g4;clear m4 g4;refine ⟨_,Jo B.s,?_⟩;rintro _ w3 ⟨c,l3,ec,⟨rv,dv,rfl,hr⟩,s3,g3⟩;obtain ⟨ra,rm,rc,da,dm,dc,rfl,rfl⟩:=hr.sl;replace B:=B.rd s3 g3;clear s3 g3;refine ⟨_,_,_,B.m2,rfl,rfl,fun w4 m4 g4=>?_⟩;replace hr:=hr.bU g4 B.m2 (by decide) (by decide);replace B:=B.st m4 g4;clear m4 g4;refine ⟨_,_,B.m2,jm ⟨s,x,c⟩ (.slice ra rm rc) (.slice da dm dc),rfl,rfl,_,_,_,B.m1,rfl,rfl,fun w5 m5 g5=>?_⟩;replace hr:=hr.bU g5 B.m1 (by decide) (by decide);obtain ⟨s5,g5⟩:=B.fin g5;exact ⟨_,_,m5,jm ⟨s,x,c⟩ (.slice ra rm rc) (.slice da dm dc),rfl,rfl,_,_,by rw [ni,aZ es,dP ex,dP ec],⟨_,_,rfl,hr⟩,s5,g5⟩
end
theorem Hd {q:List bJ} {k:Nat} {p:bJ} (h:q[k]? = some p) {cur:List Value} (ht:cur.take (q.length*5)=flat q):aO cur (k*5) 5=p.cells:=by
 have h1:=jy (f:=bJ.cells) (size:=5) (fun _=>rfl) q k p h;have hk:k<q.length:=(List.getElem?_eq_some_iff.1 h).1;rw [← h1,show q.flatMap bJ.cells=flat q from rfl,← ht];unfold aO;rw [List.drop_take,List.take_take,Nat.min_eq_left (by omega)]
section
variable {w:World}
theorem Qh {b4 b1 br:Nat} {p:bJ} {Post:Value→World→Prop} (h4:w.heap[b4]? = some (.cells #[.pointer (some ⟨br,0,none⟩)] 123)) (h1:w.heap[b1]? = some (.cells p.cells.toArray 97)) (hc:af Tryz.prog 49 #[.pointer (some ⟨br,0,none⟩),.agg p.cells.toArray] w (fun v w'=>v=.tuple #[]∧Post (.tuple #[]) w')):af Tryz.prog 48 #[.pointer (some ⟨b4,0,none⟩),.pointer (some ⟨b1,0,none⟩)] w Post:=by
 refine ah au mixed Tryz.func48 rfl rfl ?_;refine ⟨_,_,h4,_,rfl,_,_,h1,p.cells,rfl,rfl,_,hc,?_⟩;rintro _ w' ⟨rfl,hp⟩;exact hp
end
def aW.fM (A:bE) (C:aW) (k:Int):aW:=if 0≤k then C.nH A k.toNat else C
section
variable {A:bE} (HA:bW A) (HN:je A) {Λ:bN} {w:World} {bc:Nat} {C:aW}
include HA HN
theorem aW.aN.fM (h:C.aN A) (k:Int):(C.fM A k).aN A:=by
 unfold aW.fM;split
 ·exact h.nH HA HN _
 ·exact h
theorem Au (h:r9 Λ bc C w) (hf:C.aN A) (k:Int):gq Tryz.prog 24 #[.pointer (some ⟨bc,0,none⟩),.int .i64 k] w (fun v w'=>v=.int .i64 (if 0≤k∧k<C.q.length then 0 else 7)∧r9 Λ bc (C.fM A k) w'∧Kz w w'):=by
 obtain ⟨gv,sv,B,ad,h⟩:=h;refine rO au mixed Tryz.func24 rfl rfl ?_;obtain ⟨sa,sc,rfl⟩:=ag h.ci.row;have hlen:=hf.len;by_cases k0:k<0
 ·refine aj (fun c=>?_) (fun c=>?_)
  ·have:¬ k<0:=by simpa using c
   omega
  ·have e:aW.fM A C k=C:=by unfold aW.fM;rw [if_neg (by omega)]
   rw [e,if_neg (fun x=>by omega)];exact ⟨rfl,⟨_,_,_,_,h⟩,Kz.refl _⟩
 refine aj (fun c=>?_) (fun c=>(by have:k<0:=(by simpa using c);omega));refine ⟨_,_,h.ci.eX,_,rfl,?_⟩;refine aj (fun d=>?_) (fun d=>?_)
 ·have d1:(C.q.length:Int)≤k:=by simpa using d
  have e:aW.fM A C k=C:=by
   unfold aW.fM aW.nH;rw [if_pos (by omega),List.getElem?_eq_none (by omega)]
  rw [e,if_neg (fun x=>by omega)];exact ⟨rfl,⟨_,_,_,_,h⟩,Kz.refl _⟩
 ·have d1:k<(C.q.length:Int):=by have:=of_decide_eq_false d;omega
  obtain ⟨k,rfl⟩:∃ k':Nat,k=(k':Int):=⟨k.toNat,by omega⟩;have hk:k<C.q.length:=by omega
  obtain ⟨p,hp⟩:∃ p,C.q[k]? = some p:=⟨C.q[k],by simp [hk]⟩;have hpo:=hf.net p (List.mem_of_getElem? hp);obtain ⟨bs,cap,cur,hsv,aT,htk,hsz,hcap⟩:=iI h.ci.row (by omega);injection hsv with hsv _ hsc;subst hsv;subst hsc;have hel:=Hd hp htk;obtain ⟨f8,ef1,ef2⟩:=hpo.f8 hf.n hf.sz;obtain ⟨t1,t2,t3,t4⟩:=hpo.1;have et1:p.tg=(p.tg.toNat:Int):=by omega
  have et2:p.tr=(p.tr.toNat:Int):=by omega
  refine ⟨_,_,h.ci.eX,_,rfl,⟨by omega,by omega⟩,_,_,aT,p.cells,by show aO cur.toList (0+k*5) 5=_;rw [Nat.zero_add];exact hel,rfl,fun w1 b1 m1 g1 l1=>⟨_,_,_,m1,rfl,rfl,fun w2 m2 g2=>?_⟩⟩;have Jp:GB none w w2:=g1.new g2 l1;have h2:=h.ax Jp;have hfi:=find_ok h2.ci hf.n hf.sz p.tg.toNat p.tr.toNat (by omega) (by omega);rw [← et1,← et2] at hfi;refine ⟨_,_,m2,[.int .u8 p.tg,.int .u8 p.tr],rfl,rfl,_,hfi.x,?_⟩;rintro _ w3 ⟨rfl,g3⟩;refine fun w4 b4 m4 g4 l4=>⟨_,_,_,m4,rfl,rfl,fun w5 m5 g5=>?_⟩
  have UO:GB none w3 w5:=g4.new g5 l4;have jF:=g3.trans UO;have h5:=h2.ax jF;have tK:=jF.get m2 nofun;refine ⟨_,_,m5,_,rfl,?_⟩;rw [if_pos ⟨by omega,by omega⟩];have ed:aW.fM A C (k:Int)=if p.tg.toNat<C.n∧p.tr.toNat<C.sz then C.done p.tg.toNat p.tr.toNat (jB A (C.F p.tg.toNat p.tr.toNat) (p.fg.toNat,p.fr.toNat) p.d) else C:=by
   unfold aW.fM aW.nH;rw [if_pos (by omega),Int.toNat_natCast,hp]
  rw [ed];by_cases c:p.tg.toNat<C.n∧p.tr.toNat<C.sz
  ·rw [if_pos c] at m5 ⊢
   rw [if_pos c];have o:=hf.ok _ _ c.1 c.2;have e:=hf.out _ _ c.1 c.2;have gm:=hpo.gm HN hf.sz o (hf.sd _ _ c.1 c.2).1;have hl:=take_len HA o gm;rw [e] at hl;have pF:w5.heap[b4]? = some (.cells #[.pointer (some ⟨B p.tg.toNat p.tr.toNat,0,none⟩)] 123):=m5;have adq:w5.heap[b1]? = some (.cells p.cells.toArray 97):=tK;refine ⟨_,_,pF,_,rfl,_,PY h5 c.1 c.2 (f:=48) (fst:=#[]) (cap:=#[.pointer (some ⟨b4,0,none⟩),.pointer (some ⟨b1,0,none⟩)]) Tryz.func48 (by kernel_rfl) (by kernel_rfl) (R':=jB A (C.F p.tg.toNat p.tr.toNat) (p.fg.toNat,p.fr.toNat) p.d) (by simp only [List.length_nil] at hl;omega) (fun w6 g6=>?_),?_⟩
   ·have ht:=Wj HA HN.kind ((h5.ax g6).ci.enter c.1 c.2) o (p.fg.toNat,p.fr.toNat) (p.tg.toNat,p.tr.toNat) p.d gm (by rw [e];exact Nat.zero_le _)
    have ep:(Value.agg p.cells.toArray)=.agg #[.int .u8 (p.fg.toNat:Int),.int .u8 (p.fr.toNat:Int),.int .u8 (p.tg.toNat:Int),.int .u8 (p.tr.toNat:Int),.string p.d]:=by
     rw [← ef1,← ef2,← et1,← et2];rfl
    refine Qh (p:=p) (g6.get pF nofun) (g6.get adq nofun) ?_;rw [ep];exact af.mono' ht fun v w' hp=>⟨hp.1,hp.2⟩
   ·rintro _ w6 ⟨rfl,h6,k6⟩
    exact ⟨rfl,h6,(Jp.trans jF).kz.trans k6⟩
  ·rw [if_neg c,if_neg c]
   exact ⟨rfl,⟨_,_,_,_,h5⟩,(Jp.trans jF).kz⟩
end
end
end Go.Proofs.YtignemioillaiabGreat
