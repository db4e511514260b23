/- Lemmas. -/
import Derived.Test.YtignemioillaiaaGreatG31
namespace Go.Proofs.YtignemioillaiaaGreat
set_option maxHeartbeats 8000000
set_option maxRecDepth 100000
open List
section
open Go Go.Conc
def nx{β:Type}(k:Nat)(l:List Nat)(f:Nat->List Nat->β):β:=f (num k l).1 (num k l).2
theorem aX{β:Type}{k x:Nat}{l l':List Nat}(h:num k l=(x,l'))(f:Nat->List Nat->β):nx k l f=f x l':=by unfold nx;rw[h]
def rn{α β:Type}(rd:List Nat->α×List Nat)(l:List Nat)(f:α->List Nat->β):β:=f (rd l).1 (rd l).2
theorem dP{α β:Type}{rd:List Nat->α×List Nat}{x:α}{l l':List Nat}(h:rd l=(x,l'))(f:α->List Nat->β):rn rd l f=f x l':=by unfold rn;rw[h]
def p9(l:List Nat):bQ×List Nat:=nx 1 l λc l=>nx 4 l λs l=>nx 1 l λk l=>nx 8 l λkey l=>if k=2 then nx 8 l λv l=>(⟨c,s,k,key,v,0,0⟩,l)else if k=4 then nx 8 l λhi l=>nx 1 l λto l=>(⟨c,s,k,key,0,hi,to⟩,l)else(⟨c,s,k,key,0,0,0⟩,l)
def mE(l:List Nat):aA×List Nat:=nx 1 l λc l=>nx 4 l λs l=>nx 8 l λkey l=>nx 1 l λk l=>if k=1 then nx 1 l λf l=>if f=0 then(⟨c,s,key,k,false,0,0⟩,l)else nx 8 l λv l=>(⟨c,s,key,k,true,v,0⟩,l)else if k=3 then nx 1 l λg l=>(⟨c,s,key,k,false,0,g⟩,l)else(⟨c,s,key,k,false,0,0⟩,l)
def iH(l:List Nat):bF×List Nat:=nx 4 l λn l=>nx 1 l λi l=>(⟨n,i⟩,l)
def uY(l:List Nat):Row×List Nat:=nx 8 l λk l=>nx 8 l λv l=>(⟨k,v⟩,l)
structure Bx(w:World)(b b1 b2:Nat)(T:TypeId)(z c:Array Value)(l:List Nat)(w':World):Prop where
 s:Src w' b l
 m1:w'.heap[b1]? = some (.cells z T)
 m2:w'.heap[b2]? = some (.cells c T)
 g:GB (some b) w w'
 n1:w.heap.size<=b1
 n2:w.heap.size<=b2
 ne:b1≠b2
 lb:b<w.heap.size
section
variable{w w1 w2:World}{b b1 b2:Nat}{T:TypeId}{z c c':Array Value}{l l':List Nat}
theorem Bx.new(hs:Src w b l)(m1:w1.heap[b1]? = some (.cells z T))(g1:GB none w w1)(n1:w.heap.size<=b1)(m2:w2.heap[b2]? = some (.cells c T))(g2:GB none w1 w2)(n2:w1.heap.size<=b2):Bx w b b1 b2 T z c l w2 :=
 ⟨hs.keep ((g1.trans g2).block b hs.lt nofun),g2.get m1 nofun,m2,(g1.trans g2).weak,n1,Nat.le_trans g1.size n2,λe=>by have:=ae m1;omega,hs.lt⟩
theorem Bx.rd(h:Bx w b b1 b2 T z c l w1)(hs:Src w2 b l')(g:GB (some b) w1 w2):Bx w b b1 b2 T z c l' w2 :=
 ⟨hs,g.get h.m1 λe=>by injection e with e;have:=h.n1;have:=h.lb;omega,g.get h.m2 λe=>by injection e with e;have:=h.n2;have:=h.lb;omega,h.g.trans g,h.n1,h.n2,h.ne,h.lb⟩
theorem Bx.st(h:Bx w b b1 b2 T z c l w1)(m:w2.heap[b2]? = some (.cells c' T))(g:GB (some b2) w1 w2):Bx w b b1 b2 T z c' l w2 :=
 ⟨h.s.keep (g.block b h.s.lt λe=>by injection e with e;have:=h.n2;have:=h.lb;omega),g.get h.m1 λe=>by injection e with e;exact h.ne e,m,h.g.news g h.n2,h.n1,h.n2,h.ne,h.lb⟩
theorem Bx.fin(h:Bx w b b1 b2 T z c l w1)(g:GB (some b1) w1 w2):Src w2 b l/\GB (some b) w w2 :=
 ⟨h.s.keep (g.block b h.s.lt λe=>by injection e with e;have:=h.n1;have:=h.lb;omega),h.g.news g h.n1⟩
theorem kK(hs:Src w b l):ag Tryz.prog 191 #[Ptt b] w (λv w'=>∃x l',num 1 l=(x,l')/\x<256/\v=.int .u8 x/\Src w' b l'/\GB (some b) w w'):=by
 refine ah Tryz.func191 rfl rfl ?_;refine⟨_,BF hs 1 (by decide),?_⟩;rintro _ w1 ⟨rfl,s1,g1⟩;have h:=FE (n:=1) hs.b;exact .inl ⟨by omega,_,_,rfl,h,rfl,s1,g1⟩
theorem pQ(hs:Src w b l):ag Tryz.prog 197 #[Ptt b] w (λv w'=>∃x l',num 4 l=(x,l')/\x<4294967296/\v=.int .u32 x/\Src w' b l'/\GB (some b) w w'):=by
 refine ah Tryz.func197 rfl rfl ?_;refine⟨_,BF hs 4 (by decide),?_⟩;rintro _ w1 ⟨rfl,s1,g1⟩;have h:=FE (n:=4) hs.b;exact .inl ⟨by omega,_,_,rfl,h,rfl,s1,g1⟩
theorem rE(hs:Src w b l):ag Tryz.prog 224 #[Ptt b] w (λv w'=>∃x l',num 8 l=(x,l')/\x<18446744073709551616/\v=.int .u64 x/\Src w' b l'/\GB (some b) w w'):=by
 refine ah Tryz.func224 rfl rfl ?_;refine⟨_,BF hs 8 (by decide),?_⟩;rintro _ w1 ⟨rfl,s1,g1⟩;have h:=FE (n:=8) hs.b;exact⟨_,_,rfl,h,rfl,s1,g1⟩
theorem aaN(hs:Src w b l):ag Tryz.prog 226 #[Ptt b] w (λv w'=>∃x l',uY l=(x,l')/\v=.agg x.cells.toArray/\Src w' b l'/\GB (some b) w w'):=by
 refine ah Tryz.func226 rfl rfl ?_;refine λw1 b1 m1 g1 l1 w2 b2 m2 g2 l2=>?_
 have B:=Bx.new hs m1 g1 l1 m2 g2 l2;clear m1 m2 g1 g2 l1 l2;refine⟨_,rE B.s,?_⟩;rintro _ w3 ⟨k,l3,ek,ck,rfl,s3,g3⟩;replace B:=B.rd s3 g3;clear s3 g3;refine⟨_,_,_,B.m2,rfl,rfl,λw4 m4 g4=>?_⟩;replace B:=B.st m4 g4;clear m4 g4;refine⟨_,rE B.s,?_⟩;rintro _ w3 ⟨v,l3,ev,cv,rfl,s3,g3⟩;replace B:=B.rd s3 g3;clear s3 g3;refine⟨_,_,_,B.m2,rfl,rfl,λw4 m4 g4=>?_⟩;replace B:=B.st m4 g4;clear m4 g4;refine⟨_,_,B.m2,Row.cells ⟨k,v⟩,rfl,rfl,_,_,_,B.m1,rfl,rfl,λw5 m5 g5=>?_⟩;obtain⟨s5,g5⟩:=B.fin g5;exact⟨_,_,m5,Row.cells ⟨k,v⟩,rfl,rfl,_,_,by rw[uY,aX ek,aX ev],rfl,s5,g5⟩
theorem yG(hs:Src w b l):ag Tryz.prog 194 #[Ptt b] w (λv w'=>∃x l',iH l=(x,l')/\v=.agg #[.int .u32 x.n,.int .u8 x.id]/\Src w' b l'/\GB (some b) w w'):=by
 refine ah Tryz.func194 rfl rfl ?_;refine λw1 b1 m1 g1 l1 w2 b2 m2 g2 l2=>?_
 have B:=Bx.new hs m1 g1 l1 m2 g2 l2;clear m1 m2 g1 g2 l1 l2;refine⟨_,pQ B.s,?_⟩;rintro _ w3 ⟨n,l3,en,cn,rfl,s3,g3⟩;replace B:=B.rd s3 g3;clear s3 g3;refine⟨_,_,_,B.m2,rfl,rfl,λw4 m4 g4=>?_⟩;replace B:=B.st m4 g4;clear m4 g4;refine⟨_,kK B.s,?_⟩;rintro _ w3 ⟨i,l3,ei,ci,rfl,s3,g3⟩;replace B:=B.rd s3 g3;clear s3 g3;refine⟨_,_,_,B.m2,rfl,rfl,λw4 m4 g4=>?_⟩;replace B:=B.st m4 g4;clear m4 g4;refine⟨_,_,B.m2,[.int .u32 n,.int .u8 i],rfl,rfl,_,_,_,B.m1,rfl,rfl,λw5 m5 g5=>?_⟩;obtain⟨s5,g5⟩:=B.fin g5;exact⟨_,_,m5,[.int .u32 n,.int .u8 i],rfl,rfl,_,_,by rw[iH,aX en,aX ei],rfl,s5,g5⟩
theorem RS(hs:Src w b l):ag Tryz.prog 192 #[Ptt b] w (λv w'=>∃x l',p9 l=(x,l')/\v=.agg x.cells.toArray/\Src w' b l'/\GB (some b) w w'):=by
 refine ah Tryz.func192 rfl rfl ?_;refine λw1 b1 m1 g1 l1 w2 b2 m2 g2 l2=>?_
 have B:=Bx.new hs m1 g1 l1 m2 g2 l2;clear m1 m2 g1 g2 l1 l2;refine⟨_,kK B.s,?_⟩;rintro _ w3 ⟨c,l3,ec,cc,rfl,s3,g3⟩;replace B:=B.rd s3 g3;clear s3 g3;refine⟨_,_,_,B.m2,rfl,rfl,λw4 m4 g4=>?_⟩;replace B:=B.st m4 g4;clear m4 g4;refine⟨_,pQ B.s,?_⟩;rintro _ w3 ⟨s,l3,es,cs,rfl,s3,g3⟩;replace B:=B.rd s3 g3;clear s3 g3;refine⟨_,_,_,B.m2,rfl,rfl,λw4 m4 g4=>?_⟩;replace B:=B.st m4 g4;clear m4 g4;refine⟨_,kK B.s,?_⟩;rintro _ w3 ⟨k,l3,ek,ck,rfl,s3,g3⟩;replace B:=B.rd s3 g3;clear s3 g3;refine⟨_,_,_,B.m2,rfl,rfl,λw4 m4 g4=>?_⟩;replace B:=B.st m4 g4;clear m4 g4;refine⟨_,rE B.s,?_⟩;rintro _ w3 ⟨key,l3,BG,ae9,rfl,s3,g3⟩;replace B:=B.rd s3 g3;clear s3 g3;refine⟨_,_,_,B.m2,rfl,rfl,λw4 m4 g4=>?_⟩;replace B:=B.st m4 g4;clear m4 g4;refine⟨_,_,B.m2,_,rfl,aj (λq=>?_) (λq=>?_)⟩
 ·have q1:k=2:=by simp at q;omega
  refine⟨_,rE B.s,?_⟩;rintro _ w3 ⟨v,l3,ev,cv,rfl,s3,g3⟩;replace B:=B.rd s3 g3;clear s3 g3;refine⟨_,_,_,B.m2,rfl,rfl,λw4 m4 g4=>?_⟩;replace B:=B.st m4 g4;clear m4 g4;refine⟨_,_,B.m2,bQ.cells ⟨c,s,k,key,v,0,0⟩,rfl,rfl,_,_,_,B.m1,rfl,rfl,λw5 m5 g5=>?_⟩;obtain⟨s5,g5⟩:=B.fin g5;exact⟨_,_,m5,bQ.cells ⟨c,s,k,key,v,0,0⟩,rfl,rfl,_,_,by rw[p9,aX ec,aX es,aX ek,aX BG,if_pos q1,aX ev],rfl,s5,g5⟩
 ·have q1:¬k=2:=by simp at q;omega
  refine aj (λq=>?_) (λq=>?_)
  ·have q2:k=4:=by simp at q;omega
   refine⟨_,rE B.s,?_⟩;rintro _ w3 ⟨hi,l3,ehi,chi,rfl,s3,g3⟩;replace B:=B.rd s3 g3;clear s3 g3;refine⟨_,_,_,B.m2,rfl,rfl,λw4 m4 g4=>?_⟩;replace B:=B.st m4 g4;clear m4 g4;refine⟨_,kK B.s,?_⟩;rintro _ w3 ⟨to,l3,eto,cto,rfl,s3,g3⟩;replace B:=B.rd s3 g3;clear s3 g3;refine⟨_,_,_,B.m2,rfl,rfl,λw4 m4 g4=>?_⟩;replace B:=B.st m4 g4;clear m4 g4;refine⟨_,_,B.m2,bQ.cells ⟨c,s,k,key,0,hi,to⟩,rfl,rfl,_,_,_,B.m1,rfl,rfl,λw5 m5 g5=>?_⟩;obtain⟨s5,g5⟩:=B.fin g5;exact⟨_,_,m5,bQ.cells ⟨c,s,k,key,0,hi,to⟩,rfl,rfl,_,_,by rw[p9,aX ec,aX es,aX ek,aX BG,if_neg q1,if_pos q2,aX ehi,aX eto],rfl,s5,g5⟩
  ·have q2:¬k=4:=by simp at q;omega
   refine⟨_,_,B.m2,bQ.cells ⟨c,s,k,key,0,0,0⟩,rfl,rfl,_,_,_,B.m1,rfl,rfl,λw5 m5 g5=>?_⟩;obtain⟨s5,g5⟩:=B.fin g5;exact⟨_,_,m5,bQ.cells ⟨c,s,k,key,0,0,0⟩,rfl,rfl,_,_,by rw[p9,aX ec,aX es,aX ek,aX BG,if_neg q1,if_neg q2],rfl,s5,g5⟩
theorem RU(hs:Src w b l):ag Tryz.prog 193 #[Ptt b] w (λv w'=>∃x l',mE l=(x,l')/\v=.agg x.cells.toArray/\Src w' b l'/\GB (some b) w w'):=by
 refine ah Tryz.func193 rfl rfl ?_;refine λw1 b1 m1 g1 l1 w2 b2 m2 g2 l2=>?_
 have B:=Bx.new hs m1 g1 l1 m2 g2 l2;clear m1 m2 g1 g2 l1 l2;refine⟨_,kK B.s,?_⟩;rintro _ w3 ⟨c,l3,ec,cc,rfl,s3,g3⟩;replace B:=B.rd s3 g3;clear s3 g3;refine⟨_,_,_,B.m2,rfl,rfl,λw4 m4 g4=>?_⟩;replace B:=B.st m4 g4;clear m4 g4;refine⟨_,pQ B.s,?_⟩;rintro _ w3 ⟨s,l3,es,cs,rfl,s3,g3⟩;replace B:=B.rd s3 g3;clear s3 g3;refine⟨_,_,_,B.m2,rfl,rfl,λw4 m4 g4=>?_⟩;replace B:=B.st m4 g4;clear m4 g4;refine⟨_,rE B.s,?_⟩;rintro _ w3 ⟨key,l3,BG,ae9,rfl,s3,g3⟩;replace B:=B.rd s3 g3;clear s3 g3;refine⟨_,_,_,B.m2,rfl,rfl,λw4 m4 g4=>?_⟩;replace B:=B.st m4 g4;clear m4 g4;refine⟨_,kK B.s,?_⟩;rintro _ w3 ⟨k,l3,ek,ck,rfl,s3,g3⟩;replace B:=B.rd s3 g3;clear s3 g3;refine⟨_,_,_,B.m2,rfl,rfl,λw4 m4 g4=>?_⟩;replace B:=B.st m4 g4;clear m4 g4;refine⟨_,_,B.m2,_,rfl,aj (λq=>?_) (λq=>?_)⟩
 ·have q1:k=1:=by simp at q;omega
  refine⟨_,kK B.s,?_⟩;rintro _ w3 ⟨f,l3,ef,cf,rfl,s3,g3⟩;replace B:=B.rd s3 g3;clear s3 g3;refine⟨_,_,_,B.m2,rfl,rfl,λw4 m4 g4=>?_⟩;replace B:=B.st m4 g4;clear m4 g4;refine⟨_,_,B.m2,_,rfl,aj (λq=>?_) (λq=>?_)⟩
  ·have q2:¬f=0:=by simp at q;omega
   have q3:((f:Int) != 0)=true:=by simpa using q
   refine⟨_,rE B.s,?_⟩;rintro _ w3 ⟨v,l3,ev,cv,rfl,s3,g3⟩;replace B:=B.rd s3 g3;clear s3 g3;refine⟨_,_,_,B.m2,rfl,rfl,λw4 m4 g4=>?_⟩;replace B:=B.st m4 g4;clear m4 g4;refine⟨_,_,B.m2,aA.cells ⟨c,s,key,k,(f:Int) != 0,v,0⟩,rfl,rfl,_,_,_,B.m1,rfl,rfl,λw5 m5 g5=>?_⟩;obtain⟨s5,g5⟩:=B.fin g5;exact⟨_,_,m5,aA.cells ⟨c,s,key,k,(f:Int) != 0,v,0⟩,rfl,rfl,_,_,by rw[mE,aX ec,aX es,aX BG,aX ek,if_pos q1,aX ef,if_neg q2,aX ev,q3],rfl,s5,g5⟩
  ·have q2:f=0:=by simp at q;omega
   have q3:((f:Int) != 0)=false:=by simpa using q
   refine⟨_,_,B.m2,aA.cells ⟨c,s,key,k,(f:Int) != 0,0,0⟩,rfl,rfl,_,_,_,B.m1,rfl,rfl,λw5 m5 g5=>?_⟩;obtain⟨s5,g5⟩:=B.fin g5;exact⟨_,_,m5,aA.cells ⟨c,s,key,k,(f:Int) != 0,0,0⟩,rfl,rfl,_,_,by rw[mE,aX ec,aX es,aX BG,aX ek,if_pos q1,aX ef,if_pos q2,q3],rfl,s5,g5⟩
 ·have q1:¬k=1:=by simp at q;omega
  refine aj (λq=>?_) (λq=>?_)
  ·have q2:k=3:=by simp at q;omega
   refine⟨_,kK B.s,?_⟩;rintro _ w3 ⟨g,l3,eg,cg,rfl,s3,g3⟩;replace B:=B.rd s3 g3;clear s3 g3;refine⟨_,_,_,B.m2,rfl,rfl,λw4 m4 g4=>?_⟩;replace B:=B.st m4 g4;clear m4 g4;refine⟨_,_,B.m2,aA.cells ⟨c,s,key,k,false,0,g⟩,rfl,rfl,_,_,_,B.m1,rfl,rfl,λw5 m5 g5=>?_⟩;obtain⟨s5,g5⟩:=B.fin g5;exact⟨_,_,m5,aA.cells ⟨c,s,key,k,false,0,g⟩,rfl,rfl,_,_,by rw[mE,aX ec,aX es,aX BG,aX ek,if_neg q1,if_pos q2,aX eg],rfl,s5,g5⟩
  ·have q2:¬k=3:=by simp at q;omega
   refine⟨_,_,B.m2,aA.cells ⟨c,s,key,k,false,0,0⟩,rfl,rfl,_,_,_,B.m1,rfl,rfl,λw5 m5 g5=>?_⟩;obtain⟨s5,g5⟩:=B.fin g5;exact⟨_,_,m5,aA.cells ⟨c,s,key,k,false,0,0⟩,rfl,rfl,_,_,by rw[mE,aX ec,aX es,aX BG,aX ek,if_neg q1,if_neg q2],rfl,s5,g5⟩
end
def oP{α:Type}(f:List Nat->α×List Nat):Nat->List Nat->List α×List Nat
 |0,l=>([],l)
 |n+1,l=>if l=[]then([],l)else rn f l λx l=>(x::(oP f n l).1,(oP f n l).2)
def jE{α:Type}(f:List Nat->α×List Nat)(l:List Nat):List α×List Nat:=nx 1 l λn l=>oP f n l
def BH(l:List Nat):Rg×List Nat:=nx 1 l λsrc l=>nx 1 l λdst l=>nx 4 l λseq l=>nx 8 l λlo l=>nx 8 l λhi l=>rn (jE uY) l λrows l=>rn (jE mE) l λaZ l=>(⟨src,dst,seq,lo,hi,rows,aZ⟩,l)
def nK(l:List Nat):MC×List Nat:=nx 1 l λk l=>if k=1 then rn p9 l λq l=>(⟨k,q,qF,0,0⟩,l)else if k=2 then rn BH l λr l=>(⟨k,rf,r,0,0⟩,l)else if k=3 then nx 1 l λp l=>nx 4 l λs l=>(⟨k,rf,qF,p,s⟩,l)else(⟨k,rf,qF,0,0⟩,l)
def nZ(l:List Nat):MV×List Nat:=nx 4 l λs l=>rn iH l λb l=>rn nK l λc l=>(⟨s,b,c⟩,l)
theorem rF{d:ByteArray}:(d.toList == (ByteArray.mk #[]).toList)=true↔dl d=[]:=by
 rw[ByteArray.toList_eq,ByteArray.toList_eq];simp[dl]
theorem GQ{α:Type}(f:List Nat->α×List Nat)(n:Nat):oP f n []=([],[]):=by cases n<;>simp[oP]
theorem zI{α:Type}{f:List Nat->α×List Nat}{n:Nat}{l l':List Nat}{x:α}(h:f l=(x,l'))(hl:l≠[]):oP f (n+1) l=(x::(oP f n l').1,(oP f n l').2):=by rw[oP,if_neg hl,dP h]
theorem vz{w w1:World}{b e size n:Nat}{v:Value}{xs:List Value}{w0:World}(h:w.ownsRow 0 e size v n xs)(g:GB (some b) w w1)(hv:∀g,v.ownBlock=some g->w0.heap.size<=g)(hb:b<w0.heap.size):w1.ownsRow 0 e size v n xs:=ay h λx hx=>by
 obtain⟨c,hc⟩:=ax h hx;exact g.block x (ae hc) λe=>by injection e with e;have:=hv x hx;omega
theorem Fz.bV{w w':World}{e size n x t:Nat}{v:Value}{xs:List Value}{c:Array Value}(h:Fz w e size v n xs)(g:GB (some x) w w')(hx:w.heap[x]? = some (.cells c t))(ht:t≠e):Fz w' e size v n xs:=by
 obtain⟨a,c,h1,h2,h3,h4⟩:=h;refine⟨a,c,h1,h2,h3,h4.imp id ?_⟩;rintro⟨b,off,cs,h5,h6,h7⟩;exact⟨b,off,cs,h5,g.get h6 (λe=>dw h6 hx ht.symm (Option.some.inj e)),h7⟩
theorem aM.bV{w w':World}{r:Rg}{rv dv:Value}{x t:Nat}{c:Array Value}(h:aM w r rv dv)(g:GB (some x) w w')(hx:w.heap[x]? = some (.cells c t))(h1:t≠128)(h2:t≠57):aM w' r rv dv:=⟨h.1.bV g hx h1,h.2.bV g hx h2⟩
theorem Bx.aaP{w w1 w2 w3 w4:World}{b b1 b2:Nat}{T:TypeId}{z c0 c:Array Value}{l l':List Nat}(hs:Src w b l)(m1:w1.heap[b1]? = some (.cells z T))(g1:GB none w w1)(n1:w.heap.size<=b1)(s2:Src w2 b l')(g2:GB (some b) w1 w2)(_m3:w3.heap[b2]? = some (.cells c0 T))(g3:GB none w2 w3)(n3:w2.heap.size<=b2)(m4:w4.heap[b2]? = some (.cells c T))(g4:GB (some b2) w3 w4):Bx w b b1 b2 T z c l' w4:=by
 have hb:=hs.lt;have e1:b≠b1:=by omega
 have h1:=ae m1;have k1:=g1.size;have k2:=g2.size;have k3:=g3.size;refine⟨(s2.keep (g3.block b s2.lt nofun)).keep (g4.block b (Nat.lt_of_lt_of_le s2.lt k3) λe=>by injection e with e;omega),g4.get (g3.get (g2.get m1 λe=>by injection e with e;omega) nofun) λe=>by injection e with e;omega,m4,?_,n1,by omega,by omega,hb⟩;exact GB.news ((g1.weak.trans g2).trans g3.weak) g4 (by omega)
section
variable{w:World}{b:Nat}{l:List Nat}
theorem Yp(hs:Src w b l):ag Tryz.prog 225 #[Ptt b,.func (.func 226) #[Ptt b] #[]] w (λv w'=>∃x l',jE uY l=(x,l')/\Fz w' 128 2 v x.length (x.map Row.cells).flatten/\Src w' b l'/\GB (some b) w w'):=by
 refine ah Tryz.func225 rfl rfl ?_;refine⟨_,kK hs,?_⟩;rintro _ w1 ⟨n,l1,en,hn,rfl,s1,g1⟩;refine⟨λm s wk=>∃(i:Nat) (v:Value) (acc:List Row) (li:List Nat),m=n - i/\i<=n/\s=[(0,Ptt b),(1,.func (.func 226) #[Ptt b] #[]),(5,v),(7,.int .u8 n),(8,.int .u8 i)]/\wk.ownsRow 0 128 2 v acc.length (acc.map Row.cells).flatten/\Src wk b li/\GB (some b) w wk/\(∀g,v.ownBlock=some g->w.heap.size<=g)/\oP uY n l1=(acc++(oP uY (n - i) li).1,(oP uY (n - i) li).2)/\acc.length=i,⟨_,_,⟨0,_,[],l1,rfl,Nat.zero_le _,rfl,dZ _ _ _,s1,g1,nofun,rfl,rfl⟩,rfl,rfl,rfl,rfl,rfl,trivial⟩,?_⟩;clear s1 g1;rintro m s wk ⟨i,v,acc,li,rfl,hi,rfl,ho,sk,gk,nk,hr,Ka⟩;obtain⟨va,vc,rfl⟩:=af ho;refine aj (λe=>?_) (λe=>?_)
 ·have e1:i<n:=by have:=Ptq e;omega
  obtain⟨d,hd,rfl⟩:=sk;refine⟨_,_,hd,_,rfl,aj (λq=>?_) (λq=>?_)⟩
  ·rw[rF.1 q,GQ,append_nil]at hr
   exact⟨_,_,by rw[jE,aX en];exact hr,mK ho,⟨d,hd,rF.1 q⟩,gk⟩
  ·have q1:dl d≠[]:=λz=>by rw[rF.2 z]at q;cases q
   refine⟨_,aaN ⟨d,hd,rfl⟩,?_⟩;rintro _ w2 ⟨x,l2,ex,rfl,s2,g2⟩;refine λw3 b3 m3 g3 l3=>?_
   have hb:=hs.lt;have ho3:=ay (vz ho g2 nk hb) λx hx=>by obtain⟨c,hc⟩:=ax (vz ho g2 nk hb) hx;exact g3.block x (ae hc) nofun
   refine⟨_,x.cells,ho3,⟨_,_,m3,rfl,rfl,rfl⟩,by omega,λv' w4 Ae g4 n4=>?_⟩;obtain⟨Nv,Nw,rfl⟩:=af Ae;have qJ:GB (some b) w w3:=(gk.trans g2).trans g3.weak;have RX:∀g,(Value.slice Nv (acc.length+1) Nw).ownBlock=some g->w.heap.size<=g:=λg hg=>(n4.own g hg).elim (nk g) λz=>Nat.le_trans qJ.size z
   have s4:Src w4 b l2:=(s2.keep (g3.block b s2.lt nofun)).keep (g4.block b (Nat.lt_of_lt_of_le s2.lt g3.size) λz=>by have:=nk b z.symm;omega);have g4':GB (some b) w w4:=⟨g4.os.trans qJ.os,g4.out.trans qJ.out,Nat.le_trans qJ.size g4.size,λy hy hn=>(g4.block y (Nat.lt_of_lt_of_le hy qJ.size) λz=>by have:=nk y z.symm;omega).trans (qJ.block y hy hn)⟩;refine⟨by omega,_,_,⟨i+1,_,acc++[x],l2,rfl,by omega,rfl,by simpa using(show w4.ownsRow 0 128 2 _ _ _ from Ae),s4,g4',RX,?_,by simp[Ka]⟩,⟨rfl,rfl,rfl,rfl,rfl,trivial⟩,by omega⟩;rw[hr,show n - i=(n - (i+1))+1 by omega,zI ex q1];simp
 ·have e1:i=n:=by have:=Ptx e;omega
  rw[e1,Nat.sub_self]at hr;exact⟨_,_,by rw[jE,aX en];simpa[oP]using hr,mK ho,sk,gk⟩
theorem Yq(hs:Src w b l):ag Tryz.prog 227 #[Ptt b,.func (.func 193) #[Ptt b] #[]] w (λv w'=>∃x l',jE mE l=(x,l')/\Fz w' 57 7 v x.length (x.map aA.cells).flatten/\Src w' b l'/\GB (some b) w w'):=by
 refine ah Tryz.func227 rfl rfl ?_;refine⟨_,kK hs,?_⟩;rintro _ w1 ⟨n,l1,en,hn,rfl,s1,g1⟩;refine⟨λm s wk=>∃(i:Nat) (v:Value) (acc:List aA) (li:List Nat),m=n - i/\i<=n/\s=[(0,Ptt b),(1,.func (.func 193) #[Ptt b] #[]),(5,v),(7,.int .u8 n),(8,.int .u8 i)]/\wk.ownsRow 0 57 7 v acc.length (acc.map aA.cells).flatten/\Src wk b li/\GB (some b) w wk/\(∀g,v.ownBlock=some g->w.heap.size<=g)/\oP mE n l1=(acc++(oP mE (n - i) li).1,(oP mE (n - i) li).2)/\acc.length=i,⟨_,_,⟨0,_,[],l1,rfl,Nat.zero_le _,rfl,dZ _ _ _,s1,g1,nofun,rfl,rfl⟩,rfl,rfl,rfl,rfl,rfl,trivial⟩,?_⟩;clear s1 g1;rintro m s wk ⟨i,v,acc,li,rfl,hi,rfl,ho,sk,gk,nk,hr,Ka⟩;obtain⟨va,vc,rfl⟩:=af ho;refine aj (λe=>?_) (λe=>?_)
 ·have e1:i<n:=by have:=Ptq e;omega
  obtain⟨d,hd,rfl⟩:=sk;refine⟨_,_,hd,_,rfl,aj (λq=>?_) (λq=>?_)⟩
  ·rw[rF.1 q,GQ,append_nil]at hr
   exact⟨_,_,by rw[jE,aX en];exact hr,mK ho,⟨d,hd,rF.1 q⟩,gk⟩
  ·have q1:dl d≠[]:=λz=>by rw[rF.2 z]at q;cases q
   refine⟨_,RU ⟨d,hd,rfl⟩,?_⟩;rintro _ w2 ⟨x,l2,ex,rfl,s2,g2⟩;refine λw3 b3 m3 g3 l3=>?_
   have hb:=hs.lt;have ho3:=ay (vz ho g2 nk hb) λx hx=>by obtain⟨c,hc⟩:=ax (vz ho g2 nk hb) hx;exact g3.block x (ae hc) nofun
   refine⟨_,x.cells,ho3,⟨_,_,m3,rfl,rfl,rfl⟩,by omega,λv' w4 Ae g4 n4=>?_⟩;obtain⟨Nv,Nw,rfl⟩:=af Ae;have qJ:GB (some b) w w3:=(gk.trans g2).trans g3.weak;have RX:∀g,(Value.slice Nv (acc.length+1) Nw).ownBlock=some g->w.heap.size<=g:=λg hg=>(n4.own g hg).elim (nk g) λz=>Nat.le_trans qJ.size z
   have s4:Src w4 b l2:=(s2.keep (g3.block b s2.lt nofun)).keep (g4.block b (Nat.lt_of_lt_of_le s2.lt g3.size) λz=>by have:=nk b z.symm;omega);have g4':GB (some b) w w4:=⟨g4.os.trans qJ.os,g4.out.trans qJ.out,Nat.le_trans qJ.size g4.size,λy hy hn=>(g4.block y (Nat.lt_of_lt_of_le hy qJ.size) λz=>by have:=nk y z.symm;omega).trans (qJ.block y hy hn)⟩;refine⟨by omega,_,_,⟨i+1,_,acc++[x],l2,rfl,by omega,rfl,by simpa using(show w4.ownsRow 0 57 7 _ _ _ from Ae),s4,g4',RX,?_,by simp[Ka]⟩,⟨rfl,rfl,rfl,rfl,rfl,trivial⟩,by omega⟩;rw[hr,show n - i=(n - (i+1))+1 by omega,zI ex q1];simp
 ·have e1:i=n:=by have:=Ptx e;omega
  rw[e1,Nat.sub_self]at hr;exact⟨_,_,by rw[jE,aX en];simpa[oP]using hr,mK ho,sk,gk⟩
theorem WG(hs:Src w b l):ag Tryz.prog 199 #[Ptt b] w (λv w'=>∃x l',BH l=(x,l')/\(∃rv dv,v=.agg (eu x rv dv).toArray/\aM w' x rv dv)/\Src w' b l'/\GB (some b) w w'):=by
 refine ah Tryz.func199 rfl rfl ?_;refine λw1 b1 m1 g1 l1 w2 b2 m2 g2 l2=>?_
 have B:=Bx.new hs m1 g1 l1 m2 g2 l2;clear m1 m2 g1 g2 l1 l2;refine⟨_,kK B.s,?_⟩;rintro _ w3 ⟨src,l3,afa,ahI,rfl,s3,g3⟩;replace B:=B.rd s3 g3;clear s3 g3;refine⟨_,_,_,B.m2,rfl,rfl,λw4 m4 g4=>?_⟩;replace B:=B.st m4 g4;clear m4 g4;refine⟨_,kK B.s,?_⟩;rintro _ w3 ⟨dst,l3,afb,ahJ,rfl,s3,g3⟩;replace B:=B.rd s3 g3;clear s3 g3;refine⟨_,_,_,B.m2,rfl,rfl,λw4 m4 g4=>?_⟩;replace B:=B.st m4 g4;clear m4 g4;refine⟨_,pQ B.s,?_⟩;rintro _ w3 ⟨seq,l3,afc,ahK,rfl,s3,g3⟩;replace B:=B.rd s3 g3;clear s3 g3;refine⟨_,_,_,B.m2,rfl,rfl,λw4 m4 g4=>?_⟩;replace B:=B.st m4 g4;clear m4 g4;refine⟨_,rE B.s,?_⟩;rintro _ w3 ⟨lo,l3,elo,uf,rfl,s3,g3⟩;replace B:=B.rd s3 g3;clear s3 g3;refine⟨_,_,_,B.m2,rfl,rfl,λw4 m4 g4=>?_⟩;replace B:=B.st m4 g4;clear m4 g4;refine⟨_,rE B.s,?_⟩;rintro _ w3 ⟨hi,l3,ehi,chi,rfl,s3,g3⟩;replace B:=B.rd s3 g3;clear s3 g3;refine⟨_,_,_,B.m2,rfl,rfl,λw4 m4 g4=>?_⟩;replace B:=B.st m4 g4;clear m4 g4;refine⟨_,Yp B.s,?_⟩;rintro _ w3 ⟨rows,l3,acu,⟨WH,WI,rfl,rG⟩,s3,g3⟩;have rG:Fz w3 _ _ _ _ _:=⟨_,_,rfl,rG⟩;replace B:=B.rd s3 g3;clear s3 g3;refine⟨_,_,_,B.m2,rfl,rfl,λw4 m4 g4=>?_⟩;replace rG:=rG.bV g4 B.m2 (by decide);replace B:=B.st m4 g4;clear m4 g4;refine⟨_,Yq B.s,?_⟩;rintro _ w3 ⟨aZ,l3,acv,⟨WJ,WK,rfl,zJ⟩,s3,g3⟩;have zJ:Fz w3 _ _ _ _ _:=⟨_,_,rfl,zJ⟩;replace rG:=rG.bV g3 B.s.choose_spec.1 (by decide);replace B:=B.rd s3 g3;clear s3 g3;refine⟨_,_,_,B.m2,rfl,rfl,λw4 m4 g4=>?_⟩;replace rG:=rG.bV g4 B.m2 (by decide);replace zJ:=zJ.bV g4 B.m2 (by decide);replace B:=B.st m4 g4;clear m4 g4;refine⟨_,_,B.m2,eu ⟨src,dst,seq,lo,hi,rows,aZ⟩ (.slice WH rows.length WI) (.slice WJ aZ.length WK),rfl,rfl,_,_,_,B.m1,rfl,rfl,λw5 m5 g5=>?_⟩;replace rG:=rG.bV g5 B.m1 (by decide);replace zJ:=zJ.bV g5 B.m1 (by decide);obtain⟨s5,g5⟩:=B.fin g5;exact⟨_,_,m5,eu ⟨src,dst,seq,lo,hi,rows,aZ⟩ (.slice WH rows.length WI) (.slice WJ aZ.length WK),rfl,rfl,_,_,by rw[BH,aX afa,aX afb,aX afc,aX elo,aX ehi,dP acu,dP acv],⟨_,_,rfl,rG,zJ⟩,s5,g5⟩
theorem KL(hs:Src w b l):ag Tryz.prog 198 #[Ptt b] w (λv w'=>∃x l',nK l=(x,l')/\kr w' v x/\Src w' b l'/\GB (some b) w w'):=by
 refine ah Tryz.func198 rfl rfl ?_;refine λw1 b1 m1 g1 l1=>?_
 refine⟨_,kK (hs.keep (g1.block b hs.lt nofun)),?_⟩;rintro _ w2 ⟨k,l2,ek,ck,rfl,s2,g2⟩;refine λw3 b3 m3 g3 l3=>⟨_,_,_,m3,rfl,rfl,λw4 m4 g4=>?_⟩
 have B:=Bx.aaP hs m1 g1 l1 s2 g2 m3 g3 l3 m4 g4;clear m1 g1 l1 s2 g2 m3 g3 l3 m4 g4;refine⟨_,_,B.m2,_,rfl,aj (λq=>?_) (λq=>?_)⟩
 ·have q1:k=1:=by simp at q;omega
  refine⟨_,RS B.s,?_⟩;rintro _ w3 ⟨x,l3,ex,rfl,s3,g3⟩;replace B:=B.rd s3 g3;clear s3 g3;refine⟨_,_,_,B.m2,rfl,rfl,λw4 m4 g4=>?_⟩;replace B:=B.st m4 g4;clear m4 g4;refine⟨_,_,B.m2,dC ⟨k,x,qF,0,0⟩ Ptz Ptz,rfl,rfl,_,_,_,B.m1,rfl,rfl,λw5 m5 g5=>?_⟩;obtain⟨s5,g5⟩:=B.fin g5;exact⟨_,_,m5,dC ⟨k,x,qF,0,0⟩ Ptz Ptz,rfl,rfl,_,_,by rw[nK,aX ek,if_pos q1,dP ex],⟨_,_,rfl,aM.zero _⟩,s5,g5⟩
 ·have q1:¬k=1:=by simp at q;omega
  refine aj (λq=>?_) (λq=>?_)
  ·have q2:k=2:=by simp at q;omega
   refine⟨_,WG B.s,?_⟩;rintro _ w3 ⟨x,l3,ex,⟨rv,dv,rfl,hr⟩,s3,g3⟩;obtain⟨ra,rm,rc,da,dm,dc,rfl,rfl⟩:=hr.sl;replace B:=B.rd s3 g3;clear s3 g3;refine⟨_,_,_,B.m2,rfl,rfl,λw4 m4 g4=>?_⟩;replace hr:=hr.bV g4 B.m2 (by decide) (by decide);replace B:=B.st m4 g4;clear m4 g4;refine⟨_,_,B.m2,dC ⟨k,rf,x,0,0⟩ (.slice ra rm rc) (.slice da dm dc),rfl,rfl,_,_,_,B.m1,rfl,rfl,λw5 m5 g5=>?_⟩;replace hr:=hr.bV g5 B.m1 (by decide) (by decide);obtain⟨s5,g5⟩:=B.fin g5;exact⟨_,_,m5,dC ⟨k,rf,x,0,0⟩ (.slice ra rm rc) (.slice da dm dc),rfl,rfl,_,_,by rw[nK,aX ek,if_neg q1,if_pos q2,dP ex],⟨_,_,rfl,hr⟩,s5,g5⟩
  ·have q2:¬k=2:=by simp at q;omega
   refine aj (λq=>?_) (λq=>?_)
   ·have q3:k=3:=by simp at q;omega
    refine⟨_,kK B.s,?_⟩;rintro _ w3 ⟨p,l3,ep,cp,rfl,s3,g3⟩;replace B:=B.rd s3 g3;clear s3 g3;refine⟨_,_,_,B.m2,rfl,rfl,λw4 m4 g4=>?_⟩;replace B:=B.st m4 g4;clear m4 g4;refine⟨_,pQ B.s,?_⟩;rintro _ w3 ⟨s,l3,es,cs,rfl,s3,g3⟩;replace B:=B.rd s3 g3;clear s3 g3;refine⟨_,_,_,B.m2,rfl,rfl,λw4 m4 g4=>?_⟩;replace B:=B.st m4 g4;clear m4 g4;refine⟨_,_,B.m2,dC ⟨k,rf,qF,p,s⟩ Ptz Ptz,rfl,rfl,_,_,_,B.m1,rfl,rfl,λw5 m5 g5=>?_⟩;obtain⟨s5,g5⟩:=B.fin g5;exact⟨_,_,m5,dC ⟨k,rf,qF,p,s⟩ Ptz Ptz,rfl,rfl,_,_,by rw[nK,aX ek,if_neg q1,if_neg q2,if_pos q3,aX ep,aX es],⟨_,_,rfl,aM.zero _⟩,s5,g5⟩
   ·have q3:¬k=3:=by simp at q;omega
    refine⟨_,_,B.m2,dC ⟨k,rf,qF,0,0⟩ Ptz Ptz,rfl,rfl,_,_,_,B.m1,rfl,rfl,λw5 m5 g5=>?_⟩;obtain⟨s5,g5⟩:=B.fin g5;exact⟨_,_,m5,dC ⟨k,rf,qF,0,0⟩ Ptz Ptz,rfl,rfl,_,_,by rw[nK,aX ek,if_neg q1,if_neg q2,if_neg q3],⟨_,_,rfl,aM.zero _⟩,s5,g5⟩
theorem Yr(hs:Src w b l):ag Tryz.prog 196 #[Ptt b] w (λv w'=>∃x l',nZ l=(x,l')/\pF w' v x/\Src w' b l'/\GB (some b) w w'):=by
 refine ah Tryz.func196 rfl rfl ?_;refine λw1 b1 m1 g1 l1 w2 b2 m2 g2 l2=>?_
 have B:=Bx.new hs m1 g1 l1 m2 g2 l2;clear m1 m2 g1 g2 l1 l2;refine⟨_,pQ B.s,?_⟩;rintro _ w3 ⟨s,l3,es,cs,rfl,s3,g3⟩;replace B:=B.rd s3 g3;clear s3 g3;refine⟨_,_,_,B.m2,rfl,rfl,λw4 m4 g4=>?_⟩;replace B:=B.st m4 g4;clear m4 g4;refine⟨_,yG B.s,?_⟩;rintro _ w3 ⟨x,l3,ex,rfl,s3,g3⟩;replace B:=B.rd s3 g3;clear s3 g3;refine⟨_,_,_,B.m2,rfl,rfl,λw4 m4 g4=>?_⟩;replace B:=B.st m4 g4;clear m4 g4;refine⟨_,KL B.s,?_⟩;rintro _ w3 ⟨c,l3,ec,⟨rv,dv,rfl,hr⟩,s3,g3⟩;obtain⟨ra,rm,rc,da,dm,dc,rfl,rfl⟩:=hr.sl;replace B:=B.rd s3 g3;clear s3 g3;refine⟨_,_,_,B.m2,rfl,rfl,λw4 m4 g4=>?_⟩;replace hr:=hr.bV g4 B.m2 (by decide) (by decide);replace B:=B.st m4 g4;clear m4 g4;refine⟨_,_,B.m2,jU ⟨s,x,c⟩ (.slice ra rm rc) (.slice da dm dc),rfl,rfl,_,_,_,B.m1,rfl,rfl,λw5 m5 g5=>?_⟩;replace hr:=hr.bV g5 B.m1 (by decide) (by decide);obtain⟨s5,g5⟩:=B.fin g5;exact⟨_,_,m5,jU ⟨s,x,c⟩ (.slice ra rm rc) (.slice da dm dc),rfl,rfl,_,_,by rw[nZ,aX es,dP ex,dP ec],⟨_,_,rfl,hr⟩,s5,g5⟩
end
theorem WL{q:List bJ}{k:Nat}{p:bJ}(h:q[k]? = some p){cur:List Value}(ht:cur.take (q.length*5)=flat q):aK cur (k*5) 5=p.cells:=by
 have h1:=jZ (f:=bJ.cells) (size:=5) (λ_=>rfl) q k p h;have hk:k<q.length:=(List.getElem?_eq_some_iff.1 h).1;rw[<-h1,show q.flatMap bJ.cells=flat q from rfl,<-ht];unfold aK;rw[drop_take,take_take,Nat.min_eq_left (by omega)]
section
variable{w:World}
theorem RY{b4 b1 br:Nat}{p:bJ}{Post:Value->World->Prop}(h4:w.heap[b4]? = some (.cells #[Ptt br] 133))(h1:w.heap[b1]? = some (.cells p.cells.toArray 139))(hc:ag Tryz.prog 65 #[Ptt br,.agg p.cells.toArray] w (λv w'=>v=.tuple #[]/\Post (.tuple #[]) w')):ag Tryz.prog 64 #[Ptt b4,Ptt b1] w Post:=by
 refine ah Tryz.func64 rfl rfl ?_;refine⟨_,_,h4,_,rfl,_,_,h1,p.cells,rfl,rfl,_,hc,?_⟩;rintro _ w' ⟨rfl,hp⟩;exact hp
end
def aL.eT(A:aO)(C:aL)(k:Int):aL:=if 0<=k then C.jQ A k.toNat else C
section
variable{A:aO}(HA:bH A)(HN:dH A){Λ:bU}{w:World}{bc:Nat}{C:aL}
include HA HN
theorem aL.aJ.eT(h:C.aJ A)(k:Int):(C.eT A k).aJ A:=by
 unfold aL.eT;split
 ·exact h.jQ HA HN _
 ·exact h
theorem BI(h:uP Λ bc C w)(hf:C.aJ A)(k:Int):gQ Tryz.prog 24 #[Ptt bc,.int .i64 k] w (λv w'=>v=.int .i64 (if 0<=k/\k<C.q.length then 0 else 7)/\uP Λ bc (C.eT A k) w'/\Kz w w'):=by
 obtain⟨gv,sv,B,ad,h⟩:=h;refine tT fD mixed Tryz.func24 rfl rfl ?_;obtain⟨sa,sc,rfl⟩:=af h.ci.row;have hlen:=hf.len;by_cases k0:k<0
 ·refine aj (λc=>?_) (λc=>?_)
  ·have:¬k<0:=by simpa using c
   omega
  ·have e:aL.eT A C k=C:=by unfold aL.eT;rw[if_neg (by omega)]
   rw[e,if_neg (λx=>by omega)];exact⟨rfl,⟨_,_,_,_,h⟩,Kz.refl _⟩
 refine aj (λc=>?_) (λc=>(by have:k<0:=(by simpa using c);omega));refine⟨_,_,h.ci.fC,_,rfl,?_⟩;refine aj (λd=>?_) (λd=>?_)
 ·have d1:(C.q.length:Int)<=k:=by simpa using d
  have e:aL.eT A C k=C:=by
   unfold aL.eT aL.jQ;rw[if_pos (by omega),getElem?_eq_none (by omega)]
  rw[e,if_neg (λx=>by omega)];exact⟨rfl,⟨_,_,_,_,h⟩,Kz.refl _⟩
 ·have d1:k<(C.q.length:Int):=by have:=Ptx d;omega
  obtain⟨k,rfl⟩:∃k':Nat,k=(k':Int):=⟨k.toNat,by omega⟩;have hk:k<C.q.length:=by omega
  obtain⟨p,hp⟩:∃p,C.q[k]? = some p:=⟨C.q[k],by simp[hk]⟩;have hpo:=hf.net p (List.mem_of_getElem? hp);obtain⟨bs,cap,cur,hsv,aR,htk,hsz,hcap⟩:=jD h.ci.row (by omega);injection hsv with hsv _ hsc;subst hsv;subst hsc;have hel:=WL hp htk;obtain⟨f8,ef1,ef2⟩:=hpo.f8 hf.n hf.sz;obtain⟨t1,t2,t3,t4⟩:=hpo.1;have et1:p.tg=(p.tg.toNat:Int):=by omega
  have et2:p.tr=(p.tr.toNat:Int):=by omega
  refine⟨_,_,h.ci.fC,_,rfl,by omega,_,_,aR,p.cells,by show aK cur.toList (0+k*5) 5=_;rw[Nat.zero_add];exact hel,rfl,λw1 b1 m1 g1 l1=>⟨_,_,_,m1,rfl,rfl,λw2 m2 g2=>?_⟩⟩;have KM:GB none w w2:=g1.new g2 l1;have h2:=h.au KM;have hfi:=find_ok h2.ci hf.n hf.sz p.tg.toNat p.tr.toNat (by omega) (by omega);rw[<-et1,<-et2]at hfi;refine⟨_,_,m2,[.int .u8 p.tg,.int .u8 p.tr],rfl,rfl,_,hfi.x,?_⟩;rintro _ w3 ⟨rfl,g3⟩;refine λw4 b4 m4 g4 l4=>⟨_,_,_,m4,rfl,rfl,λw5 m5 g5=>?_⟩
  have WM:GB none w3 w5:=g4.new g5 l4;have ku:=g3.trans WM;have h5:=h2.au ku;have uR:=ku.get m2 nofun;refine⟨_,_,m5,_,rfl,?_⟩;rw[if_pos ⟨by omega,by omega⟩];have ed:aL.eT A C (k:Int)=if p.tg.toNat<C.n/\p.tr.toNat<C.sz then C.done p.tg.toNat p.tr.toNat (kJ A (C.F p.tg.toNat p.tr.toNat) (p.fg.toNat,p.fr.toNat) p.d)else C:=by
   unfold aL.eT aL.jQ;rw[if_pos (by omega),Int.toNat_natCast,hp]
  rw[ed];by_cases c:p.tg.toNat<C.n/\p.tr.toNat<C.sz
  ·rw[if_pos c]at m5 |-
   rw[if_pos c];have o:=hf.ok _ _ c.1 c.2;have e:=hf.out _ _ c.1 c.2;have gm:=hpo.gm HN hf.sz o (hf.sd _ _ c.1 c.2).1;have hl:=take_len HA o gm;rw[e]at hl;have qG:w5.heap[b4]? = some (.cells #[.pointer (some ⟨B p.tg.toNat p.tr.toNat,0,none⟩)] 133):=m5;have afd:w5.heap[b1]? = some (.cells p.cells.toArray 139):=uR;refine⟨_,_,qG,_,rfl,_,RB h5 c.1 c.2 (f:=64) (fst:=#[]) (cap:=#[Ptt b4,Ptt b1]) Tryz.func64 (by kernel_rfl) (by kernel_rfl) (R':=kJ A (C.F p.tg.toNat p.tr.toNat) (p.fg.toNat,p.fr.toNat) p.d) (by simp only[length_nil]at hl;omega) (λw6 g6=>?_),?_⟩
   ·have ht:=Yi HA HN.kind ((h5.au g6).ci.enter c.1 c.2) o (p.fg.toNat,p.fr.toNat) (p.tg.toNat,p.tr.toNat) p.d gm (by rw[e];exact Nat.zero_le _)
    have ep:(Value.agg p.cells.toArray)=.agg #[.int .u8 (p.fg.toNat:Int),.int .u8 (p.fr.toNat:Int),.int .u8 (p.tg.toNat:Int),.int .u8 (p.tr.toNat:Int),.string p.d]:=by
     rw[<-ef1,<-ef2,<-et1,<-et2];rfl
    refine RY (p:=p) (g6.get qG nofun) (g6.get afd nofun) ?_;rw[ep];exact ag.mono' ht λv w' hp=>⟨hp.1,hp.2⟩
   ·rintro _ w6 ⟨rfl,h6,k6⟩
    exact⟨rfl,h6,(KM.trans ku).kz.trans k6⟩
  ·rw[if_neg c,if_neg c]
   exact⟨rfl,⟨_,_,_,_,h5⟩,(KM.trans ku).kz⟩
end
theorem Vb{w:World}{v:Value}{n:Nat}{xs:List Value}(h:Fz w 139 5 v n xs)(ho:xs.all one=true)(hn:n<=1000000):ag Tryz.prog 62 #[v] w (λv' w'=>w'.ownsRow 0 139 5 v' n xs/\GB none w w'/\∀x,v'.ownBlock=some x->w.heap.size<=x):=by
 obtain⟨a,c,rfl,hc,hl,hv⟩:=h;refine ah Tryz.func62 rfl rfl ?_;rcases hv with⟨rfl,rfl⟩|⟨b,off,cs,rfl,hb,hcut⟩
 ·obtain rfl:xs=[]:=eq_nil_of_length_eq_zero (by omega)
  exact⟨dZ _ _ _,GB.refl _ _,nofun⟩
 ·refine λw1 b1 m1 g1 l1=>?_
  refine⟨_,xs,⟨rfl,.inr ⟨b1,0,#[],rfl,Nat.zero_le _,m1,Nat.zero_le _,Nat.zero_le _,rfl,rfl⟩⟩,⟨_,_,g1.get hb nofun,hcut,hl,ho⟩,by omega,λv' w2 ho2 g2 n2=>?_⟩;refine⟨?_,g1.new g2 l1,λx hx=>?_⟩
  ·have e:0+n=n:=Nat.zero_add n
   rw[e]at ho2;exact ho2
  ·rcases n2 x hx with e|e
   ·have e:some b1=some x:=e
    cases e;exact l1
   ·have:=g1.size;omega
theorem Vd{w:World}{v:Value}{n:Nat}{xs:List Value}(h:Fz w 54 17 v n xs)(ho:xs.all one=true)(hn:n<=1000000):ag Tryz.prog 66 #[v] w (λv' w'=>w'.ownsRow 0 54 17 v' n xs/\GB none w w'/\∀x,v'.ownBlock=some x->w.heap.size<=x):=by
 obtain⟨a,c,rfl,hc,hl,hv⟩:=h;refine ah Tryz.func66 rfl rfl ?_;rcases hv with⟨rfl,rfl⟩|⟨b,off,cs,rfl,hb,hcut⟩
 ·obtain rfl:xs=[]:=eq_nil_of_length_eq_zero (by omega)
  exact⟨dZ _ _ _,GB.refl _ _,nofun⟩
 ·refine λw1 b1 m1 g1 l1=>?_
  refine⟨_,xs,⟨rfl,.inr ⟨b1,0,#[],rfl,Nat.zero_le _,m1,Nat.zero_le _,Nat.zero_le _,rfl,rfl⟩⟩,⟨_,_,g1.get hb nofun,hcut,hl,ho⟩,by omega,λv' w2 ho2 g2 n2=>?_⟩;refine⟨?_,g1.new g2 l1,λx hx=>?_⟩
  ·have e:0+n=n:=Nat.zero_add n
   rw[e]at ho2;exact ho2
  ·rcases n2 x hx with e|e
   ·have e:some b1=some x:=e
    cases e;exact l1
   ·have:=g1.size;omega
theorem RZ{w:World}{v:Value}{n:Nat}{xs:List Value}(h:Fz w 128 2 v n xs)(ho:xs.all one=true)(hn:n<=1000000):ag Tryz.prog 67 #[v] w (λv' w'=>w'.ownsRow 0 128 2 v' n xs/\GB none w w'/\∀x,v'.ownBlock=some x->w.heap.size<=x):=by
 obtain⟨a,c,rfl,hc,hl,hv⟩:=h;refine ah Tryz.func67 rfl rfl ?_;rcases hv with⟨rfl,rfl⟩|⟨b,off,cs,rfl,hb,hcut⟩
 ·obtain rfl:xs=[]:=eq_nil_of_length_eq_zero (by omega)
  exact⟨dZ _ _ _,GB.refl _ _,nofun⟩
 ·refine λw1 b1 m1 g1 l1=>?_
  refine⟨_,xs,⟨rfl,.inr ⟨b1,0,#[],rfl,Nat.zero_le _,m1,Nat.zero_le _,Nat.zero_le _,rfl,rfl⟩⟩,⟨_,_,g1.get hb nofun,hcut,hl,ho⟩,by omega,λv' w2 ho2 g2 n2=>?_⟩;refine⟨?_,g1.new g2 l1,λx hx=>?_⟩
  ·have e:0+n=n:=Nat.zero_add n
   rw[e]at ho2;exact ho2
  ·rcases n2 x hx with e|e
   ·have e:some b1=some x:=e
    cases e;exact l1
   ·have:=g1.size;omega
theorem R7{w:World}{v:Value}{n:Nat}{xs:List Value}(h:Fz w 57 7 v n xs)(ho:xs.all one=true)(hn:n<=1000000):ag Tryz.prog 68 #[v] w (λv' w'=>w'.ownsRow 0 57 7 v' n xs/\GB none w w'/\∀x,v'.ownBlock=some x->w.heap.size<=x):=by
 obtain⟨a,c,rfl,hc,hl,hv⟩:=h;refine ah Tryz.func68 rfl rfl ?_;rcases hv with⟨rfl,rfl⟩|⟨b,off,cs,rfl,hb,hcut⟩
 ·obtain rfl:xs=[]:=eq_nil_of_length_eq_zero (by omega)
  exact⟨dZ _ _ _,GB.refl _ _,nofun⟩
 ·refine λw1 b1 m1 g1 l1=>?_
  refine⟨_,xs,⟨rfl,.inr ⟨b1,0,#[],rfl,Nat.zero_le _,m1,Nat.zero_le _,Nat.zero_le _,rfl,rfl⟩⟩,⟨_,_,g1.get hb nofun,hcut,hl,ho⟩,by omega,λv' w2 ho2 g2 n2=>?_⟩;refine⟨?_,g1.new g2 l1,λx hx=>?_⟩
  ·have e:0+n=n:=Nat.zero_add n
   rw[e]at ho2;exact ho2
  ·rcases n2 x hx with e|e
   ·have e:some b1=some x:=e
    cases e;exact l1
   ·have:=g1.size;omega
end
