/- What is read: bytes from the front. -/
import Derived.Test.YtignemioillaiaaGreatG26
namespace Go.Proofs.YtignemioillaiaaGreat
set_option maxHeartbeats 8000000
set_option maxRecDepth 100000
section
open Go Go.Conc
def dl(d:ByteArray):List Nat:=d.data.toList.map UInt8.toNat
theorem Re(d:ByteArray):(dl d).length=d.size:=by simp[dl]
theorem IP(d:ByteArray):∀x∈dl d,x<256:=λx hx=>by
 obtain⟨y,_,rfl⟩:=List.mem_map.1 hx;exact y.toNat_lt
def be(l:List Nat):Nat:=l.foldl (λn b=>n*256+b) 0
theorem M6(l:List Nat)(x:Nat):be (l++[x])=be l*256+x:=by simp[be]
theorem O0:∀(n:Nat) (l:List Nat),l.length=n->(∀x∈l,x<256)->be l<256 ^ n
 |0,l,h,_=>by rw[List.length_eq_zero_iff.1 h];decide
 |n+1,l,h,hl=>by
  have hne:l≠[]:=λe=>by rw[e]at h;cases h
  rw[<-List.dropLast_concat_getLast hne,M6];have h1:=O0 n l.dropLast (by rw[List.length_dropLast];omega) λx hx=>hl x ((List.dropLast_sublist l).subset hx)
  have h2:=hl _ (List.getLast_mem hne);rw[Nat.pow_succ];omega
def num(n:Nat)(l:List Nat):Nat×List Nat:=if l.length<n then(0,[])else(be (l.take n),l.drop n)
theorem Bi{n:Nat}{l:List Nat}(h:l.length<n):num n l=(0,[]):=if_pos h
theorem zh{n:Nat}{l:List Nat}(h:¬l.length<n):num n l=(be (l.take n),l.drop n):=if_neg h
theorem EY{n:Nat}{l:List Nat}(hl:∀x∈l,x<256):(num n l).1<256 ^ n:=by
 by_cases h:l.length<n
 ·rw[Bi h];exact Nat.pow_pos (by decide)
 ·rw[zh h];exact O0 n _ (by rw[List.length_take];omega) λx hx=>hl x (List.mem_of_mem_take hx)
theorem UB{n:Nat}{l:List Nat}(hl:∀x∈l,x<256):∀x∈(num n l).2,x<256:=by
 by_cases h:l.length<n
 ·rw[Bi h];intro x hx;cases hx
 ·rw[zh h];exact λx hx=>hl x (List.mem_of_mem_drop hx)
theorem XN{a c:Nat}(ha:a*256+256<=18446744073709551616)(hc:c<256):IntKind.u64.wrap ((BitVec.ofInt IntKind.u64.bits (IntKind.u64.wrap ((a:Int)*2 ^ min (8:Int).toNat IntKind.u64.bits)) ||| BitVec.ofInt IntKind.u64.bits (c:Int)).toNat:Nat)=((a*256+c:Nat):Int):=by
 have e1:IntKind.u64.wrap ((a:Int)*2 ^ min (8:Int).toNat IntKind.u64.bits)=((a*256:Nat):Int):=by
  show((a:Int)*2 ^ 8)%18446744073709551616=_;omega
 rw[e1,BitVec.ofInt_natCast,BitVec.ofInt_natCast,BitVec.toNat_or,BitVec.toNat_ofNat,BitVec.toNat_ofNat];have e2:a*256%2 ^ IntKind.u64.bits=a*256:=Nat.mod_eq_of_lt (by show _<18446744073709551616;omega);have e3:c%2 ^ IntKind.u64.bits=c:=Nat.mod_eq_of_lt (by show _<18446744073709551616;omega);rw[e2,e3];have e4:=Nat.shiftLeft_add_eq_or_of_lt (i:=8) (b:=c) (by omega) a;rw[Nat.shiftLeft_eq]at e4;rw[show a*256=a*2 ^ 8 from rfl,<-e4];show((a*2 ^ 8+c:Nat):Int)%18446744073709551616=_;omega
def Src(w:World)(b:Nat)(l:List Nat):Prop:=∃d,w.heap[b]? = some (.cells #[.string d] 249)/\dl d=l
theorem Src.keep{w w':World}{b:Nat}{l:List Nat}(h:Src w b l)(k:w'.heap[b]? = w.heap[b]?):Src w' b l:=by
 obtain⟨d,h1,h2⟩:=h;exact⟨d,k.trans h1,h2⟩
theorem Src.b{w:World}{b:Nat}{l:List Nat}(h:Src w b l):∀x∈l,x<256:=by
 obtain⟨d,_,rfl⟩:=h;exact IP d
theorem Src.lt{w:World}{b:Nat}{l:List Nat}(h:Src w b l):b<w.heap.size:=by
 obtain⟨d,h1,_⟩:=h;exact ae h1
theorem O3(d:ByteArray){k:Nat}:dl (d.extract k d.size)=(dl d).drop k:=by
 unfold dl;rw[ByteArray.data_extract,Array.toList_extract,List.extract_eq_drop_take',<-List.map_drop];congr 1
 rw[List.take_of_length_le];simp
theorem abQ{d:ByteArray}{i:Nat}(h:i<d.size):(dl d)[i]? = some (d.data.toList.getD i 0).toNat:=by
 have h':i<d.data.size:=h;unfold dl;rw[List.getElem?_map,List.getD_eq_getElem?_getD,Array.getElem?_toList,Array.getElem?_eq_getElem h'];rfl
section
variable{w:World}{b:Nat}{l:List Nat}
theorem Bj(hs:Src w b l)(k:Nat)(hk:k<=8):ag Tryz.prog 223 #[Ptt b,.int .i64 k] w (λv w'=>v=.int .u64 (num k l).1/\Src w' b (num k l).2/\GB (some b) w w'):=by
 obtain⟨d,hs,rfl⟩:=hs;have hd:=Re d;refine aj ah mixed Tryz.func223 rfl rfl ?_;refine⟨_,_,hs,_,rfl,au (λc=>?_) (λc=>?_)⟩
 ·have c1:(dl d).length<k:=by have:=of_decide_eq_true c;omega
  rw[Bi c1];exact⟨_,_,_,hs,rfl,rfl,λw1 m1 g1=>⟨rfl,⟨_,m1,rfl⟩,g1⟩⟩
 ·have c1:¬(dl d).length<k:=by have:=of_decide_eq_false c;omega
  rw[zh c1];refine⟨λm s w1=>∃i:Nat,m=k - i/\i<=k/\s=[(0,Ptt b),(1,.int .i64 k),(5,.int .u64 (be ((dl d).take i))),(17,.int .i64 k),(18,.int .i64 i)]/\w1=w,⟨_,_,⟨0,rfl,Nat.zero_le _,rfl,rfl⟩,rfl,rfl,rfl,rfl,rfl,trivial⟩,?_⟩;rintro m s w1 ⟨i,rfl,hi,rfl,rfl⟩;refine au (λe=>?_) (λe=>?_)
  ·have e1:i<k:=by have:=of_decide_eq_true e;omega
   have hx:=abQ (d:=d) (i:=i) (by omega);have hb:=IP d _ (List.mem_of_getElem? hx);have hlt:=O0 i ((dl d).take i) (by rw[List.length_take];omega) λx hx=>IP d x (List.mem_of_mem_take hx)
   have h7:256 ^ i<=256 ^ 7:=Nat.pow_le_pow_right (by decide) (by omega);have h7':(256:Nat) ^ 7=72057594037927936:=by decide
   have abR:be ((dl d).take (i+1))=be ((dl d).take i)*256+(d.data.toList.getD i 0).toNat:=by rw[List.take_add_one,hx];exact M6 _ _
   have hor:=XN (a:=be ((dl d).take i)) (c:=(d.data.toList.getD i 0).toNat) (by omega) hb;rw[<-abR]at hor;have hb':(d.data.toList.getD (i:Int).toNat 0).toNat<256:=hb;refine⟨by decide,_,_,hs,_,rfl,⟨by omega,by omega⟩,?_⟩;refine .inl ⟨⟨by omega,by omega⟩,?_⟩;refine⟨⟨by omega,by omega⟩,_,_,⟨i+1,rfl,by omega,rfl,rfl⟩,⟨rfl,rfl,?_,rfl,rfl,trivial⟩,by omega⟩;exact congrArg (λz=>some (Value.int .u64 z)) hor
  ·have e1:i=k:=by have:=of_decide_eq_false e;omega
   subst e1;refine⟨_,_,hs,_,rfl,⟨by omega,by omega⟩,_,_,_,hs,rfl,rfl,λw2 m2 g2=>⟨rfl,⟨_,m2,?_⟩,g2⟩⟩;show dl (d.extract (i:Int).toNat d.size)=_;rw[Int.toNat_natCast,O3]
end
def nx{β:Type}(k:Nat)(l:List Nat)(f:Nat->List Nat->β):β:=f (num k l).1 (num k l).2
theorem aY{β:Type}{k x:Nat}{l l':List Nat}(h:num k l=(x,l'))(f:Nat->List Nat->β):nx k l f=f x l':=by unfold nx;rw[h]
def rn{α β:Type}(rd:List Nat->α×List Nat)(l:List Nat)(f:α->List Nat->β):β:=f (rd l).1 (rd l).2
theorem dQ{α β:Type}{rd:List Nat->α×List Nat}{x:α}{l l':List Nat}(h:rd l=(x,l'))(f:α->List Nat->β):rn rd l f=f x l':=by unfold rn;rw[h]
def pI(l:List Nat):bQ×List Nat:=nx 1 l λc l=>nx 4 l λs l=>nx 1 l λk l=>nx 8 l λkey l=>if k=2 then nx 8 l λv l=>(⟨c,s,k,key,v,0,0⟩,l)else if k=4 then nx 8 l λhi l=>nx 1 l λto l=>(⟨c,s,k,key,0,hi,to⟩,l)else(⟨c,s,k,key,0,0,0⟩,l)
def lU(l:List Nat):aB×List Nat:=nx 1 l λc l=>nx 4 l λs l=>nx 8 l λkey l=>nx 1 l λk l=>if k=1 then nx 1 l λf l=>if f=0 then(⟨c,s,key,k,false,0,0⟩,l)else nx 8 l λv l=>(⟨c,s,key,k,true,v,0⟩,l)else if k=3 then nx 1 l λg l=>(⟨c,s,key,k,false,0,g⟩,l)else(⟨c,s,key,k,false,0,0⟩,l)
def iA(l:List Nat):bF×List Nat:=nx 4 l λn l=>nx 1 l λi l=>(⟨n,i⟩,l)
def uH(l:List Nat):Row×List Nat:=nx 8 l λk l=>nx 8 l λv l=>(⟨k,v⟩,l)
structure Bx(w:World)(b b1 b2:Nat)(T:TypeId)(z c:Array Value)(l:List Nat)(w':World):Prop where
 s:Src w' b l
 m1:w'.heap[b1]? = some (.cells z T)
 m2:w'.heap[b2]? = some (.cells c T)
 g:GB (some b) w w'
 n1:w.heap.size<=b1
 n2:w.heap.size<=b2
 ne:b1≠b2
 lb:b<w.heap.size
section
variable{w w1 w2:World}{b b1 b2:Nat}{T:TypeId}{z c c':Array Value}{l l':List Nat}
theorem Bx.new(hs:Src w b l)(m1:w1.heap[b1]? = some (.cells z T))(g1:GB none w w1)(n1:w.heap.size<=b1)(m2:w2.heap[b2]? = some (.cells c T))(g2:GB none w1 w2)(n2:w1.heap.size<=b2):Bx w b b1 b2 T z c l w2 :=
 ⟨hs.keep ((g1.trans g2).block b hs.lt nofun),g2.get m1 nofun,m2,(g1.trans g2).weak,n1,Nat.le_trans g1.size n2,λe=>by have:=ae m1;omega,hs.lt⟩
theorem Bx.rd(h:Bx w b b1 b2 T z c l w1)(hs:Src w2 b l')(g:GB (some b) w1 w2):Bx w b b1 b2 T z c l' w2 :=
 ⟨hs,g.get h.m1 λe=>by injection e with e;have:=h.n1;have:=h.lb;omega,g.get h.m2 λe=>by injection e with e;have:=h.n2;have:=h.lb;omega,h.g.trans g,h.n1,h.n2,h.ne,h.lb⟩
theorem Bx.st(h:Bx w b b1 b2 T z c l w1)(m:w2.heap[b2]? = some (.cells c' T))(g:GB (some b2) w1 w2):Bx w b b1 b2 T z c' l w2 :=
 ⟨h.s.keep (g.block b h.s.lt λe=>by injection e with e;have:=h.n2;have:=h.lb;omega),g.get h.m1 λe=>by injection e with e;exact h.ne e,m,h.g.news g h.n2,h.n1,h.n2,h.ne,h.lb⟩
theorem Bx.fin(h:Bx w b b1 b2 T z c l w1)(g:GB (some b1) w1 w2):Src w2 b l/\GB (some b) w w2 :=
 ⟨h.s.keep (g.block b h.s.lt λe=>by injection e with e;have:=h.n1;have:=h.lb;omega),h.g.news g h.n1⟩
theorem kv(hs:Src w b l):ag Tryz.prog 191 #[Ptt b] w (λv w'=>∃x l',num 1 l=(x,l')/\x<256/\v=.int .u8 x/\Src w' b l'/\GB (some b) w w'):=by
 refine aj ah mixed Tryz.func191 rfl rfl ?_;refine⟨_,Bj hs 1 (by decide),?_⟩;rintro _ w1 ⟨rfl,s1,g1⟩;have h:=EY (n:=1) hs.b;exact .inl ⟨by omega,_,_,rfl,h,rfl,s1,g1⟩
theorem oZ(hs:Src w b l):ag Tryz.prog 197 #[Ptt b] w (λv w'=>∃x l',num 4 l=(x,l')/\x<4294967296/\v=.int .u32 x/\Src w' b l'/\GB (some b) w w'):=by
 refine aj ah mixed Tryz.func197 rfl rfl ?_;refine⟨_,Bj hs 4 (by decide),?_⟩;rintro _ w1 ⟨rfl,s1,g1⟩;have h:=EY (n:=4) hs.b;exact .inl ⟨by omega,_,_,rfl,h,rfl,s1,g1⟩
theorem qX(hs:Src w b l):ag Tryz.prog 224 #[Ptt b] w (λv w'=>∃x l',num 8 l=(x,l')/\x<18446744073709551616/\v=.int .u64 x/\Src w' b l'/\GB (some b) w w'):=by
 refine aj ah mixed Tryz.func224 rfl rfl ?_;refine⟨_,Bj hs 8 (by decide),?_⟩;rintro _ w1 ⟨rfl,s1,g1⟩;have h:=EY (n:=8) hs.b;exact⟨_,_,rfl,h,rfl,s1,g1⟩
theorem aac(hs:Src w b l):ag Tryz.prog 226 #[Ptt b] w (λv w'=>∃x l',uH l=(x,l')/\v=.agg x.cells.toArray/\Src w' b l'/\GB (some b) w w'):=by
 refine aj ah mixed Tryz.func226 rfl rfl ?_;refine λw1 b1 m1 g1 l1 w2 b2 m2 g2 l2=>?_
 have B:=Bx.new hs m1 g1 l1 m2 g2 l2;clear m1 m2 g1 g2 l1 l2;refine⟨_,qX B.s,?_⟩;rintro _ w3 ⟨k,l3,ek,ck,rfl,s3,g3⟩;replace B:=B.rd s3 g3;clear s3 g3;refine⟨_,_,_,B.m2,rfl,rfl,λw4 m4 g4=>?_⟩;replace B:=B.st m4 g4;clear m4 g4;refine⟨_,qX B.s,?_⟩;rintro _ w3 ⟨v,l3,ev,cv,rfl,s3,g3⟩;replace B:=B.rd s3 g3;clear s3 g3;refine⟨_,_,_,B.m2,rfl,rfl,λw4 m4 g4=>?_⟩;replace B:=B.st m4 g4;clear m4 g4;refine⟨_,_,B.m2,Row.cells ⟨k,v⟩,rfl,rfl,_,_,_,B.m1,rfl,rfl,λw5 m5 g5=>?_⟩;obtain⟨s5,g5⟩:=B.fin g5;exact⟨_,_,m5,Row.cells ⟨k,v⟩,rfl,rfl,_,_,by rw[uH,aY ek,aY ev],rfl,s5,g5⟩
theorem yf(hs:Src w b l):ag Tryz.prog 194 #[Ptt b] w (λv w'=>∃x l',iA l=(x,l')/\v=.agg #[.int .u32 x.n,.int .u8 x.id]/\Src w' b l'/\GB (some b) w w'):=by
 refine aj ah mixed Tryz.func194 rfl rfl ?_;refine λw1 b1 m1 g1 l1 w2 b2 m2 g2 l2=>?_
 have B:=Bx.new hs m1 g1 l1 m2 g2 l2;clear m1 m2 g1 g2 l1 l2;refine⟨_,oZ B.s,?_⟩;rintro _ w3 ⟨n,l3,en,cn,rfl,s3,g3⟩;replace B:=B.rd s3 g3;clear s3 g3;refine⟨_,_,_,B.m2,rfl,rfl,λw4 m4 g4=>?_⟩;replace B:=B.st m4 g4;clear m4 g4;refine⟨_,kv B.s,?_⟩;rintro _ w3 ⟨i,l3,ei,ci,rfl,s3,g3⟩;replace B:=B.rd s3 g3;clear s3 g3;refine⟨_,_,_,B.m2,rfl,rfl,λw4 m4 g4=>?_⟩;replace B:=B.st m4 g4;clear m4 g4;refine⟨_,_,B.m2,[.int .u32 n,.int .u8 i],rfl,rfl,_,_,_,B.m1,rfl,rfl,λw5 m5 g5=>?_⟩;obtain⟨s5,g5⟩:=B.fin g5;exact⟨_,_,m5,[.int .u32 n,.int .u8 i],rfl,rfl,_,_,by rw[iA,aY en,aY ei],rfl,s5,g5⟩
theorem Rf(hs:Src w b l):ag Tryz.prog 192 #[Ptt b] w (λv w'=>∃x l',pI l=(x,l')/\v=.agg x.cells.toArray/\Src w' b l'/\GB (some b) w w'):=by
 refine aj ah mixed Tryz.func192 rfl rfl ?_;refine λw1 b1 m1 g1 l1 w2 b2 m2 g2 l2=>?_
 have B:=Bx.new hs m1 g1 l1 m2 g2 l2;clear m1 m2 g1 g2 l1 l2;refine⟨_,kv B.s,?_⟩;rintro _ w3 ⟨c,l3,ec,cc,rfl,s3,g3⟩;replace B:=B.rd s3 g3;clear s3 g3;refine⟨_,_,_,B.m2,rfl,rfl,λw4 m4 g4=>?_⟩;replace B:=B.st m4 g4;clear m4 g4;refine⟨_,oZ B.s,?_⟩;rintro _ w3 ⟨s,l3,es,cs,rfl,s3,g3⟩;replace B:=B.rd s3 g3;clear s3 g3;refine⟨_,_,_,B.m2,rfl,rfl,λw4 m4 g4=>?_⟩;replace B:=B.st m4 g4;clear m4 g4;refine⟨_,kv B.s,?_⟩;rintro _ w3 ⟨k,l3,ek,ck,rfl,s3,g3⟩;replace B:=B.rd s3 g3;clear s3 g3;refine⟨_,_,_,B.m2,rfl,rfl,λw4 m4 g4=>?_⟩;replace B:=B.st m4 g4;clear m4 g4;refine⟨_,qX B.s,?_⟩;rintro _ w3 ⟨key,l3,Bl,aeG,rfl,s3,g3⟩;replace B:=B.rd s3 g3;clear s3 g3;refine⟨_,_,_,B.m2,rfl,rfl,λw4 m4 g4=>?_⟩;replace B:=B.st m4 g4;clear m4 g4;refine⟨_,_,B.m2,_,rfl,au (λq=>?_) (λq=>?_)⟩
 ·have q1:k=2:=by simp at q;omega
  refine⟨_,qX B.s,?_⟩;rintro _ w3 ⟨v,l3,ev,cv,rfl,s3,g3⟩;replace B:=B.rd s3 g3;clear s3 g3;refine⟨_,_,_,B.m2,rfl,rfl,λw4 m4 g4=>?_⟩;replace B:=B.st m4 g4;clear m4 g4;refine⟨_,_,B.m2,bQ.cells ⟨c,s,k,key,v,0,0⟩,rfl,rfl,_,_,_,B.m1,rfl,rfl,λw5 m5 g5=>?_⟩;obtain⟨s5,g5⟩:=B.fin g5;exact⟨_,_,m5,bQ.cells ⟨c,s,k,key,v,0,0⟩,rfl,rfl,_,_,by rw[pI,aY ec,aY es,aY ek,aY Bl,if_pos q1,aY ev],rfl,s5,g5⟩
 ·have q1:¬k=2:=by simp at q;omega
  refine au (λq=>?_) (λq=>?_)
  ·have q2:k=4:=by simp at q;omega
   refine⟨_,qX B.s,?_⟩;rintro _ w3 ⟨hi,l3,ehi,chi,rfl,s3,g3⟩;replace B:=B.rd s3 g3;clear s3 g3;refine⟨_,_,_,B.m2,rfl,rfl,λw4 m4 g4=>?_⟩;replace B:=B.st m4 g4;clear m4 g4;refine⟨_,kv B.s,?_⟩;rintro _ w3 ⟨to,l3,eto,cto,rfl,s3,g3⟩;replace B:=B.rd s3 g3;clear s3 g3;refine⟨_,_,_,B.m2,rfl,rfl,λw4 m4 g4=>?_⟩;replace B:=B.st m4 g4;clear m4 g4;refine⟨_,_,B.m2,bQ.cells ⟨c,s,k,key,0,hi,to⟩,rfl,rfl,_,_,_,B.m1,rfl,rfl,λw5 m5 g5=>?_⟩;obtain⟨s5,g5⟩:=B.fin g5;exact⟨_,_,m5,bQ.cells ⟨c,s,k,key,0,hi,to⟩,rfl,rfl,_,_,by rw[pI,aY ec,aY es,aY ek,aY Bl,if_neg q1,if_pos q2,aY ehi,aY eto],rfl,s5,g5⟩
  ·have q2:¬k=4:=by simp at q;omega
   refine⟨_,_,B.m2,bQ.cells ⟨c,s,k,key,0,0,0⟩,rfl,rfl,_,_,_,B.m1,rfl,rfl,λw5 m5 g5=>?_⟩;obtain⟨s5,g5⟩:=B.fin g5;exact⟨_,_,m5,bQ.cells ⟨c,s,k,key,0,0,0⟩,rfl,rfl,_,_,by rw[pI,aY ec,aY es,aY ek,aY Bl,if_neg q1,if_neg q2],rfl,s5,g5⟩
theorem Rh(hs:Src w b l):ag Tryz.prog 193 #[Ptt b] w (λv w'=>∃x l',lU l=(x,l')/\v=.agg x.cells.toArray/\Src w' b l'/\GB (some b) w w'):=by
 refine aj ah mixed Tryz.func193 rfl rfl ?_;refine λw1 b1 m1 g1 l1 w2 b2 m2 g2 l2=>?_
 have B:=Bx.new hs m1 g1 l1 m2 g2 l2;clear m1 m2 g1 g2 l1 l2;refine⟨_,kv B.s,?_⟩;rintro _ w3 ⟨c,l3,ec,cc,rfl,s3,g3⟩;replace B:=B.rd s3 g3;clear s3 g3;refine⟨_,_,_,B.m2,rfl,rfl,λw4 m4 g4=>?_⟩;replace B:=B.st m4 g4;clear m4 g4;refine⟨_,oZ B.s,?_⟩;rintro _ w3 ⟨s,l3,es,cs,rfl,s3,g3⟩;replace B:=B.rd s3 g3;clear s3 g3;refine⟨_,_,_,B.m2,rfl,rfl,λw4 m4 g4=>?_⟩;replace B:=B.st m4 g4;clear m4 g4;refine⟨_,qX B.s,?_⟩;rintro _ w3 ⟨key,l3,Bl,aeG,rfl,s3,g3⟩;replace B:=B.rd s3 g3;clear s3 g3;refine⟨_,_,_,B.m2,rfl,rfl,λw4 m4 g4=>?_⟩;replace B:=B.st m4 g4;clear m4 g4;refine⟨_,kv B.s,?_⟩;rintro _ w3 ⟨k,l3,ek,ck,rfl,s3,g3⟩;replace B:=B.rd s3 g3;clear s3 g3;refine⟨_,_,_,B.m2,rfl,rfl,λw4 m4 g4=>?_⟩;replace B:=B.st m4 g4;clear m4 g4;refine⟨_,_,B.m2,_,rfl,au (λq=>?_) (λq=>?_)⟩
 ·have q1:k=1:=by simp at q;omega
  refine⟨_,kv B.s,?_⟩;rintro _ w3 ⟨f,l3,ef,cf,rfl,s3,g3⟩;replace B:=B.rd s3 g3;clear s3 g3;refine⟨_,_,_,B.m2,rfl,rfl,λw4 m4 g4=>?_⟩;replace B:=B.st m4 g4;clear m4 g4;refine⟨_,_,B.m2,_,rfl,au (λq=>?_) (λq=>?_)⟩
  ·have q2:¬f=0:=by simp at q;omega
   have q3:((f:Int) != 0)=true:=by simpa using q
   refine⟨_,qX B.s,?_⟩;rintro _ w3 ⟨v,l3,ev,cv,rfl,s3,g3⟩;replace B:=B.rd s3 g3;clear s3 g3;refine⟨_,_,_,B.m2,rfl,rfl,λw4 m4 g4=>?_⟩;replace B:=B.st m4 g4;clear m4 g4;refine⟨_,_,B.m2,aB.cells ⟨c,s,key,k,(f:Int) != 0,v,0⟩,rfl,rfl,_,_,_,B.m1,rfl,rfl,λw5 m5 g5=>?_⟩;obtain⟨s5,g5⟩:=B.fin g5;exact⟨_,_,m5,aB.cells ⟨c,s,key,k,(f:Int) != 0,v,0⟩,rfl,rfl,_,_,by rw[lU,aY ec,aY es,aY Bl,aY ek,if_pos q1,aY ef,if_neg q2,aY ev,q3],rfl,s5,g5⟩
  ·have q2:f=0:=by simp at q;omega
   have q3:((f:Int) != 0)=false:=by simpa using q
   refine⟨_,_,B.m2,aB.cells ⟨c,s,key,k,(f:Int) != 0,0,0⟩,rfl,rfl,_,_,_,B.m1,rfl,rfl,λw5 m5 g5=>?_⟩;obtain⟨s5,g5⟩:=B.fin g5;exact⟨_,_,m5,aB.cells ⟨c,s,key,k,(f:Int) != 0,0,0⟩,rfl,rfl,_,_,by rw[lU,aY ec,aY es,aY Bl,aY ek,if_pos q1,aY ef,if_pos q2,q3],rfl,s5,g5⟩
 ·have q1:¬k=1:=by simp at q;omega
  refine au (λq=>?_) (λq=>?_)
  ·have q2:k=3:=by simp at q;omega
   refine⟨_,kv B.s,?_⟩;rintro _ w3 ⟨g,l3,eg,cg,rfl,s3,g3⟩;replace B:=B.rd s3 g3;clear s3 g3;refine⟨_,_,_,B.m2,rfl,rfl,λw4 m4 g4=>?_⟩;replace B:=B.st m4 g4;clear m4 g4;refine⟨_,_,B.m2,aB.cells ⟨c,s,key,k,false,0,g⟩,rfl,rfl,_,_,_,B.m1,rfl,rfl,λw5 m5 g5=>?_⟩;obtain⟨s5,g5⟩:=B.fin g5;exact⟨_,_,m5,aB.cells ⟨c,s,key,k,false,0,g⟩,rfl,rfl,_,_,by rw[lU,aY ec,aY es,aY Bl,aY ek,if_neg q1,if_pos q2,aY eg],rfl,s5,g5⟩
  ·have q2:¬k=3:=by simp at q;omega
   refine⟨_,_,B.m2,aB.cells ⟨c,s,key,k,false,0,0⟩,rfl,rfl,_,_,_,B.m1,rfl,rfl,λw5 m5 g5=>?_⟩;obtain⟨s5,g5⟩:=B.fin g5;exact⟨_,_,m5,aB.cells ⟨c,s,key,k,false,0,0⟩,rfl,rfl,_,_,by rw[lU,aY ec,aY es,aY Bl,aY ek,if_neg q1,if_neg q2],rfl,s5,g5⟩
end
def nZ{α:Type}(f:List Nat->α×List Nat):Nat->List Nat->List α×List Nat
 |0,l=>([],l)
 |n+1,l=>if l=[]then([],l)else rn f l λx l=>(x::(nZ f n l).1,(nZ f n l).2)
def jr{α:Type}(f:List Nat->α×List Nat)(l:List Nat):List α×List Nat:=nx 1 l λn l=>nZ f n l
def Bn(l:List Nat):Rg×List Nat:=nx 1 l λsrc l=>nx 1 l λdst l=>nx 4 l λseq l=>nx 8 l λlo l=>nx 8 l λhi l=>rn (jr uH) l λrows l=>rn (jr lU) l λaW l=>(⟨src,dst,seq,lo,hi,rows,aW⟩,l)
def ni(l:List Nat):MC×List Nat:=nx 1 l λk l=>if k=1 then rn pI l λq l=>(⟨k,q,qh,0,0⟩,l)else if k=2 then rn Bn l λr l=>(⟨k,qN,r,0,0⟩,l)else if k=3 then nx 1 l λp l=>nx 4 l λs l=>(⟨k,qN,qh,p,s⟩,l)else(⟨k,qN,qh,0,0⟩,l)
def nL(l:List Nat):MV×List Nat:=nx 4 l λs l=>rn iA l λb l=>rn ni l λc l=>(⟨s,b,c⟩,l)
theorem qY{d:ByteArray}:(d.toList == (ByteArray.mk #[]).toList)=true↔dl d=[]:=by
 rw[ByteArray.toList_eq,ByteArray.toList_eq];simp[dl]
theorem Gg{α:Type}(f:List Nat->α×List Nat)(n:Nat):nZ f n []=([],[]):=by cases n<;>simp[nZ]
theorem zi{α:Type}{f:List Nat->α×List Nat}{n:Nat}{l l':List Nat}{x:α}(h:f l=(x,l'))(hl:l≠[]):nZ f (n+1) l=(x::(nZ f n l').1,(nZ f n l').2):=by rw[nZ,if_neg hl,dQ h]
theorem uP{w w1:World}{b e size n:Nat}{v:Value}{xs:List Value}{w0:World}(h:w.ownsRow 0 e size v n xs)(g:GB (some b) w w1)(hv:∀g,v.ownBlock=some g->w0.heap.size<=g)(hb:b<w0.heap.size):w1.ownsRow 0 e size v n xs:=az h λx hx=>by
 obtain⟨c,hc⟩:=ay h hx;exact g.block x (ae hc) λe=>by injection e with e;have:=hv x hx;omega
theorem Fz.bV{w w':World}{e size n x t:Nat}{v:Value}{xs:List Value}{c:Array Value}(h:Fz w e size v n xs)(g:GB (some x) w w')(hx:w.heap[x]? = some (.cells c t))(ht:t≠e):Fz w' e size v n xs:=by
 obtain⟨a,c,h1,h2,h3,h4⟩:=h;refine⟨a,c,h1,h2,h3,h4.imp id ?_⟩;rintro⟨b,off,cs,h5,h6,h7⟩;exact⟨b,off,cs,h5,g.get h6 (λe=>dw h6 hx ht.symm (Option.some.inj e)),h7⟩
theorem aL.bV{w w':World}{r:Rg}{rv dv:Value}{x t:Nat}{c:Array Value}(h:aL w r rv dv)(g:GB (some x) w w')(hx:w.heap[x]? = some (.cells c t))(h1:t≠128)(h2:t≠57):aL w' r rv dv:=⟨h.1.bV g hx h1,h.2.bV g hx h2⟩
theorem Bx.aae{w w1 w2 w3 w4:World}{b b1 b2:Nat}{T:TypeId}{z c0 c:Array Value}{l l':List Nat}(hs:Src w b l)(m1:w1.heap[b1]? = some (.cells z T))(g1:GB none w w1)(n1:w.heap.size<=b1)(s2:Src w2 b l')(g2:GB (some b) w1 w2)(_m3:w3.heap[b2]? = some (.cells c0 T))(g3:GB none w2 w3)(n3:w2.heap.size<=b2)(m4:w4.heap[b2]? = some (.cells c T))(g4:GB (some b2) w3 w4):Bx w b b1 b2 T z c l' w4:=by
 have hb:=hs.lt;have e1:b≠b1:=by omega
 have h1:=ae m1;have k1:=g1.size;have k2:=g2.size;have k3:=g3.size;refine⟨(s2.keep (g3.block b s2.lt nofun)).keep (g4.block b (Nat.lt_of_lt_of_le s2.lt k3) λe=>by injection e with e;omega),g4.get (g3.get (g2.get m1 λe=>by injection e with e;omega) nofun) λe=>by injection e with e;omega,m4,?_,n1,by omega,by omega,hb⟩;exact GB.news ((g1.weak.trans g2).trans g3.weak) g4 (by omega)
section
variable{w:World}{b:Nat}{l:List Nat}
theorem XO(hs:Src w b l):ag Tryz.prog 225 #[Ptt b,.func (.func 226) #[Ptt b] #[]] w (λv w'=>∃x l',jr uH l=(x,l')/\Fz w' 128 2 v x.length (x.map Row.cells).flatten/\Src w' b l'/\GB (some b) w w'):=by
 refine aj ah mixed Tryz.func225 rfl rfl ?_;refine⟨_,kv hs,?_⟩;rintro _ w1 ⟨n,l1,en,hn,rfl,s1,g1⟩;refine⟨λm s wk=>∃(i:Nat) (v:Value) (acc:List Row) (li:List Nat),m=n - i/\i<=n/\s=[(0,Ptt b),(1,.func (.func 226) #[Ptt b] #[]),(5,v),(7,.int .u8 n),(8,.int .u8 i)]/\wk.ownsRow 0 128 2 v acc.length (acc.map Row.cells).flatten/\Src wk b li/\GB (some b) w wk/\(∀g,v.ownBlock=some g->w.heap.size<=g)/\nZ uH n l1=(acc++(nZ uH (n - i) li).1,(nZ uH (n - i) li).2)/\acc.length=i,⟨_,_,⟨0,_,[],l1,rfl,Nat.zero_le _,rfl,dY _ _ _,s1,g1,nofun,rfl,rfl⟩,rfl,rfl,rfl,rfl,rfl,trivial⟩,?_⟩;clear s1 g1;rintro m s wk ⟨i,v,acc,li,rfl,hi,rfl,ho,sk,gk,nk,hr,JH⟩;obtain⟨va,vc,rfl⟩:=af ho;refine au (λe=>?_) (λe=>?_)
 ·have e1:i<n:=by have:=of_decide_eq_true e;omega
  obtain⟨d,hd,rfl⟩:=sk;refine⟨_,_,hd,_,rfl,au (λq=>?_) (λq=>?_)⟩
  ·rw[qY.1 q,Gg,List.append_nil]at hr
   exact⟨_,_,by rw[jr,aY en];exact hr,mg ho,⟨d,hd,qY.1 q⟩,gk⟩
  ·have q1:dl d≠[]:=λz=>by rw[qY.2 z]at q;cases q
   refine⟨_,aac ⟨d,hd,rfl⟩,?_⟩;rintro _ w2 ⟨x,l2,ex,rfl,s2,g2⟩;refine λw3 b3 m3 g3 l3=>?_
   have hb:=hs.lt;have ho3:=az (uP ho g2 nk hb) λx hx=>by obtain⟨c,hc⟩:=ay (uP ho g2 nk hb) hx;exact g3.block x (ae hc) nofun
   refine⟨_,x.cells,ho3,⟨_,_,m3,rfl,rfl,rfl⟩,by omega,λv' w4 zK g4 n4=>?_⟩;obtain⟨MO,MP,rfl⟩:=af zK;have qx:GB (some b) w w3:=(gk.trans g2).trans g3.weak;have Ri:∀g,(Value.slice MO (acc.length+1) MP).ownBlock=some g->w.heap.size<=g:=λg hg=>(n4.own g hg).elim (nk g) λz=>Nat.le_trans qx.size z
   have s4:Src w4 b l2:=(s2.keep (g3.block b s2.lt nofun)).keep (g4.block b (Nat.lt_of_lt_of_le s2.lt g3.size) λz=>by have:=nk b z.symm;omega);have g4':GB (some b) w w4:=⟨g4.os.trans qx.os,g4.out.trans qx.out,Nat.le_trans qx.size g4.size,λy hy hn=>(g4.block y (Nat.lt_of_lt_of_le hy qx.size) λz=>by have:=nk y z.symm;omega).trans (qx.block y hy hn)⟩;refine⟨⟨by omega,by omega⟩,_,_,⟨i+1,_,acc++[x],l2,rfl,by omega,rfl,by simpa using(show w4.ownsRow 0 128 2 _ _ _ from zK),s4,g4',Ri,?_,by simp[JH]⟩,⟨rfl,rfl,rfl,rfl,rfl,trivial⟩,by omega⟩;rw[hr,show n - i=(n - (i+1))+1 by omega,zi ex q1];simp
 ·have e1:i=n:=by have:=of_decide_eq_false e;omega
  rw[e1,Nat.sub_self]at hr;exact⟨_,_,by rw[jr,aY en];simpa[nZ]using hr,mg ho,sk,gk⟩
theorem XP(hs:Src w b l):ag Tryz.prog 227 #[Ptt b,.func (.func 193) #[Ptt b] #[]] w (λv w'=>∃x l',jr lU l=(x,l')/\Fz w' 57 7 v x.length (x.map aB.cells).flatten/\Src w' b l'/\GB (some b) w w'):=by
 refine aj ah mixed Tryz.func227 rfl rfl ?_;refine⟨_,kv hs,?_⟩;rintro _ w1 ⟨n,l1,en,hn,rfl,s1,g1⟩;refine⟨λm s wk=>∃(i:Nat) (v:Value) (acc:List aB) (li:List Nat),m=n - i/\i<=n/\s=[(0,Ptt b),(1,.func (.func 193) #[Ptt b] #[]),(5,v),(7,.int .u8 n),(8,.int .u8 i)]/\wk.ownsRow 0 57 7 v acc.length (acc.map aB.cells).flatten/\Src wk b li/\GB (some b) w wk/\(∀g,v.ownBlock=some g->w.heap.size<=g)/\nZ lU n l1=(acc++(nZ lU (n - i) li).1,(nZ lU (n - i) li).2)/\acc.length=i,⟨_,_,⟨0,_,[],l1,rfl,Nat.zero_le _,rfl,dY _ _ _,s1,g1,nofun,rfl,rfl⟩,rfl,rfl,rfl,rfl,rfl,trivial⟩,?_⟩;clear s1 g1;rintro m s wk ⟨i,v,acc,li,rfl,hi,rfl,ho,sk,gk,nk,hr,JH⟩;obtain⟨va,vc,rfl⟩:=af ho;refine au (λe=>?_) (λe=>?_)
 ·have e1:i<n:=by have:=of_decide_eq_true e;omega
  obtain⟨d,hd,rfl⟩:=sk;refine⟨_,_,hd,_,rfl,au (λq=>?_) (λq=>?_)⟩
  ·rw[qY.1 q,Gg,List.append_nil]at hr
   exact⟨_,_,by rw[jr,aY en];exact hr,mg ho,⟨d,hd,qY.1 q⟩,gk⟩
  ·have q1:dl d≠[]:=λz=>by rw[qY.2 z]at q;cases q
   refine⟨_,Rh ⟨d,hd,rfl⟩,?_⟩;rintro _ w2 ⟨x,l2,ex,rfl,s2,g2⟩;refine λw3 b3 m3 g3 l3=>?_
   have hb:=hs.lt;have ho3:=az (uP ho g2 nk hb) λx hx=>by obtain⟨c,hc⟩:=ay (uP ho g2 nk hb) hx;exact g3.block x (ae hc) nofun
   refine⟨_,x.cells,ho3,⟨_,_,m3,rfl,rfl,rfl⟩,by omega,λv' w4 zK g4 n4=>?_⟩;obtain⟨MO,MP,rfl⟩:=af zK;have qx:GB (some b) w w3:=(gk.trans g2).trans g3.weak;have Ri:∀g,(Value.slice MO (acc.length+1) MP).ownBlock=some g->w.heap.size<=g:=λg hg=>(n4.own g hg).elim (nk g) λz=>Nat.le_trans qx.size z
   have s4:Src w4 b l2:=(s2.keep (g3.block b s2.lt nofun)).keep (g4.block b (Nat.lt_of_lt_of_le s2.lt g3.size) λz=>by have:=nk b z.symm;omega);have g4':GB (some b) w w4:=⟨g4.os.trans qx.os,g4.out.trans qx.out,Nat.le_trans qx.size g4.size,λy hy hn=>(g4.block y (Nat.lt_of_lt_of_le hy qx.size) λz=>by have:=nk y z.symm;omega).trans (qx.block y hy hn)⟩;refine⟨⟨by omega,by omega⟩,_,_,⟨i+1,_,acc++[x],l2,rfl,by omega,rfl,by simpa using(show w4.ownsRow 0 57 7 _ _ _ from zK),s4,g4',Ri,?_,by simp[JH]⟩,⟨rfl,rfl,rfl,rfl,rfl,trivial⟩,by omega⟩;rw[hr,show n - i=(n - (i+1))+1 by omega,zi ex q1];simp
 ·have e1:i=n:=by have:=of_decide_eq_false e;omega
  rw[e1,Nat.sub_self]at hr;exact⟨_,_,by rw[jr,aY en];simpa[nZ]using hr,mg ho,sk,gk⟩
theorem VX(hs:Src w b l):ag Tryz.prog 199 #[Ptt b] w (λv w'=>∃x l',Bn l=(x,l')/\(∃rv dv,v=.agg (dP x rv dv).toArray/\aL w' x rv dv)/\Src w' b l'/\GB (some b) w w'):=by
 refine aj ah mixed Tryz.func199 rfl rfl ?_;refine λw1 b1 m1 g1 l1 w2 b2 m2 g2 l2=>?_
 have B:=Bx.new hs m1 g1 l1 m2 g2 l2;clear m1 m2 g1 g2 l1 l2;refine⟨_,kv B.s,?_⟩;rintro _ w3 ⟨src,l3,aeH,ag6,rfl,s3,g3⟩;replace B:=B.rd s3 g3;clear s3 g3;refine⟨_,_,_,B.m2,rfl,rfl,λw4 m4 g4=>?_⟩;replace B:=B.st m4 g4;clear m4 g4;refine⟨_,kv B.s,?_⟩;rintro _ w3 ⟨dst,l3,aeI,ag7,rfl,s3,g3⟩;replace B:=B.rd s3 g3;clear s3 g3;refine⟨_,_,_,B.m2,rfl,rfl,λw4 m4 g4=>?_⟩;replace B:=B.st m4 g4;clear m4 g4;refine⟨_,oZ B.s,?_⟩;rintro _ w3 ⟨seq,l3,aeJ,ag8,rfl,s3,g3⟩;replace B:=B.rd s3 g3;clear s3 g3;refine⟨_,_,_,B.m2,rfl,rfl,λw4 m4 g4=>?_⟩;replace B:=B.st m4 g4;clear m4 g4;refine⟨_,qX B.s,?_⟩;rintro _ w3 ⟨lo,l3,elo,tq,rfl,s3,g3⟩;replace B:=B.rd s3 g3;clear s3 g3;refine⟨_,_,_,B.m2,rfl,rfl,λw4 m4 g4=>?_⟩;replace B:=B.st m4 g4;clear m4 g4;refine⟨_,qX B.s,?_⟩;rintro _ w3 ⟨hi,l3,ehi,chi,rfl,s3,g3⟩;replace B:=B.rd s3 g3;clear s3 g3;refine⟨_,_,_,B.m2,rfl,rfl,λw4 m4 g4=>?_⟩;replace B:=B.st m4 g4;clear m4 g4;refine⟨_,XO B.s,?_⟩;rintro _ w3 ⟨rows,l3,abS,⟨VY,VZ,rfl,qZ⟩,s3,g3⟩;have qZ:Fz w3 _ _ _ _ _:=⟨_,_,rfl,qZ⟩;replace B:=B.rd s3 g3;clear s3 g3;refine⟨_,_,_,B.m2,rfl,rfl,λw4 m4 g4=>?_⟩;replace qZ:=qZ.bV g4 B.m2 (by decide);replace B:=B.st m4 g4;clear m4 g4;refine⟨_,XP B.s,?_⟩;rintro _ w3 ⟨aW,l3,abT,⟨V3,V4,rfl,zk⟩,s3,g3⟩;have zk:Fz w3 _ _ _ _ _:=⟨_,_,rfl,zk⟩;replace qZ:=qZ.bV g3 B.s.choose_spec.1 (by decide);replace B:=B.rd s3 g3;clear s3 g3;refine⟨_,_,_,B.m2,rfl,rfl,λw4 m4 g4=>?_⟩;replace qZ:=qZ.bV g4 B.m2 (by decide);replace zk:=zk.bV g4 B.m2 (by decide);replace B:=B.st m4 g4;clear m4 g4;refine⟨_,_,B.m2,dP ⟨src,dst,seq,lo,hi,rows,aW⟩ (.slice VY rows.length VZ) (.slice V3 aW.length V4),rfl,rfl,_,_,_,B.m1,rfl,rfl,λw5 m5 g5=>?_⟩;replace qZ:=qZ.bV g5 B.m1 (by decide);replace zk:=zk.bV g5 B.m1 (by decide);obtain⟨s5,g5⟩:=B.fin g5;exact⟨_,_,m5,dP ⟨src,dst,seq,lo,hi,rows,aW⟩ (.slice VY rows.length VZ) (.slice V3 aW.length V4),rfl,rfl,_,_,by rw[Bn,aY aeH,aY aeI,aY aeJ,aY elo,aY ehi,dQ abS,dQ abT],⟨_,_,rfl,qZ,zk⟩,s5,g5⟩
theorem Ki(hs:Src w b l):ag Tryz.prog 198 #[Ptt b] w (λv w'=>∃x l',ni l=(x,l')/\jS w' v x/\Src w' b l'/\GB (some b) w w'):=by
 refine aj ah mixed Tryz.func198 rfl rfl ?_;refine λw1 b1 m1 g1 l1=>?_
 refine⟨_,kv (hs.keep (g1.block b hs.lt nofun)),?_⟩;rintro _ w2 ⟨k,l2,ek,ck,rfl,s2,g2⟩;refine λw3 b3 m3 g3 l3=>⟨_,_,_,m3,rfl,rfl,λw4 m4 g4=>?_⟩
 have B:=Bx.aae hs m1 g1 l1 s2 g2 m3 g3 l3 m4 g4;clear m1 g1 l1 s2 g2 m3 g3 l3 m4 g4;refine⟨_,_,B.m2,_,rfl,au (λq=>?_) (λq=>?_)⟩
 ·have q1:k=1:=by simp at q;omega
  refine⟨_,Rf B.s,?_⟩;rintro _ w3 ⟨x,l3,ex,rfl,s3,g3⟩;replace B:=B.rd s3 g3;clear s3 g3;refine⟨_,_,_,B.m2,rfl,rfl,λw4 m4 g4=>?_⟩;replace B:=B.st m4 g4;clear m4 g4;refine⟨_,_,B.m2,dA ⟨k,x,qh,0,0⟩ (.slice none 0 0) (.slice none 0 0),rfl,rfl,_,_,_,B.m1,rfl,rfl,λw5 m5 g5=>?_⟩;obtain⟨s5,g5⟩:=B.fin g5;exact⟨_,_,m5,dA ⟨k,x,qh,0,0⟩ (.slice none 0 0) (.slice none 0 0),rfl,rfl,_,_,by rw[ni,aY ek,if_pos q1,dQ ex],⟨_,_,rfl,aL.zero _⟩,s5,g5⟩
 ·have q1:¬k=1:=by simp at q;omega
  refine au (λq=>?_) (λq=>?_)
  ·have q2:k=2:=by simp at q;omega
   refine⟨_,VX B.s,?_⟩;rintro _ w3 ⟨x,l3,ex,⟨rv,dv,rfl,hr⟩,s3,g3⟩;obtain⟨ra,rm,rc,da,dm,dc,rfl,rfl⟩:=hr.sl;replace B:=B.rd s3 g3;clear s3 g3;refine⟨_,_,_,B.m2,rfl,rfl,λw4 m4 g4=>?_⟩;replace hr:=hr.bV g4 B.m2 (by decide) (by decide);replace B:=B.st m4 g4;clear m4 g4;refine⟨_,_,B.m2,dA ⟨k,qN,x,0,0⟩ (.slice ra rm rc) (.slice da dm dc),rfl,rfl,_,_,_,B.m1,rfl,rfl,λw5 m5 g5=>?_⟩;replace hr:=hr.bV g5 B.m1 (by decide) (by decide);obtain⟨s5,g5⟩:=B.fin g5;exact⟨_,_,m5,dA ⟨k,qN,x,0,0⟩ (.slice ra rm rc) (.slice da dm dc),rfl,rfl,_,_,by rw[ni,aY ek,if_neg q1,if_pos q2,dQ ex],⟨_,_,rfl,hr⟩,s5,g5⟩
  ·have q2:¬k=2:=by simp at q;omega
   refine au (λq=>?_) (λq=>?_)
   ·have q3:k=3:=by simp at q;omega
    refine⟨_,kv B.s,?_⟩;rintro _ w3 ⟨p,l3,ep,cp,rfl,s3,g3⟩;replace B:=B.rd s3 g3;clear s3 g3;refine⟨_,_,_,B.m2,rfl,rfl,λw4 m4 g4=>?_⟩;replace B:=B.st m4 g4;clear m4 g4;refine⟨_,oZ B.s,?_⟩;rintro _ w3 ⟨s,l3,es,cs,rfl,s3,g3⟩;replace B:=B.rd s3 g3;clear s3 g3;refine⟨_,_,_,B.m2,rfl,rfl,λw4 m4 g4=>?_⟩;replace B:=B.st m4 g4;clear m4 g4;refine⟨_,_,B.m2,dA ⟨k,qN,qh,p,s⟩ (.slice none 0 0) (.slice none 0 0),rfl,rfl,_,_,_,B.m1,rfl,rfl,λw5 m5 g5=>?_⟩;obtain⟨s5,g5⟩:=B.fin g5;exact⟨_,_,m5,dA ⟨k,qN,qh,p,s⟩ (.slice none 0 0) (.slice none 0 0),rfl,rfl,_,_,by rw[ni,aY ek,if_neg q1,if_neg q2,if_pos q3,aY ep,aY es],⟨_,_,rfl,aL.zero _⟩,s5,g5⟩
   ·have q3:¬k=3:=by simp at q;omega
    refine⟨_,_,B.m2,dA ⟨k,qN,qh,0,0⟩ (.slice none 0 0) (.slice none 0 0),rfl,rfl,_,_,_,B.m1,rfl,rfl,λw5 m5 g5=>?_⟩;obtain⟨s5,g5⟩:=B.fin g5;exact⟨_,_,m5,dA ⟨k,qN,qh,0,0⟩ (.slice none 0 0) (.slice none 0 0),rfl,rfl,_,_,by rw[ni,aY ek,if_neg q1,if_neg q2,if_neg q3],⟨_,_,rfl,aL.zero _⟩,s5,g5⟩
theorem XQ(hs:Src w b l):ag Tryz.prog 196 #[Ptt b] w (λv w'=>∃x l',nL l=(x,l')/\oJ w' v x/\Src w' b l'/\GB (some b) w w'):=by
 refine aj ah mixed Tryz.func196 rfl rfl ?_;refine λw1 b1 m1 g1 l1 w2 b2 m2 g2 l2=>?_
 have B:=Bx.new hs m1 g1 l1 m2 g2 l2;clear m1 m2 g1 g2 l1 l2;refine⟨_,oZ B.s,?_⟩;rintro _ w3 ⟨s,l3,es,cs,rfl,s3,g3⟩;replace B:=B.rd s3 g3;clear s3 g3;refine⟨_,_,_,B.m2,rfl,rfl,λw4 m4 g4=>?_⟩;replace B:=B.st m4 g4;clear m4 g4;refine⟨_,yf B.s,?_⟩;rintro _ w3 ⟨x,l3,ex,rfl,s3,g3⟩;replace B:=B.rd s3 g3;clear s3 g3;refine⟨_,_,_,B.m2,rfl,rfl,λw4 m4 g4=>?_⟩;replace B:=B.st m4 g4;clear m4 g4;refine⟨_,Ki B.s,?_⟩;rintro _ w3 ⟨c,l3,ec,⟨rv,dv,rfl,hr⟩,s3,g3⟩;obtain⟨ra,rm,rc,da,dm,dc,rfl,rfl⟩:=hr.sl;replace B:=B.rd s3 g3;clear s3 g3;refine⟨_,_,_,B.m2,rfl,rfl,λw4 m4 g4=>?_⟩;replace hr:=hr.bV g4 B.m2 (by decide) (by decide);replace B:=B.st m4 g4;clear m4 g4;refine⟨_,_,B.m2,jL ⟨s,x,c⟩ (.slice ra rm rc) (.slice da dm dc),rfl,rfl,_,_,_,B.m1,rfl,rfl,λw5 m5 g5=>?_⟩;replace hr:=hr.bV g5 B.m1 (by decide) (by decide);obtain⟨s5,g5⟩:=B.fin g5;exact⟨_,_,m5,jL ⟨s,x,c⟩ (.slice ra rm rc) (.slice da dm dc),rfl,rfl,_,_,by rw[nL,aY es,dQ ex,dQ ec],⟨_,_,rfl,hr⟩,s5,g5⟩
end
end
