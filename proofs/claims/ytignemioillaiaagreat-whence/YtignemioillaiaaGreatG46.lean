/- A step of a script. -/
import Derived.Test.YtignemioillaiaaGreatG45
namespace Go.Proofs.YtignemioillaiaaGreat
set_option maxHeartbeats 8000000
set_option linter.unusedSectionVars false
set_option maxRecDepth 100000
section
open Go Go.Conc
structure Stp where
 (kind a b:Int)
 d:ByteArray
 q:bQ
def Stp.cells(t:Stp):List Value:=[.int .i64 t.kind,.int .i64 t.a,.int .i64 t.b,.string t.d]++t.q.cells
def wW(x:Int):Prop:=-9223372036854775808<=x/\x<9223372036854775808
structure Stp.wf(A:aR)(t:Stp):Prop where
 kind:wW t.kind
 a:wW t.a
 b:wW t.b
 s:0<=t.q.s
 k:0<=t.q.k
 r:A.gc (fH (dh t.q))
def Sit.doA(_A:aR)(S:Sit)(t:Stp)(m:MM):Sit:={ S with C:=S.C.send (aZ S.C t.a) (bN S.C t.a) t.d,asks:=S.asks++[⟨m.q,aZ S.C t.a,S.C.q.length⟩] }
def Sit.tV(A:aR)(S:Sit)(t:Stp):Sit:=match A.dec t.d with
 |some m=>if m.kind=1/\¬t.d.size > 1000/\S.C.q.length<20000 then S.doA A t m else{ S with C:=S.C.send (aZ S.C t.a) (bN S.C t.a) t.d }
 |none=>{ S with C:=S.C.send (aZ S.C t.a) (bN S.C t.a) t.d }
def Sit.Nv(A:aR)(S:Sit)(t:Stp):Sit:={ S.look.1 with C:=S.look.1.C.dB A (aZ S.C t.a) (bN S.C t.a),fell:=S.look.1.fell.set (bA t.a (S.C.n*S.C.sz)) true }
def Sit.tX(A:aR)(S:Sit)(t:Stp):Nat->Sit×Bool
 |0=>(if S.C.q.length<20000 then S.sends A (dh t.q) (aZ S.C t.a) (bN S.C t.a)else S,!S.bad)
 |1=>(S.tV A t,!S.bad)
 |2=>if 0<S.C.q.length then({ S with C:=S.C.eG A (bA t.b S.C.q.length) },true)else(S,!S.bad)
 |3=>if 0<S.C.q.length then({ S with C:=S.C.eG A ((S.C.q.length:Int) - 1 - (bA t.b S.C.q.length%12:Nat)) },true)else(S,!S.bad)
 |4=>({ S with C:=S.C.tick A (aZ S.C t.a) (bN S.C t.a) },true)
 |5=>(S.Nv A t,S.look.2)
 |_=>(S.all A (1+bA t.b 60),true)
def Sit.do(A:aR)(S:Sit)(t:Stp):Sit×Bool:=S.tX A t (bA t.kind 7)
section
variable{A:aR}(HA:bG A)(HN:dL A)(HL:sS A){Λ:bU}{w:World}{bs:Nat}{S:Sit}
include HA HN HL
theorem acg(h:cZ Λ bs S w)(hF:S.aK A){t:Stp}(ht:t.wf A)(hj:bA t.kind 7=0):gH Tryz.prog 70 #[Ptt bs,.agg t.cells.toArray] w (λv w'=>v=.bool (S.do A t).2/\cZ Λ bs (S.do A t).1 w'/\Kz w w'):=by
 have hdo:S.do A t=S.tX A t 0:=by unfold Sit.do;rw[hj]
 rw[hdo];obtain⟨bc,a,gv,sv,B,ad,hS⟩:=h;have ja:=hF.cl.n;have hs5:=hF.cl.sz;have hlen:=hF.cl.len;refine sK ah mixed Tryz.func70 rfl rfl ?_;refine λw1 b3 m1 g1 l1=>?_
 have h1:=hS.ax g1;refine⟨_,_,h1.si.mem,_,rfl,_,(q8 h1.enter hlen 0 (by decide) (by decide)).x,?_⟩;rintro lv w2 ⟨o2,g2,_⟩;have e0:S.C.q.length - min (0:Int).toNat S.C.q.length=S.C.q.length:=by simp
 rw[e0]at o2;obtain⟨la,lc,rfl⟩:=af o2;clear o2;have h2:=h1.ax g2;obtain⟨q1,q2⟩:=nV (C:=S.C) (k:=t.a) hF.n hF.sz;refine⟨_,_,g2.get m1 nofun,_,rfl,_,(qz h2.si.mem ⟨hF.n,ja⟩ ⟨hF.sz,hs5⟩ t.a ht.a.1 ht.a.2).x,?_⟩;rintro _ w3 ⟨rfl,g3⟩;refine λw4 b6 m4 g4 l4=>⟨_,_,_,m4,rfl,rfl,λw5 m5 g5=>?_⟩
 have jT:GB none w2 w5:=g3.trans (g4.new g5 l4);have G:GB none w w5:=(g1.trans g2).trans jT;have m15:w5.heap[b3]? = some (.cells t.cells.toArray 158):=(g2.trans jT).get m1 nofun;have qm:w5.heap[b6]? = some (.cells #[.int .u8 (aZ S.C t.a),.int .u8 (bN S.C t.a)] 66):=m5;have h5:=hS.ax G;have hmem:=h5.si.mem;have Ih:w.heap.size<=b3:=l1;have Ii:w.heap.size<=b6:=Nat.le_trans ((g1.trans g2).trans g3).size l4;have pk:=jc w5 t.kind 7 (by decide) ht.kind.1 ht.kind.2;rw[hj]at pk;refine⟨_,_,m15,_,rfl,_,pk.x,?_⟩;rintro _ w5 ⟨rfl,rfl⟩;clear m4 m5 g4 g5 l4 jT g3 h2 g2 m1 h1 g1 l1 pk hdo;refine au (λc=>?_) (λc=>?_)
 ·have c1:S.C.q.length<20000:=Ul c
  have ek:S.tX A t 0=(S.sends A (dh t.q) (aZ S.C t.a) (bN S.C t.a),!S.bad):=by show(if S.C.q.length<20000 then _ else _,_)=_;rw[if_pos c1]
  refine⟨by kernel_rfl,_,_,m15,t.q.cells,rfl,rfl,_,_,qm,[.int .u8 (aZ S.C t.a),.int .u8 (bN S.C t.a)],rfl,rfl,_,(U5 w5 t.q ht.s ht.k).x,?_⟩;rintro _ w6 ⟨rfl,g6⟩;have hak:=hF.ak;refine⟨⟨g6.get qm nofun,g6.get m15 nofun,trivial⟩,_,(Nr HL ⟨_,_,_,_,_,_,h5.ax g6⟩ hF.cl ht.r q1 q2 (by omega)).x,?_⟩;rintro _ w7 ⟨rfl,h7,k7⟩;rw[ek];obtain⟨_,_,_,_,_,_,h7⟩:=h7;exact⟨_,_,h7.si.mem,_,rfl,rfl,⟨_,_,_,_,_,_,h7⟩,(G.kz.trans g6.kz).trans k7⟩
 ·have c1:¬S.C.q.length<20000:=ZW c
  have ek:S.tX A t 0=(S,!S.bad):=by show(if S.C.q.length<20000 then _ else _,_)=_;rw[if_neg c1]
  rw[ek];exact⟨_,_,hmem,_,rfl,rfl,⟨_,_,_,_,_,_,h5⟩,G.kz⟩
theorem ach(h:cZ Λ bs S w)(hF:S.aK A){t:Stp}(ht:t.wf A)(hj:bA t.kind 7=2):gH Tryz.prog 70 #[Ptt bs,.agg t.cells.toArray] w (λv w'=>v=.bool (S.do A t).2/\cZ Λ bs (S.do A t).1 w'/\Kz w w'):=by
 have hdo:S.do A t=S.tX A t 2:=by unfold Sit.do;rw[hj]
 rw[hdo];obtain⟨bc,a,gv,sv,B,ad,hS⟩:=h;have ja:=hF.cl.n;have hs5:=hF.cl.sz;have hlen:=hF.cl.len;refine sK ah mixed Tryz.func70 rfl rfl ?_;refine λw1 b3 m1 g1 l1=>?_
 have h1:=hS.ax g1;refine⟨_,_,h1.si.mem,_,rfl,_,(q8 h1.enter hlen 0 (by decide) (by decide)).x,?_⟩;rintro lv w2 ⟨o2,g2,_⟩;have e0:S.C.q.length - min (0:Int).toNat S.C.q.length=S.C.q.length:=by simp
 rw[e0]at o2;obtain⟨la,lc,rfl⟩:=af o2;clear o2;have h2:=h1.ax g2;obtain⟨q1,q2⟩:=nV (C:=S.C) (k:=t.a) hF.n hF.sz;refine⟨_,_,g2.get m1 nofun,_,rfl,_,(qz h2.si.mem ⟨hF.n,ja⟩ ⟨hF.sz,hs5⟩ t.a ht.a.1 ht.a.2).x,?_⟩;rintro _ w3 ⟨rfl,g3⟩;refine λw4 b6 m4 g4 l4=>⟨_,_,_,m4,rfl,rfl,λw5 m5 g5=>?_⟩
 have jT:GB none w2 w5:=g3.trans (g4.new g5 l4);have G:GB none w w5:=(g1.trans g2).trans jT;have m15:w5.heap[b3]? = some (.cells t.cells.toArray 158):=(g2.trans jT).get m1 nofun;have qm:w5.heap[b6]? = some (.cells #[.int .u8 (aZ S.C t.a),.int .u8 (bN S.C t.a)] 66):=m5;have h5:=hS.ax G;have hmem:=h5.si.mem;have Ih:w.heap.size<=b3:=l1;have Ii:w.heap.size<=b6:=Nat.le_trans ((g1.trans g2).trans g3).size l4;have pk:=jc w5 t.kind 7 (by decide) ht.kind.1 ht.kind.2;rw[hj]at pk;refine⟨_,_,m15,_,rfl,_,pk.x,?_⟩;rintro _ w5 ⟨rfl,rfl⟩;clear m4 m5 g4 g5 l4 jT g3 h2 g2 m1 h1 g1 l1 pk hdo;refine au (λc=>?_) (λc=>?_)
 ·have c1:0<S.C.q.length:=by have:=of_decide_eq_true c;omega
  have ek:S.tX A t 2=({ S with C:=S.C.eG A (bA t.b S.C.q.length) },true):=if_pos c1;have pb:=jc w5 t.b S.C.q.length c1 ht.b.1 ht.b.2;have lb:=jl t.b c1;refine⟨by kernel_rfl,_,_,hmem,_,rfl,_,_,m15,_,rfl,_,pb.x,?_⟩;rintro _ w5 ⟨rfl,rfl⟩;refine⟨⟨m15,hmem,trivial⟩,_,Bo HA HN h5.enter hF.cl (bA t.b S.C.q.length:Nat),?_⟩;rintro _ w8 ⟨rfl,hC,k⟩;rw[if_pos ⟨by omega,by omega⟩];obtain⟨en,ez⟩:=aM.jd A S.C (bA t.b S.C.q.length:Nat);exact⟨by rw[ek];rfl,by rw[ek];exact h5.leave en ez hC k,G.kz.trans k⟩
 ·have c1:¬0<S.C.q.length:=by have:=of_decide_eq_false c;omega
  have ek:S.tX A t 2=(S,!S.bad):=if_neg c1;exact⟨_,_,hmem,_,rfl,by rw[ek],by rw[ek];exact⟨_,_,_,_,_,_,h5⟩,G.kz⟩
theorem aci(h:cZ Λ bs S w)(hF:S.aK A){t:Stp}(ht:t.wf A)(hj:bA t.kind 7=3):gH Tryz.prog 70 #[Ptt bs,.agg t.cells.toArray] w (λv w'=>v=.bool (S.do A t).2/\cZ Λ bs (S.do A t).1 w'/\Kz w w'):=by
 have hdo:S.do A t=S.tX A t 3:=by unfold Sit.do;rw[hj]
 rw[hdo];obtain⟨bc,a,gv,sv,B,ad,hS⟩:=h;have ja:=hF.cl.n;have hs5:=hF.cl.sz;have hlen:=hF.cl.len;refine sK ah mixed Tryz.func70 rfl rfl ?_;refine λw1 b3 m1 g1 l1=>?_
 have h1:=hS.ax g1;refine⟨_,_,h1.si.mem,_,rfl,_,(q8 h1.enter hlen 0 (by decide) (by decide)).x,?_⟩;rintro lv w2 ⟨o2,g2,_⟩;have e0:S.C.q.length - min (0:Int).toNat S.C.q.length=S.C.q.length:=by simp
 rw[e0]at o2;obtain⟨la,lc,rfl⟩:=af o2;clear o2;have h2:=h1.ax g2;obtain⟨q1,q2⟩:=nV (C:=S.C) (k:=t.a) hF.n hF.sz;refine⟨_,_,g2.get m1 nofun,_,rfl,_,(qz h2.si.mem ⟨hF.n,ja⟩ ⟨hF.sz,hs5⟩ t.a ht.a.1 ht.a.2).x,?_⟩;rintro _ w3 ⟨rfl,g3⟩;refine λw4 b6 m4 g4 l4=>⟨_,_,_,m4,rfl,rfl,λw5 m5 g5=>?_⟩
 have jT:GB none w2 w5:=g3.trans (g4.new g5 l4);have G:GB none w w5:=(g1.trans g2).trans jT;have m15:w5.heap[b3]? = some (.cells t.cells.toArray 158):=(g2.trans jT).get m1 nofun;have qm:w5.heap[b6]? = some (.cells #[.int .u8 (aZ S.C t.a),.int .u8 (bN S.C t.a)] 66):=m5;have h5:=hS.ax G;have hmem:=h5.si.mem;have Ih:w.heap.size<=b3:=l1;have Ii:w.heap.size<=b6:=Nat.le_trans ((g1.trans g2).trans g3).size l4;have pk:=jc w5 t.kind 7 (by decide) ht.kind.1 ht.kind.2;rw[hj]at pk;refine⟨_,_,m15,_,rfl,_,pk.x,?_⟩;rintro _ w5 ⟨rfl,rfl⟩;clear m4 m5 g4 g5 l4 jT g3 h2 g2 m1 h1 g1 l1 pk hdo;refine au (λc=>?_) (λc=>?_)
 ·have c1:0<S.C.q.length:=by have:=of_decide_eq_true c;omega
  have ek:S.tX A t 3=({ S with C:=S.C.eG A ((S.C.q.length:Int) - 1 - (bA t.b S.C.q.length%12:Nat)) },true):=if_pos c1;have pb:=jc w5 t.b S.C.q.length c1 ht.b.1 ht.b.2;have lb:=jl t.b c1;have lm:bA t.b S.C.q.length%12<=bA t.b S.C.q.length:=Nat.mod_le _ _;have et:((bA t.b S.C.q.length:Nat):Int).tmod 12=((bA t.b S.C.q.length%12:Nat):Int):=zu _ 12;refine⟨by kernel_rfl,_,_,hmem,_,rfl,⟨by omega,by omega⟩,_,_,m15,_,rfl,_,pb.x,?_⟩;rintro _ w5 ⟨rfl,rfl⟩;have hdl:=Bo HA HN h5.enter hF.cl ((S.C.q.length:Int) - 1 - (bA t.b S.C.q.length%12:Nat));rw[<-et]at hdl;refine⟨⟨m15,hmem,trivial⟩,by decide,⟨by rw[et];omega,by rw[et];omega⟩,_,hdl,?_⟩;rintro _ w8 ⟨rfl,hC,k⟩;rw[et]at hC |-;rw[if_pos ⟨by omega,by omega⟩];obtain⟨en,ez⟩:=aM.jd A S.C ((S.C.q.length:Int) - 1 - (bA t.b S.C.q.length%12:Nat));exact⟨by rw[ek];rfl,by rw[ek];exact h5.leave en ez hC k,G.kz.trans k⟩
 ·have c1:¬0<S.C.q.length:=by have:=of_decide_eq_false c;omega
  have ek:S.tX A t 3=(S,!S.bad):=if_neg c1;exact⟨_,_,hmem,_,rfl,by rw[ek],by rw[ek];exact⟨_,_,_,_,_,_,h5⟩,G.kz⟩
theorem acj(h:cZ Λ bs S w)(hF:S.aK A){t:Stp}(ht:t.wf A)(hj:bA t.kind 7=4):gH Tryz.prog 70 #[Ptt bs,.agg t.cells.toArray] w (λv w'=>v=.bool (S.do A t).2/\cZ Λ bs (S.do A t).1 w'/\Kz w w'):=by
 have hdo:S.do A t=S.tX A t 4:=by unfold Sit.do;rw[hj]
 rw[hdo];obtain⟨bc,a,gv,sv,B,ad,hS⟩:=h;have ja:=hF.cl.n;have hs5:=hF.cl.sz;have hlen:=hF.cl.len;refine sK ah mixed Tryz.func70 rfl rfl ?_;refine λw1 b3 m1 g1 l1=>?_
 have h1:=hS.ax g1;refine⟨_,_,h1.si.mem,_,rfl,_,(q8 h1.enter hlen 0 (by decide) (by decide)).x,?_⟩;rintro lv w2 ⟨o2,g2,_⟩;have e0:S.C.q.length - min (0:Int).toNat S.C.q.length=S.C.q.length:=by simp
 rw[e0]at o2;obtain⟨la,lc,rfl⟩:=af o2;clear o2;have h2:=h1.ax g2;obtain⟨q1,q2⟩:=nV (C:=S.C) (k:=t.a) hF.n hF.sz;refine⟨_,_,g2.get m1 nofun,_,rfl,_,(qz h2.si.mem ⟨hF.n,ja⟩ ⟨hF.sz,hs5⟩ t.a ht.a.1 ht.a.2).x,?_⟩;rintro _ w3 ⟨rfl,g3⟩;refine λw4 b6 m4 g4 l4=>⟨_,_,_,m4,rfl,rfl,λw5 m5 g5=>?_⟩
 have jT:GB none w2 w5:=g3.trans (g4.new g5 l4);have G:GB none w w5:=(g1.trans g2).trans jT;have m15:w5.heap[b3]? = some (.cells t.cells.toArray 158):=(g2.trans jT).get m1 nofun;have qm:w5.heap[b6]? = some (.cells #[.int .u8 (aZ S.C t.a),.int .u8 (bN S.C t.a)] 66):=m5;have h5:=hS.ax G;have hmem:=h5.si.mem;have Ih:w.heap.size<=b3:=l1;have Ii:w.heap.size<=b6:=Nat.le_trans ((g1.trans g2).trans g3).size l4;have pk:=jc w5 t.kind 7 (by decide) ht.kind.1 ht.kind.2;rw[hj]at pk;refine⟨_,_,m15,_,rfl,_,pk.x,?_⟩;rintro _ w5 ⟨rfl,rfl⟩;clear m4 m5 g4 g5 l4 jT g3 h2 g2 m1 h1 g1 l1 pk hdo;refine⟨by kernel_rfl,_,_,hmem,_,rfl,_,_,qm,[.int .u8 (aZ S.C t.a),.int .u8 (bN S.C t.a)],rfl,rfl,_,Q0 HA h5.enter hF.cl _ _ (by omega) (by omega),?_⟩;rintro _ w7 ⟨rfl,hC,k⟩;rw[if_pos ⟨q1,q2⟩];obtain⟨en,ez⟩:=aM.nN A S.C (aZ S.C t.a) (bN S.C t.a);exact⟨rfl,h5.leave en ez hC k,G.kz.trans k⟩
theorem acm(h:cZ Λ bs S w)(hF:S.aK A){t:Stp}(ht:t.wf A)(hj:bA t.kind 7=6):gH Tryz.prog 70 #[Ptt bs,.agg t.cells.toArray] w (λv w'=>v=.bool (S.do A t).2/\cZ Λ bs (S.do A t).1 w'/\Kz w w'):=by
 have hdo:S.do A t=S.tX A t 6:=by unfold Sit.do;rw[hj]
 rw[hdo];obtain⟨bc,a,gv,sv,B,ad,hS⟩:=h;have ja:=hF.cl.n;have hs5:=hF.cl.sz;have hlen:=hF.cl.len;refine sK ah mixed Tryz.func70 rfl rfl ?_;refine λw1 b3 m1 g1 l1=>?_
 have h1:=hS.ax g1;refine⟨_,_,h1.si.mem,_,rfl,_,(q8 h1.enter hlen 0 (by decide) (by decide)).x,?_⟩;rintro lv w2 ⟨o2,g2,_⟩;have e0:S.C.q.length - min (0:Int).toNat S.C.q.length=S.C.q.length:=by simp
 rw[e0]at o2;obtain⟨la,lc,rfl⟩:=af o2;clear o2;have h2:=h1.ax g2;obtain⟨q1,q2⟩:=nV (C:=S.C) (k:=t.a) hF.n hF.sz;refine⟨_,_,g2.get m1 nofun,_,rfl,_,(qz h2.si.mem ⟨hF.n,ja⟩ ⟨hF.sz,hs5⟩ t.a ht.a.1 ht.a.2).x,?_⟩;rintro _ w3 ⟨rfl,g3⟩;refine λw4 b6 m4 g4 l4=>⟨_,_,_,m4,rfl,rfl,λw5 m5 g5=>?_⟩
 have jT:GB none w2 w5:=g3.trans (g4.new g5 l4);have G:GB none w w5:=(g1.trans g2).trans jT;have m15:w5.heap[b3]? = some (.cells t.cells.toArray 158):=(g2.trans jT).get m1 nofun;have qm:w5.heap[b6]? = some (.cells #[.int .u8 (aZ S.C t.a),.int .u8 (bN S.C t.a)] 66):=m5;have h5:=hS.ax G;have hmem:=h5.si.mem;have Ih:w.heap.size<=b3:=l1;have Ii:w.heap.size<=b6:=Nat.le_trans ((g1.trans g2).trans g3).size l4;have pk:=jc w5 t.kind 7 (by decide) ht.kind.1 ht.kind.2;rw[hj]at pk;refine⟨_,_,m15,_,rfl,_,pk.x,?_⟩;rintro _ w5 ⟨rfl,rfl⟩;clear m4 m5 g4 g5 l4 jT g3 h2 g2 m1 h1 g1 l1 pk hdo;have pb:=jc w5 t.b 60 (by decide) ht.b.1 ht.b.2;have lb:=jl t.b (show 0<60 by decide);refine⟨_,_,m15,_,rfl,_,pb.x,?_⟩;rintro _ w5 ⟨rfl,rfl⟩;have hall:=Ww HA HN ⟨_,_,_,_,_,_,h5⟩ hF.cl (1+bA t.b 60) (by omega);rw[Int.natCast_add]at hall;refine⟨⟨by omega,by omega⟩,_,hall,?_⟩;rintro _ w8 ⟨rfl,h8,k8⟩;exact⟨rfl,h8,G.kz.trans k8⟩
end
section
variable{A:aR}(HA:bG A){Λ:bU}{w:World}{bs:Nat}{S:Sit}
theorem Sit.acn(A:aR)(S:Sit)(t:Stp):(S.tV A t).bad=S.bad:=by
 unfold Sit.tV;split
 ·split<;>rfl
 ·rfl
include HA
theorem aco(h:cZ Λ bs S w)(hF:S.aK A){t:Stp}(ht:t.wf A)(hj:bA t.kind 7=1):gH Tryz.prog 70 #[Ptt bs,.agg t.cells.toArray] w (λv w'=>v=.bool (S.do A t).2/\cZ Λ bs (S.do A t).1 w'/\Kz w w'):=by
 have hdo:S.do A t=(S.tV A t,!S.bad):=by unfold Sit.do;rw[hj];rfl
 rw[hdo];have ja:=hF.cl.n;have hs5:=hF.cl.sz;have hlen:=hF.cl.len;have hak:=hF.ak;obtain⟨bc,a,gv,sv,B,ad,hS⟩:=h;obtain⟨q1,q2⟩:=nV (C:=S.C) (k:=t.a) hF.n hF.sz;refine EU ah Tryz.func70 rfl rfl ?_;refine aN.piece (Q:=λq w1=>∃b3,q=[(0,Ptt bs),(3,Ptt b3)]/\w1.heap[b3]? = some (.cells t.cells.toArray 158)/\GB none w w1/\w.heap.size<=b3) (aN.of ah mixed ?_) ?_
 ·exact λw1 b3 m1 g1 l1=>⟨_,by exact⟨rfl,rfl,trivial⟩,b3,rfl,m1,g1,l1⟩
 rintro q w1 ⟨b3,rfl,m1,g1,Ih⟩;have h1:=hS.ax g1;refine aN.piece (Q:=λq w2=>q=[(0,Ptt bs),(3,Ptt b3),(5,.int .i64 S.C.q.length)]/\GB none w1 w2) (aN.of ah mixed ?_) ?_
 ·refine⟨_,_,h1.si.mem,_,rfl,_,(q8 h1.enter hlen 0 (by decide) (by decide)).x,?_⟩
  rintro lv w2 ⟨o2,g2,_⟩;have e0:S.C.q.length - min (0:Int).toNat S.C.q.length=S.C.q.length:=by simp
  rw[e0]at o2;obtain⟨la,lc,rfl⟩:=af o2;exact⟨_,by exact⟨rfl,rfl,rfl,trivial⟩,rfl,g2⟩
 rintro q w2 ⟨rfl,g2⟩;have h2:=h1.ax g2;refine aN.piece (Q:=λq w5=>∃b6,q=[(0,Ptt bs),(3,Ptt b3),(5,.int .i64 S.C.q.length),(6,Ptt b6)]/\w5.heap[b6]? = some (.cells #[.int .u8 (aZ S.C t.a),.int .u8 (bN S.C t.a)] 66)/\GB none w2 w5/\w.heap.size<=b6) (aN.of ah mixed ?_) ?_
 ·refine⟨_,_,g2.get m1 nofun,_,rfl,_,(qz h2.si.mem ⟨hF.n,ja⟩ ⟨hF.sz,hs5⟩ t.a ht.a.1 ht.a.2).x,?_⟩
  rintro _ w3 ⟨rfl,g3⟩;refine λw4 b6 m4 g4 l4=>⟨_,_,_,m4,rfl,rfl,λw5 m5 g5=>?_⟩
  exact⟨_,by exact⟨rfl,rfl,rfl,rfl,trivial⟩,b6,rfl,m5,g3.trans (g4.new g5 l4),Nat.le_trans ((g1.trans g2).trans g3).size l4⟩
 rintro q w5 ⟨b6,rfl,m5,jT,Ii⟩;have G:GB none w w5:=(g1.trans g2).trans jT;have m15:=(g2.trans jT).get m1 nofun;have h5:=hS.ax G;refine aN.cut (Qn:=λq w'=>q=[(0,Ptt bs)]/\cZ Λ bs (S.tV A t) w'/\Kz w w') (Qx:=λ_ _ _=>False) (Qr:=λ_ _=>False) ?_ ?_ (λ_ _ _ _ h _=>h.elim) (λ_ _ _ h _=>h.elim);rotate_left
 ·rintro q w' ⟨rfl,h',k'⟩
  refine aN.of ah mixed ?_;obtain⟨_,_,_,_,_,_,h'⟩:=h';refine⟨_,_,h'.si.mem,_,rfl,?_,⟨_,_,_,_,_,_,h'⟩,k'⟩;show Value.bool (!(S.tV A t).bad)=_;rw[Sit.acn]
 refine aN.piece (Q:=λq w'=>q=[(0,Ptt bs),(3,Ptt b3),(5,.int .i64 S.C.q.length),(6,Ptt b6),(28,.int .i64 1)]/\w'=w5) (aN.of ah mixed ?_) ?_
 ·have pk:=jc w5 t.kind 7 (by decide) ht.kind.1 ht.kind.2
  rw[hj]at pk;refine⟨_,_,m15,_,rfl,_,pk.x,?_⟩;rintro _ w5 ⟨rfl,rfl⟩;exact⟨_,by exact⟨rfl,rfl,rfl,rfl,rfl,trivial⟩,rfl,rfl⟩
 rintro q w5 ⟨rfl,rfl⟩;refine aN.block ?_;refine aN.piece (Q:=λq w'=>q=[(0,Ptt bs),(3,Ptt b3),(5,.int .i64 S.C.q.length),(6,Ptt b6),(28,.int .i64 1),(35,.bool false)]/\w'=w5) (aN.of ah mixed ⟨_,by exact⟨rfl,rfl,rfl,rfl,rfl,rfl,trivial⟩,rfl,rfl⟩) ?_;rintro q w5 ⟨rfl,rfl⟩;refine aN.cond false rfl ?_;refine aN.piece (Q:=λq w'=>q=[(0,Ptt bs),(3,Ptt b3),(5,.int .i64 S.C.q.length),(6,Ptt b6),(45,.bool true)]/\w'=w5) (aN.of ah mixed ⟨_,by exact⟨rfl,rfl,rfl,rfl,rfl,trivial⟩,rfl,rfl⟩) ?_;rintro q w5 ⟨rfl,rfl⟩;refine aN.cond true rfl ?_;refine aN.piece (Q:=λq w8=>∃b7 e m rv dv vv rv' eO,q=[(0,Ptt bs),(3,Ptt b3),(5,.int .i64 S.C.q.length),(6,Ptt b6),(7,Ptt b7),(8,.int .i64 e)]/\w8.heap[b7]? = some (.cells (dS m rv dv vv rv' eO).toArray 203)/\((e=0/\A.dec t.d=some m)\/(e≠0/\A.dec t.d=none))/\GB none w5 w8/\w.heap.size<=b7) (aN.of ah mixed ?_) ?_
 ·refine⟨_,_,m15,_,rfl,_,(HA.parse w5 t.d).x,?_⟩
  rintro _ w6 ⟨⟨mv,e,m,rfl,hm,hc⟩,g6⟩;obtain⟨rv,dv,vv,rv',eO,rfl,i1,i2,i3⟩:=hm;obtain⟨_,_,_,_,_,_,rfl,rfl⟩:=i1.sl;obtain⟨_,_,rfl⟩:=i2.sl;obtain⟨_,_,_,_,_,_,rfl,rfl⟩:=i3.sl;refine λw7 b7 m7 g7 l7=>⟨_,_,_,m7,rfl,rfl,λw8 m8 g8=>?_⟩
  exact⟨_,by exact⟨rfl,rfl,rfl,rfl,rfl,rfl,trivial⟩,b7,e,m,_,_,_,_,_,rfl,m8,hc.imp (λx=>⟨x.1,x.2.1⟩) id,g6.trans (g7.new g8 l7),Nat.le_trans (G.trans g6).size l7⟩
 rintro q w8 ⟨b7,e,m,rv,dv,vv,rv',eO,rfl,m8,hc,CJ,lb7⟩;have h8:=h5.ax CJ;have aeX:=CJ.get m15 nofun;have m58:=CJ.get m5 nofun;have nc:∀{x:Nat},w.heap.size<=x->¬mU S.C.n S.C.sz B bc sv ad x:=λ{x} hl hC=>by
  rcases hC with e|e|⟨g',i',p1,p2,p3⟩
  ·subst e;have:=ae hS.ci.eY;omega
  ·obtain⟨c',hc'⟩:=ay hS.ci.row e;have:=ae hc';omega
  ·have:=(hS.ci.rep g' i' p1 p2).lt p3;omega
 refine aN.piece (Q:=λq w9=>∃k f,q=[(0,Ptt bs),(5,.int .i64 S.C.q.length),(6,Ptt b6),(7,Ptt b7),(8,.int .i64 e),(9,.int .i64 k),(10,.int .i64 f)]/\(f=0↔¬t.d.size > 1000)/\(f=0->k=(S.C.q.length:Nat))/\w9.heap[b6]? = some (.cells #[.int .u8 (aZ S.C t.a),.int .u8 (bN S.C t.a)] 66)/\w9.heap[b7]? = some (.cells (dS m rv dv vv rv' eO).toArray 203)/\cZ Λ bs { S with C:=S.C.send (aZ S.C t.a) (bN S.C t.a) t.d } w9/\Kz w w9) (aN.of ah mixed ?_) ?_
 ·refine⟨by kernel_rfl,_,_,h8.si.mem,_,rfl,_,_,m58,[.int .u8 (aZ S.C t.a),.int .u8 (bN S.C t.a)],rfl,rfl,_,_,aeX,_,rfl,_,(QY h8.enter ja hs5 (aZ S.C t.a) (bN S.C t.a) (by omega) (by omega) t.d).x,?_⟩
  rintro _ w9 ⟨rfl,hC9,k9⟩;have pr9:∀{x:Nat} {o:Obj},w8.heap[x]? = some o->w.heap.size<=x->w9.heap[x]? = some o:=λ{x o} hx hl=>by
   obtain⟨_,_,_,_,h'⟩:=hC9;exact(h'.pr x o (by unfold zt;dsimp only;rw[if_neg (nc hl)];exact hx)).1
  obtain⟨en,ez⟩:=S.C.pz (aZ S.C t.a) (bN S.C t.a) t.d;refine⟨_,by exact⟨rfl,rfl,rfl,rfl,rfl,rfl,rfl,trivial⟩,_,_,rfl,?_,?_,pr9 m58 Ii,pr9 m8 lb7,h8.leave en ez hC9 k9,(G.trans CJ).kz.trans k9⟩
  ·rw[if_pos ⟨q1,q2⟩]
   by_cases c:t.d.size > 1000
   ·rw[if_pos c];simp[c]
   ·rw[if_neg c];simp[c]
  ·rw[if_pos ⟨q1,q2⟩]
   by_cases c:t.d.size > 1000
   ·rw[if_pos c];intro h;cases h
   ·intro _;exact if_pos ⟨⟨q1,q2⟩,c⟩
 rintro q w9 ⟨k,f,rfl,hf1,hf2,m59,m79,h9,K9⟩;have eno:(∀m',A.dec t.d=some m'->¬(m'.kind=1/\¬t.d.size > 1000/\S.C.q.length<20000))->S.tV A t={ S with C:=S.C.send (aZ S.C t.a) (bN S.C t.a) t.d }:=λh=>by
  unfold Sit.tV;cases hd:A.dec t.d with
  |none=>rfl
  |some m'=>show(if m'.kind=1/\¬t.d.size > 1000/\S.C.q.length<20000 then _ else _)=_;rw[if_neg (h m' hd)]
 refine aN.piece (Q:=λq w'=>∃r:Bool,q=[(0,Ptt bs),(6,Ptt b6),(7,Ptt b7),(9,.int .i64 k),(78,.bool r)]/\(r=true↔(e=0/\m.kind=1/\f=0/\S.C.q.length<20000))/\w'=w9) (aN.of ah mixed ?_) ?_
 ·refine au (λx=>?_) (λx=>?_)
  ·have x1:e=0:=by simpa using x
   refine⟨_,_,m79,_,rfl,?_⟩;refine au (λy=>?_) (λy=>?_)
   ·have y1:m.kind=1:=by simpa using y
    refine au (λz=>?_) (λz=>?_)
    ·have z1:f=0:=by simpa using z
     exact⟨_,by exact⟨rfl,rfl,rfl,rfl,rfl,trivial⟩,_,rfl,⟨λu=>⟨x1,y1,z1,Ul u⟩,λu=>decide_eq_true (by omega)⟩,rfl⟩
    ·have z1:¬f=0:=by simpa using z
     exact⟨_,by exact⟨rfl,rfl,rfl,rfl,rfl,trivial⟩,false,rfl,⟨λu=>(by cases u),λu=>absurd u.2.2.1 z1⟩,rfl⟩
   ·have y1:¬m.kind=1:=by simpa using y
    exact⟨_,by exact⟨rfl,rfl,rfl,rfl,rfl,trivial⟩,false,rfl,⟨λu=>(by cases u),λu=>absurd u.2.1 y1⟩,rfl⟩
  ·have x1:¬e=0:=by simpa using x
   exact⟨_,by exact⟨rfl,rfl,rfl,rfl,rfl,trivial⟩,false,rfl,⟨λu=>(by cases u),λu=>absurd u.1 x1⟩,rfl⟩
 rintro q w9 ⟨r,rfl,hr,rfl⟩;refine aN.cond r rfl ?_;cases r
 ·refine aN.of ah mixed ⟨_,by exact⟨rfl,trivial⟩,rfl,?_,K9⟩
  rw[eno λm' hm' h=>?_]
  ·exact h9
  ·have:¬(e=0/\m.kind=1/\f=0/\S.C.q.length<20000):=λh=>by have:=hr.2 h;cases this
   rcases hc with⟨e0,hd⟩|⟨e0,hd⟩
   ·rw[hd]at hm';cases hm';exact this ⟨e0,h.1,hf1.2 h.2.1,h.2.2⟩
   ·rw[hd]at hm';cases hm'
 ·obtain⟨x1,y1,z1,u1⟩:=hr.1 rfl
  have hd:A.dec t.d=some m:=by
   rcases hc with⟨_,hd⟩|⟨e0,_⟩
   ·exact hd
   ·exact absurd x1 e0
  have ek:S.tV A t=S.doA A t m:=by
   unfold Sit.tV;rw[hd];show(if m.kind=1/\¬t.d.size > 1000/\S.C.q.length<20000 then _ else _)=_;rw[if_pos ⟨y1,hf1.1 z1,u1⟩]
  have hk:=hf2 z1;subst hk;rw[ek];refine aN.of ah mixed ?_;obtain⟨bc',a',Q7,bX,B',jF,h9⟩:=h9;have wV:=h9.si.mem;obtain⟨aa,U9,haq⟩:=af h9.si.ak;have ha9:=h9.si.ak;rw[haq]at ha9;refine⟨by kernel_rfl,_,_,wV,.slice aa S.asks.length U9,by show(fJ _ _ _)[3]? = _;unfold fJ;rw[haq];rfl,_,_,m79,m.q.cells,rfl,rfl,_,_,m59,_,rfl,λwa ba ma ga la=>?_⟩;have haa:=az ha9 (w1:=wa) λx hx=>by obtain⟨c,hc⟩:=ay ha9 hx;exact ga.block x (ae hc) nofun
  refine⟨⟨ga.get m59 nofun,ga.get m79 nofun,ga.get wV nofun,trivial⟩,?_⟩;refine⟨_,(Ask.mk m.q (aZ S.C t.a) S.C.q.length).cells,haa,⟨_,_,ma,rfl,rfl,rfl⟩,by show S.asks.length+1<=_;omega,λv' wb VP gb nb=>?_⟩;have mm:wb.heap[bs]? = _:=gb.get (ga.get wV nofun) λe=>by
   obtain⟨c,hc⟩:=ay haa e.symm;exact dw (ga.get wV nofun) hc (by decide) rfl
  obtain⟨va,vc,rfl⟩:=af VP;refine⟨_,_,_,mm,rfl,rfl,λwc mc gc=>?_⟩;obtain⟨hz,kz⟩:=(h9.ax ga).ak' (l:=S.asks++[⟨m.q,aZ S.C t.a,S.C.q.length⟩]) (by rw[haq];exact gb) (by rw[List.length_append,List.map_append,List.flatten_append];exact VP) (λx hx=>by rw[haq];exact nb x hx) mc gc;exact⟨_,by exact⟨rfl,trivial⟩,rfl,⟨_,_,_,_,_,_,hz⟩,(K9.trans ga.kz).trans kz⟩
end
section
variable{Λ:bU}{w w':World}{bs bc:Nat}{S:Sit}{a:yj}{gv sv:Value}{B:Nat->Nat->Nat}{ad:Nat->Nat->fO}
theorem ig.qM(h:ig Λ bs bc S a gv sv B ad w){b:Nat}(hb:w.heap.size<=b):Λ.pr b=none:=by
 cases hp:Λ.pr b with
 |none=>rfl
 |some o=>have:=ae (h.pr b o hp).1;omega
theorem ig.cl(h:ig Λ bs bc S a gv sv B ad w){x:Nat}(hx:mU S.C.n S.C.sz B bc sv ad x):x<w.heap.size:=by
 rcases hx with rfl|hx|⟨g,i,hg,hi,hx⟩
 ·exact ae h.ci.eY
 ·obtain⟨c,hc⟩:=ay h.ci.row hx;exact ae hc
 ·exact(h.ci.rep g i hg hi).lt hx
theorem ig.box(h:ig Λ bs bc S a gv sv B ad w)(g:GB none w w'){b:Nat}{o:Obj}(hb:w'.heap[b]? = some o)(hl:w.heap.size<=b):ig (Λ.add b o) bs bc S a gv sv B ad w':=by
 have h':=h.ax g;refine⟨h'.si,h'.ci,h'.dj,λx q hx=>?_,h'.os,h'.out⟩;unfold bU.add at hx;dsimp only at hx;split at hx
 ·rename_i e
  subst e;cases hx
  exact⟨hb,λe=>(by have:=h.si.lt e;omega),λe=>(by have:=h.cl e;omega)⟩
 ·exact h'.pr x q hx
theorem cZ.at{b:Nat}{o:Obj}(h:cZ (Λ.add b o) bs S w):w.heap[b]? = some o:=by
 obtain⟨_,_,_,_,_,_,h⟩:=h;exact(h.pr b o (bU.xW _ _ _)).1
theorem cZ.drop{b:Nat}{o:Obj}(h:cZ (Λ.add b o) bs S w)(hb:Λ.pr b=none):cZ Λ bs S w:=by
 obtain⟨bc,a,gv,sv,B,ad,h⟩:=h;refine⟨bc,a,gv,sv,B,ad,h.si,h.ci,h.dj,λx q hx=>h.pr x q ?_,h.os,h.out⟩;unfold bU.add;dsimp only;rw[if_neg (λe=>by subst e;rw[hb]at hx;cases hx)];exact hx
end
section
variable{A:aR}(HA:bG A)(HN:dL A){Λ:bU}{w:World}{bs:Nat}{S:Sit}
include HA HN
theorem acp(h:cZ Λ bs S w)(hF:S.aK A){t:Stp}(ht:t.wf A)(hj:bA t.kind 7=5):gH Tryz.prog 70 #[Ptt bs,.agg t.cells.toArray] w (λv w'=>v=.bool (S.do A t).2/\cZ Λ bs (S.do A t).1 w'/\Kz w w'):=by
 have hdo:S.do A t=(S.Nv A t,S.look.2):=by unfold Sit.do;rw[hj];rfl
 rw[hdo];have ja:=hF.cl.n;have hs5:=hF.cl.sz;have hlen:=hF.cl.len;have hak:=hF.ak;obtain⟨bc,a,gv,sv,B,ad,hS⟩:=h;obtain⟨q1,q2⟩:=nV (C:=S.C) (k:=t.a) hF.n hF.sz;refine EU ah Tryz.func70 rfl rfl ?_;refine aN.piece (Q:=λq w1=>∃b3,q=[(0,Ptt bs),(3,Ptt b3)]/\w1.heap[b3]? = some (.cells t.cells.toArray 158)/\GB none w w1/\w.heap.size<=b3) (aN.of ah mixed ?_) ?_
 ·exact λw1 b3 m1 g1 l1=>⟨_,by exact⟨rfl,rfl,trivial⟩,b3,rfl,m1,g1,l1⟩
 rintro q w1 ⟨b3,rfl,m1,g1,Ih⟩;have h1:=hS.ax g1;refine aN.piece (Q:=λq w2=>q=[(0,Ptt bs),(3,Ptt b3),(5,.int .i64 S.C.q.length)]/\GB none w1 w2) (aN.of ah mixed ?_) ?_
 ·refine⟨_,_,h1.si.mem,_,rfl,_,(q8 h1.enter hlen 0 (by decide) (by decide)).x,?_⟩
  rintro lv w2 ⟨o2,g2,_⟩;have e0:S.C.q.length - min (0:Int).toNat S.C.q.length=S.C.q.length:=by simp
  rw[e0]at o2;obtain⟨la,lc,rfl⟩:=af o2;exact⟨_,by exact⟨rfl,rfl,rfl,trivial⟩,rfl,g2⟩
 rintro q w2 ⟨rfl,g2⟩;have h2:=h1.ax g2;refine aN.piece (Q:=λq w5=>∃b6,q=[(0,Ptt bs),(3,Ptt b3),(5,.int .i64 S.C.q.length),(6,Ptt b6)]/\w5.heap[b6]? = some (.cells #[.int .u8 (aZ S.C t.a),.int .u8 (bN S.C t.a)] 66)/\GB none w2 w5/\w.heap.size<=b6) (aN.of ah mixed ?_) ?_
 ·refine⟨_,_,g2.get m1 nofun,_,rfl,_,(qz h2.si.mem ⟨hF.n,ja⟩ ⟨hF.sz,hs5⟩ t.a ht.a.1 ht.a.2).x,?_⟩
  rintro _ w3 ⟨rfl,g3⟩;refine λw4 b6 m4 g4 l4=>⟨_,_,_,m4,rfl,rfl,λw5 m5 g5=>?_⟩
  exact⟨_,by exact⟨rfl,rfl,rfl,rfl,trivial⟩,b6,rfl,m5,g3.trans (g4.new g5 l4),Nat.le_trans ((g1.trans g2).trans g3).size l4⟩
 rintro q w5 ⟨b6,rfl,m5,jT,Ii⟩;have G:GB none w w5:=(g1.trans g2).trans jT;have m15:=(g2.trans jT).get m1 nofun;have h5:=hS.ax G;have un3:Λ.pr b3=none:=hS.qM Ih;have un6:Λ.pr b6=none:=hS.qM Ii;have l36:b6≠b3:=λe=>by
  subst e;rw[m5]at m15;injection m15 with m15;injection m15 with _ m15;revert m15;decide
 obtain⟨o3,ho3⟩:∃o,o=Obj.cells t.cells.toArray 158:=⟨_,rfl⟩;obtain⟨o6,M3⟩:∃o,o=Obj.cells #[.int .u8 (aZ S.C t.a),.int .u8 (bN S.C t.a)] 66:=⟨_,rfl⟩;rw[<-ho3]at m15;rw[<-M3]at m5;have h5':ig ((Λ.add b3 o3).add b6 o6) bs bc S a gv sv B ad w5:=by
  have z:=hS.box G m15 Ih;have z':=h5;refine⟨z.si,z.ci,z.dj,λx q hx=>?_,z.os,z.out⟩;unfold bU.add at hx;dsimp only at hx;split at hx
  ·rename_i e;subst e;cases hx
   exact⟨m5,λe=>(by have:=hS.si.lt e;omega),λe=>(by have:=hS.cl e;omega)⟩
  ·exact z.pr x q hx
 have unA:(Λ.add b3 o3).pr b6=none:=by unfold bU.add;dsimp only;rw[if_neg l36];exact un6
 refine aN.cut (Qn:=λ_ _=>False) (Qx:=λ_ _ _=>False) (Qr:=λq w'=>q=[(4,.bool S.look.2)]/\cZ Λ bs (S.Nv A t) w'/\Kz w w') ?_ (λ_ _ h=>h.elim) (λ_ _ _ _ h _=>h.elim) ?_;rotate_left
 ·rintro q s w' ⟨rfl,h',k'⟩ hs
  exact rT hs ⟨rfl,h',k'⟩
 refine aN.piece (Q:=λq w'=>q=[(0,Ptt bs),(3,Ptt b3),(6,Ptt b6),(28,.int .i64 5)]/\w'=w5) (aN.of ah mixed ?_) ?_
 ·have pk:=jc w5 t.kind 7 (by decide) ht.kind.1 ht.kind.2
  rw[hj]at pk;rw[ho3]at m15;refine⟨_,_,m15,_,rfl,_,pk.x,?_⟩;rintro _ w5 ⟨rfl,rfl⟩;exact⟨_,by exact⟨rfl,rfl,rfl,rfl,trivial⟩,rfl,rfl⟩
 rintro q w5 ⟨rfl,rfl⟩;refine aN.block ?_;refine aN.piece (Q:=λq w'=>q=[(0,Ptt bs),(3,Ptt b3),(6,Ptt b6),(28,.int .i64 5),(35,.bool false)]/\w'=w5) (aN.of ah mixed ⟨_,by exact⟨rfl,rfl,rfl,rfl,rfl,trivial⟩,rfl,rfl⟩) ?_;rintro q w5 ⟨rfl,rfl⟩;refine aN.cond false rfl ?_;refine aN.piece (Q:=λq w'=>q=[(0,Ptt bs),(3,Ptt b3),(6,Ptt b6),(28,.int .i64 5),(45,.bool false)]/\w'=w5) (aN.of ah mixed ⟨_,by exact⟨rfl,rfl,rfl,rfl,rfl,trivial⟩,rfl,rfl⟩) ?_;rintro q w5 ⟨rfl,rfl⟩;refine aN.cond false rfl ?_;refine aN.piece (Q:=λq w'=>q=[(0,Ptt bs),(3,Ptt b3),(6,Ptt b6),(28,.int .i64 5),(94,.bool false)]/\w'=w5) (aN.of ah mixed ⟨_,by exact⟨rfl,rfl,rfl,rfl,rfl,trivial⟩,rfl,rfl⟩) ?_;rintro q w5 ⟨rfl,rfl⟩;refine aN.cond false rfl ?_;refine aN.piece (Q:=λq w'=>q=[(0,Ptt bs),(3,Ptt b3),(6,Ptt b6),(28,.int .i64 5),(109,.bool false)]/\w'=w5) (aN.of ah mixed ⟨_,by exact⟨rfl,rfl,rfl,rfl,rfl,trivial⟩,rfl,rfl⟩) ?_;rintro q w5 ⟨rfl,rfl⟩;refine aN.cond false rfl ?_;refine aN.piece (Q:=λq w'=>q=[(0,Ptt bs),(3,Ptt b3),(6,Ptt b6),(28,.int .i64 5),(128,.bool false)]/\w'=w5) (aN.of ah mixed ⟨_,by exact⟨rfl,rfl,rfl,rfl,rfl,trivial⟩,rfl,rfl⟩) ?_;rintro q w5 ⟨rfl,rfl⟩;refine aN.cond false rfl ?_;refine aN.piece (Q:=λq w'=>q=[(0,Ptt bs),(3,Ptt b3),(6,Ptt b6),(138,.bool true)]/\w'=w5) (aN.of ah mixed ⟨_,by exact⟨rfl,rfl,rfl,rfl,trivial⟩,rfl,rfl⟩) ?_;rintro q w5 ⟨rfl,rfl⟩;refine aN.cond true rfl ?_;obtain⟨lF,lC⟩:=hF.dX (S.C.n*S.C.sz);have lF:S.look.1.aK A:=lF;have lC:S.look.1.C=S.C:=lC;obtain⟨T,hT⟩:∃T,T=S.look.1:=⟨_,rfl⟩;obtain⟨r,hr⟩:∃r,r=S.look.2:=⟨_,rfl⟩;have hlk:=RY HN ⟨_,_,_,_,_,_,h5'⟩ hF;have hd5:S.Nv A t={ T with C:=T.C.dB A (aZ S.C t.a) (bN S.C t.a),fell:=T.fell.set (bA t.a (S.C.n*S.C.sz)) true }:=by rw[hT];rfl
 rw[hd5];rw[<-hT]at lF lC hlk;rw[<-hr]at hlk |-;have hle:S.C.n*S.C.sz<=20:=Nat.mul_le_mul ja hs5;have hpos:0<S.C.n*S.C.sz:=Nat.mul_pos hF.n hF.sz;have hpl:=jl t.a hpos;refine aN.piece (Q:=λq w6=>q=[(0,Ptt bs),(3,Ptt b3),(6,Ptt b6),(14,.bool r)]/\cZ ((Λ.add b3 o3).add b6 o6) bs T w6/\Kz w w6) (aN.of ah mixed ?_) ?_
 ·refine⟨_,hlk.x,?_⟩
  rintro _ w6 ⟨rfl,h6,k6⟩;exact⟨_,by exact⟨rfl,rfl,rfl,rfl,trivial⟩,rfl,h6,G.kz.trans k6⟩
 rintro q w6 ⟨rfl,h6,K6⟩;have m66:=h6.at;rw[M3]at m66;obtain⟨bc6,a6,gv6,sv6,B6,ad6,h6⟩:=h6;refine aN.piece (Q:=λq w7=>q=[(0,Ptt bs),(3,Ptt b3),(14,.bool r),(15,.int .i64 0)]/\cZ ((Λ.add b3 o3).add b6 o6) bs { T with C:=T.C.dB A (aZ S.C t.a) (bN S.C t.a) } w7/\Kz w w7) (aN.of ah mixed ?_) ?_
 ·have hcr:ag Tryz.prog 21 #[Ptt bc6,.agg #[.int .u8 (aZ S.C t.a),.int .u8 (bN S.C t.a)]] w6 (λv w'=>v=.int .i64 0/\uw (zt w6 T.C.n T.C.sz B6 bc6 sv6 ad6) bc6 (T.C.dB A (aZ S.C t.a) (bN S.C t.a)) w'/\Kz w6 w'):=ag.mono' (XK HA h6.enter lF.cl (aZ S.C t.a) (bN S.C t.a) (by omega) (by omega)) λv w' hp=>⟨hp.1.trans (by rw[if_pos ⟨by rw[lC];exact q1,by rw[lC];exact q2⟩]),hp.2⟩
  refine⟨by kernel_rfl,_,_,h6.si.mem,_,rfl,_,_,m66,[.int .u8 (aZ S.C t.a),.int .u8 (bN S.C t.a)],rfl,rfl,_,hcr.x,?_⟩;rintro _ w7 ⟨rfl,hC,k7⟩;obtain⟨en,ez⟩:=aM.uQ A T.C (aZ S.C t.a) (bN S.C t.a);exact⟨_,by exact⟨rfl,rfl,rfl,rfl,trivial⟩,rfl,h6.leave en ez hC k7,K6.trans k7⟩
 rintro q w7 ⟨rfl,h7,K7⟩;have m37:w7.heap[b3]? = some o3:=(h7.drop unA).at;rw[ho3]at m37;obtain⟨en,ez⟩:=aM.uQ A T.C (aZ S.C t.a) (bN S.C t.a);refine aN.piece (Q:=λq w8=>q=[(14,.bool r),(15,.int .i64 0)]/\cZ Λ bs { T with C:=T.C.dB A (aZ S.C t.a) (bN S.C t.a),fell:=T.fell.set (bA t.a (S.C.n*S.C.sz)) true } w8/\Kz w w8) (aN.of ah mixed ?_) ?_
 ·obtain⟨bc7,a7,gv7,sv7,B7,ad7,h7⟩:=h7
  have hmem:=h7.si.mem;have hcn:((T.C.dB A (aZ S.C t.a) (bN S.C t.a)).n:Int)*((T.C.dB A (aZ S.C t.a) (bN S.C t.a)).sz:Int)=((S.C.n*S.C.sz:Nat):Int):=by rw[en,ez,lC];exact(Int.natCast_mul _ _).symm
  obtain⟨fl,hfl⟩:∃x,T.fell[bA t.a (S.C.n*S.C.sz)]? = some x:=⟨T.fell[bA t.a (S.C.n*S.C.sz)]'(by rw[lF.fe,lC];exact hpl),by simp[lF.fe,lC,hpl]⟩;obtain⟨gf,Pv,KM,KN,Fu,WA,aa2,aeT⟩:=pX h7.si.fe (k:=bA t.a (S.C.n*S.C.sz)) (x:=.bool fl) (by rw[List.getElem?_map];show(T.fell[_]?).map _=_;rw[hfl];rfl);have pk:=jc w7 t.a (S.C.n*S.C.sz) hpos ht.a.1 ht.a.2;rw[<-hcn]at pk;refine⟨by kernel_rfl,_,_,hmem,.slice (some ⟨gf,0,none⟩) T.fell.length Pv,by show(fJ _ _ _)[6]? = _;unfold fJ;rw[KN];rfl,_,_,m37,_,rfl,_,_,hmem,_,rfl,_,_,hmem,_,rfl,⟨by show _<=((T.C.dB A (aZ S.C t.a) (bN S.C t.a)).n:Int)*((T.C.dB A (aZ S.C t.a) (bN S.C t.a)).sz:Int);omega,by show((T.C.dB A (aZ S.C t.a) (bN S.C t.a)).n:Int)*((T.C.dB A (aZ S.C t.a) (bN S.C t.a)).sz:Int)<=_;omega⟩,_,pk.x,?_⟩;rintro _ w7 ⟨rfl,rfl⟩;have acf:bA t.a (S.C.n*S.C.sz)<T.fell.length:=aa2;refine⟨⟨hmem,hmem,m37,hmem,trivial⟩,⟨by omega,by omega⟩,_,_,_,Fu,gp rfl rfl (by show 0+((bA t.a (S.C.n*S.C.sz):Nat):Int).toNat*1<_;omega),rfl,λw8 m8 g8=>?_⟩;have aba:=h7.si.fe;rw[KN]at aba;have o8:=own_set' (off:=bA t.a (S.C.n*S.C.sz)) (v:=.bool true) aba Fu m8 (by show 0+((bA t.a (S.C.n*S.C.sz):Nat):Int).toNat*1=_;omega) rfl rfl (by show _<T.fell.length*1;omega);have aeY:w8.heap[bs]? = _:=g8.get hmem λe=>dw hmem Fu (by decide) (Option.some.inj e)
  obtain⟨h8,k8⟩:=h7.fe' (v:=.slice (some ⟨gf,0,none⟩) T.fell.length Pv) (l:=T.fell.set (bA t.a (S.C.n*S.C.sz)) true) (w1:=w8) (w2:=w8) (by rw[KN];exact g8) (by rw[List.length_set,List.map_set];exact o8) (λx hx=>by rw[KN];exact .inl hx) (by rw[aeY];unfold fJ;rw[KN]) (GB.refl _ _);exact⟨_,by exact⟨rfl,rfl,trivial⟩,rfl,cZ.drop (cZ.drop ⟨_,_,_,_,_,_,h8⟩ unA) un3,K7.trans k8⟩
 rintro q w8 ⟨rfl,h8,K8⟩;refine aN.of ah mixed ?_;cases r
 ·exact⟨_,by exact⟨rfl,trivial⟩,rfl,h8,K8⟩
 ·exact⟨_,by exact⟨rfl,trivial⟩,rfl,h8,K8⟩
end
end
