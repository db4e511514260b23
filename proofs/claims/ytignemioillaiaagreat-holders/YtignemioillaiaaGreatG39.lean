/- Lemmas. -/
import Derived.Test.YtignemioillaiaaGreatG38
namespace Go.Proofs.YtignemioillaiaaGreat
set_option maxHeartbeats 8000000
set_option maxRecDepth 100000
open List
section
open Go Go.Conc
structure bQ.wfi(q:bQ):Prop where
 key:0<=q.key/\q.key<=18446744073709551615
 hi:0<=q.hi/\q.hi<=18446744073709551615
 to:0<=q.to
theorem acC{q:bQ}(h:jN q=true):q.k=1\/q.k=2\/q.k=3\/q.k=4/\q.key<=q.hi/\q.to<4:=by
 unfold jN at h;simp only[Bool.and_eq_true]at h;obtain⟨_,h⟩:=h;split at h
 ·rename_i k;omega
 split at h
 ·rename_i k;omega
 split at h
 ·rename_i k
  simp at h;exact .inr (.inr (.inr ⟨k,h.1,h.2.1⟩))
 ·cases h
theorem YM{s:St}{q:bQ}(hk:rO s)(hz:Ej s)(h4:q.k=4)(h3:0<=q.to):zL s q (mD q)=(nX s q,kX s q):=by
 unfold zL nX kX;rw[h4];by_cases hf:gV s q=true
 ·have hto:q.to<s.n:=by unfold gV at hf;simp at hf;exact hf.1.1.2
  have hlm:aT s.O q.to∈s.O:=by
   unfold aT;have hl:q.to.toNat<s.O.length:=by have:=hk.ol;omega
   rw[getElem?_eq_getElem hl];exact getElem_mem hl
  have hq:=(hz.q _ hlm).2;simp only[hf,if_true];unfold aaG Cw;rw[wrap_u32 (by omega)];rfl
 ·simp only[hf]
  rfl
theorem aC.twice(Λ:aC)(b:Nat)(o o':Obj):(Λ.add b o).add b o'=Λ.add b o':=by
 funext y
 unfold aC.add;split<;>rfl
section
variable{Λ:aC}{w0 w:World}{b:Nat}{s:St}
theorem SE(h:Sk Λ w0 b s w)(hk:rO s)(hz:Ej s){q:bQ}(hq:jN q=true)(hw:q.wfi):ag Tryz.prog 85 #[Ptt b,.agg q.cells.toArray,.agg (mD q).cells.toArray] w (λv w'=>v=.agg (kX s q).cells.toArray/\Sk Λ w0 b (nX s q) w'):=by
 have hkk:=acC hq;have fin:∀{b1 b2 b3:Nat} {o1 o2 o3:Obj} {p:aA} {s':St} {w9:World},(b1≠b2/\b1≠b3/\b2≠b3)->(Λ b1=none/\Λ b2=none/\Λ b3=none)->w0.heap.size<=b3->∀{c:Array Value} {t:Nat},o3=.cells c t->Sk ((((Λ.add b1 o1).add b2 o2).add b3 o3).add b2 (.cells p.cells.toArray 57)) w0 b s' w9->w9.heap[b2]? = some (.cells p.cells.toArray 57)/\w9.heap[b3]? = some o3/\∀(oN:World) (m:oN.heap[b3]? = some (.cells p.cells.toArray 57)) (g:GB (some b3) w9 oN),Sk Λ w0 b s' oN:=by
  rintro b1 b2 b3 o1 o2 o3 p s' w9 ⟨n12,n13,n23⟩ hu q3 c t rfl h;refine⟨h.g (aC.eq _ b2 _),h.g (by rw[aC.ne n23.symm,aC.eq]),λoN m g=>?_⟩;refine(h.over (by rw[aC.ne n23.symm,aC.eq]) g m q3).weak λx o hx=>?_
  obtain⟨e1,e2,e3⟩:=KZ hu x o hx;rw[aC.ne e3,aC.ne e2,aC.ne e3,aC.ne e2,aC.ne e1];exact hx
 obtain⟨c,sq,k,key,val,hi,to⟩:=q;obtain⟨hw1,hw2,hw3⟩:=hw;dsimp only at hkk hw1 hw2 hw3;rcases hkk with rfl|rfl|rfl|⟨rfl,hlh,hto⟩
 ·have eP:kX s ⟨c,sq,1,key,val,hi,to⟩=⟨c,sq,key,1,lN s.T key,sU s.T key,0⟩:=by simp[kX]
  have eS:nX s ⟨c,sq,1,key,val,hi,to⟩={ s with D:=ja s.D ⟨c,sq,key,1,lN s.T key,sU s.T key,0⟩ }:=by simp[nX,eP]
  rw[eP,eS];refine ah Tryz.func85 rfl rfl ?_;refine λw1 b1 m1 g1 l1 w2 b2 m2 g2 l2 w3 b3 m3 g3 l3=>?_
  obtain⟨h,n12,n13,n23,hu,q1,q2,q3⟩:=h.KY g1 m1 l1 g2 m2 l2 g3 m3 l3;have a1:=h.g (x:=b1) (by rw[aC.ne n13,aC.ne n12,aC.eq]);have a2:=h.g (x:=b2) (by rw[aC.ne n23,aC.eq]);clear m1 g1 l1 m2 g2 l2 m3 g3 l3;refine⟨_,_,a1,_,rfl,_,_,_,a2,rfl,rfl,λw4 m4 g4=>?_⟩;replace h:=h.over (by rw[aC.ne n23,aC.eq]) g4 m4 q2;have a1:=h.g (x:=b1) (by rw[aC.ne n12,aC.ne n13,aC.ne n12,aC.eq]);obtain⟨T,M,D,O,I,ls,hw⟩:=h;refine⟨_,_,a1,.int .u64 key,rfl,_,aa0 hw.mem hw.sa.t.fz (Nat.le_trans hz.t (by decide)) hk.sT key,?_⟩;rintro _ w5 ⟨rfl,g5⟩;have h:Sk ((((Λ.add b1 _).add b2 _).add b3 _).add b2 _) w0 b s w5:=⟨_,_,_,_,_,_,hw.au g5⟩;refine⟨_,_,_,g5.get m4 nofun,rfl,rfl,λw6 m6 g6=>?_⟩;replace h:=h.over (aC.eq _ b2 _) g6 m6 q2;refine⟨_,_,_,m6,rfl,rfl,λw7 m7 g7=>?_⟩;replace h:=h.over (aC.eq _ b2 _) g7 m7 q2;rw[aC.twice,aC.twice]at h;replace h:Sk ((((Λ.add b1 _).add b2 _).add b3 _).add b2 (.cells (aA.cells ⟨c,sq,key,1,lN s.T key,sU s.T key,0⟩).toArray 57)) w0 b s w7:=h;replace m7:w7.heap[b2]? = some (.cells (aA.cells ⟨c,sq,key,1,lN s.T key,sU s.T key,0⟩).toArray 57):=m7;refine⟨_,_,m7,aA.cells ⟨c,sq,key,1,lN s.T key,sU s.T key,0⟩,rfl,rfl,_,pR h hk.sD (Nat.le_trans hz.d (by decide)) ⟨c,sq,key,1,lN s.T key,sU s.T key,0⟩,?_⟩;rintro _ w8 ⟨rfl,h⟩;obtain⟨m8,m9,hf⟩:=fin ⟨n12,n13,n23⟩ hu q3 rfl h;exact⟨_,_,m8,aA.cells ⟨c,sq,key,1,lN s.T key,sU s.T key,0⟩,rfl,rfl,_,_,_,m9,rfl,rfl,λw9 m10 g10=>⟨_,_,m10,aA.cells ⟨c,sq,key,1,lN s.T key,sU s.T key,0⟩,rfl,rfl,rfl,hf w9 m10 g10⟩⟩
 ·have eP:kX s ⟨c,sq,2,key,val,hi,to⟩=⟨c,sq,key,sV s.T key,false,0,0⟩:=by simp[kX]
  have eS:nX s ⟨c,sq,2,key,val,hi,to⟩={ s with T:=pg s.T key val,D:=ja s.D ⟨c,sq,key,sV s.T key,false,0,0⟩ }:=by simp[nX,eP]
  rw[eP,eS];refine ah Tryz.func85 rfl rfl ?_;refine λw1 b1 m1 g1 l1 w2 b2 m2 g2 l2 w3 b3 m3 g3 l3=>?_
  obtain⟨h,n12,n13,n23,hu,q1,q2,q3⟩:=h.KY g1 m1 l1 g2 m2 l2 g3 m3 l3;have a1:=h.g (x:=b1) (by rw[aC.ne n13,aC.ne n12,aC.eq]);have a2:=h.g (x:=b2) (by rw[aC.ne n23,aC.eq]);clear m1 g1 l1 m2 g2 l2 m3 g3 l3;refine⟨_,_,a1,_,rfl,_,_,a1,.int .u64 key,rfl,_,_,a1,.int .u64 val,rfl,_,aa8 h hk.sT hz.t key val,?_⟩;rintro _ w5 ⟨rfl,h⟩;have a2:=h.g (x:=b2) (by rw[aC.ne n23,aC.eq]);refine⟨_,_,_,a2,rfl,rfl,λw7 m7 g7=>?_⟩;replace h:=h.over (by rw[aC.ne n23,aC.eq]) g7 m7 q2;replace h:Sk ((((Λ.add b1 _).add b2 _).add b3 _).add b2 (.cells (aA.cells ⟨c,sq,key,sV s.T key,false,0,0⟩).toArray 57)) w0 b { s with T:=pg s.T key val } w7:=h;replace m7:w7.heap[b2]? = some (.cells (aA.cells ⟨c,sq,key,sV s.T key,false,0,0⟩).toArray 57):=m7;refine⟨_,_,m7,aA.cells ⟨c,sq,key,sV s.T key,false,0,0⟩,rfl,rfl,_,pR h hk.sD (Nat.le_trans hz.d (by decide)) ⟨c,sq,key,sV s.T key,false,0,0⟩,?_⟩;rintro _ w8 ⟨rfl,h⟩;obtain⟨m8,m9,hf⟩:=fin ⟨n12,n13,n23⟩ hu q3 rfl h;exact⟨_,_,m8,aA.cells ⟨c,sq,key,sV s.T key,false,0,0⟩,rfl,rfl,_,_,_,m9,rfl,rfl,λw9 m10 g10=>⟨_,_,m10,aA.cells ⟨c,sq,key,sV s.T key,false,0,0⟩,rfl,rfl,rfl,hf w9 m10 g10⟩⟩
 ·have eP:kX s ⟨c,sq,3,key,val,hi,to⟩=⟨c,sq,key,2,false,0,0⟩:=by simp[kX]
  have eS:nX s ⟨c,sq,3,key,val,hi,to⟩={ s with T:=xP s.T key,D:=ja s.D ⟨c,sq,key,2,false,0,0⟩ }:=by simp[nX,eP]
  rw[eP,eS];refine ah Tryz.func85 rfl rfl ?_;refine λw1 b1 m1 g1 l1 w2 b2 m2 g2 l2 w3 b3 m3 g3 l3=>?_
  obtain⟨h,n12,n13,n23,hu,q1,q2,q3⟩:=h.KY g1 m1 l1 g2 m2 l2 g3 m3 l3;have a1:=h.g (x:=b1) (by rw[aC.ne n13,aC.ne n12,aC.eq]);have a2:=h.g (x:=b2) (by rw[aC.ne n23,aC.eq]);clear m1 g1 l1 m2 g2 l2 m3 g3 l3;refine⟨_,_,a1,_,rfl,_,_,a1,.int .u64 key,rfl,_,Su h hk.sT hz.t key,?_⟩;rintro _ w5 ⟨rfl,h⟩;have a2:=h.g (x:=b2) (by rw[aC.ne n23,aC.eq]);refine⟨_,_,_,a2,rfl,rfl,λw7 m7 g7=>?_⟩;replace h:=h.over (by rw[aC.ne n23,aC.eq]) g7 m7 q2;replace h:Sk ((((Λ.add b1 _).add b2 _).add b3 _).add b2 (.cells (aA.cells ⟨c,sq,key,2,false,0,0⟩).toArray 57)) w0 b { s with T:=xP s.T key } w7:=h;replace m7:w7.heap[b2]? = some (.cells (aA.cells ⟨c,sq,key,2,false,0,0⟩).toArray 57):=m7;refine⟨_,_,m7,aA.cells ⟨c,sq,key,2,false,0,0⟩,rfl,rfl,_,pR h hk.sD (Nat.le_trans hz.d (by decide)) ⟨c,sq,key,2,false,0,0⟩,?_⟩;rintro _ w8 ⟨rfl,h⟩;obtain⟨m8,m9,hf⟩:=fin ⟨n12,n13,n23⟩ hu q3 rfl h;exact⟨_,_,m8,aA.cells ⟨c,sq,key,2,false,0,0⟩,rfl,rfl,_,_,_,m9,rfl,rfl,λw9 m10 g10=>⟨_,_,m10,aA.cells ⟨c,sq,key,2,false,0,0⟩,rfl,rfl,rfl,hf w9 m10 g10⟩⟩
 ·have e2:=YM (q:=⟨c,sq,4,key,val,hi,to⟩) hk hz rfl hw3
  have e3:nX s ⟨c,sq,4,key,val,hi,to⟩=(zL s ⟨c,sq,4,key,val,hi,to⟩ (mD ⟨c,sq,4,key,val,hi,to⟩)).1:=by rw[e2]
  have e4:kX s ⟨c,sq,4,key,val,hi,to⟩=(zL s ⟨c,sq,4,key,val,hi,to⟩ (mD ⟨c,sq,4,key,val,hi,to⟩)).2:=by rw[e2]
  rw[e3,e4];clear e2 e3 e4;refine ah Tryz.func85 rfl rfl ?_;refine λw1 b1 m1 g1 l1 w2 b2 m2 g2 l2 w3 b3 m3 g3 l3=>?_
  obtain⟨h,n12,n13,n23,hu,q1,q2,q3⟩:=h.KY g1 m1 l1 g2 m2 l2 g3 m3 l3;have a1:=h.g (x:=b1) (by rw[aC.ne n13,aC.ne n12,aC.eq]);have a2:=h.g (x:=b2) (by rw[aC.ne n23,aC.eq]);clear m1 g1 l1 m2 g2 l2 m3 g3 l3;refine⟨_,_,a1,_,rfl,_,_,a1,bQ.cells ⟨c,sq,4,key,val,hi,to⟩,rfl,rfl,_,_,a2,(mD ⟨c,sq,4,key,val,hi,to⟩).cells,rfl,rfl,_,MO h hk hz (q:=⟨c,sq,4,key,val,hi,to⟩) hw1.1 hlh hw2.2 hw3 (mD ⟨c,sq,4,key,val,hi,to⟩),?_⟩;rintro _ w5 ⟨rfl,h⟩;have a3:=h.g (x:=b3) (aC.eq _ b3 _);generalize (zL s ⟨c,sq,4,key,val,hi,to⟩ (mD ⟨c,sq,4,key,val,hi,to⟩)).2=P at *;generalize (zL s ⟨c,sq,4,key,val,hi,to⟩ (mD ⟨c,sq,4,key,val,hi,to⟩)).1=S' at *;refine⟨_,_,_,a3,rfl,rfl,λw9 m10 g10=>⟨_,_,m10,P.cells,rfl,rfl,rfl,?_⟩⟩;refine(h.over (aC.eq _ b3 _) g10 m10 q3).weak λx o hx=>?_
  obtain⟨e1,e2,e3⟩:=KZ hu x o hx;rw[aC.ne e3,aC.ne e3,aC.ne e2,aC.ne e1];exact hx
end
section
variable{Λ:aC}{w0 w:World}{b:Nat}{s:St}
theorem abh{Λ:aC}{b1 b2:Nat}(hu:Λ b1=none/\Λ b2=none):∀x o,Λ x=some o->x≠b1/\x≠b2:=by
 intro x o hx;refine⟨λe=>?_,λe=>?_⟩
 ·rw[e,hu.1]at hx;cases hx
 ·rw[e,hu.2]at hx;cases hx
theorem YN(h:Sk Λ w0 b s w)(hk:rO s)(hz:Ej s){q:bQ}(hw:q.wfi):ag Tryz.prog 44 #[Ptt b,.agg q.cells.toArray] w (λv w'=>v=.agg (tq s q).2.cells.toArray/\Sk Λ w0 b (tq s q).1 w'):=by
 refine ah Tryz.func44 rfl rfl ?_;refine λw1 b1 m1 g1 l1 w2 b2 m2 g2 l2=>?_
 have hs0:=h.sz;obtain⟨h,u1⟩:=h.box g1 m1 l1;obtain⟨h,u2⟩:=h.box g2 m2 l2;have n12:b1≠b2:=by have:=ae m1;omega
 have q2:w0.heap.size<=b2:=by have:=g1.size;omega
 rw[aC.ne n12.symm]at u2;have a1:=h.g (x:=b1) (by rw[aC.ne n12,aC.eq]);clear m1 g1 l1 m2 g2 l2;refine⟨_,_,a1,q.cells,rfl,rfl,_,zz w2 q,?_⟩;rintro _ w3 ⟨rfl,g3⟩;replace h:=h.au g3;replace a1:=g3.get a1 nofun;have a2:=h.g (x:=b2) (aC.eq _ b2 _);have done:∀{Λ':aC} {s':St} {w8:World} (P:aA),(∀x o,Λ x=some o->Λ' x=some o)->∀{c:Array Value} {t:Nat},Λ' b2=some (.cells c t)->Sk Λ' w0 b s' w8->∀w9 (m:w9.heap[b2]? = some (.cells P.cells.toArray 57)) (g:GB (some b2) w8 w9),Sk Λ w0 b s' w9:=λP hwk _ _ h2 h w9 m g=>(h.over h2 g m q2).weak λx o hx=>by
  rw[aC.ne (abh ⟨u1,u2⟩ x o hx).2];exact hwk x o hx
 have wk2:∀{o1 o2:Obj},∀x o,Λ x=some o->((Λ.add b1 o1).add b2 o2) x=some o:=λx o hx=>by
  obtain⟨e1,e2⟩:=abh ⟨u1,u2⟩ x o hx;rw[aC.ne e2,aC.ne e1];exact hx
 unfold tq;obtain⟨ok,hok⟩:∃ok,jN q=ok:=⟨_,rfl⟩;rw[hok];cases ok
 ·refine⟨_,_,_,a2,rfl,rfl,λw4 m4 g4=>?_⟩
  exact⟨_,_,m4,uk.cells,rfl,rfl,rfl,done uk wk2 (aC.eq _ b2 _) h w4 m4 g4⟩
 simp only[Bool.true_eq_false,if_false];refine⟨_,_,a1,.int .u8 q.c,rfl,_,_,a1,.int .u32 q.s,rfl,_,_,a1,.int .u64 q.key,rfl,λw4 b5 m5 g5 l5=>⟨_,_,_,m5,rfl,rfl,λw5 m6 g6=>?_⟩⟩;replace m6:w5.heap[b5]? = some (.cells (mD q).cells.toArray 57):=m6;have q5:w0.heap.size<=b5:=Nat.le_trans h.sz l5;have n15:b1≠b5:=by have:=ae a1;omega
 have n25:b2≠b5:=by have:=ae a2;omega
 obtain⟨h,u5⟩:=h.box (g5.new g6 l5) m6 l5;rw[aC.ne n25.symm,aC.ne n15.symm]at u5;replace a1:=(g5.new g6 l5).get a1 nofun;clear a2 g5 g6 l5 m5;have SF:∀{o1 o2 o3:Obj},∀x o,Λ x=some o->(((Λ.add b1 o1).add b2 o2).add b5 o3) x=some o:=λx o hx=>by
  obtain⟨e1,e2,e3⟩:=KZ ⟨u1,u2,u5⟩ x o hx;rw[aC.ne e3,aC.ne e2,aC.ne e1];exact hx
 obtain⟨T,M,D,O,I,ls,hsw⟩:=h;refine⟨_,_,a1,.int .u64 q.key,rfl,_,_,a1,.int .u64 q.key,rfl,_,_,a1,.int .u64 q.hi,rfl,_,ML (hi:=FD q) hsw.mem hsw.sa.m.fz hk.BJ hk.can hw.key.1,?_⟩;rintro _ w6 ⟨rfl,g6⟩;replace hsw:=hsw.au g6;replace a1:=g6.get a1 nofun;replace m6:=g6.get m6 nofun;have h:Sk (((Λ.add b1 _).add b2 _).add b5 _) w0 b s w6:=⟨_,_,_,_,_,_,hsw⟩;have a2:=h.g (x:=b2) (by rw[aC.ne n25,aC.eq]);obtain⟨st,hst⟩:∃st,Eg s.M s.g q.key (FD q)=st:=⟨_,rfl⟩;rw[hst];cases st
 rotate_left
 ·simp only[if_true]
  refine⟨_,_,_,m6,rfl,rfl,λw7 m7 g7=>?_⟩;replace h:=h.over (aC.eq _ b5 _) g7 m7 q5;refine⟨_,_,_,m7,rfl,rfl,λw8 m8 g8=>?_⟩;replace h:=h.over (aC.eq _ b5 _) g8 m8 q5;rw[aC.twice,aC.twice]at h;have a2:=h.g (x:=b2) (by rw[aC.ne n25,aC.eq]);refine⟨_,_,m8,aA.cells ⟨q.c,q.s,q.key,3,false,0,KG s.M s.g q.key (FD q)⟩,rfl,rfl,_,_,_,a2,rfl,rfl,λw9 m9 g9=>?_⟩;exact⟨_,_,m9,aA.cells ⟨q.c,q.s,q.key,3,false,0,KG s.M s.g q.key (FD q)⟩,rfl,rfl,rfl,done _ SF (by rw[aC.ne n25,aC.eq]) h w9 m9 g9⟩
 simp only[Bool.false_eq_true,if_false];refine⟨_,_,m6,(mD q).cells,rfl,rfl,_,Sj hsw.mem hsw.sa.d.fz (Nat.le_trans hz.d (by decide)) hk.sD (mD q),?_⟩;rintro _ w7 ⟨rfl,g7⟩;replace hsw:=hsw.au g7;replace a1:=g7.get a1 nofun;replace a2:=g7.get a2 nofun;replace m6:=g7.get m6 nofun;replace h:Sk (((Λ.add b1 _).add b2 _).add b5 _) w0 b s w7:=⟨_,_,_,_,_,_,hsw⟩;obtain⟨hd,hhd⟩:∃hd,KF s.D (mD q)=hd:=⟨_,rfl⟩;rw[hhd];cases hd
 ·simp only[Bool.false_eq_true,if_false]
  refine⟨by kernel_rfl,?_⟩;refine⟨_,_,a1,q.cells,rfl,rfl,_,_,m6,(mD q).cells,rfl,rfl,_,SE h hk hz hok hw,?_⟩;rintro _ w8 ⟨rfl,h⟩;have a2:=h.g (x:=b2) (by rw[aC.ne n25,aC.eq]);refine⟨_,_,_,a2,rfl,rfl,λw9 m9 g9=>?_⟩;exact⟨_,_,m9,(kX s q).cells,rfl,rfl,rfl,done _ SF (by rw[aC.ne n25,aC.eq]) h w9 m9 g9⟩
 obtain⟨x,hx,hx0⟩:=yH hhd;have hi:Af s.D (mD q)<s.D.length:=(List.getElem?_eq_some_iff.1 hx).1;have hx':s.D[Af s.D (mD q)]? = some x:=hx;simp only[if_true,hx'];obtain⟨g,cap,cur,ev,hg,aR,hcut,hsz⟩:=hsw.sa.d.at (f:=aA.cells) (λ_=>rfl) hx;subst ev;have hcs:cur.toList[0+((Af s.D (mD q):Nat):Int).toNat*7+1]? = some (.int .u32 x.s):=iM hcut rfl (by decide);refine⟨by kernel_rfl,_,_,hsw.mem,_,rfl,by omega,_,_,aR,.int .u32 x.s,hcs,_,_,a1,.int .u32 q.s,rfl,aj (λe=>?_) (λe=>?_)⟩
 ·have e1:=Ptq e
  rw[if_neg (by omega)];refine⟨by kernel_rfl,_,_,hsw.mem,_,rfl,by omega,_,_,aR,.int .u32 x.s,hcs,_,_,a1,.int .u32 q.s,rfl,aj (λf=>?_) (λf=>?_)⟩
  ·rw[if_pos (eq_of_beq f)]
   refine⟨_,_,hsw.mem,_,rfl,by omega,_,_,aR,x.cells,hcut,rfl,_,_,_,a2,rfl,rfl,λw9 m9 g9=>?_⟩;exact⟨_,_,m9,x.cells,rfl,rfl,rfl,done x SF (by rw[aC.ne n25,aC.eq]) h w9 m9 g9⟩
  ·rw[if_neg (by simpa using f)]
   refine⟨_,_,_,m6,rfl,rfl,λw8 m8 g8=>?_⟩;replace h:=h.over (aC.eq _ b5 _) g8 m8 q5;rw[aC.twice]at h;have a2:=h.g (x:=b2) (by rw[aC.ne n25,aC.eq]);refine⟨_,_,m8,aA.cells ⟨q.c,q.s,q.key,4,false,0,0⟩,rfl,rfl,_,_,_,a2,rfl,rfl,λw9 m9 g9=>?_⟩;exact⟨_,_,m9,aA.cells ⟨q.c,q.s,q.key,4,false,0,0⟩,rfl,rfl,rfl,done _ SF (by rw[aC.ne n25,aC.eq]) h w9 m9 g9⟩
 ·have e1:=Ptx e
  rw[if_pos (by omega)];refine⟨_,_,a1,q.cells,rfl,rfl,_,_,m6,(mD q).cells,rfl,rfl,_,SE h hk hz hok hw,?_⟩;rintro _ w8 ⟨rfl,h⟩;have a2:=h.g (x:=b2) (by rw[aC.ne n25,aC.eq]);refine⟨_,_,_,a2,rfl,rfl,λw9 m9 g9=>?_⟩;exact⟨_,_,m9,(kX s q).cells,rfl,rfl,rfl,done _ SF (by rw[aC.ne n25,aC.eq]) h w9 m9 g9⟩
end
theorem Xa(l:List Int):(l.map λi=>[Value.int .u32 i]).flatten=l.map λi=>Value.int .u32 i:=by
 induction l with
 |nil=>rfl
 |cons x l ih=>rw[map_cons,flatten_cons,ih];rfl
theorem PT{α:Type}(v1 v2 v3:Value)(a b c:List α):(([(v1,a),(v2,b),(v3,c)]:List (Value×List α)).map (·.2)).flatten=a++(b++c):=by simp
section
variable{Λ:aC}{w0 w:World}{b:Nat}{s:St}{T M D O I:Value}{ls:List La}
theorem LN.one{w0 w:World}{v:Value}{l:List Int}(h:LN 47 1 w0 w v l.length (l.map λi=>Value.int .u32 i)):LN 47 1 w0 w v l.length (l.map λi=>[Value.int .u32 i]).flatten:=by rw[Xa];exact h
theorem SG(h:Sw Λ w0 b s w T M D O I ls)(hk:rO s)(hI:∀x∈s.I,0<=x/\x<4294967295){r:Rg}{ra da:Option Addr}{rn rc dn dc:Nat}(h0:0<=r.src):ag Tryz.prog 87 #[Ptt b,.agg (eu r (.slice ra rn rc) (.slice da dn dc)).toArray] w (λv w'=>v=.bool (xq s.g s.n s.I r)/\GB none w w'):=by
 have jh:=hk.n4;have hil:=hk.il;refine ah Tryz.func87 rfl rfl ?_;refine λw1 b1 m1 g1 l1=>?_
 replace h:=h.au g1;unfold xq;refine⟨by kernel_rfl,_,_,m1,.int .u8 r.dst,rfl,_,_,h.mem,.int .u8 s.g,rfl,aj (λe=>?_) (λe=>?_)⟩
 ·have e1:r.dst=s.g:=eq_of_beq (b11 e)
  refine⟨_,_,m1,.int .u8 r.src,rfl,_,_,h.mem,.int .u8 s.g,rfl,aj (λe=>?_) (λe=>?_)⟩
  ·have e2:¬r.src=s.g:=by simpa using b11 e
   refine⟨_,_,m1,.int .u8 r.src,rfl,_,_,h.mem,.int .u8 s.n,rfl,aj (λe=>?_) (λe=>?_)⟩
   ·have e3:r.src<s.n:=Ptq (b11 e)
    obtain⟨j,hj⟩:=Int.eq_ofNat_of_zero_le h0;obtain⟨x,hx⟩:∃x,s.I[j]? = some x:=⟨s.I[j]'(by omega),by simp[show j<s.I.length by omega]⟩;obtain⟨g,cap,cur,ev,hg,aR,hcut,hsz⟩:=h.sa.i.one.at (f:=λi=>[Value.int .u32 i]) (λ_=>rfl) hx;subst ev;have hxb:=hI x (List.mem_of_getElem? hx);have hcell:cur.toList[0+r.src.toNat*1]? = some (.int .u32 x):=by
     have:=iM hcut (i:=0) rfl (by decide);rw[hj];exact this
    have hw:IntKind.u32.wrap ((s.I[r.src.toNat]?).getD 0+1)=x+1:=by
     rw[hj,Int.toNat_natCast,hx];exact wrap_u32 (by show 0<=x+1/\x+1<_;omega)
    refine⟨_,_,m1,.int .u32 r.seq,rfl,_,_,h.mem,_,rfl,_,_,m1,.int .u8 r.src,rfl,by omega,_,_,aR,.int .u32 x,hcell,by omega,?_⟩;refine⟨congrArg Value.bool ?_,g1⟩;rw[hw];simp[e1,e2,e3]
   ·have e3:¬r.src<s.n:=Ptx (b10 e)
    exact⟨congrArg Value.bool (by simp[e3]),g1⟩
  ·have e2:r.src=s.g:=by simpa using b10 e
   exact⟨congrArg Value.bool (by simp[e2]),g1⟩
 ·have e1:¬r.dst=s.g:=by simpa using b10 e
  exact⟨congrArg Value.bool (by simp[e1]),g1⟩
theorem IJ{r:Rg}(h:oO r=true):r.lo<=r.hi/\Cs r=true/\zB r=true:=by
 unfold oO at h;simp only[Bool.and_eq_true,decide_eq_true_eq]at h;exact⟨h.2.2.2.1,h.2.2.2.2.1,h.2.2.2.2.2⟩
theorem PU(h:Sk Λ w0 b s w)(hk:rO s)(hz:Ej s)(hI:∀x∈s.I,0<=x/\x<4294967295){r:Rg}{rv dv:Value}(hr:aM w0 r rv dv)(h0:0<=r.src)(h1:0<=r.lo)(h2:r.hi<=18446744073709551615):ag Tryz.prog 45 #[Ptt b,.agg (eu r rv dv).toArray] w (λv w'=>v=.tuple #[]/\Sk Λ w0 b (uF s r) w'):=by
 obtain⟨ra,rn,rc,da,dn,dc,rfl,rfl⟩:=hr.sl;have jh:=hk.n4;have hil:=hk.il;have hgn:=hk.gn;refine ah Tryz.func45 rfl rfl ?_;refine λw1 b1 m1 g1 l1=>?_
 have hs0:=h.sz;obtain⟨h,u1⟩:=h.box g1 m1 l1;clear m1 g1 l1;obtain⟨T,M,D,O,I,ls,h⟩:=h;refine⟨_,_,h.at,eu r _ _,rfl,rfl,_,Ef (hr.kz h.gb.kz),?_⟩;rintro _ w2 ⟨rfl,g2⟩;replace h:=h.au g2;unfold uF;obtain⟨ok,hok⟩:∃ok,oO r=ok:=⟨_,rfl⟩;rw[hok];cases ok
 ·rw[if_neg (by simp)]
  exact⟨rfl,_,_,_,_,_,_,h.drop u1⟩
 obtain⟨hlh,hrows,PV⟩:=IJ hok;obtain⟨_,_,hrl⟩:=Dq hrows;obtain⟨_,_,hdl⟩:=Dr PV;refine⟨_,_,h.at,eu r _ _,rfl,rfl,_,SG h hk hI h0,?_⟩;rintro _ w3 ⟨rfl,g3⟩;replace h:=h.au g3;obtain⟨nb,hnb⟩:∃nb,xq s.g s.n s.I r=nb:=⟨_,rfl⟩;rw[hnb];cases nb
 ·rw[if_neg (by simp)]
  exact⟨rfl,_,_,_,_,_,_,h.drop u1⟩
 have hsrc:r.src<s.n:=by unfold xq at hnb;simp at hnb;exact hnb.1.2
 have hM:Ag w3 M s.M:=h.sa.m.fz;refine⟨by kernel_rfl,_,_,h.mem,_,rfl,_,_,h.at,.int .u64 r.lo,rfl,_,_,h.at,.int .u64 r.hi,rfl,_,_,h.mem,.int .u8 s.g,rfl,_,NG hM hk.BJ hk.can h1 hlh h2 (by omega:s.g<4),?_⟩;rintro _ w4 ⟨v',e',rfl,g4,hc⟩;rcases hc with⟨c1,rfl,P⟩|⟨c1,rfl,rfl⟩;rotate_left
 ·rw[if_neg (by rintro⟨_,_,z⟩;omega)]
  exact⟨rfl,_,_,_,_,_,_,(h.au g4).drop u1⟩
 rw[if_pos ⟨rfl,rfl,c1⟩];have uM:∀x,v'.ownBlock=some x->_:=λx hx=>h.q9 (P.new x hx)
 replace P:=P.base h.gb;obtain⟨va,vc,rfl⟩:=af P.own;replace h:=h.au g4;refine⟨_,_,_,h.mem,rfl,rfl,λw5 m5 g5=>?_⟩;replace h:=h.aa7 P uM m5 g5;clear m5 g5 P uM hM g2 g3 g4;obtain⟨j,hj⟩:=Int.eq_ofNat_of_zero_le h0;obtain⟨x,hx⟩:∃x,s.I[j]? = some x:=⟨s.I[j]'(by omega),by simp[show j<s.I.length by omega]⟩;obtain⟨g,cap,cur,ev,hg,aR,hcut,hsz⟩:=h.sa.i.one.at (f:=λi=>[Value.int .u32 i]) (λ_=>rfl) hx;subst ev;refine⟨by kernel_rfl,_,_,h.mem,_,rfl,_,_,h.at,.int .u8 r.src,rfl,_,_,h.at,.int .u32 r.seq,rfl,⟨by omega,by show r.src<(s.I.length:Int);omega⟩,_,_,_,aR,gH rfl rfl (by rw[Array.length_toList];show 0+r.src.toNat*1<_;have hsz':s.I.length*1<=cur.size:=hsz;omega),rfl,λw6 m6 g6=>?_⟩;have LI:=h.sa.i.one.set (f:=λi=>[Value.int .u32 i]) (j:=0) (x':=r.seq) (λ_=>rfl) aR hx (by decide) rfl m6 (by show 0+r.src.toNat*1=j*1+0;omega) rfl rfl g6;rw[Xa]at LI;have ejn:r.src.toNat=j:=by omega
 replace h:=h.afh (i':=s.I.set r.src.toNat r.seq) (by rw[ejn];simp only[length_set]at LI |-;exact LI) g6;clear aR hcut hsz m6 g6 LI;obtain⟨f1,f2,f3⟩:=Jk (λx:Row=>x.key) r.lo r.hi s.T;obtain⟨e1,e2,e3⟩:=Jk (λx:aA=>x.key) r.lo r.hi s.D;have hzt:=hz.t;have hzd:=hz.d;refine⟨by kernel_rfl,_,_,h.mem,_,rfl,_,_,h.at,.int .u64 r.lo,rfl,_,_,h.at,.int .u64 r.hi,rfl,_,IB h.sa.t.fz (Nat.le_trans hzt (by decide)) r.lo r.hi,?_⟩;rintro _ w7 ⟨v1,v2,v3,rfl,L1,L2,L3,sp⟩;obtain⟨a1,c1',rfl⟩:=af L1.own;obtain⟨a2,c2',rfl⟩:=af L2.own;obtain⟨a3,c3',rfl⟩:=af L3.own;replace h:=h.au L1.gb;refine⟨_,_,h.at,(.slice ra rn rc),rfl,λw8 vb BK g8 KT=>?_⟩;replace h:=h.au g8;refine⟨_,FJ (xs:=[(_,sB (λx:Row=>x.key) r.lo s.T),(_,r.rows),(_,sA (λx:Row=>x.key) r.lo r.hi s.T)]) BK ?_ (by rw[show fw _=_ from PT _ _ _ _ _ _,length_append,length_append];omega) (by show 3<=100;decide),?_⟩
 ·intro x hx
  simp only[mem_cons,not_mem_nil,or_false]at hx;rcases hx with rfl|rfl|rfl
  ·exact(L1.au g8).fz
  ·exact hr.1.kz h.gb.kz (by decide)
  ·exact(L3.au g8).fz
 intro X' w9 LX;rw[show fw [_,_,_]=_ from PT _ _ _ _ _ _]at LX;obtain⟨xa,xc,rfl⟩:=af LX.own;refine⟨_,_,_,LX.gb.get h.mem nofun,rfl,rfl,λoN m10 g10=>?_⟩;replace h:=h.pg (t':=sB (λx:Row=>x.key) r.lo s.T++(r.rows++sA (λx:Row=>x.key) r.lo r.hi s.T)) (LX.base h.gb) LX.gb.weak (λx hx=>.inr (LX.new x hx)) m10 g10;clear L1 L2 L3 sp LX m10 g10 BK g8 KT;refine⟨by kernel_rfl,_,_,h.mem,_,rfl,_,_,h.at,.int .u64 r.lo,rfl,_,_,h.at,.int .u64 r.hi,rfl,_,IC h.sa.d.fz (Nat.le_trans hzd (by decide)) r.lo r.hi,?_⟩;rintro _ w7 ⟨v1,v2,v3,rfl,L1,L2,L3,sp⟩;obtain⟨a1,c1',rfl⟩:=af L1.own;obtain⟨a2,c2',rfl⟩:=af L2.own;obtain⟨a3,c3',rfl⟩:=af L3.own;replace h:=h.au L1.gb;refine⟨_,_,h.at,(.slice da dn dc),rfl,λw8 vb BK g8 KT=>?_⟩;replace h:=h.au g8;refine⟨_,FK (xs:=[(_,sB (λx:aA=>x.key) r.lo s.D),(_,r.aZ),(_,sA (λx:aA=>x.key) r.lo r.hi s.D)]) BK ?_ (by rw[show fA _=_ from PT _ _ _ _ _ _,length_append,length_append];omega) (by show 3<=100;decide),?_⟩
 ·intro x hx
  simp only[mem_cons,not_mem_nil,or_false]at hx;rcases hx with rfl|rfl|rfl
  ·exact(L1.au g8).fz
  ·exact hr.2.kz h.gb.kz (by decide)
  ·exact(L3.au g8).fz
 intro X' w9 LX;rw[show fA [_,_,_]=_ from PT _ _ _ _ _ _]at LX;obtain⟨xa,xc,rfl⟩:=af LX.own;refine⟨_,_,_,LX.gb.get h.mem nofun,rfl,rfl,λoN m10 g10=>?_⟩;replace h:=h.PO (d':=sB (λx:aA=>x.key) r.lo s.D++(r.aZ++sA (λx:aA=>x.key) r.lo r.hi s.D)) (LX.base h.gb) LX.gb.weak (λx hx=>.inr (LX.new x hx)) m10 g10;clear L1 L2 L3 sp LX m10 g10 BK g8 KT;exact⟨rfl,_,_,_,_,_,_,h.drop u1⟩
end
section
variable{Λ:aC}{w0 w:World}{b:Nat}{s:St}{T M D O I:Value}{ls:List La}
theorem Sw.old(h:Sw Λ w0 b s w T M D O I ls){x:Nat}{o:Obj}(hx:w.heap[x]? = some o)(hl:x<w0.heap.size):Sw (Λ.add x o) w0 b s w T M D O I ls:=by
 refine⟨h.mem,h.nb,h.sa,λy q hy=>?_,λy q hy=>?_⟩
 ·unfold aC.add at hy
  split at hy
  ·rename_i e;subst e;cases hy;exact⟨hx,λho=>by have:=h.new ho;omega⟩
  ·exact h.pr y q hy
 ·unfold aC.add at hy
  split at hy
  ·rename_i e;subst e
   intro hr;rcases hr with hr|⟨l,hl',z,hz,hr|hr⟩
   ·have:=h.sa.m.new _ hr;omega
   ·have:=((h.sa.q l hl').r z hz).r.new _ hr;omega
   ·have:=((h.sa.q l hl').r z hz).d.new _ hr;omega
  ·exact h.rd y q hy
def abj:aC:=λ_=>none
theorem xy{w0 wf:World}(_hs:w0.heap.size<=wf.heap.size)(_gf:GB none w0 wf){s:St}{T M D O I:Value}{ls:List La}{w:World}{b3 b4:Nat}(n3:w0.heap.size<=b3)(n4:w0.heap.size<=b4){w':World}(S:SA wf w s T M D O I ls)(g3:GB none w0 w){w1:World}(_m1:w1.heap[b3]? = some (.cells (iJ s T M D O I).toArray 31))(g1:GB (some b3) w w1)(h3:b3<wf.heap.size)(h4:b4<wf.heap.size)(g2:GB (some b4) w1 w'):(∀w'':World,(∀x,w0.heap.size<=x->x<w'.heap.size->w''.heap[x]? = w'.heap[x]?)->fG w'' T M D O I s)/\GB none w0 w':=by
 refine⟨λw'' hw=>S.over λx hx hxl=>?_,(g3.new g1 n3).new g2 n4⟩;have k1:=g1.size;have k2:=g2.size;rw[hw x (by omega) (by omega),g2.block x (by omega) (λe=>by injection e with e;omega),g1.block x hxl (λe=>by injection e with e;omega)]
end
theorem Vt{w:World}{s:St}{c:MC}{vT vM vD vO vI cv:Value}(h:fG w vT vM vD vO vI s)(hk:rO s)(hz:Ej s)(hS:StS s)(hI:∀x∈s.I,0<=x/\x<4294967295)(hc:kr w cv c)(hq:c.q.wfi)(hrb:0<=c.r.src/\0<=c.r.lo/\c.r.hi<=18446744073709551615)(hp:0<=c.peer):ag Tryz.prog 12 #[.agg (iJ s vT vM vD vO vI).toArray,cv] w (λv w'=>∃T M D O I,v=.tuple #[.agg (iJ (lQ s c).1 T M D O I).toArray,.agg (lQ s c).2.cells.toArray]/\(∀w'':World,(∀x,w.heap.size<=x->x<w'.heap.size->w''.heap[x]? = w'.heap[x]?)->fG w'' T M D O I (lQ s c).1)/\GB none w w'):=by
 obtain⟨ta,tc,rfl,hT'⟩:=h.T;obtain⟨ma,mc',rfl,hM'⟩:=h.M;obtain⟨da,dc,rfl,hD'⟩:=h.D;obtain⟨_,_,⟨oa,oc,rfl,hO'⟩,_⟩:=h.O;obtain⟨ia,ic,rfl,hI'⟩:=h.I;obtain⟨rv,dv,rfl,hr⟩:=hc;obtain⟨ra,rn,rc,sj,yA,su,e1,e2⟩:=hr.sl;subst e1 e2;refine ah Tryz.func12 rfl rfl ?_;refine λw1 b1 m1 g1 l1 w2 b2 m2 g2 l2 w3 b3 m3 g3 l3 w4 b4 m4 g4 l4=>?_
 have j1:=ae m1;have j2:=ae m2;have j3:=ae m3;have k4:=ae m4;have z1:=g1.size;have z2:=g2.size;have z3:=g3.size;have z4:=g4.size;have n34:b3≠b4:=by omega
 have n23:b2≠b3:=by omega
 have n24:b2≠b4:=by omega
 have G4:=((g1.trans g2).trans g3).trans g4;have m1:=g4.get (g3.get (g2.get m1 nofun) nofun) nofun;have m2:=g4.get (g3.get m2 nofun) nofun;have m3:=g4.get m3 nofun;refine⟨_,_,m1,iJ s (.slice ta _ tc) (.slice ma _ mc') (.slice da _ dc) (.slice oa _ oc) (.slice ia _ ic),rfl,rfl,_,Ve (h.kz G4.kz) hS,?_⟩;rintro _ w5 ⟨T,M,D,O,I,ls,rfl,S⟩;have S5:=S;obtain⟨Ta,Tc,rfl⟩:=af S.t.own;obtain⟨Ma,Mc,rfl⟩:=af S.m.own;obtain⟨Da,Dc,rfl⟩:=af S.d.own;obtain⟨Oa,Oc,rfl⟩:=af S.o.own;obtain⟨Ia,Ic,rfl⟩:=af S.i.own;have hll:ls.length=s.O.length:=by rw[<-S.core,length_map]
 refine λw6 b6 m6 g6 l6=>⟨_,_,_,m6,rfl,rfl,λw7 m7 g7=>?_⟩
 refine λw8 b7 m8 g8 l8=>?_
 have z5:=S.t.gb.size;have z6:=g6.size;have z7:=g7.size;have h0:Sw abj w4 b6 s w7 _ _ _ _ _ ls:=⟨m7,by omega,S.au (g6.new g7 l6),(λ_ _ h=>by cases h),(λ_ _ h=>by cases h)⟩;have G8:GB none w4 w8:=(S.t.gb.trans (g6.new g7 l6)).trans g8;have n72:b7≠b2:=by omega
 have n73:b7≠b3:=by omega
 have n74:b7≠b4:=by omega
 have q7:w4.heap.size<=b7:=by omega
 have hsw:=(((h0.box g8 m8 l8).old (G8.get m2 nofun) (by omega)).old (G8.get m3 nofun) (by omega)).old (G8.get m4 nofun) k4;clear h0 m6 g6 l6 m7 g7 m8 g8 l8 S S5;have hM8:Ag w8 (.slice Ma s.M.length Mc) s.M:=hsw.sa.m.fz;refine⟨_,_,hsw.mem,iJ s (.slice Ta _ Tc) (.slice Ma _ Mc) (.slice Da _ Dc) (.slice Oa _ Oc) (.slice Ia _ Ic),rfl,rfl,_,Vf w8 hM8 hk.BJ hk.can ⟨_,_,by rw[hll]⟩ ⟨_,_,rfl⟩ ⟨_,_,_,rfl⟩ ⟨_,_,_,rfl⟩ hk.gn hk.n4 (by have:=hk.g0;have:=hk.gn;omega) hk.ol hk.il,?_⟩;rintro _ w9 ⟨rfl,g9⟩;have h:Sk ((((abj.add b7 _).add b2 _).add b3 _).add b4 _) w4 b6 s w9:=⟨_,_,_,_,_,_,hsw.au g9⟩;clear hsw hM8;have a2:=h.g (x:=b2) (by rw[aC.ne n24,aC.ne n23,aC.eq]);have hr4:=hr.kz G4.kz;obtain⟨kd,q,r,peer,seq⟩:=c;dsimp only at hr hq hrb hp hr4;unfold lQ;dsimp only;by_cases k1:kd=1
 ·subst k1
  simp only[if_true];refine⟨_,_,a2,_,rfl,_,_,a2,q.cells,rfl,rfl,_,YN h hk hz hq,?_⟩;rintro _ oN ⟨rfl,h⟩;generalize tq s q=A at *;obtain⟨s',P⟩:=A;dsimp only at h |-;have a7:=h.g (x:=b7) (by rw[aC.ne n74,aC.ne n73,aC.ne n72,aC.eq]);refine⟨_,_,_,a7,rfl,rfl,λoN m10 g10=>?_⟩;replace m10:oN.heap[b7]? = some (.cells P.cells.toArray 57):=m10;replace h:=h.over (by rw[aC.ne n74,aC.ne n73,aC.ne n72,aC.eq]) g10 m10 q7;have a7:=h.g (x:=b7) (aC.eq _ b7 _);have a3:=h.g (x:=b3) (by rw[aC.ne n73.symm,aC.ne n34,aC.eq]);have a4:=h.g (x:=b4) (by rw[aC.ne n74.symm,aC.eq]);obtain⟨T,M,D,O,I,ls',hw⟩:=h;obtain⟨Ta,Tc,rfl⟩:=af hw.sa.t.own;obtain⟨Ma,Mc,rfl⟩:=af hw.sa.m.own;obtain⟨Da,Dc,rfl⟩:=af hw.sa.d.own;obtain⟨Oa,Oc,rfl⟩:=af hw.sa.o.own;obtain⟨Ia,Ic,rfl⟩:=af hw.sa.i.own;refine⟨by kernel_rfl,_,_,hw.mem,iJ s' (.slice Ta _ Tc) (.slice Ma _ Mc) (.slice Da _ Dc) (.slice Oa _ Oc) (.slice Ia _ Ic),rfl,rfl,_,_,a7,P.cells,rfl,rfl,_,_,_,a3,rfl,rfl,λDn m11 g11=>?_⟩;refine⟨⟨g11.get a7 (λe=>n73 (Option.some.inj e)),g11.get hw.mem (λe=>by injection e with e;have:=hw.nb;omega),trivial⟩,_,_,_,g11.get a4 (λe=>n34 (Option.some.inj e).symm),rfl,rfl,λWX m12 g12=>?_⟩;replace m11:Dn.heap[b3]? = some (.cells (iJ s' (.slice Ta _ Tc) (.slice Ma _ Mc) (.slice Da _ Dc) (.slice Oa _ Oc) (.slice Ia _ Ic)).toArray 31):=m11;obtain⟨r1,r2⟩:=xy (w0:=w) (by have:=G4.size;omega) G4 (by omega) (by omega) hw.sa (G4.trans hw.gb) m11 g11 (by omega) k4 g12;exact⟨_,_,g12.get m11 (λe=>n34 (Option.some.inj e)),iJ s' (.slice Ta _ Tc) (.slice Ma _ Mc) (.slice Da _ Dc) (.slice Oa _ Oc) (.slice Ia _ Ic),rfl,rfl,_,_,m12,P.cells,rfl,rfl,_,_,_,_,_,rfl,r1,r2⟩
 by_cases k2:kd=2
 ·subst k2
  rw[if_neg (by decide),if_pos rfl];refine⟨_,_,a2,_,rfl,_,_,a2,eu r (.slice ra rn rc) (.slice sj yA su),rfl,rfl,_,PU h hk hz hI hr4 hrb.1 hrb.2.1 hrb.2.2,?_⟩;rintro _ oN ⟨rfl,h⟩;generalize uF s r=s' at *;have a7:=h.g (x:=b7) (by rw[aC.ne n74,aC.ne n73,aC.ne n72,aC.eq]);have a3:=h.g (x:=b3) (by rw[aC.ne n34,aC.eq]);have a4:=h.g (x:=b4) (aC.eq _ b4 _);obtain⟨T,M,D,O,I,ls',hw⟩:=h;obtain⟨Ta,Tc,rfl⟩:=af hw.sa.t.own;obtain⟨Ma,Mc,rfl⟩:=af hw.sa.m.own;obtain⟨Da,Dc,rfl⟩:=af hw.sa.d.own;obtain⟨Oa,Oc,rfl⟩:=af hw.sa.o.own;obtain⟨Ia,Ic,rfl⟩:=af hw.sa.i.own;refine⟨by kernel_rfl,_,_,hw.mem,iJ s' (.slice Ta _ Tc) (.slice Ma _ Mc) (.slice Da _ Dc) (.slice Oa _ Oc) (.slice Ia _ Ic),rfl,rfl,_,_,a7,uk.cells,rfl,rfl,_,_,_,a3,rfl,rfl,λDn m11 g11=>?_⟩;refine⟨⟨g11.get a7 (λe=>n73 (Option.some.inj e)),g11.get hw.mem (λe=>by injection e with e;have:=hw.nb;omega),trivial⟩,_,_,_,g11.get a4 (λe=>n34 (Option.some.inj e).symm),rfl,rfl,λWX m12 g12=>?_⟩;replace m11:Dn.heap[b3]? = some (.cells (iJ s' (.slice Ta _ Tc) (.slice Ma _ Mc) (.slice Da _ Dc) (.slice Oa _ Oc) (.slice Ia _ Ic)).toArray 31):=m11;obtain⟨r1,r2⟩:=xy (w0:=w) (by have:=G4.size;omega) G4 (by omega) (by omega) hw.sa (G4.trans hw.gb) m11 g11 (by omega) k4 g12;exact⟨_,_,g12.get m11 (λe=>n34 (Option.some.inj e)),iJ s' (.slice Ta _ Tc) (.slice Ma _ Mc) (.slice Da _ Dc) (.slice Oa _ Oc) (.slice Ia _ Ic),rfl,rfl,_,_,m12,uk.cells,rfl,rfl,_,_,_,_,_,rfl,r1,r2⟩
 by_cases k3:kd=3
 ·subst k3
  rw[if_neg (by decide),if_neg (by decide),if_pos rfl];refine⟨_,_,a2,_,rfl,_,_,a2,.int .u8 peer,rfl,_,_,a2,.int .u32 seq,rfl,_,Sy h hk (λo ho=>Nat.le_trans (hz.q o ho).1 (by decide)) hp,?_⟩;rintro _ oN ⟨rfl,h⟩;generalize sZ s peer seq=s' at *;have a7:=h.g (x:=b7) (by rw[aC.ne n74,aC.ne n73,aC.ne n72,aC.eq]);have a3:=h.g (x:=b3) (by rw[aC.ne n34,aC.eq]);have a4:=h.g (x:=b4) (aC.eq _ b4 _);obtain⟨T,M,D,O,I,ls',hw⟩:=h;obtain⟨Ta,Tc,rfl⟩:=af hw.sa.t.own;obtain⟨Ma,Mc,rfl⟩:=af hw.sa.m.own;obtain⟨Da,Dc,rfl⟩:=af hw.sa.d.own;obtain⟨Oa,Oc,rfl⟩:=af hw.sa.o.own;obtain⟨Ia,Ic,rfl⟩:=af hw.sa.i.own;refine⟨by kernel_rfl,_,_,hw.mem,iJ s' (.slice Ta _ Tc) (.slice Ma _ Mc) (.slice Da _ Dc) (.slice Oa _ Oc) (.slice Ia _ Ic),rfl,rfl,_,_,a7,uk.cells,rfl,rfl,_,_,_,a3,rfl,rfl,λDn m11 g11=>?_⟩;refine⟨⟨g11.get a7 (λe=>n73 (Option.some.inj e)),g11.get hw.mem (λe=>by injection e with e;have:=hw.nb;omega),trivial⟩,_,_,_,g11.get a4 (λe=>n34 (Option.some.inj e).symm),rfl,rfl,λWX m12 g12=>?_⟩;replace m11:Dn.heap[b3]? = some (.cells (iJ s' (.slice Ta _ Tc) (.slice Ma _ Mc) (.slice Da _ Dc) (.slice Oa _ Oc) (.slice Ia _ Ic)).toArray 31):=m11;obtain⟨r1,r2⟩:=xy (w0:=w) (by have:=G4.size;omega) G4 (by omega) (by omega) hw.sa (G4.trans hw.gb) m11 g11 (by omega) k4 g12;exact⟨_,_,g12.get m11 (λe=>n34 (Option.some.inj e)),iJ s' (.slice Ta _ Tc) (.slice Ma _ Mc) (.slice Da _ Dc) (.slice Oa _ Oc) (.slice Ia _ Ic),rfl,rfl,_,_,m12,uk.cells,rfl,rfl,_,_,_,_,_,rfl,r1,r2⟩
 ·rw[if_neg k1,if_neg k2,if_neg k3]
  refine⟨_,_,a2,.int .u8 kd,rfl,?_⟩;refine aj (λe=>absurd (by simpa using e) k1) (λ_=>?_);refine aj (λe=>absurd (by simpa using e) k2) (λ_=>?_);refine aj (λe=>absurd (by simpa using e) k3) (λ_=>?_);have a7:=h.g (x:=b7) (by rw[aC.ne n74,aC.ne n73,aC.ne n72,aC.eq]);have a3:=h.g (x:=b3) (by rw[aC.ne n34,aC.eq]);have a4:=h.g (x:=b4) (aC.eq _ b4 _);obtain⟨T,M,D,O,I,ls',hw⟩:=h;obtain⟨Ta,Tc,rfl⟩:=af hw.sa.t.own;obtain⟨Ma,Mc,rfl⟩:=af hw.sa.m.own;obtain⟨Da,Dc,rfl⟩:=af hw.sa.d.own;obtain⟨Oa,Oc,rfl⟩:=af hw.sa.o.own;obtain⟨Ia,Ic,rfl⟩:=af hw.sa.i.own;refine⟨by kernel_rfl,_,_,hw.mem,iJ s (.slice Ta _ Tc) (.slice Ma _ Mc) (.slice Da _ Dc) (.slice Oa _ Oc) (.slice Ia _ Ic),rfl,rfl,_,_,a7,uk.cells,rfl,rfl,_,_,_,a3,rfl,rfl,λDn m11 g11=>?_⟩;refine⟨⟨g11.get a7 (λe=>n73 (Option.some.inj e)),g11.get hw.mem (λe=>by injection e with e;have:=hw.nb;omega),trivial⟩,_,_,_,g11.get a4 (λe=>n34 (Option.some.inj e).symm),rfl,rfl,λWX m12 g12=>?_⟩;replace m11:Dn.heap[b3]? = some (.cells (iJ s (.slice Ta _ Tc) (.slice Ma _ Mc) (.slice Da _ Dc) (.slice Oa _ Oc) (.slice Ia _ Ic)).toArray 31):=m11;obtain⟨r1,r2⟩:=xy (w0:=w) (by have:=G4.size;omega) G4 (by omega) (by omega) hw.sa (G4.trans hw.gb) m11 g11 (by omega) k4 g12;exact⟨_,_,g12.get m11 (λe=>n34 (Option.some.inj e)),iJ s (.slice Ta _ Tc) (.slice Ma _ Mc) (.slice Da _ Dc) (.slice Oa _ Oc) (.slice Ia _ Ic),rfl,rfl,_,_,m12,uk.cells,rfl,rfl,_,_,_,_,_,rfl,r1,r2⟩
end
