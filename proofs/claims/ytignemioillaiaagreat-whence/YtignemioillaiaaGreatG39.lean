/- A shard at work (14): delegate, do. -/
import Derived.Test.YtignemioillaiaaGreatG38
namespace Go.Proofs.YtignemioillaiaaGreat
set_option maxHeartbeats 8000000
set_option maxRecDepth 100000
section
open Go Go.Conc
section
variable{Λ:aD}{w0 w:World}{b:Nat}{s:St}
theorem Sk.Ky(h:Sk Λ w0 b s w){w1 w2 w3:World}{b1 b2 b3:Nat}{o1 o2 o3:Obj}(g1:GB none w w1)(m1:w1.heap[b1]? = some o1)(l1:w.heap.size<=b1)(g2:GB none w1 w2)(m2:w2.heap[b2]? = some o2)(l2:w1.heap.size<=b2)(g3:GB none w2 w3)(m3:w3.heap[b3]? = some o3)(l3:w2.heap.size<=b3):Sk (((Λ.add b1 o1).add b2 o2).add b3 o3) w0 b s w3/\b1≠b2/\b1≠b3/\b2≠b3/\(Λ b1=none/\Λ b2=none/\Λ b3=none)/\w0.heap.size<=b1/\w0.heap.size<=b2/\w0.heap.size<=b3:=by
 have hs:=h.sz;obtain⟨h1,u1⟩:=h.box g1 m1 l1;obtain⟨h2,u2⟩:=h1.box g2 m2 l2;obtain⟨h3,u3⟩:=h2.box g3 m3 l3;have k1:=ae m1;have k2:=ae m2;have e1:=g1.size;have e2:=g2.size;have e3:=g3.size;have n12:b1≠b2:=by omega
 have n13:b1≠b3:=by omega
 have n23:b2≠b3:=by omega
 rw[aD.ne n12.symm]at u2;rw[aD.ne n23.symm,aD.ne n13.symm]at u3;exact⟨h3,n12,n13,n23,⟨u1,u2,u3⟩,by omega,by omega,by omega⟩
theorem KA{Λ:aD}{b1 b2 b3:Nat}(hu:Λ b1=none/\Λ b2=none/\Λ b3=none):∀x o,Λ x=some o->x≠b1/\x≠b2/\x≠b3:=by
 intro x o hx;refine⟨λe=>?_,λe=>?_,λe=>?_⟩
 ·rw[e,hu.1]at hx;cases hx
 ·rw[e,hu.2.1]at hx;cases hx
 ·rw[e,hu.2.2]at hx;cases hx
theorem LW(h:Sk Λ w0 b s w)(hk:vR s)(hz:DN s){q:bQ}(h0:0<=q.key)(h1:q.key<=q.hi)(h2:q.hi<=18446744073709551615)(h3:0<=q.to)(p:aB):ag Tryz.prog 142 #[Ptt b,.agg q.cells.toArray,.agg p.cells.toArray] w (λv w'=>v=.agg (zn s q p).2.cells.toArray/\Sk Λ w0 b (zn s q p).1 w'):=by
 refine aj ah mixed Tryz.func142 rfl rfl ?_;refine λw1 b1 m1 g1 l1 w2 b2 m2 g2 l2 w3 b3 m3 g3 l3=>?_
 obtain⟨h,n12,n13,n23,hu,q1,q2,q3⟩:=h.Ky g1 m1 l1 g2 m2 l2 g3 m3 l3;have a1:=h.g (x:=b1) (by rw[aD.ne n13,aD.ne n12,aD.eq]);obtain⟨T,M,D,O,I,ls,hw⟩:=h;refine⟨_,_,a1,q.cells,rfl,rfl,_,Rz hw hk h0 h1 h2 h3,?_⟩;rintro _ w4 ⟨g4,va,vn,vc,rfl,hP⟩;have uM:∀x,gT s q=true->(Value.slice va vn vc).ownBlock=some x->_:=λx hf hx=>hw.qM ((hP hf).new x hx)
 have hgb:=hw.gb;have h:Sk (((Λ.add b1 _).add b2 _).add b3 _) w0 b s w4:=⟨T,M,D,O,I,ls,hw.ax g4⟩;clear m1 g1 l1 m2 g2 l2 m3 g3 l3 a1;unfold zn;obtain⟨f,hf⟩:∃f,gT s q=f:=⟨_,rfl⟩;rw[hf]at hP uM |-;have a2:=h.g (x:=b2) (by rw[aD.ne n23,aD.eq]);cases f
 ·refine⟨_,_,_,a2,rfl,rfl,λw5 m5 g5=>?_⟩
  replace m5:w5.heap[b2]? = some (.cells (aB.cells { p with k:=5 }).toArray 57):=m5;replace h:=h.over (by rw[aD.ne n23,aD.eq]) g5 m5 q2;refine⟨_,_,m5,aB.cells { p with k:=5 },rfl,rfl,_,pg h hk.sD (Nat.le_trans hz.d (by decide)) { p with k:=5 },?_⟩;rintro _ w6 ⟨rfl,h⟩;have m6:=h.g (aD.eq _ b2 _);have m7:=h.g (x:=b3) (by rw[aD.ne n23.symm,aD.eq]);refine⟨_,_,m6,aB.cells { p with k:=5 },rfl,rfl,_,_,_,m7,rfl,rfl,λw7 m8 g8=>?_⟩;replace h:=h.over (by rw[aD.ne n23.symm,aD.eq]) g8 m8 q3;refine⟨_,_,m8,aB.cells { p with k:=5 },rfl,rfl,rfl,h.weak λx o hx=>?_⟩;obtain⟨e1,e2,e3⟩:=KA hu x o hx;rw[aD.ne e3,aD.ne e2,aD.ne e3,aD.ne e2,aD.ne e1];exact hx
 ·have hP:=hP rfl
  have hto:q.to<s.n/\(bJ s.O q.to).2.length<4:=by unfold gT at hf;simp at hf;exact⟨hf.1.1.2,hf.1.2⟩
  have wR:0<(iL s.M q.key q.hi q.to).length:=by
   obtain⟨gc,_⟩:=AP hk.can h0 h1 (by omega) (g:=q.to) ⟨h3,by have:=hk.n4;omega⟩;cases hg:iL s.M q.key q.hi q.to with
   |nil=>rw[hg]at gc;exact gc.elim
   |cons _ _=>exact Nat.succ_pos _
  obtain⟨x,cap,cur,ev,hcx,_,_,_⟩:=jq hP.own wR;have hxn:=hP.new x (by rw[ev];rfl);have ux:=uM x rfl (by rw[ev];rfl);replace h:Sk ((((Λ.add b1 _).add b2 _).add b3 _).add x _) w0 b s w4:=⟨T,M,D,O,I,ls,hw.box g4 hcx hxn⟩;have nx2:x≠b2:=λe=>by rw[e,aD.ne n23,aD.eq]at ux;cases ux
  have nx3:x≠b3:=λe=>by rw[e,aD.eq]at ux;cases ux
  have Wp:x≠b1:=λe=>by rw[e,aD.ne n13,aD.ne n12,aD.eq]at ux;cases ux
  refine⟨_,_,_,a2,rfl,rfl,λw5 m5 g5=>?_⟩;replace m5:w5.heap[b2]? = some (.cells (aB.cells { p with k:=2 }).toArray 57):=m5;replace h:=h.over (by rw[aD.ne nx2.symm,aD.ne n23,aD.eq]) g5 m5 q2;refine⟨_,_,m5,aB.cells { p with k:=2 },rfl,rfl,_,pg h hk.sD (Nat.le_trans hz.d (by decide)) { p with k:=2 },?_⟩;rintro _ w6 ⟨rfl,h⟩;have aaG:=Ni hk.sD { p with k:=2 };have hlm:bJ s.O q.to∈s.O:=by
   unfold bJ;have hl:q.to.toNat<s.O.length:=by have:=hk.ol;omega
   rw[List.getElem?_eq_getElem hl];exact List.getElem_mem hl
  have m6:=h.g (x:=b1) (by rw[aD.ne n12,aD.ne Wp.symm,aD.ne n13,aD.ne n12,aD.eq]);refine⟨_,_,m6,q.cells,rfl,rfl,_,LV h ⟨hk.g0,hk.gn,hk.n4,hk.sT,aaG.1,hk.CL,hk.can,hk.ol,hk.il⟩ hz.t (by show(ji s.D _).length<=_;have:=aaG.2;have:=hz.d;omega) h3 hto.1 (by show(bJ s.O q.to).2.length<=_;omega) (hz.q _ hlm).2,?_⟩;rintro _ w7 ⟨rfl,h⟩;have hx7:=h.g (x:=x) (by rw[aD.ne nx2,aD.eq]);replace h:Sk ((((Λ.add b1 _).add b2 _).add b3 _).add b2 _) w0 b _ w7:=h.weak λy o hy=>by
   by_cases e2:y=b2
   ·subst e2;rw[aD.eq]at hy |-;exact hy
   ·rw[aD.ne e2]at hy |-
    have ex:y≠x:=λe=>by rw[e]at hy;rw[ux]at hy;cases hy
    rw[aD.ne ex];exact hy
  obtain⟨T,M',D,O,I,ls,hw'⟩:=h;have PM:PN w0 w7 (.slice va vn vc) (iL s.M q.key q.hi q.to):=⟨az hP.own λy hy=>by
   rw[ev]at hy;obtain rfl:x=y:=by simpa[Value.ownBlock]using hy
   rw[hx7,hcx],hw'.gb,λy hy=>Nat.le_trans hgb.size (hP.new y hy)⟩
  refine⟨_,_,_,hw'.mem,rfl,rfl,λw8 m8 g8=>?_⟩;have h:Sk ((((Λ.add b1 _).add b2 _).add b3 _).add b2 _) w0 b { BZ { s with D:=ji s.D { p with k:=2 } } q with M:=iL s.M q.key q.hi q.to } w8:=⟨_,_,_,_,_,_,hw'.aaz PM (λy hy=>by
   have hy':=hy;rw[ev]at hy';obtain rfl:x=y:=by simpa[Value.ownBlock]using hy'
   rw[aD.ne nx2];exact ux) m8 g8⟩
  have m9:=h.g (aD.eq _ b2 _);have m10:=h.g (x:=b3) (by rw[aD.ne n23.symm,aD.eq]);refine⟨_,_,m9,aB.cells { p with k:=2 },rfl,rfl,_,_,_,m10,rfl,rfl,λw9 m11 g11=>?_⟩;replace h:=h.over (by rw[aD.ne n23.symm,aD.eq]) g11 m11 q3;refine⟨_,_,m11,aB.cells { p with k:=2 },rfl,rfl,rfl,h.weak λy o hy=>?_⟩;obtain⟨e1,e2,e3⟩:=KA hu y o hy;rw[aD.ne e3,aD.ne e2,aD.ne e3,aD.ne e2,aD.ne e1];exact hy
end
structure bQ.wfi(q:bQ):Prop where
 key:0<=q.key/\q.key<=18446744073709551615
 hi:0<=q.hi/\q.hi<=18446744073709551615
 to:0<=q.to
theorem ab0{q:bQ}(h:kJ q=true):q.k=1\/q.k=2\/q.k=3\/q.k=4/\q.key<=q.hi/\q.to<4:=by
 unfold kJ at h;simp only[Bool.and_eq_true]at h;obtain⟨_,h⟩:=h;split at h
 ·rename_i k;omega
 split at h
 ·rename_i k;omega
 split at h
 ·rename_i k
  simp at h;exact .inr (.inr (.inr ⟨k,h.1,h.2.1⟩))
 ·cases h
theorem Ye{s:St}{q:bQ}(hk:vR s)(hz:DN s)(h4:q.k=4)(h3:0<=q.to):zn s q (lT q)=(oW s q,kV s q):=by
 unfold zn oW kV;rw[h4];by_cases hf:gT s q=true
 ·have hto:q.to<s.n:=by unfold gT at hf;simp at hf;exact hf.1.1.2
  have hlm:bJ s.O q.to∈s.O:=by
   unfold bJ;have hl:q.to.toNat<s.O.length:=by have:=hk.ol;omega
   rw[List.getElem?_eq_getElem hl];exact List.getElem_mem hl
  have hq:=(hz.q _ hlm).2;simp only[hf,if_true];unfold Z5 BZ;rw[wrap_u32 (by omega)];rfl
 ·simp only[hf]
  rfl
theorem aD.twice(Λ:aD)(b:Nat)(o o':Obj):(Λ.add b o).add b o'=Λ.add b o':=by
 funext y
 unfold aD.add;split<;>rfl
section
variable{Λ:aD}{w0 w:World}{b:Nat}{s:St}
theorem RG(h:Sk Λ w0 b s w)(hk:vR s)(hz:DN s){q:bQ}(hq:kJ q=true)(hw:q.wfi):ag Tryz.prog 85 #[Ptt b,.agg q.cells.toArray,.agg (lT q).cells.toArray] w (λv w'=>v=.agg (kV s q).cells.toArray/\Sk Λ w0 b (oW s q) w'):=by
 have hkk:=ab0 hq;have fin:∀{b1 b2 b3:Nat} {o1 o2 o3:Obj} {p:aB} {s':St} {w9:World},(b1≠b2/\b1≠b3/\b2≠b3)->(Λ b1=none/\Λ b2=none/\Λ b3=none)->w0.heap.size<=b3->∀{c:Array Value} {t:Nat},o3=.cells c t->Sk ((((Λ.add b1 o1).add b2 o2).add b3 o3).add b2 (.cells p.cells.toArray 57)) w0 b s' w9->w9.heap[b2]? = some (.cells p.cells.toArray 57)/\w9.heap[b3]? = some o3/\∀(oN:World) (m:oN.heap[b3]? = some (.cells p.cells.toArray 57)) (g:GB (some b3) w9 oN),Sk Λ w0 b s' oN:=by
  rintro b1 b2 b3 o1 o2 o3 p s' w9 ⟨n12,n13,n23⟩ hu q3 c t rfl h;refine⟨h.g (aD.eq _ b2 _),h.g (by rw[aD.ne n23.symm,aD.eq]),λoN m g=>?_⟩;refine(h.over (by rw[aD.ne n23.symm,aD.eq]) g m q3).weak λx o hx=>?_
  obtain⟨e1,e2,e3⟩:=KA hu x o hx;rw[aD.ne e3,aD.ne e2,aD.ne e3,aD.ne e2,aD.ne e1];exact hx
 obtain⟨c,sq,k,key,val,hi,to⟩:=q;obtain⟨hw1,hw2,hw3⟩:=hw;dsimp only at hkk hw1 hw2 hw3;rcases hkk with rfl|rfl|rfl|⟨rfl,hlh,hto⟩
 ·have eP:kV s ⟨c,sq,1,key,val,hi,to⟩=⟨c,sq,key,1,kU s.T key,rV s.T key,0⟩:=by simp[kV]
  have eS:oW s ⟨c,sq,1,key,val,hi,to⟩={ s with D:=ji s.D ⟨c,sq,key,1,kU s.T key,rV s.T key,0⟩ }:=by simp[oW,eP]
  rw[eP,eS];refine aj ah mixed Tryz.func85 rfl rfl ?_;refine λw1 b1 m1 g1 l1 w2 b2 m2 g2 l2 w3 b3 m3 g3 l3=>?_
  obtain⟨h,n12,n13,n23,hu,q1,q2,q3⟩:=h.Ky g1 m1 l1 g2 m2 l2 g3 m3 l3;have a1:=h.g (x:=b1) (by rw[aD.ne n13,aD.ne n12,aD.eq]);have a2:=h.g (x:=b2) (by rw[aD.ne n23,aD.eq]);clear m1 g1 l1 m2 g2 l2 m3 g3 l3;refine⟨_,_,a1,_,rfl,_,_,_,a2,rfl,rfl,λw4 m4 g4=>?_⟩;replace h:=h.over (by rw[aD.ne n23,aD.eq]) g4 m4 q2;have a1:=h.g (x:=b1) (by rw[aD.ne n12,aD.ne n13,aD.ne n12,aD.eq]);obtain⟨T,M,D,O,I,ls,hw⟩:=h;refine⟨_,_,a1,.int .u64 key,rfl,_,aaq hw.mem hw.sa.t.fz (Nat.le_trans hz.t (by decide)) hk.sT key,?_⟩;rintro _ w5 ⟨rfl,g5⟩;have h:Sk ((((Λ.add b1 _).add b2 _).add b3 _).add b2 _) w0 b s w5:=⟨_,_,_,_,_,_,hw.ax g5⟩;refine⟨_,_,_,g5.get m4 nofun,rfl,rfl,λw6 m6 g6=>?_⟩;replace h:=h.over (aD.eq _ b2 _) g6 m6 q2;refine⟨_,_,_,m6,rfl,rfl,λw7 m7 g7=>?_⟩;replace h:=h.over (aD.eq _ b2 _) g7 m7 q2;rw[aD.twice,aD.twice]at h;replace h:Sk ((((Λ.add b1 _).add b2 _).add b3 _).add b2 (.cells (aB.cells ⟨c,sq,key,1,kU s.T key,rV s.T key,0⟩).toArray 57)) w0 b s w7:=h;replace m7:w7.heap[b2]? = some (.cells (aB.cells ⟨c,sq,key,1,kU s.T key,rV s.T key,0⟩).toArray 57):=m7;refine⟨_,_,m7,aB.cells ⟨c,sq,key,1,kU s.T key,rV s.T key,0⟩,rfl,rfl,_,pg h hk.sD (Nat.le_trans hz.d (by decide)) ⟨c,sq,key,1,kU s.T key,rV s.T key,0⟩,?_⟩;rintro _ w8 ⟨rfl,h⟩;obtain⟨m8,m9,hf⟩:=fin ⟨n12,n13,n23⟩ hu q3 rfl h;exact⟨_,_,m8,aB.cells ⟨c,sq,key,1,kU s.T key,rV s.T key,0⟩,rfl,rfl,_,_,_,m9,rfl,rfl,λw9 m10 g10=>⟨_,_,m10,aB.cells ⟨c,sq,key,1,kU s.T key,rV s.T key,0⟩,rfl,rfl,rfl,hf w9 m10 g10⟩⟩
 ·have eP:kV s ⟨c,sq,2,key,val,hi,to⟩=⟨c,sq,key,rW s.T key,false,0,0⟩:=by simp[kV]
  have eS:oW s ⟨c,sq,2,key,val,hi,to⟩={ s with T:=oD s.T key val,D:=ji s.D ⟨c,sq,key,rW s.T key,false,0,0⟩ }:=by simp[oW,eP]
  rw[eP,eS];refine aj ah mixed Tryz.func85 rfl rfl ?_;refine λw1 b1 m1 g1 l1 w2 b2 m2 g2 l2 w3 b3 m3 g3 l3=>?_
  obtain⟨h,n12,n13,n23,hu,q1,q2,q3⟩:=h.Ky g1 m1 l1 g2 m2 l2 g3 m3 l3;have a1:=h.g (x:=b1) (by rw[aD.ne n13,aD.ne n12,aD.eq]);have a2:=h.g (x:=b2) (by rw[aD.ne n23,aD.eq]);clear m1 g1 l1 m2 g2 l2 m3 g3 l3;refine⟨_,_,a1,_,rfl,_,_,a1,.int .u64 key,rfl,_,_,a1,.int .u64 val,rfl,_,aaA h hk.sT hz.t key val,?_⟩;rintro _ w5 ⟨rfl,h⟩;have a2:=h.g (x:=b2) (by rw[aD.ne n23,aD.eq]);refine⟨_,_,_,a2,rfl,rfl,λw7 m7 g7=>?_⟩;replace h:=h.over (by rw[aD.ne n23,aD.eq]) g7 m7 q2;replace h:Sk ((((Λ.add b1 _).add b2 _).add b3 _).add b2 (.cells (aB.cells ⟨c,sq,key,rW s.T key,false,0,0⟩).toArray 57)) w0 b { s with T:=oD s.T key val } w7:=h;replace m7:w7.heap[b2]? = some (.cells (aB.cells ⟨c,sq,key,rW s.T key,false,0,0⟩).toArray 57):=m7;refine⟨_,_,m7,aB.cells ⟨c,sq,key,rW s.T key,false,0,0⟩,rfl,rfl,_,pg h hk.sD (Nat.le_trans hz.d (by decide)) ⟨c,sq,key,rW s.T key,false,0,0⟩,?_⟩;rintro _ w8 ⟨rfl,h⟩;obtain⟨m8,m9,hf⟩:=fin ⟨n12,n13,n23⟩ hu q3 rfl h;exact⟨_,_,m8,aB.cells ⟨c,sq,key,rW s.T key,false,0,0⟩,rfl,rfl,_,_,_,m9,rfl,rfl,λw9 m10 g10=>⟨_,_,m10,aB.cells ⟨c,sq,key,rW s.T key,false,0,0⟩,rfl,rfl,rfl,hf w9 m10 g10⟩⟩
 ·have eP:kV s ⟨c,sq,3,key,val,hi,to⟩=⟨c,sq,key,2,false,0,0⟩:=by simp[kV]
  have eS:oW s ⟨c,sq,3,key,val,hi,to⟩={ s with T:=xu s.T key,D:=ji s.D ⟨c,sq,key,2,false,0,0⟩ }:=by simp[oW,eP]
  rw[eP,eS];refine aj ah mixed Tryz.func85 rfl rfl ?_;refine λw1 b1 m1 g1 l1 w2 b2 m2 g2 l2 w3 b3 m3 g3 l3=>?_
  obtain⟨h,n12,n13,n23,hu,q1,q2,q3⟩:=h.Ky g1 m1 l1 g2 m2 l2 g3 m3 l3;have a1:=h.g (x:=b1) (by rw[aD.ne n13,aD.ne n12,aD.eq]);have a2:=h.g (x:=b2) (by rw[aD.ne n23,aD.eq]);clear m1 g1 l1 m2 g2 l2 m3 g3 l3;refine⟨_,_,a1,_,rfl,_,_,a1,.int .u64 key,rfl,_,Ry h hk.sT hz.t key,?_⟩;rintro _ w5 ⟨rfl,h⟩;have a2:=h.g (x:=b2) (by rw[aD.ne n23,aD.eq]);refine⟨_,_,_,a2,rfl,rfl,λw7 m7 g7=>?_⟩;replace h:=h.over (by rw[aD.ne n23,aD.eq]) g7 m7 q2;replace h:Sk ((((Λ.add b1 _).add b2 _).add b3 _).add b2 (.cells (aB.cells ⟨c,sq,key,2,false,0,0⟩).toArray 57)) w0 b { s with T:=xu s.T key } w7:=h;replace m7:w7.heap[b2]? = some (.cells (aB.cells ⟨c,sq,key,2,false,0,0⟩).toArray 57):=m7;refine⟨_,_,m7,aB.cells ⟨c,sq,key,2,false,0,0⟩,rfl,rfl,_,pg h hk.sD (Nat.le_trans hz.d (by decide)) ⟨c,sq,key,2,false,0,0⟩,?_⟩;rintro _ w8 ⟨rfl,h⟩;obtain⟨m8,m9,hf⟩:=fin ⟨n12,n13,n23⟩ hu q3 rfl h;exact⟨_,_,m8,aB.cells ⟨c,sq,key,2,false,0,0⟩,rfl,rfl,_,_,_,m9,rfl,rfl,λw9 m10 g10=>⟨_,_,m10,aB.cells ⟨c,sq,key,2,false,0,0⟩,rfl,rfl,rfl,hf w9 m10 g10⟩⟩
 ·have e2:=Ye (q:=⟨c,sq,4,key,val,hi,to⟩) hk hz rfl hw3
  have e3:oW s ⟨c,sq,4,key,val,hi,to⟩=(zn s ⟨c,sq,4,key,val,hi,to⟩ (lT ⟨c,sq,4,key,val,hi,to⟩)).1:=by rw[e2]
  have e4:kV s ⟨c,sq,4,key,val,hi,to⟩=(zn s ⟨c,sq,4,key,val,hi,to⟩ (lT ⟨c,sq,4,key,val,hi,to⟩)).2:=by rw[e2]
  rw[e3,e4];clear e2 e3 e4;refine aj ah mixed Tryz.func85 rfl rfl ?_;refine λw1 b1 m1 g1 l1 w2 b2 m2 g2 l2 w3 b3 m3 g3 l3=>?_
  obtain⟨h,n12,n13,n23,hu,q1,q2,q3⟩:=h.Ky g1 m1 l1 g2 m2 l2 g3 m3 l3;have a1:=h.g (x:=b1) (by rw[aD.ne n13,aD.ne n12,aD.eq]);have a2:=h.g (x:=b2) (by rw[aD.ne n23,aD.eq]);clear m1 g1 l1 m2 g2 l2 m3 g3 l3;refine⟨_,_,a1,_,rfl,_,_,a1,bQ.cells ⟨c,sq,4,key,val,hi,to⟩,rfl,rfl,_,_,a2,(lT ⟨c,sq,4,key,val,hi,to⟩).cells,rfl,rfl,_,LW h hk hz (q:=⟨c,sq,4,key,val,hi,to⟩) hw1.1 hlh hw2.2 hw3 (lT ⟨c,sq,4,key,val,hi,to⟩),?_⟩;rintro _ w5 ⟨rfl,h⟩;have a3:=h.g (x:=b3) (aD.eq _ b3 _);generalize (zn s ⟨c,sq,4,key,val,hi,to⟩ (lT ⟨c,sq,4,key,val,hi,to⟩)).2=P at *;generalize (zn s ⟨c,sq,4,key,val,hi,to⟩ (lT ⟨c,sq,4,key,val,hi,to⟩)).1=S' at *;refine⟨_,_,_,a3,rfl,rfl,λw9 m10 g10=>⟨_,_,m10,P.cells,rfl,rfl,rfl,?_⟩⟩;refine(h.over (aD.eq _ b3 _) g10 m10 q3).weak λx o hx=>?_
  obtain⟨e1,e2,e3⟩:=KA hu x o hx;rw[aD.ne e3,aD.ne e3,aD.ne e2,aD.ne e1];exact hx
end
section
variable{Λ:aD}{w0 w:World}{b:Nat}{s:St}
theorem aaI{Λ:aD}{b1 b2:Nat}(hu:Λ b1=none/\Λ b2=none):∀x o,Λ x=some o->x≠b1/\x≠b2:=by
 intro x o hx;refine⟨λe=>?_,λe=>?_⟩
 ·rw[e,hu.1]at hx;cases hx
 ·rw[e,hu.2]at hx;cases hx
theorem Yf(h:Sk Λ w0 b s w)(hk:vR s)(hz:DN s){q:bQ}(hw:q.wfi):ag Tryz.prog 44 #[Ptt b,.agg q.cells.toArray] w (λv w'=>v=.agg (ug s q).2.cells.toArray/\Sk Λ w0 b (ug s q).1 w'):=by
 refine aj ah mixed Tryz.func44 rfl rfl ?_;refine λw1 b1 m1 g1 l1 w2 b2 m2 g2 l2=>?_
 have hs0:=h.sz;obtain⟨h,u1⟩:=h.box g1 m1 l1;obtain⟨h,u2⟩:=h.box g2 m2 l2;have n12:b1≠b2:=by have:=ae m1;omega
 have q2:w0.heap.size<=b2:=by have:=g1.size;omega
 rw[aD.ne n12.symm]at u2;have a1:=h.g (x:=b1) (by rw[aD.ne n12,aD.eq]);clear m1 g1 l1 m2 g2 l2;refine⟨_,_,a1,q.cells,rfl,rfl,_,y7 w2 q,?_⟩;rintro _ w3 ⟨rfl,g3⟩;replace h:=h.ax g3;replace a1:=g3.get a1 nofun;have a2:=h.g (x:=b2) (aD.eq _ b2 _);have done:∀{Λ':aD} {s':St} {w8:World} (P:aB),(∀x o,Λ x=some o->Λ' x=some o)->∀{c:Array Value} {t:Nat},Λ' b2=some (.cells c t)->Sk Λ' w0 b s' w8->∀w9 (m:w9.heap[b2]? = some (.cells P.cells.toArray 57)) (g:GB (some b2) w8 w9),Sk Λ w0 b s' w9:=λP hwk _ _ h2 h w9 m g=>(h.over h2 g m q2).weak λx o hx=>by
  rw[aD.ne (aaI ⟨u1,u2⟩ x o hx).2];exact hwk x o hx
 have wk2:∀{o1 o2:Obj},∀x o,Λ x=some o->((Λ.add b1 o1).add b2 o2) x=some o:=λx o hx=>by
  obtain⟨e1,e2⟩:=aaI ⟨u1,u2⟩ x o hx;rw[aD.ne e2,aD.ne e1];exact hx
 unfold ug;obtain⟨ok,hok⟩:∃ok,kJ q=ok:=⟨_,rfl⟩;rw[hok];cases ok
 ·refine⟨_,_,_,a2,rfl,rfl,λw4 m4 g4=>?_⟩
  exact⟨_,_,m4,tJ.cells,rfl,rfl,rfl,done tJ wk2 (aD.eq _ b2 _) h w4 m4 g4⟩
 simp only[Bool.true_eq_false,if_false];refine⟨_,_,a1,.int .u8 q.c,rfl,_,_,a1,.int .u32 q.s,rfl,_,_,a1,.int .u64 q.key,rfl,λw4 b5 m5 g5 l5=>⟨_,_,_,m5,rfl,rfl,λw5 m6 g6=>?_⟩⟩;replace m6:w5.heap[b5]? = some (.cells (lT q).cells.toArray 57):=m6;have q5:w0.heap.size<=b5:=Nat.le_trans h.sz l5;have n15:b1≠b5:=by have:=ae a1;omega
 have n25:b2≠b5:=by have:=ae a2;omega
 obtain⟨h,u5⟩:=h.box (g5.new g6 l5) m6 l5;rw[aD.ne n25.symm,aD.ne n15.symm]at u5;replace a1:=(g5.new g6 l5).get a1 nofun;clear a2 g5 g6 l5 m5;have RH:∀{o1 o2 o3:Obj},∀x o,Λ x=some o->(((Λ.add b1 o1).add b2 o2).add b5 o3) x=some o:=λx o hx=>by
  obtain⟨e1,e2,e3⟩:=KA ⟨u1,u2,u5⟩ x o hx;rw[aD.ne e3,aD.ne e2,aD.ne e1];exact hx
 obtain⟨T,M,D,O,I,ls,hsw⟩:=h;refine⟨_,_,a1,.int .u64 q.key,rfl,_,_,a1,.int .u64 q.key,rfl,_,_,a1,.int .u64 q.hi,rfl,_,LU (hi:=M0 q) hsw.mem hsw.sa.m.fz hk.CL hk.can hw.key.1,?_⟩;rintro _ w6 ⟨rfl,g6⟩;replace hsw:=hsw.ax g6;replace a1:=g6.get a1 nofun;replace m6:=g6.get m6 nofun;have h:Sk (((Λ.add b1 _).add b2 _).add b5 _) w0 b s w6:=⟨_,_,_,_,_,_,hsw⟩;have a2:=h.g (x:=b2) (by rw[aD.ne n25,aD.eq]);obtain⟨st,hst⟩:∃st,OY s.M s.g q.key (M0 q)=st:=⟨_,rfl⟩;rw[hst];cases st
 rotate_left
 ·simp only[if_true]
  refine⟨_,_,_,m6,rfl,rfl,λw7 m7 g7=>?_⟩;replace h:=h.over (aD.eq _ b5 _) g7 m7 q5;refine⟨_,_,_,m7,rfl,rfl,λw8 m8 g8=>?_⟩;replace h:=h.over (aD.eq _ b5 _) g8 m8 q5;rw[aD.twice,aD.twice]at h;have a2:=h.g (x:=b2) (by rw[aD.ne n25,aD.eq]);refine⟨_,_,m8,aB.cells ⟨q.c,q.s,q.key,3,false,0,Kb s.M s.g q.key (M0 q)⟩,rfl,rfl,_,_,_,a2,rfl,rfl,λw9 m9 g9=>?_⟩;exact⟨_,_,m9,aB.cells ⟨q.c,q.s,q.key,3,false,0,Kb s.M s.g q.key (M0 q)⟩,rfl,rfl,rfl,done _ RH (by rw[aD.ne n25,aD.eq]) h w9 m9 g9⟩
 simp only[Bool.false_eq_true,if_false];refine⟨_,_,m6,(lT q).cells,rfl,rfl,_,Ru hsw.mem hsw.sa.d.fz (Nat.le_trans hz.d (by decide)) hk.sD (lT q),?_⟩;rintro _ w7 ⟨rfl,g7⟩;replace hsw:=hsw.ax g7;replace a1:=g7.get a1 nofun;replace a2:=g7.get a2 nofun;replace m6:=g7.get m6 nofun;replace h:Sk (((Λ.add b1 _).add b2 _).add b5 _) w0 b s w7:=⟨_,_,_,_,_,_,hsw⟩;obtain⟨hd,hhd⟩:∃hd,Ka s.D (lT q)=hd:=⟨_,rfl⟩;rw[hhd];cases hd
 ·simp only[Bool.false_eq_true,if_false]
  refine⟨by kernel_rfl,?_⟩;refine⟨_,_,a1,q.cells,rfl,rfl,_,_,m6,(lT q).cells,rfl,rfl,_,RG h hk hz hok hw,?_⟩;rintro _ w8 ⟨rfl,h⟩;have a2:=h.g (x:=b2) (by rw[aD.ne n25,aD.eq]);refine⟨_,_,_,a2,rfl,rfl,λw9 m9 g9=>?_⟩;exact⟨_,_,m9,(kV s q).cells,rfl,rfl,rfl,done _ RH (by rw[aD.ne n25,aD.eq]) h w9 m9 g9⟩
 obtain⟨x,hx,hx0⟩:=yg hhd;have hi:zM s.D (lT q)<s.D.length:=(List.getElem?_eq_some_iff.1 hx).1;have hx':s.D[zM s.D (lT q)]? = some x:=hx;simp only[if_true,hx'];obtain⟨g,cap,cur,ev,hg,aS,hcut,hsz⟩:=hsw.sa.d.at (f:=aB.cells) (λ_=>rfl) hx;subst ev;have hcs:cur.toList[0+((zM s.D (lT q):Nat):Int).toNat*7+1]? = some (.int .u32 x.s):=iF hcut rfl (by decide);refine⟨by kernel_rfl,_,_,hsw.mem,_,rfl,⟨by omega,by omega⟩,_,_,aS,.int .u32 x.s,hcs,_,_,a1,.int .u32 q.s,rfl,au (λe=>?_) (λe=>?_)⟩
 ·have e1:=of_decide_eq_true e
  rw[if_neg (by omega)];refine⟨by kernel_rfl,_,_,hsw.mem,_,rfl,⟨by omega,by omega⟩,_,_,aS,.int .u32 x.s,hcs,_,_,a1,.int .u32 q.s,rfl,au (λf=>?_) (λf=>?_)⟩
  ·rw[if_pos (eq_of_beq f)]
   refine⟨_,_,hsw.mem,_,rfl,⟨by omega,by omega⟩,_,_,aS,x.cells,hcut,rfl,_,_,_,a2,rfl,rfl,λw9 m9 g9=>?_⟩;exact⟨_,_,m9,x.cells,rfl,rfl,rfl,done x RH (by rw[aD.ne n25,aD.eq]) h w9 m9 g9⟩
  ·rw[if_neg (by simpa using f)]
   refine⟨_,_,_,m6,rfl,rfl,λw8 m8 g8=>?_⟩;replace h:=h.over (aD.eq _ b5 _) g8 m8 q5;rw[aD.twice]at h;have a2:=h.g (x:=b2) (by rw[aD.ne n25,aD.eq]);refine⟨_,_,m8,aB.cells ⟨q.c,q.s,q.key,4,false,0,0⟩,rfl,rfl,_,_,_,a2,rfl,rfl,λw9 m9 g9=>?_⟩;exact⟨_,_,m9,aB.cells ⟨q.c,q.s,q.key,4,false,0,0⟩,rfl,rfl,rfl,done _ RH (by rw[aD.ne n25,aD.eq]) h w9 m9 g9⟩
 ·have e1:=of_decide_eq_false e
  rw[if_pos (by omega)];refine⟨_,_,a1,q.cells,rfl,rfl,_,_,m6,(lT q).cells,rfl,rfl,_,RG h hk hz hok hw,?_⟩;rintro _ w8 ⟨rfl,h⟩;have a2:=h.g (x:=b2) (by rw[aD.ne n25,aD.eq]);refine⟨_,_,_,a2,rfl,rfl,λw9 m9 g9=>?_⟩;exact⟨_,_,m9,(kV s q).cells,rfl,rfl,rfl,done _ RH (by rw[aD.ne n25,aD.eq]) h w9 m9 g9⟩
end
theorem Wq(l:List Int):(l.map λi=>[Value.int .u32 i]).flatten=l.map λi=>Value.int .u32 i:=by
 induction l with
 |nil=>rfl
 |cons x l ih=>rw[List.map_cons,List.flatten_cons,ih];rfl
theorem Pd{α:Type}(v1 v2 v3:Value)(a b c:List α):(([(v1,a),(v2,b),(v3,c)]:List (Value×List α)).map (·.2)).flatten=a++(b++c):=by simp
section
variable{Λ:aD}{w0 w:World}{b:Nat}{s:St}{T M D O I:Value}{ls:List La}
theorem LN.one{w0 w:World}{v:Value}{l:List Int}(h:LN 47 1 w0 w v l.length (l.map λi=>Value.int .u32 i)):LN 47 1 w0 w v l.length (l.map λi=>[Value.int .u32 i]).flatten:=by rw[Wq];exact h
theorem RJ(h:Sw Λ w0 b s w T M D O I ls)(hk:vR s)(hI:∀x∈s.I,0<=x/\x<4294967295){r:Rg}{ra da:Option Addr}{rn rc dn dc:Nat}(h0:0<=r.src):ag Tryz.prog 87 #[Ptt b,.agg (dP r (.slice ra rn rc) (.slice da dn dc)).toArray] w (λv w'=>v=.bool (zg s.g s.n s.I r)/\GB none w w'):=by
 have ja:=hk.n4;have hil:=hk.il;refine aj ah mixed Tryz.func87 rfl rfl ?_;refine λw1 b1 m1 g1 l1=>?_
 replace h:=h.ax g1;unfold zg;refine⟨by kernel_rfl,_,_,m1,.int .u8 r.dst,rfl,_,_,h.mem,.int .u8 s.g,rfl,au (λe=>?_) (λe=>?_)⟩
 ·have e1:r.dst=s.g:=eq_of_beq (b11 e)
  refine⟨_,_,m1,.int .u8 r.src,rfl,_,_,h.mem,.int .u8 s.g,rfl,au (λe=>?_) (λe=>?_)⟩
  ·have e2:¬r.src=s.g:=by simpa using b11 e
   refine⟨_,_,m1,.int .u8 r.src,rfl,_,_,h.mem,.int .u8 s.n,rfl,au (λe=>?_) (λe=>?_)⟩
   ·have e3:r.src<s.n:=of_decide_eq_true (b11 e)
    obtain⟨j,hj⟩:=Int.eq_ofNat_of_zero_le h0;obtain⟨x,hx⟩:∃x,s.I[j]? = some x:=⟨s.I[j]'(by omega),by simp[show j<s.I.length by omega]⟩;obtain⟨g,cap,cur,ev,hg,aS,hcut,hsz⟩:=h.sa.i.one.at (f:=λi=>[Value.int .u32 i]) (λ_=>rfl) hx;subst ev;have hxb:=hI x (List.mem_of_getElem? hx);have hcell:cur.toList[0+r.src.toNat*1]? = some (.int .u32 x):=by
     have:=iF hcut (i:=0) rfl (by decide);rw[hj];exact this
    have hw:IntKind.u32.wrap ((s.I[r.src.toNat]?).getD 0+1)=x+1:=by
     rw[hj,Int.toNat_natCast,hx];exact wrap_u32 (by show 0<=x+1/\x+1<_;omega)
    refine⟨_,_,m1,.int .u32 r.seq,rfl,_,_,h.mem,_,rfl,_,_,m1,.int .u8 r.src,rfl,⟨by omega,by omega⟩,_,_,aS,.int .u32 x,hcell,⟨by omega,by omega⟩,?_⟩;refine⟨congrArg Value.bool ?_,g1⟩;rw[hw];simp[e1,e2,e3]
   ·have e3:¬r.src<s.n:=of_decide_eq_false (b10 e)
    exact⟨congrArg Value.bool (by simp[e3]),g1⟩
  ·have e2:r.src=s.g:=by simpa using b10 e
   exact⟨congrArg Value.bool (by simp[e2]),g1⟩
 ·have e1:¬r.dst=s.g:=by simpa using b10 e
  exact⟨congrArg Value.bool (by simp[e1]),g1⟩
theorem H8{r:Rg}(h:oU r=true):r.lo<=r.hi/\BS r=true/\za r=true:=by
 unfold oU at h;simp only[Bool.and_eq_true,decide_eq_true_eq]at h;exact⟨h.2.2.2.1,h.2.2.2.2.1,h.2.2.2.2.2⟩
theorem Pe(h:Sk Λ w0 b s w)(hk:vR s)(hz:DN s)(hI:∀x∈s.I,0<=x/\x<4294967295){r:Rg}{rv dv:Value}(hr:aL w0 r rv dv)(h0:0<=r.src)(h1:0<=r.lo)(h2:r.hi<=18446744073709551615):ag Tryz.prog 45 #[Ptt b,.agg (dP r rv dv).toArray] w (λv w'=>v=.tuple #[]/\Sk Λ w0 b (xw s r) w'):=by
 obtain⟨ra,rn,rc,da,dn,dc,rfl,rfl⟩:=hr.sl;have ja:=hk.n4;have hil:=hk.il;have hgn:=hk.gn;refine aj ah mixed Tryz.func45 rfl rfl ?_;refine λw1 b1 m1 g1 l1=>?_
 have hs0:=h.sz;obtain⟨h,u1⟩:=h.box g1 m1 l1;clear m1 g1 l1;obtain⟨T,M,D,O,I,ls,h⟩:=h;refine⟨_,_,h.at,dP r _ _,rfl,rfl,_,DI (hr.kz h.gb.kz),?_⟩;rintro _ w2 ⟨rfl,g2⟩;replace h:=h.ax g2;unfold xw;obtain⟨ok,hok⟩:∃ok,oU r=ok:=⟨_,rfl⟩;rw[hok];cases ok
 ·rw[if_neg (by simp)]
  exact⟨rfl,_,_,_,_,_,_,h.drop u1⟩
 obtain⟨hlh,hrows,Pf⟩:=H8 hok;obtain⟨_,_,hrl⟩:=CQ hrows;obtain⟨_,_,hdl⟩:=CR Pf;refine⟨_,_,h.at,dP r _ _,rfl,rfl,_,RJ h hk hI h0,?_⟩;rintro _ w3 ⟨rfl,g3⟩;replace h:=h.ax g3;obtain⟨nb,hnb⟩:∃nb,zg s.g s.n s.I r=nb:=⟨_,rfl⟩;rw[hnb];cases nb
 ·rw[if_neg (by simp)]
  exact⟨rfl,_,_,_,_,_,_,h.drop u1⟩
 have hsrc:r.src<s.n:=by unfold zg at hnb;simp at hnb;exact hnb.1.2
 have hM:zN w3 M s.M:=h.sa.m.fz;refine⟨by kernel_rfl,_,_,h.mem,_,rfl,_,_,h.at,.int .u64 r.lo,rfl,_,_,h.at,.int .u64 r.hi,rfl,_,_,h.mem,.int .u8 s.g,rfl,_,M5 hM hk.CL hk.can h1 hlh h2 (by omega:s.g<4),?_⟩;rintro _ w4 ⟨v',e',rfl,g4,hc⟩;rcases hc with⟨c1,rfl,P⟩|⟨c1,rfl,rfl⟩;rotate_left
 ·rw[if_neg (by rintro⟨_,_,z⟩;omega)]
  exact⟨rfl,_,_,_,_,_,_,(h.ax g4).drop u1⟩
 rw[if_pos ⟨rfl,rfl,c1⟩];have uM:∀x,v'.ownBlock=some x->_:=λx hx=>h.qM (P.new x hx)
 replace P:=P.base h.gb;obtain⟨va,vc,rfl⟩:=af P.own;replace h:=h.ax g4;refine⟨_,_,_,h.mem,rfl,rfl,λw5 m5 g5=>?_⟩;replace h:=h.aaz P uM m5 g5;clear m5 g5 P uM hM g2 g3 g4;obtain⟨j,hj⟩:=Int.eq_ofNat_of_zero_le h0;obtain⟨x,hx⟩:∃x,s.I[j]? = some x:=⟨s.I[j]'(by omega),by simp[show j<s.I.length by omega]⟩;obtain⟨g,cap,cur,ev,hg,aS,hcut,hsz⟩:=h.sa.i.one.at (f:=λi=>[Value.int .u32 i]) (λ_=>rfl) hx;subst ev;refine⟨by kernel_rfl,_,_,h.mem,_,rfl,_,_,h.at,.int .u8 r.src,rfl,_,_,h.at,.int .u32 r.seq,rfl,⟨by omega,by show r.src<(s.I.length:Int);omega⟩,_,_,_,aS,gp rfl rfl (by rw[Array.length_toList];show 0+r.src.toNat*1<_;have hsz':s.I.length*1<=cur.size:=hsz;omega),rfl,λw6 m6 g6=>?_⟩;have LI:=h.sa.i.one.set (f:=λi=>[Value.int .u32 i]) (j:=0) (x':=r.seq) (λ_=>rfl) aS hx (by decide) rfl m6 (by show 0+r.src.toNat*1=j*1+0;omega) rfl rfl g6;rw[Wq]at LI;have ejn:r.src.toNat=j:=by omega
 replace h:=h.aeO (i':=s.I.set r.src.toNat r.seq) (by rw[ejn];simp only[List.length_set]at LI |-;exact LI) g6;clear aS hcut hsz m6 g6 LI;obtain⟨f1,f2,f3⟩:=IQ (λx:Row=>x.key) r.lo r.hi s.T;obtain⟨e1,e2,e3⟩:=IQ (λx:aB=>x.key) r.lo r.hi s.D;have hzt:=hz.t;have hzd:=hz.d;refine⟨by kernel_rfl,_,_,h.mem,_,rfl,_,_,h.at,.int .u64 r.lo,rfl,_,_,h.at,.int .u64 r.hi,rfl,_,HY h.sa.t.fz (Nat.le_trans hzt (by decide)) r.lo r.hi,?_⟩;rintro _ w7 ⟨v1,v2,v3,rfl,L1,L2,L3,sp⟩;obtain⟨a1,c1',rfl⟩:=af L1.own;obtain⟨a2,c2',rfl⟩:=af L2.own;obtain⟨a3,c3',rfl⟩:=af L3.own;replace h:=h.ax L1.gb;refine⟨_,_,h.at,(.slice ra rn rc),rfl,λw8 vb Bp g8 Kr=>?_⟩;replace h:=h.ax g8;refine⟨_,E8 (xs:=[(_,sB (λx:Row=>x.key) r.lo s.T),(_,r.rows),(_,sA (λx:Row=>x.key) r.lo r.hi s.T)]) Bp ?_ (by rw[show eU _=_ from Pd _ _ _ _ _ _,List.length_append,List.length_append];omega) (by show 3<=100;decide),?_⟩
 ·intro x hx
  simp only[List.mem_cons,List.not_mem_nil,or_false]at hx;rcases hx with rfl|rfl|rfl
  ·exact(L1.ax g8).fz
  ·exact hr.1.kz h.gb.kz (by decide)
  ·exact(L3.ax g8).fz
 intro X' w9 LX;rw[show eU [_,_,_]=_ from Pd _ _ _ _ _ _]at LX;obtain⟨xa,xc,rfl⟩:=af LX.own;refine⟨_,_,_,LX.gb.get h.mem nofun,rfl,rfl,λoN m10 g10=>?_⟩;replace h:=h.oD (t':=sB (λx:Row=>x.key) r.lo s.T++(r.rows++sA (λx:Row=>x.key) r.lo r.hi s.T)) (LX.base h.gb) LX.gb.weak (λx hx=>.inr (LX.new x hx)) m10 g10;clear L1 L2 L3 sp LX m10 g10 Bp g8 Kr;refine⟨by kernel_rfl,_,_,h.mem,_,rfl,_,_,h.at,.int .u64 r.lo,rfl,_,_,h.at,.int .u64 r.hi,rfl,_,HZ h.sa.d.fz (Nat.le_trans hzd (by decide)) r.lo r.hi,?_⟩;rintro _ w7 ⟨v1,v2,v3,rfl,L1,L2,L3,sp⟩;obtain⟨a1,c1',rfl⟩:=af L1.own;obtain⟨a2,c2',rfl⟩:=af L2.own;obtain⟨a3,c3',rfl⟩:=af L3.own;replace h:=h.ax L1.gb;refine⟨_,_,h.at,(.slice da dn dc),rfl,λw8 vb Bp g8 Kr=>?_⟩;replace h:=h.ax g8;refine⟨_,E9 (xs:=[(_,sB (λx:aB=>x.key) r.lo s.D),(_,r.aW),(_,sA (λx:aB=>x.key) r.lo r.hi s.D)]) Bp ?_ (by rw[show eX _=_ from Pd _ _ _ _ _ _,List.length_append,List.length_append];omega) (by show 3<=100;decide),?_⟩
 ·intro x hx
  simp only[List.mem_cons,List.not_mem_nil,or_false]at hx;rcases hx with rfl|rfl|rfl
  ·exact(L1.ax g8).fz
  ·exact hr.2.kz h.gb.kz (by decide)
  ·exact(L3.ax g8).fz
 intro X' w9 LX;rw[show eX [_,_,_]=_ from Pd _ _ _ _ _ _]at LX;obtain⟨xa,xc,rfl⟩:=af LX.own;refine⟨_,_,_,LX.gb.get h.mem nofun,rfl,rfl,λoN m10 g10=>?_⟩;replace h:=h.O7 (d':=sB (λx:aB=>x.key) r.lo s.D++(r.aW++sA (λx:aB=>x.key) r.lo r.hi s.D)) (LX.base h.gb) LX.gb.weak (λx hx=>.inr (LX.new x hx)) m10 g10;clear L1 L2 L3 sp LX m10 g10 Bp g8 Kr;exact⟨rfl,_,_,_,_,_,_,h.drop u1⟩
end
end
