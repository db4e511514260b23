/- A shard at work (18): Apply. -/
import Derived.Test.YtignemioillaiaaGreatG39
namespace Go.Proofs.YtignemioillaiaaGreat
set_option maxHeartbeats 8000000
set_option maxRecDepth 100000
section
open Go Go.Conc
section
variable{Λ:aD}{w0 w:World}{b:Nat}{s:St}{T M D O I:Value}{ls:List La}
theorem Sw.old(h:Sw Λ w0 b s w T M D O I ls){x:Nat}{o:Obj}(hx:w.heap[x]? = some o)(hl:x<w0.heap.size):Sw (Λ.add x o) w0 b s w T M D O I ls:=by
 refine⟨h.mem,h.nb,h.sa,λy q hy=>?_,λy q hy=>?_⟩
 ·unfold aD.add at hy
  split at hy
  ·rename_i e;subst e;cases hy;exact⟨hx,λho=>by have:=h.new ho;omega⟩
  ·exact h.pr y q hy
 ·unfold aD.add at hy
  split at hy
  ·rename_i e;subst e
   intro hr;rcases hr with hr|⟨l,hl',z,hz,hr|hr⟩
   ·have:=h.sa.m.new _ hr;omega
   ·have:=((h.sa.q l hl').r z hz).r.new _ hr;omega
   ·have:=((h.sa.q l hl').r z hz).d.new _ hr;omega
  ·exact h.rd y q hy
def aaJ:aD:=λ_=>none
theorem wT{w0 wf:World}(_hs:w0.heap.size<=wf.heap.size)(_gf:GB none w0 wf){s:St}{T M D O I:Value}{ls:List La}{w:World}{b3 b4:Nat}(n3:w0.heap.size<=b3)(n4:w0.heap.size<=b4){w':World}(S:SA wf w s T M D O I ls)(g3:GB none w0 w){w1:World}(_m1:w1.heap[b3]? = some (.cells (iC s T M D O I).toArray 31))(g1:GB (some b3) w w1)(h3:b3<wf.heap.size)(h4:b4<wf.heap.size)(g2:GB (some b4) w1 w'):(∀w'':World,(∀x,w0.heap.size<=x->x<w'.heap.size->w''.heap[x]? = w'.heap[x]?)->fM w'' T M D O I s)/\GB none w0 w':=by
 refine⟨λw'' hw=>S.over λx hx hxl=>?_,(g3.new g1 n3).new g2 n4⟩;have k1:=g1.size;have k2:=g2.size;rw[hw x (by omega) (by omega),g2.block x (by omega) (λe=>by injection e with e;omega),g1.block x hxl (λe=>by injection e with e;omega)]
end
theorem UW{w:World}{s:St}{c:MC}{vT vM vD vO vI cv:Value}(h:fM w vT vM vD vO vI s)(hk:vR s)(hz:DN s)(hS:StS s)(hI:∀x∈s.I,0<=x/\x<4294967295)(hc:jS w cv c)(hq:c.q.wfi)(hrb:0<=c.r.src/\0<=c.r.lo/\c.r.hi<=18446744073709551615)(hp:0<=c.peer):ag Tryz.prog 12 #[.agg (iC s vT vM vD vO vI).toArray,cv] w (λv w'=>∃T M D O I,v=.tuple #[.agg (iC (oF s c).1 T M D O I).toArray,.agg (oF s c).2.cells.toArray]/\(∀w'':World,(∀x,w.heap.size<=x->x<w'.heap.size->w''.heap[x]? = w'.heap[x]?)->fM w'' T M D O I (oF s c).1)/\GB none w w'):=by
 obtain⟨ta,tc,rfl,hT'⟩:=h.T;obtain⟨ma,mc',rfl,hM'⟩:=h.M;obtain⟨da,dc,rfl,hD'⟩:=h.D;obtain⟨_,_,⟨oa,oc,rfl,hO'⟩,_⟩:=h.O;obtain⟨ia,ic,rfl,hI'⟩:=h.I;obtain⟨rv,dv,rfl,hr⟩:=hc;obtain⟨ra,rn,rc,qi,zL,qj,e1,e2⟩:=hr.sl;subst e1 e2;refine aj ah mixed Tryz.func12 rfl rfl ?_;refine λw1 b1 m1 g1 l1 w2 b2 m2 g2 l2 w3 b3 m3 g3 l3 w4 b4 m4 g4 l4=>?_
 have j1:=ae m1;have j2:=ae m2;have j3:=ae m3;have k4:=ae m4;have z1:=g1.size;have z2:=g2.size;have z3:=g3.size;have z4:=g4.size;have n34:b3≠b4:=by omega
 have n23:b2≠b3:=by omega
 have n24:b2≠b4:=by omega
 have G4:=((g1.trans g2).trans g3).trans g4;have m1:=g4.get (g3.get (g2.get m1 nofun) nofun) nofun;have m2:=g4.get (g3.get m2 nofun) nofun;have m3:=g4.get m3 nofun;refine⟨_,_,m1,iC s (.slice ta _ tc) (.slice ma _ mc') (.slice da _ dc) (.slice oa _ oc) (.slice ia _ ic),rfl,rfl,_,UE (h.kz G4.kz) hS,?_⟩;rintro _ w5 ⟨T,M,D,O,I,ls,rfl,S⟩;have S5:=S;obtain⟨Ta,Tc,rfl⟩:=af S.t.own;obtain⟨Ma,Mc,rfl⟩:=af S.m.own;obtain⟨Da,Dc,rfl⟩:=af S.d.own;obtain⟨Oa,Oc,rfl⟩:=af S.o.own;obtain⟨Ia,Ic,rfl⟩:=af S.i.own;have hll:ls.length=s.O.length:=by rw[<-S.core,List.length_map]
 refine λw6 b6 m6 g6 l6=>⟨_,_,_,m6,rfl,rfl,λw7 m7 g7=>?_⟩
 refine λw8 b7 m8 g8 l8=>?_
 have z5:=S.t.gb.size;have z6:=g6.size;have z7:=g7.size;have h0:Sw aaJ w4 b6 s w7 _ _ _ _ _ ls:=⟨m7,by omega,S.ax (g6.new g7 l6),(λ_ _ h=>by cases h),(λ_ _ h=>by cases h)⟩;have G8:GB none w4 w8:=(S.t.gb.trans (g6.new g7 l6)).trans g8;have n72:b7≠b2:=by omega
 have n73:b7≠b3:=by omega
 have n74:b7≠b4:=by omega
 have q7:w4.heap.size<=b7:=by omega
 have hsw:=(((h0.box g8 m8 l8).old (G8.get m2 nofun) (by omega)).old (G8.get m3 nofun) (by omega)).old (G8.get m4 nofun) k4;clear h0 m6 g6 l6 m7 g7 m8 g8 l8 S S5;have hM8:zN w8 (.slice Ma s.M.length Mc) s.M:=hsw.sa.m.fz;refine⟨_,_,hsw.mem,iC s (.slice Ta _ Tc) (.slice Ma _ Mc) (.slice Da _ Dc) (.slice Oa _ Oc) (.slice Ia _ Ic),rfl,rfl,_,UF w8 hM8 hk.CL hk.can ⟨_,_,by rw[hll]⟩ ⟨_,_,rfl⟩ ⟨_,_,_,rfl⟩ ⟨_,_,_,rfl⟩ hk.gn hk.n4 (by have:=hk.g0;have:=hk.gn;omega) hk.ol hk.il,?_⟩;rintro _ w9 ⟨rfl,g9⟩;have h:Sk ((((aaJ.add b7 _).add b2 _).add b3 _).add b4 _) w4 b6 s w9:=⟨_,_,_,_,_,_,hsw.ax g9⟩;clear hsw hM8;have a2:=h.g (x:=b2) (by rw[aD.ne n24,aD.ne n23,aD.eq]);have hr4:=hr.kz G4.kz;obtain⟨kd,q,r,peer,seq⟩:=c;dsimp only at hr hq hrb hp hr4;unfold oF;dsimp only;by_cases k1:kd=1
 ·subst k1
  simp only[if_true];refine⟨_,_,a2,_,rfl,_,_,a2,q.cells,rfl,rfl,_,Yf h hk hz hq,?_⟩;rintro _ oN ⟨rfl,h⟩;generalize ug s q=A at *;obtain⟨s',P⟩:=A;dsimp only at h |-;have a7:=h.g (x:=b7) (by rw[aD.ne n74,aD.ne n73,aD.ne n72,aD.eq]);refine⟨_,_,_,a7,rfl,rfl,λoN m10 g10=>?_⟩;replace m10:oN.heap[b7]? = some (.cells P.cells.toArray 57):=m10;replace h:=h.over (by rw[aD.ne n74,aD.ne n73,aD.ne n72,aD.eq]) g10 m10 q7;have a7:=h.g (x:=b7) (aD.eq _ b7 _);have a3:=h.g (x:=b3) (by rw[aD.ne n73.symm,aD.ne n34,aD.eq]);have a4:=h.g (x:=b4) (by rw[aD.ne n74.symm,aD.eq]);obtain⟨T,M,D,O,I,ls',hw⟩:=h;obtain⟨Ta,Tc,rfl⟩:=af hw.sa.t.own;obtain⟨Ma,Mc,rfl⟩:=af hw.sa.m.own;obtain⟨Da,Dc,rfl⟩:=af hw.sa.d.own;obtain⟨Oa,Oc,rfl⟩:=af hw.sa.o.own;obtain⟨Ia,Ic,rfl⟩:=af hw.sa.i.own;refine⟨by kernel_rfl,_,_,hw.mem,iC s' (.slice Ta _ Tc) (.slice Ma _ Mc) (.slice Da _ Dc) (.slice Oa _ Oc) (.slice Ia _ Ic),rfl,rfl,_,_,a7,P.cells,rfl,rfl,_,_,_,a3,rfl,rfl,λCO m11 g11=>?_⟩;refine⟨⟨g11.get a7 (λe=>n73 (Option.some.inj e)),g11.get hw.mem (λe=>by injection e with e;have:=hw.nb;omega),trivial⟩,_,_,_,g11.get a4 (λe=>n34 (Option.some.inj e).symm),rfl,rfl,λWm m12 g12=>?_⟩;replace m11:CO.heap[b3]? = some (.cells (iC s' (.slice Ta _ Tc) (.slice Ma _ Mc) (.slice Da _ Dc) (.slice Oa _ Oc) (.slice Ia _ Ic)).toArray 31):=m11;obtain⟨r1,r2⟩:=wT (w0:=w) (by have:=G4.size;omega) G4 (by omega) (by omega) hw.sa (G4.trans hw.gb) m11 g11 (by omega) k4 g12;exact⟨_,_,g12.get m11 (λe=>n34 (Option.some.inj e)),iC s' (.slice Ta _ Tc) (.slice Ma _ Mc) (.slice Da _ Dc) (.slice Oa _ Oc) (.slice Ia _ Ic),rfl,rfl,_,_,m12,P.cells,rfl,rfl,_,_,_,_,_,rfl,r1,r2⟩
 by_cases k2:kd=2
 ·subst k2
  rw[if_neg (by decide),if_pos rfl];refine⟨_,_,a2,_,rfl,_,_,a2,dP r (.slice ra rn rc) (.slice qi zL qj),rfl,rfl,_,Pe h hk hz hI hr4 hrb.1 hrb.2.1 hrb.2.2,?_⟩;rintro _ oN ⟨rfl,h⟩;generalize xw s r=s' at *;have a7:=h.g (x:=b7) (by rw[aD.ne n74,aD.ne n73,aD.ne n72,aD.eq]);have a3:=h.g (x:=b3) (by rw[aD.ne n34,aD.eq]);have a4:=h.g (x:=b4) (aD.eq _ b4 _);obtain⟨T,M,D,O,I,ls',hw⟩:=h;obtain⟨Ta,Tc,rfl⟩:=af hw.sa.t.own;obtain⟨Ma,Mc,rfl⟩:=af hw.sa.m.own;obtain⟨Da,Dc,rfl⟩:=af hw.sa.d.own;obtain⟨Oa,Oc,rfl⟩:=af hw.sa.o.own;obtain⟨Ia,Ic,rfl⟩:=af hw.sa.i.own;refine⟨by kernel_rfl,_,_,hw.mem,iC s' (.slice Ta _ Tc) (.slice Ma _ Mc) (.slice Da _ Dc) (.slice Oa _ Oc) (.slice Ia _ Ic),rfl,rfl,_,_,a7,tJ.cells,rfl,rfl,_,_,_,a3,rfl,rfl,λCO m11 g11=>?_⟩;refine⟨⟨g11.get a7 (λe=>n73 (Option.some.inj e)),g11.get hw.mem (λe=>by injection e with e;have:=hw.nb;omega),trivial⟩,_,_,_,g11.get a4 (λe=>n34 (Option.some.inj e).symm),rfl,rfl,λWm m12 g12=>?_⟩;replace m11:CO.heap[b3]? = some (.cells (iC s' (.slice Ta _ Tc) (.slice Ma _ Mc) (.slice Da _ Dc) (.slice Oa _ Oc) (.slice Ia _ Ic)).toArray 31):=m11;obtain⟨r1,r2⟩:=wT (w0:=w) (by have:=G4.size;omega) G4 (by omega) (by omega) hw.sa (G4.trans hw.gb) m11 g11 (by omega) k4 g12;exact⟨_,_,g12.get m11 (λe=>n34 (Option.some.inj e)),iC s' (.slice Ta _ Tc) (.slice Ma _ Mc) (.slice Da _ Dc) (.slice Oa _ Oc) (.slice Ia _ Ic),rfl,rfl,_,_,m12,tJ.cells,rfl,rfl,_,_,_,_,_,rfl,r1,r2⟩
 by_cases k3:kd=3
 ·subst k3
  rw[if_neg (by decide),if_neg (by decide),if_pos rfl];refine⟨_,_,a2,_,rfl,_,_,a2,.int .u8 peer,rfl,_,_,a2,.int .u32 seq,rfl,_,RA h hk (λo ho=>Nat.le_trans (hz.q o ho).1 (by decide)) hp,?_⟩;rintro _ oN ⟨rfl,h⟩;generalize vN s peer seq=s' at *;have a7:=h.g (x:=b7) (by rw[aD.ne n74,aD.ne n73,aD.ne n72,aD.eq]);have a3:=h.g (x:=b3) (by rw[aD.ne n34,aD.eq]);have a4:=h.g (x:=b4) (aD.eq _ b4 _);obtain⟨T,M,D,O,I,ls',hw⟩:=h;obtain⟨Ta,Tc,rfl⟩:=af hw.sa.t.own;obtain⟨Ma,Mc,rfl⟩:=af hw.sa.m.own;obtain⟨Da,Dc,rfl⟩:=af hw.sa.d.own;obtain⟨Oa,Oc,rfl⟩:=af hw.sa.o.own;obtain⟨Ia,Ic,rfl⟩:=af hw.sa.i.own;refine⟨by kernel_rfl,_,_,hw.mem,iC s' (.slice Ta _ Tc) (.slice Ma _ Mc) (.slice Da _ Dc) (.slice Oa _ Oc) (.slice Ia _ Ic),rfl,rfl,_,_,a7,tJ.cells,rfl,rfl,_,_,_,a3,rfl,rfl,λCO m11 g11=>?_⟩;refine⟨⟨g11.get a7 (λe=>n73 (Option.some.inj e)),g11.get hw.mem (λe=>by injection e with e;have:=hw.nb;omega),trivial⟩,_,_,_,g11.get a4 (λe=>n34 (Option.some.inj e).symm),rfl,rfl,λWm m12 g12=>?_⟩;replace m11:CO.heap[b3]? = some (.cells (iC s' (.slice Ta _ Tc) (.slice Ma _ Mc) (.slice Da _ Dc) (.slice Oa _ Oc) (.slice Ia _ Ic)).toArray 31):=m11;obtain⟨r1,r2⟩:=wT (w0:=w) (by have:=G4.size;omega) G4 (by omega) (by omega) hw.sa (G4.trans hw.gb) m11 g11 (by omega) k4 g12;exact⟨_,_,g12.get m11 (λe=>n34 (Option.some.inj e)),iC s' (.slice Ta _ Tc) (.slice Ma _ Mc) (.slice Da _ Dc) (.slice Oa _ Oc) (.slice Ia _ Ic),rfl,rfl,_,_,m12,tJ.cells,rfl,rfl,_,_,_,_,_,rfl,r1,r2⟩
 ·rw[if_neg k1,if_neg k2,if_neg k3]
  refine⟨_,_,a2,.int .u8 kd,rfl,?_⟩;refine au (λe=>absurd (by simpa using e) k1) (λ_=>?_);refine au (λe=>absurd (by simpa using e) k2) (λ_=>?_);refine au (λe=>absurd (by simpa using e) k3) (λ_=>?_);have a7:=h.g (x:=b7) (by rw[aD.ne n74,aD.ne n73,aD.ne n72,aD.eq]);have a3:=h.g (x:=b3) (by rw[aD.ne n34,aD.eq]);have a4:=h.g (x:=b4) (aD.eq _ b4 _);obtain⟨T,M,D,O,I,ls',hw⟩:=h;obtain⟨Ta,Tc,rfl⟩:=af hw.sa.t.own;obtain⟨Ma,Mc,rfl⟩:=af hw.sa.m.own;obtain⟨Da,Dc,rfl⟩:=af hw.sa.d.own;obtain⟨Oa,Oc,rfl⟩:=af hw.sa.o.own;obtain⟨Ia,Ic,rfl⟩:=af hw.sa.i.own;refine⟨by kernel_rfl,_,_,hw.mem,iC s (.slice Ta _ Tc) (.slice Ma _ Mc) (.slice Da _ Dc) (.slice Oa _ Oc) (.slice Ia _ Ic),rfl,rfl,_,_,a7,tJ.cells,rfl,rfl,_,_,_,a3,rfl,rfl,λCO m11 g11=>?_⟩;refine⟨⟨g11.get a7 (λe=>n73 (Option.some.inj e)),g11.get hw.mem (λe=>by injection e with e;have:=hw.nb;omega),trivial⟩,_,_,_,g11.get a4 (λe=>n34 (Option.some.inj e).symm),rfl,rfl,λWm m12 g12=>?_⟩;replace m11:CO.heap[b3]? = some (.cells (iC s (.slice Ta _ Tc) (.slice Ma _ Mc) (.slice Da _ Dc) (.slice Oa _ Oc) (.slice Ia _ Ic)).toArray 31):=m11;obtain⟨r1,r2⟩:=wT (w0:=w) (by have:=G4.size;omega) G4 (by omega) (by omega) hw.sa (G4.trans hw.gb) m11 g11 (by omega) k4 g12;exact⟨_,_,g12.get m11 (λe=>n34 (Option.some.inj e)),iC s (.slice Ta _ Tc) (.slice Ma _ Mc) (.slice Da _ Dc) (.slice Oa _ Oc) (.slice Ia _ Ic),rfl,rfl,_,_,m12,tJ.cells,rfl,rfl,_,_,_,_,_,rfl,r1,r2⟩
noncomputable def zl(m e:Nat):Array Value:=((List.range (m*bE ah.T e)).map λq=>(zc ah.T e).getD (q%bE ah.T e) undef).toArray
theorem Nj{n:Nat}(hn:n<=4):(zl n 103).toList=((List.replicate n ((0,.slice none 0 0,[]):La)).map mr).flatten:=by
 have:n=0\/n=1\/n=2\/n=3\/n=4:=by omega
 rcases this with rfl|rfl|rfl|rfl|rfl<;>rfl
theorem RN{n:Nat}(hn:n<=4):(zl n 47).toList=(List.replicate n (0:Int)).map λi=>Value.int .u32 i:=by
 have:n=0\/n=1\/n=2\/n=3\/n=4:=by omega
 rcases this with rfl|rfl|rfl|rfl|rfl<;>rfl
structure Bgn(w:World)(g n b4 b6 bM bO bI:Nat)(w':World):Prop where
 m4:w'.heap[b4]? = some (.cells (zc ah.T 31).toArray 31)
 m6:w'.heap[b6]? = some (.cells #[.int .u8 g,.int .u8 n,.slice none 0 0,.slice (some ⟨bM,0,none⟩) 1 1,.slice none 0 0,.slice (some ⟨bO,0,none⟩) n n,.slice (some ⟨bI,0,none⟩) n n] 31)
 mM:w'.heap[bM]? = some (.cells #[.int .u64 0,.int .u8 0] 107)
 mO:w'.heap[bO]? = some (.cells (zl n 103) 103)
 mI:w'.heap[bI]? = some (.cells (zl n 47) 47)
 gb:GB none w w'
 l4:w.heap.size<=b4
 l6:w.heap.size<=b6
 lM:w.heap.size<=bM
 lO:w.heap.size<=bO
 lI:w.heap.size<=bI
 ne:b4≠b6
theorem GB.cO{r:Option Nat}{w w':World}{b:Nat}(h:GB r w w')(l:w'.heap.size<=b):w.heap.size<=b:=Nat.le_trans h.size l
theorem dR{w w1 v4 v5:World}{g n b4 bB bP bO bI:Nat}{c:Array Value}(gA:GB none w w1)(k4:GB none w1 v4)(l4:w.heap.size<=b4)(m4:w1.heap[b4]? = some (.cells (zc ah.T 31).toArray 31))(mP:v4.heap[bP]? = some (.cells #[.int .u64 0,.int .u8 0] 107))(mO:v4.heap[bO]? = some (.cells (zl n 103) 103))(mI:v4.heap[bI]? = some (.cells (zl n 47) 47))(mB:v4.heap[bB]? = some (.cells c 31))(LP:w1.heap.size<=bP)(LO:w1.heap.size<=bO)(LI:w1.heap.size<=bI)(LB:w1.heap.size<=bB)(m5:v5.heap[bB]? = some (.cells #[.int .u8 g,.int .u8 n,.slice none 0 0,.slice (some ⟨bP,0,none⟩) 1 1,.slice none 0 0,.slice (some ⟨bO,0,none⟩) n n,.slice (some ⟨bI,0,none⟩) n n] 31))(K5:GB (some bB) v4 v5):Bgn w g n b4 bB bP bO bI v5:=by
 have j:=ae m4;have z:=gA.size;have o:∀{x t:Nat} {c:Array Value},v4.heap[x]? = some (.cells c t)->t≠31->v5.heap[x]? = some (.cells c t):=λhx ht=>K5.get hx λe=>dw hx mB ht (Option.some.inj e)
 exact⟨K5.get (k4.get m4 nofun) (λe=>by injection e with e;omega),m5,o mP (by decide),o mO (by decide),o mI (by decide),(gA.trans k4).new K5 (by omega),l4,by omega,by omega,by omega,by omega,by omega⟩
theorem UX(w:World){g n:Nat}(hg:g<n)(hn:n<=4):ag Tryz.prog 8 #[.int .i64 g,.int .i64 n] w (λv w'=>∃T M D O I e,v=.tuple #[.agg (iC (Kc g n) T M D O I).toArray,.int .i64 e]/\(∀w'':World,(∀x,w.heap.size<=x->x<w'.heap.size->w''.heap[x]? = w'.heap[x]?)->fM w'' T M D O I (Kc g n))/\GB none w w'):=by
 refine tL ah Tryz.func8 rfl rfl ?_;refine CS.piece (Q:=λq w'=>∃b4,q=[(0,.int .i64 g),(1,.int .i64 n),(4,Ptt b4)]/\w'.heap[b4]? = some (.cells (zc ah.T 31).toArray 31)/\GB none w w'/\w.heap.size<=b4) (CS.of ah mixed (λw1 b1 m1 g1 l1=>⟨_,by exact⟨rfl,rfl,rfl,trivial⟩,b1,rfl,m1,g1,l1⟩)) ?_;rintro q w1 ⟨b4,rfl,m4,g1,l4⟩;refine CS.piece (Q:=λq w'=>q=[(0,.int .i64 g),(1,.int .i64 n),(4,Ptt b4)]/\w'=w1) (CS.of ah mixed ?_) ?_
 ·refine au (λe=>?_) (λe=>?_)
  ·refine au (λe=>?_) (λe=>?_)
   ·refine au (λe=>?_) (λe=>?_)
    ·have:=of_decide_eq_true e
     omega
    ·exact⟨_,by exact⟨rfl,rfl,rfl,trivial⟩,rfl,rfl⟩
   ·have:=of_decide_eq_true (b00 e)
    omega
  ·have:=of_decide_eq_true (b00 e)
   omega
 rintro q w1 ⟨rfl,rfl⟩;refine CS.piece (Q:=λq w'=>∃b6 bM bO bI,q=[(4,Ptt b4),(6,Ptt b6)]/\Bgn w g n b4 b6 bM bO bI w') (CS.of ah mixed ?_) ?_
 ·refine⟨by kernel_rfl,.inl ⟨⟨by omega,by omega⟩,.inl ⟨⟨by omega,by omega⟩,?_⟩⟩⟩
  refine⟨?_,?_,?_,?_⟩
  ·refine λv1 bP mP K1 LP=>?_
   refine⟨?_,?_,?_⟩
   ·refine⟨rfl,by omega,by omega,λv2 bO mO K2 LO=>?_⟩
    refine⟨?_,?_⟩
    ·refine⟨rfl,by omega,by omega,λv3 bI mI K3 LI=>?_⟩
     refine λv4 bB mB K4 LB=>?_
     refine⟨_,_,_,mB,rfl,rfl,λv5 m5 K5=>⟨_,by exact⟨rfl,rfl,trivial⟩,bB,bP,bO,bI,rfl,dR g1 (K1.trans (K2.trans (K3.trans K4))) l4 m4 ((K2.trans (K3.trans K4)).get mP nofun) ((K3.trans K4).get mO nofun) (K4.get mI nofun) mB LP (K1.cO LO) ((K1.trans K2).cO LI) ((K1.trans (K2.trans K3)).cO LB) m5 K5⟩⟩
    ·refine λv3 bB mB K3 LB=>?_
     refine⟨rfl,by omega,by omega,λv4 bI mI K4 LI=>?_⟩;refine⟨_,_,_,(K4.get mB nofun),rfl,rfl,λv5 m5 K5=>⟨_,by exact⟨rfl,rfl,trivial⟩,bB,bP,bO,bI,rfl,dR g1 (K1.trans (K2.trans (K3.trans K4))) l4 m4 ((K2.trans (K3.trans K4)).get mP nofun) ((K3.trans K4).get mO nofun) mI (K4.get mB nofun) LP (K1.cO LO) ((K1.trans (K2.trans K3)).cO LI) ((K1.trans K2).cO LB) m5 K5⟩⟩
   ·refine⟨rfl,by omega,by omega,λv2 bI mI K2 LI=>?_⟩
    refine⟨?_,?_⟩
    ·refine⟨rfl,by omega,by omega,λv3 bO mO K3 LO=>?_⟩
     refine λv4 bB mB K4 LB=>?_
     refine⟨_,_,_,mB,rfl,rfl,λv5 m5 K5=>⟨_,by exact⟨rfl,rfl,trivial⟩,bB,bP,bO,bI,rfl,dR g1 (K1.trans (K2.trans (K3.trans K4))) l4 m4 ((K2.trans (K3.trans K4)).get mP nofun) (K4.get mO nofun) ((K3.trans K4).get mI nofun) mB LP ((K1.trans K2).cO LO) (K1.cO LI) ((K1.trans (K2.trans K3)).cO LB) m5 K5⟩⟩
    ·refine λv3 bB mB K3 LB=>?_
     refine⟨rfl,by omega,by omega,λv4 bO mO K4 LO=>?_⟩;refine⟨_,_,_,(K4.get mB nofun),rfl,rfl,λv5 m5 K5=>⟨_,by exact⟨rfl,rfl,trivial⟩,bB,bP,bO,bI,rfl,dR g1 (K1.trans (K2.trans (K3.trans K4))) l4 m4 ((K2.trans (K3.trans K4)).get mP nofun) mO ((K3.trans K4).get mI nofun) (K4.get mB nofun) LP ((K1.trans (K2.trans K3)).cO LO) (K1.cO LI) ((K1.trans K2).cO LB) m5 K5⟩⟩
   ·refine λv2 bB mB K2 LB=>?_
    refine⟨?_,?_⟩
    ·refine⟨rfl,by omega,by omega,λv3 bO mO K3 LO=>?_⟩
     refine⟨rfl,by omega,by omega,λv4 bI mI K4 LI=>?_⟩;refine⟨_,_,_,((K3.trans K4).get mB nofun),rfl,rfl,λv5 m5 K5=>⟨_,by exact⟨rfl,rfl,trivial⟩,bB,bP,bO,bI,rfl,dR g1 (K1.trans (K2.trans (K3.trans K4))) l4 m4 ((K2.trans (K3.trans K4)).get mP nofun) (K4.get mO nofun) mI ((K3.trans K4).get mB nofun) LP ((K1.trans K2).cO LO) ((K1.trans (K2.trans K3)).cO LI) (K1.cO LB) m5 K5⟩⟩
    ·refine⟨rfl,by omega,by omega,λv3 bI mI K3 LI=>?_⟩
     refine⟨rfl,by omega,by omega,λv4 bO mO K4 LO=>?_⟩;refine⟨_,_,_,((K3.trans K4).get mB nofun),rfl,rfl,λv5 m5 K5=>⟨_,by exact⟨rfl,rfl,trivial⟩,bB,bP,bO,bI,rfl,dR g1 (K1.trans (K2.trans (K3.trans K4))) l4 m4 ((K2.trans (K3.trans K4)).get mP nofun) mO (K4.get mI nofun) ((K3.trans K4).get mB nofun) LP ((K1.trans (K2.trans K3)).cO LO) ((K1.trans K2).cO LI) (K1.cO LB) m5 K5⟩⟩
  ·refine⟨rfl,by omega,by omega,λv1 bO mO K1 LO=>?_⟩
   refine⟨?_,?_,?_⟩
   ·refine λv2 bP mP K2 LP=>?_
    refine⟨?_,?_⟩
    ·refine⟨rfl,by omega,by omega,λv3 bI mI K3 LI=>?_⟩
     refine λv4 bB mB K4 LB=>?_
     refine⟨_,_,_,mB,rfl,rfl,λv5 m5 K5=>⟨_,by exact⟨rfl,rfl,trivial⟩,bB,bP,bO,bI,rfl,dR g1 (K1.trans (K2.trans (K3.trans K4))) l4 m4 ((K3.trans K4).get mP nofun) ((K2.trans (K3.trans K4)).get mO nofun) (K4.get mI nofun) mB (K1.cO LP) LO ((K1.trans K2).cO LI) ((K1.trans (K2.trans K3)).cO LB) m5 K5⟩⟩
    ·refine λv3 bB mB K3 LB=>?_
     refine⟨rfl,by omega,by omega,λv4 bI mI K4 LI=>?_⟩;refine⟨_,_,_,(K4.get mB nofun),rfl,rfl,λv5 m5 K5=>⟨_,by exact⟨rfl,rfl,trivial⟩,bB,bP,bO,bI,rfl,dR g1 (K1.trans (K2.trans (K3.trans K4))) l4 m4 ((K3.trans K4).get mP nofun) ((K2.trans (K3.trans K4)).get mO nofun) mI (K4.get mB nofun) (K1.cO LP) LO ((K1.trans (K2.trans K3)).cO LI) ((K1.trans K2).cO LB) m5 K5⟩⟩
   ·refine⟨rfl,by omega,by omega,λv2 bI mI K2 LI=>?_⟩
    refine⟨?_,?_⟩
    ·refine λv3 bP mP K3 LP=>?_
     refine λv4 bB mB K4 LB=>?_
     refine⟨_,_,_,mB,rfl,rfl,λv5 m5 K5=>⟨_,by exact⟨rfl,rfl,trivial⟩,bB,bP,bO,bI,rfl,dR g1 (K1.trans (K2.trans (K3.trans K4))) l4 m4 (K4.get mP nofun) ((K2.trans (K3.trans K4)).get mO nofun) ((K3.trans K4).get mI nofun) mB ((K1.trans K2).cO LP) LO (K1.cO LI) ((K1.trans (K2.trans K3)).cO LB) m5 K5⟩⟩
    ·refine λv3 bB mB K3 LB=>?_
     refine λv4 bP mP K4 LP=>?_
     refine⟨_,_,_,(K4.get mB nofun),rfl,rfl,λv5 m5 K5=>⟨_,by exact⟨rfl,rfl,trivial⟩,bB,bP,bO,bI,rfl,dR g1 (K1.trans (K2.trans (K3.trans K4))) l4 m4 mP ((K2.trans (K3.trans K4)).get mO nofun) ((K3.trans K4).get mI nofun) (K4.get mB nofun) ((K1.trans (K2.trans K3)).cO LP) LO (K1.cO LI) ((K1.trans K2).cO LB) m5 K5⟩⟩
   ·refine λv2 bB mB K2 LB=>?_
    refine⟨?_,?_⟩
    ·refine λv3 bP mP K3 LP=>?_
     refine⟨rfl,by omega,by omega,λv4 bI mI K4 LI=>?_⟩;refine⟨_,_,_,((K3.trans K4).get mB nofun),rfl,rfl,λv5 m5 K5=>⟨_,by exact⟨rfl,rfl,trivial⟩,bB,bP,bO,bI,rfl,dR g1 (K1.trans (K2.trans (K3.trans K4))) l4 m4 (K4.get mP nofun) ((K2.trans (K3.trans K4)).get mO nofun) mI ((K3.trans K4).get mB nofun) ((K1.trans K2).cO LP) LO ((K1.trans (K2.trans K3)).cO LI) (K1.cO LB) m5 K5⟩⟩
    ·refine⟨rfl,by omega,by omega,λv3 bI mI K3 LI=>?_⟩
     refine λv4 bP mP K4 LP=>?_
     refine⟨_,_,_,((K3.trans K4).get mB nofun),rfl,rfl,λv5 m5 K5=>⟨_,by exact⟨rfl,rfl,trivial⟩,bB,bP,bO,bI,rfl,dR g1 (K1.trans (K2.trans (K3.trans K4))) l4 m4 mP ((K2.trans (K3.trans K4)).get mO nofun) (K4.get mI nofun) ((K3.trans K4).get mB nofun) ((K1.trans (K2.trans K3)).cO LP) LO ((K1.trans K2).cO LI) (K1.cO LB) m5 K5⟩⟩
  ·refine⟨rfl,by omega,by omega,λv1 bI mI K1 LI=>?_⟩
   refine⟨?_,?_,?_⟩
   ·refine λv2 bP mP K2 LP=>?_
    refine⟨?_,?_⟩
    ·refine⟨rfl,by omega,by omega,λv3 bO mO K3 LO=>?_⟩
     refine λv4 bB mB K4 LB=>?_
     refine⟨_,_,_,mB,rfl,rfl,λv5 m5 K5=>⟨_,by exact⟨rfl,rfl,trivial⟩,bB,bP,bO,bI,rfl,dR g1 (K1.trans (K2.trans (K3.trans K4))) l4 m4 ((K3.trans K4).get mP nofun) (K4.get mO nofun) ((K2.trans (K3.trans K4)).get mI nofun) mB (K1.cO LP) ((K1.trans K2).cO LO) LI ((K1.trans (K2.trans K3)).cO LB) m5 K5⟩⟩
    ·refine λv3 bB mB K3 LB=>?_
     refine⟨rfl,by omega,by omega,λv4 bO mO K4 LO=>?_⟩;refine⟨_,_,_,(K4.get mB nofun),rfl,rfl,λv5 m5 K5=>⟨_,by exact⟨rfl,rfl,trivial⟩,bB,bP,bO,bI,rfl,dR g1 (K1.trans (K2.trans (K3.trans K4))) l4 m4 ((K3.trans K4).get mP nofun) mO ((K2.trans (K3.trans K4)).get mI nofun) (K4.get mB nofun) (K1.cO LP) ((K1.trans (K2.trans K3)).cO LO) LI ((K1.trans K2).cO LB) m5 K5⟩⟩
   ·refine⟨rfl,by omega,by omega,λv2 bO mO K2 LO=>?_⟩
    refine⟨?_,?_⟩
    ·refine λv3 bP mP K3 LP=>?_
     refine λv4 bB mB K4 LB=>?_
     refine⟨_,_,_,mB,rfl,rfl,λv5 m5 K5=>⟨_,by exact⟨rfl,rfl,trivial⟩,bB,bP,bO,bI,rfl,dR g1 (K1.trans (K2.trans (K3.trans K4))) l4 m4 (K4.get mP nofun) ((K3.trans K4).get mO nofun) ((K2.trans (K3.trans K4)).get mI nofun) mB ((K1.trans K2).cO LP) (K1.cO LO) LI ((K1.trans (K2.trans K3)).cO LB) m5 K5⟩⟩
    ·refine λv3 bB mB K3 LB=>?_
     refine λv4 bP mP K4 LP=>?_
     refine⟨_,_,_,(K4.get mB nofun),rfl,rfl,λv5 m5 K5=>⟨_,by exact⟨rfl,rfl,trivial⟩,bB,bP,bO,bI,rfl,dR g1 (K1.trans (K2.trans (K3.trans K4))) l4 m4 mP ((K3.trans K4).get mO nofun) ((K2.trans (K3.trans K4)).get mI nofun) (K4.get mB nofun) ((K1.trans (K2.trans K3)).cO LP) (K1.cO LO) LI ((K1.trans K2).cO LB) m5 K5⟩⟩
   ·refine λv2 bB mB K2 LB=>?_
    refine⟨?_,?_⟩
    ·refine λv3 bP mP K3 LP=>?_
     refine⟨rfl,by omega,by omega,λv4 bO mO K4 LO=>?_⟩;refine⟨_,_,_,((K3.trans K4).get mB nofun),rfl,rfl,λv5 m5 K5=>⟨_,by exact⟨rfl,rfl,trivial⟩,bB,bP,bO,bI,rfl,dR g1 (K1.trans (K2.trans (K3.trans K4))) l4 m4 (K4.get mP nofun) mO ((K2.trans (K3.trans K4)).get mI nofun) ((K3.trans K4).get mB nofun) ((K1.trans K2).cO LP) ((K1.trans (K2.trans K3)).cO LO) LI (K1.cO LB) m5 K5⟩⟩
    ·refine⟨rfl,by omega,by omega,λv3 bO mO K3 LO=>?_⟩
     refine λv4 bP mP K4 LP=>?_
     refine⟨_,_,_,((K3.trans K4).get mB nofun),rfl,rfl,λv5 m5 K5=>⟨_,by exact⟨rfl,rfl,trivial⟩,bB,bP,bO,bI,rfl,dR g1 (K1.trans (K2.trans (K3.trans K4))) l4 m4 mP (K4.get mO nofun) ((K2.trans (K3.trans K4)).get mI nofun) ((K3.trans K4).get mB nofun) ((K1.trans (K2.trans K3)).cO LP) ((K1.trans K2).cO LO) LI (K1.cO LB) m5 K5⟩⟩
  ·refine λv1 bB mB K1 LB=>?_
   refine⟨?_,?_,?_⟩
   ·refine λv2 bP mP K2 LP=>?_
    refine⟨?_,?_⟩
    ·refine⟨rfl,by omega,by omega,λv3 bO mO K3 LO=>?_⟩
     refine⟨rfl,by omega,by omega,λv4 bI mI K4 LI=>?_⟩;refine⟨_,_,_,((K2.trans (K3.trans K4)).get mB nofun),rfl,rfl,λv5 m5 K5=>⟨_,by exact⟨rfl,rfl,trivial⟩,bB,bP,bO,bI,rfl,dR g1 (K1.trans (K2.trans (K3.trans K4))) l4 m4 ((K3.trans K4).get mP nofun) (K4.get mO nofun) mI ((K2.trans (K3.trans K4)).get mB nofun) (K1.cO LP) ((K1.trans K2).cO LO) ((K1.trans (K2.trans K3)).cO LI) LB m5 K5⟩⟩
    ·refine⟨rfl,by omega,by omega,λv3 bI mI K3 LI=>?_⟩
     refine⟨rfl,by omega,by omega,λv4 bO mO K4 LO=>?_⟩;refine⟨_,_,_,((K2.trans (K3.trans K4)).get mB nofun),rfl,rfl,λv5 m5 K5=>⟨_,by exact⟨rfl,rfl,trivial⟩,bB,bP,bO,bI,rfl,dR g1 (K1.trans (K2.trans (K3.trans K4))) l4 m4 ((K3.trans K4).get mP nofun) mO (K4.get mI nofun) ((K2.trans (K3.trans K4)).get mB nofun) (K1.cO LP) ((K1.trans (K2.trans K3)).cO LO) ((K1.trans K2).cO LI) LB m5 K5⟩⟩
   ·refine⟨rfl,by omega,by omega,λv2 bO mO K2 LO=>?_⟩
    refine⟨?_,?_⟩
    ·refine λv3 bP mP K3 LP=>?_
     refine⟨rfl,by omega,by omega,λv4 bI mI K4 LI=>?_⟩;refine⟨_,_,_,((K2.trans (K3.trans K4)).get mB nofun),rfl,rfl,λv5 m5 K5=>⟨_,by exact⟨rfl,rfl,trivial⟩,bB,bP,bO,bI,rfl,dR g1 (K1.trans (K2.trans (K3.trans K4))) l4 m4 (K4.get mP nofun) ((K3.trans K4).get mO nofun) mI ((K2.trans (K3.trans K4)).get mB nofun) ((K1.trans K2).cO LP) (K1.cO LO) ((K1.trans (K2.trans K3)).cO LI) LB m5 K5⟩⟩
    ·refine⟨rfl,by omega,by omega,λv3 bI mI K3 LI=>?_⟩
     refine λv4 bP mP K4 LP=>?_
     refine⟨_,_,_,((K2.trans (K3.trans K4)).get mB nofun),rfl,rfl,λv5 m5 K5=>⟨_,by exact⟨rfl,rfl,trivial⟩,bB,bP,bO,bI,rfl,dR g1 (K1.trans (K2.trans (K3.trans K4))) l4 m4 mP ((K3.trans K4).get mO nofun) (K4.get mI nofun) ((K2.trans (K3.trans K4)).get mB nofun) ((K1.trans (K2.trans K3)).cO LP) (K1.cO LO) ((K1.trans K2).cO LI) LB m5 K5⟩⟩
   ·refine⟨rfl,by omega,by omega,λv2 bI mI K2 LI=>?_⟩
    refine⟨?_,?_⟩
    ·refine λv3 bP mP K3 LP=>?_
     refine⟨rfl,by omega,by omega,λv4 bO mO K4 LO=>?_⟩;refine⟨_,_,_,((K2.trans (K3.trans K4)).get mB nofun),rfl,rfl,λv5 m5 K5=>⟨_,by exact⟨rfl,rfl,trivial⟩,bB,bP,bO,bI,rfl,dR g1 (K1.trans (K2.trans (K3.trans K4))) l4 m4 (K4.get mP nofun) mO ((K3.trans K4).get mI nofun) ((K2.trans (K3.trans K4)).get mB nofun) ((K1.trans K2).cO LP) ((K1.trans (K2.trans K3)).cO LO) (K1.cO LI) LB m5 K5⟩⟩
    ·refine⟨rfl,by omega,by omega,λv3 bO mO K3 LO=>?_⟩
     refine λv4 bP mP K4 LP=>?_
     refine⟨_,_,_,((K2.trans (K3.trans K4)).get mB nofun),rfl,rfl,λv5 m5 K5=>⟨_,by exact⟨rfl,rfl,trivial⟩,bB,bP,bO,bI,rfl,dR g1 (K1.trans (K2.trans (K3.trans K4))) l4 m4 mP (K4.get mO nofun) ((K3.trans K4).get mI nofun) ((K2.trans (K3.trans K4)).get mB nofun) ((K1.trans (K2.trans K3)).cO LP) ((K1.trans K2).cO LO) (K1.cO LI) LB m5 K5⟩⟩
 rintro q w2 ⟨b6,bM,bO,bI,rfl,B⟩;have hO:LN 103 2 w w2 (.slice (some ⟨bO,0,none⟩) n n) n ((List.replicate n ((0,.slice none 0 0,[]):La)).map mr).flatten:=by
  have hl:(((List.replicate n ((0,.slice none 0 0,[]):La)).map mr).flatten).length=n*2:=by rw[j5 (f:=mr) (size:=2) (λ_=>rfl),List.length_replicate]
  refine⟨⟨hl,.inr ⟨bO,n,_,rfl,Nat.zero_le _,B.mO,Nat.le_refl _,Nat.le_trans hn (by decide),?_,?_⟩⟩,B.gb,λy hy=>by have:=B.lO;simp[Value.ownBlock]at hy;omega⟩
  ·rw[<-Array.length_toList,Nj hn,hl]
  ·rw[Nj hn,List.take_of_length_le (by rw[hl];exact Nat.le_refl _)]
 have hI:LN 47 1 w w2 (.slice (some ⟨bI,0,none⟩) n n) n ((List.replicate n (0:Int)).map λi=>Value.int .u32 i):=by
  have hl:((List.replicate n (0:Int)).map λi=>Value.int .u32 i).length=n*1:=by rw[List.length_map,List.length_replicate];omega
  refine⟨⟨hl,.inr ⟨bI,n,_,rfl,Nat.zero_le _,B.mI,Nat.le_refl _,Nat.le_trans hn (by decide),?_,?_⟩⟩,B.gb,λy hy=>by have:=B.lI;simp[Value.ownBlock]at hy;omega⟩
  ·rw[<-Array.length_toList,RN hn,hl]
  ·rw[RN hn,List.take_of_length_le (by rw[hl];exact Nat.le_refl _)]
 have hM:PN w w2 (.slice (some ⟨bM,0,none⟩) 1 1) [⟨0,0⟩]:=⟨⟨rfl,.inr ⟨bM,1,_,rfl,Nat.zero_le _,B.mM,Nat.le_refl _,by decide,rfl,rfl⟩⟩,B.gb,λy hy=>by have:=B.lM;simp[Value.ownBlock]at hy;omega⟩;refine CS.of ah mixed ?_;refine⟨_,_,B.m6,_,rfl,?_⟩;refine⟨λm t wk=>∃(i:Nat) (ls:List La),m=n - i/\i<=n/\t=[(4,Ptt b4),(6,Ptt b6),(37,.int .i64 n),(38,.int .i64 i)]/\ls.length=n/\LN 103 2 w wk (.slice (some ⟨bO,0,none⟩) ls.length n) ls.length (ls.map mr).flatten/\(∀j,ls[j]? = if j<i then some (1,.slice none 0 0,[])else if j<n then some (0,.slice none 0 0,[])else none)/\GB (some bO) w2 wk,⟨_,_,⟨0,List.replicate n (0,.slice none 0 0,[]),rfl,Nat.zero_le _,rfl,List.length_replicate,by rw[List.length_replicate];exact hO,λj=>?_,GB.refl _ _⟩,rfl,rfl,rfl,rfl,trivial⟩,?_⟩
 ·rw[if_neg (by omega),List.getElem?_replicate]
 have Ws:∀{c:Array Value} {x t:Nat},w2.heap[x]? = some (.cells c t)->t≠103->some x≠some bO:=λhx ht e=>dw hx B.mO ht (Option.some.inj e)
 rintro m t wk ⟨i,ls,rfl,hi,rfl,hll,L,hat,gk⟩;have m6:=gk.get B.m6 (Ws B.m6 (by decide));refine au (λd=>?_) (λd=>?_)
 ·have d1:i<n:=by have:=of_decide_eq_true d;omega
  have hx:ls[i]? = some (0,.slice none 0 0,[]):=by rw[hat,if_neg (by omega),if_pos d1]
  obtain⟨g',cap',cur,ev,hg',aS,hcut,hsz⟩:=L.at (f:=mr) (λ_=>rfl) hx;injection ev with ea _ ec;injection ea with ea;injection ea with ea;subst ea ec;refine⟨_,_,m6,_,rfl,⟨by omega,by omega⟩,_,_,_,aS,gp rfl rfl (by rw[Array.length_toList];show 0+(i:Int).toNat*2+0<_;omega),rfl,λw3 m3 g3=>?_⟩;have L3:=L.set (f:=mr) (j:=0) (x':=(1,.slice none 0 0,[])) (λ_=>rfl) aS hx (by decide) rfl m3 (by show 0+(i:Int).toNat*2+0=i*2+0;rw[Int.toNat_natCast,Nat.zero_add]) rfl rfl g3;refine⟨⟨by omega,by omega⟩,_,_,⟨i+1,ls.set i (1,.slice none 0 0,[]),rfl,by omega,rfl,by rw[List.length_set];exact hll,L3,λj=>?_,gk.trans g3⟩,⟨rfl,rfl,rfl,rfl,trivial⟩,by omega⟩;rw[jb (by omega),hat];by_cases e1:j=i
  ·rw[if_pos e1,if_pos (by omega)]
  ·rw[if_neg e1]
   by_cases e2:j<i
   ·rw[if_pos e2,if_pos (by omega)]
   ·rw[if_neg e2,if_neg (show ¬j<i+1 by omega)]
 ·have d1:i=n:=by have:=of_decide_eq_false d;omega
  subst d1;have hls:ls=List.replicate i (1,.slice none 0 0,[]):=by
   refine List.ext_getElem? λj=>?_
   rw[hat,List.getElem?_replicate];by_cases e:j<i
   ·rw[if_pos e,if_pos e]
   ·rw[if_neg e,if_neg e,if_neg e]
  have gw:GB none w wk:=L.gb;have hIk:=hI.off gk (λx hx=>by cases hx;exact λz=>Ws B.mI (by decide) (by simpa[Value.ownBlock]using z)) gw;have hMk:=hM.off gk (λx hx=>by cases hx;exact λz=>Ws B.mM (by decide) (by simpa[Value.ownBlock]using z)) gw;have S:SA w wk (Kc g i) (.slice none 0 0) (.slice (some ⟨bM,0,none⟩) 1 1) (.slice none 0 0) (.slice (some ⟨bO,0,none⟩) i i) (.slice (some ⟨bI,0,none⟩) i i) ls:=by
   have hmem:∀l∈ls,l=(1,.slice none 0 0,[]):=λl hl=>by rw[hls]at hl;exact List.eq_of_mem_replicate hl
   refine⟨LN.nil gw,hMk,LN.nil gw,by rw[<-hll];rw[hll]at L |-;exact L,by show LN _ _ _ _ _ (List.replicate i (0:Int)).length _;rw[List.length_replicate];exact hIk,λl hl=>?_,?_,λl hl x hx=>?_,λl hl x hx=>?_,λa b l l' _ hl _ y hy=>?_⟩
   ·rw[hmem l hl];exact⟨LN.nil gw,λx hx=>by cases hx⟩
   ·show ls.map Nb=List.replicate i (1,[])
    rw[hls,List.map_replicate];rfl
   ·rw[hmem l hl]at hx;cases hx
   ·rw[hmem l hl]at hx;cases hx
   ·rw[hmem l (List.mem_of_getElem? hl)]at hy;cases hy
  have m4k:=gk.get B.m4 (Ws B.m4 (by decide));refine⟨_,_,m6,iC (Kc g i) (.slice none 0 0) (.slice (some ⟨bM,0,none⟩) 1 1) (.slice none 0 0) (.slice (some ⟨bO,0,none⟩) i i) (.slice (some ⟨bI,0,none⟩) i i),rfl,rfl,_,_,_,m4k,rfl,rfl,λw3 m3 g3=>?_⟩;refine⟨_,_,m3,iC (Kc g i) (.slice none 0 0) (.slice (some ⟨bM,0,none⟩) 1 1) (.slice none 0 0) (.slice (some ⟨bO,0,none⟩) i i) (.slice (some ⟨bI,0,none⟩) i i),rfl,rfl,_,_,_,_,_,_,rfl,λw'' hw=>?_,gw.new g3 B.l4⟩;have S3:=S.bV g3 m4k (by decide) (by decide) (by decide) (by decide) (by decide) (by decide) B.l4;exact S3.over hw
end
