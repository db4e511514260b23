/- Lemmas. -/
import Derived.Test.YtignemioillaiabGreatG37
namespace Go.Proofs.YtignemioillaiabGreat
set_option maxHeartbeats 8000000
set_option maxRecDepth 100000
open List
section
open Go Go.Conc
theorem YO(l:List Int):(l.map λi=>[Value.int .u32 i]).flatten=l.map λi=>Value.int .u32 i:=by
 induction l with
 |nil=>rfl
 |cons x l ih=>rw[Jcj,Jfw,ih];rfl
theorem Rv{α:Type}(v1 v2 v3:Value)(a b c:List α):(([(v1,a),(v2,b),(v3,c)]:List (Value×List α)).map (·.2)).flatten=a++(b++c):=by simp
section
variable{Λ:aB}{w0 w:World}{b:Nat}{s:St}{T M D O I:Value}{ls:List La}
theorem LN.one{w0 w:World}{v:Value}{l:List Int}(h:LN 59 1 w0 w v l.length (l.map λi=>Value.int .u32 i)):LN 59 1 w0 w v l.length (l.map λi=>[Value.int .u32 i]).flatten:=by rw[YO];exact h
theorem UK(h:Sw Λ w0 b s w T M D O I ls)(hk:sP s)(hI:∀x∈s.I,0<=x/\x<4294967295){r:Rg}{ra da:Option Addr}{rn rc dn dc:Nat}(h0:0<=r.src):CY 104 #[Ptt b,.agg (fB r (.slice ra rn rc) (.slice da dn dc)).toArray] w (λv w'=>v=.bool (vX s.g s.n s.I r)/\GB none w w'):=by
 have oI:=hk.n4;have hil:=hk.il;refine aj Tryz.func104 rfl rfl ?_;refine λw1 b1 m1 g1 l1=>?_
 replace h:=h.ay g1;unfold vX;refine⟨by kernel_rfl,_,_,m1,.int .u8 r.dst,rfl,_,_,h.mem,.int .u8 s.g,rfl,ah (λe=>?_) (λe=>?_)⟩
 .have e1:r.dst=s.g:=eq_of_beq (b11 e)
  refine⟨_,_,m1,.int .u8 r.src,rfl,_,_,h.mem,.int .u8 s.g,rfl,ah (λe=>?_) (λe=>?_)⟩
  .have e2:¬r.src=s.g:=by simpa using b11 e
   refine⟨_,_,m1,.int .u8 r.src,rfl,_,_,h.mem,.int .u8 s.n,rfl,ah (λe=>?_) (λe=>?_)⟩
   .have e3:r.src<s.n:=Ptq (b11 e)
    obtain⟨j,hj⟩:=Jgm h0;obtain⟨x,hx⟩:∃x,s.I[j]?=some x:=⟨s.I[j]'(by omega),by simp[show j<s.I.length by omega]⟩;obtain⟨g,cap,cur,ev,hg,aR,hcut,hsz⟩:=h.sa.i.one.at (f:=λi=>[Value.int .u32 i]) (λ_=>rfl) hx;subst ev;have hxb:=hI x (Jcv hx);have hcell:cur.toList[0+r.src.toNat*1]?=some (.int .u32 x):=by
     have:=iU hcut (i:=0) rfl (by decide);rw[hj];exact this
    have hw:IntKind.u32.wrap ((s.I[r.src.toNat]?).getD 0+1)=x+1:=by
     rw[hj,Jfa,hx];exact wrap_u32 (by show 0<=x+1/\x+1<_;omega)
    refine⟨_,_,m1,.int .u32 r.seq,rfl,_,_,h.mem,_,rfl,_,_,m1,.int .u8 r.src,rfl,by omega,_,_,aR,.int .u32 x,hcell,by omega,?_⟩;refine⟨vb ?_,g1⟩;rw[hw];simp[e1,e2,e3]
   .have e3:¬r.src<s.n:=Ptx (b10 e)
    exact⟨vb (by simp[e3]),g1⟩
  .have e2:r.src=s.g:=by simpa using b10 e
   exact⟨vb (by simp[e2]),g1⟩
 .have e1:¬r.dst=s.g:=by simpa using b10 e
  exact⟨vb (by simp[e1]),g1⟩
theorem oU{r:Rg}(h:nY r=true):r.lo<=r.hi/\Dy r=true/\Aq r=true:=by
 unfold nY at h;simp only[Jdy,Jdr]at h;exact⟨h.2.2.2.1,h.2.2.2.2.1,h.2.2.2.2.2⟩
theorem Rw(h:Sk Λ w0 b s w)(hk:sP s)(hz:Fq s)(hI:∀x∈s.I,0<=x/\x<4294967295){r:Rg}{rv dv:Value}(hr:aS w0 r rv dv)(h0:0<=r.src)(h1:0<=r.lo)(h2:r.hi<=18446744073709551615):CY 62 #[Ptt b,.agg (fB r rv dv).toArray] w (λv w'=>v=.tuple #[]/\Sk Λ w0 b (mV s r) w'):=by
 obtain⟨ra,rn,rc,da,dn,dc,rfl,rfl⟩:=hr.sl;have oI:=hk.n4;have hil:=hk.il;have hgn:=hk.gn;refine aj Tryz.func62 rfl rfl ?_;refine λw1 b1 m1 g1 l1=>?_
 have hs0:=h.sz;obtain⟨h,u1⟩:=h.box g1 m1 l1;clear m1 g1 l1;obtain⟨T,M,D,O,I,ls,h⟩:=h;refine⟨_,_,h.at,fB r _ _,rfl,rfl,_,Ff (hr.kz h.gb.kz),?_⟩;rintro _ w2 ⟨rfl,g2⟩;replace h:=h.ay g2;unfold mV;obtain⟨ok,hok⟩:∃ok,nY r=ok:=⟨_,rfl⟩;rw[hok];cases ok
 .rw[Jb5 (by simp)]
  exact⟨rfl,_,_,_,_,_,_,h.drop u1⟩
 obtain⟨hlh,hrows,Rx⟩:=oU hok;obtain⟨_,_,hrl⟩:=yJ hrows;obtain⟨_,_,hdl⟩:=uC Rx;refine⟨_,_,h.at,fB r _ _,rfl,rfl,_,UK h hk hI h0,?_⟩;rintro _ w3 ⟨rfl,g3⟩;replace h:=h.ay g3;obtain⟨nb,hnb⟩:∃nb,vX s.g s.n s.I r=nb:=⟨_,rfl⟩;rw[hnb];cases nb
 .rw[Jb5 (by simp)]
  exact⟨rfl,_,_,_,_,_,_,h.drop u1⟩
 have hsrc:r.src<s.n:=by unfold vX at hnb;simp at hnb;exact hnb.1.2
 have hM:Bl w3 M s.M:=h.sa.m.fz;refine⟨by kernel_rfl,_,_,h.mem,_,rfl,_,_,h.at,.int .u64 r.lo,rfl,_,_,h.at,.int .u64 r.hi,rfl,_,_,h.mem,.int .u8 s.g,rfl,_,Pd hM hk.CJ hk.can h1 hlh h2 (by omega:s.g<4),?_⟩;rintro _ w4 ⟨v',e',rfl,g4,hc⟩;rcases hc with⟨c1,rfl,P⟩|⟨c1,rfl,rfl⟩;rotate_left
 .rw[Jb5 (by rintro⟨_,_,z⟩;omega)]
  exact⟨rfl,_,_,_,_,_,_,(h.ay g4).drop u1⟩
 rw[Jb6 ⟨rfl,rfl,c1⟩];have uM:∀x,v'.ownBlock=some x->_:=λx hx=>h.rU (P.new x hx)
 replace P:=P.base h.gb;obtain⟨va,vc,rfl⟩:=af P.own;replace h:=h.ay g4;refine⟨_,_,_,h.mem,rfl,rfl,λw5 m5 g5=>?_⟩;replace h:=h.acT P uM m5 g5;clear m5 g5 P uM hM g2 g3 g4;obtain⟨j,hj⟩:=Jgm h0;obtain⟨x,hx⟩:∃x,s.I[j]?=some x:=⟨s.I[j]'(by omega),by simp[show j<s.I.length by omega]⟩;obtain⟨g,cap,cur,ev,hg,aR,hcut,hsz⟩:=h.sa.i.one.at (f:=λi=>[Value.int .u32 i]) (λ_=>rfl) hx;subst ev;refine⟨by kernel_rfl,_,_,h.mem,_,rfl,_,_,h.at,.int .u8 r.src,rfl,_,_,h.at,.int .u32 r.seq,rfl,⟨by omega,by show r.src<(s.I.length:Int);omega⟩,_,_,_,aR,gT rfl rfl (by rw[Array.length_toList];show 0+r.src.toNat*1<_;have hsz':s.I.length*1<=cur.size:=hsz;omega),rfl,λw6 m6 g6=>?_⟩;have LI:=h.sa.i.one.set (f:=λi=>[Value.int .u32 i]) (j:=0) (x':=r.seq) (λ_=>rfl) aR hx (by decide) rfl m6 (by show 0+r.src.toNat*1=j*1+0;omega) rfl rfl g6;rw[YO]at LI;have ejn:r.src.toNat=j:=by omega
 replace h:=h.ahm (i':=s.I.set r.src.toNat r.seq) (by rw[ejn];simp only[Jgd]at LI |-;exact LI) g6;clear aR hcut hsz m6 g6 LI;obtain⟨f1,f2,f3⟩:=KC (λx:Row=>x.key) r.lo r.hi s.T;obtain⟨e1,e2,e3⟩:=KC (λx:ag=>x.key) r.lo r.hi s.D;have hzt:=hz.t;have hzd:=hz.d;refine⟨by kernel_rfl,_,_,h.mem,_,rfl,_,_,h.at,.int .u64 r.lo,rfl,_,_,h.at,.int .u64 r.hi,rfl,_,JP rfl rfl rfl h.sa.t.fz (Jb1 hzt (by decide)) r.lo r.hi,?_⟩;rintro _ w7 ⟨v1,v2,v3,rfl,L1,L2,L3,sp⟩;obtain⟨a1,c1',rfl⟩:=af L1.own;obtain⟨a2,c2',rfl⟩:=af L2.own;obtain⟨a3,c3',rfl⟩:=af L3.own;replace h:=h.ay L1.gb;refine⟨_,_,h.at,(.slice ra rn rc),rfl,λw8 vb CK g8 MU=>?_⟩;replace h:=h.ay g8;refine⟨_,GY rfl (xs:=[(_,sB (λx:Row=>x.key) r.lo s.T),(_,r.rows),(_,sA (λx:Row=>x.key) r.lo r.hi s.T)]) CK ?_ (by rw[show jP _=_ from Rv _ _ _ _ _ _,Jc6,Jc6];omega) (by show 3<=100;decide),?_⟩
 .intro x hx
  simp only[Jb3,Jbw,Jbx]at hx;rcases hx with rfl|rfl|rfl
  .exact(L1.ay g8).fz
  .exact hr.1.kz h.gb.kz (by decide)
  .exact(L3.ay g8).fz
 intro X' w9 LX;rw[show jP [_,_,_]=_ from Rv _ _ _ _ _ _]at LX;obtain⟨xa,xc,rfl⟩:=af LX.own;refine⟨_,_,_,LX.gb.get h.mem nofun,rfl,rfl,λqi m10 g10=>?_⟩;replace h:=h.jO (t':=sB (λx:Row=>x.key) r.lo s.T++(r.rows++sA (λx:Row=>x.key) r.lo r.hi s.T)) (LX.base h.gb) LX.gb.weak (λx hx=>.inr (LX.new x hx)) m10 g10;clear L1 L2 L3 sp LX m10 g10 CK g8 MU;refine⟨by kernel_rfl,_,_,h.mem,_,rfl,_,_,h.at,.int .u64 r.lo,rfl,_,_,h.at,.int .u64 r.hi,rfl,_,JQ rfl rfl rfl h.sa.d.fz (Jb1 hzd (by decide)) r.lo r.hi,?_⟩;rintro _ w7 ⟨v1,v2,v3,rfl,L1,L2,L3,sp⟩;obtain⟨a1,c1',rfl⟩:=af L1.own;obtain⟨a2,c2',rfl⟩:=af L2.own;obtain⟨a3,c3',rfl⟩:=af L3.own;replace h:=h.ay L1.gb;refine⟨_,_,h.at,(.slice da dn dc),rfl,λw8 vb CK g8 MU=>?_⟩;replace h:=h.ay g8;refine⟨_,GZ rfl (xs:=[(_,sB (λx:ag=>x.key) r.lo s.D),(_,r.aX),(_,sA (λx:ag=>x.key) r.lo r.hi s.D)]) CK ?_ (by rw[show jP _=_ from Rv _ _ _ _ _ _,Jc6,Jc6];omega) (by show 3<=100;decide),?_⟩
 .intro x hx
  simp only[Jb3,Jbw,Jbx]at hx;rcases hx with rfl|rfl|rfl
  .exact(L1.ay g8).fz
  .exact hr.2.kz h.gb.kz (by decide)
  .exact(L3.ay g8).fz
 intro X' w9 LX;rw[show jP [_,_,_]=_ from Rv _ _ _ _ _ _]at LX;obtain⟨xa,xc,rfl⟩:=af LX.own;refine⟨_,_,_,LX.gb.get h.mem nofun,rfl,rfl,λqi m10 g10=>?_⟩;replace h:=h.Rp (d':=sB (λx:ag=>x.key) r.lo s.D++(r.aX++sA (λx:ag=>x.key) r.lo r.hi s.D)) (LX.base h.gb) LX.gb.weak (λx hx=>.inr (LX.new x hx)) m10 g10;clear L1 L2 L3 sp LX m10 g10 CK g8 MU;exact⟨rfl,_,_,_,_,_,_,h.drop u1⟩
end
section
variable{Λ:aB}{w0 w:World}{b:Nat}{s:St}{T M D O I:Value}{ls:List La}
theorem Sw.old(h:Sw Λ w0 b s w T M D O I ls){x:Nat}{o:Obj}(hx:w.heap[x]?=some o)(hl:x<w0.heap.size):Sw (Λ.add x o) w0 b s w T M D O I ls:=by
 refine⟨h.mem,h.nb,h.sa,λy q hy=>?_,λy q hy=>?_⟩
 .unfold aB.add at hy
  split at hy
  .rename_i e;subst e;cases hy;exact⟨hx,λho=>by have:=h.new ho;omega⟩
  .exact h.pr y q hy
 .unfold aB.add at hy
  split at hy
  .rename_i e;subst e
   intro hr;rcases hr with hr|⟨l,hl',z,hz,hr|hr⟩
   .have:=h.sa.m.new _ hr;omega
   .have:=((h.sa.q l hl').r z hz).r.new _ hr;omega
   .have:=((h.sa.q l hl').r z hz).d.new _ hr;omega
  .exact h.rd y q hy
def ac3:aB:=λ_=>none
theorem xZ{w0 wf:World}(_hs:w0.heap.size<=wf.heap.size)(_gf:GB none w0 wf){s:St}{T M D O I:Value}{ls:List La}{w:World}{b3 b4:Nat}(n3:w0.heap.size<=b3)(n4:w0.heap.size<=b4){w':World}(S:SA wf w s T M D O I ls)(g3:GB none w0 w){w1:World}(_m1:Hl w1 b3 (iP s T M D O I) 55)(g1:GB (some b3) w w1)(h3:b3<wf.heap.size)(h4:b4<wf.heap.size)(g2:GB (some b4) w1 w'):(∀w'':World,(∀x,w0.heap.size<=x->x<w'.heap.size->w''.heap[x]?=w'.heap[x]?)->fE w'' T M D O I s)/\GB none w0 w':=by
 refine⟨λw'' hw=>S.over λx hx hxl=>?_,(g3.new g1 n3).new g2 n4⟩;have k1:=g1.size;have k2:=g2.size;rw[hw x (by omega) (by omega),g2.block x (by omega) (λe=>by injection e with e;omega),g1.block x hxl (λe=>by injection e with e;omega)]
end
theorem Xm{w:World}{s:St}{c:MC}{vT vM vD vO vI cv:Value}(h:fE w vT vM vD vO vI s)(hk:sP s)(hz:Fq s)(hS:StS s)(hI:∀x∈s.I,0<=x/\x<4294967295)(hc:kF w cv c)(hq:c.q.wfi)(hrb:0<=c.r.src/\0<=c.r.lo/\c.r.hi<=18446744073709551615)(hp:0<=c.peer):CY 38 #[.agg (iP s vT vM vD vO vI).toArray,cv] w (λv w'=>∃T M D O I,v=.tuple #[.agg (iP (cB s c).1 T M D O I).toArray,.agg (cB s c).2.cells.toArray]/\(∀w'':World,(∀x,w.heap.size<=x->x<w'.heap.size->w''.heap[x]?=w'.heap[x]?)->fE w'' T M D O I (cB s c).1)/\GB none w w'):=by
 obtain⟨ta,tc,rfl,hT'⟩:=h.T;obtain⟨ma,mc',rfl,hM'⟩:=h.M;obtain⟨da,dc,rfl,hD'⟩:=h.D;obtain⟨_,_,⟨oa,oc,rfl,hO'⟩,_⟩:=h.O;obtain⟨ia,ic,rfl,hI'⟩:=h.I;obtain⟨rv,dv,rfl,hr⟩:=hc;obtain⟨ra,rn,rc,qf,vH,qg,e1,e2⟩:=hr.sl;subst e1 e2;refine aj Tryz.func38 rfl rfl ?_;refine λw1 b1 m1 g1 l1 w2 b2 m2 g2 l2 w3 b3 m3 g3 l3 w4 b4 m4 g4 l4=>?_
 have j1:=ae m1;have j2:=ae m2;have j3:=ae m3;have k4:=ae m4;have z1:=g1.size;have z2:=g2.size;have z3:=g3.size;have z4:=g4.size;have n34:b3≠b4:=by omega
 have n23:b2≠b3:=by omega
 have n24:b2≠b4:=by omega
 have G4:=((g1.trans g2).trans g3).trans g4;have m1:=g4.get (g3.get (g2.get m1 nofun) nofun) nofun;have m2:=g4.get (g3.get m2 nofun) nofun;have m3:=g4.get m3 nofun;refine⟨_,_,m1,iP s (.slice ta _ tc) (.slice ma _ mc') (.slice da _ dc) (.slice oa _ oc) (.slice ia _ ic),rfl,rfl,_,Xc (h.kz G4.kz) hS,?_⟩;rintro _ w5 ⟨T,M,D,O,I,ls,rfl,S⟩;have S5:=S;obtain⟨Ta,Tc,rfl⟩:=af S.t.own;obtain⟨Ma,Mc,rfl⟩:=af S.m.own;obtain⟨Da,Dc,rfl⟩:=af S.d.own;obtain⟨Oa,Oc,rfl⟩:=af S.o.own;obtain⟨Ia,Ic,rfl⟩:=af S.i.own;have hll:ls.length=s.O.length:=by rw[<-S.core,Jf6]
 refine λw6 b6 m6 g6 l6=>⟨_,_,_,m6,rfl,rfl,λw7 m7 g7=>?_⟩
 refine λw8 b7 m8 g8 l8=>?_
 have z5:=S.t.gb.size;have z6:=g6.size;have z7:=g7.size;have h0:Sw ac3 w4 b6 s w7 _ _ _ _ _ ls:=⟨m7,by omega,S.ay (g6.new g7 l6),(λ_ _ h=>by cases h),(λ_ _ h=>by cases h)⟩;have G8:GB none w4 w8:=(S.t.gb.trans (g6.new g7 l6)).trans g8;have n72:b7≠b2:=by omega
 have n73:b7≠b3:=by omega
 have n74:b7≠b4:=by omega
 have q7:w4.heap.size<=b7:=by omega
 have hsw:=(((h0.box g8 m8 l8).old (G8.get m2 nofun) (by omega)).old (G8.get m3 nofun) (by omega)).old (G8.get m4 nofun) k4;clear h0 m6 g6 l6 m7 g7 m8 g8 l8 S S5;have hM8:Bl w8 (.slice Ma s.M.length Mc) s.M:=hsw.sa.m.fz;refine⟨_,_,hsw.mem,iP s (.slice Ta _ Tc) (.slice Ma _ Mc) (.slice Da _ Dc) (.slice Oa _ Oc) (.slice Ia _ Ic),rfl,rfl,_,Xd w8 hM8 hk.CJ hk.can ⟨_,_,by rw[hll]⟩ ⟨_,_,rfl⟩ ⟨_,_,_,rfl⟩ ⟨_,_,_,rfl⟩ hk.gn hk.n4 (by have:=hk.g0;have:=hk.gn;omega) hk.ol hk.il,?_⟩;rintro _ w9 ⟨rfl,g9⟩;have h:Sk ((((ac3.add b7 _).add b2 _).add b3 _).add b4 _) w4 b6 s w9:=⟨_,_,_,_,_,_,hsw.ay g9⟩;clear hsw hM8;have a2:=h.g (x:=b2) (by rw[aB.ne n24,aB.ne n23,aB.eq]);have hr4:=hr.kz G4.kz;obtain⟨kd,q,r,peer,seq⟩:=c;dsimp only at hr hq hrb hp hr4;unfold cB;dsimp only;by_cases k1:kd=1
 .subst k1
  simp only[Jb8];refine⟨_,_,a2,_,rfl,_,_,a2,q.cells,rfl,rfl,_,aat h hk hz hq,?_⟩;rintro _ qi ⟨rfl,h⟩;generalize iy s q=A at *;obtain⟨s',P⟩:=A;dsimp only at h |-;have a7:=h.g (x:=b7) (by rw[aB.ne n74,aB.ne n73,aB.ne n72,aB.eq]);refine⟨_,_,_,a7,rfl,rfl,λqi m10 g10=>?_⟩;replace m10:Hl qi b7 P.cells 70:=m10;replace h:=h.over (by rw[aB.ne n74,aB.ne n73,aB.ne n72,aB.eq]) g10 m10 q7;have a7:=h.g (x:=b7) (aB.eq _ b7 _);have a3:=h.g (x:=b3) (by rw[aB.ne n73.symm,aB.ne n34,aB.eq]);have a4:=h.g (x:=b4) (by rw[aB.ne n74.symm,aB.eq]);obtain⟨T,M,D,O,I,ls',hw⟩:=h;obtain⟨Ta,Tc,rfl⟩:=af hw.sa.t.own;obtain⟨Ma,Mc,rfl⟩:=af hw.sa.m.own;obtain⟨Da,Dc,rfl⟩:=af hw.sa.d.own;obtain⟨Oa,Oc,rfl⟩:=af hw.sa.o.own;obtain⟨Ia,Ic,rfl⟩:=af hw.sa.i.own;refine⟨by kernel_rfl,_,_,hw.mem,iP s' (.slice Ta _ Tc) (.slice Ma _ Mc) (.slice Da _ Dc) (.slice Oa _ Oc) (.slice Ia _ Ic),rfl,rfl,_,_,a7,P.cells,rfl,rfl,_,_,_,a3,rfl,rfl,λEt m11 g11=>?_⟩;refine⟨⟨g11.get a7 (λe=>n73 (Jbm e)),g11.get hw.mem (λe=>by injection e with e;have:=hw.nb;omega),trivial⟩,_,_,_,g11.get a4 (λe=>n34 (Jbm e).symm),rfl,rfl,λYL m12 g12=>?_⟩;replace m11:Hl Et b3 (iP s' (.slice Ta _ Tc) (.slice Ma _ Mc) (.slice Da _ Dc) (.slice Oa _ Oc) (.slice Ia _ Ic)) 55:=m11;obtain⟨r1,r2⟩:=xZ (w0:=w) (by have:=G4.size;omega) G4 (by omega) (by omega) hw.sa (G4.trans hw.gb) m11 g11 (by omega) k4 g12;exact⟨_,_,g12.get m11 (λe=>n34 (Jbm e)),iP s' (.slice Ta _ Tc) (.slice Ma _ Mc) (.slice Da _ Dc) (.slice Oa _ Oc) (.slice Ia _ Ic),rfl,rfl,_,_,m12,P.cells,rfl,rfl,_,_,_,_,_,rfl,r1,r2⟩
 by_cases k2:kd=2
 .subst k2
  rw[Jb5 (by decide),Jb6 rfl];refine⟨_,_,a2,_,rfl,_,_,a2,fB r (.slice ra rn rc) (.slice qf vH qg),rfl,rfl,_,Rw h hk hz hI hr4 hrb.1 hrb.2.1 hrb.2.2,?_⟩;rintro _ qi ⟨rfl,h⟩;generalize mV s r=s' at *;have a7:=h.g (x:=b7) (by rw[aB.ne n74,aB.ne n73,aB.ne n72,aB.eq]);have a3:=h.g (x:=b3) (by rw[aB.ne n34,aB.eq]);have a4:=h.g (x:=b4) (aB.eq _ b4 _);obtain⟨T,M,D,O,I,ls',hw⟩:=h;obtain⟨Ta,Tc,rfl⟩:=af hw.sa.t.own;obtain⟨Ma,Mc,rfl⟩:=af hw.sa.m.own;obtain⟨Da,Dc,rfl⟩:=af hw.sa.d.own;obtain⟨Oa,Oc,rfl⟩:=af hw.sa.o.own;obtain⟨Ia,Ic,rfl⟩:=af hw.sa.i.own;refine⟨by kernel_rfl,_,_,hw.mem,iP s' (.slice Ta _ Tc) (.slice Ma _ Mc) (.slice Da _ Dc) (.slice Oa _ Oc) (.slice Ia _ Ic),rfl,rfl,_,_,a7,rV.cells,rfl,rfl,_,_,_,a3,rfl,rfl,λEt m11 g11=>?_⟩;refine⟨⟨g11.get a7 (λe=>n73 (Jbm e)),g11.get hw.mem (λe=>by injection e with e;have:=hw.nb;omega),trivial⟩,_,_,_,g11.get a4 (λe=>n34 (Jbm e).symm),rfl,rfl,λYL m12 g12=>?_⟩;replace m11:Hl Et b3 (iP s' (.slice Ta _ Tc) (.slice Ma _ Mc) (.slice Da _ Dc) (.slice Oa _ Oc) (.slice Ia _ Ic)) 55:=m11;obtain⟨r1,r2⟩:=xZ (w0:=w) (by have:=G4.size;omega) G4 (by omega) (by omega) hw.sa (G4.trans hw.gb) m11 g11 (by omega) k4 g12;exact⟨_,_,g12.get m11 (λe=>n34 (Jbm e)),iP s' (.slice Ta _ Tc) (.slice Ma _ Mc) (.slice Da _ Dc) (.slice Oa _ Oc) (.slice Ia _ Ic),rfl,rfl,_,_,m12,rV.cells,rfl,rfl,_,_,_,_,_,rfl,r1,r2⟩
 by_cases k3:kd=3
 .subst k3
  rw[Jb5 (by decide),Jb5 (by decide),Jb6 rfl];refine⟨_,_,a2,_,rfl,_,_,a2,.int .u8 peer,rfl,_,_,a2,.int .u32 seq,rfl,_,UE h hk (λo ho=>Jb1 (hz.q o ho).1 (by decide)) hp,?_⟩;rintro _ qi ⟨rfl,h⟩;generalize lY s peer seq=s' at *;have a7:=h.g (x:=b7) (by rw[aB.ne n74,aB.ne n73,aB.ne n72,aB.eq]);have a3:=h.g (x:=b3) (by rw[aB.ne n34,aB.eq]);have a4:=h.g (x:=b4) (aB.eq _ b4 _);obtain⟨T,M,D,O,I,ls',hw⟩:=h;obtain⟨Ta,Tc,rfl⟩:=af hw.sa.t.own;obtain⟨Ma,Mc,rfl⟩:=af hw.sa.m.own;obtain⟨Da,Dc,rfl⟩:=af hw.sa.d.own;obtain⟨Oa,Oc,rfl⟩:=af hw.sa.o.own;obtain⟨Ia,Ic,rfl⟩:=af hw.sa.i.own;refine⟨by kernel_rfl,_,_,hw.mem,iP s' (.slice Ta _ Tc) (.slice Ma _ Mc) (.slice Da _ Dc) (.slice Oa _ Oc) (.slice Ia _ Ic),rfl,rfl,_,_,a7,rV.cells,rfl,rfl,_,_,_,a3,rfl,rfl,λEt m11 g11=>?_⟩;refine⟨⟨g11.get a7 (λe=>n73 (Jbm e)),g11.get hw.mem (λe=>by injection e with e;have:=hw.nb;omega),trivial⟩,_,_,_,g11.get a4 (λe=>n34 (Jbm e).symm),rfl,rfl,λYL m12 g12=>?_⟩;replace m11:Hl Et b3 (iP s' (.slice Ta _ Tc) (.slice Ma _ Mc) (.slice Da _ Dc) (.slice Oa _ Oc) (.slice Ia _ Ic)) 55:=m11;obtain⟨r1,r2⟩:=xZ (w0:=w) (by have:=G4.size;omega) G4 (by omega) (by omega) hw.sa (G4.trans hw.gb) m11 g11 (by omega) k4 g12;exact⟨_,_,g12.get m11 (λe=>n34 (Jbm e)),iP s' (.slice Ta _ Tc) (.slice Ma _ Mc) (.slice Da _ Dc) (.slice Oa _ Oc) (.slice Ia _ Ic),rfl,rfl,_,_,m12,rV.cells,rfl,rfl,_,_,_,_,_,rfl,r1,r2⟩
 .rw[Jb5 k1,Jb5 k2,Jb5 k3]
  refine⟨_,_,a2,.int .u8 kd,rfl,?_⟩;refine ah (λe=>absurd (by simpa using e) k1) (λ_=>?_);refine ah (λe=>absurd (by simpa using e) k2) (λ_=>?_);refine ah (λe=>absurd (by simpa using e) k3) (λ_=>?_);have a7:=h.g (x:=b7) (by rw[aB.ne n74,aB.ne n73,aB.ne n72,aB.eq]);have a3:=h.g (x:=b3) (by rw[aB.ne n34,aB.eq]);have a4:=h.g (x:=b4) (aB.eq _ b4 _);obtain⟨T,M,D,O,I,ls',hw⟩:=h;obtain⟨Ta,Tc,rfl⟩:=af hw.sa.t.own;obtain⟨Ma,Mc,rfl⟩:=af hw.sa.m.own;obtain⟨Da,Dc,rfl⟩:=af hw.sa.d.own;obtain⟨Oa,Oc,rfl⟩:=af hw.sa.o.own;obtain⟨Ia,Ic,rfl⟩:=af hw.sa.i.own;refine⟨by kernel_rfl,_,_,hw.mem,iP s (.slice Ta _ Tc) (.slice Ma _ Mc) (.slice Da _ Dc) (.slice Oa _ Oc) (.slice Ia _ Ic),rfl,rfl,_,_,a7,rV.cells,rfl,rfl,_,_,_,a3,rfl,rfl,λEt m11 g11=>?_⟩;refine⟨⟨g11.get a7 (λe=>n73 (Jbm e)),g11.get hw.mem (λe=>by injection e with e;have:=hw.nb;omega),trivial⟩,_,_,_,g11.get a4 (λe=>n34 (Jbm e).symm),rfl,rfl,λYL m12 g12=>?_⟩;replace m11:Hl Et b3 (iP s (.slice Ta _ Tc) (.slice Ma _ Mc) (.slice Da _ Dc) (.slice Oa _ Oc) (.slice Ia _ Ic)) 55:=m11;obtain⟨r1,r2⟩:=xZ (w0:=w) (by have:=G4.size;omega) G4 (by omega) (by omega) hw.sa (G4.trans hw.gb) m11 g11 (by omega) k4 g12;exact⟨_,_,g12.get m11 (λe=>n34 (Jbm e)),iP s (.slice Ta _ Tc) (.slice Ma _ Mc) (.slice Da _ Dc) (.slice Oa _ Oc) (.slice Ia _ Ic),rfl,rfl,_,_,m12,rV.cells,rfl,rfl,_,_,_,_,_,rfl,r1,r2⟩
noncomputable def zl(m e:Nat):Array Value:=((List.range (m*bD fG.T e)).map λq=>(zc fG.T e).getD (q%bD fG.T e) undef).toArray
theorem Px{n:Nat}(hn:n<=4):(zl n 62).toList=((replicate n ((0,Ptz,[]):La)).map nD).flatten:=by
 have:n=0\/n=1\/n=2\/n=3\/n=4:=by omega
 rcases this with rfl|rfl|rfl|rfl|rfl<;>rfl
theorem UL{n:Nat}(hn:n<=4):(zl n 59).toList=(replicate n (0:Int)).map λi=>Value.int .u32 i:=by
 have:n=0\/n=1\/n=2\/n=3\/n=4:=by omega
 rcases this with rfl|rfl|rfl|rfl|rfl<;>rfl
structure Bgn(w:World)(g n b4 b6 bM bO bI:Nat)(w':World):Prop where
 m4:Hl w' b4 (zc fG.T 55) 55
 m6:w'.heap[b6]?=some (.cells #[.int .u8 g,.int .u8 n,Ptz,.slice (Pty bM) 1 1,Ptz,.slice (Pty bO) n n,.slice (Pty bI) n n] 55)
 mM:w'.heap[bM]?=some (.cells #[.int .u64 0,.int .u8 0] 153)
 mO:w'.heap[bO]?=some (.cells (zl n 62) 62)
 mI:w'.heap[bI]?=some (.cells (zl n 59) 59)
 gb:GB none w w'
 l4:w.heap.size<=b4
 l6:w.heap.size<=b6
 lM:w.heap.size<=bM
 lO:w.heap.size<=bO
 lI:w.heap.size<=bI
 ne:b4≠b6
theorem GB.upl{r:Option Nat}{w w':World}{b:Nat}(h:GB r w w')(l:w'.heap.size<=b):w.heap.size<=b:=Jb1 h.size l
theorem aau{w w1 v4 v5:World}{g n b4 bB bP bO bI:Nat}{c:Array Value}(gA:GB none w w1)(k4:GB none w1 v4)(l4:w.heap.size<=b4)(m4:Hl w1 b4 (zc fG.T 55) 55)(mP:v4.heap[bP]?=some (.cells #[.int .u64 0,.int .u8 0] 153))(mO:v4.heap[bO]?=some (.cells (zl n 62) 62))(mI:v4.heap[bI]?=some (.cells (zl n 59) 59))(mB:v4.heap[bB]?=some (.cells c 55))(LP:w1.heap.size<=bP)(LO:w1.heap.size<=bO)(LI:w1.heap.size<=bI)(LB:w1.heap.size<=bB)(m5:v5.heap[bB]?=some (.cells #[.int .u8 g,.int .u8 n,Ptz,.slice (Pty bP) 1 1,Ptz,.slice (Pty bO) n n,.slice (Pty bI) n n] 55))(K5:GB (some bB) v4 v5):Bgn w g n b4 bB bP bO bI v5:=by
 have j:=ae m4;have z:=gA.size;have o:∀{x t:Nat} {c:Array Value},v4.heap[x]?=some (.cells c t)->t≠55->v5.heap[x]?=some (.cells c t):=λhx ht=>K5.get hx λe=>dw hx mB ht (Jbm e)
 exact⟨K5.get (k4.get m4 nofun) (λe=>by injection e with e;omega),m5,o mP (by decide),o mO (by decide),o mI (by decide),(gA.trans k4).new K5 (by omega),l4,by omega,by omega,by omega,by omega,by omega⟩
theorem Xn(w:World){g n:Nat}(hg:g<n)(hn:n<=4):CY 55 #[.int .i64 g,.int .i64 n] w (λv w'=>∃T M D O I e,v=.tuple #[.agg (iP (kS g n) T M D O I).toArray,.int .i64 e]/\(∀w'':World,(∀x,w.heap.size<=x->x<w'.heap.size->w''.heap[x]?=w'.heap[x]?)->fE w'' T M D O I (kS g n))/\GB none w w'):=by
 refine qh fG Tryz.func55 rfl rfl ?_;refine CS.piece (Q:=λq w'=>∃b4,q=[(0,.int .i64 g),(1,.int .i64 n),(4,Ptt b4)]/\Hl w' b4 (zc fG.T 55) 55/\GB none w w'/\w.heap.size<=b4) (CS.e (λw1 b1 m1 g1 l1=>⟨_,by exact sb rfl,b1,rfl,m1,g1,l1⟩)) ?_;rintro q w1 ⟨b4,rfl,m4,g1,l4⟩;refine CS.piece (Q:=λq w'=>q=[(0,.int .i64 g),(1,.int .i64 n),(4,Ptt b4)]/\w'=w1) (CS.e ?_) ?_
 .refine ah (λe=>?_) (λe=>?_)
  .refine ah (λe=>?_) (λe=>?_)
   .refine ah (λe=>?_) (λe=>?_)
    .have:=Ptq e
     omega
    .exact⟨_,by exact sb rfl,rfl,rfl⟩
   .have:=Ptq (b00 e)
    omega
  .have:=Ptq (b00 e)
   omega
 rintro q w1 ⟨rfl,rfl⟩;refine CS.piece (Q:=λq w'=>∃b6 bM bO bI,q=[(4,Ptt b4),(6,Ptt b6)]/\Bgn w g n b4 b6 bM bO bI w') (CS.e ?_) ?_
 .refine⟨by kernel_rfl,.inl ⟨by omega,.inl ⟨by omega,?_⟩⟩⟩
  refine⟨?_,?_,?_,?_⟩;all_goals first|refine⟨rfl,by omega,by omega,λv1 b1 m1 K1 L1=>?_⟩|refine λv1 b1 m1 K1 L1=>?_
  all_goals refine⟨?_,?_,?_⟩
  all_goals first|refine⟨rfl,by omega,by omega,λv2 b2 m2 K2 L2=>?_⟩|refine λv2 b2 m2 K2 L2=>?_
  all_goals refine⟨?_,?_⟩
  all_goals first|refine⟨rfl,by omega,by omega,λv3 b3 m3 K3 L3=>?_⟩|refine λv3 b3 m3 K3 L3=>?_
  all_goals first|refine⟨rfl,by omega,by omega,λv4 b5 m5 K4 L5=>?_⟩|refine λv4 b5 m5 K4 L5=>?_
  all_goals
   have n1:=(K2.trans (K3.trans K4)).get m1 nofun;have n2:=(K3.trans K4).get m2 nofun;have n3:=K4.get m3 nofun;have l2:=K1.upl L2;have l3:=(K1.trans K2).upl L3;have l5:=(K1.trans (K2.trans K3)).upl L5;refine⟨_,_,_,‹_›,rfl,rfl,λv6 m6 K6=>⟨_,by exact sb rfl,_,?_,?_,?_,rfl,aau (c:=?_) g1 (K1.trans (K2.trans (K3.trans K4))) l4 m4 ?_ ?_ ?_ ?_ ?_ ?_ ?_ ?_ ?_ K6⟩⟩;rotate_left 4
   iterate 8 assumption
   exact m6
 rintro q w2 ⟨b6,bM,bO,bI,rfl,B⟩;have hO:LN 62 2 w w2 (.slice (Pty bO) n n) n ((replicate n ((0,Ptz,[]):La)).map nD).flatten:=by
  have hl:(((replicate n ((0,Ptz,[]):La)).map nD).flatten).length=n*2:=by rw[rz (f:=nD) (size:=2) (λ_=>rfl),Jgr]
  refine⟨⟨hl,.inr ⟨bO,n,_,rfl,Jcm _,B.mO,Jb0 _,Jb1 hn (by decide),?_,?_⟩⟩,B.gb,λy hy=>by have:=B.lO;simp[Value.ownBlock]at hy;omega⟩
  .rw[<-Array.length_toList,Px hn,hl]
  .rw[Px hn,Jd2 (by rw[hl];exact Jb0 _)]
 have hI:LN 59 1 w w2 (.slice (Pty bI) n n) n ((replicate n (0:Int)).map λi=>Value.int .u32 i):=by
  have hl:((replicate n (0:Int)).map λi=>Value.int .u32 i).length=n*1:=by rw[Jf6,Jgr];omega
  refine⟨⟨hl,.inr ⟨bI,n,_,rfl,Jcm _,B.mI,Jb0 _,Jb1 hn (by decide),?_,?_⟩⟩,B.gb,λy hy=>by have:=B.lI;simp[Value.ownBlock]at hy;omega⟩
  .rw[<-Array.length_toList,UL hn,hl]
  .rw[UL hn,Jd2 (by rw[hl];exact Jb0 _)]
 have hM:PN w w2 (.slice (Pty bM) 1 1) [⟨0,0⟩]:=⟨⟨rfl,.inr ⟨bM,1,_,rfl,Jcm _,B.mM,Jb0 _,by decide,rfl,rfl⟩⟩,B.gb,λy hy=>by have:=B.lM;simp[Value.ownBlock]at hy;omega⟩;refine CS.e ?_;refine⟨_,_,B.m6,_,rfl,?_⟩;refine⟨λm t wk=>∃(i:Nat) (ls:List La),m=n-i/\i<=n/\t=[(4,Ptt b4),(6,Ptt b6),(37,.int .i64 n),(38,.int .i64 i)]/\ls.length=n/\LN 62 2 w wk (.slice (Pty bO) ls.length n) ls.length (ls.map nD).flatten/\(∀j,ls[j]?=if j<i then some (1,Ptz,[])else if j<n then some (0,Ptz,[])else none)/\GB (some bO) w2 wk,⟨_,_,⟨0,replicate n (0,Ptz,[]),rfl,Jcm _,rfl,Jgr,by rw[Jgr];exact hO,λj=>?_,GB.refl _ _⟩,sb rfl⟩,?_⟩
 .rw[Jb5 (by omega),Jgt]
 have YP:∀{c:Array Value} {x t:Nat},w2.heap[x]?=some (.cells c t)->t≠62->some x≠some bO:=λhx ht e=>dw hx B.mO ht (Jbm e)
 rintro m t wk ⟨i,ls,rfl,hi,rfl,hll,L,hat,gk⟩;have m6:=gk.get B.m6 (YP B.m6 (by decide));refine ah (λd=>?_) (λd=>?_)
 .have d1:i<n:=by have:=Ptq d;omega
  have hx:ls[i]?=some (0,Ptz,[]):=by rw[hat,Jb5 (by omega),Jb6 d1]
  obtain⟨g',cap',cur,ev,hg',aR,hcut,hsz⟩:=L.at (f:=nD) (λ_=>rfl) hx;injection ev with ea _ ec;injection ea with ea;injection ea with ea;subst ea ec;refine⟨_,_,m6,_,rfl,by omega,_,_,_,aR,gT rfl rfl (by rw[Array.length_toList];show 0+(i:Int).toNat*2+0<_;omega),rfl,λw3 m3 g3=>?_⟩;have L3:=L.set (f:=nD) (j:=0) (x':=(1,Ptz,[])) (λ_=>rfl) aR hx (by decide) rfl m3 (by show 0+(i:Int).toNat*2+0=i*2+0;rw[Jfa,Jbh]) rfl rfl g3;refine⟨by omega,_,_,⟨i+1,ls.set i (1,Ptz,[]),rfl,by omega,rfl,by rw[Jgd];exact hll,L3,λj=>?_,gk.trans g3⟩,(sb rfl),by omega⟩;rw[jr (by omega),hat];by_cases e1:j=i
  .rw[Jb6 e1,Jb6 (by omega)]
  .rw[Jb5 e1]
   by_cases e2:j<i
   .rw[Jb6 e2,Jb6 (by omega)]
   .rw[Jb5 e2,Jb5 (show ¬j<i+1 by omega)]
 .have d1:i=n:=by have:=Ptx d;omega
  subst d1;have hls:ls=replicate i (1,Ptz,[]):=by
   refine Jcd λj=>?_
   rw[hat,Jgt];by_cases e:j<i
   .rw[Jb6 e,Jb6 e]
   .rw[Jb5 e,Jb5 e,Jb5 e]
  have gw:GB none w wk:=L.gb;have hIk:=hI.off gk (λx hx=>by cases hx;exact λz=>YP B.mI (by decide) (by simpa[Value.ownBlock]using z)) gw;have hMk:=hM.off gk (λx hx=>by cases hx;exact λz=>YP B.mM (by decide) (by simpa[Value.ownBlock]using z)) gw;have S:SA w wk (kS g i) Ptz (.slice (Pty bM) 1 1) Ptz (.slice (Pty bO) i i) (.slice (Pty bI) i i) ls:=by
   have hmem:∀l∈ls,l=(1,Ptz,[]):=λl hl=>by rw[hls]at hl;exact eq_of_mem_replicate hl
   refine⟨LN.nil gw,hMk,LN.nil gw,by rw[<-hll];rw[hll]at L |-;exact L,by show LN _ _ _ _ _ (replicate i (0:Int)).length _;rw[Jgr];exact hIk,λl hl=>?_,?_,λl hl x hx=>?_,λl hl x hx=>?_,λa b l l' _ hl _ y hy=>?_⟩
   .rw[hmem l hl];exact⟨LN.nil gw,λx hx=>by cases hx⟩
   .show ls.map Pn=replicate i (1,[])
    rw[hls,map_replicate];rfl
   .rw[hmem l hl]at hx;cases hx
   .rw[hmem l hl]at hx;cases hx
   .rw[hmem l (Jcv hl)]at hy;cases hy
  have m4k:=gk.get B.m4 (YP B.m4 (by decide));refine⟨_,_,m6,iP (kS g i) Ptz (.slice (Pty bM) 1 1) Ptz (.slice (Pty bO) i i) (.slice (Pty bI) i i),rfl,rfl,_,_,_,m4k,rfl,rfl,λw3 m3 g3=>?_⟩;refine⟨_,_,m3,iP (kS g i) Ptz (.slice (Pty bM) 1 1) Ptz (.slice (Pty bO) i i) (.slice (Pty bI) i i),rfl,rfl,_,_,_,_,_,_,rfl,λw'' hw=>?_,gw.new g3 B.l4⟩;have S3:=S.bU g3 m4k (by decide) (by decide) (by decide) (by decide) (by decide) (by decide) B.l4;exact S3.over hw
end
