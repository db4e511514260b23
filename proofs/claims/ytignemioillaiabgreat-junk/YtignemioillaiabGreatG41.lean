/- A shard at work (17): receive. -/
import Derived.Test.YtignemioillaiabGreatG40
namespace Go.Proofs.YtignemioillaiabGreat
set_option maxHeartbeats 8000000
set_option maxRecDepth 100000
section
open Go Go.Conc
theorem Vo (l:List Int):(l.map λ i=>[Value.int .u32 i]).flatten=l.map λ i=>Value.int .u32 i:=by
 induction l with
 | nil=>rfl
 | cons x l ih=>rw [List.map_cons,List.flatten_cons,ih];rfl
theorem Ov {α:Type} (v1 v2 v3:Value) (a b c:List α):(([(v1,a),(v2,b),(v3,c)]:List (Value×List α)).map (·.2)).flatten=a++(b++c):=by simp
section
variable {Λ:aC} {w0 w:World} {b:Nat} {s:St} {T M D O I:Value} {ls:List La}
theorem LN.one {w0 w:World} {v:Value} {l:List Int} (h:LN 59 1 w0 w v l.length (l.map λ i=>Value.int .u32 i)):LN 59 1 w0 w v l.length (l.map λ i=>[Value.int .u32 i]).flatten:=by rw [Vo];exact h
theorem QQ (h:Sw Λ w0 b s w T M D O I ls) (hk:uX s) (hI:∀ x∈s.I,0<=x/\x<4294967295) {r:Rg} {ra da:Option Addr} {rn rc dn dc:Nat} (h0:0<=r.src):af Tryz.prog 104 #[Ptt b,.agg (eO r (.slice ra rn rc) (.slice da dn dc)).toArray] w (λ v w'=>v=.bool (Bz s.g s.n s.I r)/\GB none w w'):=by
 have jB:=hk.n4;have hil:=hk.il;refine aj ah mixed Tryz.func104 rfl rfl ?_;refine λ w1 b1 m1 g1 l1=>?_
 replace h:=h.ax g1;unfold Bz;refine ⟨by kernel_rfl,_,_,m1,.int .u8 r.dst,rfl,_,_,h.mem,.int .u8 s.g,rfl,au (λ e=>?_) (λ e=>?_)⟩
 ·have e1:r.dst=s.g:=eq_of_beq (b11 e)
  refine ⟨_,_,m1,.int .u8 r.src,rfl,_,_,h.mem,.int .u8 s.g,rfl,au (λ e=>?_) (λ e=>?_)⟩
  ·have e2:¬ r.src=s.g:=by simpa using b11 e
   refine ⟨_,_,m1,.int .u8 r.src,rfl,_,_,h.mem,.int .u8 s.n,rfl,au (λ e=>?_) (λ e=>?_)⟩
   ·have e3:r.src<s.n:=of_decide_eq_true (b11 e)
    obtain ⟨j,hj⟩:=Int.eq_ofNat_of_zero_le h0;obtain ⟨x,hx⟩:∃ x,s.I[j]? = some x:=⟨s.I[j]'(by omega),by simp [show j<s.I.length by omega]⟩;obtain ⟨g,cap,cur,ev,hg,aR,hcut,hsz⟩:=h.sa.i.one.at (f:=λ i=>[Value.int .u32 i]) (λ _=>rfl) hx;subst ev;have hxb:=hI x (List.mem_of_getElem? hx);have hcell:cur.toList[0+r.src.toNat*1]? = some (.int .u32 x):=by
     have:=iy hcut (i:=0) rfl (by decide);rw [hj];exact this
    have hw:IntKind.u32.wrap ((s.I[r.src.toNat]?).getD 0+1)=x+1:=by
     rw [hj,Int.toNat_natCast,hx];exact wrap_u32 (by show 0<=x+1/\x+1<_;omega)
    refine ⟨_,_,m1,.int .u32 r.seq,rfl,_,_,h.mem,_,rfl,_,_,m1,.int .u8 r.src,rfl,⟨by omega,by omega⟩,_,_,aR,.int .u32 x,hcell,⟨by omega,by omega⟩,?_⟩;refine ⟨congrArg Value.bool ?_,g1⟩;rw [hw];simp [e1,e2,e3]
   ·have e3:¬ r.src<s.n:=of_decide_eq_false (b10 e)
    exact ⟨congrArg Value.bool (by simp [e3]),g1⟩
  ·have e2:r.src=s.g:=by simpa using b10 e
   exact ⟨congrArg Value.bool (by simp [e2]),g1⟩
 ·have e1:¬ r.dst=s.g:=by simpa using b10 e
  exact ⟨congrArg Value.bool (by simp [e1]),g1⟩
theorem GQ {r:Rg} (h:og r=true):r.lo<=r.hi/\Br r=true/\yD r=true:=by
 unfold og at h;simp only [Bool.and_eq_true,decide_eq_true_eq] at h;exact ⟨h.2.2.2.1,h.2.2.2.2.1,h.2.2.2.2.2⟩
theorem Ow (h:Sk Λ w0 b s w) (hk:uX s) (hz:Di s) (hI:∀ x∈s.I,0<=x/\x<4294967295) {r:Rg} {rv dv:Value} (hr:aM w0 r rv dv) (h0:0<=r.src) (h1:0<=r.lo) (h2:r.hi<=18446744073709551615):af Tryz.prog 62 #[Ptt b,.agg (eO r rv dv).toArray] w (λ v w'=>v=.tuple #[]/\Sk Λ w0 b (Db s r) w'):=by
 obtain ⟨ra,rn,rc,da,dn,dc,rfl,rfl⟩:=hr.sl;have jB:=hk.n4;have hil:=hk.il;have hgn:=hk.gn;refine aj ah mixed Tryz.func62 rfl rfl ?_;refine λ w1 b1 m1 g1 l1=>?_
 have hs0:=h.sz;obtain ⟨h,u1⟩:=h.box g1 m1 l1;clear m1 g1 l1;obtain ⟨T,M,D,O,I,ls,h⟩:=h;refine ⟨_,_,h.at,eO r _ _,rfl,rfl,_,C9 (hr.kz h.gb.kz),?_⟩;rintro _ w2 ⟨rfl,g2⟩;replace h:=h.ax g2;unfold Db;obtain ⟨ok,hok⟩:∃ ok,og r=ok:=⟨_,rfl⟩;rw [hok];cases ok
 ·rw [if_neg (by simp)]
  exact ⟨rfl,_,_,_,_,_,_,h.drop u1⟩
 obtain ⟨hlh,hrows,Ox⟩:=GQ hok;obtain ⟨_,_,hrl⟩:=Ck hrows;obtain ⟨_,_,hdl⟩:=Cm Ox;refine ⟨_,_,h.at,eO r _ _,rfl,rfl,_,QQ h hk hI h0,?_⟩;rintro _ w3 ⟨rfl,g3⟩;replace h:=h.ax g3;obtain ⟨nb,hnb⟩:∃ nb,Bz s.g s.n s.I r=nb:=⟨_,rfl⟩;rw [hnb];cases nb
 ·rw [if_neg (by simp)]
  exact ⟨rfl,_,_,_,_,_,_,h.drop u1⟩
 have hsrc:r.src<s.n:=by unfold Bz at hnb;simp at hnb;exact hnb.1.2
 have hM:zi w3 M s.M:=h.sa.m.fz;refine ⟨by kernel_rfl,_,_,h.mem,_,rfl,_,_,h.at,.int .u64 r.lo,rfl,_,_,h.at,.int .u64 r.hi,rfl,_,_,h.mem,.int .u8 s.g,rfl,_,Mh hM hk.Ci hk.can h1 hlh h2 (by omega:s.g<4),?_⟩;rintro _ w4 ⟨v',e',rfl,g4,hc⟩;rcases hc with ⟨c1,rfl,P⟩ | ⟨c1,rfl,rfl⟩;rotate_left
 ·rw [if_neg (by rintro ⟨_,_,z⟩;omega)]
  exact ⟨rfl,_,_,_,_,_,_,(h.ax g4).drop u1⟩
 rw [if_pos ⟨rfl,rfl,c1⟩];have uM:∀ x,v'.ownBlock=some x->_:=λ x hx=>h.qf (P.new x hx)
 replace P:=P.base h.gb;obtain ⟨va,vc,rfl⟩:=ae P.own;replace h:=h.ax g4;refine ⟨_,_,_,h.mem,rfl,rfl,λ w5 m5 g5=>?_⟩;replace h:=h.Zu P uM m5 g5;clear m5 g5 P uM hM g2 g3 g4;obtain ⟨j,hj⟩:=Int.eq_ofNat_of_zero_le h0;obtain ⟨x,hx⟩:∃ x,s.I[j]? = some x:=⟨s.I[j]'(by omega),by simp [show j<s.I.length by omega]⟩;obtain ⟨g,cap,cur,ev,hg,aR,hcut,hsz⟩:=h.sa.i.one.at (f:=λ i=>[Value.int .u32 i]) (λ _=>rfl) hx;subst ev;refine ⟨by kernel_rfl,_,_,h.mem,_,rfl,_,_,h.at,.int .u8 r.src,rfl,_,_,h.at,.int .u32 r.seq,rfl,⟨by omega,by show r.src<(s.I.length:Int);omega⟩,_,_,_,aR,fJ rfl rfl (by rw [Array.length_toList];show 0+r.src.toNat*1<_;have hsz':s.I.length*1<=cur.size:=hsz;omega),rfl,λ w6 m6 g6=>?_⟩;have LI:=h.sa.i.one.set (f:=λ i=>[Value.int .u32 i]) (j:=0) (x':=r.seq) (λ _=>rfl) aR hx (by decide) rfl m6 (by show 0+r.src.toNat*1=j*1+0;omega) rfl rfl g6;rw [Vo] at LI;have ejn:r.src.toNat=j:=by omega
 replace h:=h.adh (i':=s.I.set r.src.toNat r.seq) (by rw [ejn];simp only [List.length_set] at LI |-;exact LI) g6;clear aR hcut hsz m6 g6 LI;obtain ⟨f1,f2,f3⟩:=H7 (λ x:Row=>x.key) r.lo r.hi s.T;obtain ⟨e1,e2,e3⟩:=H7 (λ x:az=>x.key) r.lo r.hi s.D;have hzt:=hz.t;have hzd:=hz.d;refine ⟨by kernel_rfl,_,_,h.mem,_,rfl,_,_,h.at,.int .u64 r.lo,rfl,_,_,h.at,.int .u64 r.hi,rfl,_,GI h.sa.t.fz (Nat.le_trans hzt (by decide)) r.lo r.hi,?_⟩;rintro _ w7 ⟨v1,v2,v3,rfl,L1,L2,L3,sp⟩;obtain ⟨a1,c1',rfl⟩:=ae L1.own;obtain ⟨a2,c2',rfl⟩:=ae L2.own;obtain ⟨a3,c3',rfl⟩:=ae L3.own;replace h:=h.ax L1.gb;refine ⟨_,_,h.at,(.slice ra rn rc),rfl,λ w8 vb AQ g8 JO=>?_⟩;replace h:=h.ax g8;refine ⟨_,ED (xs:=[(_,sB (λ x:Row=>x.key) r.lo s.T),(_,r.rows),(_,sA (λ x:Row=>x.key) r.lo r.hi s.T)]) AQ ?_ (by rw [show eF _=_ from Ov _ _ _ _ _ _,List.length_append,List.length_append];omega) (by show 3<=100;decide),?_⟩
 ·intro x hx
  simp only [List.mem_cons,List.not_mem_nil,or_false] at hx;rcases hx with rfl | rfl | rfl
  ·exact (L1.ax g8).fz
  ·exact hr.1.kz h.gb.kz (by decide)
  ·exact (L3.ax g8).fz
 intro X' w9 LX;rw [show eF [_,_,_]=_ from Ov _ _ _ _ _ _] at LX;obtain ⟨xa,xc,rfl⟩:=ae LX.own;refine ⟨_,_,_,LX.gb.get h.mem nofun,rfl,rfl,λ qm m10 g10=>?_⟩;replace h:=h.nQ (t':=sB (λ x:Row=>x.key) r.lo s.T++(r.rows++sA (λ x:Row=>x.key) r.lo r.hi s.T)) (LX.base h.gb) LX.gb.weak (λ x hx=>.inr (LX.new x hx)) m10 g10;clear L1 L2 L3 sp LX m10 g10 AQ g8 JO;refine ⟨by kernel_rfl,_,_,h.mem,_,rfl,_,_,h.at,.int .u64 r.lo,rfl,_,_,h.at,.int .u64 r.hi,rfl,_,GJ h.sa.d.fz (Nat.le_trans hzd (by decide)) r.lo r.hi,?_⟩;rintro _ w7 ⟨v1,v2,v3,rfl,L1,L2,L3,sp⟩;obtain ⟨a1,c1',rfl⟩:=ae L1.own;obtain ⟨a2,c2',rfl⟩:=ae L2.own;obtain ⟨a3,c3',rfl⟩:=ae L3.own;replace h:=h.ax L1.gb;refine ⟨_,_,h.at,(.slice da dn dc),rfl,λ w8 vb AQ g8 JO=>?_⟩;replace h:=h.ax g8;refine ⟨_,EE (xs:=[(_,sB (λ x:az=>x.key) r.lo s.D),(_,r.aY),(_,sA (λ x:az=>x.key) r.lo r.hi s.D)]) AQ ?_ (by rw [show eG _=_ from Ov _ _ _ _ _ _,List.length_append,List.length_append];omega) (by show 3<=100;decide),?_⟩
 ·intro x hx
  simp only [List.mem_cons,List.not_mem_nil,or_false] at hx;rcases hx with rfl | rfl | rfl
  ·exact (L1.ax g8).fz
  ·exact hr.2.kz h.gb.kz (by decide)
  ·exact (L3.ax g8).fz
 intro X' w9 LX;rw [show eG [_,_,_]=_ from Ov _ _ _ _ _ _] at LX;obtain ⟨xa,xc,rfl⟩:=ae LX.own;refine ⟨_,_,_,LX.gb.get h.mem nofun,rfl,rfl,λ qm m10 g10=>?_⟩;replace h:=h.Oo (d':=sB (λ x:az=>x.key) r.lo s.D++(r.aY++sA (λ x:az=>x.key) r.lo r.hi s.D)) (LX.base h.gb) LX.gb.weak (λ x hx=>.inr (LX.new x hx)) m10 g10;clear L1 L2 L3 sp LX m10 g10 AQ g8 JO;exact ⟨rfl,_,_,_,_,_,_,h.drop u1⟩
end
section
variable {Λ:aC} {w0 w:World} {b:Nat} {s:St} {T M D O I:Value} {ls:List La}
theorem Sw.old (h:Sw Λ w0 b s w T M D O I ls) {x:Nat} {o:Obj} (hx:w.heap[x]? = some o) (hl:x<w0.heap.size):Sw (Λ.add x o) w0 b s w T M D O I ls:=by
 refine ⟨h.mem,h.nb,h.sa,λ y q hy=>?_,λ y q hy=>?_⟩
 ·unfold aC.add at hy
  split at hy
  ·rename_i e;subst e;cases hy;exact ⟨hx,λ ho=>by have:=h.new ho;omega⟩
  ·exact h.pr y q hy
 ·unfold aC.add at hy
  split at hy
  ·rename_i e;subst e
   intro hr;rcases hr with hr | ⟨l,hl',z,hz,hr | hr⟩
   ·have:=h.sa.m.new _ hr;omega
   ·have:=((h.sa.q l hl').r z hz).r.new _ hr;omega
   ·have:=((h.sa.q l hl').r z hz).d.new _ hr;omega
  ·exact h.rd y q hy
def ZF:aC:=λ _=>none
theorem wy {w0 wf:World} (_hs:w0.heap.size<=wf.heap.size) (_gf:GB none w0 wf) {s:St} {T M D O I:Value} {ls:List La} {w:World} {b3 b4:Nat} (n3:w0.heap.size<=b3) (n4:w0.heap.size<=b4) {w':World} (S:SA wf w s T M D O I ls) (g3:GB none w0 w) {w1:World} (_m1:w1.heap[b3]? = some (.cells (ik s T M D O I).toArray 55)) (g1:GB (some b3) w w1) (h3:b3<wf.heap.size) (h4:b4<wf.heap.size) (g2:GB (some b4) w1 w'):(∀ w'':World,(∀ x,w0.heap.size<=x->x<w'.heap.size->w''.heap[x]? = w'.heap[x]?)->jZ w'' T M D O I s)/\GB none w0 w':=by
 refine ⟨λ w'' hw=>S.over λ x hx hxl=>?_,(g3.new g1 n3).new g2 n4⟩;have k1:=g1.size;have k2:=g2.size;rw [hw x (by omega) (by omega),g2.block x (by omega) (λ e=>by injection e with e;omega),g1.block x hxl (λ e=>by injection e with e;omega)]
end
theorem TY {w:World} {s:St} {c:MC} {vT vM vD vO vI cv:Value} (h:jZ w vT vM vD vO vI s) (hk:uX s) (hz:Di s) (hS:Zc s) (hI:∀ x∈s.I,0<=x/\x<4294967295) (hc:jI w cv c) (hq:c.q.ZC) (hrb:0<=c.r.src/\0<=c.r.lo/\c.r.hi<=18446744073709551615) (hp:0<=c.peer):af Tryz.prog 38 #[.agg (ik s vT vM vD vO vI).toArray,cv] w (λ v w'=>∃ T M D O I,v=.tuple #[.agg (ik (sU s c).1 T M D O I).toArray,.agg (sU s c).2.cells.toArray]/\(∀ w'':World,(∀ x,w.heap.size<=x->x<w'.heap.size->w''.heap[x]? = w'.heap[x]?)->jZ w'' T M D O I (sU s c).1)/\GB none w w'):=by
 obtain ⟨ta,tc,rfl,hT'⟩:=h.T;obtain ⟨ma,mc',rfl,hM'⟩:=h.M;obtain ⟨da,dc,rfl,hD'⟩:=h.D;obtain ⟨_,_,⟨oa,oc,rfl,Zd⟩,_⟩:=h.O;obtain ⟨ia,ic,rfl,hI'⟩:=h.I;obtain ⟨rv,dv,rfl,hr⟩:=hc;obtain ⟨ra,rn,rc,rZ,zg,r9,e1,e2⟩:=hr.sl;subst e1 e2;refine aj ah mixed Tryz.func38 rfl rfl ?_;refine λ w1 b1 m1 g1 l1 w2 b2 m2 g2 l2 w3 b3 m3 g3 l3 w4 b4 m4 g4 l4=>?_
 have j1:=ag m1;have j2:=ag m2;have j3:=ag m3;have k4:=ag m4;have z1:=g1.size;have z2:=g2.size;have z3:=g3.size;have z4:=g4.size;have n34:b3≠b4:=by omega
 have n23:b2≠b3:=by omega
 have n24:b2≠b4:=by omega
 have G4:=((g1.trans g2).trans g3).trans g4;have m1:=g4.get (g3.get (g2.get m1 nofun) nofun) nofun;have m2:=g4.get (g3.get m2 nofun) nofun;have m3:=g4.get m3 nofun;refine ⟨_,_,m1,ik s (.slice ta _ tc) (.slice ma _ mc') (.slice da _ dc) (.slice oa _ oc) (.slice ia _ ic),rfl,rfl,_,TE (h.kz G4.kz) hS,?_⟩;rintro _ w5 ⟨T,M,D,O,I,ls,rfl,S⟩;have S5:=S;obtain ⟨Ta,Tc,rfl⟩:=ae S.t.own;obtain ⟨Ma,Mc,rfl⟩:=ae S.m.own;obtain ⟨Da,Dc,rfl⟩:=ae S.d.own;obtain ⟨Oa,Oc,rfl⟩:=ae S.o.own;obtain ⟨Ia,Ic,rfl⟩:=ae S.i.own;have hll:ls.length=s.O.length:=by rw [<- S.core,List.length_map]
 refine λ w6 b6 m6 g6 l6=>⟨_,_,_,m6,rfl,rfl,λ w7 m7 g7=>?_⟩
 refine λ w8 b7 m8 g8 l8=>?_
 have z5:=S.t.gb.size;have z6:=g6.size;have z7:=g7.size;have h0:Sw ZF w4 b6 s w7 _ _ _ _ _ ls:=⟨m7,by omega,S.ax (g6.new g7 l6),(λ _ _ h=>by cases h),(λ _ _ h=>by cases h)⟩;have G8:GB none w4 w8:=(S.t.gb.trans (g6.new g7 l6)).trans g8;have n72:b7≠b2:=by omega
 have n73:b7≠b3:=by omega
 have n74:b7≠b4:=by omega
 have q7:w4.heap.size<=b7:=by omega
 have hsw:=(((h0.box g8 m8 l8).old (G8.get m2 nofun) (by omega)).old (G8.get m3 nofun) (by omega)).old (G8.get m4 nofun) k4;clear h0 m6 g6 l6 m7 g7 m8 g8 l8 S S5;have hM8:zi w8 (.slice Ma s.M.length Mc) s.M:=hsw.sa.m.fz;refine ⟨_,_,hsw.mem,ik s (.slice Ta _ Tc) (.slice Ma _ Mc) (.slice Da _ Dc) (.slice Oa _ Oc) (.slice Ia _ Ic),rfl,rfl,_,TF w8 hM8 hk.Ci hk.can ⟨_,_,by rw [hll]⟩ ⟨_,_,rfl⟩ ⟨_,_,_,rfl⟩ ⟨_,_,_,rfl⟩ hk.gn hk.n4 (by have:=hk.g0;have:=hk.gn;omega) hk.ol hk.il,?_⟩;rintro _ w9 ⟨rfl,g9⟩;have h:Sk ((((ZF.add b7 _).add b2 _).add b3 _).add b4 _) w4 b6 s w9:=⟨_,_,_,_,_,_,hsw.ax g9⟩;clear hsw hM8;have a2:=h.g (x:=b2) (by rw [aC.ne n24,aC.ne n23,aC.eq]);have hr4:=hr.kz G4.kz;obtain ⟨kd,q,r,peer,seq⟩:=c;dsimp only at hr hq hrb hp hr4;unfold sU;dsimp only;by_cases k1:kd=1
 ·subst k1
  simp only [if_true];refine ⟨_,_,a2,_,rfl,_,_,a2,q.cells,rfl,rfl,_,Xg h hk hz hq,?_⟩;rintro _ qm ⟨rfl,h⟩;generalize yH s q=A at *;obtain ⟨s',P⟩:=A;dsimp only at h |-;have a7:=h.g (x:=b7) (by rw [aC.ne n74,aC.ne n73,aC.ne n72,aC.eq]);refine ⟨_,_,_,a7,rfl,rfl,λ qm m10 g10=>?_⟩;replace m10:qm.heap[b7]? = some (.cells P.cells.toArray 70):=m10;replace h:=h.over (by rw [aC.ne n74,aC.ne n73,aC.ne n72,aC.eq]) g10 m10 q7;have a7:=h.g (x:=b7) (aC.eq _ b7 _);have a3:=h.g (x:=b3) (by rw [aC.ne n73.symm,aC.ne n34,aC.eq]);have a4:=h.g (x:=b4) (by rw [aC.ne n74.symm,aC.eq]);obtain ⟨T,M,D,O,I,ls',hw⟩:=h;obtain ⟨Ta,Tc,rfl⟩:=ae hw.sa.t.own;obtain ⟨Ma,Mc,rfl⟩:=ae hw.sa.m.own;obtain ⟨Da,Dc,rfl⟩:=ae hw.sa.d.own;obtain ⟨Oa,Oc,rfl⟩:=ae hw.sa.o.own;obtain ⟨Ia,Ic,rfl⟩:=ae hw.sa.i.own;refine ⟨by kernel_rfl,_,_,hw.mem,ik s' (.slice Ta _ Tc) (.slice Ma _ Mc) (.slice Da _ Dc) (.slice Oa _ Oc) (.slice Ia _ Ic),rfl,rfl,_,_,a7,P.cells,rfl,rfl,_,_,_,a3,rfl,rfl,λ EF m11 g11=>?_⟩;refine ⟨⟨g11.get a7 (λ e=>n73 (Option.some.inj e)),g11.get hw.mem (λ e=>by injection e with e;have:=hw.nb;omega),trivial⟩,_,_,_,g11.get a4 (λ e=>n34 (Option.some.inj e).symm),rfl,rfl,λ Vk m12 g12=>?_⟩;replace m11:EF.heap[b3]? = some (.cells (ik s' (.slice Ta _ Tc) (.slice Ma _ Mc) (.slice Da _ Dc) (.slice Oa _ Oc) (.slice Ia _ Ic)).toArray 55):=m11;obtain ⟨r1,r2⟩:=wy (w0:=w) (by have:=G4.size;omega) G4 (by omega) (by omega) hw.sa (G4.trans hw.gb) m11 g11 (by omega) k4 g12;exact ⟨_,_,g12.get m11 (λ e=>n34 (Option.some.inj e)),ik s' (.slice Ta _ Tc) (.slice Ma _ Mc) (.slice Da _ Dc) (.slice Oa _ Oc) (.slice Ia _ Ic),rfl,rfl,_,_,m12,P.cells,rfl,rfl,_,_,_,_,_,rfl,r1,r2⟩
 by_cases k2:kd=2
 ·subst k2
  rw [if_neg (by decide),if_pos rfl];refine ⟨_,_,a2,_,rfl,_,_,a2,eO r (.slice ra rn rc) (.slice rZ zg r9),rfl,rfl,_,Ow h hk hz hI hr4 hrb.1 hrb.2.1 hrb.2.2,?_⟩;rintro _ qm ⟨rfl,h⟩;generalize Db s r=s' at *;have a7:=h.g (x:=b7) (by rw [aC.ne n74,aC.ne n73,aC.ne n72,aC.eq]);have a3:=h.g (x:=b3) (by rw [aC.ne n34,aC.eq]);have a4:=h.g (x:=b4) (aC.eq _ b4 _);obtain ⟨T,M,D,O,I,ls',hw⟩:=h;obtain ⟨Ta,Tc,rfl⟩:=ae hw.sa.t.own;obtain ⟨Ma,Mc,rfl⟩:=ae hw.sa.m.own;obtain ⟨Da,Dc,rfl⟩:=ae hw.sa.d.own;obtain ⟨Oa,Oc,rfl⟩:=ae hw.sa.o.own;obtain ⟨Ia,Ic,rfl⟩:=ae hw.sa.i.own;refine ⟨by kernel_rfl,_,_,hw.mem,ik s' (.slice Ta _ Tc) (.slice Ma _ Mc) (.slice Da _ Dc) (.slice Oa _ Oc) (.slice Ia _ Ic),rfl,rfl,_,_,a7,rY.cells,rfl,rfl,_,_,_,a3,rfl,rfl,λ EF m11 g11=>?_⟩;refine ⟨⟨g11.get a7 (λ e=>n73 (Option.some.inj e)),g11.get hw.mem (λ e=>by injection e with e;have:=hw.nb;omega),trivial⟩,_,_,_,g11.get a4 (λ e=>n34 (Option.some.inj e).symm),rfl,rfl,λ Vk m12 g12=>?_⟩;replace m11:EF.heap[b3]? = some (.cells (ik s' (.slice Ta _ Tc) (.slice Ma _ Mc) (.slice Da _ Dc) (.slice Oa _ Oc) (.slice Ia _ Ic)).toArray 55):=m11;obtain ⟨r1,r2⟩:=wy (w0:=w) (by have:=G4.size;omega) G4 (by omega) (by omega) hw.sa (G4.trans hw.gb) m11 g11 (by omega) k4 g12;exact ⟨_,_,g12.get m11 (λ e=>n34 (Option.some.inj e)),ik s' (.slice Ta _ Tc) (.slice Ma _ Mc) (.slice Da _ Dc) (.slice Oa _ Oc) (.slice Ia _ Ic),rfl,rfl,_,_,m12,rY.cells,rfl,rfl,_,_,_,_,_,rfl,r1,r2⟩
 by_cases k3:kd=3
 ·subst k3
  rw [if_neg (by decide),if_neg (by decide),if_pos rfl];refine ⟨_,_,a2,_,rfl,_,_,a2,.int .u8 peer,rfl,_,_,a2,.int .u32 seq,rfl,_,QJ h hk (λ o ho=>Nat.le_trans (hz.q o ho).1 (by decide)) hp,?_⟩;rintro _ qm ⟨rfl,h⟩;generalize De s peer seq=s' at *;have a7:=h.g (x:=b7) (by rw [aC.ne n74,aC.ne n73,aC.ne n72,aC.eq]);have a3:=h.g (x:=b3) (by rw [aC.ne n34,aC.eq]);have a4:=h.g (x:=b4) (aC.eq _ b4 _);obtain ⟨T,M,D,O,I,ls',hw⟩:=h;obtain ⟨Ta,Tc,rfl⟩:=ae hw.sa.t.own;obtain ⟨Ma,Mc,rfl⟩:=ae hw.sa.m.own;obtain ⟨Da,Dc,rfl⟩:=ae hw.sa.d.own;obtain ⟨Oa,Oc,rfl⟩:=ae hw.sa.o.own;obtain ⟨Ia,Ic,rfl⟩:=ae hw.sa.i.own;refine ⟨by kernel_rfl,_,_,hw.mem,ik s' (.slice Ta _ Tc) (.slice Ma _ Mc) (.slice Da _ Dc) (.slice Oa _ Oc) (.slice Ia _ Ic),rfl,rfl,_,_,a7,rY.cells,rfl,rfl,_,_,_,a3,rfl,rfl,λ EF m11 g11=>?_⟩;refine ⟨⟨g11.get a7 (λ e=>n73 (Option.some.inj e)),g11.get hw.mem (λ e=>by injection e with e;have:=hw.nb;omega),trivial⟩,_,_,_,g11.get a4 (λ e=>n34 (Option.some.inj e).symm),rfl,rfl,λ Vk m12 g12=>?_⟩;replace m11:EF.heap[b3]? = some (.cells (ik s' (.slice Ta _ Tc) (.slice Ma _ Mc) (.slice Da _ Dc) (.slice Oa _ Oc) (.slice Ia _ Ic)).toArray 55):=m11;obtain ⟨r1,r2⟩:=wy (w0:=w) (by have:=G4.size;omega) G4 (by omega) (by omega) hw.sa (G4.trans hw.gb) m11 g11 (by omega) k4 g12;exact ⟨_,_,g12.get m11 (λ e=>n34 (Option.some.inj e)),ik s' (.slice Ta _ Tc) (.slice Ma _ Mc) (.slice Da _ Dc) (.slice Oa _ Oc) (.slice Ia _ Ic),rfl,rfl,_,_,m12,rY.cells,rfl,rfl,_,_,_,_,_,rfl,r1,r2⟩
 ·rw [if_neg k1,if_neg k2,if_neg k3]
  refine ⟨_,_,a2,.int .u8 kd,rfl,?_⟩;refine au (λ e=>absurd (by simpa using e) k1) (λ _=>?_);refine au (λ e=>absurd (by simpa using e) k2) (λ _=>?_);refine au (λ e=>absurd (by simpa using e) k3) (λ _=>?_);have a7:=h.g (x:=b7) (by rw [aC.ne n74,aC.ne n73,aC.ne n72,aC.eq]);have a3:=h.g (x:=b3) (by rw [aC.ne n34,aC.eq]);have a4:=h.g (x:=b4) (aC.eq _ b4 _);obtain ⟨T,M,D,O,I,ls',hw⟩:=h;obtain ⟨Ta,Tc,rfl⟩:=ae hw.sa.t.own;obtain ⟨Ma,Mc,rfl⟩:=ae hw.sa.m.own;obtain ⟨Da,Dc,rfl⟩:=ae hw.sa.d.own;obtain ⟨Oa,Oc,rfl⟩:=ae hw.sa.o.own;obtain ⟨Ia,Ic,rfl⟩:=ae hw.sa.i.own;refine ⟨by kernel_rfl,_,_,hw.mem,ik s (.slice Ta _ Tc) (.slice Ma _ Mc) (.slice Da _ Dc) (.slice Oa _ Oc) (.slice Ia _ Ic),rfl,rfl,_,_,a7,rY.cells,rfl,rfl,_,_,_,a3,rfl,rfl,λ EF m11 g11=>?_⟩;refine ⟨⟨g11.get a7 (λ e=>n73 (Option.some.inj e)),g11.get hw.mem (λ e=>by injection e with e;have:=hw.nb;omega),trivial⟩,_,_,_,g11.get a4 (λ e=>n34 (Option.some.inj e).symm),rfl,rfl,λ Vk m12 g12=>?_⟩;replace m11:EF.heap[b3]? = some (.cells (ik s (.slice Ta _ Tc) (.slice Ma _ Mc) (.slice Da _ Dc) (.slice Oa _ Oc) (.slice Ia _ Ic)).toArray 55):=m11;obtain ⟨r1,r2⟩:=wy (w0:=w) (by have:=G4.size;omega) G4 (by omega) (by omega) hw.sa (G4.trans hw.gb) m11 g11 (by omega) k4 g12;exact ⟨_,_,g12.get m11 (λ e=>n34 (Option.some.inj e)),ik s (.slice Ta _ Tc) (.slice Ma _ Mc) (.slice Da _ Dc) (.slice Oa _ Oc) (.slice Ia _ Ic),rfl,rfl,_,_,m12,rY.cells,rfl,rfl,_,_,_,_,_,rfl,r1,r2⟩
end
end Go.Proofs.YtignemioillaiabGreat
