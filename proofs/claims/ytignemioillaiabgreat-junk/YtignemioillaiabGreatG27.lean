/- A replica at work (27): tick. -/
import Derived.Test.YtignemioillaiabGreatG26
namespace Go.Proofs.YtignemioillaiabGreat
set_option maxHeartbeats 8000000
set_option linter.unusedSectionVars false
set_option maxRecDepth 100000
section
open Go Go.Conc
def bG (A:aT) (R:MR):MR:=if R.sc.role=0 then mE A R else R
def fG (A:aT) (R:MR):MR:=lH A.enc R { aP 3 with b:=R.sc.b } (gD R.sc.g R.sc.i R.sc.g R.sc.sz)
def qx (A:aT) (R:MR):MR:=if R.sc.role=0 then R else if R.sc.role=2 then qZ A.enc (fG A R) else fG A R
def kX (A:aT) (R:MR):MR:=qx A (bG A R)
theorem Ee {n:Nat} (h:((n:Int) == 2)=true):n=2:=by simp at h;omega
theorem Lf {n:Nat} (h:((n:Int) == 2)=false):¬ n=2:=by simp at h;omega
section
variable {A:aT} (HA:bK A) {Λ:bU} {w:World} {br:Nat} {R:MR}
include HA
theorem Ok.bG (ho:Ok A R):Ok A (bG A R)/\(bG A R).out.length<=R.out.length+20000/\(bG A R).sc.i=R.sc.i/\(bG A R).sc.sz=R.sc.sz:=by
 unfold Go.Proofs.YtignemioillaiabGreat.bG;split
 ·exact ho.eu HA
 ·exact ⟨ho,Nat.le_add_right _ _,rfl,rfl⟩
theorem Ok.qx (ho:Ok A R):Ok A (qx A R):=by
 unfold Go.Proofs.YtignemioillaiabGreat.qx;split
 ·exact ho
 ·have o2:Ok A (fG A R):=ho.snd _ _ _
  split
  ·have O1:=vW A.enc (fG A R) ho.sz (fG A R).sc.next
   have o3:=O1.ok o2;exact (vX A.enc _ o3.sz _).ok o3
  ·exact o2
theorem Ok.tick (ho:Ok A R):Ok A (kX A R):=(ho.bG HA).1.qx HA
theorem Wy (h:Wk Λ br R w) (ho:Ok A R) (hb:R.out.length<=840000):af Tryz.prog 57 #[Ptt br] w (λ v w'=>v=.tuple #[]/\Wk Λ br (kX A R) w'/\Kz w w'):=by
 have h0:=h;obtain ⟨a,h⟩:=h;obtain ⟨o1,l1,_,_⟩:=ho.bG HA;refine aj ah mixed Tryz.func57 rfl rfl ?_;refine ⟨_,_,h.ri.mem,_,rfl,au (λ c=>?_) (λ c=>?_)⟩
 ·have c1:R.sc.role=0:=by simp at c;omega
  have e1:bG A R=mE A R:=if_pos c1;refine ⟨_,Ww HA h0 ho hb,?_⟩;rintro _ w1 ⟨rfl,h1,k1⟩;rw [<- e1] at h1;obtain ⟨a1,h1⟩:=h1;refine ⟨_,_,h1.ri.mem,_,rfl,au (λ d=>?_) (λ d=>?_)⟩
  ·have d1:(bG A R).sc.role=0:=by simp at d;omega
   have em:kX A R=bG A R:=if_pos d1;rw [em];exact ⟨rfl,⟨_,h1⟩,k1⟩
  have d1:¬ (bG A R).sc.role=0:=by simp at d;omega
  refine ⟨by kernel_rfl,_,_,h1.ri.mem,_,rfl,rfl,_,yn ⟨_,h1⟩ o1.sz,?_⟩;rintro v w2 ⟨hv,g2⟩;have hol:=iR (bG A R).sc.g (bG A R).sc.i (bG A R).sc.g (bG A R).sc.sz;have hz:=o1.sz;refine ⟨⟨(h1.ax g2).ri.mem,trivial⟩,_,mU HA.mD (Wk.ax ⟨_,h1⟩ g2) (m:={ aP 3 with b:=(bG A R).sc.b }) ⟨_,_,_,_,_,rfl,aM.zero _,bV.zero _,aM.zero _⟩ hv (by omega),?_⟩;rintro _ w3 ⟨rfl,h3,k3⟩;have kk:=(k1.trans g2.kz).trans k3;have P8:Wk Λ br (fG A (bG A R)) w3:=h3;obtain ⟨a3,h3⟩:=h3;refine ⟨_,_,h3.ri.mem,_,rfl,au (λ e=>?_) (λ e=>?_)⟩
  ·have vV:(bG A R).sc.role=2:=Ee e
   have em:kX A R=qZ A.enc (fG A (bG A R)):=(if_neg d1).trans (if_pos vV);rw [em];refine ⟨_,Gx HA P8 (o1.snd _ _ _) (by unfold fG;rw [jN];omega),?_⟩;rintro _ w4 ⟨rfl,h4,k4⟩;exact ⟨rfl,h4,kk.trans k4⟩
  ·have vV:¬ (bG A R).sc.role=2:=Lf e
   have em:kX A R=fG A (bG A R):=(if_neg d1).trans (if_neg vV);rw [em];exact ⟨rfl,P8,kk⟩
 ·have c1:¬ R.sc.role=0:=by simp at c;omega
  have e1:bG A R=R:=if_neg c1;have h1:=h0;rw [<- e1] at h1;have k1:=Kz.refl w;obtain ⟨a1,h1⟩:=h1;refine ⟨_,_,h1.ri.mem,_,rfl,au (λ d=>?_) (λ d=>?_)⟩
  ·have d1:(bG A R).sc.role=0:=by simp at d;omega
   have em:kX A R=bG A R:=if_pos d1;rw [em];exact ⟨rfl,⟨_,h1⟩,k1⟩
  have d1:¬ (bG A R).sc.role=0:=by simp at d;omega
  refine ⟨by kernel_rfl,_,_,h1.ri.mem,_,rfl,rfl,_,yn ⟨_,h1⟩ o1.sz,?_⟩;rintro v w2 ⟨hv,g2⟩;have hol:=iR (bG A R).sc.g (bG A R).sc.i (bG A R).sc.g (bG A R).sc.sz;have hz:=o1.sz;refine ⟨⟨(h1.ax g2).ri.mem,trivial⟩,_,mU HA.mD (Wk.ax ⟨_,h1⟩ g2) (m:={ aP 3 with b:=(bG A R).sc.b }) ⟨_,_,_,_,_,rfl,aM.zero _,bV.zero _,aM.zero _⟩ hv (by omega),?_⟩;rintro _ w3 ⟨rfl,h3,k3⟩;have kk:=(k1.trans g2.kz).trans k3;have P8:Wk Λ br (fG A (bG A R)) w3:=h3;obtain ⟨a3,h3⟩:=h3;refine ⟨_,_,h3.ri.mem,_,rfl,au (λ e=>?_) (λ e=>?_)⟩
  ·have vV:(bG A R).sc.role=2:=Ee e
   have em:kX A R=qZ A.enc (fG A (bG A R)):=(if_neg d1).trans (if_pos vV);rw [em];refine ⟨_,Gx HA P8 (o1.snd _ _ _) (by unfold fG;rw [jN];omega),?_⟩;rintro _ w4 ⟨rfl,h4,k4⟩;exact ⟨rfl,h4,kk.trans k4⟩
  ·have vV:¬ (bG A R).sc.role=2:=Lf e
   have em:kX A R=fG A (bG A R):=(if_neg d1).trans (if_neg vV);rw [em];exact ⟨rfl,P8,kk⟩
end
def nX (R:MR):MR:={ R with sc:={ R.sc with wb:=R.sc.b },fu:=orM R.cz R.fu }
def mStart (A:aT) (R:MR):MR:={ fD R with known:=λ _=>none,cz:=orM R.fu λ _=>none,sc:={ (fD R).sc with b:=R.sc.wb,seen:=R.sc.wb.n },log:=[],st:=A.bg R.sc.g R.sc.gs }
section
variable {A:aT} {Λ:bU} {w:World} {br:Nat} {R:MR}
theorem P9 {P:Nat->MV->Prop} {f g:Nat->Option MV} (hf:∀ k v,f k=some v->P k v) (hg:∀ k v,g k=some v->P k v):∀ k v,orM f g k=some v->P k v:=by
 intro k v h;unfold orM at h;cases hv:f k with
 | none=>rw [hv] at h;exact hg k v h
 | some x=>rw [hv] at h;exact hf k v (hv.trans h)
theorem Ok.write (ho:Ok A R):Ok A (nX R):=⟨ho.sz,ho.i,ho.st,ho.kn,ho.pp,ho.vt,P9 ho.vt ho.wv,ho.mt,ho.ac,ho.pr,ho.lg,ho.lc,ho.nx,ho.sn.1,ho.sn.2.1,ho.sn.2.1⟩
end
section
variable {A:aT} (HA:bK A) {Λ:bU} {w:World} {br:Nat} {R:MR}
include HA
theorem Ok.start (ho:Ok A R):Ok A (mStart A R):=⟨ho.sz,ho.i,HA.NT _ _ ho.i.2.2.2 ho.i.2.1 ho.i.2.2.1,λ _ _ h=>(by cases h),λ _ _ h=>(by cases h),P9 ho.wv (λ _ _ h=>(by cases h)),ho.wv,λ _ _ h=>(by cases h),λ _ _ h=>(by cases h),Nat.zero_lt_succ _,Nat.zero_le _,λ _ h=>(by cases h),ho.nx,ho.sn.2.2,ho.sn.2.2,ho.sn.2.2⟩
theorem Js (h:Wk Λ br R w) (hg:R.sc.g<R.sc.gs) (hn:R.sc.gs<=4):af Tryz.prog 88 #[Ptt br] w (λ v w'=>v=.tuple #[]/\Wk Λ br (mStart A R) w'/\Kz w w'):=by
 refine aj ah mixed Tryz.func88 rfl rfl ?_;refine ⟨_,CQ br R Λ w h,?_⟩;rintro _ w1 ⟨rfl,⟨a,h1⟩,k1⟩;have eS:mStart A R={ fD R with known:=λ _=>none,cz:=orM (fD R).fu λ _=>none,sc:={ (fD R).sc with b:=(fD R).sc.wb,seen:=(fD R).sc.wb.n },log:=[],st:=A.bg (fD R).sc.g (fD R).sc.gs }:=rfl;have hg:(fD R).sc.g<(fD R).sc.gs:=hg;have hn:(fD R).sc.gs<=4:=hn;rw [eS];generalize fD R=R1 at *;obtain ⟨vm,wm,kn,mt,pp,ac,lg,ob,sT,sM,sD,sO,sI⟩:=a;obtain ⟨f,e1,_⟩:=h1.ri.kn;refine ⟨_,_,h1.ri.mem,_,rfl,f,e1,λ w2 m2 g2=>?_⟩;have h2:Wa Λ br { R1 with known:=λ _=>none } ⟨vm,wm,kn,mt,pp,ac,lg,ob,sT,sM,sD,sO,sI⟩ w2:=h1.step h1.ri.uL g2 (h1.ri.Dr g2 (bR.none m2));have k2:=k1.trans (h1.ri.kz h1.ri.uL g2);obtain ⟨f,e1,_⟩:=h2.ri.vm;refine ⟨_,_,h2.ri.mem,_,rfl,f,e1,λ w3 m3 g3=>?_⟩;have h3:Wa Λ br { R1 with known:=λ _=>none,cz:=λ _=>none } ⟨vm,wm,kn,mt,pp,ac,lg,ob,sT,sM,sD,sO,sI⟩ w3:=h2.step h2.ri.uK g3 (h2.ri.YD g3 (bR.none m3));have k3:=k2.trans (h2.ri.kz h2.ri.uK g3);have hne:wm≠vm:=by have:=h3.ri.sep;simp at this;omega
 refine ⟨by kernel_rfl,_,_,h3.ri.mem,_,rfl,_,_,h3.ri.mem,_,rfl,_,FH h3.ri.vm h3.ri.wm hne,?_⟩;rintro _ w4 ⟨rfl,hm4,g4⟩;have h4:Wa Λ br { R1 with known:=λ _=>none,cz:=orM R1.fu λ _=>none } ⟨vm,wm,kn,mt,pp,ac,lg,ob,sT,sM,sD,sO,sI⟩ w4:=h3.step h3.ri.uK g4 (h3.ri.YD g4 hm4);have k4:=k3.trans (h3.ri.kz h3.ri.uK g4);refine ⟨_,_,h4.ri.mem,_,rfl,rfl,_,_,_,h4.ri.mem,rfl,rfl,λ w5 m5 g5=>?_⟩;have h5:Wa Λ br { R1 with known:=λ _=>none,cz:=orM R1.fu λ _=>none,sc:={ R1.sc with b:=R1.sc.wb } } ⟨vm,wm,kn,mt,pp,ac,lg,ob,sT,sM,sD,sO,sI⟩ w5:=h4.cell (s':={ R1.sc with b:=R1.sc.wb }) m5 g5;have k5:=k4.trans (h4.ri.kz h4.ri.iX g5);refine ⟨_,_,h5.ri.mem,_,rfl,_,_,_,h5.ri.mem,rfl,rfl,λ w6 m6 g6=>?_⟩;have h6:Wa Λ br { R1 with known:=λ _=>none,cz:=orM R1.fu λ _=>none,sc:={ R1.sc with b:=R1.sc.wb,seen:=R1.sc.wb.n } } ⟨vm,wm,kn,mt,pp,ac,lg,ob,sT,sM,sD,sO,sI⟩ w6:=h5.cell (s':={ R1.sc with b:=R1.sc.wb,seen:=R1.sc.wb.n }) m6 g6;have k6:=k5.trans (h5.ri.kz h5.ri.iX g6);refine ⟨_,_,_,h6.ri.mem,rfl,rfl,λ w7 m7 g7=>?_⟩;obtain ⟨h7,k7⟩:=h6.lg' (lv:=.slice none 0 0) (ls:=[]) (GB.refl _ _) ⟨[],rfl,eX _ _ _,λ i c p h=>(by simp at h)⟩ nofun m7 g7;have k7:=k6.trans k7;have h7:Wa Λ br { R1 with known:=λ _=>none,cz:=orM R1.fu λ _=>none,sc:={ R1.sc with b:=R1.sc.wb,seen:=R1.sc.wb.n },log:=[] } ⟨vm,wm,kn,mt,pp,ac,.slice none 0 0,ob,sT,sM,sD,sO,sI⟩ w7:=h7;refine ⟨by kernel_rfl,_,_,h7.ri.mem,_,rfl,.inl ⟨(λ (n:Nat) (h:n<=4)=>(by omega : -9223372036854775808<=(n:Int)/\(n:Int)<=9223372036854775807)) R1.sc.g (by omega),_,_,h7.ri.mem,_,rfl,_,HA.beg w7 R1.sc.g R1.sc.gs hg hn,?_⟩⟩;rintro _ w8 ⟨T,M,D,O,I,e,rfl,hs,g8⟩;obtain ⟨ta,tn,tc,ma,mn,mc,da,dn,dc,oa,on,oc,ia,il,ic,rfl,rfl,rfl,rfl,rfl⟩:=(hs _ λ _ _ _=>rfl).sl;have h8:=h7.ax g8;refine ⟨_,_,_,h8.ri.mem,rfl,rfl,λ w9 m9 g9=>?_⟩;have hbr:br<w7.heap.size:=ag h7.ri.mem;obtain ⟨h9,k9⟩:=h8.st' (hs w9 λ x hx hx3=>g9.block x hx3 λ e=>by cases e;omega) m9 g9;exact ⟨rfl,⟨_,h9⟩,(k7.trans g8.kz).trans k9⟩
end
structure GM (A:aT) (R:MR) (f:Nat×Nat) (m:MM):Prop where
 bn:m.b.n<=4294967295
 ask:m.kind=1->A.gc (gI m.q)
 vs:m.kind=4->(∀ v∈m.vs,A.gc v.c/\v.slot<60)/\m.vs.length<=1000000/\f.2<5
 acc:m.kind=6->A.gc m.c/\m.s<60
 pK:m.kind=7->m.s<60/\f.2<5
 dec:m.kind=8->A.gc m.c/\m.s<60
 qy:m.kind=9->0<=m.r.src/\m.r.src.toNat<R.st.I.length/\m.r.seq<=4294967295/\A.gc (oI m.r)
 lK:m.kind=10->0<=m.peer/\m.peer.toNat<R.st.O.length/\A.gc (sS m.peer m.seq)
section
variable (A:aT)
def nY (R:MR) (f:Nat×Nat) (m:MM):MR:=if m.kind=1 then uT A R m.q else if m.kind=3 then rE A.enc R f m.b else if m.kind=4 then iZ A R f m.b m.vs else if m.kind=5 then (if R.sc.b.lt m.b=true then fD R else R) else if m.kind=6 then j4 A R f m else if m.kind=7 then tZ A R f m else if m.kind=8 then iN A R m.s m.c else if m.kind=9 then rF A R f m.r else if m.kind=10 then rG A R m.peer.toNat m.seq else R
def nC (R:MR) (m:MM):MR:={ R with sc:={ R.sc with seen:=max R.sc.seen m.b.n } }
def iU (R:MR) (f:Nat×Nat) (d:ByteArray):MR:=match A.dec d with
 | none=>R
 | some m=>if f.1=255/\m.kind≠1 then R else nY A (nC R m) f m
end
section
variable {A:aT} (HA:bK A) {Λ:bU} {w:World} {br:Nat} {R:MR}
theorem Ok.seen (ho:Ok A R) {m:MM} (hm:m.b.n<=4294967295):Ok A (nC R m):=⟨ho.sz,ho.i,ho.st,ho.kn,ho.pp,ho.vt,ho.wv,ho.mt,ho.ac,ho.pr,ho.lg,ho.lc,ho.nx,by show max R.sc.seen m.b.n<=_;have:=ho.sn.1;omega,ho.sn.2.1,ho.sn.2.2⟩
include HA
theorem Wz (hk:∀ d m,A.dec d=some m->1<=m.kind/\m.kind<=10) (h:Wk Λ br R w) (ho:Ok A R) (f t:Nat×Nat) (d:ByteArray) (hm:∀ m,A.dec d=some m->¬ (f.1=255/\m.kind≠1)->GM A R f m) (hb:R.out.length<=840000):af Tryz.prog 49 #[Ptt br,.agg #[.int .u8 f.1,.int .u8 f.2,.int .u8 t.1,.int .u8 t.2,.string d]] w (λ v w'=>v=.tuple #[]/\Wk Λ br (iU A R f d) w'/\Kz w w'):=by
 have hbr:br<w.heap.size:=by obtain ⟨a,h⟩:=h;exact ag h.ri.mem
 refine Ak ah Tryz.func49 rfl rfl ?_;refine CS.piece (Q:=λ q w'=>∃ b1,q=[(0,Ptt br),(3,Ptt b1)]/\w'.heap[b1]? = some (.cells #[.int .u8 f.1,.int .u8 f.2,.int .u8 t.1,.int .u8 t.2,.string d] 97)/\GB none w w'/\w.heap.size<=b1) (CS.of ah mixed λ w1 b1 m1 g1 l1=>⟨_,by exact ⟨rfl,rfl,trivial⟩,b1,rfl,m1,g1,l1⟩) ?_;rintro _ w1 ⟨b1,rfl,m1,g1,l1⟩;refine CS.piece (Q:=λ q w4=>∃ b3 e m ra rn rc da dn dc su Jr rc' rZ zg r9 va vc,q=[(0,Ptt br),(3,Ptt b1),(4,Ptt b3),(5,.int .i64 e)]/\w4.heap[b3]? = some (.cells (dL m (.slice ra rn rc) (.slice da dn dc) (.slice va m.vs.length vc) (.slice su Jr rc') (.slice rZ zg r9)).toArray 83)/\aM w4 m.c.r (.slice ra rn rc) (.slice da dn dc)/\bV w4 (.slice va m.vs.length vc) m.vs/\aM w4 m.r (.slice su Jr rc') (.slice rZ zg r9)/\GB none w1 w4/\w1.heap.size<=b3/\((e=0/\A.dec d=some m)\/(e≠0/\A.dec d=none))) (CS.of ah mixed ?_) ?_
 ·refine ⟨_,_,m1,_,rfl,_,HA.parse w1 d,?_⟩
  rintro _ w2 ⟨⟨mv,e,m,rfl,hmv,hd'⟩,g2⟩;obtain ⟨rv,dv,vv,rv',dS,rfl,hr,hvs,hr'⟩:=hmv;obtain ⟨ra,rn,rc,da,dn,dc,rfl,rfl⟩:=hr.sl;obtain ⟨su,Jr,rc',rZ,zg,r9,rfl,rfl⟩:=hr'.sl;obtain ⟨va,vc,rfl⟩:=hvs.sl;intro w3 b3 m3 g3 l3;refine ⟨_,_,_,m3,rfl,rfl,λ w4 m4 g4=>?_⟩;have g24:GB none w2 w4:=g3.new g4 l3;exact ⟨_,by exact ⟨rfl,rfl,rfl,rfl,trivial⟩,b3,e,m,ra,rn,rc,da,dn,dc,su,Jr,rc',rZ,zg,r9,va,vc,rfl,m4,hr.kz g24.kz,hvs.kz g24.kz,hr'.kz g24.kz,g2.trans g24,Nat.le_trans g2.size l3,hd'.imp (λ q=>⟨q.1,q.2.1⟩) id⟩
 rintro _ w4 ⟨b3,e,m,ra,rn,rc,da,dn,dc,su,Jr,rc',rZ,zg,r9,va,vc,rfl,m4,hr,hvs,hr',g4,l3,hd⟩;have m1:=g4.get m1 nofun;have gg:=g1.trans g4;obtain ⟨a,h4⟩:=h.ax gg;refine CS.cut (Qn:=λ q w'=>A.dec d=some m/\¬ (f.1=255/\m.kind≠1)/\q=[(0,Ptt br),(3,Ptt b1),(4,Ptt b3)]/\w'=w4) (Qx:=λ _ _ _=>False) (Qr:=λ q w'=>iU A R f d=R/\q=[]/\w'=w4) (CS.of ah mixed ?_) ?_ (λ _ _ _ _ h _=>h.elim) ?_
 ·rcases hd with ⟨rfl,hd⟩ | ⟨he,hd⟩
  ·refine ⟨_,_,m1,_,rfl,au (λ c=>?_) (λ c=>?_)⟩
   ·have c1:f.1=255:=by simp at c;omega
    refine ⟨_,_,m4,_,rfl,au (λ c=>?_) (λ c=>?_)⟩
    ·have c2:m.kind≠1:=by simpa using c
     exact ⟨_,by exact trivial,by unfold iU;rw [hd];exact if_pos ⟨c1,c2⟩,rfl,rfl⟩
    ·have c2:m.kind=1:=by simpa using c
     exact ⟨_,by exact ⟨rfl,rfl,rfl,trivial⟩,hd,λ q=>q.2 c2,rfl,rfl⟩
   ·have c1:¬ f.1=255:=by simp at c;omega
    exact ⟨_,by exact ⟨rfl,rfl,rfl,trivial⟩,hd,λ q=>c1 q.1,rfl,rfl⟩
  ·refine au (λ c=>?_) (λ c=>?_)
   ·exfalso;simp at c;exact he c
   ·exact ⟨_,by exact trivial,by unfold iU;rw [hd],rfl,rfl⟩
 rotate_left
 ·rintro _ s w4 ⟨em,rfl,rfl⟩ hs
  rw [em];exact qY hs ⟨rfl,⟨_,h4⟩,gg.kz⟩
 rintro _ w4 ⟨hd,hn,rfl,rfl⟩;have em:iU A R f d=nY A (nC R m) f m:=by unfold iU;rw [hd];exact if_neg hn
 rw [em];have hkk:=hk d m hd;have hm:=hm m hd hn;have ho:=ho.seen hm.bn;have l4:=g1.size;have FD:(if (m.b.n:Int) > (R.sc.seen:Int) then (m.b.n:Int) else (R.sc.seen:Int))=((max R.sc.seen m.b.n:Nat):Int):=by split <;> omega
 refine CS.piece (Q:=λ q w5=>q=[(0,Ptt br),(3,Ptt b1),(4,Ptt b3)]/\Wk Λ br (nC R m) w5/\GB (some br) w4 w5/\Kz w4 w5) (CS.of ah mixed ?_) ?_
 ·refine ⟨by kernel_rfl,_,_,h4.ri.mem,_,rfl,_,_,m4,_,rfl,_,_,nV (nC R m) a,h4.ri.mem,rfl,by unfold nV nC;dsimp only;rw [<- FD];rfl,λ w5 m5 g5=>?_⟩
  exact ⟨_,by exact ⟨rfl,rfl,rfl,trivial⟩,rfl,⟨_,h4.cell (s':=(nC R m).sc) m5 g5⟩,g5,h4.ri.kz h4.ri.iX g5⟩
 rintro _ w5 ⟨rfl,h,g5,k5⟩;replace m1:=g5.get m1 λ e=>by cases e;omega
 replace m4:=g5.get m4 λ e=>by cases e;omega
 replace hr:=hr.kz k5;replace hvs:=hvs.kz k5;replace hr':=hr'.kz k5;have K5:=gg.kz.trans k5;have hb1:(nC R m).out.length<=840000:=hb;replace hm:GM A (nC R m) f m:=⟨hm.bn,hm.ask,hm.vs,hm.acc,hm.pK,hm.dec,hm.qy,hm.lK⟩;refine CS.piece (Q:=λ q w'=>q=[(0,Ptt br),(3,Ptt b1),(4,Ptt b3),(37,.int .u8 m.kind)]/\w'=w5) (CS.of ah mixed ⟨_,_,m4,_,rfl,_,by exact ⟨rfl,rfl,rfl,rfl,trivial⟩,rfl,rfl⟩) ?_;rintro _ w5 ⟨rfl,rfl⟩;clear h4 g5 k5 hk hd hn em FD;generalize nC R m=R at *;obtain ⟨kind,q,p,b,s,c,vs,r,peer,seq⟩:=m;dsimp only at hkk;refine CS.of ah mixed ?_;obtain rfl | rfl | rfl | rfl | rfl | rfl | rfl | rfl | rfl | rfl:kind=1\/kind=2\/kind=3\/kind=4\/kind=5\/kind=6\/kind=7\/kind=8\/kind=9\/kind=10:=by omega
 ·refine ⟨_,_,m4,q.cells,rfl,rfl,_,YL HA h ho (q:=q) (hm.ask rfl) (by omega),?_⟩
  rintro _ w6 ⟨rfl,h6,k6⟩;exact ⟨rfl,h6,K5.trans k6⟩
 ·exact ⟨rfl,h,K5⟩
 ·refine ⟨_,_,m1,[.int .u8 f.1,.int .u8 f.2],rfl,rfl,_,_,m4,bC b,rfl,rfl,_,Wj HA.mD h f b (by omega),?_⟩
  rintro _ w6 ⟨rfl,h6,k6⟩;exact ⟨rfl,h6,K5.trans k6⟩
 ·refine ⟨_,_,m1,[.int .u8 f.1,.int .u8 f.2],rfl,rfl,_,_,m4,bC b,rfl,rfl,_,_,m4,_,rfl,_,Ob HA h ho f (hm.vs rfl).2.2 b (hm.vs rfl).1 (hm.vs rfl).2.1 hvs hb1,?_⟩
  rintro _ w6 ⟨rfl,h6,k6⟩;exact ⟨rfl,h6,K5.trans k6⟩
 ·refine ⟨_,_,m4,bC b,rfl,rfl,_,PW h b,?_⟩
  rintro _ w6 ⟨rfl,h6,k6⟩;exact ⟨rfl,h6,K5.trans k6⟩
 ·refine ⟨_,_,m1,[.int .u8 f.1,.int .u8 f.2],rfl,rfl,_,_,m4,_,rfl,rfl,_,N8 HA h f ⟨_,_,_,_,_,rfl,hr,hvs,hr'⟩ (by omega),?_⟩
  rintro _ w6 ⟨rfl,h6,k6⟩;exact ⟨rfl,h6,K5.trans k6⟩
 ·refine ⟨_,_,m1,[.int .u8 f.1,.int .u8 f.2],rfl,rfl,_,_,m4,_,rfl,rfl,_,Wo HA h ho f (hm.pK rfl).2 (hm.pK rfl).1 ⟨_,_,_,_,_,rfl,hr,hvs,hr'⟩ (by omega),?_⟩
  rintro _ w6 ⟨rfl,h6,k6⟩;exact ⟨rfl,h6,K5.trans k6⟩
 ·refine ⟨_,_,m4,_,rfl,_,_,m4,dz c (.slice ra rn rc) (.slice da dn dc),rfl,rfl,_,Ji HA h ho (hm.dec rfl).2 (hm.dec rfl).1 (c:=c) ⟨_,_,rfl,hr⟩ (by omega),?_⟩
  rintro _ w6 ⟨rfl,h6,k6⟩;exact ⟨rfl,h6,K5.trans k6⟩
 ·refine ⟨_,_,m1,[.int .u8 f.1,.int .u8 f.2],rfl,rfl,_,_,m4,eO r (.slice su Jr rc') (.slice rZ zg r9),rfl,rfl,_,Wp HA h ho f (hm.qy rfl).1 (hm.qy rfl).2.1 (hm.qy rfl).2.2.1 (hm.qy rfl).2.2.2 hr' (by omega),?_⟩
  rintro _ w6 ⟨rfl,h6,k6⟩;exact ⟨rfl,h6,K5.trans k6⟩
 ·have ep:(peer.toNat:Int)=peer:=Int.toNat_of_nonneg (hm.lK rfl).1
  have hcall:=Wu HA h ho (p:=peer.toNat) (hm.lK rfl).2.1 (s:=seq) (by rw [ep];exact (hm.lK rfl).2.2) (by omega);rw [ep] at hcall;refine ⟨_,_,m4,_,rfl,_,_,m4,_,rfl,_,hcall,?_⟩;rintro _ w6 ⟨rfl,h6,k6⟩;exact ⟨rfl,h6,K5.trans k6⟩
end
def dK (w:World):bU:=⟨λ b=>w.heap[b]?,w.os,w.output⟩
def YQ:St:=⟨0,0,[],[],[],[],[]⟩
def zR (g i gs sz:Nat):MR:=⟨⟨g,i,gs,sz,⟨0,0⟩,⟨0,0⟩,0,0,0,0⟩,λ _=>none,λ _=>none,λ _=>none,[],YQ,[],λ _=>none,λ _=>none,λ _=>none⟩
def CZ (A:aT) (g i gs sz:Nat):MR:=mStart A (zR g i gs sz)
theorem jZ.zero (w:World):jZ w (.slice none 0 0) (.slice none 0 0) (.slice none 0 0) (.slice none 0 0) (.slice none 0 0) YQ :=
 ⟨Fz.nil _ _ _,Fz.nil _ _ _,Fz.nil _ _ _,⟨[],rfl,Fz.nil _ _ _,λ i o q h=>(by simp [YQ] at h)⟩,Fz.nil _ _ _⟩
section
variable {A:aT} (HA:bK A) {w:World}
include HA
theorem YR (g i gs sz:Nat) (hg:g<gs) (hn:gs<=4):af Tryz.prog 147 #[.agg #[.int .u8 g,.int .u8 i],.int .i64 gs,.int .i64 sz] w (λ v w'=>∃ br,v=(Ptt br)/\w.heap.size<=br/\Wk (dK w) br (CZ A g i gs sz) w'/\Kz w w'):=by
 refine aj ah mixed Tryz.func147 rfl rfl ?_;intro w1 b1 m1 g1 l1;refine ⟨_,_,m1,[.int .u8 g,.int .u8 i],rfl,rfl,?_⟩;refine λ w2 b2 m2 g2 l2=>?_
 refine λ w3 b3 m3 g3 l3=>?_
 refine λ w4 b4 m4 g4 l4=>?_
 refine λ w5 b5 m5 g5 l5=>?_
 refine λ w6 b6 m6 g6 l6=>?_
 refine @Eq.mp (∀ w7 b7,fA w7 b7 (λ _=>none)->GB none w6 w7->w6.heap.size<=b7->∀ w8 b8,w8.heap[b8]? = some (.cells (nV (zR g i gs sz) ⟨b2,b3,b4,b5,b6,b7,.slice none 0 0,.slice none 0 0,.slice none 0 0,.slice none 0 0,.slice none 0 0,.slice none 0 0,.slice none 0 0⟩).toArray 135)->GB none w7 w8->w7.heap.size<=b8->∃ Q:Value->World->Prop,af Tryz.prog 88 #[Ptt b8] w8 Q/\∀ v w',Q v w'->∃ br,(Ptt b8)=(Ptt br)/\w.heap.size<=br/\Wk (dK w) br (CZ A g i gs sz) w'/\Kz w w') _ (by kernel_rfl) ?_;intro w7 b7 m7 g7 l7 w8 b8 m8 g8 l8;have m8':w8.heap[b8]? = some (.cells (nV (zR g i gs sz) ⟨b2,b3,b4,b5,b6,b7,.slice none 0 0,.slice none 0 0,.slice none 0 0,.slice none 0 0,.slice none 0 0,.slice none 0 0,.slice none 0 0⟩).toArray 135):=m8;have G2:GB none w w2:=g1.trans g2;have G7:GB none w w7:=((((G2.trans g3).trans g4).trans g5).trans g6).trans g7;have G8:GB none w w8:=G7.trans g8;have t7:GB none w7 w8:=g8;have t6:=g7.trans t7;have t5:=g6.trans t6;have t4:=g5.trans t5;have t3:=g4.trans t4;have t2:=g3.trans t3;have q2:=m2.lt;have q3:=m3.lt;have q4:=m4.lt;have q5:=m5.lt;have q6:=m6.lt;have q7:=m7.lt;have z1:=g1.size;have z2:=g2.size;have z3:=g3.size;have z4:=g4.size;have z5:=g5.size;have z6:=g6.size;have z7:=g7.size;have Aa:RI w8 b8 (zR g i gs sz) ⟨b2,b3,b4,b5,b6,b7,.slice none 0 0,.slice none 0 0,.slice none 0 0,.slice none 0 0,.slice none 0 0,.slice none 0 0,.slice none 0 0⟩:=by
  refine ⟨m8',bR.none (m2.keep (t2.block _ q2 nofun)),bR.none (m3.keep (t3.block _ q3 nofun)),bR.none (m4.keep (t4.block _ q4 nofun)),bR.none (m5.keep (t5.block _ q5 nofun)),bR.none (m6.keep (t6.block _ q6 nofun)),bR.none (m7.keep (t7.block _ q7 nofun)),⟨[],rfl,eX _ _ _,λ i c p h=>(by simp [zR] at h)⟩,jZ.zero _,eX _ _ _,?_⟩;simp;omega
 have h8:Wk (dK w) b8 (zR g i gs sz) w8:=by
  refine ⟨_,Aa,λ b o hb=>?_,G8.os,G8.out⟩;have hl:=ag hb;refine ⟨G8.get hb nofun,λ ho=>?_⟩;rcases ho with e | e | e | e | e | e | e | e | e
  ·omega
  ·have e:b=b2:=e
   omega
  ·have e:b=b3:=e
   omega
  ·have e:b=b4:=e
   omega
  ·have e:b=b5:=e
   omega
  ·have e:b=b6:=e
   omega
  ·have e:b=b7:=e
   omega
  ·cases e
  ·cases e
 refine ⟨_,Js HA h8 hg hn,?_⟩;rintro _ w9 ⟨rfl,h9,k9⟩;exact ⟨b8,rfl,by omega,h9,G8.kz.trans k9⟩
end
def UX:List Nat:=[135,80,97,118]
def LY:List Nat:=[159,123]
theorem lL {t:Nat} (h:t∈LY):t ∉ UX:=by
 unfold LY at h;simp only [List.mem_cons,List.not_mem_nil,or_false] at h;rcases h with rfl | rfl <;> decide
def acW (w:World) (gv:Value) (n sz:Nat) (B:Nat->Nat->Nat):Prop:=∃ bg cg cur tg,gv=.slice (some ⟨bg,0,none⟩) n cg/\n<=cg/\w.heap[bg]? = some (.cells cur tg)/\tg∈LY/\∀ g,g<n->∃ bs ct cur' ts,cur.toList[g]? = some (.slice (some ⟨bs,0,none⟩) sz ct)/\sz<=ct/\w.heap[bs]? = some (.cells cur' ts)/\ts∈LY/\∀ i,i<sz->cur'.toList[i]? = some (.pointer (some ⟨B g i,0,none⟩))
structure CI (w:World) (bc:Nat) (gv sv:Value) (q:List bF) (n sz:Nat) (B:Nat->Nat->Nat) (ad:Nat->Nat->fH) (F:Nat->Nat->MR):Prop where
 eH:w.heap[bc]? = some (.cells #[gv,sv] 118)
 row:w.ownsRow 0 97 5 sv q.length (flat q)
 len:q.length<=20000
 ptr:acW w gv n sz B
 rep:∀ g i,g<n->i<sz->RI w (B g i) (F g i) (ad g i)
 sep:∀ g i g' i' x,g<n->i<sz->g'<n->i'<sz->Own (B g i) (ad g i) x->Own (B g' i') (ad g' i') x->g=g'/\i=i'
 ob:∀ g i x,g<n->i<sz->sv.ownBlock=some x->¬ Own (B g i) (ad g i) x
open Classical in
noncomputable def rest (w:World) (br:Nat) (a:fH):bU:=⟨λ b=>if Own br a b then none else w.heap[b]?,w.os,w.output⟩
def fB {α:Type} (F:Nat->Nat->α) (g i:Nat) (r:α):Nat->Nat->α:=λ g' i'=>if g'=g/\i'=i then r else F g' i'
theorem bL {α:Type} (F:Nat->Nat->α) (g i:Nat) (r:α):fB F g i r g i=r:=if_pos ⟨rfl,rfl⟩
theorem bz {α:Type} (F:Nat->Nat->α) {g i g' i':Nat} (r:α) (h:¬ (g'=g/\i'=i)):fB F g i r g' i'=F g' i':=if_neg h
def mh (n sz:Nat) (B:Nat->Nat->Nat) (bc:Nat) (sv:Value) (ad:Nat->Nat->fH) (x:Nat):Prop:=x=bc\/sv.ownBlock=some x\/∃ g i,g<n/\i<sz/\Own (B g i) (ad g i) x
def nZ (n sz:Nat) (B:Nat->Nat->Nat) (bc:Nat) (w:World) (sv:Value) (ad:Nat->Nat->fH) (w':World) (dx:Value) (jo:Nat->Nat->fH):Prop:=∀ x o,w.heap[x]? = some o->¬ mh n sz B bc sv ad x->w'.heap[x]? = some o/\¬ mh n sz B bc dx jo x
theorem nZ.trans {n sz:Nat} {B:Nat->Nat->Nat} {bc:Nat} {w w' w'':World} {sv dx YS:Value} {ad jo YT:Nat->Nat->fH} (h:nZ n sz B bc w sv ad w' dx jo) (k:nZ n sz B bc w' dx jo w'' YS YT):nZ n sz B bc w sv ad w'' YS YT:=λ x o hx hn=>k x o (h x o hx hn).1 (h x o hx hn).2
theorem nZ.ax {n sz:Nat} {B:Nat->Nat->Nat} {bc:Nat} {w w':World} {sv:Value} {ad:Nat->Nat->fH} (k:GB none w w'):nZ n sz B bc w sv ad w' sv ad:=λ _ _ hx hn=>⟨k.get hx nofun,hn⟩
theorem RI.Aq {w:World} {br:Nat} {R:MR} {a:fH} (h:RI w br R a) {x:Nat} (hx:Own br a x) {c:Array Value} {t:TypeId} (hc:w.heap[x]? = some (.cells c t)):t=135\/t=80\/t=97:=by
 have mp:∀ {m:Nat},(∃ es k,w.heap[m]? = some (.map es k))->x=m->False:=by
  rintro m ⟨es,k,h1⟩ rfl;rw [h1] at hc;cases hc
 rcases hx with hx | hx | hx | hx | hx | hx | hx | hx | hx
 ·subst hx;rw [h.mem] at hc;injection hc with hc;injection hc with _ hc;exact .inl hc.symm
 ·exact (mp h.vm.obj hx).elim
 ·exact (mp h.wm.obj hx).elim
 ·exact (mp h.kn.obj hx).elim
 ·exact (mp h.mt.obj hx).elim
 ·exact (mp h.pp.obj hx).elim
 ·exact (mp h.ac.obj hx).elim
 ·obtain ⟨cur,h1⟩:=h.lg.obj hx;rw [h1] at hc;injection hc with hc;injection hc with _ hc;exact .inr (.inl hc.symm)
 ·obtain ⟨cur,h1⟩:=aD h.ob hx;rw [h1] at hc;injection hc with hc;injection hc with _ hc;exact .inr (.inr hc.symm)
section
variable {w w':World} {bc:Nat} {gv sv:Value} {q:List bF} {n sz:Nat} {B:Nat->Nat->Nat} {ad:Nat->Nat->fH} {F:Nat->Nat->MR}
theorem CI.ax (h:CI w bc gv sv q n sz B ad F) (k:GB none w w'):CI w' bc gv sv q n sz B ad F:=by
 obtain ⟨bg,cg,cur,tg,e1,e2,e3,e4,e5⟩:=h.ptr;refine ⟨k.get h.eH nofun,aA h.row λ x hx=>?_,h.len,⟨bg,cg,cur,tg,e1,e2,k.get e3 nofun,e4,λ g hg=>?_⟩,λ g i hg hi=>(h.rep g i hg hi).ax k,h.sep,h.ob⟩
 ·obtain ⟨c,hc⟩:=aD h.row hx
  exact k.block x (ag hc) nofun
 ·obtain ⟨bs,ct,cur',ts,f1,f2,f3,f4,f5⟩:=e5 g hg
  exact ⟨bs,ct,cur',ts,f1,f2,k.get f3 nofun,f4,f5⟩
theorem CI.enter (h:CI w bc gv sv q n sz B ad F) {g i:Nat} (hg:g<n) (hi:i<sz):Wk (rest w (B g i) (ad g i)) (B g i) (F g i) w:=by
 refine ⟨ad g i,h.rep g i hg hi,λ b o hb=>?_,rfl,rfl⟩;unfold rest at hb;dsimp only at hb;split at hb
 ·cases hb
 ·rename_i hn
  exact ⟨hb,hn⟩
theorem CI.Qa (h:CI w bc gv sv q n sz B ad F) {g i:Nat} (hg:g<n) (hi:i<sz) {R':MR} {a':fH} (hw:Wa (rest w (B g i) (ad g i)) (B g i) R' a' w') (k:Kz w w'):CI w' bc gv sv q n sz B (fB ad g i a') (fB F g i R')/\w'.os=w.os/\w'.output=w.output/\nZ n sz B bc w sv ad w' sv (fB ad g i a'):=by
 have kp:∀ {x:Nat} {o:Obj},w.heap[x]? = some o->¬ Own (B g i) (ad g i) x->w'.heap[x]? = some o/\¬ Own (B g i) a' x:=λ {x o} hx hn=>hw.pr x o (by unfold rest;dsimp only;rw [if_neg hn];exact hx)
 have nm:∀ {x:Nat} {c:Array Value} {t:TypeId},w.heap[x]? = some (.cells c t)->t≠135->t≠80->t≠97->¬ Own (B g i) (ad g i) x:=λ hx h1 h2 h3 ho=>by
  rcases (h.rep g i hg hi).Aq ho hx with e | e | e
  ·exact h1 e
  ·exact h2 e
  ·exact h3 e
 have nt:∀ {t:TypeId},t ∉ UX->t≠135/\t≠80/\t≠97:=λ {t} ht=>⟨λ e=>ht (by rw [e];decide),λ e=>ht (by rw [e];decide),λ e=>ht (by rw [e];decide)⟩
 have gD:∀ {g' i':Nat},g'<n->i'<sz->¬ (g'=g/\i'=i)->∀ x,Own (B g' i') (ad g' i') x->w'.heap[x]? = w.heap[x]?/\¬ Own (B g i) a' x:=by
  intro g' i' hg' hi' hne x hx;have hlt:=(h.rep g' i' hg' hi').lt hx;obtain ⟨o,ho⟩:∃ o,w.heap[x]? = some o:=⟨w.heap[x],by simp [hlt]⟩;obtain ⟨h1,h2⟩:=kp ho λ hx'=>hne (by obtain ⟨e1,e2⟩:=h.sep g' i' g i x hg' hi' hg hi hx hx';exact ⟨e1,e2⟩)
  exact ⟨h1.trans ho.symm,h2⟩
 refine ⟨⟨(kp h.eH (nm h.eH (by decide) (by decide) (by decide))).1,aA h.row λ x hx=>?_,h.len,?_,λ g' i' hg' hi'=>?_,?_,?_⟩,hw.os,hw.out,λ x o hx hn=>?_⟩
 ·obtain ⟨c,hc⟩:=aD h.row hx
  exact (kp hc (h.ob g i x hg hi hx)).1.trans hc.symm
 ·obtain ⟨bg,cg,cur,tg,e1,e2,e3,e4,e5⟩:=h.ptr
  obtain ⟨t1,t2,t3⟩:=nt (lL e4);refine ⟨bg,cg,cur,tg,e1,e2,(kp e3 (nm e3 t1 t2 t3)).1,e4,λ g hg=>?_⟩;obtain ⟨bs,ct,cur',ts,f1,f2,f3,f4,f5⟩:=e5 g hg;obtain ⟨t1,t2,t3⟩:=nt (lL f4);exact ⟨bs,ct,cur',ts,f1,f2,(kp f3 (nm f3 t1 t2 t3)).1,f4,f5⟩
 ·by_cases e:g'=g/\i'=i
  ·obtain ⟨rfl,rfl⟩:=e
   rw [bL,bL];exact hw.ri
  ·rw [bz _ _ e,bz _ _ e]
   exact (h.rep g' i' hg' hi').keep k λ x hx=>(gD hg' hi' e x hx).1
 ·intro g1 i1 g2 i2 x h1 h2 h3 h4 o1 o2
  by_cases e1:g1=g/\i1=i <;> by_cases e2:g2=g/\i2=i
  ·exact ⟨e1.1.trans e2.1.symm,e1.2.trans e2.2.symm⟩
  ·obtain ⟨rfl,rfl⟩:=e1
   rw [bL] at o1;rw [bz _ _ e2] at o2;exact ((gD h3 h4 e2 x o2).2 o1).elim
  ·obtain ⟨rfl,rfl⟩:=e2
   rw [bL] at o2;rw [bz _ _ e1] at o1;exact ((gD h1 h2 e1 x o1).2 o2).elim
  ·rw [bz _ _ e1] at o1
   rw [bz _ _ e2] at o2;exact h.sep g1 i1 g2 i2 x h1 h2 h3 h4 o1 o2
 ·intro g1 i1 x h1 h2 hx o1
  by_cases e1:g1=g/\i1=i
  ·obtain ⟨rfl,rfl⟩:=e1
   rw [bL] at o1;obtain ⟨c,hc⟩:=aD h.row hx;exact (kp hc (h.ob _ _ x h1 h2 hx)).2 o1
  ·rw [bz _ _ e1] at o1
   exact h.ob g1 i1 x h1 h2 hx o1
 ·obtain ⟨h1,h2⟩:=kp hx λ ho=>hn (.inr (.inr ⟨g,i,hg,hi,ho⟩))
  refine ⟨h1,λ hc=>?_⟩;rcases hc with e | e | ⟨g1,i1,q1,q2,o1⟩
  ·exact hn (.inl e)
  ·exact hn (.inr (.inl e))
  ·by_cases e1:g1=g/\i1=i
   ·obtain ⟨rfl,rfl⟩:=e1
    rw [bL] at o1;exact h2 o1
   ·rw [bz _ _ e1] at o1
    exact hn (.inr (.inr ⟨g1,i1,q1,q2,o1⟩))
theorem CI.leave (h:CI w bc gv sv q n sz B ad F) {g i:Nat} (hg:g<n) (hi:i<sz) {R':MR} (hw:Wk (rest w (B g i) (ad g i)) (B g i) R' w') (k:Kz w w'):∃ jo,CI w' bc gv sv q n sz B jo (fB F g i R')/\w'.os=w.os/\w'.output=w.output/\nZ n sz B bc w sv ad w' sv jo:=by
 obtain ⟨a',hw⟩:=hw;exact ⟨_,h.Qa hg hi hw k⟩
end
section
variable {w:World} {bc:Nat} {gv sv:Value} {q:List bF} {n sz:Nat} {B:Nat->Nat->Nat} {ad:Nat->Nat->fH} {F:Nat->Nat->MR}
theorem find_ok (h:CI w bc gv sv q n sz B ad F) (_hn:n<=4) (_hs:sz<=5) (g i:Nat) (hg:g<256) (hi:i<256):af Tryz.prog 37 #[Ptt bc,.agg #[.int .u8 g,.int .u8 i]] w (λ v w'=>v=.pointer (if g<n/\i<sz then some ⟨B g i,0,none⟩ else none)/\GB none w w'):=by
 refine aj ah mixed Tryz.func37 rfl rfl ?_;intro w1 b1 m1 g1 l1;obtain ⟨bg,cg,cur,tg,rfl,e2,e3,e4,e5⟩:=h.ptr;have hc:=g1.get h.eH nofun;have e3:=g1.get e3 nofun;refine ⟨by kernel_rfl,_,_,m1,_,rfl,.inl ⟨by omega,_,_,m1,_,rfl,.inl ⟨by omega,?_⟩⟩⟩;refine ⟨_,_,hc,_,rfl,au (λ c=>?_) (λ c=>?_)⟩
 ·have c1:g<n:=by simp at c;omega
  obtain ⟨bs,ct,cur',ts,f1,f2,f3,f4,f5⟩:=e5 g c1;have f3:=g1.get f3 nofun;refine ⟨_,_,hc,_,rfl,⟨by omega,by omega⟩,_,_,e3,.slice (some ⟨bs,0,none⟩) sz ct,by show cur.toList[0+g*1]? = _;rw [Nat.mul_one,Nat.zero_add];exact f1,?_⟩;refine au (λ d=>?_) (λ d=>?_)
  ·have d1:¬ (g<n/\i<sz):=by simp at d;omega
   rw [if_neg d1];exact ⟨rfl,g1⟩
  ·have d1:i<sz:=by simp at d;omega
   rw [if_pos ⟨c1,d1⟩];refine ⟨_,_,hc,_,rfl,⟨by omega,by omega⟩,_,_,e3,.slice (some ⟨bs,0,none⟩) sz ct,by show cur.toList[0+g*1]? = _;rw [Nat.mul_one,Nat.zero_add];exact f1,⟨by omega,by omega⟩,_,_,f3,.pointer (some ⟨B g i,0,none⟩),by show cur'.toList[0+i*1]? = _;rw [Nat.mul_one,Nat.zero_add];exact f5 i d1,?_⟩;exact ⟨rfl,g1⟩
 ·have c1:¬ (g<n/\i<sz):=by simp at c;omega
  rw [if_neg c1];exact ⟨rfl,g1⟩
end
section
variable {A:aT} (HA:bK A) {w:World} {bc:Nat} {gv sv:Value} {q:List bF} {n sz:Nat} {B:Nat->Nat->Nat} {ad:Nat->Nat->fH} {F:Nat->Nat->MR}
include HA
theorem Tg (h:CI w bc gv sv q n sz B ad F) (hn:n<=4) (hs:sz<=5) (g i:Nat) (hg:g<256) (hi:i<256) (hF:g<n->i<sz->Ok A (F g i)):af Tryz.prog 53 #[Ptt bc,.agg #[.int .u8 g,.int .u8 i]] w (λ v w'=>v=.int .i64 (if g<n/\i<sz then 0 else 6)/\(∃ jo,CI w' bc gv sv q n sz B jo (if g<n/\i<sz then fB F g i (mStart A (F g i)) else F)/\nZ n sz B bc w sv ad w' sv jo)/\w'.os=w.os/\w'.output=w.output/\Kz w w'):=by
 refine aj ah mixed Tryz.func53 rfl rfl ?_;intro w1 b1 m1 g1 l1;have h1:=h.ax g1;refine ⟨_,_,m1,[.int .u8 g,.int .u8 i],rfl,rfl,_,find_ok h1 hn hs g i hg hi,?_⟩;rintro _ w2 ⟨rfl,g2⟩;have h2:=h1.ax g2;have G:=g1.trans g2;by_cases c:g<n/\i<sz
 ·rw [if_pos c,if_pos c,if_pos c]
  have o:=hF c.1 c.2;refine ⟨_,Js HA (h2.enter c.1 c.2) o.i.2.1 o.i.2.2.1,?_⟩;rintro _ w3 ⟨rfl,h3,k3⟩;obtain ⟨jo,h4,h5,h6,f6⟩:=h2.leave c.1 c.2 h3 k3;exact ⟨rfl,⟨jo,h4,(nZ.ax G).trans f6⟩,h5.trans G.os,h6.trans G.out,G.kz.trans k3⟩
 ·rw [if_neg c,if_neg c,if_neg c]
  exact ⟨rfl,⟨ad,h2,nZ.ax G⟩,G.os,G.out,G.kz⟩
end
end
end Go.Proofs.YtignemioillaiabGreat
