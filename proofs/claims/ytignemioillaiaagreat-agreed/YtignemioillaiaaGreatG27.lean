/- A replica at work (27): tick. -/
import Derived.Test.YtignemioillaiaaGreatG26
namespace Go.Proofs.YtignemioillaiaaGreat
set_option maxHeartbeats 8000000
set_option linter.unusedSectionVars false
set_option maxRecDepth 100000
section
open Go Go.Conc
def bH (A:aT) (R:MR):MR:=if R.sc.role=0 then mJ A R else R
def fJ (A:aT) (R:MR):MR:=lL A.enc R { aQ 3 with b:=R.sc.b } (gG R.sc.g R.sc.i R.sc.g R.sc.sz)
def qA (A:aT) (R:MR):MR:=if R.sc.role=0 then R else if R.sc.role=2 then q9 A.enc (fJ A R) else fJ A R
def kZ (A:aT) (R:MR):MR:=qA A (bH A R)
theorem Em {n:Nat} (h:((n:Int) == 2)=true):n=2:=by simp at h;omega
theorem Lt {n:Nat} (h:((n:Int) == 2)=false):¬ n=2:=by simp at h;omega
section
variable {A:aT} (HA:bK A) {Λ:bV} {w:World} {br:Nat} {R:MR}
include HA
theorem Ok.bH (ho:Ok A R):Ok A (bH A R)/\(bH A R).out.length<=R.out.length+20000/\(bH A R).sc.i=R.sc.i/\(bH A R).sc.sz=R.sc.sz:=by
 unfold Go.Proofs.YtignemioillaiaaGreat.bH;split
 ·exact ho.eD HA
 ·exact ⟨ho,Nat.le_add_right _ _,rfl,rfl⟩
theorem Ok.qA (ho:Ok A R):Ok A (qA A R):=by
 unfold Go.Proofs.YtignemioillaiaaGreat.qA;split
 ·exact ho
 ·have o2:Ok A (fJ A R):=ho.snd _ _ _
  split
  ·have O1:=wu A.enc (fJ A R) ho.sz (fJ A R).sc.next
   have o3:=O1.ok o2;exact (wy A.enc _ o3.sz _).ok o3
  ·exact o2
theorem Ok.tick (ho:Ok A R):Ok A (kZ A R):=(ho.bH HA).1.qA HA
theorem W9 (h:Wk Λ br R w) (ho:Ok A R) (hb:R.out.length<=840000):ag Tryz.prog 60 #[Ptt br] w (λ v w'=>v=.tuple #[]/\Wk Λ br (kZ A R) w'/\Kz w w'):=by
 have h0:=h;obtain ⟨a,h⟩:=h;obtain ⟨o1,l1,_,_⟩:=ho.bH HA;refine au ah mixed Tryz.func60 rfl rfl ?_;refine ⟨_,_,h.ri.mem,_,rfl,aj (λ c=>?_) (λ c=>?_)⟩
 ·have c1:R.sc.role=0:=by simp at c;omega
  have e1:bH A R=mJ A R:=if_pos c1;refine ⟨_,WY HA h0 ho hb,?_⟩;rintro _ w1 ⟨rfl,h1,k1⟩;rw [<- e1] at h1;obtain ⟨a1,h1⟩:=h1;refine ⟨_,_,h1.ri.mem,_,rfl,aj (λ d=>?_) (λ d=>?_)⟩
  ·have d1:(bH A R).sc.role=0:=by simp at d;omega
   have em:kZ A R=bH A R:=if_pos d1;rw [em];exact ⟨rfl,⟨_,h1⟩,k1⟩
  have d1:¬ (bH A R).sc.role=0:=by simp at d;omega
  refine ⟨by kernel_rfl,_,_,h1.ri.mem,_,rfl,rfl,_,yB ⟨_,h1⟩ o1.sz,?_⟩;rintro v w2 ⟨hv,g2⟩;have hol:=iX (bH A R).sc.g (bH A R).sc.i (bH A R).sc.g (bH A R).sc.sz;have hz:=o1.sz;refine ⟨⟨(h1.ax g2).ri.mem,trivial⟩,_,mX HA.mG (Wk.ax ⟨_,h1⟩ g2) (m:={ aQ 3 with b:=(bH A R).sc.b }) ⟨_,_,_,_,_,rfl,aM.zero _,bW.zero _,aM.zero _⟩ hv (by omega),?_⟩;rintro _ w3 ⟨rfl,h3,k3⟩;have kk:=(k1.trans g2.kz).trans k3;have Qi:Wk Λ br (fJ A (bH A R)) w3:=h3;obtain ⟨a3,h3⟩:=h3;refine ⟨_,_,h3.ri.mem,_,rfl,aj (λ e=>?_) (λ e=>?_)⟩
  ·have tO:(bH A R).sc.role=2:=Em e
   have em:kZ A R=q9 A.enc (fJ A (bH A R)):=(if_neg d1).trans (if_pos tO);rw [em];refine ⟨_,GL HA Qi (o1.snd _ _ _) (by unfold fJ;rw [jO];omega),?_⟩;rintro _ w4 ⟨rfl,h4,k4⟩;exact ⟨rfl,h4,kk.trans k4⟩
  ·have tO:¬ (bH A R).sc.role=2:=Lt e
   have em:kZ A R=fJ A (bH A R):=(if_neg d1).trans (if_neg tO);rw [em];exact ⟨rfl,Qi,kk⟩
 ·have c1:¬ R.sc.role=0:=by simp at c;omega
  have e1:bH A R=R:=if_neg c1;have h1:=h0;rw [<- e1] at h1;have k1:=Kz.refl w;obtain ⟨a1,h1⟩:=h1;refine ⟨_,_,h1.ri.mem,_,rfl,aj (λ d=>?_) (λ d=>?_)⟩
  ·have d1:(bH A R).sc.role=0:=by simp at d;omega
   have em:kZ A R=bH A R:=if_pos d1;rw [em];exact ⟨rfl,⟨_,h1⟩,k1⟩
  have d1:¬ (bH A R).sc.role=0:=by simp at d;omega
  refine ⟨by kernel_rfl,_,_,h1.ri.mem,_,rfl,rfl,_,yB ⟨_,h1⟩ o1.sz,?_⟩;rintro v w2 ⟨hv,g2⟩;have hol:=iX (bH A R).sc.g (bH A R).sc.i (bH A R).sc.g (bH A R).sc.sz;have hz:=o1.sz;refine ⟨⟨(h1.ax g2).ri.mem,trivial⟩,_,mX HA.mG (Wk.ax ⟨_,h1⟩ g2) (m:={ aQ 3 with b:=(bH A R).sc.b }) ⟨_,_,_,_,_,rfl,aM.zero _,bW.zero _,aM.zero _⟩ hv (by omega),?_⟩;rintro _ w3 ⟨rfl,h3,k3⟩;have kk:=(k1.trans g2.kz).trans k3;have Qi:Wk Λ br (fJ A (bH A R)) w3:=h3;obtain ⟨a3,h3⟩:=h3;refine ⟨_,_,h3.ri.mem,_,rfl,aj (λ e=>?_) (λ e=>?_)⟩
  ·have tO:(bH A R).sc.role=2:=Em e
   have em:kZ A R=q9 A.enc (fJ A (bH A R)):=(if_neg d1).trans (if_pos tO);rw [em];refine ⟨_,GL HA Qi (o1.snd _ _ _) (by unfold fJ;rw [jO];omega),?_⟩;rintro _ w4 ⟨rfl,h4,k4⟩;exact ⟨rfl,h4,kk.trans k4⟩
  ·have tO:¬ (bH A R).sc.role=2:=Lt e
   have em:kZ A R=fJ A (bH A R):=(if_neg d1).trans (if_neg tO);rw [em];exact ⟨rfl,Qi,kk⟩
end
def nY (R:MR):MR:={ R with sc:={ R.sc with wb:=R.sc.b },fB:=orM R.cB R.fB }
def mStart (A:aT) (R:MR):MR:={ fG R with known:=λ _=>none,cB:=orM R.fB λ _=>none,sc:={ (fG R).sc with b:=R.sc.wb,seen:=R.sc.wb.n },log:=[],st:=A.bg R.sc.g R.sc.gs }
section
variable {A:aT} {Λ:bV} {w:World} {br:Nat} {R:MR}
theorem Qj {P:Nat->MV->Prop} {f g:Nat->Option MV} (hf:∀ k v,f k=some v->P k v) (hg:∀ k v,g k=some v->P k v):∀ k v,orM f g k=some v->P k v:=by
 intro k v h;unfold orM at h;cases hv:f k with
 | none=>rw [hv] at h;exact hg k v h
 | some x=>rw [hv] at h;exact hf k v (hv.trans h)
theorem Ok.write (ho:Ok A R):Ok A (nY R):=⟨ho.sz,ho.i,ho.st,ho.kn,ho.pp,ho.vt,Qj ho.vt ho.wv,ho.mt,ho.ac,ho.pr,ho.lg,ho.lc,ho.nx,ho.sn.1,ho.sn.2.1,ho.sn.2.1⟩
end
section
variable {A:aT} (HA:bK A) {Λ:bV} {w:World} {br:Nat} {R:MR}
include HA
theorem Ok.start (ho:Ok A R):Ok A (mStart A R):=⟨ho.sz,ho.i,HA.Ij _ _ ho.i.2.2.2 ho.i.2.1 ho.i.2.2.1,λ _ _ h=>(by cases h),λ _ _ h=>(by cases h),Qj ho.wv (λ _ _ h=>(by cases h)),ho.wv,λ _ _ h=>(by cases h),λ _ _ h=>(by cases h),Nat.zero_lt_succ _,Nat.zero_le _,λ _ h=>(by cases h),ho.nx,ho.sn.2.2,ho.sn.2.2,ho.sn.2.2⟩
theorem JE (h:Wk Λ br R w) (hg:R.sc.g<R.sc.gs) (hn:R.sc.gs<=4):ag Tryz.prog 61 #[Ptt br] w (λ v w'=>v=.tuple #[]/\Wk Λ br (mStart A R) w'/\Kz w w'):=by
 refine au ah mixed Tryz.func61 rfl rfl ?_;refine ⟨_,CZ br R Λ w h,?_⟩;rintro _ w1 ⟨rfl,⟨a,h1⟩,k1⟩;have eS:mStart A R={ fG R with known:=λ _=>none,cB:=orM (fG R).fB λ _=>none,sc:={ (fG R).sc with b:=(fG R).sc.wb,seen:=(fG R).sc.wb.n },log:=[],st:=A.bg (fG R).sc.g (fG R).sc.gs }:=rfl;have hg:(fG R).sc.g<(fG R).sc.gs:=hg;have hn:(fG R).sc.gs<=4:=hn;rw [eS];generalize fG R=R1 at *;obtain ⟨vm,wm,kn,mt,pp,ac,lg,ob,sT,sM,sD,sO,sI⟩:=a;obtain ⟨f,e1,_⟩:=h1.ri.kn;refine ⟨_,_,h1.ri.mem,_,rfl,f,e1,λ w2 m2 g2=>?_⟩;have h2:Wa Λ br { R1 with known:=λ _=>none } ⟨vm,wm,kn,mt,pp,ac,lg,ob,sT,sM,sD,sO,sI⟩ w2:=h1.step h1.ri.uQ g2 (h1.ri.Dz g2 (bS.none m2));have k2:=k1.trans (h1.ri.kz h1.ri.uQ g2);obtain ⟨f,e1,_⟩:=h2.ri.vm;refine ⟨_,_,h2.ri.mem,_,rfl,f,e1,λ w3 m3 g3=>?_⟩;have h3:Wa Λ br { R1 with known:=λ _=>none,cB:=λ _=>none } ⟨vm,wm,kn,mt,pp,ac,lg,ob,sT,sM,sD,sO,sI⟩ w3:=h2.step h2.ri.uP g3 (h2.ri.Y3 g3 (bS.none m3));have k3:=k2.trans (h2.ri.kz h2.ri.uP g3);have hne:wm≠vm:=by have:=h3.ri.sep;simp at this;omega
 refine ⟨by kernel_rfl,_,_,h3.ri.mem,_,rfl,_,_,h3.ri.mem,_,rfl,_,FQ h3.ri.vm h3.ri.wm hne,?_⟩;rintro _ w4 ⟨rfl,hm4,g4⟩;have h4:Wa Λ br { R1 with known:=λ _=>none,cB:=orM R1.fB λ _=>none } ⟨vm,wm,kn,mt,pp,ac,lg,ob,sT,sM,sD,sO,sI⟩ w4:=h3.step h3.ri.uP g4 (h3.ri.Y3 g4 hm4);have k4:=k3.trans (h3.ri.kz h3.ri.uP g4);refine ⟨_,_,h4.ri.mem,_,rfl,rfl,_,_,_,h4.ri.mem,rfl,rfl,λ w5 m5 g5=>?_⟩;have h5:Wa Λ br { R1 with known:=λ _=>none,cB:=orM R1.fB λ _=>none,sc:={ R1.sc with b:=R1.sc.wb } } ⟨vm,wm,kn,mt,pp,ac,lg,ob,sT,sM,sD,sO,sI⟩ w5:=h4.cell (s':={ R1.sc with b:=R1.sc.wb }) m5 g5;have k5:=k4.trans (h4.ri.kz h4.ri.jb g5);refine ⟨_,_,h5.ri.mem,_,rfl,_,_,_,h5.ri.mem,rfl,rfl,λ w6 m6 g6=>?_⟩;have h6:Wa Λ br { R1 with known:=λ _=>none,cB:=orM R1.fB λ _=>none,sc:={ R1.sc with b:=R1.sc.wb,seen:=R1.sc.wb.n } } ⟨vm,wm,kn,mt,pp,ac,lg,ob,sT,sM,sD,sO,sI⟩ w6:=h5.cell (s':={ R1.sc with b:=R1.sc.wb,seen:=R1.sc.wb.n }) m6 g6;have k6:=k5.trans (h5.ri.kz h5.ri.jb g6);refine ⟨_,_,_,h6.ri.mem,rfl,rfl,λ w7 m7 g7=>?_⟩;obtain ⟨h7,k7⟩:=h6.lg' (lv:=.slice none 0 0) (ls:=[]) (GB.refl _ _) ⟨[],rfl,eZ _ _ _,λ i c p h=>(by simp at h)⟩ nofun m7 g7;have k7:=k6.trans k7;have h7:Wa Λ br { R1 with known:=λ _=>none,cB:=orM R1.fB λ _=>none,sc:={ R1.sc with b:=R1.sc.wb,seen:=R1.sc.wb.n },log:=[] } ⟨vm,wm,kn,mt,pp,ac,.slice none 0 0,ob,sT,sM,sD,sO,sI⟩ w7:=h7;refine ⟨by kernel_rfl,_,_,h7.ri.mem,_,rfl,.inl ⟨(λ (n:Nat) (h:n<=4)=>(by omega : -9223372036854775808<=(n:Int)/\(n:Int)<=9223372036854775807)) R1.sc.g (by omega),_,_,h7.ri.mem,_,rfl,_,HA.Y6 w7 R1.sc.g R1.sc.gs hg hn,?_⟩⟩;rintro _ w8 ⟨T,M,D,O,I,e,rfl,hs,g8⟩;obtain ⟨ta,tn,tc,ma,mn,mc,da,dn,dc,oa,on,oc,ia,il,ic,rfl,rfl,rfl,rfl,rfl⟩:=(hs _ λ _ _ _=>rfl).sl;have h8:=h7.ax g8;refine ⟨_,_,_,h8.ri.mem,rfl,rfl,λ w9 m9 g9=>?_⟩;have hbr:br<w7.heap.size:=ae h7.ri.mem;obtain ⟨h9,k9⟩:=h8.st' (hs w9 λ x hx hx3=>g9.block x hx3 λ e=>by cases e;omega) m9 g9;exact ⟨rfl,⟨_,h9⟩,(k7.trans g8.kz).trans k9⟩
end
structure GM (A:aT) (R:MR) (f:Nat×Nat) (m:MM):Prop where
 bn:m.b.n<=4294967295
 ask:m.kind=1->A.gc (gK m.q)
 vs:m.kind=4->(∀ v∈m.vs,A.gc v.c/\v.slot<60)/\m.vs.length<=1000000/\f.2<5
 acc:m.kind=6->A.gc m.c/\m.s<60
 pO:m.kind=7->m.s<60/\f.2<5
 dec:m.kind=8->A.gc m.c/\m.s<60
 qB:m.kind=9->0<=m.r.src/\m.r.src.toNat<R.st.I.length/\m.r.seq<=4294967295/\A.gc (oI m.r)
 lQ:m.kind=10->0<=m.peer/\m.peer.toNat<R.st.O.length/\A.gc (tq m.peer m.seq)
section
variable (A:aT)
def nZ (R:MR) (f:Nat×Nat) (m:MM):MR:=if m.kind=1 then uZ A R m.q else if m.kind=3 then rH A.enc R f m.b else if m.kind=4 then jd A R f m.b m.vs else if m.kind=5 then (if R.sc.b.lt m.b=true then fG R else R) else if m.kind=6 then j5 A R f m else if m.kind=7 then uh A R f m else if m.kind=8 then iT A R m.s m.c else if m.kind=9 then rJ A R f m.r else if m.kind=10 then rM A R m.peer.toNat m.seq else R
def nG (R:MR) (m:MM):MR:={ R with sc:={ R.sc with seen:=max R.sc.seen m.b.n } }
def jX (R:MR) (f:Nat×Nat) (d:ByteArray):MR:=match A.dec d with
 | none=>R
 | some m=>if f.1=255/\m.kind≠1 then R else nZ A (nG R m) f m
end
section
variable {A:aT} (HA:bK A) {Λ:bV} {w:World} {br:Nat} {R:MR}
theorem Ok.seen (ho:Ok A R) {m:MM} (hm:m.b.n<=4294967295):Ok A (nG R m):=⟨ho.sz,ho.i,ho.st,ho.kn,ho.pp,ho.vt,ho.wv,ho.mt,ho.ac,ho.pr,ho.lg,ho.lc,ho.nx,by show max R.sc.seen m.b.n<=_;have:=ho.sn.1;omega,ho.sn.2.1,ho.sn.2.2⟩
include HA
theorem Xa (hk:∀ d m,A.dec d=some m->1<=m.kind/\m.kind<=10) (h:Wk Λ br R w) (ho:Ok A R) (f t:Nat×Nat) (d:ByteArray) (hm:∀ m,A.dec d=some m->¬ (f.1=255/\m.kind≠1)->GM A R f m) (hb:R.out.length<=840000):ag Tryz.prog 65 #[Ptt br,.agg #[.int .u8 f.1,.int .u8 f.2,.int .u8 t.1,.int .u8 t.2,.string d]] w (λ v w'=>v=.tuple #[]/\Wk Λ br (jX A R f d) w'/\Kz w w'):=by
 have hbr:br<w.heap.size:=by obtain ⟨a,h⟩:=h;exact ae h.ri.mem
 refine uY ah Tryz.func65 rfl rfl ?_;refine CS.piece (Q:=λ q w'=>∃ b1,q=[(0,Ptt br),(3,Ptt b1)]/\w'.heap[b1]? = some (.cells #[.int .u8 f.1,.int .u8 f.2,.int .u8 t.1,.int .u8 t.2,.string d] 139)/\GB none w w'/\w.heap.size<=b1) (CS.of ah mixed λ w1 b1 m1 g1 l1=>⟨_,by exact ⟨rfl,rfl,trivial⟩,b1,rfl,m1,g1,l1⟩) ?_;rintro _ w1 ⟨b1,rfl,m1,g1,l1⟩;refine CS.piece (Q:=λ q w4=>∃ b3 e m ra rn rc da dn dc sF JD rc' pI xG pJ va vc,q=[(0,Ptt br),(3,Ptt b1),(4,Ptt b3),(5,.int .i64 e)]/\w4.heap[b3]? = some (.cells (dP m (.slice ra rn rc) (.slice da dn dc) (.slice va m.vs.length vc) (.slice sF JD rc') (.slice pI xG pJ)).toArray 203)/\aM w4 m.c.r (.slice ra rn rc) (.slice da dn dc)/\bW w4 (.slice va m.vs.length vc) m.vs/\aM w4 m.r (.slice sF JD rc') (.slice pI xG pJ)/\GB none w1 w4/\w1.heap.size<=b3/\((e=0/\A.dec d=some m)\/(e≠0/\A.dec d=none))) (CS.of ah mixed ?_) ?_
 ·refine ⟨_,_,m1,_,rfl,_,HA.parse w1 d,?_⟩
  rintro _ w2 ⟨⟨mv,e,m,rfl,hmv,hd'⟩,g2⟩;obtain ⟨rv,dv,vv,rv',eG,rfl,hr,hvs,hr'⟩:=hmv;obtain ⟨ra,rn,rc,da,dn,dc,rfl,rfl⟩:=hr.sl;obtain ⟨sF,JD,rc',pI,xG,pJ,rfl,rfl⟩:=hr'.sl;obtain ⟨va,vc,rfl⟩:=hvs.sl;intro w3 b3 m3 g3 l3;refine ⟨_,_,_,m3,rfl,rfl,λ w4 m4 g4=>?_⟩;have g24:GB none w2 w4:=g3.new g4 l3;exact ⟨_,by exact ⟨rfl,rfl,rfl,rfl,trivial⟩,b3,e,m,ra,rn,rc,da,dn,dc,sF,JD,rc',pI,xG,pJ,va,vc,rfl,m4,hr.kz g24.kz,hvs.kz g24.kz,hr'.kz g24.kz,g2.trans g24,Nat.le_trans g2.size l3,hd'.imp (λ q=>⟨q.1,q.2.1⟩) id⟩
 rintro _ w4 ⟨b3,e,m,ra,rn,rc,da,dn,dc,sF,JD,rc',pI,xG,pJ,va,vc,rfl,m4,hr,hvs,hr',g4,l3,hd⟩;have m1:=g4.get m1 nofun;have gg:=g1.trans g4;obtain ⟨a,h4⟩:=h.ax gg;refine CS.cut (Qn:=λ q w'=>A.dec d=some m/\¬ (f.1=255/\m.kind≠1)/\q=[(0,Ptt br),(3,Ptt b1),(4,Ptt b3)]/\w'=w4) (Qx:=λ _ _ _=>False) (Qr:=λ q w'=>jX A R f d=R/\q=[]/\w'=w4) (CS.of ah mixed ?_) ?_ (λ _ _ _ _ h _=>h.elim) ?_
 ·rcases hd with ⟨rfl,hd⟩ | ⟨he,hd⟩
  ·refine ⟨_,_,m1,_,rfl,aj (λ c=>?_) (λ c=>?_)⟩
   ·have c1:f.1=255:=by simp at c;omega
    refine ⟨_,_,m4,_,rfl,aj (λ c=>?_) (λ c=>?_)⟩
    ·have c2:m.kind≠1:=by simpa using c
     exact ⟨_,by exact trivial,by unfold jX;rw [hd];exact if_pos ⟨c1,c2⟩,rfl,rfl⟩
    ·have c2:m.kind=1:=by simpa using c
     exact ⟨_,by exact ⟨rfl,rfl,rfl,trivial⟩,hd,λ q=>q.2 c2,rfl,rfl⟩
   ·have c1:¬ f.1=255:=by simp at c;omega
    exact ⟨_,by exact ⟨rfl,rfl,rfl,trivial⟩,hd,λ q=>c1 q.1,rfl,rfl⟩
  ·refine aj (λ c=>?_) (λ c=>?_)
   ·exfalso;simp at c;exact he c
   ·exact ⟨_,by exact trivial,by unfold jX;rw [hd],rfl,rfl⟩
 rotate_left
 ·rintro _ s w4 ⟨em,rfl,rfl⟩ hs
  rw [em];exact uX hs ⟨rfl,⟨_,h4⟩,gg.kz⟩
 rintro _ w4 ⟨hd,hn,rfl,rfl⟩;have em:jX A R f d=nZ A (nG R m) f m:=by unfold jX;rw [hd];exact if_neg hn
 rw [em];have hkk:=hk d m hd;have hm:=hm m hd hn;have ho:=ho.seen hm.bn;have l4:=g1.size;have FO:(if (m.b.n:Int) > (R.sc.seen:Int) then (m.b.n:Int) else (R.sc.seen:Int))=((max R.sc.seen m.b.n:Nat):Int):=by split <;> omega
 refine CS.piece (Q:=λ q w5=>q=[(0,Ptt br),(3,Ptt b1),(4,Ptt b3)]/\Wk Λ br (nG R m) w5/\GB (some br) w4 w5/\Kz w4 w5) (CS.of ah mixed ?_) ?_
 ·refine ⟨by kernel_rfl,_,_,h4.ri.mem,_,rfl,_,_,m4,_,rfl,_,_,nX (nG R m) a,h4.ri.mem,rfl,by unfold nX nG;dsimp only;rw [<- FO];rfl,λ w5 m5 g5=>?_⟩
  exact ⟨_,by exact ⟨rfl,rfl,rfl,trivial⟩,rfl,⟨_,h4.cell (s':=(nG R m).sc) m5 g5⟩,g5,h4.ri.kz h4.ri.jb g5⟩
 rintro _ w5 ⟨rfl,h,g5,k5⟩;replace m1:=g5.get m1 λ e=>by cases e;omega
 replace m4:=g5.get m4 λ e=>by cases e;omega
 replace hr:=hr.kz k5;replace hvs:=hvs.kz k5;replace hr':=hr'.kz k5;have K5:=gg.kz.trans k5;have hb1:(nG R m).out.length<=840000:=hb;replace hm:GM A (nG R m) f m:=⟨hm.bn,hm.ask,hm.vs,hm.acc,hm.pO,hm.dec,hm.qB,hm.lQ⟩;refine CS.piece (Q:=λ q w'=>q=[(0,Ptt br),(3,Ptt b1),(4,Ptt b3),(37,.int .u8 m.kind)]/\w'=w5) (CS.of ah mixed ⟨_,_,m4,_,rfl,_,by exact ⟨rfl,rfl,rfl,rfl,trivial⟩,rfl,rfl⟩) ?_;rintro _ w5 ⟨rfl,rfl⟩;clear h4 g5 k5 hk hd hn em FO;generalize nG R m=R at *;obtain ⟨kind,q,p,b,s,c,vs,r,peer,seq⟩:=m;dsimp only at hkk;refine CS.of ah mixed ?_;obtain rfl | rfl | rfl | rfl | rfl | rfl | rfl | rfl | rfl | rfl:kind=1\/kind=2\/kind=3\/kind=4\/kind=5\/kind=6\/kind=7\/kind=8\/kind=9\/kind=10:=by omega
 ·refine ⟨_,_,m4,q.cells,rfl,rfl,_,Zc HA h ho (q:=q) (hm.ask rfl) (by omega),?_⟩
  rintro _ w6 ⟨rfl,h6,k6⟩;exact ⟨rfl,h6,K5.trans k6⟩
 ·exact ⟨rfl,h,K5⟩
 ·refine ⟨_,_,m1,[.int .u8 f.1,.int .u8 f.2],rfl,rfl,_,_,m4,bC b,rfl,rfl,_,WL HA.mG h f b (by omega),?_⟩
  rintro _ w6 ⟨rfl,h6,k6⟩;exact ⟨rfl,h6,K5.trans k6⟩
 ·refine ⟨_,_,m1,[.int .u8 f.1,.int .u8 f.2],rfl,rfl,_,_,m4,bC b,rfl,rfl,_,_,m4,_,rfl,_,Oj HA h ho f (hm.vs rfl).2.2 b (hm.vs rfl).1 (hm.vs rfl).2.1 hvs hb1,?_⟩
  rintro _ w6 ⟨rfl,h6,k6⟩;exact ⟨rfl,h6,K5.trans k6⟩
 ·refine ⟨_,_,m4,bC b,rfl,rfl,_,Qc h b,?_⟩
  rintro _ w6 ⟨rfl,h6,k6⟩;exact ⟨rfl,h6,K5.trans k6⟩
 ·refine ⟨_,_,m1,[.int .u8 f.1,.int .u8 f.2],rfl,rfl,_,_,m4,_,rfl,rfl,_,Oh HA h f ⟨_,_,_,_,_,rfl,hr,hvs,hr'⟩ (by omega),?_⟩
  rintro _ w6 ⟨rfl,h6,k6⟩;exact ⟨rfl,h6,K5.trans k6⟩
 ·refine ⟨_,_,m1,[.int .u8 f.1,.int .u8 f.2],rfl,rfl,_,_,m4,_,rfl,rfl,_,WQ HA h ho f (hm.pO rfl).2 (hm.pO rfl).1 ⟨_,_,_,_,_,rfl,hr,hvs,hr'⟩ (by omega),?_⟩
  rintro _ w6 ⟨rfl,h6,k6⟩;exact ⟨rfl,h6,K5.trans k6⟩
 ·refine ⟨_,_,m4,_,rfl,_,_,m4,dx c (.slice ra rn rc) (.slice da dn dc),rfl,rfl,_,Jw HA h ho (hm.dec rfl).2 (hm.dec rfl).1 (c:=c) ⟨_,_,rfl,hr⟩ (by omega),?_⟩
  rintro _ w6 ⟨rfl,h6,k6⟩;exact ⟨rfl,h6,K5.trans k6⟩
 ·refine ⟨_,_,m1,[.int .u8 f.1,.int .u8 f.2],rfl,rfl,_,_,m4,dU r (.slice sF JD rc') (.slice pI xG pJ),rfl,rfl,_,WS HA h ho f (hm.qB rfl).1 (hm.qB rfl).2.1 (hm.qB rfl).2.2.1 (hm.qB rfl).2.2.2 hr' (by omega),?_⟩
  rintro _ w6 ⟨rfl,h6,k6⟩;exact ⟨rfl,h6,K5.trans k6⟩
 ·have ep:(peer.toNat:Int)=peer:=Int.toNat_of_nonneg (hm.lQ rfl).1
  have hcall:=WW HA h ho (p:=peer.toNat) (hm.lQ rfl).2.1 (s:=seq) (by rw [ep];exact (hm.lQ rfl).2.2) (by omega);rw [ep] at hcall;refine ⟨_,_,m4,_,rfl,_,_,m4,_,rfl,_,hcall,?_⟩;rintro _ w6 ⟨rfl,h6,k6⟩;exact ⟨rfl,h6,K5.trans k6⟩
end
def fu (w:World):bV:=⟨λ b=>w.heap[b]?,w.os,w.output⟩
def Zh:St:=⟨0,0,[],[],[],[],[]⟩
def zR (g i gs sz:Nat):MR:=⟨⟨g,i,gs,sz,⟨0,0⟩,⟨0,0⟩,0,0,0,0⟩,λ _=>none,λ _=>none,λ _=>none,[],Zh,[],λ _=>none,λ _=>none,λ _=>none⟩
def Di (A:aT) (g i gs sz:Nat):MR:=mStart A (zR g i gs sz)
theorem iR.zero (w:World):iR w (.slice none 0 0) (.slice none 0 0) (.slice none 0 0) (.slice none 0 0) (.slice none 0 0) Zh :=
 ⟨Fz.nil _ _ _,Fz.nil _ _ _,Fz.nil _ _ _,⟨[],rfl,Fz.nil _ _ _,λ i o q h=>(by simp [Zh] at h)⟩,Fz.nil _ _ _⟩
section
variable {A:aT} (HA:bK A) {w:World}
include HA
theorem Zi (g i gs sz:Nat) (hg:g<gs) (hn:gs<=4):ag Tryz.prog 57 #[.agg #[.int .u8 g,.int .u8 i],.int .i64 gs,.int .i64 sz] w (λ v w'=>∃ br,v=(Ptt br)/\w.heap.size<=br/\Wk (fu w) br (Di A g i gs sz) w'/\Kz w w'):=by
 refine au ah mixed Tryz.func57 rfl rfl ?_;intro w1 b1 m1 g1 l1;refine ⟨_,_,m1,[.int .u8 g,.int .u8 i],rfl,rfl,?_⟩;refine λ w2 b2 m2 g2 l2=>?_
 refine λ w3 b3 m3 g3 l3=>?_
 refine λ w4 b4 m4 g4 l4=>?_
 refine λ w5 b5 m5 g5 l5=>?_
 refine λ w6 b6 m6 g6 l6=>?_
 refine @Eq.mp (∀ w7 b7,fD w7 b7 (λ _=>none)->GB none w6 w7->w6.heap.size<=b7->∀ w8 b8,w8.heap[b8]? = some (.cells (nX (zR g i gs sz) ⟨b2,b3,b4,b5,b6,b7,.slice none 0 0,.slice none 0 0,.slice none 0 0,.slice none 0 0,.slice none 0 0,.slice none 0 0,.slice none 0 0⟩).toArray 152)->GB none w7 w8->w7.heap.size<=b8->∃ Q:Value->World->Prop,ag Tryz.prog 61 #[Ptt b8] w8 Q/\∀ v w',Q v w'->∃ br,(Ptt b8)=(Ptt br)/\w.heap.size<=br/\Wk (fu w) br (Di A g i gs sz) w'/\Kz w w') _ (by kernel_rfl) ?_;intro w7 b7 m7 g7 l7 w8 b8 m8 g8 l8;have m8':w8.heap[b8]? = some (.cells (nX (zR g i gs sz) ⟨b2,b3,b4,b5,b6,b7,.slice none 0 0,.slice none 0 0,.slice none 0 0,.slice none 0 0,.slice none 0 0,.slice none 0 0,.slice none 0 0⟩).toArray 152):=m8;have G2:GB none w w2:=g1.trans g2;have G7:GB none w w7:=((((G2.trans g3).trans g4).trans g5).trans g6).trans g7;have G8:GB none w w8:=G7.trans g8;have t7:GB none w7 w8:=g8;have t6:=g7.trans t7;have t5:=g6.trans t6;have t4:=g5.trans t5;have t3:=g4.trans t4;have t2:=g3.trans t3;have q2:=m2.lt;have q3:=m3.lt;have q4:=m4.lt;have q5:=m5.lt;have q6:=m6.lt;have q7:=m7.lt;have z1:=g1.size;have z2:=g2.size;have z3:=g3.size;have z4:=g4.size;have z5:=g5.size;have z6:=g6.size;have z7:=g7.size;have Ah:RI w8 b8 (zR g i gs sz) ⟨b2,b3,b4,b5,b6,b7,.slice none 0 0,.slice none 0 0,.slice none 0 0,.slice none 0 0,.slice none 0 0,.slice none 0 0,.slice none 0 0⟩:=by
  refine ⟨m8',bS.none (m2.keep (t2.block _ q2 nofun)),bS.none (m3.keep (t3.block _ q3 nofun)),bS.none (m4.keep (t4.block _ q4 nofun)),bS.none (m5.keep (t5.block _ q5 nofun)),bS.none (m6.keep (t6.block _ q6 nofun)),bS.none (m7.keep (t7.block _ q7 nofun)),⟨[],rfl,eZ _ _ _,λ i c p h=>(by simp [zR] at h)⟩,iR.zero _,eZ _ _ _,?_⟩;simp;omega
 have h8:Wk (fu w) b8 (zR g i gs sz) w8:=by
  refine ⟨_,Ah,λ b o hb=>?_,G8.os,G8.out⟩;have hl:=ae hb;refine ⟨G8.get hb nofun,λ ho=>?_⟩;rcases ho with e | e | e | e | e | e | e | e | e
  ·omega
  ·have e:b=b2:=e
   omega
  ·have e:b=b3:=e
   omega
  ·have e:b=b4:=e
   omega
  ·have e:b=b5:=e
   omega
  ·have e:b=b6:=e
   omega
  ·have e:b=b7:=e
   omega
  ·cases e
  ·cases e
 refine ⟨_,JE HA h8 hg hn,?_⟩;rintro _ w9 ⟨rfl,h9,k9⟩;exact ⟨b8,rfl,by omega,h9,G8.kz.trans k9⟩
end
def Vi:List Nat:=[152,54,139,131]
def Mh:List Nat:=[132,133]
theorem lS {t:Nat} (h:t∈Mh):t ∉ Vi:=by
 unfold Mh at h;simp only [List.mem_cons,List.not_mem_nil,or_false] at h;rcases h with rfl | rfl <;> decide
def adu (w:World) (gv:Value) (n sz:Nat) (B:Nat->Nat->Nat):Prop:=∃ bg cg cur tg,gv=.slice (some ⟨bg,0,none⟩) n cg/\n<=cg/\w.heap[bg]? = some (.cells cur tg)/\tg∈Mh/\∀ g,g<n->∃ bs ct cur' ts,cur.toList[g]? = some (.slice (some ⟨bs,0,none⟩) sz ct)/\sz<=ct/\w.heap[bs]? = some (.cells cur' ts)/\ts∈Mh/\∀ i,i<sz->cur'.toList[i]? = some (.pointer (some ⟨B g i,0,none⟩))
structure CI (w:World) (bc:Nat) (gv sv:Value) (q:List bG) (n sz:Nat) (B:Nat->Nat->Nat) (ad:Nat->Nat->fK) (F:Nat->Nat->MR):Prop where
 eT:w.heap[bc]? = some (.cells #[gv,sv] 131)
 row:w.ownsRow 0 139 5 sv q.length (flat q)
 len:q.length<=20000
 ptr:adu w gv n sz B
 rep:∀ g i,g<n->i<sz->RI w (B g i) (F g i) (ad g i)
 sep:∀ g i g' i' x,g<n->i<sz->g'<n->i'<sz->Own (B g i) (ad g i) x->Own (B g' i') (ad g' i') x->g=g'/\i=i'
 ob:∀ g i x,g<n->i<sz->sv.ownBlock=some x->¬ Own (B g i) (ad g i) x
open Classical in
noncomputable def rest (w:World) (br:Nat) (a:fK):bV:=⟨λ b=>if Own br a b then none else w.heap[b]?,w.os,w.output⟩
def fE {α:Type} (F:Nat->Nat->α) (g i:Nat) (r:α):Nat->Nat->α:=λ g' i'=>if g'=g/\i'=i then r else F g' i'
theorem bN {α:Type} (F:Nat->Nat->α) (g i:Nat) (r:α):fE F g i r g i=r:=if_pos ⟨rfl,rfl⟩
theorem bz {α:Type} (F:Nat->Nat->α) {g i g' i':Nat} (r:α) (h:¬ (g'=g/\i'=i)):fE F g i r g' i'=F g' i':=if_neg h
def mr (n sz:Nat) (B:Nat->Nat->Nat) (bc:Nat) (sv:Value) (ad:Nat->Nat->fK) (x:Nat):Prop:=x=bc\/sv.ownBlock=some x\/∃ g i,g<n/\i<sz/\Own (B g i) (ad g i) x
def og (n sz:Nat) (B:Nat->Nat->Nat) (bc:Nat) (w:World) (sv:Value) (ad:Nat->Nat->fK) (w':World) (dB:Value) (jw:Nat->Nat->fK):Prop:=∀ x o,w.heap[x]? = some o->¬ mr n sz B bc sv ad x->w'.heap[x]? = some o/\¬ mr n sz B bc dB jw x
theorem og.trans {n sz:Nat} {B:Nat->Nat->Nat} {bc:Nat} {w w' w'':World} {sv dB Zj:Value} {ad jw Zk:Nat->Nat->fK} (h:og n sz B bc w sv ad w' dB jw) (k:og n sz B bc w' dB jw w'' Zj Zk):og n sz B bc w sv ad w'' Zj Zk:=λ x o hx hn=>k x o (h x o hx hn).1 (h x o hx hn).2
theorem og.ax {n sz:Nat} {B:Nat->Nat->Nat} {bc:Nat} {w w':World} {sv:Value} {ad:Nat->Nat->fK} (k:GB none w w'):og n sz B bc w sv ad w' sv ad:=λ _ _ hx hn=>⟨k.get hx nofun,hn⟩
theorem RI.AB {w:World} {br:Nat} {R:MR} {a:fK} (h:RI w br R a) {x:Nat} (hx:Own br a x) {c:Array Value} {t:TypeId} (hc:w.heap[x]? = some (.cells c t)):t=152\/t=54\/t=139:=by
 have mp:∀ {m:Nat},(∃ es k,w.heap[m]? = some (.map es k))->x=m->False:=by
  rintro m ⟨es,k,h1⟩ rfl;rw [h1] at hc;cases hc
 rcases hx with hx | hx | hx | hx | hx | hx | hx | hx | hx
 ·subst hx;rw [h.mem] at hc;injection hc with hc;injection hc with _ hc;exact .inl hc.symm
 ·exact (mp h.vm.obj hx).elim
 ·exact (mp h.wm.obj hx).elim
 ·exact (mp h.kn.obj hx).elim
 ·exact (mp h.mt.obj hx).elim
 ·exact (mp h.pp.obj hx).elim
 ·exact (mp h.ac.obj hx).elim
 ·obtain ⟨cur,h1⟩:=h.lg.obj hx;rw [h1] at hc;injection hc with hc;injection hc with _ hc;exact .inr (.inl hc.symm)
 ·obtain ⟨cur,h1⟩:=aD h.ob hx;rw [h1] at hc;injection hc with hc;injection hc with _ hc;exact .inr (.inr hc.symm)
section
variable {w w':World} {bc:Nat} {gv sv:Value} {q:List bG} {n sz:Nat} {B:Nat->Nat->Nat} {ad:Nat->Nat->fK} {F:Nat->Nat->MR}
theorem CI.ax (h:CI w bc gv sv q n sz B ad F) (k:GB none w w'):CI w' bc gv sv q n sz B ad F:=by
 obtain ⟨bg,cg,cur,tg,e1,e2,e3,e4,e5⟩:=h.ptr;refine ⟨k.get h.eT nofun,aA h.row λ x hx=>?_,h.len,⟨bg,cg,cur,tg,e1,e2,k.get e3 nofun,e4,λ g hg=>?_⟩,λ g i hg hi=>(h.rep g i hg hi).ax k,h.sep,h.ob⟩
 ·obtain ⟨c,hc⟩:=aD h.row hx
  exact k.block x (ae hc) nofun
 ·obtain ⟨bs,ct,cur',ts,f1,f2,f3,f4,f5⟩:=e5 g hg
  exact ⟨bs,ct,cur',ts,f1,f2,k.get f3 nofun,f4,f5⟩
theorem CI.enter (h:CI w bc gv sv q n sz B ad F) {g i:Nat} (hg:g<n) (hi:i<sz):Wk (rest w (B g i) (ad g i)) (B g i) (F g i) w:=by
 refine ⟨ad g i,h.rep g i hg hi,λ b o hb=>?_,rfl,rfl⟩;unfold rest at hb;dsimp only at hb;split at hb
 ·cases hb
 ·rename_i hn
  exact ⟨hb,hn⟩
theorem CI.Qk (h:CI w bc gv sv q n sz B ad F) {g i:Nat} (hg:g<n) (hi:i<sz) {R':MR} {a':fK} (hw:Wa (rest w (B g i) (ad g i)) (B g i) R' a' w') (k:Kz w w'):CI w' bc gv sv q n sz B (fE ad g i a') (fE F g i R')/\w'.os=w.os/\w'.output=w.output/\og n sz B bc w sv ad w' sv (fE ad g i a'):=by
 have kp:∀ {x:Nat} {o:Obj},w.heap[x]? = some o->¬ Own (B g i) (ad g i) x->w'.heap[x]? = some o/\¬ Own (B g i) a' x:=λ {x o} hx hn=>hw.pr x o (by unfold rest;dsimp only;rw [if_neg hn];exact hx)
 have nm:∀ {x:Nat} {c:Array Value} {t:TypeId},w.heap[x]? = some (.cells c t)->t≠152->t≠54->t≠139->¬ Own (B g i) (ad g i) x:=λ hx h1 h2 h3 ho=>by
  rcases (h.rep g i hg hi).AB ho hx with e | e | e
  ·exact h1 e
  ·exact h2 e
  ·exact h3 e
 have nt:∀ {t:TypeId},t ∉ Vi->t≠152/\t≠54/\t≠139:=λ {t} ht=>⟨λ e=>ht (by rw [e];decide),λ e=>ht (by rw [e];decide),λ e=>ht (by rw [e];decide)⟩
 have gG:∀ {g' i':Nat},g'<n->i'<sz->¬ (g'=g/\i'=i)->∀ x,Own (B g' i') (ad g' i') x->w'.heap[x]? = w.heap[x]?/\¬ Own (B g i) a' x:=by
  intro g' i' hg' hi' hne x hx;have hlt:=(h.rep g' i' hg' hi').lt hx;obtain ⟨o,ho⟩:∃ o,w.heap[x]? = some o:=⟨w.heap[x],by simp [hlt]⟩;obtain ⟨h1,h2⟩:=kp ho λ hx'=>hne (by obtain ⟨e1,e2⟩:=h.sep g' i' g i x hg' hi' hg hi hx hx';exact ⟨e1,e2⟩)
  exact ⟨h1.trans ho.symm,h2⟩
 refine ⟨⟨(kp h.eT (nm h.eT (by decide) (by decide) (by decide))).1,aA h.row λ x hx=>?_,h.len,?_,λ g' i' hg' hi'=>?_,?_,?_⟩,hw.os,hw.out,λ x o hx hn=>?_⟩
 ·obtain ⟨c,hc⟩:=aD h.row hx
  exact (kp hc (h.ob g i x hg hi hx)).1.trans hc.symm
 ·obtain ⟨bg,cg,cur,tg,e1,e2,e3,e4,e5⟩:=h.ptr
  obtain ⟨t1,t2,t3⟩:=nt (lS e4);refine ⟨bg,cg,cur,tg,e1,e2,(kp e3 (nm e3 t1 t2 t3)).1,e4,λ g hg=>?_⟩;obtain ⟨bs,ct,cur',ts,f1,f2,f3,f4,f5⟩:=e5 g hg;obtain ⟨t1,t2,t3⟩:=nt (lS f4);exact ⟨bs,ct,cur',ts,f1,f2,(kp f3 (nm f3 t1 t2 t3)).1,f4,f5⟩
 ·by_cases e:g'=g/\i'=i
  ·obtain ⟨rfl,rfl⟩:=e
   rw [bN,bN];exact hw.ri
  ·rw [bz _ _ e,bz _ _ e]
   exact (h.rep g' i' hg' hi').keep k λ x hx=>(gG hg' hi' e x hx).1
 ·intro g1 i1 g2 i2 x h1 h2 h3 h4 o1 o2
  by_cases e1:g1=g/\i1=i <;> by_cases e2:g2=g/\i2=i
  ·exact ⟨e1.1.trans e2.1.symm,e1.2.trans e2.2.symm⟩
  ·obtain ⟨rfl,rfl⟩:=e1
   rw [bN] at o1;rw [bz _ _ e2] at o2;exact ((gG h3 h4 e2 x o2).2 o1).elim
  ·obtain ⟨rfl,rfl⟩:=e2
   rw [bN] at o2;rw [bz _ _ e1] at o1;exact ((gG h1 h2 e1 x o1).2 o2).elim
  ·rw [bz _ _ e1] at o1
   rw [bz _ _ e2] at o2;exact h.sep g1 i1 g2 i2 x h1 h2 h3 h4 o1 o2
 ·intro g1 i1 x h1 h2 hx o1
  by_cases e1:g1=g/\i1=i
  ·obtain ⟨rfl,rfl⟩:=e1
   rw [bN] at o1;obtain ⟨c,hc⟩:=aD h.row hx;exact (kp hc (h.ob _ _ x h1 h2 hx)).2 o1
  ·rw [bz _ _ e1] at o1
   exact h.ob g1 i1 x h1 h2 hx o1
 ·obtain ⟨h1,h2⟩:=kp hx λ ho=>hn (.inr (.inr ⟨g,i,hg,hi,ho⟩))
  refine ⟨h1,λ hc=>?_⟩;rcases hc with e | e | ⟨g1,i1,q1,q2,o1⟩
  ·exact hn (.inl e)
  ·exact hn (.inr (.inl e))
  ·by_cases e1:g1=g/\i1=i
   ·obtain ⟨rfl,rfl⟩:=e1
    rw [bN] at o1;exact h2 o1
   ·rw [bz _ _ e1] at o1
    exact hn (.inr (.inr ⟨g1,i1,q1,q2,o1⟩))
theorem CI.leave (h:CI w bc gv sv q n sz B ad F) {g i:Nat} (hg:g<n) (hi:i<sz) {R':MR} (hw:Wk (rest w (B g i) (ad g i)) (B g i) R' w') (k:Kz w w'):∃ jw,CI w' bc gv sv q n sz B jw (fE F g i R')/\w'.os=w.os/\w'.output=w.output/\og n sz B bc w sv ad w' sv jw:=by
 obtain ⟨a',hw⟩:=hw;exact ⟨_,h.Qk hg hi hw k⟩
end
section
variable {w:World} {bc:Nat} {gv sv:Value} {q:List bG} {n sz:Nat} {B:Nat->Nat->Nat} {ad:Nat->Nat->fK} {F:Nat->Nat->MR}
theorem find_ok (h:CI w bc gv sv q n sz B ad F) (_hn:n<=4) (_hs:sz<=5) (g i:Nat) (hg:g<256) (hi:i<256):ag Tryz.prog 58 #[Ptt bc,.agg #[.int .u8 g,.int .u8 i]] w (λ v w'=>v=.pointer (if g<n/\i<sz then some ⟨B g i,0,none⟩ else none)/\GB none w w'):=by
 refine au ah mixed Tryz.func58 rfl rfl ?_;intro w1 b1 m1 g1 l1;obtain ⟨bg,cg,cur,tg,rfl,e2,e3,e4,e5⟩:=h.ptr;have hc:=g1.get h.eT nofun;have e3:=g1.get e3 nofun;refine ⟨by kernel_rfl,_,_,m1,_,rfl,.inl ⟨by omega,_,_,m1,_,rfl,.inl ⟨by omega,?_⟩⟩⟩;refine ⟨_,_,hc,_,rfl,aj (λ c=>?_) (λ c=>?_)⟩
 ·have c1:g<n:=by simp at c;omega
  obtain ⟨bs,ct,cur',ts,f1,f2,f3,f4,f5⟩:=e5 g c1;have f3:=g1.get f3 nofun;refine ⟨_,_,hc,_,rfl,⟨by omega,by omega⟩,_,_,e3,.slice (some ⟨bs,0,none⟩) sz ct,by show cur.toList[0+g*1]? = _;rw [Nat.mul_one,Nat.zero_add];exact f1,?_⟩;refine aj (λ d=>?_) (λ d=>?_)
  ·have d1:¬ (g<n/\i<sz):=by simp at d;omega
   rw [if_neg d1];exact ⟨rfl,g1⟩
  ·have d1:i<sz:=by simp at d;omega
   rw [if_pos ⟨c1,d1⟩];refine ⟨_,_,hc,_,rfl,⟨by omega,by omega⟩,_,_,e3,.slice (some ⟨bs,0,none⟩) sz ct,by show cur.toList[0+g*1]? = _;rw [Nat.mul_one,Nat.zero_add];exact f1,⟨by omega,by omega⟩,_,_,f3,.pointer (some ⟨B g i,0,none⟩),by show cur'.toList[0+i*1]? = _;rw [Nat.mul_one,Nat.zero_add];exact f5 i d1,?_⟩;exact ⟨rfl,g1⟩
 ·have c1:¬ (g<n/\i<sz):=by simp at c;omega
  rw [if_neg c1];exact ⟨rfl,g1⟩
end
section
variable {A:aT} (HA:bK A) {w:World} {bc:Nat} {gv sv:Value} {q:List bG} {n sz:Nat} {B:Nat->Nat->Nat} {ad:Nat->Nat->fK} {F:Nat->Nat->MR}
include HA
theorem TC (h:CI w bc gv sv q n sz B ad F) (hn:n<=4) (hs:sz<=5) (g i:Nat) (hg:g<256) (hi:i<256) (hF:g<n->i<sz->Ok A (F g i)):ag Tryz.prog 21 #[Ptt bc,.agg #[.int .u8 g,.int .u8 i]] w (λ v w'=>v=.int .i64 (if g<n/\i<sz then 0 else 6)/\(∃ jw,CI w' bc gv sv q n sz B jw (if g<n/\i<sz then fE F g i (mStart A (F g i)) else F)/\og n sz B bc w sv ad w' sv jw)/\w'.os=w.os/\w'.output=w.output/\Kz w w'):=by
 refine au ah mixed Tryz.func21 rfl rfl ?_;intro w1 b1 m1 g1 l1;have h1:=h.ax g1;refine ⟨_,_,m1,[.int .u8 g,.int .u8 i],rfl,rfl,_,find_ok h1 hn hs g i hg hi,?_⟩;rintro _ w2 ⟨rfl,g2⟩;have h2:=h1.ax g2;have G:=g1.trans g2;by_cases c:g<n/\i<sz
 ·rw [if_pos c,if_pos c,if_pos c]
  have o:=hF c.1 c.2;refine ⟨_,JE HA (h2.enter c.1 c.2) o.i.2.1 o.i.2.2.1,?_⟩;rintro _ w3 ⟨rfl,h3,k3⟩;obtain ⟨jw,h4,h5,h6,f6⟩:=h2.leave c.1 c.2 h3 k3;exact ⟨rfl,⟨jw,h4,(og.ax G).trans f6⟩,h5.trans G.os,h6.trans G.out,G.kz.trans k3⟩
 ·rw [if_neg c,if_neg c,if_neg c]
  exact ⟨rfl,⟨ad,h2,og.ax G⟩,G.os,G.out,G.kz⟩
end
end
end Go.Proofs.YtignemioillaiaaGreat
