/- A replica at work (29): take. -/
import Derived.Test.YtignemioillaiabGreatG27
namespace Go.Proofs.YtignemioillaiabGreat
set_option maxHeartbeats 8000000
set_option maxRecDepth 100000
section
open Go Go.Conc
structure GM (A:bE) (R:MR) (f:Nat×Nat) (m:MM):Prop where
 bn:m.b.n≤4294967295
 ask:m.kind=1→A.gc (bZ m.q)
 vs:m.kind=4→(∀ v∈m.vs,A.gc v.c∧v.slot<60)∧m.vs.length≤1000000∧f.2<5
 acc:m.kind=6→A.gc m.c∧m.s<60
 Ad:m.kind=7→m.s<60∧f.2<5
 dec:m.kind=8→A.gc m.c∧m.s<60
 uR:m.kind=9→0≤m.r.src∧m.r.src.toNat<R.st.I.length∧m.r.seq≤4294967295∧A.gc (oF m.r)
 pI:m.kind=10→0≤m.peer∧m.peer.toNat<R.st.O.length∧A.gc (sS m.peer m.seq)
section
variable (A:bE)
def qm (R:MR) (f:Nat×Nat) (m:MM):MR:=if m.kind=1 then jH A R m.q else if m.kind=3 then tV A.enc R f m.b else if m.kind=4 then jq A R f m.b m.vs else if m.kind=5 then (if R.sc.b.lt m.b=true then fH R else R) else if m.kind=6 then lh A R f m else if m.kind=7 then tX A R f m else if m.kind=8 then kG A R m.s m.c else if m.kind=9 then rJ A R f m.r else if m.kind=10 then rM A R m.peer.toNat m.seq else R
def bR (R:MR) (m:MM):MR:={ R with sc:={ R.sc with seen:=max R.sc.seen m.b.n } }
def jB (R:MR) (f:Nat×Nat) (d:ByteArray):MR:=match A.dec d with
 | none=>R
 | some m=>if f.1=255∧m.kind≠1 then R else qm A (bR R m) f m
end
section
variable {A:bE} (HA:bW A) {Λ:bN} {w:World} {br:Nat} {R:MR}
theorem Ok.seen (ho:Ok A R) {m:MM} (hm:m.b.n≤4294967295):Ok A (bR R m):=⟨ho.sz,ho.i,ho.st,ho.kn,ho.pp,ho.vt,ho.wv,ho.mt,ho.ac,ho.pr,ho.lg,ho.lc,ho.nx,by show max R.sc.seen m.b.n≤_;have:=ho.sn.1;omega,ho.sn.2.1,ho.sn.2.2⟩
include HA
theorem Wj (hk:∀ d m,A.dec d=some m→1≤m.kind∧m.kind≤10) (h:Wk Λ br R w) (ho:Ok A R) (f t:Nat×Nat) (d:ByteArray) (hm:∀ m,A.dec d=some m→¬ (f.1=255∧m.kind≠1)→GM A R f m) (hb:R.out.length≤840000):af Tryz.prog 49 #[.pointer (some ⟨br,0,none⟩),.agg #[.int .u8 f.1,.int .u8 f.2,.int .u8 t.1,.int .u8 t.2,.string d]] w (fun v w'=>v=.tuple #[]∧Wk Λ br (jB A R f d) w'∧Kz w w'):=by
 have hbr:br<w.heap.size:=by obtain ⟨a,h⟩:=h;exact ae h.ri.mem
 refine Ae au Tryz.func49 rfl rfl ?_;refine CS.piece (Q:=fun q w'=>∃ b1,q=[(0,.pointer (some ⟨br,0,none⟩)),(3,.pointer (some ⟨b1,0,none⟩))]∧w'.heap[b1]? = some (.cells #[.int .u8 f.1,.int .u8 f.2,.int .u8 t.1,.int .u8 t.2,.string d] 97)∧GB none w w'∧w.heap.size≤b1) (CS.of au mixed fun w1 b1 m1 g1 l1=>⟨_,by exact ⟨rfl,rfl,trivial⟩,b1,rfl,m1,g1,l1⟩) ?_;rintro _ w1 ⟨b1,rfl,m1,g1,l1⟩;refine CS.piece (Q:=fun q w4=>∃ b3 e m ra rn rc da dn dc iN mr rc' ig jU ik va vc,q=[(0,.pointer (some ⟨br,0,none⟩)),(3,.pointer (some ⟨b1,0,none⟩)),(4,.pointer (some ⟨b3,0,none⟩)),(5,.int .i64 e)]∧w4.heap[b3]? = some (.cells (dK m (.slice ra rn rc) (.slice da dn dc) (.slice va m.vs.length vc) (.slice iN mr rc') (.slice ig jU ik)).toArray 83)∧aP w4 m.c.r (.slice ra rn rc) (.slice da dn dc)∧bY w4 (.slice va m.vs.length vc) m.vs∧aP w4 m.r (.slice iN mr rc') (.slice ig jU ik)∧GB none w1 w4∧w1.heap.size≤b3∧((e=0∧A.dec d=some m)∨(e≠0∧A.dec d=none))) (CS.of au mixed ?_) ?_
 ·refine ⟨_,_,m1,_,rfl,_,HA.parse w1 d,?_⟩
  rintro _ w2 ⟨⟨mv,e,m,rfl,hmv,hd'⟩,g2⟩;obtain ⟨rv,dv,vv,rv',cB,rfl,hr,hvs,hr'⟩:=hmv;obtain ⟨ra,rn,rc,da,dn,dc,rfl,rfl⟩:=hr.sl;obtain ⟨iN,mr,rc',ig,jU,ik,rfl,rfl⟩:=hr'.sl;obtain ⟨va,vc,rfl⟩:=hvs.sl;intro w3 b3 m3 g3 l3;refine ⟨_,_,_,m3,rfl,rfl,fun w4 m4 g4=>?_⟩;have g24:GB none w2 w4:=g3.new g4 l3;exact ⟨_,by exact ⟨rfl,rfl,rfl,rfl,trivial⟩,b3,e,m,ra,rn,rc,da,dn,dc,iN,mr,rc',ig,jU,ik,va,vc,rfl,m4,hr.kz g24.kz,hvs.kz g24.kz,hr'.kz g24.kz,g2.trans g24,Nat.le_trans g2.size l3,hd'.imp (fun q=>⟨q.1,q.2.1⟩) id⟩
 rintro _ w4 ⟨b3,e,m,ra,rn,rc,da,dn,dc,iN,mr,rc',ig,jU,ik,va,vc,rfl,m4,hr,hvs,hr',g4,l3,hd⟩;have m1:=g4.get m1 nofun;have gg:=g1.trans g4;obtain ⟨a,h4⟩:=h.ax gg;refine CS.cut (Qn:=fun q w'=>A.dec d=some m∧¬ (f.1=255∧m.kind≠1)∧q=[(0,.pointer (some ⟨br,0,none⟩)),(3,.pointer (some ⟨b1,0,none⟩)),(4,.pointer (some ⟨b3,0,none⟩))]∧w'=w4) (Qx:=fun _ _ _=>False) (Qr:=fun q w'=>jB A R f d=R∧q=[]∧w'=w4) (CS.of au mixed ?_) ?_ (fun _ _ _ _ h _=>h.elim) ?_
 ·rcases hd with ⟨rfl,hd⟩ | ⟨he,hd⟩
  ·refine ⟨_,_,m1,_,rfl,aj (fun c=>?_) (fun c=>?_)⟩
   ·have c1:f.1=255:=by simp at c;omega
    refine ⟨_,_,m4,_,rfl,aj (fun c=>?_) (fun c=>?_)⟩
    ·have c2:m.kind≠1:=by simpa using c
     exact ⟨_,by exact trivial,by unfold jB;rw [hd];exact if_pos ⟨c1,c2⟩,rfl,rfl⟩
    ·have c2:m.kind=1:=by simpa using c
     exact ⟨_,by exact ⟨rfl,rfl,rfl,trivial⟩,hd,fun q=>q.2 c2,rfl,rfl⟩
   ·have c1:¬ f.1=255:=by simp at c;omega
    exact ⟨_,by exact ⟨rfl,rfl,rfl,trivial⟩,hd,fun q=>c1 q.1,rfl,rfl⟩
  ·refine aj (fun c=>?_) (fun c=>?_)
   ·exfalso;simp at c;exact he c
   ·exact ⟨_,by exact trivial,by unfold jB;rw [hd],rfl,rfl⟩
 rotate_left
 ·rintro _ s w4 ⟨em,rfl,rfl⟩ hs
  rw [em];exact CJ hs ⟨rfl,⟨_,h4⟩,gg.kz⟩
 rintro _ w4 ⟨hd,hn,rfl,rfl⟩;have em:jB A R f d=qm A (bR R m) f m:=by unfold jB;rw [hd];exact if_neg hn
 rw [em];have hkk:=hk d m hd;have hm:=hm m hd hn;have ho:=ho.seen hm.bn;have l4:=g1.size;have iV:(if (m.b.n:Int) > (R.sc.seen:Int) then (m.b.n:Int) else (R.sc.seen:Int))=((max R.sc.seen m.b.n:Nat):Int):=by split <;> omega
 refine CS.piece (Q:=fun q w5=>q=[(0,.pointer (some ⟨br,0,none⟩)),(3,.pointer (some ⟨b1,0,none⟩)),(4,.pointer (some ⟨b3,0,none⟩))]∧Wk Λ br (bR R m) w5∧GB (some br) w4 w5∧Kz w4 w5) (CS.of au mixed ?_) ?_
 ·refine ⟨by kernel_rfl,_,_,h4.ri.mem,_,rfl,_,_,m4,_,rfl,_,_,fG (bR R m) a,h4.ri.mem,rfl,by unfold fG bR;dsimp only;rw [← iV];rfl,fun w5 m5 g5=>?_⟩
  exact ⟨_,by exact ⟨rfl,rfl,rfl,trivial⟩,rfl,⟨_,h4.cell (s':=(bR R m).sc) m5 g5⟩,g5,h4.ri.kz h4.ri.eQ g5⟩
 rintro _ w5 ⟨rfl,h,g5,k5⟩;replace m1:=g5.get m1 fun e=>by cases e;omega
 replace m4:=g5.get m4 fun e=>by cases e;omega
 replace hr:=hr.kz k5;replace hvs:=hvs.kz k5;replace hr':=hr'.kz k5;have K5:=gg.kz.trans k5;have hb1:(bR R m).out.length≤840000:=hb;replace hm:GM A (bR R m) f m:=⟨hm.bn,hm.ask,hm.vs,hm.acc,hm.Ad,hm.dec,hm.uR,hm.pI⟩;refine CS.piece (Q:=fun q w'=>q=[(0,.pointer (some ⟨br,0,none⟩)),(3,.pointer (some ⟨b1,0,none⟩)),(4,.pointer (some ⟨b3,0,none⟩)),(37,.int .u8 m.kind)]∧w'=w5) (CS.of au mixed ⟨_,_,m4,_,rfl,_,by exact ⟨rfl,rfl,rfl,rfl,trivial⟩,rfl,rfl⟩) ?_;rintro _ w5 ⟨rfl,rfl⟩;clear h4 g5 k5 hk hd hn em iV;generalize bR R m=R at *;obtain ⟨kind,q,p,b,s,c,vs,r,peer,seq⟩:=m;dsimp only at hkk;refine CS.of au mixed ?_;obtain rfl | rfl | rfl | rfl | rfl | rfl | rfl | rfl | rfl | rfl:kind=1∨kind=2∨kind=3∨kind=4∨kind=5∨kind=6∨kind=7∨kind=8∨kind=9∨kind=10:=by omega
 ·refine ⟨_,_,m4,q.cells,rfl,rfl,_,PO HA h ho (q:=q) (hm.ask rfl) (by omega),?_⟩
  rintro _ w6 ⟨rfl,h6,k6⟩;exact ⟨rfl,h6,K5.trans k6⟩
 ·exact ⟨rfl,h,K5⟩
 ·refine ⟨_,_,m1,[.int .u8 f.1,.int .u8 f.2],rfl,rfl,_,_,m4,bC b,rfl,rfl,_,VX HA.jd h f b (by omega),?_⟩
  rintro _ w6 ⟨rfl,h6,k6⟩;exact ⟨rfl,h6,K5.trans k6⟩
 ·refine ⟨_,_,m1,[.int .u8 f.1,.int .u8 f.2],rfl,rfl,_,_,m4,bC b,rfl,rfl,_,_,m4,_,rfl,_,NN HA h ho f (hm.vs rfl).2.2 b (hm.vs rfl).1 (hm.vs rfl).2.1 hvs hb1,?_⟩
  rintro _ w6 ⟨rfl,h6,k6⟩;exact ⟨rfl,h6,K5.trans k6⟩
 ·refine ⟨_,_,m4,bC b,rfl,rfl,_,PE h b,?_⟩
  rintro _ w6 ⟨rfl,h6,k6⟩;exact ⟨rfl,h6,K5.trans k6⟩
 ·refine ⟨_,_,m1,[.int .u8 f.1,.int .u8 f.2],rfl,rfl,_,_,m4,_,rfl,rfl,_,NJ HA h f ⟨_,_,_,_,_,rfl,hr,hvs,hr'⟩ (by omega),?_⟩
  rintro _ w6 ⟨rfl,h6,k6⟩;exact ⟨rfl,h6,K5.trans k6⟩
 ·refine ⟨_,_,m1,[.int .u8 f.1,.int .u8 f.2],rfl,rfl,_,_,m4,_,rfl,rfl,_,V4 HA h ho f (hm.Ad rfl).2 (hm.Ad rfl).1 ⟨_,_,_,_,_,rfl,hr,hvs,hr'⟩ (by omega),?_⟩
  rintro _ w6 ⟨rfl,h6,k6⟩;exact ⟨rfl,h6,K5.trans k6⟩
 ·refine ⟨_,_,m4,_,rfl,_,_,m4,cK c (.slice ra rn rc) (.slice da dn dc),rfl,rfl,_,I4 HA h ho (hm.dec rfl).2 (hm.dec rfl).1 (c:=c) ⟨_,_,rfl,hr⟩ (by omega),?_⟩
  rintro _ w6 ⟨rfl,h6,k6⟩;exact ⟨rfl,h6,K5.trans k6⟩
 ·refine ⟨_,_,m1,[.int .u8 f.1,.int .u8 f.2],rfl,rfl,_,_,m4,dN r (.slice iN mr rc') (.slice ig jU ik),rfl,rfl,_,V5 HA h ho f (hm.uR rfl).1 (hm.uR rfl).2.1 (hm.uR rfl).2.2.1 (hm.uR rfl).2.2.2 hr' (by omega),?_⟩
  rintro _ w6 ⟨rfl,h6,k6⟩;exact ⟨rfl,h6,K5.trans k6⟩
 ·have ep:(peer.toNat:Int)=peer:=Int.toNat_of_nonneg (hm.pI rfl).1
  have hcall:=V8 HA h ho (p:=peer.toNat) (hm.pI rfl).2.1 (s:=seq) (by rw [ep];exact (hm.pI rfl).2.2) (by omega);rw [ep] at hcall;refine ⟨_,_,m4,_,rfl,_,_,m4,_,rfl,_,hcall,?_⟩;rintro _ w6 ⟨rfl,h6,k6⟩;exact ⟨rfl,h6,K5.trans k6⟩
end
end
end Go.Proofs.YtignemioillaiabGreat
