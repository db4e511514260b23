/- Does a cluster answer? -/
import Derived.Test.YtignemioillaiabGreatG50
namespace Go.Proofs.YtignemioillaiabGreat
set_option maxHeartbeats 8000000
set_option linter.unusedSectionVars false
set_option maxRecDepth 100000
section
open Go Go.Conc
def Sit.rounds (A:bE):Nat→Sit→Sit
 | 0,S=>S
 | n+1,S=>(S.rounds A n).round A
def EG:bH:=⟨2,9,1,5,0,0,0⟩
def EH:aD:=⟨2,9,5,1,false,0,0⟩
def EI (A:bE) (sz:Nat):Sit:=((((Sit.new A 1 sz).rounds A 15).sends A EG 0 0).round A).round A
def QQ (A:bE) (sz:Nat):Bool:=(nA A (EI A sz).C.q).2 && (!(EI A sz).bad && (nA A (EI A sz).C.q).1.any fun x=>dU x.1 EH)
structure JV (A:bE):Prop where
 gc:A.gc (bZ EG)
 live:∀ f,f≤2→QQ A (2*f+1)=true
 room:∀ f,f≤2→((Sit.new A 1 (2*f+1)).rounds A 15).C.q.length<20000
theorem cz.snap {w w':World} {bs:Nat} {S:Sit} (h:cz (cZ w) bs S w'):GB none w w':=by
 obtain ⟨_,_,_,_,_,_,h⟩:=h;have kp:∀ x,x<w.heap.size→w'.heap[x]? = w.heap[x]?:=fun x hx=>by
  obtain ⟨o,ho⟩:∃ o,w.heap[x]? = some o:=⟨w.heap[x],by simp [hx]⟩;exact (h.pr x o ho).1.trans ho.symm
 refine ⟨h.os,h.out,?_,fun x hx _=>kp x hx⟩;by_cases h0:w.heap.size=0
 ·omega
 ·have h1:=kp (w.heap.size - 1) (by omega)
  obtain ⟨o,ho⟩:∃ o,w.heap[w.heap.size - 1]? = some o:=⟨w.heap[w.heap.size - 1]'(by omega),by simp [show w.heap.size - 1<w.heap.size by omega]⟩;rw [ho] at h1;have:=ae h1;omega
theorem abe {l:List (aD×Nat)} {k:Nat} {x:aD×Nat} (h:l[k]? = some x) {cur:List Value} (ht:cur.take (l.length*8)=(l.map ED).flatten):aO cur (k*8) 7=x.1.cells:=by
 have h1:=jy (f:=ED) (size:=8) (fun _=>rfl) l k x h;have hk:k<l.length:=(List.getElem?_eq_some_iff.1 h).1;have h2:aO cur (k*8) 8=ED x:=by
  rw [← h1,List.flatMap_def,← ht];unfold aO;rw [List.drop_take,List.take_take,Nat.min_eq_left (by omega)]
 have h3:aO cur (k*8) 7=(aO cur (k*8) 8).take 7:=by unfold aO;rw [List.take_take];rfl
 rw [h3,h2];rfl
section
variable {A:bE} (HA:bW A) (HN:je A)
include HA HN
theorem Sit.aN.new {n sz:Nat} (hn:1≤n∧n≤4) (hN:n=A.N) (hz:1≤sz∧sz≤5):(Sit.new A n sz).aN A:=⟨aW.aN.new HA HN hn.2 hN hz.2,hn.1,hz.1,by simp [Sit.new,aW.new],by simp [Sit.new,aW.new],by simp [Sit.new,aW.new],by simp [Sit.new]⟩
theorem Sit.aN.rounds {S:Sit} (h:S.aN A):∀ n,(S.rounds A n).aN A
 | 0=>h
 | n+1=>(Sit.aN.rounds h n).round HA HN
variable (HL:wh A) (HV:JV A)
theorem Sit.Vj (S:Sit):∀ n,(S.all A n).C.n=S.C.n∧(S.all A n).C.sz=S.C.sz:=by
 intro n;induction n generalizing S with
 | zero=>exact ⟨rfl,rfl⟩
 | succ n ih =>
  unfold Sit.all;split
  ·exact ⟨(ih (S.one A)).1.trans (aW.nJ A S.C _).1,(ih (S.one A)).2.trans (aW.nJ A S.C _).2⟩
  ·exact ⟨rfl,rfl⟩
theorem Sit.Mx (S:Sit):(S.round A).C.n=S.C.n∧(S.round A).C.sz=S.C.sz:=⟨(Sit.Vj HA HN _ _).1.trans (Sit.xE S _).1,(Sit.Vj HA HN _ _).2.trans (Sit.xE S _).2⟩
theorem Sit.CX (S:Sit):∀ n,(S.rounds A n).C.n=S.C.n∧(S.rounds A n).C.sz=S.C.sz
 | 0=>⟨rfl,rfl⟩
 | n+1=>⟨(Sit.Mx HA HN _).1.trans (Sit.CX S n).1,(Sit.Mx HA HN _).2.trans (Sit.CX S n).2⟩
include HL HV
theorem WX (hN:A.N=1) (w:World) (f:Nat) (hf:f≤2):gq Tryz.prog 51 #[.int .i64 (2*f+1:Nat)] w (fun v w'=>v=.bool true∧GB none w w'):=by
 have hlive:=HV.live f hf;have OM:(Sit.new A 1 (2*f+1)).aN A:=Sit.aN.new HA HN ⟨by decide,by decide⟩ hN.symm ⟨by omega,by omega⟩;refine Jg au Tryz.func51 rfl rfl ?_;refine aQ.piece (Q:=fun q w'=>q=[(0,.int .i64 (2*f+1:Nat))]∧w'=w) (aQ.of au mixed ⟨_,by exact ⟨rfl,trivial⟩,rfl,rfl⟩) ?_;rintro q w ⟨rfl,rfl⟩;refine aQ.piece (Q:=fun q w1=>∃ bs,q=[(3,.pointer (some ⟨bs,0,none⟩)),(4,.bool true)]∧cz (cZ w) bs (Sit.new A 1 (2*f+1)) w1) (aQ.of au mixed ?_) ?_
 ·refine ⟨_,(QJ HA w 1 f ⟨by decide,by decide⟩ hf).x,?_⟩
  rintro _ w1 ⟨bs,rfl,_,h1,k1⟩;exact ⟨_,by exact ⟨rfl,rfl,trivial⟩,bs,rfl,h1⟩
 rintro q w1 ⟨bs,rfl,h1⟩;obtain ⟨N0,hN0⟩:∃ S,S=Sit.new A 1 (2*f+1):=⟨_,rfl⟩;have hsz0:N0.C.n=1∧N0.C.sz=2*f+1:=by rw [hN0];exact ⟨rfl,rfl⟩
 have hroom:=HV.room f hf;have hlv:EI A (2*f+1)=(((N0.rounds A 15).sends A EG 0 0).round A).round A:=by rw [hN0];rfl
 rw [← hN0] at h1 OM hroom;refine aQ.piece (Q:=fun q w2=>q=[(3,.pointer (some ⟨bs,0,none⟩)),(4,.bool true)]∧cz (cZ w) bs (N0.rounds A 15) w2) ?_ ?_
 ·refine aQ.piece (Q:=fun q w'=>q=[(3,.pointer (some ⟨bs,0,none⟩)),(4,.bool true),(5,.int .i64 0)]∧w'=w1) (aQ.of au mixed ⟨_,by exact ⟨rfl,rfl,rfl,trivial⟩,rfl,rfl⟩) ?_
  rintro q w1 ⟨rfl,rfl⟩;refine aQ.block ?_;refine aQ.loop (fun m s wk=>∃ i:Nat,m=15 - i∧i≤15∧s=[(3,.pointer (some ⟨bs,0,none⟩)),(4,.bool true),(5,.int .i64 i)]∧cz (cZ w) bs (N0.rounds A i) wk) ⟨_,_,⟨0,rfl,Nat.zero_le _,rfl,h1⟩,rfl,rfl,rfl,trivial⟩ ?_;rintro m s wk ⟨i,rfl,hi,rfl,hS⟩;refine aQ.cut (Qn:=fun q w'=>i<15∧q=[(3,.pointer (some ⟨bs,0,none⟩)),(4,.bool true),(5,.int .i64 i)]∧w'=wk) (Qx:=fun j q w'=>j=0∧i=15∧q=[(3,.pointer (some ⟨bs,0,none⟩)),(4,.bool true)]∧w'=wk) (Qr:=fun _ _=>False) (aQ.of au mixed ?_) ?_ ?_ (fun _ _ _ h _=>h.elim)
  ·refine aj (fun c=>?_) (fun c=>?_)
   ·exact ⟨_,by exact ⟨rfl,rfl,rfl,trivial⟩,by simp at c;omega,rfl,rfl⟩
   ·exact ⟨_,by exact ⟨rfl,rfl,trivial⟩,rfl,by simp at c;omega,rfl,rfl⟩
  rotate_left
  ·rintro j q s w' ⟨rfl,e,rfl,rfl⟩ hs
   exact ⟨_,hs,rfl,by rw [← e];exact hS⟩
  rintro q wk ⟨c1,rfl,rfl⟩;have Mq:=Sit.aN.rounds HA HN OM i;refine aQ.piece (Q:=fun q w'=>q=[(3,.pointer (some ⟨bs,0,none⟩)),(4,.bool true),(5,.int .i64 i)]∧cz (cZ w) bs (N0.rounds A (i+1)) w') ?_ ?_
  ·refine aQ.block (aQ.of au mixed ?_)
   refine ⟨_,Fw HA HN hS Mq.cl Mq.sz,?_⟩;rintro _ w2 ⟨rfl,h2,k2⟩;exact ⟨_,by exact ⟨rfl,rfl,rfl,trivial⟩,rfl,h2⟩
  ·rintro q w' ⟨rfl,h'⟩
   refine aQ.of au mixed ?_;exact ⟨⟨by omega,by omega⟩,_,_,⟨i+1,rfl,by omega,rfl,h'⟩,⟨rfl,rfl,rfl,trivial⟩,by omega⟩
 rintro q w2 ⟨rfl,h2⟩;have Ox:=Sit.aN.rounds HA HN OM 15;obtain ⟨r1,r2⟩:=Sit.CX HA HN N0 15;have hg0:0<(N0.rounds A 15).C.n:=by rw [r1,hsz0.1];decide
 have hi0:0<(N0.rounds A 15).C.sz:=by rw [r2,hsz0.2];omega
 have Ps:=Sit.aN.sends HA HN HL Ox HV.gc hg0 hi0 hroom;have Z8:=Ps.round HA HN;generalize N0.rounds A 15=S15 at *;refine aQ.piece (Q:=fun q w'=>q=[(3,.pointer (some ⟨bs,0,none⟩))]∧w'=w2) (aQ.of au mixed ⟨_,by exact ⟨rfl,trivial⟩,rfl,rfl⟩) ?_;rintro q w2 ⟨rfl,rfl⟩;refine aQ.piece (Q:=fun q w3=>q=[(3,.pointer (some ⟨bs,0,none⟩))]∧cz (cZ w) bs (S15.sends A EG 0 0) w3) (aQ.of au mixed ?_) ?_
 ·have hak:=Ox.ak
  have hlen:=Ox.cl.len;refine ⟨_,(Mo HL h2 Ox.cl HV.gc hg0 hi0 (by omega)).x,?_⟩;rintro _ w3 ⟨rfl,h3,k3⟩;exact ⟨_,by exact ⟨rfl,trivial⟩,rfl,h3⟩
 rintro q w3 ⟨rfl,h3⟩;refine aQ.piece (Q:=fun q w4=>q=[(3,.pointer (some ⟨bs,0,none⟩)),(6,.bool true)]∧cz (cZ w) bs ((S15.sends A EG 0 0).round A) w4) (aQ.of au mixed ?_) ?_
 ·refine ⟨_,Fw HA HN h3 Ps.cl Ps.sz,?_⟩
  rintro _ w4 ⟨rfl,h4,k4⟩;exact ⟨_,by exact ⟨rfl,rfl,trivial⟩,rfl,h4⟩
 rintro q w4 ⟨rfl,h4⟩;obtain ⟨L,hL⟩:∃ L,L=EI A (2*f+1):=⟨_,rfl⟩;rw [hlv] at hL;refine aQ.piece (Q:=fun q w5=>q=[(3,.pointer (some ⟨bs,0,none⟩)),(6,.bool true),(7,.bool true)]∧cz (cZ w) bs L w5) (aQ.of au mixed ?_) ?_
 ·refine ⟨_,Fw HA HN h4 Z8.cl Z8.sz,?_⟩
  rintro _ w5 ⟨rfl,h5,k5⟩;exact ⟨_,by exact ⟨rfl,rfl,rfl,trivial⟩,rfl,by rw [hL];exact h5⟩
 rintro q w5 ⟨rfl,h5⟩;have hFL:L.aN A:=by rw [hL];exact Z8.round HA HN
 have hal:((nA A L.C.q).2 && (!L.bad && (nA A L.C.q).1.any fun x=>dU x.1 EH))=true:=by
  have:=hlive;unfold QQ at this;rw [hlv,← hL] at this;exact this
 rw [Bool.and_eq_true,Bool.and_eq_true] at hal;obtain ⟨a1,a2,a3⟩:=hal;have a2:L.bad=false:=by simpa using a2
 have htl:=WV HA h5 hFL.cl;generalize nA A L.C.q=TL at htl a1 a3;obtain ⟨tl,ok⟩:=TL;have a1:ok=true:=a1;subst a1;have a3:tl.any (fun x=>dU x.1 EH)=true:=a3;refine aQ.piece (Q:=fun q w6=>∃ lv,q=[(3,.pointer (some ⟨bs,0,none⟩)),(6,.bool true),(7,.bool true),(8,lv),(9,.bool true)]∧w6.ownsRow 0 72 8 lv tl.length (tl.map ED).flatten∧cz (cZ w) bs L w6) (aQ.of au mixed ?_) ?_
 ·refine ⟨_,htl.x,?_⟩
  rintro _ w6 ⟨⟨lv,rfl,ho⟩,g6⟩;exact ⟨_,by exact ⟨rfl,rfl,rfl,rfl,rfl,trivial⟩,lv,rfl,ho,h5.ax g6⟩
 rintro q w6 ⟨lv,rfl,ho,h6⟩;obtain ⟨la,lc,rfl⟩:=ag ho;have Jm:tl.length≤9223372036854775807:=by
  rcases ho.2 with ⟨_,h0⟩ | ⟨g,cap,cur,e,h0,h2,h3,h4,_⟩
  ·omega
  ·unfold Go.maxLen at h4;omega
 have G6:=h6.snap;refine aQ.cut (Qn:=fun _ _=>False) (Qx:=fun _ _ _=>False) (Qr:=fun q w'=>q=[(2,.bool true)]∧GB none w w') ?_ (fun _ _ h=>h.elim) (fun _ _ _ _ h _=>h.elim) ?_;rotate_left
 ·rintro q s w' ⟨rfl,g'⟩ hs
  exact CJ hs ⟨rfl,g'⟩
 refine aQ.piece (Q:=fun q w'=>q=[(3,.pointer (some ⟨bs,0,none⟩)),(6,.bool true),(7,.bool true),(8,.slice la tl.length lc),(9,.bool true),(10,.int .i64 0)]∧w'=w6) (aQ.of au mixed ⟨_,by exact ⟨rfl,rfl,rfl,rfl,rfl,rfl,trivial⟩,rfl,rfl⟩) ?_;rintro q w6 ⟨rfl,rfl⟩;refine aQ.block ?_;refine aQ.loop (fun m s wk=>∃ k:Nat,m=tl.length - k∧k≤tl.length∧s=[(3,.pointer (some ⟨bs,0,none⟩)),(6,.bool true),(7,.bool true),(8,.slice la tl.length lc),(9,.bool true),(10,.int .i64 k)]∧wk=w6∧∀ (j:Nat) (x:aD×Nat),j<k→tl[j]? = some x→dU x.1 EH=false) ⟨_,_,⟨0,rfl,Nat.zero_le _,rfl,rfl,fun j x h=>by omega⟩,rfl,rfl,rfl,rfl,rfl,rfl,trivial⟩ ?_;rintro m s w6 ⟨k,rfl,hk,rfl,rfl,hno⟩;refine aQ.cut (Qn:=fun q w'=>k<tl.length∧q=[(3,.pointer (some ⟨bs,0,none⟩)),(6,.bool true),(7,.bool true),(8,.slice la tl.length lc),(9,.bool true),(10,.int .i64 k)]∧w'=w6) (Qx:=fun _ _ _=>False) (Qr:=fun _ _=>False) (aQ.of au mixed ?_) ?_ (fun _ _ _ _ h _=>h.elim) (fun _ _ _ h _=>h.elim)
 ·refine aj (fun c=>?_) (fun c=>?_)
  ·exact ⟨_,by exact ⟨rfl,rfl,rfl,rfl,rfl,rfl,trivial⟩,by have:=of_decide_eq_true c;omega,rfl,rfl⟩
  ·exfalso
   have c1:k=tl.length:=by have:=of_decide_eq_false c;omega
   obtain ⟨x,hx,hp⟩:=List.any_eq_true.1 a3;obtain ⟨j,hj⟩:=List.mem_iff_getElem?.1 hx;have:=hno j x (by have:=(List.getElem?_eq_some_iff.1 hj).1;omega) hj;rw [this] at hp;cases hp
 rintro q w6 ⟨c1,rfl,rfl⟩;obtain ⟨x,hx⟩:∃ x,tl[k]? = some x:=⟨tl[k],by simp [c1]⟩;obtain ⟨gb,cap,cur,ev,aT,htk,hsz,hcap⟩:=iI ho (by omega);injection ev with ev _ Jr;subst ev;subst Jr;have hel:=abe hx htk;refine aQ.cut (Qn:=fun q w'=>dU x.1 EH=false∧q=[(3,.pointer (some ⟨bs,0,none⟩)),(6,.bool true),(7,.bool true),(8,.slice (some ⟨gb,0,none⟩) tl.length lc),(9,.bool true),(10,.int .i64 k)]∧w'=w6) (Qx:=fun _ _ _=>False) (Qr:=fun q w'=>q=[(2,.bool true)]∧w'=w6) ?_ ?_ (fun _ _ _ _ h _=>h.elim) ?_
 ·refine aQ.block (aQ.of au mixed ?_)
  obtain ⟨_,_,_,_,_,_,h6⟩:=h6;refine ⟨_,_,h6.si.mem,.bool false,by show (fI _ _ _)[8]? = _;unfold fI;rw [a2];rfl,⟨by omega,by omega⟩,_,_,aT,x.1.cells,by show aO cur.toList (0+(k:Int).toNat*8) 7=_;rw [Nat.zero_add,Int.toNat_natCast];exact hel,rfl,?_⟩;refine aj (fun d=>?_) (fun d=>?_)
  ·exact ⟨_,by exact ⟨rfl,trivial⟩,rfl,rfl⟩
  ·exact ⟨_,by exact ⟨rfl,rfl,rfl,rfl,rfl,rfl,trivial⟩,d,rfl,rfl⟩
 ·rintro q w6 ⟨e,rfl,rfl⟩
  refine aQ.of au mixed ?_;refine ⟨⟨by omega,by omega⟩,_,_,⟨k+1,rfl,by omega,rfl,rfl,fun j y hj hy=>?_⟩,⟨rfl,rfl,rfl,rfl,rfl,rfl,trivial⟩,by omega⟩;by_cases ej:j=k
  ·subst ej;rw [hx] at hy;cases hy;exact e
  ·exact hno j y (by omega) hy
 ·rintro q s w6 ⟨rfl,rfl⟩ hs
  exact ⟨_,hs,rfl,G6⟩
theorem CY {B:bE} (HB:bW B) (hN:A.N=1) (w:World) (g f:Int) (hg:uY g) (hf:uY f):gq Tryz.prog 25 #[.int .i64 g,.int .i64 f] w (fun v w'=>∃ bs,v=.tuple #[.pointer (some ⟨bs,0,none⟩),.bool true]∧cz (cZ w) bs (Sit.new B (1+bA g 4) (1+2*bA f 3)) w'∧Kz w w'):=by
 have lf:=gF f (show 0<3 by decide);have lg:=gF g (show 0<4 by decide);refine rO au mixed Tryz.func25 rfl rfl ?_;refine ⟨_,(iR w f 3 (by decide) hf.1 hf.2).x,?_⟩;rintro _ w ⟨rfl,rfl⟩;refine ⟨⟨by omega,by omega⟩,⟨by omega,by omega⟩,_,(iR w g 4 (by decide) hg.1 hg.2).x,?_⟩;rintro _ w ⟨rfl,rfl⟩;have hm:=QJ HB w (1+bA g 4) (bA f 3) ⟨by omega,by omega⟩ (by omega);have e1:((1+bA g 4:Nat):Int)=1+((bA g 4:Nat):Int):=by omega
 have e2:((2*bA f 3+1:Nat):Int)=1+2*((bA f 3:Nat):Int):=by omega
 rw [e1,e2] at hm;refine ⟨⟨by omega,by omega⟩,_,hm.x,?_⟩;rintro _ w1 ⟨bs,rfl,_,h1,k1⟩;have ha:=WX HA HN HL HV hN w1 (bA f 3) (by omega);rw [e2] at ha;refine ⟨_,ha,?_⟩;rintro _ w2 ⟨rfl,g2⟩;rw [show 2*bA f 3+1=1+2*bA f 3 by omega] at h1;exact ⟨bs,rfl,h1.ax g2,k1.trans g2.kz⟩
end
structure Pl where
 bc:Nat
 a:xC
 (gv sv:Value)
 B:Nat→Nat→Nat
 ad:Nat→Nat→fu
def jK (bs:Nat) (S:Sit) (p:Pl) (x:Nat):Prop:=uW bs p.a x∨lu S.C.n S.C.sz p.B p.bc p.sv p.ad x
def nC (Λ:bN) (bs:Nat) (S:Sit) (p:Pl) (w:World):Prop:=dR Λ bs p.bc S p.a p.gv p.sv p.B p.ad w
theorem nC.k {Λ:bN} {bs:Nat} {S:Sit} {p:Pl} {w:World} (h:nC Λ bs S p w):cz Λ bs S w:=⟨_,_,_,_,_,_,h⟩
theorem cz.p {Λ:bN} {bs:Nat} {S:Sit} {w:World} (h:cz Λ bs S w):∃ p,nC Λ bs S p w:=by obtain ⟨bc,a,gv,sv,B,ad,h⟩:=h;exact ⟨⟨bc,a,gv,sv,B,ad⟩,h⟩
open Classical in
noncomputable def Bn (w:World) (O:Nat→Prop):bN:=⟨fun b=>if O b then none else w.heap[b]?,w.os,w.output⟩
def Apart (O O':Nat→Prop):Prop:=∀ x,O x→¬ O' x
section
variable {Λ Λ':bN} {w w':World} {bs bt:Nat} {S S' T:Sit} {p p' r:Pl}
theorem nC.lt (h:nC Λ bs S p w) {x:Nat} (hx:jK bs S p x):x<w.heap.size:=hx.elim (fun e=>h.si.lt e) fun e=>dR.cl h e
theorem nC.enter (h:nC Λ bs S p w):cz (Bn w (jK bs S p)) bs S w:=by
 refine ⟨_,_,_,_,_,_,h.si,h.ci,h.dj,fun b o hb=>?_,rfl,rfl⟩;unfold Bn at hb;dsimp only at hb;split at hb
 ·cases hb
 ·rename_i hn
  exact ⟨hb,fun e=>hn (.inl e),fun e=>hn (.inr e)⟩
theorem JW {O:Nat→Prop} {x:Nat} {o:Obj} (hx:w.heap[x]? = some o) (hn:¬ O x):(Bn w O).pr x=some o:=by unfold Bn;dsimp only;rw [if_neg hn];exact hx
theorem jK.typ (h:nC Λ bs S p w) {x:Nat} (hx:jK bs S p x) {c:Array Value} {t:TypeId} (hc:w.heap[x]? = some (.cells c t)):t ∉ Jd:=by
 rcases hx with e | e
 ·obtain ⟨c',t',h1,h2⟩:=h.si.typ e
  rw [hc] at h1;injection h1 with h1;injection h1 with _ h1;subst h1;exact (JM h2).2
 ·rcases e with e | e | ⟨g,i,hg,hi,e⟩
  ·subst e;rw [h.ci.eX] at hc;injection hc with hc;injection hc with _ hc;subst hc;decide
  ·obtain ⟨c',h1⟩:=aG h.ci.row e
   rw [hc] at h1;injection h1 with h1;injection h1 with _ h1;subst h1;decide
  ·rcases (h.ci.rep g i hg hi).xu e hc with q | q | q <;> (subst q;decide)
theorem nC.other (h:nC Λ bs S p w) (ht:nC Λ bt T r w) (hd:Apart (jK bt T r) (jK bs S p)) (h':nC (Bn w (jK bs S p)) bs S' p' w') (k:Kz w w'):nC Λ bt T r w'∧Apart (jK bt T r) (jK bs S' p'):=by
 have kp:∀ {x:Nat} {o:Obj},w.heap[x]? = some o→¬ jK bs S p x→w'.heap[x]? = some o∧¬ jK bs S' p' x:=fun {x o} hx hn=>by
  obtain ⟨a1,a2,a3⟩:=h'.pr x o (JW hx hn);exact ⟨a1,fun e=>e.elim a2 a3⟩
 have ko:∀ x,jK bt T r x→w'.heap[x]? = w.heap[x]?∧¬ jK bs S' p' x:=fun x hx=>by
  have hlt:=ht.lt hx;obtain ⟨o,ho⟩:∃ o,w.heap[x]? = some o:=⟨w.heap[x],by simp [hlt]⟩;obtain ⟨h1,h2⟩:=kp ho (hd x hx);exact ⟨h1.trans ho.symm,h2⟩
 refine ⟨⟨ht.si.keep k fun x hx=>(ko x (.inl hx)).1,ht.ci.keep k (fun x hx=>(ko x (.inr hx)).1) (fun x c t htt hx=>(kp hx fun e=>jK.typ h e hx htt).1),ht.dj,fun b o hb=>?_,h'.os.trans h.os,h'.out.trans h.out⟩,fun x hx=>(ko x hx).2⟩;obtain ⟨a1,a2,a3⟩:=ht.pr b o hb;obtain ⟨c1,c2,c3⟩:=h.pr b o hb;exact ⟨(kp a1 fun e=>e.elim c2 c3).1,a2,a3⟩
theorem nC.own (h:nC Λ bs S p w) (h':nC (Bn w (jK bs S p)) bs S' p' w'):nC Λ bs S' p' w':=by
 refine ⟨h'.si,h'.ci,h'.dj,fun b o hb=>?_,h'.os.trans h.os,h'.out.trans h.out⟩;obtain ⟨c1,c2,c3⟩:=h.pr b o hb;exact h'.pr b o (JW c1 fun e=>e.elim c2 c3)
end
def Three (Λ:bN) (bs:Nat) (S:Sit) (bt:Nat) (T:Sit) (bu:Nat) (U:Sit) (w:World):Prop:=∃ p q r,nC Λ bs S p w∧nC Λ bt T q w∧nC Λ bu U r w∧Apart (jK bt T q) (jK bs S p)∧Apart (jK bu U r) (jK bs S p)∧Apart (jK bu U r) (jK bt T q)
theorem Apart.symm {O O':Nat→Prop} (h:Apart O O'):Apart O' O:=fun x h1 h2=>h x h2 h1
section
variable {Λ:bN} {w w':World} {bs bt bu:Nat} {S S' T U:Sit}
theorem Three.MB (h:Three Λ bs S bt T bu U w):Three Λ bt T bu U bs S w:=by
 obtain ⟨p,q,r,h1,h2,h3,d1,d2,d3⟩:=h;exact ⟨q,r,p,h2,h3,h1,d3,d1.symm,d2.symm⟩
theorem Three.ax (h:Three Λ bs S bt T bu U w) (g:GB none w w'):Three Λ bs S bt T bu U w':=by
 obtain ⟨p,q,r,h1,h2,h3,d1,d2,d3⟩:=h;exact ⟨p,q,r,dR.ax h1 g,dR.ax h2 g,dR.ax h3 g,d1,d2,d3⟩
theorem Three.first (h:Three Λ bs S bt T bu U w):∃ Λ',cz Λ' bs S w∧∀ S' w',cz Λ' bs S' w'→Kz w w'→Three Λ bs S' bt T bu U w':=by
 obtain ⟨p,q,r,h1,h2,h3,d1,d2,d3⟩:=h;refine ⟨_,h1.enter,fun S' w' h' k=>?_⟩;obtain ⟨p',h'⟩:=h'.p;obtain ⟨t1,t2⟩:=h1.other h2 d1 h' k;obtain ⟨u1,u2⟩:=h1.other h3 d2 h' k;exact ⟨p',q,r,h1.own h',t1,u1,t2,u2,d3⟩
end
theorem Three.open {w w1 w2 w3:World} {bs bt bu:Nat} {S T U:Sit} (h1:cz (cZ w) bs S w1) (h2:cz (cZ w1) bt T w2) (_k2:Kz w1 w2) (h3:cz (cZ w2) bu U w3) (_k3:Kz w2 w3):Three (cZ w) bs S bt T bu U w3:=by
 have g12:=h2.snap;have g23:=h3.snap;have g01:=h1.snap;obtain ⟨p,h1⟩:=h1.p;obtain ⟨q,h2⟩:=h2.p;obtain ⟨r,h3⟩:=h3.p;have wk:∀ {a b:World} {bx:Nat} {X:Sit} {z:Pl} {v:World},GB none a b→nC (cZ b) bx X z v→nC (cZ a) bx X z v:=fun {a b bx X z v} g h=>⟨h.si,h.ci,h.dj,fun x o hx=>h.pr x o (g.get hx nofun),h.os.trans g.os,h.out.trans g.out⟩
 have nw:∀ {b:World} {bx:Nat} {X:Sit} {z:Pl} {v:World},nC (cZ b) bx X z v→∀ x,jK bx X z x→b.heap.size≤x:=fun {b bx X z v} h x hx=>by
  by_cases hl:x<b.heap.size
  ·obtain ⟨o,ho⟩:∃ o,b.heap[x]? = some o:=⟨b.heap[x],by simp [hl]⟩
   obtain ⟨_,a2,a3⟩:=h.pr x o ho;exact (hx.elim a2 a3).elim
  ·omega
 refine ⟨p,q,r,dR.ax (dR.ax h1 g12) g23,dR.ax (wk g01 h2) g23,wk (g01.trans g12) h3,fun x hx hy=>?_,fun x hx hy=>?_,fun x hx hy=>?_⟩
 ·have:=nw h2 x hx;have:=h1.lt hy;omega
 ·have:=nw h3 x hx;have:=h1.lt hy;have:=g12.size;omega
 ·have:=nw h3 x hx;have:=h2.lt hy;omega
noncomputable def TY (ρ:Operand→Option Value):Op→Option Value
 | .binOp .add _ x y _=>match ρ x,ρ y with
  | some (.int .i64 a),some (.int .i64 c)=>some (.int .i64 (IntKind.i64.wrap (a+c)))
  | _,_=>none
 | _=>none
section
variable {P:Program} [kN P] (E:kP P) (n:Nat) (ops:Array Oper) (K:Sg→World→Prop)
noncomputable def Vk (s:Sg) (w:World) (K:Value→World→Prop) (o:Oper):Prop:=match TY (ev s) o.op with
 | some v=>K v w
 | none=>IE E s w K o
noncomputable def wK (os:List Oper):Sg→World→Prop:=List.rec (motive:=fun _=>Sg→World→Prop) (fun s w=>K s w) (fun o _ ih s w=>gW s (fun s=>Vk E s w (fun v w'=>ih (df n s o.dst v) w') o) (fun s=>ih (df n s o.dst undef) w) (yU ops s o)) os
theorem QR (o:Oper) (os:List Oper) (s:Sg) (w:World):wK E n ops K (o::os) s w=gW s (fun s=>Vk E s w (fun v w'=>wK E n ops K os (df n s o.dst v) w') o) (fun s=>wK E n ops K os (df n s o.dst undef) w) (yU ops s o):=rfl
end
section
variable {P:Program} [kN P] {main:Bool} {D:World→World→Array Event→Prop} {X:Goroutine→World→Prop} {b:Frame} {k:List Item} {cs:List Frame} {ops:Array Oper} {E:kP P} {n:Nat} {K:Sg→World→Prop}
theorem Z9 {s:Sg} {a:Act} {w:World} {o:Oper} {K K':Value→World→Prop} (hr:∀ x v,ev s x=some v→a.eval x=v) (h:Vk E s w K o) (hK:∀ v w',K v w'→K' v w') (hS:∀ v w w',cu w w'→K' v w→K' v w'):fQ P o a.eval w K':=by
 unfold Vk at h;cases hv:TY (ev s) o.op with
 | none=>rw [hv] at h;exact IK hr h hK hS
 | some v =>
  rw [hv] at h;have q:aY P (execOp a.eval o)=some (.value v):=by
   obtain ⟨dst,op,ty,pos,after,guard⟩:=o;dsimp only at hv;unfold TY at hv;split at hv
   ·rename_i t x y yt
    split at hv
    ·rename_i p c hx hy
     cases hv
     have e:execOp a.eval ⟨dst,.binOp .add t x y yt,ty,pos,after,guard⟩=(do let v ← (do eqGuard .add t x y (a.eval x) (a.eval y);binOp .add t (a.eval x) (a.eval y));pure (Next.value v)):=rfl;rw [e,hr _ _ hx,hr _ _ hy];rfl
    ·cases hv
   ·cases hv
  exact .inl fun w₁ hs=>⟨aN.quiet q w₁,_,w₁,.inl (fV q w₁),hS _ _ _ hs (hK _ _ h)⟩
theorem WY (hX:SX P main D X) (hk:b.kind≠.early) (hK:∀ s w,K s w→∀ a,Fit n s a→X (G (b.at a k) cs) w):∀ (os:List Oper) (i:Nat) (s:Sg) (w:World) (a:Act),(∀ j o,os[j]? = some o→ops[i+j]? = some o)→Fit n s a→wK E n ops K os s w→X (G (b.at a (.inRegion ops (List.range' i os.length)::k)) cs) w:=by
 intro os;induction os with
 | nil=>exact fun i s w a _ hf h=>aL.regionEnd hX.c (hK s w h a hf)
 | cons o os ih =>
  intro i s w a hos hf h;have ho:ops[i]? = some o:=hos 0 o rfl;have IP:∀ j o',os[j]? = some o'→ops[i+1+j]? = some o':=fun j o' hj=>by
   have:=hos (j+1) o' hj;rwa [show i+(j+1)=i+1+j by omega] at this
  rw [List.length_cons,List.range'_succ];rw [QR] at h;obtain ⟨s',hf',⟨hw,h⟩ | ⟨hw,h⟩⟩:=D7 hf h
  ·refine fQ.go hX ho hw hk (Z9 (K':=fun v w'=>X (G (b.at (a.put o.dst v) (.inRegion ops (List.range' (i+1) os.length)::k)) cs) w') hf'.ev h (fun v w' hx=>ih (i+1) _ w' _ IP (hf'.put o.dst v) hx) (fun v w w' hs hx=>hX.rely hs hx)) fun _ _ hx=>hx
  ·exact aL.unw hX.c ho hw (ih (i+1) _ w _ IP (hf'.put o.dst undef) h)
theorem CS.wK {id:Nat} {s:Sg} {w:World} {K:Ex→Sg→World→Prop} (h:Go.Proofs.YtignemioillaiabGreat.wK E n ops (K .n) ops.toList s w):CS P n (.region id ops false) K s w:=⟨fun hX b cs hk k hK a hf=>by
 refine hX.c.region (List.range' 0 ops.toList.length) (by rw [Array.length_toList,List.range_eq_range']) ?_;exact WY hX hk (fun s w h a hf=>hK .n s w h a hf) ops.toList 0 s w a (fun j o hj=>by rw [Nat.zero_add];rwa [Array.getElem?_toList] at hj) hf h⟩
end
theorem aQ.wK {P:Program} {E:kP P} {n id:Nat} {ops:Array Oper} {s:Sg} {w:World} {K:Ex→Sg→World→Prop} (h:@Go.Proofs.YtignemioillaiabGreat.wK P (mg P) E n ops (K .n) ops.toList s w):aQ P n (.region id ops false) K s w:=@CS.wK P (mg P) _ E _ _ _ _ _ h
def Vl (o:Int×List Rg) (q:Value):List Value:=[Value.int .u32 o.1,q]
theorem Oy:∀ {O:List (Int×List Rg)} {qs:List Value} {k:Nat} {o:Int×List Rg} {q:Value},O[k]? = some o→qs[k]? = some q→aO (List.zipWith Vl O qs).flatten (k*2) 2=Vl o q
 | [],_,_,_,_,h,_=>by simp at h
 | _::_,[],_,_,_,_,h=>by simp at h
 | o::O,q::qs,0,_,_,h1,h2=>by
  simp at h1 h2;subst h1;subst h2;simp [aO,Vl]
 | o::O,q::qs,k+1,_,_,h1,h2=>by
  have:=Oy (O:=O) (qs:=qs) (k:=k) (by simpa using h1) (by simpa using h2);rw [← this];unfold aO;rw [List.zipWith_cons_cons,List.flatten_cons,List.drop_append,List.drop_eq_nil_of_le (by show 2≤_;omega),List.nil_append,show (Vl o q).length=2 from rfl,show (k+1)*2 - 2=k*2 by omega]
theorem JX:∀ {l:List Rg} {vs:List (Value×Value)} {k:Nat} {r:Rg} {p:Value×Value},l[k]? = some r→vs[k]? = some p→aO (List.zipWith (fun r (p:Value×Value)=>dN r p.1 p.2) l vs).flatten (k*7) 7=dN r p.1 p.2
 | [],_,_,_,_,h,_=>by simp at h
 | _::_,[],_,_,_,_,h=>by simp at h
 | r::l,p::vs,0,_,_,h1,h2=>by
  simp at h1 h2;subst h1;subst h2;simp [aO,dN]
 | r::l,p::vs,k+1,_,_,h1,h2=>by
  have:=JX (l:=l) (vs:=vs) (k:=k) (by simpa using h1) (by simpa using h2);rw [← this];unfold aO;rw [List.zipWith_cons_cons,List.flatten_cons,List.drop_append,List.drop_eq_nil_of_le (by show 7≤_;omega),List.nil_append,show (dN r p.1 p.2).length=7 from rfl,show (k+1)*7 - 7=k*7 by omega]
theorem aaa {l:List Value} {d:Nat} {a b:Value} (h:aO l d 2=[a,b]):l[d]? = some a∧l[d+1]? = some b:=by
 have h0:=congrArg (fun l=>l[0]?) h;have h1:=congrArg (fun l=>l[1]?) h;unfold aO at h0 h1;simp only [List.getElem?_take,List.getElem?_drop] at h0 h1;exact ⟨by simpa using h0,by simpa using h1⟩
theorem rC {x:Int} {p:Prop} (h:((x != x) == false)=false):p:=by simp at h
theorem Bo {x:Int} {p:Prop} (h:(x != x)=true):p:=by simp at h
theorem AL (x:Row):iT x x=true:=by simp [iT]
theorem Ca (x:aD):dU x x=true:=by simp [dU]
def JY (p q:Pc):Bool:=p.f == q.f && (p.g == q.g && true)
theorem KJ (x:Pc):JY x x=true:=by simp [JY]
theorem Vm {l:List Pc} {k:Nat} {p:Pc} (h:l[k]? = some p):aO (l.map Pc.cells).flatten (k*2) 2=p.cells:=by
 rw [← List.flatMap_def];exact jy (f:=Pc.cells) (fun _=>rfl) l k p h
theorem QS (a:Rg):qF a a=true:=by
 have h1:qE iT a.rows a.rows=true:=uX fun k x y _ h1 h2=>by rw [h1] at h2;cases h2;exact AL x
 have h2:qE dU a.bz a.bz=true:=uX fun k x y _ h1 h2=>by rw [h1] at h2;cases h2;exact Ca x
 unfold qF;rw [h1,h2];simp
structure StB (s:St):Prop where
 T:s.T.length≤1000000
 M:s.M.length≤1000000
 D:s.D.length≤1000000
 O:s.O.length≤1000000
 I:s.I.length≤1000000
 q:∀ o∈s.O,o.2.length≤1000000∧∀ r∈o.2,r.rows.length≤1000000∧r.bz.length≤1000000
theorem Oz (w:World) {s:St} {T M D T' M' D' I I' v v':Value} (h1:jG w T M D v I s) (h2:jG w T' M' D' v' I' s) (hb:StB s):af Tryz.prog 54 #[v,v'] w (fun x w'=>x=.bool true∧GB none w w'):=by
 obtain ⟨qs,l1,⟨a,c,rfl,z1,z2,z3⟩,q1⟩:=h1.O;obtain ⟨qs',l1',⟨a',c',rfl,z1',z2',z3'⟩,q1'⟩:=h2.O;have hO:=hb.O;refine Ae au Tryz.func54 rfl rfl ?_;refine CS.piece (Q:=fun q w'=>q=[(0,.slice a s.O.length c),(1,.slice a' s.O.length c')]∧w'=w) (CS.of au mixed ⟨_,by exact ⟨rfl,rfl,trivial⟩,rfl,rfl⟩) ?_;rintro q w ⟨rfl,rfl⟩;refine CS.piece (Q:=fun q w'=>q=[(0,.slice a s.O.length c),(1,.slice a' s.O.length c')]∧GB none w w') ?_ ?_;rotate_left
 ·rintro q w' ⟨rfl,g⟩
  refine CS.of au mixed ?_;exact ⟨congrArg Value.bool (by simp),g⟩
 refine CS.piece (Q:=fun q w'=>q=[(0,.slice a s.O.length c),(1,.slice a' s.O.length c'),(5,.int .i64 0)]∧w'=w) (CS.of au mixed ⟨_,by exact ⟨rfl,rfl,rfl,trivial⟩,rfl,rfl⟩) ?_;rintro q w ⟨rfl,rfl⟩;refine CS.block ?_;refine CS.loop (fun m s0 wk=>∃ k:Nat,m=s.O.length - k∧k≤s.O.length∧s0=[(0,.slice a s.O.length c),(1,.slice a' s.O.length c'),(5,.int .i64 k)]∧GB none w wk) ⟨_,_,⟨0,rfl,Nat.zero_le _,rfl,GB.refl _ _⟩,rfl,rfl,rfl,trivial⟩ ?_;rintro m s0 wk ⟨k,rfl,hk,rfl,gk⟩;refine CS.cut (Qn:=fun q w'=>k<s.O.length∧q=[(0,.slice a s.O.length c),(1,.slice a' s.O.length c'),(5,.int .i64 k)]∧w'=wk) (Qx:=fun j q w'=>j=0∧q=[(0,.slice a s.O.length c),(1,.slice a' s.O.length c')]∧w'=wk) (Qr:=fun _ _=>False) (CS.of au mixed ?_) ?_ ?_ (fun _ _ _ h _=>h.elim)
 ·refine aj (fun e=>?_) (fun e=>?_)
  ·have d1:k<s.O.length:=by simp at e;omega
   refine aj (fun e'=>?_) (fun e'=>?_)
   ·exact ⟨_,by exact ⟨rfl,rfl,rfl,trivial⟩,d1,rfl,rfl⟩
   ·have:=of_decide_eq_false e'
    omega
  ·exact ⟨_,by exact ⟨rfl,rfl,trivial⟩,rfl,rfl,rfl⟩
 rotate_left
 ·rintro j q s' w' ⟨rfl,rfl,rfl⟩ hs
  exact ⟨_,hs,rfl,gk⟩
 rintro q wk ⟨d1,rfl,rfl⟩;rcases z3 with ⟨_,h0⟩ | ⟨B,off,cs,rfl,hB,hcut⟩
 ·omega
 rcases z3' with ⟨_,h0⟩ | ⟨B',off',cs',rfl,hB',hcut'⟩
 ·omega
 obtain ⟨o,ho⟩:∃ o,s.O[k]? = some o:=⟨s.O[k],by simp [d1]⟩;obtain ⟨x,hx⟩:∃ x,qs[k]? = some x:=⟨qs[k]'(by rw [l1];exact d1),by simp [l1,d1]⟩;obtain ⟨x',hx'⟩:∃ x,qs'[k]? = some x:=⟨qs'[k]'(by rw [l1'];exact d1),by simp [l1',d1]⟩;have hq:=(q1 k o x ho hx).kz gk.kz;have hq':=(q1' k o x' ho hx').kz gk.kz;obtain ⟨e1,e2⟩:=aaa ((Fz.elem hcut d1).trans (Oy ho hx));obtain ⟨tH,e2'⟩:=aaa ((Fz.elem hcut' d1).trans (Oy ho hx'));have hB:=gk.get hB nofun;have hB':=gk.get hB' nofun;obtain ⟨vs,m1,⟨qa,qc,rfl,y1,y2,y3⟩,m3⟩:=hq;obtain ⟨vs',yX,⟨sH,qj,rfl,y1',y2',y3'⟩,Lp⟩:=hq';obtain ⟨bq,bq2⟩:=hb.q o (List.mem_of_getElem? ho);refine CS.piece (Q:=fun q w'=>q=[(0,.slice (some ⟨B,off,none⟩) s.O.length c),(1,.slice (some ⟨B',off',none⟩) s.O.length c'),(5,.int .i64 k)]∧GB none wk w') ?_ ?_;rotate_left
 ·rintro q w' ⟨rfl,g⟩
  refine CS.of au mixed ?_;exact ⟨⟨by omega,by omega⟩,_,_,⟨k+1,rfl,by omega,rfl,gk.trans g⟩,⟨rfl,rfl,rfl,trivial⟩,by omega⟩
 refine CS.block ?_;refine CS.piece (Q:=fun q w'=>q=[(0,.slice (some ⟨B,off,none⟩) s.O.length c),(1,.slice (some ⟨B',off',none⟩) s.O.length c'),(5,.int .i64 k)]∧w'=wk) (CS.of au mixed ?_) ?_
 ·refine ⟨by kernel_rfl,⟨by omega,by omega⟩,_,_,hB,.int .u32 o.1,by show cs.toList[off+(k:Int).toNat*2]? = _;rw [Int.toNat_natCast];exact e1,⟨by omega,by omega⟩,_,_,hB',.int .u32 o.1,by show cs'.toList[off'+(k:Int).toNat*2]? = _;rw [Int.toNat_natCast];exact tH,?_⟩
  refine aj (fun e=>?_) (fun e=>rC e);refine ⟨⟨by omega,by omega⟩,_,_,hB,.slice qa o.2.length qc,by show cs.toList[off+(k:Int).toNat*2+1]? = _;rw [Int.toNat_natCast];exact e2,⟨by omega,by omega⟩,_,_,hB',.slice sH o.2.length qj,by show cs'.toList[off'+(k:Int).toNat*2+1]? = _;rw [Int.toNat_natCast];exact e2',?_⟩;refine aj (fun e=>Bo e) (fun e=>?_);exact ⟨_,by exact ⟨rfl,rfl,rfl,trivial⟩,rfl,rfl⟩
 rintro q wk ⟨rfl,rfl⟩;refine CS.of au mixed ?_;refine ⟨fun m s0 w5=>∃ j:Nat,m=o.2.length - j∧j≤o.2.length∧s0=[(0,.slice (some ⟨B,off,none⟩) s.O.length c),(1,.slice (some ⟨B',off',none⟩) s.O.length c'),(5,.int .i64 k),(6,.int .i64 j)]∧GB none wk w5,⟨_,_,⟨0,rfl,Nat.zero_le _,rfl,GB.refl _ _⟩,rfl,rfl,rfl,rfl,trivial⟩,?_⟩;rintro m s0 w5 ⟨j,rfl,hj,rfl,g5⟩;have hB5:=g5.get hB nofun;have adM:=g5.get hB' nofun;refine ⟨⟨by omega,by omega⟩,_,_,hB5,.slice qa o.2.length qc,by show cs.toList[off+(k:Int).toNat*2+1]? = _;rw [Int.toNat_natCast];exact e2,aj (fun e=>?_) (fun e=>?_)⟩
 ·have d2:j<o.2.length:=by have:=of_decide_eq_true e;omega
  rcases y3 with ⟨_,h0⟩ | ⟨Q,qo,ql,rfl,hQ,hqc⟩
  ·omega
  rcases y3' with ⟨_,h0⟩ | ⟨Q',qo',ql',rfl,hQ',adN⟩
  ·omega
  obtain ⟨r,hr⟩:∃ r,o.2[j]? = some r:=⟨o.2[j],by simp [d2]⟩;obtain ⟨p,hp⟩:∃ p,vs[j]? = some p:=⟨vs[j]'(by rw [m1];exact d2),by simp [m1,d2]⟩;obtain ⟨p',hp'⟩:∃ p,vs'[j]? = some p:=⟨vs'[j]'(by rw [yX];exact d2),by simp [yX,d2]⟩;obtain ⟨b1,b2⟩:=bq2 r (List.mem_of_getElem? hr);have Uq:=Mr w5 ((m3 j r p hr hp).kz g5.kz) ((Lp j r p' hr hp').kz g5.kz) ⟨b1,b2⟩;rw [QS] at Uq;refine ⟨by kernel_rfl,⟨by omega,by omega⟩,_,_,hB5,.slice (some ⟨Q,qo,none⟩) o.2.length qc,by show cs.toList[off+(k:Int).toNat*2+1]? = _;rw [Int.toNat_natCast];exact e2,⟨by omega,by omega⟩,_,_,g5.get hQ nofun,dN r p.1 p.2,by show aO ql.toList (qo+(j:Int).toNat*7) 7=_;rw [Int.toNat_natCast];exact (Fz.elem hqc d2).trans (JX hr hp),rfl,⟨by omega,by omega⟩,_,_,adM,.slice (some ⟨Q',qo',none⟩) o.2.length qj,by show cs'.toList[off'+(k:Int).toNat*2+1]? = _;rw [Int.toNat_natCast];exact e2',⟨by omega,by omega⟩,_,_,g5.get hQ' nofun,dN r p'.1 p'.2,by show aO ql'.toList (qo'+(j:Int).toNat*7) 7=_;rw [Int.toNat_natCast];exact (Fz.elem adN d2).trans (JX hr hp'),rfl,_,Uq,?_⟩;rintro _ w6 ⟨rfl,g6⟩;exact ⟨⟨by omega,by omega⟩,_,_,⟨j+1,rfl,by omega,rfl,g5.trans g6⟩,⟨rfl,rfl,rfl,rfl,trivial⟩,by omega⟩
 ·exact ⟨_,by exact ⟨rfl,rfl,rfl,trivial⟩,rfl,g5⟩
end
end Go.Proofs.YtignemioillaiabGreat
