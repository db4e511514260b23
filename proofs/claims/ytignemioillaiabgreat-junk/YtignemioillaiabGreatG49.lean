/- Does a cluster answer? -/
import Derived.Test.YtignemioillaiabGreatG48
import Derived.Conc.Holds
namespace Go.Proofs.YtignemioillaiabGreat
set_option maxHeartbeats 8000000
set_option linter.unusedSectionVars false
set_option maxRecDepth 100000
section
open Go Go.Conc
def Sit.rounds (A:aT):Nat->Sit->Sit
 | 0,S=>S
 | n+1,S=>(S.rounds A n).round A
def ES:bN:=⟨2,9,1,5,0,0,0⟩
def ET:az:=⟨2,9,5,1,false,0,0⟩
def EU (A:aT) (sz:Nat):Sit:=((((Sit.new A 1 sz).rounds A 15).sends A ES 0 0).round A).round A
def Q3 (A:aT) (sz:Nat):Bool:=(ni A (EU A sz).C.q).2 && (!(EU A sz).bad && (ni A (EU A sz).C.q).1.any λ x=>eB x.1 ET)
structure EW (A:aT):Prop where
 gc:A.gc (gI ES)
 live:∀ f,f<=2->Q3 A (2*f+1)=true
 room:∀ f,f<=2->((Sit.new A 1 (2*f+1)).rounds A 15).C.q.length<20000
theorem bY.snap {w w':World} {bs:Nat} {S:Sit} (h:bY (dK w) bs S w'):GB none w w':=by
 obtain ⟨_,_,_,_,_,_,h⟩:=h;have kp:∀ x,x<w.heap.size->w'.heap[x]? = w.heap[x]?:=λ x hx=>by
  obtain ⟨o,ho⟩:∃ o,w.heap[x]? = some o:=⟨w.heap[x],by simp [hx]⟩;exact (h.pr x o ho).1.trans ho.symm
 refine ⟨h.os,h.out,?_,λ x hx _=>kp x hx⟩;by_cases h0:w.heap.size=0
 ·omega
 ·have h1:=kp (w.heap.size - 1) (by omega)
  obtain ⟨o,ho⟩:∃ o,w.heap[w.heap.size - 1]? = some o:=⟨w.heap[w.heap.size - 1]'(by omega),by simp [show w.heap.size - 1<w.heap.size by omega]⟩;rw [ho] at h1;have:=ag h1;omega
theorem aa6 {l:List (az×Nat)} {k:Nat} {x:az×Nat} (h:l[k]? = some x) {cur:List Value} (ht:cur.take (l.length*8)=(l.map EO).flatten):aQ cur (k*8) 7=x.1.cells:=by
 have h1:=jW (f:=EO) (size:=8) (λ _=>rfl) l k x h;have hk:k<l.length:=(List.getElem?_eq_some_iff.1 h).1;have h2:aQ cur (k*8) 8=EO x:=by
  rw [<- h1,List.flatMap_def,<- ht];unfold aQ;rw [List.drop_take,List.take_take,Nat.min_eq_left (by omega)]
 have h3:aQ cur (k*8) 7=(aQ cur (k*8) 8).take 7:=by unfold aQ;rw [List.take_take];rfl
 rw [h3,h2];rfl
section
variable {A:aT} (HA:bK A) (HN:gJ A)
include HA HN
theorem Sit.aK.new {n sz:Nat} (hn:1<=n/\n<=4) (hN:n=A.N) (hz:1<=sz/\sz<=5):(Sit.new A n sz).aK A:=⟨aL.aK.new HA HN hn.2 hN hz.2,hn.1,hz.1,by simp [Sit.new,aL.new],by simp [Sit.new,aL.new],by simp [Sit.new,aL.new],by simp [Sit.new]⟩
theorem Sit.aK.rounds {S:Sit} (h:S.aK A):∀ n,(S.rounds A n).aK A
 | 0=>h
 | n+1=>(Sit.aK.rounds h n).round HA HN
variable (HL:rO A) (HV:EW A)
theorem Sit.VA (S:Sit):∀ n,(S.all A n).C.n=S.C.n/\(S.all A n).C.sz=S.C.sz:=by
 intro n;induction n generalizing S with
 | zero=>exact ⟨rfl,rfl⟩
 | succ n ih =>
  unfold Sit.all;split
  ·exact ⟨(ih (S.one A)).1.trans (aL.jr A S.C _).1,(ih (S.one A)).2.trans (aL.jr A S.C _).2⟩
  ·exact ⟨rfl,rfl⟩
theorem Sit.MS (S:Sit):(S.round A).C.n=S.C.n/\(S.round A).C.sz=S.C.sz:=⟨(Sit.VA HA HN _ _).1.trans (Sit.xJ S _).1,(Sit.VA HA HN _ _).2.trans (Sit.xJ S _).2⟩
theorem Sit.Dm (S:Sit):∀ n,(S.rounds A n).C.n=S.C.n/\(S.rounds A n).C.sz=S.C.sz
 | 0=>⟨rfl,rfl⟩
 | n+1=>⟨(Sit.MS HA HN _).1.trans (Sit.Dm S n).1,(Sit.MS HA HN _).2.trans (Sit.Dm S n).2⟩
include HL HV
theorem Xl (hN:A.N=1) (w:World) (f:Nat) (hf:f<=2):fZ Tryz.prog 51 #[.int .i64 (2*f+1:Nat)] w (λ v w'=>v=.bool true/\GB none w w'):=by
 have hlive:=HV.live f hf;have O4:(Sit.new A 1 (2*f+1)).aK A:=Sit.aK.new HA HN ⟨by decide,by decide⟩ hN.symm ⟨by omega,by omega⟩;refine Ew ah Tryz.func51 rfl rfl ?_;refine aJ.piece (Q:=λ q w'=>q=[(0,.int .i64 (2*f+1:Nat))]/\w'=w) (aJ.of ah mixed ⟨_,by exact ⟨rfl,trivial⟩,rfl,rfl⟩) ?_;rintro q w ⟨rfl,rfl⟩;refine aJ.piece (Q:=λ q w1=>∃ bs,q=[(3,Ptt bs),(4,.bool true)]/\bY (dK w) bs (Sit.new A 1 (2*f+1)) w1) (aJ.of ah mixed ?_) ?_
 ·refine ⟨_,(QV HA w 1 f ⟨by decide,by decide⟩ hf).x,?_⟩
  rintro _ w1 ⟨bs,rfl,_,h1,k1⟩;exact ⟨_,by exact ⟨rfl,rfl,trivial⟩,bs,rfl,h1⟩
 rintro q w1 ⟨bs,rfl,h1⟩;obtain ⟨N0,hN0⟩:∃ S,S=Sit.new A 1 (2*f+1):=⟨_,rfl⟩;have hsz0:N0.C.n=1/\N0.C.sz=2*f+1:=by rw [hN0];exact ⟨rfl,rfl⟩
 have hroom:=HV.room f hf;have hlv:EU A (2*f+1)=(((N0.rounds A 15).sends A ES 0 0).round A).round A:=by rw [hN0];rfl
 rw [<- hN0] at h1 O4 hroom;refine aJ.piece (Q:=λ q w2=>q=[(3,Ptt bs),(4,.bool true)]/\bY (dK w) bs (N0.rounds A 15) w2) ?_ ?_
 ·refine aJ.piece (Q:=λ q w'=>q=[(3,Ptt bs),(4,.bool true),(5,.int .i64 0)]/\w'=w1) (aJ.of ah mixed ⟨_,by exact ⟨rfl,rfl,rfl,trivial⟩,rfl,rfl⟩) ?_
  rintro q w1 ⟨rfl,rfl⟩;refine aJ.block ?_;refine aJ.loop (λ m s wk=>∃ i:Nat,m=15 - i/\i<=15/\s=[(3,Ptt bs),(4,.bool true),(5,.int .i64 i)]/\bY (dK w) bs (N0.rounds A i) wk) ⟨_,_,⟨0,rfl,Nat.zero_le _,rfl,h1⟩,rfl,rfl,rfl,trivial⟩ ?_;rintro m s wk ⟨i,rfl,hi,rfl,hS⟩;refine aJ.cut (Qn:=λ q w'=>i<15/\q=[(3,Ptt bs),(4,.bool true),(5,.int .i64 i)]/\w'=wk) (Qx:=λ j q w'=>j=0/\i=15/\q=[(3,Ptt bs),(4,.bool true)]/\w'=wk) (Qr:=λ _ _=>False) (aJ.of ah mixed ?_) ?_ ?_ (λ _ _ _ h _=>h.elim)
  ·refine au (λ c=>?_) (λ c=>?_)
   ·exact ⟨_,by exact ⟨rfl,rfl,rfl,trivial⟩,by simp at c;omega,rfl,rfl⟩
   ·exact ⟨_,by exact ⟨rfl,rfl,trivial⟩,rfl,by simp at c;omega,rfl,rfl⟩
  rotate_left
  ·rintro j q s w' ⟨rfl,e,rfl,rfl⟩ hs
   exact ⟨_,hs,rfl,by rw [<- e];exact hS⟩
  rintro q wk ⟨c1,rfl,rfl⟩;have MK:=Sit.aK.rounds HA HN O4 i;refine aJ.piece (Q:=λ q w'=>q=[(3,Ptt bs),(4,.bool true),(5,.int .i64 i)]/\bY (dK w) bs (N0.rounds A (i+1)) w') ?_ ?_
  ·refine aJ.block (aJ.of ah mixed ?_)
   refine ⟨_,FO HA HN hS MK.cl MK.sz,?_⟩;rintro _ w2 ⟨rfl,h2,k2⟩;exact ⟨_,by exact ⟨rfl,rfl,rfl,trivial⟩,rfl,h2⟩
  ·rintro q w' ⟨rfl,h'⟩
   refine aJ.of ah mixed ?_;exact ⟨⟨by omega,by omega⟩,_,_,⟨i+1,rfl,by omega,rfl,h'⟩,⟨rfl,rfl,rfl,trivial⟩,by omega⟩
 rintro q w2 ⟨rfl,h2⟩;have OL:=Sit.aK.rounds HA HN O4 15;obtain ⟨r1,r2⟩:=Sit.Dm HA HN N0 15;have hg0:0<(N0.rounds A 15).C.n:=by rw [r1,hsz0.1];decide
 have hi0:0<(N0.rounds A 15).C.sz:=by rw [r2,hsz0.2];omega
 have PO:=Sit.aK.sends HA HN HL OL HV.gc hg0 hi0 hroom;have Z8:=PO.round HA HN;generalize N0.rounds A 15=S15 at *;refine aJ.piece (Q:=λ q w'=>q=[(3,Ptt bs)]/\w'=w2) (aJ.of ah mixed ⟨_,by exact ⟨rfl,trivial⟩,rfl,rfl⟩) ?_;rintro q w2 ⟨rfl,rfl⟩;refine aJ.piece (Q:=λ q w3=>q=[(3,Ptt bs)]/\bY (dK w) bs (S15.sends A ES 0 0) w3) (aJ.of ah mixed ?_) ?_
 ·have hak:=OL.ak
  have hlen:=OL.cl.len;refine ⟨_,(MJ HL h2 OL.cl HV.gc hg0 hi0 (by omega)).x,?_⟩;rintro _ w3 ⟨rfl,h3,k3⟩;exact ⟨_,by exact ⟨rfl,trivial⟩,rfl,h3⟩
 rintro q w3 ⟨rfl,h3⟩;refine aJ.piece (Q:=λ q w4=>q=[(3,Ptt bs),(6,.bool true)]/\bY (dK w) bs ((S15.sends A ES 0 0).round A) w4) (aJ.of ah mixed ?_) ?_
 ·refine ⟨_,FO HA HN h3 PO.cl PO.sz,?_⟩
  rintro _ w4 ⟨rfl,h4,k4⟩;exact ⟨_,by exact ⟨rfl,rfl,trivial⟩,rfl,h4⟩
 rintro q w4 ⟨rfl,h4⟩;obtain ⟨L,hL⟩:∃ L,L=EU A (2*f+1):=⟨_,rfl⟩;rw [hlv] at hL;refine aJ.piece (Q:=λ q w5=>q=[(3,Ptt bs),(6,.bool true),(7,.bool true)]/\bY (dK w) bs L w5) (aJ.of ah mixed ?_) ?_
 ·refine ⟨_,FO HA HN h4 Z8.cl Z8.sz,?_⟩
  rintro _ w5 ⟨rfl,h5,k5⟩;exact ⟨_,by exact ⟨rfl,rfl,rfl,trivial⟩,rfl,by rw [hL];exact h5⟩
 rintro q w5 ⟨rfl,h5⟩;have hFL:L.aK A:=by rw [hL];exact Z8.round HA HN
 have hal:((ni A L.C.q).2 && (!L.bad && (ni A L.C.q).1.any λ x=>eB x.1 ET))=true:=by
  have:=hlive;unfold Q3 at this;rw [hlv,<- hL] at this;exact this
 rw [Bool.and_eq_true,Bool.and_eq_true] at hal;obtain ⟨a1,a2,a3⟩:=hal;have a2:L.bad=false:=by simpa using a2
 have htl:=Xk HA h5 hFL.cl;generalize ni A L.C.q=TL at htl a1 a3;obtain ⟨tl,ok⟩:=TL;have a1:ok=true:=a1;subst a1;have a3:tl.any (λ x=>eB x.1 ET)=true:=a3;refine aJ.piece (Q:=λ q w6=>∃ lv,q=[(3,Ptt bs),(6,.bool true),(7,.bool true),(8,lv),(9,.bool true)]/\w6.ownsRow 0 72 8 lv tl.length (tl.map EO).flatten/\bY (dK w) bs L w6) (aJ.of ah mixed ?_) ?_
 ·refine ⟨_,htl.x,?_⟩
  rintro _ w6 ⟨⟨lv,rfl,ho⟩,g6⟩;exact ⟨_,by exact ⟨rfl,rfl,rfl,rfl,rfl,trivial⟩,lv,rfl,ho,h5.ax g6⟩
 rintro q w6 ⟨lv,rfl,ho,h6⟩;obtain ⟨la,lc,rfl⟩:=ae ho;have JD:tl.length<=9223372036854775807:=by
  rcases ho.2 with ⟨_,h0⟩ | ⟨g,cap,cur,e,h0,h2,h3,h4,_⟩
  ·omega
  ·unfold Go.maxLen at h4;omega
 have G6:=h6.snap;refine aJ.cut (Qn:=λ _ _=>False) (Qx:=λ _ _ _=>False) (Qr:=λ q w'=>q=[(2,.bool true)]/\GB none w w') ?_ (λ _ _ h=>h.elim) (λ _ _ _ _ h _=>h.elim) ?_;rotate_left
 ·rintro q s w' ⟨rfl,g'⟩ hs
  exact qY hs ⟨rfl,g'⟩
 refine aJ.piece (Q:=λ q w'=>q=[(3,Ptt bs),(6,.bool true),(7,.bool true),(8,.slice la tl.length lc),(9,.bool true),(10,.int .i64 0)]/\w'=w6) (aJ.of ah mixed ⟨_,by exact ⟨rfl,rfl,rfl,rfl,rfl,rfl,trivial⟩,rfl,rfl⟩) ?_;rintro q w6 ⟨rfl,rfl⟩;refine aJ.block ?_;refine aJ.loop (λ m s wk=>∃ k:Nat,m=tl.length - k/\k<=tl.length/\s=[(3,Ptt bs),(6,.bool true),(7,.bool true),(8,.slice la tl.length lc),(9,.bool true),(10,.int .i64 k)]/\wk=w6/\∀ (j:Nat) (x:az×Nat),j<k->tl[j]? = some x->eB x.1 ET=false) ⟨_,_,⟨0,rfl,Nat.zero_le _,rfl,rfl,λ j x h=>by omega⟩,rfl,rfl,rfl,rfl,rfl,rfl,trivial⟩ ?_;rintro m s w6 ⟨k,rfl,hk,rfl,rfl,hno⟩;refine aJ.cut (Qn:=λ q w'=>k<tl.length/\q=[(3,Ptt bs),(6,.bool true),(7,.bool true),(8,.slice la tl.length lc),(9,.bool true),(10,.int .i64 k)]/\w'=w6) (Qx:=λ _ _ _=>False) (Qr:=λ _ _=>False) (aJ.of ah mixed ?_) ?_ (λ _ _ _ _ h _=>h.elim) (λ _ _ _ h _=>h.elim)
 ·refine au (λ c=>?_) (λ c=>?_)
  ·exact ⟨_,by exact ⟨rfl,rfl,rfl,rfl,rfl,rfl,trivial⟩,by have:=of_decide_eq_true c;omega,rfl,rfl⟩
  ·exfalso
   have c1:k=tl.length:=by have:=of_decide_eq_false c;omega
   obtain ⟨x,hx,hp⟩:=List.any_eq_true.1 a3;obtain ⟨j,hj⟩:=List.mem_iff_getElem?.1 hx;have:=hno j x (by have:=(List.getElem?_eq_some_iff.1 hj).1;omega) hj;rw [this] at hp;cases hp
 rintro q w6 ⟨c1,rfl,rfl⟩;obtain ⟨x,hx⟩:∃ x,tl[k]? = some x:=⟨tl[k],by simp [c1]⟩;obtain ⟨gb,cap,cur,ev,aR,htk,hsz,hcap⟩:=jD ho (by omega);injection ev with ev _ Qy;subst ev;subst Qy;have hel:=aa6 hx htk;refine aJ.cut (Qn:=λ q w'=>eB x.1 ET=false/\q=[(3,Ptt bs),(6,.bool true),(7,.bool true),(8,.slice (some ⟨gb,0,none⟩) tl.length lc),(9,.bool true),(10,.int .i64 k)]/\w'=w6) (Qx:=λ _ _ _=>False) (Qr:=λ q w'=>q=[(2,.bool true)]/\w'=w6) ?_ ?_ (λ _ _ _ _ h _=>h.elim) ?_
 ·refine aJ.block (aJ.of ah mixed ?_)
  obtain ⟨_,_,_,_,_,_,h6⟩:=h6;refine ⟨_,_,h6.si.mem,.bool false,by show (gp _ _ _)[8]? = _;unfold gp;rw [a2];rfl,⟨by omega,by omega⟩,_,_,aR,x.1.cells,by show aQ cur.toList (0+(k:Int).toNat*8) 7=_;rw [Nat.zero_add,Int.toNat_natCast];exact hel,rfl,?_⟩;refine au (λ d=>?_) (λ d=>?_)
  ·exact ⟨_,by exact ⟨rfl,trivial⟩,rfl,rfl⟩
  ·exact ⟨_,by exact ⟨rfl,rfl,rfl,rfl,rfl,rfl,trivial⟩,d,rfl,rfl⟩
 ·rintro q w6 ⟨e,rfl,rfl⟩
  refine aJ.of ah mixed ?_;refine ⟨⟨by omega,by omega⟩,_,_,⟨k+1,rfl,by omega,rfl,rfl,λ j y hj hy=>?_⟩,⟨rfl,rfl,rfl,rfl,rfl,rfl,trivial⟩,by omega⟩;by_cases ej:j=k
  ·subst ej;rw [hx] at hy;cases hy;exact e
  ·exact hno j y (by omega) hy
 ·rintro q s w6 ⟨rfl,rfl⟩ hs
  exact ⟨_,hs,rfl,G6⟩
theorem Un {B:aT} (HB:bK B) (hN:A.N=1) (w:World) (g f:Int) (hg:qH g) (hf:qH f):fZ Tryz.prog 25 #[.int .i64 g,.int .i64 f] w (λ v w'=>∃ bs,v=.tuple #[Ptt bs,.bool true]/\bY (dK w) bs (Sit.new B (1+bf g 4) (1+2*bf f 3)) w'/\Kz w w'):=by
 have lf:=je f (show 0<3 by decide);have lg:=je g (show 0<4 by decide);refine rH ah mixed Tryz.func25 rfl rfl ?_;refine ⟨_,(iW w f 3 (by decide) hf.1 hf.2).x,?_⟩;rintro _ w ⟨rfl,rfl⟩;refine ⟨⟨by omega,by omega⟩,⟨by omega,by omega⟩,_,(iW w g 4 (by decide) hg.1 hg.2).x,?_⟩;rintro _ w ⟨rfl,rfl⟩;have hm:=QV HB w (1+bf g 4) (bf f 3) ⟨by omega,by omega⟩ (by omega);have e1:((1+bf g 4:Nat):Int)=1+((bf g 4:Nat):Int):=by omega
 have e2:((2*bf f 3+1:Nat):Int)=1+2*((bf f 3:Nat):Int):=by omega
 rw [e1,e2] at hm;refine ⟨⟨by omega,by omega⟩,_,hm.x,?_⟩;rintro _ w1 ⟨bs,rfl,_,h1,k1⟩;have ha:=Xl HA HN HL HV hN w1 (bf f 3) (by omega);rw [e2] at ha;refine ⟨_,ha,?_⟩;rintro _ w2 ⟨rfl,g2⟩;rw [show 2*bf f 3+1=1+2*bf f 3 by omega] at h1;exact ⟨bs,rfl,h1.ax g2,k1.trans g2.kz⟩
end
structure Pl where
 bc:Nat
 a:zk
 (gv sv:Value)
 B:Nat->Nat->Nat
 ad:Nat->Nat->fH
open Classical in
section
variable {Λ Λ':bU} {w w':World} {bs bt:Nat} {S S' T:Sit} {p p' r:Pl}
end
section
variable {Λ:bU} {w w':World} {bs bt bu:Nat} {S S' T U:Sit}
end
section
variable {P:Program} [jU P] (E:kM P) (n:Nat) (ops:Array Oper) (K:Sg->World->Prop)
end
section
variable {P:Program} [jU P] {main:Bool} {D:World->World->Array Event->Prop} {X:Goroutine->World->Prop} {b:Frame} {k:List Item} {cs:List Frame} {ops:Array Oper} {E:kM P} {n:Nat} {K:Sg->World->Prop}
end
theorem G9 (a:Rg):nS a a=true:=by
 have h1:lu jv a.rows a.rows=true:=uZ λ k x y _ h1 h2=>by rw [h1] at h2;cases h2;simp [jv]
 have h2:lu eB a.aY a.aY=true:=uZ λ k x y _ h1 h2=>by rw [h1] at h2;cases h2;simp [eB]
 unfold nS;rw [h1,h2];simp

def Ke (P:Program) (Post:Value->World->Prop) (m:Machine) (t:Trace):Prop:=∃ N last o w' t',runNT P (N+1) m t=(.ended o w',t')/\runN P N m=.next last/\Go.step P last=.ended o w'/\Go.Conc.Good P Post last o w' t'
theorem Xm {P:Program} {i k:Nat} {m m' last:Machine} {t t':Trace} (h:runNT P i m t=(.next m',t')) (h2:runN P k m'=.next last):runN P (i+k) m=.next last:=by
 rw [<- runNT_fst _ _ _ t,tV i k h,runNT_fst,h2]
theorem Xn {P:Program} {Post:Value->World->Prop} {m:Machine} {t:Trace} (h:Reaches P (Ke P Post) m t):Ke P Post m t:=by
 obtain ⟨i,m',t',h1,N,last,o,w',t2,h2,h3,h4,h5⟩:=h;exact ⟨i+N,last,o,w',t2,(tV i (N+1) h1).trans h2,Xm h1 h3,h4,h5⟩
theorem Xo {P:Program} {Post:Value->World->Prop} {g:Goroutine} {w:World} (hr:g.status=.running) {v:Value} (hs:∀ w,stepG P true g w=.ended (.done v) w #[]) (hp:∀ w₁,cu w w₁->Post v w₁):XR P (Ke P Post) g w:=by
 intro w₁ h1 gs sl t q h0 hL hP;obtain ⟨B,hP⟩:=hP;refine Reaches.here (beside_ends (n:=0) (D:=λ _ _ _=>False) (λ _ _ _ h=>h.elim) h0 hL.leavers hP (Goes.stop λ w₂ h2=>⟨hr,v,#[],hs w₂,by simp,hp w₂ (jm _ _ _ h1 (xQ h2))⟩))
theorem Uo {P:Program} {Post:Value->World->Prop} {g:Goroutine} {w:World} (h:XR P (Ke P Post) g w):Ke P Post (crowd #[g] w none) #[] :=
 Xn (h w (xP w) #[g] none #[] (λ _=>0) rfl ⟨λ i x hi hx=>absurd ((Array.getElem?_eq_some_iff.1 hx).1) (by simp;omega),λ _ _=>rfl⟩ ⟨0,past_nil⟩)
theorem Q4 {P:Program} {fr:Frame} {w:World} {v:Value} {t:Tmp} {fn:Func} (hfn:P.funcs[fr.fn]? = some fn) (hin:P.inits.idxOf? fr.fn=none) (hres:fn.results = #[.tmp t]) (hl:fr.leaving P w (.returned v)) (w₁:World):stepG P true (G fr []) w₁=.ended (.done v) w₁ #[]:=by
 obtain ⟨hm,hd,hk,fn',hfn',hr⟩:=hl;obtain rfl:fn'=fn:=Option.some.inj (hfn'.symm.trans hfn);generalize hu:fr.tmps.getD t undef=u;have e:results fn' fr.tmps=(pure u:Sem Value):=by rw [<- hu];simp [results,hres]
 rw [e] at hr;have hr2:(Result.ok u w:Result Value)=.ok v w:=hr;injection hr2 with hv _;subst hv;have e2:Sem.runT P (pure u:Sem Value) w₁ #[]=(.ok u w₁,#[]):=rfl;simp only [G,stepG,unwind,doReturn,hm,hd,hk,hfn,e,e2,hin,seen_none];rfl
noncomputable def Uq (z:Nat×Nat):kM Tryz.prog:={ ah with Gi:=λ _=>z }
def MU (w:World) (size:Nat) (v:Value) (n:Nat) (xs:List Value):Prop:=∃ a c,v=.slice a n c/\n<=c/\xs.length=n*size/\(n=0\/∃ b off cs ty z,a=some ⟨b,off,none⟩/\w.heap[b]? = some (.cells cs ty z)/\aQ cs.toList off (n*size)=xs)
theorem Xp {l:List Stp} {k:Nat} {t:Stp} (h:l[k]? = some t):aQ (l.map Stp.cells).flatten (k*11) 11=t.cells:=by
 rw [<- List.flatMap_def];exact jW (f:=Stp.cells) (λ _=>rfl) l k t h
def qP (N:Nat):aT:=⟨N,sV,sU,JB,oV,dO N,lQ N⟩
section
variable {N k:Nat} {s:St} {c:MC}
theorem Xq {m:List Pc} (h:kU m=true):m.length<=1000:=by
 unfold kU at h;simp only [Bool.and_eq_true,decide_eq_true_eq] at h;exact h.1.1.2
theorem dO.b2 (h:dO N k s):Di s:=by
 have:=h.AU;exact ⟨by have:=h.t;omega,by have:=h.d;omega,λ o ho=>by
  obtain ⟨a,b,c,_⟩:=h.o o ho;exact ⟨by omega,by omega,by omega⟩⟩
theorem dO.ss (h:dO N k s):Zc s:=by
 have:=h.AU;have:=h.ok.ol;have:=h.ok.il;have:=h.ok.n4;exact ⟨by have:=h.t;omega,by have:=h.d;omega,Xq h.ok.Ci,by omega,by omega,λ o ho=>by
  obtain ⟨a,b,c,d⟩:=h.o o ho;exact ⟨by omega,λ r hr=>⟨by have:=(d r hr).2.rl;omega,by have:=(d r hr).2.dl;omega⟩⟩⟩
theorem VB (h:dO N k s) (hc:lQ N c):U8 (sU s c).2.c:=by
 have z8:U8 0:=⟨Int.le_refl 0,by decide⟩;have hd:U8 (kK s c.q).c:=(Vq h.tb hc.q).c;unfold sU;split
 ·unfold yH
  split
  ·exact z8
  split
  ·exact hc.q.c
  split
  ·split
   ·rename_i x hx
    split
    ·exact hd
    ·split
     ·exact (h.db x (List.mem_of_getElem? hx)).c
     ·exact hc.q.c
   ·exact z8
  ·exact hd
 ·split
  ·exact z8
  ·split <;> exact z8
theorem aaa (s:St) (q:bN):(sJ s q).n=s.n/\(sJ s q).g=s.g:=by
 unfold sJ;split
 ·exact ⟨rfl,rfl⟩
 split
 ·exact ⟨rfl,rfl⟩
 split <;> exact ⟨rfl,rfl⟩
theorem aa7 (s:St) (c:MC):(sU s c).1.n=s.n/\(sU s c).1.g=s.g:=by
 unfold sU;split
 ·unfold yH
  split
  ·exact ⟨rfl,rfl⟩
  split
  ·exact ⟨rfl,rfl⟩
  split
  ·split
   ·split
    ·exact aaa _ _
    ·split <;> exact ⟨rfl,rfl⟩
   ·exact ⟨rfl,rfl⟩
  ·exact aaa _ _
 split
 ·unfold Db
  split <;> exact ⟨rfl,rfl⟩
 split
 ·unfold De
  split <;> exact ⟨rfl,rfl⟩
 ·exact ⟨rfl,rfl⟩
theorem AZ:U8 0:=⟨Int.le_refl 0,by decide⟩
theorem Kg:qJ 0:=⟨Int.le_refl 0,by decide⟩
theorem yS:iA 0:=⟨Int.le_refl 0,by decide⟩
theorem OM:qg.b:=⟨AZ,Kg,AZ,yS,yS,yS,AZ⟩
theorem OO:pG.b:=⟨AZ,AZ,Kg,yS,yS,nofun,nofun,Nat.zero_le _,Nat.zero_le _⟩
theorem lQ.zero (N:Nat):lQ N nW:=⟨AZ,OM,OO,AZ,Kg,nofun,nofun⟩
theorem lQ.recv {r:Rg} (h:r.b) (hs:r.src<N):lQ N (oI r):=⟨⟨by show (0:Int)<=2;decide,by show (2:Int)<256;decide⟩,OM,h,AZ,Kg,λ _=>hs,λ e=>absurd (show (2:Int)=1 from e) (by decide)⟩
theorem lQ.adx {p q:Int} (hp:U8 p) (hq:qJ q):lQ N (sS p q):=⟨⟨by show (0:Int)<=3;decide,by show (3:Int)<256;decide⟩,OM,OO,hp,hq,λ e=>absurd (show (3:Int)=2 from e) (by decide),λ e=>absurd (show (3:Int)=1 from e) (by decide)⟩
theorem lQ.asks {q:bN} (h:q.b) (ho:kI q=true):lQ N (gI q):=⟨⟨by show (0:Int)<=1;decide,by show (1:Int)<256;decide⟩,h,OO,AZ,Kg,λ e=>absurd (show (1:Int)=2 from e) (by decide),λ _=>ho⟩
end
theorem Xr {g N:Nat} (hg:g<N) (hN:N<=4):dO N 0 (JB g N):=by
 refine ⟨by decide,⟨by show (0:Int)<=g;omega,by show (g:Int)<N;omega,by show (N:Int)<=4;omega,List.Pairwise.nil,List.Pairwise.nil,(by decide:kU [⟨0,0⟩]=true),⟨rfl,by decide,by decide,trivial⟩,by show ((List.replicate N _).length:Int)=_;rw [List.length_replicate];rfl,by show ((List.replicate N _).length:Int)=_;rw [List.length_replicate];rfl⟩,rfl,Nat.le_refl 0,nofun,Nat.le_refl 0,nofun,λ o ho=>?_,λ x hx=>?_⟩
 ·rw [(List.mem_replicate.1 ho).2]
  exact ⟨by decide,by decide,by decide,nofun⟩
 ·rw [(List.mem_replicate.1 hx).2]
  exact ⟨by decide,by decide⟩
theorem Q7 (N:Nat):bK (qP N) where
 mD:=λ w v m h=>af.mono' (yO h) λ v' w' ⟨e,g⟩=>⟨⟨_,e⟩,g⟩
 call:=λ w s c vT vM vD vO vI cv h hg hc hcc=>by
  have hg:dO N _ s:=hg;have hcc:lQ N c:=hcc;have:=hg.AU;have hq:=hcc.q;have hr:=hcc.r;exact TY h hg.ok hg.b2 hg.ss (λ x hx=>by have:=hg.i x hx;omega) hc ⟨⟨hq.key.1,by have:=hq.key.2;omega⟩,⟨hq.hi.1,by have:=hq.hi.2;omega⟩,hq.to.1⟩ ⟨hr.src.1,hr.lo.1,by have:=hr.hi.2;omega⟩ hcc.peer.1
 NS:=λ s c hk h hc=>dO.app h hk hc
 rep:=λ s c h hc=>(VB h hc).1
 src:=λ s c h hc h2=>by
  have h:dO N _ s:=h;have hc:lQ N c:=hc;have h3:=hc.src h2;have h4:=hc.r.src.1;have h5:=h.ok.il;have h6:=h.n;exact ⟨h4,by omega⟩
 LJ:=lQ.zero N
 parse:=Ud
 beg:=λ w g n hg hn=>TZ w hg hn
 NT:=λ g n e hg hn=>by
  have e:n=N:=e;subst e;exact Xr hg hn
 dl:=λ s h=>by
  have h:dO N _ s:=h;have:=h.AU;have:=h.d;omega
 ol:=λ s h=>by
  have h:dO N _ s:=h;have:=h.ok.ol;have:=h.ok.n4;omega
 LK:=λ s h i x hx=>by
  have h:dO N _ s:=h;exact (h.i x (List.mem_of_getElem? hx)).1
theorem Q8 (l:List Int):(uG l).size=l.length:=by
 rw [<- Qo,FL];simp [dn]
theorem Q9 {q:bN} (h:kI q=true):eT (nE q)=true:=by
 unfold eT;rw [if_pos (show (nE q).kind=1 from rfl),Bool.and_eq_true];exact ⟨h,by rfl⟩
theorem Rb (N:Nat):rO (qP N) where
 mask:=λ w q h=>by
  have h:lQ N (gI q):=h;have e:eT (nE q)=true:=Q9 (h.ask rfl);have:=yO (w:=w) (m:=nE q) ⟨_,_,_,_,_,rfl,aM.zero w,bV.zero w,aM.zero w⟩;rw [if_pos e] at this;exact this
 small:=λ q h=>by
  show (sV _).size<=_;unfold sV;split
  ·rw [Q8]
   have:=Jl q;show ([(1:Int)]++uR q).length<=1000;simp only [List.length_append,List.length_singleton];omega
  ·exact Nat.zero_le _
/- What is read is bounded. -/
theorem qI {β:Type} {k:Nat} {l:List Nat} {f:Nat->List Nat->β} {P:β->Prop} (hl:∀ x∈l,x<256) (h:∀ x l',x<256 ^ k->(∀ y∈l',y<256)->P (f x l')):P (nx k l f):=h _ _ (EA hl) (TB hl)
theorem n8 {x:Nat} (h:x<256 ^ 1):U8 x:=⟨by omega,by omega⟩
theorem n32 {x:Nat} (h:x<256 ^ 4):qJ x:=⟨by omega,by omega⟩
theorem n64 {x:Nat} (h:x<256 ^ 8):iA x:=⟨by omega,by omega⟩
theorem aa8 {l:List Nat} (hl:∀ x∈l,x<256):(qz l).1.b:=by
 unfold qz;refine qI (P:=λ z:bN×List Nat=>z.1.b) hl λ c l hc hl=>qI (P:=λ z:bN×List Nat=>z.1.b) hl λ s l hs hl=>qI (P:=λ z:bN×List Nat=>z.1.b) hl λ k l hk hl=>qI (P:=λ z:bN×List Nat=>z.1.b) hl λ key l hkey hl=>?_
 split
 ·exact qI (P:=λ z:bN×List Nat=>z.1.b) hl λ v l hv hl=>⟨n8 hc,n32 hs,n8 hk,n64 hkey,n64 hv,yS,AZ⟩
 split
 ·exact qI (P:=λ z:bN×List Nat=>z.1.b) hl λ hi l hhi hl=>qI (P:=λ z:bN×List Nat=>z.1.b) hl λ to l hto hl=>⟨n8 hc,n32 hs,n8 hk,n64 hkey,yS,n64 hhi,n8 hto⟩
 ·exact ⟨n8 hc,n32 hs,n8 hk,n64 hkey,yS,yS,AZ⟩
theorem aa9 {l:List Nat} (hl:∀ x∈l,x<256):(gZ l).1.n<=4294967295:=by
 unfold gZ;refine qI (P:=λ z:bE×List Nat=>z.1.n<=4294967295) hl λ n l hn hl=>?_
 show n<=4294967295;omega
theorem aba {l:List Nat} (hl:∀ x∈l,x<256):(dP l).1.b.n<=4294967295/\((dP l).1.kind=1->(dP l).1.q.b):=by
 unfold dP;refine qI (P:=λ z:MM×List Nat=>z.1.b.n<=4294967295/\(z.1.kind=1->z.1.q.b)) hl λ k l hk hl=>?_
 by_cases h:k=1
 ·rw [if_pos h]
  exact ⟨Nat.zero_le _,λ _=>aa8 hl⟩
 rw [if_neg h];have hb:=aa9 hl;have no:(aP (k:Int)).kind=1->False:=λ e=>h (by have:(k:Int)=1:=e;omega)
 split
 ·exact ⟨Nat.zero_le _,λ e=>(no e).elim⟩
 split
 ·exact ⟨hb,λ e=>(no e).elim⟩
 split
 ·exact ⟨hb,λ e=>(no e).elim⟩
 split
 ·exact ⟨hb,λ e=>(no e).elim⟩
 split
 ·exact ⟨hb,λ e=>(no e).elim⟩
 split
 ·exact ⟨hb,λ e=>(no e).elim⟩
 split
 ·exact ⟨Nat.zero_le _,λ e=>(no e).elim⟩
 split
 ·exact ⟨Nat.zero_le _,λ e=>(no e).elim⟩
 split
 ·exact ⟨Nat.zero_le _,λ e=>(no e).elim⟩
 ·exact ⟨Nat.zero_le _,λ e=>(no e).elim⟩
theorem yT {d:ByteArray} {m:MM} (h:oV d=some m):eT m=true/\(dP (dl d)).1=m:=by
 unfold oV at h;split at h
 ·rename_i c
  injection h with h;subst h;exact ⟨c.1,rfl⟩
 ·cases h
def gP (k:Nat) (l:List Nat):MM×List Nat :=
 if k=1 then rn qz l λ q l=>({ aP k with q:=q },l)
 else if k=2 then rn kZ l λ p l=>({ aP k with p:=p },l)
 else if k=3 then rn gZ l λ b l=>({ aP k with b:=b },l)
 else if k=5 then rn gZ l λ b l=>({ aP k with b:=b },l)
 else if k=4 then rn gZ l λ b l=>rn (jg mZ) l λ vs l=>({ aP k with b:=b,vs:=vs },l)
 else if k=6 then rn gZ l λ b l=>nx 4 l λ s l=>rn mF l λ c l=>({ aP k with b:=b,s:=s,c:=c },l)
 else if k=7 then rn gZ l λ b l=>nx 4 l λ s l=>({ aP k with b:=b,s:=s },l)
 else if k=8 then nx 4 l λ s l=>rn mF l λ c l=>({ aP k with s:=s,c:=c },l)
 else if k=9 then rn AP l λ r l=>({ aP k with r:=r },l)
 else if k=10 then nx 1 l λ p l=>nx 4 l λ s l=>({ aP k with peer:=p,seq:=s },l)
 else (aP k,l)
theorem jQ {k:Nat} (hk:k<256) (a:List Int):dP (dn ([(k:Int)]++a))=gP k (dn a):=by
 rw [dZ];exact oW (f:=gP) hk
theorem VC (l:List Nat):gP 2 l=(rn kZ l λ p l=>({ aP ((2:Nat):Int) with p:=p },l)):=rfl
theorem abb (l:List Nat):gP 3 l=(rn gZ l λ b l=>({ aP ((3:Nat):Int) with b:=b },l)):=rfl
theorem abd (l:List Nat):gP 5 l=(rn gZ l λ b l=>({ aP ((5:Nat):Int) with b:=b },l)):=rfl
theorem abe (l:List Nat):gP 4 l=(rn gZ l λ b l=>rn (jg mZ) l λ vs l=>({ aP ((4:Nat):Int) with b:=b,vs:=vs },l)):=rfl
theorem abf (l:List Nat):gP 6 l=(rn gZ l λ b l=>nx 4 l λ s l=>rn mF l λ c l=>({ aP ((6:Nat):Int) with b:=b,s:=s,c:=c },l)):=rfl
theorem abg (l:List Nat):gP 7 l=(rn gZ l λ b l=>nx 4 l λ s l=>({ aP ((7:Nat):Int) with b:=b,s:=s },l)):=rfl
theorem abh (l:List Nat):gP 8 l=(nx 4 l λ s l=>rn mF l λ c l=>({ aP ((8:Nat):Int) with s:=s,c:=c },l)):=rfl
theorem VD (l:List Nat):gP 9 l=(rn AP l λ r l=>({ aP ((9:Nat):Int) with r:=r },l)):=rfl
theorem Rc (l:List Nat):gP 10 l=(nx 1 l λ p l=>nx 4 l λ s l=>({ aP ((10:Nat):Int) with peer:=p,seq:=s },l)):=rfl
theorem ady {m:MM} (h:eT m=true) (e:m.kind=4):mW m.vs=true:=by
 unfold eT at h;rw [if_neg (by omega),if_neg (by omega),if_neg (by omega),if_neg (by omega),if_pos e,Bool.and_eq_true] at h;exact h.1
theorem adz {m:MM} (h:eT m=true) (e:m.kind=6):kN m.c=true:=by
 unfold eT at h;rw [if_neg (by omega),if_neg (by omega),if_neg (by omega),if_neg (by omega),if_neg (by omega),if_pos e,Bool.and_eq_true] at h;exact h.1
theorem adA {m:MM} (h:eT m=true) (e:m.kind=8):kN m.c=true:=by
 unfold eT at h;rw [if_neg (by omega),if_neg (by omega),if_neg (by omega),if_neg (by omega),if_neg (by omega),if_neg (by omega),if_neg (by omega),if_pos e,Bool.and_eq_true] at h;exact h.1
theorem adB {m:MM} (h:eT m=true) (e:m.kind=9):og m.r=true:=by
 unfold eT at h;rw [if_neg (by omega),if_neg (by omega),if_neg (by omega),if_neg (by omega),if_neg (by omega),if_neg (by omega),if_neg (by omega),if_neg (by omega),if_pos e,Bool.and_eq_true] at h;exact h.1
theorem sK (a:List Int):dn a=dn a++[]:=(List.append_nil _).symm
theorem aab {l:List MV} (h:mW l=true):∀ v∈l,kN v.c=true:=λ v hv=>by
 unfold mW jG at h;simp only [Bool.and_eq_true,decide_eq_true_eq] at h;obtain ⟨i,hi,rfl⟩:=List.getElem_of_mem hv;have:=List.all_eq_true.1 h.2 i (List.mem_range.2 hi);unfold vY at this;rw [List.getElem?_eq_getElem hi] at this;simp only [Bool.and_eq_true] at this;exact this.1
theorem xK (n:Nat):n%4294967296<=4294967295:=by omega
def nb (b:bE):bE:=⟨b.n%4294967296,b.id%256⟩
def nv (v:MV):MV:=⟨v.slot%4294967296,nb v.b,v.c⟩
def EX (m:MM):MM :=
 if m.kind=3 then { aP 3 with b:=nb m.b }
 else if m.kind=5 then { aP 5 with b:=nb m.b }
 else if m.kind=4 then { aP 4 with b:=nb m.b,vs:=m.vs.map nv }
 else if m.kind=6 then { aP 6 with b:=nb m.b,s:=m.s%4294967296,c:=m.c }
 else if m.kind=7 then { aP 7 with b:=nb m.b,s:=m.s%4294967296 }
 else if m.kind=8 then { aP 8 with s:=m.s%4294967296,c:=m.c }
 else if m.kind=9 then { aP 9 with r:=m.r }
 else { aP 10 with peer:=m.peer,seq:=m.seq }
theorem Re {N n:Nat} {m m':MM} (h:MG (qP N) n m) (hd:oV (sV m)=some m'):m.kind=2/\(∃ p,m'={ aP 2 with p:=p })\/m'=EX m/\3<=m.kind/\m.kind<=10:=by
 obtain ⟨ok',e⟩:=yT hd;unfold sV at e;split at e
 case isFalse =>
  subst e;exact absurd ok' (by decide)
 rename_i ok;obtain ⟨_,k1,k10⟩:=EI ok;have kn:=h.k1;rw [FL] at e;unfold kG at e;obtain ⟨kd,q,p,b,s,c,vs,r,peer,seq⟩:=m;have k1:1<=kd:=k1;have k10:kd<=10:=k10;have kn:kd≠1:=kn;rcases (by omega:kd=2\/kd=3\/kd=4\/kd=5\/kd=6\/kd=7\/kd=8\/kd=9\/kd=10) with rfl | rfl | rfl | rfl | rfl | rfl | rfl | rfl | rfl
 ·have e:(dP (dn ([((2:Nat):Int)]++mf p))).1=m':=e
  rw [jQ (by decide)] at e;rw [VC] at e;subst e;exact .inl ⟨rfl,_,rfl⟩
 ·have e:(dP (dn ([((3:Nat):Int)]++eQ b.n b.id))).1=m':=e
  rw [jQ (by decide)] at e;have e2:gP 3 (dn (eQ b.n b.id))=({ aP ((3:Nat):Int) with b:=⟨b.n%4294967296,b.id%256⟩ },[]):=by
   rw [sK];rw [abb,dV (rq b.n b.id [])]
  rw [e2] at e;subst e;exact .inr ⟨rfl,by simp,by simp⟩
 ·have e:(dP (dn ([((4:Nat):Int)]++(eQ b.n b.id++([(vs.length:Int)]++(vs.map kv).flatten))))).1=m':=e
  rw [jQ (by decide)] at e;have ov:mW vs=true:=by
   exact ady ok rfl
  obtain ⟨hv,hl⟩:=h.vs rfl;have e2:gP 4 (dn (eQ b.n b.id++([(vs.length:Int)]++(vs.map kv).flatten)))=({ aP ((4:Nat):Int) with b:=⟨b.n%4294967296,b.id%256⟩,vs:=vs.map λ v=>⟨v.slot%4294967296,⟨v.b.n%4294967296,v.b.id%256⟩,v.c⟩ },[]):=by
   rw [dZ,sK ([(vs.length:Int)]++_)];rw [abe,dV (rq b.n b.id _)];exact dV (AX (e:=kv) (g:=λ v=>⟨v.slot%4294967296,⟨v.b.n%4294967296,v.b.id%256⟩,v.c⟩) (λ v hv'=>QS (hv v hv').1 (aab ov v hv')) (λ v=>by simp [kv,b32]) (Nat.le_trans hl (by decide)) []) _
  rw [e2] at e;subst e;exact .inr ⟨rfl,by simp,by simp⟩
 ·have e:(dP (dn ([((5:Nat):Int)]++eQ b.n b.id))).1=m':=e
  rw [jQ (by decide)] at e;have e2:gP 5 (dn (eQ b.n b.id))=({ aP ((5:Nat):Int) with b:=⟨b.n%4294967296,b.id%256⟩ },[]):=by
   rw [sK];rw [abd,dV (rq b.n b.id [])]
  rw [e2] at e;subst e;exact .inr ⟨rfl,by simp,by simp⟩
 ·have e:(dP (dn ([((6:Nat):Int)]++(eQ b.n b.id++b32 s++mg c)))).1=m':=e
  rw [jQ (by decide)] at e;have oc:kN c=true:=by
   exact adz ok rfl
  obtain ⟨hc,hs⟩:=h.acc rfl;have e2:gP 6 (dn (eQ b.n b.id++b32 s++mg c))=({ aP ((6:Nat):Int) with b:=⟨b.n%4294967296,b.id%256⟩,s:=s%4294967296,c:=c },[]):=by
   rw [dZ,dZ,sK (mg c),List.append_assoc];rw [abf,dV (rq b.n b.id _),MH,dV (Dl hc oc [])]
  rw [e2] at e;subst e;exact .inr ⟨rfl,by simp,by simp⟩
 ·have e:(dP (dn ([((7:Nat):Int)]++(eQ b.n b.id++b32 s)))).1=m':=e
  rw [jQ (by decide)] at e;have hs:=h.pK rfl;have e2:gP 7 (dn (eQ b.n b.id++b32 s))=({ aP ((7:Nat):Int) with b:=⟨b.n%4294967296,b.id%256⟩,s:=s%4294967296 },[]):=by
   rw [dZ,sK (b32 s)];rw [abg,dV (rq b.n b.id _),MH]
  rw [e2] at e;subst e;exact .inr ⟨rfl,by simp,by simp⟩
 ·have e:(dP (dn ([((8:Nat):Int)]++(b32 s++mg c)))).1=m':=e
  rw [jQ (by decide)] at e;have oc:kN c=true:=by
   exact adA ok rfl
  obtain ⟨hc,hs⟩:=h.dec rfl;have e2:gP 8 (dn (b32 s++mg c))=({ aP ((8:Nat):Int) with s:=s%4294967296,c:=c },[]):=by
   rw [dZ,sK (mg c)];rw [abh,MH,dV (Dl hc oc [])]
  rw [e2] at e;subst e;exact .inr ⟨rfl,by simp,by simp⟩
 ·have e:(dP (dn ([((9:Nat):Int)]++Ce r))).1=m':=e
  rw [jQ (by decide)] at e;have orr:og r=true:=by
   exact adB ok rfl
  have hm:=h.qy rfl;have hg:lQ N (oI r):=hm.2.2.2;have e2:gP 9 (dn (Ce r))=({ aP ((9:Nat):Int) with r:=r },[]):=by
   rw [sK];rw [VD,dV (MI (x:=r) hg.r orr [])]
  rw [e2] at e;subst e;exact .inr ⟨rfl,by simp,by simp⟩
 ·have e:(dP (dn ([((10:Nat):Int)]++([peer]++b32 seq)))).1=m':=e
  rw [jQ (by decide)] at e;have hm:=h.lK rfl;have hg:lQ N (sS peer seq):=hm.2.2;obtain ⟨x,ex,hx⟩:=U8.nat (x:=peer) hg.peer;obtain ⟨y,ey,hy⟩:=qJ.nat (x:=seq) hg.seq;have e2:gP 10 (dn ([peer]++b32 seq))=({ aP ((10:Nat):Int) with peer:=peer,seq:=seq },[]):=by
   rw [ex,ey,dZ,sK (b32 _)];rw [Rc,oW hx,J2 hy]
  rw [e2] at e;subst e;exact .inr ⟨rfl,by simp,by simp⟩
theorem Ur {N n:Nat} {m m':MM} (h:MG (qP N) n m) (hd:oV (sV m)=some m'):MG (qP N) n m':=by
 rcases Re h hd with ⟨_,p,rfl⟩ | ⟨rfl,k3,k10⟩
 ·exact .tell p
 ·obtain ⟨kd,q,p,b,s,c,vs,r,peer,seq⟩:=m
  unfold EX;dsimp only;split
  ·exact .fw (.inl rfl) (xK _)
  split
  ·exact .fw (.inr rfl) (xK _)
  split
  ·rename_i e
   obtain ⟨hv,hl⟩:=h.vs e;exact .promise (xK _) (λ v hv'=>by obtain ⟨y,hy,rfl⟩:=List.mem_map.1 hv';exact ⟨(hv y hy).1,Nat.lt_of_le_of_lt (Nat.mod_le _ _) (hv y hy).2⟩) (by rw [List.length_map];exact hl)
  split
  ·rename_i e;exact .accept (xK _) (Nat.lt_of_le_of_lt (Nat.mod_le _ _) (h.acc e).2) (h.acc e).1
  split
  ·rename_i e;exact .accepted (xK _) (Nat.lt_of_le_of_lt (Nat.mod_le _ _) (h.pK e))
  split
  ·rename_i e;exact .decide (Nat.lt_of_le_of_lt (Nat.mod_le _ _) (h.dec e).2) (h.dec e).1
  split
  ·rename_i e;exact .move (h.qy e)
  ·have k3:3<=kd:=k3
   have k10:kd<=10:=k10;exact .UZ (h.lK (show kd=10 by omega))
theorem Rf (N:Nat):gJ (qP N) where
 lens:=λ s h=>by
  have h:dO N _ s:=h;have:=h.ok.il;have:=h.ok.ol;exact ⟨by omega,by omega,h.ok.n4⟩
 stay:=λ s c _ _=>aa7 s c
 YY:=λ g n _ _=>⟨rfl,rfl⟩
 lane:=λ s h o ho r hr=>by
  have h:dO N _ s:=h;obtain ⟨h1,h2⟩:=(h.o o ho).2.2.2 r hr;exact ⟨h1,by have:=h2.seq.2;omega,lQ.recv h2 (by have:=h.ok.gn;have:=h.n;omega)⟩
 LK:=λ s h x hx=>by
  have h:dO N _ s:=h;have:=h.i x hx;have:=h.AU;omega
 YZ:=λ p s h1 h2 h3 h4=>lQ.adx ⟨h1,by omega⟩ ⟨h3,by omega⟩
 ask:=λ d m h=>by
  obtain ⟨h1,h2⟩:=yT h;have:=aba (H6 d);rw [h2] at this;refine ⟨this.1,λ e=>lQ.asks (this.2 e) ?_⟩;unfold eT at h1;rw [if_pos e,Bool.and_eq_true] at h1;exact h1.1
 kind:=λ d m h=>(EI (yT h).1).2
 rl:=λ c h=>by
  have h:lQ N c:=h;exact ⟨h.r.rl,h.r.dl⟩
 rc:=λ s c h hc=>(VB h hc).2
 back:=λ n m m' h hd=>Ur h hd
end
end Go.Proofs.YtignemioillaiabGreat
