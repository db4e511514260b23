/- Does a cluster answer? -/
import Derived.Test.YtignemioillaiaaGreatG48
import Derived.Conc.Holds
namespace Go.Proofs.YtignemioillaiaaGreat
set_option maxHeartbeats 8000000
set_option linter.unusedSectionVars false
set_option maxRecDepth 100000
section
open Go Go.Conc
def Sit.rounds (A:aT):Nat->Sit->Sit
 | 0,S=>S
 | n+1,S=>(S.rounds A n).round A
def E8:bQ:=⟨2,9,1,5,0,0,0⟩
def E9:az:=⟨2,9,5,1,false,0,0⟩
def Fa (A:aT) (sz:Nat):Sit:=((((Sit.new A 1 sz).rounds A 15).sends A E8 0 0).round A).round A
def Rk (A:aT) (sz:Nat):Bool:=(nA A (Fa A sz).C.q).2 && (!(Fa A sz).bad && (nA A (Fa A sz).C.q).1.any λ x=>dQ x.1 E9)
structure Fb (A:aT):Prop where
 gc:A.gc (gK E8)
 live:∀ f,f<=2->Rk A (2*f+1)=true
 room:∀ f,f<=2->((Sit.new A 1 (2*f+1)).rounds A 15).C.q.length<20000
theorem di.snap {w w':World} {bs:Nat} {S:Sit} (h:di (fu w) bs S w'):GB none w w':=by
 obtain ⟨_,_,_,_,_,_,h⟩:=h;have kp:∀ x,x<w.heap.size->w'.heap[x]? = w.heap[x]?:=λ x hx=>by
  obtain ⟨o,ho⟩:∃ o,w.heap[x]? = some o:=⟨w.heap[x],by simp [hx]⟩;exact (h.pr x o ho).1.trans ho.symm
 refine ⟨h.os,h.out,?_,λ x hx _=>kp x hx⟩;by_cases h0:w.heap.size=0
 ·omega
 ·have h1:=kp (w.heap.size - 1) (by omega)
  obtain ⟨o,ho⟩:∃ o,w.heap[w.heap.size - 1]? = some o:=⟨w.heap[w.heap.size - 1]'(by omega),by simp [show w.heap.size - 1<w.heap.size by omega]⟩;rw [ho] at h1;have:=ae h1;omega
theorem abB {l:List (az×Nat)} {k:Nat} {x:az×Nat} (h:l[k]? = some x) {cur:List Value} (ht:cur.take (l.length*8)=(l.map EY).flatten):aL cur (k*8) 7=x.1.cells:=by
 have h1:=jG (f:=EY) (size:=8) (λ _=>rfl) l k x h;have hk:k<l.length:=(List.getElem?_eq_some_iff.1 h).1;have h2:aL cur (k*8) 8=EY x:=by
  rw [<- h1,List.flatMap_def,<- ht];unfold aL;rw [List.drop_take,List.take_take,Nat.min_eq_left (by omega)]
 have h3:aL cur (k*8) 7=(aL cur (k*8) 8).take 7:=by unfold aL;rw [List.take_take];rfl
 rw [h3,h2];rfl
section
variable {A:aT} (HA:bK A) (HN:gL A)
include HA HN
theorem Sit.aJ.new {n sz:Nat} (hn:1<=n/\n<=4) (hN:n=A.N) (hz:1<=sz/\sz<=5):(Sit.new A n sz).aJ A:=⟨aN.aJ.new HA HN hn.2 hN hz.2,hn.1,hz.1,by simp [Sit.new,aN.new],by simp [Sit.new,aN.new],by simp [Sit.new,aN.new],by simp [Sit.new]⟩
theorem Sit.aJ.rounds {S:Sit} (h:S.aJ A):∀ n,(S.rounds A n).aJ A
 | 0=>h
 | n+1=>(Sit.aJ.rounds h n).round HA HN
variable (HL:rR A) (HV:Fb A)
theorem Sit.VV (S:Sit):∀ n,(S.all A n).C.n=S.C.n/\(S.all A n).C.sz=S.C.sz:=by
 intro n;induction n generalizing S with
 | zero=>exact ⟨rfl,rfl⟩
 | succ n ih =>
  unfold Sit.all;split
  ·exact ⟨(ih (S.one A)).1.trans (aN.kP A S.C _).1,(ih (S.one A)).2.trans (aN.kP A S.C _).2⟩
  ·exact ⟨rfl,rfl⟩
theorem Sit.M7 (S:Sit):(S.round A).C.n=S.C.n/\(S.round A).C.sz=S.C.sz:=⟨(Sit.VV HA HN _ _).1.trans (Sit.xQ S _).1,(Sit.VV HA HN _ _).2.trans (Sit.xQ S _).2⟩
theorem Sit.Dv (S:Sit):∀ n,(S.rounds A n).C.n=S.C.n/\(S.rounds A n).C.sz=S.C.sz
 | 0=>⟨rfl,rfl⟩
 | n+1=>⟨(Sit.M7 HA HN _).1.trans (Sit.Dv S n).1,(Sit.M7 HA HN _).2.trans (Sit.Dv S n).2⟩
include HL HV
theorem XK (hN:A.N=1) (w:World) (f:Nat) (hf:f<=2):gq Tryz.prog 124 #[.int .i64 (2*f+1:Nat)] w (λ v w'=>v=.bool true/\GB none w w'):=by
 have hlive:=HV.live f hf;have Pf:(Sit.new A 1 (2*f+1)).aJ A:=Sit.aJ.new HA HN ⟨by decide,by decide⟩ hN.symm ⟨by omega,by omega⟩;refine EE ah Tryz.func124 rfl rfl ?_;refine aK.piece (Q:=λ q w'=>q=[(0,.int .i64 (2*f+1:Nat))]/\w'=w) (aK.of ah mixed ⟨_,by exact ⟨rfl,trivial⟩,rfl,rfl⟩) ?_;rintro q w ⟨rfl,rfl⟩;refine aK.piece (Q:=λ q w1=>∃ bs,q=[(3,Ptt bs),(4,.bool true)]/\di (fu w) bs (Sit.new A 1 (2*f+1)) w1) (aK.of ah mixed ?_) ?_
 ·refine ⟨_,(Re HA w 1 f ⟨by decide,by decide⟩ hf).x,?_⟩
  rintro _ w1 ⟨bs,rfl,_,h1,k1⟩;exact ⟨_,by exact ⟨rfl,rfl,trivial⟩,bs,rfl,h1⟩
 rintro q w1 ⟨bs,rfl,h1⟩;obtain ⟨N0,hN0⟩:∃ S,S=Sit.new A 1 (2*f+1):=⟨_,rfl⟩;have hsz0:N0.C.n=1/\N0.C.sz=2*f+1:=by rw [hN0];exact ⟨rfl,rfl⟩
 have hroom:=HV.room f hf;have hlv:Fa A (2*f+1)=(((N0.rounds A 15).sends A E8 0 0).round A).round A:=by rw [hN0];rfl
 rw [<- hN0] at h1 Pf hroom;refine aK.piece (Q:=λ q w2=>q=[(3,Ptt bs),(4,.bool true)]/\di (fu w) bs (N0.rounds A 15) w2) ?_ ?_
 ·refine aK.piece (Q:=λ q w'=>q=[(3,Ptt bs),(4,.bool true),(5,.int .i64 0)]/\w'=w1) (aK.of ah mixed ⟨_,by exact ⟨rfl,rfl,rfl,trivial⟩,rfl,rfl⟩) ?_
  rintro q w1 ⟨rfl,rfl⟩;refine aK.block ?_;refine aK.loop (λ m s wk=>∃ i:Nat,m=15 - i/\i<=15/\s=[(3,Ptt bs),(4,.bool true),(5,.int .i64 i)]/\di (fu w) bs (N0.rounds A i) wk) ⟨_,_,⟨0,rfl,Nat.zero_le _,rfl,h1⟩,rfl,rfl,rfl,trivial⟩ ?_;rintro m s wk ⟨i,rfl,hi,rfl,hS⟩;refine aK.cut (Qn:=λ q w'=>i<15/\q=[(3,Ptt bs),(4,.bool true),(5,.int .i64 i)]/\w'=wk) (Qx:=λ j q w'=>j=0/\i=15/\q=[(3,Ptt bs),(4,.bool true)]/\w'=wk) (Qr:=λ _ _=>False) (aK.of ah mixed ?_) ?_ ?_ (λ _ _ _ h _=>h.elim)
  ·refine aj (λ c=>?_) (λ c=>?_)
   ·exact ⟨_,by exact ⟨rfl,rfl,rfl,trivial⟩,by simp at c;omega,rfl,rfl⟩
   ·exact ⟨_,by exact ⟨rfl,rfl,trivial⟩,rfl,by simp at c;omega,rfl,rfl⟩
  rotate_left
  ·rintro j q s w' ⟨rfl,e,rfl,rfl⟩ hs
   exact ⟨_,hs,rfl,by rw [<- e];exact hS⟩
  rintro q wk ⟨c1,rfl,rfl⟩;have MZ:=Sit.aJ.rounds HA HN Pf i;refine aK.piece (Q:=λ q w'=>q=[(3,Ptt bs),(4,.bool true),(5,.int .i64 i)]/\di (fu w) bs (N0.rounds A (i+1)) w') ?_ ?_
  ·refine aK.block (aK.of ah mixed ?_)
   refine ⟨_,FZ HA HN hS MZ.cl MZ.sz,?_⟩;rintro _ w2 ⟨rfl,h2,k2⟩;exact ⟨_,by exact ⟨rfl,rfl,rfl,trivial⟩,rfl,h2⟩
  ·rintro q w' ⟨rfl,h'⟩
   refine aK.of ah mixed ?_;exact ⟨⟨by omega,by omega⟩,_,_,⟨i+1,rfl,by omega,rfl,h'⟩,⟨rfl,rfl,rfl,trivial⟩,by omega⟩
 rintro q w2 ⟨rfl,h2⟩;have OV:=Sit.aJ.rounds HA HN Pf 15;obtain ⟨r1,r2⟩:=Sit.Dv HA HN N0 15;have hg0:0<(N0.rounds A 15).C.n:=by rw [r1,hsz0.1];decide
 have hi0:0<(N0.rounds A 15).C.sz:=by rw [r2,hsz0.2];omega
 have PZ:=Sit.aJ.sends HA HN HL OV HV.gc hg0 hi0 hroom;have hFr:=PZ.round HA HN;generalize N0.rounds A 15=S15 at *;refine aK.piece (Q:=λ q w'=>q=[(3,Ptt bs)]/\w'=w2) (aK.of ah mixed ⟨_,by exact ⟨rfl,trivial⟩,rfl,rfl⟩) ?_;rintro q w2 ⟨rfl,rfl⟩;refine aK.piece (Q:=λ q w3=>q=[(3,Ptt bs)]/\di (fu w) bs (S15.sends A E8 0 0) w3) (aK.of ah mixed ?_) ?_
 ·have hak:=OV.ak
  have hlen:=OV.cl.len;refine ⟨_,(MX HL h2 OV.cl HV.gc hg0 hi0 (by omega)).x,?_⟩;rintro _ w3 ⟨rfl,h3,k3⟩;exact ⟨_,by exact ⟨rfl,trivial⟩,rfl,h3⟩
 rintro q w3 ⟨rfl,h3⟩;refine aK.piece (Q:=λ q w4=>q=[(3,Ptt bs),(6,.bool true)]/\di (fu w) bs ((S15.sends A E8 0 0).round A) w4) (aK.of ah mixed ?_) ?_
 ·refine ⟨_,FZ HA HN h3 PZ.cl PZ.sz,?_⟩
  rintro _ w4 ⟨rfl,h4,k4⟩;exact ⟨_,by exact ⟨rfl,rfl,trivial⟩,rfl,h4⟩
 rintro q w4 ⟨rfl,h4⟩;obtain ⟨L,hL⟩:∃ L,L=Fa A (2*f+1):=⟨_,rfl⟩;rw [hlv] at hL;refine aK.piece (Q:=λ q w5=>q=[(3,Ptt bs),(6,.bool true),(7,.bool true)]/\di (fu w) bs L w5) (aK.of ah mixed ?_) ?_
 ·refine ⟨_,FZ HA HN h4 hFr.cl hFr.sz,?_⟩
  rintro _ w5 ⟨rfl,h5,k5⟩;exact ⟨_,by exact ⟨rfl,rfl,rfl,trivial⟩,rfl,by rw [hL];exact h5⟩
 rintro q w5 ⟨rfl,h5⟩;have hFL:L.aJ A:=by rw [hL];exact hFr.round HA HN
 have hal:((nA A L.C.q).2 && (!L.bad && (nA A L.C.q).1.any λ x=>dQ x.1 E9))=true:=by
  have:=hlive;unfold Rk at this;rw [hlv,<- hL] at this;exact this
 rw [Bool.and_eq_true,Bool.and_eq_true] at hal;obtain ⟨a1,a2,a3⟩:=hal;have a2:L.bad=false:=by simpa using a2
 have htl:=XJ HA h5 hFL.cl;generalize nA A L.C.q=TL at htl a1 a3;obtain ⟨tl,ok⟩:=TL;have a1:ok=true:=a1;subst a1;have a3:tl.any (λ x=>dQ x.1 E9)=true:=a3;refine aK.piece (Q:=λ q w6=>∃ lv,q=[(3,Ptt bs),(6,.bool true),(7,.bool true),(8,lv),(9,.bool true)]/\w6.ownsRow 0 264 8 lv tl.length (tl.map EY).flatten/\di (fu w) bs L w6) (aK.of ah mixed ?_) ?_
 ·refine ⟨_,htl.x,?_⟩
  rintro _ w6 ⟨⟨lv,rfl,ho⟩,g6⟩;exact ⟨_,by exact ⟨rfl,rfl,rfl,rfl,rfl,trivial⟩,lv,rfl,ho,h5.ax g6⟩
 rintro q w6 ⟨lv,rfl,ho,h6⟩;obtain ⟨la,lc,rfl⟩:=af ho;have JO:tl.length<=9223372036854775807:=by
  rcases ho.2 with ⟨_,h0⟩ | ⟨g,cap,cur,e,h0,h2,h3,h4,_⟩
  ·omega
  ·unfold Go.maxLen at h4;omega
 have G6:=h6.snap;refine aK.cut (Qn:=λ _ _=>False) (Qx:=λ _ _ _=>False) (Qr:=λ q w'=>q=[(2,.bool true)]/\GB none w w') ?_ (λ _ _ h=>h.elim) (λ _ _ _ _ h _=>h.elim) ?_;rotate_left
 ·rintro q s w' ⟨rfl,g'⟩ hs
  exact uX hs ⟨rfl,g'⟩
 refine aK.piece (Q:=λ q w'=>q=[(3,Ptt bs),(6,.bool true),(7,.bool true),(8,.slice la tl.length lc),(9,.bool true),(10,.int .i64 0)]/\w'=w6) (aK.of ah mixed ⟨_,by exact ⟨rfl,rfl,rfl,rfl,rfl,rfl,trivial⟩,rfl,rfl⟩) ?_;rintro q w6 ⟨rfl,rfl⟩;refine aK.block ?_;refine aK.loop (λ m s wk=>∃ k:Nat,m=tl.length - k/\k<=tl.length/\s=[(3,Ptt bs),(6,.bool true),(7,.bool true),(8,.slice la tl.length lc),(9,.bool true),(10,.int .i64 k)]/\wk=w6/\∀ (j:Nat) (x:az×Nat),j<k->tl[j]? = some x->dQ x.1 E9=false) ⟨_,_,⟨0,rfl,Nat.zero_le _,rfl,rfl,λ j x h=>by omega⟩,rfl,rfl,rfl,rfl,rfl,rfl,trivial⟩ ?_;rintro m s w6 ⟨k,rfl,hk,rfl,rfl,hno⟩;refine aK.cut (Qn:=λ q w'=>k<tl.length/\q=[(3,Ptt bs),(6,.bool true),(7,.bool true),(8,.slice la tl.length lc),(9,.bool true),(10,.int .i64 k)]/\w'=w6) (Qx:=λ _ _ _=>False) (Qr:=λ _ _=>False) (aK.of ah mixed ?_) ?_ (λ _ _ _ _ h _=>h.elim) (λ _ _ _ h _=>h.elim)
 ·refine aj (λ c=>?_) (λ c=>?_)
  ·exact ⟨_,by exact ⟨rfl,rfl,rfl,rfl,rfl,rfl,trivial⟩,by have:=of_decide_eq_true c;omega,rfl,rfl⟩
  ·exfalso
   have c1:k=tl.length:=by have:=of_decide_eq_false c;omega
   obtain ⟨x,hx,hp⟩:=List.any_eq_true.1 a3;obtain ⟨j,hj⟩:=List.mem_iff_getElem?.1 hx;have:=hno j x (by have:=(List.getElem?_eq_some_iff.1 hj).1;omega) hj;rw [this] at hp;cases hp
 rintro q w6 ⟨c1,rfl,rfl⟩;obtain ⟨x,hx⟩:∃ x,tl[k]? = some x:=⟨tl[k],by simp [c1]⟩;obtain ⟨gb,cap,cur,ev,aR,htk,hsz,hcap⟩:=jE ho (by omega);injection ev with ev _ QK;subst ev;subst QK;have hel:=abB hx htk;refine aK.cut (Qn:=λ q w'=>dQ x.1 E9=false/\q=[(3,Ptt bs),(6,.bool true),(7,.bool true),(8,.slice (some ⟨gb,0,none⟩) tl.length lc),(9,.bool true),(10,.int .i64 k)]/\w'=w6) (Qx:=λ _ _ _=>False) (Qr:=λ q w'=>q=[(2,.bool true)]/\w'=w6) ?_ ?_ (λ _ _ _ _ h _=>h.elim) ?_
 ·refine aK.block (aK.of ah mixed ?_)
  obtain ⟨_,_,_,_,_,_,h6⟩:=h6;refine ⟨_,_,h6.si.mem,.bool false,by show (gu _ _ _)[8]? = _;unfold gu;rw [a2];rfl,⟨by omega,by omega⟩,_,_,aR,x.1.cells,by show aL cur.toList (0+(k:Int).toNat*8) 7=_;rw [Nat.zero_add,Int.toNat_natCast];exact hel,rfl,?_⟩;refine aj (λ d=>?_) (λ d=>?_)
  ·exact ⟨_,by exact ⟨rfl,trivial⟩,rfl,rfl⟩
  ·exact ⟨_,by exact ⟨rfl,rfl,rfl,rfl,rfl,rfl,trivial⟩,d,rfl,rfl⟩
 ·rintro q w6 ⟨e,rfl,rfl⟩
  refine aK.of ah mixed ?_;refine ⟨⟨by omega,by omega⟩,_,_,⟨k+1,rfl,by omega,rfl,rfl,λ j y hj hy=>?_⟩,⟨rfl,rfl,rfl,rfl,rfl,rfl,trivial⟩,by omega⟩;by_cases ej:j=k
  ·subst ej;rw [hx] at hy;cases hy;exact e
  ·exact hno j y (by omega) hy
 ·rintro q s w6 ⟨rfl,rfl⟩ hs
  exact ⟨_,hs,rfl,G6⟩
theorem UG {B:aT} (HB:bK B) (hN:A.N=1) (w:World) (g f:Int) (hg:wH g) (hf:wH f):gq Tryz.prog 69 #[.int .i64 g,.int .i64 f] w (λ v w'=>∃ bs,v=.tuple #[Ptt bs,.bool true]/\di (fu w) bs (Sit.new B (1+bf g 4) (1+2*bf f 3)) w'/\Kz w w'):=by
 have lf:=jh f (show 0<3 by decide);have lg:=jh g (show 0<4 by decide);refine rO ah mixed Tryz.func69 rfl rfl ?_;refine ⟨_,(ja w f 3 (by decide) hf.1 hf.2).x,?_⟩;rintro _ w ⟨rfl,rfl⟩;refine ⟨⟨by omega,by omega⟩,⟨by omega,by omega⟩,_,(ja w g 4 (by decide) hg.1 hg.2).x,?_⟩;rintro _ w ⟨rfl,rfl⟩;have hm:=Re HB w (1+bf g 4) (bf f 3) ⟨by omega,by omega⟩ (by omega);have e1:((1+bf g 4:Nat):Int)=1+((bf g 4:Nat):Int):=by omega
 have e2:((2*bf f 3+1:Nat):Int)=1+2*((bf f 3:Nat):Int):=by omega
 rw [e1,e2] at hm;refine ⟨⟨by omega,by omega⟩,_,hm.x,?_⟩;rintro _ w1 ⟨bs,rfl,_,h1,k1⟩;have ha:=XK HA HN HL HV hN w1 (bf f 3) (by omega);rw [e2] at ha;refine ⟨_,ha,?_⟩;rintro _ w2 ⟨rfl,g2⟩;rw [show 2*bf f 3+1=1+2*bf f 3 by omega] at h1;exact ⟨bs,rfl,h1.ax g2,k1.trans g2.kz⟩
end
structure Pl where
 bc:Nat
 a:zw
 (gv sv:Value)
 B:Nat->Nat->Nat
 ad:Nat->Nat->fK
open Classical in
section
variable {Λ Λ':bV} {w w':World} {bs bt:Nat} {S S' T:Sit} {p p' r:Pl}
end
section
variable {Λ:bV} {w w':World} {bs bt bu:Nat} {S S' T U:Sit}
end
section
variable {P:Program} [jV P] (E:lH P) (n:Nat) (ops:Array Oper) (K:Sg->World->Prop)
end
section
variable {P:Program} [jV P] {main:Bool} {D:World->World->Array Event->Prop} {X:Goroutine->World->Prop} {b:Frame} {k:List Item} {cs:List Frame} {ops:Array Oper} {E:lH P} {n:Nat} {K:Sg->World->Prop}
end
def VW (o:Int×List Rg) (q:Value):List Value:=[Value.int .u32 o.1,q]
theorem OW:∀ {O:List (Int×List Rg)} {qs:List Value} {k:Nat} {o:Int×List Rg} {q:Value},O[k]? = some o->qs[k]? = some q->aL (List.zipWith VW O qs).flatten (k*2) 2=VW o q
 | [],_,_,_,_,h,_=>by simp at h
 | _::_,[],_,_,_,_,h=>by simp at h
 | o::O,q::qs,0,_,_,h1,h2=>by
  simp at h1 h2;subst h1;subst h2;simp [aL,VW]
 | o::O,q::qs,k+1,_,_,h1,h2=>by
  have:=OW (O:=O) (qs:=qs) (k:=k) (by simpa using h1) (by simpa using h2);rw [<- this];unfold aL;rw [List.zipWith_cons_cons,List.flatten_cons,List.drop_append,List.drop_eq_nil_of_le (by show 2<=_;omega),List.nil_append,show (VW o q).length=2 from rfl,show (k+1)*2 - 2=k*2 by omega]
theorem Ko:∀ {l:List Rg} {vs:List (Value×Value)} {k:Nat} {r:Rg} {p:Value×Value},l[k]? = some r->vs[k]? = some p->aL (List.zipWith (λ r (p:Value×Value)=>dU r p.1 p.2) l vs).flatten (k*7) 7=dU r p.1 p.2
 | [],_,_,_,_,h,_=>by simp at h
 | _::_,[],_,_,_,_,h=>by simp at h
 | r::l,p::vs,0,_,_,h1,h2=>by
  simp at h1 h2;subst h1;subst h2;simp [aL,dU]
 | r::l,p::vs,k+1,_,_,h1,h2=>by
  have:=Ko (l:=l) (vs:=vs) (k:=k) (by simpa using h1) (by simpa using h2);rw [<- this];unfold aL;rw [List.zipWith_cons_cons,List.flatten_cons,List.drop_append,List.drop_eq_nil_of_le (by show 7<=_;omega),List.nil_append,show (dU r p.1 p.2).length=7 from rfl,show (k+1)*7 - 7=k*7 by omega]
theorem aaC {l:List Value} {d:Nat} {a b:Value} (h:aL l d 2=[a,b]):l[d]? = some a/\l[d+1]? = some b:=by
 have h0:=congrArg (λ l=>l[0]?) h;have h1:=congrArg (λ l=>l[1]?) h;unfold aL at h0 h1;simp only [List.getElem?_take,List.getElem?_drop] at h0 h1;exact ⟨by simpa using h0,by simpa using h1⟩
theorem rA {x:Int} {p:Prop} (h:((x != x) == false)=false):p:=by simp at h
theorem F8 {x:Int} {p:Prop} (h:(x != x)=true):p:=by simp at h
theorem Bf (x:Row):gU x x=true:=by simp [gU]
theorem Cu (x:az):dQ x x=true:=by simp [dQ]
def Kq (p q:Pc):Bool:=p.f == q.f && (p.g == q.g && true)
theorem Lg (x:Pc):Kq x x=true:=by simp [Kq]
theorem VX {l:List Pc} {k:Nat} {p:Pc} (h:l[k]? = some p):aL (l.map Pc.cells).flatten (k*2) 2=p.cells:=by
 rw [<- List.flatMap_def];exact jG (f:=Pc.cells) (λ _=>rfl) l k p h
theorem Bg (a:Rg):nU a a=true:=by
 have h1:lG gU a.rows a.rows=true:=vC λ k x y _ h1 h2=>by rw [h1] at h2;cases h2;exact Bf x
 have h2:lG dQ a.aZ a.aZ=true:=vC λ k x y _ h1 h2=>by rw [h1] at h2;cases h2;exact Cu x
 unfold nU;rw [h1,h2];simp
structure StB (s:St):Prop where
 T:s.T.length<=1000000
 M:s.M.length<=1000000
 D:s.D.length<=1000000
 O:s.O.length<=1000000
 I:s.I.length<=1000000
 q:∀ o∈s.O,o.2.length<=1000000/\∀ r∈o.2,r.rows.length<=1000000/\r.aZ.length<=1000000
theorem OX (w:World) {s:St} {T M D T' M' D' I I' v v':Value} (h1:iR w T M D v I s) (h2:iR w T' M' D' v' I' s) (hb:StB s):ag Tryz.prog 72 #[v,v'] w (λ x w'=>x=.bool true/\GB none w w'):=by
 obtain ⟨qs,l1,⟨a,c,rfl,z1,z2,z3⟩,q1⟩:=h1.O;obtain ⟨qs',l1',⟨a',c',rfl,z1',z2',z3'⟩,q1'⟩:=h2.O;have hO:=hb.O;refine uY ah Tryz.func72 rfl rfl ?_;refine CS.piece (Q:=λ q w'=>q=[(0,.slice a s.O.length c),(1,.slice a' s.O.length c')]/\w'=w) (CS.of ah mixed ⟨_,by exact ⟨rfl,rfl,trivial⟩,rfl,rfl⟩) ?_;rintro q w ⟨rfl,rfl⟩;refine CS.piece (Q:=λ q w'=>q=[(0,.slice a s.O.length c),(1,.slice a' s.O.length c')]/\GB none w w') ?_ ?_;rotate_left
 ·rintro q w' ⟨rfl,g⟩
  refine CS.of ah mixed ?_;exact ⟨congrArg Value.bool (by simp),g⟩
 refine CS.piece (Q:=λ q w'=>q=[(0,.slice a s.O.length c),(1,.slice a' s.O.length c'),(5,.int .i64 0)]/\w'=w) (CS.of ah mixed ⟨_,by exact ⟨rfl,rfl,rfl,trivial⟩,rfl,rfl⟩) ?_;rintro q w ⟨rfl,rfl⟩;refine CS.block ?_;refine CS.loop (λ m s0 wk=>∃ k:Nat,m=s.O.length - k/\k<=s.O.length/\s0=[(0,.slice a s.O.length c),(1,.slice a' s.O.length c'),(5,.int .i64 k)]/\GB none w wk) ⟨_,_,⟨0,rfl,Nat.zero_le _,rfl,GB.refl _ _⟩,rfl,rfl,rfl,trivial⟩ ?_;rintro m s0 wk ⟨k,rfl,hk,rfl,gk⟩;refine CS.cut (Qn:=λ q w'=>k<s.O.length/\q=[(0,.slice a s.O.length c),(1,.slice a' s.O.length c'),(5,.int .i64 k)]/\w'=wk) (Qx:=λ j q w'=>j=0/\q=[(0,.slice a s.O.length c),(1,.slice a' s.O.length c')]/\w'=wk) (Qr:=λ _ _=>False) (CS.of ah mixed ?_) ?_ ?_ (λ _ _ _ h _=>h.elim)
 ·refine aj (λ e=>?_) (λ e=>?_)
  ·have d1:k<s.O.length:=by simp at e;omega
   refine aj (λ e'=>?_) (λ e'=>?_)
   ·exact ⟨_,by exact ⟨rfl,rfl,rfl,trivial⟩,d1,rfl,rfl⟩
   ·have:=of_decide_eq_false e'
    omega
  ·exact ⟨_,by exact ⟨rfl,rfl,trivial⟩,rfl,rfl,rfl⟩
 rotate_left
 ·rintro j q s' w' ⟨rfl,rfl,rfl⟩ hs
  exact ⟨_,hs,rfl,gk⟩
 rintro q wk ⟨d1,rfl,rfl⟩;rcases z3 with ⟨_,h0⟩ | ⟨B,off,cs,rfl,hB,hcut⟩
 ·omega
 rcases z3' with ⟨_,h0⟩ | ⟨B',off',cs',rfl,hB',hcut'⟩
 ·omega
 obtain ⟨o,ho⟩:∃ o,s.O[k]? = some o:=⟨s.O[k],by simp [d1]⟩;obtain ⟨x,hx⟩:∃ x,qs[k]? = some x:=⟨qs[k]'(by rw [l1];exact d1),by simp [l1,d1]⟩;obtain ⟨x',hx'⟩:∃ x,qs'[k]? = some x:=⟨qs'[k]'(by rw [l1'];exact d1),by simp [l1',d1]⟩;have hq:=(q1 k o x ho hx).kz gk.kz;have hq':=(q1' k o x' ho hx').kz gk.kz;obtain ⟨e1,e2⟩:=aaC ((Fz.elem hcut d1).trans (OW ho hx));obtain ⟨tO,e2'⟩:=aaC ((Fz.elem hcut' d1).trans (OW ho hx'));have hB:=gk.get hB nofun;have hB':=gk.get hB' nofun;obtain ⟨vs,m1,⟨qa,qc,rfl,y1,y2,y3⟩,m3⟩:=hq;obtain ⟨vs',zq,⟨sP,qz,rfl,y1',y2',y3'⟩,L9⟩:=hq';obtain ⟨bq,bq2⟩:=hb.q o (List.mem_of_getElem? ho);refine CS.piece (Q:=λ q w'=>q=[(0,.slice (some ⟨B,off,none⟩) s.O.length c),(1,.slice (some ⟨B',off',none⟩) s.O.length c'),(5,.int .i64 k)]/\GB none wk w') ?_ ?_;rotate_left
 ·rintro q w' ⟨rfl,g⟩
  refine CS.of ah mixed ?_;exact ⟨⟨by omega,by omega⟩,_,_,⟨k+1,rfl,by omega,rfl,gk.trans g⟩,⟨rfl,rfl,rfl,trivial⟩,by omega⟩
 refine CS.block ?_;refine CS.piece (Q:=λ q w'=>q=[(0,.slice (some ⟨B,off,none⟩) s.O.length c),(1,.slice (some ⟨B',off',none⟩) s.O.length c'),(5,.int .i64 k)]/\w'=wk) (CS.of ah mixed ?_) ?_
 ·refine ⟨by kernel_rfl,⟨by omega,by omega⟩,_,_,hB,.int .u32 o.1,by show cs.toList[off+(k:Int).toNat*2]? = _;rw [Int.toNat_natCast];exact e1,⟨by omega,by omega⟩,_,_,hB',.int .u32 o.1,by show cs'.toList[off'+(k:Int).toNat*2]? = _;rw [Int.toNat_natCast];exact tO,?_⟩
  refine aj (λ e=>?_) (λ e=>rA e);refine ⟨⟨by omega,by omega⟩,_,_,hB,.slice qa o.2.length qc,by show cs.toList[off+(k:Int).toNat*2+1]? = _;rw [Int.toNat_natCast];exact e2,⟨by omega,by omega⟩,_,_,hB',.slice sP o.2.length qz,by show cs'.toList[off'+(k:Int).toNat*2+1]? = _;rw [Int.toNat_natCast];exact e2',?_⟩;refine aj (λ e=>F8 e) (λ e=>?_);exact ⟨_,by exact ⟨rfl,rfl,rfl,trivial⟩,rfl,rfl⟩
 rintro q wk ⟨rfl,rfl⟩;refine CS.of ah mixed ?_;refine ⟨λ m s0 w5=>∃ j:Nat,m=o.2.length - j/\j<=o.2.length/\s0=[(0,.slice (some ⟨B,off,none⟩) s.O.length c),(1,.slice (some ⟨B',off',none⟩) s.O.length c'),(5,.int .i64 k),(6,.int .i64 j)]/\GB none wk w5,⟨_,_,⟨0,rfl,Nat.zero_le _,rfl,GB.refl _ _⟩,rfl,rfl,rfl,rfl,trivial⟩,?_⟩;rintro m s0 w5 ⟨j,rfl,hj,rfl,g5⟩;have hB5:=g5.get hB nofun;have ad9:=g5.get hB' nofun;refine ⟨⟨by omega,by omega⟩,_,_,hB5,.slice qa o.2.length qc,by show cs.toList[off+(k:Int).toNat*2+1]? = _;rw [Int.toNat_natCast];exact e2,aj (λ e=>?_) (λ e=>?_)⟩
 ·have d2:j<o.2.length:=by have:=of_decide_eq_true e;omega
  rcases y3 with ⟨_,h0⟩ | ⟨Q,qo,ql,rfl,hQ,hqc⟩
  ·omega
  rcases y3' with ⟨_,h0⟩ | ⟨Q',qo',ql',rfl,hQ',aea⟩
  ·omega
  obtain ⟨r,hr⟩:∃ r,o.2[j]? = some r:=⟨o.2[j],by simp [d2]⟩;obtain ⟨p,hp⟩:∃ p,vs[j]? = some p:=⟨vs[j]'(by rw [m1];exact d2),by simp [m1,d2]⟩;obtain ⟨p',hp'⟩:∃ p,vs'[j]? = some p:=⟨vs'[j]'(by rw [zq];exact d2),by simp [zq,d2]⟩;obtain ⟨b1,b2⟩:=bq2 r (List.mem_of_getElem? hr);have U3:=M0 w5 ((m3 j r p hr hp).kz g5.kz) ((L9 j r p' hr hp').kz g5.kz) ⟨b1,b2⟩;rw [Bg] at U3;refine ⟨by kernel_rfl,⟨by omega,by omega⟩,_,_,hB5,.slice (some ⟨Q,qo,none⟩) o.2.length qc,by show cs.toList[off+(k:Int).toNat*2+1]? = _;rw [Int.toNat_natCast];exact e2,⟨by omega,by omega⟩,_,_,g5.get hQ nofun,dU r p.1 p.2,by show aL ql.toList (qo+(j:Int).toNat*7) 7=_;rw [Int.toNat_natCast];exact (Fz.elem hqc d2).trans (Ko hr hp),rfl,⟨by omega,by omega⟩,_,_,ad9,.slice (some ⟨Q',qo',none⟩) o.2.length qz,by show cs'.toList[off'+(k:Int).toNat*2+1]? = _;rw [Int.toNat_natCast];exact e2',⟨by omega,by omega⟩,_,_,g5.get hQ' nofun,dU r p'.1 p'.2,by show aL ql'.toList (qo'+(j:Int).toNat*7) 7=_;rw [Int.toNat_natCast];exact (Fz.elem aea d2).trans (Ko hr hp'),rfl,_,U3,?_⟩;rintro _ w6 ⟨rfl,g6⟩;exact ⟨⟨by omega,by omega⟩,_,_,⟨j+1,rfl,by omega,rfl,g5.trans g6⟩,⟨rfl,rfl,rfl,rfl,trivial⟩,by omega⟩
 ·exact ⟨_,by exact ⟨rfl,rfl,rfl,trivial⟩,rfl,g5⟩
theorem Rl {l:List Int} {k:Nat} {x:Int} (h:l[k]? = some x):aL (l.map λ i=>Value.int .u32 i) (k*1) 1=[Value.int .u32 x]:=by
 have hk:k<l.length:=(List.getElem?_eq_some_iff.1 h).1;unfold aL;rw [Nat.mul_one,<- List.map_drop,<- List.map_take,List.take_one,List.head?_drop,h];rfl
theorem Rm {l:List Value} {d:Nat} {a:Value} (h:aL l d 1=[a]):l[d]? = some a:=by
 have h0:=congrArg (λ l=>l[0]?) h;unfold aL at h0;simp only [List.getElem?_take,List.getElem?_drop] at h0;simpa using h0
theorem OY (w:World) {s:St} {v1 v2:Value} (h1:ZE w v1 s) (h2:ZE w v2 s) (hb:StB s):ag Tryz.prog 29 #[v1,v2] w (λ x w'=>x=.bool true/\GB none w w'):=by
 obtain ⟨T,M,D,O,I,rfl,h1⟩:=h1;obtain ⟨T',M',D',O',I',rfl,h2⟩:=h2;have h1':=h1;have h2':=h2;obtain ⟨ta,tc,rfl,t1,t2,t3⟩:=h1.T;obtain ⟨ta',tc',rfl,t1',t2',t3'⟩:=h2.T;obtain ⟨ma,mc,rfl,p1,p2,p3⟩:=h1.M;obtain ⟨ma',mc',rfl,p1',p2',p3'⟩:=h2.M;obtain ⟨da,dc,rfl,d1,d2,d3⟩:=h1.D;obtain ⟨pI,pJ,rfl,d1',d2',d3'⟩:=h2.D;obtain ⟨ia,ic,rfl,i1,i2,i3⟩:=h1.I;obtain ⟨ia',ic',rfl,i1',i2',i3'⟩:=h2.I;obtain ⟨oa,oc,rfl⟩:∃ a c,O=.slice a s.O.length c:=by obtain ⟨qs,_,⟨a,c,h,_⟩,_⟩:=h1.O;exact ⟨a,c,h⟩
 obtain ⟨U9,Va,rfl⟩:∃ a c,O'=.slice a s.O.length c:=by obtain ⟨qs,_,⟨a,c,h,_⟩,_⟩:=h2.O;exact ⟨a,c,h⟩
 have hb0:=hb;obtain ⟨bT,bM,bD,bO,bI,_⟩:=hb;refine uY ah Tryz.func29 rfl rfl ?_;obtain ⟨X1,hX1⟩:∃ X:List Value,X=[.int .u8 s.g,.int .u8 s.n,.slice ta s.T.length tc,.slice ma s.M.length mc,.slice da s.D.length dc,.slice oa s.O.length oc,.slice ia s.I.length ic]:=⟨_,rfl⟩;obtain ⟨X2,hX2⟩:∃ X:List Value,X=[.int .u8 s.g,.int .u8 s.n,.slice ta' s.T.length tc',.slice ma' s.M.length mc',.slice pI s.D.length pJ,.slice U9 s.O.length Va,.slice ia' s.I.length ic']:=⟨_,rfl⟩;refine CS.piece (Q:=λ q w2=>∃ b1 b2,q=[(2,Ptt b1),(3,Ptt b2)]/\w2.heap[b1]? = some (.cells X1.toArray 31)/\w2.heap[b2]? = some (.cells X2.toArray 31)/\GB none w w2) (CS.of ah mixed ?_) ?_
 ·refine λ w1 b1 m1 g1 l1 w2 b2 m2 g2 l2=>?_
  exact ⟨_,by exact ⟨rfl,rfl,trivial⟩,b1,b2,rfl,by rw [hX1];exact g2.get m1 nofun,by rw [hX2];exact m2,g1.trans g2⟩
 rintro q w2 ⟨b1,b2,rfl,m1,m2,G⟩;subst hX1;subst hX2;refine CS.piece (Q:=λ q w'=>q=[(2,Ptt b1),(3,Ptt b2)]/\w'=w2) (CS.of ah mixed ?_) ?_
 ·refine ⟨_,_,m1,_,rfl,_,_,m2,_,rfl,aj (λ _=>?_) (λ e=>rA e)⟩
  refine ⟨_,_,m1,_,rfl,_,_,m2,_,rfl,aj (λ _=>?_) (λ e=>rA e)⟩;refine ⟨_,_,m1,_,rfl,_,_,m2,_,rfl,aj (λ _=>?_) (λ e=>rA e)⟩;refine ⟨_,_,m1,_,rfl,_,_,m2,_,rfl,aj (λ _=>?_) (λ e=>rA e)⟩;refine ⟨_,_,m1,_,rfl,_,_,m2,_,rfl,aj (λ _=>?_) (λ e=>rA e)⟩;refine ⟨_,_,m1,_,rfl,_,_,m2,_,rfl,aj (λ _=>?_) (λ e=>rA e)⟩;refine ⟨_,_,m1,_,rfl,_,_,m2,_,rfl,aj (λ e=>F8 e) (λ _=>?_)⟩;exact ⟨_,by exact ⟨rfl,rfl,trivial⟩,rfl,rfl⟩
 rintro q w2 ⟨rfl,rfl⟩;refine CS.piece (Q:=λ q w'=>q=[(2,Ptt b1),(3,Ptt b2)]/\w'=w2) (CS.of ah mixed ?_) ?_
 ·refine ⟨λ q s0 w3=>∃ k:Nat,q=s.T.length - k/\k<=s.T.length/\s0=[(2,Ptt b1),(3,Ptt b2),(5,.int .i64 k)]/\w3=w2,⟨_,_,⟨0,rfl,Nat.zero_le _,rfl,rfl⟩,rfl,rfl,rfl,trivial⟩,?_⟩
  rintro q s0 w2 ⟨k,rfl,hk,rfl,rfl⟩;refine ⟨_,_,m1,_,rfl,aj (λ e=>?_) (λ e=>?_)⟩
  ·have hd:k<s.T.length:=by have:=of_decide_eq_true e;omega
   rcases t3 with ⟨_,h0⟩ | ⟨B,off,cs,rfl,hB,hcut⟩
   ·omega
   rcases t3' with ⟨_,h0⟩ | ⟨B',off',cs',rfl,hB',hcut'⟩
   ·omega
   obtain ⟨x,hx⟩:∃ x,s.T[k]? = some x:=⟨s.T[k],by simp [hd]⟩;refine ⟨by kernel_rfl,_,_,m1,_,rfl,⟨by omega,by omega⟩,_,_,G.get hB nofun,x.cells,(Fz.elem hcut hd).trans (EU hx),rfl,_,_,m2,_,rfl,⟨by omega,by omega⟩,_,_,G.get hB' nofun,x.cells,(Fz.elem hcut' hd).trans (EU hx),rfl,aj (λ d=>?_) (λ d=>?_)⟩
   ·exact absurd (show (!(gU x x))=true from d) (by rw [Bf];decide)
   ·exact ⟨⟨by omega,by omega⟩,_,_,⟨k+1,rfl,by omega,rfl,rfl⟩,⟨rfl,rfl,rfl,trivial⟩,by omega⟩
  ·exact ⟨_,by exact ⟨rfl,rfl,trivial⟩,rfl,rfl⟩
 rintro q w2 ⟨rfl,rfl⟩;refine CS.piece (Q:=λ q w'=>q=[(2,Ptt b1),(3,Ptt b2)]/\w'=w2) (CS.of ah mixed ?_) ?_
 ·refine ⟨λ q s0 w3=>∃ k:Nat,q=s.M.length - k/\k<=s.M.length/\s0=[(2,Ptt b1),(3,Ptt b2),(6,.int .i64 k)]/\w3=w2,⟨_,_,⟨0,rfl,Nat.zero_le _,rfl,rfl⟩,rfl,rfl,rfl,trivial⟩,?_⟩
  rintro q s0 w2 ⟨k,rfl,hk,rfl,rfl⟩;refine ⟨_,_,m1,_,rfl,aj (λ e=>?_) (λ e=>?_)⟩
  ·have hd:k<s.M.length:=by have:=of_decide_eq_true e;omega
   rcases p3 with ⟨_,h0⟩ | ⟨B,off,cs,rfl,hB,hcut⟩
   ·omega
   rcases p3' with ⟨_,h0⟩ | ⟨B',off',cs',rfl,hB',hcut'⟩
   ·omega
   obtain ⟨x,hx⟩:∃ x,s.M[k]? = some x:=⟨s.M[k],by simp [hd]⟩;refine ⟨by kernel_rfl,_,_,m1,_,rfl,⟨by omega,by omega⟩,_,_,G.get hB nofun,x.cells,(Fz.elem hcut hd).trans (VX hx),rfl,_,_,m2,_,rfl,⟨by omega,by omega⟩,_,_,G.get hB' nofun,x.cells,(Fz.elem hcut' hd).trans (VX hx),rfl,aj (λ d=>?_) (λ d=>?_)⟩
   ·exact absurd (show (!(Kq x x))=true from d) (by rw [Lg];decide)
   ·exact ⟨⟨by omega,by omega⟩,_,_,⟨k+1,rfl,by omega,rfl,rfl⟩,⟨rfl,rfl,rfl,trivial⟩,by omega⟩
  ·exact ⟨_,by exact ⟨rfl,rfl,trivial⟩,rfl,rfl⟩
 rintro q w2 ⟨rfl,rfl⟩;refine CS.piece (Q:=λ q w'=>q=[(2,Ptt b1),(3,Ptt b2)]/\w'=w2) (CS.of ah mixed ?_) ?_
 ·refine ⟨λ q s0 w3=>∃ k:Nat,q=s.D.length - k/\k<=s.D.length/\s0=[(2,Ptt b1),(3,Ptt b2),(7,.int .i64 k)]/\w3=w2,⟨_,_,⟨0,rfl,Nat.zero_le _,rfl,rfl⟩,rfl,rfl,rfl,trivial⟩,?_⟩
  rintro q s0 w2 ⟨k,rfl,hk,rfl,rfl⟩;refine ⟨_,_,m1,_,rfl,aj (λ e=>?_) (λ e=>?_)⟩
  ·have hd:k<s.D.length:=by have:=of_decide_eq_true e;omega
   rcases d3 with ⟨_,h0⟩ | ⟨B,off,cs,rfl,hB,hcut⟩
   ·omega
   rcases d3' with ⟨_,h0⟩ | ⟨B',off',cs',rfl,hB',hcut'⟩
   ·omega
   obtain ⟨x,hx⟩:∃ x,s.D[k]? = some x:=⟨s.D[k],by simp [hd]⟩;refine ⟨by kernel_rfl,_,_,m1,_,rfl,⟨by omega,by omega⟩,_,_,G.get hB nofun,x.cells,(Fz.elem hcut hd).trans (Aw hx),rfl,_,_,m2,_,rfl,⟨by omega,by omega⟩,_,_,G.get hB' nofun,x.cells,(Fz.elem hcut' hd).trans (Aw hx),rfl,aj (λ d=>?_) (λ d=>?_)⟩
   ·exact absurd (show (!(dQ x x))=true from d) (by rw [Cu];decide)
   ·exact ⟨⟨by omega,by omega⟩,_,_,⟨k+1,rfl,by omega,rfl,rfl⟩,⟨rfl,rfl,rfl,trivial⟩,by omega⟩
  ·exact ⟨_,by exact ⟨rfl,rfl,trivial⟩,rfl,rfl⟩
 rintro q w2 ⟨rfl,rfl⟩;refine CS.piece (Q:=λ q w'=>q=[(2,Ptt b1),(3,Ptt b2)]/\w'=w2) (CS.of ah mixed ?_) ?_
 ·refine ⟨λ q s0 w3=>∃ k:Nat,q=s.I.length - k/\k<=s.I.length/\s0=[(2,Ptt b1),(3,Ptt b2),(8,.int .i64 k)]/\w3=w2,⟨_,_,⟨0,rfl,Nat.zero_le _,rfl,rfl⟩,rfl,rfl,rfl,trivial⟩,?_⟩
  rintro q s0 w2 ⟨k,rfl,hk,rfl,rfl⟩;refine ⟨_,_,m1,_,rfl,aj (λ e=>?_) (λ e=>?_)⟩
  ·have hd:k<s.I.length:=by have:=of_decide_eq_true e;omega
   rcases i3 with ⟨_,h0⟩ | ⟨B,off,cs,rfl,hB,hcut⟩
   ·omega
   rcases i3' with ⟨_,h0⟩ | ⟨B',off',cs',rfl,hB',hcut'⟩
   ·omega
   obtain ⟨x,hx⟩:∃ x,s.I[k]? = some x:=⟨s.I[k],by simp [hd]⟩;have e1:=Rm ((Fz.elem hcut hd).trans (Rl hx));have e2:=Rm ((Fz.elem hcut' hd).trans (Rl hx));refine ⟨by kernel_rfl,_,_,m1,_,rfl,⟨by omega,by omega⟩,_,_,G.get hB nofun,.int .u32 x,by show cs.toList[off+(k:Int).toNat*1]? = _;rw [Int.toNat_natCast];exact e1,_,_,m2,_,rfl,⟨by omega,by omega⟩,_,_,G.get hB' nofun,.int .u32 x,by show cs'.toList[off'+(k:Int).toNat*1]? = _;rw [Int.toNat_natCast];exact e2,aj (λ d=>F8 d) (λ d=>?_)⟩;exact ⟨⟨by omega,by omega⟩,_,_,⟨k+1,rfl,by omega,rfl,rfl⟩,⟨rfl,rfl,rfl,trivial⟩,by omega⟩
  ·exact ⟨_,by exact ⟨rfl,rfl,trivial⟩,rfl,rfl⟩
 rintro q w2 ⟨rfl,rfl⟩;refine CS.of ah mixed ?_;refine ⟨_,_,m1,_,rfl,_,_,m2,_,rfl,_,OX w2 (h1'.kz G.kz) (h2'.kz G.kz) hb0,?_⟩;rintro _ w3 ⟨rfl,g3⟩;exact ⟨rfl,G.trans g3⟩
def Kr (P:Program) (Post:Value->World->Prop) (m:Machine) (t:Trace):Prop:=∃ N last o w' t',runNT P (N+1) m t=(.ended o w',t')/\runN P N m=.next last/\Go.step P last=.ended o w'/\Go.Conc.Good P Post last o w' t'
theorem XL {P:Program} {i k:Nat} {m m' last:Machine} {t t':Trace} (h:runNT P i m t=(.next m',t')) (h2:runN P k m'=.next last):runN P (i+k) m=.next last:=by
 rw [<- runNT_fst _ _ _ t,tZ i k h,runNT_fst,h2]
theorem XM {P:Program} {Post:Value->World->Prop} {m:Machine} {t:Trace} (h:Reaches P (Kr P Post) m t):Kr P Post m t:=by
 obtain ⟨i,m',t',h1,N,last,o,w',t2,h2,h3,h4,h5⟩:=h;exact ⟨i+N,last,o,w',t2,(tZ i (N+1) h1).trans h2,XL h1 h3,h4,h5⟩
theorem XN {P:Program} {Post:Value->World->Prop} {g:Goroutine} {w:World} (hr:g.status=.running) {v:Value} (hs:∀ w,stepG P true g w=.ended (.done v) w #[]) (hp:∀ w₁,cz w w₁->Post v w₁):XR P (Kr P Post) g w:=by
 intro w₁ h1 gs sl t q h0 hL hP;obtain ⟨B,hP⟩:=hP;refine Reaches.here (beside_ends (n:=0) (D:=λ _ _ _=>False) (λ _ _ _ h=>h.elim) h0 hL.leavers hP (Goes.stop λ w₂ h2=>⟨hr,v,#[],hs w₂,by simp,hp w₂ (jv _ _ _ h1 (xY h2))⟩))
theorem UH {P:Program} {Post:Value->World->Prop} {g:Goroutine} {w:World} (h:XR P (Kr P Post) g w):Kr P Post (crowd #[g] w none) #[] :=
 XM (h w (xX w) #[g] none #[] (λ _=>0) rfl ⟨λ i x hi hx=>absurd ((Array.getElem?_eq_some_iff.1 hx).1) (by simp;omega),λ _ _=>rfl⟩ ⟨0,past_nil⟩)
theorem Ro {P:Program} {fr:Frame} {w:World} {v:Value} {t:Tmp} {fn:Func} (hfn:P.funcs[fr.fn]? = some fn) (hin:P.inits.idxOf? fr.fn=none) (hres:fn.results = #[.tmp t]) (hl:fr.leaving P w (.returned v)) (w₁:World):stepG P true (G fr []) w₁=.ended (.done v) w₁ #[]:=by
 obtain ⟨hm,hd,hk,fn',hfn',hr⟩:=hl;obtain rfl:fn'=fn:=Option.some.inj (hfn'.symm.trans hfn);generalize hu:fr.tmps.getD t undef=u;have e:results fn' fr.tmps=(pure u:Sem Value):=by rw [<- hu];simp [results,hres]
 rw [e] at hr;have hr2:(Result.ok u w:Result Value)=.ok v w:=hr;injection hr2 with hv _;subst hv;have e2:Sem.runT P (pure u:Sem Value) w₁ #[]=(.ok u w₁,#[]):=rfl;simp only [G,stepG,unwind,doReturn,hm,hd,hk,hfn,e,e2,hin,seen_none];rfl
noncomputable def aeb (z:Nat×Nat):lH Tryz.prog:={ ah with PR:=λ _=>z }
def FzZ (w:World) (size:Nat) (v:Value) (n:Nat) (xs:List Value):Prop:=∃ a c,v=.slice a n c/\n<=c/\xs.length=n*size/\(n=0\/∃ b off cs ty z,a=some ⟨b,off,none⟩/\w.heap[b]? = some (.cells cs ty z)/\aL cs.toList off (n*size)=xs)
structure Rp (A:aT):Prop where
 sb:∀ {k} s,A.good k s->StB s
theorem XO {l:List Stp} {k:Nat} {t:Stp} (h:l[k]? = some t):aL (l.map Stp.cells).flatten (k*11) 11=t.cells:=by
 rw [<- List.flatMap_def];exact jG (f:=Stp.cells) (λ _=>rfl) l k t h
end
end Go.Proofs.YtignemioillaiaaGreat
