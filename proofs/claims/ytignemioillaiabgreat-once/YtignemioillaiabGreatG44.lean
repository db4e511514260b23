/- Lemmas. -/
import Derived.Test.YtignemioillaiabGreatG43
import Derived.Conc.Holds
namespace Go.Proofs.YtignemioillaiabGreat
set_option maxHeartbeats 8000000
set_option linter.unusedSectionVars false
set_option maxRecDepth 100000
open List
section
open Go Go.Conc
def Sit.rounds(A:aI):Nat->Sit->Sit
 |0,S=>S
 |n+1,S=>(S.rounds A n).round A
def Hu:aW:=⟨2,9,1,5,0,0,0⟩
def Hy:ag:=⟨2,9,5,1,false,0,0⟩
def Hz(A:aI)(sz:Nat):Sit:=((((Sit.new A 1 sz).rounds A 15).sends A Hu 0 0).round A).round A
def UZ(A:aI)(sz:Nat):Bool:=(nE A (Hz A sz).C.q).2&&(!(Hz A sz).bad&&(nE A (Hz A sz).C.q).1.any λx=>dQ x.1 Hy)
structure HY(A:aI):Prop where
 gc:A.gc (fM Hu)
 live:∀f,f<=2->UZ A (2*f+1)=true
 room:∀f,f<=2->((Sit.new A 1 (2*f+1)).rounds A 15).C.q.length<20000
theorem dX.snap{w w':World}{bs:Nat}{S:Sit}(h:dX (fQ w) bs S w'):GB none w w':=by
 obtain⟨_,_,_,_,_,_,h⟩:=h;have kp:∀x,x<w.heap.size->w'.heap[x]?=w.heap[x]?:=λx hx=>by
  obtain⟨o,ho⟩:∃o,w.heap[x]?=some o:=⟨w.heap[x],by simp[hx]⟩;exact(h.pr x o ho).1.trans ho.symm
 refine⟨h.os,h.out,?_,λx hx _=>kp x hx⟩;by_cases h0:w.heap.size=0
 .omega
 .have h1:=kp (w.heap.size-1) (by omega)
  obtain⟨o,ho⟩:∃o,w.heap[w.heap.size-1]?=some o:=⟨w.heap[w.heap.size-1]'(by omega),by simp[show w.heap.size-1<w.heap.size by omega]⟩;rw[ho]at h1;have:=ae h1;omega
theorem aeQ{l:List (ag×Nat)}{k:Nat}{x:ag×Nat}(h:l[k]?=some x){cur:List Value}(ht:cur.take (l.length*8)=(l.map yc).flatten):aG cur (k*8) 7=x.1.cells:=by
 have h1:=jb (f:=yc) (size:=8) (λ_=>rfl) l k x h;have hk:k<l.length:=(Jcn.1 h).1;have h2:aG cur (k*8) 8=yc x:=by
  rw[<-h1,Jfx,<-ht];unfold aG;rw[Jfj,Jd5,Jd7 (by omega)]
 have h3:aG cur (k*8) 7=(aG cur (k*8) 8).take 7:=by unfold aG;rw[Jd5];rfl
 rw[h3,h2];rfl
section
variable{A:aI}(HA:bG A)(HN:dS A)
include HA HN
theorem Sit.aK.new{n sz:Nat}(hn:1<=n/\n<=4)(hN:n=A.N)(hz:1<=sz/\sz<=5):(Sit.new A n sz).aK A:=⟨aJ.aK.new HA HN hn.2 hN hz.2,hn.1,hz.1,by simp[Sit.new,aJ.new],by simp[Sit.new,aJ.new],by simp[Sit.new,aJ.new],by simp[Sit.new]⟩
theorem Sit.aK.rounds{S:Sit}(h:S.aK A):∀n,(S.rounds A n).aK A
 |0=>h
 |n+1=>(Sit.aK.rounds h n).round HA HN
variable(HL:uD A)(HV:HY A)
theorem Sit.YW(S:Sit):∀n,(S.all A n).C.n=S.C.n/\(S.all A n).C.sz=S.C.sz:=by
 intro n;induction n generalizing S with
 |zero=>exact⟨rfl,rfl⟩
 |succ n ih =>
  unfold Sit.all;split
  .exact⟨(ih (S.one A)).1.trans (aJ.jv A S.C _).1,(ih (S.one A)).2.trans (aJ.jv A S.C _).2⟩
  .exact⟨rfl,rfl⟩
theorem Sit.PS(S:Sit):(S.round A).C.n=S.C.n/\(S.round A).C.sz=S.C.sz:=⟨(Sit.YW HA HN _ _).1.trans (Sit.zA S _).1,(Sit.YW HA HN _ _).2.trans (Sit.zA S _).2⟩
theorem Sit.Fv(S:Sit):∀n,(S.rounds A n).C.n=S.C.n/\(S.rounds A n).C.sz=S.C.sz
 |0=>⟨rfl,rfl⟩
 |n+1=>⟨(Sit.PS HA HN _).1.trans (Sit.Fv S n).1,(Sit.PS HA HN _).2.trans (Sit.Fv S n).2⟩
include HL HV
theorem aax(hN:A.N=1)(w:World)(f:Nat)(hf:f<=2):lV Tryz.prog 51 #[.int .i64 (2*f+1:Nat)] w (λv w'=>v=.bool true/\GB none w w'):=by
 have hlive:=HV.live f hf;have Sy:(Sit.new A 1 (2*f+1)).aK A:=Sit.aK.new HA HN ⟨by decide,by decide⟩ hN.symm ⟨by omega,by omega⟩;refine Mt fG Tryz.func51 rfl rfl ?_;refine aM.piece (Q:=λq w'=>q=[(0,.int .i64 (2*f+1:Nat))]/\w'=w) (aM.e ⟨_,by exact sb rfl,rfl,rfl⟩) ?_;rintro q w ⟨rfl,rfl⟩;refine aM.piece (Q:=λq w1=>∃bs,q=[(3,Ptt bs),(4,.bool true)]/\dX (fQ w) bs (Sit.new A 1 (2*f+1)) w1) (aM.e ?_) ?_
 .refine⟨_,(UQ HA w 1 f ⟨by decide,by decide⟩ hf).x,?_⟩
  rintro _ w1 ⟨bs,rfl,_,h1,k1⟩;exact⟨_,by exact sb rfl,bs,rfl,h1⟩
 rintro q w1 ⟨bs,rfl,h1⟩;obtain⟨N0,hN0⟩:∃S,S=Sit.new A 1 (2*f+1):=⟨_,rfl⟩;have hsz0:N0.C.n=1/\N0.C.sz=2*f+1:=by rw[hN0];exact⟨rfl,rfl⟩
 have hroom:=HV.room f hf;have hlv:Hz A (2*f+1)=(((N0.rounds A 15).sends A Hu 0 0).round A).round A:=by rw[hN0];rfl
 rw[<-hN0]at h1 Sy hroom;refine aM.piece (Q:=λq w2=>q=[(3,Ptt bs),(4,.bool true)]/\dX (fQ w) bs (N0.rounds A 15) w2) ?_ ?_
 .refine aM.piece (Q:=λq w'=>q=[(3,Ptt bs),(4,.bool true),(5,.int .i64 0)]/\w'=w1) (aM.e ⟨_,by exact sb rfl,rfl,rfl⟩) ?_
  rintro q w1 ⟨rfl,rfl⟩;refine aM.block ?_;refine aM.loop (λm s wk=>∃i:Nat,m=15-i/\i<=15/\s=[(3,Ptt bs),(4,.bool true),(5,.int .i64 i)]/\dX (fQ w) bs (N0.rounds A i) wk) ⟨_,_,⟨0,rfl,Jcm _,rfl,h1⟩,sb rfl⟩ ?_;rintro m s wk ⟨i,rfl,hi,rfl,hS⟩;refine aM.cut (Qn:=λq w'=>i<15/\q=[(3,Ptt bs),(4,.bool true),(5,.int .i64 i)]/\w'=wk) (Qx:=λj q w'=>j=0/\i=15/\q=[(3,Ptt bs),(4,.bool true)]/\w'=wk) (Qr:=λ_ _=>False) (aM.e ?_) ?_ ?_ (λ_ _ _ h _=>h.elim)
  .refine ah (λc=>?_) (λc=>?_)
   .exact⟨_,by exact sb rfl,by simp at c;omega,rfl,rfl⟩
   .exact⟨_,by exact sb rfl,rfl,by simp at c;omega,rfl,rfl⟩
  rotate_left
  .rintro j q s w' ⟨rfl,e,rfl,rfl⟩ hs
   exact⟨_,hs,rfl,by rw[<-e];exact hS⟩
  rintro q wk ⟨c1,rfl,rfl⟩;have PK:=Sit.aK.rounds HA HN Sy i;refine aM.piece (Q:=λq w'=>q=[(3,Ptt bs),(4,.bool true),(5,.int .i64 i)]/\dX (fQ w) bs (N0.rounds A (i+1)) w') ?_ ?_
  .refine aM.block (aM.e ?_)
   refine⟨_,IX HA HN hS PK.cl PK.sz,?_⟩;rintro _ w2 ⟨rfl,h2,k2⟩;exact⟨_,by exact sb rfl,rfl,h2⟩
  .rintro q w' ⟨rfl,h'⟩
   refine aM.e ?_;exact⟨by omega,_,_,⟨i+1,rfl,by omega,rfl,h'⟩,(sb rfl),by omega⟩
 rintro q w2 ⟨rfl,h2⟩;have RQ:=Sit.aK.rounds HA HN Sy 15;obtain⟨r1,r2⟩:=Sit.Fv HA HN N0 15;have hg0:0<(N0.rounds A 15).C.n:=by rw[r1,hsz0.1];decide
 have hi0:0<(N0.rounds A 15).C.sz:=by rw[r2,hsz0.2];omega
 have TB:=Sit.aK.sends HA HN HL RQ HV.gc hg0 hi0 hroom;have hFr:=TB.round HA HN;generalize N0.rounds A 15=S15 at *;refine aM.piece (Q:=λq w'=>q=[(3,Ptt bs)]/\w'=w2) (aM.e ⟨_,by exact sb rfl,rfl,rfl⟩) ?_;rintro q w2 ⟨rfl,rfl⟩;refine aM.piece (Q:=λq w3=>q=[(3,Ptt bs)]/\dX (fQ w) bs (S15.sends A Hu 0 0) w3) (aM.e ?_) ?_
 .have hak:=RQ.ak
  have hlen:=RQ.cl.len;refine⟨_,(PI HL h2 RQ.cl HV.gc hg0 hi0 (by omega)).x,?_⟩;rintro _ w3 ⟨rfl,h3,k3⟩;exact⟨_,by exact sb rfl,rfl,h3⟩
 rintro q w3 ⟨rfl,h3⟩;refine aM.piece (Q:=λq w4=>q=[(3,Ptt bs),(6,.bool true)]/\dX (fQ w) bs ((S15.sends A Hu 0 0).round A) w4) (aM.e ?_) ?_
 .refine⟨_,IX HA HN h3 TB.cl TB.sz,?_⟩
  rintro _ w4 ⟨rfl,h4,k4⟩;exact⟨_,by exact sb rfl,rfl,h4⟩
 rintro q w4 ⟨rfl,h4⟩;obtain⟨L,hL⟩:∃L,L=Hz A (2*f+1):=⟨_,rfl⟩;rw[hlv]at hL;refine aM.piece (Q:=λq w5=>q=[(3,Ptt bs),(6,.bool true),(7,.bool true)]/\dX (fQ w) bs L w5) (aM.e ?_) ?_
 .refine⟨_,IX HA HN h4 hFr.cl hFr.sz,?_⟩
  rintro _ w5 ⟨rfl,h5,k5⟩;exact⟨_,by exact sb rfl,rfl,by rw[hL];exact h5⟩
 rintro q w5 ⟨rfl,h5⟩;have hFL:L.aK A:=by rw[hL];exact hFr.round HA HN
 have hal:((nE A L.C.q).2&&(!L.bad&&(nE A L.C.q).1.any λx=>dQ x.1 Hy))=true:=by
  have:=hlive;unfold UZ at this;rw[hlv,<-hL]at this;exact this
 rw[Jdy,Jdy]at hal;obtain⟨a1,a2,a3⟩:=hal;have a2:L.bad=false:=by simpa using a2
 have htl:=PL HA h5 hFL.cl;generalize nE A L.C.q=TL at htl a1 a3;obtain⟨tl,ok⟩:=TL;have a1:ok=true:=a1;subst a1;have a3:tl.any (λx=>dQ x.1 Hy)=true:=a3;refine aM.piece (Q:=λq w6=>∃lv,q=[(3,Ptt bs),(6,.bool true),(7,.bool true),(8,lv),(9,.bool true)]/\w6.ownsRow 0 72 8 lv tl.length (tl.map yc).flatten/\dX (fQ w) bs L w6) (aM.e ?_) ?_
 .refine⟨_,htl.x,?_⟩
  rintro _ w6 ⟨⟨lv,rfl,ho⟩,g6⟩;exact⟨_,by exact sb rfl,lv,rfl,ho,h5.ay g6⟩
 rintro q w6 ⟨lv,rfl,ho,h6⟩;obtain⟨la,lc,rfl⟩:=af ho;have Mx:tl.length<=9223372036854775807:=by
  rcases ho.2 with⟨_,h0⟩|⟨g,cap,cur,e,h0,h2,h3,h4,_⟩
  .omega
  .unfold Go.maxLen at h4;omega
 have G6:=h6.snap;refine aM.cut (Qn:=λ_ _=>False) (Qx:=λ_ _ _=>False) (Qr:=λq w'=>q=[(2,.bool true)]/\GB none w w') ?_ (λ_ _ h=>h.elim) (λ_ _ _ _ h _=>h.elim) ?_;rotate_left
 .rintro q s w' ⟨rfl,g'⟩ hs
  exact qO hs ⟨rfl,g'⟩
 refine aM.piece (Q:=λq w'=>q=[(3,Ptt bs),(6,.bool true),(7,.bool true),(8,.slice la tl.length lc),(9,.bool true),(10,.int .i64 0)]/\w'=w6) (aM.e ⟨_,by exact sb rfl,rfl,rfl⟩) ?_;rintro q w6 ⟨rfl,rfl⟩;refine aM.block ?_;refine aM.loop (λm s wk=>∃k:Nat,m=tl.length-k/\k<=tl.length/\s=[(3,Ptt bs),(6,.bool true),(7,.bool true),(8,.slice la tl.length lc),(9,.bool true),(10,.int .i64 k)]/\wk=w6/\∀(j:Nat) (x:ag×Nat),j<k->tl[j]?=some x->dQ x.1 Hy=false) ⟨_,_,⟨0,rfl,Jcm _,rfl,rfl,λj x h=>by omega⟩,sb rfl⟩ ?_;rintro m s w6 ⟨k,rfl,hk,rfl,rfl,hno⟩;refine aM.cut (Qn:=λq w'=>k<tl.length/\q=[(3,Ptt bs),(6,.bool true),(7,.bool true),(8,.slice la tl.length lc),(9,.bool true),(10,.int .i64 k)]/\w'=w6) (Qx:=λ_ _ _=>False) (Qr:=λ_ _=>False) (aM.e ?_) ?_ (λ_ _ _ _ h _=>h.elim) (λ_ _ _ h _=>h.elim)
 .refine ah (λc=>?_) (λc=>?_)
  .exact⟨_,by exact sb rfl,by have:=Ptq c;omega,rfl,rfl⟩
  .exfalso
   have c1:k=tl.length:=by have:=Ptx c;omega
   obtain⟨x,hx,hp⟩:=any_eq_true.1 a3;obtain⟨j,hj⟩:=Jdf.1 hx;have:=hno j x (by have:=(Jcn.1 hj).1;omega) hj;rw[this]at hp;cases hp
 rintro q w6 ⟨c1,rfl,rfl⟩;obtain⟨x,hx⟩:∃x,tl[k]?=some x:=⟨tl[k],by simp[c1]⟩;obtain⟨gb,cap,cur,ev,aR,htk,hsz,hcap⟩:=j5 ho (by omega);injection ev with ev _ Uu;subst ev;subst Uu;have hel:=aeQ hx htk;refine aM.cut (Qn:=λq w'=>dQ x.1 Hy=false/\q=[(3,Ptt bs),(6,.bool true),(7,.bool true),(8,.slice (Pty gb) tl.length lc),(9,.bool true),(10,.int .i64 k)]/\w'=w6) (Qx:=λ_ _ _=>False) (Qr:=λq w'=>q=[(2,.bool true)]/\w'=w6) ?_ ?_ (λ_ _ _ _ h _=>h.elim) ?_
 .refine aM.block (aM.e ?_)
  obtain⟨_,_,_,_,_,_,h6⟩:=h6;refine⟨_,_,h6.si.mem,.bool false,by show(fD _ _ _)[8]?=_;unfold fD;rw[a2];rfl,by omega,_,_,aR,x.1.cells,by show aG cur.toList (0+(k:Int).toNat*8) 7=_;rw[Jbh,Jfa];exact hel,rfl,?_⟩;refine ah (λd=>?_) (λd=>?_)
  .exact⟨_,by exact sb rfl,rfl,rfl⟩
  .exact⟨_,by exact sb rfl,d,rfl,rfl⟩
 .rintro q w6 ⟨e,rfl,rfl⟩
  refine aM.e ?_;refine⟨by omega,_,_,⟨k+1,rfl,by omega,rfl,rfl,λj y hj hy=>?_⟩,(sb rfl),by omega⟩;by_cases ej:j=k
  .subst ej;rw[hx]at hy;cases hy;exact e
  .exact hno j y (by omega) hy
 .rintro q s w6 ⟨rfl,rfl⟩ hs
  exact⟨_,hs,rfl,G6⟩
theorem XB{B:aI}(HB:bG B)(hN:A.N=1)(w:World)(g f:Int)(hg:yg g)(hf:yg f):lV Tryz.prog 25 #[.int .i64 g,.int .i64 f] w (λv w'=>∃bs,v=.tuple #[Ptt bs,.bool true]/\dX (fQ w) bs (Sit.new B (1+bE g 4) (1+2*bE f 3)) w'/\Kz w w'):=by
 have lf:=jE f (show 0<3 by decide);have lg:=jE g (show 0<4 by decide);refine GQ fG mixed Tryz.func25 rfl rfl ?_;refine⟨_,(rA w f 3 (by decide) hf.1 hf.2).x,?_⟩;rintro _ w ⟨rfl,rfl⟩;refine⟨by omega,by omega,_,(rA w g 4 (by decide) hg.1 hg.2).x,?_⟩;rintro _ w ⟨rfl,rfl⟩;have hm:=UQ HB w (1+bE g 4) (bE f 3) ⟨by omega,by omega⟩ (by omega);have e1:((1+bE g 4:Nat):Int)=1+((bE g 4:Nat):Int):=by omega
 have e2:((2*bE f 3+1:Nat):Int)=1+2*((bE f 3:Nat):Int):=by omega
 rw[e1,e2]at hm;refine⟨by omega,_,hm.x,?_⟩;rintro _ w1 ⟨bs,rfl,_,h1,k1⟩;have ha:=aax HA HN HL HV hN w1 (bE f 3) (by omega);rw[e2]at ha;refine⟨_,ha,?_⟩;rintro _ w2 ⟨rfl,g2⟩;rw[show 2*bE f 3+1=1+2*bE f 3 by omega]at h1;exact⟨bs,rfl,h1.ay g2,k1.trans g2.kz⟩
end
structure Pl where
 bc:Nat
 a:zz
 (gv sv:Value)
 B:Nat->Nat->Nat
 ad:Nat->Nat->gD
open Classical in
section
variable{Λ Λ':bW}{w w':World}{bs bt:Nat}{S S' T:Sit}{p p' r:Pl}
end
section
variable{Λ:bW}{w w':World}{bs bt bu:Nat}{S S' T U:Sit}
end
section
variable{P:Program}[kD P](E:ng P)(n:Nat)(ops:Array Oper)(K:Sg->World->Prop)
end
section
variable{P:Program}[kD P]{main:Bool}{D:World->World->Array Event->Prop}{X:Goroutine->World->Prop}{b:Frame}{k:List Item}{cs:List Frame}{ops:Array Oper}{E:ng P}{n:Nat}{K:Sg->World->Prop}
end
def YX(o:Int×List Rg)(q:Value):List Value:=[Value.int .u32 o.1,q]
theorem YY:∀{O:List (Int×List Rg)} {qs:List Value} {k:Nat} {o:Int×List Rg} {q:Value},O[k]?=some o->qs[k]?=some q->aG (zipWith YX O qs).flatten (k*2) 2=YX o q
 | [],_,_,_,_,h,_=>by simp at h
 |_::_,[],_,_,_,_,h=>by simp at h
 |o::O,q::qs,0,_,_,h1,h2=>by
  simp at h1 h2;subst h1;subst h2;simp[aG,YX]
 |o::O,q::qs,k+1,_,_,h1,h2=>by
  have:=YY (O:=O) (qs:=qs) (k:=k) (by simpa using h1) (by simpa using h2);rw[<-this];unfold aG;rw[zipWith_cons_cons,Jfw,drop_append,Jgc (by show 2<=_;omega),nil_append,show(YX o q).length=2 from rfl,show(k+1)*2-2=k*2 by omega]
theorem Nl(x:Row):jX x x=true:=by simp[jX]
theorem Eu(x:ag):dQ x x=true:=by simp[dQ]
theorem U0(a:Rg):sU a a=true:=by
 have h1:oW jX a.rows a.rows=true:=xh λk x y _ h1 h2=>by rw[h1]at h2;cases h2;exact Nl x
 have h2:oW dQ a.aX a.aX=true:=xh λk x y _ h1 h2=>by rw[h1]at h2;cases h2;exact Eu x
 unfold sU;rw[h1,h2];simp

def Nn(P:Program)(Post:Value->World->Prop)(m:Machine)(t:Trace):Prop:=∃N last o w' t',runNT P (N+1) m t=(.ended o w',t')/\runN P N m=.next last/\Go.step P last=.ended o w'/\Go.Conc.Good P Post last o w' t'
theorem aay{P:Program}{i k:Nat}{m m' last:Machine}{t t':Trace}(h:runNT P i m t=(.next m',t'))(h2:runN P k m'=.next last):runN P (i+k) m=.next last:=by
 rw[<-runNT_fst _ _ _ t,vU i k h,runNT_fst,h2]
theorem aaz{P:Program}{Post:Value->World->Prop}{m:Machine}{t:Trace}(h:Reaches P (Nn P Post) m t):Nn P Post m t:=by
 obtain⟨i,m',t',h1,N,last,o,w',t2,h2,h3,h4,h5⟩:=h;exact⟨i+N,last,o,w',t2,(vU i (N+1) h1).trans h2,aay h1 h3,h4,h5⟩
theorem aaA{P:Program}{Post:Value->World->Prop}{g:Goroutine}{w:World}(hr:g.status=.running){v:Value}(hs:∀w,stepG P true g w=.ended (.done v) w #[])(hp:∀w₁,cO w w₁->Post v w₁):XR P (Nn P Post) g w:=by
 intro w₁ h1 gs sl t q h0 hL hP;obtain⟨B,hP⟩:=hP;refine Reaches.here (beside_ends (n:=0) (D:=λ_ _ _=>False) (λ_ _ _ h=>h.elim) h0 hL.leavers hP (Goes.stop λw₂ h2=>⟨hr,v,#[],hs w₂,by simp,hp w₂ (jS _ _ _ h1 (zL h2))⟩))
theorem XC{P:Program}{Post:Value->World->Prop}{g:Goroutine}{w:World}(h:XR P (Nn P Post) g w):Nn P Post (crowd #[g] w none) #[] :=
 aaz (h w (zK w) #[g] none #[] (λ_=>0) rfl ⟨λi x hi hx=>absurd ((Jbd.1 hx).1) (by simp;omega),λ_ _=>rfl⟩ ⟨0,past_nil⟩)
theorem U1{P:Program}{fr:Frame}{w:World}{v:Value}{t:Tmp}{fn:Func}(hfn:P.funcs[fr.fn]?=some fn)(hin:P.inits.idxOf? fr.fn=none)(hres:fn.results=#[.tmp t])(hl:fr.leaving P w (.returned v))(w₁:World):stepG P true (G fr []) w₁=.ended (.done v) w₁ #[]:=by
 obtain⟨hm,hd,hk,fn',hfn',hr⟩:=hl;obtain rfl:fn'=fn:=Jbm (hfn'.symm.trans hfn);generalize hu:fr.tmps.getD t undef=u;have e:results fn' fr.tmps=(pure u:Sem Value):=by rw[<-hu];simp[results,hres]
 rw[e]at hr;have hr2:(Result.ok u w:Result Value)=.ok v w:=hr;injection hr2 with hv _;subst hv;have e2:Sem.runT P (pure u:Sem Value) w₁ #[]=(.ok u w₁,#[]):=rfl;simp only[G,stepG,unwind,doReturn,hm,hd,hk,hfn,e,e2,hin,seen_none];rfl
noncomputable def ahz(z:Nat×Nat):ng Tryz.prog:={fG with Tp:=λ_=>z}
def FzZ(w:World)(size:Nat)(v:Value)(n:Nat)(xs:List Value):Prop:=∃a c,v=.slice a n c/\n<=c/\xs.length=n*size/\(n=0\/∃b off cs ty z,a=some ⟨b,off,none⟩/\w.heap[b]?=some (.cells cs ty z)/\aG cs.toList off (n*size)=xs)
theorem aaB{l:List Stp}{k:Nat}{t:Stp}(h:l[k]?=some t):aG (l.map Stp.cells).flatten (k*11) 11=t.cells:=by
 rw[<-Jfx];exact jb (f:=Stp.cells) (λ_=>rfl) l k t h
def bJ(N:Nat):aI:=⟨N,pW,cB,kS,nQ,cu N,iE N⟩
section
variable{N k:Nat}{s:St}{c:MC}
theorem aaC{m:List Pc}(h:jK m=true):m.length<=1000:=by
 unfold jK at h;simp only[Jdy,Jdr]at h;exact h.1.1.2
theorem cu.b2(h:cu N k s):Fq s:=by
 have:=h.vQ;exact⟨by have:=h.t;omega,by have:=h.d;omega,λo ho=>by
  obtain⟨a,b,c,_⟩:=h.o o ho;exact⟨by omega,by omega,by omega⟩⟩
theorem cu.ss(h:cu N k s):StS s:=by
 have:=h.vQ;have:=h.ok.ol;have:=h.ok.il;have:=h.ok.n4;exact⟨by have:=h.t;omega,by have:=h.d;omega,aaC h.ok.CJ,by omega,by omega,λo ho=>by
  obtain⟨a,b,c,d⟩:=h.o o ho;exact⟨by omega,λr hr=>⟨by have:=(d r hr).2.rl;omega,by have:=(d r hr).2.dl;omega⟩⟩⟩
theorem YZ(h:cu N k s)(hc:iE N c):U8 (cB s c).2.c:=by
 have z8:U8 0:=⟨Jfb 0,by decide⟩;have hd:U8 (dN s c.q).c:=(Ry h.tb hc.q).c;unfold cB;split
 .unfold iy
  split
  .exact z8
  split
  .exact hc.q.c
  split
  .split
   .rename_i x hx
    split
    .exact hd
    .split
     .exact(h.db x (Jcv hx)).c
     .exact hc.q.c
   .exact z8
  .exact hd
 .split
  .exact z8
  .split<;>exact z8
theorem RS(s:St)(q:aW):(fP s q).n=s.n/\(fP s q).g=s.g:=by
 unfold fP;split
 .exact⟨rfl,rfl⟩
 split
 .exact⟨rfl,rfl⟩
 split<;>exact⟨rfl,rfl⟩
theorem RU(s:St)(c:MC):(cB s c).1.n=s.n/\(cB s c).1.g=s.g:=by
 unfold cB;split
 .unfold iy
  split
  .exact⟨rfl,rfl⟩
  split
  .exact⟨rfl,rfl⟩
  split
  .split
   .split
    .exact RS _ _
    .split<;>exact⟨rfl,rfl⟩
   .exact⟨rfl,rfl⟩
  .exact RS _ _
 split
 .unfold mV
  split<;>exact⟨rfl,rfl⟩
 split
 .unfold lY
  split<;>exact⟨rfl,rfl⟩
 .exact⟨rfl,rfl⟩
theorem CW:U8 0:=⟨Jfb 0,by decide⟩
theorem Np:tq 0:=⟨Jfb 0,by decide⟩
theorem A7:iB 0:=⟨Jfb 0,by decide⟩
theorem RX:vG.b:=⟨CW,Np,CW,A7,A7,A7,CW⟩
theorem RY:uP.b:=⟨CW,CW,Np,A7,A7,nofun,nofun,Jcm _,Jcm _⟩
theorem iE.zero(N:Nat):iE N nu:=⟨CW,RX,RY,CW,Np,nofun,nofun⟩
theorem iE.recv{r:Rg}(h:r.b)(hs:r.src<N):iE N (lL r):=⟨⟨by show(0:Int)<=2;decide,by show(2:Int)<256;decide⟩,RX,h,CW,Np,λ_=>hs,λe=>absurd (show(2:Int)=1 from e) (by decide)⟩
theorem iE.ahA{p q:Int}(hp:U8 p)(hq:tq q):iE N (pU p q):=⟨⟨by show(0:Int)<=3;decide,by show(3:Int)<256;decide⟩,RX,RY,hp,hq,λe=>absurd (show(3:Int)=2 from e) (by decide),λe=>absurd (show(3:Int)=1 from e) (by decide)⟩
theorem iE.asks{q:aW}(h:q.b)(ho:fV q=true):iE N (fM q):=⟨⟨by show(0:Int)<=1;decide,by show(1:Int)<256;decide⟩,h,RY,CW,Np,λe=>absurd (show(1:Int)=2 from e) (by decide),λ_=>ho⟩
end
theorem aaD{g N:Nat}(hg:g<N)(hN:N<=4):cu N 0 (kS g N):=by
 refine⟨by decide,⟨by show(0:Int)<=g;omega,by show(g:Int)<N;omega,by show(N:Int)<=4;omega,Pairwise.nil,Pairwise.nil,(by decide:jK [⟨0,0⟩]=true),⟨rfl,by decide,by decide,trivial⟩,by show((replicate N _).length:Int)=_;rw[Jgr];rfl,by show((replicate N _).length:Int)=_;rw[Jgr];rfl⟩,rfl,Jb0 0,nofun,Jb0 0,nofun,λo ho=>?_,λx hx=>?_⟩
 .rw[(mem_replicate.1 ho).2]
  exact⟨by decide,by decide,by decide,nofun⟩
 .rw[(mem_replicate.1 hx).2]
  exact⟨by decide,by decide⟩
theorem CX(N:Nat):bG (bJ N) where
 nW:=λw v m h=>gU.mono' (AP h) λv' w' ⟨e,g⟩=>⟨⟨_,e⟩,g⟩
 call:=λw s c vT vM vD vO vI cv h hg hc hcc=>by
  have hg:cu N _ s:=hg;have hcc:iE N c:=hcc;have:=hg.vQ;have hq:=hcc.q;have hr:=hcc.r;exact Xm h hg.ok hg.b2 hg.ss (λx hx=>by have:=hg.i x hx;omega) hc ⟨⟨hq.key.1,by have:=hq.key.2;omega⟩,⟨hq.hi.1,by have:=hq.hi.2;omega⟩,hq.to.1⟩ ⟨hr.src.1,hr.lo.1,by have:=hr.hi.2;omega⟩ hcc.peer.1
 Kr:=λs c hk h hc=>cu.app h hk hc
 rep:=λs c h hc=>(YZ h hc).1
 src:=λs c h hc h2=>by
  have h:cu N _ s:=h;have hc:iE N c:=hc;have h3:=hc.src h2;have h4:=hc.r.src.1;have h5:=h.ok.il;have h6:=h.n;exact⟨h4,by omega⟩
 LZ:=iE.zero N
 parse:=Xr
 beg:=λw g n hg hn=>Xn w hg hn
 Ag:=λg n e hg hn=>by
  have e:n=N:=e;subst e;exact aaD hg hn
 dl:=λs h=>by
  have h:cu N _ s:=h;have:=h.vQ;have:=h.d;omega
 ol:=λs h=>by
  have h:cu N _ s:=h;have:=h.ok.ol;have:=h.ok.n4;omega
 L8:=λs h i x hx=>by
  have h:cu N _ s:=h;exact(h.i x (Jcv hx)).1
theorem U2(l:List Int):(uX l).size=l.length:=by
 rw[<-Um,zy];simp[dn]
theorem U3{q:aW}(h:fV q=true):mo (pF q)=true:=by
 unfold mo;rw[Jb6 (show(pF q).kind=1 from rfl),Jdy];exact⟨h,by rfl⟩
theorem U4(N:Nat):uD (bJ N) where
 mask:=λw q h=>by
  have h:iE N (fM q):=h;have e:mo (pF q)=true:=U3 (h.ask rfl);have:=AP (w:=w) (m:=pF q) ⟨_,_,_,_,_,rfl,aS.zero w,dC.zero w,aS.zero w⟩;rw[Jb6 e]at this;exact this
 small:=λq h=>by
  show(pW _).size<=_;unfold pW;split
  .rw[U2]
   have:=Mh q;show([(1:Int)]++vg q).length<=1000;simp only[Jc6,Jfz];omega
  .exact Jcm _
/- What is read is bounded. -/
theorem sV{β:Type}{k:Nat}{l:List Nat}{f:Nat->List Nat->β}{P:β->Prop}(hl:∀x∈l,x<256)(h:∀x l',x<256^k->(∀y∈l',y<256)->P (f x l')):P (nx k l f):=h _ _ (GV hl) (W9 hl)
theorem n8{x:Nat}(h:x<256^1):U8 x:=⟨by omega,by omega⟩
theorem n32{x:Nat}(h:x<256^4):tq x:=⟨by omega,by omega⟩
theorem n64{x:Nat}(h:x<256^8):iB x:=⟨by omega,by omega⟩
theorem aeR{l:List Nat}(hl:∀x∈l,x<256):(qG l).1.b:=by
 unfold qG;refine sV (P:=λz:aW×List Nat=>z.1.b) hl λc l hc hl=>sV (P:=λz:aW×List Nat=>z.1.b) hl λs l hs hl=>sV (P:=λz:aW×List Nat=>z.1.b) hl λk l hk hl=>sV (P:=λz:aW×List Nat=>z.1.b) hl λkey l hkey hl=>?_
 split
 .exact sV (P:=λz:aW×List Nat=>z.1.b) hl λv l hv hl=>⟨n8 hc,n32 hs,n8 hk,n64 hkey,n64 hv,A7,CW⟩
 split
 .exact sV (P:=λz:aW×List Nat=>z.1.b) hl λhi l hhi hl=>sV (P:=λz:aW×List Nat=>z.1.b) hl λto l hto hl=>⟨n8 hc,n32 hs,n8 hk,n64 hkey,A7,n64 hhi,n8 hto⟩
 .exact⟨n8 hc,n32 hs,n8 hk,n64 hkey,A7,A7,CW⟩
theorem aeS{l:List Nat}(hl:∀x∈l,x<256):(iN l).1.n<=4294967295:=by
 unfold iN;refine sV (P:=λz:bH×List Nat=>z.1.n<=4294967295) hl λn l hn hl=>?_
 show n<=4294967295;omega
theorem aeT{l:List Nat}(hl:∀x∈l,x<256):(dV l).1.b.n<=4294967295/\((dV l).1.kind=1->(dV l).1.q.b):=by
 unfold dV;refine sV (P:=λz:MM×List Nat=>z.1.b.n<=4294967295/\(z.1.kind=1->z.1.q.b)) hl λk l hk hl=>?_
 by_cases h:k=1
 .rw[Jb6 h]
  exact⟨Jcm _,λ_=>aeR hl⟩
 rw[Jb5 h];have hb:=aeS hl;have no:(aL (k:Int)).kind=1->False:=λe=>h (by have:(k:Int)=1:=e;omega)
 split
 .exact⟨Jcm _,λe=>(no e).elim⟩
 split
 .exact⟨hb,λe=>(no e).elim⟩
 split
 .exact⟨hb,λe=>(no e).elim⟩
 split
 .exact⟨hb,λe=>(no e).elim⟩
 split
 .exact⟨hb,λe=>(no e).elim⟩
 split
 .exact⟨hb,λe=>(no e).elim⟩
 split
 .exact⟨Jcm _,λe=>(no e).elim⟩
 split
 .exact⟨Jcm _,λe=>(no e).elim⟩
 split
 .exact⟨Jcm _,λe=>(no e).elim⟩
 .exact⟨Jcm _,λe=>(no e).elim⟩
theorem xm{d:ByteArray}{m:MM}(h:nQ d=some m):mo m=true/\(dV (dl d)).1=m:=by
 unfold nQ at h;split at h
 .rename_i c
  injection h with h;subst h;exact⟨c.1,rfl⟩
 .cases h
def iq(k:Nat)(l:List Nat):MM×List Nat :=
 if k=1 then rn qG l λq l=>({aL k with q:=q},l)
 else if k=2 then rn qH l λp l=>({aL k with p:=p},l)
 else if k=3 then rn iN l λb l=>({aL k with b:=b},l)
 else if k=5 then rn iN l λb l=>({aL k with b:=b},l)
 else if k=4 then rn iN l λb l=>rn (lZ oO) l λvs l=>({aL k with b:=b,vs:=vs},l)
 else if k=6 then rn iN l λb l=>nx 4 l λs l=>rn oh l λc l=>({aL k with b:=b,s:=s,c:=c},l)
 else if k=7 then rn iN l λb l=>nx 4 l λs l=>({aL k with b:=b,s:=s},l)
 else if k=8 then nx 4 l λs l=>rn oh l λc l=>({aL k with s:=s,c:=c},l)
 else if k=9 then rn CE l λr l=>({aL k with r:=r},l)
 else if k=10 then nx 1 l λp l=>nx 4 l λs l=>({aL k with peer:=p,seq:=s},l)
 else(aL k,l)
theorem kM{k:Nat}(hk:k<256)(a:List Int):dV (dn ([(k:Int)]++a))=iq k (dn a):=by
 rw[eQ];exact qQ (f:=iq) hk
theorem RZ(l:List Nat):iq 2 l=(rn qH l λp l=>({aL ((2:Nat):Int)with p:=p},l)):=rfl
theorem aeU(l:List Nat):iq 3 l=(rn iN l λb l=>({aL ((3:Nat):Int)with b:=b},l)):=rfl
theorem aeV(l:List Nat):iq 5 l=(rn iN l λb l=>({aL ((5:Nat):Int)with b:=b},l)):=rfl
theorem aeW(l:List Nat):iq 4 l=(rn iN l λb l=>rn (lZ oO) l λvs l=>({aL ((4:Nat):Int)with b:=b,vs:=vs},l)):=rfl
theorem aeX(l:List Nat):iq 6 l=(rn iN l λb l=>nx 4 l λs l=>rn oh l λc l=>({aL ((6:Nat):Int)with b:=b,s:=s,c:=c},l)):=rfl
theorem aeY(l:List Nat):iq 7 l=(rn iN l λb l=>nx 4 l λs l=>({aL ((7:Nat):Int)with b:=b,s:=s},l)):=rfl
theorem aeZ(l:List Nat):iq 8 l=(nx 4 l λs l=>rn oh l λc l=>({aL ((8:Nat):Int)with s:=s,c:=c},l)):=rfl
theorem ae0(l:List Nat):iq 9 l=(rn CE l λr l=>({aL ((9:Nat):Int)with r:=r},l)):=rfl
theorem adA(l:List Nat):iq 10 l=(nx 1 l λp l=>nx 4 l λs l=>({aL ((10:Nat):Int)with peer:=p,seq:=s},l)):=rfl
theorem ahB{m:MM}(h:mo m=true)(e:m.kind=4):oM m.vs=true:=by
 unfold mo at h;rw[Jb5 (by omega),Jb5 (by omega),Jb5 (by omega),Jb5 (by omega),Jb6 e,Jdy]at h;exact h.1
theorem ahC{m:MM}(h:mo m=true)(e:m.kind=6):mi m.c=true:=by
 unfold mo at h;rw[Jb5 (by omega),Jb5 (by omega),Jb5 (by omega),Jb5 (by omega),Jb5 (by omega),Jb6 e,Jdy]at h;exact h.1
theorem ahD{m:MM}(h:mo m=true)(e:m.kind=8):mi m.c=true:=by
 unfold mo at h;rw[Jb5 (by omega),Jb5 (by omega),Jb5 (by omega),Jb5 (by omega),Jb5 (by omega),Jb5 (by omega),Jb5 (by omega),Jb6 e,Jdy]at h;exact h.1
theorem ahE{m:MM}(h:mo m=true)(e:m.kind=9):nY m.r=true:=by
 unfold mo at h;rw[Jb5 (by omega),Jb5 (by omega),Jb5 (by omega),Jb5 (by omega),Jb5 (by omega),Jb5 (by omega),Jb5 (by omega),Jb5 (by omega),Jb6 e,Jdy]at h;exact h.1
theorem qB(a:List Int):dn a=dn a++[]:=(Jc1 _).symm
theorem adB{l:List MV}(h:oM l=true):∀v∈l,mi v.c=true:=λv hv=>by
 unfold oM kr at h;simp only[Jdy,Jdr]at h;obtain⟨i,hi,rfl⟩:=Jga hv;have:=all_eq_true.1 h.2 i (Jc3.2 hi);unfold xU at this;rw[Jcc hi]at this;simp only[Jdy]at this;exact this.1
theorem zB(n:Nat):n%4294967296<=4294967295:=by omega
def nb(b:bH):bH:=⟨b.n%4294967296,b.id%256⟩
def nv(v:MV):MV:=⟨v.slot%4294967296,nb v.b,v.c⟩
def CZ(m:MM):MM :=
 if m.kind=3 then{ aL 3 with b:=nb m.b}
 else if m.kind=5 then{ aL 5 with b:=nb m.b}
 else if m.kind=4 then{ aL 4 with b:=nb m.b,vs:=m.vs.map nv}
 else if m.kind=6 then{ aL 6 with b:=nb m.b,s:=m.s%4294967296,c:=m.c}
 else if m.kind=7 then{ aL 7 with b:=nb m.b,s:=m.s%4294967296}
 else if m.kind=8 then{ aL 8 with s:=m.s%4294967296,c:=m.c}
 else if m.kind=9 then{ aL 9 with r:=m.r}
 else{ aL 10 with peer:=m.peer,seq:=m.seq}
theorem U5{N n:Nat}{m m':MM}(h:MG (bJ N) n m)(hd:nQ (pW m)=some m'):m.kind=2/\(∃p,m'={aL 2 with p:=p})\/m'=CZ m/\3<=m.kind/\m.kind<=10:=by
 obtain⟨ok',e⟩:=xm hd;unfold pW at e;split at e
 case isFalse =>
  subst e;exact absurd ok' (by decide)
 rename_i ok;obtain⟨_,k1,k10⟩:=Hf ok;have kn:=h.k1;rw[zy]at e;unfold kG at e;obtain⟨kd,q,p,b,s,c,vs,r,peer,seq⟩:=m;have k1:1<=kd:=k1;have k10:kd<=10:=k10;have kn:kd≠1:=kn;rcases(by omega:kd=2\/kd=3\/kd=4\/kd=5\/kd=6\/kd=7\/kd=8\/kd=9\/kd=10)with rfl|rfl|rfl|rfl|rfl|rfl|rfl|rfl|rfl
 .have e:(dV (dn ([((2:Nat):Int)]++mK p))).1=m':=e
  rw[kM (by decide)]at e;rw[RZ]at e;subst e;exact .inl ⟨rfl,_,rfl⟩
 .have e:(dV (dn ([((3:Nat):Int)]++fw b.n b.id))).1=m':=e
  rw[kM (by decide)]at e;have e2:iq 3 (dn (fw b.n b.id))=({aL ((3:Nat):Int)with b:=⟨b.n%4294967296,b.id%256⟩},[]):=by
   rw[qB];rw[aeU,dU (uh b.n b.id [])]
  rw[e2]at e;subst e;exact .inr ⟨rfl,by simp,by simp⟩
 .have e:(dV (dn ([((4:Nat):Int)]++(fw b.n b.id++([(vs.length:Int)]++(vs.map lK).flatten))))).1=m':=e
  rw[kM (by decide)]at e;have ov:oM vs=true:=by
   exact ahB ok rfl
  obtain⟨hv,hl⟩:=h.vs rfl;have e2:iq 4 (dn (fw b.n b.id++([(vs.length:Int)]++(vs.map lK).flatten)))=({aL ((4:Nat):Int)with b:=⟨b.n%4294967296,b.id%256⟩,vs:=vs.map λv=>⟨v.slot%4294967296,⟨v.b.n%4294967296,v.b.id%256⟩,v.c⟩},[]):=by
   rw[eQ,qB ([(vs.length:Int)]++_)];rw[aeW,dU (uh b.n b.id _)];exact dU (CQ (e:=lK) (g:=λv=>⟨v.slot%4294967296,⟨v.b.n%4294967296,v.b.id%256⟩,v.c⟩) (λv hv'=>UM (hv v hv').1 (adB ov v hv')) (λv=>by simp[lK,b32]) (Jb1 hl (by decide)) []) _
  rw[e2]at e;subst e;exact .inr ⟨rfl,by simp,by simp⟩
 .have e:(dV (dn ([((5:Nat):Int)]++fw b.n b.id))).1=m':=e
  rw[kM (by decide)]at e;have e2:iq 5 (dn (fw b.n b.id))=({aL ((5:Nat):Int)with b:=⟨b.n%4294967296,b.id%256⟩},[]):=by
   rw[qB];rw[aeV,dU (uh b.n b.id [])]
  rw[e2]at e;subst e;exact .inr ⟨rfl,by simp,by simp⟩
 .have e:(dV (dn ([((6:Nat):Int)]++(fw b.n b.id++b32 s++nN c)))).1=m':=e
  rw[kM (by decide)]at e;have oc:mi c=true:=by
   exact ahC ok rfl
  obtain⟨hc,hs⟩:=h.acc rfl;have e2:iq 6 (dn (fw b.n b.id++b32 s++nN c))=({aL ((6:Nat):Int)with b:=⟨b.n%4294967296,b.id%256⟩,s:=s%4294967296,c:=c},[]):=by
   rw[eQ,eQ,qB (nN c),Jd4];rw[aeX,dU (uh b.n b.id _),PD,dU (Fu hc oc [])]
  rw[e2]at e;subst e;exact .inr ⟨rfl,by simp,by simp⟩
 .have e:(dV (dn ([((7:Nat):Int)]++(fw b.n b.id++b32 s)))).1=m':=e
  rw[kM (by decide)]at e;have hs:=h.ru rfl;have e2:iq 7 (dn (fw b.n b.id++b32 s))=({aL ((7:Nat):Int)with b:=⟨b.n%4294967296,b.id%256⟩,s:=s%4294967296},[]):=by
   rw[eQ,qB (b32 s)];rw[aeY,dU (uh b.n b.id _),PD]
  rw[e2]at e;subst e;exact .inr ⟨rfl,by simp,by simp⟩
 .have e:(dV (dn ([((8:Nat):Int)]++(b32 s++nN c)))).1=m':=e
  rw[kM (by decide)]at e;have oc:mi c=true:=by
   exact ahD ok rfl
  obtain⟨hc,hs⟩:=h.dec rfl;have e2:iq 8 (dn (b32 s++nN c))=({aL ((8:Nat):Int)with s:=s%4294967296,c:=c},[]):=by
   rw[eQ,qB (nN c)];rw[aeZ,PD,dU (Fu hc oc [])]
  rw[e2]at e;subst e;exact .inr ⟨rfl,by simp,by simp⟩
 .have e:(dV (dn ([((9:Nat):Int)]++GL r))).1=m':=e
  rw[kM (by decide)]at e;have orr:nY r=true:=by
   exact ahE ok rfl
  have hm:=h.lU rfl;have hg:iE N (lL r):=hm.2.2.2;have e2:iq 9 (dn (GL r))=({aL ((9:Nat):Int)with r:=r},[]):=by
   rw[qB];rw[ae0,dU (PE (x:=r) hg.r orr [])]
  rw[e2]at e;subst e;exact .inr ⟨rfl,by simp,by simp⟩
 .have e:(dV (dn ([((10:Nat):Int)]++([peer]++b32 seq)))).1=m':=e
  rw[kM (by decide)]at e;have hm:=h.jH rfl;have hg:iE N (pU peer seq):=hm.2.2;obtain⟨x,ex,hx⟩:=U8.nat (x:=peer) hg.peer;obtain⟨y,ey,hy⟩:=tq.nat (x:=seq) hg.seq;have e2:iq 10 (dn ([peer]++b32 seq))=({aL ((10:Nat):Int)with peer:=peer,seq:=seq},[]):=by
   rw[ex,ey,eQ,qB (b32 _)];rw[adA,qQ hx,M7 hy]
  rw[e2]at e;subst e;exact .inr ⟨rfl,by simp,by simp⟩
theorem XD{N n:Nat}{m m':MM}(h:MG (bJ N) n m)(hd:nQ (pW m)=some m'):MG (bJ N) n m':=by
 rcases U5 h hd with⟨_,p,rfl⟩|⟨rfl,k3,k10⟩
 .exact .tell p
 .obtain⟨kd,q,p,b,s,c,vs,r,peer,seq⟩:=m
  unfold CZ;dsimp only;split
  .exact .fO (.inl rfl) (zB _)
  split
  .exact .fO (.inr rfl) (zB _)
  split
  .rename_i e
   obtain⟨hv,hl⟩:=h.vs e;exact .promise (zB _) (λv hv'=>by obtain⟨y,hy,rfl⟩:=Jdb.1 hv';exact⟨(hv y hy).1,Jgv (Nat.mod_le _ _) (hv y hy).2⟩) (by rw[Jf6];exact hl)
  split
  .rename_i e;exact .accept (zB _) (Jgv (Nat.mod_le _ _) (h.acc e).2) (h.acc e).1
  split
  .rename_i e;exact .accepted (zB _) (Jgv (Nat.mod_le _ _) (h.ru e))
  split
  .rename_i e;exact .decide (Jgv (Nat.mod_le _ _) (h.dec e).2) (h.dec e).1
  split
  .rename_i e;exact .move (h.lU e)
  .have k3:3<=kd:=k3
   have k10:kd<=10:=k10;exact .Rf (h.jH (show kd=10 by omega))
theorem U6(N:Nat):dS (bJ N) where
 lens:=λs h=>by
  have h:cu N _ s:=h;have:=h.ok.il;have:=h.ok.ol;exact⟨by omega,by omega,h.ok.n4⟩
 stay:=λs c _ _=>RU s c
 Ub:=λg n _ _=>⟨rfl,rfl⟩
 lane:=λs h o ho r hr=>by
  have h:cu N _ s:=h;obtain⟨h1,h2⟩:=(h.o o ho).2.2.2 r hr;exact⟨h1,by have:=h2.seq.2;omega,iE.recv h2 (by have:=h.ok.gn;have:=h.n;omega)⟩
 L8:=λs h x hx=>by
  have h:cu N _ s:=h;have:=h.i x hx;have:=h.vQ;omega
 WS:=λp s h1 h2 h3 h4=>iE.ahA ⟨h1,by omega⟩ ⟨h3,by omega⟩
 ask:=λd m h=>by
  obtain⟨h1,h2⟩:=xm h;have:=aeT (Ky d);rw[h2]at this;refine⟨this.1,λe=>iE.asks (this.2 e) ?_⟩;unfold mo at h1;rw[Jb6 e,Jdy]at h1;exact h1.1
 kind:=λd m h=>(Hf (xm h).1).2
 rl:=λc h=>by
  have h:iE N c:=h;exact⟨h.r.rl,h.r.dl⟩
 rc:=λs c h hc=>(YZ h hc).2
 back:=λn m m' h hd=>XD h hd
theorem aaE:HY (bJ 1) where
 gc:=iE.asks ⟨⟨by decide,by decide⟩,⟨by decide,by decide⟩,⟨by decide,by decide⟩,⟨by decide,by decide⟩,⟨by decide,by decide⟩,⟨by decide,by decide⟩,⟨by decide,by decide⟩⟩ (by decide)
 live:=λf hf=>by
  rcases(by omega:f=0\/f=1\/f=2)with rfl|rfl|rfl
  .kernel_rfl
  .kernel_rfl
  .kernel_rfl
 room:=λf hf=>by
  refine Jc4 ?_;rcases(by omega:f=0\/f=1\/f=2)with rfl|rfl|rfl
  .kernel_rfl
  .kernel_rfl
  .kernel_rfl
theorem zC{a b:Int}(h:0<=a):a.tmod b=a%b:=Int.tmod_eq_emod_of_nonneg h
theorem U7{k:Int}(h:iB k):iB (jQ k):=by
 unfold jQ;rw[zC h.1];split
 .exact⟨by decide,by decide⟩
 .exact⟨by omega,by omega⟩
theorem PT{q:aW}(h:q.b):(dh q).b/\fV (dh q)=true:=by
 have hk:=U7 h.key;have hh:=U7 h.hi;have z64:iB 0:=⟨Jfb 0,by decide⟩;have z8:U8 0:=⟨Jfb 0,by decide⟩;have e1:q.c.tmod 3=q.c%3:=zC h.c.1;have e2:q.s.tmod 9=q.s%9:=zC h.s.1;have e3:q.k.tmod 4=q.k%4:=zC h.k.1;have e4:q.to.tmod 4=q.to%4:=zC h.to.1;unfold dh;rw[e1,e2,e3,e4];have ha:jN (q.c%3) (1+q.s%9)=true:=by
  unfold jN;simp only[Jdy,Jdr];omega
 refine⟨⟨⟨by dsimp only;omega,by dsimp only;omega⟩,⟨by dsimp only;omega,by dsimp only;omega⟩,⟨by dsimp only;omega,by dsimp only;omega⟩,hk,?_,?_,?_⟩,?_⟩
 .dsimp only;split
  .exact h.v
  .exact z64
 .dsimp only;split
  .split
   .exact hk
   .exact hh
  .exact z64
 .dsimp only;split
  .exact⟨by omega,by omega⟩
  .exact z8
 .unfold fV
  dsimp only;rw[ha,Jdz];rcases(by omega:q.k%4=0\/q.k%4=1\/q.k%4=2\/q.k%4=3)with e|e|e|e
  .rw[e];rfl
  .rw[e];rfl
  .rw[e];rfl
  .rw[e]
   show(decide (jQ q.key<=if jQ q.hi<jQ q.key then jQ q.key else jQ q.hi)&&(decide (q.to%4<4)&&true))=true;simp only[Jdy,Jdr,Bool.and_true];refine⟨?_,by omega⟩;split<;>omega
end
