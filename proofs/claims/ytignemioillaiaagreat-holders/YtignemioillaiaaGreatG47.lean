/- Lemmas. -/
import Derived.Test.YtignemioillaiaaGreatG46
import Derived.Conc.Holds
namespace Go.Proofs.YtignemioillaiaaGreat
set_option maxHeartbeats 8000000
set_option linter.unusedSectionVars false
set_option maxRecDepth 100000
open List
section
open Go Go.Conc
def Sit.rounds(A:aO):Nat->Sit->Sit
 |0,S=>S
 |n+1,S=>(S.rounds A n).round A
def FY:bQ:=⟨2,9,1,5,0,0,0⟩
def FZ:aA:=⟨2,9,5,1,false,0,0⟩
def F3(A:aO)(sz:Nat):Sit:=((((Sit.new A 1 sz).rounds A 15).sends A FY 0 0).round A).round A
def S9(A:aO)(sz:Nat):Bool:=(oq A (F3 A sz).C.q).2 && (!(F3 A sz).bad && (oq A (F3 A sz).C.q).1.any λx=>eZ x.1 FZ)
structure BQ(A:aO):Prop where
 gc:A.gc (fQ FY)
 live:∀f,f<=2->S9 A (2*f+1)=true
 room:∀f,f<=2->((Sit.new A 1 (2*f+1)).rounds A 15).C.q.length<20000
theorem df.snap{w w':World}{bs:Nat}{S:Sit}(h:df (fI w) bs S w'):GB none w w':=by
 obtain⟨_,_,_,_,_,_,h⟩:=h;have kp:∀x,x<w.heap.size->w'.heap[x]? = w.heap[x]?:=λx hx=>by
  obtain⟨o,ho⟩:∃o,w.heap[x]? = some o:=⟨w.heap[x],by simp[hx]⟩;exact(h.pr x o ho).1.trans ho.symm
 refine⟨h.os,h.out,?_,λx hx _=>kp x hx⟩;by_cases h0:w.heap.size=0
 ·omega
 ·have h1:=kp (w.heap.size - 1) (by omega)
  obtain⟨o,ho⟩:∃o,w.heap[w.heap.size - 1]? = some o:=⟨w.heap[w.heap.size - 1]'(by omega),by simp[show w.heap.size - 1<w.heap.size by omega]⟩;rw[ho]at h1;have:=ae h1;omega
theorem acY{l:List (aA×Nat)}{k:Nat}{x:aA×Nat}(h:l[k]? = some x){cur:List Value}(ht:cur.take (l.length*8)=(l.map FT).flatten):aK cur (k*8) 7=x.1.cells:=by
 have h1:=jZ (f:=FT) (size:=8) (λ_=>rfl) l k x h;have hk:k<l.length:=(List.getElem?_eq_some_iff.1 h).1;have h2:aK cur (k*8) 8=FT x:=by
  rw[<-h1,flatMap_def,<-ht];unfold aK;rw[drop_take,take_take,Nat.min_eq_left (by omega)]
 have h3:aK cur (k*8) 7=(aK cur (k*8) 8).take 7:=by unfold aK;rw[take_take];rfl
 rw[h3,h2];rfl
section
variable{A:aO}(HA:bH A)(HN:dH A)
include HA HN
theorem Sit.aJ.new{n sz:Nat}(hn:1<=n/\n<=4)(hN:n=A.N)(hz:1<=sz/\sz<=5):(Sit.new A n sz).aJ A:=⟨aL.aJ.new HA HN hn.2 hN hz.2,hn.1,hz.1,by simp[Sit.new,aL.new],by simp[Sit.new,aL.new],by simp[Sit.new,aL.new],by simp[Sit.new]⟩
theorem Sit.aJ.rounds{S:Sit}(h:S.aJ A):∀n,(S.rounds A n).aJ A
 |0=>h
 |n+1=>(Sit.aJ.rounds h n).round HA HN
variable(HL:qb A)(HV:BQ A)
theorem Sit.Xl(S:Sit):∀n,(S.all A n).C.n=S.C.n/\(S.all A n).C.sz=S.C.sz:=by
 intro n;induction n generalizing S with
 |zero=>exact⟨rfl,rfl⟩
 |succ n ih =>
  unfold Sit.all;split
  ·exact⟨(ih (S.one A)).1.trans (aL.jl A S.C _).1,(ih (S.one A)).2.trans (aL.jl A S.C _).2⟩
  ·exact⟨rfl,rfl⟩
theorem Sit.Oh(S:Sit):(S.round A).C.n=S.C.n/\(S.round A).C.sz=S.C.sz:=⟨(Sit.Xl HA HN _ _).1.trans (Sit.yK S _).1,(Sit.Xl HA HN _ _).2.trans (Sit.yK S _).2⟩
theorem Sit.En(S:Sit):∀n,(S.rounds A n).C.n=S.C.n/\(S.rounds A n).C.sz=S.C.sz
 |0=>⟨rfl,rfl⟩
 |n+1=>⟨(Sit.Oh HA HN _).1.trans (Sit.En S n).1,(Sit.Oh HA HN _).2.trans (Sit.En S n).2⟩
include HL HV
theorem YS(hN:A.N=1)(w:World)(f:Nat)(hf:f<=2):gQ Tryz.prog 124 #[.int .i64 (2*f+1:Nat)] w (λv w'=>v=.bool true/\GB none w w'):=by
 have hlive:=HV.live f hf;have Qv:(Sit.new A 1 (2*f+1)).aJ A:=Sit.aJ.new HA HN ⟨by decide,by decide⟩ hN.symm ⟨by omega,by omega⟩;refine Fy fD Tryz.func124 rfl rfl ?_;refine aG.piece (Q:=λq w'=>q=[(0,.int .i64 (2*f+1:Nat))]/\w'=w) (aG.e ⟨_,by exact⟨rfl,trivial⟩,rfl,rfl⟩) ?_;rintro q w ⟨rfl,rfl⟩;refine aG.piece (Q:=λq w1=>∃bs,q=[(3,Ptt bs),(4,.bool true)]/\df (fI w) bs (Sit.new A 1 (2*f+1)) w1) (aG.e ?_) ?_
 ·refine⟨_,(SN HA w 1 f ⟨by decide,by decide⟩ hf).x,?_⟩
  rintro _ w1 ⟨bs,rfl,_,h1,k1⟩;exact⟨_,by exact⟨rfl,rfl,trivial⟩,bs,rfl,h1⟩
 rintro q w1 ⟨bs,rfl,h1⟩;obtain⟨N0,hN0⟩:∃S,S=Sit.new A 1 (2*f+1):=⟨_,rfl⟩;have hsz0:N0.C.n=1/\N0.C.sz=2*f+1:=by rw[hN0];exact⟨rfl,rfl⟩
 have hroom:=HV.room f hf;have hlv:F3 A (2*f+1)=(((N0.rounds A 15).sends A FY 0 0).round A).round A:=by rw[hN0];rfl
 rw[<-hN0]at h1 Qv hroom;refine aG.piece (Q:=λq w2=>q=[(3,Ptt bs),(4,.bool true)]/\df (fI w) bs (N0.rounds A 15) w2) ?_ ?_
 ·refine aG.piece (Q:=λq w'=>q=[(3,Ptt bs),(4,.bool true),(5,.int .i64 0)]/\w'=w1) (aG.e ⟨_,by exact⟨rfl,rfl,rfl,trivial⟩,rfl,rfl⟩) ?_
  rintro q w1 ⟨rfl,rfl⟩;refine aG.block ?_;refine aG.loop (λm s wk=>∃i:Nat,m=15 - i/\i<=15/\s=[(3,Ptt bs),(4,.bool true),(5,.int .i64 i)]/\df (fI w) bs (N0.rounds A i) wk) ⟨_,_,⟨0,rfl,Nat.zero_le _,rfl,h1⟩,rfl,rfl,rfl,trivial⟩ ?_;rintro m s wk ⟨i,rfl,hi,rfl,hS⟩;refine aG.cut (Qn:=λq w'=>i<15/\q=[(3,Ptt bs),(4,.bool true),(5,.int .i64 i)]/\w'=wk) (Qx:=λj q w'=>j=0/\i=15/\q=[(3,Ptt bs),(4,.bool true)]/\w'=wk) (Qr:=λ_ _=>False) (aG.e ?_) ?_ ?_ (λ_ _ _ h _=>h.elim)
  ·refine aj (λc=>?_) (λc=>?_)
   ·exact⟨_,by exact⟨rfl,rfl,rfl,trivial⟩,by simp at c;omega,rfl,rfl⟩
   ·exact⟨_,by exact⟨rfl,rfl,trivial⟩,rfl,by simp at c;omega,rfl,rfl⟩
  rotate_left
  ·rintro j q s w' ⟨rfl,e,rfl,rfl⟩ hs
   exact⟨_,hs,rfl,by rw[<-e];exact hS⟩
  rintro q wk ⟨c1,rfl,rfl⟩;have N9:=Sit.aJ.rounds HA HN Qv i;refine aG.piece (Q:=λq w'=>q=[(3,Ptt bs),(4,.bool true),(5,.int .i64 i)]/\df (fI w) bs (N0.rounds A (i+1)) w') ?_ ?_
  ·refine aG.block (aG.e ?_)
   refine⟨_,GY HA HN hS N9.cl N9.sz,?_⟩;rintro _ w2 ⟨rfl,h2,k2⟩;exact⟨_,by exact⟨rfl,rfl,rfl,trivial⟩,rfl,h2⟩
  ·rintro q w' ⟨rfl,h'⟩
   refine aG.e ?_;exact⟨by omega,_,_,⟨i+1,rfl,by omega,rfl,h'⟩,⟨rfl,rfl,rfl,trivial⟩,by omega⟩
 rintro q w2 ⟨rfl,h2⟩;have Qd:=Sit.aJ.rounds HA HN Qv 15;obtain⟨r1,r2⟩:=Sit.En HA HN N0 15;have hg0:0<(N0.rounds A 15).C.n:=by rw[r1,hsz0.1];decide
 have hi0:0<(N0.rounds A 15).C.sz:=by rw[r2,hsz0.2];omega
 have Rb:=Sit.aJ.sends HA HN HL Qd HV.gc hg0 hi0 hroom;have hFr:=Rb.round HA HN;generalize N0.rounds A 15=S15 at *;refine aG.piece (Q:=λq w'=>q=[(3,Ptt bs)]/\w'=w2) (aG.e ⟨_,by exact⟨rfl,trivial⟩,rfl,rfl⟩) ?_;rintro q w2 ⟨rfl,rfl⟩;refine aG.piece (Q:=λq w3=>q=[(3,Ptt bs)]/\df (fI w) bs (S15.sends A FY 0 0) w3) (aG.e ?_) ?_
 ·have hak:=Qd.ak
  have hlen:=Qd.cl.len;refine⟨_,(N8 HL h2 Qd.cl HV.gc hg0 hi0 (by omega)).x,?_⟩;rintro _ w3 ⟨rfl,h3,k3⟩;exact⟨_,by exact⟨rfl,trivial⟩,rfl,h3⟩
 rintro q w3 ⟨rfl,h3⟩;refine aG.piece (Q:=λq w4=>q=[(3,Ptt bs),(6,.bool true)]/\df (fI w) bs ((S15.sends A FY 0 0).round A) w4) (aG.e ?_) ?_
 ·refine⟨_,GY HA HN h3 Rb.cl Rb.sz,?_⟩
  rintro _ w4 ⟨rfl,h4,k4⟩;exact⟨_,by exact⟨rfl,rfl,trivial⟩,rfl,h4⟩
 rintro q w4 ⟨rfl,h4⟩;obtain⟨L,hL⟩:∃L,L=F3 A (2*f+1):=⟨_,rfl⟩;rw[hlv]at hL;refine aG.piece (Q:=λq w5=>q=[(3,Ptt bs),(6,.bool true),(7,.bool true)]/\df (fI w) bs L w5) (aG.e ?_) ?_
 ·refine⟨_,GY HA HN h4 hFr.cl hFr.sz,?_⟩
  rintro _ w5 ⟨rfl,h5,k5⟩;exact⟨_,by exact⟨rfl,rfl,rfl,trivial⟩,rfl,by rw[hL];exact h5⟩
 rintro q w5 ⟨rfl,h5⟩;have hFL:L.aJ A:=by rw[hL];exact hFr.round HA HN
 have hal:((oq A L.C.q).2 && (!L.bad && (oq A L.C.q).1.any λx=>eZ x.1 FZ))=true:=by
  have:=hlive;unfold S9 at this;rw[hlv,<-hL]at this;exact this
 rw[Bool.and_eq_true,Bool.and_eq_true]at hal;obtain⟨a1,a2,a3⟩:=hal;have a2:L.bad=false:=by simpa using a2
 have htl:=YR HA h5 hFL.cl;generalize oq A L.C.q=TL at htl a1 a3;obtain⟨tl,ok⟩:=TL;have a1:ok=true:=a1;subst a1;have a3:tl.any (λx=>eZ x.1 FZ)=true:=a3;refine aG.piece (Q:=λq w6=>∃lv,q=[(3,Ptt bs),(6,.bool true),(7,.bool true),(8,lv),(9,.bool true)]/\w6.ownsRow 0 264 8 lv tl.length (tl.map FT).flatten/\df (fI w) bs L w6) (aG.e ?_) ?_
 ·refine⟨_,htl.x,?_⟩
  rintro _ w6 ⟨⟨lv,rfl,ho⟩,g6⟩;exact⟨_,by exact⟨rfl,rfl,rfl,rfl,rfl,trivial⟩,lv,rfl,ho,h5.au g6⟩
 rintro q w6 ⟨lv,rfl,ho,h6⟩;obtain⟨la,lc,rfl⟩:=af ho;have KI:tl.length<=9223372036854775807:=by
  rcases ho.2 with⟨_,h0⟩|⟨g,cap,cur,e,h0,h2,h3,h4,_⟩
  ·omega
  ·unfold Go.maxLen at h4;omega
 have G6:=h6.snap;refine aG.cut (Qn:=λ_ _=>False) (Qx:=λ_ _ _=>False) (Qr:=λq w'=>q=[(2,.bool true)]/\GB none w w') ?_ (λ_ _ h=>h.elim) (λ_ _ _ _ h _=>h.elim) ?_;rotate_left
 ·rintro q s w' ⟨rfl,g'⟩ hs
  exact wo hs ⟨rfl,g'⟩
 refine aG.piece (Q:=λq w'=>q=[(3,Ptt bs),(6,.bool true),(7,.bool true),(8,.slice la tl.length lc),(9,.bool true),(10,.int .i64 0)]/\w'=w6) (aG.e ⟨_,by exact⟨rfl,rfl,rfl,rfl,rfl,rfl,trivial⟩,rfl,rfl⟩) ?_;rintro q w6 ⟨rfl,rfl⟩;refine aG.block ?_;refine aG.loop (λm s wk=>∃k:Nat,m=tl.length - k/\k<=tl.length/\s=[(3,Ptt bs),(6,.bool true),(7,.bool true),(8,.slice la tl.length lc),(9,.bool true),(10,.int .i64 k)]/\wk=w6/\∀(j:Nat) (x:aA×Nat),j<k->tl[j]? = some x->eZ x.1 FZ=false) ⟨_,_,⟨0,rfl,Nat.zero_le _,rfl,rfl,λj x h=>by omega⟩,rfl,rfl,rfl,rfl,rfl,rfl,trivial⟩ ?_;rintro m s w6 ⟨k,rfl,hk,rfl,rfl,hno⟩;refine aG.cut (Qn:=λq w'=>k<tl.length/\q=[(3,Ptt bs),(6,.bool true),(7,.bool true),(8,.slice la tl.length lc),(9,.bool true),(10,.int .i64 k)]/\w'=w6) (Qx:=λ_ _ _=>False) (Qr:=λ_ _=>False) (aG.e ?_) ?_ (λ_ _ _ _ h _=>h.elim) (λ_ _ _ h _=>h.elim)
 ·refine aj (λc=>?_) (λc=>?_)
  ·exact⟨_,by exact⟨rfl,rfl,rfl,rfl,rfl,rfl,trivial⟩,by have:=Ptq c;omega,rfl,rfl⟩
  ·exfalso
   have c1:k=tl.length:=by have:=Ptx c;omega
   obtain⟨x,hx,hp⟩:=any_eq_true.1 a3;obtain⟨j,hj⟩:=mem_iff_getElem?.1 hx;have:=hno j x (by have:=(List.getElem?_eq_some_iff.1 hj).1;omega) hj;rw[this]at hp;cases hp
 rintro q w6 ⟨c1,rfl,rfl⟩;obtain⟨x,hx⟩:∃x,tl[k]? = some x:=⟨tl[k],by simp[c1]⟩;obtain⟨gb,cap,cur,ev,aR,htk,hsz,hcap⟩:=jD ho (by omega);injection ev with ev _ R9;subst ev;subst R9;have hel:=acY hx htk;refine aG.cut (Qn:=λq w'=>eZ x.1 FZ=false/\q=[(3,Ptt bs),(6,.bool true),(7,.bool true),(8,.slice (Pty gb) tl.length lc),(9,.bool true),(10,.int .i64 k)]/\w'=w6) (Qx:=λ_ _ _=>False) (Qr:=λq w'=>q=[(2,.bool true)]/\w'=w6) ?_ ?_ (λ_ _ _ _ h _=>h.elim) ?_
 ·refine aG.block (aG.e ?_)
  obtain⟨_,_,_,_,_,_,h6⟩:=h6;refine⟨_,_,h6.si.mem,.bool false,by show(fV _ _ _)[8]? = _;unfold fV;rw[a2];rfl,by omega,_,_,aR,x.1.cells,by show aK cur.toList (0+(k:Int).toNat*8) 7=_;rw[Nat.zero_add,Int.toNat_natCast];exact hel,rfl,?_⟩;refine aj (λd=>?_) (λd=>?_)
  ·exact⟨_,by exact⟨rfl,trivial⟩,rfl,rfl⟩
  ·exact⟨_,by exact⟨rfl,rfl,rfl,rfl,rfl,rfl,trivial⟩,d,rfl,rfl⟩
 ·rintro q w6 ⟨e,rfl,rfl⟩
  refine aG.e ?_;refine⟨by omega,_,_,⟨k+1,rfl,by omega,rfl,rfl,λj y hj hy=>?_⟩,⟨rfl,rfl,rfl,rfl,rfl,rfl,trivial⟩,by omega⟩;by_cases ej:j=k
  ·subst ej;rw[hx]at hy;cases hy;exact e
  ·exact hno j y (by omega) hy
 ·rintro q s w6 ⟨rfl,rfl⟩ hs
  exact⟨_,hs,rfl,G6⟩
theorem VK{B:aO}(HB:bH B)(hN:A.N=1)(w:World)(g f:Int)(hg:xC g)(hf:xC f):gQ Tryz.prog 69 #[.int .i64 g,.int .i64 f] w (λv w'=>∃bs,v=.tuple #[Ptt bs,.bool true]/\df (fI w) bs (Sit.new B (1+bz g 4) (1+2*bz f 3)) w'/\Kz w w'):=by
 have lf:=jy f (show 0<3 by decide);have lg:=jy g (show 0<4 by decide);refine tT fD mixed Tryz.func69 rfl rfl ?_;refine⟨_,(jk w f 3 (by decide) hf.1 hf.2).x,?_⟩;rintro _ w ⟨rfl,rfl⟩;refine⟨by omega,by omega,_,(jk w g 4 (by decide) hg.1 hg.2).x,?_⟩;rintro _ w ⟨rfl,rfl⟩;have hm:=SN HB w (1+bz g 4) (bz f 3) ⟨by omega,by omega⟩ (by omega);have e1:((1+bz g 4:Nat):Int)=1+((bz g 4:Nat):Int):=by omega
 have e2:((2*bz f 3+1:Nat):Int)=1+2*((bz f 3:Nat):Int):=by omega
 rw[e1,e2]at hm;refine⟨by omega,_,hm.x,?_⟩;rintro _ w1 ⟨bs,rfl,_,h1,k1⟩;have ha:=YS HA HN HL HV hN w1 (bz f 3) (by omega);rw[e2]at ha;refine⟨_,ha,?_⟩;rintro _ w2 ⟨rfl,g2⟩;rw[show 2*bz f 3+1=1+2*bz f 3 by omega]at h1;exact⟨bs,rfl,h1.au g2,k1.trans g2.kz⟩
end
structure Pl where
 bc:Nat
 a:yJ
 (gv sv:Value)
 B:Nat->Nat->Nat
 ad:Nat->Nat->gp
open Classical in
section
variable{Λ Λ':bU}{w w':World}{bs bt:Nat}{S S' T:Sit}{p p' r:Pl}
end
section
variable{Λ:bU}{w w':World}{bs bt bu:Nat}{S S' T U:Sit}
end
section
variable{P:Program}[ko P](E:mH P)(n:Nat)(ops:Array Oper)(K:Sg->World->Prop)
end
section
variable{P:Program}[ko P]{main:Bool}{D:World->World->Array Event->Prop}{X:Goroutine->World->Prop}{b:Frame}{k:List Item}{cs:List Frame}{ops:Array Oper}{E:mH P}{n:Nat}{K:Sg->World->Prop}
end
def Xm(o:Int×List Rg)(q:Value):List Value:=[Value.int .u32 o.1,q]
theorem Xn:∀{O:List (Int×List Rg)} {qs:List Value} {k:Nat} {o:Int×List Rg} {q:Value},O[k]? = some o->qs[k]? = some q->aK (zipWith Xm O qs).flatten (k*2) 2=Xm o q
 | [],_,_,_,_,h,_=>by simp at h
 |_::_,[],_,_,_,_,h=>by simp at h
 |o::O,q::qs,0,_,_,h1,h2=>by
  simp at h1 h2;subst h1;subst h2;simp[aK,Xm]
 |o::O,q::qs,k+1,_,_,h1,h2=>by
  have:=Xn (O:=O) (qs:=qs) (k:=k) (by simpa using h1) (by simpa using h2);rw[<-this];unfold aK;rw[zipWith_cons_cons,flatten_cons,drop_append,drop_eq_nil_of_le (by show 2<=_;omega),nil_append,show(Xm o q).length=2 from rfl,show(k+1)*2 - 2=k*2 by omega]
theorem Td:∀{l:List Rg} {vs:List (Value×Value)} {k:Nat} {r:Rg} {p:Value×Value},l[k]? = some r->vs[k]? = some p->aK (zipWith (λr (p:Value×Value)=>eu r p.1 p.2) l vs).flatten (k*7) 7=eu r p.1 p.2
 | [],_,_,_,_,h,_=>by simp at h
 |_::_,[],_,_,_,_,h=>by simp at h
 |r::l,p::vs,0,_,_,h1,h2=>by
  simp at h1 h2;subst h1;subst h2;simp[aK,eu]
 |r::l,p::vs,k+1,_,_,h1,h2=>by
  have:=Td (l:=l) (vs:=vs) (k:=k) (by simpa using h1) (by simpa using h2);rw[<-this];unfold aK;rw[zipWith_cons_cons,flatten_cons,drop_append,drop_eq_nil_of_le (by show 7<=_;omega),nil_append,show(eu r p.1 p.2).length=7 from rfl,show(k+1)*7 - 7=k*7 by omega]
theorem Ls(x:Row):jR x x=true:=by simp[jR]
theorem MP(x:aA):eZ x x=true:=by simp[eZ]
theorem Te(a:Rg):rR a a=true:=by
 have h1:oo jR a.rows a.rows=true:=wF λk x y _ h1 h2=>by rw[h1]at h2;cases h2;exact Ls x
 have h2:oo eZ a.aZ a.aZ=true:=wF λk x y _ h1 h2=>by rw[h1]at h2;cases h2;exact MP x
 unfold rR;rw[h1,h2];simp
structure StB(s:St):Prop where
 T:s.T.length<=1000000
 M:s.M.length<=1000000
 D:s.D.length<=1000000
 O:s.O.length<=1000000
 I:s.I.length<=1000000
 q:∀o∈s.O,o.2.length<=1000000/\∀r∈o.2,r.rows.length<=1000000/\r.aZ.length<=1000000

def Lt(P:Program)(Post:Value->World->Prop)(m:Machine)(t:Trace):Prop:=∃N last o w' t',runNT P (N+1) m t=(.ended o w',t')/\runN P N m=.next last/\Go.step P last=.ended o w'/\Go.Conc.Good P Post last o w' t'
theorem YT{P:Program}{i k:Nat}{m m' last:Machine}{t t':Trace}(h:runNT P i m t=(.next m',t'))(h2:runN P k m'=.next last):runN P (i+k) m=.next last:=by
 rw[<-runNT_fst _ _ _ t,uV i k h,runNT_fst,h2]
theorem YU{P:Program}{Post:Value->World->Prop}{m:Machine}{t:Trace}(h:Reaches P (Lt P Post) m t):Lt P Post m t:=by
 obtain⟨i,m',t',h1,N,last,o,w',t2,h2,h3,h4,h5⟩:=h;exact⟨i+N,last,o,w',t2,(uV i (N+1) h1).trans h2,YT h1 h3,h4,h5⟩
theorem YV{P:Program}{Post:Value->World->Prop}{g:Goroutine}{w:World}(hr:g.status=.running){v:Value}(hs:∀w,stepG P true g w=.ended (.done v) w #[])(hp:∀w₁,cB w w₁->Post v w₁):XR P (Lt P Post) g w:=by
 intro w₁ h1 gs sl t q h0 hL hP;obtain⟨B,hP⟩:=hP;refine Reaches.here (beside_ends (n:=0) (D:=λ_ _ _=>False) (λ_ _ _ h=>h.elim) h0 hL.leavers hP (Goes.stop λw₂ h2=>⟨hr,v,#[],hs w₂,by simp,hp w₂ (jK _ _ _ h1 (yS h2))⟩))
theorem VL{P:Program}{Post:Value->World->Prop}{g:Goroutine}{w:World}(h:XR P (Lt P Post) g w):Lt P Post (crowd #[g] w none) #[] :=
 YU (h w (yR w) #[g] none #[] (λ_=>0) rfl ⟨λi x hi hx=>absurd ((Array.getElem?_eq_some_iff.1 hx).1) (by simp;omega),λ_ _=>rfl⟩ ⟨0,past_nil⟩)
theorem Tf{P:Program}{fr:Frame}{w:World}{v:Value}{t:Tmp}{fn:Func}(hfn:P.funcs[fr.fn]? = some fn)(hin:P.inits.idxOf? fr.fn=none)(hres:fn.results = #[.tmp t])(hl:fr.leaving P w (.returned v))(w₁:World):stepG P true (G fr []) w₁=.ended (.done v) w₁ #[]:=by
 obtain⟨hm,hd,hk,fn',hfn',hr⟩:=hl;obtain rfl:fn'=fn:=Option.some.inj (hfn'.symm.trans hfn);generalize hu:fr.tmps.getD t undef=u;have e:results fn' fr.tmps=(pure u:Sem Value):=by rw[<-hu];simp[results,hres]
 rw[e]at hr;have hr2:(Result.ok u w:Result Value)=.ok v w:=hr;injection hr2 with hv _;subst hv;have e2:Sem.runT P (pure u:Sem Value) w₁ #[]=(.ok u w₁,#[]):=rfl;simp only[G,stepG,unwind,doReturn,hm,hd,hk,hfn,e,e2,hin,seen_none];rfl
noncomputable def afu(z:Nat×Nat):mH Tryz.prog:={ fD with QY:=λ_=>z }
def FzZ(w:World)(size:Nat)(v:Value)(n:Nat)(xs:List Value):Prop:=∃a c,v=.slice a n c/\n<=c/\xs.length=n*size/\(n=0\/∃b off cs ty z,a=some ⟨b,off,none⟩/\w.heap[b]? = some (.cells cs ty z)/\aK cs.toList off (n*size)=xs)
structure Lu(A:aO):Prop where
 sb:∀{k} s,A.good k s->StB s
theorem YW{l:List Stp}{k:Nat}{t:Stp}(h:l[k]? = some t):aK (l.map Stp.cells).flatten (k*11) 11=t.cells:=by
 rw[<-flatMap_def];exact jZ (f:=Stp.cells) (λ_=>rfl) l k t h
def jG(N:Nat):aO:=⟨N,rQ,lQ,nY,pq,dB N,jO N⟩
section
variable{N k:Nat}{s:St}{c:MC}
theorem YX{m:List Pc}(h:jY m=true):m.length<=1000:=by
 unfold jY at h;simp only[Bool.and_eq_true,decide_eq_true_eq]at h;exact h.1.1.2
theorem dB.b2(h:dB N k s):Ej s:=by
 have:=h.xz;exact⟨by have:=h.t;omega,by have:=h.d;omega,λo ho=>by
  obtain⟨a,b,c,_⟩:=h.o o ho;exact⟨by omega,by omega,by omega⟩⟩
theorem dB.ss(h:dB N k s):StS s:=by
 have:=h.xz;have:=h.ok.ol;have:=h.ok.il;have:=h.ok.n4;exact⟨by have:=h.t;omega,by have:=h.d;omega,YX h.ok.BJ,by omega,by omega,λo ho=>by
  obtain⟨a,b,c,d⟩:=h.o o ho;exact⟨by omega,λr hr=>⟨by have:=(d r hr).2.rl;omega,by have:=(d r hr).2.dl;omega⟩⟩⟩
theorem Xo(h:dB N k s)(hc:jO N c):U8 (lQ s c).2.c:=by
 have z8:U8 0:=⟨Int.le_refl 0,by decide⟩;have hd:U8 (kX s c.q).c:=(Xc h.tb hc.q).c;unfold lQ;split
 ·unfold tq
  split
  ·exact z8
  split
  ·exact hc.q.c
  split
  ·split
   ·rename_i x hx
    split
    ·exact hd
    ·split
     ·exact(h.db x (List.mem_of_getElem? hx)).c
     ·exact hc.q.c
   ·exact z8
  ·exact hd
 ·split
  ·exact z8
  ·split<;>exact z8
theorem Qe(s:St)(q:bQ):(nX s q).n=s.n/\(nX s q).g=s.g:=by
 unfold nX;split
 ·exact⟨rfl,rfl⟩
 split
 ·exact⟨rfl,rfl⟩
 split<;>exact⟨rfl,rfl⟩
theorem Xp(s:St)(c:MC):(lQ s c).1.n=s.n/\(lQ s c).1.g=s.g:=by
 unfold lQ;split
 ·unfold tq
  split
  ·exact⟨rfl,rfl⟩
  split
  ·exact⟨rfl,rfl⟩
  split
  ·split
   ·split
    ·exact Qe _ _
    ·split<;>exact⟨rfl,rfl⟩
   ·exact⟨rfl,rfl⟩
  ·exact Qe _ _
 split
 ·unfold uF
  split<;>exact⟨rfl,rfl⟩
 split
 ·unfold sZ
  split<;>exact⟨rfl,rfl⟩
 ·exact⟨rfl,rfl⟩
theorem BR:U8 0:=⟨Int.le_refl 0,by decide⟩
theorem Lv:rW 0:=⟨Int.le_refl 0,by decide⟩
theorem zT:iN 0:=⟨Int.le_refl 0,by decide⟩
theorem Qf:rf.b:=⟨BR,Lv,BR,zT,zT,zT,BR⟩
theorem Qg:qF.b:=⟨BR,BR,Lv,zT,zT,nofun,nofun,Nat.zero_le _,Nat.zero_le _⟩
theorem jO.zero(N:Nat):jO N nP:=⟨BR,Qf,Qg,BR,Lv,nofun,nofun⟩
theorem jO.recv{r:Rg}(h:r.b)(hs:r.src<N):jO N (kZ r):=⟨⟨by show(0:Int)<=2;decide,by show(2:Int)<256;decide⟩,Qf,h,BR,Lv,λ_=>hs,λe=>absurd (show(2:Int)=1 from e) (by decide)⟩
theorem jO.afv{p q:Int}(hp:U8 p)(hq:rW q):jO N (oZ p q):=⟨⟨by show(0:Int)<=3;decide,by show(3:Int)<256;decide⟩,Qf,Qg,hp,hq,λe=>absurd (show(3:Int)=2 from e) (by decide),λe=>absurd (show(3:Int)=1 from e) (by decide)⟩
theorem jO.asks{q:bQ}(h:q.b)(ho:jN q=true):jO N (fQ q):=⟨⟨by show(0:Int)<=1;decide,by show(1:Int)<256;decide⟩,h,Qg,BR,Lv,λe=>absurd (show(1:Int)=2 from e) (by decide),λ_=>ho⟩
end
theorem YY{g N:Nat}(hg:g<N)(hN:N<=4):dB N 0 (nY g N):=by
 refine⟨by decide,⟨by show(0:Int)<=g;omega,by show(g:Int)<N;omega,by show(N:Int)<=4;omega,Pairwise.nil,Pairwise.nil,(by decide:jY [⟨0,0⟩]=true),⟨rfl,by decide,by decide,trivial⟩,by show((replicate N _).length:Int)=_;rw[length_replicate];rfl,by show((replicate N _).length:Int)=_;rw[length_replicate];rfl⟩,rfl,Nat.le_refl 0,nofun,Nat.le_refl 0,nofun,λo ho=>?_,λx hx=>?_⟩
 ·rw[(mem_replicate.1 ho).2]
  exact⟨by decide,by decide,by decide,nofun⟩
 ·rw[(mem_replicate.1 hx).2]
  exact⟨by decide,by decide⟩
theorem Lx(N:Nat):bH (jG N) where
 nI:=λw v m h=>ag.mono' (zN h) λv' w' ⟨e,g⟩=>⟨⟨_,e⟩,g⟩
 call:=λw s c vT vM vD vO vI cv h hg hc hcc=>by
  have hg:dB N _ s:=hg;have hcc:jO N c:=hcc;have:=hg.xz;have hq:=hcc.q;have hr:=hcc.r;exact Vt h hg.ok hg.b2 hg.ss (λx hx=>by have:=hg.i x hx;omega) hc ⟨⟨hq.key.1,by have:=hq.key.2;omega⟩,⟨hq.hi.1,by have:=hq.hi.2;omega⟩,hq.to.1⟩ ⟨hr.src.1,hr.lo.1,by have:=hr.hi.2;omega⟩ hcc.peer.1
 Jg:=λs c hk h hc=>dB.app h hk hc
 rep:=λs c h hc=>(Xo h hc).1
 src:=λs c h hc h2=>by
  have h:dB N _ s:=h;have hc:jO N c:=hc;have h3:=hc.src h2;have h4:=hc.r.src.1;have h5:=h.ok.il;have h6:=h.n;exact⟨h4,by omega⟩
 Kk:=jO.zero N
 parse:=Vz
 beg:=λw g n hg hn=>Vu w hg hn
 Co:=λg n e hg hn=>by
  have e:n=N:=e;subst e;exact YY hg hn
 dl:=λs h=>by
  have h:dB N _ s:=h;have:=h.xz;have:=h.d;omega
 ol:=λs h=>by
  have h:dB N _ s:=h;have:=h.ok.ol;have:=h.ok.n4;omega
 Kl:=λs h i x hx=>by
  have h:dB N _ s:=h;exact(h.i x (List.mem_of_getElem? hx)).1
theorem YZ(N:Nat):Lu (jG N) where
 sb:=λs h=>by
  have h:dB N _ s:=h;have h1:=h.ss;have h2:=h.b2;exact⟨by have:=h1.t;omega,by have:=h1.m;omega,by have:=h1.d;omega,by have:=h1.o;omega,by have:=h1.i;omega,λo ho=>⟨by have:=(h1.q o ho).1;omega,(h1.q o ho).2⟩⟩
theorem Tg(l:List Int):(vQ l).size=l.length:=by
 rw[<-RQ,Cy];simp[dn]
theorem Ti{q:bQ}(h:jN q=true):fF (oI q)=true:=by
 unfold fF;rw[if_pos (show(oI q).kind=1 from rfl),Bool.and_eq_true];exact⟨h,by rfl⟩
theorem Tj(N:Nat):qb (jG N) where
 mask:=λw q h=>by
  have h:jO N (fQ q):=h;have e:fF (oI q)=true:=Ti (h.ask rfl);have:=zN (w:=w) (m:=oI q) ⟨_,_,_,_,_,rfl,aM.zero w,bY.zero w,aM.zero w⟩;rw[if_pos e]at this;exact this
 small:=λq h=>by
  show(rQ _).size<=_;unfold rQ;split
  ·rw[Tg]
   have:=Kr q;show([(1:Int)]++uE q).length<=1000;simp only[length_append,length_singleton];omega
  ·exact Nat.zero_le _
/- What is read is bounded. -/
theorem rT{β:Type}{k:Nat}{l:List Nat}{f:Nat->List Nat->β}{P:β->Prop}(hl:∀x∈l,x<256)(h:∀x l',x<256 ^ k->(∀y∈l',y<256)->P (f x l')):P (nx k l f):=h _ _ (FE hl) (Va hl)
theorem n8{x:Nat}(h:x<256 ^ 1):U8 x:=⟨by omega,by omega⟩
theorem n32{x:Nat}(h:x<256 ^ 4):rW x:=⟨by omega,by omega⟩
theorem n64{x:Nat}(h:x<256 ^ 8):iN x:=⟨by omega,by omega⟩
theorem acZ{l:List Nat}(hl:∀x∈l,x<256):(p9 l).1.b:=by
 unfold p9;refine rT (P:=λz:bQ×List Nat=>z.1.b) hl λc l hc hl=>rT (P:=λz:bQ×List Nat=>z.1.b) hl λs l hs hl=>rT (P:=λz:bQ×List Nat=>z.1.b) hl λk l hk hl=>rT (P:=λz:bQ×List Nat=>z.1.b) hl λkey l hkey hl=>?_
 split
 ·exact rT (P:=λz:bQ×List Nat=>z.1.b) hl λv l hv hl=>⟨n8 hc,n32 hs,n8 hk,n64 hkey,n64 hv,zT,BR⟩
 split
 ·exact rT (P:=λz:bQ×List Nat=>z.1.b) hl λhi l hhi hl=>rT (P:=λz:bQ×List Nat=>z.1.b) hl λto l hto hl=>⟨n8 hc,n32 hs,n8 hk,n64 hkey,zT,n64 hhi,n8 hto⟩
 ·exact⟨n8 hc,n32 hs,n8 hk,n64 hkey,zT,zT,BR⟩
theorem ac0{l:List Nat}(hl:∀x∈l,x<256):(iH l).1.n<=4294967295:=by
 unfold iH;refine rT (P:=λz:bF×List Nat=>z.1.n<=4294967295) hl λn l hn hl=>?_
 show n<=4294967295;omega
theorem ac1{l:List Nat}(hl:∀x∈l,x<256):(dW l).1.b.n<=4294967295/\((dW l).1.kind=1->(dW l).1.q.b):=by
 unfold dW;refine rT (P:=λz:MM×List Nat=>z.1.b.n<=4294967295/\(z.1.kind=1->z.1.q.b)) hl λk l hk hl=>?_
 by_cases h:k=1
 ·rw[if_pos h]
  exact⟨Nat.zero_le _,λ_=>acZ hl⟩
 rw[if_neg h];have hb:=ac0 hl;have no:(aN (k:Int)).kind=1->False:=λe=>h (by have:(k:Int)=1:=e;omega)
 split
 ·exact⟨Nat.zero_le _,λe=>(no e).elim⟩
 split
 ·exact⟨hb,λe=>(no e).elim⟩
 split
 ·exact⟨hb,λe=>(no e).elim⟩
 split
 ·exact⟨hb,λe=>(no e).elim⟩
 split
 ·exact⟨hb,λe=>(no e).elim⟩
 split
 ·exact⟨hb,λe=>(no e).elim⟩
 split
 ·exact⟨Nat.zero_le _,λe=>(no e).elim⟩
 split
 ·exact⟨Nat.zero_le _,λe=>(no e).elim⟩
 split
 ·exact⟨Nat.zero_le _,λe=>(no e).elim⟩
 ·exact⟨Nat.zero_le _,λe=>(no e).elim⟩
theorem wG{d:ByteArray}{m:MM}(h:pq d=some m):fF m=true/\(dW (dl d)).1=m:=by
 unfold pq at h;split at h
 ·rename_i c
  injection h with h;subst h;exact⟨c.1,rfl⟩
 ·cases h
def gT(k:Nat)(l:List Nat):MM×List Nat :=
 if k=1 then rn p9 l λq l=>({ aN k with q:=q },l)
 else if k=2 then rn mE l λp l=>({ aN k with p:=p },l)
 else if k=3 then rn iH l λb l=>({ aN k with b:=b },l)
 else if k=5 then rn iH l λb l=>({ aN k with b:=b },l)
 else if k=4 then rn iH l λb l=>rn (jE nZ) l λvs l=>({ aN k with b:=b,vs:=vs },l)
 else if k=6 then rn iH l λb l=>nx 4 l λs l=>rn nK l λc l=>({ aN k with b:=b,s:=s,c:=c },l)
 else if k=7 then rn iH l λb l=>nx 4 l λs l=>({ aN k with b:=b,s:=s },l)
 else if k=8 then nx 4 l λs l=>rn nK l λc l=>({ aN k with s:=s,c:=c },l)
 else if k=9 then rn BH l λr l=>({ aN k with r:=r },l)
 else if k=10 then nx 1 l λp l=>nx 4 l λs l=>({ aN k with peer:=p,seq:=s },l)
 else(aN k,l)
theorem lT{k:Nat}(hk:k<256)(a:List Int):dW (dn ([(k:Int)]++a))=gT k (dn a):=by
 rw[eG];exact qp (f:=gT) hk
theorem Xq(l:List Nat):gT 2 l=(rn mE l λp l=>({ aN ((2:Nat):Int)with p:=p },l)):=rfl
theorem ac2(l:List Nat):gT 3 l=(rn iH l λb l=>({ aN ((3:Nat):Int)with b:=b },l)):=rfl
theorem ac3(l:List Nat):gT 5 l=(rn iH l λb l=>({ aN ((5:Nat):Int)with b:=b },l)):=rfl
theorem ac4(l:List Nat):gT 4 l=(rn iH l λb l=>rn (jE nZ) l λvs l=>({ aN ((4:Nat):Int)with b:=b,vs:=vs },l)):=rfl
theorem ac5(l:List Nat):gT 6 l=(rn iH l λb l=>nx 4 l λs l=>rn nK l λc l=>({ aN ((6:Nat):Int)with b:=b,s:=s,c:=c },l)):=rfl
theorem ac6(l:List Nat):gT 7 l=(rn iH l λb l=>nx 4 l λs l=>({ aN ((7:Nat):Int)with b:=b,s:=s },l)):=rfl
theorem ac7(l:List Nat):gT 8 l=(nx 4 l λs l=>rn nK l λc l=>({ aN ((8:Nat):Int)with s:=s,c:=c },l)):=rfl
theorem ac8(l:List Nat):gT 9 l=(rn BH l λr l=>({ aN ((9:Nat):Int)with r:=r },l)):=rfl
theorem abP(l:List Nat):gT 10 l=(nx 1 l λp l=>nx 4 l λs l=>({ aN ((10:Nat):Int)with peer:=p,seq:=s },l)):=rfl
theorem afw{m:MM}(h:fF m=true)(e:m.kind=4):nU m.vs=true:=by
 unfold fF at h;rw[if_neg (by omega),if_neg (by omega),if_neg (by omega),if_neg (by omega),if_pos e,Bool.and_eq_true]at h;exact h.1
theorem afx{m:MM}(h:fF m=true)(e:m.kind=6):lV m.c=true:=by
 unfold fF at h;rw[if_neg (by omega),if_neg (by omega),if_neg (by omega),if_neg (by omega),if_neg (by omega),if_pos e,Bool.and_eq_true]at h;exact h.1
theorem afy{m:MM}(h:fF m=true)(e:m.kind=8):lV m.c=true:=by
 unfold fF at h;rw[if_neg (by omega),if_neg (by omega),if_neg (by omega),if_neg (by omega),if_neg (by omega),if_neg (by omega),if_neg (by omega),if_pos e,Bool.and_eq_true]at h;exact h.1
theorem afz{m:MM}(h:fF m=true)(e:m.kind=9):oO m.r=true:=by
 unfold fF at h;rw[if_neg (by omega),if_neg (by omega),if_neg (by omega),if_neg (by omega),if_neg (by omega),if_neg (by omega),if_neg (by omega),if_neg (by omega),if_pos e,Bool.and_eq_true]at h;exact h.1
theorem rU(a:List Int):dn a=dn a++[]:=(append_nil _).symm
theorem abQ{l:List MV}(h:nU l=true):∀v∈l,lV v.c=true:=λv hv=>by
 unfold nU j5 at h;simp only[Bool.and_eq_true,decide_eq_true_eq]at h;obtain⟨i,hi,rfl⟩:=getElem_of_mem hv;have:=all_eq_true.1 h.2 i (mem_range.2 hi);unfold xn at this;rw[getElem?_eq_getElem hi]at this;simp only[Bool.and_eq_true]at this;exact this.1
theorem yL(n:Nat):n%4294967296<=4294967295:=by omega
def nb(b:bF):bF:=⟨b.n%4294967296,b.id%256⟩
def nv(v:MV):MV:=⟨v.slot%4294967296,nb v.b,v.c⟩
def BS(m:MM):MM :=
 if m.kind=3 then{ aN 3 with b:=nb m.b }
 else if m.kind=5 then{ aN 5 with b:=nb m.b }
 else if m.kind=4 then{ aN 4 with b:=nb m.b,vs:=m.vs.map nv }
 else if m.kind=6 then{ aN 6 with b:=nb m.b,s:=m.s%4294967296,c:=m.c }
 else if m.kind=7 then{ aN 7 with b:=nb m.b,s:=m.s%4294967296 }
 else if m.kind=8 then{ aN 8 with s:=m.s%4294967296,c:=m.c }
 else if m.kind=9 then{ aN 9 with r:=m.r }
 else{ aN 10 with peer:=m.peer,seq:=m.seq }
theorem Tk{N n:Nat}{m m':MM}(h:MG (jG N) n m)(hd:pq (rQ m)=some m'):m.kind=2/\(∃p,m'={ aN 2 with p:=p })\/m'=BS m/\3<=m.kind/\m.kind<=10:=by
 obtain⟨ok',e⟩:=wG hd;unfold rQ at e;split at e
 case isFalse =>
  subst e;exact absurd ok' (by decide)
 rename_i ok;obtain⟨_,k1,k10⟩:=FN ok;have kn:=h.k1;rw[Cy]at e;unfold kN at e;obtain⟨kd,q,p,b,s,c,vs,r,peer,seq⟩:=m;have k1:1<=kd:=k1;have k10:kd<=10:=k10;have kn:kd≠1:=kn;rcases(by omega:kd=2\/kd=3\/kd=4\/kd=5\/kd=6\/kd=7\/kd=8\/kd=9\/kd=10)with rfl|rfl|rfl|rfl|rfl|rfl|rfl|rfl|rfl
 ·have e:(dW (dn ([((2:Nat):Int)]++ny p))).1=m':=e
  rw[lT (by decide)]at e;rw[Xq]at e;subst e;exact .inl ⟨rfl,_,rfl⟩
 ·have e:(dW (dn ([((3:Nat):Int)]++fE b.n b.id))).1=m':=e
  rw[lT (by decide)]at e;have e2:gT 3 (dn (fE b.n b.id))=({ aN ((3:Nat):Int)with b:=⟨b.n%4294967296,b.id%256⟩ },[]):=by
   rw[rU];rw[ac2,dP (tC b.n b.id [])]
  rw[e2]at e;subst e;exact .inr ⟨rfl,by simp,by simp⟩
 ·have e:(dW (dn ([((4:Nat):Int)]++(fE b.n b.id++([(vs.length:Int)]++(vs.map kY).flatten))))).1=m':=e
  rw[lT (by decide)]at e;have ov:nU vs=true:=by
   exact afw ok rfl
  obtain⟨hv,hl⟩:=h.vs rfl;have e2:gT 4 (dn (fE b.n b.id++([(vs.length:Int)]++(vs.map kY).flatten)))=({ aN ((4:Nat):Int)with b:=⟨b.n%4294967296,b.id%256⟩,vs:=vs.map λv=>⟨v.slot%4294967296,⟨v.b.n%4294967296,v.b.id%256⟩,v.c⟩ },[]):=by
   rw[eG,rU ([(vs.length:Int)]++_)];rw[ac4,dP (tC b.n b.id _)];exact dP (BN (e:=kY) (g:=λv=>⟨v.slot%4294967296,⟨v.b.n%4294967296,v.b.id%256⟩,v.c⟩) (λv hv'=>SI (hv v hv').1 (abQ ov v hv')) (λv=>by simp[kY,b32]) (Nat.le_trans hl (by decide)) []) _
  rw[e2]at e;subst e;exact .inr ⟨rfl,by simp,by simp⟩
 ·have e:(dW (dn ([((5:Nat):Int)]++fE b.n b.id))).1=m':=e
  rw[lT (by decide)]at e;have e2:gT 5 (dn (fE b.n b.id))=({ aN ((5:Nat):Int)with b:=⟨b.n%4294967296,b.id%256⟩ },[]):=by
   rw[rU];rw[ac3,dP (tC b.n b.id [])]
  rw[e2]at e;subst e;exact .inr ⟨rfl,by simp,by simp⟩
 ·have e:(dW (dn ([((6:Nat):Int)]++(fE b.n b.id++b32 s++nA c)))).1=m':=e
  rw[lT (by decide)]at e;have oc:lV c=true:=by
   exact afx ok rfl
  obtain⟨hc,hs⟩:=h.acc rfl;have e2:gT 6 (dn (fE b.n b.id++b32 s++nA c))=({ aN ((6:Nat):Int)with b:=⟨b.n%4294967296,b.id%256⟩,s:=s%4294967296,c:=c },[]):=by
   rw[eG,eG,rU (nA c),append_assoc];rw[ac5,dP (tC b.n b.id _),NZ,dP (Em hc oc [])]
  rw[e2]at e;subst e;exact .inr ⟨rfl,by simp,by simp⟩
 ·have e:(dW (dn ([((7:Nat):Int)]++(fE b.n b.id++b32 s)))).1=m':=e
  rw[lT (by decide)]at e;have hs:=h.qI rfl;have e2:gT 7 (dn (fE b.n b.id++b32 s))=({ aN ((7:Nat):Int)with b:=⟨b.n%4294967296,b.id%256⟩,s:=s%4294967296 },[]):=by
   rw[eG,rU (b32 s)];rw[ac6,dP (tC b.n b.id _),NZ]
  rw[e2]at e;subst e;exact .inr ⟨rfl,by simp,by simp⟩
 ·have e:(dW (dn ([((8:Nat):Int)]++(b32 s++nA c)))).1=m':=e
  rw[lT (by decide)]at e;have oc:lV c=true:=by
   exact afy ok rfl
  obtain⟨hc,hs⟩:=h.dec rfl;have e2:gT 8 (dn (b32 s++nA c))=({ aN ((8:Nat):Int)with s:=s%4294967296,c:=c },[]):=by
   rw[eG,rU (nA c)];rw[ac7,NZ,dP (Em hc oc [])]
  rw[e2]at e;subst e;exact .inr ⟨rfl,by simp,by simp⟩
 ·have e:(dW (dn ([((9:Nat):Int)]++Fw r))).1=m':=e
  rw[lT (by decide)]at e;have orr:oO r=true:=by
   exact afz ok rfl
  have hm:=h.lU rfl;have hg:jO N (kZ r):=hm.2.2.2;have e2:gT 9 (dn (Fw r))=({ aN ((9:Nat):Int)with r:=r },[]):=by
   rw[rU];rw[ac8,dP (N7 (x:=r) hg.r orr [])]
  rw[e2]at e;subst e;exact .inr ⟨rfl,by simp,by simp⟩
 ·have e:(dW (dn ([((10:Nat):Int)]++([peer]++b32 seq)))).1=m':=e
  rw[lT (by decide)]at e;have hm:=h.jC rfl;have hg:jO N (oZ peer seq):=hm.2.2;obtain⟨x,ex,hx⟩:=U8.nat (x:=peer) hg.peer;obtain⟨y,ey,hy⟩:=rW.nat (x:=seq) hg.seq;have e2:gT 10 (dn ([peer]++b32 seq))=({ aN ((10:Nat):Int)with peer:=peer,seq:=seq },[]):=by
   rw[ex,ey,eG,rU (b32 _)];rw[abP,qp hx,Le hy]
  rw[e2]at e;subst e;exact .inr ⟨rfl,by simp,by simp⟩
theorem VM{N n:Nat}{m m':MM}(h:MG (jG N) n m)(hd:pq (rQ m)=some m'):MG (jG N) n m':=by
 rcases Tk h hd with⟨_,p,rfl⟩|⟨rfl,k3,k10⟩
 ·exact .tell p
 ·obtain⟨kd,q,p,b,s,c,vs,r,peer,seq⟩:=m
  unfold BS;dsimp only;split
  ·exact .fO (.inl rfl) (yL _)
  split
  ·exact .fO (.inr rfl) (yL _)
  split
  ·rename_i e
   obtain⟨hv,hl⟩:=h.vs e;exact .promise (yL _) (λv hv'=>by obtain⟨y,hy,rfl⟩:=mem_map.1 hv';exact⟨(hv y hy).1,Nat.lt_of_le_of_lt (Nat.mod_le _ _) (hv y hy).2⟩) (by rw[length_map];exact hl)
  split
  ·rename_i e;exact .accept (yL _) (Nat.lt_of_le_of_lt (Nat.mod_le _ _) (h.acc e).2) (h.acc e).1
  split
  ·rename_i e;exact .accepted (yL _) (Nat.lt_of_le_of_lt (Nat.mod_le _ _) (h.qI e))
  split
  ·rename_i e;exact .decide (Nat.lt_of_le_of_lt (Nat.mod_le _ _) (h.dec e).2) (h.dec e).1
  split
  ·rename_i e;exact .move (h.lU e)
  ·have k3:3<=kd:=k3
   have k10:kd<=10:=k10;exact .Pz (h.jC (show kd=10 by omega))
theorem Tm(N:Nat):dH (jG N) where
 lens:=λs h=>by
  have h:dB N _ s:=h;have:=h.ok.il;have:=h.ok.ol;exact⟨by omega,by omega,h.ok.n4⟩
 stay:=λs c _ _=>Xp s c
 Rz:=λg n _ _=>⟨rfl,rfl⟩
 lane:=λs h o ho r hr=>by
  have h:dB N _ s:=h;obtain⟨h1,h2⟩:=(h.o o ho).2.2.2 r hr;exact⟨h1,by have:=h2.seq.2;omega,jO.recv h2 (by have:=h.ok.gn;have:=h.n;omega)⟩
 Kl:=λs h x hx=>by
  have h:dB N _ s:=h;have:=h.i x hx;have:=h.xz;omega
 U1:=λp s h1 h2 h3 h4=>jO.afv ⟨h1,by omega⟩ ⟨h3,by omega⟩
 ask:=λd m h=>by
  obtain⟨h1,h2⟩:=wG h;have:=ac1 (Jj d);rw[h2]at this;refine⟨this.1,λe=>jO.asks (this.2 e) ?_⟩;unfold fF at h1;rw[if_pos e,Bool.and_eq_true]at h1;exact h1.1
 kind:=λd m h=>(FN (wG h).1).2
 rl:=λc h=>by
  have h:jO N c:=h;exact⟨h.r.rl,h.r.dl⟩
 rc:=λs c h hc=>(Xo h hc).2
 back:=λn m m' h hd=>VM h hd
end
