/- Any step of a script; what stays. -/
import Derived.Test.YtignemioillaiaaGreatG46
import Derived.Conc.Holds
import Derived.Test.YtignemioillaiaaGreatG42
namespace Go.Proofs.YtignemioillaiaaGreat
set_option maxHeartbeats 8000000
set_option linter.unusedSectionVars false
set_option maxRecDepth 100000
section
open Go Go.Conc
theorem aM.RZ{C:aM}(h:C.q.length<=20000)(g i:Nat)(R:MR):C.q.length<=(C.done g i R).q.length:=by
 show _<=(List.take 20000 _).length;rw[List.length_take,List.length_append];omega
theorem aM.Gu{A:aR}{C:aM}(h:C.q.length<=20000)(k:Int):C.q.length<=(C.eG A k).q.length:=by
 unfold aM.eG;split
 ·unfold aM.jH
  split
  ·exact Nat.le_refl _
  ·split
   ·exact aM.RZ h _ _ _
   ·exact Nat.le_refl _
 ·exact Nat.le_refl _
theorem aM.KQ{A:aR}{C:aM}(h:C.q.length<=20000)(g i:Nat):C.q.length<=(C.tick A g i).q.length:=by
 unfold aM.tick;split
 ·exact aM.RZ h _ _ _
 ·exact Nat.le_refl _
theorem aM.Nw{A:aR}(C:aM)(g i:Nat):(C.dB A g i).q=C.q:=by unfold aM.dB;split<;>rfl
theorem aM.Fv(C:aM)(g i:Nat)(d:ByteArray):C.q.length<=(C.send g i d).q.length:=by
 unfold aM.send;split
 ·show _<=(kN _ _).length
  unfold kN;split
  ·simp
  ·exact Nat.le_refl _
 ·exact Nat.le_refl _
theorem aM.Ny{C:aM}{g i:Nat}{d:ByteArray}(hg:g<C.n)(hi:i<C.sz)(hd:¬d.size > 1000)(hq:C.q.length<20000):(C.send g i d).q.length=C.q.length+1:=by
 unfold aM.send;rw[if_pos ⟨⟨hg,hi⟩,hd⟩];show(kN _ _).length=_;rw[Hr hq];simp
section
variable{A:aR}{S:Sit}
theorem Sit.aK.eY(h:S.aK A){C:aM}(hC:C.aK A)(hn:C.n=S.C.n)(hz:C.sz=S.C.sz)(hq:S.C.q.length<=C.q.length):Sit.aK A { S with C:=C }:=⟨hC,by show 0<C.n;rw[hn];exact h.n,by show 0<C.sz;rw[hz];exact h.sz,by show S.bf.length=C.n;rw[hn];exact h.be,by show S.len.length=C.n*C.sz;rw[hn,hz];exact h.le,by show S.fell.length=C.n*C.sz;rw[hn,hz];exact h.fe,Nat.le_trans h.ak hq⟩
theorem Sit.aK.nxt(h:S.aK A)(k:Nat):Sit.aK A { S with next:=k }:=⟨h.cl,h.n,h.sz,h.be,h.le,h.fe,h.ak⟩
end
section
variable{A:aR}(HA:bG A)(HN:dL A)(HL:sS A){S:Sit}
include HA HN
theorem Sit.aK.all:∀(n:Nat) {S:Sit},S.aK A->(S.all A n).aK A
 |0,_,h=>h
 |n+1,S,h=>by
  unfold Sit.all;split
  ·exact Sit.aK.all n (S:=S.one A) ((h.eY (h.cl.eG HA HN (S.next:Int)) (aM.jd _ _ _).1 (aM.jd _ _ _).2 (aM.Gu h.cl.len _)).nxt _)
  ·exact h
theorem Sit.aK.jQ(h:S.aK A):∀g,(S.jQ A g).aK A
 |0=>h
 |g+1=>(Sit.aK.jQ h g).eY ((Sit.aK.jQ h g).cl.tick HA HN _ _) (aM.nN _ _ _ _).1 (aM.nN _ _ _ _).2 (aM.KQ (Sit.aK.jQ h g).cl.len _ _)
theorem Sit.aK.round(h:S.aK A):(S.round A).aK A:=Sit.aK.all HA HN _ (Sit.aK.jQ HA HN h _)
include HL
theorem Sit.aK.sends(h:S.aK A){q:bQ}(hq:A.gc (fH q)){g i:Nat}(hg:g<S.C.n)(hi:i<S.C.sz)(hl:S.C.q.length<20000):(S.sends A q g i).aK A:=by
 have hsm:=HL.small q hq;have h4:=h.cl.n;have h5:=h.cl.sz;have z:=h.eY (h.cl.send (g:=g) (i:=i) (by omega) (by omega) (A.enc (nW q))) (S.C.pz g i _).1 (S.C.pz g i _).2 (S.C.Fv g i _);refine⟨z.cl,z.n,z.sz,z.be,z.le,z.fe,?_⟩;show(S.asks++[_]).length<=(S.C.send g i (A.enc (nW q))).q.length;rw[List.length_append,aM.Ny hg hi (by omega) hl];have:=h.ak;show S.asks.length+1<=_;omega
theorem Sit.aK.do(h:S.aK A){t:Stp}(ht:t.wf A):(S.do A t).1.aK A:=by
 obtain⟨q1,q2⟩:=nV (C:=S.C) (k:=t.a) h.n h.sz;have h4:=h.cl.n;have h5:=h.cl.sz;have hp:=jl t.kind (show 0<7 by decide);have hs:=h.eY (h.cl.send (g:=aZ S.C t.a) (i:=bN S.C t.a) (by omega) (by omega) t.d) (S.C.pz _ _ _).1 (S.C.pz _ _ _).2 (S.C.Fv _ _ _);have hdl:∀k:Int,Sit.aK A { S with C:=S.C.eG A k }:=λk=>h.eY (h.cl.eG HA HN k) (aM.jd _ _ _).1 (aM.jd _ _ _).2 (aM.Gu h.cl.len _)
 unfold Sit.do;generalize bA t.kind 7=K at hp;match K,hp with
 |0,_ =>
  show Sit.aK A (if S.C.q.length<20000 then _ else _);split
  ·rename_i c;exact Sit.aK.sends HA HN HL h ht.r q1 q2 c
  ·exact h
 |1,_ =>
  show Sit.aK A (S.tV A t);unfold Sit.tV;split
  ·rename_i m hm
   split
   ·rename_i c
    refine⟨hs.cl,hs.n,hs.sz,hs.be,hs.le,hs.fe,?_⟩;show(S.asks++[_]).length<=(S.C.send _ _ t.d).q.length;rw[List.length_append,aM.Ny q1 q2 c.2.1 c.2.2];have:=h.ak;show S.asks.length+1<=_;omega
   ·exact hs
  ·exact hs
 |2,_ =>
  show Sit.aK A (if 0<S.C.q.length then _ else _:Sit×Bool).1;split
  ·exact hdl _
  ·exact h
 |3,_ =>
  show Sit.aK A (if 0<S.C.q.length then _ else _:Sit×Bool).1;split
  ·exact hdl _
  ·exact h
 |4,_=>exact h.eY (h.cl.tick HA HN _ _) (aM.nN _ _ _ _).1 (aM.nN _ _ _ _).2 (aM.KQ h.cl.len _ _)
 |5,_ =>
  obtain⟨lF,lC⟩:=h.dX (S.C.n*S.C.sz);have lF:S.look.1.aK A:=lF;have z:=lF.eY (lF.cl.dB HA HN (aZ S.C t.a) (bN S.C t.a)) (aM.uQ _ _ _ _).1 (aM.uQ _ _ _ _).2 (Nat.le_of_eq (by rw[aM.Nw]));refine⟨z.cl,z.n,z.sz,z.be,z.le,?_,z.ak⟩;show(S.look.1.fell.set _ _).length=_;rw[List.length_set];exact z.fe
 |6,_=>exact Sit.aK.all HA HN _ h
variable{Λ:bU}{w:World}{bs:Nat}
theorem aeZ(h:cZ Λ bs S w)(hF:S.aK A){t:Stp}(ht:t.wf A):gH Tryz.prog 70 #[Ptt bs,.agg t.cells.toArray] w (λv w'=>v=.bool (S.do A t).2/\cZ Λ bs (S.do A t).1 w'/\Kz w w'):=by
 have hp:=jl t.kind (show 0<7 by decide);obtain⟨K,hK⟩:∃K,bA t.kind 7=K:=⟨_,rfl⟩;rw[hK]at hp;match K,hp,hK with
 |0,_,hK=>exact acg HA HN HL h hF ht hK
 |1,_,hK=>exact aco HA h hF ht hK
 |2,_,hK=>exact ach HA HN HL h hF ht hK
 |3,_,hK=>exact aci HA HN HL h hF ht hK
 |4,_,hK=>exact acj HA HN HL h hF ht hK
 |5,_,hK=>exact acp HA HN h hF ht hK
 |6,_,hK=>exact acm HA HN HL h hF ht hK
end
def Sit.rounds(A:aR):Nat->Sit->Sit
 |0,S=>S
 |n+1,S=>(S.rounds A n).round A
def Fw:bQ:=⟨2,9,1,5,0,0,0⟩
def Fx:aB:=⟨2,9,5,1,false,0,0⟩
def Fy(A:aR)(sz:Nat):Sit:=((((Sit.new A 1 sz).rounds A 15).sends A Fw 0 0).round A).round A
def R7(A:aR)(sz:Nat):Bool:=(nP A (Fy A sz).C.q).2 && (!(Fy A sz).bad && (nP A (Fy A sz).C.q).1.any λx=>eQ x.1 Fx)
structure FB(A:aR):Prop where
 gc:A.gc (fH Fw)
 live:∀f,f<=2->R7 A (2*f+1)=true
 room:∀f,f<=2->((Sit.new A 1 (2*f+1)).rounds A 15).C.q.length<20000
theorem cZ.snap{w w':World}{bs:Nat}{S:Sit}(h:cZ (fA w) bs S w'):GB none w w':=by
 obtain⟨_,_,_,_,_,_,h⟩:=h;have kp:∀x,x<w.heap.size->w'.heap[x]? = w.heap[x]?:=λx hx=>by
  obtain⟨o,ho⟩:∃o,w.heap[x]? = some o:=⟨w.heap[x],by simp[hx]⟩;exact(h.pr x o ho).1.trans ho.symm
 refine⟨h.os,h.out,?_,λx hx _=>kp x hx⟩;by_cases h0:w.heap.size=0
 ·omega
 ·have h1:=kp (w.heap.size - 1) (by omega)
  obtain⟨o,ho⟩:∃o,w.heap[w.heap.size - 1]? = some o:=⟨w.heap[w.heap.size - 1]'(by omega),by simp[show w.heap.size - 1<w.heap.size by omega]⟩;rw[ho]at h1;have:=ae h1;omega
theorem acr{l:List (aB×Nat)}{k:Nat}{x:aB×Nat}(h:l[k]? = some x){cur:List Value}(ht:cur.take (l.length*8)=(l.map Fq).flatten):aJ cur (k*8) 7=x.1.cells:=by
 have h1:=jB (f:=Fq) (size:=8) (λ_=>rfl) l k x h;have hk:k<l.length:=(List.getElem?_eq_some_iff.1 h).1;have h2:aJ cur (k*8) 8=Fq x:=by
  rw[<-h1,List.flatMap_def,<-ht];unfold aJ;rw[List.drop_take,List.take_take,Nat.min_eq_left (by omega)]
 have h3:aJ cur (k*8) 7=(aJ cur (k*8) 8).take 7:=by unfold aJ;rw[List.take_take];rfl
 rw[h3,h2];rfl
section
variable{A:aR}(HA:bG A)(HN:dL A)
include HA HN
theorem Sit.aK.new{n sz:Nat}(hn:1<=n/\n<=4)(hN:n=A.N)(hz:1<=sz/\sz<=5):(Sit.new A n sz).aK A:=⟨aM.aK.new HA HN hn.2 hN hz.2,hn.1,hz.1,by simp[Sit.new,aM.new],by simp[Sit.new,aM.new],by simp[Sit.new,aM.new],by simp[Sit.new]⟩
theorem Sit.aK.rounds{S:Sit}(h:S.aK A):∀n,(S.rounds A n).aK A
 |0=>h
 |n+1=>(Sit.aK.rounds h n).round HA HN
variable(HL:sS A)(HV:FB A)
theorem Sit.WC(S:Sit):∀n,(S.all A n).C.n=S.C.n/\(S.all A n).C.sz=S.C.sz:=by
 intro n;induction n generalizing S with
 |zero=>exact⟨rfl,rfl⟩
 |succ n ih =>
  unfold Sit.all;split
  ·exact⟨(ih (S.one A)).1.trans (aM.jd A S.C _).1,(ih (S.one A)).2.trans (aM.jd A S.C _).2⟩
  ·exact⟨rfl,rfl⟩
theorem Sit.Nz(S:Sit):(S.round A).C.n=S.C.n/\(S.round A).C.sz=S.C.sz:=⟨(Sit.WC HA HN _ _).1.trans (Sit.yl S _).1,(Sit.WC HA HN _ _).2.trans (Sit.yl S _).2⟩
theorem Sit.DU(S:Sit):∀n,(S.rounds A n).C.n=S.C.n/\(S.rounds A n).C.sz=S.C.sz
 |0=>⟨rfl,rfl⟩
 |n+1=>⟨(Sit.Nz HA HN _).1.trans (Sit.DU S n).1,(Sit.Nz HA HN _).2.trans (Sit.DU S n).2⟩
include HL HV
theorem Yj(hN:A.N=1)(w:World)(f:Nat)(hf:f<=2):gH Tryz.prog 124 #[.int .i64 (2*f+1:Nat)] w (λv w'=>v=.bool true/\GB none w w'):=by
 have hlive:=HV.live f hf;have PU:(Sit.new A 1 (2*f+1)).aK A:=Sit.aK.new HA HN ⟨by decide,by decide⟩ hN.symm ⟨by omega,by omega⟩;refine EU ah Tryz.func124 rfl rfl ?_;refine aN.piece (Q:=λq w'=>q=[(0,.int .i64 (2*f+1:Nat))]/\w'=w) (aN.of ah mixed ⟨_,by exact⟨rfl,trivial⟩,rfl,rfl⟩) ?_;rintro q w ⟨rfl,rfl⟩;refine aN.piece (Q:=λq w1=>∃bs,q=[(3,Ptt bs),(4,.bool true)]/\cZ (fA w) bs (Sit.new A 1 (2*f+1)) w1) (aN.of ah mixed ?_) ?_
 ·refine⟨_,(RS HA w 1 f ⟨by decide,by decide⟩ hf).x,?_⟩
  rintro _ w1 ⟨bs,rfl,_,h1,k1⟩;exact⟨_,by exact⟨rfl,rfl,trivial⟩,bs,rfl,h1⟩
 rintro q w1 ⟨bs,rfl,h1⟩;obtain⟨N0,hN0⟩:∃S,S=Sit.new A 1 (2*f+1):=⟨_,rfl⟩;have hsz0:N0.C.n=1/\N0.C.sz=2*f+1:=by rw[hN0];exact⟨rfl,rfl⟩
 have hroom:=HV.room f hf;have hlv:Fy A (2*f+1)=(((N0.rounds A 15).sends A Fw 0 0).round A).round A:=by rw[hN0];rfl
 rw[<-hN0]at h1 PU hroom;refine aN.piece (Q:=λq w2=>q=[(3,Ptt bs),(4,.bool true)]/\cZ (fA w) bs (N0.rounds A 15) w2) ?_ ?_
 ·refine aN.piece (Q:=λq w'=>q=[(3,Ptt bs),(4,.bool true),(5,.int .i64 0)]/\w'=w1) (aN.of ah mixed ⟨_,by exact⟨rfl,rfl,rfl,trivial⟩,rfl,rfl⟩) ?_
  rintro q w1 ⟨rfl,rfl⟩;refine aN.block ?_;refine aN.loop (λm s wk=>∃i:Nat,m=15 - i/\i<=15/\s=[(3,Ptt bs),(4,.bool true),(5,.int .i64 i)]/\cZ (fA w) bs (N0.rounds A i) wk) ⟨_,_,⟨0,rfl,Nat.zero_le _,rfl,h1⟩,rfl,rfl,rfl,trivial⟩ ?_;rintro m s wk ⟨i,rfl,hi,rfl,hS⟩;refine aN.cut (Qn:=λq w'=>i<15/\q=[(3,Ptt bs),(4,.bool true),(5,.int .i64 i)]/\w'=wk) (Qx:=λj q w'=>j=0/\i=15/\q=[(3,Ptt bs),(4,.bool true)]/\w'=wk) (Qr:=λ_ _=>False) (aN.of ah mixed ?_) ?_ ?_ (λ_ _ _ h _=>h.elim)
  ·refine au (λc=>?_) (λc=>?_)
   ·exact⟨_,by exact⟨rfl,rfl,rfl,trivial⟩,by simp at c;omega,rfl,rfl⟩
   ·exact⟨_,by exact⟨rfl,rfl,trivial⟩,rfl,by simp at c;omega,rfl,rfl⟩
  rotate_left
  ·rintro j q s w' ⟨rfl,e,rfl,rfl⟩ hs
   exact⟨_,hs,rfl,by rw[<-e];exact hS⟩
  rintro q wk ⟨c1,rfl,rfl⟩;have Ns:=Sit.aK.rounds HA HN PU i;refine aN.piece (Q:=λq w'=>q=[(3,Ptt bs),(4,.bool true),(5,.int .i64 i)]/\cZ (fA w) bs (N0.rounds A (i+1)) w') ?_ ?_
  ·refine aN.block (aN.of ah mixed ?_)
   refine⟨_,Gn HA HN hS Ns.cl Ns.sz,?_⟩;rintro _ w2 ⟨rfl,h2,k2⟩;exact⟨_,by exact⟨rfl,rfl,rfl,trivial⟩,rfl,h2⟩
  ·rintro q w' ⟨rfl,h'⟩
   refine aN.of ah mixed ?_;exact⟨⟨by omega,by omega⟩,_,_,⟨i+1,rfl,by omega,rfl,h'⟩,⟨rfl,rfl,rfl,trivial⟩,by omega⟩
 rintro q w2 ⟨rfl,h2⟩;have Pw:=Sit.aK.rounds HA HN PU 15;obtain⟨r1,r2⟩:=Sit.DU HA HN N0 15;have hg0:0<(N0.rounds A 15).C.n:=by rw[r1,hsz0.1];decide
 have hi0:0<(N0.rounds A 15).C.sz:=by rw[r2,hsz0.2];omega
 have QA:=Sit.aK.sends HA HN HL Pw HV.gc hg0 hi0 hroom;have hFr:=QA.round HA HN;generalize N0.rounds A 15=S15 at *;refine aN.piece (Q:=λq w'=>q=[(3,Ptt bs)]/\w'=w2) (aN.of ah mixed ⟨_,by exact⟨rfl,trivial⟩,rfl,rfl⟩) ?_;rintro q w2 ⟨rfl,rfl⟩;refine aN.piece (Q:=λq w3=>q=[(3,Ptt bs)]/\cZ (fA w) bs (S15.sends A Fw 0 0) w3) (aN.of ah mixed ?_) ?_
 ·have hak:=Pw.ak
  have hlen:=Pw.cl.len;refine⟨_,(Nr HL h2 Pw.cl HV.gc hg0 hi0 (by omega)).x,?_⟩;rintro _ w3 ⟨rfl,h3,k3⟩;exact⟨_,by exact⟨rfl,trivial⟩,rfl,h3⟩
 rintro q w3 ⟨rfl,h3⟩;refine aN.piece (Q:=λq w4=>q=[(3,Ptt bs),(6,.bool true)]/\cZ (fA w) bs ((S15.sends A Fw 0 0).round A) w4) (aN.of ah mixed ?_) ?_
 ·refine⟨_,Gn HA HN h3 QA.cl QA.sz,?_⟩
  rintro _ w4 ⟨rfl,h4,k4⟩;exact⟨_,by exact⟨rfl,rfl,trivial⟩,rfl,h4⟩
 rintro q w4 ⟨rfl,h4⟩;obtain⟨L,hL⟩:∃L,L=Fy A (2*f+1):=⟨_,rfl⟩;rw[hlv]at hL;refine aN.piece (Q:=λq w5=>q=[(3,Ptt bs),(6,.bool true),(7,.bool true)]/\cZ (fA w) bs L w5) (aN.of ah mixed ?_) ?_
 ·refine⟨_,Gn HA HN h4 hFr.cl hFr.sz,?_⟩
  rintro _ w5 ⟨rfl,h5,k5⟩;exact⟨_,by exact⟨rfl,rfl,rfl,trivial⟩,rfl,by rw[hL];exact h5⟩
 rintro q w5 ⟨rfl,h5⟩;have hFL:L.aK A:=by rw[hL];exact hFr.round HA HN
 have hal:((nP A L.C.q).2 && (!L.bad && (nP A L.C.q).1.any λx=>eQ x.1 Fx))=true:=by
  have:=hlive;unfold R7 at this;rw[hlv,<-hL]at this;exact this
 rw[Bool.and_eq_true,Bool.and_eq_true]at hal;obtain⟨a1,a2,a3⟩:=hal;have a2:L.bad=false:=by simpa using a2
 have htl:=Yi HA h5 hFL.cl;generalize nP A L.C.q=TL at htl a1 a3;obtain⟨tl,ok⟩:=TL;have a1:ok=true:=a1;subst a1;have a3:tl.any (λx=>eQ x.1 Fx)=true:=a3;refine aN.piece (Q:=λq w6=>∃lv,q=[(3,Ptt bs),(6,.bool true),(7,.bool true),(8,lv),(9,.bool true)]/\w6.ownsRow 0 264 8 lv tl.length (tl.map Fq).flatten/\cZ (fA w) bs L w6) (aN.of ah mixed ?_) ?_
 ·refine⟨_,htl.x,?_⟩
  rintro _ w6 ⟨⟨lv,rfl,ho⟩,g6⟩;exact⟨_,by exact⟨rfl,rfl,rfl,rfl,rfl,trivial⟩,lv,rfl,ho,h5.ax g6⟩
 rintro q w6 ⟨lv,rfl,ho,h6⟩;obtain⟨la,lc,rfl⟩:=af ho;have Kg:tl.length<=9223372036854775807:=by
  rcases ho.2 with⟨_,h0⟩|⟨g,cap,cur,e,h0,h2,h3,h4,_⟩
  ·omega
  ·unfold Go.maxLen at h4;omega
 have G6:=h6.snap;refine aN.cut (Qn:=λ_ _=>False) (Qx:=λ_ _ _=>False) (Qr:=λq w'=>q=[(2,.bool true)]/\GB none w w') ?_ (λ_ _ h=>h.elim) (λ_ _ _ _ h _=>h.elim) ?_;rotate_left
 ·rintro q s w' ⟨rfl,g'⟩ hs
  exact rT hs ⟨rfl,g'⟩
 refine aN.piece (Q:=λq w'=>q=[(3,Ptt bs),(6,.bool true),(7,.bool true),(8,.slice la tl.length lc),(9,.bool true),(10,.int .i64 0)]/\w'=w6) (aN.of ah mixed ⟨_,by exact⟨rfl,rfl,rfl,rfl,rfl,rfl,trivial⟩,rfl,rfl⟩) ?_;rintro q w6 ⟨rfl,rfl⟩;refine aN.block ?_;refine aN.loop (λm s wk=>∃k:Nat,m=tl.length - k/\k<=tl.length/\s=[(3,Ptt bs),(6,.bool true),(7,.bool true),(8,.slice la tl.length lc),(9,.bool true),(10,.int .i64 k)]/\wk=w6/\∀(j:Nat) (x:aB×Nat),j<k->tl[j]? = some x->eQ x.1 Fx=false) ⟨_,_,⟨0,rfl,Nat.zero_le _,rfl,rfl,λj x h=>by omega⟩,rfl,rfl,rfl,rfl,rfl,rfl,trivial⟩ ?_;rintro m s w6 ⟨k,rfl,hk,rfl,rfl,hno⟩;refine aN.cut (Qn:=λq w'=>k<tl.length/\q=[(3,Ptt bs),(6,.bool true),(7,.bool true),(8,.slice la tl.length lc),(9,.bool true),(10,.int .i64 k)]/\w'=w6) (Qx:=λ_ _ _=>False) (Qr:=λ_ _=>False) (aN.of ah mixed ?_) ?_ (λ_ _ _ _ h _=>h.elim) (λ_ _ _ h _=>h.elim)
 ·refine au (λc=>?_) (λc=>?_)
  ·exact⟨_,by exact⟨rfl,rfl,rfl,rfl,rfl,rfl,trivial⟩,by have:=of_decide_eq_true c;omega,rfl,rfl⟩
  ·exfalso
   have c1:k=tl.length:=by have:=of_decide_eq_false c;omega
   obtain⟨x,hx,hp⟩:=List.any_eq_true.1 a3;obtain⟨j,hj⟩:=List.mem_iff_getElem?.1 hx;have:=hno j x (by have:=(List.getElem?_eq_some_iff.1 hj).1;omega) hj;rw[this]at hp;cases hp
 rintro q w6 ⟨c1,rfl,rfl⟩;obtain⟨x,hx⟩:∃x,tl[k]? = some x:=⟨tl[k],by simp[c1]⟩;obtain⟨gb,cap,cur,ev,aS,htk,hsz,hcap⟩:=jq ho (by omega);injection ev with ev _ Ro;subst ev;subst Ro;have hel:=acr hx htk;refine aN.cut (Qn:=λq w'=>eQ x.1 Fx=false/\q=[(3,Ptt bs),(6,.bool true),(7,.bool true),(8,.slice (some ⟨gb,0,none⟩) tl.length lc),(9,.bool true),(10,.int .i64 k)]/\w'=w6) (Qx:=λ_ _ _=>False) (Qr:=λq w'=>q=[(2,.bool true)]/\w'=w6) ?_ ?_ (λ_ _ _ _ h _=>h.elim) ?_
 ·refine aN.block (aN.of ah mixed ?_)
  obtain⟨_,_,_,_,_,_,h6⟩:=h6;refine⟨_,_,h6.si.mem,.bool false,by show(fJ _ _ _)[8]? = _;unfold fJ;rw[a2];rfl,⟨by omega,by omega⟩,_,_,aS,x.1.cells,by show aJ cur.toList (0+(k:Int).toNat*8) 7=_;rw[Nat.zero_add,Int.toNat_natCast];exact hel,rfl,?_⟩;refine au (λd=>?_) (λd=>?_)
  ·exact⟨_,by exact⟨rfl,trivial⟩,rfl,rfl⟩
  ·exact⟨_,by exact⟨rfl,rfl,rfl,rfl,rfl,rfl,trivial⟩,d,rfl,rfl⟩
 ·rintro q w6 ⟨e,rfl,rfl⟩
  refine aN.of ah mixed ?_;refine⟨⟨by omega,by omega⟩,_,_,⟨k+1,rfl,by omega,rfl,rfl,λj y hj hy=>?_⟩,⟨rfl,rfl,rfl,rfl,rfl,rfl,trivial⟩,by omega⟩;by_cases ej:j=k
  ·subst ej;rw[hx]at hy;cases hy;exact e
  ·exact hno j y (by omega) hy
 ·rintro q s w6 ⟨rfl,rfl⟩ hs
  exact⟨_,hs,rfl,G6⟩
theorem Ve{B:aR}(HB:bG B)(hN:A.N=1)(w:World)(g f:Int)(hg:wW g)(hf:wW f):gH Tryz.prog 69 #[.int .i64 g,.int .i64 f] w (λv w'=>∃bs,v=.tuple #[Ptt bs,.bool true]/\cZ (fA w) bs (Sit.new B (1+bA g 4) (1+2*bA f 3)) w'/\Kz w w'):=by
 have lf:=jl f (show 0<3 by decide);have lg:=jl g (show 0<4 by decide);refine sK ah mixed Tryz.func69 rfl rfl ?_;refine⟨_,(jc w f 3 (by decide) hf.1 hf.2).x,?_⟩;rintro _ w ⟨rfl,rfl⟩;refine⟨⟨by omega,by omega⟩,⟨by omega,by omega⟩,_,(jc w g 4 (by decide) hg.1 hg.2).x,?_⟩;rintro _ w ⟨rfl,rfl⟩;have hm:=RS HB w (1+bA g 4) (bA f 3) ⟨by omega,by omega⟩ (by omega);have e1:((1+bA g 4:Nat):Int)=1+((bA g 4:Nat):Int):=by omega
 have e2:((2*bA f 3+1:Nat):Int)=1+2*((bA f 3:Nat):Int):=by omega
 rw[e1,e2]at hm;refine⟨⟨by omega,by omega⟩,_,hm.x,?_⟩;rintro _ w1 ⟨bs,rfl,_,h1,k1⟩;have ha:=Yj HA HN HL HV hN w1 (bA f 3) (by omega);rw[e2]at ha;refine⟨_,ha,?_⟩;rintro _ w2 ⟨rfl,g2⟩;rw[show 2*bA f 3+1=1+2*bA f 3 by omega]at h1;exact⟨bs,rfl,h1.ax g2,k1.trans g2.kz⟩
end
structure Pl where
 bc:Nat
 a:yj
 (gv sv:Value)
 B:Nat->Nat->Nat
 ad:Nat->Nat->fO
open Classical in
section
variable{Λ Λ':bU}{w w':World}{bs bt:Nat}{S S' T:Sit}{p p' r:Pl}
end
section
variable{Λ:bU}{w w':World}{bs bt bu:Nat}{S S' T U:Sit}
end
section
variable{P:Program}[kr P](E:lY P)(n:Nat)(ops:Array Oper)(K:Sg->World->Prop)
end
section
variable{P:Program}[kr P]{main:Bool}{D:World->World->Array Event->Prop}{X:Goroutine->World->Prop}{b:Frame}{k:List Item}{cs:List Frame}{ops:Array Oper}{E:lY P}{n:Nat}{K:Sg->World->Prop}
end
def WE(o:Int×List Rg)(q:Value):List Value:=[Value.int .u32 o.1,q]
theorem WG:∀{O:List (Int×List Rg)} {qs:List Value} {k:Nat} {o:Int×List Rg} {q:Value},O[k]? = some o->qs[k]? = some q->aJ (List.zipWith WE O qs).flatten (k*2) 2=WE o q
 | [],_,_,_,_,h,_=>by simp at h
 |_::_,[],_,_,_,_,h=>by simp at h
 |o::O,q::qs,0,_,_,h1,h2=>by
  simp at h1 h2;subst h1;subst h2;simp[aJ,WE]
 |o::O,q::qs,k+1,_,_,h1,h2=>by
  have:=WG (O:=O) (qs:=qs) (k:=k) (by simpa using h1) (by simpa using h2);rw[<-this];unfold aJ;rw[List.zipWith_cons_cons,List.flatten_cons,List.drop_append,List.drop_eq_nil_of_le (by show 2<=_;omega),List.nil_append,show(WE o q).length=2 from rfl,show(k+1)*2 - 2=k*2 by omega]
theorem R8:∀{l:List Rg} {vs:List (Value×Value)} {k:Nat} {r:Rg} {p:Value×Value},l[k]? = some r->vs[k]? = some p->aJ (List.zipWith (λr (p:Value×Value)=>dP r p.1 p.2) l vs).flatten (k*7) 7=dP r p.1 p.2
 | [],_,_,_,_,h,_=>by simp at h
 |_::_,[],_,_,_,_,h=>by simp at h
 |r::l,p::vs,0,_,_,h1,h2=>by
  simp at h1 h2;subst h1;subst h2;simp[aJ,dP]
 |r::l,p::vs,k+1,_,_,h1,h2=>by
  have:=R8 (l:=l) (vs:=vs) (k:=k) (by simpa using h1) (by simpa using h2);rw[<-this];unfold aJ;rw[List.zipWith_cons_cons,List.flatten_cons,List.drop_append,List.drop_eq_nil_of_le (by show 7<=_;omega),List.nil_append,show(dP r p.1 p.2).length=7 from rfl,show(k+1)*7 - 7=k*7 by omega]
theorem KR(x:Row):jI x x=true:=by simp[jI]
theorem LY(x:aB):eQ x x=true:=by simp[eQ]
theorem Ij(a:Rg):ry a a=true:=by
 have h1:nO jI a.rows a.rows=true:=vU λk x y _ h1 h2=>by rw[h1]at h2;cases h2;exact KR x
 have h2:nO eQ a.aW a.aW=true:=vU λk x y _ h1 h2=>by rw[h1]at h2;cases h2;exact LY x
 unfold ry;rw[h1,h2];simp
structure StB(s:St):Prop where
 T:s.T.length<=1000000
 M:s.M.length<=1000000
 D:s.D.length<=1000000
 O:s.O.length<=1000000
 I:s.I.length<=1000000
 q:∀o∈s.O,o.2.length<=1000000/\∀r∈o.2,r.rows.length<=1000000/\r.aW.length<=1000000

def KS(P:Program)(Post:Value->World->Prop)(m:Machine)(t:Trace):Prop:=∃N last o w' t',runNT P (N+1) m t=(.ended o w',t')/\runN P N m=.next last/\Go.step P last=.ended o w'/\Go.Conc.Good P Post last o w' t'
theorem Yk{P:Program}{i k:Nat}{m m' last:Machine}{t t':Trace}(h:runNT P i m t=(.next m',t'))(h2:runN P k m'=.next last):runN P (i+k) m=.next last:=by
 rw[<-runNT_fst _ _ _ t,uD i k h,runNT_fst,h2]
theorem Yl{P:Program}{Post:Value->World->Prop}{m:Machine}{t:Trace}(h:Reaches P (KS P Post) m t):KS P Post m t:=by
 obtain⟨i,m',t',h1,N,last,o,w',t2,h2,h3,h4,h5⟩:=h;exact⟨i+N,last,o,w',t2,(uD i (N+1) h1).trans h2,Yk h1 h3,h4,h5⟩
theorem Ym{P:Program}{Post:Value->World->Prop}{g:Goroutine}{w:World}(hr:g.status=.running){v:Value}(hs:∀w,stepG P true g w=.ended (.done v) w #[])(hp:∀w₁,cB w w₁->Post v w₁):XR P (KS P Post) g w:=by
 intro w₁ h1 gs sl t q h0 hL hP;obtain⟨B,hP⟩:=hP;refine Reaches.here (beside_ends (n:=0) (D:=λ_ _ _=>False) (λ_ _ _ h=>h.elim) h0 hL.leavers hP (Goes.stop λw₂ h2=>⟨hr,v,#[],hs w₂,by simp,hp w₂ (jD _ _ _ h1 (yA h2))⟩))
theorem Vf{P:Program}{Post:Value->World->Prop}{g:Goroutine}{w:World}(h:XR P (KS P Post) g w):KS P Post (crowd #[g] w none) #[] :=
 Yl (h w (yz w) #[g] none #[] (λ_=>0) rfl ⟨λi x hi hx=>absurd ((Array.getElem?_eq_some_iff.1 hx).1) (by simp;omega),λ_ _=>rfl⟩ ⟨0,past_nil⟩)
theorem R9{P:Program}{fr:Frame}{w:World}{v:Value}{t:Tmp}{fn:Func}(hfn:P.funcs[fr.fn]? = some fn)(hin:P.inits.idxOf? fr.fn=none)(hres:fn.results = #[.tmp t])(hl:fr.leaving P w (.returned v))(w₁:World):stepG P true (G fr []) w₁=.ended (.done v) w₁ #[]:=by
 obtain⟨hm,hd,hk,fn',hfn',hr⟩:=hl;obtain rfl:fn'=fn:=Option.some.inj (hfn'.symm.trans hfn);generalize hu:fr.tmps.getD t undef=u;have e:results fn' fr.tmps=(pure u:Sem Value):=by rw[<-hu];simp[results,hres]
 rw[e]at hr;have hr2:(Result.ok u w:Result Value)=.ok v w:=hr;injection hr2 with hv _;subst hv;have e2:Sem.runT P (pure u:Sem Value) w₁ #[]=(.ok u w₁,#[]):=rfl;simp only[G,stepG,unwind,doReturn,hm,hd,hk,hfn,e,e2,hin,seen_none];rfl
noncomputable def ae0(z:Nat×Nat):lY Tryz.prog:={ ah with Qq:=λ_=>z }
def FzZ(w:World)(size:Nat)(v:Value)(n:Nat)(xs:List Value):Prop:=∃a c,v=.slice a n c/\n<=c/\xs.length=n*size/\(n=0\/∃b off cs ty z,a=some ⟨b,off,none⟩/\w.heap[b]? = some (.cells cs ty z)/\aJ cs.toList off (n*size)=xs)
structure Sa(A:aR):Prop where
 sb:∀{k} s,A.good k s->StB s
theorem Yn{l:List Stp}{k:Nat}{t:Stp}(h:l[k]? = some t):aJ (l.map Stp.cells).flatten (k*11) 11=t.cells:=by
 rw[<-List.flatMap_def];exact jB (f:=Stp.cells) (λ_=>rfl) l k t h
def nQ(N:Nat):aR:=⟨N,ru,oF,Kc,oG,dM N,jU N⟩
section
variable{N k:Nat}{s:St}{c:MC}
theorem Yo{m:List Pc}(h:lL m=true):m.length<=1000:=by
 unfold lL at h;simp only[Bool.and_eq_true,decide_eq_true_eq]at h;exact h.1.1.2
theorem dM.b2(h:dM N k s):DN s:=by
 have:=h.zO;exact⟨by have:=h.t;omega,by have:=h.d;omega,λo ho=>by
  obtain⟨a,b,c,_⟩:=h.o o ho;exact⟨by omega,by omega,by omega⟩⟩
theorem dM.ss(h:dM N k s):StS s:=by
 have:=h.zO;have:=h.ok.ol;have:=h.ok.il;have:=h.ok.n4;exact⟨by have:=h.t;omega,by have:=h.d;omega,Yo h.ok.CL,by omega,by omega,λo ho=>by
  obtain⟨a,b,c,d⟩:=h.o o ho;exact⟨by omega,λr hr=>⟨by have:=(d r hr).2.rl;omega,by have:=(d r hr).2.dl;omega⟩⟩⟩
theorem WH(h:dM N k s)(hc:jU N c):U8 (oF s c).2.c:=by
 have z8:U8 0:=⟨Int.le_refl 0,by decide⟩;have hd:U8 (kV s c.q).c:=(Wt h.tb hc.q).c;unfold oF;split
 ·unfold ug
  split
  ·exact z8
  split
  ·exact hc.q.c
  split
  ·split
   ·rename_i x hx
    split
    ·exact hd
    ·split
     ·exact(h.db x (List.mem_of_getElem? hx)).c
     ·exact hc.q.c
   ·exact z8
  ·exact hd
 ·split
  ·exact z8
  ·split<;>exact z8
theorem Px(s:St)(q:bQ):(oW s q).n=s.n/\(oW s q).g=s.g:=by
 unfold oW;split
 ·exact⟨rfl,rfl⟩
 split
 ·exact⟨rfl,rfl⟩
 split<;>exact⟨rfl,rfl⟩
theorem acs(s:St)(c:MC):(oF s c).1.n=s.n/\(oF s c).1.g=s.g:=by
 unfold oF;split
 ·unfold ug
  split
  ·exact⟨rfl,rfl⟩
  split
  ·exact⟨rfl,rfl⟩
  split
  ·split
   ·split
    ·exact Px _ _
    ·split<;>exact⟨rfl,rfl⟩
   ·exact⟨rfl,rfl⟩
  ·exact Px _ _
 split
 ·unfold xw
  split<;>exact⟨rfl,rfl⟩
 split
 ·unfold vN
  split<;>exact⟨rfl,rfl⟩
 ·exact⟨rfl,rfl⟩
theorem Bw:U8 0:=⟨Int.le_refl 0,by decide⟩
theorem KT:rC 0:=⟨Int.le_refl 0,by decide⟩
theorem zy:iG 0:=⟨Int.le_refl 0,by decide⟩
theorem Py:qN.b:=⟨Bw,KT,Bw,zy,zy,zy,Bw⟩
theorem Pz:qh.b:=⟨Bw,Bw,KT,zy,zy,nofun,nofun,Nat.zero_le _,Nat.zero_le _⟩
theorem jU.zero(N:Nat):jU N nD:=⟨Bw,Py,Pz,Bw,KT,nofun,nofun⟩
theorem jU.recv{r:Rg}(h:r.b)(hs:r.src<N):jU N (kL r):=⟨⟨by show(0:Int)<=2;decide,by show(2:Int)<256;decide⟩,Py,h,Bw,KT,λ_=>hs,λe=>absurd (show(2:Int)=1 from e) (by decide)⟩
theorem jU.ae1{p q:Int}(hp:U8 p)(hq:rC q):jU N (oz p q):=⟨⟨by show(0:Int)<=3;decide,by show(3:Int)<256;decide⟩,Py,Pz,hp,hq,λe=>absurd (show(3:Int)=2 from e) (by decide),λe=>absurd (show(3:Int)=1 from e) (by decide)⟩
theorem jU.asks{q:bQ}(h:q.b)(ho:kJ q=true):jU N (fH q):=⟨⟨by show(0:Int)<=1;decide,by show(1:Int)<256;decide⟩,h,Pz,Bw,KT,λe=>absurd (show(1:Int)=2 from e) (by decide),λ_=>ho⟩
end
theorem Yp{g N:Nat}(hg:g<N)(hN:N<=4):dM N 0 (Kc g N):=by
 refine⟨by decide,⟨by show(0:Int)<=g;omega,by show(g:Int)<N;omega,by show(N:Int)<=4;omega,List.Pairwise.nil,List.Pairwise.nil,(by decide:lL [⟨0,0⟩]=true),⟨rfl,by decide,by decide,trivial⟩,by show((List.replicate N _).length:Int)=_;rw[List.length_replicate];rfl,by show((List.replicate N _).length:Int)=_;rw[List.length_replicate];rfl⟩,rfl,Nat.le_refl 0,nofun,Nat.le_refl 0,nofun,λo ho=>?_,λx hx=>?_⟩
 ·rw[(List.mem_replicate.1 ho).2]
  exact⟨by decide,by decide,by decide,nofun⟩
 ·rw[(List.mem_replicate.1 hx).2]
  exact⟨by decide,by decide⟩
theorem Sb(N:Nat):bG (nQ N) where
 mZ:=λw v m h=>ag.mono' (zq h) λv' w' ⟨e,g⟩=>⟨⟨_,e⟩,g⟩
 call:=λw s c vT vM vD vO vI cv h hg hc hcc=>by
  have hg:dM N _ s:=hg;have hcc:jU N c:=hcc;have:=hg.zO;have hq:=hcc.q;have hr:=hcc.r;exact UW h hg.ok hg.b2 hg.ss (λx hx=>by have:=hg.i x hx;omega) hc ⟨⟨hq.key.1,by have:=hq.key.2;omega⟩,⟨hq.hi.1,by have:=hq.hi.2;omega⟩,hq.to.1⟩ ⟨hr.src.1,hr.lo.1,by have:=hr.hi.2;omega⟩ hcc.peer.1
 IK:=λs c hk h hc=>dM.app h hk hc
 rep:=λs c h hc=>(WH h hc).1
 src:=λs c h hc h2=>by
  have h:dM N _ s:=h;have hc:jU N c:=hc;have h3:=hc.src h2;have h4:=hc.r.src.1;have h5:=h.ok.il;have h6:=h.n;exact⟨h4,by omega⟩
 JQ:=jU.zero N
 parse:=U2
 ZH:=λw g n hg hn=>UX w hg hn
 BP:=λg n e hg hn=>by
  have e:n=N:=e;subst e;exact Yp hg hn
 dl:=λs h=>by
  have h:dM N _ s:=h;have:=h.zO;have:=h.d;omega
 ol:=λs h=>by
  have h:dM N _ s:=h;have:=h.ok.ol;have:=h.ok.n4;omega
 JR:=λs h i x hx=>by
  have h:dM N _ s:=h;exact(h.i x (List.mem_of_getElem? hx)).1
theorem Yq(N:Nat):Sa (nQ N) where
 sb:=λs h=>by
  have h:dM N _ s:=h;have h1:=h.ss;have h2:=h.b2;exact⟨by have:=h1.t;omega,by have:=h1.m;omega,by have:=h1.d;omega,by have:=h1.o;omega,by have:=h1.i;omega,λo ho=>⟨by have:=(h1.q o ho).1;omega,(h1.q o ho).2⟩⟩
theorem Sd(l:List Int):(ve l).size=l.length:=by
 rw[<-Re,Cb];simp[dn]
theorem Si{q:bQ}(h:kJ q=true):fu (nW q)=true:=by
 unfold fu;rw[if_pos (show(nW q).kind=1 from rfl),Bool.and_eq_true];exact⟨h,by rfl⟩
theorem Sj(N:Nat):sS (nQ N) where
 mask:=λw q h=>by
  have h:jU N (fH q):=h;have e:fu (nW q)=true:=Si (h.ask rfl);have:=zq (w:=w) (m:=nW q) ⟨_,_,_,_,_,rfl,aL.zero w,bY.zero w,aL.zero w⟩;rw[if_pos e]at this;exact this
 small:=λq h=>by
  show(ru _).size<=_;unfold ru;split
  ·rw[Sd]
   have:=JY q;show([(1:Int)]++uf q).length<=1000;simp only[List.length_append,List.length_singleton];omega
  ·exact Nat.zero_le _
/- What is read is bounded. -/
theorem rz{β:Type}{k:Nat}{l:List Nat}{f:Nat->List Nat->β}{P:β->Prop}(hl:∀x∈l,x<256)(h:∀x l',x<256 ^ k->(∀y∈l',y<256)->P (f x l')):P (nx k l f):=h _ _ (EY hl) (UB hl)
theorem n8{x:Nat}(h:x<256 ^ 1):U8 x:=⟨by omega,by omega⟩
theorem n32{x:Nat}(h:x<256 ^ 4):rC x:=⟨by omega,by omega⟩
theorem n64{x:Nat}(h:x<256 ^ 8):iG x:=⟨by omega,by omega⟩
theorem acu{l:List Nat}(hl:∀x∈l,x<256):(pI l).1.b:=by
 unfold pI;refine rz (P:=λz:bQ×List Nat=>z.1.b) hl λc l hc hl=>rz (P:=λz:bQ×List Nat=>z.1.b) hl λs l hs hl=>rz (P:=λz:bQ×List Nat=>z.1.b) hl λk l hk hl=>rz (P:=λz:bQ×List Nat=>z.1.b) hl λkey l hkey hl=>?_
 split
 ·exact rz (P:=λz:bQ×List Nat=>z.1.b) hl λv l hv hl=>⟨n8 hc,n32 hs,n8 hk,n64 hkey,n64 hv,zy,Bw⟩
 split
 ·exact rz (P:=λz:bQ×List Nat=>z.1.b) hl λhi l hhi hl=>rz (P:=λz:bQ×List Nat=>z.1.b) hl λto l hto hl=>⟨n8 hc,n32 hs,n8 hk,n64 hkey,zy,n64 hhi,n8 hto⟩
 ·exact⟨n8 hc,n32 hs,n8 hk,n64 hkey,zy,zy,Bw⟩
theorem acv{l:List Nat}(hl:∀x∈l,x<256):(iA l).1.n<=4294967295:=by
 unfold iA;refine rz (P:=λz:bF×List Nat=>z.1.n<=4294967295) hl λn l hn hl=>?_
 show n<=4294967295;omega
theorem acw{l:List Nat}(hl:∀x∈l,x<256):(dW l).1.b.n<=4294967295/\((dW l).1.kind=1->(dW l).1.q.b):=by
 unfold dW;refine rz (P:=λz:MM×List Nat=>z.1.b.n<=4294967295/\(z.1.kind=1->z.1.q.b)) hl λk l hk hl=>?_
 by_cases h:k=1
 ·rw[if_pos h]
  exact⟨Nat.zero_le _,λ_=>acu hl⟩
 rw[if_neg h];have hb:=acv hl;have no:(aO (k:Int)).kind=1->False:=λe=>h (by have:(k:Int)=1:=e;omega)
 split
 ·exact⟨Nat.zero_le _,λe=>(no e).elim⟩
 split
 ·exact⟨hb,λe=>(no e).elim⟩
 split
 ·exact⟨hb,λe=>(no e).elim⟩
 split
 ·exact⟨hb,λe=>(no e).elim⟩
 split
 ·exact⟨hb,λe=>(no e).elim⟩
 split
 ·exact⟨hb,λe=>(no e).elim⟩
 split
 ·exact⟨Nat.zero_le _,λe=>(no e).elim⟩
 split
 ·exact⟨Nat.zero_le _,λe=>(no e).elim⟩
 split
 ·exact⟨Nat.zero_le _,λe=>(no e).elim⟩
 ·exact⟨Nat.zero_le _,λe=>(no e).elim⟩
theorem vV{d:ByteArray}{m:MM}(h:oG d=some m):fu m=true/\(dW (dl d)).1=m:=by
 unfold oG at h;split at h
 ·rename_i c
  injection h with h;subst h;exact⟨c.1,rfl⟩
 ·cases h
end
