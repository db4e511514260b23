/- A script is played: whoever looks is answered true. -/
import Derived.Test.YtignemioillaiaaGreatG53
namespace Go.Proofs.YtignemioillaiaaGreat
set_option maxHeartbeats 8000000
set_option maxRecDepth 100000
section
open Go Go.Conc
theorem Sit.SH(A:aR):∀(k:Nat) (S:Sit),(S.all A k).C.n=S.C.n
 |0,_=>rfl
 |k+1,S=>by
  unfold Sit.all;split
  ·exact(Sit.SH A k (S.one A)).trans (aM.jd A S.C S.next).1
  ·rfl
theorem Sit.NG(S:Sit):∀i,(S.dX i).1.C=S.C
 |0=>rfl
 |i+1=>by
  have ih:=Sit.NG S i;unfold Sit.dX;generalize S.dX i=p at ih;obtain⟨T,b⟩:=p;cases b
  ·exact ih
  ·show(T.dz i).1.C=S.C
   rw[<-show T.C=S.C from ih];unfold Sit.dz;split
   ·rfl
   ·split<;>exact(T.Ce i).1
theorem Sit.Px(A:aR)(S:Sit)(t:Stp):(S.do A t).1.C.n=S.C.n:=by
 unfold Sit.do;generalize bA t.kind 7=k;unfold Sit.tX;split
 ·show(if _ then _ else _:Sit).C.n=_
  split
  ·exact(S.C.pz _ _ _).1
  ·rfl
 ·show(S.tV A t).C.n=_
  unfold Sit.tV;split
  ·split<;>exact(S.C.pz _ _ _).1
  ·exact(S.C.pz _ _ _).1
 ·split
  ·exact(aM.jd _ _ _).1
  ·rfl
 ·split
  ·exact(aM.jd _ _ _).1
  ·rfl
 ·exact(aM.nN _ _ _ _).1
 ·exact(aM.uQ _ _ _ _).1.trans (congrArg aM.n (Sit.NG S _))
 ·exact Sit.SH A _ S
section
variable{A L:aR}(HA:bG A)(HN:dL A)(HL:sS A)(HP:sV A)(HA1:bG L)(SI:dL L)(SK:sS L)(HV:FB L)(hL:L.N=1){W:World}
include HA HN HL HP HA1 SI SK HV hL
theorem Vp{g f:Int}(hg:wW g)(hf:wW f)(SL:1+bA g 4=A.N){l:List Stp}{v:Value}(hl:FzZ W 11 v l.length (l.map Stp.cells).flatten)(hn:l.length<=9223372036854775807)(hwf:∀t∈l,t.wf A):gH Tryz.prog 27 #[.int .i64 g,.int .i64 f,v] W (λx w'=>∃bs S,x=.tuple #[Ptt bs,.bool true]/\cZ (fA W) bs S w'/\bW A S/\S.FE/\S.C.n=A.N):=by
 obtain⟨va,vc,rfl,ZP,hvl,hvd⟩:=hl;refine EU ah Tryz.func27 rfl rfl ?_;refine aN.piece (Q:=λq w'=>q=[(0,.int .i64 g),(1,.int .i64 f),(2,.slice va l.length vc)]/\w'=W) (aN.of ah mixed ⟨_,by exact⟨rfl,rfl,rfl,trivial⟩,rfl,rfl⟩) ?_;rintro q W ⟨rfl,rfl⟩;refine aN.piece (Q:=λq w1=>∃bs,q=[(2,.slice va l.length vc),(8,Ptt bs),(9,.bool true)]/\cZ (fA W) bs (Sit.new A (1+bA g 4) (1+2*bA f 3)) w1) (aN.of ah mixed ?_) ?_
 ·refine⟨_,Ve HA1 SI SK HV HA hL W g f hg hf,?_⟩
  rintro _ w1 ⟨bs,rfl,h1,k1⟩;exact⟨_,by exact⟨rfl,rfl,rfl,trivial⟩,bs,rfl,h1⟩
 rintro q w1 ⟨bs,rfl,h1⟩;have lf:=jl f (show 0<3 by decide);have lg:=jl g (show 0<4 by decide);obtain⟨F0,L0⟩:=bW.new HA HN (n:=1+bA g 4) (sz:=1+2*bA f 3) ⟨by omega,by omega⟩ SL ⟨by omega,by omega⟩;have N0:(Sit.new A (1+bA g 4) (1+2*bA f 3)).C.n=A.N:=SL;generalize Sit.new A (1+bA g 4) (1+2*bA f 3)=S0 at *;refine aN.piece (Q:=λq w4=>q=[(8,Ptt bs),(9,.bool true)]/\∃S,cZ (fA W) bs S w4/\bW A S/\S.FE/\S.C.n=A.N) ?_ ?_;rotate_left
 ·rintro q w4 ⟨rfl,S,h4,i4⟩
  refine aN.of ah mixed ?_;exact⟨bs,S,rfl,h4,i4⟩
 refine aN.piece (Q:=λq w'=>q=[(2,.slice va l.length vc),(8,Ptt bs),(9,.bool true),(10,.int .i64 0)]/\w'=w1) (aN.of ah mixed ⟨_,by exact⟨rfl,rfl,rfl,rfl,trivial⟩,rfl,rfl⟩) ?_;rintro q w1 ⟨rfl,rfl⟩;refine aN.block ?_;refine aN.loop (λm s wk=>∃(i:Nat) (S:Sit),m=l.length - i/\i<=l.length/\s=[(2,.slice va l.length vc),(8,Ptt bs),(9,.bool true),(10,.int .i64 i)]/\bW A S/\cZ (fA W) bs S wk/\(i=l.length->S.FE)/\S.C.n=A.N) ⟨_,_,⟨0,S0,rfl,Nat.zero_le _,rfl,F0,h1,λ_=>L0,N0⟩,rfl,rfl,rfl,rfl,trivial⟩ ?_;clear h1 F0 L0 N0;rintro m s wk ⟨i,S,rfl,hi,rfl,hS,hK,hLk,hCn⟩;refine aN.cut (Qn:=λq w'=>i<l.length/\q=[(2,.slice va l.length vc),(8,Ptt bs),(10,.int .i64 i)]/\w'=wk) (Qx:=λj q w'=>j=0/\i=l.length/\q=[(8,Ptt bs),(9,.bool true)]/\w'=wk) (Qr:=λ_ _=>False) (aN.of ah mixed ?_) ?_ ?_ (λ_ _ _ h _=>h.elim)
 ·refine au (λc=>?_) (λc=>?_)
  ·exact⟨_,by exact⟨rfl,rfl,rfl,trivial⟩,by simp at c;omega,rfl,rfl⟩
  ·exact⟨_,by exact⟨rfl,rfl,trivial⟩,rfl,by simp at c;omega,rfl,rfl⟩
 rotate_left
 ·rintro j q s w' ⟨rfl,e,rfl,rfl⟩ hs
  exact⟨_,hs,rfl,S,hK,hS,hLk e,hCn⟩
 rintro q wk ⟨c1,rfl,rfl⟩;rcases hvd with h0|⟨Bv,KZ,csv,tyv,zv',rfl,hBv,hcv⟩
 ·omega
 obtain⟨t,ht⟩:∃t,l[i]? = some t:=⟨l[i],by simp[c1]⟩;have twf:=hwf t (List.mem_of_getElem? ht);have hel:aJ csv.toList (KZ+i*11) 11=t.cells:=(Fz.elem hcv c1).trans (Yn ht);refine aN.piece (Q:=λq w'=>q=[(2,.slice (some ⟨Bv,KZ,none⟩) l.length vc),(8,Ptt bs),(9,.bool true),(10,.int .i64 i)]/\∃S,bW A S/\cZ (fA W) bs S w'/\(i+1=l.length->S.FE)/\S.C.n=A.N) ?_ ?_;rotate_left
 ·rintro q w' ⟨rfl,S',f1,h',f2,f3⟩
  refine aN.of ah mixed ?_;exact⟨⟨by omega,by omega⟩,_,_,⟨i+1,S',rfl,by omega,rfl,f1,h',f2,f3⟩,⟨rfl,rfl,rfl,rfl,trivial⟩,by omega⟩
 refine aN.block ?_;refine aN.piece (Q:=λq w'=>q=[(2,.slice (some ⟨Bv,KZ,none⟩) l.length vc),(8,Ptt bs),(9,.bool true),(10,.int .i64 i)]/\∃S,bW A S/\cZ (fA W) bs S w'/\S.C.n=A.N) (aN.of (ae0 zv') mixed ?_) ?_
 ·have hd:=aeZ HA HN HL hK hS.fine twf
  obtain⟨d1,d2⟩:=bW.do HA HN HL HP hS twf;rw[d1]at hd;refine⟨⟨by omega,by omega⟩,_,_,hK.snap.get hBv nofun,t.cells,by show aJ csv.toList (KZ+(i:Int).toNat*11) 11=_;rw[Int.toNat_natCast];exact hel,rfl,_,hd,?_⟩;rintro _ w' ⟨rfl,h',k'⟩;exact⟨_,by exact⟨rfl,rfl,rfl,rfl,trivial⟩,rfl,_,d2,h',(Sit.Px A S t).trans hCn⟩
 rintro q w5 ⟨rfl,S1,i1,h5,n5⟩;obtain⟨b1,b2,b3,b4⟩:=i1.look;have hlk:=RY HN h5 i1.fine;rw[b1]at hlk;refine aN.piece (Q:=λq w'=>∃r,(r=false->i+1≠l.length)/\q=[(2,.slice (some ⟨Bv,KZ,none⟩) l.length vc),(8,Ptt bs),(9,.bool true),(10,.int .i64 i),(44,.bool r)]/\w'=w5) (aN.of ah mixed ?_) ?_
 ·refine⟨by decide,?_⟩
  refine au (λc=>?_) (λc=>?_)
  ·exact⟨⟨by omega,by omega⟩,_,by exact⟨rfl,rfl,rfl,rfl,rfl,trivial⟩,_,λe=>(by have t:¬((i:Int)+1=l.length):=(by simpa using e);omega),rfl,rfl⟩
  ·exact⟨_,by exact⟨rfl,rfl,rfl,rfl,rfl,trivial⟩,_,λe=>(by cases e),rfl,rfl⟩
 rintro q w5 ⟨r,hr,rfl,rfl⟩;refine aN.cond r rfl ?_;cases r
 ·refine aN.of ah mixed ?_
  exact⟨_,by exact⟨rfl,rfl,rfl,rfl,trivial⟩,rfl,S1,i1,h5,λe=>(hr rfl e).elim,n5⟩
 ·refine aN.of ah mixed ?_
  refine⟨_,hlk.x,?_⟩;rintro _ w6 ⟨rfl,h6,_⟩;exact⟨_,by exact⟨rfl,rfl,rfl,rfl,trivial⟩,rfl,_,b2,h6,λ_=>b4,(congrArg aM.n b3).trans n5⟩
end
section
variable{A L:aR}(HA:bG A)(HN:dL A)(HL:sS A)(HP:sV A)(HB:Sa A)(HU:PI A)(HA1:bG L)(SI:dL L)(SK:sS L)(HV:FB L)(hL:L.N=1){W:World}
include HA HN HL HP HB HU HA1 SI SK HV hL
theorem SN{g f:Int}(hg:wW g)(hf:wW f)(SL:1+bA g 4=A.N){l:List Stp}{v:Value}(hl:FzZ W 11 v l.length (l.map Stp.cells).flatten)(hn:l.length<=9223372036854775807)(hwf:∀t∈l,t.wf A):aN Tryz.prog Tryz.f6.ntmps (Tryz.f6.body.getD .skip) (AO ah Tryz.f6.results.toList (λv w'=>v=.bool true/\GB none W w')) (vw [.int .i64 g,.int .i64 f,v] 0) W:=by
 refine aN.piece (Q:=λq w'=>q=[(0,.int .i64 g),(1,.int .i64 f),(2,v)]/\w'=W) (aN.of ah mixed ⟨_,by exact⟨rfl,rfl,rfl,trivial⟩,rfl,rfl⟩) ?_;rintro q W ⟨rfl,rfl⟩;refine aN.piece (Q:=λq w1=>∃bs S,q=[(7,Ptt bs),(8,.bool true)]/\cZ (fA W) bs S w1/\bW A S/\S.FE/\S.C.n=A.N) (aN.of ah mixed ?_) ?_
 ·have hp:=Vp HA HN HL HP HA1 SI SK HV hL hg hf SL hl hn hwf
  obtain⟨va,vc,rfl,_⟩:=hl;refine⟨_,hp,?_⟩;rintro _ w1 ⟨bs,S,rfl,h1,i1⟩;exact⟨_,by exact⟨rfl,rfl,trivial⟩,bs,S,rfl,h1,i1⟩
 clear SL hl hn hwf hg hf;rintro q w1 ⟨bs,S,rfl,h1,hI,hLk,hNn⟩;refine aN.piece (Q:=λq w'=>q=[(7,Ptt bs)]/\w'=w1) (aN.of ah mixed ⟨_,by exact⟨rfl,trivial⟩,rfl,rfl⟩) ?_;rintro q w1 ⟨rfl,rfl⟩;have hF:=hI.fine;have hal:S.asks.length<=1000000:=by have:=hF.ak;have:=hF.cl.len;omega
 have ja:=hF.cl.n;obtain⟨fs,hfs⟩:∃fs,fs=(List.range S.C.n).map (S.fold A):=⟨_,rfl⟩;have hfl:fs.length=S.C.n:=by rw[hfs];simp
 have hfa:∀{i},i<S.C.n->fs[i]? = some (S.fold A i):=λ{i} hi=>by rw[hfs,List.getElem?_map,List.getElem?_range hi];rfl
 refine aN.piece (Q:=λq w'=>∃va vc,q=[(7,Ptt bs),(9,.slice va fs.length vc)]/\pJ w' (.slice va fs.length vc) fs/\GB none w1 w') (aN.of ah mixed ?_) ?_
 ·refine⟨_,(Yu HA h1 hF hNn λg hg=>hI.bf hg).x,?_⟩
  rintro fv w2 ⟨h2,g2⟩;rw[<-hfs]at h2;obtain⟨va,vc,rfl⟩:∃a c,fv=.slice a fs.length c:=by obtain⟨_,_,o,_⟩:=h2;exact af o
  exact⟨_,by exact⟨rfl,rfl,trivial⟩,va,vc,rfl,h2,g2⟩
 rintro _ w2 ⟨va,vc,rfl,h2,g2⟩;replace h1:=h1.ax g2;clear g2 w1;refine aN.piece (Q:=λq w'=>q=[]/\GB none W w') ?_ ?_;rotate_left
 ·rintro q w' ⟨rfl,g'⟩
  refine aN.of ah mixed ?_;exact⟨rfl,g'⟩
 refine aN.piece (Q:=λq w'=>q=[(7,Ptt bs),(9,.slice va fs.length vc),(10,.int .i64 0)]/\w'=w2) (aN.of ah mixed ⟨_,by exact⟨rfl,rfl,rfl,trivial⟩,rfl,rfl⟩) ?_;rintro q w2 ⟨rfl,rfl⟩;refine aN.block ?_;refine aN.loop (λm s wk=>∃g:Nat,m=S.C.n - g/\g<=S.C.n/\s=[(7,Ptt bs),(9,.slice va fs.length vc),(10,.int .i64 g)]/\cZ (fA W) bs S wk/\pJ wk (.slice va fs.length vc) fs) ⟨_,_,⟨0,rfl,Nat.zero_le _,rfl,h1,h2⟩,rfl,rfl,rfl,trivial⟩ ?_;clear h1 h2;rintro m s wk ⟨g,rfl,hg,rfl,hK,h2⟩;obtain⟨bc,a,gv,sv,B,ad,hS⟩:=id hK;have hmem:=hS.si.mem;refine aN.cut (Qn:=λq w'=>g<S.C.n/\q=[(7,Ptt bs),(9,.slice va fs.length vc),(10,.int .i64 g)]/\w'=wk) (Qx:=λj q w'=>j=0/\q=[]/\w'=wk) (Qr:=λ_ _=>False) (aN.of ah mixed ?_) ?_ ?_ (λ_ _ _ h _=>h.elim)
 ·refine⟨_,_,hmem,_,rfl,au (λc=>?_) (λc=>?_)⟩
  ·exact⟨_,by exact⟨rfl,rfl,rfl,trivial⟩,by have:=of_decide_eq_true c;omega,rfl,rfl⟩
  ·exact⟨_,by exact trivial,rfl,rfl,rfl⟩
 rotate_left
 ·rintro j q s w' ⟨rfl,rfl,rfl⟩ hs
  exact⟨_,hs,rfl,hK.snap⟩
 rintro _ wk ⟨c1,rfl,rfl⟩;refine aN.piece (Q:=λq w'=>q=[(7,Ptt bs),(9,.slice va fs.length vc),(10,.int .i64 g)]/\GB none wk w') ?_ ?_;rotate_left
 ·rintro _ w' ⟨rfl,g'⟩
  refine aN.of ah mixed ?_;exact⟨⟨by omega,by omega⟩,_,_,⟨g+1,rfl,by omega,rfl,hK.ax g',h2.gb g'⟩,⟨rfl,rfl,rfl,trivial⟩,by omega⟩
 refine aN.block ?_;refine aN.piece (Q:=λq w'=>q=[(7,Ptt bs),(9,.slice va fs.length vc),(10,.int .i64 g),(11,.int .i64 0)]/\w'=wk) (aN.of ah mixed ⟨_,by exact⟨rfl,rfl,rfl,rfl,trivial⟩,rfl,rfl⟩) ?_;rintro q wk ⟨rfl,rfl⟩;obtain⟨lg,Hm⟩:∃lg,lg=S.bf.getD g []:=⟨_,rfl⟩;have Ps:lg.length<=60:=by rw[Hm];exact(hI.bf c1).1
 obtain⟨fb,aaT,Vq,p,ev,hfb,aff,fat⟩:=h2.el (hfa c1);cases ev
 have flg:jA wk p.1 lg:=by rw[Hm];exact fat.lg
 obtain⟨la,lc,e9⟩:∃a c,p.1=.slice a lg.length c:=by obtain⟨_,_,o,_⟩:=flg;exact af o
 have fl0:Vq.toList[g*3]? = some (.slice la lg.length lc):=by
  have h1:=congrArg (λl=>l[0]?) aff;unfold aJ at h1;simp only[List.getElem?_take,List.getElem?_drop]at h1;rw[<-e9];simpa[BD]using h1
 rw[e9]at flg;refine aN.block ?_;refine aN.loop (λm s w3=>∃i:Nat,m=lg.length - i/\i<=lg.length/\s=[(7,Ptt bs),(9,.slice (some ⟨fb,0,none⟩) fs.length vc),(10,.int .i64 g),(11,.int .i64 i)]/\GB none wk w3) ⟨_,_,⟨0,rfl,Nat.zero_le _,rfl,GB.refl _ _⟩,rfl,rfl,rfl,rfl,trivial⟩ ?_;rintro m s w3 ⟨i,rfl,hi,rfl,g3⟩;refine aN.cut (Qn:=λq w'=>i<lg.length/\q=[(7,Ptt bs),(9,.slice (some ⟨fb,0,none⟩) fs.length vc),(10,.int .i64 g),(11,.int .i64 i)]/\w'=w3) (Qx:=λj q w'=>j=2/\q=[(7,Ptt bs),(9,.slice (some ⟨fb,0,none⟩) fs.length vc),(10,.int .i64 g)]/\w'=w3) (Qr:=λ_ _=>False) (aN.of ah mixed ?_) ?_ ?_ (λ_ _ _ h _=>h.elim)
 ·refine⟨⟨by omega,by omega⟩,_,_,g3.get hfb nofun,.slice la lg.length lc,by show Vq.toList[0+(g:Int).toNat*3]? = _;rw[Nat.zero_add,Int.toNat_natCast];exact fl0,au (λc=>?_) (λc=>?_)⟩
  ·exact⟨_,by exact⟨rfl,rfl,rfl,rfl,trivial⟩,by have:=of_decide_eq_true c;omega,rfl,rfl⟩
  ·exact⟨_,by exact⟨rfl,rfl,rfl,trivial⟩,rfl,rfl,rfl⟩
 rotate_left
 ·rintro j _ s w' ⟨rfl,rfl,rfl⟩ hs
  exact⟨_,hs,rfl,g3⟩
 rintro _ w3 ⟨c2,rfl,rfl⟩;refine aN.piece (Q:=λq w'=>q=[(7,Ptt bs),(9,.slice (some ⟨fb,0,none⟩) fs.length vc),(10,.int .i64 g),(11,.int .i64 i)]/\GB none wk w') ?_ ?_;rotate_left
 ·rintro _ w' ⟨rfl,g'⟩
  refine aN.of ah mixed ?_;exact⟨⟨by omega,by omega⟩,_,_,⟨i+1,rfl,by omega,rfl,g'⟩,⟨rfl,rfl,rfl,rfl,trivial⟩,by omega⟩
 obtain⟨c,hc⟩:∃c,lg[i]? = some c:=⟨lg[i],by simp[c2]⟩;have hwh:=hI.wh HA HU hNn hLk c1 (Hm▸hc);obtain⟨gb,cur,rv,dv,rfl,_,aS,hcut,hrg⟩:=flg.el hc;refine aN.block ?_;refine aN.piece (Q:=λq w'=>∃b ra rc da dc,q=[(7,Ptt bs),(9,.slice (some ⟨fb,0,none⟩) fs.length vc),(10,.int .i64 g),(11,.int .i64 i),(12,Ptt b)]/\w'.heap[b]? = some (.cells (dA c (.slice ra c.r.rows.length rc) (.slice da c.r.aW.length dc)).toArray 54)/\aL w' c.r (.slice ra c.r.rows.length rc) (.slice da c.r.aW.length dc)/\GB none wk w') (aN.of ah mixed ?_) ?_
 ·obtain⟨⟨ra,rc,rfl,r1,r2,r3⟩,⟨da,dc,rfl,r4,r5,r6⟩⟩:=hrg
  refine⟨⟨by omega,by omega⟩,_,_,g3.get hfb nofun,.slice (some ⟨gb,0,none⟩) lg.length lc,by show Vq.toList[0+(g:Int).toNat*3]? = _;rw[Nat.zero_add,Int.toNat_natCast];exact fl0,⟨by omega,by omega⟩,_,_,g3.get aS nofun,dA c (.slice ra c.r.rows.length rc) (.slice da c.r.aW.length dc),by show aJ cur.toList (0+(i:Int).toNat*17) 17=_;rw[Nat.zero_add,Int.toNat_natCast];exact hcut,rfl,λw5 b m5 g5 l5=>⟨_,_,_,m5,rfl,rfl,λw6 m6 g6=>?_⟩⟩;have G:=g3.trans (g5.new g6 l5);exact⟨_,by exact⟨rfl,rfl,rfl,rfl,rfl,trivial⟩,b,ra,rc,da,dc,rfl,m6,aL.kz ⟨⟨ra,rc,rfl,r1,r2,r3⟩,⟨da,dc,rfl,r4,r5,r6⟩⟩ G.kz,G⟩
 rintro _ w4 ⟨b,ra,rc,da,dc,rfl,mb,hr4,g4⟩;have hK4:=hK.ax g4;have h24:=h2.gb g4;clear aS hcut hrg;refine aN.piece (Q:=λq w'=>q=[(7,Ptt bs),(9,.slice (some ⟨fb,0,none⟩) fs.length vc),(10,.int .i64 g),(11,.int .i64 i),(12,Ptt b),(13,.bool (c.kind == 0))]/\w'=w4) (aN.of ah mixed ?_) ?_
 ·exact⟨_,_,mb,_,rfl,_,by exact⟨rfl,rfl,rfl,rfl,rfl,rfl,trivial⟩,rfl,rfl⟩
 rintro _ w4 ⟨rfl,rfl⟩;refine aN.piece (Q:=λq w'=>q=[(7,Ptt bs),(9,.slice (some ⟨fb,0,none⟩) fs.length vc),(10,.int .i64 g),(11,.int .i64 i),(13,.bool true)]/\GB none w4 w') (aN.of ah mixed ?_) ?_;rotate_left
 ·rintro _ w5 ⟨rfl,g5⟩
  refine aN.of ah mixed ?_;exact⟨_,by exact⟨rfl,rfl,rfl,rfl,trivial⟩,rfl,g4.trans g5⟩
 obtain⟨gc,fr⟩:=hwh;clear hc;obtain⟨ck,cq,cr,cp,cs⟩:=c;rcases fr with e|⟨e,ha⟩|⟨e,g0,h0,e1,e2,j,s,hj,k0,hk0⟩|⟨e,g0,h0,e1,hs⟩
 ·obtain rfl:ck=0:=e
  refine⟨_,_,mb,_,rfl,?_⟩;exact⟨_,by exact⟨rfl,rfl,rfl,rfl,rfl,trivial⟩,rfl,GB.refl _ _⟩
 ·obtain rfl:ck=1:=e
  refine⟨_,_,mb,_,rfl,_,_,mb,cq.cells,rfl,rfl,_,(Vo hK4 hal (by omega) ha).x,?_⟩;rintro _ w5 ⟨rfl,g5⟩;exact⟨_,by exact⟨rfl,rfl,rfl,rfl,rfl,trivial⟩,rfl,g5⟩
 ·obtain rfl:ck=2:=e
  have hst:(S.fold A g0).2.length<=1000:=by unfold Sit.fold dI;have:=(hI.bf h0).1;rw[List.length_map,List.length_range];omega
  have hla:=Yw h24 (by omega) hr4 e1 e2 (by omega) (hfa h0) hst (λs hs=>?_) hj hk0
  ·refine⟨_,_,mb,_,rfl,_,_,mb,_,rfl,Or.inl ⟨by rw[show cr.dst=g from e2];omega,au (λc=>?_) (λc=>?_)⟩⟩
   ·refine⟨_,_,mb,dP cr (.slice ra cr.rows.length rc) (.slice da cr.aW.length dc),rfl,rfl,_,hla.x,?_⟩
    rintro _ w5 ⟨rfl,g5⟩;exact⟨_,by exact⟨rfl,rfl,rfl,rfl,rfl,trivial⟩,rfl,g5⟩
   ·rw[show cr.dst=g from e2]at c;simp at c
  ·obtain⟨k,hk⟩:=List.mem_iff_getElem?.1 hs
   have hk':=(List.getElem?_eq_some_iff.1 hk).1;have hb:=hI.bf h0;have e3:s=fF A (A.bg g0 S.C.n) ((S.bf.getD g0 []).take k):=by
    unfold Sit.fold at hk hk';have:k<=(S.bf.getD g0 []).length:=by unfold dI at hk';rw[List.length_map,List.length_range]at hk';omega
    rw[BF _ _ _ this]at hk;exact(Option.some.inj hk).symm
   rw[e3];exact HB.sb _ (uJ HA (HA.BP g0 S.C.n hNn h0 ja) hb.1 hb.2 k (by unfold Sit.fold dI at hk';rw[List.length_map,List.length_range]at hk';omega))
 ·obtain rfl:ck=3:=e
  replace e1:cp=g0:=e1;replace hs:cs<=(fF A (A.bg g0 S.C.n) (S.bf.getD g0 [])).I.getD g 0:=hs;obtain⟨fb',agZ,acK,p',ev',Vr,acL,abx⟩:=h24.el (hfa h0);cases ev'
  obtain⟨a1,k1,a2,k2,a3,n3,k3,rfl⟩:=abx.sl;have hb:=hI.bf h0;have hst:(S.fold A g0).2.length=(S.bf.getD g0 []).length+1:=by unfold Sit.fold dI;rw[List.length_map,List.length_range]
  have hlast:=Vn (s:=fF A (A.bg g0 S.C.n) (S.bf.getD g0 [])) abx (by omega) (by rw[hst];exact(BF _ _ _ (Nat.le_refl _)).trans (by rw[List.take_length]));refine⟨_,_,mb,_,rfl,?_⟩;refine⟨by kernel_rfl,_,_,mb,_,rfl,Or.inl ⟨by dsimp only;omega,?_⟩⟩;obtain⟨bc,a,gv,sv,B,ad,hS⟩:=hK4;refine⟨_,_,hS.si.mem,_,rfl,au (λc=>?_) (λc=>?_)⟩
  ·refine⟨_,_,mb,_,rfl,⟨by dsimp only;omega,by dsimp only;omega⟩,_,_,Vr,BD (.slice a1 (S.fold A g0).1.length k1,.slice a2 (S.fold A g0).2.length k2,.slice a3 n3 k3),by show aJ acK.toList (0+cp.toNat*3) 3=_;rw[Nat.zero_add,e1,Int.toNat_natCast];exact acL,rfl,_,_,mb,_,rfl,?_⟩
   refine⟨_,hlast.x,?_⟩;rintro _ w5 ⟨⟨⟨T,M,D,O,I⟩,rfl,h5⟩,g5⟩;obtain⟨ta,tn,tc,ma,mn,mc,qi,dn,qj,oa,on,oc,ia,il,ic,e5⟩:=fM.sl h5;obtain⟨rfl,rfl,rfl,rfl,rfl⟩:T=_/\M=_/\D=_/\O=_/\I=_:=e5;refine⟨⟨g5.get mb nofun,g5.get Vr nofun,g5.get mb nofun,g5.get hS.si.mem nofun,g5.get mb nofun,trivial⟩,_,(acJ h5 g).x,?_⟩;rintro _ w6 ⟨rfl,g6⟩;have G:=g5.trans g6;refine⟨⟨G.get mb nofun,G.get Vr nofun,G.get mb nofun,G.get hS.si.mem nofun,G.get mb nofun,trivial⟩,?_⟩;exact⟨[(7,Ptt bs),(9,.slice (some ⟨fb,0,none⟩) fs.length vc),(10,.int .i64 g),(11,.int .i64 i),(13,.bool (decide (cs<=(fF A (A.bg g0 S.C.n) (S.bf.getD g0 [])).I.getD g 0)))],by exact⟨rfl,rfl,rfl,rfl,rfl,trivial⟩,by rw[decide_eq_true hs],G⟩
  ·have:=of_decide_eq_false (b10 c)
   exact absurd (show cp<S.C.n by omega) this
end
theorem Gx{b:bF}(h:b.W):nb b=b:=by
 unfold nb;rw[Nat.mod_eq_of_lt (Nat.lt_succ_of_le h.1),Nat.mod_eq_of_lt h.2]
theorem SQ{m m':MM}(hk:m.kind=2)(hd:oG (ru m)=some m'):m'.kind=2:=by
 obtain⟨ok',e⟩:=vV hd;unfold ru at e;split at e
 case isFalse=>subst e;exact absurd ok' (by decide)
 rw[Cb]at e;unfold kC at e;obtain⟨kd,q,p,b,s,c,vs,r,peer,seq⟩:=m;obtain rfl:kd=2:=hk;have e:(dW (dn ([((2:Nat):Int)]++mQ p))).1=m':=e;rw[kY (by decide),WI]at e;subst e;rfl
theorem acM(l:List Nat):gI 1 l=(rn pI l λq l=>({ aO ((1:Nat):Int)with q:=q },l)):=rfl
theorem Vs{q:bQ}(hq:q.b)(ho:kJ q=true){m':MM}(hd:oG (ru { aO 1 with q:=q })=some m'):m'={ aO 1 with q:=q }:=by
 obtain⟨ok',e⟩:=vV hd;unfold ru at e;split at e
 case isFalse=>subst e;exact absurd ok' (by decide)
 rw[Cb]at e;unfold kC at e;have e:(dW (dn ([((1:Nat):Int)]++uf q))).1=m':=e;rw[kY (by decide),acM,rA,dQ (KG hq ho [])]at e;subst e;rfl
def jR(s:St):Prop:=∀(d:Nat) o,s.O[d]? = some o->∀r∈o.2,r.dst=d
theorem jR.set{s:St}(h:jR s){k:Nat}{a:Int}{l:List Rg}(hl:k<s.O.length->∀r∈l,r.dst=k){T:List Row}{M:List Pc}{D:List aB}:jR { s with T:=T,M:=M,D:=D,O:=s.O.set k (a,l) }:=by
 intro d o ho r hr;replace ho:(s.O.set k (a,l))[d]? = some o:=ho;rw[List.getElem?_set]at ho;split at ho
 ·rename_i e
  subst e;split at ho
  ·rename_i lt
   cases ho
   exact hl lt r hr
  ·cases ho
 ·exact h d o ho r hr
theorem NH{s:St}(h:jR s){k:Int}(h0:0<=k):∀r∈(bJ s.O k).2,r.dst=k:=by
 intro r hr;unfold bJ at hr;cases ho:s.O[k.toNat]? with
 |none=>rw[ho]at hr;cases hr
 |some o=>rw[ho]at hr;rw[h _ o ho r hr];omega
theorem jR.do_{s:St}(h:jR s){q:bQ}(h0:0<=q.to):jR (oW s q):=by
 unfold oW;split
 ·exact h
 split
 ·exact h
 split
 ·refine jR.set h λ_ r hr=>?_
  rcases List.mem_append.1 hr with x|x
  ·rw[NH h h0 r x];omega
  ·rw[List.mem_singleton.1 x];show q.to=_;omega
 ·exact h
theorem jR.app{N:Nat}{s:St}(h:jR s){c:MC}(hc:jU N c)(hq:0<=c.q.to):jR (oF s c).1:=by
 unfold oF;split
 ·unfold ug
  split
  ·exact h
  split
  ·exact h
  split
  ·split
   ·split
    ·exact h.do_ hq
    ·split<;>exact h
   ·exact h
  ·exact h.do_ hq
 split
 ·unfold xw
  split<;>exact h
 split
 ·show jR (vN _ _ _)
  unfold vN;split
  ·refine jR.set h λ_ r hr=>?_
   have h0:=hc.peer.1;rw[NH h h0 r (List.mem_filter.1 hr).1];omega
  ·exact h
 ·exact h
theorem jR.fold{N:Nat}:∀{l:List MC} {s:St},jR s->(∀c∈l,jU N c/\0<=c.q.to)->jR (fF (nQ N) s l)
 | [],_,h,_=>h
 |c::l,s,h,hl=>jR.fold (l:=l) (h.app (hl c (by simp)).1 (hl c (by simp)).2) λc' hc'=>hl c' (by simp[hc'])
theorem Vt(N:Nat):PI (nQ N):=by
 intro k s c hk hs hc i;show s.I.getD i 0<=(oF s c).1.I.getD i 0;have hs:dM N k s:=hs;unfold oF;split
 ·have:(ug s c.q).1.I=s.I:=by
   have hd:(oW s c.q).I=s.I:=by
    unfold oW;repeat' split
    all_goals rfl
   unfold ug;repeat' split
   all_goals first|rfl|exact hd
  rw[this];exact Int.le_refl _
 split
 ·show _<=(xw s c.r).I.getD i 0
  unfold xw;split
  ·rename_i e
   show _<=(s.I.set c.r.src.toNat c.r.seq).getD i 0;rw[List.getD_eq_getElem?_getD,List.getD_eq_getElem?_getD,List.getElem?_set];split
   ·rename_i e2
    subst e2;split
    ·rename_i lt
     have e3:=e.2.1;unfold zg at e3;simp only[Bool.and_eq_true,beq_iff_eq]at e3;have e4:=e3.2;rw[List.getElem?_eq_getElem lt]at e4 |-;have b:=hs.i _ (List.getElem_mem lt);have:=hs.zO;simp only[Option.getD_some]at e4 |-;rw[e4];have w1:IntKind.u32.wrap (s.I[c.r.src.toNat]+1)=s.I[c.r.src.toNat]+1:=wrap_u32 (by omega);omega
    ·rename_i lt;rw[List.getElem?_eq_none (by omega)];exact Int.le_refl _
   ·exact Int.le_refl _
  ·exact Int.le_refl _
 split
 ·show _<=(vN s c.peer c.seq).I.getD i 0
  unfold vN;split<;>exact Int.le_refl _
 ·exact Int.le_refl _
theorem qB{N n:Nat}{m m':MM}(h:MG (nQ N) n m)(k:m.kind≠2)(hd:oG (ru m)=some m'):m'=Bz m:=(Sm h hd).elim (λq=>(k q.1).elim) And.left
theorem aby(N:Nat):sV (nQ N) where
 fE:=λ{k b m} hk hb hd=>by
  rcases hk with rfl|rfl
  ·dsimp only[nQ]at hd
   rw[qB (N:=N) (n:=0) (MG.fE (.inl rfl) hb.1) (λe=>absurd (show(3:Int)=2 from e) (by decide)) hd];simp[Bz,aO,Gx hb]
  ·dsimp only[nQ]at hd
   rw[qB (N:=N) (n:=0) (MG.fE (.inr rfl) hb.1) (λe=>absurd (show(5:Int)=2 from e) (by decide)) hd];simp[Bz,aO,Gx hb]
 prom:=λ{b vs m} hb hl hv hd=>by
  have e:vs.map nv=vs:=by
   refine(List.map_congr_left λv q=>?_).trans (List.map_id _);obtain⟨_,h2,h3⟩:=hv v q;show(⟨v.slot%4294967296,nb v.b,v.c⟩:MV)=v;rw[Nat.mod_eq_of_lt (Nat.lt_trans h2 (by decide)),Gx h3]
  dsimp only[nQ]at hd;rw[qB (N:=N) (n:=0) (MG.promise hb.1 (λv q=>⟨(hv v q).1,(hv v q).2.1⟩) hl) (λe=>absurd (show(4:Int)=2 from e) (by decide)) hd];simp[Bz,aO,Gx hb,e]
 acc:=λ{b s c m} hb hs hc hd=>by
  dsimp only[nQ]at hd;rw[qB (N:=N) (n:=0) (MG.accept hb.1 hs hc) (λe=>absurd (show(6:Int)=2 from e) (by decide)) hd];simp[Bz,aO,Gx hb,Nat.mod_eq_of_lt (Nat.lt_trans hs (by decide:60<4294967296))]
 qw:=λ{b s m} hb hs hd=>by
  dsimp only[nQ]at hd;rw[qB (N:=N) (n:=0) (MG.accepted hb.1 hs) (λe=>absurd (show(7:Int)=2 from e) (by decide)) hd];simp[Bz,aO,Gx hb,Nat.mod_eq_of_lt (Nat.lt_trans hs (by decide:60<4294967296))]
 dec:=λ{s c m} hs hc hd=>by
  dsimp only[nQ]at hd;rw[qB (N:=N) (n:=0) (MG.decide hs hc) (λe=>absurd (show(8:Int)=2 from e) (by decide)) hd];simp[Bz,aO,Nat.mod_eq_of_lt (Nat.lt_trans hs (by decide:60<4294967296))]
 tell:=λhk hd=>SQ hk hd
 ask:=λ{q m} hc hd=>by
  have hc:jU N (fH q):=hc;exact Vs hc.q (hc.ask rfl) hd
 kZ:=λ{r m} hc hd=>by
  have hg:jU N (kL r):=hc;dsimp only[nQ]at hd;rw[qB (N:=N) (n:=N) (MG.move (r:=r) ⟨hg.r.src.1,by have a:r.src<N:=hg.src rfl;have b:0<=r.src:=hg.r.src.1;omega,by have:r.seq<4294967296:=hg.r.seq.2;omega,hc⟩) (λe=>absurd (show(9:Int)=2 from e) (by decide)) hd];simp[Bz,aO]
 jo:=λ{p s m} hc hd=>by
  have hg:jU N (oz p s):=hc;dsimp only[nQ]at hd;rw[qB (N:=N) (n:=256) (MG.OX (p:=p) (s:=s) ⟨hg.peer.1,by have a:0<=p:=hg.peer.1;have b:p<256:=hg.peer.2;omega,hc⟩) (λe=>absurd (show(10:Int)=2 from e) (by decide)) hd];simp[Bz,aO]
 dst:=λ{g n l} hl=>jR.fold (λd o ho r hr=>by
  replace ho:(List.replicate n ((1:Int),([]:List Rg)))[d]? = some o:=ho;rw[List.getElem?_replicate]at ho;split at ho
  ·cases ho;cases hr
  ·cases ho) λc hc=>⟨hl c hc,(hl c hc).q.to.1⟩
end
