/- Lemmas. -/
import Derived.Test.YtignemioillaiaaGreatG53
namespace Go.Proofs.YtignemioillaiaaGreat
set_option maxHeartbeats 8000000
set_option maxRecDepth 100000
open List
section
open Go Go.Conc
theorem bW.Eo{A:aO}{S:Sit}(h:bW A S)(hk:S.Ga):∃ls,qx A S.C.n ls/\∀g,g<S.C.n->ls g=S.bG.getD g []:=by
 obtain⟨Γ,H,ci,dl,hh⟩:=h.gh;obtain⟨ls,l1,l2⟩:=ci.Eo;refine⟨ls,l2,λg hg=>?_⟩;have h1:=(l1 g hg).2;have h2:=(dl g hg).2;have h3:H g<=(S.bG.getD g []).length:=by
  rcases hh g hg with q|⟨i,q1,q2⟩
  ·exact q
  ·exact Nat.le_trans q2 (hk g i hg q1)
 have:=DL.pre (ci.ok g hg) (l1 g hg).1 (dl g hg).1 (by omega);rw[this,take_of_length_le (by omega)]
section
variable{w:World}{s:St}{v:V5}
theorem VX(h:ShAt w v s)(hm:jY s.M=true)(hc:Can s.M){key:Int}(hk:0<=key)(ho:0<=own 0 s.M key/\own 0 s.M key<4):ag Tryz.prog 36 #[.agg (kL s v).toArray,.int .u64 key] w (λr w'=>r=.int .i64 (own 0 s.M key)/\GB none w w'):=by
 obtain⟨T,M,D,O,I⟩:=v;have hM:Fz w 107 2 M s.M.length (s.M.map Pc.cells).flatten:=fG.M h;obtain⟨ma,mc,rfl,_⟩:=id hM;refine ah Tryz.func36 rfl rfl ?_;refine λw1 b1 m1 g1 l1=>⟨_,_,m1,_,rfl,_,GN (hM.kz g1.kz (by decide)) hm hc hk,?_⟩
 rintro _ w2 ⟨rfl,g2⟩;exact .inl ⟨by omega,rfl,g1.trans g2⟩
end
theorem LY{l xs:List Value}{d n j:Nat}{x:Value}(h:aK l d n=xs)(hx:xs[j]? = some x)(hj:j<n):l[d+j]? = some x:=by
 have:=congrArg (λl=>l[j]?) h;unfold aK at this;simp only[getElem?_take,getElem?_drop,hx]at this;rw[if_pos hj]at this;exact this
theorem oJ.at{w:World}{fb n c:Nat}{l:List (List MC×List St)}(h:oJ w (.slice (Pty fb) n c) l){k:Nat}{f:List MC×List St}(hs:l[k]? = some f):∃cur p,w.heap[fb]? = some (.cells cur 94)/\aK cur.toList (k*3) 3=BZ p/\wH w p f:=by
 obtain⟨gb,cap,cur,p,e,h1,h2,h3⟩:=h.el hs;cases e
 exact⟨cur,p,h1,h2,h3⟩
theorem Hm{f:Nat->Nat}{B:Nat}:∀{n:Nat},(∀j,j<n->f j<=B)->bE f n<=n*B
 |0,_=>Nat.zero_le _
 |n+1,h=>by
  show bE f n+f n<=_;have:=Hm (f:=f) (B:=B) (n:=n) λj hj=>h j (by omega)
  have:=h n (by omega);rw[Nat.add_mul,Nat.one_mul];omega
theorem TH{n:Nat}{st st':Nat->St}(h:∀g,g<n->st' g=st g)(k:Int):cnt n st' k=cnt n st k:=qO λg hg=>by
 unfold FF;rw[h g hg];congr 1
 exact qO λd hd=>by rw[h d hd]
theorem Qk{p:Rg->Bool}{l:List Rg}{i:Nat}{x:Rg}(h:l[i]? = some x):(l.take (i+1)).countP p=(l.take i).countP p+if p x=true then 1 else 0:=by
 rw[take_add_one,h,countP_append];congr 1
 exact countP_singleton
abbrev jm(kx:Int)(bs fb n vc j:Nat)(t:Sg):Sg:=(3,.int .u64 kx)::(9,Ptt bs)::(11,.slice (Pty fb) n vc)::(12,.int .u64 j)::t
def Sit.st(A:aO)(S:Sit)(g:Nat):St:=dY A (A.bg g S.C.n) (S.bG.getD g [])
section
variable{A L:aO}(HA:bH A)(HN:dH A)(HL:qb A)(HP:rV A)(HB:Lu A)(HM:∀{k:Nat} (s:St),A.good k s->jY s.M=true/\Can s.M/\∀x,0<=own 0 s.M x/\own 0 s.M x<4)(HO:∀{ls:Nat->List MC},0<A.N->A.N<=4->qx A A.N ls->(∀g,g<A.N->(ls g).length<=60)->∀k:Int,0<=k->k<18446744073709551616->cnt A.N (λg=>dY A (A.bg g A.N) (ls g)) k=1)(HA1:bH L)(LK:dH L)(LQ:qb L)(HV:BQ L)(hL:L.N=1){W:World}
include HA HN HL HP HB HM HO HA1 LK LQ HV hL
theorem Ql{g f:Int}(hg:xC g)(hf:xC f)(TE:1+bz g 4=A.N){l:List Stp}{v:Value}(hl:FzZ W 11 v l.length (l.map Stp.cells).flatten)(hn:l.length<=9223372036854775807)(hwf:∀t∈l,t.wf A){kx:Int}(hx:0<=kx/\kx<18446744073709551616):aG Tryz.prog Tryz.f7.ntmps (Tryz.f7.body.getD .skip) (zg fD Tryz.f7.results.toList (λv w'=>v=.bool true/\GB none W w')) (uB [.int .i64 g,.int .i64 f,v,.int .u64 kx] 0) W:=by
 refine aG.piece (Q:=λq w'=>q=[(0,.int .i64 g),(1,.int .i64 f),(2,v),(3,.int .u64 kx)]/\w'=W) (aG.e ⟨_,by exact⟨rfl,rfl,rfl,rfl,trivial⟩,rfl,rfl⟩) ?_;rintro q W ⟨rfl,rfl⟩;refine aG.piece (Q:=λq w1=>∃bs S,q=[(3,.int .u64 kx),(9,Ptt bs),(10,.bool true)]/\df (fI W) bs S w1/\bW A S/\S.Ga/\S.C.n=A.N) (aG.e ?_) ?_
 ·have hp:=VU HA HN HL HP HA1 LK LQ HV hL hg hf TE hl hn hwf
  obtain⟨va,vc,rfl,_⟩:=hl;refine⟨_,hp,?_⟩;rintro _ w1 ⟨bs,S,rfl,h1,i1⟩;exact⟨_,by exact⟨rfl,rfl,rfl,trivial⟩,bs,S,rfl,h1,i1⟩
 clear TE hl hn hwf hg hf;rintro q w1 ⟨bs,S,rfl,h1,hI,hLk,Xv⟩;refine aG.piece (Q:=λq w'=>q=[(3,.int .u64 kx),(9,Ptt bs)]/\w'=w1) (aG.e ⟨_,by exact⟨rfl,rfl,trivial⟩,rfl,rfl⟩) ?_;rintro q w1 ⟨rfl,rfl⟩;have hF:=hI.fine;have jh:=hF.cl.n;have hn0:=hF.n;have hgood:∀{g},g<S.C.n->A.good (S.bG.getD g []).length (S.st A g):=λ{g} hg=>by
  have hb:=hI.bG hg;have:=zW HA (HA.Co g S.C.n Xv hg jh) hb.1 hb.2 _ (Nat.le_refl _);rw[take_length]at this;exact this
 have hcnt:∀k:Int,0<=k->k<18446744073709551616->cnt S.C.n (S.st A) k=1:=λk k0 k1=>by
  obtain⟨ls,x1,x2⟩:=hI.Eo hLk;have:=HO (ls:=ls) (by omega) (by omega) (Xv▸x1) (λg hg=>by rw[x2 g (by omega)];exact(hI.bG (by omega)).1) k k0 k1;rw[<-this,<-Xv];exact TH (λg hg=>by unfold Sit.st;rw[x2 g hg]) k
 obtain⟨fs,hfs⟩:∃fs,fs=(List.range S.C.n).map (S.fold A):=⟨_,rfl⟩;have hfl:fs.length=S.C.n:=by rw[hfs];simp
 have hfa:∀{i},i<S.C.n->fs[i]? = some (S.fold A i):=λ{i} hi=>by rw[hfs,getElem?_map,getElem?_range hi];rfl
 have hst:∀{g},g<S.C.n->(S.fold A g).2.length<=1000/\(S.fold A g).2[(S.fold A g).2.length - 1]? = some (S.st A g):=λ{g} hg=>by
  have e:(S.fold A g).2.length=(S.bG.getD g []).length+1:=by unfold Sit.fold fB;rw[length_map,length_range]
  have:=(hI.bG hg).1;refine⟨by omega,?_⟩;rw[e];exact(TC _ _ _ (Nat.le_refl _)).trans (by rw[take_length];rfl)
 have hln:∀{g},g<S.C.n->∀d:Nat,(aT (S.st A g).O d).2.length<=1000000:=λ{g} hg d=>by
  have hsb:=HB.sb _ (hgood hg);unfold aT;rw[Int.toNat_natCast];cases ho:(S.st A g).O[d]? with
  |none=>exact Nat.zero_le _
  |some o=>exact(hsb.q o (List.mem_of_getElem? ho)).1
 refine aG.piece (Q:=λq w'=>∃fb vc,q=[(3,.int .u64 kx),(9,Ptt bs),(11,.slice (Pty fb) fs.length vc)]/\oJ w' (.slice (Pty fb) fs.length vc) fs/\GB none w1 w') (aG.e ?_) ?_
 ·refine⟨_,(Y3 HA h1 hF Xv λg hg=>hI.bG hg).x,?_⟩
  rintro fv w2 ⟨h2,g2⟩;rw[<-hfs]at h2;obtain⟨fb,vc,_,_,rfl,_⟩:=h2.el (hfa hn0);exact⟨_,by exact⟨rfl,rfl,rfl,trivial⟩,fb,vc,rfl,h2,g2⟩
 rintro _ w2 ⟨fb,vc,rfl,h2,g2⟩;replace h1:=h1.au g2;clear g2 w1;refine aG.piece (Q:=λq w'=>q=[]/\GB none W w') ?_ ?_;rotate_left
 ·rintro q w' ⟨rfl,g'⟩
  refine aG.e ?_;exact⟨rfl,g'⟩
 refine aG.piece (Q:=λq w'=>q=[(3,.int .u64 kx),(9,Ptt bs),(11,.slice (Pty fb) fs.length vc),(12,.int .u64 0)]/\w'=w2) (aG.e ⟨_,by exact⟨rfl,rfl,rfl,rfl,trivial⟩,rfl,rfl⟩) ?_;rintro q w2 ⟨rfl,rfl⟩;refine aG.block ?_;refine aG.loop (λm s wk=>∃j:Nat,m=13 - j/\j<=13/\s=jm kx bs fb fs.length vc j []/\df (fI W) bs S wk/\oJ wk (.slice (Pty fb) fs.length vc) fs) ⟨_,_,⟨0,rfl,Nat.zero_le _,rfl,h1,h2⟩,rfl,rfl,rfl,rfl,trivial⟩ ?_;clear h1 h2;rintro m s wk ⟨j,rfl,hj,rfl,hK,h2⟩;refine aG.cut (Qn:=λq w'=>j<13/\q=jm kx bs fb fs.length vc j []/\w'=wk) (Qx:=λj q w'=>j=0/\q=[]/\w'=wk) (Qr:=λ_ _=>False) (aG.e ?_) ?_ ?_ (λ_ _ _ h _=>h.elim)
 ·refine aj (λc=>?_) (λc=>?_)
  ·exact⟨_,by exact⟨rfl,rfl,rfl,rfl,trivial⟩,by have:=Ptq c;omega,rfl,rfl⟩
  ·exact⟨_,by exact trivial,rfl,rfl,rfl⟩
 rotate_left
 ·rintro j q s w' ⟨rfl,rfl,rfl⟩ hs
  exact⟨_,hs,rfl,hK.snap⟩
 rintro _ wk ⟨j1,rfl,rfl⟩;refine aG.piece (Q:=λq w'=>q=jm kx bs fb fs.length vc j []/\GB none wk w') ?_ ?_;rotate_left
 ·rintro _ w' ⟨rfl,g'⟩
  refine aG.e ?_;exact⟨by omega,_,_,⟨j+1,rfl,by omega,rfl,hK.au g',h2.gb g'⟩,⟨rfl,rfl,rfl,rfl,trivial⟩,by omega⟩
 refine aG.block ?_;refine aG.piece (Q:=λq w'=>q=jm kx bs fb fs.length vc j [(13,.int .u64 (jA j))]/\w'=wk) (aG.e ?_) ?_
 ·refine⟨_,(BO wk j).x,?_⟩
  rintro _ w' ⟨rfl,rfl⟩;exact⟨_,by exact⟨rfl,rfl,rfl,rfl,rfl,trivial⟩,rfl,rfl⟩
 rintro _ wk ⟨rfl,rfl⟩;refine aG.piece (Q:=λq w'=>∃k:Int,(0<=k/\k<18446744073709551616)/\q=jm kx bs fb fs.length vc j [(13,.int .u64 k)]/\w'=wk) (aG.e ?_) ?_
 ·refine aj (λc=>?_) (λc=>?_)
  ·exact⟨_,by exact⟨rfl,rfl,rfl,rfl,rfl,trivial⟩,kx,hx,rfl,rfl⟩
  ·refine⟨_,by exact⟨rfl,rfl,rfl,rfl,rfl,trivial⟩,jA j,?_,rfl,rfl⟩
   unfold jA;split
   ·omega
   ·have:=Int.tmod_nonneg 11 (show(0:Int)<=j by omega)
    have:=Int.tmod_lt_of_pos (j:Int) (show(0:Int)<11 by omega);omega
 rintro _ wk ⟨k,⟨k0,k1⟩,rfl,rfl⟩;refine aG.piece (Q:=λq w'=>q=jm kx bs fb fs.length vc j [(13,.int .u64 k),(14,.int .i64 ((0:Nat):Int))]/\w'=wk) (aG.e ⟨_,by exact⟨rfl,rfl,rfl,rfl,rfl,rfl,trivial⟩,rfl,rfl⟩) ?_;rintro _ wk ⟨rfl,rfl⟩;refine aG.piece (Q:=λq w'=>q=jm kx bs fb fs.length vc j [(14,.int .i64 ((1:Nat):Int))]/\GB none wk w') ?_ ?_;rotate_left
 ·rintro _ w' ⟨rfl,g'⟩
  refine aG.e ?_;exact⟨_,by exact⟨rfl,rfl,rfl,rfl,trivial⟩,rfl,g'⟩
 obtain⟨X,eX⟩:∃X:Nat->Nat,X=FF S.C.n (S.st A) k:=⟨_,rfl⟩;have hT:∀{g},g<S.C.n->∀d,TR (S.st A g) ((S.st A d).I.getD g 0) d k<=1000000:=λ{g} hg d=>Nat.le_trans countP_le_length (hln hg d)
 have hTs:∀{g},g<S.C.n->∀d,d<=S.C.n->bE (λd=>TR (S.st A g) ((S.st A d).I.getD g 0) d k) d<=4000000:=λ{g} hg d hd=>Nat.le_trans (Hm (B:=1000000) λj hj=>hT hg j) (by omega)
 have hX:∀g,g<S.C.n->X g<=4000001:=λg hg=>by
  rw[eX];unfold FF;have:=hTs hg _ (Nat.le_refl _);split<;>omega
 have hXs:∀g,g<=S.C.n->bE X g<=16000004:=λg hg=>Nat.le_trans (Hm (B:=4000001) λj hj=>hX j (by omega)) (by omega)
 have hone:bE X S.C.n=1:=by rw[eX];exact hcnt k k0 k1
 refine aG.piece (Q:=λq w'=>q=jm kx bs fb fs.length vc j [(13,.int .u64 k),(14,.int .i64 ((0:Nat):Int)),(15,.int .i64 ((0:Nat):Int))]/\w'=wk) (aG.e ⟨_,by exact⟨rfl,rfl,rfl,rfl,rfl,rfl,rfl,trivial⟩,rfl,rfl⟩) ?_;rintro _ wk ⟨rfl,rfl⟩;refine aG.block ?_;refine aG.loop (λm s w3=>∃g:Nat,m=S.C.n - g/\g<=S.C.n/\s=jm kx bs fb fs.length vc j [(13,.int .u64 k),(14,.int .i64 (bE X g:Nat)),(15,.int .i64 g)]/\GB none wk w3) ⟨_,_,⟨0,rfl,Nat.zero_le _,rfl,GB.refl _ _⟩,rfl,rfl,rfl,rfl,rfl,rfl,rfl,trivial⟩ ?_;rintro m s w3 ⟨g,rfl,hg,rfl,g3⟩;have hmem:∃bc a,∀w',GB none wk w'->w'.heap[bs]? = some (.cells (fV bc S a).toArray 88):=by
  obtain⟨bc,a,gv,sv,B,ad,hS⟩:=id hK;exact⟨bc,a,λw' g'=>(hS.au g').si.mem⟩
 obtain⟨bc,a,hmem⟩:=hmem;refine aG.cut (Qn:=λq w'=>g<S.C.n/\q=jm kx bs fb fs.length vc j [(13,.int .u64 k),(14,.int .i64 (bE X g:Nat)),(15,.int .i64 g)]/\w'=w3) (Qx:=λn q w'=>n=2/\q=jm kx bs fb fs.length vc j [(14,.int .i64 ((1:Nat):Int))]/\w'=w3) (Qr:=λ_ _=>False) (aG.e ?_) ?_ ?_ (λ_ _ _ h _=>h.elim)
 ·refine⟨_,_,hmem w3 g3,_,rfl,aj (λc=>?_) (λc=>?_)⟩
  ·exact⟨_,by exact⟨rfl,rfl,rfl,rfl,rfl,rfl,rfl,trivial⟩,by have:=Ptq c;omega,rfl,rfl⟩
  ·have e:g=S.C.n:=by have:=Ptx c;omega
   refine⟨jm kx bs fb fs.length vc j [(14,.int .i64 (bE X g:Nat))],by exact⟨rfl,rfl,rfl,rfl,rfl,trivial⟩,rfl,by rw[e,hone],rfl⟩
 rotate_left
 ·rintro n _ s w' ⟨rfl,rfl,rfl⟩ hs
  exact⟨_,hs,rfl,g3⟩
 rintro _ w3 ⟨c1,rfl,rfl⟩;have hXg:=hXs g hg;refine aG.piece (Q:=λq w'=>q=jm kx bs fb fs.length vc j [(13,.int .u64 k),(14,.int .i64 (bE X (g+1):Nat)),(15,.int .i64 g)]/\GB none wk w') ?_ ?_;rotate_left
 ·rintro _ w' ⟨rfl,g'⟩
  refine aG.e ?_;exact⟨by omega,_,_,⟨g+1,rfl,by omega,rfl,g'⟩,⟨rfl,rfl,rfl,rfl,rfl,rfl,rfl,trivial⟩,by omega⟩
 refine aG.block ?_;obtain⟨afH,p,hfb,afI,fat⟩:=(h2.gb g3).at (hfa c1);obtain⟨a1,d1,a2,d2,a3,n3,d3,rfl⟩:=fat.sl;refine aG.piece (Q:=λq w'=>∃(b:Nat) (x:V5),q=jm kx bs fb fs.length vc j [(13,.int .u64 k),(14,.int .i64 (bE X g:Nat)),(15,.int .i64 g),(16,Ptt b)]/\w'.heap[b]? = some (.cells (kL (S.st A g) x).toArray 31)/\ShAt w' x (S.st A g)/\GB none wk w') (aG.e ?_) ?_
 ·refine⟨by omega,_,_,hfb,BZ (.slice a1 (S.fold A g).1.length d1,.slice a2 (S.fold A g).2.length d2,.slice a3 n3 d3),by show aK afH.toList (0+(g:Int).toNat*3) 3=_;rw[Nat.zero_add,Int.toNat_natCast];exact afI,rfl,_,(LJ fat (hst c1).1 (hst c1).2).x,?_⟩
  rintro _ w4 ⟨⟨⟨T,M,D,O,I⟩,rfl,h4⟩,g4⟩;obtain⟨ta,tn,tc,ma,mn,mc,da,dn,dc,oa,on,oc,ia,il,ic,e5⟩:=fG.sl h4;obtain⟨rfl,rfl,rfl,rfl,rfl⟩:T=_/\M=_/\D=_/\O=_/\I=_:=e5;refine λw5 b m5 g5 l5=>⟨_,_,_,m5,rfl,rfl,λw6 m6 g6=>?_⟩
  have G:GB none w4 w6:=g5.new g6 l5;exact⟨_,by exact⟨rfl,rfl,rfl,rfl,rfl,rfl,rfl,rfl,trivial⟩,b,⟨_,_,_,_,_⟩,rfl,m6,fG.kz h4 G.kz,g3.trans (g4.trans G)⟩
 rintro _ w4 ⟨b,⟨T,M,D,O,I⟩,rfl,m4,h4,g4⟩;obtain⟨ta,tn,tc,ma,mn,mc,da,dn,dc,oa,on,oc,ia,il,ic,e5⟩:=fG.sl h4;obtain⟨rfl,rfl,rfl,rfl,rfl⟩:T=_/\M=_/\D=_/\O=_/\I=_:=e5;obtain⟨y,ey⟩:∃y:Nat,y=if own 0 (S.st A g).M k=g then 1 else 0:=⟨_,rfl⟩
 have y1:y<=1:=by rw[ey];split<;>omega
 refine aG.piece (Q:=λq w'=>q=jm kx bs fb fs.length vc j [(13,.int .u64 k),(14,.int .i64 (bE X g+y:Nat)),(15,.int .i64 g),(16,Ptt b)]/\GB none w4 w') (aG.e ?_) ?_
 ·obtain⟨u1,u2,u3⟩:=HM _ (hgood c1)
  refine⟨_,_,m4,kL (S.st A g) ⟨.slice ta tn tc,.slice ma mn mc,.slice da dn dc,.slice oa on oc,.slice ia il ic⟩,rfl,rfl,_,(VX h4 u1 u2 k0 (u3 k)).x,?_⟩;rintro _ w5 ⟨rfl,g5⟩;refine aj (λc=>?_) (λc=>?_)
  ·refine⟨by omega,jm kx bs fb fs.length vc j [(13,.int .u64 k),(14,.int .i64 ((bE X g:Nat)+1)),(15,.int .i64 g),(16,Ptt b)],by exact⟨rfl,rfl,rfl,rfl,rfl,rfl,rfl,rfl,trivial⟩,?_,g5⟩
   rw[ey,if_pos (eq_of_beq c)];rfl
  ·refine⟨jm kx bs fb fs.length vc j [(13,.int .u64 k),(14,.int .i64 (bE X g:Nat)),(15,.int .i64 g),(16,Ptt b)],by exact⟨rfl,rfl,rfl,rfl,rfl,rfl,rfl,rfl,trivial⟩,?_,g5⟩
   rw[ey,if_neg (λe=>by rw[e]at c;simp at c)];rfl
 rintro _ w5 ⟨rfl,g5⟩;replace h4:=fG.kz h4 g5.kz;replace m4:=g5.get m4 nofun;replace g4:=g4.trans g5;clear g5;obtain⟨Y,eY⟩:∃Y:Nat->Nat,Y=λd=>TR (S.st A g) ((S.st A d).I.getD g 0) d k:=⟨_,rfl⟩
 have eXg:bE X (g+1)=bE X g+y+bE Y S.C.n:=by
  show bE X g+X g=_;rw[ey,eY,Nat.add_assoc];rw[show X g=FF S.C.n (S.st A) k g by rw[eX]];rfl
 have hYs:∀d,d<=S.C.n->bE Y d<=4000000:=λd hd=>by rw[eY];exact hTs c1 d hd
 refine aG.piece (Q:=λq w'=>q=jm kx bs fb fs.length vc j [(13,.int .u64 k),(14,.int .i64 (bE X g+y:Nat)),(15,.int .i64 g),(16,Ptt b),(17,.int .i64 ((0:Nat):Int))]/\w'=w5) (aG.e ⟨_,by exact⟨rfl,rfl,rfl,rfl,rfl,rfl,rfl,rfl,rfl,trivial⟩,rfl,rfl⟩) ?_;rintro _ w5 ⟨rfl,rfl⟩;refine aG.block ?_;refine aG.loop (λm s w6=>∃d:Nat,m=S.C.n - d/\d<=S.C.n/\s=jm kx bs fb fs.length vc j [(13,.int .u64 k),(14,.int .i64 (bE X g+y+bE Y d:Nat)),(15,.int .i64 g),(16,Ptt b),(17,.int .i64 d)]/\GB none w5 w6) ⟨_,_,⟨0,rfl,Nat.zero_le _,rfl,GB.refl _ _⟩,rfl,rfl,rfl,rfl,rfl,rfl,rfl,rfl,rfl,trivial⟩ ?_;rintro m s w6 ⟨d,rfl,hd,rfl,g6⟩;refine aG.cut (Qn:=λq w'=>d<S.C.n/\q=jm kx bs fb fs.length vc j [(13,.int .u64 k),(14,.int .i64 (bE X g+y+bE Y d:Nat)),(15,.int .i64 g),(16,Ptt b),(17,.int .i64 d)]/\w'=w6) (Qx:=λn q w'=>n=4/\q=jm kx bs fb fs.length vc j [(13,.int .u64 k),(14,.int .i64 (bE X (g+1):Nat)),(15,.int .i64 g)]/\w'=w6) (Qr:=λ_ _=>False) (aG.e ?_) ?_ ?_ (λ_ _ _ h _=>h.elim)
 ·refine⟨_,_,hmem w6 (g4.trans g6),_,rfl,aj (λc=>?_) (λc=>?_)⟩
  ·exact⟨_,by exact⟨rfl,rfl,rfl,rfl,rfl,rfl,rfl,rfl,rfl,trivial⟩,by have:=Ptq c;omega,rfl,rfl⟩
  ·have e:d=S.C.n:=by have:=Ptx c;omega
   exact⟨jm kx bs fb fs.length vc j [(13,.int .u64 k),(14,.int .i64 (bE X g+y+bE Y d:Nat)),(15,.int .i64 g)],by exact⟨rfl,rfl,rfl,rfl,rfl,rfl,rfl,trivial⟩,rfl,by rw[eXg,e],rfl⟩
 rotate_left
 ·rintro n _ s w' ⟨rfl,rfl,rfl⟩ hs
  exact⟨_,hs,rfl,g4.trans g6⟩
 rintro _ w6 ⟨c2,rfl,rfl⟩;have hYd:=hYs d hd;refine aG.piece (Q:=λq w'=>q=jm kx bs fb fs.length vc j [(13,.int .u64 k),(14,.int .i64 (bE X g+y+bE Y (d+1):Nat)),(15,.int .i64 g),(16,Ptt b),(17,.int .i64 d)]/\GB none w5 w') ?_ ?_;rotate_left
 ·rintro _ w' ⟨rfl,g'⟩
  refine aG.e ?_;exact⟨by omega,_,_,⟨d+1,rfl,by omega,rfl,g'⟩,⟨rfl,rfl,rfl,rfl,rfl,rfl,rfl,rfl,rfl,trivial⟩,by omega⟩
 refine aG.block ?_;obtain⟨ln,eln⟩:∃ln,ln=(aT (S.st A g).O d).2:=⟨_,rfl⟩;have afJ:ln.length<=1000000:=by rw[eln];exact hln c1 d
 refine aG.piece (Q:=λq w'=>∃qa qc,q=jm kx bs fb fs.length vc j [(13,.int .u64 k),(14,.int .i64 (bE X g+y+bE Y d:Nat)),(15,.int .i64 g),(16,Ptt b),(17,.int .i64 d),(18,.slice qa ln.length qc)]/\qE w' (.slice qa ln.length qc) ln/\GB none w6 w') (aG.e ?_) ?_
 ·have hla:=Y4 (fG.kz h4 g6.kz) d
  rw[<-eln]at hla;refine⟨_,_,g6.get m4 nofun,kL (S.st A g) ⟨.slice ta tn tc,.slice ma mn mc,.slice da dn dc,.slice oa on oc,.slice ia il ic⟩,rfl,rfl,_,hla.x,?_⟩;rintro _ w7 ⟨⟨q,rfl,hq⟩,g7⟩;obtain⟨qa,qc,rfl⟩:∃a c,q=.slice a ln.length c:=by obtain⟨_,_,⟨a,c,e,_⟩,_⟩:=hq;exact⟨_,_,e⟩
  exact⟨_,by exact⟨rfl,rfl,rfl,rfl,rfl,rfl,rfl,rfl,rfl,rfl,trivial⟩,qa,qc,rfl,hq,g7⟩
 rintro _ w7 ⟨qa,qc,rfl,hq,g7⟩;refine aG.piece (Q:=λq w'=>q=jm kx bs fb fs.length vc j [(13,.int .u64 k),(14,.int .i64 (bE X g+y+bE Y d:Nat)),(15,.int .i64 g),(16,Ptt b),(17,.int .i64 d),(18,.slice qa ln.length qc),(19,.int .i64 ((0:Nat):Int))]/\w'=w7) (aG.e ⟨_,by exact⟨rfl,rfl,rfl,rfl,rfl,rfl,rfl,rfl,rfl,rfl,rfl,trivial⟩,rfl,rfl⟩) ?_;rintro _ w7 ⟨rfl,rfl⟩;obtain⟨pc,epc⟩:∃pc,pc=uA ((S.st A d).I.getD g 0) k:=⟨_,rfl⟩;have eYd:bE Y (d+1)=bE Y d+ln.countP pc:=by
  show bE Y d+Y d=_;rw[epc,eln,show Y d=TR (S.st A g) ((S.st A d).I.getD g 0) d k by rw[eY]];rfl
 have hpc:∀i,(ln.take i).countP pc<=1000000:=λi=>Nat.le_trans countP_le_length (Nat.le_trans (by rw[length_take];omega) afJ)
 refine aG.block ?_;refine aG.loop (λm s w8=>∃i:Nat,m=ln.length - i/\i<=ln.length/\s=jm kx bs fb fs.length vc j [(13,.int .u64 k),(14,.int .i64 (bE X g+y+bE Y d+(ln.take i).countP pc:Nat)),(15,.int .i64 g),(16,Ptt b),(17,.int .i64 d),(18,.slice qa ln.length qc),(19,.int .i64 i)]/\GB none w7 w8) ⟨_,_,⟨0,rfl,Nat.zero_le _,rfl,GB.refl _ _⟩,rfl,rfl,rfl,rfl,rfl,rfl,rfl,rfl,rfl,rfl,rfl,trivial⟩ ?_;rintro m s w8 ⟨i,rfl,hi,rfl,g8⟩;refine aG.cut (Qn:=λq w'=>i<ln.length/\q=jm kx bs fb fs.length vc j [(13,.int .u64 k),(14,.int .i64 (bE X g+y+bE Y d+(ln.take i).countP pc:Nat)),(15,.int .i64 g),(16,Ptt b),(17,.int .i64 d),(18,.slice qa ln.length qc),(19,.int .i64 i)]/\w'=w8) (Qx:=λn q w'=>n=6/\q=jm kx bs fb fs.length vc j [(13,.int .u64 k),(14,.int .i64 (bE X g+y+bE Y (d+1):Nat)),(15,.int .i64 g),(16,Ptt b),(17,.int .i64 d)]/\w'=w8) (Qr:=λ_ _=>False) (aG.e ?_) ?_ ?_ (λ_ _ _ h _=>h.elim)
 ·refine aj (λc=>?_) (λc=>?_)
  ·exact⟨_,by exact⟨rfl,rfl,rfl,rfl,rfl,rfl,rfl,rfl,rfl,rfl,rfl,trivial⟩,by have:=Ptq c;omega,rfl,rfl⟩
  ·have e:i=ln.length:=by have:=Ptx c;omega
   exact⟨jm kx bs fb fs.length vc j [(13,.int .u64 k),(14,.int .i64 (bE X g+y+bE Y d+(ln.take i).countP pc:Nat)),(15,.int .i64 g),(16,Ptt b),(17,.int .i64 d)],by exact⟨rfl,rfl,rfl,rfl,rfl,rfl,rfl,rfl,rfl,trivial⟩,rfl,by rw[eYd,e,take_length,Nat.add_assoc _ (bE Y d)],rfl⟩
 rotate_left
 ·rintro n _ s w' ⟨rfl,rfl,rfl⟩ hs
  exact⟨_,hs,rfl,g6.trans (g7.trans g8)⟩
 rintro _ w8 ⟨c3,rfl,rfl⟩;have hpi:=hpc i;refine aG.piece (Q:=λq w'=>q=jm kx bs fb fs.length vc j [(13,.int .u64 k),(14,.int .i64 (bE X g+y+bE Y d+(ln.take (i+1)).countP pc:Nat)),(15,.int .i64 g),(16,Ptt b),(17,.int .i64 d),(18,.slice qa ln.length qc),(19,.int .i64 i)]/\GB none w7 w') ?_ ?_;rotate_left
 ·rintro _ w' ⟨rfl,g'⟩
  refine aG.e ?_;exact⟨by omega,_,_,⟨i+1,rfl,by omega,rfl,g'⟩,⟨rfl,rfl,rfl,rfl,rfl,rfl,rfl,rfl,rfl,rfl,rfl,trivial⟩,by omega⟩
 refine aG.block (aG.e ?_);obtain⟨r,hr⟩:∃r,ln[i]? = some r:=⟨ln[i],by simp[c3]⟩;have etk:=Qk (p:=pc) hr;obtain⟨QB,qo,ahQ,Ot,pr,eq,TI,hqe,_⟩:=(hq.kz g8.kz).el hr;cases eq
 have q2:Ot.toList[qo+i*7+2]? = some (.int .u32 r.seq):=LY hqe rfl (by decide);have q3:Ot.toList[qo+i*7+3]? = some (.int .u64 r.lo):=LY hqe rfl (by decide);have q4:Ot.toList[qo+i*7+4]? = some (.int .u64 r.hi):=LY hqe rfl (by decide);have G8:=g4.trans (g6.trans (g7.trans g8));obtain⟨afK,p',VY,adi,ab2⟩:=(h2.gb G8).at (hfa c2);obtain⟨a1',d1',Sq,d2',a3',WN,d3',rfl⟩:=ab2.sl;refine⟨by kernel_rfl,by omega,_,_,TI,.int .u32 r.seq,by show Ot.toList[qo+(i:Int).toNat*7+2]? = _;rw[Int.toNat_natCast];exact q2,by omega,_,_,VY,BZ (.slice a1' (S.fold A d).1.length d1',.slice Sq (S.fold A d).2.length d2',.slice a3' WN d3'),by show aK afK.toList (0+(d:Int).toNat*3) 3=_;rw[Nat.zero_add,Int.toNat_natCast];exact adi,rfl,_,(LJ ab2 (hst c2).1 (hst c2).2).x,?_⟩;rintro _ w9 ⟨⟨⟨T',M',D',O',I'⟩,rfl,h9⟩,g9⟩;obtain⟨ta',tn',tc',ma',mn',mc',sj,yA,su,oa',on',oc',ia',il',ic',e9⟩:=fG.sl h9;obtain⟨rfl,rfl,rfl,rfl,rfl⟩:T'=_/\M'=_/\D'=_/\O'=_/\I'=_:=e9;refine⟨⟨g9.get VY nofun,g9.get TI nofun,trivial⟩,_,(adg h9 g).x,?_⟩;rintro _ oN ⟨rfl,g10⟩;have G9:=g9.trans g10;have no:pc r=false->(ln.take (i+1)).countP pc=(ln.take i).countP pc:=λe=>by rw[etk,e];rfl
 have hcv:pc r=(decide ((S.st A d).I.getD g 0<r.seq) && (decide (r.lo<=k) && decide (k<=r.hi))):=by rw[epc];rfl
 refine⟨⟨G9.get VY nofun,G9.get TI nofun,trivial⟩,?_⟩;refine aj (λc=>?_) (λc=>?_)
 ·refine⟨by omega,_,_,G9.get TI nofun,.int .u64 r.lo,by show Ot.toList[qo+(i:Int).toNat*7+3]? = _;rw[Int.toNat_natCast];exact q3,?_⟩
  refine aj (λc'=>?_) (λc'=>?_)
  ·refine⟨by omega,_,_,G9.get TI nofun,.int .u64 r.hi,by show Ot.toList[qo+(i:Int).toNat*7+4]? = _;rw[Int.toNat_natCast];exact q4,?_⟩
   refine aj (λc''=>?_) (λc''=>?_)
   ·refine⟨by omega,jm kx bs fb fs.length vc j [(13,.int .u64 k),(14,.int .i64 ((bE X g+y+bE Y d+(ln.take i).countP pc:Nat)+1)),(15,.int .i64 g),(16,Ptt b),(17,.int .i64 d),(18,.slice (some ⟨QB,qo,none⟩) ln.length qc),(19,.int .i64 i)],by exact⟨rfl,rfl,rfl,rfl,rfl,rfl,rfl,rfl,rfl,rfl,rfl,trivial⟩,?_,g8.trans G9⟩
    rw[etk,if_pos (by rw[hcv,show decide ((S.st A d).I.getD g 0<r.seq)=true from b11 c,show decide (r.lo<=k)=true from b11 c',show decide (k<=r.hi)=true from c''];rfl)];rfl
   ·refine⟨jm kx bs fb fs.length vc j [(13,.int .u64 k),(14,.int .i64 (bE X g+y+bE Y d+(ln.take i).countP pc:Nat)),(15,.int .i64 g),(16,Ptt b),(17,.int .i64 d),(18,.slice (some ⟨QB,qo,none⟩) ln.length qc),(19,.int .i64 i)],by exact⟨rfl,rfl,rfl,rfl,rfl,rfl,rfl,rfl,rfl,rfl,rfl,trivial⟩,?_,g8.trans G9⟩
    rw[no (by rw[hcv,show decide (k<=r.hi)=false from c''];simp)]
  ·refine⟨jm kx bs fb fs.length vc j [(13,.int .u64 k),(14,.int .i64 (bE X g+y+bE Y d+(ln.take i).countP pc:Nat)),(15,.int .i64 g),(16,Ptt b),(17,.int .i64 d),(18,.slice (some ⟨QB,qo,none⟩) ln.length qc),(19,.int .i64 i)],by exact⟨rfl,rfl,rfl,rfl,rfl,rfl,rfl,rfl,rfl,rfl,rfl,trivial⟩,?_,g8.trans G9⟩
   rw[no (by rw[hcv,show decide (r.lo<=k)=false from b10 c'];simp)]
 ·refine⟨jm kx bs fb fs.length vc j [(13,.int .u64 k),(14,.int .i64 (bE X g+y+bE Y d+(ln.take i).countP pc:Nat)),(15,.int .i64 g),(16,Ptt b),(17,.int .i64 d),(18,.slice (some ⟨QB,qo,none⟩) ln.length qc),(19,.int .i64 i)],by exact⟨rfl,rfl,rfl,rfl,rfl,rfl,rfl,rfl,rfl,rfl,rfl,trivial⟩,?_,g8.trans G9⟩
  rw[no (by rw[hcv,show decide ((S.st A d).I.getD g 0<r.seq)=false from b10 c];rfl)]
end
theorem Y5{m:List Pc}{g lo hi:Int}(h:¬Eg m g lo hi=true):∀k,lo<=k->k<=hi->own 0 m k=g:=by
 unfold Eg at h;split at h
 ·exact absurd rfl h
 ·rename_i e
  intro k k0 k1;rw[UE m lo k k0 0 λq hq c=>?_]
  ·exact Classical.byContradiction e
  ·rw[find?_isSome]at h
   exact h ⟨q,hq,by unfold Bz;simp;omega⟩
theorem Y6{n k:Nat}{s:St}(hs:dB n k s){g:Nat}(eg:s.g=g){c:MC}(hc:jO n c):Eff n g s c (lQ s c).1:=by
 have xz:=hs.xz;have hn:=hs.n;have ol:(s.O.length:Int)=n:=by have:=hs.ok.ol;omega
 have il:(s.I.length:Int)=n:=by have:=hs.ok.il;omega
 have hdo:¬jN c.q=false->¬Eg s.M s.g c.q.key (FD c.q)=true->Eff n g s c (nX s c.q):=λo1 o2=>by
  unfold nX;split
  ·exact .same rfl rfl rfl
  split
  ·exact .same rfl rfl rfl
  split
  ·rename_i e
   obtain⟨e4,ef⟩:=e;have ok:jN c.q=true:=by cases h:jN c.q;exact absurd h o1;rfl
   have lh:c.q.key<=c.q.hi:=by
    unfold jN at ok;rw[if_neg (by omega),if_neg (by omega),if_pos e4]at ok;simp only[Bool.and_eq_true,decide_eq_true_eq]at ok;exact ok.2.1
   unfold gV at ef;simp only[Bool.and_eq_true,decide_eq_true_eq,Bool.not_eq_true',beq_eq_false_iff_ne]at ef;have t0:=hc.q.to.1;have mx:FD c.q=c.q.hi:=by unfold FD;split<;>omega
   rw[mx]at o2;have ow:=Y5 o2;have et:c.q.to=(c.q.to.toNat:Int):=by omega
   have ln:(aT s.O c.q.to).1+1<4294967296/\0<=(aT s.O c.q.to).1+1:=by
    unfold aT;cases ho:s.O[c.q.to.toNat]? with
    |none=>simp
    |some o=>obtain⟨_,a,b,_⟩:=hs.o o (List.mem_of_getElem? ho);simp;omega
   refine .dlg c.q.key c.q.hi c.q.to.toNat (zG s.g c.q.to (aT s.O c.q.to).1 c.q.key c.q.hi s.T (ja s.D (kX s c.q))) hc.q.key.1 lh hc.q.hi.2 (by omega) (by omega) (λk a b=>by rw[ow k a b,eg]) ?_ ?_ ?_ rfl rfl rfl
   ·show fT s.M c.q.key c.q.hi c.q.to=_
    rw[<-et]
   ·show s.O.set c.q.to.toNat (IntKind.u32.wrap ((aT s.O c.q.to).1+1),_)=_
    rw[wrap_u32 ⟨ln.2,ln.1⟩,<-et]
   ·rw[<-et];rfl
  ·exact .same rfl rfl rfl
 unfold lQ;split
 ·unfold tq
  split
  ·exact .same rfl rfl rfl
  rename_i o1;split
  ·exact .same rfl rfl rfl
  rename_i o2;split
  ·split
   ·split
    ·exact hdo o1 o2
    ·split<;>exact .same rfl rfl rfl
   ·exact .same rfl rfl rfl
  ·exact hdo o1 o2
 split
 ·rename_i hk
  show Eff n g s c (uF s c.r);unfold uF;split
  ·rename_i e
   obtain⟨e1,e2,_⟩:=e;have lh:c.r.lo<=c.r.hi:=by unfold oO at e1;simp only[Bool.and_eq_true,decide_eq_true_eq]at e1;exact e1.2.2.2.1
   unfold xq at e2;simp only[Bool.and_eq_true,decide_eq_true_eq,Bool.not_eq_true',beq_eq_false_iff_ne,beq_iff_eq]at e2;obtain⟨⟨⟨x1,x2⟩,x3⟩,x4⟩:=e2;have s0:=hc.r.src.1;have hw:0<=(s.I[c.r.src.toNat]?).getD 0+1/\(s.I[c.r.src.toNat]?).getD 0+1<4294967296:=by
    cases ho:s.I[c.r.src.toNat]? with
    |none=>simp
    |some o=>have:=hs.i o (List.mem_of_getElem? ho);simp;omega
   rw[wrap_u32 hw]at x4;exact .rcv c.r.src.toNat hk (by omega) (by omega) (by omega) hc.r.lo.1 lh hc.r.hi.2 (by rw[getD_eq_getElem?_getD];exact x4) (by show fT _ _ _ s.g=_;rw[eg]) rfl rfl
  ·exact .same rfl rfl rfl
 split
 ·rename_i hk
  show Eff n g s c (sZ s c.peer c.seq);unfold sZ;split
  ·rename_i e
   have p0:=hc.peer.1;have et:c.peer=(c.peer.toNat:Int):=by omega
   exact .set c.peer.toNat hk et (by omega) rfl (by show s.O.set c.peer.toNat _=_;rw[<-et]) rfl
  ·exact .same rfl rfl rfl
 ·exact .same rfl rfl rfl
def stA(n:Nat)(ls:Nat->List MC)(g:Nat):St:=dY (jG n) (nY g n) (ls g)
structure LZ(n:Nat)(ls:Nat->List MC):Prop where
 gl:Gl n (stA n ls)
 gd:∀g,g<n->dB n (ls g).length (stA n ls g)
 past:∀g d,g<n->d<n->∀j,j<=(ls g).length->∀r∈(aT (dY (jG n) (nY g n) ((ls g).take j)).O d).2,r∈(aT (stA n ls g).O d).2\/r.seq<=(stA n ls d).I.getD g 0
 up:∀g d:Nat,g<n->∀j,j<=(ls g).length->(dY (jG n) (nY g n) ((ls g).take j)).I.getD d 0<=(stA n ls g).I.getD d 0
theorem Ca:∀n,bE (λ_=>0) n=0
 |0=>rfl
 |n+1=>by show bE (λ_=>0) n+0=0;rw[Ca n]
theorem Cb{g n d:Nat}(hd:d<n):aT (nY g n).O d=(1,[]):=by
 show aT (replicate n ((1:Int),([]:List Rg))) d=_;unfold aT;rw[Int.toNat_natCast,getElem?_replicate,if_pos hd];rfl
theorem adj(g n x:Nat):(nY g n).I.getD x 0=0:=by
 show(replicate n (0:Int)).getD x 0=0;rw[getD_eq_getElem?_getD,getElem?_replicate];split<;>rfl
theorem LZ.nil{n:Nat}(h0:0<n)(h4:n<=4):LZ n λ_=>[]:=by
 have gd:∀g,g<n->dB n 0 (nY g n):=λg hg=>(Lx n).Co g n rfl hg h4
 refine⟨⟨λg hg=>⟨(gd g hg).ok,rfl,rfl⟩,λg d _ hd=>?_,λg d _ hd=>?_,λg d _ hd r hr=>?_,λk k0 k1=>?_⟩,gd,λg d _ hd j hj r hr=>?_,λg d _ j hj=>?_⟩
 ·show(nY d n).I.getD g 0<(aT (nY g n).O d).1
  rw[adj,Cb hd];decide
 ·show(aT (nY g n).O d).2.Pairwise _
  rw[Cb hd];exact .nil
 ·have hr:r∈(aT (nY g n).O d).2:=hr
  rw[Cb hd]at hr;cases hr
 ·have e:∀g,g<n->FF n (stA n λ_=>[]) k g=if(0:Int)=g then 1 else 0:=λg hg=>by
   unfold FF;have e1:own 0 (stA n (λ_=>[]) g).M k=0:=by
    show own 0 [⟨0,0⟩] k=0;unfold own;rw[if_pos k0];rfl
   rw[e1];have:bE (λd=>TR (stA n (λ_=>[]) g) ((stA n (λ_=>[]) d).I.getD g 0) d k) n=bE (λ_=>0) n:=qO λd hd=>by
    show(aT (nY g n).O d).2.countP _=0;rw[Cb hd];rfl
   rw[this,Ca];rfl
  have:=oz (f:=λ_=>0) (f':=FF n (stA n λ_=>[]) k) h0 λj hj ne=>by
   rw[e j hj,if_neg (by omega)]
  rw[Ca,e 0 h0,if_pos (show(0:Int)=((0:Nat):Int)from rfl)]at this;unfold cnt;omega
 ·have hr:r∈(aT (dY (jG n) (nY g n) (([]:List MC).take j)).O d).2:=hr
  rw[take_nil]at hr;have hr:r∈(aT (nY g n).O d).2:=hr;rw[Cb hd]at hr;cases hr
 ·show(dY (jG n) (nY g n) (([]:List MC).take j)).I.getD d 0<=(nY g n).I.getD d 0
  rw[take_nil];exact Int.le_refl _
theorem Cc(n:Nat)(s:St)(l:List MC)(c:MC):dY (jG n) s (l++[c])=(lQ (dY (jG n) s l) c).1:=by unfold dY;rw[foldl_append];rfl
theorem LZ.ext{n:Nat}{ls:Nat->List MC}(h:LZ n ls){g:Nat}(hg:g<n){c:MC}(hc:Hw (jG n) n ls g c)(hl:(ls g).length<=59):LZ n (kR ls g (ls g++[c])):=by
 have gc:jO n c:=hc.1;have eo:∀g',g'≠g->stA n (kR ls g (ls g++[c])) g'=stA n ls g':=λg' ne=>by unfold stA kR;rw[if_neg ne]
 have lo:∀g',g'≠g->kR ls g (ls g++[c]) g'=ls g':=λg' ne=>by unfold kR;rw[if_neg ne]
 have lg:kR ls g (ls g++[c]) g=ls g++[c]:=xH _ _ _;have eg:stA n (kR ls g (ls g++[c])) g=(lQ (stA n ls g) c).1:=by unfold stA;rw[lg,Cc]
 have gd:=h.gd g hg;have gd':=gd.app (by omega) gc;obtain⟨o1,o2,o3⟩:=h.gl.ok g hg;have ef:=Y6 gd o3 gc;have an:=Xp (stA n ls g) c;have hr:∀g0:Nat,c.kind=2->c.r.src=g0->g0<n->c.r∈(aT (stA n ls g0).O g).2\/c.r.seq<=(stA n ls g).I.getD g0 0:=λg0 hk e0 h0=>by
  rcases hc.2 with e|e|⟨e,g1,q1,e1,e2,j,hj,o,ho,hr⟩|⟨e,_⟩
  ·omega
  ·omega
  ·obtain rfl:g1=g0:=by omega
   refine h.past g1 g q1 hg j hj c.r ?_;unfold aT;rw[Int.toNat_natCast];have ho:(dY (jG n) (nY g1 n) ((ls g1).take j)).O[g]? = some o:=ho;rw[ho];exact hr
  ·omega
 have hx:∀g0:Nat,c.kind=3->c.peer=g0->g0<n->c.seq<=(stA n ls g0).I.getD g 0:=λg0 hk e0 h0=>by
  rcases hc.2 with e|e|⟨e,_⟩|⟨e,g1,q1,e1,j,hj,hs⟩
  ·omega
  ·omega
  ·omega
  ·obtain rfl:g1=g0:=by omega
   exact Int.le_trans hs (h.up g1 g q1 j hj)
 have Xw:∀d x:Nat,(stA n ls d).I.getD x 0<=(stA n (kR ls g (ls g++[c])) d).I.getD x 0:=λd x=>by
  by_cases e:d=g
  ·subst e;rw[eg];exact VW n _ c (by omega:(ls d).length<=60) gd hc.1 x
  ·rw[eo d e];exact Int.le_refl _
 refine⟨h.gl.step hg eo (by rw[eg];exact ef) (by rw[eg];exact⟨gd'.ok,gd'.n,an.2.trans o3⟩) hr hx,λg' hg'=>?_,λg' d hg' hd j hj r hr'=>?_,λg' d hg' j hj=>?_⟩
 ·by_cases e:g'=g
  ·subst e;rw[eg,lg,length_append];exact gd'
  ·rw[eo g' e,lo g' e];exact h.gd g' hg'
 ·by_cases e:g'=g
  ·subst e
   rw[lg]at hj hr';rw[eg];by_cases e2:j<=(ls g').length
   ·rw[take_append_of_le_length e2]at hr'
    rcases h.past g' d hg' hd j e2 r hr' with q|q
    ·have ol:(stA n ls g').O.length=n:=by have:=o1.ol;omega
     cases ef with
     |same m o i=>rw[o];exact .inl q
     |dlg lo hi t r' h0 h1 h2 ht hgt ow m o e1 e2 e3 i =>
      rw[o,CF (by omega)];split
      ·rename_i z;subst z;exact .inl (mem_append.2 (.inl q))
      ·exact .inl q
     |rcv g0 hk e0 h0 hgt b0 b1 b2 es m o i=>rw[o];exact .inl q
     |set g0 hk e0 h0 m o i =>
      rw[o,CF (by omega)];split
      ·rename_i z
       subst z;by_cases le:r.seq<=c.seq
       ·exact .inr (Int.le_trans le (Int.le_trans (hx d hk e0 h0) (Xw d g')))
       ·exact .inl (mem_filter.2 ⟨q,by simp;omega⟩)
      ·exact .inl q
    ·exact .inr (Int.le_trans q (Xw d g'))
   ·rw[length_append,length_singleton]at hj
    have:(ls g'++[c]).take j=ls g'++[c]:=take_of_length_le (by rw[length_append,length_singleton];omega);rw[this,Cc]at hr';exact .inl hr'
  ·rw[lo g' e]at hj hr'
   rw[eo g' e];rcases h.past g' d hg' hd j hj r hr' with q|q
   ·exact .inl q
   ·exact .inr (Int.le_trans q (Xw d g'))
 ·by_cases e:g'=g
  ·subst e
   rw[lg]at hj |-;by_cases e2:j<=(ls g').length
   ·rw[take_append_of_le_length e2]
    exact Int.le_trans (h.up g' d hg' j e2) (Xw g' d)
   ·rw[length_append,length_singleton]at hj
    have:(ls g'++[c]).take j=ls g'++[c]:=take_of_length_le (by rw[length_append,length_singleton];omega);rw[this,Cc,eg];exact Int.le_refl _
  ·rw[lo g' e]at hj |-
   rw[eo g' e];exact h.up g' d hg' j hj
theorem qx.glh{n:Nat}(h0:0<n)(h4:n<=4){ls:Nat->List MC}(h:qx (jG n) n ls):(∀g,g<n->(ls g).length<=60)->LZ n ls:=by
 induction h with
 |nil=>exact λ_=>LZ.nil h0 h4
 | @ext ls g c h hg hc ih =>
  intro hl;refine(ih λg' hg'=>?_).ext hg hc ?_
  ·by_cases e:g'=g
   ·subst e
    have:=hl g' hg';rw[xH,length_append]at this;omega
   ·have:=hl g' hg'
    unfold kR at this;rw[if_neg e]at this;exact this
  ·have:=hl g hg
   rw[xH,length_append,length_singleton]at this;omega
end
