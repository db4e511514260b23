/- Lemmas. -/
import Derived.Test.YtignemioillaiabGreatG40
namespace Go.Proofs.YtignemioillaiabGreat
set_option maxHeartbeats 8000000
set_option maxRecDepth 100000
open List
section
open Go Go.Conc
section
variable{Λ:bW}{w w0 w1 w2:World}{bs bc:Nat}{S:Sit}{a:zz}{gv sv:Value}{B:Nat->Nat->Nat}{ad:Nat->Nat->gD}
theorem iI.be'(h:iI Λ bs bc S a gv sv B ad w){v:Value}{bz:List (List MC)}{bv:List Value}(g0:GB none w w0)(g1:GB a.bq.ownBlock w0 w1)(ho:w1.ownsRow 0 57 1 v bz.length bv)(hv:∀x,v.ownBlock=some x->a.bq.ownBlock=some x\/w.heap.size<=x)(hl:bv.length=bz.length)(m2:Hl w2 bs (fD bc {S with bz:=bz} {a with bq:=v,bv:=bv}) 44)(g2:GB (some bs) w1 w2)
 (hbi:∀(g:Nat) (l:List MC) (u:Value),bz[g]?=some l->bv[g]?=some u->(S.bz[g]?=some l/\a.bv[g]?=some u)\/(jL w0 u l/\∀x,u.ownBlock=some x->w.heap.size<=x)):iI Λ bs bc {S with bz:=bz} {a with bq:=v,bv:=bv} gv sv B ad w2/\Kz w w2:=by
 have own:∀x,a.bq.ownBlock=some x->∃c,w.heap[x]?=some (.cells c 57):=λx hx=>au h.si.be hx
 have MH:∀x,x<w0.heap.size->some x≠a.bq.ownBlock->x≠bs->w2.heap[x]?=w0.heap[x]?:=λx hx h1 h2=>(g2.block x (Jbz hx g1.size) λe=>h2 (Jbm e)).trans (g1.block x hx h1)
 have nb:∀{x:Nat} {c:Array Value} {t:TypeId},w.heap[x]?=some (.cells c t)->t≠44->t≠57->w2.heap[x]?=w.heap[x]?:=λ{x c t} hx ht1 ht2=>(MH x (ae (g0.get hx nofun)) (λe=>by obtain⟨c',hc⟩:=own x e.symm;exact dw hx hc ht2 rfl) (dw hx h.si.mem ht1)).trans (g0.block x (ae hx) nofun)
 have k:Kz w w2:=λt ht b c hb=>(nb hb (λe=>by subst e;revert ht;decide) (λe=>by subst e;revert ht;decide)).trans hb
 have k0:Kz w0 w2:=λt ht b c hb=>(MH b (ae hb) (λe=>by obtain⟨c',hc⟩:=own b e.symm;exact dw hb (g0.get hc nofun) (λe=>by subst e;revert ht;decide) rfl) (dw hb (g0.get h.si.mem nofun) λe=>by subst e;revert ht;decide)).trans hb
 have hs:pX w2 bs bc {S with bz:=bz} {a with bq:=v,bv:=bv}:=by
  refine⟨m2,ax h.si.ak λx hx=>?_,ax ho λx hx=>?_,hl,λg l u h1 h2=>?_,ax h.si.le λx hx=>?_,ax h.si.fe λx hx=>?_⟩
  .obtain⟨c,hc⟩:=au h.si.ak hx;exact nb hc (by decide) (by decide)
  .obtain⟨c,hc⟩:=au ho hx
   refine g2.block x (ae hc) λe=>?_
   cases e
   rcases hv bs hx with q|q
   .obtain⟨c',hc'⟩:=own bs q
    exact dw hc' h.si.mem (by decide) rfl
   .have:=ae h.si.mem;omega
  .rcases hbi g l u h1 h2 with⟨q1,q2⟩|⟨q1,q2⟩
   .exact(h.si.bi g l u q1 q2).kz k λx hx=>by obtain⟨c,hc⟩:=(h.si.bi g l u q1 q2).obj hx;exact nb hc (by decide) (by decide)
   .refine q1.kz k0 λx hx=>?_
    obtain⟨c,hc⟩:=q1.obj hx;have:=q2 x hx;refine MH x (ae hc) (λe=>?_) (λe=>?_)
    .obtain⟨c',hc'⟩:=own x e.symm;have:=ae hc';omega
    .subst e;have:=ae h.si.mem;omega
  .obtain⟨c,hc⟩:=au h.si.le hx;exact nb hc (by decide) (by decide)
  .obtain⟨c,hc⟩:=au h.si.fe hx;exact nb hc (by decide) (by decide)
 refine h.gs (((GS.of g0 nofun).then g1 λx e=>.inr (.inr (.inl e))).then g2 λx e=>.inl (Jbm e).symm) hs rfl λx hx=>?_
 rcases hx with e|e|e|e|e|⟨u,hu,e⟩
 .exact .inl (.inl e)
 .exact .inl (.inr (.inl e))
 .exact(hv x e).imp (λe=>.inr (.inr (.inl e))) id
 .exact .inl (.inr (.inr (.inr (.inl e))))
 .exact .inl (.inr (.inr (.inr (.inr (.inl e)))))
 .obtain⟨g,hg⟩:=Jdf.1 hu
  have hlt:g<bz.length:=by rw[<-hl];exact(Jcn.1 hg).1
  rcases hbi g bz[g] u (by simp[hlt]) hg with⟨_,q2⟩|⟨_,q2⟩
  .exact .inl (.inr (.inr (.inr (.inr (.inr ⟨u,Jcv q2,e⟩)))))
  .exact .inr (q2 x e)
end
def Sit.new(A:aI)(n sz:Nat):Sit:=⟨aJ.new A n sz,[],replicate n [],replicate (n*sz) 0,replicate (n*sz) false,0,false⟩
section
variable{A:aI}(HA:bG A)
include HA
theorem UQ(w:World)(n f:Nat)(hn:1<=n/\n<=4)(hf:f<=2):CY 50 #[.int .i64 n,.int .i64 (2*f+1:Nat)] w (λv w'=>∃bs,v=.tuple #[Ptt bs,.bool true]/\w.heap.size<=bs/\dX (fQ w) bs (Sit.new A n (2*f+1)) w'/\Kz w w'):=by
 refine aj Tryz.func50 rfl rfl ?_;refine λw1 bs m1 g1 l1=>?_
 have hq:IntKind.i64.wrap (((2*f+1:Nat):Int).tdiv 2)=((f:Nat):Int):=by
  rw[Int.tdiv_eq_ediv_of_nonneg (Jg7 _),Go.IntWalk.i64_in _ ⟨by omega,by omega⟩];omega
 have hnew:=aew HA w1 n f hn hf;refine⟨by decide,?_⟩;have aeM:∀z:Int,z=(f:Int)->CY 87 #[.int .i64 n,.int .i64 z] w1 _:=λz hz=>by subst hz;exact hnew
 refine⟨_,aeM _ hq,?_⟩;rintro _ w2 ⟨bc,rfl,lbc,hC,k2⟩;obtain⟨gv,sv,B,ad,hC⟩:=hC;have m12:=(hC.pr bs _ m1).1;have nbs:=(hC.pr bs _ m1).2;refine⟨_,_,_,m12,rfl,rfl,λw3 m3 g3=>?_⟩;have k3:Kz w2 w3:=g3.Ei λc t ht hc=>by rw[m12]at hc;injection hc with hc;injection hc with _ hc;subst hc;revert ht;decide
 have h3:iI (fQ w) bs bc ⟨aJ.new A n (2*f+1),[],[],[],[],0,false⟩ ⟨.slice none 0 0,Ptz,Ptz,Ptz,[]⟩ gv sv B ad w3:=by
  have so:∀x,yK bs ⟨.slice none 0 0,Ptz,Ptz,Ptz,[]⟩ x->x=bs:=λx hx=>by
   rcases hx with e|e|e|e|e|⟨v,hv,e⟩
   .exact e
   .cases e
   .cases e
   .cases e
   .cases e
   .cases hv
  have co:∀x,nO (aJ.new A n (2*f+1)).n (aJ.new A n (2*f+1)).sz B bc sv ad x->x≠bs/\x<w2.heap.size:=λx hx=>⟨λe=>nbs (e▸hx),by
   rcases hx with rfl|hx|⟨g,i,hg,hi,hx⟩
   .exact ae hC.ci.fu
   .obtain⟨c,hc⟩:=au hC.ci.row hx;exact ae hc
   .exact(hC.ci.rep g i hg hi).lt hx⟩
  refine⟨⟨m3,eu _ _ _,eu _ _ _,rfl,λg l v h=>(by simp at h),eu _ _ _,eu _ _ _⟩,hC.ci.keep k3 (λx hx=>g3.block x (co x hx).2 λe=>(co x hx).1 (Jbm e)) (λx c t ht hx=>g3.get hx λe=>?_),λx hx=>(by rw[so x hx];exact nbs),λb o hb=>?_,g3.os.trans (hC.os.trans g1.os),g3.out.trans (hC.out.trans g1.out)⟩
  .cases e
   rw[m12]at hx;injection hx with hx;injection hx with _ hx;subst hx;revert ht;decide
  .have hb:w.heap[b]?=some o:=hb
   have hlt:=ae hb;have lbs:w.heap.size<=bs:=l1;obtain⟨p1,p2⟩:=hC.pr b o (g1.get hb nofun);exact⟨g3.get p1 λe=>(by cases e;omega),λe=>(by have:=so b e;omega),p2⟩
 have K3:Kz w w3:=(g1.kz.trans k2).trans k3;refine⟨λm s wk=>∃(k:Nat) (a:zz),m=n-k/\k<=n/\s=[(6,Ptt bs),(9,.int .i64 k)]/\iI (fQ w) bs bc ⟨aJ.new A n (2*f+1),[],replicate k [],[],[],0,false⟩ a gv sv B ad wk/\Kz w wk,⟨_,_,⟨0,_,rfl,Jcm _,rfl,h3,K3⟩,sb rfl⟩,?_⟩;rintro m s wk ⟨k,a,rfl,hk,rfl,hS,K⟩;refine⟨_,_,hS.si.mem,_,rfl,ah (λc=>?_) (λc=>?_)⟩
 .have c1:k<n:=by have:=Ptq c;simp only[aJ.new]at this;omega
  obtain⟨ba,kH,hbq⟩:=af hS.si.be;have hbe:=hS.si.be;rw[hbq]at hbe;have hmem:=hS.si.mem;refine⟨_,_,hmem,.slice ba (replicate k ([]:List MC)).length kH,by show(fD _ _ _)[4]?=_;unfold fD;rw[hbq];rfl,λw4 b4 m4 g4 l4=>?_⟩;have adb:=ax hbe (w1:=w4) λx hx=>by obtain⟨c,hc⟩:=au hbe hx;exact g4.block x (ae hc) nofun
  refine⟨_,[Ptz],adb,⟨_,_,m4,rfl,rfl,rfl⟩,by simp;omega,λv' w5 Bj g5 n5=>?_⟩;have mm:w5.heap[bs]?=_:=g5.get (g4.get hmem nofun) λe=>by
   obtain⟨c,hc⟩:=au adb e.symm;exact dw (g4.get hmem nofun) hc (by decide) rfl
  obtain⟨va,vc,rfl⟩:=af Bj;refine⟨_,_,_,mm,rfl,rfl,λw6 m6 g6=>?_⟩;have e1:(replicate (k+1) ([]:List MC)).length=(replicate k ([]:List MC)).length+1:=by simp
  obtain⟨h6,k6⟩:=hS.be' (bz:=replicate (k+1) []) g4 (by rw[hbq];exact g5) (by rw[e1];exact Bj) (λx hx=>by rw[hbq];rcases n5 x hx with e|e;exact .inl e;exact .inr (Jb1 g4.size e)) (by rw[Jc6,hS.si.bl];simp) m6 g6 (λg l u q1 q2=>by
   have hg:g<k+1:=by have:=(Jcn.1 q1).1;simpa using this
   have hbl:a.bv.length=k:=by rw[hS.si.bl];simp
   by_cases e:g<k
   .refine .inl ⟨?_,?_⟩
    .rw[Jgt,Jb6 hg]at q1;show(replicate k _)[g]?=_;rw[Jgt,Jb6 e];exact q1
    .rw[Jc8 (by omega)]at q2;exact q2
   .have e:g=k:=by omega
    subst e;rw[Jc9 (by omega),hbl,Nat.sub_self]at q2;cases q2
    rw[Jgt,Jb6 hg]at q1;cases q1
    exact .inr ⟨⟨[],rfl,eu _ _ _,λi c p h=>by simp at h⟩,nofun⟩)
  exact⟨by omega,_,_,⟨k+1,_,rfl,by omega,rfl,h6,K.trans k6⟩,(sb rfl),by omega⟩
 .have c1:k=n:=by have:=Ptx c;simp only[aJ.new]at this;omega
  subst c1;have hle:k*(2*f+1)<=20:=Jb1 (Jf9 hn.2 (show 2*f+1<=5 by omega)) (by decide);have hcast:(k:Int)*((2*f+1:Nat):Int)=((k*(2*f+1):Nat):Int):=(Jf4 _ _).symm;refine⟨λm s wk=>∃(j:Nat) (a:zz),m=k*(2*f+1)-j/\j<=k*(2*f+1)/\s=[(6,Ptt bs),(10,.int .i64 j)]/\iI (fQ w) bs bc ⟨aJ.new A k (2*f+1),[],replicate k [],replicate j 0,replicate j false,0,false⟩ a gv sv B ad wk/\Kz w wk,⟨_,_,⟨0,_,rfl,Jcm _,rfl,hS,K⟩,sb rfl⟩,?_⟩;clear hS K;rintro m s wk ⟨j,a,rfl,hj,rfl,hS,K⟩;have hmem:=hS.si.mem;have hc2:((aJ.new A k (2*f+1)).n:Int)*((aJ.new A k (2*f+1)).sz:Int)=((k*(2*f+1):Nat):Int):=hcast;refine⟨by kernel_rfl,_,_,hmem,_,rfl,_,_,hmem,_,rfl,⟨by show _<=((aJ.new A k (2*f+1)).n:Int)*((aJ.new A k (2*f+1)).sz:Int);omega,by show((aJ.new A k (2*f+1)).n:Int)*((aJ.new A k (2*f+1)).sz:Int)<=_;omega⟩,ah (λd=>?_) (λd=>?_)⟩
  .have d1:j<k*(2*f+1):=by have:=Ptq d;rw[show(_:Int)*_=_ from hc2]at this;omega
   obtain⟨la,jR,hlq⟩:=af hS.si.le;have hle1:=hS.si.le;rw[hlq]at hle1;refine⟨_,_,hmem,.slice la (replicate j 0).length jR,by show(fD _ _ _)[5]?=_;unfold fD;rw[hlq];rfl,λw4 b4 m4 g4 l4=>?_⟩;have ade:=ax hle1 (w1:=w4) λx hx=>by obtain⟨c,hc⟩:=au hle1 hx;exact g4.block x (ae hc) nofun
   refine⟨_,[.int .i64 0],ade,⟨_,_,m4,rfl,rfl,rfl⟩,by simp;omega,λv' w5 Bj g5 n5=>?_⟩;have mm:w5.heap[bs]?=_:=g5.get (g4.get hmem nofun) λe=>by
    obtain⟨c,hc⟩:=au ade e.symm;exact dw (g4.get hmem nofun) hc (by decide) rfl
   obtain⟨va,vc,rfl⟩:=af Bj;refine⟨_,_,_,mm,rfl,rfl,λw6 m6 g6=>?_⟩;have e1:(replicate (j+1) 0).length=(replicate j 0).length+1:=by simp
   obtain⟨h6,k6⟩:=(hS.ay g4).le' (l:=replicate (j+1) 0) (by rw[hlq];exact g5) (by rw[e1,replicate_succ',Jda];exact Bj) (λx hx=>by rw[hlq];exact n5 x hx) m6 g6;have RF:=h6.si.mem;obtain⟨fa,aho,YR⟩:=af h6.si.fe;have Xv:=h6.si.fe;rw[YR]at Xv;refine⟨_,_,RF,.slice fa (replicate j false).length aho,by show(fD _ _ _)[6]?=_;unfold fD;rw[YR];rfl,λw7 b7 m7 g7 l7=>?_⟩;have adf:=ax Xv (w1:=w7) λx hx=>by obtain⟨c,hc⟩:=au Xv hx;exact g7.block x (ae hc) nofun
   refine⟨_,[.bool false],adf,⟨_,_,m7,rfl,rfl,rfl⟩,by simp;omega,λv8 w8 ho8 g8 n8=>?_⟩;have mm8:w8.heap[bs]?=_:=g8.get (g7.get RF nofun) λe=>by
    obtain⟨c,hc⟩:=au adf e.symm;exact dw (g7.get RF nofun) hc (by decide) rfl
   obtain⟨va8,vc8,rfl⟩:=af ho8;refine⟨_,_,_,mm8,rfl,rfl,λw9 m9 g9=>?_⟩;have e2:(replicate (j+1) false).length=(replicate j false).length+1:=by simp
   obtain⟨h9,k9⟩:=(h6.ay g7).fe' (l:=replicate (j+1) false) (by rw[YR];exact g8) (by rw[e2,replicate_succ',Jda];exact ho8) (λx hx=>by rw[YR];exact n8 x hx) m9 g9;exact⟨by omega,_,_,⟨j+1,_,rfl,by omega,rfl,h9,(((K.trans g4.kz).trans k6).trans g7.kz).trans k9⟩,(sb rfl),by omega⟩
  .have d1:j=k*(2*f+1):=by have:=Ptx d;rw[show(_:Int)*_=_ from hc2]at this;omega
   subst d1;exact⟨bs,rfl,l1,⟨_,_,_,_,_,_,hS⟩,K⟩
end
def pF(q:aW):MM:={aL 1 with q:=q}
structure uD(A:aI):Prop where
 mask:∀(w:World) (q:aW),A.gc (fM q)->CY 43 #[.agg (iW (pF q) Ptz Ptz Ptz Ptz Ptz).toArray] w (λv w'=>v=.tuple #[.string (A.enc (pF q)),.int .i64 0]/\GB none w w')
 small:∀q,A.gc (fM q)->(A.enc (pF q)).size<=1000
def Sit.sends(A:aI)(S:Sit)(q:aW)(g i:Nat):Sit:={S with C:=S.C.send g i (A.enc (pF q)),asks:=S.asks++[⟨q,g,S.C.q.length⟩]}
theorem aJ.qz(C:aJ)(g i:Nat)(d:ByteArray):(C.send g i d).n=C.n/\(C.send g i d).sz=C.sz:=by unfold aJ.send;split<;>exact⟨rfl,rfl⟩
section
variable{A:aI}(HL:uD A){Λ:bW}{w:World}{bs:Nat}{S:Sit}
include HL
theorem PI(h:dX Λ bs S w)(hF:S.C.aK A){q:aW}(hq:A.gc (fM q)){g i:Nat}(hg:g<S.C.n)(hi:i<S.C.sz)(hb:S.asks.length<=1000000):CY 20 #[Ptt bs,.agg q.cells.toArray,.agg #[.int .u8 g,.int .u8 i]] w (λv w'=>v=.tuple #[]/\dX Λ bs (S.sends A q g i) w'/\Kz w w'):=by
 obtain⟨bc,a,gv,sv,B,ad,h⟩:=h;have hn:=hF.n;have hz:=hF.sz;have hlen:=hF.len;refine aj Tryz.func20 rfl rfl ?_;refine λw1 b1 m1 g1 l1 w2 b2 m2 g2 l2=>?_
 refine⟨_,_,g2.get m1 nofun,q.cells,rfl,rfl,_,HL.mask w2 q hq,?_⟩;rintro _ w3 ⟨rfl,g3⟩;have G3:=(g1.trans g2).trans g3;have h3:=h.ay G3;have m13:=(g2.trans g3).get m1 nofun;have m23:=g3.get m2 nofun;have adg:Hl w3 b1 q.cells 65:=m13;have Xw:w3.heap[b2]?=some (.cells #[.int .u8 g,.int .u8 i] 48):=m23;have nc:∀{x:Nat} {c:Array Value} {t:TypeId},w3.heap[x]?=some (.cells c t)->w.heap.size<=x->¬nO S.C.n S.C.sz B bc sv ad x:=λ{x c t} hx hl hC=>by
  rcases hC with e|e|⟨g',i',p1,p2,p3⟩
  .subst e;have:=ae h.ci.fu;omega
  .obtain⟨c',hc'⟩:=au h.ci.row e;have:=ae hc';omega
  .have:=(h.ci.rep g' i' p1 p2).lt p3;omega
 have lb1:w.heap.size<=b1:=l1;have lb2:w.heap.size<=b2:=Jb1 g1.size l2;refine⟨by kernel_rfl,_,_,h3.si.mem,_,rfl,_,_,Xw,[.int .u8 g,.int .u8 i],rfl,rfl,_,Uc h3.enter hF.n hF.sz g i (by omega) (by omega) (A.enc (pF q)),?_⟩;rintro _ w4 ⟨rfl,hC4,k4⟩;have pr4:∀{x:Nat} {o:Obj},w3.heap[x]?=some o->¬nO S.C.n S.C.sz B bc sv ad x->w4.heap[x]?=some o:=λ{x o} hx hno=>by
  obtain⟨_,_,_,_,h'⟩:=hC4;exact(h'.pr x o (by unfold AU;dsimp only;rw[Jb5 hno];exact hx)).1
 have m14:=pr4 adg (nc adg lb1);have m24:=pr4 Xw (nc Xw lb2);have sm:=HL.small q hq;rw[Jb6 ⟨⟨hg,hi⟩,by omega⟩,Jb6 ⟨hg,hi⟩,Jb5 (by omega)];obtain⟨en,ez⟩:=S.C.qz g i (A.enc (pF q));have h4:=h3.leave en ez hC4 k4;obtain⟨bc',a',Uh,bX,B',jV,h4⟩:=h4;obtain⟨C,asks,bz,len,fell,next,bad⟩:=S;cases bad
 all_goals
  have hmem:=h4.si.mem;refine⟨_,_,hmem,_,rfl,_,_,_,hmem,rfl,rfl,λw5 m5 g5=>?_⟩;obtain⟨h5,k5⟩:=h4.num (k:=next) m5 g5;have m15:w5.heap[b1]?=_:=g5.get m14 λe=>dw m14 hmem (by decide) (Jbm e)
  have vN:w5.heap[b2]?=_:=g5.get m24 λe=>dw m24 hmem (by decide) (Jbm e)
  have uE:=h5.si.mem;obtain⟨aa,Xx,haq⟩:=af h5.si.ak;have hak:=h5.si.ak;rw[haq]at hak;refine⟨by kernel_rfl,_,_,uE,.slice aa asks.length Xx,by show(fD _ _ _)[3]?=_;unfold fD;rw[haq];rfl,_,_,m15,q.cells,rfl,rfl,_,_,vN,_,rfl,λw6 b6 m6 g6 l6=>?_⟩;have RG:=ax hak (w1:=w6) λx hx=>by obtain⟨c,hc⟩:=au hak hx;exact g6.block x (ae hc) nofun
  refine⟨⟨g6.get vN nofun,g6.get m15 nofun,g6.get uE nofun,trivial⟩,?_⟩;refine⟨_,(Ask.mk q g C.q.length).cells,RG,⟨_,_,m6,rfl,rfl,rfl⟩,by show asks.length+1<=_;simp only at hb;omega,λv' w7 nU g7 n7=>?_⟩;have mm:w7.heap[bs]?=_:=g7.get (g6.get uE nofun) λe=>by
   obtain⟨c,hc⟩:=au RG e.symm;exact dw (g6.get uE nofun) hc (by decide) rfl
  obtain⟨va,vc,rfl⟩:=af nU;have m57:w7.heap[b1]?=_:=g7.get (g6.get m15 nofun) λe=>by
   obtain⟨c,hc⟩:=au RG e.symm;exact dw (g6.get m15 nofun) hc (by decide) rfl
  have JY:w7.heap[b2]?=_:=g7.get (g6.get vN nofun) λe=>by
   obtain⟨c,hc⟩:=au RG e.symm;exact dw (g6.get vN nofun) hc (by decide) rfl
  refine⟨_,_,_,mm,rfl,rfl,λw8 m8 g8=>?_⟩;obtain⟨h8,k8⟩:=(h5.ay g6).JZ (l:=asks++[⟨q,g,C.q.length⟩]) (by rw[haq];exact g7) (by rw[Jc6,Jda,Jfr];exact nU) (λx hx=>by rw[haq];exact n7 x hx) m8 g8;exact⟨rfl,⟨_,_,_,_,_,_,h8⟩,(((G3.kz.trans k4).trans k5).trans g6.kz).trans k8⟩
end
def Sit.one(A:aI)(S:Sit):Sit:={S with C:=S.C.eX A S.next,next:=S.next+1}
def Sit.all(A:aI):Nat->Sit->Sit
 |0,S=>S
 |n+1,S=>if S.next<S.C.q.length then Sit.all A n (S.one A)else S
theorem Sit.AY{A:aI}{S:Sit}(h:¬S.next<S.C.q.length):∀n,S.all A n=S
 |0=>rfl
 |n+1=>by unfold Sit.all;rw[Jb5 h]
theorem Sit.Nb{A:aI}{S:Sit}(h:S.next<S.C.q.length)(n:Nat):S.all A (n+1)=(S.one A).all A n:=by
 show(if S.next<S.C.q.length then Sit.all A n (S.one A)else S)=_;rw[Jb6 h]
theorem Sit.IW(A:aI):∀(i m:Nat) (S:Sit),S.all A (i+m)=(S.all A i).all A m
 |0,m,S=>by rw[Jbh];rfl
 |i+1,m,S=>by
  rw[Nat.add_right_comm];by_cases h:S.next<S.C.q.length
  .rw[Sit.Nb h,Sit.Nb h];exact Sit.IW A i m (S.one A)
  .rw[Sit.AY h,Sit.AY h,Sit.AY h]
theorem aJ.jv(A:aI)(C:aJ)(k:Int):(C.eX A k).n=C.n/\(C.eX A k).sz=C.sz:=by
 unfold aJ.eX;split
 .unfold aJ.jW
  split
  .exact⟨rfl,rfl⟩
  .split<;>exact⟨rfl,rfl⟩
 .exact⟨rfl,rfl⟩
theorem aJ.oV(A:aI)(C:aJ)(g i:Nat):(C.tick A g i).n=C.n/\(C.tick A g i).sz=C.sz:=by unfold aJ.tick;split<;>exact⟨rfl,rfl⟩
theorem aJ.wC(A:aI)(C:aJ)(g i:Nat):(C.dA A g i).n=C.n/\(C.dA A g i).sz=C.sz:=by unfold aJ.dA;split<;>exact⟨rfl,rfl⟩
section
variable{A:aI}(HA:bG A)(HN:dS A){Λ:bW}{w:World}{bs:Nat}{S:Sit}
include HA HN
theorem Sit.Nc:∀(n:Nat) {S:Sit},S.C.aK A->(S.all A n).C.aK A
 |0,_,h=>h
 |n+1,S,h=>by
  unfold Sit.all;split
  .exact Sit.Nc n (S:=S.one A) (h.eX HA HN (S.next:Int))
  .exact h
theorem YS(h:dX Λ bs S w)(hF:S.C.aK A)(most:Nat)(hm:most<=1000000):lV Tryz.prog 35 #[Ptt bs,.int .i64 most] w (λv w'=>v=.bool true/\dX Λ bs (S.all A most) w'/\Kz w w'):=by
 refine GQ fG mixed Tryz.func35 rfl rfl ?_;refine⟨λm s wk=>∃i:Nat,m=most-i/\i<=most/\s=[(0,Ptt bs),(1,.int .i64 most),(5,.int .i64 i)]/\dX Λ bs (S.all A i) wk/\Kz w wk,⟨_,_,⟨0,rfl,Jcm _,rfl,h,Kz.refl _⟩,sb rfl⟩,?_⟩;rintro m s wk ⟨i,rfl,hi,rfl,hS,K⟩;have PK:=Sit.Nc HA HN i hF;have hadd:=Sit.IW A i (most-i) S;rw[Nat.add_sub_cancel' hi]at hadd;have hone:(S.all A i).next<(S.all A i).C.q.length->S.all A (i+1)=(S.all A i).one A:=λh=>by
  rw[Sit.IW,Sit.Nb h];rfl
 generalize hT:S.all A i=T at hS PK hadd hone;obtain⟨bc,a,gv,sv,B,ad,hS⟩:=hS;have hlen:=PK.len;have hmem:=hS.si.mem;refine⟨by kernel_rfl,?_⟩;refine ah (λc=>?_) (λc=>?_)
 .have c1:i<most:=by simp at c;omega
  refine⟨_,_,hmem,_,rfl,_,_,hmem,_,rfl,_,(MJ hS.enter hlen 0 (by decide) (by decide)).x,?_⟩;rintro lv w1 ⟨o1,g1,_⟩;have e0:T.C.q.length-min (0:Int).toNat T.C.q.length=T.C.q.length:=by simp
  rw[e0]at o1;obtain⟨la,lc,rfl⟩:=af o1;have hS1:=hS.ay g1;have KD:=hS1.si.mem;refine⟨⟨KD,KD,trivial⟩,?_⟩;refine ah (λd=>?_) (λd=>?_)
  .have d1:T.next<T.C.q.length:=by have:=Ptq d;omega
   refine⟨by kernel_rfl,_,_,KD,_,rfl,_,_,KD,_,rfl,_,CF HA HN hS1.enter PK (T.next:Int),?_⟩;rintro _ w2 ⟨rfl,hC2,k2⟩;rw[Jb6 ⟨by omega,by omega⟩];obtain⟨en,ez⟩:=aJ.jv A T.C (T.next:Int);obtain⟨bc',a',Uh,bX,B',jV,h2⟩:=hS1.leave en ez hC2 k2;have YT:=h2.si.mem;refine⟨_,_,YT,_,rfl,⟨by show _<=((T.next:Nat):Int)+1;omega,by show((T.next:Nat):Int)+1<=_;omega⟩,_,_,_,YT,rfl,rfl,λw3 m3 g3=>?_⟩;obtain⟨h3,k3⟩:=h2.num (k:=T.next+1) (b:=T.bad) m3 g3;refine⟨by omega,_,_,⟨i+1,rfl,by omega,rfl,?_,((K.trans g1.kz).trans k2).trans k3⟩,(sb rfl),by omega⟩;rw[hone d1];exact⟨_,_,_,_,_,_,h3⟩
  .have d1:¬T.next<T.C.q.length:=by have:=Ptx d;omega
   refine⟨rfl,?_,K.trans g1.kz⟩;rw[hadd,Sit.AY d1];exact⟨_,_,_,_,_,_,hS1⟩
 .have c1:i=most:=by simp at c;omega
  subst c1;rw[hT];exact⟨rfl,⟨_,_,_,_,_,_,hS⟩,K⟩
end
def Sit.ku(A:aI):Nat->Sit->Sit
 |0,S=>S
 |g+1,S=>{S.ku A g with C:=(S.ku A g).C.tick A g 0}
def Sit.round(A:aI)(S:Sit):Sit:=(S.ku A S.C.n).all A 20000
section
variable{A:aI}(HA:bG A)(HN:dS A){Λ:bW}{w:World}{bs:Nat}{S:Sit}
theorem Sit.zA(S:Sit):∀g,(S.ku A g).C.n=S.C.n/\(S.ku A g).C.sz=S.C.sz
 |0=>⟨rfl,rfl⟩
 |g+1=>⟨(aJ.oV A _ _ _).1.trans (Sit.zA S g).1,(aJ.oV A _ _ _).2.trans (Sit.zA S g).2⟩
include HA HN
theorem Sit.Hm(h:S.C.aK A):∀g,(S.ku A g).C.aK A
 |0=>h
 |g+1=>(Sit.Hm h g).tick HA HN _ _
theorem IX(h:dX Λ bs S w)(hF:S.C.aK A)(hz:0<S.C.sz):lV Tryz.prog 14 #[Ptt bs] w (λv w'=>v=.bool true/\dX Λ bs (S.round A) w'/\Kz w w'):=by
 refine GQ fG mixed Tryz.func14 rfl rfl ?_;refine⟨λm s wk=>∃g:Nat,m=S.C.n-g/\g<=S.C.n/\s=[(0,Ptt bs),(3,.int .i64 g)]/\dX Λ bs (S.ku A g) wk/\Kz w wk,⟨_,_,⟨0,rfl,Jcm _,rfl,h,Kz.refl _⟩,sb rfl⟩,?_⟩;rintro m s wk ⟨g,rfl,hg,rfl,hS,K⟩;have hFg:=Sit.Hm HA HN hF g;obtain⟨en,ez⟩:=Sit.zA (A:=A) S g;have RH:S.ku A (g+1)={S.ku A g with C:=(S.ku A g).C.tick A g 0}:=rfl;have hrd:S.round A=(S.ku A S.C.n).all A 20000:=rfl;have oI:=hF.n;obtain⟨bc,a,gv,sv,B,ad,hS⟩:=hS;have hmem:=hS.si.mem;refine⟨_,_,hmem,_,rfl,ah (λc=>?_) (λc=>?_)⟩
 .have c1:g<S.C.n:=by have:=Ptq c;omega
  refine⟨_,_,hmem,_,rfl,.inl ⟨by omega,_,Ue HA hS.enter hFg g 0 (by omega) (by omega),?_⟩⟩;rintro _ w1 ⟨rfl,SQ,k1⟩;rw[Jb6 ⟨by omega,by omega⟩];obtain⟨en1,ez1⟩:=aJ.oV A (S.ku A g).C g 0;exact⟨by omega,_,_,⟨g+1,rfl,by omega,rfl,hS.leave en1 ez1 SQ k1,K.trans k1⟩,(sb rfl),by omega⟩
 .have c1:g=S.C.n:=by have:=Ptx c;omega
  subst c1;refine⟨_,YS HA HN ⟨_,_,_,_,_,_,hS⟩ hFg 20000 (by decide),?_⟩;rintro _ w1 ⟨rfl,h1,k1⟩;exact⟨rfl,h1,K.trans k1⟩
end
def oW{α:Type}(f:α->α->Bool)(l m:List α):Bool:=(zipWith f l m).all id
theorem IY{α:Type}{f:α->α->Bool}{l m:List α}{k:Nat}{x y:α}(h1:l[k]?=some x)(h2:m[k]?=some y)(h:f x y=false):oW f l m=false:=by
 cases hz:oW f l m with
 |false=>rfl
 |true =>
  unfold oW at hz;rw[all_eq_true]at hz;have:f x y∈zipWith f l m:=Jcv (i:=k) (by rw[Jg3,h1,h2]);have:=hz _ this;rw[h]at this;cases this
theorem xh{α:Type}{f:α->α->Bool}{l m:List α}(h:∀(k:Nat) (x y:α),k<l.length->l[k]?=some x->m[k]?=some y->f x y=true):oW f l m=true:=by
 unfold oW;rw[all_eq_true];intro b hb;obtain⟨k,hk⟩:=Jdf.1 hb;rw[Jg3]at hk;cases h1:l[k]? with
 |none=>rw[h1]at hk;cases hk
 |some x =>
  cases h2:m[k]? with
  |none=>rw[h1,h2]at hk;cases hk
  |some y =>
   rw[h1,h2]at hk;cases hk
   exact h k x y (Jcn.1 h1).1 h1 h2
def jX(p q:Row):Bool:=p.key==q.key&&(p.val==q.val&&true)
theorem UR{l:List Row}{k:Nat}{p:Row}(h:l[k]?=some p):aG (l.map Row.cells).flatten (k*2) 2=p.cells:=by
 rw[<-Jfx];exact jb (f:=Row.cells) (λ_=>rfl) l k p h
def sU(a b:Rg):Bool:=a.src==b.src&&(a.dst==b.dst&&(a.seq==b.seq&&(a.lo==b.lo&&(a.hi==b.hi&&((a.rows.length:Int)==b.rows.length&&((a.aX.length:Int)==b.aX.length&&(oW jX a.rows b.rows&&oW dQ a.aX b.aX)))))))
theorem IZ{a b:Int}(h:((a != b)==false)=false):(a==b)=false:=by cases hb:a==b<;>simp_all [bne]
theorem I1{a b:Int}(h:((a != b)==false)=true):(a==b)=true:=by cases hb:a==b<;>simp_all [bne]
theorem aav(w:World){a b:Rg}{ra da rb db:Value}(ha:aS w a ra da)(hb:aS w b rb db)(la:a.rows.length<=1000000/\a.aX.length<=1000000):CY 58 #[.agg (fB a ra da).toArray,.agg (fB b rb db).toArray] w (λv w'=>v=.bool (sU a b)/\GB none w w'):=by
 obtain⟨⟨raa,rac,rfl,rah,ral,rad⟩,⟨daa,dac,rfl,dah,dal,dad⟩⟩:=ha;obtain⟨⟨rba,rbc,rfl,rbh,rbl,rbd⟩,⟨dba,dbc,rfl,dbh,dbl,dbd⟩⟩:=hb;refine aj Tryz.func58 rfl rfl ?_;refine λw1 b1 m1 g1 l1 w2 b2 m2 g2 l2=>?_
 have m1:=g2.get m1 nofun;have G:=g1.trans g2;refine⟨_,_,m1,_,rfl,_,_,m2,_,rfl,?_⟩;refine ah (λc1=>?_) (λc=>⟨by unfold sU;rw[IZ c];rfl,G⟩);refine⟨_,_,m1,_,rfl,_,_,m2,_,rfl,ah (λc2=>?_) (λc=>⟨by unfold sU;rw[IZ c];simp,G⟩)⟩;refine⟨_,_,m1,_,rfl,_,_,m2,_,rfl,ah (λc3=>?_) (λc=>⟨by unfold sU;rw[IZ c];simp,G⟩)⟩;refine⟨_,_,m1,_,rfl,_,_,m2,_,rfl,ah (λc4=>?_) (λc=>⟨by unfold sU;rw[IZ c];simp,G⟩)⟩;refine⟨_,_,m1,_,rfl,_,_,m2,_,rfl,ah (λc5=>?_) (λc=>⟨by unfold sU;rw[IZ c];simp,G⟩)⟩;refine⟨_,_,m1,_,rfl,_,_,m2,_,rfl,ah (λc6=>?_) (λc=>⟨by unfold sU;rw[IZ c];simp,G⟩)⟩;refine⟨_,_,m1,_,rfl,_,_,m2,_,rfl,ah (λc=>⟨by unfold sU;rw[show((a.aX.length:Int)==b.aX.length)=false by simpa[bne]using c];simp,G⟩) (λc7=>?_)⟩;have e6:=I1 c6;have e7:((a.aX.length:Int)==b.aX.length)=true:=by simpa[bne]using c7
 have er:sU a b=(oW jX a.rows b.rows&&oW dQ a.aX b.aX):=by
  unfold sU;rw[I1 c1,I1 c2,I1 c3,I1 c4,I1 c5,e6,e7];rfl
 have n6:a.rows.length=b.rows.length:=by have:=eq_of_beq e6;omega
 have n7:a.aX.length=b.aX.length:=by have:=eq_of_beq e7;omega
 rw[er];refine⟨λq s w3=>∃k:Nat,q=a.rows.length-k/\k<=a.rows.length/\s=[(2,Ptt b1),(3,Ptt b2),(5,.int .i64 k)]/\w3=w2/\∀(j:Nat) (x y:Row),j<k->a.rows[j]?=some x->b.rows[j]?=some y->jX x y=true,⟨_,_,⟨0,rfl,Jcm _,rfl,rfl,λj x y h=>by omega⟩,sb rfl⟩,?_⟩;rintro q s w2 ⟨k,rfl,hk,rfl,rfl,hall⟩;refine⟨_,_,m1,_,rfl,ah (λc=>?_) (λc=>?_)⟩
 .have d1:k<a.rows.length:=by have:=Ptq c;omega
  rcases rad with⟨_,h0⟩|⟨B,off,cs,rfl,hB,hcut⟩
  .omega
  rcases rbd with⟨_,h0⟩|⟨B',off',cs',rfl,hB',hcut'⟩
  .omega
  obtain⟨x,hx⟩:∃x,a.rows[k]?=some x:=⟨a.rows[k],by simp[d1]⟩;obtain⟨y,hy⟩:∃y,b.rows[k]?=some y:=⟨b.rows[k]'(by omega),by simp[show k<b.rows.length by omega]⟩;refine⟨by kernel_rfl,_,_,m1,_,rfl,by omega,_,_,G.get hB nofun,x.cells,(Fz.elem hcut d1).trans (UR hx),rfl,_,_,m2,_,rfl,by omega,_,_,G.get hB' nofun,y.cells,(Fz.elem hcut' (by omega)).trans (UR hy),rfl,ah (λd=>?_) (λd=>?_)⟩
  .have d2:jX x y=false:=by cases hh:jX x y with|false=>rfl|true=>exact absurd (show(!(jX x y))=true from d) (by rw[hh];decide)
   exact⟨by rw[IY hx hy d2];rfl,G⟩
  .have d2:jX x y=true:=by cases hh:jX x y with|true=>rfl|false=>exact absurd (show(!(jX x y))=false from d) (by rw[hh];decide)
   refine⟨by omega,_,_,⟨k+1,rfl,by omega,rfl,rfl,λj x' y' hj h1 h2=>?_⟩,(sb rfl),by omega⟩;by_cases e:j=k
   .subst e;rw[hx]at h1;rw[hy]at h2;cases h1;cases h2;exact d2
   .exact hall j x' y' (by omega) h1 h2
 .have d1:k=a.rows.length:=by have:=Ptx c;omega
  subst d1;rw[xh (f:=jX) (λj x y hj h1 h2=>hall j x y hj h1 h2),Jdz];refine⟨λq s w3=>∃k:Nat,q=a.aX.length-k/\k<=a.aX.length/\s=[(2,Ptt b1),(3,Ptt b2),(6,.int .i64 k)]/\w3=w2/\∀(j:Nat) (x y:ag),j<k->a.aX[j]?=some x->b.aX[j]?=some y->dQ x y=true,⟨_,_,⟨0,rfl,Jcm _,rfl,rfl,λj x y h=>by omega⟩,sb rfl⟩,?_⟩;clear hall;rintro q s w2 ⟨k,rfl,hk,rfl,rfl,hall⟩;refine⟨_,_,m1,_,rfl,ah (λc=>?_) (λc=>?_)⟩
  .have d1:k<a.aX.length:=by have:=Ptq c;omega
   rcases dad with⟨_,h0⟩|⟨B,off,cs,rfl,hB,hcut⟩
   .omega
   rcases dbd with⟨_,h0⟩|⟨B',off',cs',rfl,hB',hcut'⟩
   .omega
   obtain⟨x,hx⟩:∃x,a.aX[k]?=some x:=⟨a.aX[k],by simp[d1]⟩;obtain⟨y,hy⟩:∃y,b.aX[k]?=some y:=⟨b.aX[k]'(by omega),by simp[show k<b.aX.length by omega]⟩;refine⟨by kernel_rfl,_,_,m1,_,rfl,by omega,_,_,G.get hB nofun,x.cells,(Fz.elem hcut d1).trans (Mk hx),rfl,_,_,m2,_,rfl,by omega,_,_,G.get hB' nofun,y.cells,(Fz.elem hcut' (by omega)).trans (Mk hy),rfl,ah (λd=>?_) (λd=>?_)⟩
   .have d2:dQ x y=false:=by cases hh:dQ x y with|false=>rfl|true=>exact absurd (show(!(dQ x y))=true from d) (by rw[hh];decide)
    exact⟨by rw[IY hx hy d2],G⟩
   .have d2:dQ x y=true:=by cases hh:dQ x y with|true=>rfl|false=>exact absurd (show(!(dQ x y))=false from d) (by rw[hh];decide)
    refine⟨by omega,_,_,⟨k+1,rfl,by omega,rfl,rfl,λj x' y' hj h1 h2=>?_⟩,(sb rfl),by omega⟩;by_cases e:j=k
    .subst e;rw[hx]at h1;rw[hy]at h2;cases h1;cases h2;exact d2
    .exact hall j x' y' (by omega) h1 h2
  .have d1:k=a.aX.length:=by have:=Ptx c;omega
   subst d1;exact⟨by rw[xh (f:=dQ) (λj x y hj h1 h2=>hall j x y hj h1 h2)],G⟩
def vw(a b:MC):Bool:=sU a.r b.r&&(a.kind==b.kind&&(rW a.q b.q&&(a.peer==b.peer&&a.seq==b.seq)))
theorem aaw(w:World){a b:MC}{va vb:Value}(ha:kF w va a)(hb:kF w vb b)(la:a.r.rows.length<=1000000/\a.r.aX.length<=1000000):CY 36 #[va,vb] w (λv w'=>v=.bool (vw a b)/\GB none w w'):=by
 obtain⟨ra,da,rfl,ha⟩:=ha;obtain⟨rb,db,rfl,hb⟩:=hb;refine aj Tryz.func36 rfl rfl ?_;refine λw1 b1 m1 g1 l1 w2 b2 m2 g2 l2=>?_
 have m1:=g2.get m1 nofun;have G:=g1.trans g2;refine⟨_,_,m1,fB a.r ra da,rfl,rfl,_,_,m2,fB b.r rb db,rfl,rfl,_,aav w2 (ha.kz G.kz) (hb.kz G.kz) la,?_⟩;rintro _ w3 ⟨rfl,g3⟩;have m1:=g3.get m1 nofun;have m2:=g3.get m2 nofun;have G:=G.trans g3;unfold vw;generalize sU a.r b.r=r;cases r
 .exact⟨rfl,G⟩
 refine⟨_,_,m1,_,rfl,_,_,m2,_,rfl,ah (λc=>?_) (λc=>?_)⟩
 .have c1:(a.kind==b.kind)=true:=eq_of_beq c
  refine⟨_,_,m1,a.q.cells,rfl,rfl,_,_,m2,b.q.cells,rfl,rfl,ah (λc=>?_) (λc=>?_)⟩
  .have c2:rW a.q b.q=true:=eq_of_beq c
   refine⟨_,_,m1,_,rfl,_,_,m2,_,rfl,ah (λc=>?_) (λc=>?_)⟩
   .have c3:(a.peer==b.peer)=true:=eq_of_beq c
    exact⟨_,_,m1,_,rfl,_,_,m2,_,rfl,vb (by rw[c1,c2,c3];rfl),G⟩
   .have c3:(a.peer==b.peer)=false:=by simpa using c
    exact⟨vb (by rw[c1,c2,c3];rfl),G⟩
  .have c2:rW a.q b.q=false:=by cases h:rW a.q b.q;rfl;unfold rW at h;rw[h]at c;cases c
   exact⟨vb (by rw[c1,c2];rfl),G⟩
 .have c1:(a.kind==b.kind)=false:=by simpa using c
  exact⟨vb (by rw[c1];rfl),G⟩
structure Sit.aK(A:aI)(S:Sit):Prop where
 cl:S.C.aK A
 n:0<S.C.n
 sz:0<S.C.sz
 be:S.bz.length=S.C.n
 le:S.len.length=S.C.n*S.C.sz
 fe:S.fell.length=S.C.n*S.C.sz
 ak:S.asks.length<=S.C.q.length
def Sit.dx(S:Sit)(i:Nat):Sit:=if(S.C.F (bf S.C i) (bQ S.C i)).log.length>(S.bz.getD (bf S.C i) []).length then{ S with bz:=S.bz.set (bf S.C i) (S.C.F (bf S.C i) (bQ S.C i)).log}else S
def Sit.dz(S:Sit)(i:Nat):Sit×Bool :=
 if oW vw (S.C.F (bf S.C i) (bQ S.C i)).log (S.bz.getD (bf S.C i) [])=false then(S,false)
 else if(S.C.F (bf S.C i) (bQ S.C i)).log.length<S.len.getD i 0/\S.fell.getD i true=false then(S.dx i,false)
 else({S.dx i with len:=S.len.set i (S.C.F (bf S.C i) (bQ S.C i)).log.length,fell:=S.fell.set i false},true)
def Sit.dZ(S:Sit):Nat->Sit×Bool
 |0=>(S,true)
 |i+1=>match S.dZ i with
  |(T,true)=>T.dz i
  |(T,false)=>(T,false)
def Sit.look(S:Sit):Sit×Bool:=S.dZ (S.C.n*S.C.sz)
theorem Sit.DN(S:Sit)(i:Nat):(S.dx i).C=S.C/\(S.dx i).len=S.len/\(S.dx i).fell=S.fell/\(S.dx i).asks=S.asks/\(S.dx i).bz.length=S.bz.length:=by
 unfold Sit.dx;split
 .exact⟨rfl,rfl,rfl,rfl,by simp⟩
 .exact⟨rfl,rfl,rfl,rfl,rfl⟩
theorem Sit.Xy(S:Sit)(i:Nat):(S.dx i).next=S.next/\(S.dx i).bad=S.bad:=by
 unfold Sit.dx;split<;>exact⟨rfl,rfl⟩
theorem Sit.aK.dz{A:aI}{S:Sit}(h:S.aK A)(i:Nat):(S.dz i).1.aK A/\(S.dz i).1.C=S.C:=by
 obtain⟨e1,e2,e3,e4,e5⟩:=S.DN i;unfold Sit.dz;split
 .exact⟨h,rfl⟩
 .split
  .exact⟨⟨by rw[e1];exact h.cl,by rw[e1];exact h.n,by rw[e1];exact h.sz,by rw[e5,e1];exact h.be,by rw[e2,e1];exact h.le,by rw[e3,e1];exact h.fe,by rw[e4,e1];exact h.ak⟩,e1⟩
  .refine⟨⟨by show aJ.aK A (S.dx i).C;rw[e1];exact h.cl,by show 0<(S.dx i).C.n;rw[e1];exact h.n,by show 0<(S.dx i).C.sz;rw[e1];exact h.sz,by show(S.dx i).bz.length=(S.dx i).C.n;rw[e5,e1];exact h.be,?_,?_,by show(S.dx i).asks.length<=(S.dx i).C.q.length;rw[e4,e1];exact h.ak⟩,e1⟩
   .show(S.len.set i _).length=(S.dx i).C.n*(S.dx i).C.sz
    rw[Jgd,e1];exact h.le
   .show(S.fell.set i _).length=(S.dx i).C.n*(S.dx i).C.sz
    rw[Jgd,e1];exact h.fe
theorem Sit.aK.dZ{A:aI}{S:Sit}(h:S.aK A):∀i,(S.dZ i).1.aK A/\(S.dZ i).1.C=S.C
 |0=>⟨h,rfl⟩
 |i+1=>by
  have ih:=Sit.aK.dZ h i;unfold Sit.dZ;generalize S.dZ i=p at ih;obtain⟨T,b⟩:=p;cases b
  .exact ih
  .exact⟨(ih.1.dz i).1,(ih.1.dz i).2.trans ih.2⟩
theorem Sit.Ho{S T:Sit}:∀{i:Nat} (m:Nat),S.dZ i=(T,false)->S.dZ (i+m)=(T,false)
 |_,0,h=>h
 |i,m+1,h=>by
  have:=Sit.Ho m h;show(match S.dZ (i+m)with|(T,true)=>T.dz (i+m)|(T,false)=>(T,false))=_;rw[this]
theorem jL.el{w:World}{a:Option Addr}{n c:Nat}{l:List MC}(h:jL w (.slice a n c) l){k:Nat}{x:MC}(hc:l[k]?=some x):∃gb cur rv dv,a=some ⟨gb,0,none⟩/\n=l.length/\w.heap[gb]?=some (.cells cur 80)/\aG cur.toList (k*17) 17=dF x rv dv/\aS w x.r rv dv:=by
 obtain⟨vs,v1,v2,v3⟩:=h;have hk:k<l.length:=(Jcn.1 hc).1;obtain⟨p,hp⟩:∃p,vs[k]?=some p:=⟨vs[k],by simp[v1,hk]⟩;obtain⟨gb,cap,cur,ev,aR,htk,hsz,hcap⟩:=j5 v2 (by omega);injection ev with ev en ec;refine⟨gb,cur,p.1,p.2,ev,en,aR,?_,v3 k x p hc hp⟩;rw[<-Rm hc hp,show lf l vs=_ from htk.symm];unfold aG;rw[Jfj,Jd5,Jd7 (by omega)]
theorem qR{w:World}{e:TypeId}{n:Nat}{v:Value}{xs:List Value}(h:w.ownsRow 0 e 1 v n xs){k:Nat}{x:Value}(hx:xs[k]?=some x):∃gb cap cur,v=.slice (Pty gb) n cap/\w.heap[gb]?=some (.cells cur e)/\cur.toList[k]?=some x/\k<n/\k<cur.toList.length:=by
 have hl:xs.length=n*1:=h.1;have hk:k<xs.length:=(Jcn.1 hx).1;obtain⟨gb,cap,cur,ev,aR,htk,hsz,hcap⟩:=j5 h (by omega);refine⟨gb,cap,cur,ev,aR,?_,by omega,by rw[Array.length_toList];omega⟩;rw[<-htk,Jc5,Jb6 (by omega)]at hx;exact hx
end
