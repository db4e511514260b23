/- A site's longest logs are laid anew; made. -/
import Derived.Test.YtignemioillaiaaGreatG43
namespace Go.Proofs.YtignemioillaiaaGreat
set_option maxHeartbeats 8000000
set_option maxRecDepth 100000
section
open Go Go.Conc
section
variable{Λ:bU}{w w0 w1 w2:World}{bs bc:Nat}{S:Sit}{a:yj}{gv sv:Value}{B:Nat->Nat->Nat}{ad:Nat->Nat->fO}
theorem ig.be'(h:ig Λ bs bc S a gv sv B ad w){v:Value}{bf:List (List MC)}{bv:List Value}(g0:GB none w w0)(g1:GB a.bq.ownBlock w0 w1)(ho:w1.ownsRow 0 22 1 v bf.length bv)(hv:∀x,v.ownBlock=some x->a.bq.ownBlock=some x\/w.heap.size<=x)(hl:bv.length=bf.length)(m2:w2.heap[bs]? = some (.cells (fJ bc { S with bf:=bf } { a with bq:=v,bv:=bv }).toArray 88))(g2:GB (some bs) w1 w2)
 (hbi:∀(g:Nat) (l:List MC) (u:Value),bf[g]? = some l->bv[g]? = some u->(S.bf[g]? = some l/\a.bv[g]? = some u)\/(jA w0 u l/\∀x,u.ownBlock=some x->w.heap.size<=x)):ig Λ bs bc { S with bf:=bf } { a with bq:=v,bv:=bv } gv sv B ad w2/\Kz w w2:=by
 have own:∀x,a.bq.ownBlock=some x->∃c,w.heap[x]? = some (.cells c 22):=λx hx=>ay h.si.be hx
 have Kj:∀x,x<w0.heap.size->some x≠a.bq.ownBlock->x≠bs->w2.heap[x]? = w0.heap[x]?:=λx hx h1 h2=>(g2.block x (Nat.lt_of_lt_of_le hx g1.size) λe=>h2 (Option.some.inj e)).trans (g1.block x hx h1)
 have nb:∀{x:Nat} {c:Array Value} {t:TypeId},w.heap[x]? = some (.cells c t)->t≠88->t≠22->w2.heap[x]? = w.heap[x]?:=λ{x c t} hx ht1 ht2=>(Kj x (ae (g0.get hx nofun)) (λe=>by obtain⟨c',hc⟩:=own x e.symm;exact dw hx hc ht2 rfl) (dw hx h.si.mem ht1)).trans (g0.block x (ae hx) nofun)
 have k:Kz w w2:=λt ht b c hb=>(nb hb (λe=>by subst e;revert ht;decide) (λe=>by subst e;revert ht;decide)).trans hb
 have k0:Kz w0 w2:=λt ht b c hb=>(Kj b (ae hb) (λe=>by obtain⟨c',hc⟩:=own b e.symm;exact dw hb (g0.get hc nofun) (λe=>by subst e;revert ht;decide) rfl) (dw hb (g0.get h.si.mem nofun) λe=>by subst e;revert ht;decide)).trans hb
 have hs:oH w2 bs bc { S with bf:=bf } { a with bq:=v,bv:=bv }:=by
  refine⟨m2,az h.si.ak λx hx=>?_,az ho λx hx=>?_,hl,λg l u h1 h2=>?_,az h.si.le λx hx=>?_,az h.si.fe λx hx=>?_⟩
  ·obtain⟨c,hc⟩:=ay h.si.ak hx;exact nb hc (by decide) (by decide)
  ·obtain⟨c,hc⟩:=ay ho hx
   refine g2.block x (ae hc) λe=>?_
   cases e
   rcases hv bs hx with q|q
   ·obtain⟨c',hc'⟩:=own bs q
    exact dw hc' h.si.mem (by decide) rfl
   ·have:=ae h.si.mem;omega
  ·rcases hbi g l u h1 h2 with⟨q1,q2⟩|⟨q1,q2⟩
   ·exact(h.si.bi g l u q1 q2).kz k λx hx=>by obtain⟨c,hc⟩:=(h.si.bi g l u q1 q2).obj hx;exact nb hc (by decide) (by decide)
   ·refine q1.kz k0 λx hx=>?_
    obtain⟨c,hc⟩:=q1.obj hx;have:=q2 x hx;refine Kj x (ae hc) (λe=>?_) (λe=>?_)
    ·obtain⟨c',hc'⟩:=own x e.symm;have:=ae hc';omega
    ·subst e;have:=ae h.si.mem;omega
  ·obtain⟨c,hc⟩:=ay h.si.le hx;exact nb hc (by decide) (by decide)
  ·obtain⟨c,hc⟩:=ay h.si.fe hx;exact nb hc (by decide) (by decide)
 refine h.gs (((GS.of g0 nofun).then g1 λx e=>.inr (.inr (.inl e))).then g2 λx e=>.inl (Option.some.inj e).symm) hs rfl λx hx=>?_
 rcases hx with e|e|e|e|e|⟨u,hu,e⟩
 ·exact .inl (.inl e)
 ·exact .inl (.inr (.inl e))
 ·exact(hv x e).imp (λe=>.inr (.inr (.inl e))) id
 ·exact .inl (.inr (.inr (.inr (.inl e))))
 ·exact .inl (.inr (.inr (.inr (.inr (.inl e)))))
 ·obtain⟨g,hg⟩:=List.mem_iff_getElem?.1 hu
  have hlt:g<bf.length:=by rw[<-hl];exact(List.getElem?_eq_some_iff.1 hg).1
  rcases hbi g bf[g] u (by simp[hlt]) hg with⟨_,q2⟩|⟨_,q2⟩
  ·exact .inl (.inr (.inr (.inr (.inr (.inr ⟨u,List.mem_of_getElem? q2,e⟩)))))
  ·exact .inr (q2 x e)
end
def Sit.new(A:aR)(n sz:Nat):Sit:=⟨aM.new A n sz,[],List.replicate n [],List.replicate (n*sz) 0,List.replicate (n*sz) false,0,false⟩
section
variable{A:aR}(HA:bG A)
include HA
theorem RS(w:World)(n f:Nat)(hn:1<=n/\n<=4)(hf:f<=2):ag Tryz.prog 123 #[.int .i64 n,.int .i64 (2*f+1:Nat)] w (λv w'=>∃bs,v=.tuple #[Ptt bs,.bool true]/\w.heap.size<=bs/\cZ (fA w) bs (Sit.new A n (2*f+1)) w'/\Kz w w'):=by
 refine aj ah mixed Tryz.func123 rfl rfl ?_;refine λw1 bs m1 g1 l1=>?_
 have hq:IntKind.i64.wrap (((2*f+1:Nat):Int).tdiv 2)=((f:Nat):Int):=by
  rw[Int.tdiv_eq_ediv_of_nonneg (Int.natCast_nonneg _),Go.IntWalk.i64_in _ ⟨by omega,by omega⟩];omega
 have hnew:=abP HA w1 n f hn hf;refine⟨by decide,?_⟩;have acb:∀z:Int,z=(f:Int)->ag Tryz.prog 18 #[.int .i64 n,.int .i64 z] w1 _:=λz hz=>by subst hz;exact hnew
 refine⟨_,acb _ hq,?_⟩;rintro _ w2 ⟨bc,rfl,Z8,hC,k2⟩;obtain⟨gv,sv,B,ad,hC⟩:=hC;have m12:=(hC.pr bs _ m1).1;have nbs:=(hC.pr bs _ m1).2;refine⟨_,_,_,m12,rfl,rfl,λw3 m3 g3=>?_⟩;have k3:Kz w2 w3:=g3.Cy λc t ht hc=>by rw[m12]at hc;injection hc with hc;injection hc with _ hc;subst hc;revert ht;decide
 have h3:ig (fA w) bs bc ⟨aM.new A n (2*f+1),[],[],[],[],0,false⟩ ⟨.slice none 0 0,.slice none 0 0,.slice none 0 0,.slice none 0 0,[]⟩ gv sv B ad w3:=by
  have so:∀x,xy bs ⟨.slice none 0 0,.slice none 0 0,.slice none 0 0,.slice none 0 0,[]⟩ x->x=bs:=λx hx=>by
   rcases hx with e|e|e|e|e|⟨v,hv,e⟩
   ·exact e
   ·cases e
   ·cases e
   ·cases e
   ·cases e
   ·cases hv
  have co:∀x,mU (aM.new A n (2*f+1)).n (aM.new A n (2*f+1)).sz B bc sv ad x->x≠bs/\x<w2.heap.size:=λx hx=>⟨λe=>nbs (e▸hx),by
   rcases hx with rfl|hx|⟨g,i,hg,hi,hx⟩
   ·exact ae hC.ci.eY
   ·obtain⟨c,hc⟩:=ay hC.ci.row hx;exact ae hc
   ·exact(hC.ci.rep g i hg hi).lt hx⟩
  refine⟨⟨m3,dY _ _ _,dY _ _ _,rfl,λg l v h=>(by simp at h),dY _ _ _,dY _ _ _⟩,hC.ci.keep k3 (λx hx=>g3.block x (co x hx).2 λe=>(co x hx).1 (Option.some.inj e)) (λx c t ht hx=>g3.get hx λe=>?_),λx hx=>(by rw[so x hx];exact nbs),λb o hb=>?_,g3.os.trans (hC.os.trans g1.os),g3.out.trans (hC.out.trans g1.out)⟩
  ·cases e
   rw[m12]at hx;injection hx with hx;injection hx with _ hx;subst hx;revert ht;decide
  ·have hb:w.heap[b]? = some o:=hb
   have hlt:=ae hb;have lbs:w.heap.size<=bs:=l1;obtain⟨p1,p2⟩:=hC.pr b o (g1.get hb nofun);exact⟨g3.get p1 λe=>(by cases e;omega),λe=>(by have:=so b e;omega),p2⟩
 have K3:Kz w w3:=(g1.kz.trans k2).trans k3;refine⟨λm s wk=>∃(k:Nat) (a:yj),m=n - k/\k<=n/\s=[(6,Ptt bs),(9,.int .i64 k)]/\ig (fA w) bs bc ⟨aM.new A n (2*f+1),[],List.replicate k [],[],[],0,false⟩ a gv sv B ad wk/\Kz w wk,⟨_,_,⟨0,_,rfl,Nat.zero_le _,rfl,h3,K3⟩,rfl,rfl,trivial⟩,?_⟩;rintro m s wk ⟨k,a,rfl,hk,rfl,hS,K⟩;refine⟨_,_,hS.si.mem,_,rfl,au (λc=>?_) (λc=>?_)⟩
 ·have c1:k<n:=by have:=of_decide_eq_true c;simp only[aM.new]at this;omega
  obtain⟨ba,jW,hbq⟩:=af hS.si.be;have hbe:=hS.si.be;rw[hbq]at hbe;have hmem:=hS.si.mem;refine⟨_,_,hmem,.slice ba (List.replicate k ([]:List MC)).length jW,by show(fJ _ _ _)[4]? = _;unfold fJ;rw[hbq];rfl,λw4 b4 m4 g4 l4=>?_⟩;have aaR:=az hbe (w1:=w4) λx hx=>by obtain⟨c,hc⟩:=ay hbe hx;exact g4.block x (ae hc) nofun
  refine⟨_,[.slice none 0 0],aaR,⟨_,_,m4,rfl,rfl,rfl⟩,by simp;omega,λv' w5 EN g5 n5=>?_⟩;have mm:w5.heap[bs]? = _:=g5.get (g4.get hmem nofun) λe=>by
   obtain⟨c,hc⟩:=ay aaR e.symm;exact dw (g4.get hmem nofun) hc (by decide) rfl
  obtain⟨va,vc,rfl⟩:=af EN;refine⟨_,_,_,mm,rfl,rfl,λw6 m6 g6=>?_⟩;have e1:(List.replicate (k+1) ([]:List MC)).length=(List.replicate k ([]:List MC)).length+1:=by simp
  obtain⟨h6,k6⟩:=hS.be' (bf:=List.replicate (k+1) []) g4 (by rw[hbq];exact g5) (by rw[e1];exact EN) (λx hx=>by rw[hbq];rcases n5 x hx with e|e;exact .inl e;exact .inr (Nat.le_trans g4.size e)) (by rw[List.length_append,hS.si.bl];simp) m6 g6 (λg l u q1 q2=>by
   have hg:g<k+1:=by have:=(List.getElem?_eq_some_iff.1 q1).1;simpa using this
   have hbl:a.bv.length=k:=by rw[hS.si.bl];simp
   by_cases e:g<k
   ·refine .inl ⟨?_,?_⟩
    ·rw[List.getElem?_replicate,if_pos hg]at q1;show(List.replicate k _)[g]? = _;rw[List.getElem?_replicate,if_pos e];exact q1
    ·rw[List.getElem?_append_left (by omega)]at q2;exact q2
   ·have e:g=k:=by omega
    subst e;rw[List.getElem?_append_right (by omega),hbl,Nat.sub_self]at q2;cases q2
    rw[List.getElem?_replicate,if_pos hg]at q1;cases q1
    exact .inr ⟨⟨[],rfl,dY _ _ _,λi c p h=>by simp at h⟩,nofun⟩)
  exact⟨by omega,_,_,⟨k+1,_,rfl,by omega,rfl,h6,K.trans k6⟩,⟨rfl,rfl,trivial⟩,by omega⟩
 ·have c1:k=n:=by have:=of_decide_eq_false c;simp only[aM.new]at this;omega
  subst c1;have hle:k*(2*f+1)<=20:=Nat.le_trans (Nat.mul_le_mul hn.2 (show 2*f+1<=5 by omega)) (by decide);have hcast:(k:Int)*((2*f+1:Nat):Int)=((k*(2*f+1):Nat):Int):=(Int.natCast_mul _ _).symm;refine⟨λm s wk=>∃(j:Nat) (a:yj),m=k*(2*f+1) - j/\j<=k*(2*f+1)/\s=[(6,Ptt bs),(10,.int .i64 j)]/\ig (fA w) bs bc ⟨aM.new A k (2*f+1),[],List.replicate k [],List.replicate j 0,List.replicate j false,0,false⟩ a gv sv B ad wk/\Kz w wk,⟨_,_,⟨0,_,rfl,Nat.zero_le _,rfl,hS,K⟩,rfl,rfl,trivial⟩,?_⟩;clear hS K;rintro m s wk ⟨j,a,rfl,hj,rfl,hS,K⟩;have hmem:=hS.si.mem;have hc2:((aM.new A k (2*f+1)).n:Int)*((aM.new A k (2*f+1)).sz:Int)=((k*(2*f+1):Nat):Int):=hcast;refine⟨by kernel_rfl,_,_,hmem,_,rfl,_,_,hmem,_,rfl,⟨by show _<=((aM.new A k (2*f+1)).n:Int)*((aM.new A k (2*f+1)).sz:Int);omega,by show((aM.new A k (2*f+1)).n:Int)*((aM.new A k (2*f+1)).sz:Int)<=_;omega⟩,au (λd=>?_) (λd=>?_)⟩
  ·have d1:j<k*(2*f+1):=by have:=of_decide_eq_true d;rw[show(_:Int)*_=_ from hc2]at this;omega
   obtain⟨la,jX,hlq⟩:=af hS.si.le;have hle1:=hS.si.le;rw[hlq]at hle1;refine⟨_,_,hmem,.slice la (List.replicate j 0).length jX,by show(fJ _ _ _)[5]? = _;unfold fJ;rw[hlq];rfl,λw4 b4 m4 g4 l4=>?_⟩;have aaS:=az hle1 (w1:=w4) λx hx=>by obtain⟨c,hc⟩:=ay hle1 hx;exact g4.block x (ae hc) nofun
   refine⟨_,[.int .i64 0],aaS,⟨_,_,m4,rfl,rfl,rfl⟩,by simp;omega,λv' w5 EN g5 n5=>?_⟩;have mm:w5.heap[bs]? = _:=g5.get (g4.get hmem nofun) λe=>by
    obtain⟨c,hc⟩:=ay aaS e.symm;exact dw (g4.get hmem nofun) hc (by decide) rfl
   obtain⟨va,vc,rfl⟩:=af EN;refine⟨_,_,_,mm,rfl,rfl,λw6 m6 g6=>?_⟩;have e1:(List.replicate (j+1) 0).length=(List.replicate j 0).length+1:=by simp
   obtain⟨h6,k6⟩:=(hS.ax g4).le' (l:=List.replicate (j+1) 0) (by rw[hlq];exact g5) (by rw[e1,List.replicate_succ',List.map_append];exact EN) (λx hx=>by rw[hlq];exact n5 x hx) m6 g6;have Pm:=h6.si.mem;obtain⟨fa,aaT,Wv⟩:=af h6.si.fe;have U6:=h6.si.fe;rw[Wv]at U6;refine⟨_,_,Pm,.slice fa (List.replicate j false).length aaT,by show(fJ _ _ _)[6]? = _;unfold fJ;rw[Wv];rfl,λw7 b7 m7 g7 l7=>?_⟩;have aaU:=az U6 (w1:=w7) λx hx=>by obtain⟨c,hc⟩:=ay U6 hx;exact g7.block x (ae hc) nofun
   refine⟨_,[.bool false],aaU,⟨_,_,m7,rfl,rfl,rfl⟩,by simp;omega,λv8 w8 ho8 g8 n8=>?_⟩;have mm8:w8.heap[bs]? = _:=g8.get (g7.get Pm nofun) λe=>by
    obtain⟨c,hc⟩:=ay aaU e.symm;exact dw (g7.get Pm nofun) hc (by decide) rfl
   obtain⟨va8,vc8,rfl⟩:=af ho8;refine⟨_,_,_,mm8,rfl,rfl,λw9 m9 g9=>?_⟩;have e2:(List.replicate (j+1) false).length=(List.replicate j false).length+1:=by simp
   obtain⟨h9,k9⟩:=(h6.ax g7).fe' (l:=List.replicate (j+1) false) (by rw[Wv];exact g8) (by rw[e2,List.replicate_succ',List.map_append];exact ho8) (λx hx=>by rw[Wv];exact n8 x hx) m9 g9;exact⟨by omega,_,_,⟨j+1,_,rfl,by omega,rfl,h9,(((K.trans g4.kz).trans k6).trans g7.kz).trans k9⟩,⟨rfl,rfl,trivial⟩,by omega⟩
  ·have d1:j=k*(2*f+1):=by have:=of_decide_eq_false d;rw[show(_:Int)*_=_ from hc2]at this;omega
   subst d1;exact⟨bs,rfl,l1,⟨_,_,_,_,_,_,hS⟩,K⟩
end
def nW(q:bQ):MM:={ aO 1 with q:=q }
structure sS(A:aR):Prop where
 mask:∀(w:World) (q:bQ),A.gc (fH q)->ag Tryz.prog 158 #[.agg (dS (nW q) (.slice none 0 0) (.slice none 0 0) (.slice none 0 0) (.slice none 0 0) (.slice none 0 0)).toArray] w (λv w'=>v=.tuple #[.string (A.enc (nW q)),.int .i64 0]/\GB none w w')
 small:∀q,A.gc (fH q)->(A.enc (nW q)).size<=1000
def Sit.sends(A:aR)(S:Sit)(q:bQ)(g i:Nat):Sit:={ S with C:=S.C.send g i (A.enc (nW q)),asks:=S.asks++[⟨q,g,S.C.q.length⟩] }
theorem aM.pz(C:aM)(g i:Nat)(d:ByteArray):(C.send g i d).n=C.n/\(C.send g i d).sz=C.sz:=by unfold aM.send;split<;>exact⟨rfl,rfl⟩
section
variable{A:aR}(HL:sS A){Λ:bU}{w:World}{bs:Nat}{S:Sit}
include HL
theorem Nr(h:cZ Λ bs S w)(hF:S.C.aK A){q:bQ}(hq:A.gc (fH q)){g i:Nat}(hg:g<S.C.n)(hi:i<S.C.sz)(hb:S.asks.length<=1000000):ag Tryz.prog 125 #[Ptt bs,.agg q.cells.toArray,.agg #[.int .u8 g,.int .u8 i]] w (λv w'=>v=.tuple #[]/\cZ Λ bs (S.sends A q g i) w'/\Kz w w'):=by
 obtain⟨bc,a,gv,sv,B,ad,h⟩:=h;have hn:=hF.n;have hz:=hF.sz;have hlen:=hF.len;refine aj ah mixed Tryz.func125 rfl rfl ?_;refine λw1 b1 m1 g1 l1 w2 b2 m2 g2 l2=>?_
 refine⟨_,_,g2.get m1 nofun,q.cells,rfl,rfl,_,HL.mask w2 q hq,?_⟩;rintro _ w3 ⟨rfl,g3⟩;have G3:=(g1.trans g2).trans g3;have h3:=h.ax G3;have m13:=(g2.trans g3).get m1 nofun;have m23:=g3.get m2 nofun;have aaV:w3.heap[b1]? = some (.cells q.cells.toArray 50):=m13;have U7:w3.heap[b2]? = some (.cells #[.int .u8 g,.int .u8 i] 66):=m23;have nc:∀{x:Nat} {c:Array Value} {t:TypeId},w3.heap[x]? = some (.cells c t)->w.heap.size<=x->¬mU S.C.n S.C.sz B bc sv ad x:=λ{x c t} hx hl hC=>by
  rcases hC with e|e|⟨g',i',p1,p2,p3⟩
  ·subst e;have:=ae h.ci.eY;omega
  ·obtain⟨c',hc'⟩:=ay h.ci.row e;have:=ae hc';omega
  ·have:=(h.ci.rep g' i' p1 p2).lt p3;omega
 have lb1:w.heap.size<=b1:=l1;have lb2:w.heap.size<=b2:=Nat.le_trans g1.size l2;refine⟨by kernel_rfl,_,_,h3.si.mem,_,rfl,_,_,U7,[.int .u8 g,.int .u8 i],rfl,rfl,_,QY h3.enter hF.n hF.sz g i (by omega) (by omega) (A.enc (nW q)),?_⟩;rintro _ w4 ⟨rfl,hC4,k4⟩;have pr4:∀{x:Nat} {o:Obj},w3.heap[x]? = some o->¬mU S.C.n S.C.sz B bc sv ad x->w4.heap[x]? = some o:=λ{x o} hx hno=>by
  obtain⟨_,_,_,_,h'⟩:=hC4;exact(h'.pr x o (by unfold zt;dsimp only;rw[if_neg hno];exact hx)).1
 have m14:=pr4 aaV (nc aaV lb1);have m24:=pr4 U7 (nc U7 lb2);have sm:=HL.small q hq;rw[if_pos ⟨⟨hg,hi⟩,by omega⟩,if_pos ⟨hg,hi⟩,if_neg (by omega)];obtain⟨en,ez⟩:=S.C.pz g i (A.enc (nW q));have h4:=h3.leave en ez hC4 k4;obtain⟨bc',a',Q7,bX,B',jF,h4⟩:=h4;obtain⟨C,asks,bf,len,fell,next,bad⟩:=S;cases bad
 all_goals
  have hmem:=h4.si.mem;refine⟨_,_,hmem,_,rfl,_,_,_,hmem,rfl,rfl,λw5 m5 g5=>?_⟩;obtain⟨h5,k5⟩:=h4.num (k:=next) m5 g5;have m15:w5.heap[b1]? = _:=g5.get m14 λe=>dw m14 hmem (by decide) (Option.some.inj e)
  have uz:w5.heap[b2]? = _:=g5.get m24 λe=>dw m24 hmem (by decide) (Option.some.inj e)
  have sU:=h5.si.mem;obtain⟨aa,U9,haq⟩:=af h5.si.ak;have hak:=h5.si.ak;rw[haq]at hak;refine⟨by kernel_rfl,_,_,sU,.slice aa asks.length U9,by show(fJ _ _ _)[3]? = _;unfold fJ;rw[haq];rfl,_,_,m15,q.cells,rfl,rfl,_,_,uz,_,rfl,λw6 b6 m6 g6 l6=>?_⟩;have Pn:=az hak (w1:=w6) λx hx=>by obtain⟨c,hc⟩:=ay hak hx;exact g6.block x (ae hc) nofun
  refine⟨⟨g6.get uz nofun,g6.get m15 nofun,g6.get sU nofun,trivial⟩,?_⟩;refine⟨_,(Ask.mk q g C.q.length).cells,Pn,⟨_,_,m6,rfl,rfl,rfl⟩,by show asks.length+1<=_;simp only at hb;omega,λv' w7 nY g7 n7=>?_⟩;have mm:w7.heap[bs]? = _:=g7.get (g6.get sU nofun) λe=>by
   obtain⟨c,hc⟩:=ay Pn e.symm;exact dw (g6.get sU nofun) hc (by decide) rfl
  obtain⟨va,vc,rfl⟩:=af nY;have m57:w7.heap[b1]? = _:=g7.get (g6.get m15 nofun) λe=>by
   obtain⟨c,hc⟩:=ay Pn e.symm;exact dw (g6.get m15 nofun) hc (by decide) rfl
  have Ie:w7.heap[b2]? = _:=g7.get (g6.get uz nofun) λe=>by
   obtain⟨c,hc⟩:=ay Pn e.symm;exact dw (g6.get uz nofun) hc (by decide) rfl
  refine⟨_,_,_,mm,rfl,rfl,λw8 m8 g8=>?_⟩;obtain⟨h8,k8⟩:=(h5.ax g6).ak' (l:=asks++[⟨q,g,C.q.length⟩]) (by rw[haq];exact g7) (by rw[List.length_append,List.map_append,List.flatten_append];exact nY) (λx hx=>by rw[haq];exact n7 x hx) m8 g8;exact⟨rfl,⟨_,_,_,_,_,_,h8⟩,(((G3.kz.trans k4).trans k5).trans g6.kz).trans k8⟩
end
def Sit.one(A:aR)(S:Sit):Sit:={ S with C:=S.C.eG A S.next,next:=S.next+1 }
def Sit.all(A:aR):Nat->Sit->Sit
 |0,S=>S
 |n+1,S=>if S.next<S.C.q.length then Sit.all A n (S.one A)else S
theorem Sit.zw{A:aR}{S:Sit}(h:¬S.next<S.C.q.length):∀n,S.all A n=S
 |0=>rfl
 |n+1=>by unfold Sit.all;rw[if_neg h]
theorem Sit.KI{A:aR}{S:Sit}(h:S.next<S.C.q.length)(n:Nat):S.all A (n+1)=(S.one A).all A n:=by
 show(if S.next<S.C.q.length then Sit.all A n (S.one A)else S)=_;rw[if_pos h]
theorem Sit.Gm(A:aR):∀(i m:Nat) (S:Sit),S.all A (i+m)=(S.all A i).all A m
 |0,m,S=>by rw[Nat.zero_add];rfl
 |i+1,m,S=>by
  rw[Nat.add_right_comm];by_cases h:S.next<S.C.q.length
  ·rw[Sit.KI h,Sit.KI h];exact Sit.Gm A i m (S.one A)
  ·rw[Sit.zw h,Sit.zw h,Sit.zw h]
theorem aM.jd(A:aR)(C:aM)(k:Int):(C.eG A k).n=C.n/\(C.eG A k).sz=C.sz:=by
 unfold aM.eG;split
 ·unfold aM.jH
  split
  ·exact⟨rfl,rfl⟩
  ·split<;>exact⟨rfl,rfl⟩
 ·exact⟨rfl,rfl⟩
theorem aM.nN(A:aR)(C:aM)(g i:Nat):(C.tick A g i).n=C.n/\(C.tick A g i).sz=C.sz:=by unfold aM.tick;split<;>exact⟨rfl,rfl⟩
theorem aM.uQ(A:aR)(C:aM)(g i:Nat):(C.dB A g i).n=C.n/\(C.dB A g i).sz=C.sz:=by unfold aM.dB;split<;>exact⟨rfl,rfl⟩
section
variable{A:aR}(HA:bG A)(HN:dL A){Λ:bU}{w:World}{bs:Nat}{S:Sit}
include HA HN
theorem Sit.KJ:∀(n:Nat) {S:Sit},S.C.aK A->(S.all A n).C.aK A
 |0,_,h=>h
 |n+1,S,h=>by
  unfold Sit.all;split
  ·exact Sit.KJ n (S:=S.one A) (h.eG HA HN (S.next:Int))
  ·exact h
theorem Ww(h:cZ Λ bs S w)(hF:S.C.aK A)(most:Nat)(hm:most<=1000000):gH Tryz.prog 127 #[Ptt bs,.int .i64 most] w (λv w'=>v=.bool true/\cZ Λ bs (S.all A most) w'/\Kz w w'):=by
 refine sK ah mixed Tryz.func127 rfl rfl ?_;refine⟨λm s wk=>∃i:Nat,m=most - i/\i<=most/\s=[(0,Ptt bs),(1,.int .i64 most),(5,.int .i64 i)]/\cZ Λ bs (S.all A i) wk/\Kz w wk,⟨_,_,⟨0,rfl,Nat.zero_le _,rfl,h,Kz.refl _⟩,rfl,rfl,rfl,trivial⟩,?_⟩;rintro m s wk ⟨i,rfl,hi,rfl,hS,K⟩;have Ns:=Sit.KJ HA HN i hF;have hadd:=Sit.Gm A i (most - i) S;rw[Nat.add_sub_cancel' hi]at hadd;have hone:(S.all A i).next<(S.all A i).C.q.length->S.all A (i+1)=(S.all A i).one A:=λh=>by
  rw[Sit.Gm,Sit.KI h];rfl
 generalize hT:S.all A i=T at hS Ns hadd hone;obtain⟨bc,a,gv,sv,B,ad,hS⟩:=hS;have hlen:=Ns.len;have hmem:=hS.si.mem;refine⟨by kernel_rfl,?_⟩;refine au (λc=>?_) (λc=>?_)
 ·have c1:i<most:=by simp at c;omega
  refine⟨_,_,hmem,_,rfl,_,_,hmem,_,rfl,_,(q8 hS.enter hlen 0 (by decide) (by decide)).x,?_⟩;rintro lv w1 ⟨o1,g1,_⟩;have e0:T.C.q.length - min (0:Int).toNat T.C.q.length=T.C.q.length:=by simp
  rw[e0]at o1;obtain⟨la,lc,rfl⟩:=af o1;have hS1:=hS.ax g1;have IU:=hS1.si.mem;refine⟨⟨IU,IU,trivial⟩,?_⟩;refine au (λd=>?_) (λd=>?_)
  ·have d1:T.next<T.C.q.length:=by have:=of_decide_eq_true d;omega
   refine⟨by kernel_rfl,_,_,IU,_,rfl,_,_,IU,_,rfl,_,Bo HA HN hS1.enter Ns (T.next:Int),?_⟩;rintro _ w2 ⟨rfl,hC2,k2⟩;rw[if_pos ⟨by omega,by omega⟩];obtain⟨en,ez⟩:=aM.jd A T.C (T.next:Int);obtain⟨bc',a',Q7,bX,B',jF,h2⟩:=hS1.leave en ez hC2 k2;have Wx:=h2.si.mem;refine⟨_,_,Wx,_,rfl,⟨by show _<=((T.next:Nat):Int)+1;omega,by show((T.next:Nat):Int)+1<=_;omega⟩,_,_,_,Wx,rfl,rfl,λw3 m3 g3=>?_⟩;obtain⟨h3,k3⟩:=h2.num (k:=T.next+1) (b:=T.bad) m3 g3;refine⟨by omega,_,_,⟨i+1,rfl,by omega,rfl,?_,((K.trans g1.kz).trans k2).trans k3⟩,⟨rfl,rfl,rfl,trivial⟩,by omega⟩;rw[hone d1];exact⟨_,_,_,_,_,_,h3⟩
  ·have d1:¬T.next<T.C.q.length:=by have:=of_decide_eq_false d;omega
   refine⟨rfl,?_,K.trans g1.kz⟩;rw[hadd,Sit.zw d1];exact⟨_,_,_,_,_,_,hS1⟩
 ·have c1:i=most:=by simp at c;omega
  subst c1;rw[hT];exact⟨rfl,⟨_,_,_,_,_,_,hS⟩,K⟩
end
def Sit.jQ(A:aR):Nat->Sit->Sit
 |0,S=>S
 |g+1,S=>{ S.jQ A g with C:=(S.jQ A g).C.tick A g 0 }
def Sit.round(A:aR)(S:Sit):Sit:=(S.jQ A S.C.n).all A 20000
section
variable{A:aR}(HA:bG A)(HN:dL A){Λ:bU}{w:World}{bs:Nat}{S:Sit}
theorem Sit.yl(S:Sit):∀g,(S.jQ A g).C.n=S.C.n/\(S.jQ A g).C.sz=S.C.sz
 |0=>⟨rfl,rfl⟩
 |g+1=>⟨(aM.nN A _ _ _).1.trans (Sit.yl S g).1,(aM.nN A _ _ _).2.trans (Sit.yl S g).2⟩
include HA HN
theorem Sit.Fh(h:S.C.aK A):∀g,(S.jQ A g).C.aK A
 |0=>h
 |g+1=>(Sit.Fh h g).tick HA HN _ _
theorem Gn(h:cZ Λ bs S w)(hF:S.C.aK A)(hz:0<S.C.sz):gH Tryz.prog 172 #[Ptt bs] w (λv w'=>v=.bool true/\cZ Λ bs (S.round A) w'/\Kz w w'):=by
 refine sK ah mixed Tryz.func172 rfl rfl ?_;refine⟨λm s wk=>∃g:Nat,m=S.C.n - g/\g<=S.C.n/\s=[(0,Ptt bs),(3,.int .i64 g)]/\cZ Λ bs (S.jQ A g) wk/\Kz w wk,⟨_,_,⟨0,rfl,Nat.zero_le _,rfl,h,Kz.refl _⟩,rfl,rfl,trivial⟩,?_⟩;rintro m s wk ⟨g,rfl,hg,rfl,hS,K⟩;have hFg:=Sit.Fh HA HN hF g;obtain⟨en,ez⟩:=Sit.yl (A:=A) S g;have Po:S.jQ A (g+1)={ S.jQ A g with C:=(S.jQ A g).C.tick A g 0 }:=rfl;have hrd:S.round A=(S.jQ A S.C.n).all A 20000:=rfl;have ja:=hF.n;obtain⟨bc,a,gv,sv,B,ad,hS⟩:=hS;have hmem:=hS.si.mem;refine⟨_,_,hmem,_,rfl,au (λc=>?_) (λc=>?_)⟩
 ·have c1:g<S.C.n:=by have:=of_decide_eq_true c;omega
  refine⟨_,_,hmem,_,rfl,.inl ⟨by omega,_,Q0 HA hS.enter hFg g 0 (by omega) (by omega),?_⟩⟩;rintro _ w1 ⟨rfl,Qc,k1⟩;rw[if_pos ⟨by omega,by omega⟩];obtain⟨en1,ez1⟩:=aM.nN A (S.jQ A g).C g 0;exact⟨by omega,_,_,⟨g+1,rfl,by omega,rfl,hS.leave en1 ez1 Qc k1,K.trans k1⟩,⟨rfl,rfl,trivial⟩,by omega⟩
 ·have c1:g=S.C.n:=by have:=of_decide_eq_false c;omega
  subst c1;refine⟨_,Ww HA HN ⟨_,_,_,_,_,_,hS⟩ hFg 20000 (by decide),?_⟩;rintro _ w1 ⟨rfl,h1,k1⟩;exact⟨rfl,h1,K.trans k1⟩
end
def nO{α:Type}(f:α->α->Bool)(l m:List α):Bool:=(List.zipWith f l m).all id
theorem Gp{α:Type}{f:α->α->Bool}{l m:List α}{k:Nat}{x y:α}(h1:l[k]? = some x)(h2:m[k]? = some y)(h:f x y=false):nO f l m=false:=by
 cases hz:nO f l m with
 |false=>rfl
 |true =>
  unfold nO at hz;rw[List.all_eq_true]at hz;have:f x y∈List.zipWith f l m:=List.mem_of_getElem? (i:=k) (by rw[List.getElem?_zipWith,h1,h2]);have:=hz _ this;rw[h]at this;cases this
theorem vU{α:Type}{f:α->α->Bool}{l m:List α}(h:∀(k:Nat) (x y:α),k<l.length->l[k]? = some x->m[k]? = some y->f x y=true):nO f l m=true:=by
 unfold nO;rw[List.all_eq_true];intro b hb;obtain⟨k,hk⟩:=List.mem_iff_getElem?.1 hb;rw[List.getElem?_zipWith]at hk;cases h1:l[k]? with
 |none=>rw[h1]at hk;cases hk
 |some x =>
  cases h2:m[k]? with
  |none=>rw[h1,h2]at hk;cases hk
  |some y =>
   rw[h1,h2]at hk;cases hk
   exact h k x y (List.getElem?_eq_some_iff.1 h1).1 h1 h2
def jI(p q:Row):Bool:=p.key == q.key && (p.val == q.val && true)
theorem RU{l:List Row}{k:Nat}{p:Row}(h:l[k]? = some p):aJ (l.map Row.cells).flatten (k*2) 2=p.cells:=by
 rw[<-List.flatMap_def];exact jB (f:=Row.cells) (λ_=>rfl) l k p h
def ry(a b:Rg):Bool:=a.src == b.src && (a.dst == b.dst && (a.seq == b.seq && (a.lo == b.lo && (a.hi == b.hi && ((a.rows.length:Int) == b.rows.length && ((a.aW.length:Int) == b.aW.length && (nO jI a.rows b.rows && nO eQ a.aW b.aW)))))))
theorem Gq{a b:Int}(h:((a != b) == false)=false):(a == b)=false:=by cases hb:a == b<;>simp_all [bne]
theorem Gs{a b:Int}(h:((a != b) == false)=true):(a == b)=true:=by cases hb:a == b<;>simp_all [bne]
theorem Nt(w:World){a b:Rg}{ra da rb db:Value}(ha:aL w a ra da)(hb:aL w b rb db)(la:a.rows.length<=1000000/\a.aW.length<=1000000):ag Tryz.prog 74 #[.agg (dP a ra da).toArray,.agg (dP b rb db).toArray] w (λv w'=>v=.bool (ry a b)/\GB none w w'):=by
 obtain⟨⟨raa,rac,rfl,rah,ral,rad⟩,⟨daa,dac,rfl,dah,dal,dad⟩⟩:=ha;obtain⟨⟨rba,rbc,rfl,rbh,rbl,rbd⟩,⟨dba,dbc,rfl,dbh,dbl,dbd⟩⟩:=hb;refine aj ah mixed Tryz.func74 rfl rfl ?_;refine λw1 b1 m1 g1 l1 w2 b2 m2 g2 l2=>?_
 have m1:=g2.get m1 nofun;have G:=g1.trans g2;refine⟨_,_,m1,_,rfl,_,_,m2,_,rfl,?_⟩;refine au (λc1=>?_) (λc=>⟨by unfold ry;rw[Gq c];rfl,G⟩);refine⟨_,_,m1,_,rfl,_,_,m2,_,rfl,au (λc2=>?_) (λc=>⟨by unfold ry;rw[Gq c];simp,G⟩)⟩;refine⟨_,_,m1,_,rfl,_,_,m2,_,rfl,au (λc3=>?_) (λc=>⟨by unfold ry;rw[Gq c];simp,G⟩)⟩;refine⟨_,_,m1,_,rfl,_,_,m2,_,rfl,au (λc4=>?_) (λc=>⟨by unfold ry;rw[Gq c];simp,G⟩)⟩;refine⟨_,_,m1,_,rfl,_,_,m2,_,rfl,au (λc5=>?_) (λc=>⟨by unfold ry;rw[Gq c];simp,G⟩)⟩;refine⟨_,_,m1,_,rfl,_,_,m2,_,rfl,au (λc6=>?_) (λc=>⟨by unfold ry;rw[Gq c];simp,G⟩)⟩;refine⟨_,_,m1,_,rfl,_,_,m2,_,rfl,au (λc=>⟨by unfold ry;rw[show((a.aW.length:Int) == b.aW.length)=false by simpa[bne]using c];simp,G⟩) (λc7=>?_)⟩;have e6:=Gs c6;have e7:((a.aW.length:Int) == b.aW.length)=true:=by simpa[bne]using c7
 have er:ry a b=(nO jI a.rows b.rows && nO eQ a.aW b.aW):=by
  unfold ry;rw[Gs c1,Gs c2,Gs c3,Gs c4,Gs c5,e6,e7];rfl
 have n6:a.rows.length=b.rows.length:=by have:=eq_of_beq e6;omega
 have n7:a.aW.length=b.aW.length:=by have:=eq_of_beq e7;omega
 rw[er];refine⟨λq s w3=>∃k:Nat,q=a.rows.length - k/\k<=a.rows.length/\s=[(2,Ptt b1),(3,Ptt b2),(5,.int .i64 k)]/\w3=w2/\∀(j:Nat) (x y:Row),j<k->a.rows[j]? = some x->b.rows[j]? = some y->jI x y=true,⟨_,_,⟨0,rfl,Nat.zero_le _,rfl,rfl,λj x y h=>by omega⟩,rfl,rfl,rfl,trivial⟩,?_⟩;rintro q s w2 ⟨k,rfl,hk,rfl,rfl,hall⟩;refine⟨_,_,m1,_,rfl,au (λc=>?_) (λc=>?_)⟩
 ·have d1:k<a.rows.length:=by have:=of_decide_eq_true c;omega
  rcases rad with⟨_,h0⟩|⟨B,off,cs,rfl,hB,hcut⟩
  ·omega
  rcases rbd with⟨_,h0⟩|⟨B',off',cs',rfl,hB',hcut'⟩
  ·omega
  obtain⟨x,hx⟩:∃x,a.rows[k]? = some x:=⟨a.rows[k],by simp[d1]⟩;obtain⟨y,hy⟩:∃y,b.rows[k]? = some y:=⟨b.rows[k]'(by omega),by simp[show k<b.rows.length by omega]⟩;refine⟨by kernel_rfl,_,_,m1,_,rfl,⟨by omega,by omega⟩,_,_,G.get hB nofun,x.cells,(Fz.elem hcut d1).trans (RU hx),rfl,_,_,m2,_,rfl,⟨by omega,by omega⟩,_,_,G.get hB' nofun,y.cells,(Fz.elem hcut' (by omega)).trans (RU hy),rfl,au (λd=>?_) (λd=>?_)⟩
  ·have d2:jI x y=false:=by cases hh:jI x y with|false=>rfl|true=>exact absurd (show(!(jI x y))=true from d) (by rw[hh];decide)
   exact⟨by rw[Gp hx hy d2];rfl,G⟩
  ·have d2:jI x y=true:=by cases hh:jI x y with|true=>rfl|false=>exact absurd (show(!(jI x y))=false from d) (by rw[hh];decide)
   refine⟨by omega,_,_,⟨k+1,rfl,by omega,rfl,rfl,λj x' y' hj h1 h2=>?_⟩,⟨rfl,rfl,rfl,trivial⟩,by omega⟩;by_cases e:j=k
   ·subst e;rw[hx]at h1;rw[hy]at h2;cases h1;cases h2;exact d2
   ·exact hall j x' y' (by omega) h1 h2
 ·have d1:k=a.rows.length:=by have:=of_decide_eq_false c;omega
  subst d1;rw[vU (f:=jI) (λj x y hj h1 h2=>hall j x y hj h1 h2),Bool.true_and];refine⟨λq s w3=>∃k:Nat,q=a.aW.length - k/\k<=a.aW.length/\s=[(2,Ptt b1),(3,Ptt b2),(6,.int .i64 k)]/\w3=w2/\∀(j:Nat) (x y:aB),j<k->a.aW[j]? = some x->b.aW[j]? = some y->eQ x y=true,⟨_,_,⟨0,rfl,Nat.zero_le _,rfl,rfl,λj x y h=>by omega⟩,rfl,rfl,rfl,trivial⟩,?_⟩;clear hall;rintro q s w2 ⟨k,rfl,hk,rfl,rfl,hall⟩;refine⟨_,_,m1,_,rfl,au (λc=>?_) (λc=>?_)⟩
  ·have d1:k<a.aW.length:=by have:=of_decide_eq_true c;omega
   rcases dad with⟨_,h0⟩|⟨B,off,cs,rfl,hB,hcut⟩
   ·omega
   rcases dbd with⟨_,h0⟩|⟨B',off',cs',rfl,hB',hcut'⟩
   ·omega
   obtain⟨x,hx⟩:∃x,a.aW[k]? = some x:=⟨a.aW[k],by simp[d1]⟩;obtain⟨y,hy⟩:∃y,b.aW[k]? = some y:=⟨b.aW[k]'(by omega),by simp[show k<b.aW.length by omega]⟩;refine⟨by kernel_rfl,_,_,m1,_,rfl,⟨by omega,by omega⟩,_,_,G.get hB nofun,x.cells,(Fz.elem hcut d1).trans (J3 hx),rfl,_,_,m2,_,rfl,⟨by omega,by omega⟩,_,_,G.get hB' nofun,y.cells,(Fz.elem hcut' (by omega)).trans (J3 hy),rfl,au (λd=>?_) (λd=>?_)⟩
   ·have d2:eQ x y=false:=by cases hh:eQ x y with|false=>rfl|true=>exact absurd (show(!(eQ x y))=true from d) (by rw[hh];decide)
    exact⟨by rw[Gp hx hy d2],G⟩
   ·have d2:eQ x y=true:=by cases hh:eQ x y with|true=>rfl|false=>exact absurd (show(!(eQ x y))=false from d) (by rw[hh];decide)
    refine⟨by omega,_,_,⟨k+1,rfl,by omega,rfl,rfl,λj x' y' hj h1 h2=>?_⟩,⟨rfl,rfl,rfl,trivial⟩,by omega⟩;by_cases e:j=k
    ·subst e;rw[hx]at h1;rw[hy]at h2;cases h1;cases h2;exact d2
    ·exact hall j x' y' (by omega) h1 h2
  ·have d1:k=a.aW.length:=by have:=of_decide_eq_false c;omega
   subst d1;exact⟨by rw[vU (f:=eQ) (λj x y hj h1 h2=>hall j x y hj h1 h2)],G⟩
def uh(a b:MC):Bool:=ry a.r b.r && (a.kind == b.kind && (qO a.q b.q && (a.peer == b.peer && a.seq == b.seq)))
theorem Yh(w:World){a b:MC}{va vb:Value}(ha:jS w va a)(hb:jS w vb b)(la:a.r.rows.length<=1000000/\a.r.aW.length<=1000000):ag Tryz.prog 128 #[va,vb] w (λv w'=>v=.bool (uh a b)/\GB none w w'):=by
 obtain⟨ra,da,rfl,ha⟩:=ha;obtain⟨rb,db,rfl,hb⟩:=hb;refine aj ah mixed Tryz.func128 rfl rfl ?_;refine λw1 b1 m1 g1 l1 w2 b2 m2 g2 l2=>?_
 have m1:=g2.get m1 nofun;have G:=g1.trans g2;refine⟨_,_,m1,dP a.r ra da,rfl,rfl,_,_,m2,dP b.r rb db,rfl,rfl,_,Nt w2 (ha.kz G.kz) (hb.kz G.kz) la,?_⟩;rintro _ w3 ⟨rfl,g3⟩;have m1:=g3.get m1 nofun;have m2:=g3.get m2 nofun;have G:=G.trans g3;unfold uh;generalize ry a.r b.r=r;cases r
 ·exact⟨rfl,G⟩
 refine⟨_,_,m1,_,rfl,_,_,m2,_,rfl,au (λc=>?_) (λc=>?_)⟩
 ·have c1:(a.kind == b.kind)=true:=eq_of_beq c
  refine⟨_,_,m1,a.q.cells,rfl,rfl,_,_,m2,b.q.cells,rfl,rfl,au (λc=>?_) (λc=>?_)⟩
  ·have c2:qO a.q b.q=true:=eq_of_beq c
   refine⟨_,_,m1,_,rfl,_,_,m2,_,rfl,au (λc=>?_) (λc=>?_)⟩
   ·have c3:(a.peer == b.peer)=true:=eq_of_beq c
    exact⟨_,_,m1,_,rfl,_,_,m2,_,rfl,congrArg Value.bool (by rw[c1,c2,c3];rfl),G⟩
   ·have c3:(a.peer == b.peer)=false:=by simpa using c
    exact⟨congrArg Value.bool (by rw[c1,c2,c3];rfl),G⟩
  ·have c2:qO a.q b.q=false:=by cases h:qO a.q b.q;rfl;unfold qO at h;rw[h]at c;cases c
   exact⟨congrArg Value.bool (by rw[c1,c2];rfl),G⟩
 ·have c1:(a.kind == b.kind)=false:=by simpa using c
  exact⟨congrArg Value.bool (by rw[c1];rfl),G⟩
structure Sit.aK(A:aR)(S:Sit):Prop where
 cl:S.C.aK A
 n:0<S.C.n
 sz:0<S.C.sz
 be:S.bf.length=S.C.n
 le:S.len.length=S.C.n*S.C.sz
 fe:S.fell.length=S.C.n*S.C.sz
 ak:S.asks.length<=S.C.q.length
def Sit.dx(S:Sit)(i:Nat):Sit:=if(S.C.F (aZ S.C i) (bN S.C i)).log.length > (S.bf.getD (aZ S.C i) []).length then{ S with bf:=S.bf.set (aZ S.C i) (S.C.F (aZ S.C i) (bN S.C i)).log }else S
def Sit.dz(S:Sit)(i:Nat):Sit×Bool :=
 if nO uh (S.C.F (aZ S.C i) (bN S.C i)).log (S.bf.getD (aZ S.C i) [])=false then(S,false)
 else if(S.C.F (aZ S.C i) (bN S.C i)).log.length<S.len.getD i 0/\S.fell.getD i true=false then(S.dx i,false)
 else({ S.dx i with len:=S.len.set i (S.C.F (aZ S.C i) (bN S.C i)).log.length,fell:=S.fell.set i false },true)
def Sit.dX(S:Sit):Nat->Sit×Bool
 |0=>(S,true)
 |i+1=>match S.dX i with
  |(T,true)=>T.dz i
  |(T,false)=>(T,false)
def Sit.look(S:Sit):Sit×Bool:=S.dX (S.C.n*S.C.sz)
theorem Sit.Ce(S:Sit)(i:Nat):(S.dx i).C=S.C/\(S.dx i).len=S.len/\(S.dx i).fell=S.fell/\(S.dx i).asks=S.asks/\(S.dx i).bf.length=S.bf.length:=by
 unfold Sit.dx;split
 ·exact⟨rfl,rfl,rfl,rfl,by simp⟩
 ·exact⟨rfl,rfl,rfl,rfl,rfl⟩
theorem Sit.Va(S:Sit)(i:Nat):(S.dx i).next=S.next/\(S.dx i).bad=S.bad:=by
 unfold Sit.dx;split<;>exact⟨rfl,rfl⟩
theorem Sit.aK.dz{A:aR}{S:Sit}(h:S.aK A)(i:Nat):(S.dz i).1.aK A/\(S.dz i).1.C=S.C:=by
 obtain⟨e1,e2,e3,e4,e5⟩:=S.Ce i;unfold Sit.dz;split
 ·exact⟨h,rfl⟩
 ·split
  ·exact⟨⟨by rw[e1];exact h.cl,by rw[e1];exact h.n,by rw[e1];exact h.sz,by rw[e5,e1];exact h.be,by rw[e2,e1];exact h.le,by rw[e3,e1];exact h.fe,by rw[e4,e1];exact h.ak⟩,e1⟩
  ·refine⟨⟨by show aM.aK A (S.dx i).C;rw[e1];exact h.cl,by show 0<(S.dx i).C.n;rw[e1];exact h.n,by show 0<(S.dx i).C.sz;rw[e1];exact h.sz,by show(S.dx i).bf.length=(S.dx i).C.n;rw[e5,e1];exact h.be,?_,?_,by show(S.dx i).asks.length<=(S.dx i).C.q.length;rw[e4,e1];exact h.ak⟩,e1⟩
   ·show(S.len.set i _).length=(S.dx i).C.n*(S.dx i).C.sz
    rw[List.length_set,e1];exact h.le
   ·show(S.fell.set i _).length=(S.dx i).C.n*(S.dx i).C.sz
    rw[List.length_set,e1];exact h.fe
theorem Sit.aK.dX{A:aR}{S:Sit}(h:S.aK A):∀i,(S.dX i).1.aK A/\(S.dX i).1.C=S.C
 |0=>⟨h,rfl⟩
 |i+1=>by
  have ih:=Sit.aK.dX h i;unfold Sit.dX;generalize S.dX i=p at ih;obtain⟨T,b⟩:=p;cases b
  ·exact ih
  ·exact⟨(ih.1.dz i).1,(ih.1.dz i).2.trans ih.2⟩
theorem Sit.Fj{S T:Sit}:∀{i:Nat} (m:Nat),S.dX i=(T,false)->S.dX (i+m)=(T,false)
 |_,0,h=>h
 |i,m+1,h=>by
  have:=Sit.Fj m h;show(match S.dX (i+m)with|(T,true)=>T.dz (i+m)|(T,false)=>(T,false))=_;rw[this]
theorem jA.el{w:World}{a:Option Addr}{n c:Nat}{l:List MC}(h:jA w (.slice a n c) l){k:Nat}{x:MC}(hc:l[k]? = some x):∃gb cur rv dv,a=some ⟨gb,0,none⟩/\n=l.length/\w.heap[gb]? = some (.cells cur 54)/\aJ cur.toList (k*17) 17=dA x rv dv/\aL w x.r rv dv:=by
 obtain⟨vs,v1,v2,v3⟩:=h;have hk:k<l.length:=(List.getElem?_eq_some_iff.1 hc).1;obtain⟨p,hp⟩:∃p,vs[k]? = some p:=⟨vs[k],by simp[v1,hk]⟩;obtain⟨gb,cap,cur,ev,aS,htk,hsz,hcap⟩:=jq v2 (by omega);injection ev with ev en ec;refine⟨gb,cur,p.1,p.2,ev,en,aS,?_,v3 k x p hc hp⟩;rw[<-O5 hc hp,show lf l vs=_ from htk.symm];unfold aJ;rw[List.drop_take,List.take_take,Nat.min_eq_left (by omega)]
theorem pX{w:World}{e:TypeId}{n:Nat}{v:Value}{xs:List Value}(h:w.ownsRow 0 e 1 v n xs){k:Nat}{x:Value}(hx:xs[k]? = some x):∃gb cap cur,v=.slice (some ⟨gb,0,none⟩) n cap/\w.heap[gb]? = some (.cells cur e)/\cur.toList[k]? = some x/\k<n/\k<cur.toList.length:=by
 have hl:xs.length=n*1:=h.1;have hk:k<xs.length:=(List.getElem?_eq_some_iff.1 hx).1;obtain⟨gb,cap,cur,ev,aS,htk,hsz,hcap⟩:=jq h (by omega);refine⟨gb,cap,cur,ev,aS,?_,by omega,by rw[Array.length_toList];omega⟩;rw[<-htk,List.getElem?_take,if_pos (by omega)]at hx;exact hx
end
