/- Lemmas. -/
import Derived.Test.YtignemioillaiabGreatG24
namespace Go.Proofs.YtignemioillaiabGreat
set_option maxHeartbeats 8000000
set_option maxRecDepth 100000
open List
section
open Go Go.Conc
section
variable(A:aI)
def kX(R:MR)(f:Nat×Nat)(m:MM):MR:=if m.b.lt R.sc.b=true then bN A.enc R f m.b else mh A.enc (uu (bN A.enc R f m.b) m.s m.c) {aL 7 with b:=m.b,s:=m.s} [f]
def vW(R:MR)(f:Nat×Nat)(m:MM):MR:=if R.sc.role=2/\m.b=R.sc.b then jM A R m.s f.2 else R
def lL(r:Rg):MC:={nu with kind:=2,r:=r}
def uy(R:MR)(f:Nat×Nat)(r:Rg):MR:=if R.sc.role≠2 then R else if r.seq<=R.st.I.getD r.src.toNat 0 then Af A.enc R r.src.toNat [f]else if r.seq=R.st.I.getD r.src.toNat 0+1 then ig A R (lL r)else R
end
section
variable{A:aI}(HA:bG A){Λ:bW}{w:World}{br:Nat}{R:MR}
include HA
theorem Q9(h:Wk Λ br R w)(f:Nat×Nat){m:MM}{mv:Value}(hm:Ch w mv m)(hb:R.out.length<=870000):CY 82 #[Ptt br,.agg #[.int .u8 f.1,.int .u8 f.2],mv] w (λv w'=>v=.tuple #[]/\Wk Λ br (kX A R f m) w'/\Kz w w'):=by
 obtain⟨rv,dv,vv,rv',jU,rfl,hr,hvs,hr'⟩:=hm;refine aj Tryz.func82 rfl rfl ?_;intro w1 b1 m1 g1 l1 w2 b2 m2 g2 l2;obtain⟨h2,u2⟩:=(h.ay g1).box g2 m2 l2;have m1:=g2.get m1 nofun;have g:=g1.trans g2;refine⟨_,_,m1,_,rfl,rfl,_,_,m2,_,rfl,rfl,_,Jw HA.nW h2 f m.b (by omega),?_⟩;rintro _ w3 ⟨rfl,h3,k3⟩;have m1:=k3 _ (by decide) _ _ m1;unfold kX;refine ah (λc=>?_) (λc=>?_)
 .rw[Jb6 c]
  exact⟨rfl,h3.drop u2,g.kz.trans k3⟩
 rw[Jb5 (by rw[c];decide)];have hl:(bN A.enc R f m.b).out.length<=900000:=by
  unfold bN;rw[Jb5 (by rw[c];decide)];split
  .omega
  .show R.out.length<=_;omega
 have hc3:kF w3 (.agg (dF m.c rv dv).toArray) m.c:=⟨_,_,rfl,(hr.kz g.kz).kz k3⟩;refine⟨_,_,h3.at,_,rfl,_,_,h3.at,dF m.c rv dv,rfl,rfl,_,OY h3 hc3,?_⟩;rintro _ w4 ⟨rfl,h4,k4⟩;have m1:=k4 _ (by decide) _ _ m1;refine⟨_,_,h4.at,_,rfl,rfl,_,_,h4.at,_,rfl,_,_,m1,_,rfl,rfl,λw5 b5 m5 g5 l5=>?_⟩;refine⟨_,oG HA.nW ((h4.drop u2).ay g5) (m:={aL 7 with b:=m.b,s:=m.s}) ⟨_,_,_,_,_,rfl,aS.zero _,dC.zero _,aS.zero _⟩ (tl:=[f]) ⟨_,_,rfl,Jb0 _,rfl,.inr ⟨_,_,_,rfl,m5,rfl⟩⟩ (by simp;show(bN A.enc R f m.b).out.length<=_;omega),?_⟩;rintro _ w6 ⟨rfl,h6,k6⟩;exact⟨rfl,h6,(((g.kz.trans k3).trans k4).trans g5.kz).trans k6⟩
theorem ZP(h:Wk Λ br R w)(ho:Ok A R)(f:Nat×Nat)(hf:f.2<5){m:MM}(hs:m.s<60){mv:Value}(hm:Ch w mv m)(hb:R.out.length<=870000):CY 83 #[Ptt br,.agg #[.int .u8 f.1,.int .u8 f.2],mv] w (λv w'=>v=.tuple #[]/\Wk Λ br (vW A R f m) w'/\Kz w w'):=by
 obtain⟨rv,dv,vv,rv',jU,rfl,hr,hvs,hr'⟩:=hm;refine aj Tryz.func83 rfl rfl ?_;intro w1 b1 m1 g1 l1 w2 b2 m2 g2 l2;have m1:=g2.get m1 nofun;have g:=g1.trans g2;have h2:=h.ay g;have h20:=h2;obtain⟨a,h2⟩:=h2;unfold vW;refine⟨by kernel_rfl,_,_,h2.ri.mem,_,rfl,ah (λc=>?_) (λc=>?_)⟩
 .have c1:R.sc.role=2:=by simp at c;omega
  refine⟨_,_,m2,_,rfl,rfl,_,_,h2.ri.mem,_,rfl,rfl,ah (λd=>?_) (λd=>?_)⟩
  .have d1:m.b=R.sc.b:=by
    have e:m.b.n=R.sc.b.n/\m.b.id=R.sc.b.id:=by simp at d;omega
    exact bH.eq e.1 e.2
   rw[Jb6 ⟨c1,d1⟩];refine⟨_,_,m2,_,rfl,_,_,m1,_,rfl,_,O3 HA h20 ho m.s f.2 hs hf (by omega),?_⟩;rintro _ w3 ⟨rfl,h3,k3⟩;exact⟨rfl,h3,g.kz.trans k3⟩
  .have d1:¬m.b=R.sc.b:=by rintro e;rw[e]at d;simp at d
   rw[Jb5 (λe=>d1 e.2)];exact⟨rfl,h20,g.kz⟩
 .have c1:¬R.sc.role=2:=by simp at c;omega
  rw[Jb5 (λe=>c1 e.1)];exact⟨rfl,h20,g.kz⟩
theorem ZQ(h:Wk Λ br R w)(ho:Ok A R)(f:Nat×Nat){r:Rg}(hs0:0<=r.src)(hs:r.src.toNat<R.st.I.length)(hq:r.seq<=4294967295)(hgc:A.gc (lL r)){rv dv:Value}(hr:aS w r rv dv)(hb:R.out.length<=870000):CY 85 #[Ptt br,.agg #[.int .u8 f.1,.int .u8 f.2],.agg (fB r rv dv).toArray] w (λv w'=>v=.tuple #[]/\Wk Λ br (uy A R f r) w'/\Kz w w'):=by
 have es:(r.src.toNat:Int)=r.src:=Jfp hs0;refine aj Tryz.func85 rfl rfl ?_;intro w1 b1 m1 g1 l1 w2 b2 m2 g2 l2;have m1:=g2.get m1 nofun;have g:=g1.trans g2;have h2:=h.ay g;have h20:=h2;obtain⟨a,h2⟩:=h2;obtain⟨vm,wm,kn,mt,pp,ac,lg,ob,sT,sM,sD,sO,sI⟩:=a;obtain⟨ia,ic,rfl,i1,i2,i3⟩:=h2.ri.st.I;rcases i3 with⟨_,i3⟩|⟨B,off,cs,rfl,hB,hcut⟩
 .omega
 obtain⟨x,hx⟩:∃x,R.st.I[r.src.toNat]?=some x:=⟨R.st.I[r.src.toNat],by simp[hs]⟩;have hx0:=HA.L8 _ ho.st _ _ hx;have hx1:R.st.I.getD r.src.toNat 0=x:=by rw[Jdx,hx];rfl
 have hx2:cs.toList[off+r.src.toNat]?=some (.int .u32 x):=by
  have h1:(aG cs.toList off (R.st.I.length*1))[r.src.toNat]?=some (.int .u32 x):=by rw[hcut,Jdd,hx];rfl
  unfold aG at h1;rw[Jc5,Jb6 (by omega),Jcf]at h1;exact h1
 have em:uy A R f r=if R.sc.role≠2 then R else if r.seq<=x then Af A.enc R r.src.toNat [f]else if r.seq=x+1 then ig A R (lL r)else R:=by unfold uy;rw[hx1]
 rw[em];refine⟨_,_,h2.ri.mem,_,rfl,ah (λc=>?_) (λc=>?_)⟩
 .have c1:R.sc.role≠2:=by simp at c;omega
  rw[Jb6 c1];exact⟨rfl,h20,g.kz⟩
 have c1:¬R.sc.role≠2:=by simp at c;omega
 rw[Jb5 c1];refine⟨by kernel_rfl,_,_,h2.ri.mem,_,rfl,_,_,m2,_,rfl,by omega,_,_,hB,.int .u32 x,by show cs.toList[off+r.src.toNat*1]?=_;rw[Jfq];exact hx2,?_⟩;refine⟨_,_,m2,_,rfl,ah (λd=>?_) (λd=>?_)⟩
 .have d1:r.seq<=x:=by simpa using d
  rw[Jb6 d1];refine⟨_,_,m2,_,rfl,_,_,m1,_,rfl,rfl,λw3 b3 m3 g3 l3=>?_⟩;have ha:=TI HA.nW (h20.ay g3) hs (tv:=.slice (Pty b3) 1 1) (tl:=[f]) ⟨_,_,rfl,Jb0 _,rfl,.inr ⟨_,0,_,rfl,m3,rfl⟩⟩ (by simp;omega);rw[es]at ha;refine⟨_,ha,?_⟩;rintro _ w4 ⟨rfl,h4,k4⟩;exact⟨rfl,h4,(g.trans g3).kz.trans k4⟩
 have d1:¬r.seq<=x:=by simpa using d
 rw[Jb5 d1];refine⟨_,_,m2,_,rfl,by omega,ah (λe=>?_) (λe=>?_)⟩
 .have e1:r.seq=x+1:=by simpa using e
  rw[Jb6 e1];refine⟨_,_,m2,fB r rv dv,rfl,rfl,_,Fa HA h20 ho hgc (c:=lL r) ⟨rv,dv,rfl,hr.kz g.kz⟩ hb,?_⟩;rintro _ w4 ⟨rfl,h4,k4⟩;exact⟨rfl,h4,g.kz.trans k4⟩
 .have e1:¬r.seq=x+1:=by simpa using e
  rw[Jb5 e1];exact⟨rfl,h20,g.kz⟩
end
def dQ(p q:ag):Bool:=p.c==q.c&&(p.s==q.s&&(p.key==q.key&&(p.k==q.k&&(p.found==q.found&&(p.v==q.v&&(p.g==q.g&&true))))))
theorem Mk{l:List ag}{k:Nat}{p:ag}(h:l[k]?=some p):aG (l.map ag.cells).flatten (k*7) 7=p.cells:=by
 rw[<-Jfx];exact jb (f:=ag.cells) (λ_=>rfl) l k p h
theorem any_take_succ{α:Type}(f:α->Bool)(l:List α)(k:Nat)(x:α)(h:l[k]?=some x):(l.take (k+1)).any f=((l.take k).any f||f x):=by
 rw[Jfm,h,any_append];simp
theorem ab9(w:World){l:List ag}{v:Value}(hl:Fz w 70 7 v l.length (l.map ag.cells).flatten)(hn:l.length<=1000000)(p:ag):CY 179 #[v,.agg p.cells.toArray] w (λv w'=>(∃i:Int,v=.int .i64 i/\(0<=i↔l.any (dQ p)=true))/\GB none w w'):=by
 obtain⟨ta,tc,rfl,htc,htl,htd⟩:=hl;refine aj Tryz.func179 rfl rfl ?_;intro w1 b1 m1 g1 l1;refine⟨λq s w3=>∃(k:Nat),q=l.length-k/\k<=l.length/\s=[(0,.slice ta l.length tc),(3,Ptt b1),(7,.int .i64 l.length),(8,.int .i64 k)]/\w3=w1/\(l.take k).any (dQ p)=false,⟨_,_,⟨0,rfl,Jcm _,rfl,rfl,rfl⟩,sb rfl⟩,?_⟩;rintro q s w3 ⟨k,rfl,hk,rfl,rfl,hno⟩;refine ah (λc=>?_) (λc=>?_)
 .have c1:k<l.length:=by simp at c;omega
  rcases htd with⟨_,h0⟩|⟨B,off,cs,rfl,hB,hcut⟩
  .omega
  obtain⟨x,hx⟩:∃x,l[k]?=some x:=⟨l[k],by simp[c1]⟩;refine⟨by kernel_rfl,_,_,m1,_,rfl,rfl,by omega,_,_,g1.get hB nofun,x.cells,(Fz.elem hcut c1).trans (Mk hx),rfl,ah (λd=>?_) (λd=>?_)⟩
  .have d1:dQ p x=true:=d
   exact⟨⟨k,rfl,λ_=>any_eq_true.2 ⟨x,Jcv hx,d1⟩,λ_=>by omega⟩,g1⟩
  .have d1:dQ p x=false:=d
   exact⟨by omega,_,_,⟨k+1,rfl,by omega,rfl,rfl,by rw[any_take_succ _ _ _ _ hx,hno,d1];rfl⟩,(sb rfl),by omega⟩
 .have c1:k=l.length:=by simp at c;omega
  subst c1;rw[Jfn]at hno;exact⟨⟨-1,rfl,λh=>absurd h (by decide),λh=>by rw[hno]at h;cases h⟩,g1⟩
theorem ZR(w:World){l:List ag}{v:Value}(hl:Fz w 70 7 v l.length (l.map ag.cells).flatten)(hn:l.length<=1000000)(p:ag):CY 135 #[v,.agg p.cells.toArray] w (λv w'=>v=.bool (l.any (dQ p))/\GB none w w'):=by
 have hl0:=hl;obtain⟨ta,tc,rfl,htc,htl,htd⟩:=hl;refine aj Tryz.func135 rfl rfl ?_;intro w1 b1 m1 g1 l1;refine⟨_,_,m1,p.cells,rfl,rfl,_,ab9 w1 (hl0.kz g1.kz (by decide)) hn p,?_⟩;rintro _ w2 ⟨⟨i,rfl,hi⟩,g2⟩;refine⟨vb ?_,g1.trans g2⟩;cases hh:l.any (dQ p)with
 |true=>exact Jg1 (hi.2 hh)
 |false=>exact Jg2 λh=>by rw[hi.1 h]at hh;cases hh
def fM(q:aW):MC:={nu with kind:=1,q:=q}
def wW(A:aI)(R:MR)(q:aW):MR:=if R.sc.role≠2 then R else if R.st.D.any (dQ (A.ap R.st (fM q)).2)=true then Ae A.enc R (A.ap R.st (fM q)).2 else ig A R (fM q)
section
variable{A:aI}(HA:bG A){Λ:bW}{w:World}{br:Nat}{R:MR}
include HA
theorem aca(h:Wk Λ br R w)(ho:Ok A R){q:aW}(hgc:A.gc (fM q))(hb:R.out.length<=870000):CY 78 #[Ptt br,.agg q.cells.toArray] w (λv w'=>v=.tuple #[]/\Wk Λ br (wW A R q) w'/\Kz w w'):=by
 refine qh fG Tryz.func78 rfl rfl ?_;refine CS.piece (Q:=λs w1=>∃b1,s=[(0,Ptt br),(3,Ptt b1)]/\Hl w1 b1 q.cells 65/\GB none w w1) (CS.e λw1 b1 m1 g1 l1=>⟨_,by exact sb rfl,b1,rfl,m1,g1⟩) ?_;rintro _ w1 ⟨b1,rfl,m1,g1⟩;have h10:=h.ay g1;obtain⟨a,h1⟩:=h10;refine CS.cut (Qn:=λs w'=>¬R.sc.role≠2/\s=[(0,Ptt br),(3,Ptt b1)]/\w'=w1) (Qx:=λ_ _ _=>False) (Qr:=λs w'=>R.sc.role≠2/\s=[]/\w'=w1) (CS.e ⟨_,_,h1.ri.mem,_,rfl,ah (λc=>⟨_,by exact trivial,by simp at c;omega,rfl,rfl⟩) (λc=>⟨_,by exact sb rfl,by simp at c;omega,rfl,rfl⟩)⟩) ?_ (λ_ _ _ _ h _=>h.elim) ?_;rotate_left
 .rintro _ s w1 ⟨c1,rfl,rfl⟩ hs
  rw[show wW A R q=R from Jb6 c1];exact qO hs ⟨rfl,⟨_,h1⟩,g1.kz⟩
 rintro _ w1 ⟨c1,rfl,rfl⟩;refine CS.piece (Q:=λs w3=>∃b2,s=[(0,Ptt br),(4,Ptt b2)]/\Hl w3 b2 (dF (fM q) Ptz Ptz) 80/\GB none w1 w3/\w1.heap.size<=b2) (CS.e ⟨_,_,m1,q.cells,rfl,rfl,λw2 b2 m2 g2 l2=>⟨_,_,_,m2,rfl,rfl,λw3 m3 g3=>⟨_,by exact sb rfl,b2,rfl,m3,g2.new g3 l2,l2⟩⟩⟩) ?_;rintro _ w3 ⟨b2,rfl,m3,g13,l2⟩;have h3:=h1.box g13 m3 l2;have u3:=h1.rU l2;have gg:=g1.trans g13;obtain⟨vm,wm,kn,mt,pp,ac,lg,ob,sT,sM,sD,sO,sI⟩:=a;have hc3:kF w3 (.agg (dF (fM q) Ptz Ptz).toArray) (fM q):=⟨_,_,rfl,aS.zero _⟩;have hcall:=λw' (g:GB none w3 w')=>HA.call w' R.st (fM q) _ _ _ _ _ _ (h3.ay g).ri.st ho.st (hc3.kz g.kz) hgc
 refine CS.piece (Q:=λs w8=>∃b6,s=[(0,Ptt br),(4,Ptt b2),(6,Ptt b6)]/\w8.heap[b6]?=some (.cells (A.ap R.st (fM q)).2.cells.toArray 70)/\GB none w3 w8) (CS.e ?_) ?_
 .refine⟨by kernel_rfl,_,_,h3.ri.mem,_,rfl,rfl,_,_,m3,dF (fM q) Ptz Ptz,rfl,rfl,?_⟩
  refine⟨⟨_,hcall w3 (GB.refl _ _),?_⟩,?_,?_⟩
  .rintro _ v1 ⟨T,M,D,O,I,rfl,hs,K1⟩
   have G1:GB none w3 v1:=K1;obtain⟨ta,tn,tc,ma,mn,mc,da,dn,dc,oa,on,oc,ia,il,ic,rfl,rfl,rfl,rfl,rfl⟩:=(hs _ λ_ _ _=>rfl).sl;refine⟨?_,?_⟩
   .intro v2 b5 m5 K2 L5
    have G2:GB none w3 v2:=G1.trans K2;have l5:w3.heap.size<=b5:=Jb1 G1.size L5;have JD:=ae m5;refine⟨⟨G2.get m3 nofun,(h3.ay G2).ri.mem,trivial⟩,?_⟩;intro v3 b6 m6 K3 L6;have G3:GB none w3 v3:=G2.trans K3;have l6:w3.heap.size<=b6:=Jb1 G2.size L6;have JE:=ae m6;have JD:=ae m5;have m5:=K3.get m5 nofun;refine⟨⟨G3.get m3 nofun,(h3.ay G3).ri.mem,trivial⟩,?_⟩;exact⟨_,_,_,m5,rfl,rfl,λw7 m7 g7=>⟨_,_,_,g7.get m6 (λe=>by cases e;omega),rfl,rfl,λw8 m8 g8=>⟨_,by exact sb rfl,b6,rfl,m8,(G3.new g7 l5).new g8 l6⟩⟩⟩
   .intro v2 b6 m6 K2 L6
    have G2:GB none w3 v2:=G1.trans K2;have l6:w3.heap.size<=b6:=Jb1 G1.size L6;have JE:=ae m6;refine⟨⟨G2.get m3 nofun,(h3.ay G2).ri.mem,trivial⟩,?_⟩;intro v3 b5 m5 K3 L5;have G3:GB none w3 v3:=G2.trans K3;have l5:w3.heap.size<=b5:=Jb1 G2.size L5;have JD:=ae m5;have JE:=ae m6;have m6:=K3.get m6 nofun;refine⟨⟨G3.get m3 nofun,(h3.ay G3).ri.mem,trivial⟩,?_⟩;exact⟨_,_,_,m5,rfl,rfl,λw7 m7 g7=>⟨_,_,_,g7.get m6 (λe=>by cases e;omega),rfl,rfl,λw8 m8 g8=>⟨_,by exact sb rfl,b6,rfl,m8,(G3.new g7 l5).new g8 l6⟩⟩⟩
  .intro v1 b5 m5 K1 L5
   have G1:GB none w3 v1:=K1;have l5:w3.heap.size<=b5:=L5;have JD:=ae m5;refine⟨⟨G1.get m3 nofun,(h3.ay G1).ri.mem,trivial⟩,?_⟩;refine⟨⟨_,hcall v1 G1,?_⟩,?_⟩
   .rintro _ v2 ⟨T,M,D,O,I,rfl,hs,K2⟩
    have G2:GB none w3 v2:=G1.trans K2;obtain⟨ta,tn,tc,ma,mn,mc,da,dn,dc,oa,on,oc,ia,il,ic,rfl,rfl,rfl,rfl,rfl⟩:=(hs _ λ_ _ _=>rfl).sl;have m5:=K2.get m5 nofun;intro v3 b6 m6 K3 L6;have G3:GB none w3 v3:=G2.trans K3;have l6:w3.heap.size<=b6:=Jb1 G2.size L6;have JE:=ae m6;have JD:=ae m5;have m5:=K3.get m5 nofun;refine⟨⟨G3.get m3 nofun,(h3.ay G3).ri.mem,trivial⟩,?_⟩;exact⟨_,_,_,m5,rfl,rfl,λw7 m7 g7=>⟨_,_,_,g7.get m6 (λe=>by cases e;omega),rfl,rfl,λw8 m8 g8=>⟨_,by exact sb rfl,b6,rfl,m8,(G3.new g7 l5).new g8 l6⟩⟩⟩
   .intro v2 b6 m6 K2 L6
    have G2:GB none w3 v2:=G1.trans K2;have l6:w3.heap.size<=b6:=Jb1 G1.size L6;have JE:=ae m6;have JD:=ae m5;have m5:=K2.get m5 nofun;refine⟨⟨G2.get m3 nofun,(h3.ay G2).ri.mem,trivial⟩,?_⟩;refine⟨_,hcall v2 G2,?_⟩;rintro _ v3 ⟨T,M,D,O,I,rfl,hs,K3⟩;have G3:GB none w3 v3:=G2.trans K3;obtain⟨ta,tn,tc,ma,mn,mc,da,dn,dc,oa,on,oc,ia,il,ic,rfl,rfl,rfl,rfl,rfl⟩:=(hs _ λ_ _ _=>rfl).sl;have m5:=K3.get m5 nofun;have m6:=K3.get m6 nofun;exact⟨_,_,_,m5,rfl,rfl,λw7 m7 g7=>⟨_,_,_,g7.get m6 (λe=>by cases e;omega),rfl,rfl,λw8 m8 g8=>⟨_,by exact sb rfl,b6,rfl,m8,(G3.new g7 l5).new g8 l6⟩⟩⟩
  .intro v1 b6 m6 K1 L6
   have G1:GB none w3 v1:=K1;have l6:w3.heap.size<=b6:=L6;have JE:=ae m6;refine⟨⟨G1.get m3 nofun,(h3.ay G1).ri.mem,trivial⟩,?_⟩;refine⟨⟨_,hcall v1 G1,?_⟩,?_⟩
   .rintro _ v2 ⟨T,M,D,O,I,rfl,hs,K2⟩
    have G2:GB none w3 v2:=G1.trans K2;obtain⟨ta,tn,tc,ma,mn,mc,da,dn,dc,oa,on,oc,ia,il,ic,rfl,rfl,rfl,rfl,rfl⟩:=(hs _ λ_ _ _=>rfl).sl;have m6:=K2.get m6 nofun;intro v3 b5 m5 K3 L5;have G3:GB none w3 v3:=G2.trans K3;have l5:w3.heap.size<=b5:=Jb1 G2.size L5;have JD:=ae m5;have JE:=ae m6;have m6:=K3.get m6 nofun;refine⟨⟨G3.get m3 nofun,(h3.ay G3).ri.mem,trivial⟩,?_⟩;exact⟨_,_,_,m5,rfl,rfl,λw7 m7 g7=>⟨_,_,_,g7.get m6 (λe=>by cases e;omega),rfl,rfl,λw8 m8 g8=>⟨_,by exact sb rfl,b6,rfl,m8,(G3.new g7 l5).new g8 l6⟩⟩⟩
   .intro v2 b5 m5 K2 L5
    have G2:GB none w3 v2:=G1.trans K2;have l5:w3.heap.size<=b5:=Jb1 G1.size L5;have JD:=ae m5;have JE:=ae m6;have m6:=K2.get m6 nofun;refine⟨⟨G2.get m3 nofun,(h3.ay G2).ri.mem,trivial⟩,?_⟩;refine⟨_,hcall v2 G2,?_⟩;rintro _ v3 ⟨T,M,D,O,I,rfl,hs,K3⟩;have G3:GB none w3 v3:=G2.trans K3;obtain⟨ta,tn,tc,ma,mn,mc,da,dn,dc,oa,on,oc,ia,il,ic,rfl,rfl,rfl,rfl,rfl⟩:=(hs _ λ_ _ _=>rfl).sl;have m5:=K3.get m5 nofun;have m6:=K3.get m6 nofun;exact⟨_,_,_,m5,rfl,rfl,λw7 m7 g7=>⟨_,_,_,g7.get m6 (λe=>by cases e;omega),rfl,rfl,λw8 m8 g8=>⟨_,by exact sb rfl,b6,rfl,m8,(G3.new g7 l5).new g8 l6⟩⟩⟩
 rintro _ w8 ⟨b6,rfl,m8,gB⟩;have h8:=h3.ay gB;refine CS.e ?_;refine⟨by kernel_rfl,_,_,h8.ri.mem,_,rfl,_,_,m8,(A.ap R.st (fM q)).2.cells,rfl,rfl,_,ZR w8 h8.ri.st.D (HA.dl _ ho.st) _,?_⟩;rintro _ w9 ⟨rfl,g9⟩;have h9:=h8.ay g9;have k9:=((gg.trans gB).trans g9).kz;refine ah (λd=>?_) (λd=>?_)
 .rw[show wW A R q=Ae A.enc R (A.ap R.st (fM q)).2 from(Jb5 c1).trans (Jb6 d)]
  refine⟨_,_,g9.get m8 nofun,(A.ap R.st (fM q)).2.cells,rfl,rfl,_,OZ HA.nW (Wk.drop ⟨_,h9⟩ u3) (HA.rep _ _ ho.st hgc) (by omega),?_⟩;rintro _ qi ⟨rfl,h10,k10⟩;exact⟨rfl,h10,k9.trans k10⟩
 .rw[show wW A R q=ig A R (fM q)from(Jb5 c1).trans (Jb5 (by rw[d];decide))]
  have m9:=(h9.pr b2 _ (bW.zi _ _ _)).1;refine⟨_,_,m9,dF (fM q) Ptz Ptz,rfl,rfl,_,Fa HA (Wk.drop ⟨_,h9⟩ u3) ho hgc (c:=fM q) ⟨_,_,rfl,aS.zero _⟩ hb,?_⟩;rintro _ qi ⟨rfl,h10,k10⟩;exact⟨rfl,h10,k9.trans k10⟩
end
def pU(p s:Int):MC:={nu with kind:=3,peer:=p,seq:=s}
def uz(A:aI)(R:MR)(p:Nat)(s:Int):MR:=if R.sc.role≠2 then R else match(R.st.O.getD p (0,[])).2 with
 | []=>R
 |r::_=>if r.seq<=s then ig A R (pU p s)else R
theorem cutAt{cs:List Value}{off n d:Nat}{xs:List Value}(h:aG cs off n=xs){v:Value}(hv:xs[d]?=some v)(hd:d<n):cs[off+d]?=some v:=by
 rw[<-h]at hv;unfold aG at hv;rw[Jc5,Jb6 hd,Jcf]at hv;exact hv
theorem ZT{Ym:List (List Value)}{size:Nat}(hs:∀x∈Ym,x.length=size){k d:Nat}{x:List Value}{v:Value}(hx:Ym[k]?=some x)(hv:x[d]?=some v):Ym.flatten[k*size+d]?=some v:=by
 induction Ym generalizing k with
 |nil=>simp at hx
 |cons y r ih =>
  have hy:=hs y (Jb4 ..);cases k with
  |zero =>
   simp only[Jd0,Jbc]at hx;subst hx;have hd:d<y.length:=(Jcn.1 hv).1;rw[Jc7,Jbh,Jfw,Jc8 hd];exact hv
  |succ k =>
   rw[Jfw,Jc9 (by rw[hy,Jfk];omega),hy,show(k+1)*size+d-size=k*size+d by rw[Jfk];omega];exact ih (λx hx=>hs x (Jb2 _ hx)) hx
theorem ZU{w:World}{vO:Value}{O:List (Int×List Rg)}(h:∃qs:List Value,qs.length=O.length/\Fz w 62 2 vO O.length (zipWith (λ(o:Int×List Rg) q=>[Value.int .u32 o.1,q]) O qs).flatten/\∀(i:Nat) (o:Int×List Rg) (q:Value),O[i]?=some o->qs[i]?=some q->uN w q o.2){p:Nat}(hp:p<O.length):∃b off cap cs q,vO=.slice (some ⟨b,off,none⟩) O.length cap/\O.length<=cap/\w.heap[b]?=some (.cells cs 62)/\cs.toList[off+(p*2+1)]?=some q/\uN w q (O.getD p (0,[])).2:=by
 obtain⟨qs,h1,⟨a,c,rfl,h3,h4,h5⟩,h6⟩:=h;rcases h5 with⟨_,h0⟩|⟨b,off,cs,rfl,hb,hcut⟩
 .omega
 obtain⟨o,ho⟩:∃o,O[p]?=some o:=⟨O[p],by simp[hp]⟩;obtain⟨q,hq⟩:∃q,qs[p]?=some q:=⟨qs[p],by simp[h1,hp]⟩;refine⟨b,off,c,cs,q,rfl,h3,hb,cutAt hcut (d:=p*2+1) (ZT (size:=2) (x:=[.int .u32 o.1,q]) ?_ ?_ rfl) (by omega),?_⟩
 .intro x hx
  obtain⟨i,hi⟩:=Jdf.1 hx;rw[Jg3]at hi;cases e1:O[i]? <;> cases e2:qs[i]? <;> rw[e1,e2]at hi<;>cases hi
  rfl
 .rw[Jg3,ho,hq]
 .rw[Jdx,ho]
  exact h6 p o q ho hq
theorem uN.hd{w:World}{q:Value}{r:Rg}{rs:List Rg}(h:uN w q (r::rs)):∃b off cap cs rv dv,q=.slice (some ⟨b,off,none⟩) (rs.length+1) cap/\rs.length+1<=cap/\w.heap[b]?=some (.cells cs 78)/\aG cs.toList off 7=fB r rv dv/\aS w r rv dv:=by
 obtain⟨vs,h1,⟨a,c,h2,h3,h4,h5⟩,h6⟩:=h;obtain⟨p,ps,rfl⟩:∃p ps,vs=p::ps:=by cases vs with|nil=>simp at h1|cons p ps=>exact⟨p,ps,rfl⟩
 rcases h5 with⟨_,h0⟩|⟨b,off,cs,rfl,hb,hcut⟩
 .simp at h0
 refine⟨b,off,c,cs,p.1,p.2,h2,h3,hb,?_,h6 0 r p rfl rfl⟩;have:=zh cs.toList off ((r::rs).length*7) 0 7 (by simp;omega);rw[hcut]at this;rw[Nat.add_zero]at this;rw[<-this];rfl
section
variable{A:aI}(HA:bG A){Λ:bW}{w:World}{br:Nat}{R:MR}
include HA
theorem ZV(h:Wk Λ br R w)(ho:Ok A R){p:Nat}(hp:p<R.st.O.length){s:Int}(hgc:A.gc (pU p s))(hb:R.out.length<=870000):CY 86 #[Ptt br,.int .u8 p,.int .u32 s] w (λv w'=>v=.tuple #[]/\Wk Λ br (uz A R p s) w'/\Kz w w'):=by
 have h0:=h;obtain⟨a,h⟩:=h;obtain⟨vm,wm,kn,mt,pp,ac,lg,ob,sT,sM,sD,sO,sI⟩:=a;obtain⟨B,off,cap,cs,q,rfl,hcap,hB,hq,hQ⟩:=ZU h.ri.st.O hp;refine aj Tryz.func86 rfl rfl ?_;refine⟨_,_,h.ri.mem,_,rfl,ah (λc=>?_) (λc=>?_)⟩
 .have c1:R.sc.role≠2:=by simp at c;omega
  have em:uz A R p s=R:=Jb6 c1;rw[em];exact⟨rfl,h0,Kz.refl _⟩
 have c1:¬R.sc.role≠2:=by simp at c;omega
 have em:uz A R p s=match(R.st.O.getD p (0,[])).2 with
  | []=>R
  |r::_=>if r.seq<=s then ig A R (pU p s)else R:=Jb5 c1
 refine⟨_,_,h.ri.mem,_,rfl,by omega,_,_,hB,q,hq,?_⟩;cases hl:(R.st.O.getD p (0,[])).2 with
 |nil =>
  rw[hl]at em hQ;obtain⟨_,_,⟨qa,qc,rfl,_⟩,_⟩:=hQ;rw[em];exact⟨rfl,h0,Kz.refl _⟩
 |cons r rs =>
  rw[hl]at em hQ;obtain⟨b,o,qc,cq,rv,dv,rfl,hqc,hbq,hcut,hr⟩:=hQ.hd;have Yn:cq.toList[o+2]?=some (.int .u32 r.seq):=cutAt hcut (d:=2) rfl (by decide);refine ah (λd=>?_) (λd=>?_)
  .refine⟨by omega,_,_,hbq,_,Yn,ah (λe=>?_) (λe=>?_)⟩
   .have e1:r.seq<=s:=by simpa using e
    rw[em.trans (Jb6 e1)];refine⟨_,Fa HA h0 ho hgc (c:=pU p s) ⟨_,_,rfl,aS.zero _⟩ hb,?_⟩;rintro _ w4 ⟨rfl,h4,k4⟩;exact⟨rfl,h4,k4⟩
   .have e1:¬r.seq<=s:=by simpa using e
    rw[em.trans (Jb5 e1)];exact⟨rfl,h0,Kz.refl _⟩
  .exfalso;simp at d
end
def jc(f:Nat->Option MV)(n0:Nat):Nat:=(List.range 60).foldl (λa k=>if(f k).isSome=true then max a (k+1)else a) n0
theorem Co(f:Nat->Option MV):∀(l:List Nat) (n0:Nat),n0<=l.foldl (λa k=>if(f k).isSome=true then max a (k+1)else a) n0/\(∀k∈l,(f k).isSome=true->k+1<=l.foldl (λa k=>if(f k).isSome=true then max a (k+1)else a) n0)/\(l.foldl (λa k=>if(f k).isSome=true then max a (k+1)else a) n0=n0\/∃k∈l,(f k).isSome=true/\l.foldl (λa k=>if(f k).isSome=true then max a (k+1)else a) n0=k+1)
 | [],n0=>⟨Jb0 _,λk h=>(by cases h),.inl rfl⟩
 |x::l,n0=>by
  obtain⟨h1,h2,h3⟩:=Co f l (if(f x).isSome=true then max n0 (x+1)else n0);rw[Jbg];refine⟨?_,?_,?_⟩
  .refine Jb1 ?_ h1
   split<;>omega
  .intro k hk hs
   rcases Jb3.1 hk with rfl|hk
   .refine Jb1 ?_ h1
    rw[Jb6 hs];omega
   .exact h2 k hk hs
  .rcases h3 with h3|⟨k,hk,hs,h3⟩
   .by_cases hx:(f x).isSome=true
    .rw[h3,Jb6 hx]
     by_cases hm:n0<=x+1
     .exact .inr ⟨x,Jb4 ..,hx,by omega⟩
     .exact .inl (by omega)
    .rw[h3,Jb5 hx];exact .inl rfl
   .exact .inr ⟨k,Jb2 _ hk,hs,h3⟩
theorem WE{f:Nat->Option MV}{n0 n:Nat}(hk:∀k v,f k=some v->k<60)(h1:n0<=n)(h2:∀k v,f k=some v->k+1<=n)(h3:n=n0\/∃k v,f k=some v/\n=k+1):jc f n0=n:=by
 obtain⟨g1,g2,g3⟩:=Co f (List.range 60) n0;refine Nat.le_antisymm ?_ ?_
 .rcases g3 with g3|⟨k,_,hs,g3⟩
  .unfold jc;omega
  .obtain⟨v,hv⟩:=Jcp.1 hs
   have:=h2 k v hv;unfold jc;omega
 .rcases h3 with h3|⟨k,v,hv,h3⟩
  .unfold jc;omega
  .have:=g2 k (Jc3.2 (hk k v hv)) (by rw[hv];rfl)
   unfold jc;omega
def eY(A:aI):Nat->Nat->MR->MR
 |0,_,R=>R
 |n+1,s,R=>if s<R.sc.next then eY A n (s+1) (if(R.known s).isSome=true then R else iK A R s (((R.met s).map MV.c).getD nu))else R
def pz(A:aI)(R:MR):MR:={eY A 61 R.log.length {R with sc:={R.sc with role:=2,next:=jc R.met R.log.length} }with met:=λ_=>none}
theorem Wa.JF{Λ:bW}{w w':World}{br:Nat}{R:MR}{a:gD}(h:Wa Λ br R a w){x:Nat}(g:GB (some x) w w')(hx:¬Own br a x)(hp:Λ.pr x=none)(hf:∀c t,w.heap[x]?≠some (.cells c t)):Wa Λ br R a w':=by
 refine⟨h.ri.keep (g.Ei λc t _=>hf c t) λy hy=>g.block y (h.ri.lt hy) λe=>hx (by cases e;exact hy),λb o hb=>⟨g.get (h.pr b o hb).1 λe=>(by cases e;rw[hp]at hb;cases hb),(h.pr b o hb).2⟩,g.os.trans h.os,g.out.trans h.out⟩
section
variable{A:aI}(HA:bG A)
include HA
theorem Ok.rY:∀(n s:Nat) {R:MR},Ok A R->Ok A (eY A n s R)/\(eY A n s R).out.length<=R.out.length+315*n/\(eY A n s R).sc.i=R.sc.i/\(eY A n s R).sc.sz=R.sc.sz
 |0,s,R,h=>⟨h,by show R.out.length<=_;omega,rfl,rfl⟩
 |n+1,s,R,h=>by
  unfold eY;have hnx:=h.nx;split
  .rename_i hs
   by_cases hk:(R.known s).isSome=true
   .rw[Jb6 hk]
    obtain⟨h1,h2,h3,h4⟩:=Ok.rY n (s+1) h;exact⟨h1,by omega,h3,h4⟩
   .rw[Jb5 hk]
    have hgc:A.gc (((R.met s).map MV.c).getD nu):=by
     cases hm:R.met s with
     |none=>exact HA.LZ
     |some v=>exact(h.mt _ _ hm).1
    obtain⟨p1,p2,p3,p4⟩:=h.prop HA (s:=s) (by omega) hgc;obtain⟨h1,h2,h3,h4⟩:=Ok.rY n (s+1) p1;exact⟨h1,by omega,h3.trans p3,h4.trans p4⟩
  .exact⟨h,by omega,rfl,rfl⟩
omit HA in
theorem WG{R:MR}(ho:Ok A R):R.log.length<=jc R.met R.log.length/\jc R.met R.log.length<=60:=by
 obtain⟨g1,g2,g3⟩:=Co R.met (List.range 60) R.log.length;have:=ho.lg;refine⟨g1,?_⟩;rcases g3 with g3|⟨k,hk,_,g3⟩
 .unfold jc;omega
 .have:=Jc3.1 hk;unfold jc;omega
omit HA in
theorem Ok.Kt{R:MR}(ho:Ok A R):Ok A {R with sc:={R.sc with role:=2,next:=jc R.met R.log.length} }:=⟨ho.sz,ho.i,ho.st,ho.kn,ho.pp,ho.vt,ho.wv,ho.mt,ho.ac,ho.pr,ho.lg,ho.lc,(WG ho).2,ho.sn⟩
omit HA in
theorem Ok.agW{R:MR}(ho:Ok A R):Ok A {R with met:=λ_=>none}:=⟨ho.sz,ho.i,ho.st,ho.kn,ho.pp,ho.vt,ho.wv,λ_ _ h=>(by cases h),ho.ac,ho.pr,ho.lg,ho.lc,ho.nx,ho.sn⟩
theorem Ok.lead{R:MR}(ho:Ok A R):Ok A (pz A R)/\(pz A R).out.length<=R.out.length+20000/\(pz A R).sc.i=R.sc.i/\(pz A R).sc.sz=R.sc.sz:=by
 obtain⟨h1,h2,h3,h4⟩:=Ok.rY HA 61 R.log.length ho.Kt;exact⟨h1.agW,by unfold pz;exact Jb1 h2 (by show R.out.length+_<=_;omega),h3,h4⟩
end
theorem nS.nodup{w:World}{it m:Nat}{l todo:List (Int×Value)}{cur:Option (Int×Value)}(h:nS w it m l todo cur):(l.map Prod.fst).Nodup:=by
 obtain⟨_,_,_,_,_,_,_,_,_,_,_,_,_,h,_⟩:=h;exact h
theorem nS.it{w:World}{it m:Nat}{l todo:List (Int×Value)}{cur:Option (Int×Value)}(h:nS w it m l todo cur):∃m' a b c,w.heap[it]?=some (.mapIter m' a b c):=by
 obtain⟨_,_,_,_,_,_,_,_,_,_,_,h,_⟩:=h;exact⟨_,_,_,_,h⟩
theorem bT.walk{α:Type}{rel:World->Value->α->Prop}{w:World}{m:Nat}{g:Nat->Option α}(hg:bT rel w m g):∃l,mH w m l/\((l.map Prod.fst).Nodup->(∀p∈l,∃(k:Nat) (d:α),p.1=k/\g k=some d/\rel w p.2 d)/\∀k d,g k=some d->∃v,((k:Int),v)∈l/\rel w v d):=by
 obtain⟨f,⟨l,hl,hlf⟩,e2,e3⟩:=hg;refine⟨l,hl,λhn=>⟨?_,?_⟩⟩
 .intro p hp
  have h1:f p.1=some p.2:=by rw[<-hlf];exact(xH hn).2 hp
  obtain⟨k,hk⟩:∃k:Nat,p.1=k:=by
   rcases(by omega:p.1<0\/0<=p.1)with h0|h0
   .rw[e2 _ h0]at h1;cases h1
   .exact⟨p.1.toNat,by omega⟩
  rw[hk]at h1;rcases kI e3 k with⟨n1,n2⟩|⟨x,v,n1,n2,n3⟩
  .rw[n2]at h1;cases h1
  .rw[n2]at h1;cases h1;exact⟨k,x,hk,n1,n3⟩
 .intro k d ny
  rcases kI e3 k with⟨n1,n2⟩|⟨x,v,n1,n2,n3⟩
  .rw[n1]at ny;cases ny
  .rw[n1]at ny;cases ny;exact⟨v,(xH hn).1 (by rw[hlf];exact n2),n3⟩
theorem Oi{A:aI}{n s:Nat}{R:MR}(h:¬s<R.sc.next):eY A (n+1) s R=R:=by unfold eY;rw[Jb5 h]
theorem TS{A:aI}{n s:Nat}{R:MR}(h:s<R.sc.next):eY A (n+1) s R=eY A n (s+1) (if(R.known s).isSome=true then R else iK A R s (((R.met s).map MV.c).getD nu)):=by rw[eY,Jb6 h]
section
variable{A:aI}(HA:bG A){Λ:bW}{w:World}{br:Nat}{R:MR}
include HA
theorem ZW(h:Wk Λ br R w)(ho:Ok A R)(hb:R.out.length<=840000):CY 184 #[Ptt br] w (λv w'=>v=.tuple #[]/\Wk Λ br (pz A R) w'/\Kz w w'):=by
 obtain⟨a,h⟩:=h;obtain⟨vm,wm,kn,mt,pp,ac,lg,ob,sT,sM,sD,sO,sI⟩:=a;obtain⟨la,lc,rfl⟩:∃la lc,lg=.slice la R.log.length lc:=by obtain⟨_,_,h,_⟩:=h.ri.lg;exact af h
 have Yl:=ho.lg;refine aj Tryz.func184 rfl rfl ?_;refine⟨_,_,_,h.ri.mem,rfl,rfl,λw1 m1 g1=>?_⟩;have h1:=h.cell (s':={R.sc with role:=2}) m1 g1;refine⟨_,_,h1.ri.mem,_,rfl,.inl ⟨by omega,_,_,_,h1.ri.mem,rfl,rfl,λw2 m2 g2=>?_⟩⟩;have h2:=h1.cell (s':={R.sc with role:=2,next:=R.log.length}) m2 g2;have k2:=(h.ri.kz h.ri.jy g1).trans (h1.ri.kz h1.ri.jy g2);obtain⟨l,hl,hw⟩:=h2.ri.mt.walk;refine⟨_,_,h2.ri.mem,_,rfl,l,hl,λw3 it i3 g3 l3=>?_⟩;obtain⟨hm1,hm2⟩:=hw i3.nodup;have h3:=h2.ay g3;have u3:=h2.rU l3;have n3:¬Own br ⟨vm,wm,kn,mt,pp,ac,.slice la R.log.length lc,ob,sT,sM,sD,sO,sI⟩ it:=λe=>by have:=h2.ri.lt e;omega
 refine⟨λn s w'=>∃(todo:List (Int×Value)) (cur:Option (Int×Value)) (x:Nat),n=todo.length/\s=[(0,Ptt br),(22,Ptt it)]/\nS w' it mt l todo cur/\Wa Λ br {R with sc:={R.sc with role:=2,next:=x} } ⟨vm,wm,kn,mt,pp,ac,.slice la R.log.length lc,ob,sT,sM,sD,sO,sI⟩ w'/\Kz w w'/\R.log.length<=x/\x<=60/\(∀k v,R.met k=some v->k+1<=x\/∃v',((k:Int),v')∈todo)/\(x=R.log.length\/∃k v,R.met k=some v/\x=k+1)/\∀p∈todo,p∈l,⟨_,_,⟨l,none,R.log.length,rfl,rfl,i3,h3,k2.trans g3.kz,Jb0 _,Yl,λk v hk=>.inr (by obtain⟨v',h,_⟩:=hm2 k v hk;exact⟨v',h⟩),.inl rfl,λ_ h=>h⟩,sb rfl⟩,?_⟩;rintro n s w4 ⟨todo,cur,x,rfl,rfl,i4,h4,k4,hx1,hx2,hx3,hx4,hsub⟩;refine⟨mt,l,todo,cur,i4,λe0=>?_,?_⟩
 .subst e0
  have hx:jc R.met R.log.length=x:=WE (λk v hk=>(ho.mt k v hk).2.1) hx1 (λk v hk=>(hx3 k v hk).elim id (λh=>by obtain⟨_,h⟩:=h;cases h)) hx4;have eL:pz A R={eY A 61 R.log.length {R with sc:={R.sc with role:=2,next:=x} }with met:=λ_=>none}:=by unfold pz;rw[hx]
  have oL:=ho.Kt;rw[hx]at oL;refine⟨_,_,h4.ri.mem,_,rfl,.inl ⟨by omega,?_⟩⟩;refine⟨λn s w'=>∃(k:Nat) (R':MR),eY A 61 R.log.length {R with sc:={R.sc with role:=2,next:=x} }=eY A n k R'/\n+k=61+R.log.length/\k<=60/\s=[(0,Ptt br),(3,.int .u32 k)]/\Wk Λ br R' w'/\Ok A R'/\Kz w w'/\R'.out.length<=R.out.length+315*k,⟨_,_,⟨R.log.length,_,rfl,rfl,Yl,rfl,⟨_,h4⟩,oL,k4,Jbv _ _⟩,sb rfl⟩,?_⟩;rintro n s w5 ⟨k,R',em,en,hk,rfl,⟨a,h5⟩,o5,k5,hb5⟩;obtain⟨n,rfl⟩:∃m,n=m+1:=⟨n-1,by omega⟩;have hnx:=o5.nx;refine⟨_,_,h5.ri.mem,_,rfl,ah (λc=>?_) (λc=>?_)⟩
  .have c1:k<R'.sc.next:=by simp at c;omega
   have xO:=em.trans (TS c1);obtain⟨f,e1,e2,e3⟩:=h5.ri.kn;refine⟨_,_,h5.ri.mem,_,rfl,f,e1,λw6 b6 m6 g6 l6=>?_⟩;rcases kI e3 k with⟨n1,n2⟩|⟨y,v,n1,n2,rv,dv,rfl,hr⟩
   .rw[n2]
    refine⟨_,_,_,m6,rfl,rfl,λw7 m7 g7=>?_⟩;have xP:GB none w5 w7:=g6.new g7 l6;have h7:=h5.ay xP;obtain⟨f',xQ,e2',e3'⟩:=h7.ri.mt;have hout:R'.out.length<=870000:=by omega
    have q5:∀y:Nat,y<=R'.out.length+315->y<=R.out.length+315*(k+1):=λy hy=>Jb1 hy (Jb1 (Nat.add_le_add_right hb5 315) (by rw[Nat.mul_add];omega))
    rcases kI e3' k with⟨n1',n2'⟩|⟨y,v,n1',n2',rv,dv,rfl,hr⟩
    .refine⟨_,_,h7.ri.mem,_,rfl,f',xQ,?_⟩
     rw[n2'];have xO:_=eY A n (k+1) (iK A R' k nu):=xO.trans (by rw[n1,n1',Jb5 (by decide)];rfl);refine⟨_,IG HA ⟨_,h7⟩ o5 (s:=k) (by omega) HA.LZ (c:=nu) ⟨_,_,rfl,aS.zero _⟩ hout,?_⟩;rintro _ w8 ⟨rfl,h8,k8⟩;obtain⟨p1,p2,p3,p4⟩:=o5.prop HA (s:=k) (by omega) HA.LZ;exact⟨by omega,n,_,⟨k+1,iK A R' k nu,xO,by omega,by omega,rfl,h8,p1,(k5.trans xP.kz).trans k8,q5 _ p2⟩,(sb rfl),by omega⟩
    .obtain⟨ra,rn,rc,da,dn,dc,rfl,rfl⟩:=hr.sl
     refine⟨_,_,h7.ri.mem,_,rfl,f',xQ,?_⟩;rw[n2'];have xO:_=eY A n (k+1) (iK A R' k y.c):=xO.trans (by rw[n1,n1',Jb5 (by decide)];rfl);have hgc:=(o5.mt _ _ n1').1;refine⟨_,IG HA ⟨_,h7⟩ o5 (s:=k) (by omega) hgc (c:=y.c) ⟨.slice ra rn rc,.slice da dn dc,rfl,hr⟩ hout,?_⟩;rintro _ w8 ⟨rfl,h8,k8⟩;obtain⟨p1,p2,p3,p4⟩:=o5.prop HA (s:=k) (by omega) hgc;exact⟨by omega,n,_,⟨k+1,iK A R' k y.c,xO,by omega,by omega,rfl,h8,p1,(k5.trans xP.kz).trans k8,q5 _ p2⟩,(sb rfl),by omega⟩
   .rw[n2]
    rw[n1]at xO;obtain⟨ra,rn,rc,da,dn,dc,rfl,rfl⟩:=hr.sl;refine⟨_,_,_,m6,rfl,rfl,λw7 m7 g7=>?_⟩;have xP:GB none w5 w7:=g6.new g7 l6;exact⟨by omega,n,_,⟨k+1,R',xO,by omega,by omega,rfl,⟨_,h5.ay xP⟩,o5,k5.trans xP.kz,by omega⟩,(sb rfl),by omega⟩
  .have c1:¬k<R'.sc.next:=by simp at c;omega
   have xO:=em.trans (Oi c1);rw[eL,xO];obtain⟨f,e1,_⟩:=h5.ri.mt;refine⟨_,_,h5.ri.mem,_,rfl,f,e1,λw6 m6 g6=>?_⟩;exact⟨rfl,⟨_,h5.step h5.ri.nM g6 (h5.ri.TH g6 (bT.none m6))⟩,k5.trans (h5.ri.kz h5.ri.nM g6)⟩
 .rintro i ⟨pk,pv⟩ w5 hi i5 g5
  obtain⟨k,d,rfl,ny,_⟩:=hm1 _ (hsub _ (Jcv hi));have hil:i<todo.length:=(Jcn.1 hi).1;have tJ:=(ho.mt k d ny).2.1;have f4:∀c t,w4.heap[it]?≠some (.cells c t):=by
   intro c t hh;obtain⟨_,_,_,_,h⟩:=i4.it;rw[h]at hh;cases hh
  have h5:=h4.JF g5 n3 u3 f4;have IE:(if((k:Int)+1)>(x:Int)then((k:Int)+1)else(x:Int))=((max x (k+1):Nat):Int):=by split<;>omega
  refine⟨mt,l,_,_,i5,_,_,h5.ri.mem,_,rfl,by omega,_,_,p9 {R with sc:={R.sc with role:=2,next:=max x (k+1)} } ⟨vm,wm,kn,mt,pp,ac,.slice la R.log.length lc,ob,sT,sM,sD,sO,sI⟩,h5.ri.mem,rfl,by unfold p9;dsimp only;rw[<-IE];rfl,λw6 m6 g6=>?_⟩;have h6:=h5.cell (s':={R.sc with role:=2,next:=max x (k+1)}) m6 g6;have Yo:it≠br:=λe=>n3 (.inl e)
  have nmt:mt≠br:=iJ h5.ri.mt.obj h5.ri.uO;have Rb:it<w5.heap.size:=by obtain⟨_,_,_,_,h⟩:=i5.it;exact ae h
  refine⟨_,_,⟨todo.eraseIdx i,_,max x (k+1),rfl,rfl,i5.keep (g6.block _ Rb λe=>Yo (Jbm e)) (g6.block _ (h5.ri.lt h5.ri.nM) λe=>nmt (Jbm e)),h6,(k4.trans (g5.Ei λc t _=>f4 c t)).trans (h5.ri.kz h5.ri.jy g6),by omega,by omega,?_,?_,λp hp=>hsub p (Jdj hp)⟩,(sb rfl),?_⟩
  .intro k' v' hk'
   by_cases e:k'=k
   .exact .inl (by omega)
   .rcases hx3 k' v' hk' with h|⟨u,h⟩
    .exact .inl (by omega)
    .exact .inr ⟨u,mem_erase h hi λe'=>e (by have:=congrArg Prod.fst e';dsimp only at this;omega)⟩
  .by_cases hm:x<=k+1
   .exact .inr ⟨k,d,ny,by omega⟩
   .rw[show max x (k+1)=x by omega];exact hx4
  .rw[length_eraseIdx,Jb6 hil];omega
end
end
