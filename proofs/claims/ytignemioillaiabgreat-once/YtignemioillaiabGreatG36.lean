/- Lemmas. -/
import Derived.Test.YtignemioillaiabGreatG35
namespace Go.Proofs.YtignemioillaiabGreat
set_option maxHeartbeats 8000000
set_option maxRecDepth 100000
open List
section
open Go Go.Conc
theorem Xi{xs:List Value}{off:Nat}{q:ag}(h:off+7<=xs.length):Ce xs off 7 (.agg q.cells.toArray)=true:=by
 have h1:Nat.ble (off+7) xs.length=true:=Jca h;show(true&&true&&Nat.ble (off+7) xs.length)=true;rw[h1];rfl
section
variable{Λ:aB}{w0 w:World}{b:Nat}{s:St}
theorem acU(h:Sk Λ w0 b s w)(hs:fT s.T)(hl:s.T.length<=100000)(key val:Int):CY 160 #[Ptt b,.int .u64 key,.int .u64 val] w (λv w'=>v=.int .u8 (jD s.T key)/\Sk Λ w0 b {s with T:=jO s.T key val} w'):=by
 obtain⟨T,M,D,O,I,ls,h⟩:=h;refine aj Tryz.func160 rfl rfl ?_;refine⟨_,MO h.mem h.sa.t.fz (Jb1 hl (by decide)) hs key,?_⟩;rintro _ w1 ⟨rfl,g1⟩;replace h:=h.ay g1;unfold jD jO;obtain⟨a,ha⟩:∃a,iV s.T key=a:=⟨_,rfl⟩;rw[ha];cases a
 .obtain⟨Ta,Tc,rfl⟩:=af h.sa.t.own
  simp only[Jb9,Jba];refine⟨_,_,h.mem,_,rfl,ah (λe=>?_) (λe=>?_)⟩
  .have e1:=Ptq e
   rw[Jb6 (by omega),Jb6 (by omega)];exact⟨rfl,_,_,_,_,_,_,h⟩
  .have e1:=Ptx e
   rw[Jb5 (by omega),Jb5 (by omega)];refine⟨_,_,h.mem,_,rfl,λw2 b2 m2 g2 l2=>?_⟩;have h2:=h.ay g2;refine⟨_,aaf h2.sa.t hl (i:=uT s.T key) (DC _ _) (x:=⟨key,val⟩) m2 (λz=>by have:=h.sa.t.lt z;omega),?_⟩;rintro T' w3 ⟨L,g3,n3⟩;obtain⟨Ux,Uy,rfl⟩:=af L.own;refine⟨_,_,_,h2.bk h2.sa.t (by decide) g3,rfl,rfl,λw4 m4 g4=>?_⟩;exact⟨rfl,_,_,_,_,_,_,h2.jO L g3 n3 m4 g4⟩
 .obtain⟨x,hx,hx0⟩:=sK ha
  have hxk:x.key=key:=jq.1 hx0;have hi:uT s.T key<s.T.length:=(Jcn.1 hx).1;obtain⟨g,cap,cur,ev,hg,aR,hcut,hsz⟩:=h.sa.t.at (f:=Row.cells) (λ_=>rfl) hx;subst ev;refine⟨_,_,h.mem,_,rfl,by omega,_,_,_,aR,gT rfl rfl (by rw[Array.length_toList];show 0+((uT s.T key:Nat):Int).toNat*2+1<_;omega),rfl,λw2 m2 g2=>?_⟩;have L:=h.sa.t.set (f:=Row.cells) (j:=1) (x':=⟨key,val⟩) (λ_=>rfl) aR hx (by decide) (by rw[<-hxk];rfl) m2 (by show 0+((uT s.T key:Nat):Int).toNat*2+1=uT s.T key*2+1;rw[Jfa,Jbh]) rfl rfl g2;have mb:=h.bk h.sa.t (by decide) g2;rw[Jb6 rfl,Jb6 rfl];refine⟨rfl,_,_,_,_,_,_,h.jO (w1:=w2) (t':=s.T.set (uT s.T key) ⟨key,val⟩) (T':=.slice (Pty g) s.T.length cap) ?_ g2 (λx hx=>.inl hx) mb (GB.refl _ _)⟩;rw[Jgd]at L |-;exact L
theorem UC(h:Sk Λ w0 b s w)(hs:fT s.T)(hl:s.T.length<=100000)(key:Int):CY 161 #[Ptt b,.int .u64 key] w (λv w'=>v=.int .u8 2/\Sk Λ w0 b {s with T:=ug s.T key} w'):=by
 obtain⟨T,M,D,O,I,ls,h⟩:=h;refine aj Tryz.func161 rfl rfl ?_;refine⟨_,MO h.mem h.sa.t.fz (Jb1 hl (by decide)) hs key,?_⟩;rintro _ w1 ⟨rfl,g1⟩;replace h:=h.ay g1;unfold ug;obtain⟨a,ha⟩:∃a,iV s.T key=a:=⟨_,rfl⟩;rw[ha];cases a
 .exact⟨rfl,_,_,_,_,_,_,h⟩
 .obtain⟨x,hx,hx0⟩:=sK ha
  have hi:uT s.T key<s.T.length:=(Jcn.1 hx).1;refine⟨_,_,h.mem,_,rfl,by omega,_,aai h.sa.t hl hi,?_⟩;rintro T' w3 ⟨L,g3,n3⟩;obtain⟨Ux,Uy,rfl⟩:=af L.own;refine⟨_,_,_,h.bk h.sa.t (by decide) g3,rfl,rfl,λw4 m4 g4=>?_⟩;exact⟨rfl,_,_,_,_,_,_,h.jO L g3 n3 m4 g4⟩
theorem qx(h:Sk Λ w0 b s w)(hs:iM s.D)(hl:s.D.length<=100000)(q:ag):CY 163 #[Ptt b,.agg q.cells.toArray] w (λv w'=>v=.tuple #[]/\Sk Λ w0 b {s with D:=gH s.D q} w'):=by
 refine aj Tryz.func163 rfl rfl ?_;refine λw1 b1 m1 g1 l1=>?_
 obtain⟨hb,hu⟩:=h.box g1 m1 l1;obtain⟨T,M,D,O,I,ls,h⟩:=hb;refine⟨_,_,m1,q.cells,rfl,rfl,_,Uz h.mem h.sa.d.fz (Jb1 hl (by decide)) hs q,?_⟩;rintro _ w2 ⟨rfl,g2⟩;replace h:=h.ay g2;unfold gH;obtain⟨a,ha⟩:∃a,Fg s.D q=a:=⟨_,rfl⟩;rw[ha];cases a
 .simp only[Jb9,Jba]
  refine⟨by kernel_rfl,_,_,h.mem,_,rfl,_,_,h.at,q.cells,rfl,rfl,λw3 b3 m3 g3 l3=>?_⟩;have h3:=h.ay g3;refine⟨⟨h3.at,h3.mem,trivial⟩,_,aag h3.sa.d hl (i:=xV s.D q) (DC _ _) (x:=q) m3 (λz=>by have:=h.sa.d.lt z;omega),?_⟩;rintro D' w4 ⟨L,g4,n4⟩;obtain⟨YC,YD,rfl⟩:=af L.own;refine⟨_,_,_,h3.bk h3.sa.d (by decide) g4,rfl,rfl,λw5 m5 g5=>?_⟩;exact⟨rfl,_,_,_,_,_,_,(h3.Rp L g4 n4 m5 g5).drop hu⟩
 .obtain⟨x,hx,hx0⟩:=sK ha
  have hi:xV s.D q<s.D.length:=(Jcn.1 hx).1;obtain⟨g,cap,cur,ev,hg,aR,hcut,hsz⟩:=h.sa.d.at (f:=ag.cells) (λ_=>rfl) hx;subst ev;refine⟨by kernel_rfl,_,_,h.mem,_,rfl,_,_,h.at,q.cells,rfl,rfl,by omega,_,_,_,aR,Xi (by rw[Array.length_toList];show 0+((xV s.D q:Nat):Int).toNat*7+7<=_;omega),rfl,λw3 m3 g3=>?_⟩;have L:=h.sa.d.acS (f:=ag.cells) (x':=q) (λ_=>rfl) aR hi m3 (by show 0+((xV s.D q:Nat):Int).toNat*7=_;omega) rfl rfl g3;have mb:=h.bk h.sa.d (by decide) g3;rw[Jb6 rfl];refine⟨rfl,_,_,_,_,_,_,(h.Rp (w1:=w3) (d':=s.D.set (xV s.D q) q) (D':=.slice (Pty g) s.D.length cap) ?_ g3 (λx hx=>.inl hx) mb (GB.refl _ _)).drop hu⟩;rw[Jgd]at L |-;exact L
end
structure sP(s:St):Prop where
 g0:0<=s.g
 gn:s.g<s.n
 n4:s.n<=4
 sT:fT s.T
 sD:iM s.D
 CJ:jK s.M=true
 can:Can s.M
 ol:(s.O.length:Int)=s.n
 il:(s.I.length:Int)=s.n
section
variable{Λ:aB}{w0 w:World}{b:Nat}{s:St}{T M D O I:Value}{ls:List La}
theorem Sw.lane(h:Sw Λ w0 b s w T M D O I ls){j:Nat}{o:Int×List Rg}(ho:s.O[j]?=some o):∃l,ls[j]?=some l/\Pn l=o:=by
 rw[<-h.sa.core,Jdd]at ho;cases hl:ls[j]? with
 |none=>rw[hl]at ho;cases ho
 |some l=>rw[hl]at ho;exact⟨l,rfl,Jbm ho⟩
theorem Sw.ll(h:Sw Λ w0 b s w T M D O I ls):ls.length=s.O.length:=by rw[<-h.sa.core,Jf6]
theorem UD(h:Sw Λ w0 b s w T M D O I ls)(hk:sP s){q:aW}(h0:0<=q.key)(h1:q.key<=q.hi)(h2:q.hi<=18446744073709551615)(h3:0<=q.to):CY 191 #[Ptt b,.agg q.cells.toArray] w (λx w'=>GB none w w'/\∃a n c,x=.tuple #[.slice a n c,.bool (gP s q)]/\(gP s q=true->PN w w' (.slice a n c) (fC s.M q.key q.hi q.to))):=by
 obtain⟨c,sq,k,key,v,hi,to⟩:=q;obtain⟨j,rfl⟩:=Jgm h3;dsimp only at h0 h1 h2;have oI:=hk.n4;have hol:=hk.ol;refine aj Tryz.func191 rfl rfl ?_;refine λw1 b1 m1 g1 l1=>?_
 have h1':=h.ay g1;refine⟨by kernel_rfl,_,_,m1,.int .u8 j,rfl,_,_,h1'.mem,_,rfl,ah (λe=>?_) (λe=>?_)⟩
 .have e1:¬(j:Int)=s.g:=by have:=b01 e;simpa using this
  refine⟨_,_,m1,.int .u8 j,rfl,_,_,h1'.mem,_,rfl,ah (λe=>?_) (λe=>?_)⟩
  .have e2:(j:Int)<s.n:=by have:=Ptx (b01 e);omega
   obtain⟨o,ho⟩:∃o,s.O[j]?=some o:=⟨s.O[j]'(by omega),by simp[show j<s.O.length by omega]⟩;obtain⟨l,hl,hlo⟩:=h.lane ho;have hll:=h.ll;obtain⟨g,cap,cur,ev,hg,aR,hcut,hsz⟩:=h1'.sa.o.at (f:=nD) (λ_=>rfl) hl;subst ev;obtain⟨qa,qc,eq⟩:=af (h.sa.q l (Jcv hl)).q.own;have Fp:aP s.O (j:Int)=o:=by unfold aP;rw[Jfa,ho];rfl
   have acV:o.2.length=l.2.2.length:=by rw[<-hlo];simp
   obtain⟨nx,qv,rs⟩:=l;have eq:qv=.slice qa rs.length qc:=eq;subst eq;refine⟨_,_,h1'.mem,_,rfl,_,_,m1,.int .u8 j,rfl,by omega,_,_,aR,.slice qa rs.length qc,iU hcut rfl (by decide),ah (λe=>?_) (λe=>?_)⟩
   .have e3:=Ptq e
    have hfit:gP s ⟨c,sq,k,key,v,hi,j⟩=false:=by
     unfold gP;dsimp only;rw[Fp];simp[show ¬o.2.length<4 by dsimp only at acV;omega]
    rw[hfit];exact⟨g1,_,_,_,rfl,nofun⟩
   .have e3:=Ptx e
    have hM:Bl w1 M s.M:=h1'.sa.m.fz;refine⟨by kernel_rfl,_,_,h1'.mem,_,rfl,_,_,m1,.int .u64 key,rfl,_,_,m1,.int .u64 hi,rfl,_,_,m1,.int .u8 j,rfl,_,Pd hM hk.CJ hk.can h0 h1 h2 (by omega:(j:Int)<4),?_⟩;rintro _ w2 ⟨v',e',rfl,g2,hc⟩;rcases hc with⟨c1,rfl,P⟩|⟨c1,rfl,rfl⟩
    .obtain⟨va,vc,rfl⟩:=af P.own
     have hfit:gP s ⟨c,sq,k,key,v,hi,j⟩=decide ((fC s.M key hi j).length<=8):=by
      unfold gP;dsimp only;rw[Fp];simp[e1,e2,show o.2.length<4 by dsimp only at acV;omega]
     rw[hfit];refine⟨g1.trans g2,_,_,_,congrArg (λz=>Value.tuple #[_,.bool z]) ?_,λ_=>P.base g1⟩;exact decide_eq_decide.2 (by omega)
    .have hfit:gP s ⟨c,sq,k,key,v,hi,j⟩=false:=by
      unfold gP;dsimp only;simp[show ¬(fC s.M key hi j).length<=8 by omega]
     rw[hfit];exact⟨g1.trans g2,_,_,_,rfl,nofun⟩
  .have e2:¬(j:Int)<s.n:=by have:=Ptq (b00 e);omega
   have hfit:gP s ⟨c,sq,k,key,v,hi,j⟩=false:=by
    unfold gP;simp[e2]
   rw[hfit];exact⟨g1,_,_,_,rfl,nofun⟩
 .have e1:(j:Int)=s.g:=eq_of_beq (b00 e)
  have hfit:gP s ⟨c,sq,k,key,v,hi,j⟩=false:=by
   unfold gP;simp[e1]
  rw[hfit];exact⟨g1,_,_,_,rfl,nofun⟩
end
section
variable{Λ:aB}{w0 w w1 w':World}{b:Nat}{s:St}{T M D O I:Value}{ls:List La}
theorem QN.off{vo:Option Nat}{q:Value}{rs:List Ra}(h:QN w0 w q rs)(g:GB vo w w1)(h0:∀y,vo=some y->q.ownBlock≠some y)(h1:∀x∈rs,∀y,vo=some y->x.2.1.ownBlock≠some y)(h2:∀x∈rs,∀y,vo=some y->x.2.2.ownBlock≠some y)(gw:GB none w0 w1):QN w0 w1 q rs:=⟨h.q.off g h0 gw,λx hx=>(h.r x hx).off g (h1 x hx) (h2 x hx) gw⟩
theorem Sw.Xj(h:Sw Λ w0 b s w T M D O I ls){j:Nat}{nx nx':Int}{q q':Value}{rs rs':List Ra}(hl:ls[j]?=some (nx,q,rs))(g:GB q.ownBlock w w1)(Q:QN w0 w1 q' rs')(n:∀x,q'.ownBlock=some x->q.ownBlock=some x\/w.heap.size<=x)(sT:∀x∈rs',∀y,T.ownBlock=some y->x.2.1.ownBlock≠some y)(sD:∀x∈rs',∀y,D.ownBlock=some y->x.2.2.ownBlock≠some y)(hΛ:∀x∈rs',x∈rs\/∀y,x.2.1.ownBlock=some y\/x.2.2.ownBlock=some y->Λ y=none)(L:LN 62 2 w0 w' O (ls.set j (nx',q',rs')).length ((ls.set j (nx',q',rs')).map nD).flatten)(g2:GB O.ownBlock w1 w'):Sw Λ w0 b {s with O:=s.O.set j (nx',rs'.map (·.1))} w' T M D O I (ls.set j (nx',q',rs')):=by
 have hm:=Jcv hl;have hj:=(Jcn.1 hl).1;have hq:=h.sa.q _ hm;have ho:∀x,q.ownBlock=some x->AA b T D O I ls x:=λx hx=>.inr (.inr (.inr (.inr (.inr ⟨_,hm,hx⟩))))
 have gw:=h.YJ ho g;have mb:=h.bk hq.q (by decide) g;have t1:=h.sa.t.off g (bS hq.q h.sa.t (by decide)) gw;have m1:=h.sa.m.off g (bS hq.q h.sa.m (by decide)) gw;have d1:=h.sa.d.off g (bS hq.q h.sa.d (by decide)) gw;have i1:=h.sa.i.off g (bS hq.q h.sa.i (by decide)) gw;have o1:=h.sa.o.off g (bS hq.q h.sa.o (by decide)) gw;have JU:GB none w0 w':=L.gb;have mb2:Hl w' b (iP s T M D O I) 55:=g2.get mb λz=>by
  obtain⟨c,hc⟩:=au o1.own z.symm;exact dw hc mb (by decide) rfl
 have ql:∀k l,k≠j->ls[k]?=some l->QN w0 w' l.2.1 l.2.2:=λk l hk hkl=>by
  have hlm:=Jcv hkl;have hlq:=h.sa.q l hlm;have a1:QN w0 w1 l.2.1 l.2.2:=hlq.off g (h.sa.sQ j k _ l hk.symm hl hkl) (λx hx=>bS hq.q (hlq.r x hx).r (by decide)) (λx hx=>bS hq.q (hlq.r x hx).d (by decide)) gw;exact a1.off g2 (bS o1 a1.q (by decide)) (λx hx=>bS o1 (a1.r x hx).r (by decide)) (λx hx=>bS o1 (a1.r x hx).d (by decide)) JU
 have Q2:QN w0 w' q' rs':=Q.off g2 (bS o1 Q.q (by decide)) (λx hx=>bS o1 (Q.r x hx).r (by decide)) (λx hx=>bS o1 (Q.r x hx).d (by decide)) JU;have mem':∀l∈ls.set j (nx',q',rs'),l=(nx',q',rs')\/∃k,k≠j/\ls[k]?=some l:=λl hl'=>by
  obtain⟨k,hk⟩:=Jgh hl';rw[jr hj]at hk;split at hk
  .exact .inl (Jbm hk).symm
  .exact .inr ⟨k,by assumption,hk⟩
 refine⟨mb2,h.nb,⟨t1.off g2 (bS o1 t1 (by decide)) JU,m1.off g2 (bS o1 m1 (by decide)) JU,d1.off g2 (bS o1 d1 (by decide)) JU,L,i1.off g2 (bS o1 i1 (by decide)) JU,λl hl'=>?_,?_,λl hl'=>?_,λl hl'=>?_,λi k l l' hik hi hk y hy he=>?_⟩,λx o hx=>⟨?_,λhs=>?_⟩,λx o hx hr=>?_⟩
 .rcases mem' l hl' with rfl|⟨k,hk,hkl⟩
  .exact Q2
  .exact ql k l hk hkl
 .show(ls.set j (nx',q',rs')).map Pn=s.O.set j (nx',rs'.map (·.1))
  rw[map_set,h.sa.core]
 .rcases mem' l hl' with rfl|⟨k,hk,hkl⟩
  .exact sT
  .exact h.sa.sT l (Jcv hkl)
 .rcases mem' l hl' with rfl|⟨k,hk,hkl⟩
  .exact sD
  .exact h.sa.sD l (Jcv hkl)
 .rw[jr hj]at hi hk
  split at hi
  .cases hi
   split at hk
   .omega
   .rcases n y hy with z|z
    .exact h.sa.sQ j k _ l' (by omega) hl hk y z he
    .have:=(h.sa.q l' (Jcv hk)).q.lt he;omega
  .split at hk
   .cases hk
    rcases n y he with z|z
    .exact h.sa.sQ i j l _ (by omega) hi hl y hy z
    .have:=(h.sa.q l (Jcv hi)).q.lt hy;omega
   .exact h.sa.sQ i k l l' hik hi hk y hy he
 .exact g2.get (h.YI ho g x o hx) λe=>(h.pr x o hx).2 (.inr (.inr (.inr (.inl e.symm))))
 .rcases hs with hs|hs|hs|hs|hs|⟨l,hl',hs⟩
  .exact(h.pr x o hx).2 (.inl hs)
  .exact(h.pr x o hx).2 (.inr (.inl hs))
  .exact(h.pr x o hx).2 (.inr (.inr (.inl hs)))
  .exact(h.pr x o hx).2 (.inr (.inr (.inr (.inl hs))))
  .exact(h.pr x o hx).2 (.inr (.inr (.inr (.inr (.inl hs)))))
  .rcases mem' l hl' with rfl|⟨k,hk,hkl⟩
   .rcases n x hs with z|z
    .exact(h.pr x o hx).2 (ho x z)
    .have:=ae (h.pr x o hx).1;omega
   .exact(h.pr x o hx).2 (.inr (.inr (.inr (.inr (.inr ⟨l,Jcv hkl,hs⟩)))))
 .rcases hr with hr|⟨l,hl',y,hy,hr⟩
  .exact h.rd x o hx (.inl hr)
  .rcases mem' l hl' with rfl|⟨k,hk,hkl⟩
   .rcases hΛ y hy with z|z
    .exact h.rd x o hx (.inr ⟨_,hm,y,z,hr⟩)
    .rw[z x hr]at hx;cases hx
   .exact h.rd x o hx (.inr ⟨l,Jcv hkl,y,hy,hr⟩)
theorem Sw.ahm(h:Sw Λ w0 b s w T M D O I ls){i':List Int}(L:LN 59 1 w0 w' I i'.length (i'.map λi=>Value.int .u32 i))(g:GB I.ownBlock w w'):Sw Λ w0 b {s with I:=i'} w' T M D O I ls:=by
 have ho:∀x,I.ownBlock=some x->AA b T D O I ls x:=λx hx=>.inr (.inr (.inr (.inr (.inl hx))))
 have gw:=h.YJ ho g;have mb:=h.bk h.sa.i (by decide) g;refine⟨mb,h.nb,⟨h.sa.t.off g (bS h.sa.i h.sa.t (by decide)) gw,h.sa.m.off g (bS h.sa.i h.sa.m (by decide)) gw,h.sa.d.off g (bS h.sa.i h.sa.d (by decide)) gw,h.sa.o.off g (bS h.sa.i h.sa.o (by decide)) gw,L,λl hl=>(h.sa.q l hl).off g (bS h.sa.i (h.sa.q l hl).q (by decide)) (λx hx=>bS h.sa.i ((h.sa.q l hl).r x hx).r (by decide)) (λx hx=>bS h.sa.i ((h.sa.q l hl).r x hx).d (by decide)) gw,h.sa.core,h.sa.sT,h.sa.sD,h.sa.sQ⟩,λx o hx=>⟨h.YI ho g x o hx,(h.pr x o hx).2⟩,h.rd⟩
end
section
variable{Λ:aB}{w0 w:World}{b:Nat}{s:St}
theorem Xk(sq:Int)(rs:List Ra):(rs.filter (iD sq)).map (·.1)=keepR sq (rs.map (·.1)):=by
 unfold keepR;rw[filter_map];rfl
theorem UE(h:Sk Λ w0 b s w)(hk:sP s)(hz:∀o∈s.O,o.2.length<=100000){peer sq:Int}(h0:0<=peer):CY 63 #[Ptt b,.int .u8 peer,.int .u32 sq] w (λv w'=>v=.tuple #[]/\Sk Λ w0 b (lY s peer sq) w'):=by
 obtain⟨j,rfl⟩:=Jgm h0;have hol:=hk.ol;have oI:=hk.n4;refine aj Tryz.func63 rfl rfl ?_;refine λw1 b1 m1 g1 l1=>?_
 obtain⟨hb,hu⟩:=h.box g1 m1 l1;obtain⟨T,M,D,O,I,ls,h⟩:=hb;unfold lY;refine⟨_,_,h.mem,_,rfl,ah (λe=>?_) (λe=>?_)⟩
 .have e1:=Ptq e
  rw[Jb5 (by omega)];exact⟨rfl,_,_,_,_,_,_,h.drop hu⟩
 .have e1:=Ptx e
  rw[Jb6 (by omega),Jfa];obtain⟨o,ho⟩:∃o,s.O[j]?=some o:=⟨s.O[j]'(by omega),by simp[show j<s.O.length by omega]⟩;obtain⟨l,hl,hlo⟩:=h.lane ho;have hll:=h.ll;obtain⟨g,cap,cur,ev,hg,aR,hcut,hsz⟩:=h.sa.o.at (f:=nD) (λ_=>rfl) hl;subst ev;have hq:=h.sa.q l (Jcv hl);obtain⟨qa,qc,eq⟩:=af hq.q.own;have Fp:aP s.O (j:Int)=o:=by unfold aP;rw[Jfa,ho];rfl
  have hz':=hz o (Jcv ho);rw[Fp,<-hlo];have hrl:l.2.2.length<=100000:=by rw[<-hlo]at hz';simpa using hz'
  obtain⟨nx,qv,rs⟩:=l;have eq:qv=.slice qa rs.length qc:=eq;subst eq;dsimp only at hq hrl;refine⟨_,_,h.mem,_,rfl,by omega,?_⟩;have hc1:cur.toList[0+(j:Int).toNat*2+1]?=some (.slice qa rs.length qc):=iU hcut rfl (by decide);refine⟨_,_,aR,.slice qa rs.length qc,hc1,_,aan h.at hq hrl,?_⟩;rintro q' w2 ⟨Q,g2,n2⟩;obtain⟨wY,vK,rfl⟩:=af Q.q.own;have hne:(Value.slice qa rs.length qc).ownBlock≠some g:=λz=>bS hq.q h.sa.o (by decide) g z rfl
  have YK:w2.heap[g]?=some (.cells cur 62):=g2.get aR λz=>hne z.symm
  have JU:GB none w0 w2:=Q.q.gb;have O2:=h.sa.o.off g2 (bS hq.q h.sa.o (by decide)) JU;refine⟨_,_,_,YK,gT rfl rfl (by rw[Array.length_toList];show 0+(j:Int).toNat*2+1<_;omega),rfl,λw3 m3 g3=>?_⟩;have L3:=O2.set (f:=nD) (j:=1) (x':=(nx,.slice wY _ vK,rs.filter (iD sq))) (λ_=>rfl) YK hl (by decide) rfl m3 (by show 0+(j:Int).toNat*2+1=j*2+1;rw[Jfa,Jbh]) rfl rfl g3;have hmm:=Jcv hl;have L3':LN 62 2 w0 w3 (.slice (Pty g) ls.length cap) (ls.set j (nx,Value.slice wY (rs.filter (iD sq)).length vK,rs.filter (iD sq))).length ((ls.set j (nx,Value.slice wY (rs.filter (iD sq)).length vK,rs.filter (iD sq))).map nD).flatten:=by
   have:=L3;rw[Jgd]at this |-;exact this
  have S:=h.Xj hl g2 Q (λx hx=>.inl (n2.symm.trans hx)) (λx hx=>h.sa.sT _ hmm x (mem_filter.1 hx).1) (λx hx=>h.sa.sD _ hmm x (mem_filter.1 hx).1) (λx hx=>.inl (mem_filter.1 hx).1) L3' g3;rw[Xk]at S;exact⟨rfl,_,_,_,_,_,_,S.drop hu⟩
end
def DI(s:St)(q:aW):St:={s with T:=Av s.T q.key q.hi,D:=Aw s.D q.key q.hi,O:=s.O.set q.to.toNat ((aP s.O q.to).1+1,(aP s.O q.to).2++[yG s.g q.to (aP s.O q.to).1 q.key q.hi s.T s.D])}
theorem Rq{α:Type}(v1 v2:Value)(a b:List α):(([(v1,a),(v2,b)]:List (Value×List α)).map (·.2)).flatten=a++b:=by simp
theorem KC{α:Type}(f:α->Int)(lo hi:Int)(l:List α):(sB f lo l).length<=l.length/\(sW f lo hi l).length<=l.length/\(sA f lo hi l).length<=l.length:=⟨Jff _ _,Jff _ _,Jff _ _⟩
theorem aB.none{Λ:aB}{b x:Nat}{o o':Obj}(h:(Λ.add b o) x=none):(Λ.add b o') x=none:=by
 unfold aB.add at h |-;split at h
 .cases h
 .rename_i e;rw[Jb5 e];exact h
section
variable{Λ:aB}{w0 w:World}{b:Nat}{s:St}
theorem Ol(h:Sk Λ w0 b s w)(hk:sP s)(hT:s.T.length<=100000)(hD:s.D.length<=100000){q:aW}(h3:0<=q.to)(h4:q.to<s.n)(hq4:(aP s.O q.to).2.length<=1000)(hnx:0<=(aP s.O q.to).1/\(aP s.O q.to).1<4294967295):CY 192 #[Ptt b,.agg q.cells.toArray] w (λv w'=>v=.tuple #[]/\Sk Λ w0 b (DI s q) w'):=by
 obtain⟨c,sq,k,key,v,hi,to⟩:=q;obtain⟨j,rfl⟩:=Jgm h3;dsimp only at h4 hq4 hnx;have oI:=hk.n4;have hol:=hk.ol;obtain⟨o,ho⟩:∃o,s.O[j]?=some o:=⟨s.O[j]'(by omega),by simp[show j<s.O.length by omega]⟩;have Fp:aP s.O (j:Int)=o:=by unfold aP;rw[Jfa,ho];rfl
 rw[Fp]at hq4 hnx;refine aj Tryz.func192 rfl rfl ?_;refine λw1 b1 m1 g1 l1=>?_
 have hs0:w0.heap.size<=w.heap.size:=by obtain⟨_,_,_,_,_,_,h⟩:=h;exact h.gb.size
 obtain⟨hb,hu⟩:=h.box g1 m1 l1;obtain⟨T,M,D,O,I,ls,h⟩:=hb;have n1:w0.heap.size<=b1:=Jb1 hs0 l1;obtain⟨l,hl,hlo⟩:=h.lane ho;have hll:=h.ll;obtain⟨g,cap,cur,ev,hg,aR,hcut,hsz⟩:=h.sa.o.at (f:=nD) (λ_=>rfl) hl;subst ev;obtain⟨nx,qv,rs⟩:=l;obtain⟨qa,qc,eq⟩:=af (h.sa.q _ (Jcv hl)).q.own;have eq:qv=.slice qa rs.length qc:=eq;subst eq;have enx:o.1=nx:=by rw[<-hlo]
 have Gq:o.2=rs.map (·.1):=by rw[<-hlo]
 have hc0:cur.toList[0+(j:Int).toNat*2+0]?=some (.int .u32 nx):=iU hcut rfl (by decide);refine⟨by kernel_rfl,_,_,h.mem,_,rfl,_,_,h.at,.int .u8 j,rfl,by omega,?_⟩;refine⟨by kernel_rfl,_,_,h.mem,_,rfl,_,_,h.at,.int .u8 j,rfl,_,_,aR,.int .u32 nx,hc0,_,_,h.at,.int .u64 key,rfl,_,_,h.at,.int .u64 hi,rfl,λw2 b5 m5 g2 l2=>?_⟩;refine⟨⟨g2.get h.at nofun,g2.get h.at nofun,g2.get aR nofun,g2.get h.at nofun,g2.get h.mem nofun,trivial⟩,_,_,_,m5,rfl,rfl,λw3 m6 g3=>?_⟩;replace m6:Hl w3 b5 (fB ⟨s.g,j,nx,key,hi,[],[]⟩ Ptz Ptz) 78:=m6;have hu5:=h.rU l2;have n5:w0.heap.size<=b5:=Jb1 h.gb.size l2;replace h:=h.box (g2.new g3 l2) m6 l2;clear aR hcut hsz hc0 m5 m6 g2 g3;obtain⟨f1,f2,f3⟩:=KC (λx:Row=>x.key) key hi s.T;obtain⟨e1,e2,e3⟩:=KC (λx:ag=>x.key) key hi s.D;refine⟨by kernel_rfl,_,_,h.mem,_,rfl,_,_,h.at,.int .u64 key,rfl,_,_,h.at,.int .u64 hi,rfl,_,JP rfl rfl rfl h.sa.t.fz (Jb1 hT (by decide)) key hi,?_⟩;rintro _ w4 ⟨v1,v2,v3,rfl,L1,L2,L3,sp⟩;obtain⟨a1,c1,rfl⟩:=af L1.own;obtain⟨a2,c2,rfl⟩:=af L2.own;obtain⟨a3,c3,rfl⟩:=af L3.own;have u2:∀x,(Value.slice a2 (sW (λx:Row=>x.key) key hi s.T).length c2).ownBlock=some x->(((Λ.add b1 _).add b5 _):aB) x=none:=λx hx=>h.rU (L2.new x hx)
 replace L2:=L2.base h.gb;replace h:=h.ay L1.gb;refine λw5 vb CK g5 MU=>?_
 replace h:=h.ay g5;replace L2:=L2.ay g5;refine⟨_,GY rfl (xs:=[(_,sB (λx:Row=>x.key) key s.T),(_,sA (λx:Row=>x.key) key hi s.T)]) CK ?_ (by rw[show jP _=_ from Rq _ _ _ _,Jc6];omega) (by show 2<=100;decide),?_⟩
 .intro x hx
  simp only[Jb3,Jbw,Jbx]at hx;rcases hx with rfl|rfl
  .exact(L1.ay g5).fz
  .exact(L3.ay g5).fz
 intro T' w6 LT;rw[show jP [_,_]=_ from Rq _ _ _ _]at LT;have b2:∀x,T'.ownBlock=some x->(Value.slice a2 (sW (λx:Row=>x.key) key hi s.T).length c2).ownBlock≠some x:=λx hx he=>by
  have:=LT.new x hx;have:=L2.lt he;omega
 obtain⟨ta,tc,rfl⟩:=af LT.own;refine⟨_,_,_,LT.gb.get h.mem nofun,rfl,rfl,λw7 m7 g7=>?_⟩;have Pt:w6.heap[b]?=_:=LT.gb.get h.mem nofun;replace L2:=(L2.ay LT.gb).bU g7 Pt (by decide) h.nb;replace h:=h.jO (t':=Av s.T key hi) (LT.base h.gb) LT.gb.weak (λx hx=>.inr (LT.new x hx)) m7 g7;refine⟨_,_,_,h.at,rfl,rfl,λw8 m8 g8=>?_⟩;replace m8:Hl w8 b5 (fB ⟨s.g,j,nx,key,hi,sW (λx:Row=>x.key) key hi s.T,[]⟩ (.slice a2 _ c2) Ptz) 78:=m8;replace L2:=L2.bU g8 h.at (by decide) n5;replace h:=h.other hu5 g8 m8 n5;clear m7 g7 m8 g8 Pt L1 L3 LT CK g5 MU sp;refine⟨by kernel_rfl,_,_,h.mem,_,rfl,_,_,h.at,.int .u64 key,rfl,_,_,h.at,.int .u64 hi,rfl,_,JQ rfl rfl rfl h.sa.d.fz (Jb1 hD (by decide)) key hi,?_⟩;rintro _ w4 ⟨v1,v4,v3,rfl,L1,L4,L3,sp⟩;obtain⟨a1,c1,rfl⟩:=af L1.own;obtain⟨a4,c4,rfl⟩:=af L4.own;obtain⟨a3,c3,rfl⟩:=af L3.own;have u4:∀x,(Value.slice a4 (sW (λx:ag=>x.key) key hi s.D).length c4).ownBlock=some x->(((Λ.add b1 _).add b5 _):aB) x=none:=λx hx=>h.rU (L4.new x hx)
 replace L4:=L4.base h.gb;replace h:=h.ay L1.gb;replace L2:=L2.ay L1.gb;refine λw5 vb CK g5 MU=>?_
 replace h:=h.ay g5;replace L2:=L2.ay g5;replace L4:=L4.ay g5;refine⟨_,GZ rfl (xs:=[(_,sB (λx:ag=>x.key) key s.D),(_,sA (λx:ag=>x.key) key hi s.D)]) CK ?_ (by rw[show jP _=_ from Rq _ _ _ _,Jc6];omega) (by show 2<=100;decide),?_⟩
 .intro x hx
  simp only[Jb3,Jbw,Jbx]at hx;rcases hx with rfl|rfl
  .exact(L1.ay g5).fz
  .exact(L3.ay g5).fz
 intro D' w6 LD;rw[show jP [_,_]=_ from Rq _ _ _ _]at LD;have b4:∀x,D'.ownBlock=some x->(Value.slice a4 (sW (λx:ag=>x.key) key hi s.D).length c4).ownBlock≠some x:=λx hx he=>by
  have:=LD.new x hx;have:=L4.lt he;omega
 obtain⟨da,dc,rfl⟩:=af LD.own;refine⟨_,_,_,LD.gb.get h.mem nofun,rfl,rfl,λw7 m7 g7=>?_⟩;have Pt:w6.heap[b]?=_:=LD.gb.get h.mem nofun;replace L2:=(L2.ay LD.gb).bU g7 Pt (by decide) h.nb;replace L4:=(L4.ay LD.gb).bU g7 Pt (by decide) h.nb;replace h:=h.Rp (d':=Aw s.D key hi) (LD.base h.gb) LD.gb.weak (λx hx=>.inr (LD.new x hx)) m7 g7;refine⟨_,_,_,h.at,rfl,rfl,λw8 m8 g8=>?_⟩;replace m8:Hl w8 b5 (fB (yG s.g j nx key hi s.T s.D) (.slice a2 _ c2) (.slice a4 _ c4)) 78:=m8;replace L2:=L2.bU g8 h.at (by decide) n5;replace L4:=L4.bU g8 h.at (by decide) n5;replace h:=h.other hu5 g8 m8 n5;clear m7 g7 m8 g8 Pt L1 L3 LD CK g5 MU sp;obtain⟨g',cap',cur,ev,hg',aR,hcut,hsz⟩:=h.sa.o.at (f:=nD) (λ_=>rfl) hl;injection ev with ea _ ec;injection ea with ea;injection ea with ea;subst ea ec;have hq:=h.sa.q _ (Jcv hl);dsimp only at hq;have hrl:rs.length<=1000:=by rw[Gq,Jf6]at hq4;exact hq4
 have hc1:cur.toList[0+(j:Int).toNat*2+1]?=some (.slice qa rs.length qc):=iU hcut rfl (by decide);refine⟨by kernel_rfl,_,_,aR,.slice qa rs.length qc,hc1,_,_,h.at,fB (yG s.g j nx key hi s.T s.D) (.slice a2 _ c2) (.slice a4 _ c4),rfl,rfl,λw9 b9 m9 g9 l9=>?_⟩;have CL:=hq.ay g9;refine⟨⟨g9.get h.at nofun,g9.get aR nofun,trivial⟩,_,fB (yG s.g j nx key hi s.T s.D) (.slice a2 _ c2) (.slice a4 _ c4),CL.q.own,⟨_,_,m9,rfl,rfl,rfl⟩,by omega,λq' qi acX g10 n10=>?_⟩;have L10:=CL.q.app acX g10 n10;obtain⟨wY,vK,rfl⟩:=af acX;have Rs:=L10.gb;have tR:∀x∈rs,tL w0 qi x:=λx hx=>(CL.r x hx).off g10 (bS CL.q (CL.r x hx).r (by decide)) (bS CL.q (CL.r x hx).d (by decide)) Rs
 have r2:=(L2.ay g9).off g10 (bS CL.q (L2.ay g9) (by decide)) Rs;have r4:=(L4.ay g9).off g10 (bS CL.q (L4.ay g9) (by decide)) Rs;have Q10:QN w0 qi (.slice wY (rs.length+1) vK) (rs++[(yG s.g j nx key hi s.T s.D,.slice a2 (sW (λx:Row=>x.key) key hi s.T).length c2,.slice a4 (sW (λx:ag=>x.key) key hi s.D).length c4)]):=by
  refine⟨?_,λx hx=>?_⟩
  .rw[Jc6,Jda,Jfr]
   simpa using(show LN 78 7 w0 qi _ _ _ from L10)
  .rcases Jdc.1 hx with hx|hx
   .exact tR x hx
   .rw[Jg6]at hx
    subst hx;exact⟨r2,r4⟩
 have UF:qi.heap[g]?=some (.cells cur 62):=g10.get (g9.get aR nofun) λz=>by
  obtain⟨c',hc'⟩:=au CL.q.own z.symm;exact dw hc' (g9.get aR nofun) (by decide) rfl
 have O10:=(h.ay g9).sa.o.off g10 (bS CL.q (h.ay g9).sa.o (by decide)) Rs;refine⟨_,_,_,UF,gT rfl rfl (by rw[Array.length_toList];show 0+(j:Int).toNat*2+1<_;omega),rfl,λEt m11 g11=>?_⟩;have L11:=O10.set (f:=nD) (j:=1) (x':=(nx,.slice wY (rs.length+1) vK,rs++[(yG s.g j nx key hi s.T s.D,.slice a2 (sW (λx:Row=>x.key) key hi s.T).length c2,.slice a4 (sW (λx:ag=>x.key) key hi s.D).length c4)])) (λ_=>rfl) UF hl (by decide) rfl m11 (by show 0+(j:Int).toNat*2+1=j*2+1;rw[Jfa,Jbh]) rfl rfl g11;generalize hrs:rs++[(yG s.g j nx key hi s.T s.D,Value.slice a2 (sW (λx:Row=>x.key) key hi s.T).length c2,Value.slice a4 (sW (λx:ag=>x.key) key hi s.D).length c4)]=rs' at *;rw[Jgd]at L11;have S:=(h.ay g9).Xj (nx':=nx) hl g10 Q10 (λx hx=>n10.own x hx) (λx hx=>?_) (λx hx=>?_) (λx hx=>?_) (by rw[Jgd];exact L11) g11;rotate_left
 .rw[<-hrs]at hx
  rcases Jdc.1 hx with hx|hx
  .exact h.sa.sT _ (Jcv hl) x hx
  .rw[Jg6]at hx
   subst hx;exact b2
 .rw[<-hrs]at hx
  rcases Jdc.1 hx with hx|hx
  .exact h.sa.sD _ (Jcv hl) x hx
  .rw[Jg6]at hx
   subst hx;exact b4
 .rw[<-hrs]at hx
  rcases Jdc.1 hx with hx|hx
  .exact .inl hx
  .rw[Jg6]at hx
   subst hx;exact .inr λy hy=>hy.elim (λz=>aB.none (u2 y z)) (λz=>aB.none (u4 y z))
 have hl':(ls.set j (nx,Value.slice wY (rs.length+1) vK,rs'))[j]?=some (nx,.slice wY (rs.length+1) vK,rs'):=by rw[jr (by omega),Jb6 rfl]
 obtain⟨g',cap',cur',ev,hg',uB,hcut',hsz'⟩:=S.sa.o.at (f:=nD) (λ_=>rfl) hl';rw[Jgd]at ev hsz';injection ev with ea _ ec;injection ea with ea;injection ea with ea;subst ea ec;have hc0:cur'.toList[0+(j:Int).toNat*2+0]?=some (.int .u32 nx):=iU hcut' rfl (by decide);refine⟨_,_,uB,.int .u32 nx,hc0,by omega,_,_,_,uB,gT rfl rfl (by rw[Array.length_toList];show 0+(j:Int).toNat*2+0<_;omega),rfl,λYL m12 g12=>?_⟩;have O11:=S.sa.o;rw[Jgd]at O11;have L12:=(show LN 62 2 w0 Et (.slice (Pty g) (ls.set j (nx,Value.slice wY (rs.length+1) vK,rs')).length cap) (ls.set j (nx,Value.slice wY (rs.length+1) vK,rs')).length _ by rw[Jgd];exact O11).set (f:=nD) (j:=0) (x':=(nx+1,.slice wY (rs.length+1) vK,rs')) (λ_=>rfl) uB hl' (by decide) rfl m12 (by show 0+(j:Int).toNat*2+0=j*2+0;rw[Jfa,Jbh]) rfl rfl g12;rw[Jgd,Jgd]at L12;have hmm:=Jcv hl';have S2:=S.Xj (nx':=nx+1) hl' (GB.refl _ _) (S.sa.q _ hmm) (λx hx=>.inl hx) (S.sa.sT _ hmm) (S.sa.sD _ hmm) (λx hx=>.inl hx) (by rw[Jgd,Jgd];exact L12) g12;have hfin:DI s ⟨c,sq,k,key,v,hi,j⟩={s with T:=Av s.T key hi,D:=Aw s.D key hi,O:=(s.O.set j (nx,rs'.map (·.1))).set j (nx+1,rs'.map (·.1))}:=by
  unfold DI;dsimp only;rw[Fp,Jfa,set_set,enx,Gq,<-hrs,Jda];rfl
 rw[hfin];exact⟨rfl,_,_,_,_,_,_,(S2.drop hu5).drop hu⟩
end
theorem aB.eq(Λ:aB)(b:Nat)(o:Obj):(Λ.add b o) b=some o:=by unfold aB.add;simp
theorem aB.ne{Λ:aB}{b x:Nat}{o:Obj}(h:x≠b):(Λ.add b o) x=Λ x:=by unfold aB.add;rw[Jb5 h]
section
variable{Λ Λ':aB}{w0 w w':World}{b:Nat}{s:St}
theorem Sk.g(h:Sk Λ w0 b s w){x:Nat}{o:Obj}(hx:Λ x=some o):w.heap[x]?=some o:=by obtain⟨_,_,_,_,_,_,h⟩:=h;exact(h.pr x o hx).1
theorem Sk.sz(h:Sk Λ w0 b s w):w0.heap.size<=w.heap.size:=by obtain⟨_,_,_,_,_,_,h⟩:=h;exact h.gb.size
theorem Sk.weak(h:Sk Λ' w0 b s w)(hw:∀x o,Λ x=some o->Λ' x=some o):Sk Λ w0 b s w:=by
 obtain⟨T,M,D,O,I,ls,h⟩:=h;exact⟨T,M,D,O,I,ls,h.mem,h.nb,h.sa,λx o hx=>h.pr x o (hw x o hx),λx o hx=>h.rd x o (hw x o hx)⟩
theorem Sk.over(h:Sk Λ w0 b s w){x t:Nat}{c:Array Value}{o':Obj}(hx:Λ x=some (.cells c t))(g:GB (some x) w w')(m:w'.heap[x]?=some o')(hn:w0.heap.size<=x):Sk (Λ.add x o') w0 b s w':=by
 obtain⟨T,M,D,O,I,ls,h⟩:=h;obtain⟨Λ0,h0,e⟩:∃Λ0:aB,Λ0 x=none/\Λ=Λ0.add x (.cells c t):=⟨λy=>if y=x then none else Λ y,by simp,by
  funext y
  unfold aB.add;split
  .rename_i e;rw[e];exact hx
  .rename_i e;simp[e]⟩
 rw[e]at h;have h1:=h.other h0 g m hn;have e2:Λ.add x o'=Λ0.add x o':=by
  funext y
  rw[e];unfold aB.add;split<;>rfl
 rw[e2];exact⟨T,M,D,O,I,ls,h1⟩
theorem wrap_u32{x:Int}(h:0<=x/\x<4294967296):IntKind.u32.wrap x=x:=by
 show x%4294967296=x;omega
structure Fq(s:St):Prop where
 t:s.T.length<=100000
 d:s.D.length<=90000
 q:∀o∈s.O,o.2.length<=100/\0<=o.1/\o.1<4294967295
def AB(s:St)(q:aW)(p:ag):St×ag:=if gP s q=true then({DI {s with D:=gH s.D {p with k:=2} } q with M:=fC s.M q.key q.hi q.to},{p with k:=2})else({s with D:=gH s.D {p with k:=5} },{p with k:=5})
end
end
