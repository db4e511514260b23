/- Lemmas. -/
import Derived.Test.YtignemioillaiabGreatG48
namespace Go.Proofs.YtignemioillaiabGreat
set_option maxHeartbeats 8000000
set_option maxRecDepth 100000
open List
section
open Go Go.Conc
theorem uV{w:World}{e:TypeId}{size n:Nat}{v:Value}{xs x:List Value}(h:w.ownsRow 0 e size v n xs){k:Nat}(hk:k<n)(hx:aG xs (k*size) size=x):∃gb cap cur,v=.slice (Pty gb) n cap/\w.heap[gb]?=some (.cells cur e)/\aG cur.toList (k*size) size=x:=by
 obtain⟨gb,cap,cur,ev,aR,htk,_,_⟩:=j5 h (by omega);refine⟨gb,cap,cur,ev,aR,?_⟩;have:(k+1)*size<=n*size:=Jcr _ hk;rw[<-hx,<-htk];unfold aG;rw[Jfj,Jd5,Jd7 (by rw[Nat.add_mul]at this;omega)]
theorem vZ.el{w:World}{v:Value}{l:List St}(h:vZ w v l){k:Nat}{s:St}(hs:l[k]?=some s):∃gb cap cur x,v=.slice (Pty gb) l.length cap/\w.heap[gb]?=some (.cells cur 55)/\aG cur.toList (k*7) 7=kU s x/\ShAt w x s:=by
 obtain⟨vs,v1,v2,v3⟩:=h;have hk:k<l.length:=(Jcn.1 hs).1;obtain⟨x,hx⟩:∃x,vs[k]?=some x:=⟨vs[k]'(by omega),by simp[v1,hk]⟩;obtain⟨gb,cap,cur,e1,e2,e3⟩:=uV v2 hk (TT (F:=kU) (λ_ _=>rfl) hs hx);exact⟨gb,cap,cur,x,e1,e2,e3,v3 k s x hs hx⟩
theorem pG.el{w:World}{v:Value}{l:List (List MC×List St×List ag)}(h:pG w v l){k:Nat}{f:List MC×List St×List ag}(hs:l[k]?=some f):∃gb cap cur p,v=.slice (Pty gb) l.length cap/\w.heap[gb]?=some (.cells cur 102)/\aG cur.toList (k*3) 3=yn p/\xn w p f:=by
 obtain⟨vs,v1,v2,v3⟩:=h;have hk:k<l.length:=(Jcn.1 hs).1;obtain⟨x,hx⟩:∃x,vs[k]?=some x:=⟨vs[k]'(by omega),by simp[v1,hk]⟩;obtain⟨gb,cap,cur,e1,e2,e3⟩:=uV v2 hk (show _=yn x by rw[<-Jfx];exact jb (f:=yn) (λ_=>rfl) vs k x hx);exact⟨gb,cap,cur,x,e1,e2,e3,v3 k f x hs hx⟩
section
variable{w:World}{s:St}{v:V5}
theorem Y7(h:ShAt w v s)(g:Nat):CY 56 #[.agg (kU s v).toArray,.int .i64 g] w (λr w'=>r=.int .u32 (s.I.getD g 0)/\GB none w w'):=by
 obtain⟨T,M,D,O,I⟩:=v;obtain⟨ia,ic,e,ih,il,id⟩:=fE.I h;obtain rfl:I=_:=e;obtain⟨k,hk⟩:∃k:Int,k=g:=⟨_,rfl⟩;rw[<-hk];refine aj Tryz.func56 rfl rfl ?_;refine λw1 b1 m1 g1 l1=>?_
 refine ah (λc=>?_) (λc=>absurd (Ptq (b00 c)) (by omega));refine⟨_,_,m1,_,rfl,ah (λc=>?_) (λc=>?_)⟩
 .have:=Ptq c
  exact⟨by rw[Jdx,Jcg (by omega)];rfl,g1⟩
 .have d:g<s.I.length:=by have:=Ptx c;omega
  rcases id with⟨_,h0⟩|⟨B,off,cs,rfl,hB,hcut⟩
  .omega
  obtain⟨x,hx⟩:∃x,s.I[g]?=some x:=⟨s.I[g],by simp[d]⟩;have hel:cs.toList[off+k.toNat*1]?=some (.int .u32 x):=by
   have:=congrArg (λl=>l[g]?) hcut;unfold aG at this;simp only[Jc5,Jcf,Jdd,hx]at this;rw[Jb6 (by omega)]at this;rw[hk,Jfa,Jfq];exact this
  refine⟨_,_,m1,_,rfl,by omega,_,_,g1.get hB nofun,_,hel,?_⟩;exact⟨by rw[Jdx,hx];rfl,g1⟩
theorem aaI(h:ShAt w v s)(g:Nat):CY 32 #[.agg (kU s v).toArray,.int .i64 g] w (λr w'=>(∃q,r=.agg #[.int .u32 (aP s.O g).1,q]/\uN w' q (aP s.O g).2)/\GB none w w'):=by
 obtain⟨T,M,D,O,I⟩:=v;obtain⟨qs,q1,⟨ia,ic,e,ih,il,id⟩,q3⟩:=fE.O h;obtain rfl:O=_:=e;obtain⟨k,hk⟩:∃k:Int,k=g:=⟨_,rfl⟩;rw[<-hk];refine aj Tryz.func32 rfl rfl ?_;refine λw1 b1 m1 g1 l1 w2 b2 m2 g2 l2=>?_
 have G:=g1.trans g2;have m1:=g2.get m1 nofun;refine ah (λc=>?_) (λc=>absurd (Ptq (b00 c)) (by omega));refine⟨_,_,m1,_,rfl,ah (λc=>?_) (λc=>?_)⟩
 .have:=Ptq c
  refine⟨_,_,_,m2,rfl,rfl,λw3 m3 g3=>?_⟩;have G3:GB none w w3:=g1.trans (g2.new g3 l2);refine⟨_,_,m3,_,rfl,rfl,?_⟩;have e:aP s.O k=(0,[]):=by unfold aP;rw[Jcg (by omega)];rfl
  rw[e];exact⟨⟨_,rfl,[],rfl,Fz.nil _ _ _,λ_ _ _ h=>by cases h⟩,G3⟩
 .have d:g<s.O.length:=by have:=Ptx c;omega
  rcases id with⟨_,h0⟩|⟨B,off,cs,rfl,hB,hcut⟩
  .omega
  obtain⟨o,ho⟩:∃o,s.O[g]?=some o:=⟨s.O[g],by simp[d]⟩;obtain⟨x,hx⟩:∃x,qs[g]?=some x:=⟨qs[g]'(by omega),by simp[q1,d]⟩;have e:aP s.O k=o:=by unfold aP;rw[hk,Jfa,ho];rfl
  have hq:=q3 g o x ho hx;obtain⟨qa,qn,qc,rfl⟩:∃a n c,x=.slice a n c:=by obtain⟨_,_,⟨a,c,e,_⟩,_⟩:=hq;exact⟨_,_,_,e⟩
  have hel:aG cs.toList (off+k.toNat*2) 2=[.int .u32 o.1,.slice qa qn qc]:=by rw[hk,Jfa];exact(Fz.elem hcut d).trans (YY ho hx)
  refine⟨_,_,m1,_,rfl,by omega,_,_,G.get hB nofun,_,hel,rfl,?_⟩;refine⟨_,_,_,m2,rfl,rfl,λw3 m3 g3=>?_⟩;have G3:GB none w w3:=g1.trans (g2.new g3 l2);refine⟨_,_,m3,_,rfl,rfl,?_⟩;rw[e];exact⟨⟨_,rfl,hq.kz G3.kz⟩,G3⟩
end
section
variable{Λ:bW}{w:World}{bs:Nat}{S:Sit}
theorem adL{l:List Ask}{k:Nat}{p:Ask}(h:l[k]?=some p):aG (l.map Ask.cells).flatten (k*9) 9=p.cells:=by
 rw[<-Jfx];exact jb (f:=Ask.cells) (λ_=>rfl) l k p h
theorem ahM{l:List Value}{d:Nat}{a:Ask}(h:aG l d 9=a.cells):aG l d 7=a.q.cells/\l[d+7]?=some (.int .u8 a.g):=by
 have h0:=congrArg (λl=>l.take 7) h;have h1:=congrArg (λl=>l[7]?) h;unfold aG at h0 h1 |-;simp only[Jd5,Jc5,Jcf]at h0 h1;exact⟨by simpa[Ask.cells,aW.cells]using h0,by simpa[Ask.cells,aW.cells]using h1⟩
end
section
variable{w:World}{s:St}{v:V5}
theorem Ny(h:ShAt w v s)(hm:jK s.M=true)(hc:Can s.M){key:Int}(hk:0<=key)(ho:0<=own 0 s.M key/\own 0 s.M key<4):CY 19 #[.agg (kU s v).toArray,.int .u64 key] w (λr w'=>r=.int .i64 (own 0 s.M key)/\GB none w w'):=by
 obtain⟨T,M,D,O,I⟩:=v;have hM:Fz w 153 2 M s.M.length (s.M.map Pc.cells).flatten:=fE.M h;obtain⟨ma,mc,rfl,_⟩:=id hM;refine aj Tryz.func19 rfl rfl ?_;refine λw1 b1 m1 g1 l1=>⟨_,_,m1,_,rfl,_,IK (hM.kz g1.kz (by decide)) hm hc hk,?_⟩
 rintro _ w2 ⟨rfl,g2⟩;exact .inl ⟨by omega,rfl,g1.trans g2⟩
end
theorem Vj{l xs:List Value}{d n j:Nat}{x:Value}(h:aG l d n=xs)(hx:xs[j]?=some x)(hj:j<n):l[d+j]?=some x:=by
 have:=congrArg (λl=>l[j]?) h;unfold aG at this;simp only[Jc5,Jcf,hx]at this;rw[Jb6 hj]at this;exact this
theorem pG.at{w:World}{fb n c:Nat}{l:List (List MC×List St×List ag)}(h:pG w (.slice (Pty fb) n c) l){k:Nat}{f:List MC×List St×List ag}(hs:l[k]?=some f):∃cur p,w.heap[fb]?=some (.cells cur 102)/\aG cur.toList (k*3) 3=yn p/\xn w p f:=by
 obtain⟨gb,cap,cur,p,e,h1,h2,h3⟩:=h.el hs;cases e
 exact⟨cur,p,h1,h2,h3⟩
section
variable{w:World}
theorem aaJ{p:Value×Value×Value}{f:List MC×List St×List ag}{st:Nat->St}(h:xn w p f)(hb:f.1.length<=1000)(hl:f.2.1.length=f.1.length+1)(hst:∀i,i<=f.1.length->f.2.1[i]?=some (st i))(src:Nat)(seq:Int){P:Nat->Bool}(hP:∀i,P i=(decide ((st i).I.getD src 0<seq)&&decide ((st (i+1)).I.getD src 0=seq))):CY 31 #[.agg (yn p).toArray,.int .i64 src,.int .u32 seq] w (λv w'=>v=.int .i64 (match(List.range f.1.length).find? P with|some i=>(i:Int)+1|none=>-1)/\GB none w w'):=by
 obtain⟨a1,c1,a2,c2,a3,c3,rfl⟩:=h.sl;refine aj Tryz.func31 rfl rfl ?_;refine λw1 b1 m1 g1 l1=>?_
 refine⟨λm s wk=>∃i:Nat,m=f.1.length-i/\i<=f.1.length/\s=[(1,.int .i64 src),(2,.int .u32 seq),(3,Ptt b1),(7,.int .i64 i)]/\(∀j,j<i->P j=false)/\GB none w wk/\Hl wk b1 (yn (.slice a1 f.1.length c1,.slice a2 f.2.1.length c2,.slice a3 f.2.2.length c3)) 102,⟨_,_,⟨0,rfl,Jcm _,rfl,λj hj=>by omega,g1,m1⟩,sb rfl⟩,?_⟩;rintro m s wk ⟨i,rfl,hi,rfl,hno,gk,mk⟩;refine⟨_,_,mk,_,rfl,ah (λc=>?_) (λc=>?_)⟩
 .have lt:i<f.1.length:=by have:=Ptq c;omega
  have hk:=(h.nf (.of gk)).st;obtain⟨gb,cap,cur,⟨T,M,D,O,I⟩,e1,e2,e3,e4⟩:=hk.el (hst i hi);obtain⟨gb',cap',cur',⟨T',M',D',O',I'⟩,f1,f2,f3,f4⟩:=hk.el (hst (i+1) lt);obtain⟨ta,tn,tc,ma,mn,mc,da,dn,dc,oa,on,oc,ia,il,ic,e5⟩:=fE.sl e4;obtain⟨rfl,rfl,rfl,rfl,rfl⟩:T=_/\M=_/\D=_/\O=_/\I=_:=e5;obtain⟨ta',tn',tc',ma',mn',mc',qf,vH,qg,Yh,on',Yi,Y4,Y5,Y6,e6⟩:=fE.sl f4;obtain⟨rfl,rfl,rfl,rfl,rfl⟩:T'=_/\M'=_/\D'=_/\O'=_/\I'=_:=e6;cases e1
  cases f1
  have no:P i=false->∀j,j<i+1->P j=false:=λe j hj=>by
   by_cases q:j=i
   .rw[q];exact e
   .exact hno j (by omega)
  refine⟨_,_,mk,_,rfl,by omega,_,_,e2,kU (st i) ⟨.slice ta tn tc,.slice ma mn mc,.slice da dn dc,.slice oa on oc,.slice ia il ic⟩,by show aG cur.toList (0+(i:Int).toNat*7) 7=_;rw[Jbh,Jfa];exact e3,rfl,_,Y7 e4 src,?_⟩;rintro _ w2 ⟨rfl,g2⟩;refine ah (λd=>?_) (λd=>?_)
  .refine⟨_,_,g2.get mk nofun,_,rfl,by omega,by omega,_,_,g2.get f2 nofun,kU (st (i+1)) ⟨.slice ta' tn' tc',.slice ma' mn' mc',.slice qf vH qg,.slice Yh on' Yi,.slice Y4 Y5 Y6⟩,by show aG cur'.toList (0+((i:Int)+1).toNat*7) 7=_;rw[Jbh,show((i:Int)+1).toNat=i+1 by omega];exact f3,rfl,_,Y7 (fE.kz f4 g2.kz) src,?_⟩
   rintro _ w3 ⟨rfl,g3⟩;refine ah (λe=>?_) (λe=>?_)
   .refine⟨by omega,?_,gk.trans (g2.trans g3)⟩
    have:(List.range f.1.length).find? P=some i:=by
     rw[List.find?_range_eq_some];refine⟨?_,Jc3.2 lt,λj hj=>by rw[hno j hj];rfl⟩;rw[hP,b11 d,Jdz];exact Jg1 (eq_of_beq e)
    rw[this]
   .refine⟨by omega,_,_,⟨i+1,rfl,by omega,rfl,no ?_,gk.trans (g2.trans g3),(g2.trans g3).get mk nofun⟩,(sb rfl),by omega⟩
    rw[hP,Bool.and_eq_false_iff];exact .inr (Jg2 λq=>by rw[q]at e;simp at e)
  .refine⟨by omega,_,_,⟨i+1,rfl,by omega,rfl,no ?_,gk.trans g2,g2.get mk nofun⟩,(sb rfl),by omega⟩
   rw[hP,b10 d];rfl
 .have e:i=f.1.length:=by have:=Ptx c;omega
  refine⟨?_,gk⟩;have:(List.range f.1.length).find? P=none:=by
   rw[find?_eq_none];intro j hj;rw[hno j (by rw[e];exact Jc3.1 hj)];decide
  rw[this]
end
section
variable{Λ:bW}{w:World}{bs:Nat}{S:Sit}
def sZ(p:ag)(a:Ask):Bool:=a.q.c==p.c&&(a.q.s==p.s&&a.q.key==p.key)
theorem XM(h:dX Λ bs S w)(hl:S.asks.length<=1000000)(p:ag):CY 30 #[Ptt bs,.agg p.cells.toArray] w (λv w'=>v=.int .i64 (match S.asks.find? (sZ p)with|some a=>(a.p:Int)|none=>-1)/\GB none w w'):=by
 obtain⟨bc,a,gv,sv0,B,ad,hS⟩:=h;refine aj Tryz.func30 rfl rfl ?_;refine λw1 b3 m3 g1 l3=>?_
 refine⟨λm s wk=>∃i:Nat,m=S.asks.length-i/\i<=S.asks.length/\s=[(0,Ptt bs),(3,Ptt b3),(5,.int .i64 i)]/\(∀x∈S.asks.take i,sZ p x=false)/\GB none w wk/\Hl wk b3 p.cells 70,⟨_,_,⟨0,rfl,Jcm _,rfl,λx hx=>(Jbw hx).elim,g1,m3⟩,sb rfl⟩,?_⟩;rintro m s wk ⟨i,rfl,hi,rfl,hno,gk,mk⟩;have hm:=(hS.ay gk).si.mem;obtain⟨la,lc,ea⟩:=af (hS.ay gk).si.ak;refine⟨_,_,hm,.slice la S.asks.length lc,by show(fD _ _ _)[3]?=_;unfold fD;rw[ea];rfl,ah (λc=>?_) (λc=>?_)⟩
 .have lt:i<S.asks.length:=by have:=Ptq c;omega
  obtain⟨y,hy⟩:∃y,S.asks[i]?=some y:=⟨S.asks[i]'(by omega),by simp[show i<S.asks.length by omega]⟩;obtain⟨gb,cap,cur,eb,hB,el⟩:=uV (hS.ay gk).si.ak lt (adL hy);rw[ea]at eb;cases eb
  have e1:=(ahM el).1;have e8:cur.toList[i*9+8]?=some (.int .i64 y.p):=by
   have:=congrArg (λl=>l[8]?) el;unfold aG at this;simp only[Jc5,Jcf]at this;simpa[Ask.cells,aW.cells]using this
  have no:sZ p y=false->∀x∈S.asks.take (i+1),sZ p x=false:=λe x hx=>by
   rw[Jfm,hy]at hx;rcases Jdc.1 hx with q|q
   .exact hno x q
   .rw[Jg6.1 q];exact e
  refine⟨_,_,hm,.slice (Pty gb) S.asks.length lc,by show(fD _ _ _)[3]?=_;unfold fD;rw[ea];rfl,by omega,_,_,hB,y.q.cells,by show aG cur.toList (0+(i:Int).toNat*9) 7=_;rw[Jbh,Jfa];exact e1,rfl,λw2 b6 m6 g2 l6=>?_⟩;refine⟨_,_,_,m6,rfl,rfl,λw3 m6 g3=>?_⟩;have G3:GB none wk w3:=g2.new g3 l6;have Cj:=G3.get mk nofun;refine⟨_,_,m6,_,rfl,_,_,Cj,_,rfl,ah (λd=>?_) (λd=>?_)⟩
  .refine⟨_,_,m6,_,rfl,_,_,Cj,_,rfl,ah (λd'=>?_) (λd'=>?_)⟩
   .refine⟨_,_,m6,_,rfl,_,_,Cj,_,rfl,ah (λd2=>?_) (λd2=>?_)⟩
    .refine⟨_,_,(hS.ay (gk.trans G3)).si.mem,.slice (Pty gb) S.asks.length lc,by show(fD _ _ _)[3]?=_;unfold fD;rw[ea];rfl,by omega,_,_,G3.get hB nofun,.int .i64 y.p,by show cur.toList[0+(i:Int).toNat*9+8]?=_;rw[Jbh,Jfa];exact e8,?_,gk.trans G3⟩
     have:S.asks.find? (sZ p)=some y:=by
      rw[List.find?_eq_some_iff_append];refine⟨?_,S.asks.take i,S.asks.drop (i+1),?_,λx hx=>by rw[hno x hx];rfl⟩
      .unfold sZ;rw[b11 d,b11 d',d2];rfl
      .obtain⟨_,ey⟩:=Jcn.1 hy
       rw[<-ey,<-Jch lt,Jgk]
     rw[this]
    .exact⟨by omega,_,_,⟨i+1,rfl,by omega,rfl,no (by unfold sZ;rw[d2];simp),gk.trans G3,Cj⟩,(sb rfl),by omega⟩
   .exact⟨by omega,_,_,⟨i+1,rfl,by omega,rfl,no (by unfold sZ;rw[b10 d'];simp),gk.trans G3,Cj⟩,(sb rfl),by omega⟩
  .exact⟨by omega,_,_,⟨i+1,rfl,by omega,rfl,no (by unfold sZ;rw[b10 d];rfl),gk.trans G3,Cj⟩,(sb rfl),by omega⟩
 .have e:i=S.asks.length:=by have:=Ptx c;omega
  refine⟨?_,gk⟩;have:S.asks.find? (sZ p)=none:=by
   rw[find?_eq_none];intro x hx;rw[hno x (by rw[e,Jfn];exact hx)];decide
  rw[this]
end
theorem Ja{b:bH}(h:b.W):nb b=b:=by
 unfold nb;rw[Jgb (Nat.lt_succ_of_le h.1),Jgb h.2]
theorem Vk{m m':MM}(hk:m.kind=2)(hd:nQ (pW m)=some m'):m'.kind=2:=by
 obtain⟨ok',e⟩:=xm hd;unfold pW at e;split at e
 case isFalse=>subst e;exact absurd ok' (by decide)
 rw[zy]at e;unfold kG at e;obtain⟨kd,q,p,b,s,c,vs,r,peer,seq⟩:=m;obtain rfl:kd=2:=hk;have e:(dV (dn ([((2:Nat):Int)]++mK p))).1=m':=e;rw[kM (by decide),RZ]at e;subst e;rfl
theorem ae6(l:List Nat):iq 1 l=(rn qG l λq l=>({aL ((1:Nat):Int)with q:=q},l)):=rfl
theorem XN{q:aW}(hq:q.b)(ho:fV q=true){m':MM}(hd:nQ (pW {aL 1 with q:=q})=some m'):m'={aL 1 with q:=q}:=by
 obtain⟨ok',e⟩:=xm hd;unfold pW at e;split at e
 case isFalse=>subst e;exact absurd ok' (by decide)
 rw[zy]at e;unfold kG at e;have e:(dV (dn ([((1:Nat):Int)]++vg q))).1=m':=e;rw[kM (by decide),ae6,qB,dU (M9 hq ho [])]at e;subst e;rfl
def kC(s:St):Prop:=∀(d:Nat) o,s.O[d]?=some o->∀r∈o.2,r.dst=d
theorem kC.set{s:St}(h:kC s){k:Nat}{a:Int}{l:List Rg}(hl:k<s.O.length->∀r∈l,r.dst=k){T:List Row}{M:List Pc}{D:List ag}:kC {s with T:=T,M:=M,D:=D,O:=s.O.set k (a,l)}:=by
 intro d o ho r hr;replace ho:(s.O.set k (a,l))[d]?=some o:=ho;rw[getElem?_set]at ho;split at ho
 .rename_i e
  subst e;split at ho
  .rename_i lt
   cases ho
   exact hl lt r hr
  .cases ho
 .exact h d o ho r hr
theorem PZ{s:St}(h:kC s){k:Int}(h0:0<=k):∀r∈(aP s.O k).2,r.dst=k:=by
 intro r hr;unfold aP at hr;cases ho:s.O[k.toNat]? with
 |none=>rw[ho]at hr;cases hr
 |some o=>rw[ho]at hr;rw[h _ o ho r hr];omega
theorem kC.do_{s:St}(h:kC s){q:aW}(h0:0<=q.to):kC (fP s q):=by
 unfold fP;split
 .exact h
 split
 .exact h
 split
 .refine kC.set h λ_ r hr=>?_
  rcases Jdc.1 hr with x|x
  .rw[PZ h h0 r x];omega
  .rw[Jg6.1 x];show q.to=_;omega
 .exact h
theorem kC.app{N:Nat}{s:St}(h:kC s){c:MC}(hc:iE N c)(hq:0<=c.q.to):kC (cB s c).1:=by
 unfold cB;split
 .unfold iy
  split
  .exact h
  split
  .exact h
  split
  .split
   .split
    .exact h.do_ hq
    .split<;>exact h
   .exact h
  .exact h.do_ hq
 split
 .unfold mV
  split<;>exact h
 split
 .show kC (lY _ _ _)
  unfold lY;split
  .refine kC.set h λ_ r hr=>?_
   have h0:=hc.peer.1;rw[PZ h h0 r (mem_filter.1 hr).1];omega
  .exact h
 .exact h
theorem kC.fold{N:Nat}:∀{l:List MC} {s:St},kC s->(∀c∈l,iE N c/\0<=c.q.to)->kC (bR (bJ N) s l)
 | [],_,h,_=>h
 |c::l,s,h,hl=>kC.fold (l:=l) (h.app (hl c (by simp)).1 (hl c (by simp)).2) λc' hc'=>hl c' (by simp[hc'])
theorem XO(N:Nat):ahF (bJ N):=by
 intro k s c hk hs hc i;show s.I.getD i 0<=(cB s c).1.I.getD i 0;have hs:cu N k s:=hs;unfold cB;split
 .have:(iy s c.q).1.I=s.I:=by
   have hd:(fP s c.q).I=s.I:=by
    unfold fP;repeat' split
    all_goals rfl
   unfold iy;repeat' split
   all_goals first|rfl|exact hd
  rw[this];exact Jfb _
 split
 .show _<=(mV s c.r).I.getD i 0
  unfold mV;split
  .rename_i e
   show _<=(s.I.set c.r.src.toNat c.r.seq).getD i 0;rw[Jdx,Jdx,getElem?_set];split
   .rename_i e2
    subst e2;split
    .rename_i lt
     have e3:=e.2.1;unfold vX at e3;simp only[Jdy,Jfc]at e3;have e4:=e3.2;rw[Jcc lt]at e4 |-;have b:=hs.i _ (getElem_mem lt);have:=hs.vQ;simp only[Jd1]at e4 |-;rw[e4];have w1:IntKind.u32.wrap (s.I[c.r.src.toNat]+1)=s.I[c.r.src.toNat]+1:=wrap_u32 (by omega);omega
    .rename_i lt;rw[Jcg (by omega)];exact Jfb _
   .exact Jfb _
  .exact Jfb _
 split
 .show _<=(lY s c.peer c.seq).I.getD i 0
  unfold lY;split<;>exact Jfb _
 .exact Jfb _
theorem rD{N n:Nat}{m m':MM}(h:MG (bJ N) n m)(k:m.kind≠2)(hd:nQ (pW m)=some m'):m'=CZ m:=(U5 h hd).elim (λq=>(k q.1).elim) And.left
theorem adS(N:Nat):uG (bJ N) where
 fO:=λ{k b m} hk hb hd=>by
  rcases hk with rfl|rfl
  .dsimp only[bJ]at hd
   rw[rD (N:=N) (n:=0) (MG.fO (.inl rfl) hb.1) (λe=>absurd (show(3:Int)=2 from e) (by decide)) hd];simp[CZ,aL,Ja hb]
  .dsimp only[bJ]at hd
   rw[rD (N:=N) (n:=0) (MG.fO (.inr rfl) hb.1) (λe=>absurd (show(5:Int)=2 from e) (by decide)) hd];simp[CZ,aL,Ja hb]
 prom:=λ{b vs m} hb hl hv hd=>by
  have e:vs.map nv=vs:=by
   refine(map_congr_left λv q=>?_).trans (map_id _);obtain⟨_,h2,h3⟩:=hv v q;show(⟨v.slot%4294967296,nb v.b,v.c⟩:MV)=v;rw[Jgb (Nat.lt_trans h2 (by decide)),Ja h3]
  dsimp only[bJ]at hd;rw[rD (N:=N) (n:=0) (MG.promise hb.1 (λv q=>⟨(hv v q).1,(hv v q).2.1⟩) hl) (λe=>absurd (show(4:Int)=2 from e) (by decide)) hd];simp[CZ,aL,Ja hb,e]
 acc:=λ{b s c m} hb hs hc hd=>by
  dsimp only[bJ]at hd;rw[rD (N:=N) (n:=0) (MG.accept hb.1 hs hc) (λe=>absurd (show(6:Int)=2 from e) (by decide)) hd];simp[CZ,aL,Ja hb,Jgb (Nat.lt_trans hs (by decide:60<4294967296))]
 ru:=λ{b s m} hb hs hd=>by
  dsimp only[bJ]at hd;rw[rD (N:=N) (n:=0) (MG.accepted hb.1 hs) (λe=>absurd (show(7:Int)=2 from e) (by decide)) hd];simp[CZ,aL,Ja hb,Jgb (Nat.lt_trans hs (by decide:60<4294967296))]
 dec:=λ{s c m} hs hc hd=>by
  dsimp only[bJ]at hd;rw[rD (N:=N) (n:=0) (MG.decide hs hc) (λe=>absurd (show(8:Int)=2 from e) (by decide)) hd];simp[CZ,aL,Jgb (Nat.lt_trans hs (by decide:60<4294967296))]
 tell:=λhk hd=>Vk hk hd
 ask:=λ{q m} hc hd=>by
  have hc:iE N (fM q):=hc;exact XN hc.q (hc.ask rfl) hd
 lU:=λ{r m} hc hd=>by
  have hg:iE N (lL r):=hc;dsimp only[bJ]at hd;rw[rD (N:=N) (n:=N) (MG.move (r:=r) ⟨hg.r.src.1,by have a:r.src<N:=hg.src rfl;have b:0<=r.src:=hg.r.src.1;omega,by have:r.seq<4294967296:=hg.r.seq.2;omega,hc⟩) (λe=>absurd (show(9:Int)=2 from e) (by decide)) hd];simp[CZ,aL]
 jH:=λ{p s m} hc hd=>by
  have hg:iE N (pU p s):=hc;dsimp only[bJ]at hd;rw[rD (N:=N) (n:=256) (MG.Rf (p:=p) (s:=s) ⟨hg.peer.1,by have a:0<=p:=hg.peer.1;have b:p<256:=hg.peer.2;omega,hc⟩) (λe=>absurd (show(10:Int)=2 from e) (by decide)) hd];simp[CZ,aL]
 dst:=λ{g n l} hl=>kC.fold (λd o ho r hr=>by
  replace ho:(replicate n ((1:Int),([]:List Rg)))[d]?=some o:=ho;rw[Jgt]at ho;split at ho
  .cases ho;cases hr
  .cases ho) λc hc=>⟨hl c hc,(hl c hc).q.to.1⟩
def fU(f:Nat->Nat):Nat->Nat
 |0=>0
 |n+1=>fU f n+f n
theorem wD{f f':Nat->Nat}:∀{n:Nat},(∀j,j<n->f' j=f j)->fU f' n=fU f n
 |0,_=>rfl
 |n+1,h=>by
  show fU f' n+f' n=fU f n+f n;rw[wD λj hj=>h j (by omega),h n (by omega)]
theorem mY{f f':Nat->Nat}{i:Nat}:∀{n:Nat},i<n->(∀j,j<n->j≠i->f' j=f j)->fU f' n+f i=fU f n+f' i
 |n+1,hi,h=>by
  show fU f' n+f' n+f i=fU f n+f n+f' i;by_cases e:i=n
  .subst e
   rw[wD λj hj=>h j (by omega) (by omega)];omega
  .have:=mY (n:=n) (by omega) λj hj=>h j (by omega)
   rw[h n (by omega) (Ne.symm e)];omega
theorem rE{f:Nat->Nat}{i:Nat}:∀{n:Nat},i<n->f i<=fU f n
 |n+1,hi=>by
  show f i<=fU f n+f n;by_cases e:i=n
  .subst e;omega
  .have:=rE (f:=f) (i:=i) (n:=n) (by omega);omega
theorem ui{f:Nat->Nat}{i j:Nat}:∀{n:Nat},i<n->j<n->i≠j->f i+f j<=fU f n
 |n+1,hi,hj,ne=>by
  show f i+f j<=fU f n+f n;by_cases e:i=n
  .subst e;have:=rE (f:=f) (i:=j) (n:=i) (by omega);omega
  .by_cases e':j=n
   .subst e';have:=rE (f:=f) (i:=i) (n:=j) (by omega);omega
   .have:=ui (f:=f) (i:=i) (j:=j) (n:=n) (by omega) (by omega) ne;omega
theorem Vl{f f':Nat->Nat}{i j n:Nat}(hi:i<n)(hj:j<n)(ne:i≠j)(h:∀x,x<n->x≠i->x≠j->f' x=f x):fU f' n+f i+f j=fU f n+f' i+f' j:=by
 have a:=mY (f:=f) (f':=λx=>if x=i then f' x else f x) hi λx _ q=>Jb5 q
 have b:=mY (f:=λx=>if x=i then f' x else f x) (f':=f') hj λx hx q=>by
  show f' x=if x=i then f' x else f x
  split
  .rfl
  .rename_i q';exact h x hx q' q
 simp only[Jb5 (Ne.symm ne),Jb8]at a b;omega
def tN(i k:Int)(r:Rg):Bool:=decide (i<r.seq)&&(decide (r.lo<=k)&&decide (k<=r.hi))
def TR(s:St)(i:Int)(d:Nat)(k:Int):Nat:=(aP s.O d).2.countP (tN i k)
def FF(n:Nat)(st:Nat->St)(k:Int)(g:Nat):Nat:=(if own 0 (st g).M k=g then 1 else 0)+fU (λd=>TR (st g) ((st d).I.getD g 0) d k) n
def cnt(n:Nat)(st:Nat->St)(k:Int):Nat:=fU (FF n st k) n
theorem zI{O:List (Int×List Rg)}{t:Nat}(ht:t<O.length)(x:Int×List Rg)(d:Nat):aP (O.set t x) d=if d=t then x else aP O d:=by
 unfold aP;rw[Jfa,getElem?_set];by_cases e:d=t
 .subst e;rw[Jb6 rfl,Jb6 rfl,Jb6 ht];rfl
 .rw[Jb5 (Ne.symm e),Jb5 e]
theorem J7{i k:Int}{r:Rg}(hr:r.seq=i+1):∀{l:List Rg},l.Pairwise (λa b=>a.seq<b.seq)->r∈l->l.countP (tN i k)=l.countP (tN (i+1) k)+if r.lo<=k/\k<=r.hi then 1 else 0
 |x::l,hp,hm=>by
  obtain⟨h1,h2⟩:=Jgq.1 hp;rcases Jb3.1 hm with rfl|hm
  .have e:l.countP (tN i k)=l.countP (tN (i+1) k):=countP_congr λy hy=>by
    have:=h1 y hy;unfold tN;rw[Jg1 (show i<y.seq by omega),Jg1 (show i+1<y.seq by omega)]
   have e1:tN (i+1) k r=false:=by unfold tN;rw[Jg2 (by omega)];rfl
   have e2:tN i k r=(decide (r.lo<=k)&&decide (k<=r.hi)):=by unfold tN;rw[Jg1 (by omega)];rfl
   rw[countP_cons,countP_cons,e,e1,e2];by_cases q:r.lo<=k/\k<=r.hi
   .rw[Jb6 q,Jg1 q.1,Jg1 q.2];rfl
   .rw[Jb5 q,Jb5]
    .rfl
    .intro z
     simp only[Jdy,Jdr]at z;exact q z
  .have:=h1 r hm
   have e1:tN i k x=false:=by unfold tN;rw[Jg2 (by omega)];rfl
   have e2:tN (i+1) k x=false:=by unfold tN;rw[Jg2 (by omega)];rfl
   rw[countP_cons,countP_cons,e1,e2,J7 hr h2 hm];simp
structure Gl(n:Nat)(st:Nat->St):Prop where
 ok:∀g,g<n->sP (st g)/\(st g).n=n/\(st g).g=g
 nx:∀g d,g<n->d<n->(st d).I.getD g 0<(aP (st g).O d).1
 inc:∀g d,g<n->d<n->(aP (st g).O d).2.Pairwise λa b=>a.seq<b.seq
 lt:∀g d,g<n->d<n->∀r∈(aP (st g).O d).2,r.seq<(aP (st g).O d).1
 one:∀k,0<=k->k<18446744073709551616->cnt n st k=1
inductive Eff(n g:Nat)(s:St)(c:MC)(s':St):Prop
 |same (m:s'.M=s.M) (o:s'.O=s.O) (i:s'.I=s.I):Eff n g s c s'
 |H8 (lo hi:Int) (t:Nat) (r:Rg) (h0:0<=lo) (h1:lo<=hi) (h2:hi<18446744073709551616) (ht:t<n) (hg:t≠g) (ow:∀k,lo<=k->k<=hi->own 0 s.M k=g) (m:s'.M=fC s.M lo hi t) (o:s'.O=s.O.set t ((aP s.O t).1+1,(aP s.O t).2++[r])) (e1:r.seq=(aP s.O t).1) (e2:r.lo=lo) (e3:r.hi=hi) (i:s'.I=s.I):Eff n g s c s'
 |rcv (g0:Nat) (hk:c.kind=2) (e0:c.r.src=g0) (h0:g0<n) (hg:g0≠g) (b0:0<=c.r.lo) (b1:c.r.lo<=c.r.hi) (b2:c.r.hi<18446744073709551616) (es:c.r.seq=s.I.getD g0 0+1) (m:s'.M=fC s.M c.r.lo c.r.hi g) (o:s'.O=s.O) (i:s'.I=s.I.set g0 c.r.seq):Eff n g s c s'
 |set (g0:Nat) (hk:c.kind=3) (e0:c.peer=g0) (h0:g0<n) (m:s'.M=s.M) (o:s'.O=s.O.set g0 ((aP s.O g0).1,keepR c.seq (aP s.O g0).2)) (i:s'.I=s.I):Eff n g s c s'
theorem qU{m:List Pc}(h:Can m){lo hi:Int}(h0:0<=lo)(h1:lo<=hi)(h2:hi<18446744073709551616){g:Nat}(hg:g<4){k:Int}(k0:0<=k)(k1:k<18446744073709551616):own 0 (fC m lo hi g) k=if lo<=k/\k<=hi then(g:Int)else own 0 m k:=(xN h h0 h1 h2 (g:=g) ⟨by omega,by omega⟩).2 k k0 k1
theorem Gl.step{n g:Nat}{st st':Nat->St}{c:MC}(h:Gl n st)(hg:g<n)(ho:∀g',g'≠g->st' g'=st g')(he:Eff n g (st g) c (st' g))(hs:sP (st' g)/\(st' g).n=n/\(st' g).g=g)(hr:∀g0:Nat,c.kind=2->c.r.src=g0->g0<n->c.r∈(aP (st g0).O g).2\/c.r.seq<=(st g).I.getD g0 0)(hx:∀g0:Nat,c.kind=3->c.peer=g0->g0<n->c.seq<=(st g0).I.getD g 0):Gl n st':=by
 obtain⟨s1,s2,s3⟩:=h.ok g hg;have ol:(st g).O.length=n:=by have:=s1.ol;omega
 have il:(st g).I.length=n:=by have:=s1.il;omega
 have n4:n<=4:=by have:=s1.n4;omega
 have ok':∀g',g'<n->sP (st' g')/\(st' g').n=n/\(st' g').g=g':=λg' hg'=>by
  by_cases e:g'=g
  .subst e;exact hs
  .rw[ho g' e];exact h.ok g' hg'
 cases he with
 |same m o i =>
  have eO:∀g',(st' g').O=(st g').O:=λg'=>by by_cases e:g'=g;subst e;exact o;rw[ho g' e]
  have eI:∀g',(st' g').I=(st g').I:=λg'=>by by_cases e:g'=g;subst e;exact i;rw[ho g' e]
  have eM:∀g',(st' g').M=(st g').M:=λg'=>by by_cases e:g'=g;subst e;exact m;rw[ho g' e]
  refine⟨ok',λg' d a b=>?_,λg' d a b=>?_,λg' d a b=>?_,λk k0 k1=>?_⟩
  .rw[eO,eI];exact h.nx g' d a b
  .rw[eO];exact h.inc g' d a b
  .rw[eO];exact h.lt g' d a b
  .rw[<-h.one k k0 k1]
   unfold cnt FF TR;simp only[eO,eI,eM]
 |H8 lo hi t r h0 h1 h2 ht hgt ow m o e1 e2 e3 i =>
  have eI:∀g',(st' g').I=(st g').I:=λg'=>by by_cases e:g'=g;subst e;exact i;rw[ho g' e]
  have eL:∀d:Nat,aP (st' g).O d=if d=t then((aP (st g).O t).1+1,(aP (st g).O t).2++[r])else aP (st g).O d:=λd=>by rw[o];exact zI (by omega) _ d
  refine⟨ok',λg' d a b=>?_,λg' d a b=>?_,λg' d a b=>?_,λk k0 k1=>?_⟩
  .rw[eI]
   have:=h.nx g' d a b;by_cases e:g'=g
   .subst e;rw[eL]
    split
    .rename_i q;subst q;show _<_+1;omega
    .exact this
   .rw[ho g' e];exact this
  .by_cases e:g'=g
   .subst e;rw[eL]
    split
    .rename_i q
     refine Jgp.2 ⟨h.inc g' t a ht,by simp,λx hx y hy=>?_⟩;rw[Jg6.1 hy,e1];exact h.lt g' t a ht x hx
    .exact h.inc g' d a b
   .rw[ho g' e];exact h.inc g' d a b
  .by_cases e:g'=g
   .subst e;rw[eL]
    split
    .intro x hx
     rcases Jdc.1 hx with q|q
     .have:=h.lt g' t a ht x q;show _<_+1;omega
     .rw[Jg6.1 q,e1];show _<_+1;omega
    .exact h.lt g' d a b
   .rw[ho g' e];exact h.lt g' d a b
  .have c1:cnt n st' k+FF n st k g=cnt n st k+FF n st' k g:=mY hg λj hj ne=>by
    unfold FF;simp only[eI];rw[ho j ne]
   have c2:fU (λd=>TR (st' g) ((st' d).I.getD g 0) d k) n+TR (st g) ((st t).I.getD g 0) t k=fU (λd=>TR (st g) ((st d).I.getD g 0) d k) n+TR (st' g) ((st' t).I.getD g 0) t k:=mY (f:=λd=>TR (st g) ((st d).I.getD g 0) d k) (f':=λd=>TR (st' g) ((st' d).I.getD g 0) d k) ht λj hj ne=>by
    show TR (st' g) ((st' j).I.getD g 0) j k=TR (st g) ((st j).I.getD g 0) j k;unfold TR;rw[eI,eL,Jb5 ne]
   have c3:TR (st' g) ((st' t).I.getD g 0) t k=TR (st g) ((st t).I.getD g 0) t k+if lo<=k/\k<=hi then 1 else 0:=by
    unfold TR;rw[eI,eL,Jb6 rfl];show((aP (st g).O t).2++[r]).countP _=_;rw[countP_append];congr 1
    have:=h.nx g t hg ht;rw[countP_singleton];unfold tN;rw[e1,e2,e3,Jg1 this,Jdz];by_cases q:lo<=k/\k<=hi
    .rw[Jb6 q,Jg1 q.1,Jg1 q.2];rfl
    .rw[Jb5 q,Jb5]
     intro x;simp only[Jdy,Jdr]at x;exact q x
   have c4:=qU s1.can h0 h1 h2 (g:=t) (by omega) k0 k1;rw[<-m]at c4;rw[h.one k k0 k1]at c1;unfold FF at c1;rw[c4]at c1;by_cases q:lo<=k/\k<=hi
   .rw[Jb6 q]at c1 c3
    rw[Jb6 (ow k q.1 q.2),Jb5 (by omega)]at c1;omega
   .rw[Jb5 q]at c1 c3
    omega
 |rcv g0 hk e0 h0 hgt b0 b1 b2 es m o i =>
  have hin:c.r∈(aP (st g0).O g).2:=(hr g0 hk e0 h0).resolve_right λq=>by omega
  have eO:∀g',(st' g').O=(st g').O:=λg'=>by by_cases e:g'=g;subst e;exact o;rw[ho g' e]
  have eI:∀x:Nat,(st' g).I.getD x 0=if x=g0 then c.r.seq else(st g).I.getD x 0:=λx=>by
   rw[i,Jdx,getElem?_set];by_cases q:x=g0
   .subst q;rw[Jb6 rfl,Jb6 rfl,Jb6 (by omega)];rfl
   .rw[Jb5 (Ne.symm q),Jb5 q,Jdx]
  refine⟨ok',λg' d a b=>?_,λg' d a b=>?_,λg' d a b=>?_,λk k0 k1=>?_⟩
  .rw[eO]
   have:=h.nx g' d a b;by_cases e:d=g
   .subst e
    rw[eI];split
    .rename_i q;subst q;exact h.lt g' d a b _ hin
    .exact this
   .rw[ho d e];exact this
  .rw[eO];exact h.inc g' d a b
  .rw[eO];exact h.lt g' d a b
  .have c1:cnt n st' k+FF n st k g+FF n st k g0=cnt n st k+FF n st' k g+FF n st' k g0:=Vl hg h0 (Ne.symm hgt) λj hj n1 n2=>by
    unfold FF;rw[ho j n1];congr 1
    refine wD λd hd=>?_
    by_cases e:d=g
    .subst e;rw[eI,Jb5 n2]
    .rw[ho d e]
   have c2:fU (λd=>TR (st' g) ((st' d).I.getD g 0) d k) n=fU (λd=>TR (st g) ((st d).I.getD g 0) d k) n:=wD λd hd=>by
    unfold TR;rw[eO];by_cases e:d=g
    .subst e;rw[eI,Jb5 (Ne.symm hgt)]
    .rw[ho d e]
   have c3:fU (λd=>TR (st' g0) ((st' d).I.getD g0 0) d k) n+TR (st g0) ((st g).I.getD g0 0) g k=fU (λd=>TR (st g0) ((st d).I.getD g0 0) d k) n+TR (st' g0) ((st' g).I.getD g0 0) g k:=mY (f:=λd=>TR (st g0) ((st d).I.getD g0 0) d k) (f':=λd=>TR (st' g0) ((st' d).I.getD g0 0) d k) hg λj hj ne=>by
    show TR (st' g0) ((st' j).I.getD g0 0) j k=TR (st g0) ((st j).I.getD g0 0) j k;rw[ho j ne,ho g0 hgt]
   have c4:TR (st g0) ((st g).I.getD g0 0) g k=TR (st' g0) ((st' g).I.getD g0 0) g k+if c.r.lo<=k/\k<=c.r.hi then 1 else 0:=by
    unfold TR;rw[eI,Jb6 rfl,ho g0 hgt,es];exact J7 es (h.inc g0 g h0 hg) hin
   have c5:FF n st k g+FF n st k g0<=1:=by rw[<-h.one k k0 k1];exact ui hg h0 (Ne.symm hgt)
   have c6:TR (st g0) ((st g).I.getD g0 0) g k<=fU (λd=>TR (st g0) ((st d).I.getD g0 0) d k) n:=rE (f:=λd=>TR (st g0) ((st d).I.getD g0 0) d k) hg;have c7:=qU s1.can b0 b1 b2 (g:=g) (by omega) k0 k1;rw[<-m]at c7;rw[h.one k k0 k1]at c1;have e9:(st' g0).M=(st g0).M:=by rw[ho g0 hgt]
   unfold FF at c1 c5;rw[c7,e9]at c1;by_cases q:c.r.lo<=k/\k<=c.r.hi
   .rw[Jb6 q]at c1 c4
    rw[Jb6 rfl]at c1;have:¬own 0 (st g).M k=g:=λz=>by rw[Jb6 z]at c5;omega
    rw[Jb5 this]at c1;omega
   .rw[Jb5 q]at c1 c4
    omega
 |set g0 hk e0 h0 m o i =>
  have hle:=hx g0 hk e0 h0;have eI:∀g',(st' g').I=(st g').I:=λg'=>by by_cases e:g'=g;subst e;exact i;rw[ho g' e]
  have eL:∀d:Nat,aP (st' g).O d=if d=g0 then((aP (st g).O g0).1,keepR c.seq (aP (st g).O g0).2)else aP (st g).O d:=λd=>by rw[o];exact zI (by omega) _ d
  refine⟨ok',λg' d a b=>?_,λg' d a b=>?_,λg' d a b=>?_,λk k0 k1=>?_⟩
  .rw[eI]
   have:=h.nx g' d a b;by_cases e:g'=g
   .subst e;rw[eL]
    split
    .rename_i q;subst q;exact this
    .exact this
   .rw[ho g' e];exact this
  .by_cases e:g'=g
   .subst e;rw[eL]
    split
    .exact(h.inc g' g0 a h0).filter _
    .exact h.inc g' d a b
   .rw[ho g' e];exact h.inc g' d a b
  .by_cases e:g'=g
   .subst e;rw[eL]
    split
    .intro x hx'
     exact h.lt g' g0 a h0 x (mem_filter.1 hx').1
    .exact h.lt g' d a b
   .rw[ho g' e];exact h.lt g' d a b
  .have c1:cnt n st' k+FF n st k g=cnt n st k+FF n st' k g:=mY hg λj hj ne=>by
    unfold FF;simp only[eI];rw[ho j ne]
   have c2:fU (λd=>TR (st' g) ((st' d).I.getD g 0) d k) n=fU (λd=>TR (st g) ((st d).I.getD g 0) d k) n:=wD λd hd=>by
    unfold TR;rw[eI,eL];split
    .rename_i q
     subst q;show(keepR c.seq _).countP _=_;unfold keepR;rw[countP_filter];refine countP_congr λx _=>?_
     unfold tN;simp only[Jdy,Jdr,Jf8,Jgy];constructor
     .exact λz=>z.1
     .exact λz=>⟨z,by omega⟩
    .rfl
   rw[h.one k k0 k1]at c1;unfold FF at c1;rw[m,c2]at c1;omega
theorem Jb{m:List Pc}{g lo hi:Int}(h:¬yF m g lo hi=true):∀k,lo<=k->k<=hi->own 0 m k=g:=by
 unfold yF at h;split at h
 .exact absurd rfl h
 .rename_i e
  intro k k0 k1;rw[Wt m lo k k0 0 λq hq c=>?_]
  .exact Jg8 e
  .rw[find?_isSome]at h
   exact h ⟨q,hq,by unfold zq;simp;omega⟩
theorem P6{n k:Nat}{s:St}(hs:cu n k s){g:Nat}(eg:s.g=g){c:MC}(hc:iE n c):Eff n g s c (cB s c).1:=by
 have vQ:=hs.vQ;have hn:=hs.n;have ol:(s.O.length:Int)=n:=by have:=hs.ok.ol;omega
 have il:(s.I.length:Int)=n:=by have:=hs.ok.il;omega
 have hdo:¬fV c.q=false->¬yF s.M s.g c.q.key (sF c.q)=true->Eff n g s c (fP s c.q):=λo1 o2=>by
  unfold fP;split
  .exact .same rfl rfl rfl
  split
  .exact .same rfl rfl rfl
  split
  .rename_i e
   obtain⟨e4,ef⟩:=e;have ok:fV c.q=true:=by cases h:fV c.q;exact absurd h o1;rfl
   have lh:c.q.key<=c.q.hi:=by
    unfold fV at ok;rw[Jb5 (by omega),Jb5 (by omega),Jb6 e4]at ok;simp only[Jdy,Jdr]at ok;exact ok.2.1
   unfold gP at ef;simp only[Jdy,Jdr,Jf8,Jd9]at ef;have t0:=hc.q.to.1;have mx:sF c.q=c.q.hi:=by unfold sF;split<;>omega
   rw[mx]at o2;have ow:=Jb o2;have et:c.q.to=(c.q.to.toNat:Int):=by omega
   have ln:(aP s.O c.q.to).1+1<4294967296/\0<=(aP s.O c.q.to).1+1:=by
    unfold aP;cases ho:s.O[c.q.to.toNat]? with
    |none=>simp
    |some o=>obtain⟨_,a,b,_⟩:=hs.o o (Jcv ho);simp;omega
   refine .H8 c.q.key c.q.hi c.q.to.toNat (yG s.g c.q.to (aP s.O c.q.to).1 c.q.key c.q.hi s.T (gH s.D (dN s c.q))) hc.q.key.1 lh hc.q.hi.2 (by omega) (by omega) (λk a b=>by rw[ow k a b,eg]) ?_ ?_ ?_ rfl rfl rfl
   .show fC s.M c.q.key c.q.hi c.q.to=_
    rw[<-et]
   .show s.O.set c.q.to.toNat (IntKind.u32.wrap ((aP s.O c.q.to).1+1),_)=_
    rw[wrap_u32 ⟨ln.2,ln.1⟩,<-et]
   .rw[<-et];rfl
  .exact .same rfl rfl rfl
 unfold cB;split
 .unfold iy
  split
  .exact .same rfl rfl rfl
  rename_i o1;split
  .exact .same rfl rfl rfl
  rename_i o2;split
  .split
   .split
    .exact hdo o1 o2
    .split<;>exact .same rfl rfl rfl
   .exact .same rfl rfl rfl
  .exact hdo o1 o2
 split
 .rename_i hk
  show Eff n g s c (mV s c.r);unfold mV;split
  .rename_i e
   obtain⟨e1,e2,_⟩:=e;have lh:c.r.lo<=c.r.hi:=by unfold nY at e1;simp only[Jdy,Jdr]at e1;exact e1.2.2.2.1
   unfold vX at e2;simp only[Jdy,Jdr,Jf8,Jd9,Jfc]at e2;obtain⟨⟨⟨x1,x2⟩,x3⟩,x4⟩:=e2;have s0:=hc.r.src.1;have hw:0<=(s.I[c.r.src.toNat]?).getD 0+1/\(s.I[c.r.src.toNat]?).getD 0+1<4294967296:=by
    cases ho:s.I[c.r.src.toNat]? with
    |none=>simp
    |some o=>have:=hs.i o (Jcv ho);simp;omega
   rw[wrap_u32 hw]at x4;exact .rcv c.r.src.toNat hk (by omega) (by omega) (by omega) hc.r.lo.1 lh hc.r.hi.2 (by rw[Jdx];exact x4) (by show fC _ _ _ s.g=_;rw[eg]) rfl rfl
  .exact .same rfl rfl rfl
 split
 .rename_i hk
  show Eff n g s c (lY s c.peer c.seq);unfold lY;split
  .rename_i e
   have p0:=hc.peer.1;have et:c.peer=(c.peer.toNat:Int):=by omega
   exact .set c.peer.toNat hk et (by omega) rfl (by show s.O.set c.peer.toNat _=_;rw[<-et]) rfl
  .exact .same rfl rfl rfl
 .exact .same rfl rfl rfl
end
