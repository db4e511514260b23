/- Lemmas. -/
import Derived.Test.YtignemioillaiabGreatG31
namespace Go.Proofs.YtignemioillaiabGreat
set_option maxHeartbeats 8000000
set_option maxRecDepth 100000
open List
section
open Go Go.Conc
def tK{α:Type}(f:List Nat->α×List Nat):Nat->List Nat->List α×List Nat
 |0,l=>([],l)
 |n+1,l=>if l=[]then([],l)else rn f l λx l=>(x::(tK f n l).1,(tK f n l).2)
def lZ{α:Type}(f:List Nat->α×List Nat)(l:List Nat):List α×List Nat:=nx 1 l λn l=>tK f n l
def CE(l:List Nat):Rg×List Nat:=nx 1 l λsrc l=>nx 1 l λdst l=>nx 4 l λseq l=>nx 8 l λlo l=>nx 8 l λhi l=>rn (lZ DD) l λrows l=>rn (lZ qH) l λaX l=>(⟨src,dst,seq,lo,hi,rows,aX⟩,l)
def oh(l:List Nat):MC×List Nat:=nx 1 l λk l=>if k=1 then rn qG l λq l=>(⟨k,q,uP,0,0⟩,l)else if k=2 then rn CE l λr l=>(⟨k,vG,r,0,0⟩,l)else if k=3 then nx 1 l λp l=>nx 4 l λs l=>(⟨k,vG,uP,p,s⟩,l)else(⟨k,vG,uP,0,0⟩,l)
def oO(l:List Nat):MV×List Nat:=nx 4 l λs l=>rn iN l λb l=>rn oh l λc l=>(⟨s,b,c⟩,l)
theorem zu{d:ByteArray}:(d.toList==(ByteArray.mk #[]).toList)=true↔dl d=[]:=by
 rw[ByteArray.toList_eq,ByteArray.toList_eq];simp[dl]
theorem Pf{α:Type}(f:List Nat->α×List Nat)(n:Nat):tK f n []=([],[]):=by cases n<;>simp[tK]
theorem Fj{α:Type}{f:List Nat->α×List Nat}{n:Nat}{l l':List Nat}{x:α}(h:f l=(x,l'))(hl:l≠[]):tK f (n+1) l=(x::(tK f n l').1,(tK f n l').2):=by rw[tK,Jb5 hl,dU h]
theorem DF{w w1:World}{b e size n:Nat}{v:Value}{xs:List Value}{w0:World}(h:w.ownsRow 0 e size v n xs)(g:GB (some b) w w1)(hv:∀g,v.ownBlock=some g->w0.heap.size<=g)(hb:b<w0.heap.size):w1.ownsRow 0 e size v n xs:=ax h λx hx=>by
 obtain⟨c,hc⟩:=au h hx;exact g.block x (ae hc) λe=>by injection e with e;have:=hv x hx;omega
theorem Fz.bU{w w':World}{e size n x t:Nat}{v:Value}{xs:List Value}{c:Array Value}(h:Fz w e size v n xs)(g:GB (some x) w w')(hx:w.heap[x]?=some (.cells c t))(ht:t≠e):Fz w' e size v n xs:=by
 obtain⟨a,c,h1,h2,h3,h4⟩:=h;refine⟨a,c,h1,h2,h3,h4.imp id ?_⟩;rintro⟨b,off,cs,h5,h6,h7⟩;exact⟨b,off,cs,h5,g.get h6 (λe=>dw h6 hx ht.symm (Jbm e)),h7⟩
theorem aS.bU{w w':World}{r:Rg}{rv dv:Value}{x t:Nat}{c:Array Value}(h:aS w r rv dv)(g:GB (some x) w w')(hx:w.heap[x]?=some (.cells c t))(h1:t≠139)(h2:t≠70):aS w' r rv dv:=⟨h.1.bU g hx h1,h.2.bU g hx h2⟩
theorem Bx.acz{w w1 w2 w3 w4:World}{b b1 b2:Nat}{T:TypeId}{z c0 c:Array Value}{l l':List Nat}(hs:Src w b l)(m1:w1.heap[b1]?=some (.cells z T))(g1:GB none w w1)(n1:w.heap.size<=b1)(s2:Src w2 b l')(g2:GB (some b) w1 w2)(_m3:w3.heap[b2]?=some (.cells c0 T))(g3:GB none w2 w3)(n3:w2.heap.size<=b2)(m4:w4.heap[b2]?=some (.cells c T))(g4:GB (some b2) w3 w4):Bx w b b1 b2 T z c l' w4:=by
 have hb:=hs.lt;have e1:b≠b1:=by omega
 have h1:=ae m1;have k1:=g1.size;have k2:=g2.size;have k3:=g3.size;refine⟨(s2.keep (g3.block b s2.lt nofun)).keep (g4.block b (Jbz s2.lt k3) λe=>by injection e with e;omega),g4.get (g3.get (g2.get m1 λe=>by injection e with e;omega) nofun) λe=>by injection e with e;omega,m4,?_,n1,by omega,by omega,hb⟩;exact GB.news ((g1.weak.trans g2).trans g3.weak) g4 (by omega)
section
variable{w:World}{b:Nat}{l:List Nat}
theorem acA{α:Type}{f:α->List Value}{T k:Nat}{v:Value}{acc:List α}{x:α}(h:w.ownsRow 0 T k v (acc.length+1) ((acc.map f).flatten++f x)):w.ownsRow 0 T k v (acc++[x]).length ((acc++[x]).map f).flatten:=by simpa using h
abbrev Lrd(α:Type)(f:α->List Value)(rd₀:List Nat->α×List Nat)(T k F G:Nat):Prop:=∀{J:World->Value->List α->Prop} (_:J=λw v l=>w.ownsRow 0 T k v l.length (l.map f).flatten) {rd:List Nat->α×List Nat} (_:rd=rd₀) {w:World} {b:Nat} {l:List Nat} {kv:Value} (_:kv=.func (.func G) #[Ptt b] #[]) (_:Src w b l),CY F #[Ptt b,kv] w (λv w'=>∃x l',lZ rd l=(x,l')/\Fz w' T k v x.length (x.map f).flatten/\Src w' b l'/\GB (some b) w w')
theorem Pg:Lrd Row Row.cells DD 139 2 130 131/\Lrd ag ag.cells qH 70 7 132 70:=by
 constructor<;>intro J hJ rd hrd w b l kv TN hs
 have rr:=@acx;refine aj Tryz.func130 rfl rfl ?_;rotate_left
 have rr:=@Uo;refine aj Tryz.func132 rfl rfl ?_;rotate_left
 all_goals
  refine⟨_,lQ hs,?_⟩;rintro _ w1 ⟨n,l1,en,hn,rfl,s1,g1⟩;refine⟨λm s wk=>∃(i:Nat) (v:Value) (acc:List _) (li:List Nat),m=n-i/\i<=n/\s=[(0,Ptt b),(1,kv),(5,v),(7,.int .u8 n),(8,.int .u8 i)]/\J wk v acc/\Src wk b li/\GB (some b) w wk/\(∀g,v.ownBlock=some g->w.heap.size<=g)/\tK rd n l1=(acc++(tK rd (n-i) li).1,(tK rd (n-i) li).2)/\acc.length=i,⟨_,_,⟨0,Ptz,[],l1,rfl,Jcm _,rfl,hJ▸eu _ _ _,s1,g1,nofun,rfl,rfl⟩,sb rfl⟩,?_⟩;clear s1 g1;rintro m s wk ⟨i,v,acc,li,rfl,hi,rfl,ho,sk,gk,nk,hr,Tx⟩;subst hJ hrd TN;obtain⟨va,vc,rfl⟩:=af ho;refine ah (λe=>?_) (λe=>?_)
  .have e1:i<n:=by have:=Ptq e;omega
   obtain⟨d,hd,rfl⟩:=sk;refine⟨_,_,hd,_,rfl,ah (λq=>?_) (λq=>?_)⟩
   .rw[zu.1 q,Pf,Jc1]at hr
    exact⟨_,_,by rw[lZ,aY en];exact hr,qb ho,⟨d,hd,zu.1 q⟩,gk⟩
   .have q1:dl d≠[]:=λz=>by rw[zu.2 z]at q;cases q
    refine⟨_,rr ⟨d,hd,rfl⟩,?_⟩;rintro _ w2 ⟨x,l2,ex,rfl,s2,g2⟩;refine λw3 b3 m3 g3 l3=>?_
    have hb:=hs.lt;have ho3:=ax (DF ho g2 nk hb) λx hx=>by obtain⟨c,hc⟩:=au (DF ho g2 nk hb) hx;exact g3.block x (ae hc) nofun
    refine⟨_,x.cells,ho3,⟨_,_,m3,rfl,rfl,rfl⟩,by omega,λv' w4 Bi g4 n4=>?_⟩;obtain⟨Yq,Yr,rfl⟩:=af Bi;have zw:GB (some b) w w3:=(gk.trans g2).trans g3.weak;have nk':∀g,(Value.slice Yq (acc.length+1) Yr).ownBlock=some g->w.heap.size<=g:=λg hg=>(n4.own g hg).elim (nk g) λz=>Jb1 zw.size z
    have s4:Src w4 b l2:=(s2.keep (g3.block b s2.lt nofun)).keep (g4.block b (Jbz s2.lt g3.size) λz=>by have:=nk b z.symm;omega);have g4':GB (some b) w w4:=⟨g4.os.trans zw.os,g4.out.trans zw.out,Jb1 zw.size g4.size,λy hy hn=>(g4.block y (Jbz hy zw.size) λz=>by have:=nk y z.symm;omega).trans (zw.block y hy hn)⟩;refine⟨by omega,_,_,⟨i+1,_,acc++[x],l2,rfl,by omega,rfl,acA Bi,s4,g4',nk',?_,by simp[Tx]⟩,(sb rfl),by omega⟩;rw[hr,show n-i=(n-(i+1))+1 by omega,Fj ex q1];simp
  .have e1:i=n:=by have:=Ptx e;omega
   rw[e1,Nat.sub_self]at hr;exact⟨_,_,by rw[lZ,aY en];simpa[tK]using hr,qb ho,sk,gk⟩
theorem Yy(hs:Src w b l):CY 76 #[Ptt b] w (λv w'=>∃x l',CE l=(x,l')/\(∃rv dv,v=.agg (fB x rv dv).toArray/\aS w' x rv dv)/\Src w' b l'/\GB (some b) w w'):=by
 refine aj Tryz.func76 rfl rfl ?_;refine λw1 b1 m1 g1 l1 w2 b2 m2 g2 l2=>?_
 have B:=Bx.new hs m1 g1 l1 m2 g2 l2;clear m1 m2 g1 g2 l1 l2;refine⟨_,lQ B.s,?_⟩;rintro _ w3 ⟨src,l3,ahb,ajO,rfl,s3,g3⟩;refine B.mv s3 g3 rfl λw4 B=>?_
 refine⟨_,lQ B.s,?_⟩;rintro _ w3 ⟨dst,l3,ahc,ajP,rfl,s3,g3⟩;refine B.mv s3 g3 rfl λw4 B=>?_
 refine⟨_,qw B.s,?_⟩;rintro _ w3 ⟨seq,l3,ahd,ajQ,rfl,s3,g3⟩;refine B.mv s3 g3 rfl λw4 B=>?_
 refine⟨_,sG B.s,?_⟩;rintro _ w3 ⟨lo,l3,elo,uI,rfl,s3,g3⟩;refine B.mv s3 g3 rfl λw4 B=>?_
 refine⟨_,sG B.s,?_⟩;rintro _ w3 ⟨hi,l3,ehi,chi,rfl,s3,g3⟩;refine B.mv s3 g3 rfl λw4 B=>?_
 refine⟨_,Pg.1 rfl rfl rfl B.s,?_⟩;rintro _ w3 ⟨rows,l3,aez,⟨aeA,aeB,rfl,sH⟩,s3,g3⟩;have sH:Fz w3 _ _ _ _ _:=⟨_,_,rfl,sH⟩;replace B:=B.rd s3 g3;clear s3 g3;refine⟨_,_,_,B.m2,rfl,rfl,λw4 m4 g4=>?_⟩;replace sH:=sH.bU g4 B.m2 (by decide);replace B:=B.st m4 g4;clear m4 g4;refine⟨_,Pg.2 rfl rfl rfl B.s,?_⟩;rintro _ w3 ⟨aX,l3,aeC,⟨aeD,aeE,rfl,Az⟩,s3,g3⟩;have Az:Fz w3 _ _ _ _ _:=⟨_,_,rfl,Az⟩;replace sH:=sH.bU g3 B.s.choose_spec.1 (by decide);replace B:=B.rd s3 g3;clear s3 g3;refine⟨_,_,_,B.m2,rfl,rfl,λw4 m4 g4=>?_⟩;replace sH:=sH.bU g4 B.m2 (by decide);replace Az:=Az.bU g4 B.m2 (by decide);replace B:=B.st m4 g4;clear m4 g4;refine B.en (fB ⟨src,dst,seq,lo,hi,rows,aX⟩ (.slice aeA rows.length aeB) (.slice aeD aX.length aeE)) rfl rfl rfl rfl rfl λw5 s5 g5 q5=>?_
 replace sH:=sH.bU q5 B.m1 (by decide);replace Az:=Az.bU q5 B.m1 (by decide);exact⟨_,_,by rw[CE,aY ahb,aY ahc,aY ahd,aY elo,aY ehi,dU aez,dU aeC],⟨_,_,rfl,sH,Az⟩,s5,g5⟩
theorem ME(hs:Src w b l):CY 75 #[Ptt b] w (λv w'=>∃x l',oh l=(x,l')/\kF w' v x/\Src w' b l'/\GB (some b) w w'):=by
 refine aj Tryz.func75 rfl rfl ?_;refine λw1 b1 m1 g1 l1=>?_
 refine⟨_,lQ (hs.keep (g1.block b hs.lt nofun)),?_⟩;rintro _ w2 ⟨k,l2,ek,ck,rfl,s2,g2⟩;refine λw3 b3 m3 g3 l3=>⟨_,_,_,m3,rfl,rfl,λw4 m4 g4=>?_⟩
 have B:=Bx.acz hs m1 g1 l1 s2 g2 m3 g3 l3 m4 g4;clear m1 g1 l1 s2 g2 m3 g3 l3 m4 g4;refine⟨_,_,B.m2,_,rfl,ah (λq=>?_) (λq=>?_)⟩
 .have q1:k=1:=by simp at q;omega
  refine⟨_,Un B.s,?_⟩;rintro _ w3 ⟨x,l3,ex,rfl,s3,g3⟩;refine B.mv s3 g3 rfl λw4 B=>?_
  exact B.en (dF ⟨k,x,uP,0,0⟩ Ptz Ptz) rfl rfl rfl rfl rfl λ_ s5 g5 _=>⟨_,_,by rw[oh,aY ek,Jb6 q1,dU ex],⟨_,_,rfl,aS.zero _⟩,s5,g5⟩
 .have q1:¬k=1:=by simp at q;omega
  refine ah (λq=>?_) (λq=>?_)
  .have q2:k=2:=by simp at q;omega
   refine⟨_,Yy B.s,?_⟩;rintro _ w3 ⟨x,l3,ex,⟨rv,dv,rfl,hr⟩,s3,g3⟩;obtain⟨ra,rm,rc,da,dm,dc,rfl,rfl⟩:=hr.sl;replace B:=B.rd s3 g3;clear s3 g3;refine⟨_,_,_,B.m2,rfl,rfl,λw4 m4 g4=>?_⟩;replace hr:=hr.bU g4 B.m2 (by decide) (by decide);replace B:=B.st m4 g4;clear m4 g4;refine B.en (dF ⟨k,vG,x,0,0⟩ (.slice ra rm rc) (.slice da dm dc)) rfl rfl rfl rfl rfl λw5 s5 g5 q5=>?_
   replace hr:=hr.bU q5 B.m1 (by decide) (by decide);exact⟨_,_,by rw[oh,aY ek,Jb5 q1,Jb6 q2,dU ex],⟨_,_,rfl,hr⟩,s5,g5⟩
  .have q2:¬k=2:=by simp at q;omega
   refine ah (λq=>?_) (λq=>?_)
   .have q3:k=3:=by simp at q;omega
    refine⟨_,lQ B.s,?_⟩;rintro _ w3 ⟨p,l3,ep,cp,rfl,s3,g3⟩;refine B.mv s3 g3 rfl λw4 B=>?_
    refine⟨_,qw B.s,?_⟩;rintro _ w3 ⟨s,l3,es,cs,rfl,s3,g3⟩;refine B.mv s3 g3 rfl λw4 B=>?_
    exact B.en (dF ⟨k,vG,uP,p,s⟩ Ptz Ptz) rfl rfl rfl rfl rfl λ_ s5 g5 _=>⟨_,_,by rw[oh,aY ek,Jb5 q1,Jb5 q2,Jb6 q3,aY ep,aY es],⟨_,_,rfl,aS.zero _⟩,s5,g5⟩
   .have q3:¬k=3:=by simp at q;omega
    exact B.en (dF ⟨k,vG,uP,0,0⟩ Ptz Ptz) rfl rfl rfl rfl rfl λ_ s5 g5 _=>⟨_,_,by rw[oh,aY ek,Jb5 q1,Jb5 q2,Jb5 q3],⟨_,_,rfl,aS.zero _⟩,s5,g5⟩
theorem aaa(hs:Src w b l):CY 73 #[Ptt b] w (λv w'=>∃x l',oO l=(x,l')/\p8 w' v x/\Src w' b l'/\GB (some b) w w'):=by
 refine aj Tryz.func73 rfl rfl ?_;refine λw1 b1 m1 g1 l1 w2 b2 m2 g2 l2=>?_
 have B:=Bx.new hs m1 g1 l1 m2 g2 l2;clear m1 m2 g1 g2 l1 l2;refine⟨_,qw B.s,?_⟩;rintro _ w3 ⟨s,l3,es,cs,rfl,s3,g3⟩;refine B.mv s3 g3 rfl λw4 B=>?_
 refine⟨_,zt B.s,?_⟩;rintro _ w3 ⟨x,l3,ex,rfl,s3,g3⟩;refine B.mv s3 g3 rfl λw4 B=>?_
 refine⟨_,ME B.s,?_⟩;rintro _ w3 ⟨c,l3,ec,⟨rv,dv,rfl,hr⟩,s3,g3⟩;obtain⟨ra,rm,rc,da,dm,dc,rfl,rfl⟩:=hr.sl;replace B:=B.rd s3 g3;clear s3 g3;refine⟨_,_,_,B.m2,rfl,rfl,λw4 m4 g4=>?_⟩;replace hr:=hr.bU g4 B.m2 (by decide) (by decide);replace B:=B.st m4 g4;clear m4 g4;refine B.en (kE ⟨s,x,c⟩ (.slice ra rm rc) (.slice da dm dc)) rfl rfl rfl rfl rfl λw5 s5 g5 q5=>?_
 replace hr:=hr.bU q5 B.m1 (by decide) (by decide);exact⟨_,_,by rw[oO,aY es,dU ex,dU ec],⟨_,_,rfl,hr⟩,s5,g5⟩
end
theorem Yz{q:List bF}{k:Nat}{p:bF}(h:q[k]?=some p){cur:List Value}(ht:cur.take (q.length*5)=flat q):aG cur (k*5) 5=p.cells:=by
 have h1:=jb (f:=bF.cells) (size:=5) (λ_=>rfl) q k p h;have hk:k<q.length:=(Jcn.1 h).1;rw[<-h1,show q.flatMap bF.cells=flat q from rfl,<-ht];unfold aG;rw[Jfj,Jd5,Jd7 (by omega)]
section
variable{w:World}
theorem Uq{b4 b1 br:Nat}{p:bF}{Post:Value->World->Prop}(h4:w.heap[b4]?=some (.cells #[Ptt br] 123))(h1:Hl w b1 p.cells 97)(hc:CY 49 #[Ptt br,.agg p.cells.toArray] w (λv w'=>v=.tuple #[]/\Post (.tuple #[]) w')):CY 48 #[Ptt b4,Ptt b1] w Post:=by
 refine aj Tryz.func48 rfl rfl ?_;refine⟨_,_,h4,_,rfl,_,_,h1,p.cells,rfl,rfl,_,hc,?_⟩;rintro _ w' ⟨rfl,hp⟩;exact hp
end
def aJ.eX(A:aI)(C:aJ)(k:Int):aJ:=if 0<=k then C.jW A k.toNat else C
section
variable{A:aI}(HA:bG A)(HN:dS A){Λ:bW}{w:World}{bc:Nat}{C:aJ}
include HA HN
theorem aJ.aK.eX(h:C.aK A)(k:Int):(C.eX A k).aK A:=by
 unfold aJ.eX;split
 .exact h.jW HA HN _
 .exact h
theorem CF(h:vL Λ bc C w)(hf:C.aK A)(k:Int):lV Tryz.prog 24 #[Ptt bc,.int .i64 k] w (λv w'=>v=.int .i64 (if 0<=k/\k<C.q.length then 0 else 7)/\vL Λ bc (C.eX A k) w'/\Kz w w'):=by
 obtain⟨gv,sv,B,ad,h⟩:=h;refine GQ fG mixed Tryz.func24 rfl rfl ?_;obtain⟨sa,sc,rfl⟩:=af h.ci.row;have hlen:=hf.len;by_cases k0:k<0
 .refine ah (λc=>?_) (λc=>?_)
  .have:¬k<0:=by simpa using c
   omega
  .have e:aJ.eX A C k=C:=by unfold aJ.eX;rw[Jb5 (by omega)]
   rw[e,Jb5 (λx=>by omega)];exact⟨rfl,⟨_,_,_,_,h⟩,Kz.refl _⟩
 refine ah (λc=>?_) (λc=>(by have:k<0:=(by simpa using c);omega));refine⟨_,_,h.ci.fu,_,rfl,?_⟩;refine ah (λd=>?_) (λd=>?_)
 .have d1:(C.q.length:Int)<=k:=by simpa using d
  have e:aJ.eX A C k=C:=by
   unfold aJ.eX aJ.jW;rw[Jb6 (by omega),Jcg (by omega)]
  rw[e,Jb5 (λx=>by omega)];exact⟨rfl,⟨_,_,_,_,h⟩,Kz.refl _⟩
 .have d1:k<(C.q.length:Int):=by have:=Ptx d;omega
  obtain⟨k,rfl⟩:∃k':Nat,k=(k':Int):=⟨k.toNat,by omega⟩;have hk:k<C.q.length:=by omega
  obtain⟨p,hp⟩:∃p,C.q[k]?=some p:=⟨C.q[k],by simp[hk]⟩;have hpo:=hf.net p (Jcv hp);obtain⟨bs,cap,cur,hsv,aR,htk,hsz,hcap⟩:=j5 h.ci.row (by omega);injection hsv with hsv _ hsc;subst hsv;subst hsc;have hel:=Yz hp htk;obtain⟨f8,ef1,ef2⟩:=hpo.f8 hf.n hf.sz;obtain⟨t1,t2,t3,t4⟩:=hpo.1;have et1:p.tg=(p.tg.toNat:Int):=by omega
  have et2:p.tr=(p.tr.toNat:Int):=by omega
  refine⟨_,_,h.ci.fu,_,rfl,by omega,_,_,aR,p.cells,by show aG cur.toList (0+k*5) 5=_;rw[Jbh];exact hel,rfl,λw1 b1 m1 g1 l1=>⟨_,_,_,m1,rfl,rfl,λw2 m2 g2=>?_⟩⟩;have MH:GB none w w2:=g1.new g2 l1;have h2:=h.ay MH;have hfi:=find_ok h2.ci hf.n hf.sz p.tg.toNat p.tr.toNat (by omega) (by omega);rw[<-et1,<-et2]at hfi;refine⟨_,_,m2,[.int .u8 p.tg,.int .u8 p.tr],rfl,rfl,_,hfi.x,?_⟩;rintro _ w3 ⟨rfl,g3⟩;refine λw4 b4 m4 g4 l4=>⟨_,_,_,m4,rfl,rfl,λw5 m5 g5=>?_⟩
  have YA:GB none w3 w5:=g4.new g5 l4;have MI:=g3.trans YA;have h5:=h2.ay MI;have vN:=MI.get m2 nofun;refine⟨_,_,m5,_,rfl,?_⟩;rw[Jb6 ⟨by omega,by omega⟩];have ed:aJ.eX A C (k:Int)=if p.tg.toNat<C.n/\p.tr.toNat<C.sz then C.done p.tg.toNat p.tr.toNat (kR A (C.F p.tg.toNat p.tr.toNat) (p.fg.toNat,p.fr.toNat) p.d)else C:=by
   unfold aJ.eX aJ.jW;rw[Jb6 (by omega),Jfa,hp]
  rw[ed];by_cases c:p.tg.toNat<C.n/\p.tr.toNat<C.sz
  .rw[Jb6 c]at m5 |-
   rw[Jb6 c];have o:=hf.ok _ _ c.1 c.2;have e:=hf.out _ _ c.1 c.2;have gm:=hpo.gm HN hf.sz o (hf.sd _ _ c.1 c.2).1;have hl:=take_len HA o gm;rw[e]at hl;have vJ:w5.heap[b4]?=some (.cells #[.pointer (some ⟨B p.tg.toNat p.tr.toNat,0,none⟩)] 123):=m5;have ahe:Hl w5 b1 p.cells 97:=vN;refine⟨_,_,vJ,_,rfl,_,Ud h5 c.1 c.2 (f:=48) (fst:=#[]) (cap:=#[Ptt b4,Ptt b1]) Tryz.func48 (by kernel_rfl) (by kernel_rfl) (R':=kR A (C.F p.tg.toNat p.tr.toNat) (p.fg.toNat,p.fr.toNat) p.d) (by simp only[length_nil]at hl;omega) (λw6 g6=>?_),?_⟩
   .have ht:=Z4 HA HN.kind ((h5.ay g6).ci.enter c.1 c.2) o (p.fg.toNat,p.fr.toNat) (p.tg.toNat,p.tr.toNat) p.d gm (by rw[e];exact Jcm _)
    have ep:(Value.agg p.cells.toArray)=.agg #[.int .u8 (p.fg.toNat:Int),.int .u8 (p.fr.toNat:Int),.int .u8 (p.tg.toNat:Int),.int .u8 (p.tr.toNat:Int),.string p.d]:=by
     rw[<-ef1,<-ef2,<-et1,<-et2];rfl
    refine Uq (p:=p) (g6.get vJ nofun) (g6.get ahe nofun) ?_;rw[ep];exact gU.mono' ht λv w' hp=>⟨hp.1,hp.2⟩
   .rintro _ w6 ⟨rfl,h6,k6⟩
    exact⟨rfl,h6,(MH.trans MI).kz.trans k6⟩
  .rw[Jb5 c,Jb5 c]
   exact⟨rfl,⟨_,_,_,_,h5⟩,(MH.trans MI).kz⟩
end
theorem Xa{w:World}{v:Value}{n:Nat}{xs:List Value}(h:Fz w 97 5 v n xs)(ho:xs.all one=true)(hn:n<=1000000):CY 33 #[v] w (λv' w'=>w'.ownsRow 0 97 5 v' n xs/\GB none w w'/\∀x,v'.ownBlock=some x->w.heap.size<=x):=by
 obtain⟨a,c,rfl,hc,hl,hv⟩:=h;refine aj Tryz.func33 rfl rfl ?_;rcases hv with⟨rfl,rfl⟩|⟨b,off,cs,rfl,hb,hcut⟩
 .obtain rfl:xs=[]:=Jcq (by omega)
  exact⟨eu _ _ _,GB.refl _ _,nofun⟩
 .refine λw1 b1 m1 g1 l1=>?_
  refine⟨_,xs,⟨rfl,.inr ⟨b1,0,#[],rfl,Jcm _,m1,Jcm _,Jcm _,rfl,rfl⟩⟩,⟨_,_,g1.get hb nofun,hcut,hl,ho⟩,by omega,λv' w2 ho2 g2 n2=>?_⟩;refine⟨?_,g1.new g2 l1,λx hx=>?_⟩
  .have e:0+n=n:=Jbh n
   rw[e]at ho2;exact ho2
  .rcases n2 x hx with e|e
   .have e:some b1=some x:=e
    cases e;exact l1
   .have:=g1.size;omega
theorem Xb{w:World}{v:Value}{n:Nat}{xs:List Value}(h:Fz w 80 17 v n xs)(ho:xs.all one=true)(hn:n<=1000000):CY 39 #[v] w (λv' w'=>w'.ownsRow 0 80 17 v' n xs/\GB none w w'/\∀x,v'.ownBlock=some x->w.heap.size<=x):=by
 obtain⟨a,c,rfl,hc,hl,hv⟩:=h;refine aj Tryz.func39 rfl rfl ?_;rcases hv with⟨rfl,rfl⟩|⟨b,off,cs,rfl,hb,hcut⟩
 .obtain rfl:xs=[]:=Jcq (by omega)
  exact⟨eu _ _ _,GB.refl _ _,nofun⟩
 .refine λw1 b1 m1 g1 l1=>?_
  refine⟨_,xs,⟨rfl,.inr ⟨b1,0,#[],rfl,Jcm _,m1,Jcm _,Jcm _,rfl,rfl⟩⟩,⟨_,_,g1.get hb nofun,hcut,hl,ho⟩,by omega,λv' w2 ho2 g2 n2=>?_⟩;refine⟨?_,g1.new g2 l1,λx hx=>?_⟩
  .have e:0+n=n:=Jbh n
   rw[e]at ho2;exact ho2
  .rcases n2 x hx with e|e
   .have e:some b1=some x:=e
    cases e;exact l1
   .have:=g1.size;omega
theorem Ur{w:World}{v:Value}{n:Nat}{xs:List Value}(h:Fz w 139 2 v n xs)(ho:xs.all one=true)(hn:n<=1000000):CY 40 #[v] w (λv' w'=>w'.ownsRow 0 139 2 v' n xs/\GB none w w'/\∀x,v'.ownBlock=some x->w.heap.size<=x):=by
 obtain⟨a,c,rfl,hc,hl,hv⟩:=h;refine aj Tryz.func40 rfl rfl ?_;rcases hv with⟨rfl,rfl⟩|⟨b,off,cs,rfl,hb,hcut⟩
 .obtain rfl:xs=[]:=Jcq (by omega)
  exact⟨eu _ _ _,GB.refl _ _,nofun⟩
 .refine λw1 b1 m1 g1 l1=>?_
  refine⟨_,xs,⟨rfl,.inr ⟨b1,0,#[],rfl,Jcm _,m1,Jcm _,Jcm _,rfl,rfl⟩⟩,⟨_,_,g1.get hb nofun,hcut,hl,ho⟩,by omega,λv' w2 ho2 g2 n2=>?_⟩;refine⟨?_,g1.new g2 l1,λx hx=>?_⟩
  .have e:0+n=n:=Jbh n
   rw[e]at ho2;exact ho2
  .rcases n2 x hx with e|e
   .have e:some b1=some x:=e
    cases e;exact l1
   .have:=g1.size;omega
theorem Us{w:World}{v:Value}{n:Nat}{xs:List Value}(h:Fz w 70 7 v n xs)(ho:xs.all one=true)(hn:n<=1000000):CY 41 #[v] w (λv' w'=>w'.ownsRow 0 70 7 v' n xs/\GB none w w'/\∀x,v'.ownBlock=some x->w.heap.size<=x):=by
 obtain⟨a,c,rfl,hc,hl,hv⟩:=h;refine aj Tryz.func41 rfl rfl ?_;rcases hv with⟨rfl,rfl⟩|⟨b,off,cs,rfl,hb,hcut⟩
 .obtain rfl:xs=[]:=Jcq (by omega)
  exact⟨eu _ _ _,GB.refl _ _,nofun⟩
 .refine λw1 b1 m1 g1 l1=>?_
  refine⟨_,xs,⟨rfl,.inr ⟨b1,0,#[],rfl,Jcm _,m1,Jcm _,Jcm _,rfl,rfl⟩⟩,⟨_,_,g1.get hb nofun,hcut,hl,ho⟩,by omega,λv' w2 ho2 g2 n2=>?_⟩;refine⟨?_,g1.new g2 l1,λx hx=>?_⟩
  .have e:0+n=n:=Jbh n
   rw[e]at ho2;exact ho2
  .rcases n2 x hx with e|e
   .have e:some b1=some x:=e
    cases e;exact l1
   .have:=g1.size;omega
theorem Rl(q:List bF)(t:Nat):(flat q).drop (t*5)=flat (q.drop t):=by
 induction q generalizing t with
 |nil=>simp[flat]
 |cons p q ih =>
  cases t with
  |zero=>simp
  |succ t =>
   rw[show flat (p::q)=p.cells++flat q by simp[flat],drop_append,show p.cells.length=5 from rfl,show(t+1)*5-5=t*5 by omega,ih];rw[Jgc (by show 5<=_;omega)];simp
theorem Ut(q:List bF):(flat q).all one=true:=by
 rw[all_eq_true];intro u hu;unfold flat at hu;obtain⟨p,_,hp⟩:=mem_flatMap.1 hu;simp only[bF.cells,Jb3,Jbw,Jbx]at hp;rcases hp with rfl|rfl|rfl|rfl|rfl<;>rfl
theorem aeF{w:World}{q:List bF}{sa:Option Addr}{sc:Nat}(h:w.ownsRow 0 97 5 (.slice sa q.length sc) q.length (flat q)){t:Nat}(ht:t<=q.length):Fz w 97 5 (.slice (if sc=t then sa else sa.map (·.add (t*5))) (q.length-t) (sc-t)) (q.length-t) (flat (q.drop t)):=by
 have hl:(flat (q.drop t)).length=(q.length-t)*5:=by rw[aaZ,Jf7]
 rcases h.2 with⟨e,h0⟩|⟨g,cap,cur,e,h0,h2,h3,h4,h5,h6⟩
 .injection e with e1 _ e3
  subst e1;subst e3;exact⟨none,0-t,by split<;>rfl,by omega,hl,.inl ⟨rfl,by omega⟩⟩
 .injection e with e1 _ e3
  subst e1;subst e3;by_cases c:sc=t
  .have:q.length=t:=by omega
   refine⟨_,_,rfl,by omega,hl,.inr ⟨g,0,cur,by rw[Jb6 c],h2,?_⟩⟩;rw[show q.length-t=0 by omega,Jc7,Jgc (by omega)];simp[aG,flat]
  .refine⟨_,_,rfl,by omega,hl,.inr ⟨g,t*5,cur,by rw[Jb5 c];simp[Addr.add];omega,h2,?_⟩⟩
   rw[<-Rl,<-h6];unfold aG;rw[Jfj,Nat.sub_mul]
section
variable{Λ:bW}{w:World}{bc:Nat}{C:aJ}
theorem MJ(h:vL Λ bc C w)(hlen:C.q.length<=20000)(fr:Int)(hlo : -9223372036854775808<=fr)(hhi:fr<9223372036854775808):CY 13 #[Ptt bc,.int .i64 fr] w (λv w'=>w'.ownsRow 0 97 5 v (C.q.length-min fr.toNat C.q.length) (flat (C.q.drop (min fr.toNat C.q.length)))/\GB none w w'/\∀x,v.ownBlock=some x->w.heap.size<=x):=by
 obtain⟨gv,sv,B,ad,h⟩:=h;refine aj Tryz.func13 rfl rfl ?_;obtain⟨sa,sc,rfl⟩:=af h.ci.row;refine⟨_,_,h.ci.fu,_,rfl,_,_,h.ci.fu,_,rfl,?_⟩;obtain⟨t,et⟩:∃t,t=min fr.toNat C.q.length:=⟨_,rfl⟩;rw[<-et];have hl:(if(C.q.length:Int)<(if(0:Int)>fr then 0 else fr)then(C.q.length:Int)else if(0:Int)>fr then 0 else fr)=(t:Int):=by
  split
  .split at * <;> omega
  .split at * <;> omega
 have hc:C.q.length<=sc:=by
  rcases h.ci.row.2 with⟨e,h0⟩|⟨g,cap,cur,e,h0,h2,h3,_⟩
  .omega
  .injection e with _ _ e3;subst e3;exact h3
 have hz:=aeF h.ci.row (t:=t) (by omega);refine⟨⟨by rw[hl];omega,by rw[hl];omega,hc⟩,?_⟩;refine⟨_,?_,λv w' hp=>hp⟩;have:=Xa hz (Ut _) (by omega);have e:∀l:Int,l=(t:Int)->CY 33 #[.slice (if sc=l.toNat then sa else sa.map (·.add (l.toNat*5))) (C.q.length-l.toNat) (sc-l.toNat)] w _:=λl hl=>by subst hl;exact this
 exact e _ hl
end
section
variable{A:aI}(HA:bG A){Λ:bW}{w:World}{bc:Nat}{C:aJ}
include HA
end
def lf(l:List MC)(vs:List (Value×Value)):List Value:=(zipWith (λc p=>dF c p.1 p.2) l vs).flatten
theorem mg(c:MC)(l:List MC)(p:Value×Value)(vs:List (Value×Value)):lf (c::l) (p::vs)=dF c p.1 p.2++lf l vs:=by simp[lf]
theorem Rm:∀{l:List MC} {vs:List (Value×Value)} {k:Nat} {c:MC} {p:Value×Value},l[k]?=some c->vs[k]?=some p->aG (lf l vs) (k*17) 17=dF c p.1 p.2
 | [],_,_,_,_,h,_=>by simp at h
 |_::_,[],_,_,_,_,h=>by simp at h
 |c::l,p::vs,0,_,_,h1,h2=>by
  simp at h1 h2;subst h1;subst h2;rw[mg];unfold aG;simp[dF]
 |c::l,p::vs,k+1,_,_,h1,h2=>by
  rw[mg];unfold aG;rw[drop_append,Jgc (by show 17<=_;omega),nil_append,show(dF c p.1 p.2).length=17 from rfl,show(k+1)*17-17=k*17 by omega];exact Rm (l:=l) (vs:=vs) (by simpa using h1) (by simpa using h2)
theorem Ph:∀{l:List MC} {vs:List (Value×Value)} {k:Nat} {p:Value×Value} (rv:Value),k<l.length->vs[k]?=some p->(lf l vs).set (k*17+13) rv=lf l (vs.set k (rv,p.2))
 | [],_,_,_,_,h,_=>by simp at h
 |_::_,[],_,_,_,_,h=>by simp at h
 |c::l,p::vs,0,_,rv,_,h2=>by
  simp at h2;subst h2;rw[set_cons_zero,mg,mg,set_append_left _ _ (by show 0*17+13<17;omega)];rfl
 |c::l,p::vs,k+1,_,rv,h1,h2=>by
  rw[set_cons_succ,mg,mg,set_append_right _ _ (by show 17<=_;omega),show(k+1)*17+13-(dF c p.1 p.2).length=k*17+13 by show _-17=_;omega];rw[Ph (l:=l) (vs:=vs) rv (by simpa using h1) (by simpa using h2)]
theorem Pj:∀{l:List MC} {vs:List (Value×Value)} {k:Nat} {p:Value×Value} (dv:Value),k<l.length->vs[k]?=some p->(lf l vs).set (k*17+14) dv=lf l (vs.set k (p.1,dv))
 | [],_,_,_,_,h,_=>by simp at h
 |_::_,[],_,_,_,_,h=>by simp at h
 |c::l,p::vs,0,_,rv,_,h2=>by
  simp at h2;subst h2;rw[set_cons_zero,mg,mg,set_append_left _ _ (by show 0*17+14<17;omega)];rfl
 |c::l,p::vs,k+1,_,rv,h1,h2=>by
  rw[set_cons_succ,mg,mg,set_append_right _ _ (by show 17<=_;omega),show(k+1)*17+14-(dF c p.1 p.2).length=k*17+14 by show _-17=_;omega];rw[Pj (l:=l) (vs:=vs) rv (by simpa using h1) (by simpa using h2)]
theorem Pk{w:World}:∀{l:List MC} {vs:List (Value×Value)},(∀(i:Nat) (c:MC) (p:Value×Value),l[i]?=some c->vs[i]?=some p->aS w c.r p.1 p.2)->(lf l vs).all one=true
 | [],_,_=>rfl
 |_::_,[],_=>rfl
 |c::l,p::vs,h=>by
  rw[mg,all_append,Pk (l:=l) (vs:=vs) λi c p h1 h2=>h (i+1) c p (by simpa using h1) (by simpa using h2),Bool.and_true];obtain⟨rv,dv⟩:=p;obtain⟨ra,rn,rc,da,dn,dc,e1,e2⟩:=(h 0 c (rv,dv) rfl rfl).sl;have e1:rv=_:=e1;have e2:dv=_:=e2;subst e1;subst e2;rfl
theorem gT{xs:List Value}{off:Nat}{v:Value}(hv:one v=true)(hc:v.cells.toList=[v])(h:off<xs.length):Ce xs off 1 v=true:=by
 unfold Ce;rw[hc];simp[hv];exact h
theorem aab{w w':World}{e:TypeId}{size n g cap off:Nat}{xs:List Value}{v:Value}{cur:Array Value}(h:w.ownsRow 0 e size (.slice (Pty g) n cap) n xs)(aR:w.heap[g]?=some (.cells cur e))(hw:Hl w' g (cur.toList.take off++[v]++cur.toList.drop (off+1)) e)(ho:off<n*size):w'.ownsRow 0 e size (.slice (Pty g) n cap) n (xs.set off v):=by
 rcases h.2 with⟨q,h0⟩|⟨g',cap',cur',q,h0,h2,h3,h4,h5,h6⟩
 .cases q
 .injection q with q1 _ q3
  injection q1 with q1;injection q1 with q1;subst q1;subst q3;rw[aR]at h2;injection h2 with h2;injection h2 with h2 _;subst h2;have hlen:xs.length=n*size:=h.1;have hl:n*size<=cur.toList.length:=by
   have:=congrArg length h6;rw[Jd6]at this;omega
  have hs:cur.toList.take off++[v]++cur.toList.drop (off+1)=cur.toList.set off v:=by
   rw[Jck,Jb6 (by omega)];simp
  rw[hs]at hw;refine⟨by rw[Jgd];exact hlen,.inr ⟨g,cap,_,rfl,h0,hw,h3,h4,?_,?_⟩⟩
  .simp[h5]
  .show(cur.toList.set off v).take (n*size)=_
   rw[take_set,h6]
theorem kY{α:Type}{f:α->List Value}(hf:∀x,(f x).all one=true)(l:List α):(l.map f).flatten.all one=true:=by
 induction l with
 |nil=>rfl
 |cons x l ih=>rw[Jcj,Jfw,all_append,hf,ih];rfl
theorem own_set'{w w':World}{e:TypeId}{size n g cap off:Nat}{xs:List Value}{v:Value}{cur:Array Value}(h:w.ownsRow 0 e size (.slice (Pty g) n cap) n xs)(aR:w.heap[g]?=some (.cells cur e)){off' s1:Nat}{vc:List Value}(hw:Hl w' g (cur.toList.take off'++vc++cur.toList.drop (off'+s1)) e)(e1:off'=off)(e2:s1=1)(e3:vc=[v])(ho:off<n*size):w'.ownsRow 0 e size (.slice (Pty g) n cap) n (xs.set off v):=by
 subst e1;subst e2;subst e3;exact aab h aR hw ho
section
variable{A:aI}(HN:dS A){Λ:bW}{w:World}{bc:Nat}{C:aJ}
include HN
theorem aeG(h:vL Λ bc C w)(hf:C.aK A)(g i:Nat)(hg:g<C.n)(hi:i<C.sz):CY 18 #[Ptt bc,.agg #[.int .u8 g,.int .u8 i]] w (λv w'=>jL w' v (C.F g i).log/\GB none w w'/\∀x,v.ownBlock=some x->w.heap.size<=x):=by
 obtain⟨gv,sv,B,ad,h⟩:=h;have hn:=hf.n;have hz:=hf.sz;have hok:=hf.ok g i hg hi;have hll:=hok.lg;refine aj Tryz.func18 rfl rfl ?_;refine λw1 b1 m1 g1 l1=>?_
 have h1:=h.ay g1;refine⟨_,_,m1,[.int .u8 g,.int .u8 i],rfl,rfl,_,find_ok h1.ci hf.n hf.sz g i (by omega) (by omega),?_⟩;rintro _ w2 ⟨rfl,g2⟩;rw[Jb6 ⟨hg,hi⟩];have h2:=h1.ay g2;have hR:=h2.ci.rep g i hg hi;obtain⟨vs,v1,v2,v3⟩:=hR.lg;refine⟨_,_,hR.mem,_,rfl,_,Xb (qb v2) (Pk v3) (by omega),?_⟩;rintro lv w3 ⟨o3,g3,n3⟩;have G3:=(g1.trans g2).trans g3;have L3:jL w3 lv (C.F g i).log:=⟨vs,v1,o3,λi c p a b=>(v3 i c p a b).kz g3.kz⟩;obtain⟨la,lc,rfl⟩:=af o3;have n3':∀x,(Value.slice la (C.F g i).log.length lc).ownBlock=some x->w.heap.size<=x:=λx hx=>by have:=n3 x hx;have:=(g1.trans g2).size;omega
 clear o3 v3 v2 v1 vs;refine⟨λm s wk=>∃k:Nat,m=(C.F g i).log.length-k/\k<=(C.F g i).log.length/\s=[(6,.slice la (C.F g i).log.length lc),(19,.slice la (C.F g i).log.length lc),(20,.int .i64 (C.F g i).log.length),(21,.int .i64 k)]/\jL wk (.slice la (C.F g i).log.length lc) (C.F g i).log/\GB none w wk,⟨_,_,⟨0,rfl,Jcm _,rfl,L3,G3⟩,sb rfl⟩,?_⟩;rintro m s wk ⟨k,rfl,hk,rfl,⟨vs,v1,v2,v3⟩,gk⟩;refine ah (λc=>?_) (λc=>?_)
 .have c1:k<(C.F g i).log.length:=by simp at c;omega
  obtain⟨c,hc⟩:∃c,(C.F g i).log[k]?=some c:=⟨(C.F g i).log[k],by simp[c1]⟩;obtain⟨p,hp⟩:∃p,vs[k]?=some p:=⟨vs[k],by simp[v1,c1]⟩;obtain⟨gb,cap,cur,ev,aR,htk,hsz,hcap⟩:=j5 v2 (by omega);injection ev with ev _ Uu;subst ev;subst Uu;have hel:aG cur.toList (k*17) 17=dF c p.1 p.2:=by
   rw[<-Rm hc hp,show lf (C.F g i).log vs=_ from htk.symm];unfold aG;rw[Jfj,Jd5,Jd7 (by omega)]
  have hrg:=v3 k c p hc hp;obtain⟨rb1,rb2⟩:=HN.rl c (hok.lc c (Jcv hc));obtain⟨rv,dv⟩:=p;obtain⟨ra,rn,rc,da,dn,dc,e1,e2⟩:=hrg.sl;have e1:rv=_:=e1;have e2:dv=_:=e2;subst e1;subst e2;have lgb:w.heap.size<=gb:=n3' gb rfl;refine⟨by omega,_,_,aR,dF c _ _,by show aG cur.toList (0+k*17) 17=_;rw[Jbh];exact hel,rfl,λw4 b4 m4 g4 l4=>⟨_,_,_,m4,rfl,rfl,λw5 m5 g5=>?_⟩⟩;have YA:GB none wk w5:=g4.new g5 l4;have nb:gb≠b4:=by have:=ae aR;omega
  refine⟨_,_,m5,_,rfl,_,Ur (hrg.1.kz YA.kz (by decide)) (kY (λ_=>rfl) _) (by omega),?_⟩;rintro rv' w6 ⟨o6,g6,n6⟩;have Ck:=YA.trans g6;have vY:=Ck.get aR nofun;obtain⟨uR,rc',rfl⟩:=af o6;refine⟨by omega,_,_,_,vY,gT rfl rfl (by rw[Array.length_toList];show 0+k*17+13<_;omega),rfl,λw7 m7 g7=>?_⟩;have o7:=own_set' (off:=k*17+13) (ax v2 λx hx=>by cases hx;exact Ck.block gb (ae aR) nofun) vY m7 (by show 0+(k:Int).toNat*17+8+5=_;omega) rfl rfl (by omega);rw[show(zipWith (λ(c:MC) (p:Value×Value)=>dF c p.1 p.2) (C.F g i).log vs).flatten=lf (C.F g i).log vs from rfl,Ph _ c1 hp]at o7;have m57:w7.heap[b4]?=_:=g7.get (g6.get m5 nofun) λe=>nb (Jbm e).symm
  have TK:Kz w6 w7:=g7.Ei λc' t ht hc'=>by rw[vY]at hc';injection hc' with hc';injection hc' with _ hc';subst hc';revert ht;decide
  have G7:GB none w w7:=(gk.trans Ck).new g7 lgb;have r7:=(qb o6).kz TK (by decide);refine⟨_,_,m57,_,rfl,_,Us ((hrg.2.kz Ck.kz (by decide)).kz TK (by decide)) (kY (λ_=>rfl) _) (by omega),?_⟩;rintro jU w8 ⟨o8,g8,n8⟩;have Ro:=g8.get m7 nofun;obtain⟨qf,qg,rfl⟩:=af o8;refine⟨by omega,_,_,_,Ro,gT rfl rfl ?_,rfl,λw9 m9 g9=>?_⟩
  .rw[Array.length_toList]
   obtain⟨g7',_,ajR,e7,Pm,_,hs7,_⟩:=j5 o7 (by omega);injection e7 with e7 _ _;injection e7 with e7;injection e7 with e7;subst e7;rw[m7]at Pm;injection Pm with Pm;injection Pm with Pm _;rw[Pm];show 0+(k:Int).toNat*17+8+6<_;omega
  have o9:=own_set' (off:=k*17+14) (ax o7 λx hx=>by cases hx;exact g8.block gb (ae m7) nofun) Ro m9 (by show 0+(k:Int).toNat*17+8+6=_;omega) rfl rfl (by omega);have hp':(vs.set k (Value.slice uR c.r.rows.length rc',Value.slice da dn dc))[k]?=some (Value.slice uR c.r.rows.length rc',Value.slice da dn dc):=by simp[v1,c1]
  rw[Pj _ c1 hp',set_set]at o9;have k89:Kz w8 w9:=g9.Ei λc' t ht hc'=>by rw[Ro]at hc';injection hc' with hc';injection hc' with _ hc';subst hc';revert ht;decide
  have k09:Kz wk w9:=((Ck.kz.trans TK).trans g8.kz).trans k89;refine⟨by omega,_,_,⟨k+1,rfl,by omega,rfl,⟨_,by rw[Jgd];exact v1,o9,λj c' p' h1 h2=>?_⟩,(G7.trans g8).new g9 lgb⟩,(sb rfl),by omega⟩;by_cases e:j=k
  .subst e
   rw[hc]at h1;cases h1
   rw[Jgf (by rw[v1];exact c1)]at h2;cases h2
   exact⟨(r7.kz g8.kz (by decide)).kz k89 (by decide),(qb o8).kz k89 (by decide)⟩
  .rw[Jgg (λh=>e h.symm)]at h2
   exact(v3 j c' p' h1 h2).kz k09
 .exact⟨⟨vs,v1,v2,v3⟩,gk,n3'⟩
end
end
