/- Lemmas. -/
import Derived.Test.YtignemioillaiabGreatG34
namespace Go.Proofs.YtignemioillaiabGreat
set_option maxHeartbeats 8000000
set_option maxRecDepth 100000
open List
section
open Go Go.Conc
theorem LN.two{e size n n':Nat}{w0 w w':World}{v v1 v':Value}{xs ys:List Value}(h:LN e size w0 w v n xs)(k:LN e size w0 w v1 n' ys)(g:GB v.ownBlock w w')(hn:∀g,v'.ownBlock=some g->v.ownBlock=some g\/w.heap.size<=g)(hs:∀g,v.ownBlock=some g->v1.ownBlock≠some g):LN e size w0 w' v1 n' ys/\∀g,v'.ownBlock=some g->v1.ownBlock≠some g:=by
 refine⟨⟨ax k.own λy hy=>?_,h.gb.ownB g h.new,k.new⟩,λy hy he=>?_⟩
 .obtain⟨c,hc⟩:=au k.own hy
  exact g.block y (ae hc) λz=>hs y z.symm hy
 .rcases hn y hy with q|q
  .exact hs y q he
  .have:=k.lt he;omega
abbrev Gro(T k F:Nat):Prop:=∀(w:World) {n:Int} (_:0<=n) (_:n<=1000000),CY F #[Ptz,.int .i64 n] w (λv w'=>LN T k w w' v 0 [])
theorem JO:Gro 139 2 169/\Gro 70 7 170:=by
 constructor<;>intro w n h0 hn
 refine aj Tryz.func169 rfl rfl ?_;rotate_left
 refine aj Tryz.func170 rfl rfl ?_;rotate_left
 all_goals
  refine ah (λe=>?_) (λe=>?_)
  .have:=Ptq e
   omega
  refine⟨⟨by decide,by decide⟩,by omega,ah (λe=>?_) (λe=>?_)⟩
  .have e1:=Ptq e
   refine⟨⟨by decide,by decide⟩,[],eu _ _ _,by omega,by show((0:Nat):Int)<_;omega,by show((0:Int).toNat:Int)+_<=_;simp;omega,λb cap cur w' hb hs ht hc hm g l=>?_⟩;refine⟨⟨by decide,by omega⟩,?_⟩;exact⟨⟨by simp,.inr ⟨b,cap,cur,rfl,Jcm _,hb,Jcm _,hm,hs,by simp⟩⟩,g,λy hy=>by simp[Value.ownBlock]at hy;omega⟩
  .exact LN.nil (GB.refl _ _)
abbrev jP{α:Type}(xs:List (Value×List α)):List α:=(xs.map (·.2)).flatten
abbrev YG(α:Type)(f:α->List Value)(T U k F:Nat):Prop:=∀{J:World->World->Value->List α->Prop} (_:J=λw w' v l=>LN T k w w' v l.length (l.map f).flatten) {w:World} {vb:Nat} {xs:List (Value×List α)} (_:Hl w vb (xs.map (·.1)) U) (_:∀x∈xs,Fz w T k x.1 x.2.length (x.2.map f).flatten) (_:(jP xs).length<=1000000) (_:xs.length<=100),CY F #[.slice (Pty vb) xs.length xs.length] w (λv w'=>J w w' v (jP xs))
theorem Es:YG Row Row.cells 139 49 2 108/\YG ag ag.cells 70 51 7 111:=by
 constructor<;>intro J hJ w vb xs hvb hx hl hxl
 all_goals
  have hct:∀k,(jP (xs.take k)).length<=(jP xs).length:=λk=>by
   have:jP xs=jP (xs.take k)++jP (xs.drop k):=by unfold jP;rw[<-Jfr,<-Jda,Jgk]
   rw[this,Jc6];omega
  have hnx:∀k x,xs[k]?=some x->jP (xs.take (k+1))=jP (xs.take k)++x.2:=λk x h=>by
   unfold jP;rw[Jfm,h];simp
 have gr:=@JO.1;refine aj Tryz.func108 rfl rfl ?_;rotate_left
 have gr:=@JO.2;refine aj Tryz.func111 rfl rfl ?_;rotate_left
 all_goals
  refine⟨λn s wk=>∃k:Nat,n=xs.length-k/\k<=xs.length/\s=[(0,.slice (Pty vb) xs.length xs.length),(3,.int .i64 (jP (xs.take k)).length),(9,.slice (Pty vb) xs.length xs.length),(10,.int .i64 xs.length),(11,.int .i64 k)]/\wk=w,⟨_,_,⟨0,rfl,Jcm _,rfl,rfl⟩,sb rfl⟩,?_⟩;rintro n s wk ⟨k,rfl,hk,rfl,rfl⟩;refine ah (λd=>?_) (λd=>?_)
  .have d1:k<xs.length:=by have:=Ptq d;omega
   obtain⟨⟨v,l⟩,hv⟩:∃x,xs[k]?=some x:=⟨xs[k],by simp[d1]⟩;obtain⟨a,c,e,_⟩:=hx _ (Jcv hv);have e:v=.slice a l.length c:=e;subst e;have h1:=hct (k+1);have h2:=hnx k _ hv;rw[h2,Jc6]at h1;refine⟨by omega,_,_,hvb,.slice a l.length c,by show(xs.map (·.1)).toArray.toList[0+(k:Int).toNat*1]?=_;simp[hv],⟨by dsimp only at h1;omega,by dsimp only at h1;omega⟩,?_⟩;refine⟨by omega,_,_,⟨k+1,rfl,by omega,rfl,rfl⟩,⟨rfl,?_,sb rfl⟩,by omega⟩;show some (Value.int .i64 _)=some (Value.int .i64 _);rw[h2,Jc6];rfl
  .have d1:k=xs.length:=by have:=Ptx d;omega
   subst d1;rw[Jfn];refine⟨_,gr wk (n:=((jP xs).length:Int)) (by omega) (by omega),?_⟩;intro v w1 L;obtain⟨va,vc,rfl⟩:=af L.own;refine⟨λn s w2=>∃(k:Nat) (x:Value),n=xs.length-k/\k<=xs.length/\s=[(6,x),(25,.slice (Pty vb) xs.length xs.length),(26,.int .i64 xs.length),(27,.int .i64 k)]/\J wk w2 x (jP (xs.take k)),⟨_,_,⟨0,_,rfl,Jcm _,rfl,hJ▸L⟩,sb rfl⟩,?_⟩;clear L;rintro n s w2 ⟨k,x,rfl,hk,rfl,L⟩;subst hJ;obtain⟨xa,xc,rfl⟩:=af L.own;refine ah (λd=>?_) (λd=>?_)
   .have d1:k<xs.length:=by have:=Ptq d;omega
    obtain⟨⟨v,l⟩,hv⟩:∃x,xs[k]?=some x:=⟨xs[k],by simp[d1]⟩;have hF:=hx _ (Jcv hv);have h2:=hnx k _ hv;have h1:=hct (k+1);rw[h2,Jc6]at h1;dsimp only at hF h1 h2;obtain⟨a,c,rfl,hc,hlen,hd⟩:=hF;refine⟨by omega,_,_,L.gb.get hvb nofun,.slice a l.length c,by show(xs.map (·.1)).toArray.toList[0+(k:Int).toNat*1]?=_;simp[hv],?_⟩;rcases hd with⟨rfl,h0⟩|⟨b,off,cs,rfl,hb,hcut⟩
    .rw[h0]
     have hl0:l=[]:=Jcq h0;have hcp:(jP (xs.take k)).length<=xc:=by
      rcases L.own.2 with⟨q,h0⟩|⟨_,_,_,q,_,_,h3,_⟩
      .injection q with _ _ q;omega
      .injection q with _ _ q;omega
     refine⟨hcp,by omega,_,_,⟨k+1,.slice xa (jP (xs.take k)).length xc,rfl,by omega,rfl,?_⟩,(sb rfl),by omega⟩;rw[h2,hl0,Jc1];exact L
    .refine⟨_,(l.map λx=>x.cells).flatten,L.own,⟨_,_,L.gb.get hb nofun,hcut,hlen,kY (λ_=>rfl) _⟩,by omega,λv' w3 ho g n=>?_⟩
     have L3:=L.app ho g n;obtain⟨xa',xc',rfl⟩:=af L3.own;refine⟨by omega,_,_,⟨k+1,_,rfl,by omega,rfl,?_⟩,(sb rfl),by omega⟩;rw[h2];dsimp only;rw[Jc6,Jda,Jfr];exact L3
   .have d1:k=xs.length:=by have:=Ptx d;omega
    subst d1;rw[Jfn]at L |-;exact L
theorem GY:YG Row Row.cells 139 49 2 108:=Es.1
theorem GZ:YG ag ag.cells 70 51 7 111:=Es.2
theorem aaj(w:World)(x:Row):CY 107 #[.agg x.cells.toArray] w (λv w'=>v=.int .u64 x.key/\GB none w w'):=by
 refine aj Tryz.func107 rfl rfl ?_;exact λw1 b1 m1 g1 l1=>⟨_,_,m1,_,rfl,rfl,g1⟩
theorem aak(w:World)(x:ag):CY 110 #[.agg x.cells.toArray] w (λv w'=>v=.int .u64 x.key/\GB none w w'):=by
 refine aj Tryz.func110 rfl rfl ?_;exact λw1 b1 m1 g1 l1=>⟨_,_,m1,_,rfl,rfl,g1⟩
section
variable{α:Type}(κ:α->Int)(lo hi:Int){l:List α}{i:Nat}{y:α}
theorem acR(hy:l[i]?=some y):sB κ lo (l.take (i+1))=sB κ lo (l.take i)++(if κ y<lo then[y]else[])/\sW κ lo hi (l.take (i+1))=sW κ lo hi (l.take i)++(if κ y<lo then[]else if hi<κ y then[]else[y])/\sA κ lo hi (l.take (i+1))=sA κ lo hi (l.take i)++(if κ y<lo then[]else if hi<κ y then[y]else[]):=by
 have ht:l.take (i+1)=l.take i++[y]:=by rw[Jfm,hy];rfl
 unfold sB sW sA;rw[ht];refine⟨?_,?_,?_⟩<;>rw[Jfh]<;>by_cases h:κ y<lo<;>by_cases h':hi<κ y<;>simp[h,h']
theorem aeJ(l:List α):(sB κ lo l).length<=l.length/\(sW κ lo hi l).length<=l.length/\(sA κ lo hi l).length<=l.length:=⟨Jff _ _,Jff _ _,Jff _ _⟩
end
abbrev YH(α:Type)(f:α->List Value)(κ₀:α->Int)(T k F G:Nat):Prop:=∀{J:World->World->Value->List α->Prop} (_:J=λw w' v l=>LN T k w w' v l.length (l.map f).flatten) {κ:α->Int} (_:κ=κ₀) {kv:Value} (_:kv=.func (.func G) #[] #[]) {w:World} {v:Value} {l:List α} (_:Fz w T k v l.length (l.map f).flatten) (_:l.length<=1000000) (lo hi:Int),CY F #[v,kv,.int .u64 lo,.int .u64 hi] w (λx w'=>∃v1 v2 v3,x=.tuple #[v1,v2,v3]/\J w w' v1 (sB κ lo l)/\J w w' v2 (sW κ lo hi l)/\J w w' v3 (sA κ lo hi l)/\(∀g,v2.ownBlock=some g->v1.ownBlock≠some g/\v3.ownBlock≠some g))
theorem Ha:YH Row Row.cells (·.key) 139 2 106 107/\YH ag ag.cells (·.key) 70 7 109 110:=by
 constructor<;>intro J hJ κ hκ kv TN w v l h hl lo hi
 all_goals
  obtain⟨a,c,rfl,hc,hlen,hv⟩:=h
 have ky:=aaj;refine aj Tryz.func106 rfl rfl ?_;rotate_left
 have ky:=aak;refine aj Tryz.func109 rfl rfl ?_;rotate_left
 all_goals
  refine⟨λn s wk=>∃(i:Nat) (v1 v2 v3:Value),n=l.length-i/\i<=l.length/\s=[(1,kv),(2,.int .u64 lo),(3,.int .u64 hi),(8,v1),(9,v2),(10,v3),(14,.slice a l.length c),(15,.int .i64 l.length),(16,.int .i64 i)]/\J w wk v1 (sB κ lo (l.take i))/\J w wk v2 (sW κ lo hi (l.take i))/\J w wk v3 (sA κ lo hi (l.take i))/\(∀g,v1.ownBlock=some g->v2.ownBlock≠some g/\v3.ownBlock≠some g)/\(∀g,v2.ownBlock=some g->v3.ownBlock≠some g),⟨_,_,⟨0,Ptz,Ptz,Ptz,rfl,Jcm _,rfl,by subst hJ;exact LN.nil (GB.refl _ _),by subst hJ;exact LN.nil (GB.refl _ _),by subst hJ;exact LN.nil (GB.refl _ _),nofun,nofun⟩,sb rfl⟩,?_⟩;rintro n s wk ⟨i,v1,v2,v3,rfl,hi',rfl,L1,L2,L3,s1,s2⟩;have sn:=λy hy=>@acR _ κ lo hi l i y hy
  have sl:=aeJ κ lo hi (l.take i);subst hJ hκ TN;obtain⟨a1,c1,rfl⟩:=af L1.own;obtain⟨a2,c2,rfl⟩:=af L2.own;obtain⟨a3,c3,rfl⟩:=af L3.own;refine ah (λd=>?_) (λd=>?_)
  .have d1:i<l.length:=by have:=Ptq d;omega
   rcases hv with⟨_,hz⟩|⟨b,off,cs,rfl,hb,hcut⟩
   .omega
   obtain⟨y,hy⟩:∃y,l[i]?=some y:=⟨l[i],by simp[d1]⟩;obtain⟨hB,hW,hA⟩:=sn y hy;obtain⟨lB,lW,lA⟩:=sl;rw[Jd6]at lB lW lA;refine⟨by omega,_,_,L1.gb.get hb nofun,y.cells,Me hcut hy (λ_=>rfl),rfl,λw2 b2 m2 g2 l2=>⟨_,_,_,m2,rfl,rfl,λw3 m3 g3=>?_⟩⟩;have G3:=g2.new g3 l2;refine⟨_,_,m3,y.cells,rfl,rfl,_,ky w3 y,?_⟩;rintro _ w4 ⟨rfl,g4⟩;have m4:=g4.get m3 nofun;replace L1:=(L1.ay G3).ay g4;replace L2:=(L2.ay G3).ay g4;replace L3:=(L3.ay G3).ay g4;clear G3 g2 g3 m2 m3;refine ah (λe=>?_) (λe=>?_)
   .have e1:=Ptq e
    rw[Jb6 e1]at hB hW hA;rw[Jc1]at hW hA;refine⟨_,_,m4,y.cells,rfl,rfl,λw5 b5 m5 g5 l5=>?_⟩;refine⟨_,y.cells,(L1.ay g5).own,⟨_,_,m5,rfl,rfl,rfl⟩,by omega,λv' w6 ho g6 n6=>?_⟩;have P:=(L1.ay g5).app ho g6 n6;obtain⟨a1',c1',rfl⟩:=af P.own;obtain⟨K2,q2⟩:=LN.two (L1.ay g5) (L2.ay g5) g6 n6 (λg hg=>(s1 g hg).1);obtain⟨K3,q3⟩:=LN.two (L1.ay g5) (L3.ay g5) g6 n6 (λg hg=>(s1 g hg).2);refine⟨by omega,_,_,⟨i+1,.slice a1' _ c1',_,_,rfl,by omega,rfl,?_,?_,?_,λg hg=>⟨q2 g hg,q3 g hg⟩,s2⟩,(sb rfl),by omega⟩
    .rw[hB];simpa using P
    .rw[hW];exact K2
    .rw[hA];exact K3
   .have e1:=Ptx e
    rw[Jb5 e1]at hB hW hA;rw[Jc1]at hB;refine ah (λq=>?_) (λq=>?_)
    .have q1:hi<y.key:=Ptq q
     rw[Jb6 q1]at hW hA;rw[Jc1]at hW;refine⟨_,_,m4,y.cells,rfl,rfl,λw5 b5 m5 g5 l5=>?_⟩;refine⟨_,y.cells,(L3.ay g5).own,⟨_,_,m5,rfl,rfl,rfl⟩,by omega,λv' w6 ho g6 n6=>?_⟩;have P:=(L3.ay g5).app ho g6 n6;obtain⟨a3',c3',rfl⟩:=af P.own;obtain⟨K1,q1⟩:=LN.two (L3.ay g5) (L1.ay g5) g6 n6 (λg hg he=>(s1 g he).2 hg);obtain⟨K2,q2⟩:=LN.two (L3.ay g5) (L2.ay g5) g6 n6 (λg hg he=>s2 g he hg);refine⟨by omega,_,_,⟨i+1,_,_,.slice a3' _ c3',rfl,by omega,rfl,?_,?_,?_,λg hg=>⟨(s1 g hg).1,λhe=>q1 g he hg⟩,λg hg he=>q2 g he hg⟩,(sb rfl),by omega⟩
     .rw[hB];exact K1
     .rw[hW];exact K2
     .rw[hA];simpa using P
    .have q1:¬hi<y.key:=Ptx q
     rw[Jb5 q1]at hW hA;rw[Jc1]at hA;refine⟨_,_,m4,y.cells,rfl,rfl,λw5 b5 m5 g5 l5=>?_⟩;refine⟨_,y.cells,(L2.ay g5).own,⟨_,_,m5,rfl,rfl,rfl⟩,by omega,λv' w6 ho g6 n6=>?_⟩;have P:=(L2.ay g5).app ho g6 n6;obtain⟨a2',c2',rfl⟩:=af P.own;obtain⟨K1,q1⟩:=LN.two (L2.ay g5) (L1.ay g5) g6 n6 (λg hg he=>(s1 g he).1 hg);obtain⟨K3,q3⟩:=LN.two (L2.ay g5) (L3.ay g5) g6 n6 (λg hg=>s2 g hg);refine⟨by omega,_,_,⟨i+1,_,.slice a2' _ c2',_,rfl,by omega,rfl,?_,?_,?_,λg hg=>⟨λhe=>q1 g he hg,(s1 g hg).2⟩,λg hg=>q3 g hg⟩,(sb rfl),by omega⟩
     .rw[hB];exact K1
     .rw[hW];simpa using P
     .rw[hA];exact K3
  .have d1:i=l.length:=by have:=Ptx d;omega
   subst d1;have et:=Jfn (l:=l);refine⟨_,_,_,rfl,?_,?_,?_,λg hg=>⟨λhe=>(s1 g he).1 hg,s2 g hg⟩⟩
   .rw[et]at L1 |-;exact L1
   .rw[et]at L2 |-;exact L2
   .rw[et]at L3 |-;exact L3
theorem JP:YH Row Row.cells (·.key) 139 2 106 107:=Ha.1
theorem JQ:YH ag ag.cells (·.key) 70 7 109 110:=Ha.2
abbrev iD(sq:Int)(x:Ra):Bool:=!decide (x.1.seq<=sq)
theorem Ps{w:World}{b:Nat}{sq:Int}(hb:w.heap[b]?=some (.cells #[.int .u32 sq] 59))(r:Rg){ra da:Option Addr}{rn rc dn dc:Nat}:CY 113 #[.agg (fB r (.slice ra rn rc) (.slice da dn dc)).toArray,Ptt b] w (λv w'=>v=.bool (decide (r.seq<=sq))/\GB none w w'):=by
 refine aj Tryz.func113 rfl rfl ?_;refine λw1 b1 m1 g1 l1=>?_
 exact⟨_,_,m1,_,rfl,_,_,g1.get hb nofun,_,rfl,rfl,g1⟩
theorem tL.slr{w0 w:World}{x:Ra}(h:tL w0 w x):∃ra rc da dc,x.2=(.slice ra x.1.rows.length rc,.slice da x.1.aX.length dc):=by
 obtain⟨r,rv,dv⟩:=x;obtain⟨ra,rc,e1⟩:=af h.r.own;obtain⟨da,dc,e2⟩:=af h.d.own;have e1:rv=_:=e1;have e2:dv=_:=e2;exact⟨ra,rc,da,dc,by rw[e1,e2]⟩
theorem aal{w0 w:World}{b:Nat}{sq:Int}(hb:w.heap[b]?=some (.cells #[.int .u32 sq] 59)){q:Value}{rs:List Ra}(h:QN w0 w q rs)(hl:rs.length<=100000):CY 171 #[q,.func (.func 113) #[] #[Ptt b]] w (λv w'=>∃i:Int,v=.int .i64 i/\GB none w w'/\((i = -1/\∀x∈rs,iD sq x=true)\/(∃k:Nat,i=k/\k<rs.length/\(∀j x,j<k->rs[j]?=some x->iD sq x=true)/\∀x,rs[k]?=some x->iD sq x=false))):=by
 obtain⟨qa,qc,rfl⟩:=af h.q.own;refine aj Tryz.func171 rfl rfl ?_;refine⟨λn s wk=>∃i:Nat,n=rs.length-i/\i<=rs.length/\s=[(0,.slice qa rs.length qc),(1,.func (.func 113) #[] #[Ptt b]),(7,.int .i64 rs.length),(8,.int .i64 i)]/\GB none w wk/\∀(j:Nat) (x:Ra),j<i->rs[j]?=some x->iD sq x=true,⟨_,_,⟨0,rfl,Jcm _,rfl,GB.refl _ _,λ_ _ h=>by omega⟩,sb rfl⟩,?_⟩;rintro n s wk ⟨i,rfl,hi,rfl,gk,hk⟩;refine ah (λd=>?_) (λd=>?_)
 .have d1:i<rs.length:=by have:=Ptq d;omega
  obtain⟨x,hx⟩:∃x,rs[i]?=some x:=⟨rs[i],by simp[d1]⟩;obtain⟨ra,rc,da,dc,ex⟩:=(h.r x (Jcv hx)).slr;obtain⟨r,p⟩:=x;have ex:p=(.slice ra r.rows.length rc,.slice da r.aX.length dc):=ex;subst ex;obtain⟨g,cap,cur,ev,hg,aR,hcut,hsz⟩:=(h.q.ay gk).at (f:=vP) (λ_=>rfl) hx;injection ev with ea _ ec;subst ea ec;refine⟨by omega,_,_,aR,fB r (.slice ra r.rows.length rc) (.slice da r.aX.length dc),hcut,rfl,_,Ps (gk.get hb nofun) r,?_⟩;rintro _ w2 ⟨rfl,g2⟩;refine ah (λe=>?_) (λe=>?_)
  .exact⟨i,rfl,gk.trans g2,.inr ⟨i,rfl,d1,hk,λx hx'=>by rw[hx]at hx';cases hx';simp[iD,Ptq e]⟩⟩
  .refine⟨by omega,_,_,⟨i+1,rfl,by omega,rfl,gk.trans g2,λj x hj hx'=>?_⟩,(sb rfl),by omega⟩
   rcases Jg9 (Nat.lt_succ_iff.1 hj)with q|q
   .exact hk j x q hx'
   .subst q;rw[hx]at hx';cases hx';simp[iD,e]
 .have d1:i=rs.length:=by have:=Ptx d;omega
  refine⟨-1,rfl,gk,.inl ⟨rfl,λx hx=>?_⟩⟩;obtain⟨j,hj⟩:=Jgh hx;exact hk j x (by have:=(Jcn.1 hj).1;omega) hj
theorem Xh{A X B:List Value}{n:Nat}(h:A.length+X.length<=n):(A++X++B).take n=A++X++B.take (n-(A.length+X.length)):=by
 rw[take_append,Jd2 (by rw[Jc6];omega),Jc6]
theorem aam{xs:List Value}{off:Nat}{r:Rg}{ra da:Option Addr}{rn rc dn dc:Nat}(h:off+7<=xs.length):Ce xs off 7 (.agg (fB r (.slice ra rn rc) (.slice da dn dc)).toArray)=true:=by
 have h1:Nat.ble (off+7) xs.length=true:=Jca h;show(true&&true&&Nat.ble (off+7) xs.length)=true;rw[h1];rfl
theorem UB{α:Type}{f:α->List Value}{size:Nat}(hf:∀x,(f x).length=size)(x':α):∀(l:List α) (i:Nat),i<l.length->(l.map f).flatten.take (i*size)++f x'++(l.map f).flatten.drop (i*size+size)=((l.set i x').map f).flatten:=by
 intro l i hi;have h1:=wB hf l (i+1);rw[Jfk]at h1;rw[zx hf,h1,Jck,Jb6 hi,Jda,Jcj,Jfr,Jfw,Jd4]
theorem LN.acS{e size:Nat}{w0 w w':World}{α:Type}{f:α->List Value}{l:List α}{g cap:Nat}{cur:Array Value}(h:LN e size w0 w (.slice (Pty g) l.length cap) l.length (l.map f).flatten)(hf:∀x,(f x).length=size)(aR:w.heap[g]?=some (.cells cur e)){i:Nat}(hi:i<l.length){x':α}{off' s1:Nat}{vc:List Value}(hw:Hl w' g (cur.toList.take off'++vc++cur.toList.drop (off'+s1)) e)(e1:off'=i*size)(e2:s1=size)(e3:vc=f x')(gb:GB (some g) w w'):LN e size w0 w' (.slice (Pty g) (l.set i x').length cap) (l.set i x').length ((l.set i x').map f).flatten:=by
 obtain⟨ahl,hc1,h3,h4,h5,h6⟩:=wZ h.own;rw[aR]at hc1;injection hc1 with hc1;injection hc1 with hc1 _;subst hc1;rw[e1,e2,e3]at hw;have h2:(i+1)*size<=l.length*size:=Jcr _ hi;rw[Jfk]at h2;have h7:l.length*size<=cap*size:=Jcr _ h3;have hcl:cur.toList.length=cap*size:=by rw[Array.length_toList,h5]
 have hfl:=hf x';rw[Jgd];refine⟨⟨?_,.inr ⟨g,cap,_,rfl,Jcm _,hw,h3,h4,?_,?_⟩⟩,h.gb.new gb (h.new g rfl),h.new⟩
 .rw[rz hf,Jgd]
 .rw[Jf5,Jc6,Jc6,Jd6,Jf7,hfl,hcl];omega
 .show(cur.toList.take (i*size)++f x'++cur.toList.drop (i*size+size)).take (l.length*size)=_
  have hta:(cur.toList.take (i*size)).length=i*size:=by rw[Jd6];omega
  rw[<-UB hf x' l i hi,<-h6,Jd5,Jd7 (by omega),Jfj,Xh (by rw[hta,hfl];omega),hta,hfl]
theorem JR{α:Type}(p:α->Bool){l:List α}{j:Nat}{x:α}(h:l[j]?=some x):(l.take (j+1)).filter p=(l.take j).filter p++(if p x=true then[x]else[]):=by
 rw[Jfm,h,Jfh];cases hp:p x<;>simp[hp]
theorem LN.cut{e size:Nat}{w0 w w':World}{α:Type}{f:α->List Value}{l:List α}{g cap:Nat}{cur:Array Value}(h:LN e size w0 w (.slice (Pty g) l.length cap) l.length (l.map f).flatten)(hf:∀x,(f x).length=size)(aR:w.heap[g]?=some (.cells cur e)){i off:Nat}(hi:i<=l.length){zs:List Value}(hz:off+zs.length<=cur.size)(he:off=i*size)(hw:Hl w' g (cur.toList.take off++zs++cur.toList.drop (off+zs.length)) e)(gb:GB (some g) w w'):LN e size w0 w' (.slice (Pty g) i cap) (l.take i).length ((l.take i).map f).flatten:=by
 obtain⟨ahl,hc1,h3,h4,h5,h6⟩:=wZ h.own;rw[aR]at hc1;injection hc1 with hc1;injection hc1 with hc1 _;subst hc1;rw[he]at hw hz;have h2:i*size<=l.length*size:=Jcr _ hi;have hlen:(l.take i).length=i:=by rw[Jd6];omega
 have h7:l.length*size<=cap*size:=Jcr _ h3;have hcl:cur.toList.length=cap*size:=by rw[Array.length_toList,h5]
 rw[hlen];refine⟨⟨by rw[rz hf,hlen],.inr ⟨g,cap,_,rfl,Jcm _,hw,by omega,h4,?_,?_⟩⟩,h.gb.new gb (h.new g rfl),h.new⟩
 .rw[Jf5,Jc6,Jc6,Jd6,Jf7,hcl];omega
 .show(cur.toList.take (i*size)++zs++_).take (i*size)=_
  rw[<-zx hf,<-h6,Jd5,Jd7 h2,Jd4,Jd3 (by rw[Jd6];omega),Jd5,Nat.min_self]
theorem aan{w0 w:World}{b:Nat}{sq:Int}(hb:w.heap[b]?=some (.cells #[.int .u32 sq] 59)){q:Value}{rs:List Ra}(h:QN w0 w q rs)(hl:rs.length<=100000):CY 112 #[q,.func (.func 113) #[] #[Ptt b]] w (λv w'=>QN w0 w' v (rs.filter (iD sq))/\GB q.ownBlock w w'/\v.ownBlock=q.ownBlock):=by
 obtain⟨qa,qc,rfl⟩:=af h.q.own;refine aj Tryz.func112 rfl rfl ?_;refine⟨_,aal hb h hl,?_⟩;rintro _ w1 ⟨i0,rfl,g1,hcase⟩;rcases hcase with⟨rfl,hall⟩|⟨i,rfl,hi,hbef,hat⟩
 .have hf:rs.filter (iD sq)=rs:=filter_eq_self.2 hall
  rw[hf];exact⟨h.ay g1,g1.weak,rfl⟩
 obtain⟨x0,hx0⟩:∃x,rs[i]?=some x:=⟨rs[i],by simp[hi]⟩;obtain⟨g,cap,ahk,ev,hg,aeK,_,_⟩:=(h.q.ay g1).at (f:=vP) (λ_=>rfl) hx0;injection ev with ea _ ec;subst ea ec;refine⟨by omega,?_⟩;have hfi:(rs.take i).filter (iD sq)=rs.take i:=filter_eq_self.2 λx hx=>by
  obtain⟨j,hj⟩:=Jgh hx;have hjl:=(Jcn.1 hj).1;rw[Jd6]at hjl;rw[Jc5]at hj;exact hbef j x (by omega) (by split at hj<;>first|exact hj|cases hj)
 refine⟨λn s wk=>∃(i j:Nat) (cs:List Ra),n=rs.length-j/\i<j/\j<=rs.length/\s=[(0,.slice (Pty g) rs.length qc),(1,.func (.func 113) #[] #[Ptt b]),(5,.int .i64 i),(6,.int .i64 j)]/\cs.length=rs.length/\LN 78 7 w0 wk (.slice (Pty g) cs.length qc) cs.length (cs.map vP).flatten/\cs.take i=(rs.take j).filter (iD sq)/\(∀k,j<=k->cs[k]?=rs[k]?)/\(∀x∈rs,tL w0 wk x)/\GB (some g) w wk,⟨_,_,⟨i,i+1,rs,rfl,by omega,by omega,rfl,rfl,h.q.ay g1,?_,λ_ _=>rfl,λx hx=>(h.r x hx).ay g1,g1.weak⟩,sb rfl⟩,?_⟩
 .rw[JR (iD sq) hx0,hat x0 hx0,hfi];simp
 clear hfi hbef hat hx0 aeK;rintro n s wk ⟨i,j,cs,rfl,hij,hj,rfl,hcl,L,htk,hrest,hR,gk⟩;have hil:i=((rs.take j).filter (iD sq)).length:=by rw[<-htk,Jd6];omega
 refine ah (λd=>?_) (λd=>?_)
 .have d1:j<rs.length:=by have:=Ptq d;omega
  obtain⟨x,hx⟩:∃x,rs[j]?=some x:=⟨rs[j],by simp[d1]⟩;have hfn:=JR (iD sq) hx;have hx':cs[j]?=some x:=(hrest j (Jb0 _)).trans hx;obtain⟨ra,rc,da,dc,ex⟩:=(hR x (Jcv hx)).slr;obtain⟨r,p⟩:=x;have ex:p=(.slice ra r.rows.length rc,.slice da r.aX.length dc):=ex;subst ex;obtain⟨g',cap',cur,ev,_,aR,hcut,hsz⟩:=L.at (f:=vP) (λ_=>rfl) hx';injection ev with ea _ ec;injection ea with ea;injection ea with ea;subst ea ec;refine⟨by omega,_,_,aR,fB r (.slice ra r.rows.length rc) (.slice da r.aX.length dc),hcut,rfl,λw2 b2 m2 g2 l2=>⟨_,_,_,m2,rfl,rfl,λw3 m3 g3=>?_⟩⟩;have G3:=g2.new g3 l2;have hbk:wk.heap[b]?=some (.cells #[.int .u32 sq] 59):=gk.get hb λz=>by
   obtain⟨c,hc⟩:=au h.q.own (g:=g) rfl;exact dw hb hc (by decide) (Jbm z)
  refine⟨_,_,m3,fB r (.slice ra r.rows.length rc) (.slice da r.aX.length dc),rfl,rfl,_,Ps (G3.get hbk nofun) r,?_⟩;rintro _ w4 ⟨rfl,g4⟩;have G4:=G3.trans g4;have m4:=g4.get m3 nofun;have sJ:=G4.get aR nofun;have L4:=L.ay G4;refine ah (λe=>?_) (λe=>?_)
  .have e1:iD sq (r,Value.slice ra r.rows.length rc,Value.slice da r.aX.length dc)=true:=by simpa[iD]using e
   rw[e1,Jb6 rfl]at hfn;refine⟨_,_,m4,fB r (.slice ra r.rows.length rc) (.slice da r.aX.length dc),rfl,rfl,by omega,_,_,_,sJ,?_,rfl,λw5 m5 g5=>?_⟩
   .exact aam (by rw[Array.length_toList];show 0+(i:Int).toNat*7+7<=_;omega)
   have L5:=L4.acS (f:=vP) (x':=(r,.slice ra r.rows.length rc,.slice da r.aX.length dc)) (λ_=>rfl) sJ (i:=i) (by omega) m5 (by show 0+(i:Int).toNat*7=_;omega) rfl rfl g5;refine⟨by omega,by omega,_,_,⟨i+1,j+1,cs.set i (r,.slice ra r.rows.length rc,.slice da r.aX.length dc),rfl,by omega,by omega,rfl,by rw[Jgd];exact hcl,L5,?_,λk hk=>?_,λx hx=>((hR x hx).ay G4).bU g5 sJ (by decide) (by decide) hg,(gk.trans G4.weak).trans g5⟩,(sb rfl),by omega⟩
   .rw[hfn,<-htk,Jfm,take_set_of_le (Jb0 _),jr (by omega),Jb6 rfl];rfl
   .rw[jr (by omega),Jb5 (by omega)]
    exact hrest k (by omega)
  .have e1:iD sq (r,Value.slice ra r.rows.length rc,Value.slice da r.aX.length dc)=false:=by simpa[iD]using e
   rw[e1,Jb5 (by decide),Jc1]at hfn;exact⟨by omega,_,_,⟨i,j+1,cs,rfl,by omega,by omega,rfl,hcl,L4,by rw[hfn];exact htk,λk hk=>hrest k (by omega),λx hx=>(hR x hx).ay G4,gk.trans G4.weak⟩,(sb rfl),by omega⟩
 .have d1:j=rs.length:=by have:=Ptx d;omega
  subst d1;rw[Jfn]at htk;obtain⟨cur,aR,h3,h4,h5,h6⟩:=wZ L.own;refine⟨⟨by omega,by omega,by omega⟩,?_⟩;rw[sN (show ¬qc=((i:Int)).toNat by omega)];refine⟨by omega,cur,_,aR,?_,λzs w3 hzs m3 g3=>?_⟩
  .rw[h5];show _*7+_*7<=_;omega
  have hzl:zs.length=(rs.length-i)*7:=by rw[hzs];show(_-_)*7=_;omega
  have L3:=L.cut (f:=vP) (λ_=>rfl) aR (i:=i) (by omega) (by rw[hzl,h5];show((i:Int)).toNat*7+_<=_;omega) (by show((i:Int)).toNat*7=_;omega) m3 g3;rw[htk]at L3;refine⟨by omega,⟨?_,λx hx=>((hR x ((mem_filter.1 hx).1)).bU g3 aR (by decide) (by decide) hg)⟩,gk.trans g3,rfl⟩;exact L3
theorem LN.off{e size n:Nat}{w0 w w1:World}{v:Value}{ys:List Value}{vo:Option Nat}(k:LN e size w0 w v n ys)(g:GB vo w w1)(hne:∀x,vo=some x->v.ownBlock≠some x)(gw:GB none w0 w1):LN e size w0 w1 v n ys :=
 ⟨ax k.own λy hy=>by
  obtain⟨c,hc⟩:=au k.own hy;exact g.block y (ae hc) λz=>hne y z.symm hy,gw,k.new⟩
theorem bS{e e' size size' n n':Nat}{w0 w0' w:World}{v v':Value}{xs ys:List Value}(h:LN e size w0 w v n xs)(k:LN e' size' w0' w v' n' ys)(he:e≠e'):∀x,v.ownBlock=some x->v'.ownBlock≠some x:=λx hx hy=>by
 obtain⟨c,hc⟩:=au h.own hx;obtain⟨c',hc'⟩:=au k.own hy;exact dw hc hc' he rfl
theorem tL.off{w0 w w1:World}{x:Ra}{vo:Option Nat}(h:tL w0 w x)(g:GB vo w w1)(h1:∀y,vo=some y->x.2.1.ownBlock≠some y)(h2:∀y,vo=some y->x.2.2.ownBlock≠some y)(gw:GB none w0 w1):tL w0 w1 x:=⟨h.r.off g h1 gw,h.d.off g h2 gw⟩
def AA(b:Nat)(T D O I:Value)(ls:List La)(x:Nat):Prop:=x=b\/T.ownBlock=some x\/D.ownBlock=some x\/O.ownBlock=some x\/I.ownBlock=some x\/∃l∈ls,l.2.1.ownBlock=some x
abbrev aB:=Nat->Option Obj
def aB.add(Λ:aB)(b:Nat)(o:Obj):aB:=λx=>if x=b then some o else Λ x
def SRd(M:Value)(ls:List La)(x:Nat):Prop:=M.ownBlock=some x\/∃l∈ls,∃y∈l.2.2,y.2.1.ownBlock=some x\/y.2.2.ownBlock=some x
structure Sw(Λ:aB)(w0:World)(b:Nat)(s:St)(w:World)(T M D O I:Value)(ls:List La):Prop where
 mem:Hl w b (iP s T M D O I) 55
 nb:w0.heap.size<=b
 sa:SA w0 w s T M D O I ls
 pr:∀x o,Λ x=some o->w.heap[x]?=some o/\¬AA b T D O I ls x
 rd:∀x o,Λ x=some o->¬SRd M ls x
def Sk(Λ:aB)(w0:World)(b:Nat)(s:St)(w:World):Prop:=∃T M D O I ls,Sw Λ w0 b s w T M D O I ls
section
variable{Λ:aB}{w0 w w1 w':World}{b:Nat}{s:St}{T M D O I:Value}{ls:List La}
theorem Sw.gb(h:Sw Λ w0 b s w T M D O I ls):GB none w0 w:=h.sa.t.gb
theorem Sw.lt(h:Sw Λ w0 b s w T M D O I ls){x:Nat}(hx:AA b T D O I ls x):x<w.heap.size:=by
 rcases hx with rfl|hx|hx|hx|hx|⟨l,hl,hx⟩
 .exact ae h.mem
 .exact h.sa.t.lt hx
 .exact h.sa.d.lt hx
 .exact h.sa.o.lt hx
 .exact h.sa.i.lt hx
 .exact(h.sa.q l hl).q.lt hx
theorem Sw.new(h:Sw Λ w0 b s w T M D O I ls){x:Nat}(hx:AA b T D O I ls x):w0.heap.size<=x:=by
 rcases hx with rfl|hx|hx|hx|hx|⟨l,hl,hx⟩
 .exact h.nb
 .exact h.sa.t.new _ hx
 .exact h.sa.d.new _ hx
 .exact h.sa.o.new _ hx
 .exact h.sa.i.new _ hx
 .exact(h.sa.q l hl).q.new _ hx
theorem Sw.ay(h:Sw Λ w0 b s w T M D O I ls)(g:GB none w w'):Sw Λ w0 b s w' T M D O I ls:=⟨g.get h.mem nofun,h.nb,h.sa.ay g,λx o hx=>⟨g.get (h.pr x o hx).1 nofun,(h.pr x o hx).2⟩,h.rd⟩
theorem Sw.rlt(h:Sw Λ w0 b s w T M D O I ls){x:Nat}(hx:SRd M ls x):x<w.heap.size:=by
 rcases hx with hx|⟨l,hl,y,hy,hx|hx⟩
 .exact h.sa.m.lt hx
 .exact((h.sa.q l hl).r y hy).r.lt hx
 .exact((h.sa.q l hl).r y hy).d.lt hx
theorem Sw.box(h:Sw Λ w0 b s w T M D O I ls){x:Nat}{o:Obj}(g:GB none w w')(hx:w'.heap[x]?=some o)(hl:w.heap.size<=x):Sw (Λ.add x o) w0 b s w' T M D O I ls:=by
 have h1:=h.ay g;refine⟨h1.mem,h1.nb,h1.sa,λy q hy=>?_,λy q hy=>?_⟩
 .unfold aB.add at hy
  split at hy
  .rename_i e;subst e;cases hy;exact⟨hx,λho=>by have:=h.lt ho;omega⟩
  .exact h1.pr y q hy
 .unfold aB.add at hy
  split at hy
  .rename_i e;subst e;exact λho=>by have:=h.rlt ho;omega
  .exact h1.rd y q hy
theorem Sw.rU(h:Sw Λ w0 b s w T M D O I ls){x:Nat}(hb:w.heap.size<=x):Λ x=none:=by
 cases hp:Λ x with
 |none=>rfl
 |some o=>have:=ae (h.pr x o hp).1;omega
theorem Sw.drop{x:Nat}{o:Obj}(h:Sw (Λ.add x o) w0 b s w T M D O I ls)(hx:Λ x=none):Sw Λ w0 b s w T M D O I ls:=⟨h.mem,h.nb,h.sa,λy q hy=>h.pr y q (by
 unfold aB.add;rw[Jb5 (λe=>by subst e;rw[hx]at hy;cases hy)];exact hy),λy q hy=>h.rd y q (by
 unfold aB.add;rw[Jb5 (λe=>by subst e;rw[hx]at hy;cases hy)];exact hy)⟩
theorem Sw.at{x:Nat}{o:Obj}(h:Sw (Λ.add x o) w0 b s w T M D O I ls):w.heap[x]?=some o:=(h.pr x o (by unfold aB.add;simp)).1
theorem Sk.ay(h:Sk Λ w0 b s w)(g:GB none w w'):Sk Λ w0 b s w':=by obtain⟨T,M,D,O,I,ls,h⟩:=h;exact⟨T,M,D,O,I,ls,h.ay g⟩
theorem Sk.box(h:Sk Λ w0 b s w){x:Nat}{o:Obj}(g:GB none w w')(hx:w'.heap[x]?=some o)(hl:w.heap.size<=x):Sk (Λ.add x o) w0 b s w'/\Λ x=none:=by obtain⟨T,M,D,O,I,ls,h⟩:=h;exact⟨⟨T,M,D,O,I,ls,h.box g hx hl⟩,h.rU hl⟩
theorem Sw.YI(h:Sw Λ w0 b s w T M D O I ls){vo:Option Nat}(ho:∀x,vo=some x->AA b T D O I ls x)(g:GB vo w w'):∀x o,Λ x=some o->w'.heap[x]?=some o:=λx o hx=>g.get (h.pr x o hx).1 λe=>(h.pr x o hx).2 (ho x e.symm)
theorem Sw.bk(h:Sw Λ w0 b s w T M D O I ls){e size n:Nat}{v:Value}{xs:List Value}(L:LN e size w0 w v n xs)(he:e≠55)(g:GB v.ownBlock w w'):Hl w' b (iP s T M D O I) 55:=g.get h.mem λz=>by
 obtain⟨c,hc⟩:=au L.own z.symm;exact dw hc h.mem he rfl
theorem Sw.YJ(h:Sw Λ w0 b s w T M D O I ls){vo:Option Nat}(ho:∀x,vo=some x->AA b T D O I ls x)(g:GB vo w w'):GB none w0 w' :=
 ⟨g.os.trans h.gb.os,g.out.trans h.gb.out,Jb1 h.gb.size g.size,λx hx _=>(g.block x (Jbz hx h.gb.size) λe=>by have:=h.new (ho x e.symm);omega).trans (h.gb.block x hx nofun)⟩
theorem Sw.jO(h:Sw Λ w0 b s w T M D O I ls){T':Value}{t':List Row}(L:LN 139 2 w0 w1 T' t'.length (t'.map Row.cells).flatten)(g:GB T.ownBlock w w1)(n:∀x,T'.ownBlock=some x->T.ownBlock=some x\/w.heap.size<=x)(m2:Hl w' b (iP {s with T:=t'} T' M D O I) 55)(g2:GB (some b) w1 w'):Sw Λ w0 b {s with T:=t'} w' T' M D O I ls:=by
 have ho:∀x,T.ownBlock=some x->AA b T D O I ls x:=λx hx=>.inr (.inl hx)
 have gw:=h.YJ ho g;have mb:=h.bk h.sa.t (by decide) g;have q1:∀l∈ls,QN w0 w1 l.2.1 l.2.2:=λl hl=>⟨(h.sa.q l hl).q.off g (bS h.sa.t (h.sa.q l hl).q (by decide)) gw,λx hx=>((h.sa.q l hl).r x hx).off g (λy hy=>h.sa.sT l hl x hx y hy) (bS h.sa.t ((h.sa.q l hl).r x hx).d (by decide)) gw⟩
 have sT':∀l∈ls,∀x∈l.2.2,∀g,T'.ownBlock=some g->x.2.1.ownBlock≠some g:=λl hl x hx y hy he=>by
  rcases n y hy with q|q
  .exact h.sa.sT l hl x hx y q he
  .have:=((h.sa.q l hl).r x hx).r.lt he;omega
 have S:SA w0 w1 {s with T:=t'} T' M D O I ls:=⟨L,h.sa.m.off g (bS h.sa.t h.sa.m (by decide)) gw,h.sa.d.off g (bS h.sa.t h.sa.d (by decide)) gw,h.sa.o.off g (bS h.sa.t h.sa.o (by decide)) gw,h.sa.i.off g (bS h.sa.t h.sa.i (by decide)) gw,q1,h.sa.core,sT',h.sa.sD,h.sa.sQ⟩;refine⟨m2,h.nb,S.bU g2 mb (by decide) (by decide) (by decide) (by decide) (by decide) (by decide) h.nb,λx o hx=>⟨g2.get (h.YI ho g x o hx) λe=>(h.pr x o hx).2 (.inl (Jbm e)),λhs=>?_⟩,h.rd⟩;rcases hs with hs|hs|hs
 .exact(h.pr x o hx).2 (.inl hs)
 .rcases n x hs with q|q
  .exact(h.pr x o hx).2 (.inr (.inl q))
  .have:=ae (h.pr x o hx).1;omega
 .exact(h.pr x o hx).2 (.inr (.inr hs))
theorem Sw.Rp(h:Sw Λ w0 b s w T M D O I ls){D':Value}{d':List ag}(L:LN 70 7 w0 w1 D' d'.length (d'.map ag.cells).flatten)(g:GB D.ownBlock w w1)(n:∀x,D'.ownBlock=some x->D.ownBlock=some x\/w.heap.size<=x)(m2:Hl w' b (iP {s with D:=d'} T M D' O I) 55)(g2:GB (some b) w1 w'):Sw Λ w0 b {s with D:=d'} w' T M D' O I ls:=by
 have ho:∀x,D.ownBlock=some x->AA b T D O I ls x:=λx hx=>.inr (.inr (.inl hx))
 have gw:=h.YJ ho g;have mb:=h.bk h.sa.d (by decide) g;have q1:∀l∈ls,QN w0 w1 l.2.1 l.2.2:=λl hl=>⟨(h.sa.q l hl).q.off g (bS h.sa.d (h.sa.q l hl).q (by decide)) gw,λx hx=>((h.sa.q l hl).r x hx).off g (bS h.sa.d ((h.sa.q l hl).r x hx).r (by decide)) (λy hy=>h.sa.sD l hl x hx y hy) gw⟩
 have sD':∀l∈ls,∀x∈l.2.2,∀g,D'.ownBlock=some g->x.2.2.ownBlock≠some g:=λl hl x hx y hy he=>by
  rcases n y hy with q|q
  .exact h.sa.sD l hl x hx y q he
  .have:=((h.sa.q l hl).r x hx).d.lt he;omega
 have S:SA w0 w1 {s with D:=d'} T M D' O I ls:=⟨h.sa.t.off g (bS h.sa.d h.sa.t (by decide)) gw,h.sa.m.off g (bS h.sa.d h.sa.m (by decide)) gw,L,h.sa.o.off g (bS h.sa.d h.sa.o (by decide)) gw,h.sa.i.off g (bS h.sa.d h.sa.i (by decide)) gw,q1,h.sa.core,h.sa.sT,sD',h.sa.sQ⟩;refine⟨m2,h.nb,S.bU g2 mb (by decide) (by decide) (by decide) (by decide) (by decide) (by decide) h.nb,λx o hx=>⟨g2.get (h.YI ho g x o hx) λe=>(h.pr x o hx).2 (.inl (Jbm e)),λhs=>?_⟩,h.rd⟩;rcases hs with hs|hs|hs|hs
 .exact(h.pr x o hx).2 (.inl hs)
 .exact(h.pr x o hx).2 (.inr (.inl hs))
 .rcases n x hs with q|q
  .exact(h.pr x o hx).2 (.inr (.inr (.inl q)))
  .have:=ae (h.pr x o hx).1;omega
 .exact(h.pr x o hx).2 (.inr (.inr (.inr hs)))
theorem Sw.acT(h:Sw Λ w0 b s w T M D O I ls){M':Value}{m':List Pc}(L:PN w0 w M' m')(hM:∀x,M'.ownBlock=some x->Λ x=none)(m2:Hl w' b (iP {s with M:=m'} T M' D O I) 55)(g2:GB (some b) w w'):Sw Λ w0 b {s with M:=m'} w' T M' D O I ls:=by
 have S:SA w0 w {s with M:=m'} T M' D O I ls:=⟨h.sa.t,L,h.sa.d,h.sa.o,h.sa.i,h.sa.q,h.sa.core,h.sa.sT,h.sa.sD,h.sa.sQ⟩;exact⟨m2,h.nb,S.bU g2 h.mem (by decide) (by decide) (by decide) (by decide) (by decide) (by decide) h.nb,λx o hx=>⟨g2.get (h.pr x o hx).1 λe=>(h.pr x o hx).2 (.inl (Jbm e)),(h.pr x o hx).2⟩,λx o hx hr=>by
  rcases hr with hr|hr
  .rw[hM x hr]at hx;cases hx
  .exact h.rd x o hx (.inr hr)⟩
theorem Sw.other{x t:Nat}{c:Array Value}{o':Obj}(h:Sw (Λ.add x (.cells c t)) w0 b s w T M D O I ls)(hx:Λ x=none)(g:GB (some x) w w')(m:w'.heap[x]?=some o')(hn:w0.heap.size<=x):Sw (Λ.add x o') w0 b s w' T M D O I ls:=by
 have hxo:(Λ.add x (.cells c t)) x=some (.cells c t):=by unfold aB.add;simp
 have no:=(h.pr x _ hxo).2;have nr:=h.rd x _ hxo;have gw:GB none w0 w':=h.gb.new g hn;have st:∀{e size n:Nat} {v:Value} {xs:List Value},LN e size w0 w v n xs->v.ownBlock≠some x->LN e size w0 w' v n xs:=λL hv=>L.off g (λy hy=>by cases hy;exact hv) gw
 refine⟨g.get h.mem λe=>no (.inl (Jbm e).symm),h.nb,⟨st h.sa.t λz=>no (.inr (.inl z)),st h.sa.m λz=>nr (.inl z),st h.sa.d λz=>no (.inr (.inr (.inl z))),st h.sa.o λz=>no (.inr (.inr (.inr (.inl z)))),st h.sa.i λz=>no (.inr (.inr (.inr (.inr (.inl z))))),λl hl=>⟨st (h.sa.q l hl).q λz=>no (.inr (.inr (.inr (.inr (.inr ⟨l,hl,z⟩))))),λy hy=>⟨st ((h.sa.q l hl).r y hy).r λz=>nr (.inr ⟨l,hl,y,hy,.inl z⟩),st ((h.sa.q l hl).r y hy).d λz=>nr (.inr ⟨l,hl,y,hy,.inr z⟩)⟩⟩,h.sa.core,h.sa.sT,h.sa.sD,h.sa.sQ⟩,λy q hy=>?_,λy q hy=>?_⟩
 .unfold aB.add at hy
  split at hy
  .rename_i e;subst e;cases hy;exact⟨m,no⟩
  .rename_i e
   have:=h.pr y q (by unfold aB.add;rw[Jb5 e];exact hy);exact⟨g.get this.1 λz=>e (Jbm z),this.2⟩
 .unfold aB.add at hy
  split at hy
  .rename_i e;subst e;exact nr
  .rename_i e
   exact h.rd y q (by unfold aB.add;rw[Jb5 e];exact hy)
end
end
