/- Lemmas. -/
import Derived.Test.YtignemioillaiaaGreatG35
namespace Go.Proofs.YtignemioillaiaaGreat
set_option maxHeartbeats 8000000
set_option maxRecDepth 100000
open List
section
open Go Go.Conc
theorem LN.two{e size n n':Nat}{w0 w w':World}{v v1 v':Value}{xs ys:List Value}(h:LN e size w0 w v n xs)(k:LN e size w0 w v1 n' ys)(g:GB v.ownBlock w w')(hn:∀g,v'.ownBlock=some g->v.ownBlock=some g\/w.heap.size<=g)(hs:∀g,v.ownBlock=some g->v1.ownBlock≠some g):LN e size w0 w' v1 n' ys/\∀g,v'.ownBlock=some g->v1.ownBlock≠some g:=by
 refine⟨⟨ay k.own λy hy=>?_,h.gb.ownB g h.new,k.new⟩,λy hy he=>?_⟩
 ·obtain⟨c,hc⟩:=ax k.own hy
  exact g.block y (ae hc) λz=>hs y z.symm hy
 ·rcases hn y hy with q|q
  ·exact hs y q he
  ·have:=k.lt he;omega
theorem Vl(w:World){n:Int}(h0:0<=n)(hn:n<=1000000):ag Tryz.prog 149 #[Ptz,.int .i64 n] w (λv w'=>LN 128 2 w w' v 0 []):=by
 refine ah Tryz.func149 rfl rfl ?_;refine aj (λe=>?_) (λe=>?_)
 ·have:=Ptq e
  omega
 refine⟨⟨by decide,by decide⟩,by omega,aj (λe=>?_) (λe=>?_)⟩
 ·have e1:=Ptq e
  refine⟨⟨by decide,by decide⟩,[],dZ _ _ _,by omega,by show((0:Nat):Int)<_;omega,by show((0:Int).toNat:Int)+_<=_;simp;omega,λb cap cur w' hb hs ht hc hm g l=>?_⟩;refine⟨⟨by decide,by omega⟩,?_⟩;exact⟨⟨by simp,.inr ⟨b,cap,cur,rfl,Nat.zero_le _,hb,Nat.zero_le _,hm,hs,by simp⟩⟩,g,λy hy=>by simp[Value.ownBlock]at hy;omega⟩
 ·exact LN.nil (GB.refl _ _)
abbrev fw(xs:List (Value×List Row)):List Row:=(xs.map (·.2)).flatten
theorem FJ{w:World}{vb:Nat}{xs:List (Value×List Row)}(hvb:w.heap[vb]? = some (.cells (xs.map (·.1)).toArray 25))(hx:∀x∈xs,Fz w 128 2 x.1 x.2.length (x.2.map Row.cells).flatten)(hl:(fw xs).length<=1000000)(hxl:xs.length<=100):ag Tryz.prog 91 #[.slice (Pty vb) xs.length xs.length] w (λv w'=>LN 128 2 w w' v (fw xs).length ((fw xs).map Row.cells).flatten):=by
 have hct:∀k,(fw (xs.take k)).length<=(fw xs).length:=λk=>by
  have:fw xs=fw (xs.take k)++fw (xs.drop k):=by unfold fw;rw[<-flatten_append,<-map_append,take_append_drop]
  rw[this,length_append];omega
 have hnx:∀k x,xs[k]? = some x->fw (xs.take (k+1))=fw (xs.take k)++x.2:=λk x h=>by
  unfold fw;rw[take_add_one,h];simp
 refine ah Tryz.func91 rfl rfl ?_;refine⟨λn s wk=>∃k:Nat,n=xs.length - k/\k<=xs.length/\s=[(0,.slice (Pty vb) xs.length xs.length),(3,.int .i64 (fw (xs.take k)).length),(9,.slice (Pty vb) xs.length xs.length),(10,.int .i64 xs.length),(11,.int .i64 k)]/\wk=w,⟨_,_,⟨0,rfl,Nat.zero_le _,rfl,rfl⟩,rfl,rfl,rfl,rfl,rfl,trivial⟩,?_⟩;rintro n s wk ⟨k,rfl,hk,rfl,rfl⟩;refine aj (λd=>?_) (λd=>?_)
 ·have d1:k<xs.length:=by have:=Ptq d;omega
  obtain⟨⟨v,l⟩,hv⟩:∃x,xs[k]? = some x:=⟨xs[k],by simp[d1]⟩;obtain⟨a,c,e,_⟩:=hx _ (List.mem_of_getElem? hv);have e:v=.slice a l.length c:=e;subst e;have h1:=hct (k+1);have h2:=hnx k _ hv;rw[h2,length_append]at h1;refine⟨by omega,_,_,hvb,.slice a l.length c,by show(xs.map (·.1)).toArray.toList[0+(k:Int).toNat*1]? = _;simp[hv],⟨by dsimp only at h1;omega,by dsimp only at h1;omega⟩,?_⟩;refine⟨by omega,_,_,⟨k+1,rfl,by omega,rfl,rfl⟩,⟨rfl,?_,rfl,rfl,rfl,trivial⟩,by omega⟩;show some (Value.int .i64 _)=some (Value.int .i64 _);rw[h2,length_append];rfl
 ·have d1:k=xs.length:=by have:=Ptx d;omega
  subst d1;rw[take_length];refine⟨_,Vl wk (n:=((fw xs).length:Int)) (by omega) (by omega),?_⟩;intro v w1 L;obtain⟨va,vc,rfl⟩:=af L.own;refine⟨λn s w2=>∃(k:Nat) (x:Value),n=xs.length - k/\k<=xs.length/\s=[(6,x),(25,.slice (Pty vb) xs.length xs.length),(26,.int .i64 xs.length),(27,.int .i64 k)]/\LN 128 2 wk w2 x (fw (xs.take k)).length ((fw (xs.take k)).map Row.cells).flatten,⟨_,_,⟨0,_,rfl,Nat.zero_le _,rfl,L⟩,rfl,rfl,rfl,rfl,trivial⟩,?_⟩;clear L;rintro n s w2 ⟨k,x,rfl,hk,rfl,L⟩;obtain⟨xa,xc,rfl⟩:=af L.own;refine aj (λd=>?_) (λd=>?_)
  ·have d1:k<xs.length:=by have:=Ptq d;omega
   obtain⟨⟨v,l⟩,hv⟩:∃x,xs[k]? = some x:=⟨xs[k],by simp[d1]⟩;have hF:=hx _ (List.mem_of_getElem? hv);have h2:=hnx k _ hv;have h1:=hct (k+1);rw[h2,length_append]at h1;dsimp only at hF h1 h2;obtain⟨a,c,rfl,hc,hlen,hd⟩:=hF;refine⟨by omega,_,_,L.gb.get hvb nofun,.slice a l.length c,by show(xs.map (·.1)).toArray.toList[0+(k:Int).toNat*1]? = _;simp[hv],?_⟩;rcases hd with⟨rfl,h0⟩|⟨b,off,cs,rfl,hb,hcut⟩
   ·rw[h0]
    have hl0:l=[]:=eq_nil_of_length_eq_zero h0;have hcp:(fw (xs.take k)).length<=xc:=by
     rcases L.own.2 with⟨q,h0⟩|⟨_,_,_,q,_,_,h3,_⟩
     ·injection q with _ _ q;omega
     ·injection q with _ _ q;omega
    refine⟨hcp,by omega,_,_,⟨k+1,.slice xa (fw (xs.take k)).length xc,rfl,by omega,rfl,?_⟩,⟨rfl,rfl,rfl,rfl,trivial⟩,by omega⟩;rw[h2,hl0,append_nil];exact L
   ·refine⟨_,(l.map Row.cells).flatten,L.own,⟨_,_,L.gb.get hb nofun,hcut,hlen,jw (λ_=>rfl) _⟩,by omega,λv' w3 ho g n=>?_⟩
    have L3:=L.app ho g n;obtain⟨xa',xc',rfl⟩:=af L3.own;refine⟨by omega,_,_,⟨k+1,_,rfl,by omega,rfl,?_⟩,⟨rfl,rfl,rfl,rfl,trivial⟩,by omega⟩;rw[h2,length_append,map_append,flatten_append];exact L3
  ·have d1:k=xs.length:=by have:=Ptx d;omega
   subst d1;have L':LN 128 2 wk w2 (.slice xa (fw (xs.take xs.length)).length xc) (fw xs).length ((fw xs).map Row.cells).flatten:=by
    rw[take_length]at L |-;exact L
   exact L'
theorem YB(w:World)(x:Row):ag Tryz.prog 90 #[.agg x.cells.toArray] w (λv w'=>v=.int .u64 x.key/\GB none w w'):=by
 refine ah Tryz.func90 rfl rfl ?_;exact λw1 b1 m1 g1 l1=>⟨_,_,m1,_,rfl,rfl,g1⟩
theorem IB{w:World}{v:Value}{l:List Row}(h:Fz w 128 2 v l.length (l.map Row.cells).flatten)(hl:l.length<=1000000)(lo hi:Int):ag Tryz.prog 89 #[v,.func (.func 90) #[] #[],.int .u64 lo,.int .u64 hi] w (λx w'=>∃v1 v2 v3,x=.tuple #[v1,v2,v3]/\LN 128 2 w w' v1 (sB (λx:Row=>x.key) lo l).length ((sB (λx:Row=>x.key) lo l).map Row.cells).flatten/\LN 128 2 w w' v2 (sW (λx:Row=>x.key) lo hi l).length ((sW (λx:Row=>x.key) lo hi l).map Row.cells).flatten/\LN 128 2 w w' v3 (sA (λx:Row=>x.key) lo hi l).length ((sA (λx:Row=>x.key) lo hi l).map Row.cells).flatten/\(∀g,v2.ownBlock=some g->v1.ownBlock≠some g/\v3.ownBlock≠some g)):=by
 obtain⟨a,c,rfl,hc,hlen,hv⟩:=h;refine ah Tryz.func89 rfl rfl ?_;refine⟨λn s wk=>∃(i:Nat) (v1 v2 v3:Value),n=l.length - i/\i<=l.length/\s=[(1,.func (.func 90) #[] #[]),(2,.int .u64 lo),(3,.int .u64 hi),(8,v1),(9,v2),(10,v3),(14,.slice a l.length c),(15,.int .i64 l.length),(16,.int .i64 i)]/\LN 128 2 w wk v1 (sB (λx:Row=>x.key) lo (l.take i)).length ((sB (λx:Row=>x.key) lo (l.take i)).map Row.cells).flatten/\LN 128 2 w wk v2 (sW (λx:Row=>x.key) lo hi (l.take i)).length ((sW (λx:Row=>x.key) lo hi (l.take i)).map Row.cells).flatten/\LN 128 2 w wk v3 (sA (λx:Row=>x.key) lo hi (l.take i)).length ((sA (λx:Row=>x.key) lo hi (l.take i)).map Row.cells).flatten/\(∀g,v1.ownBlock=some g->v2.ownBlock≠some g/\v3.ownBlock≠some g)/\(∀g,v2.ownBlock=some g->v3.ownBlock≠some g),⟨_,_,⟨0,_,_,_,rfl,Nat.zero_le _,rfl,LN.nil (GB.refl _ _),LN.nil (GB.refl _ _),LN.nil (GB.refl _ _),nofun,nofun⟩,rfl,rfl,rfl,rfl,rfl,rfl,rfl,rfl,rfl,trivial⟩,?_⟩;rintro n s wk ⟨i,v1,v2,v3,rfl,hi',rfl,L1,L2,L3,s1,s2⟩;obtain⟨a1,c1,rfl⟩:=af L1.own;obtain⟨a2,c2,rfl⟩:=af L2.own;obtain⟨a3,c3,rfl⟩:=af L3.own;refine aj (λd=>?_) (λd=>?_)
 ·have d1:i<l.length:=by have:=Ptq d;omega
  rcases hv with⟨_,hz⟩|⟨b,off,cs,rfl,hb,hcut⟩
  ·omega
  obtain⟨y,hy⟩:∃y,l[i]? = some y:=⟨l[i],by simp[d1]⟩;have ht:l.take (i+1)=l.take i++[y]:=by rw[take_add_one,hy];rfl
  have hB:sB (λx:Row=>x.key) lo (l.take (i+1))=sB (λx:Row=>x.key) lo (l.take i)++(if y.key<lo then[y]else[]):=by unfold sB;rw[ht,filter_append];by_cases h:y.key<lo<;>simp[h]
  have hW:sW (λx:Row=>x.key) lo hi (l.take (i+1))=sW (λx:Row=>x.key) lo hi (l.take i)++(if y.key<lo then[]else if hi<y.key then[]else[y]):=by unfold sW;rw[ht,filter_append];by_cases h:y.key<lo<;>by_cases h':hi<y.key<;>simp[h,h']
  have hA:sA (λx:Row=>x.key) lo hi (l.take (i+1))=sA (λx:Row=>x.key) lo hi (l.take i)++(if y.key<lo then[]else if hi<y.key then[y]else[]):=by unfold sA;rw[ht,filter_append];by_cases h:y.key<lo<;>by_cases h':hi<y.key<;>simp[h,h']
  have lB:(sB (λx:Row=>x.key) lo (l.take i)).length<=(l.take i).length:=length_filter_le _ _;have lW:(sW (λx:Row=>x.key) lo hi (l.take i)).length<=(l.take i).length:=length_filter_le _ _;have lA:(sA (λx:Row=>x.key) lo hi (l.take i)).length<=(l.take i).length:=length_filter_le _ _;rw[length_take]at lB lW lA;refine⟨by omega,_,_,L1.gb.get hb nofun,y.cells,lG (f:=Row.cells) (λ_=>rfl) hy hcut,rfl,λw2 b2 m2 g2 l2=>⟨_,_,_,m2,rfl,rfl,λw3 m3 g3=>?_⟩⟩;have G3:=g2.new g3 l2;refine⟨_,_,m3,y.cells,rfl,rfl,_,YB w3 y,?_⟩;rintro _ w4 ⟨rfl,g4⟩;have m4:=g4.get m3 nofun;replace L1:=(L1.au G3).au g4;replace L2:=(L2.au G3).au g4;replace L3:=(L3.au G3).au g4;clear G3 g2 g3 m2 m3;refine aj (λe=>?_) (λe=>?_)
  ·have e1:=Ptq e
   rw[if_pos e1]at hB hW hA;rw[append_nil]at hW hA;refine⟨_,_,m4,y.cells,rfl,rfl,λw5 b5 m5 g5 l5=>?_⟩;refine⟨_,y.cells,(L1.au g5).own,⟨_,_,m5,rfl,rfl,rfl⟩,by omega,λv' w6 ho g6 n6=>?_⟩;have P:=(L1.au g5).app ho g6 n6;obtain⟨a1',c1',rfl⟩:=af P.own;obtain⟨K2,q2⟩:=LN.two (L1.au g5) (L2.au g5) g6 n6 (λg hg=>(s1 g hg).1);obtain⟨K3,q3⟩:=LN.two (L1.au g5) (L3.au g5) g6 n6 (λg hg=>(s1 g hg).2);refine⟨by omega,_,_,⟨i+1,.slice a1' _ c1',_,_,rfl,by omega,rfl,?_,?_,?_,λg hg=>⟨q2 g hg,q3 g hg⟩,s2⟩,⟨rfl,rfl,rfl,rfl,rfl,rfl,rfl,rfl,rfl,trivial⟩,by omega⟩
   ·rw[hB,length_append,map_append,flatten_append];simpa using P
   ·rw[hW];exact K2
   ·rw[hA];exact K3
  ·have e1:=Ptx e
   rw[if_neg e1]at hB hW hA;rw[append_nil]at hB;refine aj (λq=>?_) (λq=>?_)
   ·have q1:hi<y.key:=Ptq q
    rw[if_pos q1]at hW hA;rw[append_nil]at hW;refine⟨_,_,m4,y.cells,rfl,rfl,λw5 b5 m5 g5 l5=>?_⟩;refine⟨_,y.cells,(L3.au g5).own,⟨_,_,m5,rfl,rfl,rfl⟩,by omega,λv' w6 ho g6 n6=>?_⟩;have P:=(L3.au g5).app ho g6 n6;obtain⟨a3',c3',rfl⟩:=af P.own;obtain⟨K1,q1⟩:=LN.two (L3.au g5) (L1.au g5) g6 n6 (λg hg he=>(s1 g he).2 hg);obtain⟨K2,q2⟩:=LN.two (L3.au g5) (L2.au g5) g6 n6 (λg hg he=>s2 g he hg);refine⟨by omega,_,_,⟨i+1,_,_,.slice a3' _ c3',rfl,by omega,rfl,?_,?_,?_,λg hg=>⟨(s1 g hg).1,λhe=>q1 g he hg⟩,λg hg he=>q2 g he hg⟩,⟨rfl,rfl,rfl,rfl,rfl,rfl,rfl,rfl,rfl,trivial⟩,by omega⟩
    ·rw[hB];exact K1
    ·rw[hW];exact K2
    ·rw[hA,length_append,map_append,flatten_append];simpa using P
   ·have q1:¬hi<y.key:=Ptx q
    rw[if_neg q1]at hW hA;rw[append_nil]at hA;refine⟨_,_,m4,y.cells,rfl,rfl,λw5 b5 m5 g5 l5=>?_⟩;refine⟨_,y.cells,(L2.au g5).own,⟨_,_,m5,rfl,rfl,rfl⟩,by omega,λv' w6 ho g6 n6=>?_⟩;have P:=(L2.au g5).app ho g6 n6;obtain⟨Sq,c2',rfl⟩:=af P.own;obtain⟨K1,q1⟩:=LN.two (L2.au g5) (L1.au g5) g6 n6 (λg hg he=>(s1 g he).1 hg);obtain⟨K3,q3⟩:=LN.two (L2.au g5) (L3.au g5) g6 n6 (λg hg=>s2 g hg);refine⟨by omega,_,_,⟨i+1,_,.slice Sq _ c2',_,rfl,by omega,rfl,?_,?_,?_,λg hg=>⟨λhe=>q1 g he hg,(s1 g hg).2⟩,λg hg=>q3 g hg⟩,⟨rfl,rfl,rfl,rfl,rfl,rfl,rfl,rfl,rfl,trivial⟩,by omega⟩
    ·rw[hB];exact K1
    ·rw[hW,length_append,map_append,flatten_append];simpa using P
    ·rw[hA];exact K3
 ·have d1:i=l.length:=by have:=Ptx d;omega
  subst d1;have et:=take_length (l:=l);refine⟨_,_,_,rfl,?_,?_,?_,λg hg=>⟨λhe=>(s1 g he).1 hg,s2 g hg⟩⟩
  ·rw[et]at L1 |-;exact L1
  ·rw[et]at L2 |-;exact L2
  ·rw[et]at L3 |-;exact L3
theorem Vm(w:World){n:Int}(h0:0<=n)(hn:n<=1000000):ag Tryz.prog 150 #[Ptz,.int .i64 n] w (λv w'=>LN 57 7 w w' v 0 []):=by
 refine ah Tryz.func150 rfl rfl ?_;refine aj (λe=>?_) (λe=>?_)
 ·have:=Ptq e
  omega
 refine⟨⟨by decide,by decide⟩,by omega,aj (λe=>?_) (λe=>?_)⟩
 ·have e1:=Ptq e
  refine⟨⟨by decide,by decide⟩,[],dZ _ _ _,by omega,by show((0:Nat):Int)<_;omega,by show((0:Int).toNat:Int)+_<=_;simp;omega,λb cap cur w' hb hs ht hc hm g l=>?_⟩;refine⟨⟨by decide,by omega⟩,?_⟩;exact⟨⟨by simp,.inr ⟨b,cap,cur,rfl,Nat.zero_le _,hb,Nat.zero_le _,hm,hs,by simp⟩⟩,g,λy hy=>by simp[Value.ownBlock]at hy;omega⟩
 ·exact LN.nil (GB.refl _ _)
abbrev fA(xs:List (Value×List aA)):List aA:=(xs.map (·.2)).flatten
theorem FK{w:World}{vb:Nat}{xs:List (Value×List aA)}(hvb:w.heap[vb]? = some (.cells (xs.map (·.1)).toArray 27))(hx:∀x∈xs,Fz w 57 7 x.1 x.2.length (x.2.map aA.cells).flatten)(hl:(fA xs).length<=1000000)(hxl:xs.length<=100):ag Tryz.prog 94 #[.slice (Pty vb) xs.length xs.length] w (λv w'=>LN 57 7 w w' v (fA xs).length ((fA xs).map aA.cells).flatten):=by
 have hct:∀k,(fA (xs.take k)).length<=(fA xs).length:=λk=>by
  have:fA xs=fA (xs.take k)++fA (xs.drop k):=by unfold fA;rw[<-flatten_append,<-map_append,take_append_drop]
  rw[this,length_append];omega
 have hnx:∀k x,xs[k]? = some x->fA (xs.take (k+1))=fA (xs.take k)++x.2:=λk x h=>by
  unfold fA;rw[take_add_one,h];simp
 refine ah Tryz.func94 rfl rfl ?_;refine⟨λn s wk=>∃k:Nat,n=xs.length - k/\k<=xs.length/\s=[(0,.slice (Pty vb) xs.length xs.length),(3,.int .i64 (fA (xs.take k)).length),(9,.slice (Pty vb) xs.length xs.length),(10,.int .i64 xs.length),(11,.int .i64 k)]/\wk=w,⟨_,_,⟨0,rfl,Nat.zero_le _,rfl,rfl⟩,rfl,rfl,rfl,rfl,rfl,trivial⟩,?_⟩;rintro n s wk ⟨k,rfl,hk,rfl,rfl⟩;refine aj (λd=>?_) (λd=>?_)
 ·have d1:k<xs.length:=by have:=Ptq d;omega
  obtain⟨⟨v,l⟩,hv⟩:∃x,xs[k]? = some x:=⟨xs[k],by simp[d1]⟩;obtain⟨a,c,e,_⟩:=hx _ (List.mem_of_getElem? hv);have e:v=.slice a l.length c:=e;subst e;have h1:=hct (k+1);have h2:=hnx k _ hv;rw[h2,length_append]at h1;refine⟨by omega,_,_,hvb,.slice a l.length c,by show(xs.map (·.1)).toArray.toList[0+(k:Int).toNat*1]? = _;simp[hv],⟨by dsimp only at h1;omega,by dsimp only at h1;omega⟩,?_⟩;refine⟨by omega,_,_,⟨k+1,rfl,by omega,rfl,rfl⟩,⟨rfl,?_,rfl,rfl,rfl,trivial⟩,by omega⟩;show some (Value.int .i64 _)=some (Value.int .i64 _);rw[h2,length_append];rfl
 ·have d1:k=xs.length:=by have:=Ptx d;omega
  subst d1;rw[take_length];refine⟨_,Vm wk (n:=((fA xs).length:Int)) (by omega) (by omega),?_⟩;intro v w1 L;obtain⟨va,vc,rfl⟩:=af L.own;refine⟨λn s w2=>∃(k:Nat) (x:Value),n=xs.length - k/\k<=xs.length/\s=[(6,x),(25,.slice (Pty vb) xs.length xs.length),(26,.int .i64 xs.length),(27,.int .i64 k)]/\LN 57 7 wk w2 x (fA (xs.take k)).length ((fA (xs.take k)).map aA.cells).flatten,⟨_,_,⟨0,_,rfl,Nat.zero_le _,rfl,L⟩,rfl,rfl,rfl,rfl,trivial⟩,?_⟩;clear L;rintro n s w2 ⟨k,x,rfl,hk,rfl,L⟩;obtain⟨xa,xc,rfl⟩:=af L.own;refine aj (λd=>?_) (λd=>?_)
  ·have d1:k<xs.length:=by have:=Ptq d;omega
   obtain⟨⟨v,l⟩,hv⟩:∃x,xs[k]? = some x:=⟨xs[k],by simp[d1]⟩;have hF:=hx _ (List.mem_of_getElem? hv);have h2:=hnx k _ hv;have h1:=hct (k+1);rw[h2,length_append]at h1;dsimp only at hF h1 h2;obtain⟨a,c,rfl,hc,hlen,hd⟩:=hF;refine⟨by omega,_,_,L.gb.get hvb nofun,.slice a l.length c,by show(xs.map (·.1)).toArray.toList[0+(k:Int).toNat*1]? = _;simp[hv],?_⟩;rcases hd with⟨rfl,h0⟩|⟨b,off,cs,rfl,hb,hcut⟩
   ·rw[h0]
    have hl0:l=[]:=eq_nil_of_length_eq_zero h0;have hcp:(fA (xs.take k)).length<=xc:=by
     rcases L.own.2 with⟨q,h0⟩|⟨_,_,_,q,_,_,h3,_⟩
     ·injection q with _ _ q;omega
     ·injection q with _ _ q;omega
    refine⟨hcp,by omega,_,_,⟨k+1,.slice xa (fA (xs.take k)).length xc,rfl,by omega,rfl,?_⟩,⟨rfl,rfl,rfl,rfl,trivial⟩,by omega⟩;rw[h2,hl0,append_nil];exact L
   ·refine⟨_,(l.map aA.cells).flatten,L.own,⟨_,_,L.gb.get hb nofun,hcut,hlen,jw (λ_=>rfl) _⟩,by omega,λv' w3 ho g n=>?_⟩
    have L3:=L.app ho g n;obtain⟨xa',xc',rfl⟩:=af L3.own;refine⟨by omega,_,_,⟨k+1,_,rfl,by omega,rfl,?_⟩,⟨rfl,rfl,rfl,rfl,trivial⟩,by omega⟩;rw[h2,length_append,map_append,flatten_append];exact L3
  ·have d1:k=xs.length:=by have:=Ptx d;omega
   subst d1;have L':LN 57 7 wk w2 (.slice xa (fA (xs.take xs.length)).length xc) (fA xs).length ((fA xs).map aA.cells).flatten:=by
    rw[take_length]at L |-;exact L
   exact L'
theorem YC(w:World)(x:aA):ag Tryz.prog 93 #[.agg x.cells.toArray] w (λv w'=>v=.int .u64 x.key/\GB none w w'):=by
 refine ah Tryz.func93 rfl rfl ?_;exact λw1 b1 m1 g1 l1=>⟨_,_,m1,_,rfl,rfl,g1⟩
theorem IC{w:World}{v:Value}{l:List aA}(h:Fz w 57 7 v l.length (l.map aA.cells).flatten)(hl:l.length<=1000000)(lo hi:Int):ag Tryz.prog 92 #[v,.func (.func 93) #[] #[],.int .u64 lo,.int .u64 hi] w (λx w'=>∃v1 v2 v3,x=.tuple #[v1,v2,v3]/\LN 57 7 w w' v1 (sB (λx:aA=>x.key) lo l).length ((sB (λx:aA=>x.key) lo l).map aA.cells).flatten/\LN 57 7 w w' v2 (sW (λx:aA=>x.key) lo hi l).length ((sW (λx:aA=>x.key) lo hi l).map aA.cells).flatten/\LN 57 7 w w' v3 (sA (λx:aA=>x.key) lo hi l).length ((sA (λx:aA=>x.key) lo hi l).map aA.cells).flatten/\(∀g,v2.ownBlock=some g->v1.ownBlock≠some g/\v3.ownBlock≠some g)):=by
 obtain⟨a,c,rfl,hc,hlen,hv⟩:=h;refine ah Tryz.func92 rfl rfl ?_;refine⟨λn s wk=>∃(i:Nat) (v1 v2 v3:Value),n=l.length - i/\i<=l.length/\s=[(1,.func (.func 93) #[] #[]),(2,.int .u64 lo),(3,.int .u64 hi),(8,v1),(9,v2),(10,v3),(14,.slice a l.length c),(15,.int .i64 l.length),(16,.int .i64 i)]/\LN 57 7 w wk v1 (sB (λx:aA=>x.key) lo (l.take i)).length ((sB (λx:aA=>x.key) lo (l.take i)).map aA.cells).flatten/\LN 57 7 w wk v2 (sW (λx:aA=>x.key) lo hi (l.take i)).length ((sW (λx:aA=>x.key) lo hi (l.take i)).map aA.cells).flatten/\LN 57 7 w wk v3 (sA (λx:aA=>x.key) lo hi (l.take i)).length ((sA (λx:aA=>x.key) lo hi (l.take i)).map aA.cells).flatten/\(∀g,v1.ownBlock=some g->v2.ownBlock≠some g/\v3.ownBlock≠some g)/\(∀g,v2.ownBlock=some g->v3.ownBlock≠some g),⟨_,_,⟨0,_,_,_,rfl,Nat.zero_le _,rfl,LN.nil (GB.refl _ _),LN.nil (GB.refl _ _),LN.nil (GB.refl _ _),nofun,nofun⟩,rfl,rfl,rfl,rfl,rfl,rfl,rfl,rfl,rfl,trivial⟩,?_⟩;rintro n s wk ⟨i,v1,v2,v3,rfl,hi',rfl,L1,L2,L3,s1,s2⟩;obtain⟨a1,c1,rfl⟩:=af L1.own;obtain⟨a2,c2,rfl⟩:=af L2.own;obtain⟨a3,c3,rfl⟩:=af L3.own;refine aj (λd=>?_) (λd=>?_)
 ·have d1:i<l.length:=by have:=Ptq d;omega
  rcases hv with⟨_,hz⟩|⟨b,off,cs,rfl,hb,hcut⟩
  ·omega
  obtain⟨y,hy⟩:∃y,l[i]? = some y:=⟨l[i],by simp[d1]⟩;have ht:l.take (i+1)=l.take i++[y]:=by rw[take_add_one,hy];rfl
  have hB:sB (λx:aA=>x.key) lo (l.take (i+1))=sB (λx:aA=>x.key) lo (l.take i)++(if y.key<lo then[y]else[]):=by unfold sB;rw[ht,filter_append];by_cases h:y.key<lo<;>simp[h]
  have hW:sW (λx:aA=>x.key) lo hi (l.take (i+1))=sW (λx:aA=>x.key) lo hi (l.take i)++(if y.key<lo then[]else if hi<y.key then[]else[y]):=by unfold sW;rw[ht,filter_append];by_cases h:y.key<lo<;>by_cases h':hi<y.key<;>simp[h,h']
  have hA:sA (λx:aA=>x.key) lo hi (l.take (i+1))=sA (λx:aA=>x.key) lo hi (l.take i)++(if y.key<lo then[]else if hi<y.key then[y]else[]):=by unfold sA;rw[ht,filter_append];by_cases h:y.key<lo<;>by_cases h':hi<y.key<;>simp[h,h']
  have lB:(sB (λx:aA=>x.key) lo (l.take i)).length<=(l.take i).length:=length_filter_le _ _;have lW:(sW (λx:aA=>x.key) lo hi (l.take i)).length<=(l.take i).length:=length_filter_le _ _;have lA:(sA (λx:aA=>x.key) lo hi (l.take i)).length<=(l.take i).length:=length_filter_le _ _;rw[length_take]at lB lW lA;refine⟨by omega,_,_,L1.gb.get hb nofun,y.cells,lG (f:=aA.cells) (λ_=>rfl) hy hcut,rfl,λw2 b2 m2 g2 l2=>⟨_,_,_,m2,rfl,rfl,λw3 m3 g3=>?_⟩⟩;have G3:=g2.new g3 l2;refine⟨_,_,m3,y.cells,rfl,rfl,_,YC w3 y,?_⟩;rintro _ w4 ⟨rfl,g4⟩;have m4:=g4.get m3 nofun;replace L1:=(L1.au G3).au g4;replace L2:=(L2.au G3).au g4;replace L3:=(L3.au G3).au g4;clear G3 g2 g3 m2 m3;refine aj (λe=>?_) (λe=>?_)
  ·have e1:=Ptq e
   rw[if_pos e1]at hB hW hA;rw[append_nil]at hW hA;refine⟨_,_,m4,y.cells,rfl,rfl,λw5 b5 m5 g5 l5=>?_⟩;refine⟨_,y.cells,(L1.au g5).own,⟨_,_,m5,rfl,rfl,rfl⟩,by omega,λv' w6 ho g6 n6=>?_⟩;have P:=(L1.au g5).app ho g6 n6;obtain⟨a1',c1',rfl⟩:=af P.own;obtain⟨K2,q2⟩:=LN.two (L1.au g5) (L2.au g5) g6 n6 (λg hg=>(s1 g hg).1);obtain⟨K3,q3⟩:=LN.two (L1.au g5) (L3.au g5) g6 n6 (λg hg=>(s1 g hg).2);refine⟨by omega,_,_,⟨i+1,.slice a1' _ c1',_,_,rfl,by omega,rfl,?_,?_,?_,λg hg=>⟨q2 g hg,q3 g hg⟩,s2⟩,⟨rfl,rfl,rfl,rfl,rfl,rfl,rfl,rfl,rfl,trivial⟩,by omega⟩
   ·rw[hB,length_append,map_append,flatten_append];simpa using P
   ·rw[hW];exact K2
   ·rw[hA];exact K3
  ·have e1:=Ptx e
   rw[if_neg e1]at hB hW hA;rw[append_nil]at hB;refine aj (λq=>?_) (λq=>?_)
   ·have q1:hi<y.key:=Ptq q
    rw[if_pos q1]at hW hA;rw[append_nil]at hW;refine⟨_,_,m4,y.cells,rfl,rfl,λw5 b5 m5 g5 l5=>?_⟩;refine⟨_,y.cells,(L3.au g5).own,⟨_,_,m5,rfl,rfl,rfl⟩,by omega,λv' w6 ho g6 n6=>?_⟩;have P:=(L3.au g5).app ho g6 n6;obtain⟨a3',c3',rfl⟩:=af P.own;obtain⟨K1,q1⟩:=LN.two (L3.au g5) (L1.au g5) g6 n6 (λg hg he=>(s1 g he).2 hg);obtain⟨K2,q2⟩:=LN.two (L3.au g5) (L2.au g5) g6 n6 (λg hg he=>s2 g he hg);refine⟨by omega,_,_,⟨i+1,_,_,.slice a3' _ c3',rfl,by omega,rfl,?_,?_,?_,λg hg=>⟨(s1 g hg).1,λhe=>q1 g he hg⟩,λg hg he=>q2 g he hg⟩,⟨rfl,rfl,rfl,rfl,rfl,rfl,rfl,rfl,rfl,trivial⟩,by omega⟩
    ·rw[hB];exact K1
    ·rw[hW];exact K2
    ·rw[hA,length_append,map_append,flatten_append];simpa using P
   ·have q1:¬hi<y.key:=Ptx q
    rw[if_neg q1]at hW hA;rw[append_nil]at hA;refine⟨_,_,m4,y.cells,rfl,rfl,λw5 b5 m5 g5 l5=>?_⟩;refine⟨_,y.cells,(L2.au g5).own,⟨_,_,m5,rfl,rfl,rfl⟩,by omega,λv' w6 ho g6 n6=>?_⟩;have P:=(L2.au g5).app ho g6 n6;obtain⟨Sq,c2',rfl⟩:=af P.own;obtain⟨K1,q1⟩:=LN.two (L2.au g5) (L1.au g5) g6 n6 (λg hg he=>(s1 g he).1 hg);obtain⟨K3,q3⟩:=LN.two (L2.au g5) (L3.au g5) g6 n6 (λg hg=>s2 g hg);refine⟨by omega,_,_,⟨i+1,_,.slice Sq _ c2',_,rfl,by omega,rfl,?_,?_,?_,λg hg=>⟨λhe=>q1 g he hg,(s1 g hg).2⟩,λg hg=>q3 g hg⟩,⟨rfl,rfl,rfl,rfl,rfl,rfl,rfl,rfl,rfl,trivial⟩,by omega⟩
    ·rw[hB];exact K1
    ·rw[hW,length_append,map_append,flatten_append];simpa using P
    ·rw[hA];exact K3
 ·have d1:i=l.length:=by have:=Ptx d;omega
  subst d1;have et:=take_length (l:=l);refine⟨_,_,_,rfl,?_,?_,?_,λg hg=>⟨λhe=>(s1 g he).1 hg,s2 g hg⟩⟩
  ·rw[et]at L1 |-;exact L1
  ·rw[et]at L2 |-;exact L2
  ·rw[et]at L3 |-;exact L3
abbrev iw(sq:Int)(x:Ra):Bool:=!decide (x.1.seq<=sq)
theorem NQ{w:World}{b:Nat}{sq:Int}(hb:w.heap[b]? = some (.cells #[.int .u32 sq] 47))(r:Rg){ra da:Option Addr}{rn rc dn dc:Nat}:ag Tryz.prog 96 #[.agg (eu r (.slice ra rn rc) (.slice da dn dc)).toArray,Ptt b] w (λv w'=>v=.bool (decide (r.seq<=sq))/\GB none w w'):=by
 refine ah Tryz.func96 rfl rfl ?_;refine λw1 b1 m1 g1 l1=>?_
 exact⟨_,_,m1,_,rfl,_,_,g1.get hb nofun,_,rfl,rfl,g1⟩
theorem sF.slr{w0 w:World}{x:Ra}(h:sF w0 w x):∃ra rc da dc,x.2=(.slice ra x.1.rows.length rc,.slice da x.1.aZ.length dc):=by
 obtain⟨r,rv,dv⟩:=x;obtain⟨ra,rc,e1⟩:=af h.r.own;obtain⟨da,dc,e2⟩:=af h.d.own;have e1:rv=_:=e1;have e2:dv=_:=e2;exact⟨ra,rc,da,dc,by rw[e1,e2]⟩
theorem YD{w0 w:World}{b:Nat}{sq:Int}(hb:w.heap[b]? = some (.cells #[.int .u32 sq] 47)){q:Value}{rs:List Ra}(h:QN w0 w q rs)(hl:rs.length<=100000):ag Tryz.prog 151 #[q,.func (.func 96) #[] #[Ptt b]] w (λv w'=>∃i:Int,v=.int .i64 i/\GB none w w'/\((i = -1/\∀x∈rs,iw sq x=true)\/(∃k:Nat,i=k/\k<rs.length/\(∀j x,j<k->rs[j]? = some x->iw sq x=true)/\∀x,rs[k]? = some x->iw sq x=false))):=by
 obtain⟨qa,qc,rfl⟩:=af h.q.own;refine ah Tryz.func151 rfl rfl ?_;refine⟨λn s wk=>∃i:Nat,n=rs.length - i/\i<=rs.length/\s=[(0,.slice qa rs.length qc),(1,.func (.func 96) #[] #[Ptt b]),(7,.int .i64 rs.length),(8,.int .i64 i)]/\GB none w wk/\∀(j:Nat) (x:Ra),j<i->rs[j]? = some x->iw sq x=true,⟨_,_,⟨0,rfl,Nat.zero_le _,rfl,GB.refl _ _,λ_ _ h=>by omega⟩,rfl,rfl,rfl,rfl,trivial⟩,?_⟩;rintro n s wk ⟨i,rfl,hi,rfl,gk,hk⟩;refine aj (λd=>?_) (λd=>?_)
 ·have d1:i<rs.length:=by have:=Ptq d;omega
  obtain⟨x,hx⟩:∃x,rs[i]? = some x:=⟨rs[i],by simp[d1]⟩;obtain⟨ra,rc,da,dc,ex⟩:=(h.r x (List.mem_of_getElem? hx)).slr;obtain⟨r,p⟩:=x;have ex:p=(.slice ra r.rows.length rc,.slice da r.aZ.length dc):=ex;subst ex;obtain⟨g,cap,cur,ev,hg,aR,hcut,hsz⟩:=(h.q.au gk).at (f:=uS) (λ_=>rfl) hx;injection ev with ea _ ec;subst ea ec;refine⟨by omega,_,_,aR,eu r (.slice ra r.rows.length rc) (.slice da r.aZ.length dc),hcut,rfl,_,NQ (gk.get hb nofun) r,?_⟩;rintro _ w2 ⟨rfl,g2⟩;refine aj (λe=>?_) (λe=>?_)
  ·exact⟨i,rfl,gk.trans g2,.inr ⟨i,rfl,d1,hk,λx hx'=>by rw[hx]at hx';cases hx';simp[iw,Ptq e]⟩⟩
  ·refine⟨by omega,_,_,⟨i+1,rfl,by omega,rfl,gk.trans g2,λj x hj hx'=>?_⟩,⟨rfl,rfl,rfl,rfl,trivial⟩,by omega⟩
   rcases Nat.lt_or_eq_of_le (Nat.lt_succ_iff.1 hj)with q|q
   ·exact hk j x q hx'
   ·subst q;rw[hx]at hx';cases hx';simp[iw,e]
 ·have d1:i=rs.length:=by have:=Ptx d;omega
  refine⟨-1,rfl,gk,.inl ⟨rfl,λx hx=>?_⟩⟩;obtain⟨j,hj⟩:=getElem?_of_mem hx;exact hk j x (by have:=(List.getElem?_eq_some_iff.1 hj).1;omega) hj
theorem Vn{A X B:List Value}{n:Nat}(h:A.length+X.length<=n):(A++X++B).take n=A++X++B.take (n - (A.length+X.length)):=by
 rw[take_append,take_of_length_le (by rw[length_append];omega),length_append]
theorem YE{xs:List Value}{off:Nat}{r:Rg}{ra da:Option Addr}{rn rc dn dc:Nat}(h:off+7<=xs.length):GD xs off 7 (.agg (eu r (.slice ra rn rc) (.slice da dn dc)).toArray)=true:=by
 have h1:Nat.ble (off+7) xs.length=true:=Nat.ble_eq_true_of_le h;show(true && true && Nat.ble (off+7) xs.length)=true;rw[h1];rfl
theorem Sr{α:Type}{f:α->List Value}{size:Nat}(hf:∀x,(f x).length=size)(x':α):∀(l:List α) (i:Nat),i<l.length->(l.map f).flatten.take (i*size)++f x'++(l.map f).flatten.drop (i*size+size)=((l.set i x').map f).flatten:=by
 intro l i hi;have h1:=tu hf l (i+1);rw[Nat.succ_mul]at h1;rw[yI hf,h1,set_eq_take_append_cons_drop,if_pos hi,map_append,map_cons,flatten_append,flatten_cons,append_assoc]
theorem LN.aa6{e size:Nat}{w0 w w':World}{α:Type}{f:α->List Value}{l:List α}{g cap:Nat}{cur:Array Value}(h:LN e size w0 w (.slice (Pty g) l.length cap) l.length (l.map f).flatten)(hf:∀x,(f x).length=size)(aR:w.heap[g]? = some (.cells cur e)){i:Nat}(hi:i<l.length){x':α}{off' s1:Nat}{vc:List Value}(hw:w'.heap[g]? = some (.cells (cur.toList.take off'++vc++cur.toList.drop (off'+s1)).toArray e))(e1:off'=i*size)(e2:s1=size)(e3:vc=f x')(gb:GB (some g) w w'):LN e size w0 w' (.slice (Pty g) (l.set i x').length cap) (l.set i x').length ((l.set i x').map f).flatten:=by
 obtain⟨afg,hc1,h3,h4,h5,h6⟩:=wD h.own;rw[aR]at hc1;injection hc1 with hc1;injection hc1 with hc1 _;subst hc1;rw[e1,e2,e3]at hw;have h2:(i+1)*size<=l.length*size:=Nat.mul_le_mul_right _ hi;rw[Nat.succ_mul]at h2;have h7:l.length*size<=cap*size:=Nat.mul_le_mul_right _ h3;have hcl:cur.toList.length=cap*size:=by rw[Array.length_toList,h5]
 have hfl:=hf x';rw[length_set];refine⟨⟨?_,.inr ⟨g,cap,_,rfl,Nat.zero_le _,hw,h3,h4,?_,?_⟩⟩,h.gb.new gb (h.new g rfl),h.new⟩
 ·rw[kF hf,length_set]
 ·rw[size_toArray,length_append,length_append,length_take,length_drop,hfl,hcl];omega
 ·show(cur.toList.take (i*size)++f x'++cur.toList.drop (i*size+size)).take (l.length*size)=_
  have hta:(cur.toList.take (i*size)).length=i*size:=by rw[length_take];omega
  rw[<-Sr hf x' l i hi,<-h6,take_take,Nat.min_eq_left (by omega),drop_take,Vn (by rw[hta,hfl];omega),hta,hfl]
theorem IE{α:Type}(p:α->Bool){l:List α}{j:Nat}{x:α}(h:l[j]? = some x):(l.take (j+1)).filter p=(l.take j).filter p++(if p x=true then[x]else[]):=by
 rw[take_add_one,h,filter_append];cases hp:p x<;>simp[hp]
theorem LN.cut{e size:Nat}{w0 w w':World}{α:Type}{f:α->List Value}{l:List α}{g cap:Nat}{cur:Array Value}(h:LN e size w0 w (.slice (Pty g) l.length cap) l.length (l.map f).flatten)(hf:∀x,(f x).length=size)(aR:w.heap[g]? = some (.cells cur e)){i off:Nat}(hi:i<=l.length){zs:List Value}(hz:off+zs.length<=cur.size)(he:off=i*size)(hw:w'.heap[g]? = some (.cells (cur.toList.take off++zs++cur.toList.drop (off+zs.length)).toArray e))(gb:GB (some g) w w'):LN e size w0 w' (.slice (Pty g) i cap) (l.take i).length ((l.take i).map f).flatten:=by
 obtain⟨afg,hc1,h3,h4,h5,h6⟩:=wD h.own;rw[aR]at hc1;injection hc1 with hc1;injection hc1 with hc1 _;subst hc1;rw[he]at hw hz;have h2:i*size<=l.length*size:=Nat.mul_le_mul_right _ hi;have hlen:(l.take i).length=i:=by rw[length_take];omega
 have h7:l.length*size<=cap*size:=Nat.mul_le_mul_right _ h3;have hcl:cur.toList.length=cap*size:=by rw[Array.length_toList,h5]
 rw[hlen];refine⟨⟨by rw[kF hf,hlen],.inr ⟨g,cap,_,rfl,Nat.zero_le _,hw,by omega,h4,?_,?_⟩⟩,h.gb.new gb (h.new g rfl),h.new⟩
 ·rw[size_toArray,length_append,length_append,length_take,length_drop,hcl];omega
 ·show(cur.toList.take (i*size)++zs++_).take (i*size)=_
  rw[<-yI hf,<-h6,take_take,Nat.min_eq_left h2,append_assoc,take_append_of_le_length (by rw[length_take];omega),take_take,Nat.min_self]
theorem YF{w0 w:World}{b:Nat}{sq:Int}(hb:w.heap[b]? = some (.cells #[.int .u32 sq] 47)){q:Value}{rs:List Ra}(h:QN w0 w q rs)(hl:rs.length<=100000):ag Tryz.prog 95 #[q,.func (.func 96) #[] #[Ptt b]] w (λv w'=>QN w0 w' v (rs.filter (iw sq))/\GB q.ownBlock w w'/\v.ownBlock=q.ownBlock):=by
 obtain⟨qa,qc,rfl⟩:=af h.q.own;refine ah Tryz.func95 rfl rfl ?_;refine⟨_,YD hb h hl,?_⟩;rintro _ w1 ⟨i0,rfl,g1,hcase⟩;rcases hcase with⟨rfl,hall⟩|⟨i,rfl,hi,hbef,hat⟩
 ·have hf:rs.filter (iw sq)=rs:=filter_eq_self.2 hall
  rw[hf];exact⟨h.au g1,g1.weak,rfl⟩
 obtain⟨x0,hx0⟩:∃x,rs[i]? = some x:=⟨rs[i],by simp[hi]⟩;obtain⟨g,cap,aff,ev,hg,acB,_,_⟩:=(h.q.au g1).at (f:=uS) (λ_=>rfl) hx0;injection ev with ea _ ec;subst ea ec;refine⟨by omega,?_⟩;have hfi:(rs.take i).filter (iw sq)=rs.take i:=filter_eq_self.2 λx hx=>by
  obtain⟨j,hj⟩:=getElem?_of_mem hx;have hjl:=(List.getElem?_eq_some_iff.1 hj).1;rw[length_take]at hjl;rw[getElem?_take]at hj;exact hbef j x (by omega) (by split at hj<;>first|exact hj|cases hj)
 refine⟨λn s wk=>∃(i j:Nat) (cs:List Ra),n=rs.length - j/\i<j/\j<=rs.length/\s=[(0,.slice (Pty g) rs.length qc),(1,.func (.func 96) #[] #[Ptt b]),(5,.int .i64 i),(6,.int .i64 j)]/\cs.length=rs.length/\LN 52 7 w0 wk (.slice (Pty g) cs.length qc) cs.length (cs.map uS).flatten/\cs.take i=(rs.take j).filter (iw sq)/\(∀k,j<=k->cs[k]? = rs[k]?)/\(∀x∈rs,sF w0 wk x)/\GB (some g) w wk,⟨_,_,⟨i,i+1,rs,rfl,by omega,by omega,rfl,rfl,h.q.au g1,?_,λ_ _=>rfl,λx hx=>(h.r x hx).au g1,g1.weak⟩,rfl,rfl,rfl,rfl,trivial⟩,?_⟩
 ·rw[IE (iw sq) hx0,hat x0 hx0,hfi];simp
 clear hfi hbef hat hx0 acB;rintro n s wk ⟨i,j,cs,rfl,hij,hj,rfl,hcl,L,htk,hrest,hR,gk⟩;have hil:i=((rs.take j).filter (iw sq)).length:=by rw[<-htk,length_take];omega
 refine aj (λd=>?_) (λd=>?_)
 ·have d1:j<rs.length:=by have:=Ptq d;omega
  obtain⟨x,hx⟩:∃x,rs[j]? = some x:=⟨rs[j],by simp[d1]⟩;have hfn:=IE (iw sq) hx;have hx':cs[j]? = some x:=(hrest j (Nat.le_refl _)).trans hx;obtain⟨ra,rc,da,dc,ex⟩:=(hR x (List.mem_of_getElem? hx)).slr;obtain⟨r,p⟩:=x;have ex:p=(.slice ra r.rows.length rc,.slice da r.aZ.length dc):=ex;subst ex;obtain⟨g',cap',cur,ev,_,aR,hcut,hsz⟩:=L.at (f:=uS) (λ_=>rfl) hx';injection ev with ea _ ec;injection ea with ea;injection ea with ea;subst ea ec;refine⟨by omega,_,_,aR,eu r (.slice ra r.rows.length rc) (.slice da r.aZ.length dc),hcut,rfl,λw2 b2 m2 g2 l2=>⟨_,_,_,m2,rfl,rfl,λw3 m3 g3=>?_⟩⟩;have G3:=g2.new g3 l2;have hbk:wk.heap[b]? = some (.cells #[.int .u32 sq] 47):=gk.get hb λz=>by
   obtain⟨c,hc⟩:=ax h.q.own (g:=g) rfl;exact dw hb hc (by decide) (Option.some.inj z)
  refine⟨_,_,m3,eu r (.slice ra r.rows.length rc) (.slice da r.aZ.length dc),rfl,rfl,_,NQ (G3.get hbk nofun) r,?_⟩;rintro _ w4 ⟨rfl,g4⟩;have G4:=G3.trans g4;have m4:=g4.get m3 nofun;have rJ:=G4.get aR nofun;have L4:=L.au G4;refine aj (λe=>?_) (λe=>?_)
  ·have e1:iw sq (r,Value.slice ra r.rows.length rc,Value.slice da r.aZ.length dc)=true:=by simpa[iw]using e
   rw[e1,if_pos rfl]at hfn;refine⟨_,_,m4,eu r (.slice ra r.rows.length rc) (.slice da r.aZ.length dc),rfl,rfl,by omega,_,_,_,rJ,?_,rfl,λw5 m5 g5=>?_⟩
   ·exact YE (by rw[Array.length_toList];show 0+(i:Int).toNat*7+7<=_;omega)
   have L5:=L4.aa6 (f:=uS) (x':=(r,.slice ra r.rows.length rc,.slice da r.aZ.length dc)) (λ_=>rfl) rJ (i:=i) (by omega) m5 (by show 0+(i:Int).toNat*7=_;omega) rfl rfl g5;refine⟨by omega,by omega,_,_,⟨i+1,j+1,cs.set i (r,.slice ra r.rows.length rc,.slice da r.aZ.length dc),rfl,by omega,by omega,rfl,by rw[length_set];exact hcl,L5,?_,λk hk=>?_,λx hx=>((hR x hx).au G4).bV g5 rJ (by decide) (by decide) hg,(gk.trans G4.weak).trans g5⟩,⟨rfl,rfl,rfl,rfl,trivial⟩,by omega⟩
   ·rw[hfn,<-htk,take_add_one,take_set_of_le (Nat.le_refl _),ji (by omega),if_pos rfl];rfl
   ·rw[ji (by omega),if_neg (by omega)]
    exact hrest k (by omega)
  ·have e1:iw sq (r,Value.slice ra r.rows.length rc,Value.slice da r.aZ.length dc)=false:=by simpa[iw]using e
   rw[e1,if_neg (by decide),append_nil]at hfn;exact⟨by omega,_,_,⟨i,j+1,cs,rfl,by omega,by omega,rfl,hcl,L4,by rw[hfn];exact htk,λk hk=>hrest k (by omega),λx hx=>(hR x hx).au G4,gk.trans G4.weak⟩,⟨rfl,rfl,rfl,rfl,trivial⟩,by omega⟩
 ·have d1:j=rs.length:=by have:=Ptx d;omega
  subst d1;rw[take_length]at htk;obtain⟨cur,aR,h3,h4,h5,h6⟩:=wD L.own;refine⟨⟨by omega,by omega,by omega⟩,?_⟩;rw[jF (show ¬qc=((i:Int)).toNat by omega)];refine⟨by omega,cur,_,aR,?_,λzs w3 hzs m3 g3=>?_⟩
  ·rw[h5];show _*7+_*7<=_;omega
  have hzl:zs.length=(rs.length - i)*7:=by rw[hzs];show(_ - _)*7=_;omega
  have L3:=L.cut (f:=uS) (λ_=>rfl) aR (i:=i) (by omega) (by rw[hzl,h5];show((i:Int)).toNat*7+_<=_;omega) (by show((i:Int)).toNat*7=_;omega) m3 g3;rw[htk]at L3;refine⟨by omega,⟨?_,λx hx=>((hR x ((mem_filter.1 hx).1)).bV g3 aR (by decide) (by decide) hg)⟩,gk.trans g3,rfl⟩;exact L3
end
