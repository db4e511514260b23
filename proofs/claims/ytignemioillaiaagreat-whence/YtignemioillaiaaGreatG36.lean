/- A shard at work (5): Grow, Concat, split. -/
import Derived.Test.YtignemioillaiaaGreatG35
namespace Go.Proofs.YtignemioillaiaaGreat
set_option maxHeartbeats 8000000
set_option maxRecDepth 100000
section
open Go Go.Conc
theorem LN.two{e size n n':Nat}{w0 w w':World}{v v1 v':Value}{xs ys:List Value}(h:LN e size w0 w v n xs)(k:LN e size w0 w v1 n' ys)(g:GB v.ownBlock w w')(hn:∀g,v'.ownBlock=some g->v.ownBlock=some g\/w.heap.size<=g)(hs:∀g,v.ownBlock=some g->v1.ownBlock≠some g):LN e size w0 w' v1 n' ys/\∀g,v'.ownBlock=some g->v1.ownBlock≠some g:=by
 refine⟨⟨az k.own λy hy=>?_,h.gb.ownB g h.new,k.new⟩,λy hy he=>?_⟩
 ·obtain⟨c,hc⟩:=ay k.own hy
  exact g.block y (ae hc) λz=>hs y z.symm hy
 ·rcases hn y hy with q|q
  ·exact hs y q he
  ·have:=k.lt he;omega
theorem UL(w:World){n:Int}(h0:0<=n)(hn:n<=1000000):ag Tryz.prog 149 #[.slice none 0 0,.int .i64 n] w (λv w'=>LN 128 2 w w' v 0 []):=by
 refine aj ah mixed Tryz.func149 rfl rfl ?_;refine au (λe=>?_) (λe=>?_)
 ·have:=of_decide_eq_true e
  omega
 refine⟨⟨by decide,by decide⟩,⟨by omega,by omega⟩,au (λe=>?_) (λe=>?_)⟩
 ·have e1:=of_decide_eq_true e
  refine⟨⟨by decide,by decide⟩,[],dY _ _ _,by omega,by show((0:Nat):Int)<_;omega,by show((0:Int).toNat:Int)+_<=_;simp;omega,λb cap cur w' hb hs ht hc hm g l=>?_⟩;refine⟨⟨by decide,by omega⟩,?_⟩;exact⟨⟨by simp,.inr ⟨b,cap,cur,rfl,Nat.zero_le _,hb,Nat.zero_le _,hm,hs,by simp⟩⟩,g,λy hy=>by simp[Value.ownBlock]at hy;omega⟩
 ·exact LN.nil (GB.refl _ _)
abbrev eU(xs:List (Value×List Row)):List Row:=(xs.map (·.2)).flatten
theorem E8{w:World}{vb:Nat}{xs:List (Value×List Row)}(hvb:w.heap[vb]? = some (.cells (xs.map (·.1)).toArray 25))(hx:∀x∈xs,Fz w 128 2 x.1 x.2.length (x.2.map Row.cells).flatten)(hl:(eU xs).length<=1000000)(hxl:xs.length<=100):ag Tryz.prog 91 #[.slice (some ⟨vb,0,none⟩) xs.length xs.length] w (λv w'=>LN 128 2 w w' v (eU xs).length ((eU xs).map Row.cells).flatten):=by
 have hct:∀k,(eU (xs.take k)).length<=(eU xs).length:=λk=>by
  have:eU xs=eU (xs.take k)++eU (xs.drop k):=by unfold eU;rw[<-List.flatten_append,<-List.map_append,List.take_append_drop]
  rw[this,List.length_append];omega
 have hnx:∀k x,xs[k]? = some x->eU (xs.take (k+1))=eU (xs.take k)++x.2:=λk x h=>by
  unfold eU;rw[List.take_add_one,h];simp
 refine aj ah mixed Tryz.func91 rfl rfl ?_;refine⟨λn s wk=>∃k:Nat,n=xs.length - k/\k<=xs.length/\s=[(0,.slice (some ⟨vb,0,none⟩) xs.length xs.length),(3,.int .i64 (eU (xs.take k)).length),(9,.slice (some ⟨vb,0,none⟩) xs.length xs.length),(10,.int .i64 xs.length),(11,.int .i64 k)]/\wk=w,⟨_,_,⟨0,rfl,Nat.zero_le _,rfl,rfl⟩,rfl,rfl,rfl,rfl,rfl,trivial⟩,?_⟩;rintro n s wk ⟨k,rfl,hk,rfl,rfl⟩;refine au (λd=>?_) (λd=>?_)
 ·have d1:k<xs.length:=by have:=of_decide_eq_true d;omega
  obtain⟨⟨v,l⟩,hv⟩:∃x,xs[k]? = some x:=⟨xs[k],by simp[d1]⟩;obtain⟨a,c,e,_⟩:=hx _ (List.mem_of_getElem? hv);have e:v=.slice a l.length c:=e;subst e;have h1:=hct (k+1);have h2:=hnx k _ hv;rw[h2,List.length_append]at h1;refine⟨⟨by omega,by omega⟩,_,_,hvb,.slice a l.length c,by show(xs.map (·.1)).toArray.toList[0+(k:Int).toNat*1]? = _;simp[hv],⟨by dsimp only at h1;omega,by dsimp only at h1;omega⟩,?_⟩;refine⟨⟨by omega,by omega⟩,_,_,⟨k+1,rfl,by omega,rfl,rfl⟩,⟨rfl,?_,rfl,rfl,rfl,trivial⟩,by omega⟩;show some (Value.int .i64 _)=some (Value.int .i64 _);rw[h2,List.length_append];rfl
 ·have d1:k=xs.length:=by have:=of_decide_eq_false d;omega
  subst d1;rw[List.take_length];refine⟨_,UL wk (n:=((eU xs).length:Int)) (by omega) (by omega),?_⟩;intro v w1 L;obtain⟨va,vc,rfl⟩:=af L.own;refine⟨λn s w2=>∃(k:Nat) (x:Value),n=xs.length - k/\k<=xs.length/\s=[(6,x),(25,.slice (some ⟨vb,0,none⟩) xs.length xs.length),(26,.int .i64 xs.length),(27,.int .i64 k)]/\LN 128 2 wk w2 x (eU (xs.take k)).length ((eU (xs.take k)).map Row.cells).flatten,⟨_,_,⟨0,_,rfl,Nat.zero_le _,rfl,L⟩,rfl,rfl,rfl,rfl,trivial⟩,?_⟩;clear L;rintro n s w2 ⟨k,x,rfl,hk,rfl,L⟩;obtain⟨xa,xc,rfl⟩:=af L.own;refine au (λd=>?_) (λd=>?_)
  ·have d1:k<xs.length:=by have:=of_decide_eq_true d;omega
   obtain⟨⟨v,l⟩,hv⟩:∃x,xs[k]? = some x:=⟨xs[k],by simp[d1]⟩;have hF:=hx _ (List.mem_of_getElem? hv);have h2:=hnx k _ hv;have h1:=hct (k+1);rw[h2,List.length_append]at h1;dsimp only at hF h1 h2;obtain⟨a,c,rfl,hc,hlen,hd⟩:=hF;refine⟨⟨by omega,by omega⟩,_,_,L.gb.get hvb nofun,.slice a l.length c,by show(xs.map (·.1)).toArray.toList[0+(k:Int).toNat*1]? = _;simp[hv],?_⟩;rcases hd with⟨rfl,h0⟩|⟨b,off,cs,rfl,hb,hcut⟩
   ·rw[h0]
    have hl0:l=[]:=List.eq_nil_of_length_eq_zero h0;have hcp:(eU (xs.take k)).length<=xc:=by
     rcases L.own.2 with⟨q,h0⟩|⟨_,_,_,q,_,_,h3,_⟩
     ·injection q with _ _ q;omega
     ·injection q with _ _ q;omega
    refine⟨hcp,⟨by omega,by omega⟩,_,_,⟨k+1,.slice xa (eU (xs.take k)).length xc,rfl,by omega,rfl,?_⟩,⟨rfl,rfl,rfl,rfl,trivial⟩,by omega⟩;rw[h2,hl0,List.append_nil];exact L
   ·refine⟨_,(l.map Row.cells).flatten,L.own,⟨_,_,L.gb.get hb nofun,hcut,hlen,jk (λ_=>rfl) _⟩,by omega,λv' w3 ho g n=>?_⟩
    have L3:=L.app ho g n;obtain⟨xa',xc',rfl⟩:=af L3.own;refine⟨⟨by omega,by omega⟩,_,_,⟨k+1,_,rfl,by omega,rfl,?_⟩,⟨rfl,rfl,rfl,rfl,trivial⟩,by omega⟩;rw[h2,List.length_append,List.map_append,List.flatten_append];exact L3
  ·have d1:k=xs.length:=by have:=of_decide_eq_false d;omega
   subst d1;have L':LN 128 2 wk w2 (.slice xa (eU (xs.take xs.length)).length xc) (eU xs).length ((eU xs).map Row.cells).flatten:=by
    rw[List.take_length]at L |-;exact L
   exact L'
theorem X3(w:World)(x:Row):ag Tryz.prog 90 #[.agg x.cells.toArray] w (λv w'=>v=.int .u64 x.key/\GB none w w'):=by
 refine aj ah mixed Tryz.func90 rfl rfl ?_;exact λw1 b1 m1 g1 l1=>⟨_,_,m1,_,rfl,rfl,g1⟩
theorem HY{w:World}{v:Value}{l:List Row}(h:Fz w 128 2 v l.length (l.map Row.cells).flatten)(hl:l.length<=1000000)(lo hi:Int):ag Tryz.prog 89 #[v,.func (.func 90) #[] #[],.int .u64 lo,.int .u64 hi] w (λx w'=>∃v1 v2 v3,x=.tuple #[v1,v2,v3]/\LN 128 2 w w' v1 (sB (λx:Row=>x.key) lo l).length ((sB (λx:Row=>x.key) lo l).map Row.cells).flatten/\LN 128 2 w w' v2 (sW (λx:Row=>x.key) lo hi l).length ((sW (λx:Row=>x.key) lo hi l).map Row.cells).flatten/\LN 128 2 w w' v3 (sA (λx:Row=>x.key) lo hi l).length ((sA (λx:Row=>x.key) lo hi l).map Row.cells).flatten/\(∀g,v2.ownBlock=some g->v1.ownBlock≠some g/\v3.ownBlock≠some g)):=by
 obtain⟨a,c,rfl,hc,hlen,hv⟩:=h;refine aj ah mixed Tryz.func89 rfl rfl ?_;refine⟨λn s wk=>∃(i:Nat) (v1 v2 v3:Value),n=l.length - i/\i<=l.length/\s=[(1,.func (.func 90) #[] #[]),(2,.int .u64 lo),(3,.int .u64 hi),(8,v1),(9,v2),(10,v3),(14,.slice a l.length c),(15,.int .i64 l.length),(16,.int .i64 i)]/\LN 128 2 w wk v1 (sB (λx:Row=>x.key) lo (l.take i)).length ((sB (λx:Row=>x.key) lo (l.take i)).map Row.cells).flatten/\LN 128 2 w wk v2 (sW (λx:Row=>x.key) lo hi (l.take i)).length ((sW (λx:Row=>x.key) lo hi (l.take i)).map Row.cells).flatten/\LN 128 2 w wk v3 (sA (λx:Row=>x.key) lo hi (l.take i)).length ((sA (λx:Row=>x.key) lo hi (l.take i)).map Row.cells).flatten/\(∀g,v1.ownBlock=some g->v2.ownBlock≠some g/\v3.ownBlock≠some g)/\(∀g,v2.ownBlock=some g->v3.ownBlock≠some g),⟨_,_,⟨0,_,_,_,rfl,Nat.zero_le _,rfl,LN.nil (GB.refl _ _),LN.nil (GB.refl _ _),LN.nil (GB.refl _ _),nofun,nofun⟩,rfl,rfl,rfl,rfl,rfl,rfl,rfl,rfl,rfl,trivial⟩,?_⟩;rintro n s wk ⟨i,v1,v2,v3,rfl,hi',rfl,L1,L2,L3,s1,s2⟩;obtain⟨a1,c1,rfl⟩:=af L1.own;obtain⟨a2,c2,rfl⟩:=af L2.own;obtain⟨a3,c3,rfl⟩:=af L3.own;refine au (λd=>?_) (λd=>?_)
 ·have d1:i<l.length:=by have:=of_decide_eq_true d;omega
  rcases hv with⟨_,hz⟩|⟨b,off,cs,rfl,hb,hcut⟩
  ·omega
  obtain⟨y,hy⟩:∃y,l[i]? = some y:=⟨l[i],by simp[d1]⟩;have ht:l.take (i+1)=l.take i++[y]:=by rw[List.take_add_one,hy];rfl
  have hB:sB (λx:Row=>x.key) lo (l.take (i+1))=sB (λx:Row=>x.key) lo (l.take i)++(if y.key<lo then[y]else[]):=by unfold sB;rw[ht,List.filter_append];by_cases h:y.key<lo<;>simp[h]
  have hW:sW (λx:Row=>x.key) lo hi (l.take (i+1))=sW (λx:Row=>x.key) lo hi (l.take i)++(if y.key<lo then[]else if hi<y.key then[]else[y]):=by unfold sW;rw[ht,List.filter_append];by_cases h:y.key<lo<;>by_cases h':hi<y.key<;>simp[h,h']
  have hA:sA (λx:Row=>x.key) lo hi (l.take (i+1))=sA (λx:Row=>x.key) lo hi (l.take i)++(if y.key<lo then[]else if hi<y.key then[y]else[]):=by unfold sA;rw[ht,List.filter_append];by_cases h:y.key<lo<;>by_cases h':hi<y.key<;>simp[h,h']
  have lB:(sB (λx:Row=>x.key) lo (l.take i)).length<=(l.take i).length:=List.length_filter_le _ _;have lW:(sW (λx:Row=>x.key) lo hi (l.take i)).length<=(l.take i).length:=List.length_filter_le _ _;have lA:(sA (λx:Row=>x.key) lo hi (l.take i)).length<=(l.take i).length:=List.length_filter_le _ _;rw[List.length_take]at lB lW lA;refine⟨⟨by omega,by omega⟩,_,_,L1.gb.get hb nofun,y.cells,kP (f:=Row.cells) (λ_=>rfl) hy hcut,rfl,λw2 b2 m2 g2 l2=>⟨_,_,_,m2,rfl,rfl,λw3 m3 g3=>?_⟩⟩;have G3:=g2.new g3 l2;refine⟨_,_,m3,y.cells,rfl,rfl,_,X3 w3 y,?_⟩;rintro _ w4 ⟨rfl,g4⟩;have m4:=g4.get m3 nofun;replace L1:=(L1.ax G3).ax g4;replace L2:=(L2.ax G3).ax g4;replace L3:=(L3.ax G3).ax g4;clear G3 g2 g3 m2 m3;refine au (λe=>?_) (λe=>?_)
  ·have e1:=of_decide_eq_true e
   rw[if_pos e1]at hB hW hA;rw[List.append_nil]at hW hA;refine⟨_,_,m4,y.cells,rfl,rfl,λw5 b5 m5 g5 l5=>?_⟩;refine⟨_,y.cells,(L1.ax g5).own,⟨_,_,m5,rfl,rfl,rfl⟩,by omega,λv' w6 ho g6 n6=>?_⟩;have P:=(L1.ax g5).app ho g6 n6;obtain⟨a1',c1',rfl⟩:=af P.own;obtain⟨K2,q2⟩:=LN.two (L1.ax g5) (L2.ax g5) g6 n6 (λg hg=>(s1 g hg).1);obtain⟨K3,q3⟩:=LN.two (L1.ax g5) (L3.ax g5) g6 n6 (λg hg=>(s1 g hg).2);refine⟨⟨by omega,by omega⟩,_,_,⟨i+1,.slice a1' _ c1',_,_,rfl,by omega,rfl,?_,?_,?_,λg hg=>⟨q2 g hg,q3 g hg⟩,s2⟩,⟨rfl,rfl,rfl,rfl,rfl,rfl,rfl,rfl,rfl,trivial⟩,by omega⟩
   ·rw[hB,List.length_append,List.map_append,List.flatten_append];simpa using P
   ·rw[hW];exact K2
   ·rw[hA];exact K3
  ·have e1:=of_decide_eq_false e
   rw[if_neg e1]at hB hW hA;rw[List.append_nil]at hB;refine au (λq=>?_) (λq=>?_)
   ·have q1:hi<y.key:=of_decide_eq_true q
    rw[if_pos q1]at hW hA;rw[List.append_nil]at hW;refine⟨_,_,m4,y.cells,rfl,rfl,λw5 b5 m5 g5 l5=>?_⟩;refine⟨_,y.cells,(L3.ax g5).own,⟨_,_,m5,rfl,rfl,rfl⟩,by omega,λv' w6 ho g6 n6=>?_⟩;have P:=(L3.ax g5).app ho g6 n6;obtain⟨a3',c3',rfl⟩:=af P.own;obtain⟨K1,q1⟩:=LN.two (L3.ax g5) (L1.ax g5) g6 n6 (λg hg he=>(s1 g he).2 hg);obtain⟨K2,q2⟩:=LN.two (L3.ax g5) (L2.ax g5) g6 n6 (λg hg he=>s2 g he hg);refine⟨⟨by omega,by omega⟩,_,_,⟨i+1,_,_,.slice a3' _ c3',rfl,by omega,rfl,?_,?_,?_,λg hg=>⟨(s1 g hg).1,λhe=>q1 g he hg⟩,λg hg he=>q2 g he hg⟩,⟨rfl,rfl,rfl,rfl,rfl,rfl,rfl,rfl,rfl,trivial⟩,by omega⟩
    ·rw[hB];exact K1
    ·rw[hW];exact K2
    ·rw[hA,List.length_append,List.map_append,List.flatten_append];simpa using P
   ·have q1:¬hi<y.key:=of_decide_eq_false q
    rw[if_neg q1]at hW hA;rw[List.append_nil]at hA;refine⟨_,_,m4,y.cells,rfl,rfl,λw5 b5 m5 g5 l5=>?_⟩;refine⟨_,y.cells,(L2.ax g5).own,⟨_,_,m5,rfl,rfl,rfl⟩,by omega,λv' w6 ho g6 n6=>?_⟩;have P:=(L2.ax g5).app ho g6 n6;obtain⟨a2',c2',rfl⟩:=af P.own;obtain⟨K1,q1⟩:=LN.two (L2.ax g5) (L1.ax g5) g6 n6 (λg hg he=>(s1 g he).1 hg);obtain⟨K3,q3⟩:=LN.two (L2.ax g5) (L3.ax g5) g6 n6 (λg hg=>s2 g hg);refine⟨⟨by omega,by omega⟩,_,_,⟨i+1,_,.slice a2' _ c2',_,rfl,by omega,rfl,?_,?_,?_,λg hg=>⟨λhe=>q1 g he hg,(s1 g hg).2⟩,λg hg=>q3 g hg⟩,⟨rfl,rfl,rfl,rfl,rfl,rfl,rfl,rfl,rfl,trivial⟩,by omega⟩
    ·rw[hB];exact K1
    ·rw[hW,List.length_append,List.map_append,List.flatten_append];simpa using P
    ·rw[hA];exact K3
 ·have d1:i=l.length:=by have:=of_decide_eq_false d;omega
  subst d1;have et:=List.take_length (l:=l);refine⟨_,_,_,rfl,?_,?_,?_,λg hg=>⟨λhe=>(s1 g he).1 hg,s2 g hg⟩⟩
  ·rw[et]at L1 |-;exact L1
  ·rw[et]at L2 |-;exact L2
  ·rw[et]at L3 |-;exact L3
theorem UM(w:World){n:Int}(h0:0<=n)(hn:n<=1000000):ag Tryz.prog 150 #[.slice none 0 0,.int .i64 n] w (λv w'=>LN 57 7 w w' v 0 []):=by
 refine aj ah mixed Tryz.func150 rfl rfl ?_;refine au (λe=>?_) (λe=>?_)
 ·have:=of_decide_eq_true e
  omega
 refine⟨⟨by decide,by decide⟩,⟨by omega,by omega⟩,au (λe=>?_) (λe=>?_)⟩
 ·have e1:=of_decide_eq_true e
  refine⟨⟨by decide,by decide⟩,[],dY _ _ _,by omega,by show((0:Nat):Int)<_;omega,by show((0:Int).toNat:Int)+_<=_;simp;omega,λb cap cur w' hb hs ht hc hm g l=>?_⟩;refine⟨⟨by decide,by omega⟩,?_⟩;exact⟨⟨by simp,.inr ⟨b,cap,cur,rfl,Nat.zero_le _,hb,Nat.zero_le _,hm,hs,by simp⟩⟩,g,λy hy=>by simp[Value.ownBlock]at hy;omega⟩
 ·exact LN.nil (GB.refl _ _)
abbrev eX(xs:List (Value×List aB)):List aB:=(xs.map (·.2)).flatten
theorem E9{w:World}{vb:Nat}{xs:List (Value×List aB)}(hvb:w.heap[vb]? = some (.cells (xs.map (·.1)).toArray 27))(hx:∀x∈xs,Fz w 57 7 x.1 x.2.length (x.2.map aB.cells).flatten)(hl:(eX xs).length<=1000000)(hxl:xs.length<=100):ag Tryz.prog 94 #[.slice (some ⟨vb,0,none⟩) xs.length xs.length] w (λv w'=>LN 57 7 w w' v (eX xs).length ((eX xs).map aB.cells).flatten):=by
 have hct:∀k,(eX (xs.take k)).length<=(eX xs).length:=λk=>by
  have:eX xs=eX (xs.take k)++eX (xs.drop k):=by unfold eX;rw[<-List.flatten_append,<-List.map_append,List.take_append_drop]
  rw[this,List.length_append];omega
 have hnx:∀k x,xs[k]? = some x->eX (xs.take (k+1))=eX (xs.take k)++x.2:=λk x h=>by
  unfold eX;rw[List.take_add_one,h];simp
 refine aj ah mixed Tryz.func94 rfl rfl ?_;refine⟨λn s wk=>∃k:Nat,n=xs.length - k/\k<=xs.length/\s=[(0,.slice (some ⟨vb,0,none⟩) xs.length xs.length),(3,.int .i64 (eX (xs.take k)).length),(9,.slice (some ⟨vb,0,none⟩) xs.length xs.length),(10,.int .i64 xs.length),(11,.int .i64 k)]/\wk=w,⟨_,_,⟨0,rfl,Nat.zero_le _,rfl,rfl⟩,rfl,rfl,rfl,rfl,rfl,trivial⟩,?_⟩;rintro n s wk ⟨k,rfl,hk,rfl,rfl⟩;refine au (λd=>?_) (λd=>?_)
 ·have d1:k<xs.length:=by have:=of_decide_eq_true d;omega
  obtain⟨⟨v,l⟩,hv⟩:∃x,xs[k]? = some x:=⟨xs[k],by simp[d1]⟩;obtain⟨a,c,e,_⟩:=hx _ (List.mem_of_getElem? hv);have e:v=.slice a l.length c:=e;subst e;have h1:=hct (k+1);have h2:=hnx k _ hv;rw[h2,List.length_append]at h1;refine⟨⟨by omega,by omega⟩,_,_,hvb,.slice a l.length c,by show(xs.map (·.1)).toArray.toList[0+(k:Int).toNat*1]? = _;simp[hv],⟨by dsimp only at h1;omega,by dsimp only at h1;omega⟩,?_⟩;refine⟨⟨by omega,by omega⟩,_,_,⟨k+1,rfl,by omega,rfl,rfl⟩,⟨rfl,?_,rfl,rfl,rfl,trivial⟩,by omega⟩;show some (Value.int .i64 _)=some (Value.int .i64 _);rw[h2,List.length_append];rfl
 ·have d1:k=xs.length:=by have:=of_decide_eq_false d;omega
  subst d1;rw[List.take_length];refine⟨_,UM wk (n:=((eX xs).length:Int)) (by omega) (by omega),?_⟩;intro v w1 L;obtain⟨va,vc,rfl⟩:=af L.own;refine⟨λn s w2=>∃(k:Nat) (x:Value),n=xs.length - k/\k<=xs.length/\s=[(6,x),(25,.slice (some ⟨vb,0,none⟩) xs.length xs.length),(26,.int .i64 xs.length),(27,.int .i64 k)]/\LN 57 7 wk w2 x (eX (xs.take k)).length ((eX (xs.take k)).map aB.cells).flatten,⟨_,_,⟨0,_,rfl,Nat.zero_le _,rfl,L⟩,rfl,rfl,rfl,rfl,trivial⟩,?_⟩;clear L;rintro n s w2 ⟨k,x,rfl,hk,rfl,L⟩;obtain⟨xa,xc,rfl⟩:=af L.own;refine au (λd=>?_) (λd=>?_)
  ·have d1:k<xs.length:=by have:=of_decide_eq_true d;omega
   obtain⟨⟨v,l⟩,hv⟩:∃x,xs[k]? = some x:=⟨xs[k],by simp[d1]⟩;have hF:=hx _ (List.mem_of_getElem? hv);have h2:=hnx k _ hv;have h1:=hct (k+1);rw[h2,List.length_append]at h1;dsimp only at hF h1 h2;obtain⟨a,c,rfl,hc,hlen,hd⟩:=hF;refine⟨⟨by omega,by omega⟩,_,_,L.gb.get hvb nofun,.slice a l.length c,by show(xs.map (·.1)).toArray.toList[0+(k:Int).toNat*1]? = _;simp[hv],?_⟩;rcases hd with⟨rfl,h0⟩|⟨b,off,cs,rfl,hb,hcut⟩
   ·rw[h0]
    have hl0:l=[]:=List.eq_nil_of_length_eq_zero h0;have hcp:(eX (xs.take k)).length<=xc:=by
     rcases L.own.2 with⟨q,h0⟩|⟨_,_,_,q,_,_,h3,_⟩
     ·injection q with _ _ q;omega
     ·injection q with _ _ q;omega
    refine⟨hcp,⟨by omega,by omega⟩,_,_,⟨k+1,.slice xa (eX (xs.take k)).length xc,rfl,by omega,rfl,?_⟩,⟨rfl,rfl,rfl,rfl,trivial⟩,by omega⟩;rw[h2,hl0,List.append_nil];exact L
   ·refine⟨_,(l.map aB.cells).flatten,L.own,⟨_,_,L.gb.get hb nofun,hcut,hlen,jk (λ_=>rfl) _⟩,by omega,λv' w3 ho g n=>?_⟩
    have L3:=L.app ho g n;obtain⟨xa',xc',rfl⟩:=af L3.own;refine⟨⟨by omega,by omega⟩,_,_,⟨k+1,_,rfl,by omega,rfl,?_⟩,⟨rfl,rfl,rfl,rfl,trivial⟩,by omega⟩;rw[h2,List.length_append,List.map_append,List.flatten_append];exact L3
  ·have d1:k=xs.length:=by have:=of_decide_eq_false d;omega
   subst d1;have L':LN 57 7 wk w2 (.slice xa (eX (xs.take xs.length)).length xc) (eX xs).length ((eX xs).map aB.cells).flatten:=by
    rw[List.take_length]at L |-;exact L
   exact L'
theorem X4(w:World)(x:aB):ag Tryz.prog 93 #[.agg x.cells.toArray] w (λv w'=>v=.int .u64 x.key/\GB none w w'):=by
 refine aj ah mixed Tryz.func93 rfl rfl ?_;exact λw1 b1 m1 g1 l1=>⟨_,_,m1,_,rfl,rfl,g1⟩
theorem HZ{w:World}{v:Value}{l:List aB}(h:Fz w 57 7 v l.length (l.map aB.cells).flatten)(hl:l.length<=1000000)(lo hi:Int):ag Tryz.prog 92 #[v,.func (.func 93) #[] #[],.int .u64 lo,.int .u64 hi] w (λx w'=>∃v1 v2 v3,x=.tuple #[v1,v2,v3]/\LN 57 7 w w' v1 (sB (λx:aB=>x.key) lo l).length ((sB (λx:aB=>x.key) lo l).map aB.cells).flatten/\LN 57 7 w w' v2 (sW (λx:aB=>x.key) lo hi l).length ((sW (λx:aB=>x.key) lo hi l).map aB.cells).flatten/\LN 57 7 w w' v3 (sA (λx:aB=>x.key) lo hi l).length ((sA (λx:aB=>x.key) lo hi l).map aB.cells).flatten/\(∀g,v2.ownBlock=some g->v1.ownBlock≠some g/\v3.ownBlock≠some g)):=by
 obtain⟨a,c,rfl,hc,hlen,hv⟩:=h;refine aj ah mixed Tryz.func92 rfl rfl ?_;refine⟨λn s wk=>∃(i:Nat) (v1 v2 v3:Value),n=l.length - i/\i<=l.length/\s=[(1,.func (.func 93) #[] #[]),(2,.int .u64 lo),(3,.int .u64 hi),(8,v1),(9,v2),(10,v3),(14,.slice a l.length c),(15,.int .i64 l.length),(16,.int .i64 i)]/\LN 57 7 w wk v1 (sB (λx:aB=>x.key) lo (l.take i)).length ((sB (λx:aB=>x.key) lo (l.take i)).map aB.cells).flatten/\LN 57 7 w wk v2 (sW (λx:aB=>x.key) lo hi (l.take i)).length ((sW (λx:aB=>x.key) lo hi (l.take i)).map aB.cells).flatten/\LN 57 7 w wk v3 (sA (λx:aB=>x.key) lo hi (l.take i)).length ((sA (λx:aB=>x.key) lo hi (l.take i)).map aB.cells).flatten/\(∀g,v1.ownBlock=some g->v2.ownBlock≠some g/\v3.ownBlock≠some g)/\(∀g,v2.ownBlock=some g->v3.ownBlock≠some g),⟨_,_,⟨0,_,_,_,rfl,Nat.zero_le _,rfl,LN.nil (GB.refl _ _),LN.nil (GB.refl _ _),LN.nil (GB.refl _ _),nofun,nofun⟩,rfl,rfl,rfl,rfl,rfl,rfl,rfl,rfl,rfl,trivial⟩,?_⟩;rintro n s wk ⟨i,v1,v2,v3,rfl,hi',rfl,L1,L2,L3,s1,s2⟩;obtain⟨a1,c1,rfl⟩:=af L1.own;obtain⟨a2,c2,rfl⟩:=af L2.own;obtain⟨a3,c3,rfl⟩:=af L3.own;refine au (λd=>?_) (λd=>?_)
 ·have d1:i<l.length:=by have:=of_decide_eq_true d;omega
  rcases hv with⟨_,hz⟩|⟨b,off,cs,rfl,hb,hcut⟩
  ·omega
  obtain⟨y,hy⟩:∃y,l[i]? = some y:=⟨l[i],by simp[d1]⟩;have ht:l.take (i+1)=l.take i++[y]:=by rw[List.take_add_one,hy];rfl
  have hB:sB (λx:aB=>x.key) lo (l.take (i+1))=sB (λx:aB=>x.key) lo (l.take i)++(if y.key<lo then[y]else[]):=by unfold sB;rw[ht,List.filter_append];by_cases h:y.key<lo<;>simp[h]
  have hW:sW (λx:aB=>x.key) lo hi (l.take (i+1))=sW (λx:aB=>x.key) lo hi (l.take i)++(if y.key<lo then[]else if hi<y.key then[]else[y]):=by unfold sW;rw[ht,List.filter_append];by_cases h:y.key<lo<;>by_cases h':hi<y.key<;>simp[h,h']
  have hA:sA (λx:aB=>x.key) lo hi (l.take (i+1))=sA (λx:aB=>x.key) lo hi (l.take i)++(if y.key<lo then[]else if hi<y.key then[y]else[]):=by unfold sA;rw[ht,List.filter_append];by_cases h:y.key<lo<;>by_cases h':hi<y.key<;>simp[h,h']
  have lB:(sB (λx:aB=>x.key) lo (l.take i)).length<=(l.take i).length:=List.length_filter_le _ _;have lW:(sW (λx:aB=>x.key) lo hi (l.take i)).length<=(l.take i).length:=List.length_filter_le _ _;have lA:(sA (λx:aB=>x.key) lo hi (l.take i)).length<=(l.take i).length:=List.length_filter_le _ _;rw[List.length_take]at lB lW lA;refine⟨⟨by omega,by omega⟩,_,_,L1.gb.get hb nofun,y.cells,kP (f:=aB.cells) (λ_=>rfl) hy hcut,rfl,λw2 b2 m2 g2 l2=>⟨_,_,_,m2,rfl,rfl,λw3 m3 g3=>?_⟩⟩;have G3:=g2.new g3 l2;refine⟨_,_,m3,y.cells,rfl,rfl,_,X4 w3 y,?_⟩;rintro _ w4 ⟨rfl,g4⟩;have m4:=g4.get m3 nofun;replace L1:=(L1.ax G3).ax g4;replace L2:=(L2.ax G3).ax g4;replace L3:=(L3.ax G3).ax g4;clear G3 g2 g3 m2 m3;refine au (λe=>?_) (λe=>?_)
  ·have e1:=of_decide_eq_true e
   rw[if_pos e1]at hB hW hA;rw[List.append_nil]at hW hA;refine⟨_,_,m4,y.cells,rfl,rfl,λw5 b5 m5 g5 l5=>?_⟩;refine⟨_,y.cells,(L1.ax g5).own,⟨_,_,m5,rfl,rfl,rfl⟩,by omega,λv' w6 ho g6 n6=>?_⟩;have P:=(L1.ax g5).app ho g6 n6;obtain⟨a1',c1',rfl⟩:=af P.own;obtain⟨K2,q2⟩:=LN.two (L1.ax g5) (L2.ax g5) g6 n6 (λg hg=>(s1 g hg).1);obtain⟨K3,q3⟩:=LN.two (L1.ax g5) (L3.ax g5) g6 n6 (λg hg=>(s1 g hg).2);refine⟨⟨by omega,by omega⟩,_,_,⟨i+1,.slice a1' _ c1',_,_,rfl,by omega,rfl,?_,?_,?_,λg hg=>⟨q2 g hg,q3 g hg⟩,s2⟩,⟨rfl,rfl,rfl,rfl,rfl,rfl,rfl,rfl,rfl,trivial⟩,by omega⟩
   ·rw[hB,List.length_append,List.map_append,List.flatten_append];simpa using P
   ·rw[hW];exact K2
   ·rw[hA];exact K3
  ·have e1:=of_decide_eq_false e
   rw[if_neg e1]at hB hW hA;rw[List.append_nil]at hB;refine au (λq=>?_) (λq=>?_)
   ·have q1:hi<y.key:=of_decide_eq_true q
    rw[if_pos q1]at hW hA;rw[List.append_nil]at hW;refine⟨_,_,m4,y.cells,rfl,rfl,λw5 b5 m5 g5 l5=>?_⟩;refine⟨_,y.cells,(L3.ax g5).own,⟨_,_,m5,rfl,rfl,rfl⟩,by omega,λv' w6 ho g6 n6=>?_⟩;have P:=(L3.ax g5).app ho g6 n6;obtain⟨a3',c3',rfl⟩:=af P.own;obtain⟨K1,q1⟩:=LN.two (L3.ax g5) (L1.ax g5) g6 n6 (λg hg he=>(s1 g he).2 hg);obtain⟨K2,q2⟩:=LN.two (L3.ax g5) (L2.ax g5) g6 n6 (λg hg he=>s2 g he hg);refine⟨⟨by omega,by omega⟩,_,_,⟨i+1,_,_,.slice a3' _ c3',rfl,by omega,rfl,?_,?_,?_,λg hg=>⟨(s1 g hg).1,λhe=>q1 g he hg⟩,λg hg he=>q2 g he hg⟩,⟨rfl,rfl,rfl,rfl,rfl,rfl,rfl,rfl,rfl,trivial⟩,by omega⟩
    ·rw[hB];exact K1
    ·rw[hW];exact K2
    ·rw[hA,List.length_append,List.map_append,List.flatten_append];simpa using P
   ·have q1:¬hi<y.key:=of_decide_eq_false q
    rw[if_neg q1]at hW hA;rw[List.append_nil]at hA;refine⟨_,_,m4,y.cells,rfl,rfl,λw5 b5 m5 g5 l5=>?_⟩;refine⟨_,y.cells,(L2.ax g5).own,⟨_,_,m5,rfl,rfl,rfl⟩,by omega,λv' w6 ho g6 n6=>?_⟩;have P:=(L2.ax g5).app ho g6 n6;obtain⟨a2',c2',rfl⟩:=af P.own;obtain⟨K1,q1⟩:=LN.two (L2.ax g5) (L1.ax g5) g6 n6 (λg hg he=>(s1 g he).1 hg);obtain⟨K3,q3⟩:=LN.two (L2.ax g5) (L3.ax g5) g6 n6 (λg hg=>s2 g hg);refine⟨⟨by omega,by omega⟩,_,_,⟨i+1,_,.slice a2' _ c2',_,rfl,by omega,rfl,?_,?_,?_,λg hg=>⟨λhe=>q1 g he hg,(s1 g hg).2⟩,λg hg=>q3 g hg⟩,⟨rfl,rfl,rfl,rfl,rfl,rfl,rfl,rfl,rfl,trivial⟩,by omega⟩
    ·rw[hB];exact K1
    ·rw[hW,List.length_append,List.map_append,List.flatten_append];simpa using P
    ·rw[hA];exact K3
 ·have d1:i=l.length:=by have:=of_decide_eq_false d;omega
  subst d1;have et:=List.take_length (l:=l);refine⟨_,_,_,rfl,?_,?_,?_,λg hg=>⟨λhe=>(s1 g he).1 hg,s2 g hg⟩⟩
  ·rw[et]at L1 |-;exact L1
  ·rw[et]at L2 |-;exact L2
  ·rw[et]at L3 |-;exact L3
end
