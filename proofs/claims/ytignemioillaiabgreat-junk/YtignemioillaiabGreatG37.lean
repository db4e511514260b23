/- A shard at work (5): Grow, Concat, split. -/
import Derived.Test.YtignemioillaiabGreatG36
namespace Go.Proofs.YtignemioillaiabGreat
set_option maxHeartbeats 8000000
set_option maxRecDepth 100000
section
open Go Go.Conc
theorem LN.two {e size n n':Nat} {w0 w w':World} {v v1 v':Value} {xs ys:List Value} (h:LN e size w0 w v n xs) (k:LN e size w0 w v1 n' ys) (g:GB v.ownBlock w w') (hn:∀ g,v'.ownBlock=some g->v.ownBlock=some g\/w.heap.size<=g) (hs:∀ g,v.ownBlock=some g->v1.ownBlock≠some g):LN e size w0 w' v1 n' ys/\∀ g,v'.ownBlock=some g->v1.ownBlock≠some g:=by
 refine ⟨⟨aA k.own λ y hy=>?_,h.gb.ownB g h.new,k.new⟩,λ y hy he=>?_⟩
 ·obtain ⟨c,hc⟩:=aD k.own hy
  exact g.block y (ag hc) λ z=>hs y z.symm hy
 ·rcases hn y hy with q | q
  ·exact hs y q he
  ·have:=k.lt he;omega
theorem TM (w:World) {n:Int} (h0:0<=n) (hn:n<=1000000):af Tryz.prog 169 #[.slice none 0 0,.int .i64 n] w (λ v w'=>LN 139 2 w w' v 0 []):=by
 refine aj ah mixed Tryz.func169 rfl rfl ?_;refine au (λ e=>?_) (λ e=>?_)
 ·have:=of_decide_eq_true e
  omega
 refine ⟨⟨by decide,by decide⟩,⟨by omega,by omega⟩,au (λ e=>?_) (λ e=>?_)⟩
 ·have e1:=of_decide_eq_true e
  refine ⟨⟨by decide,by decide⟩,[],eX _ _ _,by omega,by show ((0:Nat):Int)<_;omega,by show ((0:Int).toNat:Int)+_<=_;simp;omega,λ b cap cur w' hb hs ht hc hm g l=>?_⟩;refine ⟨⟨by decide,by omega⟩,?_⟩;exact ⟨⟨by simp,.inr ⟨b,cap,cur,rfl,Nat.zero_le _,hb,Nat.zero_le _,hm,hs,by simp⟩⟩,g,λ y hy=>by simp [Value.ownBlock] at hy;omega⟩
 ·exact LN.nil (GB.refl _ _)
abbrev eF (xs:List (Value×List Row)):List Row:=(xs.map (·.2)).flatten
theorem ED {w:World} {vb:Nat} {xs:List (Value×List Row)} (hvb:w.heap[vb]? = some (.cells (xs.map (·.1)).toArray 49)) (hx:∀ x∈xs,Fz w 139 2 x.1 x.2.length (x.2.map Row.cells).flatten) (hl:(eF xs).length<=1000000) (hxl:xs.length<=100):af Tryz.prog 108 #[.slice (some ⟨vb,0,none⟩) xs.length xs.length] w (λ v w'=>LN 139 2 w w' v (eF xs).length ((eF xs).map Row.cells).flatten):=by
 have hct:∀ k,(eF (xs.take k)).length<=(eF xs).length:=λ k=>by
  have:eF xs=eF (xs.take k)++eF (xs.drop k):=by unfold eF;rw [<- List.flatten_append,<- List.map_append,List.take_append_drop]
  rw [this,List.length_append];omega
 have hnx:∀ k x,xs[k]? = some x->eF (xs.take (k+1))=eF (xs.take k)++x.2:=λ k x h=>by
  unfold eF;rw [List.take_add_one,h];simp
 refine aj ah mixed Tryz.func108 rfl rfl ?_;refine ⟨λ n s wk=>∃ k:Nat,n=xs.length - k/\k<=xs.length/\s=[(0,.slice (some ⟨vb,0,none⟩) xs.length xs.length),(3,.int .i64 (eF (xs.take k)).length),(9,.slice (some ⟨vb,0,none⟩) xs.length xs.length),(10,.int .i64 xs.length),(11,.int .i64 k)]/\wk=w,⟨_,_,⟨0,rfl,Nat.zero_le _,rfl,rfl⟩,rfl,rfl,rfl,rfl,rfl,trivial⟩,?_⟩;rintro n s wk ⟨k,rfl,hk,rfl,rfl⟩;refine au (λ d=>?_) (λ d=>?_)
 ·have d1:k<xs.length:=by have:=of_decide_eq_true d;omega
  obtain ⟨⟨v,l⟩,hv⟩:∃ x,xs[k]? = some x:=⟨xs[k],by simp [d1]⟩;obtain ⟨a,c,e,_⟩:=hx _ (List.mem_of_getElem? hv);have e:v=.slice a l.length c:=e;subst e;have h1:=hct (k+1);have h2:=hnx k _ hv;rw [h2,List.length_append] at h1;refine ⟨⟨by omega,by omega⟩,_,_,hvb,.slice a l.length c,by show (xs.map (·.1)).toArray.toList[0+(k:Int).toNat*1]? = _;simp [hv],⟨by dsimp only at h1;omega,by dsimp only at h1;omega⟩,?_⟩;refine ⟨⟨by omega,by omega⟩,_,_,⟨k+1,rfl,by omega,rfl,rfl⟩,⟨rfl,?_,rfl,rfl,rfl,trivial⟩,by omega⟩;show some (Value.int .i64 _)=some (Value.int .i64 _);rw [h2,List.length_append];rfl
 ·have d1:k=xs.length:=by have:=of_decide_eq_false d;omega
  subst d1;rw [List.take_length];refine ⟨_,TM wk (n:=((eF xs).length:Int)) (by omega) (by omega),?_⟩;intro v w1 L;obtain ⟨va,vc,rfl⟩:=ae L.own;refine ⟨λ n s w2=>∃ (k:Nat) (x:Value),n=xs.length - k/\k<=xs.length/\s=[(6,x),(25,.slice (some ⟨vb,0,none⟩) xs.length xs.length),(26,.int .i64 xs.length),(27,.int .i64 k)]/\LN 139 2 wk w2 x (eF (xs.take k)).length ((eF (xs.take k)).map Row.cells).flatten,⟨_,_,⟨0,_,rfl,Nat.zero_le _,rfl,L⟩,rfl,rfl,rfl,rfl,trivial⟩,?_⟩;clear L;rintro n s w2 ⟨k,x,rfl,hk,rfl,L⟩;obtain ⟨xa,xc,rfl⟩:=ae L.own;refine au (λ d=>?_) (λ d=>?_)
  ·have d1:k<xs.length:=by have:=of_decide_eq_true d;omega
   obtain ⟨⟨v,l⟩,hv⟩:∃ x,xs[k]? = some x:=⟨xs[k],by simp [d1]⟩;have hF:=hx _ (List.mem_of_getElem? hv);have h2:=hnx k _ hv;have h1:=hct (k+1);rw [h2,List.length_append] at h1;dsimp only at hF h1 h2;obtain ⟨a,c,rfl,hc,hlen,hd⟩:=hF;refine ⟨⟨by omega,by omega⟩,_,_,L.gb.get hvb nofun,.slice a l.length c,by show (xs.map (·.1)).toArray.toList[0+(k:Int).toNat*1]? = _;simp [hv],?_⟩;rcases hd with ⟨rfl,h0⟩ | ⟨b,off,cs,rfl,hb,hcut⟩
   ·rw [h0]
    have hl0:l=[]:=List.eq_nil_of_length_eq_zero h0;have hcp:(eF (xs.take k)).length<=xc:=by
     rcases L.own.2 with ⟨q,h0⟩ | ⟨_,_,_,q,_,_,h3,_⟩
     ·injection q with _ _ q;omega
     ·injection q with _ _ q;omega
    refine ⟨hcp,⟨by omega,by omega⟩,_,_,⟨k+1,.slice xa (eF (xs.take k)).length xc,rfl,by omega,rfl,?_⟩,⟨rfl,rfl,rfl,rfl,trivial⟩,by omega⟩;rw [h2,hl0,List.append_nil];exact L
   ·refine ⟨_,(l.map Row.cells).flatten,L.own,⟨_,_,L.gb.get hb nofun,hcut,hlen,jd (λ _=>rfl) _⟩,by omega,λ v' w3 ho g n=>?_⟩
    have L3:=L.app ho g n;obtain ⟨Y6,Y7,rfl⟩:=ae L3.own;refine ⟨⟨by omega,by omega⟩,_,_,⟨k+1,_,rfl,by omega,rfl,?_⟩,⟨rfl,rfl,rfl,rfl,trivial⟩,by omega⟩;rw [h2,List.length_append,List.map_append,List.flatten_append];exact L3
  ·have d1:k=xs.length:=by have:=of_decide_eq_false d;omega
   subst d1;have L':LN 139 2 wk w2 (.slice xa (eF (xs.take xs.length)).length xc) (eF xs).length ((eF xs).map Row.cells).flatten:=by
    rw [List.take_length] at L |-;exact L
   exact L'
theorem WV (w:World) (x:Row):af Tryz.prog 107 #[.agg x.cells.toArray] w (λ v w'=>v=.int .u64 x.key/\GB none w w'):=by
 refine aj ah mixed Tryz.func107 rfl rfl ?_;exact λ w1 b1 m1 g1 l1=>⟨_,_,m1,_,rfl,rfl,g1⟩
theorem GI {w:World} {v:Value} {l:List Row} (h:Fz w 139 2 v l.length (l.map Row.cells).flatten) (hl:l.length<=1000000) (lo hi:Int):af Tryz.prog 106 #[v,.func (.func 107) #[] #[],.int .u64 lo,.int .u64 hi] w (λ x w'=>∃ v1 v2 v3,x=.tuple #[v1,v2,v3]/\LN 139 2 w w' v1 (sB (λ x:Row=>x.key) lo l).length ((sB (λ x:Row=>x.key) lo l).map Row.cells).flatten/\LN 139 2 w w' v2 (sW (λ x:Row=>x.key) lo hi l).length ((sW (λ x:Row=>x.key) lo hi l).map Row.cells).flatten/\LN 139 2 w w' v3 (sA (λ x:Row=>x.key) lo hi l).length ((sA (λ x:Row=>x.key) lo hi l).map Row.cells).flatten/\(∀ g,v2.ownBlock=some g->v1.ownBlock≠some g/\v3.ownBlock≠some g)):=by
 obtain ⟨a,c,rfl,hc,hlen,hv⟩:=h;refine aj ah mixed Tryz.func106 rfl rfl ?_;refine ⟨λ n s wk=>∃ (i:Nat) (v1 v2 v3:Value),n=l.length - i/\i<=l.length/\s=[(1,.func (.func 107) #[] #[]),(2,.int .u64 lo),(3,.int .u64 hi),(8,v1),(9,v2),(10,v3),(14,.slice a l.length c),(15,.int .i64 l.length),(16,.int .i64 i)]/\LN 139 2 w wk v1 (sB (λ x:Row=>x.key) lo (l.take i)).length ((sB (λ x:Row=>x.key) lo (l.take i)).map Row.cells).flatten/\LN 139 2 w wk v2 (sW (λ x:Row=>x.key) lo hi (l.take i)).length ((sW (λ x:Row=>x.key) lo hi (l.take i)).map Row.cells).flatten/\LN 139 2 w wk v3 (sA (λ x:Row=>x.key) lo hi (l.take i)).length ((sA (λ x:Row=>x.key) lo hi (l.take i)).map Row.cells).flatten/\(∀ g,v1.ownBlock=some g->v2.ownBlock≠some g/\v3.ownBlock≠some g)/\(∀ g,v2.ownBlock=some g->v3.ownBlock≠some g),⟨_,_,⟨0,_,_,_,rfl,Nat.zero_le _,rfl,LN.nil (GB.refl _ _),LN.nil (GB.refl _ _),LN.nil (GB.refl _ _),nofun,nofun⟩,rfl,rfl,rfl,rfl,rfl,rfl,rfl,rfl,rfl,trivial⟩,?_⟩;rintro n s wk ⟨i,v1,v2,v3,rfl,hi',rfl,L1,L2,L3,s1,s2⟩;obtain ⟨a1,c1,rfl⟩:=ae L1.own;obtain ⟨a2,c2,rfl⟩:=ae L2.own;obtain ⟨a3,c3,rfl⟩:=ae L3.own;refine au (λ d=>?_) (λ d=>?_)
 ·have d1:i<l.length:=by have:=of_decide_eq_true d;omega
  rcases hv with ⟨_,hz⟩ | ⟨b,off,cs,rfl,hb,hcut⟩
  ·omega
  obtain ⟨y,hy⟩:∃ y,l[i]? = some y:=⟨l[i],by simp [d1]⟩;have ht:l.take (i+1)=l.take i++[y]:=by rw [List.take_add_one,hy];rfl
  have hB:sB (λ x:Row=>x.key) lo (l.take (i+1))=sB (λ x:Row=>x.key) lo (l.take i)++(if y.key<lo then [y] else []):=by unfold sB;rw [ht,List.filter_append];by_cases h:y.key<lo <;> simp [h]
  have hW:sW (λ x:Row=>x.key) lo hi (l.take (i+1))=sW (λ x:Row=>x.key) lo hi (l.take i)++(if y.key<lo then [] else if hi<y.key then [] else [y]):=by unfold sW;rw [ht,List.filter_append];by_cases h:y.key<lo <;> by_cases h':hi<y.key <;> simp [h,h']
  have hA:sA (λ x:Row=>x.key) lo hi (l.take (i+1))=sA (λ x:Row=>x.key) lo hi (l.take i)++(if y.key<lo then [] else if hi<y.key then [y] else []):=by unfold sA;rw [ht,List.filter_append];by_cases h:y.key<lo <;> by_cases h':hi<y.key <;> simp [h,h']
  have lB:(sB (λ x:Row=>x.key) lo (l.take i)).length<=(l.take i).length:=List.length_filter_le _ _;have lW:(sW (λ x:Row=>x.key) lo hi (l.take i)).length<=(l.take i).length:=List.length_filter_le _ _;have lA:(sA (λ x:Row=>x.key) lo hi (l.take i)).length<=(l.take i).length:=List.length_filter_le _ _;rw [List.length_take] at lB lW lA;refine ⟨⟨by omega,by omega⟩,_,_,L1.gb.get hb nofun,y.cells,kD (f:=Row.cells) (λ _=>rfl) hy hcut,rfl,λ w2 b2 m2 g2 l2=>⟨_,_,_,m2,rfl,rfl,λ w3 m3 g3=>?_⟩⟩;have G3:=g2.new g3 l2;refine ⟨_,_,m3,y.cells,rfl,rfl,_,WV w3 y,?_⟩;rintro _ w4 ⟨rfl,g4⟩;have m4:=g4.get m3 nofun;replace L1:=(L1.ax G3).ax g4;replace L2:=(L2.ax G3).ax g4;replace L3:=(L3.ax G3).ax g4;clear G3 g2 g3 m2 m3;refine au (λ e=>?_) (λ e=>?_)
  ·have e1:=of_decide_eq_true e
   rw [if_pos e1] at hB hW hA;rw [List.append_nil] at hW hA;refine ⟨_,_,m4,y.cells,rfl,rfl,λ w5 b5 m5 g5 l5=>?_⟩;refine ⟨_,y.cells,(L1.ax g5).own,⟨_,_,m5,rfl,rfl,rfl⟩,by omega,λ v' w6 ho g6 n6=>?_⟩;have P:=(L1.ax g5).app ho g6 n6;obtain ⟨a1',c1',rfl⟩:=ae P.own;obtain ⟨K2,q2⟩:=LN.two (L1.ax g5) (L2.ax g5) g6 n6 (λ g hg=>(s1 g hg).1);obtain ⟨K3,q3⟩:=LN.two (L1.ax g5) (L3.ax g5) g6 n6 (λ g hg=>(s1 g hg).2);refine ⟨⟨by omega,by omega⟩,_,_,⟨i+1,.slice a1' _ c1',_,_,rfl,by omega,rfl,?_,?_,?_,λ g hg=>⟨q2 g hg,q3 g hg⟩,s2⟩,⟨rfl,rfl,rfl,rfl,rfl,rfl,rfl,rfl,rfl,trivial⟩,by omega⟩
   ·rw [hB,List.length_append,List.map_append,List.flatten_append];simpa using P
   ·rw [hW];exact K2
   ·rw [hA];exact K3
  ·have e1:=of_decide_eq_false e
   rw [if_neg e1] at hB hW hA;rw [List.append_nil] at hB;refine au (λ q=>?_) (λ q=>?_)
   ·have q1:hi<y.key:=of_decide_eq_true q
    rw [if_pos q1] at hW hA;rw [List.append_nil] at hW;refine ⟨_,_,m4,y.cells,rfl,rfl,λ w5 b5 m5 g5 l5=>?_⟩;refine ⟨_,y.cells,(L3.ax g5).own,⟨_,_,m5,rfl,rfl,rfl⟩,by omega,λ v' w6 ho g6 n6=>?_⟩;have P:=(L3.ax g5).app ho g6 n6;obtain ⟨a3',c3',rfl⟩:=ae P.own;obtain ⟨K1,q1⟩:=LN.two (L3.ax g5) (L1.ax g5) g6 n6 (λ g hg he=>(s1 g he).2 hg);obtain ⟨K2,q2⟩:=LN.two (L3.ax g5) (L2.ax g5) g6 n6 (λ g hg he=>s2 g he hg);refine ⟨⟨by omega,by omega⟩,_,_,⟨i+1,_,_,.slice a3' _ c3',rfl,by omega,rfl,?_,?_,?_,λ g hg=>⟨(s1 g hg).1,λ he=>q1 g he hg⟩,λ g hg he=>q2 g he hg⟩,⟨rfl,rfl,rfl,rfl,rfl,rfl,rfl,rfl,rfl,trivial⟩,by omega⟩
    ·rw [hB];exact K1
    ·rw [hW];exact K2
    ·rw [hA,List.length_append,List.map_append,List.flatten_append];simpa using P
   ·have q1:¬ hi<y.key:=of_decide_eq_false q
    rw [if_neg q1] at hW hA;rw [List.append_nil] at hA;refine ⟨_,_,m4,y.cells,rfl,rfl,λ w5 b5 m5 g5 l5=>?_⟩;refine ⟨_,y.cells,(L2.ax g5).own,⟨_,_,m5,rfl,rfl,rfl⟩,by omega,λ v' w6 ho g6 n6=>?_⟩;have P:=(L2.ax g5).app ho g6 n6;obtain ⟨Zr,c2',rfl⟩:=ae P.own;obtain ⟨K1,q1⟩:=LN.two (L2.ax g5) (L1.ax g5) g6 n6 (λ g hg he=>(s1 g he).1 hg);obtain ⟨K3,q3⟩:=LN.two (L2.ax g5) (L3.ax g5) g6 n6 (λ g hg=>s2 g hg);refine ⟨⟨by omega,by omega⟩,_,_,⟨i+1,_,.slice Zr _ c2',_,rfl,by omega,rfl,?_,?_,?_,λ g hg=>⟨λ he=>q1 g he hg,(s1 g hg).2⟩,λ g hg=>q3 g hg⟩,⟨rfl,rfl,rfl,rfl,rfl,rfl,rfl,rfl,rfl,trivial⟩,by omega⟩
    ·rw [hB];exact K1
    ·rw [hW,List.length_append,List.map_append,List.flatten_append];simpa using P
    ·rw [hA];exact K3
 ·have d1:i=l.length:=by have:=of_decide_eq_false d;omega
  subst d1;have et:=List.take_length (l:=l);refine ⟨_,_,_,rfl,?_,?_,?_,λ g hg=>⟨λ he=>(s1 g he).1 hg,s2 g hg⟩⟩
  ·rw [et] at L1 |-;exact L1
  ·rw [et] at L2 |-;exact L2
  ·rw [et] at L3 |-;exact L3
theorem TN (w:World) {n:Int} (h0:0<=n) (hn:n<=1000000):af Tryz.prog 170 #[.slice none 0 0,.int .i64 n] w (λ v w'=>LN 70 7 w w' v 0 []):=by
 refine aj ah mixed Tryz.func170 rfl rfl ?_;refine au (λ e=>?_) (λ e=>?_)
 ·have:=of_decide_eq_true e
  omega
 refine ⟨⟨by decide,by decide⟩,⟨by omega,by omega⟩,au (λ e=>?_) (λ e=>?_)⟩
 ·have e1:=of_decide_eq_true e
  refine ⟨⟨by decide,by decide⟩,[],eX _ _ _,by omega,by show ((0:Nat):Int)<_;omega,by show ((0:Int).toNat:Int)+_<=_;simp;omega,λ b cap cur w' hb hs ht hc hm g l=>?_⟩;refine ⟨⟨by decide,by omega⟩,?_⟩;exact ⟨⟨by simp,.inr ⟨b,cap,cur,rfl,Nat.zero_le _,hb,Nat.zero_le _,hm,hs,by simp⟩⟩,g,λ y hy=>by simp [Value.ownBlock] at hy;omega⟩
 ·exact LN.nil (GB.refl _ _)
abbrev eG (xs:List (Value×List az)):List az:=(xs.map (·.2)).flatten
theorem EE {w:World} {vb:Nat} {xs:List (Value×List az)} (hvb:w.heap[vb]? = some (.cells (xs.map (·.1)).toArray 51)) (hx:∀ x∈xs,Fz w 70 7 x.1 x.2.length (x.2.map az.cells).flatten) (hl:(eG xs).length<=1000000) (hxl:xs.length<=100):af Tryz.prog 111 #[.slice (some ⟨vb,0,none⟩) xs.length xs.length] w (λ v w'=>LN 70 7 w w' v (eG xs).length ((eG xs).map az.cells).flatten):=by
 have hct:∀ k,(eG (xs.take k)).length<=(eG xs).length:=λ k=>by
  have:eG xs=eG (xs.take k)++eG (xs.drop k):=by unfold eG;rw [<- List.flatten_append,<- List.map_append,List.take_append_drop]
  rw [this,List.length_append];omega
 have hnx:∀ k x,xs[k]? = some x->eG (xs.take (k+1))=eG (xs.take k)++x.2:=λ k x h=>by
  unfold eG;rw [List.take_add_one,h];simp
 refine aj ah mixed Tryz.func111 rfl rfl ?_;refine ⟨λ n s wk=>∃ k:Nat,n=xs.length - k/\k<=xs.length/\s=[(0,.slice (some ⟨vb,0,none⟩) xs.length xs.length),(3,.int .i64 (eG (xs.take k)).length),(9,.slice (some ⟨vb,0,none⟩) xs.length xs.length),(10,.int .i64 xs.length),(11,.int .i64 k)]/\wk=w,⟨_,_,⟨0,rfl,Nat.zero_le _,rfl,rfl⟩,rfl,rfl,rfl,rfl,rfl,trivial⟩,?_⟩;rintro n s wk ⟨k,rfl,hk,rfl,rfl⟩;refine au (λ d=>?_) (λ d=>?_)
 ·have d1:k<xs.length:=by have:=of_decide_eq_true d;omega
  obtain ⟨⟨v,l⟩,hv⟩:∃ x,xs[k]? = some x:=⟨xs[k],by simp [d1]⟩;obtain ⟨a,c,e,_⟩:=hx _ (List.mem_of_getElem? hv);have e:v=.slice a l.length c:=e;subst e;have h1:=hct (k+1);have h2:=hnx k _ hv;rw [h2,List.length_append] at h1;refine ⟨⟨by omega,by omega⟩,_,_,hvb,.slice a l.length c,by show (xs.map (·.1)).toArray.toList[0+(k:Int).toNat*1]? = _;simp [hv],⟨by dsimp only at h1;omega,by dsimp only at h1;omega⟩,?_⟩;refine ⟨⟨by omega,by omega⟩,_,_,⟨k+1,rfl,by omega,rfl,rfl⟩,⟨rfl,?_,rfl,rfl,rfl,trivial⟩,by omega⟩;show some (Value.int .i64 _)=some (Value.int .i64 _);rw [h2,List.length_append];rfl
 ·have d1:k=xs.length:=by have:=of_decide_eq_false d;omega
  subst d1;rw [List.take_length];refine ⟨_,TN wk (n:=((eG xs).length:Int)) (by omega) (by omega),?_⟩;intro v w1 L;obtain ⟨va,vc,rfl⟩:=ae L.own;refine ⟨λ n s w2=>∃ (k:Nat) (x:Value),n=xs.length - k/\k<=xs.length/\s=[(6,x),(25,.slice (some ⟨vb,0,none⟩) xs.length xs.length),(26,.int .i64 xs.length),(27,.int .i64 k)]/\LN 70 7 wk w2 x (eG (xs.take k)).length ((eG (xs.take k)).map az.cells).flatten,⟨_,_,⟨0,_,rfl,Nat.zero_le _,rfl,L⟩,rfl,rfl,rfl,rfl,trivial⟩,?_⟩;clear L;rintro n s w2 ⟨k,x,rfl,hk,rfl,L⟩;obtain ⟨xa,xc,rfl⟩:=ae L.own;refine au (λ d=>?_) (λ d=>?_)
  ·have d1:k<xs.length:=by have:=of_decide_eq_true d;omega
   obtain ⟨⟨v,l⟩,hv⟩:∃ x,xs[k]? = some x:=⟨xs[k],by simp [d1]⟩;have hF:=hx _ (List.mem_of_getElem? hv);have h2:=hnx k _ hv;have h1:=hct (k+1);rw [h2,List.length_append] at h1;dsimp only at hF h1 h2;obtain ⟨a,c,rfl,hc,hlen,hd⟩:=hF;refine ⟨⟨by omega,by omega⟩,_,_,L.gb.get hvb nofun,.slice a l.length c,by show (xs.map (·.1)).toArray.toList[0+(k:Int).toNat*1]? = _;simp [hv],?_⟩;rcases hd with ⟨rfl,h0⟩ | ⟨b,off,cs,rfl,hb,hcut⟩
   ·rw [h0]
    have hl0:l=[]:=List.eq_nil_of_length_eq_zero h0;have hcp:(eG (xs.take k)).length<=xc:=by
     rcases L.own.2 with ⟨q,h0⟩ | ⟨_,_,_,q,_,_,h3,_⟩
     ·injection q with _ _ q;omega
     ·injection q with _ _ q;omega
    refine ⟨hcp,⟨by omega,by omega⟩,_,_,⟨k+1,.slice xa (eG (xs.take k)).length xc,rfl,by omega,rfl,?_⟩,⟨rfl,rfl,rfl,rfl,trivial⟩,by omega⟩;rw [h2,hl0,List.append_nil];exact L
   ·refine ⟨_,(l.map az.cells).flatten,L.own,⟨_,_,L.gb.get hb nofun,hcut,hlen,jd (λ _=>rfl) _⟩,by omega,λ v' w3 ho g n=>?_⟩
    have L3:=L.app ho g n;obtain ⟨Y6,Y7,rfl⟩:=ae L3.own;refine ⟨⟨by omega,by omega⟩,_,_,⟨k+1,_,rfl,by omega,rfl,?_⟩,⟨rfl,rfl,rfl,rfl,trivial⟩,by omega⟩;rw [h2,List.length_append,List.map_append,List.flatten_append];exact L3
  ·have d1:k=xs.length:=by have:=of_decide_eq_false d;omega
   subst d1;have L':LN 70 7 wk w2 (.slice xa (eG (xs.take xs.length)).length xc) (eG xs).length ((eG xs).map az.cells).flatten:=by
    rw [List.take_length] at L |-;exact L
   exact L'
theorem WW (w:World) (x:az):af Tryz.prog 110 #[.agg x.cells.toArray] w (λ v w'=>v=.int .u64 x.key/\GB none w w'):=by
 refine aj ah mixed Tryz.func110 rfl rfl ?_;exact λ w1 b1 m1 g1 l1=>⟨_,_,m1,_,rfl,rfl,g1⟩
theorem GJ {w:World} {v:Value} {l:List az} (h:Fz w 70 7 v l.length (l.map az.cells).flatten) (hl:l.length<=1000000) (lo hi:Int):af Tryz.prog 109 #[v,.func (.func 110) #[] #[],.int .u64 lo,.int .u64 hi] w (λ x w'=>∃ v1 v2 v3,x=.tuple #[v1,v2,v3]/\LN 70 7 w w' v1 (sB (λ x:az=>x.key) lo l).length ((sB (λ x:az=>x.key) lo l).map az.cells).flatten/\LN 70 7 w w' v2 (sW (λ x:az=>x.key) lo hi l).length ((sW (λ x:az=>x.key) lo hi l).map az.cells).flatten/\LN 70 7 w w' v3 (sA (λ x:az=>x.key) lo hi l).length ((sA (λ x:az=>x.key) lo hi l).map az.cells).flatten/\(∀ g,v2.ownBlock=some g->v1.ownBlock≠some g/\v3.ownBlock≠some g)):=by
 obtain ⟨a,c,rfl,hc,hlen,hv⟩:=h;refine aj ah mixed Tryz.func109 rfl rfl ?_;refine ⟨λ n s wk=>∃ (i:Nat) (v1 v2 v3:Value),n=l.length - i/\i<=l.length/\s=[(1,.func (.func 110) #[] #[]),(2,.int .u64 lo),(3,.int .u64 hi),(8,v1),(9,v2),(10,v3),(14,.slice a l.length c),(15,.int .i64 l.length),(16,.int .i64 i)]/\LN 70 7 w wk v1 (sB (λ x:az=>x.key) lo (l.take i)).length ((sB (λ x:az=>x.key) lo (l.take i)).map az.cells).flatten/\LN 70 7 w wk v2 (sW (λ x:az=>x.key) lo hi (l.take i)).length ((sW (λ x:az=>x.key) lo hi (l.take i)).map az.cells).flatten/\LN 70 7 w wk v3 (sA (λ x:az=>x.key) lo hi (l.take i)).length ((sA (λ x:az=>x.key) lo hi (l.take i)).map az.cells).flatten/\(∀ g,v1.ownBlock=some g->v2.ownBlock≠some g/\v3.ownBlock≠some g)/\(∀ g,v2.ownBlock=some g->v3.ownBlock≠some g),⟨_,_,⟨0,_,_,_,rfl,Nat.zero_le _,rfl,LN.nil (GB.refl _ _),LN.nil (GB.refl _ _),LN.nil (GB.refl _ _),nofun,nofun⟩,rfl,rfl,rfl,rfl,rfl,rfl,rfl,rfl,rfl,trivial⟩,?_⟩;rintro n s wk ⟨i,v1,v2,v3,rfl,hi',rfl,L1,L2,L3,s1,s2⟩;obtain ⟨a1,c1,rfl⟩:=ae L1.own;obtain ⟨a2,c2,rfl⟩:=ae L2.own;obtain ⟨a3,c3,rfl⟩:=ae L3.own;refine au (λ d=>?_) (λ d=>?_)
 ·have d1:i<l.length:=by have:=of_decide_eq_true d;omega
  rcases hv with ⟨_,hz⟩ | ⟨b,off,cs,rfl,hb,hcut⟩
  ·omega
  obtain ⟨y,hy⟩:∃ y,l[i]? = some y:=⟨l[i],by simp [d1]⟩;have ht:l.take (i+1)=l.take i++[y]:=by rw [List.take_add_one,hy];rfl
  have hB:sB (λ x:az=>x.key) lo (l.take (i+1))=sB (λ x:az=>x.key) lo (l.take i)++(if y.key<lo then [y] else []):=by unfold sB;rw [ht,List.filter_append];by_cases h:y.key<lo <;> simp [h]
  have hW:sW (λ x:az=>x.key) lo hi (l.take (i+1))=sW (λ x:az=>x.key) lo hi (l.take i)++(if y.key<lo then [] else if hi<y.key then [] else [y]):=by unfold sW;rw [ht,List.filter_append];by_cases h:y.key<lo <;> by_cases h':hi<y.key <;> simp [h,h']
  have hA:sA (λ x:az=>x.key) lo hi (l.take (i+1))=sA (λ x:az=>x.key) lo hi (l.take i)++(if y.key<lo then [] else if hi<y.key then [y] else []):=by unfold sA;rw [ht,List.filter_append];by_cases h:y.key<lo <;> by_cases h':hi<y.key <;> simp [h,h']
  have lB:(sB (λ x:az=>x.key) lo (l.take i)).length<=(l.take i).length:=List.length_filter_le _ _;have lW:(sW (λ x:az=>x.key) lo hi (l.take i)).length<=(l.take i).length:=List.length_filter_le _ _;have lA:(sA (λ x:az=>x.key) lo hi (l.take i)).length<=(l.take i).length:=List.length_filter_le _ _;rw [List.length_take] at lB lW lA;refine ⟨⟨by omega,by omega⟩,_,_,L1.gb.get hb nofun,y.cells,kD (f:=az.cells) (λ _=>rfl) hy hcut,rfl,λ w2 b2 m2 g2 l2=>⟨_,_,_,m2,rfl,rfl,λ w3 m3 g3=>?_⟩⟩;have G3:=g2.new g3 l2;refine ⟨_,_,m3,y.cells,rfl,rfl,_,WW w3 y,?_⟩;rintro _ w4 ⟨rfl,g4⟩;have m4:=g4.get m3 nofun;replace L1:=(L1.ax G3).ax g4;replace L2:=(L2.ax G3).ax g4;replace L3:=(L3.ax G3).ax g4;clear G3 g2 g3 m2 m3;refine au (λ e=>?_) (λ e=>?_)
  ·have e1:=of_decide_eq_true e
   rw [if_pos e1] at hB hW hA;rw [List.append_nil] at hW hA;refine ⟨_,_,m4,y.cells,rfl,rfl,λ w5 b5 m5 g5 l5=>?_⟩;refine ⟨_,y.cells,(L1.ax g5).own,⟨_,_,m5,rfl,rfl,rfl⟩,by omega,λ v' w6 ho g6 n6=>?_⟩;have P:=(L1.ax g5).app ho g6 n6;obtain ⟨a1',c1',rfl⟩:=ae P.own;obtain ⟨K2,q2⟩:=LN.two (L1.ax g5) (L2.ax g5) g6 n6 (λ g hg=>(s1 g hg).1);obtain ⟨K3,q3⟩:=LN.two (L1.ax g5) (L3.ax g5) g6 n6 (λ g hg=>(s1 g hg).2);refine ⟨⟨by omega,by omega⟩,_,_,⟨i+1,.slice a1' _ c1',_,_,rfl,by omega,rfl,?_,?_,?_,λ g hg=>⟨q2 g hg,q3 g hg⟩,s2⟩,⟨rfl,rfl,rfl,rfl,rfl,rfl,rfl,rfl,rfl,trivial⟩,by omega⟩
   ·rw [hB,List.length_append,List.map_append,List.flatten_append];simpa using P
   ·rw [hW];exact K2
   ·rw [hA];exact K3
  ·have e1:=of_decide_eq_false e
   rw [if_neg e1] at hB hW hA;rw [List.append_nil] at hB;refine au (λ q=>?_) (λ q=>?_)
   ·have q1:hi<y.key:=of_decide_eq_true q
    rw [if_pos q1] at hW hA;rw [List.append_nil] at hW;refine ⟨_,_,m4,y.cells,rfl,rfl,λ w5 b5 m5 g5 l5=>?_⟩;refine ⟨_,y.cells,(L3.ax g5).own,⟨_,_,m5,rfl,rfl,rfl⟩,by omega,λ v' w6 ho g6 n6=>?_⟩;have P:=(L3.ax g5).app ho g6 n6;obtain ⟨a3',c3',rfl⟩:=ae P.own;obtain ⟨K1,q1⟩:=LN.two (L3.ax g5) (L1.ax g5) g6 n6 (λ g hg he=>(s1 g he).2 hg);obtain ⟨K2,q2⟩:=LN.two (L3.ax g5) (L2.ax g5) g6 n6 (λ g hg he=>s2 g he hg);refine ⟨⟨by omega,by omega⟩,_,_,⟨i+1,_,_,.slice a3' _ c3',rfl,by omega,rfl,?_,?_,?_,λ g hg=>⟨(s1 g hg).1,λ he=>q1 g he hg⟩,λ g hg he=>q2 g he hg⟩,⟨rfl,rfl,rfl,rfl,rfl,rfl,rfl,rfl,rfl,trivial⟩,by omega⟩
    ·rw [hB];exact K1
    ·rw [hW];exact K2
    ·rw [hA,List.length_append,List.map_append,List.flatten_append];simpa using P
   ·have q1:¬ hi<y.key:=of_decide_eq_false q
    rw [if_neg q1] at hW hA;rw [List.append_nil] at hA;refine ⟨_,_,m4,y.cells,rfl,rfl,λ w5 b5 m5 g5 l5=>?_⟩;refine ⟨_,y.cells,(L2.ax g5).own,⟨_,_,m5,rfl,rfl,rfl⟩,by omega,λ v' w6 ho g6 n6=>?_⟩;have P:=(L2.ax g5).app ho g6 n6;obtain ⟨Zr,c2',rfl⟩:=ae P.own;obtain ⟨K1,q1⟩:=LN.two (L2.ax g5) (L1.ax g5) g6 n6 (λ g hg he=>(s1 g he).1 hg);obtain ⟨K3,q3⟩:=LN.two (L2.ax g5) (L3.ax g5) g6 n6 (λ g hg=>s2 g hg);refine ⟨⟨by omega,by omega⟩,_,_,⟨i+1,_,.slice Zr _ c2',_,rfl,by omega,rfl,?_,?_,?_,λ g hg=>⟨λ he=>q1 g he hg,(s1 g hg).2⟩,λ g hg=>q3 g hg⟩,⟨rfl,rfl,rfl,rfl,rfl,rfl,rfl,rfl,rfl,trivial⟩,by omega⟩
    ·rw [hB];exact K1
    ·rw [hW,List.length_append,List.map_append,List.flatten_append];simpa using P
    ·rw [hA];exact K3
 ·have d1:i=l.length:=by have:=of_decide_eq_false d;omega
  subst d1;have et:=List.take_length (l:=l);refine ⟨_,_,_,rfl,?_,?_,?_,λ g hg=>⟨λ he=>(s1 g he).1 hg,s2 g hg⟩⟩
  ·rw [et] at L1 |-;exact L1
  ·rw [et] at L2 |-;exact L2
  ·rw [et] at L3 |-;exact L3
end
end Go.Proofs.YtignemioillaiabGreat
