/- Maps of keys: Find, Give. -/
import Derived.Test.YtignemioillaiabGreatG31
namespace Go.Proofs.YtignemioillaiabGreat
set_option maxHeartbeats 8000000
set_option maxRecDepth 100000
section
open Go Go.Conc
theorem kD {α:Type} {f:α->List Value} {size:Nat} (hf:∀ x,(f x).length=size) {l:List α} {k:Nat} {x:α} (hx:l[k]? = some x) {cs:Array Value} {off:Nat} (hcut:aQ cs.toList off (l.length*size)=(l.map f).flatten):aQ cs.toList (off+(k:Int).toNat*size) size=f x:=by
 rw [Int.toNat_natCast];have h1:=jW hf l k x hx;have h2:(k+1)*size<=l.length*size:=Nat.mul_le_mul_right _ (List.getElem?_eq_some_iff.1 hx).1;rw [Nat.succ_mul] at h2;rw [List.flatMap_def,<- hcut,uk _ _ _ _ _ h2] at h1;exact h1
theorem b11 {x:Bool} (e:(x == true)=true):x=true:=by cases x <;> first | rfl | cases e
theorem b10 {x:Bool} (e:(x == true)=false):x=false:=by cases x <;> first | rfl | cases e
theorem b01 {x:Bool} (e:(x == false)=true):x=false:=by cases x <;> first | rfl | cases e
theorem b00 {x:Bool} (e:(x == false)=false):x=true:=by cases x <;> first | rfl | cases e
def zi (w:World) (v:Value) (m:List Pc):Prop:=Fz w 153 2 v m.length (m.map Pc.cells).flatten
structure LN (e size:Nat) (w0 w:World) (v:Value) (n:Nat) (xs:List Value):Prop where
 own:w.ownsRow 0 e size v n xs
 gb:GB none w0 w
 new:∀ g,v.ownBlock=some g->w0.heap.size<=g
section
variable {e size:Nat} {w0 w w':World} {v v':Value} {n:Nat} {xs:List Value}
theorem LN.nil (g:GB none w0 w):LN e size w0 w (.slice none 0 0) 0 []:=⟨eX _ _ _,g,nofun⟩
theorem LN.ax (h:LN e size w0 w v n xs) (g:GB none w w'):LN e size w0 w' v n xs:=⟨aA h.own λ x hx=>by obtain ⟨c,hc⟩:=aD h.own hx;exact g.block x (ag hc) nofun,h.gb.trans g,h.new⟩
theorem LN.app (h:LN e size w0 w v n xs) {m:Nat} {ys:List Value} (ho:w'.ownsRow 0 e size v' m ys) (g:GB v.ownBlock w w') (k:∀ g,v'.ownBlock=some g->v.ownBlock=some g\/w.heap.size<=g):LN e size w0 w' v' m ys:=⟨ho,h.gb.ownB g h.new,λ x hx=>(k x hx).elim (h.new x) λ e=>Nat.le_trans h.gb.size e⟩
theorem LN.fz (h:LN e size w0 w v n xs):Fz w e size v n xs:=lG h.own
end
abbrev PN (w0 w:World) (v:Value) (L:List Pc):Prop:=LN 153 2 w0 w v L.length (L.map Pc.cells).flatten
theorem Tz {w:World} {v:Value} {L:List Pc} {y:Pc} (h:w.ownsRow 0 153 2 v L.length (L.map Pc.cells).flatten) (hy:L.getLast? = some y):∃ g cap cur,v=.slice (some ⟨g,0,none⟩) L.length cap/\w.heap[g]? = some (.cells cur 153)/\aQ cur.toList ((L.length - 1)*2) 2=y.cells:=by
 have hne:L≠[]:=λ e=>by rw [e] at hy;cases hy
 have hpos:0<L.length:=List.length_pos_iff.2 hne;obtain ⟨gb,cap,cur,ev,aR,htk,hsz,hcap⟩:=jD h (by omega);refine ⟨gb,cap,cur,ev,aR,?_⟩;have hx:L[L.length - 1]? = some y:=by rw [<- hy,List.getLast?_eq_getElem?]
 have h1:=jW (f:=Pc.cells) (size:=2) (λ _=>rfl) L _ y hx;rw [List.flatMap_def,<- htk] at h1;rw [<- h1];unfold aQ;rw [List.drop_take,List.take_take,Nat.min_eq_left (by omega)]
section
variable {w0 w:World} {v:Value} {L:List Pc}
theorem Df (h:PN w0 w v L) (p:Pc) (hl:L.length<=100000):af Tryz.prog 167 #[v,.agg p.cells.toArray] w (λ v' w'=>PN w0 w' v' (join L p)):=by
 obtain ⟨va,vc,rfl⟩:=ae h.own;refine aj ah mixed Tryz.func167 rfl rfl ?_;refine λ w1 b1 m1 g1 l1=>?_
 have h1:=h.ax g1;have app:∀ (w2:World) (b2:Nat),w2.heap[b2]? = some (.cells p.cells.toArray 153)->GB none w1 w2->∃ xs news,w2.ownsRow 0 153 2 (.slice va L.length vc) L.length xs/\I5 w2 2 1 news (some ⟨b2,0,none⟩)/\L.length+1<=1000000000/\∀ v' w',w'.ownsRow 0 153 2 v' (L.length+1) (xs++news)->GB (Value.slice va L.length vc).ownBlock w2 w'->Ll va L.length vc 1 w2 v'->PN w0 w' v' (L++[p]):=λ w2 b2 m2 g2=>by
  refine ⟨_,p.cells,(h1.ax g2).own,⟨_,_,m2,rfl,rfl,rfl⟩,by omega,λ v' w' ho g n=>?_⟩;have:=(h1.ax g2).app ho g n;show LN _ _ _ _ _ _ _;rw [List.length_append,List.map_append,List.flatten_append];simpa using this
 cases hy:L.getLast? with
 | none =>
  have hL:L=[]:=List.getLast?_eq_none_iff.1 hy;subst hL;refine ⟨by kernel_rfl,?_⟩;refine ⟨_,_,m1,p.cells,rfl,rfl,λ w2 b2 m2 g2 l2=>?_⟩;exact app w2 b2 m2 g2
 | some y =>
  obtain ⟨g,cap,cur,ev,aR,hcut⟩:=Tz h1.own hy;injection ev with ea _ ec;subst ea ec;have hpos:0<L.length:=List.length_pos_iff.2 λ e=>by rw [e] at hy;cases hy
  refine ⟨by kernel_rfl,au (λ e=>?_) (λ e=>?_)⟩
  ·refine ⟨⟨by omega,by omega⟩,⟨by omega,by omega⟩,_,_,aR,.int .u8 y.g,?_,_,_,m1,_,rfl,au (λ q=>?_) (λ q=>?_)⟩
   ·show cur.toList[0+((L.length:Int) - 1).toNat*2+1]? = _
    rw [Nat.zero_add,show ((L.length:Int) - 1).toNat=L.length - 1 by omega];exact iy hcut rfl (by decide)
   ·have q1:y.g=p.g:=by simpa using q
    have hj:join L p=L:=by unfold join;rw [hy];exact if_pos q1
    show PN _ _ _ _;rw [hj];exact h1
   ·have q1:¬ y.g=p.g:=by simpa using q
    have hj:join L p=L++[p]:=by unfold join;rw [hy];exact if_neg q1
    rw [hj];refine ⟨_,_,m1,p.cells,rfl,rfl,λ w2 b2 m2 g2 l2=>?_⟩;exact app w2 b2 m2 g2
  ·have:=of_decide_eq_false (b10 e)
   omega
end
theorem AA {m:List Pc} (h:kU m=true):m.length<=1000:=by
 unfold kU at h;simp only [Bool.and_eq_true,decide_eq_true_eq] at h;exact h.1.1.2
section
variable {w:World} {v:Value} {m:List Pc}
theorem GA (hv:zi w v m) {p0:Pc} (h0:m[0]? = some p0) (JD:m.length<=1000000) (key:Int):af Tryz.prog 65 #[v,.int .u64 key] w (λ x w'=>x=.int .u8 (own p0.g m key)/\GB none w w'):=by
 obtain ⟨a,c,rfl,hc,hl,hv⟩:=hv;have hlen:=(List.getElem?_eq_some_iff.1 h0).1;rcases hv with ⟨_,hz⟩ | ⟨b,off,cs,rfl,hb,hcut⟩
 ·omega
 refine aj ah mixed Tryz.func65 rfl rfl ?_;refine ⟨⟨by omega,by omega⟩,_,_,hb,.int .u8 p0.g,iy (o:=off+0*2) (kD (f:=Pc.cells) (k:=0) (λ _=>rfl) h0 hcut) rfl (by decide),?_⟩;refine ⟨λ n s wk=>∃ (i:Nat) (gi:Int),n=m.length - i/\i<=m.length/\s=[(1,.int .u64 key),(5,.int .u8 gi),(12,.slice (some ⟨b,off,none⟩) m.length c),(13,.int .i64 m.length),(14,.int .i64 i)]/\own p0.g m key=own gi (m.drop i) key/\GB none w wk,⟨_,_,⟨0,_,rfl,Nat.zero_le _,rfl,rfl,GB.refl _ _⟩,rfl,rfl,rfl,rfl,rfl,trivial⟩,?_⟩;rintro n s wk ⟨i,gi,rfl,hi,rfl,ho,gk⟩;refine au (λ d=>?_) (λ d=>?_)
 ·have d1:i<m.length:=by have:=of_decide_eq_true d;omega
  obtain ⟨x,hx⟩:∃ x,m[i]? = some x:=⟨m[i],by simp [d1]⟩;rw [List.drop_eq_getElem_cons d1,show m[i]=x from (List.getElem?_eq_some_iff.1 hx).2,own] at ho;refine ⟨⟨by omega,by omega⟩,_,_,gk.get hb nofun,x.cells,kD (f:=Pc.cells) (λ _=>rfl) hx hcut,rfl,λ w2 b2 m2 g2 l2=>⟨_,_,_,m2,rfl,rfl,λ w3 m3 g3=>?_⟩⟩;have G:=gk.trans (g2.new g3 l2);refine ⟨_,_,m3,_,rfl,au (λ e=>?_) (λ e=>?_)⟩
  ·have e1:¬ x.f<=key:=by have:=of_decide_eq_true e;omega
   rw [if_neg e1] at ho;exact ⟨congrArg (Value.int .u8) ho.symm,G⟩
  ·have e1:x.f<=key:=by have:=of_decide_eq_false e;omega
   rw [if_pos e1] at ho;exact ⟨_,_,m3,_,rfl,⟨by omega,by omega⟩,_,_,⟨i+1,_,rfl,by omega,rfl,ho,G⟩,⟨rfl,rfl,rfl,rfl,rfl,trivial⟩,by omega⟩
 ·have d1:i=m.length:=by have:=of_decide_eq_false d;omega
  rw [d1,List.drop_length] at ho;exact ⟨congrArg (Value.int .u8) ho.symm,gk⟩
theorem JE (hv:zi w v m) (hm:kU m=true):af Tryz.prog 64 #[v] w (λ x w'=>x=.bool true/\GB none w w'):=by
 obtain ⟨a,c,rfl,hc,hl,hv⟩:=hv;unfold kU at hm;simp only [Bool.and_eq_true,decide_eq_true_eq] at hm;obtain ⟨⟨⟨hlen,afA⟩,hz⟩,hall⟩:=hm;obtain ⟨p0,h0⟩:∃ x,m[0]? = some x:=⟨m[0],by simp [hlen]⟩;rw [h0] at hz;have hz:p0.f=0:=by simpa using hz
 have hat:∀ i,i<m.length->HY m i=true:=λ i hi=>List.all_eq_true.1 hall i (List.mem_range.2 hi)
 rcases hv with ⟨_,hz⟩ | ⟨b,off,cs,rfl,hb,hcut⟩
 ·omega
 refine aj ah mixed Tryz.func64 rfl rfl ?_;refine au (λ e=>?_) (λ e=>?_)
 ·refine au (λ e=>?_) (λ e=>?_)
  ·refine ⟨⟨by omega,by omega⟩,_,_,hb,.int .u64 p0.f,iy (o:=off+0*2) (kD (f:=Pc.cells) (k:=0) (λ _=>rfl) h0 hcut) rfl (by decide),?_⟩
   refine au (λ e=>absurd hz (by simpa using e)) (λ e=>?_);refine ⟨λ n s wk=>∃ i:Nat,n=m.length - i/\i<=m.length/\s=[(0,.slice (some ⟨b,off,none⟩) m.length c),(20,.slice (some ⟨b,off,none⟩) m.length c),(21,.int .i64 m.length),(22,.int .i64 i)]/\GB none w wk,⟨_,_,⟨0,rfl,Nat.zero_le _,rfl,GB.refl _ _⟩,rfl,rfl,rfl,rfl,trivial⟩,?_⟩;rintro n s wk ⟨i,rfl,hi,rfl,gk⟩;refine au (λ d=>?_) (λ d=>?_)
   ·have d1:i<m.length:=by have:=of_decide_eq_true d;omega
    obtain ⟨x,hx⟩:∃ x,m[i]? = some x:=⟨m[i],by simp [d1]⟩;have hi':=hat i d1;unfold HY at hi';rw [hx] at hi';simp only [Bool.and_eq_true,decide_eq_true_eq] at hi';refine ⟨⟨by omega,by omega⟩,_,_,gk.get hb nofun,x.cells,kD (f:=Pc.cells) (λ _=>rfl) hx hcut,rfl,λ w2 b2 m2 g2 l2=>⟨_,_,_,m2,rfl,rfl,λ w3 m3 g3=>?_⟩⟩;have G:=gk.trans (g2.new g3 l2);have hb3:=G.get hb nofun;refine ⟨_,_,m3,_,rfl,au (λ e=>?_) (λ e=>?_)⟩
    ·have:=of_decide_eq_true e
     omega
    refine ⟨by kernel_rfl,au (λ e=>?_) (λ e=>?_)⟩
    ·obtain ⟨j,rfl⟩:∃ j,i=j+1:=⟨i - 1,by have:=of_decide_eq_true (b11 e);omega⟩
     obtain ⟨y,hy⟩:∃ y,m[j]? = some y:=⟨m[j]'(by omega),by simp [show j<m.length by omega]⟩;have Y5:=kD (f:=Pc.cells) (λ _=>rfl) hy hcut;rw [Int.toNat_natCast] at Y5;have ej:(((j+1:Nat):Int) - 1).toNat=j:=by omega
     have hxy:y.f<x.f/\¬ y.g=x.g:=by
      have:=hi'.2;rw [Nat.add_sub_cancel,hy] at this;simpa using this
     refine ⟨_,_,m3,_,rfl,⟨by omega,by omega⟩,⟨by omega,by omega⟩,_,_,hb3,.int .u64 y.f,by show cs.toList[off+(((j+1:Nat):Int) - 1).toNat*2+0]? = _;rw [ej];exact iy Y5 rfl (by decide),au (λ q=>?_) (λ q=>?_)⟩
     ·refine ⟨_,_,m3,_,rfl,⟨by omega,by omega⟩,⟨by omega,by omega⟩,_,_,hb3,.int .u8 y.g,by show cs.toList[off+(((j+1:Nat):Int) - 1).toNat*2+1]? = _;rw [ej];exact iy Y5 rfl (by decide),au (λ r=>?_) (λ r=>?_)⟩
      ·exact absurd (eq_of_beq r).symm hxy.2
      ·exact ⟨⟨by omega,by omega⟩,_,_,⟨j+2,rfl,by omega,rfl,G⟩,⟨rfl,rfl,rfl,rfl,trivial⟩,by omega⟩
     ·have:=of_decide_eq_true (b00 q)
      omega
    ·exact ⟨⟨by omega,by omega⟩,_,_,⟨i+1,rfl,by omega,rfl,G⟩,⟨rfl,rfl,rfl,rfl,trivial⟩,by omega⟩
   ·exact ⟨rfl,gk⟩
  ·have:=of_decide_eq_true (b00 e)
   omega
 ·have:=eq_of_beq (b00 e)
  omega
theorem Mg (hv:zi w v m) (hm:kU m=true) (hc:Can m) {key:Int} (hk:0<=key):af Tryz.prog 42 #[v,.int .u64 key] w (λ x w'=>x=.tuple #[.int .u8 (own 0 m key),.int .i64 0]/\GB none w w'):=by
 refine aj ah mixed Tryz.func42 rfl rfl ?_;refine ⟨_,JE hv hm,?_⟩;rintro _ w1 ⟨rfl,g1⟩;obtain ⟨p0,h0⟩:∃ x,m[0]? = some x:=by cases m with
  | nil=>exact hc.elim
  | cons p m=>exact ⟨p,rfl⟩
 refine ⟨_,GA (hv.kz g1.kz (by decide)) h0 (by have:=AA hm;omega) key,?_⟩;rintro _ w2 ⟨rfl,g2⟩;exact ⟨congrArg (λ z=>Value.tuple #[.int .u8 z,.int .i64 0]) (Lv hc key hk _ _),g1.trans g2⟩
end
section
variable {w0 w:World} {v lv:Value} {m L:List Pc}
theorem Qj (hv:zi w v m) (JD:m.length<=1000) (lo:Int):af Tryz.prog 168 #[v,.int .u64 lo] w (λ x w'=>PN w w' x (m.filter λ p=>decide (p.f<lo))):=by
 obtain ⟨a,c,rfl,hc,hl,hv⟩:=hv;refine aj ah mixed Tryz.func168 rfl rfl ?_;refine ⟨λ n s wk=>∃ (i:Nat) (x:Value),n=m.length - i/\i<=m.length/\s=[(1,.int .u64 lo),(5,x),(8,.slice a m.length c),(9,.int .i64 m.length),(10,.int .i64 i)]/\PN w wk x ((m.take i).filter λ p=>decide (p.f<lo)),⟨_,_,⟨0,_,rfl,Nat.zero_le _,rfl,LN.nil (GB.refl _ _)⟩,rfl,rfl,rfl,rfl,rfl,trivial⟩,?_⟩;rintro n s wk ⟨i,x,rfl,hi,rfl,P⟩;refine au (λ d=>?_) (λ d=>?_)
 ·have d1:i<m.length:=by have:=of_decide_eq_true d;omega
  rcases hv with ⟨_,hz⟩ | ⟨b,off,cs,rfl,hb,hcut⟩
  ·omega
  obtain ⟨y,hy⟩:∃ y,m[i]? = some y:=⟨m[i],by simp [d1]⟩;have ht:m.take (i+1)=m.take i++[y]:=by rw [List.take_add_one,hy];rfl
  obtain ⟨xa,xc,rfl⟩:=ae P.own;refine ⟨⟨by omega,by omega⟩,_,_,P.gb.get hb nofun,y.cells,kD (f:=Pc.cells) (λ _=>rfl) hy hcut,rfl,λ w2 b2 m2 g2 l2=>⟨_,_,_,m2,rfl,rfl,λ w3 m3 g3=>?_⟩⟩;have P3:=P.ax (g2.new g3 l2);refine ⟨_,_,m3,_,rfl,au (λ e=>?_) (λ e=>?_)⟩
  ·have e1:=of_decide_eq_true e
   have ef:(m.take (i+1)).filter (λ p=>decide (p.f<lo))=(m.take i).filter (λ p=>decide (p.f<lo))++[y]:=by rw [ht,List.filter_append];simp [e1]
   refine ⟨_,_,m3,y.cells,rfl,rfl,λ w4 b4 m4 g4 l4=>?_⟩;refine ⟨_,y.cells,(P3.ax g4).own,⟨_,_,m4,rfl,rfl,rfl⟩,by have:=List.length_filter_le (λ p:Pc=>decide (p.f<lo)) (m.take i);rw [List.length_take] at this;omega,λ v' w5 ho g n=>?_⟩;have P5:=(P3.ax g4).app ho g n;obtain ⟨Y6,Y7,rfl⟩:=ae P5.own;refine ⟨⟨by omega,by omega⟩,_,_,⟨i+1,_,rfl,by omega,rfl,?_⟩,⟨rfl,rfl,rfl,rfl,rfl,trivial⟩,by omega⟩;show LN _ _ _ _ _ _ _;rw [ef,List.length_append,List.map_append,List.flatten_append];simpa using P5
  ·have e1:=of_decide_eq_false e
   have ef:(m.take (i+1)).filter (λ p=>decide (p.f<lo))=(m.take i).filter (λ p=>decide (p.f<lo)):=by rw [ht,List.filter_append];simp;omega
   exact ⟨⟨by omega,by omega⟩,_,_,⟨i+1,_,rfl,by omega,rfl,by show LN _ _ _ _ _ _ _;rw [ef];exact P3⟩,⟨rfl,rfl,rfl,rfl,rfl,trivial⟩,by omega⟩
 ·have d1:i=m.length:=by have:=of_decide_eq_false d;omega
  rw [d1,List.take_length] at P;exact P
theorem Qk (hv:zi w0 v m) (JD:m.length<=1000) (hm:kU m=true) (AB:Can m) (P:PN w0 w lv L) (hL:L.length<=2000) {hi:Int} (h0:0<=hi) (h1:hi<=18446744073709551615):af Tryz.prog 166 #[v,.int .u64 hi,lv] w (λ x w'=>PN w0 w' x (NQ m hi L)):=by
 have hv0:=hv;obtain ⟨a,c,rfl,hc,hl,hv⟩:=hv;obtain ⟨la,lc,rfl⟩:=ae P.own;refine aj ah mixed Tryz.func166 rfl rfl ?_;unfold NQ;refine au (λ d=>?_) (λ d=>?_)
 ·rw [if_pos (eq_of_beq d)]
  exact P
 have d1:¬ hi=18446744073709551615:=by simpa using d
 rw [if_neg d1];obtain ⟨p0,hp0⟩:∃ x,m[0]? = some x:=by cases m with
  | nil=>exact AB.elim
  | cons p m=>exact ⟨p,rfl⟩
 refine ⟨⟨by omega,by omega⟩,⟨by omega,by omega⟩,_,GA (hv0.kz P.gb.kz (by decide)) hp0 (by omega) (hi+1),?_⟩;rintro _ w1 ⟨rfl,g1⟩;rw [show own p0.g m (hi+1)=own 0 m (hi+1) from Lv AB _ (by omega) _ _];refine ⟨_,Df (P.ax g1) ⟨hi+1,own 0 m (hi+1)⟩ (by omega),?_⟩;intro x w2 P2;have hjl:=CO L ⟨hi+1,own 0 m (hi+1)⟩;generalize join L ⟨hi+1,own 0 m (hi+1)⟩=J at P2 hjl |-;obtain ⟨xa,xc,rfl⟩:=ae P2.own;refine ⟨λ n s wk=>∃ (i:Nat) (x:Value),n=m.length - i/\i<=m.length/\s=[(1,.int .u64 hi),(2,x),(21,.slice a m.length c),(22,.int .i64 m.length),(23,.int .i64 i)]/\PN w0 wk x ((m.take i).foldl (fO hi) J),⟨_,_,⟨0,_,rfl,Nat.zero_le _,rfl,P2⟩,rfl,rfl,rfl,rfl,rfl,trivial⟩,?_⟩;clear P2;rintro n s wk ⟨i,x,rfl,hi',rfl,P⟩;refine au (λ d=>?_) (λ d=>?_)
 ·have d1:i<m.length:=by have:=of_decide_eq_true d;omega
  rcases hv with ⟨_,hz⟩ | ⟨b,off,cs,rfl,hb,hcut⟩
  ·omega
  obtain ⟨y,hy⟩:∃ y,m[i]? = some y:=⟨m[i],by simp [d1]⟩;have ht:m.take (i+1)=m.take i++[y]:=by rw [List.take_add_one,hy];rfl
  have hbl:=We hi (m.take i) J;rw [List.length_take] at hbl;obtain ⟨xa,xc,rfl⟩:=ae P.own;refine ⟨⟨by omega,by omega⟩,_,_,P.gb.get hb nofun,y.cells,kD (f:=Pc.cells) (λ _=>rfl) hy hcut,rfl,λ w2 b2 m2 g2 l2=>⟨_,_,_,m2,rfl,rfl,λ w3 m3 g3=>?_⟩⟩;have P3:=P.ax (g2.new g3 l2);refine ⟨_,_,m3,_,rfl,au (λ e=>?_) (λ e=>?_)⟩
  ·have e1:=of_decide_eq_true e
   have ef:(m.take (i+1)).foldl (fO hi) J=join ((m.take i).foldl (fO hi) J) y:=by rw [ht,List.foldl_append];exact if_pos (by omega)
   refine ⟨_,_,m3,y.cells,rfl,rfl,_,Df P3 y (by omega),λ v' w5 P5=>?_⟩;obtain ⟨Y6,Y7,rfl⟩:=ae P5.own;exact ⟨⟨by omega,by omega⟩,_,_,⟨i+1,_,rfl,by omega,rfl,by rw [ef];exact P5⟩,⟨rfl,rfl,rfl,rfl,rfl,trivial⟩,by omega⟩
  ·have e1:=of_decide_eq_false e
   have ef:(m.take (i+1)).foldl (fO hi) J=(m.take i).foldl (fO hi) J:=by rw [ht,List.foldl_append];exact if_neg (by omega)
   exact ⟨⟨by omega,by omega⟩,_,_,⟨i+1,_,rfl,by omega,rfl,by rw [ef];exact P3⟩,⟨rfl,rfl,rfl,rfl,rfl,trivial⟩,by omega⟩
 ·have d1:i=m.length:=by have:=of_decide_eq_false d;omega
  rw [d1,List.take_length] at P;exact P
theorem Mh (hv:zi w v m) (hm:kU m=true) (AB:Can m) {lo hi g:Int} (h0:0<=lo) (h1:lo<=hi) (h2:hi<=18446744073709551615) (hg:g<4):af Tryz.prog 105 #[v,.int .u64 lo,.int .u64 hi,.int .u8 g] w (λ x w'=>∃ v' e,x=.tuple #[v',.int .i64 e]/\GB none w w'/\(((iF m lo hi g).length<=1000/\e=0/\PN w w' v' (iF m lo hi g))\/(1000<(iF m lo hi g).length/\e=3/\v'=.slice none 0 0))):=by
 have JD:=AA hm;have hv0:=hv;obtain ⟨a,c,rfl,hc,hl,hv⟩:=hv;refine aj ah mixed Tryz.func105 rfl rfl ?_;refine ⟨_,JE hv0 hm,?_⟩;rintro _ w1 ⟨rfl,g1⟩;refine au (λ e=>?_) (λ e=>?_)
 ·refine au (λ q=>?_) (λ q=>?_)
  ·have:=of_decide_eq_true q
   omega
  refine ⟨_,Qj (hv0.kz g1.kz (by decide)) JD lo,?_⟩;intro x w2 P;have hfl:=List.length_filter_le (λ p:Pc=>decide (p.f<lo)) m;refine ⟨_,Df P ⟨lo,g⟩ (by omega),?_⟩;intro x2 w3 P3;have hjl:=CO (m.filter λ p=>decide (p.f<lo)) ⟨lo,g⟩;refine ⟨_,Qk (hv0.kz g1.kz (by decide)) JD hm AB P3 (by omega) (by omega) h2,?_⟩;intro x4 w4 P4;have P5:PN w w4 x4 (iF m lo hi g):=⟨P4.own,g1.trans P4.gb,λ y hy=>Nat.le_trans g1.size (P4.new y hy)⟩;clear P P3 P4;generalize iF m lo hi g=G at P5 |-;obtain ⟨xa,xc,rfl⟩:=ae P5.own;refine au (λ q=>?_) (λ q=>?_)
  ·have:=of_decide_eq_true q
   exact ⟨_,_,rfl,P5.gb,.inr ⟨by omega,rfl,rfl⟩⟩
  ·have:=of_decide_eq_false q
   exact ⟨_,_,rfl,P5.gb,.inl ⟨by omega,rfl,P5⟩⟩
 ·have:=of_decide_eq_true (b00 e)
  omega
end
theorem GD {w:World} {v:Value} {n:Nat} {xs:List Value} (h:Fz w 139 2 v n xs) (ho:xs.all one=true) (hn:n<=1000000):af Tryz.prog 93 #[v] w (λ v' w'=>LN 139 2 w w' v' n xs):=by
 obtain ⟨a,c,rfl,hc,hl,hv⟩:=h;refine aj ah mixed Tryz.func93 rfl rfl ?_;rcases hv with ⟨rfl,rfl⟩ | ⟨b,off,cs,rfl,hb,hcut⟩
 ·obtain rfl:xs=[]:=List.eq_nil_of_length_eq_zero (by omega)
  exact ⟨Nat.le_refl _,LN.nil (GB.refl _ _)⟩
 ·refine ⟨_,xs,eX _ _ _,⟨_,_,hb,hcut,hl,ho⟩,by omega,λ v' w2 ho2 g2 n2=>?_⟩
  rw [Nat.zero_add] at ho2;exact (LN.nil (GB.refl _ _)).app ho2 g2 n2
theorem GH {w:World} {v:Value} {n:Nat} {xs:List Value} (h:Fz w 70 7 v n xs) (ho:xs.all one=true) (hn:n<=1000000):af Tryz.prog 95 #[v] w (λ v' w'=>LN 70 7 w w' v' n xs):=by
 obtain ⟨a,c,rfl,hc,hl,hv⟩:=h;refine aj ah mixed Tryz.func95 rfl rfl ?_;rcases hv with ⟨rfl,rfl⟩ | ⟨b,off,cs,rfl,hb,hcut⟩
 ·obtain rfl:xs=[]:=List.eq_nil_of_length_eq_zero (by omega)
  exact ⟨Nat.le_refl _,LN.nil (GB.refl _ _)⟩
 ·refine ⟨_,xs,eX _ _ _,⟨_,_,hb,hcut,hl,ho⟩,by omega,λ v' w2 ho2 g2 n2=>?_⟩
  rw [Nat.zero_add] at ho2;exact (LN.nil (GB.refl _ _)).app ho2 g2 n2
theorem TA {w:World} {v:Value} {n:Nat} {xs:List Value} (h:Fz w 153 2 v n xs) (ho:xs.all one=true) (hn:n<=1000000):af Tryz.prog 94 #[v] w (λ v' w'=>LN 153 2 w w' v' n xs):=by
 obtain ⟨a,c,rfl,hc,hl,hv⟩:=h;refine aj ah mixed Tryz.func94 rfl rfl ?_;rcases hv with ⟨rfl,rfl⟩ | ⟨b,off,cs,rfl,hb,hcut⟩
 ·obtain rfl:xs=[]:=List.eq_nil_of_length_eq_zero (by omega)
  exact ⟨Nat.le_refl _,LN.nil (GB.refl _ _)⟩
 ·refine ⟨_,xs,eX _ _ _,⟨_,_,hb,hcut,hl,ho⟩,by omega,λ v' w2 ho2 g2 n2=>?_⟩
  rw [Nat.zero_add] at ho2;exact (LN.nil (GB.refl _ _)).app ho2 g2 n2
theorem Ql {w:World} {v:Value} {n:Nat} {xs:List Value} (h:Fz w 59 1 v n xs) (ho:xs.all one=true) (hn:n<=1000000):af Tryz.prog 96 #[v] w (λ v' w'=>LN 59 1 w w' v' n xs):=by
 obtain ⟨a,c,rfl,hc,hl,hv⟩:=h;refine aj ah mixed Tryz.func96 rfl rfl ?_;rcases hv with ⟨rfl,rfl⟩ | ⟨b,off,cs,rfl,hb,hcut⟩
 ·obtain rfl:xs=[]:=List.eq_nil_of_length_eq_zero (by omega)
  exact ⟨Nat.le_refl _,LN.nil (GB.refl _ _)⟩
 ·refine ⟨_,xs,eX _ _ _,⟨_,_,hb,hcut,hl,ho⟩,by omega,λ v' w2 ho2 g2 n2=>?_⟩
  rw [Nat.zero_add] at ho2;exact (LN.nil (GB.refl _ _)).app ho2 g2 n2
theorem Og {w:World} {v:Value} {n:Nat} {xs:List Value} (h:Fz w 62 2 v n xs) (ho:xs.all one=true) (hn:n<=1000000):af Tryz.prog 97 #[v] w (λ v' w'=>LN 62 2 w w' v' n xs):=by
 obtain ⟨a,c,rfl,hc,hl,hv⟩:=h;refine aj ah mixed Tryz.func97 rfl rfl ?_;rcases hv with ⟨rfl,rfl⟩ | ⟨b,off,cs,rfl,hb,hcut⟩
 ·obtain rfl:xs=[]:=List.eq_nil_of_length_eq_zero (by omega)
  exact ⟨Nat.le_refl _,LN.nil (GB.refl _ _)⟩
 ·refine ⟨_,xs,eX _ _ _,⟨_,_,hb,hcut,hl,ho⟩,by omega,λ v' w2 ho2 g2 n2=>?_⟩
  rw [Nat.zero_add] at ho2;exact (LN.nil (GB.refl _ _)).app ho2 g2 n2
theorem Qm {w:World} {v:Value} {n:Nat} {xs:List Value} (h:Fz w 78 7 v n xs) (ho:xs.all one=true) (hn:n<=1000000):af Tryz.prog 152 #[v] w (λ v' w'=>LN 78 7 w w' v' n xs):=by
 obtain ⟨a,c,rfl,hc,hl,hv⟩:=h;refine aj ah mixed Tryz.func152 rfl rfl ?_;rcases hv with ⟨rfl,rfl⟩ | ⟨b,off,cs,rfl,hb,hcut⟩
 ·obtain rfl:xs=[]:=List.eq_nil_of_length_eq_zero (by omega)
  exact ⟨Nat.le_refl _,LN.nil (GB.refl _ _)⟩
 ·refine ⟨_,xs,eX _ _ _,⟨_,_,hb,hcut,hl,ho⟩,by omega,λ v' w2 ho2 g2 n2=>?_⟩
  rw [Nat.zero_add] at ho2;exact (LN.nil (GB.refl _ _)).app ho2 g2 n2
def dl (d:ByteArray):List Nat:=d.data.toList.map UInt8.toNat
theorem Qo (d:ByteArray):(dl d).length=d.size:=by simp [dl]
theorem H6 (d:ByteArray):∀ x∈dl d,x<256:=λ x hx=>by
 obtain ⟨y,_,rfl⟩:=List.mem_map.1 hx;exact y.toNat_lt
def be (l:List Nat):Nat:=l.foldl (λ n b=>n*256+b) 0
theorem Mi (l:List Nat) (x:Nat):be (l++[x])=be l*256+x:=by simp [be]
theorem Oh:∀ (n:Nat) (l:List Nat),l.length=n->(∀ x∈l,x<256)->be l<256 ^ n
 | 0,l,h,_=>by rw [List.length_eq_zero_iff.1 h];decide
 | n+1,l,h,hl=>by
  have hne:l≠[]:=λ e=>by rw [e] at h;cases h
  rw [<- List.dropLast_concat_getLast hne,Mi];have h1:=Oh n l.dropLast (by rw [List.length_dropLast];omega) λ x hx=>hl x ((List.dropLast_sublist l).subset hx)
  have h2:=hl _ (List.getLast_mem hne);rw [Nat.pow_succ];omega
def num (n:Nat) (l:List Nat):Nat×List Nat:=if l.length<n then (0,[]) else (be (l.take n),l.drop n)
theorem AJ {n:Nat} {l:List Nat} (h:l.length<n):num n l=(0,[]):=if_pos h
theorem yI {n:Nat} {l:List Nat} (h:¬ l.length<n):num n l=(be (l.take n),l.drop n):=if_neg h
theorem EA {n:Nat} {l:List Nat} (hl:∀ x∈l,x<256):(num n l).1<256 ^ n:=by
 by_cases h:l.length<n
 ·rw [AJ h];exact Nat.pow_pos (by decide)
 ·rw [yI h];exact Oh n _ (by rw [List.length_take];omega) λ x hx=>hl x (List.mem_of_mem_take hx)
theorem TB {n:Nat} {l:List Nat} (hl:∀ x∈l,x<256):∀ x∈(num n l).2,x<256:=by
 by_cases h:l.length<n
 ·rw [AJ h];intro x hx;cases hx
 ·rw [yI h];exact λ x hx=>hl x (List.mem_of_mem_drop hx)
theorem WH {a c:Nat} (ha:a*256+256<=18446744073709551616) (hc:c<256):IntKind.u64.wrap ((BitVec.ofInt IntKind.u64.bits (IntKind.u64.wrap ((a:Int)*2 ^ min (8:Int).toNat IntKind.u64.bits)) ||| BitVec.ofInt IntKind.u64.bits (c:Int)).toNat:Nat)=((a*256+c:Nat):Int):=by
 have e1:IntKind.u64.wrap ((a:Int)*2 ^ min (8:Int).toNat IntKind.u64.bits)=((a*256:Nat):Int):=by
  show ((a:Int)*2 ^ 8)%18446744073709551616=_;omega
 rw [e1,BitVec.ofInt_natCast,BitVec.ofInt_natCast,BitVec.toNat_or,BitVec.toNat_ofNat,BitVec.toNat_ofNat];have e2:a*256%2 ^ IntKind.u64.bits=a*256:=Nat.mod_eq_of_lt (by show _<18446744073709551616;omega);have e3:c%2 ^ IntKind.u64.bits=c:=Nat.mod_eq_of_lt (by show _<18446744073709551616;omega);rw [e2,e3];have e4:=Nat.shiftLeft_add_eq_or_of_lt (i:=8) (b:=c) (by omega) a;rw [Nat.shiftLeft_eq] at e4;rw [show a*256=a*2 ^ 8 from rfl,<- e4];show ((a*2 ^ 8+c:Nat):Int)%18446744073709551616=_;omega
def Src (w:World) (b:Nat) (l:List Nat):Prop:=∃ d,w.heap[b]? = some (.cells #[.string d] 146)/\dl d=l
theorem Src.keep {w w':World} {b:Nat} {l:List Nat} (h:Src w b l) (k:w'.heap[b]? = w.heap[b]?):Src w' b l:=by
 obtain ⟨d,h1,h2⟩:=h;exact ⟨d,k.trans h1,h2⟩
theorem Src.b {w:World} {b:Nat} {l:List Nat} (h:Src w b l):∀ x∈l,x<256:=by
 obtain ⟨d,_,rfl⟩:=h;exact H6 d
theorem Src.lt {w:World} {b:Nat} {l:List Nat} (h:Src w b l):b<w.heap.size:=by
 obtain ⟨d,h1,_⟩:=h;exact ag h1
theorem Oi (d:ByteArray) {k:Nat}:dl (d.extract k d.size)=(dl d).drop k:=by
 unfold dl;rw [ByteArray.data_extract,Array.toList_extract,List.extract_eq_drop_take',<- List.map_drop];congr 1
 rw [List.take_of_length_le];simp
theorem aaA {d:ByteArray} {i:Nat} (h:i<d.size):(dl d)[i]? = some (d.data.toList.getD i 0).toNat:=by
 have h':i<d.data.size:=h;unfold dl;rw [List.getElem?_map,List.getD_eq_getElem?_getD,Array.getElem?_toList,Array.getElem?_eq_getElem h'];rfl
section
variable {w:World} {b:Nat} {l:List Nat}
theorem AL (hs:Src w b l) (k:Nat) (hk:k<=8):af Tryz.prog 128 #[Ptt b,.int .i64 k] w (λ v w'=>v=.int .u64 (num k l).1/\Src w' b (num k l).2/\GB (some b) w w'):=by
 obtain ⟨d,hs,rfl⟩:=hs;have hd:=Qo d;refine aj ah mixed Tryz.func128 rfl rfl ?_;refine ⟨_,_,hs,_,rfl,au (λ c=>?_) (λ c=>?_)⟩
 ·have c1:(dl d).length<k:=by have:=of_decide_eq_true c;omega
  rw [AJ c1];exact ⟨_,_,_,hs,rfl,rfl,λ w1 m1 g1=>⟨rfl,⟨_,m1,rfl⟩,g1⟩⟩
 ·have c1:¬ (dl d).length<k:=by have:=of_decide_eq_false c;omega
  rw [yI c1];refine ⟨λ m s w1=>∃ i:Nat,m=k - i/\i<=k/\s=[(0,Ptt b),(1,.int .i64 k),(5,.int .u64 (be ((dl d).take i))),(17,.int .i64 k),(18,.int .i64 i)]/\w1=w,⟨_,_,⟨0,rfl,Nat.zero_le _,rfl,rfl⟩,rfl,rfl,rfl,rfl,rfl,trivial⟩,?_⟩;rintro m s w1 ⟨i,rfl,hi,rfl,rfl⟩;refine au (λ e=>?_) (λ e=>?_)
  ·have e1:i<k:=by have:=of_decide_eq_true e;omega
   have hx:=aaA (d:=d) (i:=i) (by omega);have hb:=H6 d _ (List.mem_of_getElem? hx);have hlt:=Oh i ((dl d).take i) (by rw [List.length_take];omega) λ x hx=>H6 d x (List.mem_of_mem_take hx)
   have h7:256 ^ i<=256 ^ 7:=Nat.pow_le_pow_right (by decide) (by omega);have h7':(256:Nat) ^ 7=72057594037927936:=by decide
   have aaB:be ((dl d).take (i+1))=be ((dl d).take i)*256+(d.data.toList.getD i 0).toNat:=by rw [List.take_add_one,hx];exact Mi _ _
   have hor:=WH (a:=be ((dl d).take i)) (c:=(d.data.toList.getD i 0).toNat) (by omega) hb;rw [<- aaB] at hor;have hb':(d.data.toList.getD (i:Int).toNat 0).toNat<256:=hb;refine ⟨by decide,_,_,hs,_,rfl,⟨by omega,by omega⟩,?_⟩;refine .inl ⟨⟨by omega,by omega⟩,?_⟩;refine ⟨⟨by omega,by omega⟩,_,_,⟨i+1,rfl,by omega,rfl,rfl⟩,⟨rfl,rfl,?_,rfl,rfl,trivial⟩,by omega⟩;exact congrArg (λ z=>some (Value.int .u64 z)) hor
  ·have e1:i=k:=by have:=of_decide_eq_false e;omega
   subst e1;refine ⟨_,_,hs,_,rfl,⟨by omega,by omega⟩,_,_,_,hs,rfl,rfl,λ w2 m2 g2=>⟨rfl,⟨_,m2,?_⟩,g2⟩⟩;show dl (d.extract (i:Int).toNat d.size)=_;rw [Int.toNat_natCast,Oi]
end
end
end Go.Proofs.YtignemioillaiabGreat
