/- Lemmas. -/
import Derived.Test.YtignemioillaiaaGreatG30
namespace Go.Proofs.YtignemioillaiaaGreat
set_option maxHeartbeats 8000000
set_option maxRecDepth 100000
open List
section
open Go Go.Conc
theorem lG{α:Type}{f:α->List Value}{size:Nat}(hf:∀x,(f x).length=size){l:List α}{k:Nat}{x:α}(hx:l[k]? = some x){cs:Array Value}{off:Nat}(hcut:aK cs.toList off (l.length*size)=(l.map f).flatten):aK cs.toList (off+(k:Int).toNat*size) size=f x:=by
 rw[Int.toNat_natCast];have h1:=jZ hf l k x hx;have h2:(k+1)*size<=l.length*size:=Nat.mul_le_mul_right _ (List.getElem?_eq_some_iff.1 hx).1;rw[Nat.succ_mul]at h2;rw[flatMap_def,<-hcut,vg _ _ _ _ _ h2]at h1;exact h1
theorem b11{x:Bool}(e:(x == true)=true):x=true:=by cases x<;>first|rfl|cases e
theorem b10{x:Bool}(e:(x == true)=false):x=false:=by cases x<;>first|rfl|cases e
theorem b01{x:Bool}(e:(x == false)=true):x=false:=by cases x<;>first|rfl|cases e
theorem b00{x:Bool}(e:(x == false)=false):x=true:=by cases x<;>first|rfl|cases e
def Ag(w:World)(v:Value)(m:List Pc):Prop:=Fz w 107 2 v m.length (m.map Pc.cells).flatten
structure LN(e size:Nat)(w0 w:World)(v:Value)(n:Nat)(xs:List Value):Prop where
 own:w.ownsRow 0 e size v n xs
 gb:GB none w0 w
 new:∀g,v.ownBlock=some g->w0.heap.size<=g
section
variable{e size:Nat}{w0 w w':World}{v v':Value}{n:Nat}{xs:List Value}
theorem LN.nil(g:GB none w0 w):LN e size w0 w Ptz 0 []:=⟨dZ _ _ _,g,nofun⟩
theorem LN.au(h:LN e size w0 w v n xs)(g:GB none w w'):LN e size w0 w' v n xs:=⟨ay h.own λx hx=>by obtain⟨c,hc⟩:=ax h.own hx;exact g.block x (ae hc) nofun,h.gb.trans g,h.new⟩
theorem LN.app(h:LN e size w0 w v n xs){m:Nat}{ys:List Value}(ho:w'.ownsRow 0 e size v' m ys)(g:GB v.ownBlock w w')(k:∀g,v'.ownBlock=some g->v.ownBlock=some g\/w.heap.size<=g):LN e size w0 w' v' m ys:=⟨ho,h.gb.ownB g h.new,λx hx=>(k x hx).elim (h.new x) λe=>Nat.le_trans h.gb.size e⟩
theorem LN.fz(h:LN e size w0 w v n xs):Fz w e size v n xs:=mK h.own
end
abbrev PN(w0 w:World)(v:Value)(L:List Pc):Prop:=LN 107 2 w0 w v L.length (L.map Pc.cells).flatten
theorem U7{w:World}{v:Value}{L:List Pc}{y:Pc}(h:w.ownsRow 0 107 2 v L.length (L.map Pc.cells).flatten)(hy:L.getLast? = some y):∃g cap cur,v=.slice (Pty g) L.length cap/\w.heap[g]? = some (.cells cur 107)/\aK cur.toList ((L.length - 1)*2) 2=y.cells:=by
 have hne:L≠[]:=λe=>by rw[e]at hy;cases hy
 have hpos:0<L.length:=length_pos_iff.2 hne;obtain⟨gb,cap,cur,ev,aR,htk,hsz,hcap⟩:=jD h (by omega);refine⟨gb,cap,cur,ev,aR,?_⟩;have hx:L[L.length - 1]? = some y:=by rw[<-hy,getLast?_eq_getElem?]
 have h1:=jZ (f:=Pc.cells) (size:=2) (λ_=>rfl) L _ y hx;rw[flatMap_def,<-htk]at h1;rw[<-h1];unfold aK;rw[drop_take,take_take,Nat.min_eq_left (by omega)]
section
variable{w0 w:World}{v:Value}{L:List Pc}
theorem Eh(h:PN w0 w v L)(p:Pc)(hl:L.length<=100000):ag Tryz.prog 147 #[v,.agg p.cells.toArray] w (λv' w'=>PN w0 w' v' (join L p)):=by
 obtain⟨va,vc,rfl⟩:=af h.own;refine ah Tryz.func147 rfl rfl ?_;refine λw1 b1 m1 g1 l1=>?_
 have h1:=h.au g1;have app:∀(w2:World) (b2:Nat),w2.heap[b2]? = some (.cells p.cells.toArray 107)->GB none w1 w2->∃xs news,w2.ownsRow 0 107 2 (.slice va L.length vc) L.length xs/\J6 w2 2 1 news (some ⟨b2,0,none⟩)/\L.length+1<=1000000000/\∀v' w',w'.ownsRow 0 107 2 v' (L.length+1) (xs++news)->GB (Value.slice va L.length vc).ownBlock w2 w'->Na va L.length vc 1 w2 v'->PN w0 w' v' (L++[p]):=λw2 b2 m2 g2=>by
  refine⟨_,p.cells,(h1.au g2).own,⟨_,_,m2,rfl,rfl,rfl⟩,by omega,λv' w' ho g n=>?_⟩;have:=(h1.au g2).app ho g n;show LN _ _ _ _ _ _ _;rw[length_append,map_append,flatten_append];simpa using this
 cases hy:L.getLast? with
 |none =>
  have hL:L=[]:=getLast?_eq_none_iff.1 hy;subst hL;refine⟨by kernel_rfl,?_⟩;refine⟨_,_,m1,p.cells,rfl,rfl,λw2 b2 m2 g2 l2=>?_⟩;exact app w2 b2 m2 g2
 |some y =>
  obtain⟨g,cap,cur,ev,aR,hcut⟩:=U7 h1.own hy;injection ev with ea _ ec;subst ea ec;have hpos:0<L.length:=length_pos_iff.2 λe=>by rw[e]at hy;cases hy
  refine⟨by kernel_rfl,aj (λe=>?_) (λe=>?_)⟩
  ·refine⟨by omega,by omega,_,_,aR,.int .u8 y.g,?_,_,_,m1,_,rfl,aj (λq=>?_) (λq=>?_)⟩
   ·show cur.toList[0+((L.length:Int) - 1).toNat*2+1]? = _
    rw[Nat.zero_add,show((L.length:Int) - 1).toNat=L.length - 1 by omega];exact iM hcut rfl (by decide)
   ·have q1:y.g=p.g:=by simpa using q
    have hj:join L p=L:=by unfold join;rw[hy];exact if_pos q1
    show PN _ _ _ _;rw[hj];exact h1
   ·have q1:¬y.g=p.g:=by simpa using q
    have hj:join L p=L++[p]:=by unfold join;rw[hy];exact if_neg q1
    rw[hj];refine⟨_,_,m1,p.cells,rfl,rfl,λw2 b2 m2 g2 l2=>?_⟩;exact app w2 b2 m2 g2
  ·have:=Ptx (b10 e)
   omega
end
theorem BB{m:List Pc}(h:jY m=true):m.length<=1000:=by
 unfold jY at h;simp only[Bool.and_eq_true,decide_eq_true_eq]at h;exact h.1.1.2
section
variable{w:World}{v:Value}{m:List Pc}
theorem Iy(hv:Ag w v m){p0:Pc}(h0:m[0]? = some p0)(KI:m.length<=1000000)(key:Int):ag Tryz.prog 130 #[v,.int .u64 key] w (λx w'=>x=.int .u8 (own p0.g m key)/\GB none w w'):=by
 obtain⟨a,c,rfl,hc,hl,hv⟩:=hv;have hlen:=(List.getElem?_eq_some_iff.1 h0).1;rcases hv with⟨_,hz⟩|⟨b,off,cs,rfl,hb,hcut⟩
 ·omega
 refine ah Tryz.func130 rfl rfl ?_;refine⟨by omega,_,_,hb,.int .u8 p0.g,iM (o:=off+0*2) (lG (f:=Pc.cells) (k:=0) (λ_=>rfl) h0 hcut) rfl (by decide),?_⟩;refine⟨λn s wk=>∃(i:Nat) (gi:Int),n=m.length - i/\i<=m.length/\s=[(1,.int .u64 key),(5,.int .u8 gi),(12,.slice (some ⟨b,off,none⟩) m.length c),(13,.int .i64 m.length),(14,.int .i64 i)]/\own p0.g m key=own gi (m.drop i) key/\GB none w wk,⟨_,_,⟨0,_,rfl,Nat.zero_le _,rfl,rfl,GB.refl _ _⟩,rfl,rfl,rfl,rfl,rfl,trivial⟩,?_⟩;rintro n s wk ⟨i,gi,rfl,hi,rfl,ho,gk⟩;refine aj (λd=>?_) (λd=>?_)
 ·have d1:i<m.length:=by have:=Ptq d;omega
  obtain⟨x,hx⟩:∃x,m[i]? = some x:=⟨m[i],by simp[d1]⟩;rw[drop_eq_getElem_cons d1,show m[i]=x from(List.getElem?_eq_some_iff.1 hx).2,own]at ho;refine⟨by omega,_,_,gk.get hb nofun,x.cells,lG (f:=Pc.cells) (λ_=>rfl) hx hcut,rfl,λw2 b2 m2 g2 l2=>⟨_,_,_,m2,rfl,rfl,λw3 m3 g3=>?_⟩⟩;have G:=gk.trans (g2.new g3 l2);refine⟨_,_,m3,_,rfl,aj (λe=>?_) (λe=>?_)⟩
  ·have e1:¬x.f<=key:=by have:=Ptq e;omega
   rw[if_neg e1]at ho;exact⟨congrArg (Value.int .u8) ho.symm,G⟩
  ·have e1:x.f<=key:=by have:=Ptx e;omega
   rw[if_pos e1]at ho;exact⟨_,_,m3,_,rfl,by omega,_,_,⟨i+1,_,rfl,by omega,rfl,ho,G⟩,⟨rfl,rfl,rfl,rfl,rfl,trivial⟩,by omega⟩
 ·have d1:i=m.length:=by have:=Ptx d;omega
  rw[d1,drop_length]at ho;exact⟨congrArg (Value.int .u8) ho.symm,gk⟩
theorem KJ(hv:Ag w v m)(hm:jY m=true):ag Tryz.prog 129 #[v] w (λx w'=>x=.bool true/\GB none w w'):=by
 obtain⟨a,c,rfl,hc,hl,hv⟩:=hv;unfold jY at hm;simp only[Bool.and_eq_true,decide_eq_true_eq]at hm;obtain⟨⟨⟨hlen,ahx⟩,hz⟩,hall⟩:=hm;obtain⟨p0,h0⟩:∃x,m[0]? = some x:=⟨m[0],by simp[hlen]⟩;rw[h0]at hz;have hz:p0.f=0:=by simpa using hz
 have hat:∀i,i<m.length->Jf m i=true:=λi hi=>all_eq_true.1 hall i (mem_range.2 hi)
 rcases hv with⟨_,hz⟩|⟨b,off,cs,rfl,hb,hcut⟩
 ·omega
 refine ah Tryz.func129 rfl rfl ?_;refine aj (λe=>?_) (λe=>?_)
 ·refine aj (λe=>?_) (λe=>?_)
  ·refine⟨by omega,_,_,hb,.int .u64 p0.f,iM (o:=off+0*2) (lG (f:=Pc.cells) (k:=0) (λ_=>rfl) h0 hcut) rfl (by decide),?_⟩
   refine aj (λe=>absurd hz (by simpa using e)) (λe=>?_);refine⟨λn s wk=>∃i:Nat,n=m.length - i/\i<=m.length/\s=[(0,.slice (some ⟨b,off,none⟩) m.length c),(20,.slice (some ⟨b,off,none⟩) m.length c),(21,.int .i64 m.length),(22,.int .i64 i)]/\GB none w wk,⟨_,_,⟨0,rfl,Nat.zero_le _,rfl,GB.refl _ _⟩,rfl,rfl,rfl,rfl,trivial⟩,?_⟩;rintro n s wk ⟨i,rfl,hi,rfl,gk⟩;refine aj (λd=>?_) (λd=>?_)
   ·have d1:i<m.length:=by have:=Ptq d;omega
    obtain⟨x,hx⟩:∃x,m[i]? = some x:=⟨m[i],by simp[d1]⟩;have hi':=hat i d1;unfold Jf at hi';rw[hx]at hi';simp only[Bool.and_eq_true,decide_eq_true_eq]at hi';refine⟨by omega,_,_,gk.get hb nofun,x.cells,lG (f:=Pc.cells) (λ_=>rfl) hx hcut,rfl,λw2 b2 m2 g2 l2=>⟨_,_,_,m2,rfl,rfl,λw3 m3 g3=>?_⟩⟩;have G:=gk.trans (g2.new g3 l2);have hb3:=G.get hb nofun;refine⟨_,_,m3,_,rfl,aj (λe=>?_) (λe=>?_)⟩
    ·have:=Ptq e
     omega
    refine⟨by kernel_rfl,aj (λe=>?_) (λe=>?_)⟩
    ·obtain⟨j,rfl⟩:∃j,i=j+1:=⟨i - 1,by have:=Ptq (b11 e);omega⟩
     obtain⟨y,hy⟩:∃y,m[j]? = some y:=⟨m[j]'(by omega),by simp[show j<m.length by omega]⟩;have hyc:=lG (f:=Pc.cells) (λ_=>rfl) hy hcut;rw[Int.toNat_natCast]at hyc;have ej:(((j+1:Nat):Int) - 1).toNat=j:=by omega
     have hxy:y.f<x.f/\¬y.g=x.g:=by
      have:=hi'.2;rw[Nat.add_sub_cancel,hy]at this;simpa using this
     refine⟨_,_,m3,_,rfl,by omega,by omega,_,_,hb3,.int .u64 y.f,by show cs.toList[off+(((j+1:Nat):Int) - 1).toNat*2+0]? = _;rw[ej];exact iM hyc rfl (by decide),aj (λq=>?_) (λq=>?_)⟩
     ·refine⟨_,_,m3,_,rfl,by omega,by omega,_,_,hb3,.int .u8 y.g,by show cs.toList[off+(((j+1:Nat):Int) - 1).toNat*2+1]? = _;rw[ej];exact iM hyc rfl (by decide),aj (λr=>?_) (λr=>?_)⟩
      ·exact absurd (eq_of_beq r).symm hxy.2
      ·exact⟨by omega,_,_,⟨j+2,rfl,by omega,rfl,G⟩,⟨rfl,rfl,rfl,rfl,trivial⟩,by omega⟩
     ·have:=Ptq (b00 q)
      omega
    ·exact⟨by omega,_,_,⟨i+1,rfl,by omega,rfl,G⟩,⟨rfl,rfl,rfl,rfl,trivial⟩,by omega⟩
   ·exact⟨rfl,gk⟩
  ·have:=Ptq (b00 e)
   omega
 ·have:=eq_of_beq (b00 e)
  omega
theorem GN(hv:Ag w v m)(hm:jY m=true)(hc:Can m){key:Int}(hk:0<=key):ag Tryz.prog 75 #[v,.int .u64 key] w (λx w'=>x=.tuple #[.int .u8 (own 0 m key),.int .i64 0]/\GB none w w'):=by
 refine ah Tryz.func75 rfl rfl ?_;refine⟨_,KJ hv hm,?_⟩;rintro _ w1 ⟨rfl,g1⟩;obtain⟨p0,h0⟩:∃x,m[0]? = some x:=by cases m with
  |nil=>exact hc.elim
  |cons p m=>exact⟨p,rfl⟩
 refine⟨_,Iy (hv.kz g1.kz (by decide)) h0 (by have:=BB hm;omega) key,?_⟩;rintro _ w2 ⟨rfl,g2⟩;exact⟨congrArg (λz=>Value.tuple #[.int .u8 z,.int .i64 0]) (Nk hc key hk _ _),g1.trans g2⟩
end
section
variable{w0 w:World}{v lv:Value}{m L:List Pc}
theorem RJ(hv:Ag w v m)(KI:m.length<=1000)(lo:Int):ag Tryz.prog 148 #[v,.int .u64 lo] w (λx w'=>PN w w' x (m.filter λp=>decide (p.f<lo))):=by
 obtain⟨a,c,rfl,hc,hl,hv⟩:=hv;refine ah Tryz.func148 rfl rfl ?_;refine⟨λn s wk=>∃(i:Nat) (x:Value),n=m.length - i/\i<=m.length/\s=[(1,.int .u64 lo),(5,x),(8,.slice a m.length c),(9,.int .i64 m.length),(10,.int .i64 i)]/\PN w wk x ((m.take i).filter λp=>decide (p.f<lo)),⟨_,_,⟨0,_,rfl,Nat.zero_le _,rfl,LN.nil (GB.refl _ _)⟩,rfl,rfl,rfl,rfl,rfl,trivial⟩,?_⟩;rintro n s wk ⟨i,x,rfl,hi,rfl,P⟩;refine aj (λd=>?_) (λd=>?_)
 ·have d1:i<m.length:=by have:=Ptq d;omega
  rcases hv with⟨_,hz⟩|⟨b,off,cs,rfl,hb,hcut⟩
  ·omega
  obtain⟨y,hy⟩:∃y,m[i]? = some y:=⟨m[i],by simp[d1]⟩;have ht:m.take (i+1)=m.take i++[y]:=by rw[take_add_one,hy];rfl
  obtain⟨xa,xc,rfl⟩:=af P.own;refine⟨by omega,_,_,P.gb.get hb nofun,y.cells,lG (f:=Pc.cells) (λ_=>rfl) hy hcut,rfl,λw2 b2 m2 g2 l2=>⟨_,_,_,m2,rfl,rfl,λw3 m3 g3=>?_⟩⟩;have P3:=P.au (g2.new g3 l2);refine⟨_,_,m3,_,rfl,aj (λe=>?_) (λe=>?_)⟩
  ·have e1:=Ptq e
   have ef:(m.take (i+1)).filter (λp=>decide (p.f<lo))=(m.take i).filter (λp=>decide (p.f<lo))++[y]:=by rw[ht,filter_append];simp[e1]
   refine⟨_,_,m3,y.cells,rfl,rfl,λw4 b4 m4 g4 l4=>?_⟩;refine⟨_,y.cells,(P3.au g4).own,⟨_,_,m4,rfl,rfl,rfl⟩,by have:=length_filter_le (λp:Pc=>decide (p.f<lo)) (m.take i);rw[length_take]at this;omega,λv' w5 ho g n=>?_⟩;have P5:=(P3.au g4).app ho g n;obtain⟨xa',xc',rfl⟩:=af P5.own;refine⟨by omega,_,_,⟨i+1,_,rfl,by omega,rfl,?_⟩,⟨rfl,rfl,rfl,rfl,rfl,trivial⟩,by omega⟩;show LN _ _ _ _ _ _ _;rw[ef,length_append,map_append,flatten_append];simpa using P5
  ·have e1:=Ptx e
   have ef:(m.take (i+1)).filter (λp=>decide (p.f<lo))=(m.take i).filter (λp=>decide (p.f<lo)):=by rw[ht,filter_append];simp;omega
   exact⟨by omega,_,_,⟨i+1,_,rfl,by omega,rfl,by show LN _ _ _ _ _ _ _;rw[ef];exact P3⟩,⟨rfl,rfl,rfl,rfl,rfl,trivial⟩,by omega⟩
 ·have d1:i=m.length:=by have:=Ptx d;omega
  rw[d1,take_length]at P;exact P
theorem RN(hv:Ag w0 v m)(KI:m.length<=1000)(hm:jY m=true)(BC:Can m)(P:PN w0 w lv L)(hL:L.length<=2000){hi:Int}(h0:0<=hi)(h1:hi<=18446744073709551615):ag Tryz.prog 146 #[v,.int .u64 hi,lv] w (λx w'=>PN w0 w' x (Pm m hi L)):=by
 have hv0:=hv;obtain⟨a,c,rfl,hc,hl,hv⟩:=hv;obtain⟨la,lc,rfl⟩:=af P.own;refine ah Tryz.func146 rfl rfl ?_;unfold Pm;refine aj (λd=>?_) (λd=>?_)
 ·rw[if_pos (eq_of_beq d)]
  exact P
 have d1:¬hi=18446744073709551615:=by simpa using d
 rw[if_neg d1];obtain⟨p0,hp0⟩:∃x,m[0]? = some x:=by cases m with
  |nil=>exact BC.elim
  |cons p m=>exact⟨p,rfl⟩
 refine⟨by omega,by omega,_,Iy (hv0.kz P.gb.kz (by decide)) hp0 (by omega) (hi+1),?_⟩;rintro _ w1 ⟨rfl,g1⟩;rw[show own p0.g m (hi+1)=own 0 m (hi+1)from Nk BC _ (by omega) _ _];refine⟨_,Eh (P.au g1) ⟨hi+1,own 0 m (hi+1)⟩ (by omega),?_⟩;intro x w2 P2;have hjl:=DY L ⟨hi+1,own 0 m (hi+1)⟩;generalize join L ⟨hi+1,own 0 m (hi+1)⟩=J at P2 hjl |-;obtain⟨xa,xc,rfl⟩:=af P2.own;refine⟨λn s wk=>∃(i:Nat) (x:Value),n=m.length - i/\i<=m.length/\s=[(1,.int .u64 hi),(2,x),(21,.slice a m.length c),(22,.int .i64 m.length),(23,.int .i64 i)]/\PN w0 wk x ((m.take i).foldl (gK hi) J),⟨_,_,⟨0,_,rfl,Nat.zero_le _,rfl,P2⟩,rfl,rfl,rfl,rfl,rfl,trivial⟩,?_⟩;clear P2;rintro n s wk ⟨i,x,rfl,hi',rfl,P⟩;refine aj (λd=>?_) (λd=>?_)
 ·have d1:i<m.length:=by have:=Ptq d;omega
  rcases hv with⟨_,hz⟩|⟨b,off,cs,rfl,hb,hcut⟩
  ·omega
  obtain⟨y,hy⟩:∃y,m[i]? = some y:=⟨m[i],by simp[d1]⟩;have ht:m.take (i+1)=m.take i++[y]:=by rw[take_add_one,hy];rfl
  have hbl:=XZ hi (m.take i) J;rw[length_take]at hbl;obtain⟨xa,xc,rfl⟩:=af P.own;refine⟨by omega,_,_,P.gb.get hb nofun,y.cells,lG (f:=Pc.cells) (λ_=>rfl) hy hcut,rfl,λw2 b2 m2 g2 l2=>⟨_,_,_,m2,rfl,rfl,λw3 m3 g3=>?_⟩⟩;have P3:=P.au (g2.new g3 l2);refine⟨_,_,m3,_,rfl,aj (λe=>?_) (λe=>?_)⟩
  ·have e1:=Ptq e
   have ef:(m.take (i+1)).foldl (gK hi) J=join ((m.take i).foldl (gK hi) J) y:=by rw[ht,foldl_append];exact if_pos (by omega)
   refine⟨_,_,m3,y.cells,rfl,rfl,_,Eh P3 y (by omega),λv' w5 P5=>?_⟩;obtain⟨xa',xc',rfl⟩:=af P5.own;exact⟨by omega,_,_,⟨i+1,_,rfl,by omega,rfl,by rw[ef];exact P5⟩,⟨rfl,rfl,rfl,rfl,rfl,trivial⟩,by omega⟩
  ·have e1:=Ptx e
   have ef:(m.take (i+1)).foldl (gK hi) J=(m.take i).foldl (gK hi) J:=by rw[ht,foldl_append];exact if_neg (by omega)
   exact⟨by omega,_,_,⟨i+1,_,rfl,by omega,rfl,by rw[ef];exact P3⟩,⟨rfl,rfl,rfl,rfl,rfl,trivial⟩,by omega⟩
 ·have d1:i=m.length:=by have:=Ptx d;omega
  rw[d1,take_length]at P;exact P
theorem NG(hv:Ag w v m)(hm:jY m=true)(BC:Can m){lo hi g:Int}(h0:0<=lo)(h1:lo<=hi)(h2:hi<=18446744073709551615)(hg:g<4):ag Tryz.prog 88 #[v,.int .u64 lo,.int .u64 hi,.int .u8 g] w (λx w'=>∃v' e,x=.tuple #[v',.int .i64 e]/\GB none w w'/\(((fT m lo hi g).length<=1000/\e=0/\PN w w' v' (fT m lo hi g))\/(1000<(fT m lo hi g).length/\e=3/\v'=.slice none 0 0))):=by
 have KI:=BB hm;have hv0:=hv;obtain⟨a,c,rfl,hc,hl,hv⟩:=hv;refine ah Tryz.func88 rfl rfl ?_;refine⟨_,KJ hv0 hm,?_⟩;rintro _ w1 ⟨rfl,g1⟩;refine aj (λe=>?_) (λe=>?_)
 ·refine aj (λq=>?_) (λq=>?_)
  ·have:=Ptq q
   omega
  refine⟨_,RJ (hv0.kz g1.kz (by decide)) KI lo,?_⟩;intro x w2 P;have hfl:=length_filter_le (λp:Pc=>decide (p.f<lo)) m;refine⟨_,Eh P ⟨lo,g⟩ (by omega),?_⟩;intro x2 w3 P3;have hjl:=DY (m.filter λp=>decide (p.f<lo)) ⟨lo,g⟩;refine⟨_,RN (hv0.kz g1.kz (by decide)) KI hm BC P3 (by omega) (by omega) h2,?_⟩;intro x4 w4 P4;have P5:PN w w4 x4 (fT m lo hi g):=⟨P4.own,g1.trans P4.gb,λy hy=>Nat.le_trans g1.size (P4.new y hy)⟩;clear P P3 P4;generalize fT m lo hi g=G at P5 |-;obtain⟨xa,xc,rfl⟩:=af P5.own;refine aj (λq=>?_) (λq=>?_)
  ·have:=Ptq q
   exact⟨_,_,rfl,P5.gb,.inr ⟨by omega,rfl,rfl⟩⟩
  ·have:=Ptx q
   exact⟨_,_,rfl,P5.gb,.inl ⟨by omega,rfl,P5⟩⟩
 ·have:=Ptq (b00 e)
  omega
end
theorem Iz{w:World}{v:Value}{n:Nat}{xs:List Value}(h:Fz w 128 2 v n xs)(ho:xs.all one=true)(hn:n<=1000000):ag Tryz.prog 76 #[v] w (λv' w'=>LN 128 2 w w' v' n xs):=by
 obtain⟨a,c,rfl,hc,hl,hv⟩:=h;refine ah Tryz.func76 rfl rfl ?_;rcases hv with⟨rfl,rfl⟩|⟨b,off,cs,rfl,hb,hcut⟩
 ·obtain rfl:xs=[]:=eq_nil_of_length_eq_zero (by omega)
  exact⟨Nat.le_refl _,LN.nil (GB.refl _ _)⟩
 ·refine⟨_,xs,dZ _ _ _,⟨_,_,hb,hcut,hl,ho⟩,by omega,λv' w2 ho2 g2 n2=>?_⟩
  rw[Nat.zero_add]at ho2;exact(LN.nil (GB.refl _ _)).app ho2 g2 n2
theorem IA{w:World}{v:Value}{n:Nat}{xs:List Value}(h:Fz w 57 7 v n xs)(ho:xs.all one=true)(hn:n<=1000000):ag Tryz.prog 78 #[v] w (λv' w'=>LN 57 7 w w' v' n xs):=by
 obtain⟨a,c,rfl,hc,hl,hv⟩:=h;refine ah Tryz.func78 rfl rfl ?_;rcases hv with⟨rfl,rfl⟩|⟨b,off,cs,rfl,hb,hcut⟩
 ·obtain rfl:xs=[]:=eq_nil_of_length_eq_zero (by omega)
  exact⟨Nat.le_refl _,LN.nil (GB.refl _ _)⟩
 ·refine⟨_,xs,dZ _ _ _,⟨_,_,hb,hcut,hl,ho⟩,by omega,λv' w2 ho2 g2 n2=>?_⟩
  rw[Nat.zero_add]at ho2;exact(LN.nil (GB.refl _ _)).app ho2 g2 n2
theorem U9{w:World}{v:Value}{n:Nat}{xs:List Value}(h:Fz w 107 2 v n xs)(ho:xs.all one=true)(hn:n<=1000000):ag Tryz.prog 77 #[v] w (λv' w'=>LN 107 2 w w' v' n xs):=by
 obtain⟨a,c,rfl,hc,hl,hv⟩:=h;refine ah Tryz.func77 rfl rfl ?_;rcases hv with⟨rfl,rfl⟩|⟨b,off,cs,rfl,hb,hcut⟩
 ·obtain rfl:xs=[]:=eq_nil_of_length_eq_zero (by omega)
  exact⟨Nat.le_refl _,LN.nil (GB.refl _ _)⟩
 ·refine⟨_,xs,dZ _ _ _,⟨_,_,hb,hcut,hl,ho⟩,by omega,λv' w2 ho2 g2 n2=>?_⟩
  rw[Nat.zero_add]at ho2;exact(LN.nil (GB.refl _ _)).app ho2 g2 n2
theorem RO{w:World}{v:Value}{n:Nat}{xs:List Value}(h:Fz w 47 1 v n xs)(ho:xs.all one=true)(hn:n<=1000000):ag Tryz.prog 79 #[v] w (λv' w'=>LN 47 1 w w' v' n xs):=by
 obtain⟨a,c,rfl,hc,hl,hv⟩:=h;refine ah Tryz.func79 rfl rfl ?_;rcases hv with⟨rfl,rfl⟩|⟨b,off,cs,rfl,hb,hcut⟩
 ·obtain rfl:xs=[]:=eq_nil_of_length_eq_zero (by omega)
  exact⟨Nat.le_refl _,LN.nil (GB.refl _ _)⟩
 ·refine⟨_,xs,dZ _ _ _,⟨_,_,hb,hcut,hl,ho⟩,by omega,λv' w2 ho2 g2 n2=>?_⟩
  rw[Nat.zero_add]at ho2;exact(LN.nil (GB.refl _ _)).app ho2 g2 n2
theorem PD{w:World}{v:Value}{n:Nat}{xs:List Value}(h:Fz w 103 2 v n xs)(ho:xs.all one=true)(hn:n<=1000000):ag Tryz.prog 80 #[v] w (λv' w'=>LN 103 2 w w' v' n xs):=by
 obtain⟨a,c,rfl,hc,hl,hv⟩:=h;refine ah Tryz.func80 rfl rfl ?_;rcases hv with⟨rfl,rfl⟩|⟨b,off,cs,rfl,hb,hcut⟩
 ·obtain rfl:xs=[]:=eq_nil_of_length_eq_zero (by omega)
  exact⟨Nat.le_refl _,LN.nil (GB.refl _ _)⟩
 ·refine⟨_,xs,dZ _ _ _,⟨_,_,hb,hcut,hl,ho⟩,by omega,λv' w2 ho2 g2 n2=>?_⟩
  rw[Nat.zero_add]at ho2;exact(LN.nil (GB.refl _ _)).app ho2 g2 n2
theorem RP{w:World}{v:Value}{n:Nat}{xs:List Value}(h:Fz w 52 7 v n xs)(ho:xs.all one=true)(hn:n<=1000000):ag Tryz.prog 131 #[v] w (λv' w'=>LN 52 7 w w' v' n xs):=by
 obtain⟨a,c,rfl,hc,hl,hv⟩:=h;refine ah Tryz.func131 rfl rfl ?_;rcases hv with⟨rfl,rfl⟩|⟨b,off,cs,rfl,hb,hcut⟩
 ·obtain rfl:xs=[]:=eq_nil_of_length_eq_zero (by omega)
  exact⟨Nat.le_refl _,LN.nil (GB.refl _ _)⟩
 ·refine⟨_,xs,dZ _ _ _,⟨_,_,hb,hcut,hl,ho⟩,by omega,λv' w2 ho2 g2 n2=>?_⟩
  rw[Nat.zero_add]at ho2;exact(LN.nil (GB.refl _ _)).app ho2 g2 n2
def dl(d:ByteArray):List Nat:=d.data.toList.map UInt8.toNat
theorem RQ(d:ByteArray):(dl d).length=d.size:=by simp[dl]
theorem Jj(d:ByteArray):∀x∈dl d,x<256:=λx hx=>by
 obtain⟨y,_,rfl⟩:=mem_map.1 hx;exact y.toNat_lt
def be(l:List Nat):Nat:=l.foldl (λn b=>n*256+b) 0
theorem NH(l:List Nat)(x:Nat):be (l++[x])=be l*256+x:=by simp[be]
theorem PE:∀(n:Nat) (l:List Nat),l.length=n->(∀x∈l,x<256)->be l<256 ^ n
 |0,l,h,_=>by rw[length_eq_zero_iff.1 h];decide
 |n+1,l,h,hl=>by
  have hne:l≠[]:=λe=>by rw[e]at h;cases h
  rw[<-dropLast_concat_getLast hne,NH];have h1:=PE n l.dropLast (by rw[length_dropLast];omega) λx hx=>hl x ((dropLast_sublist l).subset hx)
  have h2:=hl _ (getLast_mem hne);rw[Nat.pow_succ];omega
def num(n:Nat)(l:List Nat):Nat×List Nat:=if l.length<n then(0,[])else(be (l.take n),l.drop n)
theorem BD{n:Nat}{l:List Nat}(h:l.length<n):num n l=(0,[]):=if_pos h
theorem zH{n:Nat}{l:List Nat}(h:¬l.length<n):num n l=(be (l.take n),l.drop n):=if_neg h
theorem FE{n:Nat}{l:List Nat}(hl:∀x∈l,x<256):(num n l).1<256 ^ n:=by
 by_cases h:l.length<n
 ·rw[BD h];exact Nat.pow_pos (by decide)
 ·rw[zH h];exact PE n _ (by rw[length_take];omega) λx hx=>hl x (mem_of_mem_take hx)
theorem Va{n:Nat}{l:List Nat}(hl:∀x∈l,x<256):∀x∈(num n l).2,x<256:=by
 by_cases h:l.length<n
 ·rw[BD h];intro x hx;cases hx
 ·rw[zH h];exact λx hx=>hl x (mem_of_mem_drop hx)
theorem Yo{a c:Nat}(ha:a*256+256<=18446744073709551616)(hc:c<256):IntKind.u64.wrap ((BitVec.ofInt IntKind.u64.bits (IntKind.u64.wrap ((a:Int)*2 ^ min (8:Int).toNat IntKind.u64.bits)) ||| BitVec.ofInt IntKind.u64.bits (c:Int)).toNat:Nat)=((a*256+c:Nat):Int):=by
 have e1:IntKind.u64.wrap ((a:Int)*2 ^ min (8:Int).toNat IntKind.u64.bits)=((a*256:Nat):Int):=by
  show((a:Int)*2 ^ 8)%18446744073709551616=_;omega
 rw[e1,BitVec.ofInt_natCast,BitVec.ofInt_natCast,BitVec.toNat_or,BitVec.toNat_ofNat,BitVec.toNat_ofNat];have e2:a*256%2 ^ IntKind.u64.bits=a*256:=Nat.mod_eq_of_lt (by show _<18446744073709551616;omega);have e3:c%2 ^ IntKind.u64.bits=c:=Nat.mod_eq_of_lt (by show _<18446744073709551616;omega);rw[e2,e3];have e4:=Nat.shiftLeft_add_eq_or_of_lt (i:=8) (b:=c) (by omega) a;rw[Nat.shiftLeft_eq]at e4;rw[show a*256=a*2 ^ 8 from rfl,<-e4];show((a*2 ^ 8+c:Nat):Int)%18446744073709551616=_;omega
def Src(w:World)(b:Nat)(l:List Nat):Prop:=∃d,w.heap[b]? = some (.cells #[.string d] 249)/\dl d=l
theorem Src.keep{w w':World}{b:Nat}{l:List Nat}(h:Src w b l)(k:w'.heap[b]? = w.heap[b]?):Src w' b l:=by
 obtain⟨d,h1,h2⟩:=h;exact⟨d,k.trans h1,h2⟩
theorem Src.b{w:World}{b:Nat}{l:List Nat}(h:Src w b l):∀x∈l,x<256:=by
 obtain⟨d,_,rfl⟩:=h;exact Jj d
theorem Src.lt{w:World}{b:Nat}{l:List Nat}(h:Src w b l):b<w.heap.size:=by
 obtain⟨d,h1,_⟩:=h;exact ae h1
theorem PH(d:ByteArray){k:Nat}:dl (d.extract k d.size)=(dl d).drop k:=by
 unfold dl;rw[ByteArray.data_extract,Array.toList_extract,extract_eq_drop_take',<-map_drop];congr 1
 rw[take_of_length_le];simp
theorem acr{d:ByteArray}{i:Nat}(h:i<d.size):(dl d)[i]? = some (d.data.toList.getD i 0).toNat:=by
 have h':i<d.data.size:=h;unfold dl;rw[getElem?_map,getD_eq_getElem?_getD,Array.getElem?_toList,Array.getElem?_eq_getElem h'];rfl
section
variable{w:World}{b:Nat}{l:List Nat}
theorem BF(hs:Src w b l)(k:Nat)(hk:k<=8):ag Tryz.prog 223 #[Ptt b,.int .i64 k] w (λv w'=>v=.int .u64 (num k l).1/\Src w' b (num k l).2/\GB (some b) w w'):=by
 obtain⟨d,hs,rfl⟩:=hs;have hd:=RQ d;refine ah Tryz.func223 rfl rfl ?_;refine⟨_,_,hs,_,rfl,aj (λc=>?_) (λc=>?_)⟩
 ·have c1:(dl d).length<k:=by have:=Ptq c;omega
  rw[BD c1];exact⟨_,_,_,hs,rfl,rfl,λw1 m1 g1=>⟨rfl,⟨_,m1,rfl⟩,g1⟩⟩
 ·have c1:¬(dl d).length<k:=by have:=Ptx c;omega
  rw[zH c1];refine⟨λm s w1=>∃i:Nat,m=k - i/\i<=k/\s=[(0,Ptt b),(1,.int .i64 k),(5,.int .u64 (be ((dl d).take i))),(17,.int .i64 k),(18,.int .i64 i)]/\w1=w,⟨_,_,⟨0,rfl,Nat.zero_le _,rfl,rfl⟩,rfl,rfl,rfl,rfl,rfl,trivial⟩,?_⟩;rintro m s w1 ⟨i,rfl,hi,rfl,rfl⟩;refine aj (λe=>?_) (λe=>?_)
  ·have e1:i<k:=by have:=Ptq e;omega
   have hx:=acr (d:=d) (i:=i) (by omega);have hb:=Jj d _ (List.mem_of_getElem? hx);have hlt:=PE i ((dl d).take i) (by rw[length_take];omega) λx hx=>Jj d x (mem_of_mem_take hx)
   have h7:256 ^ i<=256 ^ 7:=Nat.pow_le_pow_right (by decide) (by omega);have h7':(256:Nat) ^ 7=72057594037927936:=by decide
   have acs:be ((dl d).take (i+1))=be ((dl d).take i)*256+(d.data.toList.getD i 0).toNat:=by rw[take_add_one,hx];exact NH _ _
   have hor:=Yo (a:=be ((dl d).take i)) (c:=(d.data.toList.getD i 0).toNat) (by omega) hb;rw[<-acs]at hor;have hb':(d.data.toList.getD (i:Int).toNat 0).toNat<256:=hb;refine⟨by decide,_,_,hs,_,rfl,by omega,?_⟩;refine .inl ⟨by omega,?_⟩;refine⟨by omega,_,_,⟨i+1,rfl,by omega,rfl,rfl⟩,⟨rfl,rfl,?_,rfl,rfl,trivial⟩,by omega⟩;exact congrArg (λz=>some (Value.int .u64 z)) hor
  ·have e1:i=k:=by have:=Ptx e;omega
   subst e1;refine⟨_,_,hs,_,rfl,by omega,_,_,_,hs,rfl,rfl,λw2 m2 g2=>⟨rfl,⟨_,m2,?_⟩,g2⟩⟩;show dl (d.extract (i:Int).toNat d.size)=_;rw[Int.toNat_natCast,PH]
end
end
