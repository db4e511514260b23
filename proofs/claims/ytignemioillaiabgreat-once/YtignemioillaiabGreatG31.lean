/- Lemmas. -/
import Derived.Test.YtignemioillaiabGreatG30
namespace Go.Proofs.YtignemioillaiabGreat
set_option maxHeartbeats 8000000
set_option maxRecDepth 100000
open List
section
open Go Go.Conc
theorem og{α:Type}{f:α->List Value}{size:Nat}(hf:∀x,(f x).length=size){l:List α}{k:Nat}{x:α}(hx:l[k]?=some x){cs:Array Value}{off:Nat}(hcut:aG cs.toList off (l.length*size)=(l.map f).flatten):aG cs.toList (off+(k:Int).toNat*size) size=f x:=Me hcut hx hf
theorem b11{x:Bool}(e:(x==true)=true):x=true:=by cases x<;>first|rfl|cases e
theorem b10{x:Bool}(e:(x==true)=false):x=false:=by cases x<;>first|rfl|cases e
theorem b01{x:Bool}(e:(x==false)=true):x=false:=by cases x<;>first|rfl|cases e
theorem b00{x:Bool}(e:(x==false)=false):x=true:=by cases x<;>first|rfl|cases e
def Bl(w:World)(v:Value)(m:List Pc):Prop:=Fz w 153 2 v m.length (m.map Pc.cells).flatten
structure LN(e size:Nat)(w0 w:World)(v:Value)(n:Nat)(xs:List Value):Prop where
 own:w.ownsRow 0 e size v n xs
 gb:GB none w0 w
 new:∀g,v.ownBlock=some g->w0.heap.size<=g
section
variable{e size:Nat}{w0 w w':World}{v v':Value}{n:Nat}{xs:List Value}
theorem LN.nil(g:GB none w0 w):LN e size w0 w Ptz 0 []:=⟨eu _ _ _,g,nofun⟩
theorem LN.ay(h:LN e size w0 w v n xs)(g:GB none w w'):LN e size w0 w' v n xs:=⟨ax h.own λx hx=>by obtain⟨c,hc⟩:=au h.own hx;exact g.block x (ae hc) nofun,h.gb.trans g,h.new⟩
theorem LN.app(h:LN e size w0 w v n xs){m:Nat}{ys:List Value}(ho:w'.ownsRow 0 e size v' m ys)(g:GB v.ownBlock w w')(k:∀g,v'.ownBlock=some g->v.ownBlock=some g\/w.heap.size<=g):LN e size w0 w' v' m ys:=⟨ho,h.gb.ownB g h.new,λx hx=>(k x hx).elim (h.new x) λe=>Jb1 h.gb.size e⟩
theorem LN.fz(h:LN e size w0 w v n xs):Fz w e size v n xs:=qb h.own
end
abbrev PN(w0 w:World)(v:Value)(L:List Pc):Prop:=LN 153 2 w0 w v L.length (L.map Pc.cells).flatten
theorem WY{w:World}{v:Value}{L:List Pc}{y:Pc}(h:w.ownsRow 0 153 2 v L.length (L.map Pc.cells).flatten)(hy:L.getLast?=some y):∃g cap cur,v=.slice (Pty g) L.length cap/\w.heap[g]?=some (.cells cur 153)/\aG cur.toList ((L.length-1)*2) 2=y.cells:=by
 have hne:L≠[]:=λe=>by rw[e]at hy;cases hy
 have hpos:0<L.length:=length_pos_iff.2 hne;obtain⟨gb,cap,cur,ev,aR,htk,hsz,hcap⟩:=j5 h (by omega);refine⟨gb,cap,cur,ev,aR,?_⟩;have hx:L[L.length-1]?=some y:=by rw[<-hy,getLast?_eq_getElem?]
 have h1:=jb (f:=Pc.cells) (size:=2) (λ_=>rfl) L _ y hx;rw[Jfx,<-htk]at h1;rw[<-h1];unfold aG;rw[Jfj,Jd5,Jd7 (by omega)]
section
variable{w0 w:World}{v:Value}{L:List Pc}
theorem Fh(h:PN w0 w v L)(p:Pc)(hl:L.length<=100000):CY 167 #[v,.agg p.cells.toArray] w (λv' w'=>PN w0 w' v' (join L p)):=by
 obtain⟨va,vc,rfl⟩:=af h.own;refine aj Tryz.func167 rfl rfl ?_;refine λw1 b1 m1 g1 l1=>?_
 have h1:=h.ay g1;have app:∀(w2:World) (b2:Nat),Hl w2 b2 p.cells 153->GB none w1 w2->∃xs news,w2.ownsRow 0 153 2 (.slice va L.length vc) L.length xs/\LC w2 2 1 news (some ⟨b2,0,none⟩)/\L.length+1<=1000000000/\∀v' w',w'.ownsRow 0 153 2 v' (L.length+1) (xs++news)->GB (Value.slice va L.length vc).ownBlock w2 w'->OG va L.length vc 1 w2 v'->PN w0 w' v' (L++[p]):=λw2 b2 m2 g2=>by
  refine⟨_,p.cells,(h1.ay g2).own,⟨_,_,m2,rfl,rfl,rfl⟩,by omega,λv' w' ho g n=>?_⟩;have:=(h1.ay g2).app ho g n;show LN _ _ _ _ _ _ _;rw[Jc6,Jda,Jfr];simpa using this
 cases hy:L.getLast? with
 |none =>
  have hL:L=[]:=getLast?_eq_none_iff.1 hy;subst hL;refine⟨by kernel_rfl,?_⟩;refine⟨_,_,m1,p.cells,rfl,rfl,λw2 b2 m2 g2 l2=>?_⟩;exact app w2 b2 m2 g2
 |some y =>
  obtain⟨g,cap,cur,ev,aR,hcut⟩:=WY h1.own hy;injection ev with ea _ ec;subst ea ec;have hpos:0<L.length:=length_pos_iff.2 λe=>by rw[e]at hy;cases hy
  refine⟨by kernel_rfl,ah (λe=>?_) (λe=>?_)⟩
  .refine⟨by omega,by omega,_,_,aR,.int .u8 y.g,?_,_,_,m1,_,rfl,ah (λq=>?_) (λq=>?_)⟩
   .show cur.toList[0+((L.length:Int)-1).toNat*2+1]?=_
    rw[Jbh,show((L.length:Int)-1).toNat=L.length-1 by omega];exact iU hcut rfl (by decide)
   .have q1:y.g=p.g:=by simpa using q
    have hj:join L p=L:=by unfold join;rw[hy];exact Jb6 q1
    show PN _ _ _ _;rw[hj];exact h1
   .have q1:¬y.g=p.g:=by simpa using q
    have hj:join L p=L++[p]:=by unfold join;rw[hy];exact Jb5 q1
    rw[hj];refine⟨_,_,m1,p.cells,rfl,rfl,λw2 b2 m2 g2 l2=>?_⟩;exact app w2 b2 m2 g2
  .have:=Ptx (b10 e)
   omega
end
theorem Cw{m:List Pc}(h:jK m=true):m.length<=1000:=by
 unfold jK at h;simp only[Jdy,Jdr]at h;exact h.1.1.2
section
variable{w:World}{v:Value}{m:List Pc}
theorem JL(hv:Bl w v m){p0:Pc}(h0:m[0]?=some p0)(Mx:m.length<=1000000)(key:Int):CY 65 #[v,.int .u64 key] w (λx w'=>x=.int .u8 (own p0.g m key)/\GB none w w'):=by
 obtain⟨a,c,rfl,hc,hl,hv⟩:=hv;have hlen:=(Jcn.1 h0).1;rcases hv with⟨_,hz⟩|⟨b,off,cs,rfl,hb,hcut⟩
 .omega
 refine aj Tryz.func65 rfl rfl ?_;refine⟨by omega,_,_,hb,.int .u8 p0.g,iU (o:=off+0*2) (og (f:=Pc.cells) (k:=0) (λ_=>rfl) h0 hcut) rfl (by decide),?_⟩;refine⟨λn s wk=>∃(i:Nat) (gi:Int),n=m.length-i/\i<=m.length/\s=[(1,.int .u64 key),(5,.int .u8 gi),(12,.slice (some ⟨b,off,none⟩) m.length c),(13,.int .i64 m.length),(14,.int .i64 i)]/\own p0.g m key=own gi (m.drop i) key/\GB none w wk,⟨_,_,⟨0,_,rfl,Jcm _,rfl,rfl,GB.refl _ _⟩,sb rfl⟩,?_⟩;rintro n s wk ⟨i,gi,rfl,hi,rfl,ho,gk⟩;refine ah (λd=>?_) (λd=>?_)
 .have d1:i<m.length:=by have:=Ptq d;omega
  obtain⟨x,hx⟩:∃x,m[i]?=some x:=⟨m[i],by simp[d1]⟩;rw[Jch d1,show m[i]=x from(Jcn.1 hx).2,own]at ho;refine⟨by omega,_,_,gk.get hb nofun,x.cells,og (f:=Pc.cells) (λ_=>rfl) hx hcut,rfl,λw2 b2 m2 g2 l2=>⟨_,_,_,m2,rfl,rfl,λw3 m3 g3=>?_⟩⟩;have G:=gk.trans (g2.new g3 l2);refine⟨_,_,m3,_,rfl,ah (λe=>?_) (λe=>?_)⟩
  .have e1:¬x.f<=key:=by have:=Ptq e;omega
   rw[Jb5 e1]at ho;exact⟨congrArg (Value.int .u8) ho.symm,G⟩
  .have e1:x.f<=key:=by have:=Ptx e;omega
   rw[Jb6 e1]at ho;exact⟨_,_,m3,_,rfl,by omega,_,_,⟨i+1,_,rfl,by omega,rfl,ho,G⟩,(sb rfl),by omega⟩
 .have d1:i=m.length:=by have:=Ptx d;omega
  rw[d1,drop_length]at ho;exact⟨congrArg (Value.int .u8) ho.symm,gk⟩
theorem MB(hv:Bl w v m)(hm:jK m=true):CY 64 #[v] w (λx w'=>x=.bool true/\GB none w w'):=by
 obtain⟨a,c,rfl,hc,hl,hv⟩:=hv;unfold jK at hm;simp only[Jdy,Jdr]at hm;obtain⟨⟨⟨hlen,ajC⟩,hz⟩,hall⟩:=hm;obtain⟨p0,h0⟩:∃x,m[0]?=some x:=⟨m[0],by simp[hlen]⟩;rw[h0]at hz;have hz:p0.f=0:=by simpa using hz
 have hat:∀i,i<m.length->Kq m i=true:=λi hi=>all_eq_true.1 hall i (Jc3.2 hi)
 rcases hv with⟨_,hz⟩|⟨b,off,cs,rfl,hb,hcut⟩
 .omega
 refine aj Tryz.func64 rfl rfl ?_;refine ah (λe=>?_) (λe=>?_)
 .refine ah (λe=>?_) (λe=>?_)
  .refine⟨by omega,_,_,hb,.int .u64 p0.f,iU (o:=off+0*2) (og (f:=Pc.cells) (k:=0) (λ_=>rfl) h0 hcut) rfl (by decide),?_⟩
   refine ah (λe=>absurd hz (by simpa using e)) (λe=>?_);refine⟨λn s wk=>∃i:Nat,n=m.length-i/\i<=m.length/\s=[(0,.slice (some ⟨b,off,none⟩) m.length c),(20,.slice (some ⟨b,off,none⟩) m.length c),(21,.int .i64 m.length),(22,.int .i64 i)]/\GB none w wk,⟨_,_,⟨0,rfl,Jcm _,rfl,GB.refl _ _⟩,sb rfl⟩,?_⟩;rintro n s wk ⟨i,rfl,hi,rfl,gk⟩;refine ah (λd=>?_) (λd=>?_)
   .have d1:i<m.length:=by have:=Ptq d;omega
    obtain⟨x,hx⟩:∃x,m[i]?=some x:=⟨m[i],by simp[d1]⟩;have hi':=hat i d1;unfold Kq at hi';rw[hx]at hi';simp only[Jdy,Jdr]at hi';refine⟨by omega,_,_,gk.get hb nofun,x.cells,og (f:=Pc.cells) (λ_=>rfl) hx hcut,rfl,λw2 b2 m2 g2 l2=>⟨_,_,_,m2,rfl,rfl,λw3 m3 g3=>?_⟩⟩;have G:=gk.trans (g2.new g3 l2);have hb3:=G.get hb nofun;refine⟨_,_,m3,_,rfl,ah (λe=>?_) (λe=>?_)⟩
    .have:=Ptq e
     omega
    refine⟨by kernel_rfl,ah (λe=>?_) (λe=>?_)⟩
    .obtain⟨j,rfl⟩:∃j,i=j+1:=⟨i-1,by have:=Ptq (b11 e);omega⟩
     obtain⟨y,hy⟩:∃y,m[j]?=some y:=⟨m[j]'(by omega),by simp[show j<m.length by omega]⟩;have hyc:=og (f:=Pc.cells) (λ_=>rfl) hy hcut;rw[Jfa]at hyc;have ej:(((j+1:Nat):Int)-1).toNat=j:=by omega
     have hxy:y.f<x.f/\¬y.g=x.g:=by
      have:=hi'.2;rw[Nat.add_sub_cancel,hy]at this;simpa using this
     refine⟨_,_,m3,_,rfl,by omega,by omega,_,_,hb3,.int .u64 y.f,by show cs.toList[off+(((j+1:Nat):Int)-1).toNat*2+0]?=_;rw[ej];exact iU hyc rfl (by decide),ah (λq=>?_) (λq=>?_)⟩
     .refine⟨_,_,m3,_,rfl,by omega,by omega,_,_,hb3,.int .u8 y.g,by show cs.toList[off+(((j+1:Nat):Int)-1).toNat*2+1]?=_;rw[ej];exact iU hyc rfl (by decide),ah (λr=>?_) (λr=>?_)⟩
      .exact absurd (eq_of_beq r).symm hxy.2
      .exact⟨by omega,_,_,⟨j+2,rfl,by omega,rfl,G⟩,(sb rfl),by omega⟩
     .have:=Ptq (b00 q)
      omega
    .exact⟨by omega,_,_,⟨i+1,rfl,by omega,rfl,G⟩,(sb rfl),by omega⟩
   .exact⟨rfl,gk⟩
  .have:=Ptq (b00 e)
   omega
 .have:=eq_of_beq (b00 e)
  omega
theorem IK(hv:Bl w v m)(hm:jK m=true)(hc:Can m){key:Int}(hk:0<=key):CY 42 #[v,.int .u64 key] w (λx w'=>x=.tuple #[.int .u8 (own 0 m key),.int .i64 0]/\GB none w w'):=by
 refine aj Tryz.func42 rfl rfl ?_;refine⟨_,MB hv hm,?_⟩;rintro _ w1 ⟨rfl,g1⟩;obtain⟨p0,h0⟩:∃x,m[0]?=some x:=by cases m with
  |nil=>exact hc.elim
  |cons p m=>exact⟨p,rfl⟩
 refine⟨_,JL (hv.kz g1.kz (by decide)) h0 (by have:=Cw hm;omega) key,?_⟩;rintro _ w2 ⟨rfl,g2⟩;exact⟨congrArg (λz=>Value.tuple #[.int .u8 z,.int .i64 0]) (OQ hc key hk _ _),g1.trans g2⟩
end
section
variable{w0 w:World}{v lv:Value}{m L:List Pc}
theorem Ui(hv:Bl w v m)(Mx:m.length<=1000)(lo:Int):CY 168 #[v,.int .u64 lo] w (λx w'=>PN w w' x (m.filter λp=>decide (p.f<lo))):=by
 obtain⟨a,c,rfl,hc,hl,hv⟩:=hv;refine aj Tryz.func168 rfl rfl ?_;refine⟨λn s wk=>∃(i:Nat) (x:Value),n=m.length-i/\i<=m.length/\s=[(1,.int .u64 lo),(5,x),(8,.slice a m.length c),(9,.int .i64 m.length),(10,.int .i64 i)]/\PN w wk x ((m.take i).filter λp=>decide (p.f<lo)),⟨_,_,⟨0,_,rfl,Jcm _,rfl,LN.nil (GB.refl _ _)⟩,sb rfl⟩,?_⟩;rintro n s wk ⟨i,x,rfl,hi,rfl,P⟩;refine ah (λd=>?_) (λd=>?_)
 .have d1:i<m.length:=by have:=Ptq d;omega
  rcases hv with⟨_,hz⟩|⟨b,off,cs,rfl,hb,hcut⟩
  .omega
  obtain⟨y,hy⟩:∃y,m[i]?=some y:=⟨m[i],by simp[d1]⟩;have ht:m.take (i+1)=m.take i++[y]:=by rw[Jfm,hy];rfl
  obtain⟨xa,xc,rfl⟩:=af P.own;refine⟨by omega,_,_,P.gb.get hb nofun,y.cells,og (f:=Pc.cells) (λ_=>rfl) hy hcut,rfl,λw2 b2 m2 g2 l2=>⟨_,_,_,m2,rfl,rfl,λw3 m3 g3=>?_⟩⟩;have P3:=P.ay (g2.new g3 l2);refine⟨_,_,m3,_,rfl,ah (λe=>?_) (λe=>?_)⟩
  .have e1:=Ptq e
   have ef:(m.take (i+1)).filter (λp=>decide (p.f<lo))=(m.take i).filter (λp=>decide (p.f<lo))++[y]:=by rw[ht,Jfh];simp[e1]
   refine⟨_,_,m3,y.cells,rfl,rfl,λw4 b4 m4 g4 l4=>?_⟩;refine⟨_,y.cells,(P3.ay g4).own,⟨_,_,m4,rfl,rfl,rfl⟩,by have:=Jff (λp:Pc=>decide (p.f<lo)) (m.take i);rw[Jd6]at this;omega,λv' w5 ho g n=>?_⟩;have P5:=(P3.ay g4).app ho g n;obtain⟨xa',xc',rfl⟩:=af P5.own;refine⟨by omega,_,_,⟨i+1,_,rfl,by omega,rfl,?_⟩,(sb rfl),by omega⟩;show LN _ _ _ _ _ _ _;rw[ef,Jc6,Jda,Jfr];simpa using P5
  .have e1:=Ptx e
   have ef:(m.take (i+1)).filter (λp=>decide (p.f<lo))=(m.take i).filter (λp=>decide (p.f<lo)):=by rw[ht,Jfh];simp;omega
   exact⟨by omega,_,_,⟨i+1,_,rfl,by omega,rfl,by show LN _ _ _ _ _ _ _;rw[ef];exact P3⟩,(sb rfl),by omega⟩
 .have d1:i=m.length:=by have:=Ptx d;omega
  rw[d1,Jfn]at P;exact P
theorem Uj(hv:Bl w0 v m)(Mx:m.length<=1000)(hm:jK m=true)(Cx:Can m)(P:PN w0 w lv L)(hL:L.length<=2000){hi:Int}(h0:0<=hi)(h1:hi<=18446744073709551615):CY 166 #[v,.int .u64 hi,lv] w (λx w'=>PN w0 w' x (QY m hi L)):=by
 have hv0:=hv;obtain⟨a,c,rfl,hc,hl,hv⟩:=hv;obtain⟨la,lc,rfl⟩:=af P.own;refine aj Tryz.func166 rfl rfl ?_;unfold QY;refine ah (λd=>?_) (λd=>?_)
 .rw[Jb6 (eq_of_beq d)]
  exact P
 have d1:¬hi=18446744073709551615:=by simpa using d
 rw[Jb5 d1];obtain⟨p0,hp0⟩:∃x,m[0]?=some x:=by cases m with
  |nil=>exact Cx.elim
  |cons p m=>exact⟨p,rfl⟩
 refine⟨by omega,by omega,_,JL (hv0.kz P.gb.kz (by decide)) hp0 (by omega) (hi+1),?_⟩;rintro _ w1 ⟨rfl,g1⟩;rw[show own p0.g m (hi+1)=own 0 m (hi+1)from OQ Cx _ (by omega) _ _];refine⟨_,Fh (P.ay g1) ⟨hi+1,own 0 m (hi+1)⟩ (by omega),?_⟩;intro x w2 P2;have hjl:=ET L ⟨hi+1,own 0 m (hi+1)⟩;generalize join L ⟨hi+1,own 0 m (hi+1)⟩=J at P2 hjl |-;obtain⟨xa,xc,rfl⟩:=af P2.own;refine⟨λn s wk=>∃(i:Nat) (x:Value),n=m.length-i/\i<=m.length/\s=[(1,.int .u64 hi),(2,x),(21,.slice a m.length c),(22,.int .i64 m.length),(23,.int .i64 i)]/\PN w0 wk x ((m.take i).foldl (gY hi) J),⟨_,_,⟨0,_,rfl,Jcm _,rfl,P2⟩,sb rfl⟩,?_⟩;clear P2;rintro n s wk ⟨i,x,rfl,hi',rfl,P⟩;refine ah (λd=>?_) (λd=>?_)
 .have d1:i<m.length:=by have:=Ptq d;omega
  rcases hv with⟨_,hz⟩|⟨b,off,cs,rfl,hb,hcut⟩
  .omega
  obtain⟨y,hy⟩:∃y,m[i]?=some y:=⟨m[i],by simp[d1]⟩;have ht:m.take (i+1)=m.take i++[y]:=by rw[Jfm,hy];rfl
  have hbl:=ZI hi (m.take i) J;rw[Jd6]at hbl;obtain⟨xa,xc,rfl⟩:=af P.own;refine⟨by omega,_,_,P.gb.get hb nofun,y.cells,og (f:=Pc.cells) (λ_=>rfl) hy hcut,rfl,λw2 b2 m2 g2 l2=>⟨_,_,_,m2,rfl,rfl,λw3 m3 g3=>?_⟩⟩;have P3:=P.ay (g2.new g3 l2);refine⟨_,_,m3,_,rfl,ah (λe=>?_) (λe=>?_)⟩
  .have e1:=Ptq e
   have ef:(m.take (i+1)).foldl (gY hi) J=join ((m.take i).foldl (gY hi) J) y:=by rw[ht,Jg4];exact Jb6 (by omega)
   refine⟨_,_,m3,y.cells,rfl,rfl,_,Fh P3 y (by omega),λv' w5 P5=>?_⟩;obtain⟨xa',xc',rfl⟩:=af P5.own;exact⟨by omega,_,_,⟨i+1,_,rfl,by omega,rfl,by rw[ef];exact P5⟩,(sb rfl),by omega⟩
  .have e1:=Ptx e
   have ef:(m.take (i+1)).foldl (gY hi) J=(m.take i).foldl (gY hi) J:=by rw[ht,Jg4];exact Jb5 (by omega)
   exact⟨by omega,_,_,⟨i+1,_,rfl,by omega,rfl,by rw[ef];exact P3⟩,(sb rfl),by omega⟩
 .have d1:i=m.length:=by have:=Ptx d;omega
  rw[d1,Jfn]at P;exact P
theorem Pd(hv:Bl w v m)(hm:jK m=true)(Cx:Can m){lo hi g:Int}(h0:0<=lo)(h1:lo<=hi)(h2:hi<=18446744073709551615)(hg:g<4):CY 105 #[v,.int .u64 lo,.int .u64 hi,.int .u8 g] w (λx w'=>∃v' e,x=.tuple #[v',.int .i64 e]/\GB none w w'/\(((fC m lo hi g).length<=1000/\e=0/\PN w w' v' (fC m lo hi g))\/(1000<(fC m lo hi g).length/\e=3/\v'=.slice none 0 0))):=by
 have Mx:=Cw hm;have hv0:=hv;obtain⟨a,c,rfl,hc,hl,hv⟩:=hv;refine aj Tryz.func105 rfl rfl ?_;refine⟨_,MB hv0 hm,?_⟩;rintro _ w1 ⟨rfl,g1⟩;refine ah (λe=>?_) (λe=>?_)
 .refine ah (λq=>?_) (λq=>?_)
  .have:=Ptq q
   omega
  refine⟨_,Ui (hv0.kz g1.kz (by decide)) Mx lo,?_⟩;intro x w2 P;have hfl:=Jff (λp:Pc=>decide (p.f<lo)) m;refine⟨_,Fh P ⟨lo,g⟩ (by omega),?_⟩;intro x2 w3 P3;have hjl:=ET (m.filter λp=>decide (p.f<lo)) ⟨lo,g⟩;refine⟨_,Uj (hv0.kz g1.kz (by decide)) Mx hm Cx P3 (by omega) (by omega) h2,?_⟩;intro x4 w4 P4;have P5:PN w w4 x4 (fC m lo hi g):=⟨P4.own,g1.trans P4.gb,λy hy=>Jb1 g1.size (P4.new y hy)⟩;clear P P3 P4;generalize fC m lo hi g=G at P5 |-;obtain⟨xa,xc,rfl⟩:=af P5.own;refine ah (λq=>?_) (λq=>?_)
  .have:=Ptq q
   exact⟨_,_,rfl,P5.gb,.inr ⟨by omega,rfl,rfl⟩⟩
  .have:=Ptx q
   exact⟨_,_,rfl,P5.gb,.inl ⟨by omega,rfl,P5⟩⟩
 .have:=Ptq (b00 e)
  omega
end
theorem JM{w:World}{v:Value}{n:Nat}{xs:List Value}(h:Fz w 139 2 v n xs)(ho:xs.all one=true)(hn:n<=1000000):CY 93 #[v] w (λv' w'=>LN 139 2 w w' v' n xs):=by
 obtain⟨a,c,rfl,hc,hl,hv⟩:=h;refine aj Tryz.func93 rfl rfl ?_;rcases hv with⟨rfl,rfl⟩|⟨b,off,cs,rfl,hb,hcut⟩
 .obtain rfl:xs=[]:=Jcq (by omega)
  exact⟨Jb0 _,LN.nil (GB.refl _ _)⟩
 .refine⟨_,xs,eu _ _ _,⟨_,_,hb,hcut,hl,ho⟩,by omega,λv' w2 ho2 g2 n2=>?_⟩
  rw[Jbh]at ho2;exact(LN.nil (GB.refl _ _)).app ho2 g2 n2
theorem JN{w:World}{v:Value}{n:Nat}{xs:List Value}(h:Fz w 70 7 v n xs)(ho:xs.all one=true)(hn:n<=1000000):CY 95 #[v] w (λv' w'=>LN 70 7 w w' v' n xs):=by
 obtain⟨a,c,rfl,hc,hl,hv⟩:=h;refine aj Tryz.func95 rfl rfl ?_;rcases hv with⟨rfl,rfl⟩|⟨b,off,cs,rfl,hb,hcut⟩
 .obtain rfl:xs=[]:=Jcq (by omega)
  exact⟨Jb0 _,LN.nil (GB.refl _ _)⟩
 .refine⟨_,xs,eu _ _ _,⟨_,_,hb,hcut,hl,ho⟩,by omega,λv' w2 ho2 g2 n2=>?_⟩
  rw[Jbh]at ho2;exact(LN.nil (GB.refl _ _)).app ho2 g2 n2
theorem WZ{w:World}{v:Value}{n:Nat}{xs:List Value}(h:Fz w 153 2 v n xs)(ho:xs.all one=true)(hn:n<=1000000):CY 94 #[v] w (λv' w'=>LN 153 2 w w' v' n xs):=by
 obtain⟨a,c,rfl,hc,hl,hv⟩:=h;refine aj Tryz.func94 rfl rfl ?_;rcases hv with⟨rfl,rfl⟩|⟨b,off,cs,rfl,hb,hcut⟩
 .obtain rfl:xs=[]:=Jcq (by omega)
  exact⟨Jb0 _,LN.nil (GB.refl _ _)⟩
 .refine⟨_,xs,eu _ _ _,⟨_,_,hb,hcut,hl,ho⟩,by omega,λv' w2 ho2 g2 n2=>?_⟩
  rw[Jbh]at ho2;exact(LN.nil (GB.refl _ _)).app ho2 g2 n2
theorem Uk{w:World}{v:Value}{n:Nat}{xs:List Value}(h:Fz w 59 1 v n xs)(ho:xs.all one=true)(hn:n<=1000000):CY 96 #[v] w (λv' w'=>LN 59 1 w w' v' n xs):=by
 obtain⟨a,c,rfl,hc,hl,hv⟩:=h;refine aj Tryz.func96 rfl rfl ?_;rcases hv with⟨rfl,rfl⟩|⟨b,off,cs,rfl,hb,hcut⟩
 .obtain rfl:xs=[]:=Jcq (by omega)
  exact⟨Jb0 _,LN.nil (GB.refl _ _)⟩
 .refine⟨_,xs,eu _ _ _,⟨_,_,hb,hcut,hl,ho⟩,by omega,λv' w2 ho2 g2 n2=>?_⟩
  rw[Jbh]at ho2;exact(LN.nil (GB.refl _ _)).app ho2 g2 n2
theorem Ri{w:World}{v:Value}{n:Nat}{xs:List Value}(h:Fz w 62 2 v n xs)(ho:xs.all one=true)(hn:n<=1000000):CY 97 #[v] w (λv' w'=>LN 62 2 w w' v' n xs):=by
 obtain⟨a,c,rfl,hc,hl,hv⟩:=h;refine aj Tryz.func97 rfl rfl ?_;rcases hv with⟨rfl,rfl⟩|⟨b,off,cs,rfl,hb,hcut⟩
 .obtain rfl:xs=[]:=Jcq (by omega)
  exact⟨Jb0 _,LN.nil (GB.refl _ _)⟩
 .refine⟨_,xs,eu _ _ _,⟨_,_,hb,hcut,hl,ho⟩,by omega,λv' w2 ho2 g2 n2=>?_⟩
  rw[Jbh]at ho2;exact(LN.nil (GB.refl _ _)).app ho2 g2 n2
theorem Ul{w:World}{v:Value}{n:Nat}{xs:List Value}(h:Fz w 78 7 v n xs)(ho:xs.all one=true)(hn:n<=1000000):CY 152 #[v] w (λv' w'=>LN 78 7 w w' v' n xs):=by
 obtain⟨a,c,rfl,hc,hl,hv⟩:=h;refine aj Tryz.func152 rfl rfl ?_;rcases hv with⟨rfl,rfl⟩|⟨b,off,cs,rfl,hb,hcut⟩
 .obtain rfl:xs=[]:=Jcq (by omega)
  exact⟨Jb0 _,LN.nil (GB.refl _ _)⟩
 .refine⟨_,xs,eu _ _ _,⟨_,_,hb,hcut,hl,ho⟩,by omega,λv' w2 ho2 g2 n2=>?_⟩
  rw[Jbh]at ho2;exact(LN.nil (GB.refl _ _)).app ho2 g2 n2
def dl(d:ByteArray):List Nat:=d.data.toList.map UInt8.toNat
theorem Um(d:ByteArray):(dl d).length=d.size:=by simp[dl]
theorem Ky(d:ByteArray):∀x∈dl d,x<256:=λx hx=>by
 obtain⟨y,_,rfl⟩:=Jdb.1 hx;exact y.toNat_lt
def be(l:List Nat):Nat:=l.foldl (λn b=>n*256+b) 0
theorem Pe(l:List Nat)(x:Nat):be (l++[x])=be l*256+x:=by simp[be]
theorem Rj:∀(n:Nat) (l:List Nat),l.length=n->(∀x∈l,x<256)->be l<256^n
 |0,l,h,_=>by rw[length_eq_zero_iff.1 h];decide
 |n+1,l,h,hl=>by
  have hne:l≠[]:=λe=>by rw[e]at h;cases h
  rw[<-dropLast_concat_getLast hne,Pe];have h1:=Rj n l.dropLast (by rw[length_dropLast];omega) λx hx=>hl x ((dropLast_sublist l).subset hx)
  have h2:=hl _ (getLast_mem hne);rw[Nat.pow_succ];omega
def num(n:Nat)(l:List Nat):Nat×List Nat:=if l.length<n then(0,[])else(be (l.take n),l.drop n)
theorem Cy{n:Nat}{l:List Nat}(h:l.length<n):num n l=(0,[]):=Jb6 h
theorem Ay{n:Nat}{l:List Nat}(h:¬l.length<n):num n l=(be (l.take n),l.drop n):=Jb5 h
theorem GV{n:Nat}{l:List Nat}(hl:∀x∈l,x<256):(num n l).1<256^n:=by
 by_cases h:l.length<n
 .rw[Cy h];exact Nat.pow_pos (by decide)
 .rw[Ay h];exact Rj n _ (by rw[Jd6];omega) λx hx=>hl x (Jfy hx)
theorem W9{n:Nat}{l:List Nat}(hl:∀x∈l,x<256):∀x∈(num n l).2,x<256:=by
 by_cases h:l.length<n
 .rw[Cy h];intro x hx;cases hx
 .rw[Ay h];exact λx hx=>hl x (mem_of_mem_drop hx)
theorem Z9{a c:Nat}(ha:a*256+256<=18446744073709551616)(hc:c<256):IntKind.u64.wrap ((BitVec.ofInt IntKind.u64.bits (IntKind.u64.wrap ((a:Int)*2^min (8:Int).toNat IntKind.u64.bits)) ||| BitVec.ofInt IntKind.u64.bits (c:Int)).toNat:Nat)=((a*256+c:Nat):Int):=by
 have e1:IntKind.u64.wrap ((a:Int)*2^min (8:Int).toNat IntKind.u64.bits)=((a*256:Nat):Int):=by
  show((a:Int)*2^8)%18446744073709551616=_;omega
 rw[e1,BitVec.ofInt_natCast,BitVec.ofInt_natCast,BitVec.toNat_or,BitVec.toNat_ofNat,BitVec.toNat_ofNat];have e2:a*256%2^IntKind.u64.bits=a*256:=Jgb (by show _<18446744073709551616;omega);have e3:c%2^IntKind.u64.bits=c:=Jgb (by show _<18446744073709551616;omega);rw[e2,e3];have e4:=Nat.shiftLeft_add_eq_or_of_lt (i:=8) (b:=c) (by omega) a;rw[Nat.shiftLeft_eq]at e4;rw[show a*256=a*2^8 from rfl,<-e4];show((a*2^8+c:Nat):Int)%18446744073709551616=_;omega
def Src(w:World)(b:Nat)(l:List Nat):Prop:=∃d,w.heap[b]?=some (.cells #[.string d] 146)/\dl d=l
theorem Src.keep{w w':World}{b:Nat}{l:List Nat}(h:Src w b l)(k:w'.heap[b]?=w.heap[b]?):Src w' b l:=by
 obtain⟨d,h1,h2⟩:=h;exact⟨d,k.trans h1,h2⟩
theorem Src.b{w:World}{b:Nat}{l:List Nat}(h:Src w b l):∀x∈l,x<256:=by
 obtain⟨d,_,rfl⟩:=h;exact Ky d
theorem Src.lt{w:World}{b:Nat}{l:List Nat}(h:Src w b l):b<w.heap.size:=by
 obtain⟨d,h1,_⟩:=h;exact ae h1
theorem Rk(d:ByteArray){k:Nat}:dl (d.extract k d.size)=(dl d).drop k:=by
 unfold dl;rw[ByteArray.data_extract,Array.toList_extract,extract_eq_drop_take',<-Jcb];congr 1
 rw[Jd2];simp
theorem aex{d:ByteArray}{i:Nat}(h:i<d.size):(dl d)[i]?=some (d.data.toList.getD i 0).toNat:=by
 have h':i<d.data.size:=h;unfold dl;rw[Jdd,Jdx,Jdw,Jbn h'];rfl
section
variable{w:World}{b:Nat}{l:List Nat}
theorem Cz(hs:Src w b l)(k:Nat)(hk:k<=8):CY 128 #[Ptt b,.int .i64 k] w (λv w'=>v=.int .u64 (num k l).1/\Src w' b (num k l).2/\GB (some b) w w'):=by
 obtain⟨d,hs,rfl⟩:=hs;have hd:=Um d;refine aj Tryz.func128 rfl rfl ?_;refine⟨_,_,hs,_,rfl,ah (λc=>?_) (λc=>?_)⟩
 .have c1:(dl d).length<k:=by have:=Ptq c;omega
  rw[Cy c1];exact⟨_,_,_,hs,rfl,rfl,λw1 m1 g1=>⟨rfl,⟨_,m1,rfl⟩,g1⟩⟩
 .have c1:¬(dl d).length<k:=by have:=Ptx c;omega
  rw[Ay c1];refine⟨λm s w1=>∃i:Nat,m=k-i/\i<=k/\s=[(0,Ptt b),(1,.int .i64 k),(5,.int .u64 (be ((dl d).take i))),(17,.int .i64 k),(18,.int .i64 i)]/\w1=w,⟨_,_,⟨0,rfl,Jcm _,rfl,rfl⟩,sb rfl⟩,?_⟩;rintro m s w1 ⟨i,rfl,hi,rfl,rfl⟩;refine ah (λe=>?_) (λe=>?_)
  .have e1:i<k:=by have:=Ptq e;omega
   have hx:=aex (d:=d) (i:=i) (by omega);have hb:=Ky d _ (Jcv hx);have hlt:=Rj i ((dl d).take i) (by rw[Jd6];omega) λx hx=>Ky d x (Jfy hx)
   have h7:256^i<=256^7:=Nat.pow_le_pow_right (by decide) (by omega);have h7':(256:Nat)^7=72057594037927936:=by decide
   have aey:be ((dl d).take (i+1))=be ((dl d).take i)*256+(d.data.toList.getD i 0).toNat:=by rw[Jfm,hx];exact Pe _ _
   have hor:=Z9 (a:=be ((dl d).take i)) (c:=(d.data.toList.getD i 0).toNat) (by omega) hb;rw[<-aey]at hor;have hb':(d.data.toList.getD (i:Int).toNat 0).toNat<256:=hb;refine⟨by decide,_,_,hs,_,rfl,by omega,?_⟩;refine .inl ⟨by omega,?_⟩;refine⟨by omega,_,_,⟨i+1,rfl,by omega,rfl,rfl⟩,⟨rfl,rfl,?_,sb rfl⟩,by omega⟩;exact congrArg (λz=>some (Value.int .u64 z)) hor
  .have e1:i=k:=by have:=Ptx e;omega
   subst e1;refine⟨_,_,hs,_,rfl,by omega,_,_,_,hs,rfl,rfl,λw2 m2 g2=>⟨rfl,⟨_,m2,?_⟩,g2⟩⟩;show dl (d.extract (i:Int).toNat d.size)=_;rw[Jfa,Rk]
end
def nx{β:Type}(k:Nat)(l:List Nat)(f:Nat->List Nat->β):β:=f (num k l).1 (num k l).2
theorem aY{β:Type}{k x:Nat}{l l':List Nat}(h:num k l=(x,l'))(f:Nat->List Nat->β):nx k l f=f x l':=by unfold nx;rw[h]
def rn{α β:Type}(rd:List Nat->α×List Nat)(l:List Nat)(f:α->List Nat->β):β:=f (rd l).1 (rd l).2
theorem dU{α β:Type}{rd:List Nat->α×List Nat}{x:α}{l l':List Nat}(h:rd l=(x,l'))(f:α->List Nat->β):rn rd l f=f x l':=by unfold rn;rw[h]
def qG(l:List Nat):aW×List Nat:=nx 1 l λc l=>nx 4 l λs l=>nx 1 l λk l=>nx 8 l λkey l=>if k=2 then nx 8 l λv l=>(⟨c,s,k,key,v,0,0⟩,l)else if k=4 then nx 8 l λhi l=>nx 1 l λto l=>(⟨c,s,k,key,0,hi,to⟩,l)else(⟨c,s,k,key,0,0,0⟩,l)
def qH(l:List Nat):ag×List Nat:=nx 1 l λc l=>nx 4 l λs l=>nx 8 l λkey l=>nx 1 l λk l=>if k=1 then nx 1 l λf l=>if f=0 then(⟨c,s,key,k,false,0,0⟩,l)else nx 8 l λv l=>(⟨c,s,key,k,true,v,0⟩,l)else if k=3 then nx 1 l λg l=>(⟨c,s,key,k,false,0,g⟩,l)else(⟨c,s,key,k,false,0,0⟩,l)
def iN(l:List Nat):bH×List Nat:=nx 4 l λn l=>nx 1 l λi l=>(⟨n,i⟩,l)
def DD(l:List Nat):Row×List Nat:=nx 8 l λk l=>nx 8 l λv l=>(⟨k,v⟩,l)
structure Bx(w:World)(b b1 b2:Nat)(T:TypeId)(z c:Array Value)(l:List Nat)(w':World):Prop where
 s:Src w' b l
 m1:w'.heap[b1]?=some (.cells z T)
 m2:w'.heap[b2]?=some (.cells c T)
 g:GB (some b) w w'
 n1:w.heap.size<=b1
 n2:w.heap.size<=b2
 ne:b1≠b2
 lb:b<w.heap.size
section
variable{w w1 w2:World}{b b1 b2:Nat}{T:TypeId}{z c c':Array Value}{l l':List Nat}
theorem Bx.new(hs:Src w b l)(m1:w1.heap[b1]?=some (.cells z T))(g1:GB none w w1)(n1:w.heap.size<=b1)(m2:w2.heap[b2]?=some (.cells c T))(g2:GB none w1 w2)(n2:w1.heap.size<=b2):Bx w b b1 b2 T z c l w2 :=
 ⟨hs.keep ((g1.trans g2).block b hs.lt nofun),g2.get m1 nofun,m2,(g1.trans g2).weak,n1,Jb1 g1.size n2,λe=>by have:=ae m1;omega,hs.lt⟩
theorem Bx.rd(h:Bx w b b1 b2 T z c l w1)(hs:Src w2 b l')(g:GB (some b) w1 w2):Bx w b b1 b2 T z c l' w2 :=
 ⟨hs,g.get h.m1 λe=>by injection e with e;have:=h.n1;have:=h.lb;omega,g.get h.m2 λe=>by injection e with e;have:=h.n2;have:=h.lb;omega,h.g.trans g,h.n1,h.n2,h.ne,h.lb⟩
theorem Bx.st(h:Bx w b b1 b2 T z c l w1)(m:w2.heap[b2]?=some (.cells c' T))(g:GB (some b2) w1 w2):Bx w b b1 b2 T z c' l w2 :=
 ⟨h.s.keep (g.block b h.s.lt λe=>by injection e with e;have:=h.n2;have:=h.lb;omega),g.get h.m1 λe=>by injection e with e;exact h.ne e,m,h.g.news g h.n2,h.n1,h.n2,h.ne,h.lb⟩
theorem Bx.mv{e:Array Value->Prop}{ys:Array Value->List Value}{K:World->Prop}(h:Bx w b b1 b2 T z c l w1)(hs:Src w2 b l')(g:GB (some b) w1 w2)(he:e c)(k:∀w4,Bx w b b1 b2 T z (ys c).toArray l' w4->K w4):∃xs ty zs,w2.heap[b2]?=some (.cells xs ty)/\e xs/\ys xs=zs/\∀w',w'.heap[b2]?=some (.cells zs.toArray ty)->GB (some b2) w2 w'->K w' :=
 ⟨_,_,_,(h.rd hs g).m2,he,rfl,λ_ m k'=>k _ ((h.rd hs g).st m k')⟩
theorem Bx.fin(h:Bx w b b1 b2 T z c l w1)(g:GB (some b1) w1 w2):Src w2 b l/\GB (some b) w w2 :=
 ⟨h.s.keep (g.block b h.s.lt λe=>by injection e with e;have:=h.n1;have:=h.lb;omega),h.g.news g h.n1⟩
theorem Bx.en{P Q R:Array Value->List Value->Prop}{O M:List Value->Prop}{F:Array Value->List Value->List Value}{K:List Value->World->Prop}(h:Bx w b b1 b2 T z c l w1)(X:List Value)(a1:P c X)(a2:O X)(a3:Q z X)(a4:R (F z X).toArray X)(a5:M X)(k:∀w',Src w' b l->GB (some b) w w'->GB (some b1) w1 w'->K X w'):∃xs ty,w1.heap[b2]?=some (.cells xs ty)/\∃cs,P xs cs/\O cs/\∃ys ty' zs,w1.heap[b1]?=some (.cells ys ty')/\Q ys cs/\F ys cs=zs/\∀w',w'.heap[b1]?=some (.cells zs.toArray ty')->GB (some b1) w1 w'->∃us ag9,w'.heap[b1]?=some (.cells us ag9)/\∃cs,R us cs/\M cs/\K cs w' :=
 ⟨_,_,h.m2,X,a1,a2,_,_,_,h.m1,a3,rfl,λ_ m g=>⟨_,_,m,X,a4,a5,k _ (h.fin g).1 (h.fin g).2 g⟩⟩
theorem lQ(hs:Src w b l):CY 68 #[Ptt b] w (λv w'=>∃x l',num 1 l=(x,l')/\x<256/\v=.int .u8 x/\Src w' b l'/\GB (some b) w w'):=by
 refine aj Tryz.func68 rfl rfl ?_;refine⟨_,Cz hs 1 (by decide),?_⟩;rintro _ w1 ⟨rfl,s1,g1⟩;have h:=GV (n:=1) hs.b;exact .inl ⟨by omega,_,_,rfl,h,rfl,s1,g1⟩
theorem qw(hs:Src w b l):CY 74 #[Ptt b] w (λv w'=>∃x l',num 4 l=(x,l')/\x<4294967296/\v=.int .u32 x/\Src w' b l'/\GB (some b) w w'):=by
 refine aj Tryz.func74 rfl rfl ?_;refine⟨_,Cz hs 4 (by decide),?_⟩;rintro _ w1 ⟨rfl,s1,g1⟩;have h:=GV (n:=4) hs.b;exact .inl ⟨by omega,_,_,rfl,h,rfl,s1,g1⟩
theorem sG(hs:Src w b l):CY 129 #[Ptt b] w (λv w'=>∃x l',num 8 l=(x,l')/\x<18446744073709551616/\v=.int .u64 x/\Src w' b l'/\GB (some b) w w'):=by
 refine aj Tryz.func129 rfl rfl ?_;refine⟨_,Cz hs 8 (by decide),?_⟩;rintro _ w1 ⟨rfl,s1,g1⟩;have h:=GV (n:=8) hs.b;exact⟨_,_,rfl,h,rfl,s1,g1⟩
theorem acx(hs:Src w b l):CY 131 #[Ptt b] w (λv w'=>∃x l',DD l=(x,l')/\v=.agg x.cells.toArray/\Src w' b l'/\GB (some b) w w'):=by
 refine aj Tryz.func131 rfl rfl ?_;refine λw1 b1 m1 g1 l1 w2 b2 m2 g2 l2=>?_
 have B:=Bx.new hs m1 g1 l1 m2 g2 l2;clear m1 m2 g1 g2 l1 l2;refine⟨_,sG B.s,?_⟩;rintro _ w3 ⟨k,l3,ek,ck,rfl,s3,g3⟩;refine B.mv s3 g3 rfl λw4 B=>?_
 refine⟨_,sG B.s,?_⟩;rintro _ w3 ⟨v,l3,ev,cv,rfl,s3,g3⟩;refine B.mv s3 g3 rfl λw4 B=>?_
 exact B.en (Row.cells ⟨k,v⟩) rfl rfl rfl rfl rfl λ_ s5 g5 _=>⟨_,_,by rw[DD,aY ek,aY ev],rfl,s5,g5⟩
theorem zt(hs:Src w b l):CY 71 #[Ptt b] w (λv w'=>∃x l',iN l=(x,l')/\v=.agg #[.int .u32 x.n,.int .u8 x.id]/\Src w' b l'/\GB (some b) w w'):=by
 refine aj Tryz.func71 rfl rfl ?_;refine λw1 b1 m1 g1 l1 w2 b2 m2 g2 l2=>?_
 have B:=Bx.new hs m1 g1 l1 m2 g2 l2;clear m1 m2 g1 g2 l1 l2;refine⟨_,qw B.s,?_⟩;rintro _ w3 ⟨n,l3,en,cn,rfl,s3,g3⟩;refine B.mv s3 g3 rfl λw4 B=>?_
 refine⟨_,lQ B.s,?_⟩;rintro _ w3 ⟨i,l3,ei,ci,rfl,s3,g3⟩;refine B.mv s3 g3 rfl λw4 B=>?_
 exact B.en ([.int .u32 n,.int .u8 i]) rfl rfl rfl rfl rfl λ_ s5 g5 _=>⟨_,_,by rw[iN,aY en,aY ei],rfl,s5,g5⟩
theorem Un(hs:Src w b l):CY 69 #[Ptt b] w (λv w'=>∃x l',qG l=(x,l')/\v=.agg x.cells.toArray/\Src w' b l'/\GB (some b) w w'):=by
 refine aj Tryz.func69 rfl rfl ?_;refine λw1 b1 m1 g1 l1 w2 b2 m2 g2 l2=>?_
 have B:=Bx.new hs m1 g1 l1 m2 g2 l2;clear m1 m2 g1 g2 l1 l2;refine⟨_,lQ B.s,?_⟩;rintro _ w3 ⟨c,l3,ec,cc,rfl,s3,g3⟩;refine B.mv s3 g3 rfl λw4 B=>?_
 refine⟨_,qw B.s,?_⟩;rintro _ w3 ⟨s,l3,es,cs,rfl,s3,g3⟩;refine B.mv s3 g3 rfl λw4 B=>?_
 refine⟨_,lQ B.s,?_⟩;rintro _ w3 ⟨k,l3,ek,ck,rfl,s3,g3⟩;refine B.mv s3 g3 rfl λw4 B=>?_
 refine⟨_,sG B.s,?_⟩;rintro _ w3 ⟨key,l3,CB,aha,rfl,s3,g3⟩;refine B.mv s3 g3 rfl λw4 B=>?_
 refine⟨_,_,B.m2,_,rfl,ah (λq=>?_) (λq=>?_)⟩
 .have q1:k=2:=by simp at q;omega
  refine⟨_,sG B.s,?_⟩;rintro _ w3 ⟨v,l3,ev,cv,rfl,s3,g3⟩;refine B.mv s3 g3 rfl λw4 B=>?_
  exact B.en (aW.cells ⟨c,s,k,key,v,0,0⟩) rfl rfl rfl rfl rfl λ_ s5 g5 _=>⟨_,_,by rw[qG,aY ec,aY es,aY ek,aY CB,Jb6 q1,aY ev],rfl,s5,g5⟩
 .have q1:¬k=2:=by simp at q;omega
  refine ah (λq=>?_) (λq=>?_)
  .have q2:k=4:=by simp at q;omega
   refine⟨_,sG B.s,?_⟩;rintro _ w3 ⟨hi,l3,ehi,chi,rfl,s3,g3⟩;refine B.mv s3 g3 rfl λw4 B=>?_
   refine⟨_,lQ B.s,?_⟩;rintro _ w3 ⟨to,l3,eto,cto,rfl,s3,g3⟩;refine B.mv s3 g3 rfl λw4 B=>?_
   exact B.en (aW.cells ⟨c,s,k,key,0,hi,to⟩) rfl rfl rfl rfl rfl λ_ s5 g5 _=>⟨_,_,by rw[qG,aY ec,aY es,aY ek,aY CB,Jb5 q1,Jb6 q2,aY ehi,aY eto],rfl,s5,g5⟩
  .have q2:¬k=4:=by simp at q;omega
   exact B.en (aW.cells ⟨c,s,k,key,0,0,0⟩) rfl rfl rfl rfl rfl λ_ s5 g5 _=>⟨_,_,by rw[qG,aY ec,aY es,aY ek,aY CB,Jb5 q1,Jb5 q2],rfl,s5,g5⟩
theorem Uo(hs:Src w b l):CY 70 #[Ptt b] w (λv w'=>∃x l',qH l=(x,l')/\v=.agg x.cells.toArray/\Src w' b l'/\GB (some b) w w'):=by
 refine aj Tryz.func70 rfl rfl ?_;refine λw1 b1 m1 g1 l1 w2 b2 m2 g2 l2=>?_
 have B:=Bx.new hs m1 g1 l1 m2 g2 l2;clear m1 m2 g1 g2 l1 l2;refine⟨_,lQ B.s,?_⟩;rintro _ w3 ⟨c,l3,ec,cc,rfl,s3,g3⟩;refine B.mv s3 g3 rfl λw4 B=>?_
 refine⟨_,qw B.s,?_⟩;rintro _ w3 ⟨s,l3,es,cs,rfl,s3,g3⟩;refine B.mv s3 g3 rfl λw4 B=>?_
 refine⟨_,sG B.s,?_⟩;rintro _ w3 ⟨key,l3,CB,aha,rfl,s3,g3⟩;refine B.mv s3 g3 rfl λw4 B=>?_
 refine⟨_,lQ B.s,?_⟩;rintro _ w3 ⟨k,l3,ek,ck,rfl,s3,g3⟩;refine B.mv s3 g3 rfl λw4 B=>?_
 refine⟨_,_,B.m2,_,rfl,ah (λq=>?_) (λq=>?_)⟩
 .have q1:k=1:=by simp at q;omega
  refine⟨_,lQ B.s,?_⟩;rintro _ w3 ⟨f,l3,ef,cf,rfl,s3,g3⟩;refine B.mv s3 g3 rfl λw4 B=>?_
  refine⟨_,_,B.m2,_,rfl,ah (λq=>?_) (λq=>?_)⟩
  .have q2:¬f=0:=by simp at q;omega
   have q3:((f:Int) != 0)=true:=by simpa using q
   refine⟨_,sG B.s,?_⟩;rintro _ w3 ⟨v,l3,ev,cv,rfl,s3,g3⟩;refine B.mv s3 g3 rfl λw4 B=>?_
   exact B.en (ag.cells ⟨c,s,key,k,(f:Int) != 0,v,0⟩) rfl rfl rfl rfl rfl λ_ s5 g5 _=>⟨_,_,by rw[qH,aY ec,aY es,aY CB,aY ek,Jb6 q1,aY ef,Jb5 q2,aY ev,q3],rfl,s5,g5⟩
  .have q2:f=0:=by simp at q;omega
   have q3:((f:Int) != 0)=false:=by simpa using q
   exact B.en (ag.cells ⟨c,s,key,k,(f:Int) != 0,0,0⟩) rfl rfl rfl rfl rfl λ_ s5 g5 _=>⟨_,_,by rw[qH,aY ec,aY es,aY CB,aY ek,Jb6 q1,aY ef,Jb6 q2,q3],rfl,s5,g5⟩
 .have q1:¬k=1:=by simp at q;omega
  refine ah (λq=>?_) (λq=>?_)
  .have q2:k=3:=by simp at q;omega
   refine⟨_,lQ B.s,?_⟩;rintro _ w3 ⟨g,l3,eg,cg,rfl,s3,g3⟩;refine B.mv s3 g3 rfl λw4 B=>?_
   exact B.en (ag.cells ⟨c,s,key,k,false,0,g⟩) rfl rfl rfl rfl rfl λ_ s5 g5 _=>⟨_,_,by rw[qH,aY ec,aY es,aY CB,aY ek,Jb5 q1,Jb6 q2,aY eg],rfl,s5,g5⟩
  .have q2:¬k=3:=by simp at q;omega
   exact B.en (ag.cells ⟨c,s,key,k,false,0,0⟩) rfl rfl rfl rfl rfl λ_ s5 g5 _=>⟨_,_,by rw[qH,aY ec,aY es,aY CB,aY ek,Jb5 q1,Jb5 q2],rfl,s5,g5⟩
end
end
