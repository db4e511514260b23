/- A shard at work (6): slices.DeleteFunc. -/
import Derived.Test.YtignemioillaiaaGreatG36
namespace Go.Proofs.YtignemioillaiaaGreat
set_option maxHeartbeats 8000000
set_option maxRecDepth 100000
section
open Go Go.Conc
abbrev gV(sq:Int)(x:Ra):Bool:=!decide (x.1.seq<=sq)
theorem Ng{w:World}{b:Nat}{sq:Int}(hb:w.heap[b]? = some (.cells #[.int .u32 sq] 47))(r:Rg){ra da:Option Addr}{rn rc dn dc:Nat}:ag Tryz.prog 96 #[.agg (dP r (.slice ra rn rc) (.slice da dn dc)).toArray,Ptt b] w (λv w'=>v=.bool (decide (r.seq<=sq))/\GB none w w'):=by
 refine aj ah mixed Tryz.func96 rfl rfl ?_;refine λw1 b1 m1 g1 l1=>?_
 exact⟨_,_,m1,_,rfl,_,_,g1.get hb nofun,_,rfl,rfl,g1⟩
theorem rH.slr{w0 w:World}{x:Ra}(h:rH w0 w x):∃ra rc da dc,x.2=(.slice ra x.1.rows.length rc,.slice da x.1.aW.length dc):=by
 obtain⟨r,rv,dv⟩:=x;obtain⟨ra,rc,e1⟩:=af h.r.own;obtain⟨da,dc,e2⟩:=af h.d.own;have e1:rv=_:=e1;have e2:dv=_:=e2;exact⟨ra,rc,da,dc,by rw[e1,e2]⟩
theorem X5{w0 w:World}{b:Nat}{sq:Int}(hb:w.heap[b]? = some (.cells #[.int .u32 sq] 47)){q:Value}{rs:List Ra}(h:QN w0 w q rs)(hl:rs.length<=100000):ag Tryz.prog 151 #[q,.func (.func 96) #[] #[Ptt b]] w (λv w'=>∃i:Int,v=.int .i64 i/\GB none w w'/\((i = -1/\∀x∈rs,gV sq x=true)\/(∃k:Nat,i=k/\k<rs.length/\(∀j x,j<k->rs[j]? = some x->gV sq x=true)/\∀x,rs[k]? = some x->gV sq x=false))):=by
 obtain⟨qa,qc,rfl⟩:=af h.q.own;refine aj ah mixed Tryz.func151 rfl rfl ?_;refine⟨λn s wk=>∃i:Nat,n=rs.length - i/\i<=rs.length/\s=[(0,.slice qa rs.length qc),(1,.func (.func 96) #[] #[Ptt b]),(7,.int .i64 rs.length),(8,.int .i64 i)]/\GB none w wk/\∀(j:Nat) (x:Ra),j<i->rs[j]? = some x->gV sq x=true,⟨_,_,⟨0,rfl,Nat.zero_le _,rfl,GB.refl _ _,λ_ _ h=>by omega⟩,rfl,rfl,rfl,rfl,trivial⟩,?_⟩;rintro n s wk ⟨i,rfl,hi,rfl,gk,hk⟩;refine au (λd=>?_) (λd=>?_)
 ·have d1:i<rs.length:=by have:=of_decide_eq_true d;omega
  obtain⟨x,hx⟩:∃x,rs[i]? = some x:=⟨rs[i],by simp[d1]⟩;obtain⟨ra,rc,da,dc,ex⟩:=(h.r x (List.mem_of_getElem? hx)).slr;obtain⟨r,p⟩:=x;have ex:p=(.slice ra r.rows.length rc,.slice da r.aW.length dc):=ex;subst ex;obtain⟨g,cap,cur,ev,hg,aS,hcut,hsz⟩:=(h.q.ax gk).at (f:=uA) (λ_=>rfl) hx;injection ev with ea _ ec;subst ea ec;refine⟨⟨by omega,by omega⟩,_,_,aS,dP r (.slice ra r.rows.length rc) (.slice da r.aW.length dc),hcut,rfl,_,Ng (gk.get hb nofun) r,?_⟩;rintro _ w2 ⟨rfl,g2⟩;refine au (λe=>?_) (λe=>?_)
  ·exact⟨i,rfl,gk.trans g2,.inr ⟨i,rfl,d1,hk,λx hx'=>by rw[hx]at hx';cases hx';simp[gV,of_decide_eq_true e]⟩⟩
  ·refine⟨⟨by omega,by omega⟩,_,_,⟨i+1,rfl,by omega,rfl,gk.trans g2,λj x hj hx'=>?_⟩,⟨rfl,rfl,rfl,rfl,trivial⟩,by omega⟩
   rcases Nat.lt_or_eq_of_le (Nat.lt_succ_iff.1 hj)with q|q
   ·exact hk j x q hx'
   ·subst q;rw[hx]at hx';cases hx';simp[gV,e]
 ·have d1:i=rs.length:=by have:=of_decide_eq_false d;omega
  refine⟨-1,rfl,gk,.inl ⟨rfl,λx hx=>?_⟩⟩;obtain⟨j,hj⟩:=List.getElem?_of_mem hx;exact hk j x (by have:=(List.getElem?_eq_some_iff.1 hj).1;omega) hj
theorem UN{A X B:List Value}{n:Nat}(h:A.length+X.length<=n):(A++X++B).take n=A++X++B.take (n - (A.length+X.length)):=by
 rw[List.take_append,List.take_of_length_le (by rw[List.length_append];omega),List.length_append]
theorem X6{xs:List Value}{off:Nat}{r:Rg}{ra da:Option Addr}{rn rc dn dc:Nat}(h:off+7<=xs.length):F4 xs off 7 (.agg (dP r (.slice ra rn rc) (.slice da dn dc)).toArray)=true:=by
 have h1:Nat.ble (off+7) xs.length=true:=Nat.ble_eq_true_of_le h;show(true && true && Nat.ble (off+7) xs.length)=true;rw[h1];rfl
theorem Rx{α:Type}{f:α->List Value}{size:Nat}(hf:∀x,(f x).length=size)(x':α):∀(l:List α) (i:Nat),i<l.length->(l.map f).flatten.take (i*size)++f x'++(l.map f).flatten.drop (i*size+size)=((l.set i x').map f).flatten:=by
 intro l i hi;have h1:=rX hf l (i+1);rw[Nat.succ_mul]at h1;rw[yh hf,h1,List.set_eq_take_append_cons_drop,if_pos hi,List.map_append,List.map_cons,List.flatten_append,List.flatten_cons,List.append_assoc]
theorem LN.aay{e size:Nat}{w0 w w':World}{α:Type}{f:α->List Value}{l:List α}{g cap:Nat}{cur:Array Value}(h:LN e size w0 w (.slice (some ⟨g,0,none⟩) l.length cap) l.length (l.map f).flatten)(hf:∀x,(f x).length=size)(aS:w.heap[g]? = some (.cells cur e)){i:Nat}(hi:i<l.length){x':α}{off' s1:Nat}{vc:List Value}(hw:w'.heap[g]? = some (.cells (cur.toList.take off'++vc++cur.toList.drop (off'+s1)).toArray e))(e1:off'=i*size)(e2:s1=size)(e3:vc=f x')(gb:GB (some g) w w'):LN e size w0 w' (.slice (some ⟨g,0,none⟩) (l.set i x').length cap) (l.set i x').length ((l.set i x').map f).flatten:=by
 obtain⟨aeN,hc1,h3,h4,h5,h6⟩:=vQ h.own;rw[aS]at hc1;injection hc1 with hc1;injection hc1 with hc1 _;subst hc1;rw[e1,e2,e3]at hw;have h2:(i+1)*size<=l.length*size:=Nat.mul_le_mul_right _ hi;rw[Nat.succ_mul]at h2;have h7:l.length*size<=cap*size:=Nat.mul_le_mul_right _ h3;have hcl:cur.toList.length=cap*size:=by rw[Array.length_toList,h5]
 have hfl:=hf x';rw[List.length_set];refine⟨⟨?_,.inr ⟨g,cap,_,rfl,Nat.zero_le _,hw,h3,h4,?_,?_⟩⟩,h.gb.new gb (h.new g rfl),h.new⟩
 ·rw[j5 hf,List.length_set]
 ·rw[List.size_toArray,List.length_append,List.length_append,List.length_take,List.length_drop,hfl,hcl];omega
 ·show(cur.toList.take (i*size)++f x'++cur.toList.drop (i*size+size)).take (l.length*size)=_
  have hta:(cur.toList.take (i*size)).length=i*size:=by rw[List.length_take];omega
  rw[<-Rx hf x' l i hi,<-h6,List.take_take,Nat.min_eq_left (by omega),List.drop_take,UN (by rw[hta,hfl];omega),hta,hfl]
theorem H5{α:Type}(p:α->Bool){l:List α}{j:Nat}{x:α}(h:l[j]? = some x):(l.take (j+1)).filter p=(l.take j).filter p++(if p x=true then[x]else[]):=by
 rw[List.take_add_one,h,List.filter_append];cases hp:p x<;>simp[hp]
theorem LN.cut{e size:Nat}{w0 w w':World}{α:Type}{f:α->List Value}{l:List α}{g cap:Nat}{cur:Array Value}(h:LN e size w0 w (.slice (some ⟨g,0,none⟩) l.length cap) l.length (l.map f).flatten)(hf:∀x,(f x).length=size)(aS:w.heap[g]? = some (.cells cur e)){i off:Nat}(hi:i<=l.length){zs:List Value}(hz:off+zs.length<=cur.size)(he:off=i*size)(hw:w'.heap[g]? = some (.cells (cur.toList.take off++zs++cur.toList.drop (off+zs.length)).toArray e))(gb:GB (some g) w w'):LN e size w0 w' (.slice (some ⟨g,0,none⟩) i cap) (l.take i).length ((l.take i).map f).flatten:=by
 obtain⟨aeN,hc1,h3,h4,h5,h6⟩:=vQ h.own;rw[aS]at hc1;injection hc1 with hc1;injection hc1 with hc1 _;subst hc1;rw[he]at hw hz;have h2:i*size<=l.length*size:=Nat.mul_le_mul_right _ hi;have hlen:(l.take i).length=i:=by rw[List.length_take];omega
 have h7:l.length*size<=cap*size:=Nat.mul_le_mul_right _ h3;have hcl:cur.toList.length=cap*size:=by rw[Array.length_toList,h5]
 rw[hlen];refine⟨⟨by rw[j5 hf,hlen],.inr ⟨g,cap,_,rfl,Nat.zero_le _,hw,by omega,h4,?_,?_⟩⟩,h.gb.new gb (h.new g rfl),h.new⟩
 ·rw[List.size_toArray,List.length_append,List.length_append,List.length_take,List.length_drop,hcl];omega
 ·show(cur.toList.take (i*size)++zs++_).take (i*size)=_
  rw[<-yh hf,<-h6,List.take_take,Nat.min_eq_left h2,List.append_assoc,List.take_append_of_le_length (by rw[List.length_take];omega),List.take_take,Nat.min_self]
theorem X7{w0 w:World}{b:Nat}{sq:Int}(hb:w.heap[b]? = some (.cells #[.int .u32 sq] 47)){q:Value}{rs:List Ra}(h:QN w0 w q rs)(hl:rs.length<=100000):ag Tryz.prog 95 #[q,.func (.func 96) #[] #[Ptt b]] w (λv w'=>QN w0 w' v (rs.filter (gV sq))/\GB q.ownBlock w w'/\v.ownBlock=q.ownBlock):=by
 obtain⟨qa,qc,rfl⟩:=af h.q.own;refine aj ah mixed Tryz.func95 rfl rfl ?_;refine⟨_,X5 hb h hl,?_⟩;rintro _ w1 ⟨i0,rfl,g1,hcase⟩;rcases hcase with⟨rfl,hall⟩|⟨i,rfl,hi,hbef,hat⟩
 ·have hf:rs.filter (gV sq)=rs:=List.filter_eq_self.2 hall
  rw[hf];exact⟨h.ax g1,g1.weak,rfl⟩
 obtain⟨x0,hx0⟩:∃x,rs[i]? = some x:=⟨rs[i],by simp[hi]⟩;obtain⟨g,cap,aeM,ev,hg,abZ,_,_⟩:=(h.q.ax g1).at (f:=uA) (λ_=>rfl) hx0;injection ev with ea _ ec;subst ea ec;refine⟨⟨by omega,by omega⟩,?_⟩;have hfi:(rs.take i).filter (gV sq)=rs.take i:=List.filter_eq_self.2 λx hx=>by
  obtain⟨j,hj⟩:=List.getElem?_of_mem hx;have hjl:=(List.getElem?_eq_some_iff.1 hj).1;rw[List.length_take]at hjl;rw[List.getElem?_take]at hj;exact hbef j x (by omega) (by split at hj<;>first|exact hj|cases hj)
 refine⟨λn s wk=>∃(i j:Nat) (cs:List Ra),n=rs.length - j/\i<j/\j<=rs.length/\s=[(0,.slice (some ⟨g,0,none⟩) rs.length qc),(1,.func (.func 96) #[] #[Ptt b]),(5,.int .i64 i),(6,.int .i64 j)]/\cs.length=rs.length/\LN 52 7 w0 wk (.slice (some ⟨g,0,none⟩) cs.length qc) cs.length (cs.map uA).flatten/\cs.take i=(rs.take j).filter (gV sq)/\(∀k,j<=k->cs[k]? = rs[k]?)/\(∀x∈rs,rH w0 wk x)/\GB (some g) w wk,⟨_,_,⟨i,i+1,rs,rfl,by omega,by omega,rfl,rfl,h.q.ax g1,?_,λ_ _=>rfl,λx hx=>(h.r x hx).ax g1,g1.weak⟩,rfl,rfl,rfl,rfl,trivial⟩,?_⟩
 ·rw[H5 (gV sq) hx0,hat x0 hx0,hfi];simp
 clear hfi hbef hat hx0 abZ;rintro n s wk ⟨i,j,cs,rfl,hij,hj,rfl,hcl,L,htk,hrest,hR,gk⟩;have hil:i=((rs.take j).filter (gV sq)).length:=by rw[<-htk,List.length_take];omega
 refine au (λd=>?_) (λd=>?_)
 ·have d1:j<rs.length:=by have:=of_decide_eq_true d;omega
  obtain⟨x,hx⟩:∃x,rs[j]? = some x:=⟨rs[j],by simp[d1]⟩;have hfn:=H5 (gV sq) hx;have hx':cs[j]? = some x:=(hrest j (Nat.le_refl _)).trans hx;obtain⟨ra,rc,da,dc,ex⟩:=(hR x (List.mem_of_getElem? hx)).slr;obtain⟨r,p⟩:=x;have ex:p=(.slice ra r.rows.length rc,.slice da r.aW.length dc):=ex;subst ex;obtain⟨g',cap',cur,ev,_,aS,hcut,hsz⟩:=L.at (f:=uA) (λ_=>rfl) hx';injection ev with ea _ ec;injection ea with ea;injection ea with ea;subst ea ec;refine⟨⟨by omega,by omega⟩,_,_,aS,dP r (.slice ra r.rows.length rc) (.slice da r.aW.length dc),hcut,rfl,λw2 b2 m2 g2 l2=>⟨_,_,_,m2,rfl,rfl,λw3 m3 g3=>?_⟩⟩;have G3:=g2.new g3 l2;have hbk:wk.heap[b]? = some (.cells #[.int .u32 sq] 47):=gk.get hb λz=>by
   obtain⟨c,hc⟩:=ay h.q.own (g:=g) rfl;exact dw hb hc (by decide) (Option.some.inj z)
  refine⟨_,_,m3,dP r (.slice ra r.rows.length rc) (.slice da r.aW.length dc),rfl,rfl,_,Ng (G3.get hbk nofun) r,?_⟩;rintro _ w4 ⟨rfl,g4⟩;have G4:=G3.trans g4;have m4:=g4.get m3 nofun;have q9:=G4.get aS nofun;have L4:=L.ax G4;refine au (λe=>?_) (λe=>?_)
  ·have e1:gV sq (r,Value.slice ra r.rows.length rc,Value.slice da r.aW.length dc)=true:=by simpa[gV]using e
   rw[e1,if_pos rfl]at hfn;refine⟨_,_,m4,dP r (.slice ra r.rows.length rc) (.slice da r.aW.length dc),rfl,rfl,⟨by omega,by omega⟩,_,_,_,q9,?_,rfl,λw5 m5 g5=>?_⟩
   ·exact X6 (by rw[Array.length_toList];show 0+(i:Int).toNat*7+7<=_;omega)
   have L5:=L4.aay (f:=uA) (x':=(r,.slice ra r.rows.length rc,.slice da r.aW.length dc)) (λ_=>rfl) q9 (i:=i) (by omega) m5 (by show 0+(i:Int).toNat*7=_;omega) rfl rfl g5;refine⟨⟨by omega,by omega⟩,⟨by omega,by omega⟩,_,_,⟨i+1,j+1,cs.set i (r,.slice ra r.rows.length rc,.slice da r.aW.length dc),rfl,by omega,by omega,rfl,by rw[List.length_set];exact hcl,L5,?_,λk hk=>?_,λx hx=>((hR x hx).ax G4).bV g5 q9 (by decide) (by decide) hg,(gk.trans G4.weak).trans g5⟩,⟨rfl,rfl,rfl,rfl,trivial⟩,by omega⟩
   ·rw[hfn,<-htk,List.take_add_one,List.take_set_of_le (Nat.le_refl _),jb (by omega),if_pos rfl];rfl
   ·rw[jb (by omega),if_neg (by omega)]
    exact hrest k (by omega)
  ·have e1:gV sq (r,Value.slice ra r.rows.length rc,Value.slice da r.aW.length dc)=false:=by simpa[gV]using e
   rw[e1,if_neg (by decide),List.append_nil]at hfn;exact⟨⟨by omega,by omega⟩,_,_,⟨i,j+1,cs,rfl,by omega,by omega,rfl,hcl,L4,by rw[hfn];exact htk,λk hk=>hrest k (by omega),λx hx=>(hR x hx).ax G4,gk.trans G4.weak⟩,⟨rfl,rfl,rfl,rfl,trivial⟩,by omega⟩
 ·have d1:j=rs.length:=by have:=of_decide_eq_false d;omega
  subst d1;rw[List.take_length]at htk;obtain⟨cur,aS,h3,h4,h5,h6⟩:=vQ L.own;refine⟨⟨by omega,by omega,by omega⟩,?_⟩;rw[jv (show ¬qc=((i:Int)).toNat by omega)];refine⟨by omega,cur,_,aS,?_,λzs w3 hzs m3 g3=>?_⟩
  ·rw[h5];show _*7+_*7<=_;omega
  have hzl:zs.length=(rs.length - i)*7:=by rw[hzs];show(_ - _)*7=_;omega
  have L3:=L.cut (f:=uA) (λ_=>rfl) aS (i:=i) (by omega) (by rw[hzl,h5];show((i:Int)).toNat*7+_<=_;omega) (by show((i:Int)).toNat*7=_;omega) m3 g3;rw[htk]at L3;refine⟨⟨by omega,by omega⟩,⟨?_,λx hx=>((hR x ((List.mem_filter.1 hx).1)).bV g3 aS (by decide) (by decide) hg)⟩,gk.trans g3,rfl⟩;exact L3
theorem LN.off{e size n:Nat}{w0 w w1:World}{v:Value}{ys:List Value}{vo:Option Nat}(k:LN e size w0 w v n ys)(g:GB vo w w1)(hne:∀x,vo=some x->v.ownBlock≠some x)(gw:GB none w0 w1):LN e size w0 w1 v n ys :=
 ⟨az k.own λy hy=>by
  obtain⟨c,hc⟩:=ay k.own hy;exact g.block y (ae hc) λz=>hne y z.symm hy,gw,k.new⟩
theorem bS{e e' size size' n n':Nat}{w0 w0' w:World}{v v':Value}{xs ys:List Value}(h:LN e size w0 w v n xs)(k:LN e' size' w0' w v' n' ys)(he:e≠e'):∀x,v.ownBlock=some x->v'.ownBlock≠some x:=λx hx hy=>by
 obtain⟨c,hc⟩:=ay h.own hx;obtain⟨c',hc'⟩:=ay k.own hy;exact dw hc hc' he rfl
theorem rH.off{w0 w w1:World}{x:Ra}{vo:Option Nat}(h:rH w0 w x)(g:GB vo w w1)(h1:∀y,vo=some y->x.2.1.ownBlock≠some y)(h2:∀y,vo=some y->x.2.2.ownBlock≠some y)(gw:GB none w0 w1):rH w0 w1 x:=⟨h.r.off g h1 gw,h.d.off g h2 gw⟩
def zm(b:Nat)(T D O I:Value)(ls:List La)(x:Nat):Prop:=x=b\/T.ownBlock=some x\/D.ownBlock=some x\/O.ownBlock=some x\/I.ownBlock=some x\/∃l∈ls,l.2.1.ownBlock=some x
abbrev aD:=Nat->Option Obj
def aD.add(Λ:aD)(b:Nat)(o:Obj):aD:=λx=>if x=b then some o else Λ x
def SRd(M:Value)(ls:List La)(x:Nat):Prop:=M.ownBlock=some x\/∃l∈ls,∃y∈l.2.2,y.2.1.ownBlock=some x\/y.2.2.ownBlock=some x
structure Sw(Λ:aD)(w0:World)(b:Nat)(s:St)(w:World)(T M D O I:Value)(ls:List La):Prop where
 mem:w.heap[b]? = some (.cells (iC s T M D O I).toArray 31)
 nb:w0.heap.size<=b
 sa:SA w0 w s T M D O I ls
 pr:∀x o,Λ x=some o->w.heap[x]? = some o/\¬zm b T D O I ls x
 rd:∀x o,Λ x=some o->¬SRd M ls x
def Sk(Λ:aD)(w0:World)(b:Nat)(s:St)(w:World):Prop:=∃T M D O I ls,Sw Λ w0 b s w T M D O I ls
section
variable{Λ:aD}{w0 w w1 w':World}{b:Nat}{s:St}{T M D O I:Value}{ls:List La}
theorem Sw.gb(h:Sw Λ w0 b s w T M D O I ls):GB none w0 w:=h.sa.t.gb
theorem Sw.lt(h:Sw Λ w0 b s w T M D O I ls){x:Nat}(hx:zm b T D O I ls x):x<w.heap.size:=by
 rcases hx with rfl|hx|hx|hx|hx|⟨l,hl,hx⟩
 ·exact ae h.mem
 ·exact h.sa.t.lt hx
 ·exact h.sa.d.lt hx
 ·exact h.sa.o.lt hx
 ·exact h.sa.i.lt hx
 ·exact(h.sa.q l hl).q.lt hx
theorem Sw.new(h:Sw Λ w0 b s w T M D O I ls){x:Nat}(hx:zm b T D O I ls x):w0.heap.size<=x:=by
 rcases hx with rfl|hx|hx|hx|hx|⟨l,hl,hx⟩
 ·exact h.nb
 ·exact h.sa.t.new _ hx
 ·exact h.sa.d.new _ hx
 ·exact h.sa.o.new _ hx
 ·exact h.sa.i.new _ hx
 ·exact(h.sa.q l hl).q.new _ hx
theorem Sw.ax(h:Sw Λ w0 b s w T M D O I ls)(g:GB none w w'):Sw Λ w0 b s w' T M D O I ls:=⟨g.get h.mem nofun,h.nb,h.sa.ax g,λx o hx=>⟨g.get (h.pr x o hx).1 nofun,(h.pr x o hx).2⟩,h.rd⟩
theorem Sw.rlt(h:Sw Λ w0 b s w T M D O I ls){x:Nat}(hx:SRd M ls x):x<w.heap.size:=by
 rcases hx with hx|⟨l,hl,y,hy,hx|hx⟩
 ·exact h.sa.m.lt hx
 ·exact((h.sa.q l hl).r y hy).r.lt hx
 ·exact((h.sa.q l hl).r y hy).d.lt hx
theorem Sw.box(h:Sw Λ w0 b s w T M D O I ls){x:Nat}{o:Obj}(g:GB none w w')(hx:w'.heap[x]? = some o)(hl:w.heap.size<=x):Sw (Λ.add x o) w0 b s w' T M D O I ls:=by
 have h1:=h.ax g;refine⟨h1.mem,h1.nb,h1.sa,λy q hy=>?_,λy q hy=>?_⟩
 ·unfold aD.add at hy
  split at hy
  ·rename_i e;subst e;cases hy;exact⟨hx,λho=>by have:=h.lt ho;omega⟩
  ·exact h1.pr y q hy
 ·unfold aD.add at hy
  split at hy
  ·rename_i e;subst e;exact λho=>by have:=h.rlt ho;omega
  ·exact h1.rd y q hy
theorem Sw.qM(h:Sw Λ w0 b s w T M D O I ls){x:Nat}(hb:w.heap.size<=x):Λ x=none:=by
 cases hp:Λ x with
 |none=>rfl
 |some o=>have:=ae (h.pr x o hp).1;omega
theorem Sw.drop{x:Nat}{o:Obj}(h:Sw (Λ.add x o) w0 b s w T M D O I ls)(hx:Λ x=none):Sw Λ w0 b s w T M D O I ls:=⟨h.mem,h.nb,h.sa,λy q hy=>h.pr y q (by
 unfold aD.add;rw[if_neg (λe=>by subst e;rw[hx]at hy;cases hy)];exact hy),λy q hy=>h.rd y q (by
 unfold aD.add;rw[if_neg (λe=>by subst e;rw[hx]at hy;cases hy)];exact hy)⟩
theorem Sw.at{x:Nat}{o:Obj}(h:Sw (Λ.add x o) w0 b s w T M D O I ls):w.heap[x]? = some o:=(h.pr x o (by unfold aD.add;simp)).1
theorem Sk.ax(h:Sk Λ w0 b s w)(g:GB none w w'):Sk Λ w0 b s w':=by obtain⟨T,M,D,O,I,ls,h⟩:=h;exact⟨T,M,D,O,I,ls,h.ax g⟩
theorem Sk.box(h:Sk Λ w0 b s w){x:Nat}{o:Obj}(g:GB none w w')(hx:w'.heap[x]? = some o)(hl:w.heap.size<=x):Sk (Λ.add x o) w0 b s w'/\Λ x=none:=by obtain⟨T,M,D,O,I,ls,h⟩:=h;exact⟨⟨T,M,D,O,I,ls,h.box g hx hl⟩,h.qM hl⟩
theorem Sw.Wi(h:Sw Λ w0 b s w T M D O I ls){vo:Option Nat}(ho:∀x,vo=some x->zm b T D O I ls x)(g:GB vo w w'):∀x o,Λ x=some o->w'.heap[x]? = some o:=λx o hx=>g.get (h.pr x o hx).1 λe=>(h.pr x o hx).2 (ho x e.symm)
theorem Sw.bk(h:Sw Λ w0 b s w T M D O I ls){e size n:Nat}{v:Value}{xs:List Value}(L:LN e size w0 w v n xs)(he:e≠31)(g:GB v.ownBlock w w'):w'.heap[b]? = some (.cells (iC s T M D O I).toArray 31):=g.get h.mem λz=>by
 obtain⟨c,hc⟩:=ay L.own z.symm;exact dw hc h.mem he rfl
theorem Sw.Wj(h:Sw Λ w0 b s w T M D O I ls){vo:Option Nat}(ho:∀x,vo=some x->zm b T D O I ls x)(g:GB vo w w'):GB none w0 w' :=
 ⟨g.os.trans h.gb.os,g.out.trans h.gb.out,Nat.le_trans h.gb.size g.size,λx hx _=>(g.block x (Nat.lt_of_lt_of_le hx h.gb.size) λe=>by have:=h.new (ho x e.symm);omega).trans (h.gb.block x hx nofun)⟩
theorem Sw.oD(h:Sw Λ w0 b s w T M D O I ls){T':Value}{t':List Row}(L:LN 128 2 w0 w1 T' t'.length (t'.map Row.cells).flatten)(g:GB T.ownBlock w w1)(n:∀x,T'.ownBlock=some x->T.ownBlock=some x\/w.heap.size<=x)(m2:w'.heap[b]? = some (.cells (iC { s with T:=t' } T' M D O I).toArray 31))(g2:GB (some b) w1 w'):Sw Λ w0 b { s with T:=t' } w' T' M D O I ls:=by
 have ho:∀x,T.ownBlock=some x->zm b T D O I ls x:=λx hx=>.inr (.inl hx)
 have gw:=h.Wj ho g;have mb:=h.bk h.sa.t (by decide) g;have q1:∀l∈ls,QN w0 w1 l.2.1 l.2.2:=λl hl=>⟨(h.sa.q l hl).q.off g (bS h.sa.t (h.sa.q l hl).q (by decide)) gw,λx hx=>((h.sa.q l hl).r x hx).off g (λy hy=>h.sa.sT l hl x hx y hy) (bS h.sa.t ((h.sa.q l hl).r x hx).d (by decide)) gw⟩
 have sT':∀l∈ls,∀x∈l.2.2,∀g,T'.ownBlock=some g->x.2.1.ownBlock≠some g:=λl hl x hx y hy he=>by
  rcases n y hy with q|q
  ·exact h.sa.sT l hl x hx y q he
  ·have:=((h.sa.q l hl).r x hx).r.lt he;omega
 have S:SA w0 w1 { s with T:=t' } T' M D O I ls:=⟨L,h.sa.m.off g (bS h.sa.t h.sa.m (by decide)) gw,h.sa.d.off g (bS h.sa.t h.sa.d (by decide)) gw,h.sa.o.off g (bS h.sa.t h.sa.o (by decide)) gw,h.sa.i.off g (bS h.sa.t h.sa.i (by decide)) gw,q1,h.sa.core,sT',h.sa.sD,h.sa.sQ⟩;refine⟨m2,h.nb,S.bV g2 mb (by decide) (by decide) (by decide) (by decide) (by decide) (by decide) h.nb,λx o hx=>⟨g2.get (h.Wi ho g x o hx) λe=>(h.pr x o hx).2 (.inl (Option.some.inj e)),λhs=>?_⟩,h.rd⟩;rcases hs with hs|hs|hs
 ·exact(h.pr x o hx).2 (.inl hs)
 ·rcases n x hs with q|q
  ·exact(h.pr x o hx).2 (.inr (.inl q))
  ·have:=ae (h.pr x o hx).1;omega
 ·exact(h.pr x o hx).2 (.inr (.inr hs))
theorem Sw.O7(h:Sw Λ w0 b s w T M D O I ls){D':Value}{d':List aB}(L:LN 57 7 w0 w1 D' d'.length (d'.map aB.cells).flatten)(g:GB D.ownBlock w w1)(n:∀x,D'.ownBlock=some x->D.ownBlock=some x\/w.heap.size<=x)(m2:w'.heap[b]? = some (.cells (iC { s with D:=d' } T M D' O I).toArray 31))(g2:GB (some b) w1 w'):Sw Λ w0 b { s with D:=d' } w' T M D' O I ls:=by
 have ho:∀x,D.ownBlock=some x->zm b T D O I ls x:=λx hx=>.inr (.inr (.inl hx))
 have gw:=h.Wj ho g;have mb:=h.bk h.sa.d (by decide) g;have q1:∀l∈ls,QN w0 w1 l.2.1 l.2.2:=λl hl=>⟨(h.sa.q l hl).q.off g (bS h.sa.d (h.sa.q l hl).q (by decide)) gw,λx hx=>((h.sa.q l hl).r x hx).off g (bS h.sa.d ((h.sa.q l hl).r x hx).r (by decide)) (λy hy=>h.sa.sD l hl x hx y hy) gw⟩
 have sD':∀l∈ls,∀x∈l.2.2,∀g,D'.ownBlock=some g->x.2.2.ownBlock≠some g:=λl hl x hx y hy he=>by
  rcases n y hy with q|q
  ·exact h.sa.sD l hl x hx y q he
  ·have:=((h.sa.q l hl).r x hx).d.lt he;omega
 have S:SA w0 w1 { s with D:=d' } T M D' O I ls:=⟨h.sa.t.off g (bS h.sa.d h.sa.t (by decide)) gw,h.sa.m.off g (bS h.sa.d h.sa.m (by decide)) gw,L,h.sa.o.off g (bS h.sa.d h.sa.o (by decide)) gw,h.sa.i.off g (bS h.sa.d h.sa.i (by decide)) gw,q1,h.sa.core,h.sa.sT,sD',h.sa.sQ⟩;refine⟨m2,h.nb,S.bV g2 mb (by decide) (by decide) (by decide) (by decide) (by decide) (by decide) h.nb,λx o hx=>⟨g2.get (h.Wi ho g x o hx) λe=>(h.pr x o hx).2 (.inl (Option.some.inj e)),λhs=>?_⟩,h.rd⟩;rcases hs with hs|hs|hs|hs
 ·exact(h.pr x o hx).2 (.inl hs)
 ·exact(h.pr x o hx).2 (.inr (.inl hs))
 ·rcases n x hs with q|q
  ·exact(h.pr x o hx).2 (.inr (.inr (.inl q)))
  ·have:=ae (h.pr x o hx).1;omega
 ·exact(h.pr x o hx).2 (.inr (.inr (.inr hs)))
theorem Sw.aaz(h:Sw Λ w0 b s w T M D O I ls){M':Value}{m':List Pc}(L:PN w0 w M' m')(hM:∀x,M'.ownBlock=some x->Λ x=none)(m2:w'.heap[b]? = some (.cells (iC { s with M:=m' } T M' D O I).toArray 31))(g2:GB (some b) w w'):Sw Λ w0 b { s with M:=m' } w' T M' D O I ls:=by
 have S:SA w0 w { s with M:=m' } T M' D O I ls:=⟨h.sa.t,L,h.sa.d,h.sa.o,h.sa.i,h.sa.q,h.sa.core,h.sa.sT,h.sa.sD,h.sa.sQ⟩;exact⟨m2,h.nb,S.bV g2 h.mem (by decide) (by decide) (by decide) (by decide) (by decide) (by decide) h.nb,λx o hx=>⟨g2.get (h.pr x o hx).1 λe=>(h.pr x o hx).2 (.inl (Option.some.inj e)),(h.pr x o hx).2⟩,λx o hx hr=>by
  rcases hr with hr|hr
  ·rw[hM x hr]at hx;cases hx
  ·exact h.rd x o hx (.inr hr)⟩
theorem Sw.other{x t:Nat}{c:Array Value}{o':Obj}(h:Sw (Λ.add x (.cells c t)) w0 b s w T M D O I ls)(hx:Λ x=none)(g:GB (some x) w w')(m:w'.heap[x]? = some o')(hn:w0.heap.size<=x):Sw (Λ.add x o') w0 b s w' T M D O I ls:=by
 have hxo:(Λ.add x (.cells c t)) x=some (.cells c t):=by unfold aD.add;simp
 have no:=(h.pr x _ hxo).2;have nr:=h.rd x _ hxo;have gw:GB none w0 w':=h.gb.new g hn;have st:∀{e size n:Nat} {v:Value} {xs:List Value},LN e size w0 w v n xs->v.ownBlock≠some x->LN e size w0 w' v n xs:=λL hv=>L.off g (λy hy=>by cases hy;exact hv) gw
 refine⟨g.get h.mem λe=>no (.inl (Option.some.inj e).symm),h.nb,⟨st h.sa.t λz=>no (.inr (.inl z)),st h.sa.m λz=>nr (.inl z),st h.sa.d λz=>no (.inr (.inr (.inl z))),st h.sa.o λz=>no (.inr (.inr (.inr (.inl z)))),st h.sa.i λz=>no (.inr (.inr (.inr (.inr (.inl z))))),λl hl=>⟨st (h.sa.q l hl).q λz=>no (.inr (.inr (.inr (.inr (.inr ⟨l,hl,z⟩))))),λy hy=>⟨st ((h.sa.q l hl).r y hy).r λz=>nr (.inr ⟨l,hl,y,hy,.inl z⟩),st ((h.sa.q l hl).r y hy).d λz=>nr (.inr ⟨l,hl,y,hy,.inr z⟩)⟩⟩,h.sa.core,h.sa.sT,h.sa.sD,h.sa.sQ⟩,λy q hy=>?_,λy q hy=>?_⟩
 ·unfold aD.add at hy
  split at hy
  ·rename_i e;subst e;cases hy;exact⟨m,no⟩
  ·rename_i e
   have:=h.pr y q (by unfold aD.add;rw[if_neg e];exact hy);exact⟨g.get this.1 λz=>e (Option.some.inj z),this.2⟩
 ·unfold aD.add at hy
  split at hy
  ·rename_i e;subst e;exact nr
  ·rename_i e
   exact h.rd y q (by unfold aD.add;rw[if_neg e];exact hy)
end
theorem UO{xs:List Value}{off:Nat}{q:aB}(h:off+7<=xs.length):F4 xs off 7 (.agg q.cells.toArray)=true:=by
 have h1:Nat.ble (off+7) xs.length=true:=Nat.ble_eq_true_of_le h;show(true && true && Nat.ble (off+7) xs.length)=true;rw[h1];rfl
section
variable{Λ:aD}{w0 w:World}{b:Nat}{s:St}
theorem aaA(h:Sk Λ w0 b s w)(hs:gJ s.T)(hl:s.T.length<=100000)(key val:Int):ag Tryz.prog 140 #[Ptt b,.int .u64 key,.int .u64 val] w (λv w'=>v=.int .u8 (rW s.T key)/\Sk Λ w0 b { s with T:=oD s.T key val } w'):=by
 obtain⟨T,M,D,O,I,ls,h⟩:=h;refine aj ah mixed Tryz.func140 rfl rfl ?_;refine⟨_,Kn h.mem h.sa.t.fz (Nat.le_trans hl (by decide)) hs key,?_⟩;rintro _ w1 ⟨rfl,g1⟩;replace h:=h.ax g1;unfold rW oD;obtain⟨a,ha⟩:∃a,kU s.T key=a:=⟨_,rfl⟩;rw[ha];cases a
 ·obtain⟨Ta,Tc,rfl⟩:=af h.sa.t.own
  simp only[Bool.false_eq_true,if_false];refine⟨_,_,h.mem,_,rfl,au (λe=>?_) (λe=>?_)⟩
  ·have e1:=of_decide_eq_true e
   rw[if_pos (by omega),if_pos (by omega)];exact⟨rfl,_,_,_,_,_,_,h⟩
  ·have e1:=of_decide_eq_false e
   rw[if_neg (by omega),if_neg (by omega)];refine⟨_,_,h.mem,_,rfl,λw2 b2 m2 g2 l2=>?_⟩;have h2:=h.ax g2;refine⟨_,XX h2.sa.t hl (i:=tT s.T key) (BX _ _) (x:=⟨key,val⟩) m2 (λz=>by have:=h.sa.t.lt z;omega),?_⟩;rintro T' w3 ⟨L,g3,n3⟩;obtain⟨Rs,Rt,rfl⟩:=af L.own;refine⟨_,_,_,h2.bk h2.sa.t (by decide) g3,rfl,rfl,λw4 m4 g4=>?_⟩;exact⟨rfl,_,_,_,_,_,_,h2.oD L g3 n3 m4 g4⟩
 ·obtain⟨x,hx,hx0⟩:=yg ha
  have hxk:x.key=key:=mG.1 hx0;have hi:tT s.T key<s.T.length:=(List.getElem?_eq_some_iff.1 hx).1;obtain⟨g,cap,cur,ev,hg,aS,hcut,hsz⟩:=h.sa.t.at (f:=Row.cells) (λ_=>rfl) hx;subst ev;refine⟨_,_,h.mem,_,rfl,⟨by omega,by omega⟩,_,_,_,aS,gp rfl rfl (by rw[Array.length_toList];show 0+((tT s.T key:Nat):Int).toNat*2+1<_;omega),rfl,λw2 m2 g2=>?_⟩;have L:=h.sa.t.set (f:=Row.cells) (j:=1) (x':=⟨key,val⟩) (λ_=>rfl) aS hx (by decide) (by rw[<-hxk];rfl) m2 (by show 0+((tT s.T key:Nat):Int).toNat*2+1=tT s.T key*2+1;rw[Int.toNat_natCast,Nat.zero_add]) rfl rfl g2;have mb:=h.bk h.sa.t (by decide) g2;rw[if_pos rfl,if_pos rfl];refine⟨rfl,_,_,_,_,_,_,h.oD (w1:=w2) (t':=s.T.set (tT s.T key) ⟨key,val⟩) (T':=.slice (some ⟨g,0,none⟩) s.T.length cap) ?_ g2 (λx hx=>.inl hx) mb (GB.refl _ _)⟩;rw[List.length_set]at L |-;exact L
theorem Ry(h:Sk Λ w0 b s w)(hs:gJ s.T)(hl:s.T.length<=100000)(key:Int):ag Tryz.prog 141 #[Ptt b,.int .u64 key] w (λv w'=>v=.int .u8 2/\Sk Λ w0 b { s with T:=xu s.T key } w'):=by
 obtain⟨T,M,D,O,I,ls,h⟩:=h;refine aj ah mixed Tryz.func141 rfl rfl ?_;refine⟨_,Kn h.mem h.sa.t.fz (Nat.le_trans hl (by decide)) hs key,?_⟩;rintro _ w1 ⟨rfl,g1⟩;replace h:=h.ax g1;unfold xu;obtain⟨a,ha⟩:∃a,kU s.T key=a:=⟨_,rfl⟩;rw[ha];cases a
 ·exact⟨rfl,_,_,_,_,_,_,h⟩
 ·obtain⟨x,hx,hx0⟩:=yg ha
  have hi:tT s.T key<s.T.length:=(List.getElem?_eq_some_iff.1 hx).1;refine⟨_,_,h.mem,_,rfl,⟨by omega,by omega⟩,_,X0 h.sa.t hl hi,?_⟩;rintro T' w3 ⟨L,g3,n3⟩;obtain⟨Rs,Rt,rfl⟩:=af L.own;refine⟨_,_,_,h.bk h.sa.t (by decide) g3,rfl,rfl,λw4 m4 g4=>?_⟩;exact⟨rfl,_,_,_,_,_,_,h.oD L g3 n3 m4 g4⟩
theorem pg(h:Sk Λ w0 b s w)(hs:iN s.D)(hl:s.D.length<=100000)(q:aB):ag Tryz.prog 143 #[Ptt b,.agg q.cells.toArray] w (λv w'=>v=.tuple #[]/\Sk Λ w0 b { s with D:=ji s.D q } w'):=by
 refine aj ah mixed Tryz.func143 rfl rfl ?_;refine λw1 b1 m1 g1 l1=>?_
 obtain⟨hb,hu⟩:=h.box g1 m1 l1;obtain⟨T,M,D,O,I,ls,h⟩:=hb;refine⟨_,_,m1,q.cells,rfl,rfl,_,Ru h.mem h.sa.d.fz (Nat.le_trans hl (by decide)) hs q,?_⟩;rintro _ w2 ⟨rfl,g2⟩;replace h:=h.ax g2;unfold ji;obtain⟨a,ha⟩:∃a,Ka s.D q=a:=⟨_,rfl⟩;rw[ha];cases a
 ·simp only[Bool.false_eq_true,if_false]
  refine⟨by kernel_rfl,_,_,h.mem,_,rfl,_,_,h.at,q.cells,rfl,rfl,λw3 b3 m3 g3 l3=>?_⟩;have h3:=h.ax g3;refine⟨⟨h3.at,h3.mem,trivial⟩,_,XY h3.sa.d hl (i:=zM s.D q) (BX _ _) (x:=q) m3 (λz=>by have:=h.sa.d.lt z;omega),?_⟩;rintro D' w4 ⟨L,g4,n4⟩;obtain⟨V9,Wd,rfl⟩:=af L.own;refine⟨_,_,_,h3.bk h3.sa.d (by decide) g4,rfl,rfl,λw5 m5 g5=>?_⟩;exact⟨rfl,_,_,_,_,_,_,(h3.O7 L g4 n4 m5 g5).drop hu⟩
 ·obtain⟨x,hx,hx0⟩:=yg ha
  have hi:zM s.D q<s.D.length:=(List.getElem?_eq_some_iff.1 hx).1;obtain⟨g,cap,cur,ev,hg,aS,hcut,hsz⟩:=h.sa.d.at (f:=aB.cells) (λ_=>rfl) hx;subst ev;refine⟨by kernel_rfl,_,_,h.mem,_,rfl,_,_,h.at,q.cells,rfl,rfl,⟨by omega,by omega⟩,_,_,_,aS,UO (by rw[Array.length_toList];show 0+((zM s.D q:Nat):Int).toNat*7+7<=_;omega),rfl,λw3 m3 g3=>?_⟩;have L:=h.sa.d.aay (f:=aB.cells) (x':=q) (λ_=>rfl) aS hi m3 (by show 0+((zM s.D q:Nat):Int).toNat*7=_;omega) rfl rfl g3;have mb:=h.bk h.sa.d (by decide) g3;rw[if_pos rfl];refine⟨rfl,_,_,_,_,_,_,(h.O7 (w1:=w3) (d':=s.D.set (zM s.D q) q) (D':=.slice (some ⟨g,0,none⟩) s.D.length cap) ?_ g3 (λx hx=>.inl hx) mb (GB.refl _ _)).drop hu⟩;rw[List.length_set]at L |-;exact L
end
structure vR(s:St):Prop where
 g0:0<=s.g
 gn:s.g<s.n
 n4:s.n<=4
 sT:gJ s.T
 sD:iN s.D
 CL:lL s.M=true
 can:Can s.M
 ol:(s.O.length:Int)=s.n
 il:(s.I.length:Int)=s.n
section
variable{Λ:aD}{w0 w:World}{b:Nat}{s:St}{T M D O I:Value}{ls:List La}
theorem Sw.lane(h:Sw Λ w0 b s w T M D O I ls){j:Nat}{o:Int×List Rg}(ho:s.O[j]? = some o):∃l,ls[j]? = some l/\Nb l=o:=by
 rw[<-h.sa.core,List.getElem?_map]at ho;cases hl:ls[j]? with
 |none=>rw[hl]at ho;cases ho
 |some l=>rw[hl]at ho;exact⟨l,rfl,Option.some.inj ho⟩
theorem Sw.ll(h:Sw Λ w0 b s w T M D O I ls):ls.length=s.O.length:=by rw[<-h.sa.core,List.length_map]
theorem Rz(h:Sw Λ w0 b s w T M D O I ls)(hk:vR s){q:bQ}(h0:0<=q.key)(h1:q.key<=q.hi)(h2:q.hi<=18446744073709551615)(h3:0<=q.to):ag Tryz.prog 179 #[Ptt b,.agg q.cells.toArray] w (λx w'=>GB none w w'/\∃a n c,x=.tuple #[.slice a n c,.bool (gT s q)]/\(gT s q=true->PN w w' (.slice a n c) (iL s.M q.key q.hi q.to))):=by
 obtain⟨c,sq,k,key,v,hi,to⟩:=q;obtain⟨j,rfl⟩:=Int.eq_ofNat_of_zero_le h3;dsimp only at h0 h1 h2;have ja:=hk.n4;have hol:=hk.ol;refine aj ah mixed Tryz.func179 rfl rfl ?_;refine λw1 b1 m1 g1 l1=>?_
 have h1':=h.ax g1;refine⟨by kernel_rfl,_,_,m1,.int .u8 j,rfl,_,_,h1'.mem,_,rfl,au (λe=>?_) (λe=>?_)⟩
 ·have e1:¬(j:Int)=s.g:=by have:=b01 e;simpa using this
  refine⟨_,_,m1,.int .u8 j,rfl,_,_,h1'.mem,_,rfl,au (λe=>?_) (λe=>?_)⟩
  ·have e2:(j:Int)<s.n:=by have:=of_decide_eq_false (b01 e);omega
   obtain⟨o,ho⟩:∃o,s.O[j]? = some o:=⟨s.O[j]'(by omega),by simp[show j<s.O.length by omega]⟩;obtain⟨l,hl,hlo⟩:=h.lane ho;have hll:=h.ll;obtain⟨g,cap,cur,ev,hg,aS,hcut,hsz⟩:=h1'.sa.o.at (f:=mr) (λ_=>rfl) hl;subst ev;obtain⟨qa,qc,eq⟩:=af (h.sa.q l (List.mem_of_getElem? hl)).q.own;have DK:bJ s.O (j:Int)=o:=by unfold bJ;rw[Int.toNat_natCast,ho];rfl
   have aaB:o.2.length=l.2.2.length:=by rw[<-hlo];simp
   obtain⟨nx,qv,rs⟩:=l;have eq:qv=.slice qa rs.length qc:=eq;subst eq;refine⟨_,_,h1'.mem,_,rfl,_,_,m1,.int .u8 j,rfl,⟨by omega,by omega⟩,_,_,aS,.slice qa rs.length qc,iF hcut rfl (by decide),au (λe=>?_) (λe=>?_)⟩
   ·have e3:=of_decide_eq_true e
    have hfit:gT s ⟨c,sq,k,key,v,hi,j⟩=false:=by
     unfold gT;dsimp only;rw[DK];simp[show ¬o.2.length<4 by dsimp only at aaB;omega]
    rw[hfit];exact⟨g1,_,_,_,rfl,nofun⟩
   ·have e3:=of_decide_eq_false e
    have hM:zN w1 M s.M:=h1'.sa.m.fz;refine⟨by kernel_rfl,_,_,h1'.mem,_,rfl,_,_,m1,.int .u64 key,rfl,_,_,m1,.int .u64 hi,rfl,_,_,m1,.int .u8 j,rfl,_,M5 hM hk.CL hk.can h0 h1 h2 (by omega:(j:Int)<4),?_⟩;rintro _ w2 ⟨v',e',rfl,g2,hc⟩;rcases hc with⟨c1,rfl,P⟩|⟨c1,rfl,rfl⟩
    ·obtain⟨va,vc,rfl⟩:=af P.own
     have hfit:gT s ⟨c,sq,k,key,v,hi,j⟩=decide ((iL s.M key hi j).length<=8):=by
      unfold gT;dsimp only;rw[DK];simp[e1,e2,show o.2.length<4 by dsimp only at aaB;omega]
     rw[hfit];refine⟨g1.trans g2,_,_,_,congrArg (λz=>Value.tuple #[_,.bool z]) ?_,λ_=>P.base g1⟩;exact decide_eq_decide.2 (by omega)
    ·have hfit:gT s ⟨c,sq,k,key,v,hi,j⟩=false:=by
      unfold gT;dsimp only;simp[show ¬(iL s.M key hi j).length<=8 by omega]
     rw[hfit];exact⟨g1.trans g2,_,_,_,rfl,nofun⟩
  ·have e2:¬(j:Int)<s.n:=by have:=of_decide_eq_true (b00 e);omega
   have hfit:gT s ⟨c,sq,k,key,v,hi,j⟩=false:=by
    unfold gT;simp[e2]
   rw[hfit];exact⟨g1,_,_,_,rfl,nofun⟩
 ·have e1:(j:Int)=s.g:=eq_of_beq (b00 e)
  have hfit:gT s ⟨c,sq,k,key,v,hi,j⟩=false:=by
   unfold gT;simp[e1]
  rw[hfit];exact⟨g1,_,_,_,rfl,nofun⟩
end
end
