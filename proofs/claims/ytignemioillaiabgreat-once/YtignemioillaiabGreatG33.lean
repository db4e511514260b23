/- Lemmas. -/
import Derived.Test.YtignemioillaiabGreatG32
namespace Go.Proofs.YtignemioillaiabGreat
set_option maxHeartbeats 8000000
set_option maxRecDepth 100000
open List
section
open Go Go.Conc
abbrev Ra:=Rg×Value×Value
abbrev vP(x:Ra):List Value:=fB x.1 x.2.1 x.2.2
structure tL(w0 w:World)(x:Ra):Prop where
 r:LN 139 2 w0 w x.2.1 x.1.rows.length (x.1.rows.map Row.cells).flatten
 d:LN 70 7 w0 w x.2.2 x.1.aX.length (x.1.aX.map ag.cells).flatten
structure QN(w0 w:World)(q:Value)(rs:List Ra):Prop where
 q:LN 78 7 w0 w q rs.length (rs.map vP).flatten
 r:∀x∈rs,tL w0 w x
theorem MK{α:Type}{f:α->List Value}{size:Nat}(hf:∀x,(f x).length=size){j:Nat}(hj:j<size){x x':α}{v:Value}(hx:(f x).set j v=f x'):∀(l:List α) (i:Nat),l[i]?=some x->(l.map f).flatten.set (i*size+j) v=((l.set i x').map f).flatten
 | [],_,h=>by simp at h
 |y::l,0,h=>by
  simp at h;subst h;rw[set_cons_zero,Jcj,Jcj,Jfw,Jfw,Jc7,Jbh,set_append_left _ _ (by rw[hf];exact hj),hx]
 |y::l,i+1,h=>by
  rw[set_cons_succ,Jcj,Jcj,Jfw,Jfw,set_append_right _ _ (by rw[hf,Jfk];omega),hf,show(i+1)*size+j-size=i*size+j by rw[Jfk];omega];rw[MK hf hj hx l i (by simpa using h)]
section
variable{e size:Nat}{w0 w w':World}{v:Value}{n:Nat}{xs:List Value}
theorem LN.bU(h:LN e size w0 w v n xs){x t:Nat}{c:Array Value}(g:GB (some x) w w')(hx:w.heap[x]?=some (.cells c t))(ht:t≠e)(hn:w0.heap.size<=x):LN e size w0 w' v n xs :=
 ⟨ax h.own λy hy=>by obtain⟨c',hc⟩:=au h.own hy;exact g.block y (ae hc) λz=>dw hc hx ht.symm (Jbm z),h.gb.new g hn,h.new⟩
theorem LN.base{wb:World}(h:LN e size w0 w v n xs)(g:GB none wb w0):LN e size wb w v n xs:=⟨h.own,g.trans h.gb,λx hx=>Jb1 g.size (h.new x hx)⟩
theorem tL.ay{x:Ra}(h:tL w0 w x)(g:GB none w w'):tL w0 w' x:=⟨h.r.ay g,h.d.ay g⟩
theorem tL.bU{y:Ra}(h:tL w0 w y){x t:Nat}{c:Array Value}(g:GB (some x) w w')(hx:w.heap[x]?=some (.cells c t))(h1:t≠139)(h2:t≠70)(hn:w0.heap.size<=x):tL w0 w' y:=⟨h.r.bU g hx h1 hn,h.d.bU g hx h2 hn⟩
theorem QN.ay{q:Value}{rs:List Ra}(h:QN w0 w q rs)(g:GB none w w'):QN w0 w' q rs:=⟨h.q.ay g,λx hx=>(h.r x hx).ay g⟩
theorem QN.bU{q:Value}{rs:List Ra}(h:QN w0 w q rs){x t:Nat}{c:Array Value}(g:GB (some x) w w')(hx:w.heap[x]?=some (.cells c t))(h1:t≠139)(h2:t≠70)(h3:t≠78)(hn:w0.heap.size<=x):QN w0 w' q rs:=⟨h.q.bU g hx h3 hn,λy hy=>(h.r y hy).bU g hx h1 h2 hn⟩
end
theorem uN.ra{w:World}{q:Value}{l:List Rg}(h:uN w q l):∃ps:List Ra,ps.map (·.1)=l/\Fz w 78 7 q ps.length (ps.map vP).flatten/\∀x∈ps,aS w x.1 x.2.1 x.2.2:=by
 obtain⟨vs,h1,h2,h3⟩:=h;have hz:zipWith (λr (p:Value×Value)=>fB r p.1 p.2) l vs=(l.zip vs).map vP:=by
  rw[zip_eq_zipWith,map_zipWith]
 refine⟨l.zip vs,map_fst_zip (by omega),?_,λx hx=>?_⟩
 .rw[<-hz,show(l.zip vs).length=l.length by rw[length_zip];omega];exact h2
 .obtain⟨i,hi,rfl⟩:=Jga hx
  have e:=Jcc hi;rw[Jg0]at e;exact h3 i _ _ e.1 e.2
theorem aac{w:World}{ps:List Ra}(h:∀x∈ps,aS w x.1 x.2.1 x.2.2):(ps.map vP).flatten.all one=true:=by
 induction ps with
 |nil=>rfl
 |cons x l ih =>
  rw[Jcj,Jfw,all_append,ih λy hy=>h y (Jb2 _ hy),Bool.and_true];obtain⟨r,rv,dv⟩:=x;obtain⟨ra,rn,rc,da,dn,dc,e1,e2⟩:=(h (r,rv,dv) Jb4).sl;have e1:rv=_:=e1;have e2:dv=_:=e2;subst e1;subst e2;rfl
theorem LN.at{e size:Nat}{w0 w:World}{v:Value}{α:Type}{f:α->List Value}{l:List α}(h:LN e size w0 w v l.length (l.map f).flatten)(hf:∀x,(f x).length=size){i:Nat}{x:α}(hx:l[i]?=some x):∃g cap cur,v=.slice (Pty g) l.length cap/\w0.heap.size<=g/\w.heap[g]?=some (.cells cur e)/\aG cur.toList (0+(i:Int).toNat*size) size=f x/\l.length*size<=cur.size:=by
 have hi:=(Jcn.1 hx).1;obtain⟨g,cap,cur,ev,aR,htk,hsz,hcap⟩:=j5 h.own (by omega);subst ev;refine⟨g,cap,cur,rfl,h.new g rfl,aR,?_,hsz⟩;refine og hf hx ?_;unfold aG;rw[drop_zero];exact htk
theorem LN.set{e size:Nat}{w0 w w':World}{α:Type}{f:α->List Value}{l:List α}{g cap:Nat}{cur:Array Value}(h:LN e size w0 w (.slice (Pty g) l.length cap) l.length (l.map f).flatten)(hf:∀x,(f x).length=size)(aR:w.heap[g]?=some (.cells cur e)){i j:Nat}{x x':α}{v:Value}(hx:l[i]?=some x)(hj:j<size)(hxx:(f x).set j v=f x'){off' s1:Nat}{vc:List Value}(hw:Hl w' g (cur.toList.take off'++vc++cur.toList.drop (off'+s1)) e)(e1:off'=i*size+j)(e2:s1=1)(e3:vc=[v])(gb:GB (some g) w w'):LN e size w0 w' (.slice (Pty g) (l.set i x').length cap) (l.set i x').length ((l.set i x').map f).flatten:=by
 have hi:=(Jcn.1 hx).1;have h2:(i+1)*size<=l.length*size:=Jcr _ hi;rw[Jfk]at h2;have:=own_set' h.own aR hw e1 e2 e3 (by omega);rw[MK hf hj hxx l i hx]at this;rw[Jgd];exact⟨this,h.gb.new gb (h.new g rfl),h.new⟩
theorem jr{α:Type}{l:List α}{i j:Nat}{x:α}(hi:i<l.length):(l.set i x)[j]?=if j=i then some x else l[j]?:=by
 by_cases h:j=i
 .subst h;rw[Jb6 rfl];simp[hi]
 .rw[Jb5 h,Jgg (λe=>h e.symm)]
theorem Uv{w:World}{q:Value}{l:List Rg}(h:uN w q l)(hl:l.length<=100000)(hs:∀r∈l,r.rows.length<=1000000/\r.aX.length<=1000000):CY 98 #[q] w (λv w'=>∃rs:List Ra,rs.map (·.1)=l/\QN w w' v rs):=by
 obtain⟨ps,rfl,hf,hr⟩:=h.ra;rw[Jf6]at hl;obtain⟨qa,qc,rfl,hrest⟩:=hf;have hf:Fz w 78 7 (.slice qa ps.length qc) ps.length (ps.map vP).flatten:=⟨qa,qc,rfl,hrest⟩;refine aj Tryz.func98 rfl rfl ?_;refine⟨_,Ul hf (aac hr) (by omega),?_⟩;intro v w1 L;obtain⟨va,vc,rfl⟩:=af L.own;refine⟨λn s wk=>∃(i:Nat) (rs:List Ra),n=ps.length-i/\i<=ps.length/\s=[(0,.slice va ps.length vc),(7,.slice va ps.length vc),(8,.int .i64 ps.length),(9,.int .i64 i)]/\rs.length=ps.length/\rs.map (·.1)=ps.map (·.1)/\LN 78 7 w wk (.slice va rs.length vc) rs.length (rs.map vP).flatten/\(∀j x,j<i->rs[j]?=some x->tL w wk x)/\(∀j,i<=j->rs[j]?=ps[j]?),⟨_,_,⟨0,ps,rfl,Jcm _,rfl,rfl,rfl,L,λ_ _ h=>by omega,λ_ _=>rfl⟩,sb rfl⟩,?_⟩;clear L;rintro n s wk ⟨i,rs,rfl,hi,rfl,hlen,hmap,L,hnew,hold⟩;refine ah (λd=>?_) (λd=>?_)
 .have d1:i<ps.length:=by have:=Ptq d;omega
  obtain⟨⟨r,rv,dv⟩,hx⟩:∃x,ps[i]?=some x:=⟨ps[i],by simp[d1]⟩;have hx':rs[i]?=some (r,rv,dv):=(hold i (Jb0 _)).trans hx;have hmem:=Jcv hx;have hrg:=hr _ hmem;obtain⟨ra,rn,rc,da,dn,dc,e1,e2⟩:=hrg.sl;have e1:rv=_:=e1;have e2:dv=_:=e2;subst e1 e2;obtain⟨hb1,hb2⟩:=hs r (Jdb.2 ⟨_,hmem,rfl⟩);obtain⟨g,cap,cur,ev,hg,aR,hcut,hsz⟩:=L.at (f:=vP) (λ_=>rfl) hx';injection ev with ea _ ec;subst ea ec;refine⟨by omega,_,_,aR,fB r (.slice ra rn rc) (.slice da dn dc),hcut,rfl,λw2 b2 m2 g2 l2=>⟨_,_,_,m2,rfl,rfl,λw3 m3 g3=>?_⟩⟩;have G3:=g2.new g3 l2;have nb:g≠b2:=by have:=ae aR;omega
  have L3:=L.ay G3;have aeH:=G3.get aR nofun;have Gw:=L3.gb;refine⟨_,_,m3,_,rfl,_,JM (hrg.1.kz Gw.kz (by decide)) (kY (λ_=>rfl) _) hb1,?_⟩;intro rv' w4 R4;obtain⟨uR,rc',rfl⟩:=af R4.own;have sJ:=R4.gb.get aeH nofun;have L4:=L3.ay R4.gb;refine⟨by omega,_,_,_,sJ,gT rfl rfl (by rw[Array.length_toList];show 0+(i:Int).toNat*7+5<_;omega),rfl,λw5 m5 g5=>?_⟩;have hi7:0+(i:Int).toNat*7+5=i*7+5:=by omega
  have hi8:0+(i:Int).toNat*7+6=i*7+6:=by omega
  have L5:=L4.set (f:=vP) (x':=(r,.slice uR r.rows.length rc',.slice da dn dc)) (λ_=>rfl) sJ hx' (by decide) rfl m5 hi7 rfl rfl g5;have R5:=(R4.base Gw).bU g5 sJ (by decide) hg;have m35:w5.heap[b2]?=_:=g5.get (R4.gb.get m3 nofun) λe=>nb (Jbm e).symm
  have D5:=((hrg.2.kz Gw.kz (by decide)).kz R4.gb.kz (by decide)).bU g5 sJ (by decide);refine⟨_,_,m35,_,rfl,_,JN D5 (kY (λ_=>rfl) _) hb2,?_⟩;intro jU w6 R6;obtain⟨qf,qg,rfl⟩:=af R6.own;have hx6:(rs.set i (r,Value.slice uR r.rows.length rc',Value.slice da dn dc))[i]?=some (r,.slice uR r.rows.length rc',.slice da dn dc):=by rw[jr (by omega),Jb6 rfl]
  have L6:=L5.ay R6.gb;obtain⟨g',cap',ajS,ev6,hg6,vY,ajD,ahf⟩:=L6.at (f:=vP) (λ_=>rfl) hx6;injection ev6 with Uw _ ec6;injection Uw with Uw;injection Uw with Uw;subst Uw ec6;rw[Jgd]at ahf;refine⟨by omega,_,_,_,vY,gT rfl rfl (by rw[Array.length_toList];show 0+(i:Int).toNat*7+6<_;omega),rfl,λw7 m7 g7=>?_⟩;have L7:=L6.set (f:=vP) (x':=(r,.slice uR r.rows.length rc',.slice qf r.aX.length qg)) (λ_=>rfl) vY hx6 (by decide) rfl m7 hi8 rfl rfl g7;rw[set_set]at L7;have Rn:tL w w7 (r,.slice uR r.rows.length rc',.slice qf r.aX.length qg):=⟨(R5.ay R6.gb).bU g7 vY (by decide) hg,(R6.base L5.gb).bU g7 vY (by decide) hg⟩;have stay:∀x,tL w wk x->tL w w7 x:=λx h=>((((h.ay G3).ay R4.gb).bU g5 sJ (by decide) (by decide) hg).ay R6.gb).bU g7 vY (by decide) (by decide) hg
  refine⟨by omega,_,_,⟨i+1,rs.set i (r,.slice uR r.rows.length rc',.slice qf r.aX.length qg),rfl,by omega,rfl,by rw[Jgd];exact hlen,?_,L7,λj x hj hxj=>?_,λj hj=>?_⟩,(sb rfl),by omega⟩
  .rw[map_set,hmap]
   refine Jcd λk=>?_
   rw[jr (by rw[Jf6];exact d1)];split
   .rename_i h;subst h;rw[Jdd,hx];rfl
   .rfl
  .rw[jr (by omega)]at hxj
   split at hxj
   .cases hxj;exact Rn
   .exact stay x (hnew j x (by omega) hxj)
  .rw[jr (by omega),Jb5 (by omega)]
   exact hold j (by omega)
 .have d1:i=ps.length:=by have:=Ptx d;omega
  rw[<-hlen]at d1;refine⟨rs,hmap,by rw[<-hlen];exact L,λx hx=>?_⟩;obtain⟨j,hj,rfl⟩:=Jga hx;exact hnew j _ (by omega) (Jcc hj)
abbrev La:=Int×Value×List Ra
abbrev nD(l:La):List Value:=[.int .u32 l.1,l.2.1]
abbrev Pn(l:La):Int×List Rg:=(l.1,l.2.2.map (·.1))
abbrev iP(s:St)(T M D O I:Value):List Value:=[.int .u8 s.g,.int .u8 s.n,T,M,D,O,I]
structure SA(w0 w:World)(s:St)(T M D O I:Value)(ls:List La):Prop where
 t:LN 139 2 w0 w T s.T.length (s.T.map Row.cells).flatten
 m:PN w0 w M s.M
 d:LN 70 7 w0 w D s.D.length (s.D.map ag.cells).flatten
 o:LN 62 2 w0 w O ls.length (ls.map nD).flatten
 i:LN 59 1 w0 w I s.I.length (s.I.map λi=>Value.int .u32 i)
 q:∀l∈ls,QN w0 w l.2.1 l.2.2
 core:ls.map Pn=s.O
 sT:∀l∈ls,∀x∈l.2.2,∀g,T.ownBlock=some g->x.2.1.ownBlock≠some g
 sD:∀l∈ls,∀x∈l.2.2,∀g,D.ownBlock=some g->x.2.2.ownBlock≠some g
 sQ:∀(i j:Nat) (l l':La),i≠j->ls[i]?=some l->ls[j]?=some l'->∀g,l.2.1.ownBlock=some g->l'.2.1.ownBlock≠some g
structure StS(s:St):Prop where
 t:s.T.length<=100000
 d:s.D.length<=100000
 m:s.M.length<=1000
 o:s.O.length<=100
 i:s.I.length<=100
 q:∀x∈s.O,x.2.length<=100000/\∀r∈x.2,r.rows.length<=1000000/\r.aX.length<=1000000
theorem fE.la{w:World}{vT vM vD vO vI:Value}{s:St}(h:fE w vT vM vD vO vI s):∃ps:List La,ps.length=s.O.length/\Fz w 62 2 vO ps.length (ps.map nD).flatten/\(∀(j:Nat) (l:La),ps[j]?=some l->∃o,s.O[j]?=some o/\l.1=o.1/\uN w l.2.1 o.2):=by
 obtain⟨qs,h1,h2,h3⟩:=h.O;have hl:(zipWith (λ(o:Int×List Rg) q=>((o.1,q,[]):La)) s.O qs).length=s.O.length:=by rw[length_zipWith];omega
 refine⟨zipWith (λ(o:Int×List Rg) q=>((o.1,q,[]):La)) s.O qs,hl,?_,λj l hj=>?_⟩
 .rw[hl,map_zipWith];exact h2
 .rw[Jg3]at hj
  cases ho:s.O[j]? with
  |none=>rw[ho]at hj;simp at hj
  |some o =>
   cases hq:qs[j]? with
   |none=>rw[ho,hq]at hj;simp at hj
   |some q =>
    rw[ho,hq]at hj;simp at hj;subst hj;exact⟨o,rfl,rfl,h3 j o q ho hq⟩
theorem aad{w:World}{ps:List La}(h:∀l∈ps,∃rs,uN w l.2.1 rs):(ps.map nD).flatten.all one=true:=by
 induction ps with
 |nil=>rfl
 |cons x l ih =>
  rw[Jcj,Jfw,all_append,ih λy hy=>h y (Jb2 _ hy),Bool.and_true];obtain⟨n,q,rs⟩:=x;obtain⟨rs',vs,_,⟨a,c,e,_⟩,_⟩:=h _ Jb4;have e:q=_:=e;subst e;rfl
theorem zip_map'{α β γ:Type}(f:α->β->γ):∀l:List (α×β),zipWith f (l.map (·.1)) (l.map (·.2))=l.map λx=>f x.1 x.2
 | []=>rfl
 |_::l=>by simp only[Jcj,zipWith_cons_cons,zip_map' f l]
section
variable{w0 w w':World}{s:St}{T M D O I:Value}{ls:List La}
theorem SA.ay(h:SA w0 w s T M D O I ls)(g:GB none w w'):SA w0 w' s T M D O I ls:=⟨h.t.ay g,h.m.ay g,h.d.ay g,h.o.ay g,h.i.ay g,λl hl=>(h.q l hl).ay g,h.core,h.sT,h.sD,h.sQ⟩
theorem SA.bU(h:SA w0 w s T M D O I ls){x t:Nat}{c:Array Value}(g:GB (some x) w w')(hx:w.heap[x]?=some (.cells c t))(h1:t≠139)(h2:t≠70)(h3:t≠78)(h4:t≠153)(h5:t≠62)(h6:t≠59)(hn:w0.heap.size<=x):SA w0 w' s T M D O I ls:=⟨h.t.bU g hx h1 hn,h.m.bU g hx h4 hn,h.d.bU g hx h2 hn,h.o.bU g hx h5 hn,h.i.bU g hx h6 hn,λl hl=>(h.q l hl).bU g hx h1 h2 h3 hn,h.core,h.sT,h.sD,h.sQ⟩
theorem Fz.over{e size n:Nat}{v:Value}{xs:List Value}(h:LN e size w0 w v n xs)(k:∀x,w0.heap.size<=x->x<w.heap.size->w'.heap[x]?=w.heap[x]?):Fz w' e size v n xs:=qb (ax h.own λx hx=>by obtain⟨c,hc⟩:=au h.own hx;exact k x (h.new x hx) (ae hc))
theorem QN.over{q:Value}{rs:List Ra}(h:QN w0 w q rs)(k:∀x,w0.heap.size<=x->x<w.heap.size->w'.heap[x]?=w.heap[x]?):uN w' q (rs.map (·.1)):=by
 refine⟨rs.map (·.2),by simp,?_,λi x p hx hp=>?_⟩
 .rw[zip_map' (λr (p:Value×Value)=>fB r p.1 p.2),Jf6]
  exact Fz.over h.q k
 .rw[Jdd]at hx hp
  cases ha:rs[i]? with
  |none=>rw[ha]at hx;cases hx
  |some y =>
   rw[ha]at hx hp;cases hx;cases hp
   have:=h.r y (Jcv ha);exact⟨Fz.over this.r k,Fz.over this.d k⟩
theorem SA.over(h:SA w0 w s T M D O I ls)(k:∀x,w0.heap.size<=x->x<w.heap.size->w'.heap[x]?=w.heap[x]?):fE w' T M D O I s:=by
 have hO:=h.core;refine⟨Fz.over h.t k,Fz.over h.m k,Fz.over h.d k,⟨ls.map (·.2.1),by rw[<-hO];simp,?_,λi o q ho hq=>?_⟩,Fz.over h.i k⟩
 .have e:zipWith (λ(o:Int×List Rg) q=>[Value.int .u32 o.1,q]) s.O (ls.map (·.2.1))=ls.map nD:=by
   rw[<-hO];clear hO h;induction ls with
   |nil=>rfl
   |cons x l ih=>rw[Jcj,Jcj,zipWith_cons_cons,ih];rfl
  rw[e,<-hO,Jf6];exact Fz.over h.o k
 .rw[<-hO,Jdd]at ho
  rw[Jdd]at hq;cases hl:ls[i]? with
  |none=>rw[hl]at ho;cases ho
  |some l =>
   rw[hl]at ho hq;cases ho;cases hq
   exact QN.over (h.q l (Jcv hl)) k
end
theorem QN.base{wb w0 w:World}{q:Value}{rs:List Ra}(h:QN w0 w q rs)(g:GB none wb w0):QN wb w q rs:=⟨h.q.base g,λx hx=>⟨(h.r x hx).r.base g,(h.r x hx).d.base g⟩⟩
theorem LN.lt{e size n:Nat}{w0 w:World}{v:Value}{xs:List Value}(h:LN e size w0 w v n xs){g:Nat}(hg:v.ownBlock=some g):g<w.heap.size:=by
 obtain⟨c,hc⟩:=au h.own hg;exact ae hc
theorem Xc{w:World}{s:St}{vT vM vD vO vI:Value}(h:fE w vT vM vD vO vI s)(hs:StS s):CY 59 #[.agg (iP s vT vM vD vO vI).toArray] w (λv w'=>∃T M D O I ls,v=.agg (iP s T M D O I).toArray/\SA w w' s T M D O I ls):=by
 obtain⟨ps,hpl,YB,hpq⟩:=h.la;have hT:=h.T;have hM:=h.M;have hD:=h.D;have hI:=h.I;obtain⟨ta,tc,rfl,hT'⟩:=h.T;obtain⟨ma,mc,rfl,hM'⟩:=h.M;obtain⟨da,dc,rfl,hD'⟩:=h.D;obtain⟨ia,ic,rfl,hI'⟩:=h.I;obtain⟨oa,oc,rfl,hO'⟩:=YB;have YB:Fz w 62 2 (.slice oa ps.length oc) ps.length (ps.map nD).flatten:=⟨oa,oc,rfl,hO'⟩;refine aj Tryz.func59 rfl rfl ?_;refine λw1 b1 m1 g1 l1 w2 b2 m2 g2 l2=>?_
 have m1:=g2.get m1 nofun;have G:=g1.trans g2;have G0:=G;have n2:w.heap.size<=b2:=Jb1 g1.size l2;have ne:b1≠b2:=by have:=ae m1;have:=g2.size;intro e;subst e;rename_i m1o _;have:=ae m1o;omega
 refine⟨_,_,m1,_,rfl,_,JM (hT.kz G.kz (by decide)) (kY (λ_=>rfl) _) (Jb1 hs.t (by decide)),?_⟩;intro T w3 LT;obtain⟨Ta,Tc,rfl⟩:=af LT.own;replace m1:=LT.gb.get m1 nofun;replace m2:=LT.gb.get m2 nofun;refine⟨_,_,_,m1,rfl,rfl,λw4 m3 g3=>?_⟩;replace m2:=g3.get m2 λe=>ne (Jbm e).symm
 replace G:=(G.trans LT.gb).new g3 l1;replace LT:=(LT.base G0).bU g3 m1 (by decide) l1;replace m1:=m3;have G0:=G;refine⟨_,_,m1,_,rfl,_,WZ (hM.kz G.kz (by decide)) (kY (λ_=>rfl) _) (Jb1 hs.m (by decide)),?_⟩;intro M w3 LM;obtain⟨Ma,Mc,rfl⟩:=af LM.own;replace m1:=LM.gb.get m1 nofun;replace m2:=LM.gb.get m2 nofun;replace LT:=LT.ay LM.gb;refine⟨_,_,_,m1,rfl,rfl,λw4 m3 g3=>?_⟩;replace LT:=LT.bU g3 m1 (by decide) l1;replace m2:=g3.get m2 λe=>ne (Jbm e).symm
 replace G:=(G.trans LM.gb).new g3 l1;replace LM:=(LM.base G0).bU g3 m1 (by decide) l1;replace m1:=m3;have G0:=G;refine⟨_,_,m1,_,rfl,_,JN (hD.kz G.kz (by decide)) (kY (λ_=>rfl) _) (Jb1 hs.d (by decide)),?_⟩;intro D w3 LD;obtain⟨Da,Dc,rfl⟩:=af LD.own;replace m1:=LD.gb.get m1 nofun;replace m2:=LD.gb.get m2 nofun;replace LT:=LT.ay LD.gb;replace LM:=LM.ay LD.gb;refine⟨_,_,_,m1,rfl,rfl,λw4 m3 g3=>?_⟩;replace LT:=LT.bU g3 m1 (by decide) l1;replace LM:=LM.bU g3 m1 (by decide) l1;replace m2:=g3.get m2 λe=>ne (Jbm e).symm
 replace G:=(G.trans LD.gb).new g3 l1;replace LD:=(LD.base G0).bU g3 m1 (by decide) l1;replace m1:=m3;have G0:=G;refine⟨_,_,m1,_,rfl,_,Uk (hI.kz G.kz (by decide)) (by simp[all_map,one]) (Jb1 hs.i (by decide)),?_⟩;intro I w3 LI;obtain⟨Ia,Ic,rfl⟩:=af LI.own;replace m1:=LI.gb.get m1 nofun;replace m2:=LI.gb.get m2 nofun;replace LT:=LT.ay LI.gb;replace LM:=LM.ay LI.gb;replace LD:=LD.ay LI.gb;refine⟨_,_,_,m1,rfl,rfl,λw4 m3 g3=>?_⟩;replace LT:=LT.bU g3 m1 (by decide) l1;replace LM:=LM.bU g3 m1 (by decide) l1;replace LD:=LD.bU g3 m1 (by decide) l1;replace m2:=g3.get m2 λe=>ne (Jbm e).symm
 replace G:=(G.trans LI.gb).new g3 l1;replace LI:=(LI.base G0).bU g3 m1 (by decide) l1;replace m1:=m3;have G0:=G;refine⟨_,_,m1,_,rfl,_,Ri (YB.kz G.kz (by decide)) (aad λl hl=>by obtain⟨j,hj⟩:=Jgh hl;obtain⟨o,_,_,q⟩:=hpq j l hj;exact⟨_,q⟩) (by have:=hs.o;omega),?_⟩;intro O w3 LO;obtain⟨Oa,Oc,rfl⟩:=af LO.own;replace m1:=LO.gb.get m1 nofun;replace m2:=LO.gb.get m2 nofun;replace LT:=LT.ay LO.gb;replace LM:=LM.ay LO.gb;replace LD:=LD.ay LO.gb;replace LI:=LI.ay LO.gb;refine⟨_,_,_,m1,rfl,rfl,λw4 m3 g3=>?_⟩;replace LT:=LT.bU g3 m1 (by decide) l1;replace LM:=LM.bU g3 m1 (by decide) l1;replace LD:=LD.bU g3 m1 (by decide) l1;replace LI:=LI.bU g3 m1 (by decide) l1;replace m2:=g3.get m2 λe=>ne (Jbm e).symm
 replace G:=(G.trans LO.gb).new g3 l1;replace LO:=(LO.base G0).bU g3 m1 (by decide) l1;replace m1:=m3;have G0:=G;replace m1:Hl w4 b1 (iP s (.slice Ta s.T.length Tc) (.slice Ma s.M.length Mc) (.slice Da s.D.length Dc) (.slice Oa ps.length Oc) (.slice Ia s.I.length Ic)) 55:=m1;have ajE:=hs.o;clear hT' hM' hD' hI' hO' hT hM hD hI YB m3 g3;generalize Value.slice Ta s.T.length Tc=T at *;generalize Value.slice Ma s.M.length Mc=M at *;generalize Value.slice Da s.D.length Dc=D at *;generalize Value.slice Ia s.I.length Ic=I at *;refine⟨_,_,m1,_,rfl,?_⟩;refine⟨λn t wk=>∃(i:Nat) (ls:List La),n=ps.length-i/\i<=ps.length/\t=[(1,Ptt b1),(2,Ptt b2),(26,.slice Oa ps.length Oc),(27,.int .i64 ps.length),(28,.int .i64 i)]/\Hl wk b1 (iP s T M D (.slice Oa ps.length Oc) I) 55/\Hl wk b2 (zc fG.T 55) 55/\LN 139 2 w wk T s.T.length (s.T.map Row.cells).flatten/\PN w wk M s.M/\LN 70 7 w wk D s.D.length (s.D.map ag.cells).flatten/\LN 59 1 w wk I s.I.length (s.I.map λi=>Value.int .u32 i)/\ls.length=ps.length/\LN 62 2 w wk (.slice Oa ls.length Oc) ls.length (ls.map nD).flatten/\(∀(j:Nat) (l:La),j<i->ls[j]?=some l->QN w wk l.2.1 l.2.2/\s.O[j]?=some (Pn l)/\(∀x∈l.2.2,∀g,T.ownBlock=some g->x.2.1.ownBlock≠some g)/\(∀x∈l.2.2,∀g,D.ownBlock=some g->x.2.2.ownBlock≠some g))/\(∀j,i<=j->ls[j]?=ps[j]?)/\(∀(j k:Nat) (l l':La),j<k->k<i->ls[j]?=some l->ls[k]?=some l'->∀g,l.2.1.ownBlock=some g->l'.2.1.ownBlock≠some g),⟨_,_,⟨0,ps,rfl,Jcm _,rfl,m1,m2,LT,LM,LD,LI,rfl,LO,λ_ _ h=>by omega,λ_ _=>rfl,λ_ _ _ _ _ h=>by omega⟩,sb rfl⟩,?_⟩;clear m1 m2 LT LM LD LI LO G;rintro n t wk ⟨i,ls,rfl,hi,rfl,m1,m2,LT,LM,LD,LI,hlen,LO,hnew,hold,hsep⟩;refine ah (λd=>?_) (λd=>?_)
 .have d1:i<ps.length:=by have:=Ptq d;omega
  obtain⟨⟨nx,q,rs0⟩,hx⟩:∃x,ps[i]?=some x:=⟨ps[i],by simp[d1]⟩;have hx':ls[i]?=some (nx,q,rs0):=(hold i (Jb0 _)).trans hx;obtain⟨o,ho,e1,hq⟩:=hpq i _ hx;obtain⟨hq1,hq2⟩:=hs.q o (Jcv ho);have hq0:=hq;obtain⟨_,_,⟨qa,qc,eq,_⟩,_⟩:=hq0;have eq:q=_:=eq;subst eq;obtain⟨g,cap,cur,ev,hg,aR,hcut,hsz⟩:=LO.at (f:=nD) (λ_=>rfl) hx';injection ev with ea _ ec;subst ea ec;refine⟨by omega,_,_,aR,[.int .u32 nx,.slice qa o.2.length qc],hcut,rfl,λw2 b3 m3 g3 l3=>⟨_,_,_,m3,rfl,rfl,λw3 m4 g4=>?_⟩⟩;have G3:=g3.new g4 l3;have kb1:=ae m1;replace m1:=G3.get m1 nofun;replace m2:=G3.get m2 nofun;refine⟨by kernel_rfl,_,_,m1,_,rfl,_,_,m4,_,rfl,_,Uv (hq.kz (LO.gb.trans G3).kz) hq1 hq2,?_⟩;rintro q' w5 ⟨rs,hrs,Q5⟩;obtain⟨wY,vK,rfl⟩:=af Q5.q.own;have G5:=G3.trans Q5.q.gb;have uA:=G5.get aR nofun;refine⟨⟨Q5.q.gb.get m4 nofun,Q5.q.gb.get m1 nofun,trivial⟩,by omega,_,_,_,uA,gT rfl rfl (by rw[Array.length_toList];show 0+(i:Int).toNat*2+1<_;omega),rfl,λw6 m6 g6=>?_⟩;have L6:=(LO.ay G5).set (f:=nD) (j:=1) (x':=(nx,.slice wY rs.length vK,rs)) (λ_=>rfl) uA hx' (by decide) rfl m6 (by show 0+(i:Int).toNat*2+1=_;omega) rfl rfl g6;have Q6:=(Q5.base (LO.gb.trans G3)).bU g6 uA (by decide) (by decide) (by decide) hg;have VV:=G3.size;have hcore:s.O[i]?=some (Pn (nx,Value.slice wY rs.length vK,rs)):=by
   rw[ho];show some o=some (nx,rs.map (·.1));rw[hrs,show nx=o.1 from e1]
  refine⟨by omega,_,_,⟨i+1,ls.set i (nx,.slice wY rs.length vK,rs),rfl,by omega,rfl,g6.get (Q5.q.gb.get m1 nofun) λe=>dw (Q5.q.gb.get m1 nofun) uA (by decide) (Jbm e),g6.get (Q5.q.gb.get m2 nofun) λe=>dw (Q5.q.gb.get m2 nofun) uA (by decide) (Jbm e),(LT.ay G5).bU g6 uA (by decide) hg,(LM.ay G5).bU g6 uA (by decide) hg,(LD.ay G5).bU g6 uA (by decide) hg,(LI.ay G5).bU g6 uA (by decide) hg,by rw[Jgd];exact hlen,L6,λj l hj hl=>?_,λj hj=>?_,λj k l l' hjk hk hl hl' gg hgg=>?_⟩,(sb rfl),by omega⟩
  .rw[jr (by omega)]at hl
   split at hl
   .rename_i e
    subst e;cases hl
    refine⟨Q6,hcore,λx hx gg hgg he=>?_,λx hx gg hgg he=>?_⟩
    .have a1:=LT.lt hgg
     have a2:=(Q5.r x hx).r.new gg he;omega
    .have a1:=LD.lt hgg
     have a2:=(Q5.r x hx).d.new gg he;omega
   .obtain⟨a1,a2,a3,a4⟩:=hnew j l (by omega) hl
    exact⟨(a1.ay G5).bU g6 uA (by decide) (by decide) (by decide) hg,a2,a3,a4⟩
  .rw[jr (by omega),Jb5 (by omega)]
   exact hold j (by omega)
  .rw[jr (by omega),Jb5 (by omega)]at hl
   rw[jr (by omega)]at hl';split at hl'
   .cases hl'
    intro he;have a1:=(hnew j l (by omega) hl).1.q.lt hgg;have a2:=Q5.q.new gg he;omega
   .exact hsep j k l l' hjk (by omega) hl hl' gg hgg
 .have d1:i=ps.length:=by have:=Ptx d;omega
  rw[<-hlen]at d1;obtain⟨Ux,Uy,rfl⟩:=af LT.own;obtain⟨Ma',Mc',rfl⟩:=af LM.own;obtain⟨YC,YD,rfl⟩:=af LD.own;obtain⟨Ia',Ic',rfl⟩:=af LI.own;refine⟨_,_,m1,iP s (.slice Ux s.T.length Uy) (.slice Ma' s.M.length Mc') (.slice YC s.D.length YD) (.slice Oa ps.length Oc) (.slice Ia' s.I.length Ic'),rfl,rfl,_,_,_,m2,rfl,rfl,λw5 m5 g5=>?_⟩;refine⟨_,_,m5,iP s (.slice Ux s.T.length Uy) (.slice Ma' s.M.length Mc') (.slice YC s.D.length YD) (.slice Oa ps.length Oc) (.slice Ia' s.I.length Ic'),rfl,rfl,_,_,_,_,_,ls,rfl,?_⟩;have S:SA w wk s (.slice Ux s.T.length Uy) (.slice Ma' s.M.length Mc') (.slice YC s.D.length YD) (.slice Oa ps.length Oc) (.slice Ia' s.I.length Ic') ls:=by
   have hal:∀l∈ls,∃j,j<i/\ls[j]?=some l:=λl hl=>by
    obtain⟨j,hj⟩:=Jgh hl;exact⟨j,by have:=(Jcn.1 hj).1;omega,hj⟩
   refine⟨LT,LM,LD,by rw[<-hlen];exact LO,LI,λl hl=>?_,?_,λl hl=>?_,λl hl=>?_,λj k l l' hjk hl hl'=>?_⟩
   .obtain⟨j,hj,hl⟩:=hal l hl
    exact(hnew j l hj hl).1
   .refine Jcd λj=>?_
    rw[Jdd];cases hj:ls[j]? with
    |none =>
     have:=Jct.1 hj;rw[Jcg (by omega)];rfl
    |some l=>rw[(hnew j l (by have:=(Jcn.1 hj).1;omega) hj).2.1];rfl
   .obtain⟨j,hj,hl⟩:=hal l hl
    exact(hnew j l hj hl).2.2.1
   .obtain⟨j,hj,hl⟩:=hal l hl
    exact(hnew j l hj hl).2.2.2
   .have a1:=(Jcn.1 hl).1
    have a2:=(Jcn.1 hl').1;intro gg hgg he;rcases Nat.lt_or_gt_of_ne hjk with q|q
    .exact hsep j k l l' q (by omega) hl hl' gg hgg he
    .exact hsep k j l' l q (by omega) hl' hl gg he hgg
  exact S.bU g5 m2 (by decide) (by decide) (by decide) (by decide) (by decide) (by decide) n2
theorem YE(a:Int)(w:World):CY 186 #[.int .u64 a] w (λv w'=>v=.bool false/\w'=w):=by
 refine aj Tryz.func186 rfl rfl ?_;exact⟨vb (by simp),rfl⟩
theorem ML(a b:Int)(w:World):CY 157 #[.int .u64 a,.int .u64 b] w (λv w'=>v=.int .i64 (gQ a b)/\w'=w):=by
 refine aj Tryz.func157 rfl rfl ?_;refine⟨_,YE a w,?_⟩;rintro _ w ⟨rfl,rfl⟩;refine⟨_,YE b w,?_⟩;rintro _ w ⟨rfl,rfl⟩;unfold gQ;refine ah (λc=>?_) (λc=>?_)
 .exact⟨congrArg (Value.int .i64) (Jb6 (Ptq c)).symm,rfl⟩
 .refine ah (λd=>?_) (λd=>?_)
  .exact⟨congrArg (Value.int .i64) (by rw[Jb5 (Ptx c),Jb6 (Ptq d)]),rfl⟩
  .exact⟨congrArg (Value.int .i64) (by rw[Jb5 (Ptx c),Jb5 (Ptx d)]),rfl⟩
theorem acJ(a:Int)(w:World):CY 187 #[.int .u8 a] w (λv w'=>v=.bool false/\w'=w):=by
 refine aj Tryz.func187 rfl rfl ?_;exact⟨vb (by simp),rfl⟩
theorem aae(a b:Int)(w:World):CY 158 #[.int .u8 a,.int .u8 b] w (λv w'=>v=.int .i64 (gQ a b)/\w'=w):=by
 refine aj Tryz.func158 rfl rfl ?_;refine⟨_,acJ a w,?_⟩;rintro _ w ⟨rfl,rfl⟩;refine⟨_,acJ b w,?_⟩;rintro _ w ⟨rfl,rfl⟩;unfold gQ;refine ah (λc=>?_) (λc=>?_)
 .exact⟨congrArg (Value.int .i64) (Jb6 (Ptq c)).symm,rfl⟩
 .refine ah (λd=>?_) (λd=>?_)
  .exact⟨congrArg (Value.int .i64) (by rw[Jb5 (Ptx c),Jb6 (Ptq d)]),rfl⟩
  .exact⟨congrArg (Value.int .i64) (by rw[Jb5 (Ptx c),Jb5 (Ptx d)]),rfl⟩
theorem aeI{w:World}{b:Nat}{x y:Int}(hb:w.heap[b]?=some (.cells #[.int .i64 x,.int .i64 y] 3)):CY 156 #[.slice (Pty b) 2 2] w (λv w'=>v=.int .i64 (O9 x y)/\w'=w):=by
 refine aj Tryz.func156 rfl rfl ?_;unfold O9;refine⟨λn s wk=>wk=w/\((n=2/\s=[(3,.int .i64 0),(6,.slice (Pty b) 2 2),(7,.int .i64 2),(8,.int .i64 0)])\/(n=1/\s=[(3,.int .i64 0),(6,.slice (Pty b) 2 2),(7,.int .i64 2),(8,.int .i64 1)]/\x=0)\/(n=0/\s=[(3,.int .i64 0),(6,.slice (Pty b) 2 2),(7,.int .i64 2),(8,.int .i64 2)]/\x=0/\y=0)),⟨_,_,⟨rfl,.inl ⟨rfl,rfl⟩⟩,sb rfl⟩,?_⟩;rintro n s wk ⟨rfl,⟨rfl,rfl⟩|⟨rfl,rfl,hx⟩|⟨rfl,rfl,hx,hy⟩⟩
 .refine⟨⟨by decide,by decide⟩,_,_,hb,_,rfl,ah (λc=>?_) (λc=>?_)⟩
  .exact⟨congrArg (Value.int .i64) (Jb5 (by simpa using c)).symm,rfl⟩
  .exact⟨⟨by decide,by decide⟩,_,_,⟨rfl,.inr (.inl ⟨rfl,rfl,by simpa using c⟩)⟩,(sb rfl),by decide⟩
 .refine⟨⟨by decide,by decide⟩,_,_,hb,_,rfl,ah (λc=>?_) (λc=>?_)⟩
  .exact⟨congrArg (Value.int .i64) (Jb6 hx).symm,rfl⟩
  .exact⟨⟨by decide,by decide⟩,_,_,⟨rfl,.inr (.inr ⟨rfl,rfl,hx,by simpa using c⟩)⟩,(sb rfl),by decide⟩
 .exact⟨congrArg (Value.int .i64) (by rw[Jb6 hx,hy]),rfl⟩
theorem Po(w:World)(x:Row)(key:Int):CY 201 #[.agg x.cells.toArray,.int .u64 key] w (λv w'=>v=.int .i64 (gQ x.key key)/\GB none w w'):=by
 refine aj Tryz.func201 rfl rfl ?_;refine λw1 b1 m1 g1 l1=>⟨_,_,m1,_,rfl,_,ML _ _ _,?_⟩
 rintro _ w1 ⟨rfl,rfl⟩;exact⟨rfl,g1⟩
theorem Pp(w:World)(x y:ag):CY 155 #[.agg x.cells.toArray,.agg y.cells.toArray] w (λv w'=>v=.int .i64 (jC x y)/\GB none w w'):=by
 refine aj Tryz.func155 rfl rfl ?_;refine λw1 b1 m1 g1 l1 w2 b2 m2 g2 l2=>?_
 have m1:=g2.get m1 nofun;have G:=g1.trans g2;refine⟨by kernel_rfl,?_⟩;refine⟨_,_,m1,_,rfl,_,_,m2,_,rfl,_,_,m1,_,rfl,_,_,m2,_,rfl,_,ML _ _ _,?_⟩;rintro _ w2 ⟨rfl,rfl⟩;refine⟨⟨m2,m1,m2,m1,trivial⟩,_,aae _ _ _,?_⟩;rintro _ w2 ⟨rfl,rfl⟩;refine λw3 b3 m3 g3 l3=>?_
 refine⟨_,aeI m3,?_⟩;rintro _ w3 ⟨rfl,rfl⟩;exact⟨rfl,G.trans g3⟩
theorem acK{w:World}{v:Value}{l:List Row}(h:Fz w 139 2 v l.length (l.map Row.cells).flatten)(hl:l.length<=1000000){key:Int}(hm:Au (λx:Row=>gQ x.key key) l):CY 200 #[v,.int .u64 key,.func (.func 201) #[] #[]] w (λx w'=>x=.tuple #[.int .i64 (dM (λx:Row=>gQ x.key key) l:Nat),.bool (mU (λx:Row=>gQ x.key key) l)]/\GB none w w'):=by
 obtain⟨a,c,rfl,hc,hlen,hv⟩:=h;obtain⟨hp1,hp2⟩:=ry _ l hm;have MN:=DC (λx:Row=>gQ x.key key) l;obtain⟨p,hp⟩:∃p,p=dM (λx:Row=>gQ x.key key) l:=⟨_,rfl⟩;rw[<-hp]at hp1 hp2 MN |-;refine aj Tryz.func200 rfl rfl ?_;refine⟨λn s wk=>∃lo hi:Nat,n=hi-lo/\lo<=p/\p<=hi/\hi<=l.length/\s=[(0,.slice a l.length c),(1,.int .u64 key),(2,.func (.func 201) #[] #[]),(8,.int .i64 l.length),(9,.int .i64 lo),(10,.int .i64 hi)]/\GB none w wk,⟨_,_,⟨0,l.length,rfl,Jcm _,MN,Jb0 _,rfl,GB.refl _ _⟩,sb rfl⟩,?_⟩;rintro n s wk ⟨lo,hi,rfl,h1,h2,h3,rfl,P⟩;refine ah (λd=>?_) (λd=>?_)
 .have d1:lo<hi:=by have:=Ptq d;omega
  rcases hv with⟨_,hz⟩|⟨b,off,cs,rfl,hb,hcut⟩
  .omega
  obtain⟨mid,hmid⟩:∃mid:Nat,mid=(lo+hi) / 2:=⟨_,rfl⟩;have mW:((lo:Int)+hi).fdiv (2^min (Int.toNat 1) IntKind.u64.bits)=(mid:Int):=by
   rw[show(2:Int)^min (Int.toNat 1) IntKind.u64.bits=2 from rfl,Jgj _ (by decide)];omega
  obtain⟨x,hx⟩:∃x,l[mid]?=some x:=⟨l[mid]'(by omega),by simp[show mid<l.length by omega]⟩;have hbk:=P.get hb nofun;refine⟨by omega,.inl ⟨by omega,⟨by decide,.inl ⟨⟨by rw[mW];omega,by rw[mW];omega⟩,?_⟩⟩⟩⟩;refine⟨⟨by rw[mW];omega,by rw[mW];omega⟩,_,_,hbk,x.cells,?_,rfl,_,Po _ x key,?_⟩
  .rw[mW];exact og (f:=Row.cells) (λ_=>rfl) hx hcut
  rintro _ w2 ⟨rfl,g2⟩;refine ah (λe=>?_) (λe=>?_)
  .have e1:gQ x.key key<0:=Ptq e
   have hlt:mid<p:=Jg8 λz=>by have:=hp2 mid x (by omega) hx;omega
   refine⟨⟨by rw[mW];omega,by rw[mW];omega⟩,_,_,⟨mid+1,hi,rfl,by omega,h2,h3,rfl,P.trans g2⟩,⟨rfl,rfl,rfl,rfl,?_,rfl,trivial⟩,by omega⟩;show some (Value.int .i64 (((lo:Int)+hi).fdiv (2^min (Int.toNat 1) IntKind.u64.bits)+1))=_;rw[mW];rfl
  .have e1:¬gQ x.key key<0:=Ptx e
   have hle:p<=mid:=Jg8 λz=>e1 (hp1 mid x (by omega) hx)
   refine⟨_,_,⟨lo,mid,rfl,h1,hle,by omega,rfl,P.trans g2⟩,⟨rfl,rfl,rfl,rfl,rfl,?_,trivial⟩,by omega⟩;show some (Value.int .i64 (((lo:Int)+hi).fdiv (2^min (Int.toNat 1) IntKind.u64.bits)))=_;rw[mW]
 .have d1:lo=hi:=by have:=Ptx d;omega
  obtain rfl:lo=p:=by omega
  refine ah (λe=>?_) (λe=>?_)
  .have e1:lo<l.length:=by have:=Ptq (b11 e);omega
   rcases hv with⟨_,hz⟩|⟨b,off,cs,rfl,hb,hcut⟩
   .omega
   obtain⟨x,hx⟩:∃x,l[lo]?=some x:=⟨l[lo],by simp[e1]⟩;have hh:mU (λx:Row=>gQ x.key key) l=(gQ x.key key==0):=by simp only[mU,<-hp,hx]
   rw[hh];refine⟨by omega,_,_,P.get hb nofun,x.cells,og (f:=Row.cells) (λ_=>rfl) hx hcut,rfl,_,Po _ x key,?_⟩;rintro _ w2 ⟨rfl,g2⟩;exact⟨rfl,P.trans g2⟩
  .have e1:¬lo<l.length:=by have:=Ptx (b10 e);omega
   have hh:mU (λx:Row=>gQ x.key key) l=false:=by simp only[mU,<-hp,Jcg (Nat.le_of_not_lt e1)]
   rw[hh];exact⟨rfl,P⟩
theorem acL{w:World}{v:Value}{l:List ag}(h:Fz w 70 7 v l.length (l.map ag.cells).flatten)(hl:l.length<=1000000){q:ag}(hm:Au (λx:ag=>jC x q) l):CY 154 #[v,.agg q.cells.toArray,.func (.func 155) #[] #[]] w (λx w'=>x=.tuple #[.int .i64 (dM (λx:ag=>jC x q) l:Nat),.bool (mU (λx:ag=>jC x q) l)]/\GB none w w'):=by
 obtain⟨a,c,rfl,hc,hlen,hv⟩:=h;obtain⟨hp1,hp2⟩:=ry _ l hm;have MN:=DC (λx:ag=>jC x q) l;obtain⟨p,hp⟩:∃p,p=dM (λx:ag=>jC x q) l:=⟨_,rfl⟩;rw[<-hp]at hp1 hp2 MN |-;refine aj Tryz.func154 rfl rfl ?_;refine λw1 b1 m1 g1 l1=>?_
 refine⟨λn s wk=>∃lo hi:Nat,n=hi-lo/\lo<=p/\p<=hi/\hi<=l.length/\s=[(0,.slice a l.length c),(2,.func (.func 155) #[] #[]),(4,Ptt b1),(8,.int .i64 l.length),(9,.int .i64 lo),(10,.int .i64 hi)]/\GB none w1 wk,⟨_,_,⟨0,l.length,rfl,Jcm _,MN,Jb0 _,rfl,GB.refl _ _⟩,sb rfl⟩,?_⟩;rintro n s wk ⟨lo,hi,rfl,h1,h2,h3,rfl,P⟩;refine ah (λd=>?_) (λd=>?_)
 .have d1:lo<hi:=by have:=Ptq d;omega
  rcases hv with⟨_,hz⟩|⟨b,off,cs,rfl,hb,hcut⟩
  .omega
  obtain⟨mid,hmid⟩:∃mid:Nat,mid=(lo+hi) / 2:=⟨_,rfl⟩;have mW:((lo:Int)+hi).fdiv (2^min (Int.toNat 1) IntKind.u64.bits)=(mid:Int):=by
   rw[show(2:Int)^min (Int.toNat 1) IntKind.u64.bits=2 from rfl,Jgj _ (by decide)];omega
  obtain⟨x,hx⟩:∃x,l[mid]?=some x:=⟨l[mid]'(by omega),by simp[show mid<l.length by omega]⟩;have hbk:=P.get (g1.get hb nofun) nofun;refine⟨by omega,.inl ⟨by omega,⟨by decide,.inl ⟨⟨by rw[mW];omega,by rw[mW];omega⟩,?_⟩⟩⟩⟩;refine⟨by kernel_rfl,⟨by rw[mW];omega,by rw[mW];omega⟩,_,_,hbk,x.cells,?_,rfl,_,_,P.get m1 nofun,q.cells,rfl,rfl,_,Pp _ x q,?_⟩
  .rw[mW];exact og (f:=ag.cells) (λ_=>rfl) hx hcut
  rintro _ w2 ⟨rfl,g2⟩;refine ah (λe=>?_) (λe=>?_)
  .have e1:jC x q<0:=Ptq e
   have hlt:mid<p:=Jg8 λz=>by have:=hp2 mid x (by omega) hx;omega
   refine⟨⟨by rw[mW];omega,by rw[mW];omega⟩,_,_,⟨mid+1,hi,rfl,by omega,h2,h3,rfl,P.trans g2⟩,⟨rfl,rfl,rfl,rfl,?_,rfl,trivial⟩,by omega⟩;show some (Value.int .i64 (((lo:Int)+hi).fdiv (2^min (Int.toNat 1) IntKind.u64.bits)+1))=_;rw[mW];rfl
  .have e1:¬jC x q<0:=Ptx e
   have hle:p<=mid:=Jg8 λz=>e1 (hp1 mid x (by omega) hx)
   refine⟨_,_,⟨lo,mid,rfl,h1,hle,by omega,rfl,P.trans g2⟩,⟨rfl,rfl,rfl,rfl,rfl,?_,trivial⟩,by omega⟩;show some (Value.int .i64 (((lo:Int)+hi).fdiv (2^min (Int.toNat 1) IntKind.u64.bits)))=_;rw[mW]
 .have d1:lo=hi:=by have:=Ptx d;omega
  obtain rfl:lo=p:=by omega
  refine⟨by kernel_rfl,ah (λe=>?_) (λe=>?_)⟩
  .have e1:lo<l.length:=by have:=Ptq (b11 e);omega
   rcases hv with⟨_,hz⟩|⟨b,off,cs,rfl,hb,hcut⟩
   .omega
   obtain⟨x,hx⟩:∃x,l[lo]?=some x:=⟨l[lo],by simp[e1]⟩;have hh:mU (λx:ag=>jC x q) l=(jC x q==0):=by simp only[mU,<-hp,hx]
   rw[hh];refine⟨by omega,_,_,P.get (g1.get hb nofun) nofun,x.cells,og (f:=ag.cells) (λ_=>rfl) hx hcut,rfl,_,_,P.get m1 nofun,q.cells,rfl,rfl,_,Pp _ x q,?_⟩;rintro _ w2 ⟨rfl,g2⟩;exact⟨rfl,(g1.trans P).trans g2⟩
  .have e1:¬lo<l.length:=by have:=Ptx (b10 e);omega
   have hh:mU (λx:ag=>jC x q) l=false:=by simp only[mU,<-hp,Jcg (Nat.le_of_not_lt e1)]
   rw[hh];exact⟨rfl,g1.trans P⟩
end
