/- Lemmas. -/
import Derived.Test.YtignemioillaiabGreatG50
namespace Go.Proofs.YtignemioillaiabGreat
set_option maxHeartbeats 8000000
set_option linter.unusedSectionVars false
set_option maxRecDepth 100000
open List
section
open Go Go.Conc
def Ie(n g:Nat)(k:Int)(s s':St)(m:Mem):Prop:=(own 0 s'.M k=g/\oZ s'.T s'.D k m)\/∃(d:Nat) (r:Rg),own 0 s'.M k=d/\d≠g/\d<n/\r∈(aP s'.O d).2/\r.seq=(aP s.O d).1/\r.lo<=k/\k<=r.hi/\oZ r.rows r.aX k m
theorem Dl{T:List Row}(h:fT T){key v:Int}(hf:¬jD T key=5)(x:Row):x∈jO T key v↔x=⟨key,v⟩\/x∈T/\x.key≠key:=by
 have e:=MX h key v;have m:=XP (T:=T) (r:=⟨key,v⟩) (x:=x);unfold jO;unfold jD at hf;split
 .rename_i q;rw[Jb6 q]at e;rw[e];exact m
 .rename_i q
  rw[Jb5 q]at e hf;split
  .rename_i q';rw[Jb6 q']at hf;exact(hf rfl).elim
  .rw[e];exact m
theorem J8{T:List Row}(h:fT T){key:Int}(x:Row):x∈ug T key↔x∈T/\x.key≠key:=by
 unfold ug;split
 .rename_i q
  obtain⟨y,hy,h0⟩:=sK q;obtain⟨lt,ey⟩:=Jcn.1 hy;rw[jq]at h0;constructor
  .intro hx
   refine⟨(Jdh _ _).subset hx,λe=>?_⟩;obtain⟨t,ht,e2⟩:=Jfv.1 hx;have a:=Jc (Kv h key) (IL h key) (Jcv e2) (jq.2 e);obtain⟨l1,e3⟩:=Jcn.1 e2;obtain⟨l2,e4⟩:=Jcn.1 a.2;rcases Nat.lt_or_gt_of_ne ht with q|q
   .have:=nJ h q e2 a.2;omega
   .have:=nJ h q a.2 e2;omega
  .rintro⟨hx,ne⟩
   obtain⟨t,ht⟩:=Jdf.1 hx;exact Jfv.2 ⟨t,λe=>ne (by rw[e]at ht;have:=ht.symm.trans hy;cases this;exact h0),ht⟩
 .rename_i q
  exact⟨λhx=>⟨hx,λe=>q (by rw[<-e];exact(FB h hx).1)⟩,λhx=>hx.1⟩
section
variable{n g k0:Nat}{s:St}{k:Int}{m:Mem}(hs:cu n k0 s)(eg:s.g=g)(hk:0<=k/\k<18446744073709551616){q:aW}(hq:q.b)(ho:fV q=true)
include hs eg hk hq ho
theorem Vu(ow:own 0 s.M k=g)(h4:oZ s.T (gH s.D (dN s q)) k m)(hT:q.k≠4->∀x:Row,x.key=k->(x∈(fP s q).T↔x∈s.T)):Ie n g k s (fP s q) m:=by
 unfold fP at hT |-;split
 .rename_i e
  rw[Jb6 e]at hT;exact .inl ⟨ow,h4.of (hT (by omega)) λ_ _=>.rfl⟩
 rename_i n2;rw[Jb5 n2]at hT;split
 .rename_i e
  rw[Jb6 e]at hT;exact .inl ⟨ow,h4.of (hT (by omega)) λ_ _=>.rfl⟩
 split
 .rename_i e
  obtain⟨e4,ef⟩:=e;obtain⟨lh,t4⟩:=IU ho e4;have hn:=hs.n;have ol:(s.O.length:Int)=n:=by have:=hs.ok.ol;omega
  have t0:=hq.to.1;unfold gP at ef;simp only[Jdy,Jdr,Jf8,Jd9]at ef;obtain⟨⟨⟨f1,f2⟩,f3⟩,f4⟩:=ef;have et:(q.to.toNat:Int)=q.to:=by omega
  have go:=qU hs.ok.can hq.key.1 lh hq.hi.2 (g:=q.to.toNat) (by omega) hk.1 hk.2;rw[et]at go;by_cases c:q.key<=k/\k<=q.hi
  .rw[Jb6 c]at go
   refine .inr ⟨q.to.toNat,yG s.g q.to (aP s.O q.to).1 q.key q.hi s.T (gH s.D (dN s q)),by rw[et];exact go,by omega,by omega,?_,by rw[et];rfl,c.1,c.2,h4.of (λx hx=>?_) λx hx=>?_⟩
   .show _∈(aP (s.O.set q.to.toNat _) q.to.toNat).2
    rw[zI (by omega),Jb6 rfl];exact mem_append_right _ Jb4
   .exact Vm.trans ⟨λa=>a.1,λa=>⟨a,by rw[hx];exact c.1,by rw[hx];exact c.2⟩⟩
   .exact Vm.trans ⟨λa=>a.1,λa=>⟨a,by rw[hx];exact c.1,by rw[hx];exact c.2⟩⟩
  .rw[Jb5 c]at go
   refine .inl ⟨go.trans ow,h4.of (λx hx=>?_) λx hx=>?_⟩
   .exact xq.trans ⟨λa=>a.1,λa=>⟨a,by rw[hx];omega⟩⟩
   .exact xq.trans ⟨λa=>a.1,λa=>⟨a,by rw[hx];omega⟩⟩
 .exact .inl ⟨ow,h4.of (λ_ _=>.rfl) λ_ _=>.rfl⟩
omit hk eg in
theorem XX(ne:q.key≠k)(h:oZ s.T s.D k m):oZ s.T (gH s.D (dN s q)) k m/\(q.k≠4->∀x:Row,x.key=k->(x∈(fP s q).T↔x∈s.T)):=by
 have pk:(dN s q).key=q.key:=by
  unfold dN;repeat' split
  all_goals rfl
 refine⟨h.of (λ_ _=>.rfl) λx hx=>?_,λn4 x hx=>?_⟩
 .rw[AJ hs.ok.sD,A9]
  exact⟨λa=>a.elim (λe=>absurd (by rw[<-pk,<-e,hx]) ne) And.left,λa=>.inr ⟨a,λe=>ne (by rw[<-pk,<-e.1,hx])⟩⟩
 .unfold fP
  split
  .by_cases f:jD s.T q.key=5
   .have:jO s.T q.key q.v=s.T:=by
     unfold jD at f;unfold jO;split
     .rename_i c;rw[Jb6 c]at f;cases f
     .rename_i c
      rw[Jb5 c]at f;split
      .rfl
      .rename_i c';rw[Jb5 c']at f;cases f
    show x∈jO _ _ _↔_;rw[this]
   .refine(Dl hs.ok.sT f x).trans ⟨λa=>a.elim (λe=>absurd (by rw[<-hx,e]) ne) And.left,λa=>.inr ⟨a,λe=>ne (by rw[<-e,hx])⟩⟩
  split
  .exact(J8 hs.ok.sT x).trans ⟨And.left,λa=>⟨a,λe=>ne (by rw[<-e,hx])⟩⟩
  split
  .rename_i e;exact(n4 e.1).elim
  .exact .rfl
omit hk eg in
theorem ad9(ek:q.key=k)(h:oZ s.T s.D k m)(hl:m.sq q.c.toNat<q.s):∃m',oo m q (dN s q) m' true/\(∃b v,m'={m.put (dN s q)with f:=b,v:=v}/\(∀x∈(if q.k=4 then s.T else(fP s q).T),x.key=k->b=true/\x.val=v)/\(b=true->∃x∈(if q.k=4 then s.T else(fP s q).T),x.key=k)):=by
 subst ek;have hf:iV s.T q.key=m.f:=by
  cases e:m.f with
  |true=>obtain⟨x,a,b⟩:=h.f e;rw[<-b];exact(FB hs.ok.sT a).1
  |false =>
   cases e':iV s.T q.key with
   |false=>rfl
   |true=>obtain⟨x,a,b⟩:=aaK e';have:=(h.t x a b).1;rw[e]at this;cases this
 rcases YN ho with e|e|e|⟨e,_⟩
 .have ep:dN s q=⟨q.c,q.s,q.key,1,m.f,if m.f then m.v else 0,0⟩:=by
   unfold dN;rw[Jb6 e,hf];congr 1
   cases e':m.f with
   |true =>
    obtain⟨x,a,b⟩:=h.f e';rw[<-b,(FB hs.ok.sT a).2];exact(h.t x a b).2
   |false=>unfold oN;rw[hf,e'];rfl
  refine⟨_,.get hl e ep,m.f,m.v,rfl,?_⟩;rw[Jb5 (by omega)];unfold fP;rw[Jb5 (by omega),Jb5 (by omega),Jb5 λc=>by omega];exact⟨h.t,h.f⟩
 .have ep:dN s q=⟨q.c,q.s,q.key,jD s.T q.key,false,0,0⟩:=by unfold dN;rw[Jb5 (by omega),Jb6 e]
  have eT:(fP s q).T=jO s.T q.key q.v:=by unfold fP;rw[Jb6 e]
  rw[Jb5 (by omega),eT];by_cases f:jD s.T q.key=5
  .rw[f]at ep
   have ff:iV s.T q.key=false:=by
    cases e':iV s.T q.key with
    |false=>rfl
    |true=>unfold jD at f;rw[e',Jb6 rfl]at f;exact absurd f (by decide)
   have eS:jO s.T q.key q.v=s.T:=by
    unfold jD at f;unfold jO;rw[ff]at f |-;rw[Jb5 (by decide)]at f |-;split
    .rfl
    .rename_i c;rw[Jb5 c]at f;cases f
   rw[eS];exact⟨_,.full hl e ep (hf.symm.trans ff),m.f,m.v,rfl,h.t,h.f⟩
  .have e2:jD s.T q.key=2:=by
    unfold jD at f |-;split
    .rfl
    .rename_i c
     rw[Jb5 c]at f;split
     .rename_i c';rw[Jb6 c']at f;exact(f rfl).elim
     .rfl
   rw[e2]at ep;refine⟨_,.set hl e ep,true,q.v,rfl,λx hx xk=>?_,λ_=>⟨⟨q.key,q.v⟩,(Dl hs.ok.sT f _).2 (.inl rfl),rfl⟩⟩;rcases(Dl hs.ok.sT f x).1 hx with rfl|a
   .exact⟨rfl,rfl⟩
   .exact(a.2 xk).elim
 .have ep:dN s q=⟨q.c,q.s,q.key,2,false,0,0⟩:=by unfold dN;rw[Jb5 (by omega),Jb5 (by omega),Jb6 e]
  have eT:(fP s q).T=ug s.T q.key:=by unfold fP;rw[Jb5 (by omega),Jb6 e]
  rw[Jb5 (by omega),eT];exact⟨_,.del hl e ep,false,m.v,rfl,λx hx xk=>absurd xk ((J8 hs.ok.sT x).1 hx).2,nofun⟩
 .have ep:dN s q=⟨q.c,q.s,q.key,2,false,0,0⟩\/dN s q=⟨q.c,q.s,q.key,5,false,0,0⟩:=by
   unfold dN;rw[Jb5 (by omega),Jb5 (by omega),Jb5 (by omega)];split
   .exact .inl rfl
   .exact .inr rfl
  rw[Jb6 e];exact⟨_,.H8 hl e ep,m.f,m.v,rfl,h.t,h.f⟩
theorem aaQ(ow:own 0 s.M k=g)(h:oZ s.T s.D k m):(q.key=k->∃m' b,oo m q (iy s q).2 m' b/\Ie n g k s (iy s q).1 m')/\(q.key≠k->Ie n g k s (iy s q).1 m):=by
 have same:Ie n g k s s m:=.inl ⟨ow,h⟩;have oq:(0<=q.c/\q.c<4)/\1<=q.s:=by
  unfold fV jN at ho;simp only[Jdy,Jdr]at ho;exact⟨⟨hq.c.1,ho.1.1⟩,ho.1.2⟩
 have fK:q.key≠k->Ie n g k s (fP s q) m:=λne=>by
  obtain⟨a,b⟩:=XX hs hq ho ne h;exact Vu hs eg hk hq ho ow a b
 have dn:q.key=k->m.sq q.c.toNat<q.s->∃m' b,oo m q (dN s q) m' b/\Ie n g k s (fP s q) m':=λek hl=>by
  obtain⟨m',a,b,v,rfl,c1,c2⟩:=ad9 hs hq ho ek h hl;refine⟨_,_,a,?_⟩;obtain⟨_,d2,d3,_⟩:=a.done;have pk:(dN s q).key=k:=by
   rw[<-ek];unfold dN;repeat' split
   all_goals rfl
  have k3:(dN s q).k≠3:=by
   unfold dN jD;repeat' split
   all_goals (dsimp only;omega)
  have r1:=h.rem (r:=dN s q) pk (by omega) (by omega) k3 (T':=if q.k=4 then s.T else(fP s q).T) ⟨c1,c2⟩;rw[<-AJ hs.ok.sD]at r1;by_cases e4:q.k=4
  .rw[Jb6 e4]at r1
   exact Vu hs eg hk hq ho ow r1 λn=>(n e4).elim
  .rw[Jb5 e4]at r1
   refine .inl ⟨?_,?_⟩
   .unfold fP
    split
    .exact ow
    split
    .exact ow
    rw[Jb5 λc=>e4 c.1];exact ow
   .have:(fP s q).D=gH s.D (dN s q):=by
     unfold fP;split
     .rfl
     split
     .rfl
     rw[Jb5 λc=>e4 c.1]
    rw[this];exact r1
 unfold iy;rw[Jb5 (by rw[ho];decide)];split
 .rename_i st
  refine⟨λek=>⟨m,false,.red rfl ?_ rfl,same⟩,λ_=>same⟩;refine Jg8 λn4=>?_
  have mx:sF q=q.key:=by
   unfold fV at ho;unfold sF;have:=hq.key.1;rw[Jdy]at ho;have o2:=ho.2;split at o2
   .simp at o2;rw[Jb5 (by omega)]
   split at o2
   .simp at o2;rw[Jb5 (by omega)]
   cases o2
  unfold yF at st;rw[Jb5 (by rw[ek,ow,eg];simp),mx,find?_isSome]at st;obtain⟨p,_,hp⟩:=st;unfold zq at hp;simp at hp;omega
 split
 .rename_i hd
  obtain⟨x,e,hx,x1,x2⟩:=Jd hd;rw[e];have x1:x.key=q.key:=x1;have x2:x.c=q.c:=x2;dsimp only;refine⟨λek=>?_,λne=>?_⟩
  .obtain⟨d1,d2,d3,d4,d5⟩:=h.d x hx (x1.trans ek)
   rw[x2]at d1 d2;split
   .rename_i lt;exact dn ek (by omega)
   split
   .rename_i eq
    exact⟨m,false,.same d5 (by omega) d1.symm,same⟩
   .exact⟨m,false,.old rfl rfl (by omega),same⟩
  .split
   .exact fK ne
   split
   .exact same
   .exact same
 .rename_i hd
  refine⟨λek=>dn ek ?_,λne=>fK ne⟩;have:m.sq q.c.toNat=0:=Jg8 λne=>by
   obtain⟨x,a,b,c⟩:=h.n _ ne;exact hd (XQ hs.ok.sD a (q:=lX q) ⟨b.trans ek.symm,by show x.c=q.c;omega⟩).1
  omega
end
theorem J9{p:Rg->Bool}{a b:Rg}(ne:a≠b)(pa:p a=true)(pb:p b=true):∀{l:List Rg},a∈l->b∈l->2<=l.countP p
 |x::l,ha,hb=>by
  rw[countP_cons];rcases Jb3.1 ha with e|h1
  .subst e
   rcases Jb3.1 hb with e|h2
   .exact(ne e.symm).elim
   .have:=(List.countP_pos_iff (p:=p) (l:=l)).2 ⟨b,h2,pb⟩
    rw[Jb6 pa];omega
  .rcases Jb3.1 hb with e|h2
   .subst e
    have:=(List.countP_pos_iff (p:=p) (l:=l)).2 ⟨a,h1,pa⟩;rw[Jb6 pb];omega
   .have:=J9 ne pa pb h1 h2;omega
structure Tr(n:Nat)(st:Nat->St)(k:Int)(g d:Nat)(r:Rg):Prop where
 hg:g<n
 hd:d<n
 m:r∈(aP (st g).O d).2
 s:(st d).I.getD g 0<r.seq
 lo:r.lo<=k
 hi:k<=r.hi
section
variable{n:Nat}{st:Nat->St}{k:Int}
theorem Tr.c{g d:Nat}{r:Rg}(h:Tr n st k g d r):tN ((st d).I.getD g 0) k r=true:=by
 unfold tN;rw[Jg1 h.s,Jg1 h.lo,Jg1 h.hi];rfl
theorem Tr.tr{g d:Nat}{r:Rg}(h:Tr n st k g d r):1<=TR (st g) ((st d).I.getD g 0) d k:=List.countP_pos_iff.2 ⟨r,h.m,h.c⟩
theorem Tr.ff{g d:Nat}{r:Rg}(h:Tr n st k g d r):1<=fU (λd=>TR (st g) ((st d).I.getD g 0) d k) n:=Jb1 h.tr (rE (f:=λd=>TR (st g) ((st d).I.getD g 0) d k) h.hd)
theorem Vv(h:cnt n st k=1){g g':Nat}(hg:g<n)(hg':g'<n)(o:own 0 (st g).M k=g)(o':own 0 (st g').M k=g'):g=g':=Jg8 λne=>by
 have:=ui (f:=FF n st k) hg hg' ne;unfold cnt at h;unfold FF at this h;rw[Jb6 o,Jb6 o']at this;omega
theorem NG(h:cnt n st k=1){g g1 d:Nat}{r:Rg}(hg:g<n)(o:own 0 (st g).M k=g)(t:Tr n st k g1 d r):False:=by
 have a:=t.ff;unfold cnt at h;by_cases e:g=g1
 .subst e
  have:=rE (f:=FF n st k) hg;rw[h]at this;unfold FF at this;rw[Jb6 o]at this;omega
 .have:=ui (f:=FF n st k) hg t.hg e
  rw[h]at this;unfold FF at this;rw[Jb6 o]at this;omega
theorem aea(h:cnt n st k=1){g d g' d':Nat}{r r':Rg}(t:Tr n st k g d r)(t':Tr n st k g' d' r'):g=g'/\d=d'/\r=r':=by
 have a:=t.ff;have a':=t'.ff;unfold cnt at h;have e:g=g':=Jg8 λne=>by
  have:=ui (f:=FF n st k) t.hg t'.hg ne;rw[h]at this;unfold FF at this;omega
 subst e;have l:=rE (f:=FF n st k) t.hg;rw[h]at l;unfold FF at l;have e:d=d':=Jg8 λne=>by
  have:=ui (f:=λd=>TR (st g) ((st d).I.getD g 0) d k) t.hd t'.hd ne;have:=t.tr;have:=t'.tr;omega
 subst e;refine⟨rfl,rfl,Jg8 λne=>?_⟩;have:=J9 ne t.c t'.c t.m t'.m;have b:=rE (f:=λd=>TR (st g) ((st d).I.getD g 0) d k) t.hd;unfold TR at b l;omega
end
def uj(n:Nat)(ls:Nat->List MC):Nat:=fU (λg=>(ls g).length) n
theorem DR(n:Nat)(ls:Nat->List MC)(g:Nat):eZ (bJ n) n ls g (ls g).length=stA n ls g:=by
 unfold eZ stA;rw[Jfn];rfl
inductive Pos(n:Nat)(ls:Nat->List MC)(k:Int)(W:List (aW×ag))(m:Mem):Prop
 |held {h g:Nat} (w:Fw (bJ n) n ls k h g (ls g).length W) (o:own 0 (stA n ls g).M k=g) (mt:oZ (stA n ls g).T (stA n ls g).D k m) (hh:h<=uj n ls)
 |way {h g i:Nat} {out:List (aW×ag)} {c:MC} {d:Nat} {r:Rg} (w:Fw (bJ n) n ls k h g i out) (hc:(ls g)[i]?=some c) (e:own 0 (eZ (bJ n) n ls g i).M k=g) (t:own 0 (eZ (bJ n) n ls g (i+1)).M k=d) (ne:d≠g) (eW:W=out++iF (bJ n) n ls k g i c) (tr:Tr n (stA n ls) k g d r) (es:r.seq=(aP (eZ (bJ n) n ls g i).O d).1) (mt:oZ r.rows r.aX k m) (hh:h+1<=uj n ls)
structure Kw(n:Nat)(ls:Nat->List MC)(k:Int)(W:List (aW×ag))(m:Mem)(e:List ag):Prop where
 p:Pos n ls k W m
 mm:Mm k W m e
 sl:∀g j c,g<n->(ls g)[j]?=some c->c.kind=1->c.q.key=k->own 0 (eZ (bJ n) n ls g j).M k=g->(c.q,(cB (eZ (bJ n) n ls g j) c).2)∈W
 dp:∀g j,g<n->j<=(ls g).length->∀p∈(eZ (bJ n) n ls g j).D,p.key=k->p∈e
def DkN(n:Nat)(ls:Nat->List MC):Prop:=∀g,g<n->∀p∈(stA n ls g).D,own 0 (stA n ls g).M p.key=g
theorem aec{n k0 g:Nat}{s:St}(hs:cu n k0 s)(eg:s.g=g){c:MC}(hc:iE n c)(h:∀p∈s.D,own 0 s.M p.key=g):∀p∈(cB s c).1.D,own 0 (cB s c).1.M p.key=g:=by
 have hdo:¬fV c.q=false->¬yF s.M s.g c.q.key (sF c.q)=true->∀p∈(fP s c.q).D,own 0 (fP s c.q).M p.key=g:=λo1 o2=>by
  have ok:fV c.q=true:=by cases h:fV c.q;exact absurd h o1;rfl
  have ow:own 0 s.M c.q.key=g:=by rw[<-eg];exact Jb o2 _ (Jfb _) (by unfold sF;split<;>omega)
  have pk:(dN s c.q).key=c.q.key:=by
   unfold dN;repeat' split
   all_goals rfl
  have hr:∀p∈gH s.D (dN s c.q),own 0 s.M p.key=g:=λp hp=>by
   rcases AO hp with rfl|hp
   .rw[pk];exact ow
   .exact h p hp
  unfold fP;split
  .exact hr
  split
  .exact hr
  split
  .rename_i e
   obtain⟨e4,ef⟩:=e;obtain⟨lh,t4⟩:=IU ok e4;intro p hp;obtain⟨a,b⟩:=xq.1 hp;have pb:iB p.key:=by
    rcases AO a with rfl|a
    .rw[pk];exact hc.q.key
    .exact(hs.db p a).key
   have t0:=hc.q.to.1;have et:(c.q.to.toNat:Int)=c.q.to:=by omega
   have go:=qU hs.ok.can hc.q.key.1 lh hc.q.hi.2 (g:=c.q.to.toNat) (by omega) pb.1 pb.2;rw[et,Jb5 (by omega)]at go;exact go.trans (hr p a)
  .exact hr
 unfold cB;split
 .unfold iy
  split
  .exact h
  rename_i o1;split
  .exact h
  rename_i o2;split
  .split
   .split
    .exact hdo o1 o2
    .split<;>exact h
   .exact h
  .exact hdo o1 o2
 split
 .show ∀p∈(mV s c.r).D,own 0 (mV s c.r).M p.key=g
  unfold mV;split
  .rename_i e
   obtain⟨lh,h1,h2⟩:=oU e.1;intro p hp;have g0:=hs.ok.g0;have gn:=hs.ok.gn;have n4:=hs.ok.n4;have go:iB p.key->own 0 (fC s.M c.r.lo c.r.hi s.g) p.key=if c.r.lo<=p.key/\p.key<=c.r.hi then(g:Int)else own 0 s.M p.key:=λpb=>by
    have:=qU hs.ok.can hc.r.lo.1 lh hc.r.hi.2 (g:=g) (by omega) pb.1 pb.2;rw[<-eg]at this;rw[<-eg];exact this
   show own 0 (fC s.M c.r.lo c.r.hi s.g) p.key=g;rcases Jdc.1 hp with q|q
   .have:=Rt q
    have hm:=(mem_filter.1 q).1;rw[go (hs.db p hm).key,Jb5 (by omega)];exact h p hm
   .rcases Jdc.1 q with q|q
    .rw[go (hc.r.aX p q).key,Jb6 ((uC h2).2.1 p q)]
    .have:=Ru q
     have hm:=(mem_filter.1 q).1;rw[go (hs.db p hm).key,Jb5 (by omega)];exact h p hm
  .exact h
 split
 .show ∀p∈(lY s c.peer c.seq).D,own 0 (lY s c.peer c.seq).M p.key=g
  unfold lY;split<;>exact h
 .exact h
theorem oZ.rcv{n k0:Nat}{s:St}(_hs:cu n k0 s){r:Rg}(hr:nY r=true){k:Int}{m:Mem}{T:List Row}{D:List ag}(eT:T=sB (λx:Row=>x.key) r.lo s.T++(r.rows++sA (λx:Row=>x.key) r.lo r.hi s.T))(eD:D=sB (λx:ag=>x.key) r.lo s.D++(r.aX++sA (λx:ag=>x.key) r.lo r.hi s.D)):(r.lo<=k/\k<=r.hi->oZ r.rows r.aX k m->oZ T D k m)/\(¬(r.lo<=k/\k<=r.hi)->oZ s.T s.D k m->oZ T D k m):=by
 obtain⟨lh,h1,h2⟩:=oU hr;have i1:=(yJ h1).2.1;have i2:=(uC h2).2.1;have mT:∀x:Row,x∈T↔x∈r.rows\/x∈s.T/\(x.key<r.lo\/r.lo<=x.key/\r.hi<x.key):=λx=>by
  rw[eT,<-xq];simp only[Jdc];constructor
  .rintro(a|a|a)
   .exact .inr (.inl a)
   .exact .inl a
   .exact .inr (.inr a)
  .rintro(a|a|a)
   .exact .inr (.inl a)
   .exact .inl a
   .exact .inr (.inr a)
 have mD:∀x:ag,x∈D↔x∈r.aX\/x∈s.D/\(x.key<r.lo\/r.lo<=x.key/\r.hi<x.key):=λx=>by
  rw[eD,<-xq];simp only[Jdc];constructor
  .rintro(a|a|a)
   .exact .inr (.inl a)
   .exact .inl a
   .exact .inr (.inr a)
  .rintro(a|a|a)
   .exact .inr (.inl a)
   .exact .inl a
   .exact .inr (.inr a)
 refine⟨λc h=>h.of (λx hx=>?_) λx hx=>?_,λc h=>h.of (λx hx=>?_) λx hx=>?_⟩
 .rw[mT];exact⟨λa=>a.resolve_right λb=>by omega,.inl⟩
 .rw[mD];exact⟨λa=>a.resolve_right λb=>by omega,.inl⟩
 .rw[mT];exact⟨λa=>(a.resolve_left λb=>by have:=i1 x b;omega).1,λa=>.inr ⟨a,by omega⟩⟩
 .rw[mD];exact⟨λa=>(a.resolve_left λb=>by have:=i2 x b;omega).1,λa=>.inr ⟨a,by omega⟩⟩
theorem Qa{s:St}{q:aW}(ho:fV q=true):(iy s q).2.c=q.c/\(iy s q).2.key=q.key:=by
 have pk:(dN s q).c=q.c/\(dN s q).key=q.key:=by
  unfold dN;repeat' split
  all_goals exact⟨rfl,rfl⟩
 unfold iy;rw[Jb5 (by rw[ho];decide)];split
 .exact⟨rfl,rfl⟩
 split
 .rename_i hd
  obtain⟨x,e,_,x1,x2⟩:=Jd hd;rw[e];dsimp only;split
  .exact pk
  split
  .exact⟨x2,x1⟩
  .exact⟨rfl,rfl⟩
 .exact pk
section
variable{n g k0:Nat}{s:St}{c:MC}(hs:cu n k0 s)(eg:s.g=g)(hc:iE n c)
include hs eg hc
theorem Je(hk:c.kind=2):(cB s c).1=s\/∃g0:Nat,c.r.src=g0/\g0<n/\g0≠g/\nY c.r=true/\(cB s c).1.T=sB (λx:Row=>x.key) c.r.lo s.T++(c.r.rows++sA (λx:Row=>x.key) c.r.lo c.r.hi s.T)/\(cB s c).1.D=sB (λx:ag=>x.key) c.r.lo s.D++(c.r.aX++sA (λx:ag=>x.key) c.r.lo c.r.hi s.D)/\(cB s c).1.M=fC s.M c.r.lo c.r.hi g/\(cB s c).1.I=s.I.set g0 c.r.seq/\c.r.seq=s.I.getD g0 0+1/\g0<s.I.length:=by
 have e:(cB s c).1=mV s c.r:=by unfold cB;rw[Jb5 (by omega),Jb6 hk]
 have vQ:=hs.vQ;have hn:=hs.n;have il:=hs.ok.il;have s0:=hc.r.src.1;rw[e];unfold mV;split
 .rename_i e
  obtain⟨e1,e2,_⟩:=e;unfold vX at e2;simp only[Jdy,Jdr,Jf8,Jd9,Jfc]at e2;obtain⟨⟨⟨x1,x2⟩,x3⟩,x4⟩:=e2;have hw:0<=(s.I[c.r.src.toNat]?).getD 0+1/\(s.I[c.r.src.toNat]?).getD 0+1<4294967296:=by
   cases ho:s.I[c.r.src.toNat]? with
   |none=>simp
   |some o=>have:=hs.i o (Jcv ho);simp;omega
  rw[wrap_u32 hw]at x4;exact .inr ⟨c.r.src.toNat,by omega,by omega,by omega,e1,rfl,rfl,by rw[<-eg],rfl,by rw[Jdx];exact x4,by omega⟩
 .exact .inl rfl
variable{k:Int}{m:Mem}(hk:0<=k/\k<18446744073709551616)
include hk
theorem aaR(ow:own 0 s.M k=g)(h:oZ s.T s.D k m)(hr:c.kind=2->c.r.lo<=k->k<=c.r.hi->(cB s c).1=s):(c.kind=1/\c.q.key=k->∃m' b,oo m c.q (cB s c).2 m' b/\Ie n g k s (cB s c).1 m')/\(¬(c.kind=1/\c.q.key=k)->Ie n g k s (cB s c).1 m):=by
 by_cases k1:c.kind=1
 .have e:cB s c=iy s c.q:=by unfold cB;rw[Jb6 k1]
  rw[e];obtain⟨a,b⟩:=aaQ hs eg hk hc.q (hc.ask k1) ow h;exact⟨λq=>a q.2,λq=>b λe=>q ⟨k1,e⟩⟩
 .refine⟨λq=>(k1 q.1).elim,λ_=>?_⟩
  by_cases k2:c.kind=2
  .rcases Je hs eg hc k2 with e|⟨g0,q1,q2,q3,q4,q5,q6,q7,q8,q9,q10⟩
   .rw[e];exact .inl ⟨ow,h⟩
   .by_cases cv:c.r.lo<=k/\k<=c.r.hi
    .rw[hr k2 cv.1 cv.2];exact .inl ⟨ow,h⟩
    .obtain⟨lh,_⟩:=oU q4
     have g0:=hs.ok.g0;have gn:=hs.ok.gn;have n4:=hs.ok.n4;have go:=qU hs.ok.can hc.r.lo.1 lh hc.r.hi.2 (g:=g) (by omega) hk.1 hk.2;rw[Jb5 cv,<-q7]at go;exact .inl ⟨go.trans ow,(oZ.rcv hs q4 q5 q6).2 cv h⟩
  .have e:(cB s c).1=s\/(cB s c).1=lY s c.peer c.seq:=by
    unfold cB;rw[Jb5 k1,Jb5 k2];split
    .exact .inr rfl
    .exact .inl rfl
   rcases e with e|e
   .rw[e];exact .inl ⟨ow,h⟩
   .rw[e]
    unfold lY;split
    .exact .inl ⟨ow,h⟩
    .exact .inl ⟨ow,h⟩
end
theorem XY{n g:Nat}{ls:Nat->List MC}(hg:g<n)(c:MC):uj n (fA ls g (ls g++[c]))=uj n ls+1:=by
 have:=mY (f:=λg=>(ls g).length) (f':=λg'=>(fA ls g (ls g++[c]) g').length) hg λj _ ne=>by
  show(fA ls g (ls g++[c]) j).length=_;unfold fA;rw[Jb5 ne]
 simp only[kT,Jc6,Jfz]at this;unfold uj;omega
theorem Pre.ext{n g:Nat}(ls:Nat->List MC)(c:MC):Pre n ls (fA ls g (ls g++[c])):=λg' _=>by
 unfold fA;split
 .rename_i e;rw[e];exact⟨_,rfl⟩
 .exact⟨[],(Jc1 _).symm⟩
section
variable{n g:Nat}{ls ls':Nat->List MC}{c:MC}{k:Int}(h0:0<n)(hg:g<n)(hl:ls'=fA ls g (ls g++[c]))(G:Ew n ls)(G':Ew n ls')(hw:Hw (bJ n) n ls g c)(hk:0<=k/\k<18446744073709551616)
include h0 hg hl G G' hw hk
theorem Pos.step{W:List (aW×ag)}{m:Mem}{e:List ag}(h:Pos n ls k W m)(hm:Mm k W m e):∃W' m' e',Pos n ls' k W' m'/\Mm k W' m' e'/\(∀x∈W,x∈W')/\(∀x∈e,x∈e')/\(own 0 (stA n ls g).M k=g->c.kind=1->c.q.key=k->(c.q,(cB (stA n ls g) c).2)∈W'):=by
 have gc:iE n c:=hw.1;have pre:Pre n ls ls':=by rw[hl];exact .ext ls c
 have eo:∀g',g'≠g->stA n ls' g'=stA n ls g':=λg' ne=>by rw[hl];unfold stA fA;rw[Jb5 ne]
 have lo:∀g',g'≠g->ls' g'=ls g':=λg' ne=>by rw[hl];unfold fA;rw[Jb5 ne]
 have lg:ls' g=ls g++[c]:=by rw[hl];exact kT _ _ _
 have ll:(ls' g).length=(ls g).length+1:=by rw[lg,Jc6];rfl
 have hc:(ls' g)[(ls g).length]?=some c:=by rw[lg];simp
 have eg:stA n ls' g=(cB (stA n ls g) c).1:=by unfold stA;rw[lg,uW]
 have e1:eZ (bJ n) n ls' g (ls g).length=stA n ls g:=by rw[pre.st hg (Jb0 _),DR]
 have e2:eZ (bJ n) n ls' g ((ls g).length+1)=stA n ls' g:=by rw[<-ll,DR]
 have tot:uj n ls'=uj n ls+1:=by rw[hl];exact XY hg c
 obtain⟨s1,s2,s3⟩:=G.gl.ok g hg;have gd:=G.gd g hg;have one:=G.gl.one k hk.1 hk.2;have hr:∀g0:Nat,c.kind=2->c.r.src=g0->g0<n->c.r∈(aP (stA n ls g0).O g).2\/c.r.seq<=(stA n ls g).I.getD g0 0:=λg0 hk e0 h0=>by
  rcases hw.2 with e|e|⟨e,g1,q1,e1,e2,j,hj,o,ho,hr⟩|⟨e,_⟩
  .omega
  .omega
  .obtain rfl:g1=g0:=by omega
   refine G.past g1 g q1 hg j hj c.r ?_;unfold aP;rw[Jfa];have ho:(bR (bJ n) (kS g1 n) ((ls g1).take j)).O[g]?=some o:=ho;rw[ho];exact hr
  .omega
 have trc:∀g0:Nat,c.kind=2->c.r.src=g0->g0<n->c.r.seq=(stA n ls g).I.getD g0 0+1->c.r.lo<=k->k<=c.r.hi->Tr n (stA n ls) k g0 g c.r:=λg0 k2 a b d l1 l2=>⟨b,hg,(hr g0 k2 a b).resolve_right λq=>by omega,by omega,l1,l2⟩
 cases h with
 | @held h g0 w o mt hh =>
  have g0n:=(w.lt h0).1;by_cases ne:g0=g
  .subst ne
   have ak:=aaR gd s3 gc hk o mt λk2 l1 l2=>by
    rcases Je gd s3 gc k2 with e|⟨g1,q1,q2,q3,q4,q5,q6,q7,q8,q9,q10⟩
    .exact e
    .exact(NG one hg o (trc g1 k2 q1 q2 q9 l1 l2)).elim
   have w':=w.mono h0 pre;have oc:iF (bJ n) n ls' k g0 (ls g0).length c=if c.kind=1/\c.q.key=k then[(c.q,(cB (stA n ls g0) c).2)]else[]:=by unfold iF;rw[e1];rfl
   have fin:∀m',Ie n g0 k (stA n ls g0) (cB (stA n ls g0) c).1 m'->Pos n ls' k (W++iF (bJ n) n ls' k g0 (ls g0).length c) m':=λm' L=>by
    rcases L with⟨a,b⟩|⟨d,r,a1,a2,a3,a4,a5,a6,a7,a8⟩
    .rw[<-eg]at a b
     have:=Fw.stay w' hc (by rw[e1];exact o) (by rw[e2];exact a);rw[<-ll]at this;exact .held this a b (by omega)
    .refine .way w' hc (by rw[e1];exact o) (by rw[e2,eg];exact a1) a2 rfl ⟨hg,a3,by rw[eg];exact a4,?_,a6,a7⟩ (by rw[e1];exact a5) a8 (by omega)
     rw[eo d a2,a5];exact G.gl.nx g0 d hg a3
   by_cases cq:c.kind=1/\c.q.key=k
   .obtain⟨m',b,x1,x2⟩:=ak.1 cq
    have ok:=gc.ask cq.1;have ea:cB (stA n ls g0) c=iy (stA n ls g0) c.q:=by unfold cB;rw[Jb6 cq.1]
    have rr:=Qa (s:=stA n ls g0) ok;rw[<-ea]at rr;have oq:(0<=c.q.c/\c.q.c<4)/\1<=c.q.s:=by
     unfold fV jN at ok;simp only[Jdy,Jdr]at ok;exact⟨⟨gc.q.c.1,ok.1.1⟩,ok.1.2⟩
    have p:=fin m' x2;rw[oc,Jb6 cq]at p;refine⟨_,m',_,p,.snoc hm ⟨oq.1,oq.2,cq.2,rr.1,rr.2.trans cq.2⟩ x1,λx hx=>Jgx _ hx,λx hx=>?_,λ_ _ _=>by simp⟩;cases b
    .exact hx
    .exact Jgx _ hx
   .have p:=fin m (ak.2 cq)
    rw[oc,Jb5 cq,Jc1]at p;exact⟨W,m,e,p,hm,λ_ x=>x,λ_ x=>x,λ_ a b=>(cq ⟨a,b⟩).elim⟩
  .refine⟨W,m,e,?_,hm,λ_ x=>x,λ_ x=>x,λo' _ _=>(ne (Vv one g0n hg o o')).elim⟩
   have w':=w.mono h0 pre;rw[<-lo g0 ne]at w';exact .held w' (by rw[eo g0 ne];exact o) (by rw[eo g0 ne];exact mt) (by omega)
 | @way h g1 i out c1 d r w hc1 ee t ne eW tr es mt hh =>
  have lt:=(Jcn.1 hc1).1;have w':=w.mono h0 pre;have oc:=pre.out (A:=bJ n) (k:=k) tr.hg (Jft lt) c1;have f1:own 0 (eZ (bJ n) n ls' g1 i).M k=g1:=by rw[pre.st tr.hg (Jft lt)];exact ee
  have f2:own 0 (eZ (bJ n) n ls' g1 (i+1)).M k=d:=by rw[pre.st tr.hg lt];exact t
  have f3:r.seq=(aP (eZ (bJ n) n ls' g1 i).O d).1:=by rw[pre.st tr.hg (Jft lt)];exact es
  have no:own 0 (stA n ls g).M k=g->c.kind=1->c.q.key=k->(c.q,(cB (stA n ls g) c).2)∈W:=λo _ _=>(NG one hg o tr).elim
  have stays:(stA n ls' d).I.getD g1 0<r.seq->∃W' m' e',Pos n ls' k W' m'/\Mm k W' m' e'/\(∀x∈W,x∈W')/\(∀x∈e,x∈e')/\(own 0 (stA n ls g).M k=g->c.kind=1->c.q.key=k->(c.q,(cB (stA n ls g) c).2)∈W'):=λq=>by
   refine⟨W,m,e,.way w' (pre.at tr.hg hc1) f1 f2 ne (by rw[oc];exact eW) ⟨tr.hg,tr.hd,?_,q,tr.lo,tr.hi⟩ f3 mt (by omega),hm,λ_ x=>x,λ_ x=>x,no⟩;have:=G'.past g1 d tr.hg tr.hd (ls g1).length (pre.len tr.hg) r (by
    have:=pre.st (A:=bJ n) tr.hg (Jb0 _);unfold eZ at this;rw[show kS g1 n=(bJ n).bg g1 n from rfl,this,Jfn];exact tr.m)
   exact this.resolve_right λx=>by omega
  by_cases dg:d=g
  .subst dg
   have same:(stA n ls' d).I=(stA n ls d).I->(stA n ls' d).I.getD g1 0<r.seq:=λx=>by rw[x];exact tr.s
   have ef:=P6 gd s3 gc;rw[<-eg]at ef;cases ef with
   |same m o i=>exact stays (same i)
   |H8 lo hi t r' h0 h1 h2 ht hgt ow m o e1 e2 e3 i=>exact stays (same i)
   |set g0 hk e0 h0 m o i=>exact stays (same i)
   |rcv g0 k2 b0 b1 b2 b3 b4 b5 b6 b7 b8 b9 =>
    rcases Je gd s3 gc k2 with x|⟨g2,q1,q2,q3,q4,q5,q6,q7,q8,q9,q10⟩
    .rw[<-eg]at x;exact stays (same (by rw[x]))
    obtain rfl:g0=g2:=by omega
    have gt:∀y:Nat,(stA n ls' d).I.getD y 0=if y=g0 then c.r.seq else(stA n ls d).I.getD y 0:=λy=>by
     rw[eg,q8,Jdx,getElem?_set];by_cases q:y=g0
     .subst q;rw[Jb6 rfl,Jb6 rfl,Jb6 q10];rfl
     .rw[Jb5 (Ne.symm q),Jb5 q,Jdx]
    by_cases cv:c.r.lo<=k/\k<=c.r.hi
    .obtain⟨z1,_,z3⟩:=aea one tr (trc g0 k2 b0 b1 q9 cv.1 cv.2)
     subst z1;subst z3;have cm:qJ (bJ n) n ls' d g1 (aP (eZ (bJ n) n ls' g1 i).O d).1=some ((ls d).length+1):=by
      rw[<-f3];unfold qJ;have p1:qI (bJ n) n ls' d g1 c.r.seq (ls d).length=true:=by
       unfold qI;rw[e1,e2,gt,Jb6 rfl,Jg1 tr.s,Jg1 rfl];rfl
      have p2:(List.range (ls d).length).find? (qI (bJ n) n ls' d g1 c.r.seq)=none:=by
       rw[find?_eq_none];intro j hj;have hj:=Jc3.1 hj;unfold qI;have:=G.up d g1 hg (j+1) hj;rw[pre.st (A:=bJ n) hg (show j+1<=(ls d).length from hj)];have e9:(eZ (bJ n) n ls d (j+1)).I.getD g1 0<=(stA n ls d).I.getD g1 0:=this;have ts:=tr.s;simp only[Jdy,Jdr];omega
      rw[ll,Jc2,List.find?_append,p2,List.find?_singleton,p1];rfl
     have mv:=Fw.move w' (pre.at tr.hg hc1) f1 f2 ne tr.hd cm;rw[oc,<-eW,<-ll]at mv;obtain⟨lh,_⟩:=oU q4;have n4:=s1.n4;have go:=qU s1.can gc.r.lo.1 lh gc.r.hi.2 (g:=d) (by omega) hk.1 hk.2;rw[Jb6 cv,<-q7,<-eg]at go;refine⟨W,m,e,.held mv go ?_ (by omega),hm,λ_ x=>x,λ_ x=>x,no⟩;rw[eg];exact(oZ.rcv gd q4 q5 q6).1 cv mt
    .refine stays ?_
     rw[gt];have ts:=tr.s;split
     .rename_i z
      subst z;have hin:=(hr g1 k2 b0 b1).resolve_right λq=>by omega
      refine Jg8 λnl=>?_
      have eq:r.seq=c.r.seq:=by omega
      have:r=c.r:=by
       have pw:=G.gl.inc g1 d tr.hg hg;obtain⟨x,hx⟩:=Jdf.1 tr.m;obtain⟨y,hy⟩:=Jdf.1 hin;rcases Nat.lt_trichotomy x y with l|l|l
       .have:=nJ pw l hx hy;omega
       .subst l;rw[hx]at hy;cases hy;rfl
       .have:=nJ pw l hy hx;omega
      exact cv (by rw[<-this];exact⟨tr.lo,tr.hi⟩)
     .exact ts
  .exact stays (by rw[eo d dg];exact tr.s)
theorem Kw.ext(Dk':DkN n ls'){W:List (aW×ag)}{m:Mem}{e:List ag}(h:Kw n ls k W m e):∃W' m' e',Kw n ls' k W' m' e':=by
 obtain⟨W',m',e',p,mm,w1,w2,w3⟩:=Pos.step h0 hg hl G G' hw hk h.p h.mm;have pre:Pre n ls ls':=by rw[hl];exact .ext ls c
 have lo:∀g',g'≠g->ls' g'=ls g':=λg' ne=>by rw[hl];unfold fA;rw[Jb5 ne]
 have lg:ls' g=ls g++[c]:=by rw[hl];exact kT _ _ _
 have ll:(ls' g).length=(ls g).length+1:=by rw[lg,Jc6];rfl
 have e1:eZ (bJ n) n ls' g (ls g).length=stA n ls g:=by rw[pre.st hg (Jb0 _),DR]
 have one:=G'.gl.one k hk.1 hk.2;refine⟨W',m',e',p,mm,λg' j c' hg' hj k1 kk o=>?_,λg' j hg' hj p' hp pk=>?_⟩
 .by_cases q:g'=g/\j=(ls g).length
  .obtain⟨rfl,rfl⟩:=q
   have:c'=c:=by rw[lg]at hj;simp at hj;exact hj.symm
   subst this;rw[e1]at o |-;exact w3 o k1 kk
  .have lt:j<(ls g').length:=by
    have:=(Jcn.1 hj).1;by_cases z:g'=g
    .subst z;have:j≠(ls g').length:=λy=>q ⟨rfl,y⟩;omega
    .rw[lo g' z]at this;exact this
   have hj':(ls g')[j]?=some c':=by
    obtain⟨x,hx⟩:=pre g' hg';rw[hx,Jc8 lt]at hj;exact hj
   rw[pre.st hg' (Jft lt)]at o |-;exact w1 _ (h.sl g' j c' hg' hj' k1 kk o)
 .by_cases lt:j<=(ls g').length
  .rw[pre.st hg' lt]at hp
   exact w2 _ (h.dp g' j hg' lt p' hp pk)
  .have:j=(ls' g').length:=by
    by_cases z:g'=g
    .subst z;omega
    .rw[lo g' z]at hj |-;omega
   rw[this,DR]at hp;have o:=Dk' g' hg' p' hp;rw[pk]at o;have fs:=mm.facts;cases p with
   | @held h2 g2 w o2 mt hh =>
    obtain rfl:=Vv one hg' (w.lt h0).1 o o2;obtain⟨d1,d2,d3,d4,_⟩:=mt.d p' hp pk;rw[<-d1];exact fs.1 _ (by omega)
   |way w hc e t ne eW tr es mt hh=>exact(NG one hg' o tr).elim
end
theorem Kw.nil{n:Nat}(_h0:0<n){k:Int}(hk:0<=k):Kw n (λ_=>[]) k [] .z []:=by
 refine⟨.held (h:=0) (g:=0) .nil ?_ ⟨λ_ h=>(Jbw h).elim,nofun,λ_ h=>(Jbw h).elim,λi hi=>absurd rfl hi⟩ (Jcm _),.nil,λg j c _ hj=>(by cases hj),λg j _ hj p hp=>?_⟩
 .show own 0 [⟨0,0⟩] k=0
  unfold own;rw[Jb6 hk];rfl
 .unfold eZ at hp
  rw[take_nil]at hp;cases hp
theorem jF.kw{n:Nat}(h0:0<n)(h4:n<=4){ls:Nat->List MC}(h:jF (bJ n) n ls):(∀g,g<n->(ls g).length<=60)->DkN n ls/\∀k:Int,0<=k->k<18446744073709551616->∃W m e,Kw n ls k W m e:=by
 induction h with
 |nil=>exact λ_=>⟨λ_ _ _ h=>(by cases h),λk k0 _=>⟨_,_,_,Kw.nil h0 k0⟩⟩
 | @ext ls g c h hg hc ih =>
  intro hl;have hl':∀g',g'<n->(ls g').length<=60:=λg' hg'=>by
   have:=hl g' hg';by_cases e:g'=g
   .subst e;rw[kT,Jc6]at this;omega
   .unfold fA at this;rw[Jb5 e]at this;exact this
  obtain⟨i1,i2⟩:=ih hl';have G:=h.glh h0 h4 hl';have G':=(jF.ext h hg hc).glh h0 h4 hl;have dk:DkN n (fA ls g (ls g++[c])):=λg' hg'=>by
   by_cases e:g'=g
   .subst e
    have:stA n (fA ls g' (ls g'++[c])) g'=(cB (stA n ls g') c).1:=by unfold stA;rw[kT,uW]
    rw[this];exact aec (G.gd g' hg') (G.gl.ok g' hg').2.2 hc.1 (i1 g' hg')
   .have:stA n (fA ls g (ls g++[c])) g'=stA n ls g':=by unfold stA fA;rw[Jb5 e]
    rw[this];exact i1 g' hg'
  exact⟨dk,λk k0 k1=>by
   obtain⟨W,m,e,kw⟩:=i2 k k0 k1;exact kw.ext h0 hg rfl G G' hc ⟨k0,k1⟩ dk⟩
end
