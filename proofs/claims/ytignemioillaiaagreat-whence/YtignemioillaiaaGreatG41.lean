/- What is asked of a shard and of a command, and what stays so. -/
import Derived.Test.YtignemioillaiaaGreatG40
namespace Go.Proofs.YtignemioillaiaaGreat
set_option maxHeartbeats 8000000
set_option maxRecDepth 100000
section
open Go Go.Conc
structure Row.b(x:Row):Prop where
 k:iG x.key
 v:iG x.val
structure aB.b(p:aB):Prop where
 c:U8 p.c
 s:rC p.s
 key:iG p.key
 k:U8 p.k
 v:iG p.v
 g:U8 p.g
structure bQ.b(q:bQ):Prop where
 c:U8 q.c
 s:rC q.s
 k:U8 q.k
 key:iG q.key
 v:iG q.v
 hi:iG q.hi
 to:U8 q.to
structure Rg.b(r:Rg):Prop where
 src:U8 r.src
 dst:U8 r.dst
 seq:rC r.seq
 lo:iG r.lo
 hi:iG r.hi
 rows:∀x∈r.rows,x.b
 aW:∀x∈r.aW,x.b
 rl:r.rows.length<=20000
 dl:r.aW.length<=20000
structure jU(N:Nat)(c:MC):Prop where
 kind:U8 c.kind
 q:c.q.b
 r:c.r.b
 peer:U8 c.peer
 seq:rC c.seq
 src:c.kind=2->c.r.src<N
 ask:c.kind=1->kJ c.q=true
structure dM(N k:Nat)(s:St):Prop where
 zO:k<=61
 ok:vR s
 n:s.n=N
 t:s.T.length<=256*k
 tb:∀x∈s.T,x.b
 d:s.D.length<=256*k
 db:∀x∈s.D,x.b
 o:∀o∈s.O,o.2.length<=4/\1<=o.1/\o.1<=k+1/\∀r∈o.2,r.src=s.g/\r.b
 i:∀x∈s.I,0<=x/\x<=k
theorem KC{α:Type}{l:List α}{i:Nat}{a x:α}(h:x∈kE l i a):x=a\/x∈l:=by
 unfold kE at h;rcases List.mem_append.1 h with h|h
 ·exact .inr (List.mem_of_mem_take h)
 ·rcases List.mem_cons.1 h with h|h
  ·exact .inl h
  ·exact .inr (List.mem_of_mem_drop h)
theorem UY{T:List Row}{key v:Int}{x:Row}(h:x∈oD T key v):x=⟨key,v⟩\/x∈T:=by
 unfold oD at h;split at h
 ·exact vS h
 ·split at h
  ·exact .inr h
  ·exact KC h
theorem UZ{T:List Row}{key:Int}{x:Row}(h:x∈xu T key):x∈T:=by
 unfold xu at h;split at h
 ·exact(List.eraseIdx_sublist _ _).subset h
 ·exact h
theorem U0{D:List aB}{q x:aB}(h:x∈ji D q):x=q\/x∈D:=by
 unfold ji at h;split at h
 ·exact vS h
 ·exact KC h
theorem Nk{α:Type}{f:α->Int}{lo hi:Int}{l:List α}{x:α}(h:x∈sB f lo l++sA f lo hi l):x∈l:=by
 rcases List.mem_append.1 h with h|h
 ·exact(List.mem_filter.1 h).1
 ·exact(List.mem_filter.1 h).1
theorem aaK{T:List Row}(h:∀x∈T,x.b)(key:Int):iG (rV T key):=by
 unfold rV;split
 ·cases hx:T[tT T key]? with
  |none=>exact⟨Int.le_refl 0,by decide⟩
  |some x=>exact(h x (List.mem_of_getElem? hx)).v
 ·exact⟨Int.le_refl 0,by decide⟩
theorem Wt{s:St}(hT:∀x∈s.T,x.b){q:bQ}(hq:q.b):(kV s q).b:=by
 have z:iG 0:=⟨Int.le_refl 0,by decide⟩;have z8:U8 0:=⟨Int.le_refl 0,by decide⟩;have e1:U8 1:=⟨by decide,by decide⟩;have e2:U8 2:=⟨by decide,by decide⟩;have e5:U8 5:=⟨by decide,by decide⟩;unfold kV;split
 ·exact⟨hq.c,hq.s,hq.key,e1,aaK hT _,z8⟩
 split
 ·refine⟨hq.c,hq.s,hq.key,?_,z,z8⟩
  show U8 (rW _ _);unfold rW;split
  ·exact e2
  ·split
   ·exact e5
   ·exact e2
 split
 ·exact⟨hq.c,hq.s,hq.key,e2,z,z8⟩
 split
 ·exact⟨hq.c,hq.s,hq.key,e2,z,z8⟩
 ·exact⟨hq.c,hq.s,hq.key,e5,z,z8⟩
section
variable{N k:Nat}{s:St}
theorem dM.up(h:dM N k s)(hk:k<=60):dM N (k+1) s:=⟨by omega,h.ok,h.n,by have:=h.t;omega,h.tb,by have:=h.d;omega,h.db,λo ho=>by
 obtain⟨a,b,c,d⟩:=h.o o ho;exact⟨a,b,by omega,d⟩,λx hx=>by have:=h.i x hx;omega⟩
theorem Yg{q:bQ}(h:kJ q=true)(h4:q.k=4):q.key<=q.hi/\q.to<4:=by
 unfold kJ at h;rw[h4]at h;simp at h;exact⟨h.2.1,h.2.2.1⟩
theorem dM.do(h:dM N k s)(hk:k<=60){q:bQ}(hq:q.b)(ho:kJ q=true):dM N (k+1) (oW s q):=by
 have hr:=Ni h.ok.sD (kV s q);have hpb:=Wt h.tb hq;have hd:=h.d;have ht:=h.t;have u:=h.up hk;have ok:=h.ok;have db:∀x∈ji s.D (kV s q),x.b:=λx hx=>by
  rcases U0 hx with rfl|hx
  ·exact hpb
  ·exact h.db x hx
 unfold oW;split
 ·have h1:=Yb ok.sT q.key q.v
  exact⟨u.zO,⟨ok.g0,ok.gn,ok.n4,h1.1,hr.1,ok.CL,ok.can,ok.ol,ok.il⟩,h.n,by have:=h1.2;dsimp only;omega,λx hx=>(UY hx).elim (λe=>by rw[e];exact⟨hq.key,hq.v⟩) (h.tb x),by have:=hr.2;dsimp only;omega,db,u.o,u.i⟩
 split
 ·have h1:=Yc ok.sT q.key
  exact⟨u.zO,⟨ok.g0,ok.gn,ok.n4,h1.1,hr.1,ok.CL,ok.can,ok.ol,ok.il⟩,h.n,by have:=h1.2;dsimp only;omega,λx hx=>h.tb x (UZ hx),by have:=hr.2;dsimp only;omega,db,u.o,u.i⟩
 split
 ·rename_i c4
  obtain⟨h4,hf⟩:=c4;obtain⟨hlh,hto⟩:=Yg ho h4;obtain⟨gc,_⟩:=AP ok.can hq.key.1 hlh (by have:=hq.hi.2;omega) (g:=q.to) ⟨hq.to.1,hto⟩;have f8:(iL s.M q.key q.hi q.to).length<=8:=by unfold gT at hf;simp at hf;exact hf.2
  have fq:(bJ s.O q.to).2.length<4:=by unfold gT at hf;simp at hf;exact hf.1.2
  have fn:q.to<s.n:=by unfold gT at hf;simp at hf;exact hf.1.1.2
  have hlm:bJ s.O q.to∈s.O:=by
   unfold bJ;have hl:q.to.toNat<s.O.length:=by have:=ok.ol;have:=hq.to.1;omega
   rw[List.getElem?_eq_getElem hl];exact List.getElem_mem hl
  obtain⟨l1,l2,l3,l4⟩:=h.o _ hlm;have hw:IntKind.u32.wrap ((bJ s.O q.to).1+1)=(bJ s.O q.to).1+1:=wrap_u32 (by omega);have a1:(sW (λx:Row=>x.key) q.key q.hi s.T).length<=s.T.length:=List.length_filter_le _ _;have a2:(sW (λx:aB=>x.key) q.key q.hi (ji s.D (kV s q))).length<=(ji s.D (kV s q)).length:=List.length_filter_le _ _;have a3:(ze s.T q.key q.hi).length<=s.T.length:=by unfold ze;exact Ca hlh ok.sT.le
  have a4:(zf (ji s.D (kV s q)) q.key q.hi).length<=(ji s.D (kV s q)).length:=by unfold zf;exact Ca hlh hr.1.le
  have hr2:=hr.2;refine⟨u.zO,⟨ok.g0,ok.gn,ok.n4,?_,?_,Fa gc (Nat.le_trans f8 (by omega)),gc,?_,ok.il⟩,h.n,?_,λx hx=>h.tb x (Nk hx),?_,λx hx=>db x (Nk hx),λo ho'=>?_,u.i⟩
  ·show gJ (ze _ _ _);unfold ze;rw[wS hlh ok.sT.le];exact ok.sT.sublist List.filter_sublist
  ·show iN (zf _ _ _);unfold zf;rw[wS hlh hr.1.le];exact hr.1.sublist List.filter_sublist
  ·show((List.set _ _ _).length:Int)=_;rw[List.length_set];exact ok.ol
  ·show(ze _ _ _).length<=_;omega
  ·show(zf _ _ _).length<=_;omega
  ·rcases vS ho' with rfl|ho'
   ·rw[hw]
    refine⟨by simp only[List.length_append,List.length_singleton];omega,by dsimp only;omega,by dsimp only;omega,λr hr'=>?_⟩;rcases List.mem_append.1 hr' with hr' | hr'
    ·exact l4 r hr'
    ·rw[List.mem_singleton]at hr'
     subst hr';have hg:=ok.g0;have hgn:=ok.gn;have ja:=ok.n4;exact⟨rfl,⟨⟨hg,by show s.g<256;omega⟩,hq.to,⟨by show 0<=(bJ s.O q.to).1;omega,by show(bJ s.O q.to).1<4294967296;omega⟩,hq.key,hq.hi,λx hx=>h.tb x (List.mem_filter.1 hx).1,λx hx=>db x (List.mem_filter.1 hx).1,by show(sW _ _ _ _).length<=_;omega,by show(sW _ _ _ _).length<=_;omega⟩⟩
   ·exact u.o o ho'
 ·exact⟨u.zO,⟨ok.g0,ok.gn,ok.n4,ok.sT,hr.1,ok.CL,ok.can,ok.ol,ok.il⟩,h.n,u.t,h.tb,by have:=hr.2;dsimp only;omega,db,u.o,u.i⟩
theorem dM.ask(h:dM N k s)(hk:k<=60){q:bQ}(hq:q.b):dM N (k+1) (ug s q).1:=by
 have u:=h.up hk;unfold ug;split
 ·exact u
 ·rename_i hok
  have hdo:=h.do hk hq (by simpa using hok);split
  ·exact u
  ·split
   ·split
    ·split
     ·exact hdo
     ·split<;>exact u
    ·exact u
   ·exact hdo
theorem dM.rcv(h:dM N k s)(hk:k<=60){r:Rg}(hr:r.b):dM N (k+1) (xw s r):=by
 have u:=h.up hk;have ok:=h.ok;unfold xw;split
 ·rename_i c
  obtain⟨hok,hn,hg⟩:=c;obtain⟨hlh,h1,h2⟩:=H8 hok;obtain⟨s1,i1,l1⟩:=CQ h1;obtain⟨s2,i2,l2⟩:=CR h2;have hg4:=ok.gn;have ja:=ok.n4;have hg0:=ok.g0;obtain⟨gc,_⟩:=AP ok.can hr.lo.1 hlh (by have:=hr.hi.2;omega) (g:=s.g) ⟨hg0,by omega⟩;have b1:(sB (λx:Row=>x.key) r.lo s.T++sA (λx:Row=>x.key) r.lo r.hi s.T).length<=s.T.length:=Ca hlh ok.sT.le;have b2:(sB (λx:aB=>x.key) r.lo s.D++sA (λx:aB=>x.key) r.lo r.hi s.D).length<=s.D.length:=Ca hlh ok.sD.le;simp only[List.length_append]at b1 b2;have ht:=h.t;have hd:=h.d;refine⟨u.zO,⟨ok.g0,ok.gn,ok.n4,aaE (lo:=r.lo) (hi:=r.hi) (λx hx=>Wn hx) (λx hx=>Wo hx) i1 (ok.sT.sublist List.filter_sublist) s1 (ok.sT.sublist List.filter_sublist) hlh,Yd (lo:=r.lo) (hi:=r.hi) (λx hx=>Wn hx) (λx hx=>Wo hx) i2 (ok.sD.sublist List.filter_sublist) s2 (ok.sD.sublist List.filter_sublist) hlh,Fa gc hg,gc,ok.ol,?_⟩,h.n,?_,λx hx=>?_,?_,λx hx=>?_,u.o,λx hx=>?_⟩
  ·show((List.set _ _ _).length:Int)=_;rw[List.length_set];exact ok.il
  ·simp only[List.length_append];omega
  ·rcases List.mem_append.1 hx with hx|hx
   ·exact h.tb x (List.mem_filter.1 hx).1
   ·rcases List.mem_append.1 hx with hx|hx
    ·exact hr.rows x hx
    ·exact h.tb x (List.mem_filter.1 hx).1
  ·simp only[List.length_append];omega
  ·rcases List.mem_append.1 hx with hx|hx
   ·exact h.db x (List.mem_filter.1 hx).1
   ·rcases List.mem_append.1 hx with hx|hx
    ·exact hr.aW x hx
    ·exact h.db x (List.mem_filter.1 hx).1
  ·rcases vS hx with rfl|hx
   ·have hsrc:r.seq=IntKind.u32.wrap (((s.I[r.src.toNat]?).getD 0)+1):=by unfold zg at hn;simp at hn;exact hn.2
    have hold:0<=(s.I[r.src.toNat]?).getD 0/\(s.I[r.src.toNat]?).getD 0<=k:=by
     cases hx:s.I[r.src.toNat]? with
     |none=>exact⟨Int.le_refl 0,by show(0:Int)<=k;omega⟩
     |some y=>exact h.i y (List.mem_of_getElem? hx)
    rw[wrap_u32 (by omega)]at hsrc;omega
   ·exact u.i x hx
 ·exact u
theorem dM.set(h:dM N k s)(hk:k<=60){peer:Int}(hp0:0<=peer)(sq:Int):dM N (k+1) (vN s peer sq):=by
 have u:=h.up hk;have ok:=h.ok;unfold vN;split
 ·refine⟨u.zO,⟨ok.g0,ok.gn,ok.n4,ok.sT,ok.sD,ok.CL,ok.can,?_,ok.il⟩,h.n,u.t,u.tb,u.d,u.db,λo ho=>?_,u.i⟩
  ·show((List.set _ _ _).length:Int)=_;rw[List.length_set];exact ok.ol
  ·rcases vS ho with rfl|ho
   ·rename_i hpn
    have hlm:bJ s.O peer∈s.O:=by
     unfold bJ;have hl:peer.toNat<s.O.length:=by have:=ok.ol;omega
     rw[List.getElem?_eq_getElem hl];exact List.getElem_mem hl
    obtain⟨l1,l2,l3,l4⟩:=u.o _ hlm;exact⟨Nat.le_trans (List.length_filter_le _ _) l1,l2,l3,λr hr=>l4 r (List.mem_filter.1 hr).1⟩
   ·exact u.o o ho
 ·exact u
theorem dM.app(h:dM N k s)(hk:k<=60){c:MC}(hc:jU N c):dM N (k+1) (oF s c).1:=by
 unfold oF;split
 ·exact h.ask hk hc.q
 split
 ·exact h.rcv hk hc.r
 split
 ·exact h.set hk hc.peer.1 _
 ·exact h.up hk
end
theorem aL.own{w w':World}{r:Rg}{rv dv v:Value}{n:Nat}{xs:List Value}(h:aL w r rv dv)(ho:w.ownsRow 0 196 20 v n xs)(g:GB v.ownBlock w w'):aL w' r rv dv:=by
 cases hv:v.ownBlock with
 |none=>rw[hv]at g;exact h.kz g.kz
 |some x =>
  rw[hv]at g;obtain⟨c,hc⟩:=ay ho hv;exact h.bV g hc (by decide) (by decide)
theorem zip_map{α β γ:Type}(f:α->β->γ):∀l:List (α×β),List.zipWith f (l.map (·.1)) (l.map (·.2))=l.map λx=>f x.1 x.2
 | []=>rfl
 |_::l=>by simp only[List.map_cons,List.zipWith_cons_cons,zip_map f l]
section
variable{w:World}{b:Nat}{l:List Nat}
abbrev mvA(x:MV×Value×Value):List Value:=jL x.1 x.2.1 x.2.2
theorem bY.of{w:World}{v:Value}{acc:List (MV×Value×Value)}(ho:w.ownsRow 0 196 20 v acc.length (acc.map mvA).flatten)(hr:∀x∈acc,aL w x.1.c.r x.2.1 x.2.2):bY w v (acc.map (·.1)):=by
 refine⟨acc.map (·.2),by simp,?_,λi x p hx hp=>?_⟩
 ·rw[zip_map (λx (p:Value×Value)=>jL x p.1 p.2),List.length_map]
  exact mg ho
 ·rw[List.getElem?_map]at hx hp
  cases ha:acc[i]? with
  |none=>rw[ha]at hx;cases hx
  |some y =>
   rw[ha]at hx hp;cases hx;cases hp
   exact hr y (List.mem_of_getElem? ha)
theorem U1(hs:Src w b l):ag Tryz.prog 195 #[Ptt b,.func (.func 196) #[Ptt b] #[]] w (λv w'=>∃x l',jr nL l=(x,l')/\bY w' v x/\Src w' b l'/\GB (some b) w w'):=by
 refine aj ah mixed Tryz.func195 rfl rfl ?_;refine⟨_,kv hs,?_⟩;rintro _ w1 ⟨n,l1,en,hn,rfl,s1,g1⟩;refine⟨λm s wk=>∃(i:Nat) (v:Value) (acc:List (MV×Value×Value)) (li:List Nat),m=n - i/\i<=n/\s=[(0,Ptt b),(1,.func (.func 196) #[Ptt b] #[]),(5,v),(7,.int .u8 n),(8,.int .u8 i)]/\wk.ownsRow 0 196 20 v acc.length (acc.map mvA).flatten/\Src wk b li/\GB (some b) w wk/\(∀g,v.ownBlock=some g->w.heap.size<=g)/\nZ nL n l1=(acc.map (·.1)++(nZ nL (n - i) li).1,(nZ nL (n - i) li).2)/\acc.length=i/\∀x∈acc,aL wk x.1.c.r x.2.1 x.2.2,⟨_,_,⟨0,_,[],l1,rfl,Nat.zero_le _,rfl,dY _ _ _,s1,g1,nofun,rfl,rfl,λ_ h=>by cases h⟩,rfl,rfl,rfl,rfl,rfl,trivial⟩,?_⟩;clear s1 g1;rintro m s wk ⟨i,v,acc,li,rfl,hi,rfl,ho,sk,gk,nk,hr,JH,hrg⟩;obtain⟨va,vc,rfl⟩:=af ho;refine au (λe=>?_) (λe=>?_)
 ·have e1:i<n:=by have:=of_decide_eq_true e;omega
  obtain⟨d,hd,rfl⟩:=sk;refine⟨_,_,hd,_,rfl,au (λq=>?_) (λq=>?_)⟩
  ·rw[qY.1 q,Gg,List.append_nil]at hr
   exact⟨_,_,by rw[jr,aY en];exact hr,bY.of ho hrg,⟨d,hd,qY.1 q⟩,gk⟩
  ·have q1:dl d≠[]:=λz=>by rw[qY.2 z]at q;cases q
   refine⟨_,XQ ⟨d,hd,rfl⟩,?_⟩;rintro _ w2 ⟨x,l2,ex,⟨rv,dv,rfl,hx⟩,s2,g2⟩;obtain⟨ra,rm,rc,da,dm,dc,rfl,rfl⟩:=hx.sl;refine λw3 b3 m3 g3 l3=>?_
   have hb:=hs.lt;have ho3:=az (uP ho g2 nk hb) λx hx=>by obtain⟨c,hc⟩:=ay (uP ho g2 nk hb) hx;exact g3.block x (ae hc) nofun
   refine⟨_,jL x (.slice ra rm rc) (.slice da dm dc),ho3,⟨_,_,m3,rfl,rfl,rfl⟩,by omega,λv' w4 zK g4 n4=>?_⟩;obtain⟨MO,MP,rfl⟩:=af zK;have qx:GB (some b) w w3:=(gk.trans g2).trans g3.weak;have Ri:∀g,(Value.slice MO (acc.length+1) MP).ownBlock=some g->w.heap.size<=g:=λg hg=>(n4.own g hg).elim (nk g) λz=>Nat.le_trans qx.size z
   have s4:Src w4 b l2:=(s2.keep (g3.block b s2.lt nofun)).keep (g4.block b (Nat.lt_of_lt_of_le s2.lt g3.size) λz=>by have:=nk b z.symm;omega);have g4':GB (some b) w w4:=⟨g4.os.trans qx.os,g4.out.trans qx.out,Nat.le_trans qx.size g4.size,λy hy hn=>(g4.block y (Nat.lt_of_lt_of_le hy qx.size) λz=>by have:=nk y z.symm;omega).trans (qx.block y hy hn)⟩;have aeP:∀y∈acc++[(x,Value.slice ra rm rc,Value.slice da dm dc)],aL w4 y.1.c.r y.2.1 y.2.2:=λy hy=>by
    rcases List.mem_append.1 hy with hy|hy
    ·exact(((hrg y hy).bV g2 hd (by decide) (by decide)).kz g3.kz).own ho3 g4
    ·rw[List.mem_singleton]at hy
     subst hy;exact(hx.kz g3.kz).own ho3 g4
   refine⟨⟨by omega,by omega⟩,_,_,⟨i+1,_,acc++[(x,.slice ra rm rc,.slice da dm dc)],l2,rfl,by omega,rfl,by simpa using(show w4.ownsRow 0 196 20 _ _ _ from zK),s4,g4',Ri,?_,by simp[JH],aeP⟩,⟨rfl,rfl,rfl,rfl,rfl,trivial⟩,by omega⟩;rw[hr,show n - i=(n - (i+1))+1 by omega,zi ex q1];simp
 ·have e1:i=n:=by have:=of_decide_eq_false e;omega
  rw[e1,Nat.sub_self]at hr;exact⟨_,_,by rw[jr,aY en];simpa[nZ]using hr,bY.of ho hrg,sk,gk⟩
end
section
variable{w:World}{m:MM}{rv dv vv rv' eO:Value}
theorem ab1{q:bQ}{p:aB}{b:bF}{s:Nat}{c:MC}{vs:List MV}{r:Rg}{peer seq:Int}(hc:aL w c.r rv dv)(hv:bY w vv vs)(hr:aL w r rv' eO):ag Tryz.prog 189 #[.agg (dS ⟨1,q,p,b,s,c,vs,r,peer,seq⟩ rv dv vv rv' eO).toArray] w (λv w'=>v=.bool (fu ⟨1,q,p,b,s,c,vs,r,peer,seq⟩)/\GB none w w'):=by
 obtain⟨_,_,_,_,_,_,rfl,rfl⟩:=hc.sl;obtain⟨_,_,_,_,_,_,rfl,rfl⟩:=hr.sl;obtain⟨_,_,rfl⟩:=hv.sl;refine aj ah mixed Tryz.func189 rfl rfl ?_;refine λw1 b1 m1 g1 l1=>⟨_,_,m1,_,rfl,?_⟩
 refine⟨_,_,m1,q.cells,rfl,rfl,_,y7 w1 q,?_⟩;rintro _ w2 ⟨rfl,g2⟩;have m1:=g2.get m1 nofun;have G:=g1.trans g2;refine⟨_,_,_,m1,rfl,rfl,λw3 m1 g3=>?_⟩;have G:=G.new g3 l1;obtain⟨a,ha⟩:∃a,kJ q=a:=⟨_,rfl⟩;rw[ha];cases a
 ·exact⟨congrArg Value.bool (by simp[fu,ha]),G⟩
 ·refine⟨_,_,m1,dS ⟨1,qN,p,b,s,c,vs,r,peer,seq⟩ _ _ _ _ _,rfl,rfl,_,gP (m:=⟨1,qN,p,b,s,c,vs,r,peer,seq⟩) (hc.kz G.kz) (hv.kz G.kz) (hr.kz G.kz),?_⟩
  rintro _ w9 ⟨rfl,g9⟩;exact⟨congrArg Value.bool (by simp[fu,ha]),G.trans g9⟩
theorem ab2{q:bQ}{p:aB}{b:bF}{s:Nat}{c:MC}{vs:List MV}{r:Rg}{peer seq:Int}(hc:aL w c.r rv dv)(hv:bY w vv vs)(hr:aL w r rv' eO):ag Tryz.prog 189 #[.agg (dS ⟨2,q,p,b,s,c,vs,r,peer,seq⟩ rv dv vv rv' eO).toArray] w (λv w'=>v=.bool (fu ⟨2,q,p,b,s,c,vs,r,peer,seq⟩)/\GB none w w'):=by
 obtain⟨_,_,_,_,_,_,rfl,rfl⟩:=hc.sl;obtain⟨_,_,_,_,_,_,rfl,rfl⟩:=hr.sl;obtain⟨_,_,rfl⟩:=hv.sl;refine aj ah mixed Tryz.func189 rfl rfl ?_;refine λw1 b1 m1 g1 l1=>⟨_,_,m1,_,rfl,?_⟩
 refine⟨_,_,m1,p.cells,rfl,rfl,_,J9 w1 p,?_⟩;rintro _ w2 ⟨rfl,g2⟩;have m1:=g2.get m1 nofun;have G:=g1.trans g2;refine⟨_,_,_,m1,rfl,rfl,λw3 m1 g3=>?_⟩;have G:=G.new g3 l1;obtain⟨a,ha⟩:∃a,uy p=a:=⟨_,rfl⟩;rw[ha];cases a
 ·exact⟨congrArg Value.bool (by simp[fu,ha]),G⟩
 ·refine⟨_,_,m1,dS ⟨2,q,tJ,b,s,c,vs,r,peer,seq⟩ _ _ _ _ _,rfl,rfl,_,gP (m:=⟨2,q,tJ,b,s,c,vs,r,peer,seq⟩) (hc.kz G.kz) (hv.kz G.kz) (hr.kz G.kz),?_⟩
  rintro _ w9 ⟨rfl,g9⟩;exact⟨congrArg Value.bool (by simp[fu,ha]),G.trans g9⟩
theorem ab3{q:bQ}{p:aB}{b:bF}{s:Nat}{c:MC}{vs:List MV}{r:Rg}{peer seq:Int}(hc:aL w c.r rv dv)(hv:bY w vv vs)(hr:aL w r rv' eO):ag Tryz.prog 189 #[.agg (dS ⟨3,q,p,b,s,c,vs,r,peer,seq⟩ rv dv vv rv' eO).toArray] w (λv w'=>v=.bool (fu ⟨3,q,p,b,s,c,vs,r,peer,seq⟩)/\GB none w w'):=by
 obtain⟨_,_,_,_,_,_,rfl,rfl⟩:=hc.sl;obtain⟨_,_,_,_,_,_,rfl,rfl⟩:=hr.sl;obtain⟨_,_,rfl⟩:=hv.sl;refine aj ah mixed Tryz.func189 rfl rfl ?_;refine λw1 b1 m1 g1 l1=>⟨_,_,m1,_,rfl,?_⟩
 have G:=g1;refine⟨_,_,_,m1,rfl,rfl,λw3 m1 g3=>?_⟩;have G:=G.new g3 l1;refine⟨_,_,m1,dS ⟨3,q,p,⟨0,0⟩,s,c,vs,r,peer,seq⟩ _ _ _ _ _,rfl,rfl,_,gP (m:=⟨3,q,p,⟨0,0⟩,s,c,vs,r,peer,seq⟩) (hc.kz G.kz) (hv.kz G.kz) (hr.kz G.kz),?_⟩;rintro _ w9 ⟨rfl,g9⟩;exact⟨congrArg Value.bool (by simp[fu]),G.trans g9⟩
theorem ab4{q:bQ}{p:aB}{b:bF}{s:Nat}{c:MC}{vs:List MV}{r:Rg}{peer seq:Int}(hc:aL w c.r rv dv)(hv:bY w vv vs)(hr:aL w r rv' eO):ag Tryz.prog 189 #[.agg (dS ⟨4,q,p,b,s,c,vs,r,peer,seq⟩ rv dv vv rv' eO).toArray] w (λv w'=>v=.bool (fu ⟨4,q,p,b,s,c,vs,r,peer,seq⟩)/\GB none w w'):=by
 obtain⟨_,_,_,_,_,_,rfl,rfl⟩:=hc.sl;obtain⟨_,_,_,_,_,_,rfl,rfl⟩:=hr.sl;obtain⟨_,_,rfl⟩:=hv.sl;refine aj ah mixed Tryz.func189 rfl rfl ?_;refine λw1 b1 m1 g1 l1=>⟨_,_,m1,_,rfl,?_⟩
 refine⟨_,_,m1,_,rfl,_,Uv (hv.kz g1.kz),?_⟩;rintro _ w2 ⟨rfl,g2⟩;have m1:=g2.get m1 nofun;have G:=g1.trans g2;refine⟨_,_,_,m1,rfl,rfl,λw3 m1 g3=>?_⟩;have G:=G.new g3 l1;refine⟨_,_,_,m1,rfl,rfl,λw4 m1 g4=>?_⟩;have G:=G.new g4 l1;obtain⟨a,ha⟩:∃a,nI vs=a:=⟨_,rfl⟩;rw[ha];cases a
 ·exact⟨congrArg Value.bool (by simp[fu,ha]),G⟩
 ·refine⟨_,_,m1,dS ⟨4,q,p,⟨0,0⟩,s,c,[],r,peer,seq⟩ _ _ (.slice none 0 0) _ _,rfl,rfl,_,gP (m:=⟨4,q,p,⟨0,0⟩,s,c,[],r,peer,seq⟩) (hc.kz G.kz) (bY.zero _) (hr.kz G.kz),?_⟩
  rintro _ w9 ⟨rfl,g9⟩;exact⟨congrArg Value.bool (by simp[fu,ha]),G.trans g9⟩
theorem ab5{q:bQ}{p:aB}{b:bF}{s:Nat}{c:MC}{vs:List MV}{r:Rg}{peer seq:Int}(hc:aL w c.r rv dv)(hv:bY w vv vs)(hr:aL w r rv' eO):ag Tryz.prog 189 #[.agg (dS ⟨5,q,p,b,s,c,vs,r,peer,seq⟩ rv dv vv rv' eO).toArray] w (λv w'=>v=.bool (fu ⟨5,q,p,b,s,c,vs,r,peer,seq⟩)/\GB none w w'):=by
 obtain⟨_,_,_,_,_,_,rfl,rfl⟩:=hc.sl;obtain⟨_,_,_,_,_,_,rfl,rfl⟩:=hr.sl;obtain⟨_,_,rfl⟩:=hv.sl;refine aj ah mixed Tryz.func189 rfl rfl ?_;refine λw1 b1 m1 g1 l1=>⟨_,_,m1,_,rfl,?_⟩
 have G:=g1;refine⟨_,_,_,m1,rfl,rfl,λw3 m1 g3=>?_⟩;have G:=G.new g3 l1;refine⟨_,_,m1,dS ⟨5,q,p,⟨0,0⟩,s,c,vs,r,peer,seq⟩ _ _ _ _ _,rfl,rfl,_,gP (m:=⟨5,q,p,⟨0,0⟩,s,c,vs,r,peer,seq⟩) (hc.kz G.kz) (hv.kz G.kz) (hr.kz G.kz),?_⟩;rintro _ w9 ⟨rfl,g9⟩;exact⟨congrArg Value.bool (by simp[fu]),G.trans g9⟩
theorem ab6{q:bQ}{p:aB}{b:bF}{s:Nat}{c:MC}{vs:List MV}{r:Rg}{peer seq:Int}(hc:aL w c.r rv dv)(hv:bY w vv vs)(hr:aL w r rv' eO):ag Tryz.prog 189 #[.agg (dS ⟨6,q,p,b,s,c,vs,r,peer,seq⟩ rv dv vv rv' eO).toArray] w (λv w'=>v=.bool (fu ⟨6,q,p,b,s,c,vs,r,peer,seq⟩)/\GB none w w'):=by
 obtain⟨_,_,_,_,_,_,rfl,rfl⟩:=hc.sl;obtain⟨_,_,_,_,_,_,rfl,rfl⟩:=hr.sl;obtain⟨_,_,rfl⟩:=hv.sl;refine aj ah mixed Tryz.func189 rfl rfl ?_;refine λw1 b1 m1 g1 l1=>⟨_,_,m1,_,rfl,?_⟩
 refine⟨_,_,m1,dA c _ _,rfl,rfl,_,zb (c:=c) (hc.kz g1.kz),?_⟩;rintro _ w2 ⟨rfl,g2⟩;have m1:=g2.get m1 nofun;have G:=g1.trans g2;refine⟨_,_,_,m1,rfl,rfl,λw3 m1 g3=>?_⟩;have G:=G.new g3 l1;refine⟨_,_,_,m1,rfl,rfl,λw4 m1 g4=>?_⟩;have G:=G.new g4 l1;refine⟨_,_,_,m1,rfl,rfl,λw5 m1 g5=>?_⟩;have G:=G.new g5 l1;obtain⟨a,ha⟩:∃a,lh c=a:=⟨_,rfl⟩;rw[ha];cases a
 ·exact⟨congrArg Value.bool (by simp[fu,ha]),G⟩
 ·refine⟨_,_,m1,dS ⟨6,q,p,⟨0,0⟩,0,nD,vs,r,peer,seq⟩ (.slice none 0 0) (.slice none 0 0) _ _ _,rfl,rfl,_,gP (m:=⟨6,q,p,⟨0,0⟩,0,nD,vs,r,peer,seq⟩) (aL.zero _) (hv.kz G.kz) (hr.kz G.kz),?_⟩
  rintro _ w9 ⟨rfl,g9⟩;exact⟨congrArg Value.bool (by simp[fu,ha]),G.trans g9⟩
theorem ab7{q:bQ}{p:aB}{b:bF}{s:Nat}{c:MC}{vs:List MV}{r:Rg}{peer seq:Int}(hc:aL w c.r rv dv)(hv:bY w vv vs)(hr:aL w r rv' eO):ag Tryz.prog 189 #[.agg (dS ⟨7,q,p,b,s,c,vs,r,peer,seq⟩ rv dv vv rv' eO).toArray] w (λv w'=>v=.bool (fu ⟨7,q,p,b,s,c,vs,r,peer,seq⟩)/\GB none w w'):=by
 obtain⟨_,_,_,_,_,_,rfl,rfl⟩:=hc.sl;obtain⟨_,_,_,_,_,_,rfl,rfl⟩:=hr.sl;obtain⟨_,_,rfl⟩:=hv.sl;refine aj ah mixed Tryz.func189 rfl rfl ?_;refine λw1 b1 m1 g1 l1=>⟨_,_,m1,_,rfl,?_⟩
 have G:=g1;refine⟨_,_,_,m1,rfl,rfl,λw3 m1 g3=>?_⟩;have G:=G.new g3 l1;refine⟨_,_,_,m1,rfl,rfl,λw4 m1 g4=>?_⟩;have G:=G.new g4 l1;refine⟨_,_,m1,dS ⟨7,q,p,⟨0,0⟩,0,c,vs,r,peer,seq⟩ _ _ _ _ _,rfl,rfl,_,gP (m:=⟨7,q,p,⟨0,0⟩,0,c,vs,r,peer,seq⟩) (hc.kz G.kz) (hv.kz G.kz) (hr.kz G.kz),?_⟩;rintro _ w9 ⟨rfl,g9⟩;exact⟨congrArg Value.bool (by simp[fu]),G.trans g9⟩
theorem ab8{q:bQ}{p:aB}{b:bF}{s:Nat}{c:MC}{vs:List MV}{r:Rg}{peer seq:Int}(hc:aL w c.r rv dv)(hv:bY w vv vs)(hr:aL w r rv' eO):ag Tryz.prog 189 #[.agg (dS ⟨8,q,p,b,s,c,vs,r,peer,seq⟩ rv dv vv rv' eO).toArray] w (λv w'=>v=.bool (fu ⟨8,q,p,b,s,c,vs,r,peer,seq⟩)/\GB none w w'):=by
 obtain⟨_,_,_,_,_,_,rfl,rfl⟩:=hc.sl;obtain⟨_,_,_,_,_,_,rfl,rfl⟩:=hr.sl;obtain⟨_,_,rfl⟩:=hv.sl;refine aj ah mixed Tryz.func189 rfl rfl ?_;refine λw1 b1 m1 g1 l1=>⟨_,_,m1,_,rfl,?_⟩
 refine⟨_,_,m1,dA c _ _,rfl,rfl,_,zb (c:=c) (hc.kz g1.kz),?_⟩;rintro _ w2 ⟨rfl,g2⟩;have m1:=g2.get m1 nofun;have G:=g1.trans g2;refine⟨_,_,_,m1,rfl,rfl,λw3 m1 g3=>?_⟩;have G:=G.new g3 l1;refine⟨_,_,_,m1,rfl,rfl,λw4 m1 g4=>?_⟩;have G:=G.new g4 l1;obtain⟨a,ha⟩:∃a,lh c=a:=⟨_,rfl⟩;rw[ha];cases a
 ·exact⟨congrArg Value.bool (by simp[fu,ha]),G⟩
 ·refine⟨_,_,m1,dS ⟨8,q,p,b,0,nD,vs,r,peer,seq⟩ (.slice none 0 0) (.slice none 0 0) _ _ _,rfl,rfl,_,gP (m:=⟨8,q,p,b,0,nD,vs,r,peer,seq⟩) (aL.zero _) (hv.kz G.kz) (hr.kz G.kz),?_⟩
  rintro _ w9 ⟨rfl,g9⟩;exact⟨congrArg Value.bool (by simp[fu,ha]),G.trans g9⟩
theorem ab9{q:bQ}{p:aB}{b:bF}{s:Nat}{c:MC}{vs:List MV}{r:Rg}{peer seq:Int}(hc:aL w c.r rv dv)(hv:bY w vv vs)(hr:aL w r rv' eO):ag Tryz.prog 189 #[.agg (dS ⟨9,q,p,b,s,c,vs,r,peer,seq⟩ rv dv vv rv' eO).toArray] w (λv w'=>v=.bool (fu ⟨9,q,p,b,s,c,vs,r,peer,seq⟩)/\GB none w w'):=by
 obtain⟨_,_,_,_,_,_,rfl,rfl⟩:=hc.sl;obtain⟨_,_,_,_,_,_,rfl,rfl⟩:=hr.sl;obtain⟨_,_,rfl⟩:=hv.sl;refine aj ah mixed Tryz.func189 rfl rfl ?_;refine λw1 b1 m1 g1 l1=>⟨_,_,m1,_,rfl,?_⟩
 refine⟨_,_,m1,dP r _ _,rfl,rfl,_,DI (r:=r) (hr.kz g1.kz),?_⟩;rintro _ w2 ⟨rfl,g2⟩;have m1:=g2.get m1 nofun;have G:=g1.trans g2;refine⟨_,_,_,m1,rfl,rfl,λw3 m1 g3=>?_⟩;have G:=G.new g3 l1;obtain⟨a,ha⟩:∃a,oU r=a:=⟨_,rfl⟩;rw[ha];cases a
 ·exact⟨congrArg Value.bool (by simp[fu,ha]),G⟩
 ·refine⟨_,_,m1,dS ⟨9,q,p,b,s,c,vs,qh,peer,seq⟩ _ _ _ (.slice none 0 0) (.slice none 0 0),rfl,rfl,_,gP (m:=⟨9,q,p,b,s,c,vs,qh,peer,seq⟩) (hc.kz G.kz) (hv.kz G.kz) (aL.zero _),?_⟩
  rintro _ w9 ⟨rfl,g9⟩;exact⟨congrArg Value.bool (by simp[fu,ha]),G.trans g9⟩
theorem aaL{q:bQ}{p:aB}{b:bF}{s:Nat}{c:MC}{vs:List MV}{r:Rg}{peer seq:Int}(hc:aL w c.r rv dv)(hv:bY w vv vs)(hr:aL w r rv' eO):ag Tryz.prog 189 #[.agg (dS ⟨10,q,p,b,s,c,vs,r,peer,seq⟩ rv dv vv rv' eO).toArray] w (λv w'=>v=.bool (fu ⟨10,q,p,b,s,c,vs,r,peer,seq⟩)/\GB none w w'):=by
 obtain⟨_,_,_,_,_,_,rfl,rfl⟩:=hc.sl;obtain⟨_,_,_,_,_,_,rfl,rfl⟩:=hr.sl;obtain⟨_,_,rfl⟩:=hv.sl;refine aj ah mixed Tryz.func189 rfl rfl ?_;refine λw1 b1 m1 g1 l1=>⟨_,_,m1,_,rfl,?_⟩
 refine⟨_,_,m1,_,rfl,_,pV w1 _,?_⟩;rintro _ w2 ⟨rfl,rfl⟩;have G:=g1;refine⟨_,_,_,m1,rfl,rfl,λw3 m1 g3=>?_⟩;have G:=G.new g3 l1;refine⟨_,_,_,m1,rfl,rfl,λw4 m1 g4=>?_⟩;have G:=G.new g4 l1;obtain⟨a,ha⟩:∃a,decide (peer<4)=a:=⟨_,rfl⟩;rw[ha];cases a
 ·exact⟨congrArg Value.bool (by simp[fu,ha]),G⟩
 ·refine⟨_,_,m1,dS ⟨10,q,p,b,s,c,vs,r,0,0⟩ _ _ _ _ _,rfl,rfl,_,gP (m:=⟨10,q,p,b,s,c,vs,r,0,0⟩) (hc.kz G.kz) (hv.kz G.kz) (hr.kz G.kz),?_⟩
  rintro _ w9 ⟨rfl,g9⟩;exact⟨congrArg Value.bool (by simp[fu,ha]),G.trans g9⟩
theorem Pg(hc:aL w m.c.r rv dv)(hv:bY w vv m.vs)(hr:aL w m.r rv' eO):ag Tryz.prog 189 #[.agg (dS m rv dv vv rv' eO).toArray] w (λv w'=>v=.bool (fu m)/\GB none w w'):=by
 obtain⟨k,q,p,b,s,c,vs,r,peer,seq⟩:=m;by_cases k1:k=1
 ·subst k1;exact ab1 hc hv hr
 by_cases k2:k=2
 ·subst k2;exact ab2 hc hv hr
 by_cases k3:k=3
 ·subst k3;exact ab3 hc hv hr
 by_cases k4:k=4
 ·subst k4;exact ab4 hc hv hr
 by_cases k5:k=5
 ·subst k5;exact ab5 hc hv hr
 by_cases k6:k=6
 ·subst k6;exact ab6 hc hv hr
 by_cases k7:k=7
 ·subst k7;exact ab7 hc hv hr
 by_cases k8:k=8
 ·subst k8;exact ab8 hc hv hr
 by_cases k9:k=9
 ·subst k9;exact ab9 hc hv hr
 by_cases k10:k=10
 ·subst k10;exact aaL hc hv hr
 obtain⟨_,_,_,_,_,_,rfl,rfl⟩:=hc.sl;obtain⟨_,_,_,_,_,_,rfl,rfl⟩:=hr.sl;obtain⟨_,_,rfl⟩:=hv.sl;refine aj ah mixed Tryz.func189 rfl rfl ?_;refine λw1 b1 m1 g1 l1=>⟨_,_,m1,_,rfl,?_⟩
 refine au (λe=>absurd (by simpa using e) k1) (λ_=>?_);refine au (λe=>absurd (by simpa using e) k2) (λ_=>?_);refine au (λe=>absurd (by simpa using e) k3) (λ_=>?_);refine au (λe=>absurd (by simpa using e) k5) (λ_=>?_);refine au (λe=>absurd (by simpa using e) k4) (λ_=>?_);refine au (λe=>absurd (by simpa using e) k6) (λ_=>?_);refine au (λe=>absurd (by simpa using e) k7) (λ_=>?_);refine au (λe=>absurd (by simpa using e) k8) (λ_=>?_);refine au (λe=>absurd (by simpa using e) k9) (λ_=>?_);refine au (λe=>absurd (by simpa using e) k10) (λ_=>?_);exact⟨congrArg Value.bool (by simp[fu,k1,k2,k3,k4,k5,k6,k7,k8,k9,k10]),g1⟩
end
end
