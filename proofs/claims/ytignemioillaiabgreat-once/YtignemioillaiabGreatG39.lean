/- Lemmas. -/
import Derived.Test.YtignemioillaiabGreatG38
namespace Go.Proofs.YtignemioillaiabGreat
set_option maxHeartbeats 8000000
set_option maxRecDepth 100000
open List
section
open Go Go.Conc
structure Row.b(x:Row):Prop where
 k:iB x.key
 v:iB x.val
structure ag.b(p:ag):Prop where
 c:U8 p.c
 s:tq p.s
 key:iB p.key
 k:U8 p.k
 v:iB p.v
 g:U8 p.g
structure aW.b(q:aW):Prop where
 c:U8 q.c
 s:tq q.s
 k:U8 q.k
 key:iB q.key
 v:iB q.v
 hi:iB q.hi
 to:U8 q.to
structure Rg.b(r:Rg):Prop where
 src:U8 r.src
 dst:U8 r.dst
 seq:tq r.seq
 lo:iB r.lo
 hi:iB r.hi
 rows:∀x∈r.rows,x.b
 aX:∀x∈r.aX,x.b
 rl:r.rows.length<=20000
 dl:r.aX.length<=20000
structure iE(N:Nat)(c:MC):Prop where
 kind:U8 c.kind
 q:c.q.b
 r:c.r.b
 peer:U8 c.peer
 seq:tq c.seq
 src:c.kind=2->c.r.src<N
 ask:c.kind=1->fV c.q=true
structure cu(N k:Nat)(s:St):Prop where
 vQ:k<=61
 ok:sP s
 n:s.n=N
 t:s.T.length<=256*k
 tb:∀x∈s.T,x.b
 d:s.D.length<=256*k
 db:∀x∈s.D,x.b
 o:∀o∈s.O,o.2.length<=4/\1<=o.1/\o.1<=k+1/\∀r∈o.2,r.src=s.g/\r.b
 i:∀x∈s.I,0<=x/\x<=k
theorem M4{α:Type}{l:List α}{i:Nat}{a x:α}(h:x∈pV l i a):x=a\/x∈l:=by
 unfold pV at h;rcases Jdc.1 h with h|h
 .exact .inr (Jfy h)
 .rcases Jb3.1 h with h|h
  .exact .inl h
  .exact .inr (mem_of_mem_drop h)
theorem Xo{T:List Row}{key v:Int}{x:Row}(h:x∈jO T key v):x=⟨key,v⟩\/x∈T:=by
 unfold jO at h;split at h
 .exact xg h
 .split at h
  .exact .inr h
  .exact M4 h
theorem Xp{T:List Row}{key:Int}{x:Row}(h:x∈ug T key):x∈T:=by
 unfold ug at h;split at h
 .exact(Jdh _ _).subset h
 .exact h
theorem AO{D:List ag}{q x:ag}(h:x∈gH D q):x=q\/x∈D:=by
 unfold gH at h;split at h
 .exact xg h
 .exact M4 h
theorem IQ{α:Type}{f:α->Int}{lo hi:Int}{l:List α}{x:α}(h:x∈sB f lo l++sA f lo hi l):x∈l:=by
 rcases Jdc.1 h with h|h
 .exact(mem_filter.1 h).1
 .exact(mem_filter.1 h).1
theorem ac5{T:List Row}(h:∀x∈T,x.b)(key:Int):iB (oN T key):=by
 unfold oN;split
 .cases hx:T[uT T key]? with
  |none=>exact⟨Jfb 0,by decide⟩
  |some x=>exact(h x (Jcv hx)).v
 .exact⟨Jfb 0,by decide⟩
theorem Ry{s:St}(hT:∀x∈s.T,x.b){q:aW}(hq:q.b):(dN s q).b:=by
 have z:iB 0:=⟨Jfb 0,by decide⟩;have z8:U8 0:=⟨Jfb 0,by decide⟩;have e1:U8 1:=⟨by decide,by decide⟩;have e2:U8 2:=⟨by decide,by decide⟩;have e5:U8 5:=⟨by decide,by decide⟩;unfold dN;split
 .exact⟨hq.c,hq.s,hq.key,e1,ac5 hT _,z8⟩
 split
 .refine⟨hq.c,hq.s,hq.key,?_,z,z8⟩
  show U8 (jD _ _);unfold jD;split
  .exact e2
  .split
   .exact e5
   .exact e2
 split
 .exact⟨hq.c,hq.s,hq.key,e2,z,z8⟩
 split
 .exact⟨hq.c,hq.s,hq.key,e2,z,z8⟩
 .exact⟨hq.c,hq.s,hq.key,e5,z,z8⟩
section
variable{N k:Nat}{s:St}
theorem cu.up(h:cu N k s)(hk:k<=60):cu N (k+1) s:=⟨by omega,h.ok,h.n,by have:=h.t;omega,h.tb,by have:=h.d;omega,h.db,λo ho=>by
 obtain⟨a,b,c,d⟩:=h.o o ho;exact⟨a,b,by omega,d⟩,λx hx=>by have:=h.i x hx;omega⟩
theorem IU{q:aW}(h:fV q=true)(h4:q.k=4):q.key<=q.hi/\q.to<4:=by
 unfold fV at h;rw[h4]at h;simp at h;exact⟨h.2.1,h.2.2.1⟩
theorem cu.do(h:cu N k s)(hk:k<=60){q:aW}(hq:q.b)(ho:fV q=true):cu N (k+1) (fP s q):=by
 have hr:=Pw h.ok.sD (dN s q);have hpb:=Ry h.tb hq;have hd:=h.d;have ht:=h.t;have u:=h.up hk;have ok:=h.ok;have db:∀x∈gH s.D (dN s q),x.b:=λx hx=>by
  rcases AO hx with rfl|hx
  .exact hpb
  .exact h.db x hx
 unfold fP;split
 .have h1:=aap ok.sT q.key q.v
  exact⟨u.vQ,⟨ok.g0,ok.gn,ok.n4,h1.1,hr.1,ok.CJ,ok.can,ok.ol,ok.il⟩,h.n,by have:=h1.2;dsimp only;omega,λx hx=>(Xo hx).elim (λe=>by rw[e];exact⟨hq.key,hq.v⟩) (h.tb x),by have:=hr.2;dsimp only;omega,db,u.o,u.i⟩
 split
 .have h1:=aaq ok.sT q.key
  exact⟨u.vQ,⟨ok.g0,ok.gn,ok.n4,h1.1,hr.1,ok.CJ,ok.can,ok.ol,ok.il⟩,h.n,by have:=h1.2;dsimp only;omega,λx hx=>h.tb x (Xp hx),by have:=hr.2;dsimp only;omega,db,u.o,u.i⟩
 split
 .rename_i c4
  obtain⟨h4,hf⟩:=c4;obtain⟨hlh,hto⟩:=IU ho h4;obtain⟨gc,_⟩:=xN ok.can hq.key.1 hlh (by have:=hq.hi.2;omega) (g:=q.to) ⟨hq.to.1,hto⟩;have f8:(fC s.M q.key q.hi q.to).length<=8:=by unfold gP at hf;simp at hf;exact hf.2
  have fq:(aP s.O q.to).2.length<4:=by unfold gP at hf;simp at hf;exact hf.1.2
  have fn:q.to<s.n:=by unfold gP at hf;simp at hf;exact hf.1.1.2
  have hlm:aP s.O q.to∈s.O:=by
   unfold aP;have hl:q.to.toNat<s.O.length:=by have:=ok.ol;have:=hq.to.1;omega
   rw[Jcc hl];exact getElem_mem hl
  obtain⟨l1,l2,l3,l4⟩:=h.o _ hlm;have hw:IntKind.u32.wrap ((aP s.O q.to).1+1)=(aP s.O q.to).1+1:=wrap_u32 (by omega);have a1:(sW (λx:Row=>x.key) q.key q.hi s.T).length<=s.T.length:=Jff _ _;have a2:(sW (λx:ag=>x.key) q.key q.hi (gH s.D (dN s q))).length<=(gH s.D (dN s q)).length:=Jff _ _;have a3:(Av s.T q.key q.hi).length<=s.T.length:=by unfold Av;exact DJ hlh ok.sT.le
  have a4:(Aw (gH s.D (dN s q)) q.key q.hi).length<=(gH s.D (dN s q)).length:=by unfold Aw;exact DJ hlh hr.1.le
  have hr2:=hr.2;refine⟨u.vQ,⟨ok.g0,ok.gn,ok.n4,?_,?_,Hd gc (Jb1 f8 (by omega)),gc,?_,ok.il⟩,h.n,?_,λx hx=>h.tb x (IQ hx),?_,λx hx=>db x (IQ hx),λo ho'=>?_,u.i⟩
  .show fT (Av _ _ _);unfold Av;rw[xY hlh ok.sT.le];exact ok.sT.sublist Jdp
  .show iM (Aw _ _ _);unfold Aw;rw[xY hlh hr.1.le];exact hr.1.sublist Jdp
  .show((List.set _ _ _).length:Int)=_;rw[Jgd];exact ok.ol
  .show(Av _ _ _).length<=_;omega
  .show(Aw _ _ _).length<=_;omega
  .rcases xg ho' with rfl|ho'
   .rw[hw]
    refine⟨by simp only[Jc6,Jfz];omega,by dsimp only;omega,by dsimp only;omega,λr hr'=>?_⟩;rcases Jdc.1 hr' with hr' | hr'
    .exact l4 r hr'
    .rw[Jg6]at hr'
     subst hr';have hg:=ok.g0;have hgn:=ok.gn;have oI:=ok.n4;exact⟨rfl,⟨⟨hg,by show s.g<256;omega⟩,hq.to,⟨by show 0<=(aP s.O q.to).1;omega,by show(aP s.O q.to).1<4294967296;omega⟩,hq.key,hq.hi,λx hx=>h.tb x (mem_filter.1 hx).1,λx hx=>db x (mem_filter.1 hx).1,by show(sW _ _ _ _).length<=_;omega,by show(sW _ _ _ _).length<=_;omega⟩⟩
   .exact u.o o ho'
 .exact⟨u.vQ,⟨ok.g0,ok.gn,ok.n4,ok.sT,hr.1,ok.CJ,ok.can,ok.ol,ok.il⟩,h.n,u.t,h.tb,by have:=hr.2;dsimp only;omega,db,u.o,u.i⟩
theorem cu.ask(h:cu N k s)(hk:k<=60){q:aW}(hq:q.b):cu N (k+1) (iy s q).1:=by
 have u:=h.up hk;unfold iy;split
 .exact u
 .rename_i hok
  have hdo:=h.do hk hq (by simpa using hok);split
  .exact u
  .split
   .split
    .split
     .exact hdo
     .split<;>exact u
    .exact u
   .exact hdo
theorem cu.rcv(h:cu N k s)(hk:k<=60){r:Rg}(hr:r.b):cu N (k+1) (mV s r):=by
 have u:=h.up hk;have ok:=h.ok;unfold mV;split
 .rename_i c
  obtain⟨hok,hn,hg⟩:=c;obtain⟨hlh,h1,h2⟩:=oU hok;obtain⟨s1,i1,l1⟩:=yJ h1;obtain⟨s2,i2,l2⟩:=uC h2;have hg4:=ok.gn;have oI:=ok.n4;have hg0:=ok.g0;obtain⟨gc,_⟩:=xN ok.can hr.lo.1 hlh (by have:=hr.hi.2;omega) (g:=s.g) ⟨hg0,by omega⟩;have b1:(sB (λx:Row=>x.key) r.lo s.T++sA (λx:Row=>x.key) r.lo r.hi s.T).length<=s.T.length:=DJ hlh ok.sT.le;have b2:(sB (λx:ag=>x.key) r.lo s.D++sA (λx:ag=>x.key) r.lo r.hi s.D).length<=s.D.length:=DJ hlh ok.sD.le;simp only[Jc6]at b1 b2;have ht:=h.t;have hd:=h.d;refine⟨u.vQ,⟨ok.g0,ok.gn,ok.n4,acY (lo:=r.lo) (hi:=r.hi) (λx hx=>Rt hx) (λx hx=>Ru hx) i1 (ok.sT.sublist Jdp) s1 (ok.sT.sublist Jdp) hlh,aar (lo:=r.lo) (hi:=r.hi) (λx hx=>Rt hx) (λx hx=>Ru hx) i2 (ok.sD.sublist Jdp) s2 (ok.sD.sublist Jdp) hlh,Hd gc hg,gc,ok.ol,?_⟩,h.n,?_,λx hx=>?_,?_,λx hx=>?_,u.o,λx hx=>?_⟩
  .show((List.set _ _ _).length:Int)=_;rw[Jgd];exact ok.il
  .simp only[Jc6];omega
  .rcases Jdc.1 hx with hx|hx
   .exact h.tb x (mem_filter.1 hx).1
   .rcases Jdc.1 hx with hx|hx
    .exact hr.rows x hx
    .exact h.tb x (mem_filter.1 hx).1
  .simp only[Jc6];omega
  .rcases Jdc.1 hx with hx|hx
   .exact h.db x (mem_filter.1 hx).1
   .rcases Jdc.1 hx with hx|hx
    .exact hr.aX x hx
    .exact h.db x (mem_filter.1 hx).1
  .rcases xg hx with rfl|hx
   .have hsrc:r.seq=IntKind.u32.wrap (((s.I[r.src.toNat]?).getD 0)+1):=by unfold vX at hn;simp at hn;exact hn.2
    have hold:0<=(s.I[r.src.toNat]?).getD 0/\(s.I[r.src.toNat]?).getD 0<=k:=by
     cases hx:s.I[r.src.toNat]? with
     |none=>exact⟨Jfb 0,by show(0:Int)<=k;omega⟩
     |some y=>exact h.i y (Jcv hx)
    rw[wrap_u32 (by omega)]at hsrc;omega
   .exact u.i x hx
 .exact u
theorem cu.set(h:cu N k s)(hk:k<=60){peer:Int}(hp0:0<=peer)(sq:Int):cu N (k+1) (lY s peer sq):=by
 have u:=h.up hk;have ok:=h.ok;unfold lY;split
 .refine⟨u.vQ,⟨ok.g0,ok.gn,ok.n4,ok.sT,ok.sD,ok.CJ,ok.can,?_,ok.il⟩,h.n,u.t,u.tb,u.d,u.db,λo ho=>?_,u.i⟩
  .show((List.set _ _ _).length:Int)=_;rw[Jgd];exact ok.ol
  .rcases xg ho with rfl|ho
   .rename_i hpn
    have hlm:aP s.O peer∈s.O:=by
     unfold aP;have hl:peer.toNat<s.O.length:=by have:=ok.ol;omega
     rw[Jcc hl];exact getElem_mem hl
    obtain⟨l1,l2,l3,l4⟩:=u.o _ hlm;exact⟨Jb1 (Jff _ _) l1,l2,l3,λr hr=>l4 r (mem_filter.1 hr).1⟩
   .exact u.o o ho
 .exact u
theorem cu.app(h:cu N k s)(hk:k<=60){c:MC}(hc:iE N c):cu N (k+1) (cB s c).1:=by
 unfold cB;split
 .exact h.ask hk hc.q
 split
 .exact h.rcv hk hc.r
 split
 .exact h.set hk hc.peer.1 _
 .exact h.up hk
end
theorem aS.own{w w':World}{r:Rg}{rv dv v:Value}{n:Nat}{xs:List Value}(h:aS w r rv dv)(ho:w.ownsRow 0 178 20 v n xs)(g:GB v.ownBlock w w'):aS w' r rv dv:=by
 cases hv:v.ownBlock with
 |none=>rw[hv]at g;exact h.kz g.kz
 |some x =>
  rw[hv]at g;obtain⟨c,hc⟩:=au ho hv;exact h.bU g hc (by decide) (by decide)
theorem zip_map{α β γ:Type}(f:α->β->γ):∀l:List (α×β),zipWith f (l.map (·.1)) (l.map (·.2))=l.map λx=>f x.1 x.2
 | []=>rfl
 |_::l=>by simp only[Jcj,zipWith_cons_cons,zip_map f l]
section
variable{w:World}{b:Nat}{l:List Nat}
abbrev mvA(x:MV×Value×Value):List Value:=kE x.1 x.2.1 x.2.2
theorem dC.of{w:World}{v:Value}{acc:List (MV×Value×Value)}(ho:w.ownsRow 0 178 20 v acc.length (acc.map mvA).flatten)(hr:∀x∈acc,aS w x.1.c.r x.2.1 x.2.2):dC w v (acc.map (·.1)):=by
 refine⟨acc.map (·.2),by simp,?_,λi x p hx hp=>?_⟩
 .rw[zip_map (λx (p:Value×Value)=>kE x p.1 p.2),Jf6]
  exact qb ho
 .rw[Jdd]at hx hp
  cases ha:acc[i]? with
  |none=>rw[ha]at hx;cases hx
  |some y =>
   rw[ha]at hx hp;cases hx;cases hp
   exact hr y (Jcv ha)
theorem Xq(hs:Src w b l):CY 72 #[Ptt b,.func (.func 73) #[Ptt b] #[]] w (λv w'=>∃x l',lZ oO l=(x,l')/\dC w' v x/\Src w' b l'/\GB (some b) w w'):=by
 refine aj Tryz.func72 rfl rfl ?_;refine⟨_,lQ hs,?_⟩;rintro _ w1 ⟨n,l1,en,hn,rfl,s1,g1⟩;refine⟨λm s wk=>∃(i:Nat) (v:Value) (acc:List (MV×Value×Value)) (li:List Nat),m=n-i/\i<=n/\s=[(0,Ptt b),(1,.func (.func 73) #[Ptt b] #[]),(5,v),(7,.int .u8 n),(8,.int .u8 i)]/\wk.ownsRow 0 178 20 v acc.length (acc.map mvA).flatten/\Src wk b li/\GB (some b) w wk/\(∀g,v.ownBlock=some g->w.heap.size<=g)/\tK oO n l1=(acc.map (·.1)++(tK oO (n-i) li).1,(tK oO (n-i) li).2)/\acc.length=i/\∀x∈acc,aS wk x.1.c.r x.2.1 x.2.2,⟨_,_,⟨0,_,[],l1,rfl,Jcm _,rfl,eu _ _ _,s1,g1,nofun,rfl,rfl,λ_ h=>by cases h⟩,sb rfl⟩,?_⟩;clear s1 g1;rintro m s wk ⟨i,v,acc,li,rfl,hi,rfl,ho,sk,gk,nk,hr,Tx,hrg⟩;obtain⟨va,vc,rfl⟩:=af ho;refine ah (λe=>?_) (λe=>?_)
 .have e1:i<n:=by have:=Ptq e;omega
  obtain⟨d,hd,rfl⟩:=sk;refine⟨_,_,hd,_,rfl,ah (λq=>?_) (λq=>?_)⟩
  .rw[zu.1 q,Pf,Jc1]at hr
   exact⟨_,_,by rw[lZ,aY en];exact hr,dC.of ho hrg,⟨d,hd,zu.1 q⟩,gk⟩
  .have q1:dl d≠[]:=λz=>by rw[zu.2 z]at q;cases q
   refine⟨_,aaa ⟨d,hd,rfl⟩,?_⟩;rintro _ w2 ⟨x,l2,ex,⟨rv,dv,rfl,hx⟩,s2,g2⟩;obtain⟨ra,rm,rc,da,dm,dc,rfl,rfl⟩:=hx.sl;refine λw3 b3 m3 g3 l3=>?_
   have hb:=hs.lt;have ho3:=ax (DF ho g2 nk hb) λx hx=>by obtain⟨c,hc⟩:=au (DF ho g2 nk hb) hx;exact g3.block x (ae hc) nofun
   refine⟨_,kE x (.slice ra rm rc) (.slice da dm dc),ho3,⟨_,_,m3,rfl,rfl,rfl⟩,by omega,λv' w4 Bi g4 n4=>?_⟩;obtain⟨Yq,Yr,rfl⟩:=af Bi;have zw:GB (some b) w w3:=(gk.trans g2).trans g3.weak;have nk':∀g,(Value.slice Yq (acc.length+1) Yr).ownBlock=some g->w.heap.size<=g:=λg hg=>(n4.own g hg).elim (nk g) λz=>Jb1 zw.size z
   have s4:Src w4 b l2:=(s2.keep (g3.block b s2.lt nofun)).keep (g4.block b (Jbz s2.lt g3.size) λz=>by have:=nk b z.symm;omega);have g4':GB (some b) w w4:=⟨g4.os.trans zw.os,g4.out.trans zw.out,Jb1 zw.size g4.size,λy hy hn=>(g4.block y (Jbz hy zw.size) λz=>by have:=nk y z.symm;omega).trans (zw.block y hy hn)⟩;have ahn:∀y∈acc++[(x,Value.slice ra rm rc,Value.slice da dm dc)],aS w4 y.1.c.r y.2.1 y.2.2:=λy hy=>by
    rcases Jdc.1 hy with hy|hy
    .exact(((hrg y hy).bU g2 hd (by decide) (by decide)).kz g3.kz).own ho3 g4
    .rw[Jg6]at hy
     subst hy;exact(hx.kz g3.kz).own ho3 g4
   refine⟨by omega,_,_,⟨i+1,_,acc++[(x,.slice ra rm rc,.slice da dm dc)],l2,rfl,by omega,rfl,by simpa using(show w4.ownsRow 0 178 20 _ _ _ from Bi),s4,g4',nk',?_,by simp[Tx],ahn⟩,(sb rfl),by omega⟩;rw[hr,show n-i=(n-(i+1))+1 by omega,Fj ex q1];simp
 .have e1:i=n:=by have:=Ptx e;omega
  rw[e1,Nat.sub_self]at hr;exact⟨_,_,by rw[lZ,aY en];simpa[tK]using hr,dC.of ho hrg,sk,gk⟩
end
section
variable{w:World}{m:MM}{rv dv vv rv' jU:Value}
theorem Rz(hc:aS w m.c.r rv dv)(hv:dC w vv m.vs)(hr:aS w m.r rv' jU):CY 66 #[.agg (iW m rv dv vv rv' jU).toArray] w (λv w'=>v=.bool (mo m)/\GB none w w'):=by
 obtain⟨k,q,p,b,s,c,vs,r,peer,seq⟩:=m;obtain⟨_,_,_,_,_,_,rfl,rfl⟩:=hc.sl;obtain⟨_,_,_,_,_,_,rfl,rfl⟩:=hr.sl;obtain⟨_,_,rfl⟩:=hv.sl;refine aj Tryz.func66 rfl rfl ?_;refine λw1 b1 m1 g1 l1=>⟨_,_,m1,_,rfl,?_⟩
 by_cases ks:k=1\/k=2\/k=3\/k=4\/k=5\/k=6\/k=7\/k=8\/k=9\/k=10
 rotate_left
 refine ah (λe=>absurd (show k=1 by simpa using e) (by omega)) (λ_=>?_);refine ah (λe=>absurd (show k=2 by simpa using e) (by omega)) (λ_=>?_);refine ah (λe=>absurd (show k=3 by simpa using e) (by omega)) (λ_=>?_);refine ah (λe=>absurd (show k=5 by simpa using e) (by omega)) (λ_=>?_);refine ah (λe=>absurd (show k=4 by simpa using e) (by omega)) (λ_=>?_);refine ah (λe=>absurd (show k=6 by simpa using e) (by omega)) (λ_=>?_);refine ah (λe=>absurd (show k=7 by simpa using e) (by omega)) (λ_=>?_);refine ah (λe=>absurd (show k=8 by simpa using e) (by omega)) (λ_=>?_);refine ah (λe=>absurd (show k=9 by simpa using e) (by omega)) (λ_=>?_);refine ah (λe=>absurd (show k=10 by simpa using e) (by omega)) (λ_=>?_);exact⟨vb (by simp[mo,show k≠1 by omega,show k≠2 by omega,show k≠3 by omega,show k≠4 by omega,show k≠5 by omega,show k≠6 by omega,show k≠7 by omega,show k≠8 by omega,show k≠9 by omega,show k≠10 by omega]),g1⟩
 rcases ks with rfl|rfl|rfl|rfl|rfl|rfl|rfl|rfl|rfl|rfl;focus
  refine⟨_,_,m1,q.cells,rfl,rfl,_,Ao w1 q,?_⟩;rintro _ w2 ⟨rfl,g2⟩;have m1:=g2.get m1 nofun;have G:=g1.trans g2;generalize ha:fV q=a
 rotate_left
 focus
  refine⟨_,_,m1,p.cells,rfl,rfl,_,Mv w1 p,?_⟩;rintro _ w2 ⟨rfl,g2⟩;have m1:=g2.get m1 nofun;have G:=g1.trans g2;generalize ha:lJ p=a
 rotate_left
 focus have G:=g1
 rotate_left
 focus
  refine⟨_,_,m1,_,rfl,_,WU (hv.kz g1.kz),?_⟩;rintro _ w2 ⟨rfl,g2⟩;have m1:=g2.get m1 nofun;have G:=g1.trans g2;generalize ha:oM vs=a
 rotate_left
 focus have G:=g1
 rotate_left
 focus
  refine⟨_,_,m1,dF c _ _,rfl,rfl,_,Ar (c:=c) (hc.kz g1.kz),?_⟩;rintro _ w2 ⟨rfl,g2⟩;have m1:=g2.get m1 nofun;have G:=g1.trans g2;generalize ha:mi c=a
 rotate_left
 focus have G:=g1
 rotate_left
 focus
  refine⟨_,_,m1,dF c _ _,rfl,rfl,_,Ar (c:=c) (hc.kz g1.kz),?_⟩;rintro _ w2 ⟨rfl,g2⟩;have m1:=g2.get m1 nofun;have G:=g1.trans g2;generalize ha:mi c=a
 rotate_left
 focus
  refine⟨_,_,m1,fB r _ _,rfl,rfl,_,Ff (r:=r) (hr.kz g1.kz),?_⟩;rintro _ w2 ⟨rfl,g2⟩;have m1:=g2.get m1 nofun;have G:=g1.trans g2;generalize ha:nY r=a
 rotate_left
 focus
  refine⟨_,_,m1,_,rfl,_,qP w1 _,?_⟩;rintro _ w2 ⟨rfl,rfl⟩;have G:=g1;generalize ha:decide (peer<4)=a
 rotate_left
 all_goals
  repeat
   refine⟨_,_,_,m1,rfl,rfl,λw3 m1 g3=>?_⟩;have G:=G.new g3 l1
 all_goals try cases a
 all_goals try exact⟨vb (by simp[mo,ha]),G⟩
 focus refine⟨_,_,m1,iW ⟨1,vG,p,b,s,c,vs,r,peer,seq⟩ _ _ _ _ _,rfl,rfl,_,iA (m:=⟨1,vG,p,b,s,c,vs,r,peer,seq⟩) (hc.kz G.kz) (hv.kz G.kz) (hr.kz G.kz),?_⟩
 rotate_left
 focus refine⟨_,_,m1,iW ⟨2,q,rV,b,s,c,vs,r,peer,seq⟩ _ _ _ _ _,rfl,rfl,_,iA (m:=⟨2,q,rV,b,s,c,vs,r,peer,seq⟩) (hc.kz G.kz) (hv.kz G.kz) (hr.kz G.kz),?_⟩
 rotate_left
 focus refine⟨_,_,m1,iW ⟨3,q,p,⟨0,0⟩,s,c,vs,r,peer,seq⟩ _ _ _ _ _,rfl,rfl,_,iA (m:=⟨3,q,p,⟨0,0⟩,s,c,vs,r,peer,seq⟩) (hc.kz G.kz) (hv.kz G.kz) (hr.kz G.kz),?_⟩
 rotate_left
 focus refine⟨_,_,m1,iW ⟨4,q,p,⟨0,0⟩,s,c,[],r,peer,seq⟩ _ _ Ptz _ _,rfl,rfl,_,iA (m:=⟨4,q,p,⟨0,0⟩,s,c,[],r,peer,seq⟩) (hc.kz G.kz) (dC.zero _) (hr.kz G.kz),?_⟩
 rotate_left
 focus refine⟨_,_,m1,iW ⟨5,q,p,⟨0,0⟩,s,c,vs,r,peer,seq⟩ _ _ _ _ _,rfl,rfl,_,iA (m:=⟨5,q,p,⟨0,0⟩,s,c,vs,r,peer,seq⟩) (hc.kz G.kz) (hv.kz G.kz) (hr.kz G.kz),?_⟩
 rotate_left
 focus refine⟨_,_,m1,iW ⟨6,q,p,⟨0,0⟩,0,nu,vs,r,peer,seq⟩ Ptz Ptz _ _ _,rfl,rfl,_,iA (m:=⟨6,q,p,⟨0,0⟩,0,nu,vs,r,peer,seq⟩) (aS.zero _) (hv.kz G.kz) (hr.kz G.kz),?_⟩
 rotate_left
 focus refine⟨_,_,m1,iW ⟨7,q,p,⟨0,0⟩,0,c,vs,r,peer,seq⟩ _ _ _ _ _,rfl,rfl,_,iA (m:=⟨7,q,p,⟨0,0⟩,0,c,vs,r,peer,seq⟩) (hc.kz G.kz) (hv.kz G.kz) (hr.kz G.kz),?_⟩
 rotate_left
 focus refine⟨_,_,m1,iW ⟨8,q,p,b,0,nu,vs,r,peer,seq⟩ Ptz Ptz _ _ _,rfl,rfl,_,iA (m:=⟨8,q,p,b,0,nu,vs,r,peer,seq⟩) (aS.zero _) (hv.kz G.kz) (hr.kz G.kz),?_⟩
 rotate_left
 focus refine⟨_,_,m1,iW ⟨9,q,p,b,s,c,vs,uP,peer,seq⟩ _ _ _ Ptz Ptz,rfl,rfl,_,iA (m:=⟨9,q,p,b,s,c,vs,uP,peer,seq⟩) (hc.kz G.kz) (hv.kz G.kz) (aS.zero _),?_⟩
 rotate_left
 focus refine⟨_,_,m1,iW ⟨10,q,p,b,s,c,vs,r,0,0⟩ _ _ _ _ _,rfl,rfl,_,iA (m:=⟨10,q,p,b,s,c,vs,r,0,0⟩) (hc.kz G.kz) (hv.kz G.kz) (hr.kz G.kz),?_⟩
 rotate_left
 all_goals
  rintro _ w9 ⟨rfl,g9⟩;exact⟨vb (by first|simp[mo,ha]|simp[mo]),G.trans g9⟩
end
def dV(l:List Nat):MM×List Nat:=nx 1 l λk l =>
 if k=1 then rn qG l λq l=>({aL k with q:=q},l)
 else if k=2 then rn qH l λp l=>({aL k with p:=p},l)
 else if k=3 then rn iN l λb l=>({aL k with b:=b},l)
 else if k=5 then rn iN l λb l=>({aL k with b:=b},l)
 else if k=4 then rn iN l λb l=>rn (lZ oO) l λvs l=>({aL k with b:=b,vs:=vs},l)
 else if k=6 then rn iN l λb l=>nx 4 l λs l=>rn oh l λc l=>({aL k with b:=b,s:=s,c:=c},l)
 else if k=7 then rn iN l λb l=>nx 4 l λs l=>({aL k with b:=b,s:=s},l)
 else if k=8 then nx 4 l λs l=>rn oh l λc l=>({aL k with s:=s,c:=c},l)
 else if k=9 then rn CE l λr l=>({aL k with r:=r},l)
 else if k=10 then nx 1 l λp l=>nx 4 l λs l=>({aL k with peer:=p,seq:=s},l)
 else(aL k,l)
theorem dC.bU{w w':World}{v:Value}{l:List MV}{x t:Nat}{c:Array Value}(h:dC w v l)(g:GB (some x) w w')(hx:w.heap[x]?=some (.cells c t))(h1:t≠139)(h2:t≠70)(h3:t≠178):dC w' v l:=by
 obtain⟨ps,a1,a2,a3⟩:=h;exact⟨ps,a1,a2.bU g hx h3,λi y p hy hp=>(a3 i y p hy hp).bU g hx h1 h2⟩
section
variable{w:World}{b:Nat}{l:List Nat}
theorem ac6(hs:Src w b l):CY 44 #[Ptt b] w (λv w'=>∃x l',dV l=(x,l')/\Ch w' v x/\Src w' b l'/\GB (some b) w w'):=by
 refine aj Tryz.func44 rfl rfl ?_;refine λw1 b1 m1 g1 l1=>?_
 refine⟨_,lQ (hs.keep (g1.block b hs.lt nofun)),?_⟩;rintro _ w2 ⟨k,l2,ek,ck,rfl,s2,g2⟩;refine λw3 b3 m3 g3 l3=>⟨_,_,_,m3,rfl,rfl,λw4 m4 g4=>?_⟩
 have B:=Bx.acz hs m1 g1 l1 s2 g2 m3 g3 l3 m4 g4;clear m1 g1 l1 s2 g2 m3 g3 l3 m4 g4;by_cases k1:k=1
 .subst k1
  refine⟨_,_,B.m2,_,rfl,?_⟩;refine⟨_,Un B.s,?_⟩;rintro _ w3 ⟨q,l3,eq,rfl,s3,g3⟩;refine B.mv s3 g3 rfl λw4 B=>?_
  exact B.en (iW {aL 1 with q:=q} Ptz Ptz Ptz Ptz Ptz) rfl rfl rfl rfl rfl λ_ s5 g5 _=>⟨_,_,by rw[dV,aY ek,Jb6 rfl,dU eq];rfl,⟨_,_,_,_,_,rfl,aS.zero _,dC.zero _,aS.zero _⟩,s5,g5⟩
 by_cases k2:k=2
 .subst k2
  refine⟨_,_,B.m2,_,rfl,?_⟩;refine⟨_,Uo B.s,?_⟩;rintro _ w3 ⟨p,l3,ep,rfl,s3,g3⟩;refine B.mv s3 g3 rfl λw4 B=>?_
  exact B.en (iW {aL 2 with p:=p} Ptz Ptz Ptz Ptz Ptz) rfl rfl rfl rfl rfl λ_ s5 g5 _=>⟨_,_,by rw[dV,aY ek,Jb5 (by decide),Jb6 rfl,dU ep];rfl,⟨_,_,_,_,_,rfl,aS.zero _,dC.zero _,aS.zero _⟩,s5,g5⟩
 by_cases k3:k=3
 .subst k3
  refine⟨_,_,B.m2,_,rfl,?_⟩;refine⟨_,zt B.s,?_⟩;rintro _ w3 ⟨bb,l3,He,rfl,s3,g3⟩;refine B.mv s3 g3 rfl λw4 B=>?_
  exact B.en (iW {aL 3 with b:=bb} Ptz Ptz Ptz Ptz Ptz) rfl rfl rfl rfl rfl λ_ s5 g5 _=>⟨_,_,by rw[dV,aY ek,Jb5 (by decide),Jb5 (by decide),Jb6 rfl,dU He];rfl,⟨_,_,_,_,_,rfl,aS.zero _,dC.zero _,aS.zero _⟩,s5,g5⟩
 by_cases k5:k=5
 .subst k5
  refine⟨_,_,B.m2,_,rfl,?_⟩;refine⟨_,zt B.s,?_⟩;rintro _ w3 ⟨bb,l3,He,rfl,s3,g3⟩;refine B.mv s3 g3 rfl λw4 B=>?_
  exact B.en (iW {aL 5 with b:=bb} Ptz Ptz Ptz Ptz Ptz) rfl rfl rfl rfl rfl λ_ s5 g5 _=>⟨_,_,by rw[dV,aY ek,Jb5 (by decide),Jb5 (by decide),Jb5 (by decide),Jb6 rfl,dU He];rfl,⟨_,_,_,_,_,rfl,aS.zero _,dC.zero _,aS.zero _⟩,s5,g5⟩
 by_cases k4:k=4
 .subst k4
  refine⟨_,_,B.m2,_,rfl,?_⟩;refine⟨_,zt B.s,?_⟩;rintro _ w3 ⟨bb,l3,He,rfl,s3,g3⟩;refine B.mv s3 g3 rfl λw4 B=>?_
  refine⟨_,Xq B.s,?_⟩;rintro vv w3 ⟨vs,l3,evs,hv,s3,g3⟩;obtain⟨va,vc,rfl⟩:=hv.sl;replace B:=B.rd s3 g3;clear s3 g3;refine⟨_,_,_,B.m2,rfl,rfl,λw4 m4 g4=>?_⟩;replace hv:=hv.bU g4 B.m2 (by decide) (by decide) (by decide);replace B:=B.st m4 g4;clear m4 g4;refine B.en (iW {aL 4 with b:=bb,vs:=vs} Ptz Ptz (.slice va vs.length vc) Ptz Ptz) rfl rfl rfl rfl rfl λw5 s5 g5 q5=>?_
  replace hv:=hv.bU q5 B.m1 (by decide) (by decide) (by decide);exact⟨_,_,by rw[dV,aY ek,Jb5 (by decide),Jb5 (by decide),Jb5 (by decide),Jb5 (by decide),Jb6 rfl,dU He,dU evs];rfl,⟨_,_,_,_,_,rfl,aS.zero _,hv,aS.zero _⟩,s5,g5⟩
 by_cases k6:k=6
 .subst k6
  refine⟨_,_,B.m2,_,rfl,?_⟩;refine⟨_,zt B.s,?_⟩;rintro _ w3 ⟨bb,l3,He,rfl,s3,g3⟩;refine B.mv s3 g3 rfl λw4 B=>?_
  refine⟨_,qw B.s,?_⟩;rintro _ w3 ⟨s,l3,es,cs,rfl,s3,g3⟩;refine B.mv s3 g3 rfl λw4 B=>?_
  refine⟨_,ME B.s,?_⟩;rintro _ w3 ⟨c,l3,ec,⟨rv,dv,rfl,hr⟩,s3,g3⟩;obtain⟨ra,rm,rc,da,dm,dc,rfl,rfl⟩:=hr.sl;replace B:=B.rd s3 g3;clear s3 g3;refine⟨_,_,_,B.m2,rfl,rfl,λw4 m4 g4=>?_⟩;replace hr:=hr.bU g4 B.m2 (by decide) (by decide);replace B:=B.st m4 g4;clear m4 g4;refine B.en (iW {aL 6 with b:=bb,s:=s,c:=c} (.slice ra rm rc) (.slice da dm dc) Ptz Ptz Ptz) rfl rfl rfl rfl rfl λw5 s5 g5 q5=>?_
  replace hr:=hr.bU q5 B.m1 (by decide) (by decide);exact⟨_,_,by rw[dV,aY ek,Jb5 (by decide),Jb5 (by decide),Jb5 (by decide),Jb5 (by decide),Jb5 (by decide),Jb6 rfl,dU He,aY es,dU ec];rfl,⟨_,_,_,_,_,rfl,hr,dC.zero _,aS.zero _⟩,s5,g5⟩
 by_cases k7:k=7
 .subst k7
  refine⟨_,_,B.m2,_,rfl,?_⟩;refine⟨_,zt B.s,?_⟩;rintro _ w3 ⟨bb,l3,He,rfl,s3,g3⟩;refine B.mv s3 g3 rfl λw4 B=>?_
  refine⟨_,qw B.s,?_⟩;rintro _ w3 ⟨s,l3,es,cs,rfl,s3,g3⟩;refine B.mv s3 g3 rfl λw4 B=>?_
  exact B.en (iW {aL 7 with b:=bb,s:=s} Ptz Ptz Ptz Ptz Ptz) rfl rfl rfl rfl rfl λ_ s5 g5 _=>⟨_,_,by rw[dV,aY ek,Jb5 (by decide),Jb5 (by decide),Jb5 (by decide),Jb5 (by decide),Jb5 (by decide),Jb5 (by decide),Jb6 rfl,dU He,aY es];rfl,⟨_,_,_,_,_,rfl,aS.zero _,dC.zero _,aS.zero _⟩,s5,g5⟩
 by_cases k8:k=8
 .subst k8
  refine⟨_,_,B.m2,_,rfl,?_⟩;refine⟨_,qw B.s,?_⟩;rintro _ w3 ⟨s,l3,es,cs,rfl,s3,g3⟩;refine B.mv s3 g3 rfl λw4 B=>?_
  refine⟨_,ME B.s,?_⟩;rintro _ w3 ⟨c,l3,ec,⟨rv,dv,rfl,hr⟩,s3,g3⟩;obtain⟨ra,rm,rc,da,dm,dc,rfl,rfl⟩:=hr.sl;replace B:=B.rd s3 g3;clear s3 g3;refine⟨_,_,_,B.m2,rfl,rfl,λw4 m4 g4=>?_⟩;replace hr:=hr.bU g4 B.m2 (by decide) (by decide);replace B:=B.st m4 g4;clear m4 g4;refine B.en (iW {aL 8 with s:=s,c:=c} (.slice ra rm rc) (.slice da dm dc) Ptz Ptz Ptz) rfl rfl rfl rfl rfl λw5 s5 g5 q5=>?_
  replace hr:=hr.bU q5 B.m1 (by decide) (by decide);exact⟨_,_,by rw[dV,aY ek,Jb5 (by decide),Jb5 (by decide),Jb5 (by decide),Jb5 (by decide),Jb5 (by decide),Jb5 (by decide),Jb5 (by decide),Jb6 rfl,aY es,dU ec];rfl,⟨_,_,_,_,_,rfl,hr,dC.zero _,aS.zero _⟩,s5,g5⟩
 by_cases k9:k=9
 .subst k9
  refine⟨_,_,B.m2,_,rfl,?_⟩;refine⟨_,Yy B.s,?_⟩;rintro _ w3 ⟨r,l3,er,⟨rv,dv,rfl,hr⟩,s3,g3⟩;obtain⟨ra,rm,rc,da,dm,dc,rfl,rfl⟩:=hr.sl;replace B:=B.rd s3 g3;clear s3 g3;refine⟨_,_,_,B.m2,rfl,rfl,λw4 m4 g4=>?_⟩;replace hr:=hr.bU g4 B.m2 (by decide) (by decide);replace B:=B.st m4 g4;clear m4 g4;refine B.en (iW {aL 9 with r:=r} Ptz Ptz Ptz (.slice ra rm rc) (.slice da dm dc)) rfl rfl rfl rfl rfl λw5 s5 g5 q5=>?_
  replace hr:=hr.bU q5 B.m1 (by decide) (by decide);exact⟨_,_,by rw[dV,aY ek,Jb5 (by decide),Jb5 (by decide),Jb5 (by decide),Jb5 (by decide),Jb5 (by decide),Jb5 (by decide),Jb5 (by decide),Jb5 (by decide),Jb6 rfl,dU er];rfl,⟨_,_,_,_,_,rfl,aS.zero _,dC.zero _,hr⟩,s5,g5⟩
 by_cases k10:k=10
 .subst k10
  refine⟨_,_,B.m2,_,rfl,?_⟩;refine⟨_,lQ B.s,?_⟩;rintro _ w3 ⟨p,l3,ep,cp,rfl,s3,g3⟩;refine B.mv s3 g3 rfl λw4 B=>?_
  refine⟨_,qw B.s,?_⟩;rintro _ w3 ⟨t,l3,et,ct,rfl,s3,g3⟩;refine B.mv s3 g3 rfl λw4 B=>?_
  exact B.en (iW {aL 10 with peer:=p,seq:=t} Ptz Ptz Ptz Ptz Ptz) rfl rfl rfl rfl rfl λ_ s5 g5 _=>⟨_,_,by rw[dV,aY ek,Jb5 (by decide),Jb5 (by decide),Jb5 (by decide),Jb5 (by decide),Jb5 (by decide),Jb5 (by decide),Jb5 (by decide),Jb5 (by decide),Jb5 (by decide),Jb6 rfl,aY ep,aY et];rfl,⟨_,_,_,_,_,rfl,aS.zero _,dC.zero _,aS.zero _⟩,s5,g5⟩
 refine⟨_,_,B.m2,_,rfl,?_⟩;refine ah (λq=>absurd (by simp at q;omega) k1) (λ_=>?_);refine ah (λq=>absurd (by simp at q;omega) k2) (λ_=>?_);refine ah (λq=>absurd (by simp at q;omega) k3) (λ_=>?_);refine ah (λq=>absurd (by simp at q;omega) k5) (λ_=>?_);refine ah (λq=>absurd (by simp at q;omega) k4) (λ_=>?_);refine ah (λq=>absurd (by simp at q;omega) k6) (λ_=>?_);refine ah (λq=>absurd (by simp at q;omega) k7) (λ_=>?_);refine ah (λq=>absurd (by simp at q;omega) k8) (λ_=>?_);refine ah (λq=>absurd (by simp at q;omega) k9) (λ_=>?_);refine ah (λq=>absurd (by simp at q;omega) k10) (λ_=>?_);exact B.en (iW (aL k) Ptz Ptz Ptz Ptz Ptz) rfl rfl rfl rfl rfl λ_ s5 g5 _=>⟨_,_,by rw[dV,aY ek,Jb5 k1,Jb5 k2,Jb5 k3,Jb5 k5,Jb5 k4,Jb5 k6,Jb5 k7,Jb5 k8,Jb5 k9,Jb5 k10],⟨_,_,_,_,_,rfl,aS.zero _,dC.zero _,aS.zero _⟩,s5,g5⟩
end
theorem Fs{r:Rg}(h:nY r=true):r.sm:=by
 unfold nY Dy Aq kr at h;simp only[Jdy,Jdr]at h;exact⟨h.2.2.2.2.1.1,h.2.2.2.2.2.1⟩
theorem CP{r:Rg}(h:uS r=true):r.sm:=by
 unfold uS at h;simp only[Jdy,Jfc]at h;exact⟨by omega,by omega⟩
theorem M5{c:MC}(h:mi c=true):c.r.sm:=by
 unfold mi zn at h;split at h
 .simp only[Jdy]at h;exact CP h.2.1
 split at h
 .simp only[Jdy]at h;exact CP h.2.1
 split at h
 .simp only[Jdy]at h;exact Fs h.1
 split at h
 .simp only[Jdy]at h;exact CP h.2.2
 .cases h
theorem JW{l:List MV}(h:oM l=true):l.length<=255/\∀v∈l,v.c.r.sm:=by
 unfold oM kr at h;simp only[Jdy,Jdr]at h;refine⟨h.1,λv hv=>?_⟩;obtain⟨i,hi,rfl⟩:=Jga hv;have:=all_eq_true.1 h.2 i (Jc3.2 hi);unfold xU at this;rw[Jcc hi]at this;simp only[Jdy]at this;exact M5 this.1
theorem qy{m:MM}(h:nZ m=true):m.c.r.sm/\m.vs.length=0/\m.r.sm:=by
 unfold nZ zn at h;simp only[Jdy,Jfc]at h;exact⟨CP h.2.2.2.2.2.1.2.1,by omega,CP h.2.2.2.2.2.2.2.1⟩
theorem MM.sm.of{m:MM}(h1:m.c.r.sm)(h2:m.r.sm)(h3:m.vs.length=0):m.sm:=⟨h1,h2,by omega,λv hv=>by rw[Jcq h3]at hv;cases hv⟩
theorem Hf{m:MM}(h:mo m=true):m.sm/\1<=m.kind/\m.kind<=10:=by
 unfold mo at h;split at h
 .simp only[Jdy]at h;obtain⟨a,b,c⟩:=qy h.2;exact⟨.of a c b,by omega,by omega⟩
 split at h
 .simp only[Jdy]at h;obtain⟨a,b,c⟩:=qy h.2;exact⟨.of a c b,by omega,by omega⟩
 split at h
 .obtain⟨a,b,c⟩:=qy h;exact⟨.of a c b,by omega,by omega⟩
 split at h
 .obtain⟨a,b,c⟩:=qy h;exact⟨.of a c b,by omega,by omega⟩
 split at h
 .simp only[Jdy]at h;obtain⟨a,b,c⟩:=qy h.2;exact⟨⟨a,c,(JW h.1).1,(JW h.1).2⟩,by omega,by omega⟩
 split at h
 .simp only[Jdy]at h;obtain⟨a,b,c⟩:=qy h.2;exact⟨.of (M5 h.1) c b,by omega,by omega⟩
 split at h
 .obtain⟨a,b,c⟩:=qy h;exact⟨.of a c b,by omega,by omega⟩
 split at h
 .simp only[Jdy]at h;obtain⟨a,b,c⟩:=qy h.2;exact⟨.of (M5 h.1) c b,by omega,by omega⟩
 split at h
 .simp only[Jdy]at h;obtain⟨a,b,c⟩:=qy h.2;exact⟨.of a (Fs h.1) b,by omega,by omega⟩
 split at h
 .simp only[Jdy]at h;obtain⟨a,b,c⟩:=qy h.2;exact⟨.of a c b,by omega,by omega⟩
 .cases h
def pW(m:MM):ByteArray:=if mo m=true then uX (kG m)else⟨#[]⟩
def nQ(d:ByteArray):Option MM:=if mo (dV (dl d)).1=true/\(uX (kG (dV (dl d)).1)).data.toList=d.data.toList then some (dV (dl d)).1 else none
section
variable{w:World}{v:Value}{m:MM}
theorem AP(h:Ch w v m):CY 43 #[v] w (λv' w'=>v'=.tuple #[.string (pW m),.int .i64 (if mo m=true then 0 else 1)]/\GB none w w'):=by
 obtain⟨rv,dv,vv,rv',jU,rfl,hc,hv,hr⟩:=h;obtain⟨_,_,_,_,_,_,e1,e2⟩:=hc.sl;obtain⟨_,_,_,_,_,_,e3,e4⟩:=hr.sl;obtain⟨_,_,e5⟩:=hv.sl;subst e1 e2 e3 e4 e5;refine aj Tryz.func43 rfl rfl ?_;refine λw1 b1 m1 g1 l1=>?_
 refine⟨_,_,m1,iW m _ _ _ _ _,rfl,rfl,_,Rz (hc.kz g1.kz) (hv.kz g1.kz) (hr.kz g1.kz),?_⟩;rintro _ w2 ⟨rfl,g2⟩;have G:=g1.trans g2;unfold pW;obtain⟨a,ha⟩:∃a,mo m=a:=⟨_,rfl⟩;rw[ha];cases a
 .exact⟨rfl,G⟩
 .obtain⟨hs,hk⟩:=Hf ha
  refine⟨_,_,g2.get m1 nofun,iW m _ _ _ _ _,rfl,rfl,_,TQ (eu _ _ _) (by decide) (hc.kz G.kz) (hv.kz G.kz) (hr.kz G.kz) hs hk,?_⟩;intro v3 w3 P;have hrow:=P.row;rw[Jbh,nil_append]at hrow;obtain⟨a3,c3,rfl⟩:=af hrow;exact⟨kG m,hrow,rfl,G.trans P.gb⟩
theorem Xr(w:World)(d:ByteArray):CY 21 #[.string d] w (λv w'=>(∃mv e m,v=.tuple #[mv,.int .i64 e]/\Ch w' mv m/\((e=0/\nQ d=some m/\1<=m.kind/\m.kind<=10)\/(e≠0/\nQ d=none)))/\GB none w w'):=by
 refine aj Tryz.func21 rfl rfl ?_;refine λw1 b1 m1 g1 l1 w2 b2 m2 g2 l2=>⟨_,_,_,m2,rfl,rfl,λw3 m3 g3=>?_⟩
 have G3:=g2.new g3 l2;refine⟨_,ac6 ⟨d,m3,rfl⟩,?_⟩;rintro _ w4 ⟨m,l4,em,hm,s4,g4⟩;have G4:GB none w w4:=(g1.trans G3).new g4 (Jb1 g1.size l2);have GJ:w4.heap[b1]?=_:=g4.get (G3.get m1 nofun) λe=>by injection e with e;have:=ae m1;omega
 obtain⟨rv,dv,vv,rv',jU,rfl,hc,hv,hr⟩:=hm;obtain⟨_,_,_,_,_,_,e1,e2⟩:=hc.sl;obtain⟨_,_,_,_,_,_,e3,e4⟩:=hr.sl;obtain⟨_,_,e5⟩:=hv.sl;subst e1 e2 e3 e4 e5;refine λw5 b5 m5 g5 l5=>⟨_,_,_,m5,rfl,rfl,λw6 m6 g6=>?_⟩
 have Py:=g5.new g6 l5;have Q3:=Py.get GJ nofun;refine⟨_,_,m6,iW m _ _ _ _ _,rfl,rfl,_,AP ⟨_,_,_,_,_,rfl,hc.kz Py.kz,hv.kz Py.kz,hr.kz Py.kz⟩,?_⟩;rintro _ w7 ⟨rfl,g7⟩;have G7:=(G4.trans Py).trans g7;have m1:=g7.get Q3 nofun;have m6:=g7.get m6 nofun;have k:=Py.trans g7;have em1:(dV (dl d)).1=m:=by rw[em]
 have none':∀w8,GB (some b1) w7 w8->GB none w w8:=λw8 g8=>G7.new g8 l1
 clear GJ Q3 m3 m2 g3 g1 g2 G3 g4 m5 g5 g6;obtain⟨a,ha⟩:∃a,mo m=a:=⟨_,rfl⟩;have hdn:a=false->nQ d=none:=λh=>by unfold nQ;rw[em1,ha,h];simp
 unfold pW;rw[ha];cases a
 .refine⟨_,_,_,m1,rfl,rfl,λw8 m8 g8=>?_⟩
  exact⟨_,_,m8,iW (aL 0) Ptz Ptz Ptz Ptz Ptz,rfl,rfl,⟨_,_,aL 0,rfl,⟨_,_,_,_,_,rfl,aS.zero _,dC.zero _,aS.zero _⟩,.inr ⟨by decide,hdn rfl⟩⟩,none' w8 g8⟩
 .refine ah (λq=>?_) (λq=>?_)
  .have q1:nQ d=none:=by
    unfold nQ;rw[em1,Jb5];rintro⟨_,h⟩;rw[show(if true=true then uX (kG m)else⟨#[]⟩)=uX (kG m)from rfl,ByteArray.toList_eq,ByteArray.toList_eq,h]at q;simp at q
   refine⟨_,_,_,m1,rfl,rfl,λw8 m8 g8=>?_⟩;exact⟨_,_,m8,iW (aL 0) Ptz Ptz Ptz Ptz Ptz,rfl,rfl,⟨_,_,aL 0,rfl,⟨_,_,_,_,_,rfl,aS.zero _,dC.zero _,aS.zero _⟩,.inr ⟨by decide,q1⟩⟩,none' w8 g8⟩
  .have q1:nQ d=some m:=by
    unfold nQ;rw[em1,Jb6];rw[show(if true=true then uX (kG m)else⟨#[]⟩)=uX (kG m)from rfl,ByteArray.toList_eq,ByteArray.toList_eq]at q;simp at q;exact⟨ha,by simp[q]⟩
   refine⟨_,_,m6,iW m _ _ _ _ _,rfl,rfl,_,_,_,m1,rfl,rfl,λw8 m8 g8=>?_⟩;have hb1:∀{c t},(x:Nat)->w7.heap[x]?=some (.cells c t)->t≠83->x≠b1:=λx hx ht=>dw hx m1 ht
   refine⟨_,_,m8,iW m _ _ _ _ _,rfl,rfl,⟨_,_,m,rfl,⟨_,_,_,_,_,rfl,(hc.kz k.kz).bU g8 m1 (by decide) (by decide),(hv.kz k.kz).bU g8 m1 (by decide) (by decide) (by decide),(hr.kz k.kz).bU g8 m1 (by decide) (by decide)⟩,.inl ⟨rfl,q1,(Hf ha).2⟩⟩,none' w8 g8⟩
end
end
