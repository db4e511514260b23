/- What a replica knows of its group's history. -/
import Derived.Test.YtignemioillaiaaGreatG48
namespace Go.Proofs.YtignemioillaiaaGreat
set_option maxHeartbeats 8000000
set_option linter.unusedSectionVars false
set_option maxRecDepth 100000
section
open Go Go.Conc
def bF.W(b:bF):Prop:=b.n<=4294967295/\b.id<256
structure MF(sz:Nat)(Γ:Gh)(j:Nat)(m:MM):Prop where
 prom:m.kind=4->m.b.E (Γ.B j)/\(∀v∈m.vs,Γ.P v.b v.slot=some v.c/\v.b.E m.b)/\∀b s,b.L m.b->Γ.V j b s->∃v∈m.vs,v.slot=s/\b.E v.b
 acc:m.kind=6->Γ.P m.b m.s=some m.c
 qw:m.kind=7->Γ.V j m.b m.s
 dec:m.kind=8->Γ.D sz m.s m.c
def fF(A:aR)(s:St)(l:List MC):St:=l.foldl (λs c=>(A.ap s c).1) s
def Laid(A:aR)(sz n:Nat)(Γ:Gh)(K g:Nat)(d:Int)(r:Rg):Prop:=r.src=g/\r.dst=d/\∃l,DL sz Γ l/\l.length<=K/\∃o,(fF A (A.bg g n) l).O[d.toNat]? = some o/\r∈o.2
def Came(A:aR)(sz n:Nat)(Γ:Gh)(K g:Nat)(d:Int)(s:Int):Prop:=∃l,DL sz Γ l/\l.length<=K/\s<=(fF A (A.bg g n) l).I.getD d.toNat 0
structure PF(A:aR)(sz n:Nat)(Γ:Gh)(K g j:Nat)(p:bH)(m:MM):Prop where
 mf:MF sz Γ j m
 pax:3<=m.kind->m.kind<=8->p.tg=g/\sz≠1/\m.b.id<256
 kZ:m.kind=9->Laid A sz n Γ K g p.tg m.r
 jo:m.kind=10->m.peer=g/\Came A sz n Γ K g p.tg m.seq
def uB(A:aR)(sz n:Nat)(Γ:Gh)(K g j:Nat)(p:bH):Prop:=∀m,A.dec p.d=some m->PF A sz n Γ K g j p m
structure sV(A:aR):Prop where
 fE:∀{k:Int} {b:bF} {m:MM},k=3\/k=5->b.W->A.dec (A.enc { aO k with b:=b })=some m->m={ aO k with b:=b }
 prom:∀{b:bF} {vs:List MV} {m:MM},b.W->vs.length<=60->(∀v∈vs,A.gc v.c/\v.slot<60/\v.b.W)->A.dec (A.enc { aO 4 with b:=b,vs:=vs })=some m->m={ aO 4 with b:=b,vs:=vs }
 acc:∀{b:bF} {s:Nat} {c:MC} {m:MM},b.W->s<60->A.gc c->A.dec (A.enc { aO 6 with b:=b,s:=s,c:=c })=some m->m={ aO 6 with b:=b,s:=s,c:=c }
 qw:∀{b:bF} {s:Nat} {m:MM},b.W->s<60->A.dec (A.enc { aO 7 with b:=b,s:=s })=some m->m={ aO 7 with b:=b,s:=s }
 dec:∀{s:Nat} {c:MC} {m:MM},s<60->A.gc c->A.dec (A.enc { aO 8 with s:=s,c:=c })=some m->m={ aO 8 with s:=s,c:=c }
 tell:∀{m m':MM},m.kind=2->A.dec (A.enc m)=some m'->m'.kind=2
 ask:∀{q:bQ} {m:MM},A.gc (fH q)->A.dec (A.enc { aO 1 with q:=q })=some m->m={ aO 1 with q:=q }
 kZ:∀{r:Rg} {m:MM},A.gc (kL r)->A.dec (A.enc { aO 9 with r:=r })=some m->m={ aO 9 with r:=r }
 jo:∀{p s:Int} {m:MM},A.gc (oz p s)->A.dec (A.enc { aO 10 with peer:=p,seq:=s })=some m->m={ aO 10 with peer:=p,seq:=s }
 dst:∀{g n:Nat} {l:List MC},(∀c∈l,A.gc c)->∀(d:Nat) o,(fF A (A.bg g n) l).O[d]? = some o->∀r∈o.2,r.dst=d
structure ae6(Γ:Gh)(R:MR):Prop where
 prom:∀{k},R.sc.prom.testBit k=true->k<R.sc.sz/\R.sc.b.E (Γ.B k)/\∀{b s},b.L R.sc.b->Γ.V k b s->∃v,R.met s=some v/\b.E v.b
 met:∀{s v},R.met s=some v->Γ.P v.b s=some v.c/\v.b.E R.sc.b
 has:∀{s c},Γ.P R.sc.b s=some c->∃v,R.met s=some v/\v.b=R.sc.b
structure ae7(Γ:Gh)(R:MR):Prop where
 none:∀{s},R.sc.next<=s->Γ.P R.sc.b s=none
 most:Most R.sc.sz λk=>R.sc.b.E (Γ.B k)/\∀s,R.sc.next<=s->∀b:bF,b.L R.sc.b->¬Γ.V k b s
structure RV(A:aR)(N:Nat)(Γ:Gh)(R:MR):Prop where
 fE:Γ.B R.sc.i=R.sc.b
 sn:R.sc.b.n<=R.sc.seen
 lu:R.sc.b.id<256
 one:R.sc.sz=1->R.sc.b=⟨0,0⟩
 vt:∀{s v},R.cK s=some v->Γ.V R.sc.i v.b s/\Γ.P v.b s=some v.c
 wt:∀{s v},R.fD s=some v->Γ.V R.sc.i v.b s/\Γ.P v.b s=some v.c
 vv:∀{b s},Γ.V R.sc.i b s->∃v,R.cK s=some v/\b.E v.b
 own:R.sc.b.id=R.sc.i->∀{s c},Γ.P R.sc.b s=some c->∃v,R.cK s=some v/\v.b=R.sc.b
 qA:R.sc.role≠0->R.sc.b.id=R.sc.i
 r0:R.sc.role=0->R.sc.prom=0/\∀s,R.met s=none
 eD:R.sc.role=1->ae6 Γ R
 lead:R.sc.role=2->ae7 Γ R
 pp:∀{s c},R.props s=some c->R.sc.role=2/\Γ.P R.sc.b s=some c
 ac:∀{s a},R.acc s=some a->R.sc.role=2/\∀{k},a.testBit k=true->Γ.V k R.sc.b s
 lg:∀{k c},R.log[k]? = some c->Γ.D R.sc.sz k c
 kn:∀{k c},R.known k=some c->Γ.D R.sc.sz k c
 st:R.st=fF A (A.bg R.sc.g R.sc.gs) R.log
 ou:∀p∈R.out,uB A R.sc.sz R.sc.gs Γ R.log.length R.sc.g R.sc.i p
 ll:N<=R.log.length
 gd:A.good R.log.length R.st/\R.sc.g<R.sc.gs/\R.sc.gs<=4/\R.st.g=R.sc.g
theorem MF.ext{sz j:Nat}{Γ Γ':Gh}(e:Ext Γ Γ'){m:MM}(h:MF sz Γ j m):MF sz Γ' j m:=by
 refine⟨λk=>?_,λk=>e.P (h.acc k),λk=>e.V (h.qw k),λk=>(h.dec k).ext e⟩;obtain⟨h1,h2,h3⟩:=h.prom k;exact⟨h1.trans (e.B j),λv hv=>⟨e.P (h2 v hv).1,(h2 v hv).2⟩,λb s l v=>h3 b s l (e.late v (l.le h1))⟩
section
variable{A:aR}{sz n g j K K':Nat}{Γ Γ':Gh}{d:Int}
theorem Laid.ext(e:Ext Γ Γ')(hK:K<=K'){r:Rg}(h:Laid A sz n Γ K g d r):Laid A sz n Γ' K' g d r:=by
 obtain⟨h1,h2,l,h3,h4,h5⟩:=h;exact⟨h1,h2,l,h3.ext e,Nat.le_trans h4 hK,h5⟩
theorem Came.ext(e:Ext Γ Γ')(hK:K<=K'){s:Int}(h:Came A sz n Γ K g d s):Came A sz n Γ' K' g d s:=by
 obtain⟨l,h3,h4,h5⟩:=h;exact⟨l,h3.ext e,Nat.le_trans h4 hK,h5⟩
theorem uB.ext(e:Ext Γ Γ')(hK:K<=K'){p:bH}(h:uB A sz n Γ K g j p):uB A sz n Γ' K' g j p:=λm hm=>⟨(h m hm).mf.ext e,(h m hm).pax,λk=>((h m hm).kZ k).ext e hK,λk=>⟨((h m hm).jo k).1,((h m hm).jo k).2.ext e hK⟩⟩
theorem uB.of{p:bH}{m:MM}(hb:∀m',A.dec p.d=some m'->m'=m)(hm:MF sz Γ j m)(k8:m.kind<=8)(ht:p.tg=g/\sz≠1/\m.b.id<256):uB A sz n Γ K g j p:=λm' hd=>by
 rw[hb m' hd];exact⟨hm,λ_ _=>ht,λe=>by omega,λe=>by omega⟩
end
section
variable{A:aR}{N:Nat}{U:MC->Prop}{Γ Γ':Gh}{R:MR}
theorem RV.other{i:Nat}(h:RV A N Γ R)(e:wX i Γ Γ')(ne:R.sc.i≠i):RV A N Γ' R:=by
 have x:=e.toExt;refine⟨(e.B' ne).trans h.fE,h.sn,h.lu,h.one,λhv=>⟨x.V (h.vt hv).1,x.P (h.vt hv).2⟩,λhv=>⟨x.V (h.wt hv).1,x.P (h.wt hv).2⟩,λhv=>h.vv (e.V' ne hv),λhi s c hp=>h.own hi ((e.P' (λq=>ne (hi.symm.trans q))).symm.trans hp),h.qA,h.r0,λr=>?_,λr=>?_,λhp=>⟨(h.pp hp).1,x.P (h.pp hp).2⟩,λha=>⟨(h.ac ha).1,λhk=>x.V ((h.ac ha).2 hk)⟩,λhk=>(h.lg hk).ext x,λhk=>(h.kn hk).ext x,h.st,λp hp=>(h.ou p hp).ext x (Nat.le_refl _),h.ll,h.gd⟩
 ·have c:=h.eD r
  have ri:R.sc.b.id≠i:=by rw[h.qA (by omega)];exact ne
  exact⟨λhk=>⟨(c.prom hk).1,(c.prom hk).2.1.trans (x.B _),λl v=>(c.prom hk).2.2 l (x.late v (l.le (c.prom hk).2.1))⟩,λhm=>⟨x.P (c.met hm).1,(c.met hm).2⟩,λhp=>c.has ((e.P' ri).symm.trans hp)⟩
 ·have c:=h.lead r
  have ri:R.sc.b.id≠i:=by rw[h.qA (by omega)];exact ne
  exact⟨λhs=>(e.P' ri).trans (c.none hs),c.most.mono λk ⟨a1,a2⟩=>⟨a1.trans (x.B k),λs hs b l v=>a2 s hs b l (x.late v (l.le a1))⟩⟩
theorem RV.out(h:RV A N Γ R){o:List bH}(ho:∀p∈o,uB A R.sc.sz R.sc.gs Γ R.log.length R.sc.g R.sc.i p):RV A N Γ { R with out:=o } :=
 ⟨h.fE,h.sn,h.lu,h.one,h.vt,h.wt,h.vv,h.own,h.qA,h.r0,λr=>⟨(h.eD r).1,(h.eD r).2,(h.eD r).3⟩,λr=>⟨(h.lead r).1,(h.lead r).2⟩,h.pp,h.ac,h.lg,h.kn,h.st,ho,h.ll,h.gd⟩
theorem RV.snd(h:RV A N Γ R){m:MM}{tl:List (Nat×Nat)}(hm:∀t∈tl,uB A R.sc.sz R.sc.gs Γ R.log.length R.sc.g R.sc.i (toP R (A.enc m) t)):RV A N Γ (kR A.enc R m tl):=by
 refine h.out λp hp=>?_
 rcases List.mem_append.1 hp with hp|hp
 ·exact h.ou p hp
 ·obtain⟨t,ht,rfl⟩:=List.mem_map.1 hp
  exact hm t ht
theorem RV.stand(h:RV A N Γ R):RV A N Γ (fP R) :=
 ⟨h.fE,h.sn,h.lu,h.one,h.vt,h.wt,h.vv,h.own,λr=>(r rfl).elim,λ_=>⟨rfl,λ_=>rfl⟩,λr=>absurd (show(0:Nat)=1 from r) (by decide),λr=>absurd (show(0:Nat)=2 from r) (by decide),nofun,nofun,h.lg,h.kn,h.st,h.ou,h.ll,h.gd⟩
theorem RV.rise{b:bF}{sn:Nat}(o:Γ.Ok R.sc.sz U)(h:RV A N Γ R)(h0:R.sc.role=0)(hb:R.sc.b.L b)(hn:b.n<=sn)(h8:b.id<256)(h1:R.sc.sz≠1):RV A N (Γ.rise R.sc.i b) { R with sc:={ R.sc with b:=b,seen:=sn } }/\∀s c,b.id=R.sc.i->Γ.P b s≠some c:=by
 have fresh:∀s c,b.id=R.sc.i->Γ.P b s≠some c:=λs c hi hp=>by
  have:=(o.pb hp).1;rw[hi,h.fE]at this;exact hb.no this
 have x:=(Gh.wZ (Γ:=Γ) (i:=R.sc.i) (b:=b) (by rw[h.fE];exact hb.e)).toExt;refine⟨⟨Gh.Sz,hn,h8,λe=>(h1 e).elim,h.vt,h.wt,h.vv,λhi s c hp=>(fresh s c hi hp).elim,λr=>(r h0).elim,h.r0,λr=>?_,λr=>?_,λhp=>?_,λha=>?_,λhk=>(h.lg hk).ext x,λhk=>(h.kn hk).ext x,h.st,λp hp=>(h.ou p hp).ext x (Nat.le_refl _),h.ll,h.gd⟩,fresh⟩
 ·have r:R.sc.role=1:=r
  omega
 ·have r:R.sc.role=2:=r
  omega
 ·have:=(h.pp hp).1;omega
 ·have:=(h.ac ha).1;omega
theorem yo{α:Type}(f:Nat->Option α)(k:Nat)(x:Option α):upd f k x k=x:=if_pos rfl
theorem upd_ne{α:Type}(f:Nat->Option α){k j:Nat}(x:Option α)(h:j≠k):upd f k x j=f j:=if_neg h
theorem RV.Dx{s:Nat}{c:MC}(o:Γ.Ok R.sc.sz U)(h:RV A N Γ R)(hP:Γ.P R.sc.b s=none\/Γ.P R.sc.b s=some c)(hs:Γ.P R.sc.b s=some c\/R.sc.role=2/\s<R.sc.next):RV A N (Γ.add R.sc.i R.sc.b s c) (sF R s c):=by
 have hP':Γ.P R.sc.b s=none/\R.sc.b.id=R.sc.i\/Γ.P R.sc.b s=some c:=by
  rcases hs with hs|⟨hs,_⟩
  ·exact .inr hs
  ·exact hP.imp (λe=>⟨e,h.qA (by omega)⟩) id
 have x:=(Gh.zz hP' h.fE).toExt;have new:(Γ.add R.sc.i R.sc.b s c).P R.sc.b s=some c:=if_pos ⟨rfl,rfl⟩;have old:∀{b s'},s'≠s->(Γ.add R.sc.i R.sc.b s c).P b s'=Γ.P b s':=λe=>if_neg λq=>e q.2
 refine⟨h.fE,h.sn,h.lu,h.one,λ{s' v} hv=>?_,λhv=>⟨x.V (h.wt hv).1,x.P (h.wt hv).2⟩,λ{b s'} hv=>?_,λhi s' c' hp=>?_,h.qA,h.r0,λr=>?_,λr=>?_,λhp=>⟨(h.pp hp).1,x.P (h.pp hp).2⟩,λha=>⟨(h.ac ha).1,λhk=>x.V ((h.ac ha).2 hk)⟩,λhk=>(h.lg hk).ext x,λhk=>(h.kn hk).ext x,h.st,λp hp=>(h.ou p hp).ext x (Nat.le_refl _),h.ll,h.gd⟩
 ·have hv:upd R.cK s (some ⟨s,R.sc.b,c⟩) s'=some v:=hv
  by_cases e:s'=s
  ·subst e
   rw[yo]at hv;cases hv
   exact⟨.inl ⟨rfl,rfl,rfl⟩,new⟩
  ·rw[upd_ne _ _ e]at hv
   exact⟨x.V (h.vt hv).1,x.P (h.vt hv).2⟩
 ·show ∃v,upd R.cK s (some ⟨s,R.sc.b,c⟩) s'=some v/\_
  by_cases e:s'=s
  ·subst e
   refine⟨_,yo _ _ _,?_⟩;rcases hv with⟨_,rfl,_⟩|hv
   ·exact .refl _
   ·have:b.E (Γ.B R.sc.i):=(o.vp hv).2.1
    rw[h.fE]at this;exact this
  ·rw[upd_ne _ _ e]
   rcases hv with⟨_,_,q⟩|hv
   ·exact(e q).elim
   ·exact h.vv hv
 ·show ∃v,upd R.cK s (some ⟨s,R.sc.b,c⟩) s'=some v/\_
  by_cases e:s'=s
  ·subst e
   exact⟨_,yo _ _ _,rfl⟩
  ·rw[upd_ne _ _ e]
   exact h.own hi ((old e).symm.trans hp)
 ·have r:R.sc.role=1:=r
  have cc:=h.eD r;have hp:Γ.P R.sc.b s=some c:=hs.elim id λq=>by omega
  refine⟨λhk=>⟨(cc.prom hk).1,(cc.prom hk).2.1,λl v=>(cc.prom hk).2.2 l (x.late v (l.le (cc.prom hk).2.1))⟩,λhm=>⟨x.P (cc.met hm).1,(cc.met hm).2⟩,λ{s' c'} hq=>?_⟩;by_cases e:s'=s
  ·subst e;exact cc.has hp
  ·exact cc.has ((old e).symm.trans hq)
 ·have r:R.sc.role=2:=r
  have cc:=h.lead r;refine⟨λ{s'} hn=>?_,cc.most.mono λk ⟨a1,a2⟩=>⟨a1,λs' hn b l v=>a2 s' hn b l (x.late v (l.le a1))⟩⟩;have hn:R.sc.next<=s':=hn;by_cases e:s'=s
  ·subst e
   rcases hs with hs|hs
   ·have:=cc.none hn;rw[hs]at this;cases this
   ·omega
  ·exact(old e).trans (cc.none hn)
end
theorem yu{g i sz:Nat}{t:Nat×Nat}(h:t∈fI g i g sz)(hi:i<sz):t.1=g/\sz≠1:=by
 unfold fI at h;obtain⟨j,hj,rfl⟩:=List.mem_map.1 h;obtain⟨h1,h2⟩:=List.mem_filter.1 hj;have h1:=List.mem_range.1 h1;refine⟨rfl,λe=>?_⟩;have:j=i:=by omega
 subst this;simp at h2
theorem NB{g i jE k:Nat}{t:Nat×Nat}(h:t∈fI g i jE k):t.1=jE:=by
 unfold fI at h;obtain⟨j,_,rfl⟩:=List.mem_map.1 h;rfl
theorem abj{A:aR}{R:MR}{c:MC}:(oM A R c).sc=R.sc:=by
 unfold oM nG;split
 ·split
  ·rfl
  ·split<;>rfl
 ·rfl
theorem yw{R:MR}{d:ByteArray}{t:Nat×Nat}{g:Nat}(h:t.1=g):(toP R d t).tg=g:=by rw[<-h];rfl
section
variable{A:aR}(HP:sV A){N:Nat}{U:MC->Prop}{Γ:Gh}{R:MR}
include HP
theorem RV.told(h:RV A N Γ R){m:MM}(hk:m.kind=2)(tl:List (Nat×Nat)):RV A N Γ (kR A.enc R m tl):=h.snd λ_ _ m' hd=>by
 have:=HP.tell hk hd;exact⟨⟨λe=>by omega,λe=>by omega,λe=>by omega,λe=>by omega⟩,λ_ _=>by omega,λe=>by omega,λe=>by omega⟩
theorem RV.abk(HN:dL A)(h:RV A N Γ R)(src:Nat){tl:List (Nat×Nat)}(ht:∀t∈tl,t.1=src):RV A N Γ (yS A.enc R src tl):=h.snd λt hm m' hd=>by
 obtain⟨g1,g2,g3,_⟩:=h.gd;have hi:0<=R.st.I.getD src 0/\R.st.I.getD src 0<=4294967295:=by
  rw[List.getD_eq_getElem?_getD];cases e:R.st.I[src]? with
  |none=>exact⟨Int.le_refl _,by show(0:Int)<=_;omega⟩
  |some x=>exact HN.JR _ g1 x (List.mem_of_getElem? e)
 rw[HP.jo (HN.Ut _ _ (by omega) (by omega) hi.1 hi.2) hd];refine⟨⟨nofun,nofun,nofun,nofun⟩,λ_ e=>absurd (show(10:Int)<=8 from e) (by decide),nofun,λ_=>⟨rfl,R.log,λk c hk=>h.lg hk,Nat.le_refl _,?_⟩⟩;show R.st.I.getD src 0<=(fF A (A.bg R.sc.g R.sc.gs) R.log).I.getD (t.1:Int).toNat 0;rw[ht t hm,Int.toNat_natCast,<-h.st];exact Int.le_refl _
theorem RV.ans(HN:dL A)(h:RV A N Γ R)(c:MC)(p:aB):RV A N Γ (nG A R c p):=by
 unfold nG;split
 ·exact h.told HP rfl _
 ·split
  ·exact h.abk HP HN _ λt ht=>NB ht
  ·exact h
theorem RV.do(HA:bG A)(HN:dL A)(hU:∀c,U c->A.gc c)(o:Γ.Ok R.sc.sz U)(h:RV A N Γ R){c:MC}(hd:Γ.D R.sc.sz R.log.length c):RV A N Γ (oM A R c):=by
 have hg:A.gc c/\R.log.length<60:=by obtain⟨b,hb,_⟩:=hd;exact⟨hU c (o.wh hb).1,(o.wh hb).2⟩
 have hsg:=(HN.stay _ _ h.gd.1 hg.1);have h1:RV A N Γ { R with st:=(A.ap R.st c).1,log:=R.log++[c] }:=⟨h.fE,h.sn,h.lu,h.one,h.vt,h.wt,h.vv,h.own,h.qA,h.r0,λr=>⟨(h.eD r).1,(h.eD r).2,(h.eD r).3⟩,λr=>⟨(h.lead r).1,(h.lead r).2⟩,h.pp,h.ac,λ{k x} hk=>by
  have hk:(R.log++[c])[k]? = some x:=hk;rw[List.getElem?_append]at hk;split at hk
  ·exact h.lg hk
  ·rename_i hn
   have:k=R.log.length:=by
    have:=(List.getElem?_eq_some_iff.1 hk).1;simp at this;omega
   subst this;simp at hk;rw[<-hk];exact hd,h.kn,by
  show(A.ap R.st c).1=fF A _ (R.log++[c]);unfold fF;rw[List.foldl_append];show _=(A.ap (fF A _ R.log) c).1;rw[<-h.st],λp hp=>(h.ou p hp).ext (.refl _) (by show R.log.length<=(R.log++[c]).length;simp),by show N<=(R.log++[c]).length;have:=h.ll;simp;omega,HA.next h.gd.1 (Nat.le_of_lt hg.2) hg.1,h.gd.2.1,h.gd.2.2.1,hsg.2.trans h.gd.2.2.2⟩
 unfold oM;split
 ·exact h1.ans HP HN _ _
 ·exact h1
omit HP in
theorem RV.known(h:RV A N Γ R){f:Nat->Option MC}(hf:∀{k c},f k=some c->Γ.D R.sc.sz k c):RV A N Γ { R with known:=f }:=⟨h.fE,h.sn,h.lu,h.one,h.vt,h.wt,h.vv,h.own,h.qA,h.r0,λr=>⟨(h.eD r).1,(h.eD r).2,(h.eD r).3⟩,λr=>⟨(h.lead r).1,(h.lead r).2⟩,h.pp,h.ac,h.lg,hf,h.st,h.ou,h.ll,h.gd⟩
theorem RV.catch(HA:bG A)(HN:dL A)(hU:∀c,U c->A.gc c):∀(n:Nat) {R:MR},Γ.Ok R.sc.sz U->RV A N Γ R->RV A N Γ (gD A n R)
 |0,_,_,h=>h
 |n+1,R,o,h=>by
  unfold gD;split
  ·exact h
  ·rename_i c hc
   have h1:=h.known (f:=upd R.known R.log.length none) λ{k d} hd=>by
    unfold upd at hd;split at hd
    ·cases hd
    ·exact h.kn hd
   have h2:=RV.do HP HA HN hU (R:={ R with known:=upd R.known R.log.length none }) o h1 (h.kn hc);exact RV.catch HA HN hU n (by rw[abj];exact o) h2
theorem RV.agree(HA:bG A)(HN:dL A)(hU:∀c,U c->A.gc c)(o:Γ.Ok R.sc.sz U)(h:RV A N Γ R){s:Nat}{c:MC}(hd:Γ.D R.sc.sz s c):RV A N Γ (iT A R s c):=by
 unfold iT;split
 ·exact h
 ·refine RV.catch HP HA HN hU _ (R:={ R with props:=upd R.props s none,acc:=upd R.acc s none,sc:={ R.sc with next:=max R.sc.next (s+1) },known:=upd R.known s (some c) }) o ⟨h.fE,h.sn,h.lu,h.one,h.vt,h.wt,h.vv,h.own,h.qA,h.r0,λr=>⟨(h.eD r).1,(h.eD r).2,(h.eD r).3⟩,λr=>⟨λhs=>(h.lead r).1 (Nat.le_trans (Nat.le_max_left _ _) hs),(h.lead r).2.mono λk ⟨a1,a2⟩=>⟨a1,λs' hs=>a2 s' (Nat.le_trans (Nat.le_max_left _ _) hs)⟩⟩,λ{k x} hp=>?_,λ{k x} hp=>?_,h.lg,λ{k x} hp=>?_,h.st,h.ou,h.ll,h.gd⟩
  ·have hp:upd R.props s none k=some x:=hp
   unfold upd at hp;split at hp
   ·cases hp
   ·exact h.pp hp
  ·have hp:upd R.acc s none k=some x:=hp
   unfold upd at hp;split at hp
   ·cases hp
   ·exact h.ac hp
  ·have hp:upd R.known s (some c) k=some x:=hp
   unfold upd at hp;split at hp
   ·rename_i e;cases hp;subst e;exact hd
   ·exact h.kn hp
theorem RV.yT(HA:bG A)(HN:dL A)(hU:∀c,U c->A.gc c)(o:Γ.Ok R.sc.sz U)(h:RV A N Γ R)(hi:R.sc.i<R.sc.sz){s k:Nat}(hg:∀c,R.props s=some c->A.gc c/\s<60)(hv:Γ.V k R.sc.b s):RV A N Γ (jC A R s k):=by
 unfold jC;split
 ·exact h
 ·rename_i c hc
  obtain⟨r2,hp⟩:=h.pp hc;have bits:∀{j},(fQ R s k).testBit j=true->Γ.V j R.sc.b s:=λ{j} hj=>by
   rcases Ik hj with hj|rfl
   ·cases ha:R.acc s with
    |none=>rw[ha]at hj;simp at hj
    |some a=>rw[ha]at hj;exact(h.ac ha).2 hj
   ·exact hv
  have h1:RV A N Γ { R with acc:=upd R.acc s (some (fQ R s k)) }:=⟨h.fE,h.sn,h.lu,h.one,h.vt,h.wt,h.vv,h.own,h.qA,h.r0,λr=>⟨(h.eD r).1,(h.eD r).2,(h.eD r).3⟩,λr=>⟨(h.lead r).1,(h.lead r).2⟩,h.pp,λ{t a} ha=>by
   have ha:upd R.acc s (some (fQ R s k)) t=some a:=ha;unfold upd at ha;split at ha
   ·rename_i e;cases ha;subst e;exact⟨r2,bits⟩
   ·exact h.ac ha,h.lg,h.kn,h.st,h.ou,h.ll,h.gd⟩
  split
  ·rename_i hm
   have hd:Γ.D R.sc.sz s c:=⟨_,hp,_,hm,λj _ hj=>⟨(o.vp (bits hj)).1,bits hj⟩⟩;refine RV.agree HP HA HN hU (R:=kR A.enc { R with acc:=upd R.acc s (some (fQ R s k)) } { aO 8 with s:=s,c:=c } (fI R.sc.g R.sc.i R.sc.g R.sc.sz)) o (h1.snd λt ht=>uB.of (m:={ aO 8 with s:=s,c:=c }) (λm' hd=>HP.dec (hg c hc).2 (hg c hc).1 hd) ⟨nofun,nofun,nofun,λ_=>hd⟩ (show(8:Int)<=8 by decide) ?_) hd;obtain⟨t1,t2⟩:=yu ht hi;exact⟨yw t1,t2,Nat.zero_lt_succ _⟩
  ·exact h1
theorem RV.sa(h:RV A N Γ R)(hi:R.sc.i<R.sc.sz)(hn:R.sc.b.n<=4294967295){s:Nat}{c:MC}(hs:s<60)(hc:A.gc c)(hp:Γ.P R.sc.b s=some c):RV A N Γ (JP A.enc R s c):=h.snd λt ht=>uB.of (m:={ aO 6 with b:=R.sc.b,s:=s,c:=c }) (λm' hd=>HP.acc ⟨hn,h.lu⟩ hs hc hd) ⟨nofun,λ_=>hp,nofun,nofun⟩ (show(6:Int)<=8 by decide) ⟨yw (yu ht hi).1,(yu ht hi).2,h.lu⟩
theorem RV.prop(HA:bG A)(HN:dL A)(hU:∀c,U c->A.gc c)(o:Γ.Ok R.sc.sz U)(h:RV A N Γ R)(hi:R.sc.i<R.sc.sz)(hb:R.sc.b.n<=4294967295){s:Nat}{c:MC}(r:R.sc.role=2)(hn:s<R.sc.next)(hP:Γ.P R.sc.b s=none\/Γ.P R.sc.b s=some c)(hs:Γ.Safe R.sc.sz R.sc.b s c)(hc:A.gc c)(hw:U c)(uo:s<60):wX R.sc.i Γ (Γ.add R.sc.i R.sc.b s c)/\(Γ.add R.sc.i R.sc.b s c).Ok R.sc.sz U/\RV A N (Γ.add R.sc.i R.sc.b s c) (iw A R s c):=by
 have ri:=h.qA (by omega);have hP':Γ.P R.sc.b s=none/\R.sc.b.id=R.sc.i\/Γ.P R.sc.b s=some c:=hP.imp (λe=>⟨e,ri⟩) id;have o1:=o.add hP' h.fE hi ⟨hb,h.lu⟩ hs ⟨hw,uo⟩;have new:(Γ.add R.sc.i R.sc.b s c).P R.sc.b s=some c:=if_pos ⟨rfl,rfl⟩;have h1:=h.Dx o hP (.inr ⟨r,hn⟩);have h2:RV A N (Γ.add R.sc.i R.sc.b s c) (sF { R with props:=upd R.props s (some c) } s c):=⟨h1.fE,h1.sn,h1.lu,h1.one,h1.vt,h1.wt,h1.vv,h1.own,h1.qA,h1.r0,λr=>⟨(h1.eD r).1,(h1.eD r).2,(h1.eD r).3⟩,λr=>⟨(h1.lead r).1,(h1.lead r).2⟩,λ{t x} hp=>by
  have hp:upd R.props s (some c) t=some x:=hp;unfold upd at hp;split at hp
  ·rename_i e;cases hp;subst e;exact⟨r,new⟩
  ·exact h1.pp hp,h1.ac,h1.lg,h1.kn,h1.st,h1.ou,h1.ll,h1.gd⟩
 refine⟨Gh.zz hP' h.fE,o1,?_⟩;refine RV.yT (R:=JP A.enc (sF { R with props:=upd R.props s (some c) } s c) s c) HP HA HN hU o1 (h2.sa HP hi hb uo hc new) hi (λx hx=>?_) (.inl ⟨rfl,rfl,rfl⟩);have hx:upd R.props s (some c) s=some x:=hx;rw[yo]at hx;cases hx
 exact⟨hc,uo⟩
end
def To(A:aR)(N:Nat)(U:MC->Prop)(Γ:Gh)(R R':MR):Prop:=∃Γ',wX R.sc.i Γ Γ'/\Γ'.Ok R.sc.sz U/\RV A N Γ' R'
theorem To.refl{A:aR}{N:Nat}{U:MC->Prop}{Γ:Gh}{R R':MR}(o:Γ.Ok R.sc.sz U)(h:RV A N Γ R'):To A N U Γ R R':=⟨Γ,.refl _ _,o,h⟩
section
variable{A:aR}(HP:sV A){N:Nat}{U:MC->Prop}{Γ:Gh}{R:MR}
include HP
theorem RV.offer(HA:bG A)(HN:dL A)(hU:∀c,U c->A.gc c)(o:Γ.Ok R.sc.sz U)(h:RV A N Γ R)(ho:Ok A R)(r:R.sc.role=2){c:MC}(hw:U c):To A N U Γ R (gF A R c):=by
 unfold gF;split
 ·exact .refl o h
 ·rename_i hn
  have l:=h.lead r;have uo:R.sc.next<60:=by omega
  have h1:RV A N Γ { R with sc:={ R.sc with next:=R.sc.next+1 } }:=⟨h.fE,h.sn,h.lu,h.one,h.vt,h.wt,h.vv,h.own,h.qA,h.r0,λr=>⟨(h.eD r).1,(h.eD r).2,(h.eD r).3⟩,λ_=>⟨λhs=>l.1 (Nat.le_of_succ_le hs),l.2.mono λk ⟨a1,a2⟩=>⟨a1,λs' hs=>a2 s' (Nat.le_of_succ_le hs)⟩⟩,h.pp,h.ac,h.lg,h.kn,h.st,h.ou,h.ll,h.gd⟩;exact⟨_,RV.prop (R:={ R with sc:={ R.sc with next:=R.sc.next+1 } }) HP HA HN hU o h1 ho.i.1 ho.sn.2.1 r (Nat.lt_succ_self R.sc.next) (.inl (l.none (Nat.le_refl _))) (λb' lt=>l.most.mono λk ⟨a1,a2⟩=>⟨lt.le a1,λv=>(a2 _ (Nat.le_refl _) b' lt v).elim⟩) (hU c hw) hw uo⟩
end
theorem NC{f:Nat->Option MV}:∀(l:List Nat) (a:Nat),a<=l.foldl (λa k=>if(f k).isSome=true then max a (k+1)else a) a/\∀k∈l,(f k).isSome=true->k+1<=l.foldl (λa k=>if(f k).isSome=true then max a (k+1)else a) a
 | [],a=>⟨Nat.le_refl _,λ_ h=>by cases h⟩
 |x::l,a=>by
  obtain⟨h1,h2⟩:=NC (f:=f) l (if(f x).isSome=true then max a (x+1)else a);refine⟨Nat.le_trans ?_ h1,λk hk hs=>?_⟩
  ·split
   ·exact Nat.le_max_left _ _
   ·exact Nat.le_refl _
  ·rcases List.mem_cons.1 hk with rfl|hk
   ·refine Nat.le_trans ?_ h1
    rw[if_pos hs];exact Nat.le_max_right _ _
   ·exact h2 k hk hs
theorem Vi{f:Nat->Option MV}{n0 k:Nat}{v:MV}(h:f k=some v)(hk:k<60):k<iM f n0:=(NC (f:=f) (List.range 60) n0).2 k (List.mem_range.2 hk) (by rw[h];rfl)
section
variable{A:aR}{R:MR}{s:Nat}{c:MC}
theorem SB:(oM A R c).sc=R.sc/\(oM A R c).met=R.met:=by
 unfold oM nG;split
 ·split
  ·exact⟨rfl,rfl⟩
  ·split<;>exact⟨rfl,rfl⟩
 ·exact⟨rfl,rfl⟩
theorem BA:∀(n:Nat) {R:MR},(gD A n R).sc=R.sc/\(gD A n R).met=R.met
 |0,_=>⟨rfl,rfl⟩
 |n+1,R=>by
  unfold gD;split
  ·exact⟨rfl,rfl⟩
  ·obtain⟨h1,h2⟩:=BA n (R:=oM A { R with known:=upd R.known R.log.length none } _)
   exact⟨h1.trans SB.1,h2.trans SB.2⟩
theorem SC(h:s<R.sc.next):(iT A R s c).sc=R.sc/\(iT A R s c).met=R.met:=by
 unfold iT;split
 ·exact⟨rfl,rfl⟩
 ·refine⟨(BA 61).1.trans ?_,(BA 61).2⟩
  show{ R.sc with next:=max R.sc.next (s+1) }=R.sc;rw[Nat.max_eq_left h]
theorem KW(h:s<R.sc.next):(iw A R s c).sc=R.sc/\(iw A R s c).met=R.met:=by
 unfold iw jC;split
 ·exact⟨rfl,rfl⟩
 ·split
  ·exact SC (R:=kR A.enc _ _ _) h
  ·exact⟨rfl,rfl⟩
theorem Il:∀(n s:Nat) {R:MR},(eT A n s R).sc=R.sc
 |0,_,_=>rfl
 |n+1,s,R=>by
  unfold eT;split
  ·rename_i h
   refine(Il n (s+1)).trans ?_;split
   ·rfl
   ·exact(KW h).1
  ·rfl
end
def ch(R:MR)(s:Nat):MC:=((R.met s).map MV.c).getD nD
theorem To.step{A:aR}{N:Nat}{U:MC->Prop}{Γ Γ1:Gh}{R R1 R2:MR}(e:wX R.sc.i Γ Γ1)(hs:R1.sc.i=R.sc.i/\R1.sc.sz=R.sc.sz)(h:To A N U Γ1 R1 R2):To A N U Γ R R2:=by
 obtain⟨Γ',a1,a2,a3⟩:=h;rw[hs.1]at a1;rw[hs.2]at a2;exact⟨Γ',e.trans a1,a2,a3⟩
section
variable{A:aR}(HA:bG A)(HN:dL A)(HP:sV A){N:Nat}{U:MC->Prop}(hU:∀c,U c->A.gc c)(hz:U nD){Γ:Gh}{R:MR}
include HA HN HP hU hz
theorem RV.qQ:∀(n s0:Nat) {Γ:Gh} {R:MR},Γ.Ok R.sc.sz U->RV A N Γ R->Ok A R->R.sc.role=2->(∀s,s0<=s->s<R.sc.next->(Γ.P R.sc.b s=none\/Γ.P R.sc.b s=some (ch R s))/\Γ.Safe R.sc.sz R.sc.b s (ch R s))->(∀s,U (ch R s))->To A N U Γ R (eT A n s0 R)
 |0,_,_,_,o,h,_,_,_,_=>.refl o h
 |n+1,s0,Γ,R,o,h,ho,r,hs,hw=>by
  unfold eT;split
  ·rename_i lt
   split
   ·exact RV.qQ n (s0+1) o h ho r (λs a b=>hs s (by omega) b) hw
   ·have hg:U (ch R s0):=hw s0
    have uo:s0<60:=Nat.lt_of_lt_of_le lt ho.nx;obtain⟨a1,a2,a3⟩:=RV.prop HP HA HN hU o h ho.i.1 ho.sn.2.1 r lt (hs s0 (Nat.le_refl _) lt).1 (hs s0 (Nat.le_refl _) lt).2 (hU _ hg) hg uo;obtain⟨e1,e2⟩:=KW (A:=A) (R:=R) (c:=ch R s0) lt;have ec:∀s,ch (iw A R s0 (ch R s0)) s=ch R s:=λs=>congrArg (λg:Nat->Option MV=>((g s).map MV.c).getD nD) e2
    refine To.step a1 ⟨congrArg Sc.i e1,congrArg Sc.sz e1⟩ (RV.qQ n (s0+1) (Γ:=Γ.add R.sc.i R.sc.b s0 (ch R s0)) (R:=iw A R s0 (ch R s0)) (by rw[e1];exact a2) a3 (ho.prop HA uo (hU _ hg)).1 (by rw[e1];exact r) (λs l1 l2=>?_) λs=>by rw[ec];exact hw s);rw[e1]at l2 |-;rw[ec,show(Γ.add R.sc.i R.sc.b s0 (ch R s0)).P R.sc.b s=Γ.P R.sc.b s from if_neg λq=>by omega];exact⟨(hs s (by omega) l2).1,(hs s (by omega) l2).2.ext a1.toExt⟩
  ·exact .refl o h
theorem RV.acF(o:Γ.Ok R.sc.sz U)(h:RV A N Γ R)(ho:Ok A R)(r:R.sc.role=1)(hm:2*pc R.sc.prom > R.sc.sz):To A N U Γ R (nT A R):=by
 have c:=h.eD r;have lt:∀{s v},R.met s=some v->s<iM R.met R.log.length:=λe=>Vi e (ho.mt _ _ e).2.1
 have q:∀(p:Nat->Prop),(∀k,R.sc.prom.testBit k=true->p k)->Most R.sc.sz p:=λp hp=>⟨_,hm,λk _ hk=>⟨(c.prom hk).1,hp k hk⟩⟩
 have h1:RV A N Γ { R with sc:={ R.sc with role:=2,next:=iM R.met R.log.length } }:=⟨h.fE,h.sn,h.lu,h.one,h.vt,h.wt,h.vv,h.own,λ_=>h.qA (by omega),λr=>absurd (show(2:Nat)=0 from r) (by decide),λr=>absurd (show(2:Nat)=1 from r) (by decide),λ_=>⟨λ{s} hs=>by
  show Γ.P R.sc.b s=none;cases e:Γ.P R.sc.b s with
  |none=>rfl
  |some x =>
   obtain⟨v,hv,_⟩:=c.has e;have:=lt hv;have hs:iM R.met R.log.length<=s:=hs;omega,q _ λk hk=>⟨(c.prom hk).2.1,λs hs b l v=>by
  obtain⟨v,hv,_⟩:=(c.prom hk).2.2 l v;have:=lt hv;have hs:iM R.met R.log.length<=s:=hs;omega⟩⟩,λhp=>⟨rfl,(h.pp hp).2⟩,λha=>⟨rfl,(h.ac ha).2⟩,h.lg,h.kn,h.st,h.ou,h.ll,h.gd⟩
 obtain⟨Γ',a1,a2,a3⟩:=RV.qQ (R:={ R with sc:={ R.sc with role:=2,next:=iM R.met R.log.length } }) HA HN HP hU hz 61 R.log.length o h1 ho.IL rfl (λs _ _=>by
  show(Γ.P R.sc.b s=none\/Γ.P R.sc.b s=some (ch R s))/\Γ.Safe R.sc.sz R.sc.b s (ch R s);unfold ch;cases e:R.met s with
  |none =>
   refine⟨.inl ?_,λb' l=>q _ λk hk=>⟨l.le (c.prom hk).2.1,λv=>?_⟩⟩
   ·cases e':Γ.P R.sc.b s with
    |none=>rfl
    |some x =>
     obtain⟨v,hv,_⟩:=c.has e';rw[e]at hv;cases hv
   ·obtain⟨v,hv,_⟩:=(c.prom hk).2.2 l v
    rw[e]at hv;cases hv
  |some v =>
   obtain⟨p1,p2⟩:=c.met e;rcases p2.cases with eb|lb
   ·rw[eb]at p1
    exact⟨.inr p1,o.safe p1⟩
   ·refine⟨.inl ?_,λb' l=>?_⟩
    ·cases e':Γ.P R.sc.b s with
     |none=>rfl
     |some x =>
      obtain⟨v',hv',eb⟩:=c.has e';rw[e]at hv';cases hv';rw[eb]at lb;exact(lb.no (.refl _)).elim
    ·by_cases lv:b'.L v.b
     ·exact o.safe p1 b' lv
     ·refine q _ λk hk=>⟨l.le (c.prom hk).2.1,λx=>?_⟩
      obtain⟨v',hv',x1⟩:=(c.prom hk).2.2 l x;rw[e]at hv';cases hv';rcases x1.cases with rfl|x1
      ·exact p1
      ·exact(lv x1).elim) λs=>by
  show U (ch R s);unfold ch;cases e:R.met s with
  |none=>exact hz
  |some v=>exact(o.wh (c.met e).1).1
 have rr:(eT A 61 R.log.length { R with sc:={ R.sc with role:=2,next:=iM R.met R.log.length } }).sc.role=2:=by rw[Il]
 refine⟨Γ',a1,a2,?_⟩;unfold nT;exact⟨a3.fE,a3.sn,a3.lu,a3.one,a3.vt,a3.wt,a3.vv,a3.own,a3.qA,λr=>⟨(a3.r0 r).1,λ_=>rfl⟩,λr=>(by have r:(eT A 61 R.log.length { R with sc:={ R.sc with role:=2,next:=iM R.met R.log.length } }).sc.role=1:=r;omega),λr=>⟨(a3.lead r).1,(a3.lead r).2⟩,a3.pp,a3.ac,a3.lg,a3.kn,a3.st,a3.ou,a3.ll,a3.gd⟩
theorem RV.yV(o:Γ.Ok R.sc.sz U)(h:RV A N Γ R)(ho:Ok A R)(r:R.sc.role=1){k:Nat}(hk5:k<5)(hk:k<R.sc.sz/\R.sc.b.E (Γ.B k)/\∀{b s},b.L R.sc.b->Γ.V k b s->∃v,R.met s=some v/\b.E v.b):To A N U Γ R (kM A R k):=by
 have h1:RV A N Γ { R with sc:={ R.sc with prom:=iX R.sc.prom k } }:=⟨h.fE,h.sn,h.lu,h.one,h.vt,h.wt,h.vv,h.own,h.qA,λr0=>(by have r0:R.sc.role=0:=r0;omega),λr=>⟨λhj=>(Ik hj).elim (λhj=>(h.eD r).1 hj) (λe=>by subst e;exact hk),(h.eD r).2,(h.eD r).3⟩,λr=>⟨(h.lead r).1,(h.lead r).2⟩,h.pp,h.ac,h.lg,h.kn,h.st,h.ou,h.ll,h.gd⟩;unfold kM;split
 ·rename_i hm
  exact RV.acF (R:={ R with sc:={ R.sc with prom:=iX R.sc.prom k } }) HA HN HP hU hz o h1 (ho.prom hk5) r hm
 ·exact .refl o h1
theorem RV.acG(o:Γ.Ok R.sc.sz U)(h:RV A N Γ R)(ho:Ok A R)(r:R.sc.role=0):To A N U Γ R (ng A R):=by
 unfold ng;split
 case isFalse=>exact .refl o h
 rename_i hc;obtain⟨Γ1,e1,o1,h1,hi⟩:∃Γ1,wX R.sc.i Γ Γ1/\Γ1.Ok R.sc.sz U/\RV A N Γ1 (cz R)/\(cz R).sc.b.id=R.sc.i:=by
  unfold cz;split
  ·rename_i q
   refine⟨Γ,.refl _ _,o,h,?_⟩;have hz:R.sc.sz=1:=by omega
   rw[h.one hz];have:=ho.i.1;show 0=_;omega
  ·rename_i q
   have hl:R.sc.b.L ⟨R.sc.seen+1,R.sc.i⟩:=.inl (Nat.lt_succ_of_le h.sn);have hl':=hl.e;rw[<-h.fE]at hl';exact⟨Γ.rise R.sc.i ⟨R.sc.seen+1,R.sc.i⟩,Gh.wZ hl',o.rise hl',(h.rise o r hl (Nat.le_refl _) (by have:=ho.i.1;have:=ho.sz;show R.sc.i<256;omega) (λe=>q (.inl e))).1,rfl⟩
 have es:(cz R).sc.i=R.sc.i/\(cz R).sc.sz=R.sc.sz/\(cz R).sc.role=R.sc.role:=by
  unfold cz;split<;>exact⟨rfl,rfl,rfl⟩
 have r1:(cz R).sc.role=0:=es.2.2.trans r;obtain⟨z1,z2⟩:=h1.r0 r1;have om:∀{s v},orM (cz R).cK (cz R).met s=some v↔(cz R).cK s=some v:=λ{s v}=>by
  unfold orM;rw[z2 s];cases(cz R).cK s<;>simp
 have h2:RV A N Γ1 (qR R):=⟨h1.fE,h1.sn,h1.lu,h1.one,h1.vt,h1.wt,h1.vv,h1.own,λ_=>hi.trans es.1.symm,λq=>absurd (show(1:Nat)=0 from q) (by decide),λ_=>⟨λ{k} hk=>by
  have hk:(cz R).sc.prom.testBit k=true:=hk;rw[z1]at hk;simp at hk,λhv=>by
  have hv:=om.1 hv;refine⟨(h1.vt hv).2,?_⟩;have:=(o1.vp (h1.vt hv).1).2.1;rw[h1.fE]at this;exact this,λhp=>by
  obtain⟨v,a,b⟩:=h1.own (hi.trans es.1.symm) hp;exact⟨v,om.2 a,b⟩⟩,λq=>absurd (show(1:Nat)=2 from q) (by decide),λhp=>(by have:=(h1.pp hp).1;omega),λha=>(by have:=(h1.ac ha).1;omega),h1.lg,h1.kn,h1.st,h1.ou,h1.ll,h1.gd⟩
 have i5:R.sc.i<5:=Nat.lt_of_lt_of_le ho.i.1 ho.sz;refine To.step e1 ⟨es.1,es.2.1⟩ (RV.yV (R:=qR R) HA HN HP hU hz (by rw[<-es.2.1]at o1;exact o1) h2 ho.IM rfl i5 ⟨Nat.lt_of_lt_of_eq ho.i.1 es.2.1.symm,?_,λ_ v=>?_⟩)
 ·show bF.E _ (Γ1.B R.sc.i)
  rw[<-es.1,h1.fE];exact .refl _
 ·rw[<-es.1]at v
  obtain⟨x,a,b⟩:=h1.vv v;exact⟨x,om.2 a,b⟩
end
end
