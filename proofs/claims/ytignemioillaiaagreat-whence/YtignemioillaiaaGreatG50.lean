/- What a replica knows stays so (3): whatever it takes, its ticks. -/
import Derived.Test.YtignemioillaiaaGreatG49
namespace Go.Proofs.YtignemioillaiaaGreat
set_option maxHeartbeats 8000000
set_option maxRecDepth 100000
section
open Go Go.Conc
theorem PD(g:Nat->Option MV)(v:MV):(∀s x,g s=some x->∃y,mi g v s=some y/\x.b.E y.b)/\∃y,mi g v v.slot=some y/\v.b.E y.b:=by
 have up:(∀x,g v.slot=some x->x.b.E v.b)->(∀s x,g s=some x->∃y,upd g v.slot (some v) s=some y/\x.b.E y.b)/\∃y,upd g v.slot (some v) v.slot=some y/\v.b.E y.b:=λhx=>by
  refine⟨λs x h=>?_,_,yo _ _ _,.refl _⟩;by_cases e:s=v.slot
  ·subst e;exact⟨_,yo _ _ _,hx x h⟩
  ·rw[upd_ne _ _ e];exact⟨x,h,.refl _⟩
 cases e:g v.slot with
 |none=>rw[xn e];exact up λx h=>by rw[e]at h;cases h
 |some o =>
  cases hb:o.b.lt v.b with
  |true=>rw[yX e hb];exact up λx h=>by rw[e]at h;cases h;exact(bF.abh.1 hb).e
  |false=>rw[A7 e hb];exact⟨λs x h=>⟨x,h,.refl _⟩,o,e,bF.not_lt (by rw[hb];decide)⟩
theorem FD:∀(vs:List MV) (g:Nat->Option MV),(∀s x,g s=some x->∃y,gG g vs s=some y/\x.b.E y.b)/\∀v∈vs,∃y,gG g vs v.slot=some y/\v.b.E y.b
 | [],_=>⟨λ_ x h=>⟨x,h,.refl _⟩,λ_ h=>by cases h⟩
 |v::vs,g=>by
  obtain⟨h1,h2⟩:=FD vs (mi g v);obtain⟨p1,y,p2,p3⟩:=PD g v;refine⟨λs x h=>?_,λu hu=>?_⟩
  ·obtain⟨y,a,b⟩:=p1 s x h
   obtain⟨z,c,d⟩:=h1 s y a;exact⟨z,c,b.trans d⟩
  ·rcases List.mem_cons.1 hu with rfl|hu
   ·obtain⟨z,c,d⟩:=h1 _ y p2
    exact⟨z,c,p3.trans d⟩
   ·exact h2 u hu
theorem BB{f:Nat->Option MV}{k:Nat}{v:MV}:v∈mY f k↔∃s,s<k/\f s=some v:=by
 unfold mY;rw[List.mem_filterMap];exact⟨λ⟨s,a,b⟩=>⟨s,List.mem_range.1 a,b⟩,λ⟨s,a,b⟩=>⟨s,List.mem_range.2 a,b⟩⟩
theorem BC(enc:MM->ByteArray)(R:MR)(f:Nat×Nat)(b:bF):(bR enc R f b).cK=R.cK/\(bR enc R f b).sc.i=R.sc.i/\(bR enc R f b).sc.sz=R.sc.sz/\(bR enc R f b).sc.g=R.sc.g/\(¬b.lt R.sc.b=true->(bR enc R f b).sc.b=b):=by
 unfold bR;split
 ·rename_i h;exact⟨rfl,rfl,rfl,rfl,λn=>(n h).elim⟩
 ·split
  ·rename_i e;exact⟨rfl,rfl,rfl,rfl,λ_=>e.symm⟩
  ·exact⟨rfl,rfl,rfl,rfl,λ_=>rfl⟩
section
variable{A:aR}(HP:sV A){N:Nat}{U:MC->Prop}{Γ:Gh}{R:MR}
include HP
theorem RV.refuse(o:Γ.Ok R.sc.sz U)(h:RV A N Γ R)(hw:R.sc.b.n<=4294967295){f:Nat×Nat}(hf:f.1=R.sc.g)(h1:R.sc.sz≠1){b:bF}(h8:b.id<256)(hn:b.n<=R.sc.seen):To A N U Γ R (bR A.enc R f b):=by
 unfold bR;split
 ·refine .refl o (h.snd λt ht=>uB.of (m:={ aO 5 with b:=R.sc.b }) (λm' hd=>HP.fE (.inr rfl) ⟨hw,h.lu⟩ hd) ⟨nofun,nofun,nofun,nofun⟩ (show(5:Int)<=8 by decide) ⟨yw ?_,h1,h.lu⟩)
  rw[List.mem_singleton]at ht;rw[ht];exact hf
 ·rename_i lt
  split
  ·exact .refl o h
  ·rename_i ne
   have hl:R.sc.b.L b:=(bF.not_lt lt).cases.elim (λe=>(ne e.symm).elim) id;have hl':=hl.e;rw[<-h.fE]at hl';exact⟨Γ.rise R.sc.i b,Gh.wZ hl',o.rise hl',(RV.rise (R:=fP R) (sn:=R.sc.seen) o h.stand rfl hl hn h8 h1).1⟩
theorem RV.J6(o:Γ.Ok R.sc.sz U)(h:RV A N Γ R)(ho:Ok A R){f:Nat×Nat}(hf:f.1=R.sc.g)(h1:R.sc.sz≠1){b:bF}(hb:b.W)(hn:b.n<=R.sc.seen):To A N U Γ R (sG A.enc R f b):=by
 have hr:=RV.refuse HP o h ho.sn.2.1 hf h1 hb.2 hn;obtain⟨e1,e2,e3,e4,e5⟩:=BC A.enc R f b;unfold sG;split
 ·exact hr
 ·rename_i lt
  have e5:=e5 lt;obtain⟨Γ',a1,a2,a3⟩:=hr;refine⟨Γ',a1,a2,a3.snd λt ht=>uB.of (m:={ aO 4 with b:=b,vs:=mY (bR A.enc R f b).cK 60 }) (λm' hd=>HP.prom hb (AU _ _) (λv hv=>?_) hd) ⟨λ_=>⟨?_,λv hv=>?_,λb' s l v=>?_⟩,nofun,nofun,nofun⟩ (show(4:Int)<=8 by decide) ⟨yw (g:=(bR A.enc R f b).sc.g) ?_,?_,hb.2⟩⟩
  ·obtain⟨s,hs,hv⟩:=BB.1 hv
   obtain⟨q1,q2,q3⟩:=ho.vt s v (by rw[<-e1];exact hv);exact⟨q1,by omega,(a2.pb (a3.vt hv).2).2⟩
  ·show bF.E b (Γ'.B (bR A.enc R f b).sc.i)
   rw[a3.fE,e5];exact .refl _
  ·obtain⟨s,hs,hv⟩:=BB.1 hv
   obtain⟨q1,q2,q3⟩:=ho.vt s v (by rw[<-e1];exact hv);rw[q3];refine⟨(a3.vt hv).2,?_⟩;have:=(a2.vp (a3.vt hv).1).2.1;rw[a3.fE,e5]at this;exact this
  ·obtain⟨x,hx,hx'⟩:=a3.vv v
   obtain⟨q1,q2,q3⟩:=ho.vt s x (by rw[<-e1];exact hx);exact⟨x,BB.2 ⟨s,q2,hx⟩,q3,hx'⟩
  ·rw[List.mem_singleton]at ht;rw[ht,e4];exact hf
  ·rw[e3];exact h1
theorem RV.xX(o:Γ.Ok R.sc.sz U)(h:RV A N Γ R)(ho:Ok A R){f:Nat×Nat}(hf:f.1=R.sc.g)(h1:R.sc.sz≠1){m:MM}(hb:m.b.W)(hn:m.b.n<=R.sc.seen)(hs:m.s<60)(hp:Γ.P m.b m.s=some m.c):To A N U Γ R (kD A R f m):=by
 have hr:=RV.refuse HP o h ho.sn.2.1 hf h1 hb.2 hn;obtain⟨e1,e2,e3,e4,e5⟩:=BC A.enc R f m.b;unfold kD;split
 ·exact hr
 ·rename_i lt
  have e5:=e5 lt;obtain⟨Γ',a1,a2,a3⟩:=hr;have hp':Γ'.P (bR A.enc R f m.b).sc.b m.s=some m.c:=by rw[e5];exact a1.P hp
  rw[<-e3]at a2;have hi:(bR A.enc R f m.b).sc.i<(bR A.enc R f m.b).sc.sz:=by rw[e2,e3];exact ho.i.1
  have b1:=Gh.zz (.inr hp') a3.fE;have b2:=a2.add (.inr hp') a3.fE hi (by rw[e5];exact hb) (a2.safe hp') (a2.wh hp');have b3:=a3.Dx a2 (.inr hp') (.inl hp');rw[e2]at b1;refine⟨_,a1.trans b1,by rw[<-e3,<-e2];exact b2,?_⟩;rw[e2]at b3;refine b3.snd λt ht=>uB.of (m:={ aO 7 with b:=m.b,s:=m.s }) (λm' hd=>HP.qw hb hs hd) ⟨nofun,nofun,λ_=>.inl ⟨e2,e5.symm,rfl⟩,nofun⟩ (show(7:Int)<=8 by decide) ⟨yw (g:=(bR A.enc R f m.b).sc.g) ?_,?_,hb.2⟩
  ·rw[List.mem_singleton]at ht;rw[ht,e4];exact hf
  ·show(bR A.enc R f m.b).sc.sz≠1
   rw[e3];exact h1
theorem RV.Vj:∀(l:List Nat) {R:MR},RV A N Γ R->Ok A R->RV A N Γ (l.foldl (lQ A.enc) R)
 | [],_,h,_=>h
 |k::l,R,h,ho=>by
  show RV A N Γ (l.foldl (lQ A.enc) (lQ A.enc R k));unfold lQ;split
  ·rename_i c hc
   exact RV.Vj l (h.sa HP ho.i.1 ho.sn.2.1 (ho.pp _ _ hc).2 (ho.pp _ _ hc).1 (h.pp hc).2) (ho.snd _ _ _)
  ·exact RV.Vj l h ho
omit HP in
theorem KX(enc:MM->ByteArray):∀(l:List Nat) {R:MR},(l.foldl (lQ enc) R).log=R.log
 | [],_=>rfl
 |k::l,R=>by
  show(l.foldl (lQ enc) (lQ enc R k)).log=R.log;rw[KX enc l];unfold lQ;split<;>rfl
theorem RV.PE(HN:dL A):∀(l:List Nat) {R:MR},(∀c∈R.log,A.gc c)->RV A N Γ R->RV A N Γ (l.foldl (qU A.enc) R)
 | [],_,_,h=>h
 |k::l,R,lc,h=>by
  show RV A N Γ (l.foldl (qU A.enc) (qU A.enc R k));unfold qU;split
  ·exact RV.PE HN l lc h
  ·rename_i r rs e
   obtain⟨o,ho,hr⟩:∃o,R.st.O[k]? = some o/\r∈o.2:=by
    rw[List.getD_eq_getElem?_getD]at e;cases q:R.st.O[k]? with
    |none=>rw[q]at e;cases e
    |some o=>rw[q]at e;exact⟨o,rfl,by rw[show o.2=r::rs from e];exact List.mem_cons_self⟩
   obtain⟨l1,l2,l3⟩:=HN.lane _ h.gd.1 o (List.mem_of_getElem? ho) r hr;refine RV.PE HN l (R:=kR A.enc R { aO 9 with r:=r } (fI R.sc.g R.sc.i k R.sc.sz)) lc (h.snd λt ht m' hd=>?_);rw[HP.kZ l3 hd];have et:=NB ht;refine⟨⟨nofun,nofun,nofun,nofun⟩,λ_ e=>absurd (show(9:Int)<=8 from e) (by decide),λ_=>⟨l1.trans h.gd.2.2.2,?_,R.log,λk c hk=>h.lg hk,Nat.le_refl _,o,?_,hr⟩,nofun⟩
   ·show r.dst=(t.1:Int)
    rw[et];exact HP.dst (g:=R.sc.g) (n:=R.sc.gs) lc k o (by rw[<-h.st];exact ho) r hr
   ·show(fF A (A.bg R.sc.g R.sc.gs) R.log).O[(t.1:Int).toNat]? = _
    rw[et,Int.toNat_natCast,<-h.st];exact ho
theorem RV.qV(HN:dL A)(o:Γ.Ok R.sc.sz U)(h:RV A N Γ R)(ho:Ok A R):To A N U Γ R (qV A R):=by
 have h2:RV A N Γ (fV A R):=h.snd λt ht=>uB.of (m:={ aO 3 with b:=R.sc.b }) (λm' hd=>HP.fE (.inl rfl) ⟨ho.sn.2.1,h.lu⟩ hd) ⟨nofun,nofun,nofun,nofun⟩ (show(3:Int)<=8 by decide) ⟨yw (yu ht ho.i.1).1,(yu ht ho.i.1).2,h.lu⟩
 unfold Go.Proofs.YtignemioillaiaaGreat.qV;split
 ·exact .refl o h
 ·split
  ·exact .refl o (RV.PE HP HN _ (by unfold iy;rw[KX];exact ho.lc) (RV.Vj HP _ h2 (ho.snd _ _ _)))
  ·exact .refl o h2
end
section
variable{A:aR}(HA:bG A)(HN:dL A)(HP:sV A){N:Nat}{U:MC->Prop}(hU:∀c,U c->A.gc c)(hz:U nD){Γ:Gh}{R:MR}
include HA HN HP hU hz
theorem RV.promise(o:Γ.Ok R.sc.sz U)(h:RV A N Γ R)(ho:Ok A R){f:Nat×Nat}(hf:f.2<R.sc.sz/\f.2<5){m:MM}(hv:∀v∈m.vs,A.gc v.c/\v.slot<60)(hm:m.b.E (Γ.B f.2)/\(∀v∈m.vs,Γ.P v.b v.slot=some v.c/\v.b.E m.b)/\∀b s,b.L m.b->Γ.V f.2 b s->∃v∈m.vs,v.slot=s/\b.E v.b):To A N U Γ R (jg A R f m.b m.vs):=by
 unfold jg;split
 ·exact .refl o h
 ·rename_i q
  have r:R.sc.role=1:=Classical.byContradiction λe=>q (.inl e)
  have eb:m.b=R.sc.b:=Classical.byContradiction λe=>q (.inr e)
  rw[eb]at hm;obtain⟨m1,m2,m3⟩:=hm;have c:=h.eD r;obtain⟨d1,d2⟩:=FD m.vs R.met;have mt:∀s v,gG R.met m.vs s=some v->Γ.P v.b s=some v.c/\v.b.E R.sc.b:=A8 (P:=λs (v:MV)=>Γ.P v.b s=some v.c/\v.b.E R.sc.b) m.vs (λs v e=>c.met e) m2;have h1:RV A N Γ { R with met:=gG R.met m.vs }:=⟨h.fE,h.sn,h.lu,h.one,h.vt,h.wt,h.vv,h.own,h.qA,λr0=>(by have r0:R.sc.role=0:=r0;omega),λ_=>⟨λhk=>⟨(c.prom hk).1,(c.prom hk).2.1,λl v=>by
   obtain⟨x,a,b⟩:=(c.prom hk).2.2 l v;obtain⟨y,p,q⟩:=d1 _ x a;exact⟨y,p,b.trans q⟩⟩,λe=>mt _ _ e,λhp=>by
   obtain⟨x,a,b⟩:=c.has hp;obtain⟨y,p,q⟩:=d1 _ x a;rw[b]at q;refine⟨y,p,?_⟩;rcases(mt _ _ p).2.cases with e|e
   ·exact e
   ·exact(e.no q).elim⟩,λr=>⟨(h.lead r).1,(h.lead r).2⟩,h.pp,h.ac,h.lg,h.kn,h.st,h.ou,h.ll,h.gd⟩
  exact RV.yV (R:={ R with met:=gG R.met m.vs }) HA HN HP hU hz o h1 (ho.gG hv) r hf.2 ⟨hf.1,m1,λl v=>by
   obtain⟨x,a,b,e⟩:=m3 _ _ l v;obtain⟨y,p,q⟩:=d2 x a;rw[b]at p;exact⟨y,p,e.trans q⟩⟩
theorem RV.tick(o:Γ.Ok R.sc.sz U)(h:RV A N Γ R)(ho:Ok A R):To A N U Γ R (lS A R):=by
 have t1:To A N U Γ R (bK A R):=by
  unfold bK;split
  ·rename_i r;exact RV.acG HA HN HP hU hz o h ho r
  ·exact .refl o h
 obtain⟨o1,_,e1,e2⟩:=ho.bK HA;obtain⟨Γ',a1,a2,a3⟩:=t1;rw[<-e2]at a2;exact To.step a1 ⟨e1,e2⟩ (RV.qV HP HN a2 a3 o1)
theorem RV.take2(o:Γ.Ok R.sc.sz U)(h:RV A N Γ R)(ho:Ok A R){f:Nat×Nat}{m:MM}(gm:GM A R f m)(hs:m.b.n<=R.sc.seen)(hk:3<=m.kind->m.kind<=8->f.1=R.sc.g/\f.2<R.sc.sz/\R.sc.sz≠1/\m.b.id<256/\MF R.sc.sz Γ f.2 m)(hw:(m.kind=1->U (fH m.q))/\(m.kind=9->U (kL m.r)/\m.r.src.toNat=f.1)/\(m.kind=10->U (oz m.peer m.seq))):To A N U Γ R (oP A R f m):=by
 unfold oP;split
 ·rename_i k
  unfold vJ;split
  ·exact .refl o h
  ·rename_i r
   split
   ·exact .refl o (h.told HP rfl _)
   ·exact RV.offer HP HA HN hU o h ho (Classical.byContradiction r) (hw.1 k)
 split
 ·obtain⟨k1,k2,k3,k4,k5⟩:=hk (by omega) (by omega)
  exact RV.J6 HP o h ho k1 k3 ⟨gm.bn,k4⟩ hs
 split
 ·rename_i k
  obtain⟨k1,k2,k3,k4,k5⟩:=hk (by omega) (by omega);exact RV.promise HA HN HP hU hz o h ho ⟨k2,(gm.vs k).2.2⟩ (gm.vs k).1 (k5.prom k)
 split
 ·split
  ·exact .refl o h.stand
  ·exact .refl o h
 split
 ·rename_i k
  obtain⟨k1,k2,k3,k4,k5⟩:=hk (by omega) (by omega);exact RV.xX HP o h ho k1 k3 ⟨gm.bn,k4⟩ hs (gm.acc k).2 (k5.acc k)
 split
 ·rename_i k
  obtain⟨k1,k2,k3,k4,k5⟩:=hk (by omega) (by omega);unfold uG;split
  ·rename_i q
   have v:=k5.qw k;rw[q.2]at v;exact .refl o (RV.yT HP HA HN hU o h ho.i.1 (λc hc=>ho.pp _ _ hc) v)
  ·exact .refl o h
 split
 ·rename_i k
  obtain⟨k1,k2,k3,k4,k5⟩:=hk (by omega) (by omega);exact .refl o (RV.agree HP HA HN hU o h (k5.dec k))
 split
 ·rename_i k
  unfold sH;split
  ·exact .refl o h
  ·rename_i r
   split
   ·exact .refl o (h.abk HP HN _ λt ht=>by rw[List.mem_singleton]at ht;rw[ht];exact(hw.2.1 k).2.symm)
   ·split
    ·exact RV.offer HP HA HN hU o h ho (Classical.byContradiction r) (hw.2.1 k).1
    ·exact .refl o h
 split
 ·rename_i k
  have e:(m.peer.toNat:Int)=m.peer:=Int.toNat_of_nonneg (gm.jo k).1;unfold sJ;split
  ·exact .refl o h
  ·rename_i r
   split
   ·exact .refl o h
   ·split
    ·exact RV.offer HP HA HN hU o h ho (Classical.byContradiction r) (by rw[e];exact hw.2.2 k)
    ·exact .refl o h
 ·exact .refl o h
theorem RV.take(o:Γ.Ok R.sc.sz U)(h:RV A N Γ R)(ho:Ok A R){f:Nat×Nat}{d:ByteArray}(gm:∀m,A.dec d=some m->¬(f.1=255/\m.kind≠1)->GM A R f m)(hk:∀m,A.dec d=some m->¬(f.1=255/\m.kind≠1)->3<=m.kind->m.kind<=8->f.1=R.sc.g/\f.2<R.sc.sz/\R.sc.sz≠1/\m.b.id<256/\MF R.sc.sz Γ f.2 m)(hw:∀m,A.dec d=some m->¬(f.1=255/\m.kind≠1)->(m.kind=1->U (fH m.q))/\(m.kind=9->U (kL m.r)/\m.r.src.toNat=f.1)/\(m.kind=10->U (oz m.peer m.seq))):To A N U Γ R (ku A R f d):=by
 unfold ku;split
 ·exact .refl o h
 ·rename_i m hd
  split
  ·exact .refl o h
  ·rename_i q
   have g:=gm m hd q;have h1:RV A N Γ (nU R m):=⟨h.fE,Nat.le_trans h.sn (Nat.le_max_left _ _),h.lu,h.one,h.vt,h.wt,h.vv,h.own,h.qA,h.r0,λr=>⟨(h.eD r).1,(h.eD r).2,(h.eD r).3⟩,λr=>⟨(h.lead r).1,(h.lead r).2⟩,h.pp,h.ac,h.lg,h.kn,h.st,h.ou,h.ll,h.gd⟩;exact RV.take2 (R:=nU R m) HA HN HP hU hz o h1 (ho.seen g.bn) ⟨g.bn,g.ask,g.vs,g.acc,g.qw,g.dec,g.kZ,g.jo⟩ (Nat.le_max_right _ _) (hk m hd q) (hw m hd q)
end
structure WR(Γ:Gh)(R:MR):Prop where
 b:R.sc.wb=R.sc.b
 vv:∀{b s},Γ.V R.sc.i b s->∃v,R.fD s=some v/\b.E v.b
 own:R.sc.b.id=R.sc.i->∀{s c},Γ.P R.sc.b s=some c->∃v,R.fD s=some v/\v.b=R.sc.b
def Or(A:aR)(n sz:Nat)(k:List Ask)(Γ:Nat->Gh)(H:Nat->Nat)(g:Nat)(c:MC):Prop:=A.gc c/\(c.kind=0\/(c.kind=1/\∃a∈k,a.q=c.q/\a.g=g)\/(c.kind=2/\∃g0,g0<n/\Laid A sz n (Γ g0) (H g0) g0 g c.r)\/(c.kind=3/\∃g0:Nat,g0<n/\c.peer=g0/\Came A sz n (Γ g0) (H g0) g0 g c.seq))
structure lX(A:aR)(C:aM)(k:List Ask)(Γ:Nat->Gh)(H:Nat->Nat):Prop where
 ok:∀g,g<C.n->(Γ g).Ok C.sz (Or A C.n C.sz k Γ H g)
 rv:∀g i,g<C.n->i<C.sz->RV A 0 (Γ g) (C.F g i)/\WR (Γ g) (C.F g i)
 hl:∀g i,g<C.n->i<C.sz->(C.F g i).log.length<=H g
 net:∀p∈C.q,(p.fg=255/\∀m,A.dec p.d=some m->m.kind=1->∃a∈k,a.q=m.q/\(a.g:Int)=p.tg)\/∃g j,g<C.n/\j<C.sz/\p.fg=g/\p.fr=j/\uB A C.sz C.n (Γ g) (H g) g j p
def Gr(Γ Γ':Nat->Gh):Prop:=∀g,Ext (Γ g) (Γ' g)
theorem Gr.refl(Γ:Nat->Gh):Gr Γ Γ:=λ_=>.refl _
theorem Or.mono{A:aR}{n sz:Nat}{k k':List Ask}{Γ Γ':Nat->Gh}{H H':Nat->Nat}(hk:∀a∈k,a∈k')(hG:Gr Γ Γ')(hH:∀g,H g<=H' g){g:Nat}{c:MC}(h:Or A n sz k Γ H g c):Or A n sz k' Γ' H' g c:=by
 refine⟨h.1,?_⟩;rcases h.2 with e|⟨e,a,h1,h2⟩|⟨e,g0,h1,h2⟩|⟨e,g0,h1,h2,h3⟩
 ·exact .inl e
 ·exact .inr (.inl ⟨e,a,hk a h1,h2⟩)
 ·exact .inr (.inr (.inl ⟨e,g0,h1,h2.ext (hG g0) (hH g0)⟩))
 ·exact .inr (.inr (.inr ⟨e,g0,h1,h2,h3.ext (hG g0) (hH g0)⟩))
section
variable{A:aR}{N:Nat}{U:MC->Prop}{Γ:Gh}{R:MR}
theorem DV(f:Nat->Option MV)(s:Nat):orM f (λ_=>none) s=f s:=by unfold orM;cases f s<;>rfl
theorem RV.low(h:RV A N Γ R){M:Nat}(hm:M<=R.log.length):RV A M Γ R:=⟨h.fE,h.sn,h.lu,h.one,h.vt,h.wt,h.vv,h.own,h.qA,h.r0,h.eD,h.lead,h.pp,h.ac,h.lg,h.kn,h.st,h.ou,hm,h.gd⟩
theorem RV.start(HA:bG A)(HN:dL A)(ho:Ok A R)(hout:R.out=[])(h:RV A N Γ R)(k:WR Γ R):RV A 0 Γ (mStart A R)/\WR Γ (mStart A R):=by
 refine⟨⟨h.fE.trans k.b.symm,Nat.le_refl _,by show R.sc.wb.id<256;rw[k.b];exact h.lu,λe=>k.b.trans (h.one e),λ{s v} e=>h.wt ((DV R.fD s).symm.trans e),h.wt,λ{b s} v=>by
  show ∃v,orM R.fD (λ_=>none) s=some v/\_;rw[DV];exact k.vv v,λhi s c hp=>by
  show ∃v,orM R.fD (λ_=>none) s=some v/\v.b=R.sc.wb;have hi:R.sc.wb.id=R.sc.i:=hi;have hp:Γ.P R.sc.wb s=some c:=hp;rw[k.b]at hi hp |-;rw[DV];exact k.own hi hp,λr=>(r rfl).elim,λ_=>⟨rfl,λ_=>rfl⟩,λr=>absurd (show(0:Nat)=1 from r) (by decide),λr=>absurd (show(0:Nat)=2 from r) (by decide),nofun,nofun,λe=>absurd e (by simp[mStart]),nofun,rfl,λp hp=>?_,Nat.zero_le _,(ho.start HA).st,ho.i.2.1,ho.i.2.2.1,(HN.QX _ _ ho.i.2.1 ho.i.2.2.1).2⟩,⟨rfl,k.vv,λhi s c hp=>by
  have hi:R.sc.wb.id=R.sc.i:=hi;have hp:Γ.P R.sc.wb s=some c:=hp;show ∃v,R.fD s=some v/\v.b=R.sc.wb;rw[k.b]at hi hp |-;exact k.own hi hp⟩⟩
 have hp:p∈R.out:=hp;rw[hout]at hp;cases hp
theorem RV.done(h:RV A N Γ R):RV A N Γ (qW R)/\WR Γ (qW R):=by
 have om:∀{s v},R.cK s=some v->orM R.cK R.fD s=some v:=λe=>by unfold orM;rw[e];rfl
 refine⟨⟨h.fE,h.sn,h.lu,h.one,h.vt,λ{s v} e=>?_,h.vv,h.own,h.qA,h.r0,λr=>⟨(h.eD r).1,(h.eD r).2,(h.eD r).3⟩,λr=>⟨(h.lead r).1,(h.lead r).2⟩,h.pp,h.ac,h.lg,h.kn,h.st,nofun,h.ll,h.gd⟩,rfl,λv=>?_,λhi s c hp=>?_⟩
 ·have e:orM R.cK R.fD s=some v:=e
  unfold orM at e;cases q:R.cK s with
  |none=>rw[q]at e;exact h.wt e
  |some x=>rw[q]at e;cases e;exact h.vt q
 ·obtain⟨x,a,b⟩:=h.vv v
  exact⟨x,om a,b⟩
 ·obtain⟨x,a,b⟩:=h.own hi hp
  exact⟨x,om a,b⟩
theorem WR.other{Γ':Gh}{i:Nat}(h:WR Γ R)(e:wX i Γ Γ')(ne:R.sc.i≠i):WR Γ' R:=⟨h.b,λv=>h.vv (e.V' ne v),λhi _s _c hp=>h.own hi ((e.P' (λq=>ne (hi.symm.trans q))).symm.trans hp)⟩
end
section
variable{A:aR}{C:aM}{k:List Ask}{Γ:Nat->Gh}{H:Nat->Nat}
def IX(C C':aM):Prop:=∀g i,g<C.n->i<C.sz->(C.F g i).log.length<=(C'.F g i).log.length
theorem IX.refl(C:aM):IX C C:=λ_ _ _ _=>Nat.le_refl _
def Gv(A:aR)(C C':aM)(k:List Ask)(Γ:Nat->Gh)(H:Nat->Nat):Prop:=(∃Γ' H',Gr Γ Γ'/\lX A C' k Γ' H'/\∀g,g<C.n->H' g<=H g\/∃i,i<C.sz/\H' g<=(C'.F g i).log.length)/\IX C C'
theorem Gv.refl(h:lX A C k Γ H):Gv A C C k Γ H:=⟨⟨Γ,H,.refl _,h,λ_ _=>.inl (Nat.le_refl _)⟩,.refl _⟩
theorem lX.done(h:lX A C k Γ H)(fi:C.aK A){g i:Nat}(hg:g<C.n)(hi:i<C.sz){R':MR}(hx:Nx A (C.F g i) R')(ht:To A (C.F g i).log.length (Or A C.n C.sz k Γ H g) (Γ g) (C.F g i) R'):Gv A C (C.done g i R') k Γ H:=by
 obtain⟨G,e,o,r⟩:=ht;obtain⟨a1,a2,a3,a4⟩:=fi.at_ g i hg hi;obtain⟨i1,i2,i3,i4⟩:=hx.id;rw[a2]at e;rw[a4]at o;obtain⟨Γ',eΓ⟩:∃Γ':Nat->Gh,Γ'=λg'=>if g'=g then G else Γ g':=⟨_,rfl⟩
 obtain⟨H',eH⟩:∃H':Nat->Nat,H'=λg'=>if g'=g then max (H g) R'.log.length else H g':=⟨_,rfl⟩
 have E1:Γ' g=G:=by rw[eΓ];exact if_pos rfl
 have E2:∀{g'},g'≠g->Γ' g'=Γ g':=λq=>by rw[eΓ];exact if_neg q
 have F1:H' g=max (H g) R'.log.length:=by rw[eH];exact if_pos rfl
 have F2:∀{g'},g'≠g->H' g'=H g':=λq=>by rw[eH];exact if_neg q
 have hs:Gr Γ Γ':=λg'=>by
  by_cases q:g'=g
  ·subst q;rw[E1];exact e.toExt
  ·rw[E2 q];exact .refl _
 have hh:∀g',H g'<=H' g':=λg'=>by
  by_cases q:g'=g
  ·subst q;rw[F1];exact Nat.le_max_left _ _
  ·rw[F2 q];exact Nat.le_refl _
 have up:IX C (C.done g i R'):=λg' i' _ _=>by
  show _<=(fw C.F g i (qW R') g' i').log.length;by_cases q:g'=g/\i'=i
  ·obtain⟨rfl,rfl⟩:=q;rw[bL];exact r.ll
  ·rw[bz _ _ q];exact Nat.le_refl _
 refine⟨⟨Γ',H',hs,⟨λg' hg'=>?_,λg' i' hg' hi'=>?_,λg' i' hg' hi'=>?_,λp hp=>?_⟩,λg' hg'=>?_⟩,up⟩
 ·refine Gh.Ok.mono (U:=Or A C.n C.sz k Γ H g') ?_ λc hc=>hc.mono (λ_ x=>x) hs hh
  by_cases q:g'=g
  ·subst q;rw[E1];exact o
  ·rw[E2 q];exact h.ok g' hg'
 ·show RV A 0 (Γ' g') (fw C.F g i (qW R') g' i')/\WR (Γ' g') (fw C.F g i (qW R') g' i')
  by_cases q:g'=g
  ·subst q
   rw[E1];by_cases q':i'=i
   ·subst q'
    rw[bL];exact⟨r.done.1.low (Nat.zero_le _),r.done.2⟩
   ·rw[bz _ _ λq=>q' q.2]
    have ne:(C.F g' i').sc.i≠i:=by rw[(fi.at_ g' i' hg' hi').2.1];exact q'
    exact⟨(h.rv g' i' hg' hi').1.other e ne,(h.rv g' i' hg' hi').2.other e ne⟩
  ·rw[E2 q,bz _ _ λx=>q x.1]
   exact h.rv g' i' hg' hi'
 ·show(fw C.F g i (qW R') g' i').log.length<=_
  by_cases q:g'=g/\i'=i
  ·obtain⟨rfl,rfl⟩:=q;rw[bL,F1];exact Nat.le_max_right _ _
  ·rw[bz _ _ q];exact Nat.le_trans (h.hl g' i' hg' hi') (hh g')
 ·rcases List.mem_append.1 (List.mem_of_mem_take hp)with q|q
  ·rcases h.net p q with q|⟨g',j,b1,b2,b3,b4,b5⟩
   ·exact .inl q
   ·exact .inr ⟨g',j,b1,b2,b3,b4,b5.ext (hs g') (hh g')⟩
  ·refine .inr ⟨g,i,hg,hi,?_⟩
   have pf:=r.ou p q;rw[i1,i2,i3,i4,a1,a2,a3,a4]at pf;rcases hx.ou p q with q|q
   ·rw[fi.out g i hg hi]at q;cases q
   ·rw[a1,a2,a3]at q
    refine⟨q.1,q.2.1,?_⟩;rw[E1,F1];exact pf.ext (.refl _) (Nat.le_max_right _ _)
 ·by_cases q:g'=g
  ·subst q
   rw[F1];by_cases l:R'.log.length<=H g'
   ·exact .inl (by omega)
   ·refine .inr ⟨i,hi,?_⟩
    show _<=(fw C.F g' i (qW R') g' i).log.length;rw[bL];show max (H g') R'.log.length<=R'.log.length;omega
  ·rw[F2 q];exact .inl (Nat.le_refl _)
variable(HA:bG A)(HN:dL A)(HP:sV A)
include HA HN HP
theorem lX.tick(h:lX A C k Γ H)(fi:C.aK A)(g i:Nat):Gv A C (C.tick A g i) k Γ H:=by
 unfold aM.tick;split
 ·rename_i c
  have o:=fi.ok _ _ c.1 c.2;have a:=fi.at_ g i c.1 c.2;exact h.done fi c.1 c.2 (Nx.tick HA HN o ((fi.sd g i c.1 c.2).2.trans (congrArg Int.ofNat a.1).symm)) (RV.tick HA HN HP (λc x=>x.1) ⟨HA.JQ,.inl rfl⟩ (by rw[a.2.2.2];exact h.ok g c.1) ((h.rv g i c.1 c.2).1.low (Nat.le_refl _)) o)
 ·exact .refl h
theorem lX.jH(h:lX A C k Γ H)(fi:C.aK A)(j:Nat):Gv A C (C.jH A j) k Γ H:=by
 unfold aM.jH;split
 ·exact .refl h
 ·rename_i p hp
  have hq:=List.mem_of_getElem? hp;have hm:=fi.net p hq;split
  ·rename_i c
   have o:=fi.ok _ _ c.1 c.2;have a:=fi.at_ _ _ c.1 c.2;have gm:=hm.gm HN fi.sz o (fi.sd _ _ c.1 c.2).1;have et:(p.tg.toNat:Int)=p.tg:=Int.toNat_of_nonneg hm.1.1;refine h.done fi c.1 c.2 (Nx.take HA HN o (hm.f8 fi.n fi.sz).1 gm) (RV.take HA HN HP (λc x=>x.1) ⟨HA.JQ,.inl rfl⟩ (f:=(p.fg.toNat,p.fr.toNat)) (d:=p.d) (by rw[a.2.2.2];exact h.ok _ c.1) ((h.rv _ _ c.1 c.2).1.low (Nat.le_refl _)) o gm (λm hd nq k3 k8=>?_) λm hd nq=>?_)
   ·rcases h.net p hq with q|⟨g',j,b1,b2,b3,b4,b5⟩
    ·exact(nq ⟨by show p.fg.toNat=255;rw[q.1];rfl,by omega⟩).elim
    ·have m1:=(b5 m hd).mf
     obtain⟨m2,m3,m4⟩:=(b5 m hd).pax k3 k8;have e1:p.tg.toNat=g':=by omega
     have e2:p.fr.toNat=j:=by omega
     rw[a.1,a.2.2.2];refine⟨by show p.fg.toNat=p.tg.toNat;omega,by show p.fr.toNat<C.sz;omega,m3,m4,?_⟩;rw[e1];show MF C.sz (Γ g') p.fr.toNat m;rw[e2];exact m1
   ·have gm:=gm m hd nq
    rcases h.net p hq with⟨q,q'⟩|⟨g',j,b1,b2,b3,b4,b5⟩
    ·have k1:m.kind=1:=Classical.byContradiction λe=>nq ⟨by show p.fg.toNat=255;rw[q];rfl,e⟩
     obtain⟨x,x1,x2,x3⟩:=q' m hd k1;exact⟨λe=>⟨gm.ask e,.inr (.inl ⟨rfl,x,x1,x2,by omega⟩)⟩,λe=>by omega,λe=>by omega⟩
    ·refine⟨λe=>?_,λe=>⟨⟨(gm.kZ e).2.2.2,.inr (.inr (.inl ⟨rfl,g',b1,?_⟩))⟩,?_⟩,λe=>⟨(gm.jo e).2.2,.inr (.inr (.inr ⟨rfl,g',b1,((b5 m hd).jo e).1,?_⟩))⟩⟩
     ·rcases hm.2 with⟨c1,_⟩|⟨_,_,_,_,_,_,_,m0,e1,e2⟩
      ·have:=fi.n;omega
      ·rw[e1]at hd;exact((HN.back _ _ _ e2 hd).k1 e).elim
     ·rw[et];exact(b5 m hd).kZ e
     ·show m.r.src.toNat=p.fg.toNat
      rw[((b5 m hd).kZ e).1,b3]
     ·rw[et];exact((b5 m hd).jo e).2
  ·exact .refl h
omit HP in
theorem lX.dB(h:lX A C k Γ H)(fi:C.aK A)(g i:Nat):lX A (C.dB A g i) k Γ H:=by
 unfold aM.dB;split
 ·rename_i c
  refine⟨h.ok,λg' i' hg' hi'=>?_,λg' i' hg' hi'=>?_,h.net⟩
  ·show RV A 0 (Γ g') (fw C.F g i (mStart A (C.F g i)) g' i')/\WR (Γ g') (fw C.F g i (mStart A (C.F g i)) g' i')
   by_cases q:g'=g/\i'=i
   ·obtain⟨rfl,rfl⟩:=q
    rw[bL];exact(h.rv _ _ c.1 c.2).1.start HA HN (fi.ok _ _ c.1 c.2) (fi.out _ _ c.1 c.2) (h.rv _ _ c.1 c.2).2
   ·rw[bz _ _ q];exact h.rv g' i' hg' hi'
  ·show(fw C.F g i (mStart A (C.F g i)) g' i').log.length<=_
   by_cases q:g'=g/\i'=i
   ·obtain⟨rfl,rfl⟩:=q
    rw[bL];exact Nat.zero_le _
   ·rw[bz _ _ q];exact h.hl g' i' hg' hi'
 ·exact h
omit HA HN HP in
theorem lX.send(h:lX A C k Γ H)(g i:Nat)(d:ByteArray){k':List Ask}(hk:∀a∈k,a∈k')(hd:C.q.length<20000->g<C.n->i<C.sz->¬d.size > 1000->∀m,A.dec d=some m->m.kind=1->∃a∈k',a.q=m.q/\a.g=g):lX A (C.send g i d) k' Γ H:=by
 have ok':∀g,g<C.n->(Γ g).Ok C.sz (Or A C.n C.sz k' Γ H g):=λg hg=>(h.ok g hg).mono λc hc=>hc.mono hk (.refl _) λ_=>Nat.le_refl _
 have Vk:∀p∈C.q,(p.fg=255/\∀m,A.dec p.d=some m->m.kind=1->∃a∈k',a.q=m.q/\(a.g:Int)=p.tg)\/∃g j,g<C.n/\j<C.sz/\p.fg=g/\p.fr=j/\uB A C.sz C.n (Γ g) (H g) g j p:=λp hp=>(h.net p hp).imp (λq=>⟨q.1,λm hm k1=>by obtain⟨a,x,y⟩:=q.2 m hm k1;exact⟨a,hk a x,y⟩⟩) id
 unfold aM.send;split
 ·rename_i c
  refine⟨ok',h.rv,h.hl,λp hp=>?_⟩;have hp:p∈kN C.q ⟨255,255,g,i,d⟩:=hp;unfold kN at hp;split at hp
  ·rename_i lt
   rcases List.mem_append.1 hp with q|q
   ·exact Vk p q
   ·rw[List.mem_singleton]at q;subst q
    refine .inl ⟨rfl,λm hm k1=>?_⟩;obtain⟨a,x,y,z⟩:=hd lt c.1.1 c.1.2 c.2 m hm k1;exact⟨a,x,y,congrArg Int.ofNat z⟩
  ·exact Vk p hp
 ·exact⟨ok',h.rv,h.hl,Vk⟩
omit HP in
theorem lX.new{n sz:Nat}(hn:n<=4)(hN:n=A.N)(hz:sz<=5):lX A (aM.new A n sz) [] (λ_=>⟨λ_ _=>none,λ_ _ _=>False,λ_=>⟨0,0⟩⟩) λ_=>0 :=
 ⟨λ_ _=>⟨nofun,nofun,nofun,nofun⟩,λg i hg hi=>⟨⟨rfl,Nat.le_refl _,Nat.zero_lt_succ _,λ_=>rfl,nofun,nofun,nofun,λ_ _ _=>nofun,λr=>(r rfl).elim,λ_=>⟨rfl,λ_=>rfl⟩,λr=>absurd (show(0:Nat)=1 from r) (by decide),λr=>absurd (show(0:Nat)=2 from r) (by decide),nofun,nofun,λe=>absurd e (by simp[aM.new,DD,mStart]),nofun,rfl,nofun,Nat.zero_le _,(Ok.new HA hg hn hN hi hz).st,hg,hn,(HN.QX g n hg hn).2⟩,rfl,nofun,λ_ _ _=>nofun⟩,λ_ _ _ _=>Nat.le_refl _,nofun⟩
end
end
