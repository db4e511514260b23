/- What a replica knows stays so (3): whatever it takes, its ticks. -/
import Derived.Test.YtignemioillaiaaGreatG51
import Derived.Test.YtignemioillaiaaGreatG49
namespace Go.Proofs.YtignemioillaiaaGreat
set_option maxHeartbeats 8000000
set_option maxRecDepth 100000
section
open Go Go.Conc
theorem O3 (g:Nat->Option MV) (v:MV):(∀ s x,g s=some x->∃ y,lN g v s=some y/\x.b.E y.b)/\∃ y,lN g v v.slot=some y/\v.b.E y.b:=by
 have up:(∀ x,g v.slot=some x->x.b.E v.b)->(∀ s x,g s=some x->∃ y,upd g v.slot (some v) s=some y/\x.b.E y.b)/\∃ y,upd g v.slot (some v) v.slot=some y/\v.b.E y.b:=λ hx=>by
  refine ⟨λ s x h=>?_,_,xU _ _ _,.refl _⟩;by_cases e:s=v.slot
  ·subst e;exact ⟨_,xU _ _ _,hx x h⟩
  ·rw [upd_ne _ _ e];exact ⟨x,h,.refl _⟩
 cases e:g v.slot with
 | none=>rw [wR e];exact up λ x h=>by rw [e] at h;cases h
 | some o =>
  cases hb:o.b.lt v.b with
  | true=>rw [yF e hb];exact up λ x h=>by rw [e] at h;cases h;exact (bF.aaH.1 hb).e
  | false=>rw [Az e hb];exact ⟨λ s x h=>⟨x,h,.refl _⟩,o,e,bF.not_lt (by rw [hb];decide)⟩
theorem Fg:∀ (vs:List MV) (g:Nat->Option MV),(∀ s x,g s=some x->∃ y,gp g vs s=some y/\x.b.E y.b)/\∀ v∈vs,∃ y,gp g vs v.slot=some y/\v.b.E y.b
 | [],_=>⟨λ _ x h=>⟨x,h,.refl _⟩,λ _ h=>by cases h⟩
 | v::vs,g=>by
  obtain ⟨h1,h2⟩:=Fg vs (lN g v);obtain ⟨p1,y,p2,p3⟩:=O3 g v;refine ⟨λ s x h=>?_,λ u hu=>?_⟩
  ·obtain ⟨y,a,b⟩:=p1 s x h
   obtain ⟨z,c,d⟩:=h1 s y a;exact ⟨z,c,b.trans d⟩
  ·rcases List.mem_cons.1 hu with rfl | hu
   ·obtain ⟨z,c,d⟩:=h1 _ y p2
    exact ⟨z,c,p3.trans d⟩
   ·exact h2 u hu
theorem Bj {f:Nat->Option MV} {k:Nat} {v:MV}:v∈mF f k↔∃ s,s<k/\f s=some v:=by
 unfold mF;rw [List.mem_filterMap];exact ⟨λ⟨s,a,b⟩=>⟨s,List.mem_range.1 a,b⟩,λ⟨s,a,b⟩=>⟨s,List.mem_range.2 a,b⟩⟩
theorem Bl (enc:MM->ByteArray) (R:MR) (f:Nat×Nat) (b:bF):(bL enc R f b).cB=R.cB/\(bL enc R f b).sc.i=R.sc.i/\(bL enc R f b).sc.sz=R.sc.sz/\(bL enc R f b).sc.g=R.sc.g/\(¬ b.lt R.sc.b=true->(bL enc R f b).sc.b=b):=by
 unfold bL;split
 ·rename_i h;exact ⟨rfl,rfl,rfl,rfl,λ n=>(n h).elim⟩
 ·split
  ·rename_i e;exact ⟨rfl,rfl,rfl,rfl,λ _=>e.symm⟩
  ·exact ⟨rfl,rfl,rfl,rfl,λ _=>rfl⟩
section
variable {A:aT} (HP:rU A) {N:Nat} {Γ:Gh} {R:MR}
include HP
theorem RV.refuse (o:Γ.Ok R.sc.sz) (h:RV A N Γ R) (hw:R.sc.b.n<=4294967295) {f:Nat×Nat} (hf:f.1=R.sc.g) (h1:R.sc.sz≠1) {b:bF} (h8:b.id<256) (hn:b.n<=R.sc.seen):To A N Γ R (bL A.enc R f b):=by
 unfold bL;split
 ·refine .refl o (h.snd λ t ht=>PF.of (m:={ aQ 5 with b:=R.sc.b }) (λ m' hd=>HP.fC (.inr rfl) ⟨hw,h.kR⟩ hd) ⟨nofun,nofun,nofun,nofun⟩ ⟨xW ?_,h1,h.kR⟩)
  rw [List.mem_singleton] at ht;rw [ht];exact hf
 ·rename_i lt
  split
  ·exact .refl o h
  ·rename_i ne
   have hl:R.sc.b.L b:=(bF.not_lt lt).cases.elim (λ e=>(ne e.symm).elim) id;have hl':=hl.e;rw [<- h.fC] at hl';exact ⟨Γ.rise R.sc.i b,Gh.wK hl',o.rise hl',(RV.rise (R:=fG R) (sn:=R.sc.seen) o h.stand rfl hl hn h8 h1).1⟩
theorem RV.JF (o:Γ.Ok R.sc.sz) (h:RV A N Γ R) (ho:Ok A R) {f:Nat×Nat} (hf:f.1=R.sc.g) (h1:R.sc.sz≠1) {b:bF} (hb:b.W) (hn:b.n<=R.sc.seen):To A N Γ R (rH A.enc R f b):=by
 have hr:=RV.refuse HP o h ho.sn.2.1 hf h1 hb.2 hn;obtain ⟨e1,e2,e3,e4,e5⟩:=Bl A.enc R f b;unfold rH;split
 ·exact hr
 ·rename_i lt
  have e5:=e5 lt;obtain ⟨Γ',a1,a2,a3⟩:=hr;refine ⟨Γ',a1,a2,a3.snd λ t ht=>PF.of (m:={ aQ 4 with b:=b,vs:=mF (bL A.enc R f b).cB 60 }) (λ m' hd=>HP.prom hb (Aq _ _) (λ v hv=>?_) hd) ⟨λ _=>⟨?_,λ v hv=>?_,λ b' s l v=>?_⟩,nofun,nofun,nofun⟩ ⟨xW (g:=(bL A.enc R f b).sc.g) ?_,?_,hb.2⟩⟩
  ·obtain ⟨s,hs,hv⟩:=Bj.1 hv
   obtain ⟨q1,q2,q3⟩:=ho.vt s v (by rw [<- e1];exact hv);exact ⟨q1,by omega,(a2.pb (a3.vt hv).2).2⟩
  ·show bF.E b (Γ'.B (bL A.enc R f b).sc.i)
   rw [a3.fC,e5];exact .refl _
  ·obtain ⟨s,hs,hv⟩:=Bj.1 hv
   obtain ⟨q1,q2,q3⟩:=ho.vt s v (by rw [<- e1];exact hv);rw [q3];refine ⟨(a3.vt hv).2,?_⟩;have:=(a2.vp (a3.vt hv).1).2.1;rw [a3.fC,e5] at this;exact this
  ·obtain ⟨x,hx,hx'⟩:=a3.vv v
   obtain ⟨q1,q2,q3⟩:=ho.vt s x (by rw [<- e1];exact hx);exact ⟨x,Bj.2 ⟨s,q2,hx⟩,q3,hx'⟩
  ·rw [List.mem_singleton] at ht;rw [ht,e4];exact hf
  ·rw [e3];exact h1
theorem RV.xI (o:Γ.Ok R.sc.sz) (h:RV A N Γ R) (ho:Ok A R) {f:Nat×Nat} (hf:f.1=R.sc.g) (h1:R.sc.sz≠1) {m:MM} (hb:m.b.W) (hn:m.b.n<=R.sc.seen) (hs:m.s<60) (hp:Γ.P m.b m.s=some m.c):To A N Γ R (j5 A R f m):=by
 have hr:=RV.refuse HP o h ho.sn.2.1 hf h1 hb.2 hn;obtain ⟨e1,e2,e3,e4,e5⟩:=Bl A.enc R f m.b;unfold j5;split
 ·exact hr
 ·rename_i lt
  have e5:=e5 lt;obtain ⟨Γ',a1,a2,a3⟩:=hr;have hp':Γ'.P (bL A.enc R f m.b).sc.b m.s=some m.c:=by rw [e5];exact a1.P hp
  rw [<- e3] at a2;have hi:(bL A.enc R f m.b).sc.i<(bL A.enc R f m.b).sc.sz:=by rw [e2,e3];exact ho.i.1
  have b1:=Gh.za (.inr hp') a3.fC;have b2:=a2.add (.inr hp') a3.fC hi (by rw [e5];exact hb) (a2.safe hp');have b3:=a3.Db a2 (.inr hp') (.inl hp');rw [e2] at b1;refine ⟨_,a1.trans b1,by rw [<- e3,<- e2];exact b2,?_⟩;rw [e2] at b3;refine b3.snd λ t ht=>PF.of (m:={ aQ 7 with b:=m.b,s:=m.s }) (λ m' hd=>HP.pO hb hs hd) ⟨nofun,nofun,λ _=>.inl ⟨e2,e5.symm,rfl⟩,nofun⟩ ⟨xW (g:=(bL A.enc R f m.b).sc.g) ?_,?_,hb.2⟩
  ·rw [List.mem_singleton] at ht;rw [ht,e4];exact hf
  ·show (bL A.enc R f m.b).sc.sz≠1
   rw [e3];exact h1
theorem RV.UL:∀ (l:List Nat) {R:MR},RV A N Γ R->Ok A R->RV A N Γ (l.foldl (oQ A.enc) R)
 | [],_,h,_=>h
 | k::l,R,h,ho=>by
  show RV A N Γ (l.foldl (oQ A.enc) (oQ A.enc R k));unfold oQ;split
  ·rename_i c hc
   exact RV.UL l (h.sa HP ho.i.1 ho.sn.2.1 (ho.pp _ _ hc).2 (ho.pp _ _ hc).1 (h.pp hc).2) (ho.snd _ _ _)
  ·exact RV.UL l h ho
theorem RV.O4:∀ (l:List Nat) {R:MR},RV A N Γ R->RV A N Γ (l.foldl (qy A.enc) R)
 | [],_,h=>h
 | k::l,R,h=>by
  show RV A N Γ (l.foldl (qy A.enc) (qy A.enc R k));unfold qy;split
  ·exact RV.O4 l h
  ·exact RV.O4 l (h.free HP (.inr (.inl rfl)) _)
theorem RV.qA (o:Γ.Ok R.sc.sz) (h:RV A N Γ R) (ho:Ok A R):To A N Γ R (qA A R):=by
 have h2:RV A N Γ (fJ A R):=h.snd λ t ht=>PF.of (m:={ aQ 3 with b:=R.sc.b }) (λ m' hd=>HP.fC (.inl rfl) ⟨ho.sn.2.1,h.kR⟩ hd) ⟨nofun,nofun,nofun,nofun⟩ ⟨xW (xV ht ho.i.1).1,(xV ht ho.i.1).2,h.kR⟩
 unfold Go.Proofs.YtignemioillaiaaGreat.qA;split
 ·exact .refl o h
 ·split
  ·exact .refl o (RV.O4 HP _ (RV.UL HP _ h2 (ho.snd _ _ _)))
  ·exact .refl o h2
end
section
variable {A:aT} (HA:bK A) (HP:rU A) {N:Nat} {Γ:Gh} {R:MR}
include HA HP
theorem RV.promise (o:Γ.Ok R.sc.sz) (h:RV A N Γ R) (ho:Ok A R) {f:Nat×Nat} (hf:f.2<R.sc.sz/\f.2<5) {m:MM} (hv:∀ v∈m.vs,A.gc v.c/\v.slot<60) (hm:m.b.E (Γ.B f.2)/\(∀ v∈m.vs,Γ.P v.b v.slot=some v.c/\v.b.E m.b)/\∀ b s,b.L m.b->Γ.V f.2 b s->∃ v∈m.vs,v.slot=s/\b.E v.b):To A N Γ R (jd A R f m.b m.vs):=by
 unfold jd;split
 ·exact .refl o h
 ·rename_i q
  have r:R.sc.role=1:=Classical.byContradiction λ e=>q (.inl e)
  have eb:m.b=R.sc.b:=Classical.byContradiction λ e=>q (.inr e)
  rw [eb] at hm;obtain ⟨m1,m2,m3⟩:=hm;have c:=h.eD r;obtain ⟨d1,d2⟩:=Fg m.vs R.met;have mt:∀ s v,gp R.met m.vs s=some v->Γ.P v.b s=some v.c/\v.b.E R.sc.b:=AA (P:=λ s (v:MV)=>Γ.P v.b s=some v.c/\v.b.E R.sc.b) m.vs (λ s v e=>c.met e) m2;have h1:RV A N Γ { R with met:=gp R.met m.vs }:=⟨h.fC,h.sn,h.kR,h.one,h.vt,h.wt,h.vv,h.own,h.pU,λ r0=>(by have r0:R.sc.role=0:=r0;omega),λ _=>⟨λ hk=>⟨(c.prom hk).1,(c.prom hk).2.1,λ l v=>by
   obtain ⟨x,a,b⟩:=(c.prom hk).2.2 l v;obtain ⟨y,p,q⟩:=d1 _ x a;exact ⟨y,p,b.trans q⟩⟩,λ e=>mt _ _ e,λ hp=>by
   obtain ⟨x,a,b⟩:=c.has hp;obtain ⟨y,p,q⟩:=d1 _ x a;rw [b] at q;refine ⟨y,p,?_⟩;rcases (mt _ _ p).2.cases with e | e
   ·exact e
   ·exact (e.no q).elim⟩,λ r=>⟨(h.lead r).1,(h.lead r).2⟩,h.pp,h.ac,h.lg,h.kn,h.st,h.ou,h.ll⟩
  exact RV.yE (R:={ R with met:=gp R.met m.vs }) HA HP o h1 (ho.gp hv) r hf.2 ⟨hf.1,m1,λ l v=>by
   obtain ⟨x,a,b,e⟩:=m3 _ _ l v;obtain ⟨y,p,q⟩:=d2 x a;rw [b] at p;exact ⟨y,p,e.trans q⟩⟩
theorem RV.tick (o:Γ.Ok R.sc.sz) (h:RV A N Γ R) (ho:Ok A R):To A N Γ R (kZ A R):=by
 have t1:To A N Γ R (bH A R):=by
  unfold bH;split
  ·rename_i r;exact RV.abO HA HP o h ho r
  ·exact .refl o h
 obtain ⟨o1,_,e1,e2⟩:=ho.bH HA;obtain ⟨Γ',a1,a2,a3⟩:=t1;rw [<- e2] at a2;exact To.step a1 ⟨e1,e2⟩ (RV.qA HP a2 a3 o1)
theorem RV.take2 (o:Γ.Ok R.sc.sz) (h:RV A N Γ R) (ho:Ok A R) {f:Nat×Nat} {m:MM} (gm:GM A R f m) (hs:m.b.n<=R.sc.seen) (hk:3<=m.kind->m.kind<=8->f.1=R.sc.g/\f.2<R.sc.sz/\R.sc.sz≠1/\m.b.id<256/\MF R.sc.sz Γ f.2 m):To A N Γ R (nZ A R f m):=by
 unfold nZ;split
 ·rename_i k
  unfold uZ;split
  ·exact .refl o h
  ·rename_i r
   split
   ·exact .refl o (h.free HP (.inl rfl) _)
   ·exact RV.offer HP o h ho (Classical.byContradiction r) (gm.ask k)
 split
 ·obtain ⟨k1,k2,k3,k4,k5⟩:=hk (by omega) (by omega)
  exact RV.JF HP o h ho k1 k3 ⟨gm.bn,k4⟩ hs
 split
 ·rename_i k
  obtain ⟨k1,k2,k3,k4,k5⟩:=hk (by omega) (by omega);exact RV.promise HA HP o h ho ⟨k2,(gm.vs k).2.2⟩ (gm.vs k).1 (k5.prom k)
 split
 ·split
  ·exact .refl o h.stand
  ·exact .refl o h
 split
 ·rename_i k
  obtain ⟨k1,k2,k3,k4,k5⟩:=hk (by omega) (by omega);exact RV.xI HP o h ho k1 k3 ⟨gm.bn,k4⟩ hs (gm.acc k).2 (k5.acc k)
 split
 ·rename_i k
  obtain ⟨k1,k2,k3,k4,k5⟩:=hk (by omega) (by omega);unfold uh;split
  ·rename_i q
   have v:=k5.pO k;rw [q.2] at v;exact .refl o (RV.yC HP o h ho.i.1 (λ c hc=>ho.pp _ _ hc) v)
  ·exact .refl o h
 split
 ·rename_i k
  obtain ⟨k1,k2,k3,k4,k5⟩:=hk (by omega) (by omega);exact .refl o (RV.agree HP h (k5.dec k))
 split
 ·rename_i k
  unfold rJ;split
  ·exact .refl o h
  ·rename_i r
   split
   ·exact .refl o (h.free HP (.inr (.inr rfl)) _)
   ·split
    ·exact RV.offer HP o h ho (Classical.byContradiction r) (gm.qB k).2.2.2
    ·exact .refl o h
 split
 ·rename_i k
  have e:(m.peer.toNat:Int)=m.peer:=Int.toNat_of_nonneg (gm.lQ k).1;unfold rM;split
  ·exact .refl o h
  ·rename_i r
   split
   ·exact .refl o h
   ·split
    ·exact RV.offer HP o h ho (Classical.byContradiction r) (by rw [e];exact (gm.lQ k).2.2)
    ·exact .refl o h
 ·exact .refl o h
theorem RV.take (o:Γ.Ok R.sc.sz) (h:RV A N Γ R) (ho:Ok A R) {f:Nat×Nat} {d:ByteArray} (gm:∀ m,A.dec d=some m->¬ (f.1=255/\m.kind≠1)->GM A R f m) (hk:∀ m,A.dec d=some m->¬ (f.1=255/\m.kind≠1)->3<=m.kind->m.kind<=8->f.1=R.sc.g/\f.2<R.sc.sz/\R.sc.sz≠1/\m.b.id<256/\MF R.sc.sz Γ f.2 m):To A N Γ R (jX A R f d):=by
 unfold jX;split
 ·exact .refl o h
 ·rename_i m hd
  split
  ·exact .refl o h
  ·rename_i q
   have g:=gm m hd q;have h1:RV A N Γ (nG R m):=⟨h.fC,Nat.le_trans h.sn (Nat.le_max_left _ _),h.kR,h.one,h.vt,h.wt,h.vv,h.own,h.pU,h.r0,λ r=>⟨(h.eD r).1,(h.eD r).2,(h.eD r).3⟩,λ r=>⟨(h.lead r).1,(h.lead r).2⟩,h.pp,h.ac,h.lg,h.kn,h.st,h.ou,h.ll⟩;exact RV.take2 (R:=nG R m) HA HP o h1 (ho.seen g.bn) ⟨g.bn,g.ask,g.vs,g.acc,g.pO,g.dec,g.qB,g.lQ⟩ (Nat.le_max_right _ _) (hk m hd q)
end
structure WR (Γ:Gh) (R:MR):Prop where
 b:R.sc.wb=R.sc.b
 vv:∀ {b s},Γ.V R.sc.i b s->∃ v,R.fB s=some v/\b.E v.b
 own:R.sc.b.id=R.sc.i->∀ {s c},Γ.P R.sc.b s=some c->∃ v,R.fB s=some v/\v.b=R.sc.b
structure kg (A:aT) (C:aN) (Γ:Nat->Gh):Prop where
 ok:∀ g,g<C.n->(Γ g).Ok C.sz
 rv:∀ g i,g<C.n->i<C.sz->RV A 0 (Γ g) (C.F g i)/\WR (Γ g) (C.F g i)
 net:∀ p∈C.q,p.fg=255\/∃ g j,g<C.n/\j<C.sz/\p.fg=g/\p.fr=j/\PF A C.sz (Γ g) g j p
def Gr (Γ Γ':Nat->Gh):Prop:=∀ g,Ext (Γ g) (Γ' g)
theorem Gr.refl (Γ:Nat->Gh):Gr Γ Γ:=λ _=>.refl _
section
variable {A:aT} {N:Nat} {Γ:Gh} {R:MR}
theorem Dw (f:Nat->Option MV) (s:Nat):orM f (λ _=>none) s=f s:=by unfold orM;cases f s <;> rfl
theorem RV.low (h:RV A N Γ R) {M:Nat} (hm:M<=R.log.length):RV A M Γ R:=⟨h.fC,h.sn,h.kR,h.one,h.vt,h.wt,h.vv,h.own,h.pU,h.r0,h.eD,h.lead,h.pp,h.ac,h.lg,h.kn,h.st,h.ou,hm⟩
theorem RV.start (h:RV A N Γ R) (k:WR Γ R):RV A 0 Γ (mStart A R)/\WR Γ (mStart A R) :=
 ⟨⟨h.fC.trans k.b.symm,Nat.le_refl _,by show R.sc.wb.id<256;rw [k.b];exact h.kR,λ e=>k.b.trans (h.one e),λ {s v} e=>h.wt ((Dw R.fB s).symm.trans e),h.wt,λ {b s} v=>by
  show ∃ v,orM R.fB (λ _=>none) s=some v/\_;rw [Dw];exact k.vv v,λ hi s c hp=>by
  show ∃ v,orM R.fB (λ _=>none) s=some v/\v.b=R.sc.wb;have hi:R.sc.wb.id=R.sc.i:=hi;have hp:Γ.P R.sc.wb s=some c:=hp;rw [k.b] at hi hp |-;rw [Dw];exact k.own hi hp,λ r=>(r rfl).elim,λ _=>⟨rfl,λ _=>rfl⟩,λ r=>absurd (show (0:Nat)=1 from r) (by decide),λ r=>absurd (show (0:Nat)=2 from r) (by decide),nofun,nofun,λ e=>absurd e (by simp [mStart]),nofun,rfl,h.ou,Nat.zero_le _⟩,⟨rfl,k.vv,λ hi s c hp=>by
  have hi:R.sc.wb.id=R.sc.i:=hi;have hp:Γ.P R.sc.wb s=some c:=hp;show ∃ v,R.fB s=some v/\v.b=R.sc.wb;rw [k.b] at hi hp |-;exact k.own hi hp⟩⟩
theorem RV.done (h:RV A N Γ R):RV A N Γ (ui R)/\WR Γ (ui R):=by
 have om:∀ {s v},R.cB s=some v->orM R.cB R.fB s=some v:=λ e=>by unfold orM;rw [e];rfl
 refine ⟨⟨h.fC,h.sn,h.kR,h.one,h.vt,λ {s v} e=>?_,h.vv,h.own,h.pU,h.r0,λ r=>⟨(h.eD r).1,(h.eD r).2,(h.eD r).3⟩,λ r=>⟨(h.lead r).1,(h.lead r).2⟩,h.pp,h.ac,h.lg,h.kn,h.st,nofun,h.ll⟩,rfl,λ v=>?_,λ hi s c hp=>?_⟩
 ·have e:orM R.cB R.fB s=some v:=e
  unfold orM at e;cases q:R.cB s with
  | none=>rw [q] at e;exact h.wt e
  | some x=>rw [q] at e;cases e;exact h.vt q
 ·obtain ⟨x,a,b⟩:=h.vv v
  exact ⟨x,om a,b⟩
 ·obtain ⟨x,a,b⟩:=h.own hi hp
  exact ⟨x,om a,b⟩
theorem WR.other {Γ':Gh} {i:Nat} (h:WR Γ R) (e:wI i Γ Γ') (ne:R.sc.i≠i):WR Γ' R:=⟨h.b,λ v=>h.vv (e.V' ne v),λ hi _s _c hp=>h.own hi ((e.P' (λ q=>ne (hi.symm.trans q))).symm.trans hp)⟩
end
section
variable {A:aT} {C:aN} {Γ:Nat->Gh}
theorem kg.done (h:kg A C Γ) (fi:C.aJ A) {g i:Nat} (hg:g<C.n) (hi:i<C.sz) {R':MR} (hx:Nx A (C.F g i) R') (ht:To A (C.F g i).log.length (Γ g) (C.F g i) R'):∃ Γ',Gr Γ Γ'/\kg A (C.done g i R') Γ'/\(C.F g i).log.length<=R'.log.length:=by
 obtain ⟨G,e,o,r⟩:=ht;obtain ⟨a1,a2,a3,a4⟩:=fi.at_ g i hg hi;obtain ⟨i1,i2,i3,i4⟩:=hx.id;rw [a2] at e;rw [a4] at o;have hs:∀ g',Ext (Γ g') (if g'=g then G else Γ g'):=λ g'=>by
  split
  ·rename_i q;subst q;exact e.toExt
  ·exact .refl _
 refine ⟨λ g'=>if g'=g then G else Γ g',hs,⟨λ g' hg'=>?_,λ g' i' hg' hi'=>?_,λ p hp=>?_⟩,r.ll⟩
 ·show Gh.Ok C.sz (if _ then _ else _)
  split
  ·exact o
  ·exact h.ok g' hg'
 ·show RV A 0 (if g'=g then G else Γ g') (fE C.F g i (ui R') g' i')/\WR (if g'=g then G else Γ g') (fE C.F g i (ui R') g' i')
  by_cases q:g'=g
  ·subst q
   rw [if_pos rfl];by_cases q':i'=i
   ·subst q'
    rw [bN];exact ⟨r.done.1.low (Nat.zero_le _),r.done.2⟩
   ·rw [bz _ _ λ q=>q' q.2]
    have ne:(C.F g' i').sc.i≠i:=by rw [(fi.at_ g' i' hg' hi').2.1];exact q'
    exact ⟨(h.rv g' i' hg' hi').1.other e ne,(h.rv g' i' hg' hi').2.other e ne⟩
  ·rw [if_neg q,bz _ _ λ x=>q x.1]
   exact h.rv g' i' hg' hi'
 ·rcases List.mem_append.1 (List.mem_of_mem_take hp) with q | q
  ·rcases h.net p q with q | ⟨g',j,b1,b2,b3,b4,b5⟩
   ·exact .inl q
   ·exact .inr ⟨g',j,b1,b2,b3,b4,b5.ext (hs g')⟩
  ·refine .inr ⟨g,i,hg,hi,?_⟩
   have pf:=r.ou p q;rw [i1,i2,i4,a1,a2,a4] at pf;rcases hx.ou p q with q | q
   ·rw [fi.out g i hg hi] at q;cases q
   ·rw [a1,a2,a3] at q
    refine ⟨q.1,q.2.1,?_⟩;show PF A C.sz (if g=g then G else Γ g) g i p;rw [if_pos rfl];exact pf
def zb (C C':aN):Prop:=∀ g i,g<C.n->i<C.sz->(C.F g i).log.length<=(C'.F g i).log.length
theorem zb.refl (C:aN):zb C C:=λ _ _ _ _=>Nat.le_refl _
theorem zb.done {g i:Nat} {R':MR} (h:(C.F g i).log.length<=R'.log.length):zb C (C.done g i R'):=λ g' i' _ _=>by
 show _<=(fE C.F g i (ui R') g' i').log.length;by_cases q:g'=g/\i'=i
 ·obtain ⟨rfl,rfl⟩:=q;rw [bN];exact h
 ·rw [bz _ _ q];exact Nat.le_refl _
variable (HA:bK A) (HN:gL A) (HP:rU A)
include HA HN HP
theorem kg.tick (h:kg A C Γ) (fi:C.aJ A) (g i:Nat):(∃ Γ',Gr Γ Γ'/\kg A (C.tick A g i) Γ')/\zb C (C.tick A g i):=by
 unfold aN.tick;split
 ·rename_i c
  have o:=fi.ok _ _ c.1 c.2;have a:=fi.at_ g i c.1 c.2;obtain ⟨Γ',h1,h2,h3⟩:=h.done fi c.1 c.2 (Nx.tick HA HN o ((fi.sd g i c.1 c.2).2.trans (congrArg Int.ofNat a.1).symm)) (RV.tick HA HP (by rw [a.2.2.2];exact h.ok g c.1) ((h.rv g i c.1 c.2).1.low (Nat.le_refl _)) o);exact ⟨⟨Γ',h1,h2⟩,.done h3⟩
 ·exact ⟨⟨Γ,.refl _,h⟩,.refl _⟩
theorem kg.iC (h:kg A C Γ) (fi:C.aJ A) (k:Nat):(∃ Γ',Gr Γ Γ'/\kg A (C.iC A k) Γ')/\zb C (C.iC A k):=by
 unfold aN.iC;split
 ·exact ⟨⟨Γ,.refl _,h⟩,.refl _⟩
 ·rename_i p hp
  have hq:=List.mem_of_getElem? hp;have hm:=fi.net p hq;split
  ·rename_i c
   have o:=fi.ok _ _ c.1 c.2;have a:=fi.at_ _ _ c.1 c.2;have gm:=hm.gm HN fi.sz o (fi.sd _ _ c.1 c.2).1;obtain ⟨Γ',h1,h2,h3⟩:=h.done fi c.1 c.2 (Nx.take HA HN o (hm.f8 fi.n fi.sz).1 gm) (RV.take HA HP (f:=(p.fg.toNat,p.fr.toNat)) (d:=p.d) (by rw [a.2.2.2];exact h.ok _ c.1) ((h.rv _ _ c.1 c.2).1.low (Nat.le_refl _)) o gm λ m hd nq k3 k8=>by
    rcases h.net p hq with q | ⟨g',j,b1,b2,b3,b4,b5⟩
    ·exact (nq ⟨by show p.fg.toNat=255;rw [q];rfl,by omega⟩).elim
    ·obtain ⟨m1,m2⟩:=b5 m hd
     obtain ⟨m2,m3,m4⟩:=m2 k3 k8;have e1:p.tg.toNat=g':=by omega
     have e2:p.fr.toNat=j:=by omega
     rw [a.1,a.2.2.2];refine ⟨by show p.fg.toNat=p.tg.toNat;omega,by show p.fr.toNat<C.sz;omega,m3,m4,?_⟩;rw [e1];show MF C.sz (Γ g') p.fr.toNat m;rw [e2];exact m1)
   exact ⟨⟨Γ',h1,h2⟩,.done h3⟩
  ·exact ⟨⟨Γ,.refl _,h⟩,.refl _⟩
omit HA HN HP in
theorem kg.dz (h:kg A C Γ) (g i:Nat):kg A (C.dz A g i) Γ:=by
 unfold aN.dz;split
 ·rename_i c
  refine ⟨h.ok,λ g' i' hg' hi'=>?_,h.net⟩;show RV A 0 (Γ g') (fE C.F g i (mStart A (C.F g i)) g' i')/\WR (Γ g') (fE C.F g i (mStart A (C.F g i)) g' i');by_cases q:g'=g/\i'=i
  ·obtain ⟨rfl,rfl⟩:=q
   rw [bN];exact (h.rv _ _ c.1 c.2).1.start (h.rv _ _ c.1 c.2).2
  ·rw [bz _ _ q];exact h.rv g' i' hg' hi'
 ·exact h
omit HA HN HP in
theorem kg.send (h:kg A C Γ) (g i:Nat) (d:ByteArray):kg A (C.send g i d) Γ:=by
 unfold aN.send;split
 ·refine ⟨h.ok,h.rv,λ p hp=>?_⟩
  have hp:p∈kE C.q ⟨255,255,g,i,d⟩:=hp;unfold kE at hp;split at hp
  ·rcases List.mem_append.1 hp with q | q
   ·exact h.net p q
   ·rw [List.mem_singleton] at q;subst q;exact .inl rfl
  ·exact h.net p hp
 ·exact h
omit HA HN HP in
theorem kg.new (n sz:Nat):kg A (aN.new A n sz) (λ _=>⟨λ _ _=>none,λ _ _ _=>False,λ _=>⟨0,0⟩⟩) :=
 ⟨λ _ _=>⟨nofun,nofun,nofun⟩,λ g i _ _=>⟨⟨rfl,Nat.le_refl _,Nat.zero_lt_succ _,λ _=>rfl,nofun,nofun,nofun,λ _ _ _=>nofun,λ r=>(r rfl).elim,λ _=>⟨rfl,λ _=>rfl⟩,λ r=>absurd (show (0:Nat)=1 from r) (by decide),λ r=>absurd (show (0:Nat)=2 from r) (by decide),nofun,nofun,λ e=>absurd e (by simp [aN.new,Di,mStart]),nofun,rfl,nofun,Nat.zero_le _⟩,rfl,nofun,λ _ _ _=>nofun⟩,nofun⟩
end
structure cu (A:aT) (S:Sit):Prop where
 fine:S.aJ A
 bad:S.bad=false
 gh:∃ Γ,kg A S.C Γ/\∀ g k c,g<S.C.n->(S.dM.getD g [])[k]? = some c->(Γ g).D S.C.sz k c
 le:∀ i,i<S.C.n*S.C.sz->S.fell.getD i true=false->S.len.getD i 0<=(S.C.F (aX S.C i) (bJ S.C i)).log.length
theorem RJ {C C':aN} (hn:C'.n=C.n) (hz:C'.sz=C.sz) (k:Int):aX C' k=aX C k/\bJ C' k=bJ C k:=by unfold aX bJ;rw [hn,hz];exact ⟨rfl,rfl⟩
theorem adN {C:aN} {i:Nat} (h:i<C.n*C.sz):aX C i=i / C.sz/\bJ C i=i%C.sz:=by
 have:bf (i:Int) (C.n*C.sz)=i:=by
  unfold bf;rw [if_neg (by omega),Int.toNat_natCast];exact Nat.mod_eq_of_lt h
 unfold aX bJ;rw [this];exact ⟨rfl,rfl⟩
theorem wL {α:Type} {f:α->α->Bool} (hf:∀ x,f x x=true):∀ {l m:List α},(∀ (k:Nat) (x y:α),l[k]? = some x->m[k]? = some y->x=y)->lG f l m=true
 | [],_,_=>by cases ‹List α› <;> rfl
 | _::_,[],_=>rfl
 | x::l,y::m,h=>by
  have e:=h 0 x y rfl rfl;subst e;show (f x x && lG f l m)=true;rw [hf x,wL hf λ k a b p q=>h (k+1) a b p q];rfl
theorem RN (c:MC):tF c c=true:=by simp [tF,Bg,qm]
section
variable {A:aT} {S:Sit}
theorem cu.eT (h:cu A S) {C:aN} (hC:C.aJ A) (hn:C.n=S.C.n) (hz:C.sz=S.C.sz) (hq:S.C.q.length<=C.q.length) (hg:∀ Γ,kg A S.C Γ->∃ Γ',Gr Γ Γ'/\kg A C Γ') (hl:zb S.C C):cu A { S with C:=C }:=by
 obtain ⟨Γ,h1,h2⟩:=h.gh;obtain ⟨Γ',h3,h4⟩:=hg Γ h1;refine ⟨h.fine.eT hC hn hz hq,h.bad,⟨Γ',h4,λ g k c hg hk=>?_⟩,λ i hi hf=>?_⟩
 ·have hg:g<C.n:=hg
  show (Γ' g).D C.sz k c;rw [hn] at hg;rw [hz];exact (h2 g k c hg hk).ext (h3 g)
 ·have hi:i<C.n*C.sz:=hi
  rw [hn,hz] at hi;obtain ⟨e1,e2⟩:=RJ (C:=S.C) (C':=C) hn hz (i:Int);show _<=(C.F (aX C i) (bJ C i)).log.length;rw [e1,e2];obtain ⟨l1,l2⟩:=mQ (C:=S.C) (k:=(i:Int)) h.fine.n h.fine.sz;exact Nat.le_trans (h.le i hi hf) (hl _ _ l1 l2)
theorem cu.asks (h:cu A S) {l:List Ask} {k:Nat} (hl:l.length<=S.C.q.length):cu A { S with asks:=l,next:=k }:=⟨⟨h.fine.cl,h.fine.n,h.fine.sz,h.fine.be,h.fine.le,h.fine.fe,hl⟩,h.bad,h.gh,h.le⟩
theorem cu.dX (h:cu A S) {i:Nat} (hi:i<S.C.n*S.C.sz):(S.dX i).2=true/\cu A (S.dX i).1/\(S.dX i).1.C=S.C:=by
 obtain ⟨q1,q2⟩:=h.fine.dX i;obtain ⟨Γ,h1,h2⟩:=h.gh;obtain ⟨l1,l2⟩:=mQ (C:=S.C) (k:=(i:Int)) h.fine.n h.fine.sz;have rv:=(h1.rv _ _ l1 l2).1;have sz:=(h.fine.cl.at_ _ _ l1 l2).2.2.2;have lg:∀ {k c},(S.C.F (aX S.C i) (bJ S.C i)).log[k]? = some c->(Γ (aX S.C i)).D S.C.sz k c:=λ e=>by have:=rv.lg e;rw [sz] at this;exact this
 obtain ⟨e1,e2,e3,e4,e5⟩:=S.F6 i;have z:¬ lG tF (S.C.F (aX S.C i) (bJ S.C i)).log (S.dM.getD (aX S.C i) [])=false:=by
  rw [wL RN λ k x y p q=>(h1.ok _ l1).one (lg p) (h2 _ k y l1 q)];decide
 have z2:¬ ((S.C.F (aX S.C i) (bJ S.C i)).log.length<S.len.getD i 0/\S.fell.getD i true=false):=λ q=>by have:=h.le i hi q.2;omega
 have eq:S.dX i=({ S.dw i with len:=S.len.set i (S.C.F (aX S.C i) (bJ S.C i)).log.length,fell:=S.fell.set i false },true):=by unfold Sit.dX;rw [if_neg z,if_neg z2]
 refine ⟨by rw [eq],⟨q1,?_,⟨Γ,by rw [q2];exact h1,λ g k c hg hk=>?_⟩,λ j hj hf=>?_⟩,q2⟩
 ·rw [eq];exact (S.UC i).2.trans h.bad
 ·rw [q2] at hg |-
  have hk:((S.dw i).dM.getD g [])[k]? = some c:=by rw [eq] at hk;exact hk
  unfold Sit.dw at hk;split at hk
  ·have hk:((S.dM.set (aX S.C i) (S.C.F (aX S.C i) (bJ S.C i)).log).getD g [])[k]? = some c:=hk
   by_cases e:aX S.C i=g
   ·subst e
    rw [List.getD_eq_getElem?_getD,List.getElem?_set_self (by rw [h.fine.be];exact l1)] at hk;exact lg hk
   ·rw [List.getD_eq_getElem?_getD,List.getElem?_set_ne e,<- List.getD_eq_getElem?_getD] at hk
    exact h2 g k c hg hk
  ·exact h2 g k c hg hk
 ·rw [q2] at hj |-
  have hf:(S.fell.set i false).getD j true=false:=by rw [eq] at hf;exact hf
  show (S.dX i).1.len.getD j 0<=_;rw [eq];show (S.len.set i _).getD j 0<=_;by_cases e:i=j
  ·subst e
   rw [List.getD_eq_getElem?_getD,List.getElem?_set_self (by rw [h.fine.le];exact hi)];exact Nat.le_refl _
  ·rw [List.getD_eq_getElem?_getD,List.getElem?_set_ne e,<- List.getD_eq_getElem?_getD] at hf |-
   exact h.le j hj hf
theorem cu.eY (h:cu A S):∀ i,i<=S.C.n*S.C.sz->(S.eY i).2=true/\cu A (S.eY i).1/\(S.eY i).1.C=S.C
 | 0,_=>⟨rfl,h,rfl⟩
 | i+1,hi=>by
  have ih:=cu.eY h i (by omega);unfold Sit.eY;generalize S.eY i=p at ih;obtain ⟨T,b⟩:=p;obtain ⟨rfl,h1,h2⟩:=ih;have h2:T.C=S.C:=h2;obtain ⟨a1,a2,a3⟩:=cu.dX h1 (i:=i) (by show i<T.C.n*T.C.sz;rw [h2];omega);exact ⟨a1,a2,a3.trans h2⟩
theorem cu.look (h:cu A S):S.look.2=true/\cu A S.look.1/\S.look.1.C=S.C:=h.eY _ (Nat.le_refl _)
end
section
variable {A:aT} (HA:bK A) (HN:gL A) (HL:rR A) (HP:rU A) {S:Sit}
include HA HN HP
theorem cu.dZ (h:cu A S) (k:Int):cu A { S with C:=S.C.dZ A k }:=by
 refine h.eT (h.fine.cl.dZ HA HN k) (aN.kP _ _ _).1 (aN.kP _ _ _).2 (aN.F7 h.fine.cl.len _) (λ Γ hc=>?_) ?_
 ·unfold aN.dZ
  split
  ·exact (hc.iC HA HN HP h.fine.cl _).1
  ·exact ⟨Γ,.refl _,hc⟩
 ·obtain ⟨Γ,hc,_⟩:=h.gh
  unfold aN.dZ;split
  ·exact (hc.iC HA HN HP h.fine.cl _).2
  ·exact .refl _
theorem cu.tick (h:cu A S) (g i:Nat):cu A { S with C:=S.C.tick A g i }:=by
 obtain ⟨Γ,hc,_⟩:=h.gh;exact h.eT (h.fine.cl.tick HA HN g i) (aN.oD _ _ _ _).1 (aN.oD _ _ _ _).2 (aN.Km h.fine.cl.len _ _) (λ Γ hc=>(hc.tick HA HN HP h.fine.cl g i).1) (hc.tick HA HN HP h.fine.cl g i).2
theorem cu.all:∀ (n:Nat) {S:Sit},cu A S->cu A (S.all A n)
 | 0,_,h=>h
 | n+1,S,h=>by
  unfold Sit.all;split
  ·have h1:=cu.dZ HA HN HP h (S.next:Int)
   exact cu.all n (S:=S.one A) (h1.asks (l:=S.asks) (k:=S.next+1) h1.fine.ak)
  ·exact h
omit HA HN HP in
theorem cu.send (h:cu A S) {g i:Nat} (hg:g<S.C.n) (hi:i<S.C.sz) (d:ByteArray):cu A { S with C:=S.C.send g i d }:=by
 have h4:=h.fine.cl.n;have h5:=h.fine.cl.sz;refine h.eT (h.fine.cl.send (g:=g) (i:=i) (by omega) (by omega) d) (S.C.sS g i _).1 (S.C.sS g i _).2 (S.C.Kn g i _) (λ Γ hc=>⟨Γ,.refl _,hc.send g i d⟩) λ g' i' _ _=>?_
 unfold aN.send;split <;> exact Nat.le_refl _
omit HA HN HP in
theorem cu.dz (HA:bK A) (HN:gL A) (h:cu A S) (a:Int):cu A { S with C:=S.C.dz A (aX S.C a) (bJ S.C a),fell:=S.fell.set (bf a (S.C.n*S.C.sz)) true }:=by
 obtain ⟨Γ,h1,h2⟩:=h.gh;obtain ⟨n1,n2⟩:=aN.xP A S.C (aX S.C a) (bJ S.C a);have f:=h.fine.eT (h.fine.cl.dz HA HN (aX S.C a) (bJ S.C a)) n1 n2 (Nat.le_of_eq (congrArg List.length (aN.M5 (A:=A) S.C (aX S.C a) (bJ S.C a)).symm));refine ⟨⟨f.cl,f.n,f.sz,f.be,f.le,by show (S.fell.set _ _).length=_;rw [List.length_set];exact f.fe,f.ak⟩,h.bad,⟨Γ,h1.dz _ _,λ g k c hg hk=>?_⟩,λ j hj hf=>?_⟩
 ·show (Γ g).D (S.C.dz A (aX S.C a) (bJ S.C a)).sz k c
  rw [n2];have hg:g<(S.C.dz A (aX S.C a) (bJ S.C a)).n:=hg;rw [n1] at hg;exact h2 g k c hg hk
 ·have hj:j<(S.C.dz A (aX S.C a) (bJ S.C a)).n*(S.C.dz A (aX S.C a) (bJ S.C a)).sz:=hj
  rw [n1,n2] at hj;have hf:(S.fell.set (bf a (S.C.n*S.C.sz)) true).getD j true=false:=hf;by_cases e:bf a (S.C.n*S.C.sz)=j
  ·subst e
   rw [List.getD_eq_getElem?_getD,List.getElem?_set_self (by rw [h.fine.fe];exact hj)] at hf;cases hf
  ·rw [List.getD_eq_getElem?_getD,List.getElem?_set_ne e,<- List.getD_eq_getElem?_getD] at hf
   obtain ⟨e1,e2⟩:=RJ (C:=S.C) (C':=S.C.dz A (aX S.C a) (bJ S.C a)) n1 n2 (j:Int);obtain ⟨e3,e4⟩:=adN hj;show _<=((S.C.dz A (aX S.C a) (bJ S.C a)).F (aX (S.C.dz A (aX S.C a) (bJ S.C a)) j) (bJ (S.C.dz A (aX S.C a) (bJ S.C a)) j)).log.length;rw [e1,e2];have ne:¬ (aX S.C j=aX S.C a/\bJ S.C j=bJ S.C a):=λ q=>by
    rw [e3,e4] at q;unfold aX bJ at q;have:=Nat.div_add_mod (bf a (S.C.n*S.C.sz)) S.C.sz;rw [<- q.1,<- q.2,Nat.div_add_mod] at this;exact e this.symm
   unfold aN.dz;split
   ·show _<=(fE S.C.F (aX S.C a) (bJ S.C a) (mStart A (S.C.F (aX S.C a) (bJ S.C a))) (aX S.C j) (bJ S.C j)).log.length
    rw [bz _ _ ne];exact h.le j hj hf
   ·exact h.le j hj hf
include HL
theorem cu.do (h:cu A S) {t:Stp} (ht:t.wf A):(S.do A t).2=true/\cu A (S.do A t).1:=by
 have f:=Sit.aJ.do HA HN HL h.fine ht;have nb:(!S.bad)=true:=by rw [h.bad];rfl
 obtain ⟨l1,l2⟩:=mQ (C:=S.C) (k:=t.a) h.fine.n h.fine.sz;have key:∀ k,((S.tX A t k).1.aJ A)->(S.tX A t k).2=true/\cu A (S.tX A t k).1:=λ k=>by
  unfold Sit.tX;split
  ·intro f
   refine ⟨nb,?_⟩;have f:(if S.C.q.length<20000 then S.sends A (cZ t.q) (aX S.C t.a) (bJ S.C t.a) else S).aJ A:=f;show cu A (if S.C.q.length<20000 then S.sends A (cZ t.q) (aX S.C t.a) (bJ S.C t.a) else S);split
   ·rename_i c
    rw [if_pos c] at f;exact (h.send l1 l2 (A.enc (nI (cZ t.q)))).asks (l:=S.asks++[⟨cZ t.q,aX S.C t.a,S.C.q.length⟩]) (k:=S.next) f.ak
   ·exact h
  ·intro f
   refine ⟨nb,?_⟩;have f:(S.vE A t).aJ A:=f;show cu A (S.vE A t);have s1:=h.send l1 l2 t.d;unfold Sit.vE at f |-;split
   ·rename_i m hm
    rw [hm] at f;split
    ·rename_i c
     have f:(if m.kind=1/\¬ t.d.size > 1000/\S.C.q.length<20000 then S.doA A t m else { S with C:=S.C.send (aX S.C t.a) (bJ S.C t.a) t.d }).aJ A:=f;rw [if_pos c] at f;exact s1.asks (l:=S.asks++[⟨m.q,aX S.C t.a,S.C.q.length⟩]) (k:=S.next) f.ak
    ·exact s1
   ·exact s1
  ·intro f
   split
   ·exact ⟨rfl,cu.dZ HA HN HP h _⟩
   ·exact ⟨nb,h⟩
  ·intro f
   split
   ·exact ⟨rfl,cu.dZ HA HN HP h _⟩
   ·exact ⟨nb,h⟩
  ·intro f
   exact ⟨rfl,cu.tick HA HN HP h _ _⟩
  ·intro f
   obtain ⟨a1,a2,a3⟩:=h.look;refine ⟨a1,?_⟩;show cu A (S.M4 A t);unfold Sit.M4;have:=a2.dz HA HN t.a;rw [a3] at this |-;exact this
  ·intro f
   exact ⟨rfl,cu.all HA HN HP _ h⟩
 exact key _ f
omit HL HP in
theorem cu.new {n sz:Nat} (hn:0<n/\n<=4) (hN:n=A.N) (hz:0<sz/\sz<=5):cu A (Sit.new A n sz):=by
 refine ⟨Sit.aJ.new HA HN hn hN hz,rfl,⟨_,kg.new n sz,λ g k c hg hk=>?_⟩,λ i hi hf=>?_⟩
 ·have hk:((List.replicate n []).getD g [])[k]? = some c:=hk
  rw [List.getD_eq_getElem?_getD,List.getElem?_replicate] at hk;split at hk <;> simp at hk
 ·show (List.replicate (n*sz) 0).getD i 0<=_
  rw [List.getD_eq_getElem?_getD,List.getElem?_replicate];split <;> simp
end
section
variable {A L:aT} (HA:bK A) (HN:gL A) (HL:rR A) (HP:rU A) (HA1:bK L) (RO:gL L) (RP:rR L) (HV:Fb L) (hL:L.N=1) {W:World}
include HA HN HL HP HA1 RO RP HV hL
theorem UM {g f:Int} (hg:wH g) (hf:wH f) (hNA:1+bf g 4=A.N) {l:List Stp} {v:Value} (hl:FzZ W 11 v l.length (l.map Stp.cells).flatten) (hn:l.length<=9223372036854775807) (hwf:∀ t∈l,t.wf A):gq Tryz.prog 27 #[.int .i64 g,.int .i64 f,v] W (λ x w'=>∃ bs S,x=.tuple #[Ptt bs,.bool true]/\di (fu W) bs S w'/\cu A S):=by
 obtain ⟨va,vc,rfl,Ze,hvl,hvd⟩:=hl;refine EE ah Tryz.func27 rfl rfl ?_;refine aK.piece (Q:=λ q w'=>q=[(0,.int .i64 g),(1,.int .i64 f),(2,.slice va l.length vc)]/\w'=W) (aK.of ah mixed ⟨_,by exact ⟨rfl,rfl,rfl,trivial⟩,rfl,rfl⟩) ?_;rintro q W ⟨rfl,rfl⟩;refine aK.piece (Q:=λ q w1=>∃ bs,q=[(2,.slice va l.length vc),(8,Ptt bs),(9,.bool true)]/\di (fu W) bs (Sit.new A (1+bf g 4) (1+2*bf f 3)) w1) (aK.of ah mixed ?_) ?_
 ·refine ⟨_,UG HA1 RO RP HV HA hL W g f hg hf,?_⟩
  rintro _ w1 ⟨bs,rfl,h1,k1⟩;exact ⟨_,by exact ⟨rfl,rfl,rfl,trivial⟩,bs,rfl,h1⟩
 rintro q w1 ⟨bs,rfl,h1⟩;have lf:=jh f (show 0<3 by decide);have lg:=jh g (show 0<4 by decide);have F0:cu A (Sit.new A (1+bf g 4) (1+2*bf f 3)):=cu.new HA HN ⟨by omega,by omega⟩ hNA ⟨by omega,by omega⟩;generalize Sit.new A (1+bf g 4) (1+2*bf f 3)=S0 at *;refine aK.piece (Q:=λ q w4=>q=[(8,Ptt bs),(9,.bool true)]/\∃ S,di (fu W) bs S w4/\cu A S) ?_ ?_;rotate_left
 ·rintro q w4 ⟨rfl,S,h4,i4⟩
  refine aK.of ah mixed ?_;exact ⟨bs,S,rfl,h4,i4⟩
 refine aK.piece (Q:=λ q w'=>q=[(2,.slice va l.length vc),(8,Ptt bs),(9,.bool true),(10,.int .i64 0)]/\w'=w1) (aK.of ah mixed ⟨_,by exact ⟨rfl,rfl,rfl,rfl,trivial⟩,rfl,rfl⟩) ?_;rintro q w1 ⟨rfl,rfl⟩;refine aK.block ?_;refine aK.loop (λ m s wk=>∃ (i:Nat) (S:Sit),m=l.length - i/\i<=l.length/\s=[(2,.slice va l.length vc),(8,Ptt bs),(9,.bool true),(10,.int .i64 i)]/\cu A S/\di (fu W) bs S wk) ⟨_,_,⟨0,S0,rfl,Nat.zero_le _,rfl,F0,h1⟩,rfl,rfl,rfl,rfl,trivial⟩ ?_;clear h1 F0;rintro m s wk ⟨i,S,rfl,hi,rfl,hS,hK⟩;refine aK.cut (Qn:=λ q w'=>i<l.length/\q=[(2,.slice va l.length vc),(8,Ptt bs),(10,.int .i64 i)]/\w'=wk) (Qx:=λ j q w'=>j=0/\q=[(8,Ptt bs),(9,.bool true)]/\w'=wk) (Qr:=λ _ _=>False) (aK.of ah mixed ?_) ?_ ?_ (λ _ _ _ h _=>h.elim)
 ·refine aj (λ c=>?_) (λ c=>?_)
  ·exact ⟨_,by exact ⟨rfl,rfl,rfl,trivial⟩,by simp at c;omega,rfl,rfl⟩
  ·exact ⟨_,by exact ⟨rfl,rfl,trivial⟩,rfl,rfl,rfl⟩
 rotate_left
 ·rintro j q s w' ⟨rfl,rfl,rfl⟩ hs
  exact ⟨_,hs,rfl,S,hK,hS⟩
 rintro q wk ⟨c1,rfl,rfl⟩;rcases hvd with h0 | ⟨Bv,Ky,csv,tyv,zv',rfl,hBv,hcv⟩
 ·omega
 obtain ⟨t,ht⟩:∃ t,l[i]? = some t:=⟨l[i],by simp [c1]⟩;have twf:=hwf t (List.mem_of_getElem? ht);have hel:aL csv.toList (Ky+i*11) 11=t.cells:=(Fz.elem hcv c1).trans (XO ht);refine aK.piece (Q:=λ q w'=>q=[(2,.slice (some ⟨Bv,Ky,none⟩) l.length vc),(8,Ptt bs),(9,.bool true),(10,.int .i64 i)]/\∃ S,cu A S/\di (fu W) bs S w') ?_ ?_;rotate_left
 ·rintro q w' ⟨rfl,S',f1,h'⟩
  refine aK.of ah mixed ?_;exact ⟨⟨by omega,by omega⟩,_,_,⟨i+1,S',rfl,by omega,rfl,f1,h'⟩,⟨rfl,rfl,rfl,rfl,trivial⟩,by omega⟩
 refine aK.block ?_;refine aK.piece (Q:=λ q w'=>q=[(2,.slice (some ⟨Bv,Ky,none⟩) l.length vc),(8,Ptt bs),(9,.bool true),(10,.int .i64 i)]/\∃ S,cu A S/\di (fu W) bs S w') (aK.of (aeb zv') mixed ?_) ?_
 ·have hd:=ad8 HA HN HL hK hS.fine twf
  obtain ⟨d1,d2⟩:=cu.do HA HN HL HP hS twf;rw [d1] at hd;refine ⟨⟨by omega,by omega⟩,_,_,hK.snap.get hBv nofun,t.cells,by show aL csv.toList (Ky+(i:Int).toNat*11) 11=_;rw [Int.toNat_natCast];exact hel,rfl,_,hd,?_⟩;rintro _ w' ⟨rfl,h',k'⟩;exact ⟨_,by exact ⟨rfl,rfl,rfl,rfl,trivial⟩,rfl,_,d2,h'⟩
 rintro q w5 ⟨rfl,S1,i1,h5⟩;obtain ⟨b1,b2,b3⟩:=i1.look;have hlk:=Rh HN h5 i1.fine;rw [b1] at hlk;refine aK.piece (Q:=λ q w'=>∃ r,q=[(2,.slice (some ⟨Bv,Ky,none⟩) l.length vc),(8,Ptt bs),(9,.bool true),(10,.int .i64 i),(44,.bool r)]/\w'=w5) (aK.of ah mixed ?_) ?_
 ·refine ⟨by decide,?_⟩
  refine aj (λ c=>?_) (λ c=>?_)
  ·exact ⟨⟨by omega,by omega⟩,_,by exact ⟨rfl,rfl,rfl,rfl,rfl,trivial⟩,_,rfl,rfl⟩
  ·exact ⟨_,by exact ⟨rfl,rfl,rfl,rfl,rfl,trivial⟩,_,rfl,rfl⟩
 rintro q w5 ⟨r,rfl,rfl⟩;refine aK.cond r rfl ?_;cases r
 ·refine aK.of ah mixed ?_
  exact ⟨_,by exact ⟨rfl,rfl,rfl,rfl,trivial⟩,rfl,S1,i1,h5⟩
 ·refine aK.of ah mixed ?_
  refine ⟨_,hlk.x,?_⟩;rintro _ w6 ⟨rfl,h6,_⟩;exact ⟨_,by exact ⟨rfl,rfl,rfl,rfl,trivial⟩,rfl,_,b2,h6⟩
end
end
end Go.Proofs.YtignemioillaiaaGreat
