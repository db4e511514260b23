/- One log a group, in a cluster. -/
import Derived.Test.YtignemioillaiabGreatG51
namespace Go.Proofs.YtignemioillaiabGreat
set_option maxHeartbeats 8000000
set_option maxRecDepth 100000
section
open Go Go.Conc
structure WR (Γ:Gh) (R:MR):Prop where
 b:R.sc.wb=R.sc.b
 vv:∀ {b s},Γ.V R.sc.i b s->∃ v,R.fu s=some v/\b.E v.b
 own:R.sc.b.id=R.sc.i->∀ {s c},Γ.P R.sc.b s=some c->∃ v,R.fu s=some v/\v.b=R.sc.b
structure j6 (A:aT) (C:aL) (Γ:Nat->Gh):Prop where
 ok:∀ g,g<C.n->(Γ g).Ok C.sz
 rv:∀ g i,g<C.n->i<C.sz->RV A 0 (Γ g) (C.F g i)/\WR (Γ g) (C.F g i)
 net:∀ p∈C.q,p.fg=255\/∃ g j,g<C.n/\j<C.sz/\p.fg=g/\p.fr=j/\PF A C.sz (Γ g) g j p
def Gr (Γ Γ':Nat->Gh):Prop:=∀ g,Ext (Γ g) (Γ' g)
theorem Gr.refl (Γ:Nat->Gh):Gr Γ Γ:=λ _=>.refl _
section
variable {A:aT} {N:Nat} {Γ:Gh} {R:MR}
theorem Dp (f:Nat->Option MV) (s:Nat):orM f (λ _=>none) s=f s:=by unfold orM;cases f s <;> rfl
theorem RV.low (h:RV A N Γ R) {M:Nat} (hm:M<=R.log.length):RV A M Γ R:=⟨h.fw,h.sn,h.kP,h.one,h.vt,h.wt,h.vv,h.own,h.pQ,h.r0,h.eu,h.lead,h.pp,h.ac,h.lg,h.kn,h.st,h.ou,hm⟩
theorem RV.start (h:RV A N Γ R) (k:WR Γ R):RV A 0 Γ (mStart A R)/\WR Γ (mStart A R) :=
 ⟨⟨h.fw.trans k.b.symm,Nat.le_refl _,by show R.sc.wb.id<256;rw [k.b];exact h.kP,λ e=>k.b.trans (h.one e),λ {s v} e=>h.wt ((Dp R.fu s).symm.trans e),h.wt,λ {b s} v=>by
  show ∃ v,orM R.fu (λ _=>none) s=some v/\_;rw [Dp];exact k.vv v,λ hi s c hp=>by
  show ∃ v,orM R.fu (λ _=>none) s=some v/\v.b=R.sc.wb;have hi:R.sc.wb.id=R.sc.i:=hi;have hp:Γ.P R.sc.wb s=some c:=hp;rw [k.b] at hi hp |-;rw [Dp];exact k.own hi hp,λ r=>(r rfl).elim,λ _=>⟨rfl,λ _=>rfl⟩,λ r=>absurd (show (0:Nat)=1 from r) (by decide),λ r=>absurd (show (0:Nat)=2 from r) (by decide),nofun,nofun,λ e=>absurd e (by simp [mStart]),nofun,rfl,h.ou,Nat.zero_le _⟩,⟨rfl,k.vv,λ hi s c hp=>by
  have hi:R.sc.wb.id=R.sc.i:=hi;have hp:Γ.P R.sc.wb s=some c:=hp;show ∃ v,R.fu s=some v/\v.b=R.sc.wb;rw [k.b] at hi hp |-;exact k.own hi hp⟩⟩
theorem RV.done (h:RV A N Γ R):RV A N Γ (uf R)/\WR Γ (uf R):=by
 have om:∀ {s v},R.cz s=some v->orM R.cz R.fu s=some v:=λ e=>by unfold orM;rw [e];rfl
 refine ⟨⟨h.fw,h.sn,h.kP,h.one,h.vt,λ {s v} e=>?_,h.vv,h.own,h.pQ,h.r0,λ r=>⟨(h.eu r).1,(h.eu r).2,(h.eu r).3⟩,λ r=>⟨(h.lead r).1,(h.lead r).2⟩,h.pp,h.ac,h.lg,h.kn,h.st,nofun,h.ll⟩,rfl,λ v=>?_,λ hi s c hp=>?_⟩
 ·have e:orM R.cz R.fu s=some v:=e
  unfold orM at e;cases q:R.cz s with
  | none=>rw [q] at e;exact h.wt e
  | some x=>rw [q] at e;cases e;exact h.vt q
 ·obtain ⟨x,a,b⟩:=h.vv v
  exact ⟨x,om a,b⟩
 ·obtain ⟨x,a,b⟩:=h.own hi hp
  exact ⟨x,om a,b⟩
theorem WR.other {Γ':Gh} {i:Nat} (h:WR Γ R) (e:wC i Γ Γ') (ne:R.sc.i≠i):WR Γ' R:=⟨h.b,λ v=>h.vv (e.V' ne v),λ hi _s _c hp=>h.own hi ((e.P' (λ q=>ne (hi.symm.trans q))).symm.trans hp)⟩
end
section
variable {A:aT} {C:aL} {Γ:Nat->Gh}
theorem j6.done (h:j6 A C Γ) (fi:C.aK A) {g i:Nat} (hg:g<C.n) (hi:i<C.sz) {R':MR} (hx:Nx A (C.F g i) R') (ht:To A (C.F g i).log.length (Γ g) (C.F g i) R'):∃ Γ',Gr Γ Γ'/\j6 A (C.done g i R') Γ'/\(C.F g i).log.length<=R'.log.length:=by
 obtain ⟨G,e,o,r⟩:=ht;obtain ⟨a1,a2,a3,a4⟩:=fi.at_ g i hg hi;obtain ⟨i1,i2,i3,i4⟩:=hx.id;rw [a2] at e;rw [a4] at o;have hs:∀ g',Ext (Γ g') (if g'=g then G else Γ g'):=λ g'=>by
  split
  ·rename_i q;subst q;exact e.toExt
  ·exact .refl _
 refine ⟨λ g'=>if g'=g then G else Γ g',hs,⟨λ g' hg'=>?_,λ g' i' hg' hi'=>?_,λ p hp=>?_⟩,r.ll⟩
 ·show Gh.Ok C.sz (if _ then _ else _)
  split
  ·exact o
  ·exact h.ok g' hg'
 ·show RV A 0 (if g'=g then G else Γ g') (fB C.F g i (uf R') g' i')/\WR (if g'=g then G else Γ g') (fB C.F g i (uf R') g' i')
  by_cases q:g'=g
  ·subst q
   rw [if_pos rfl];by_cases q':i'=i
   ·subst q'
    rw [bL];exact ⟨r.done.1.low (Nat.zero_le _),r.done.2⟩
   ·rw [bz _ _ λ q=>q' q.2]
    have ne:(C.F g' i').sc.i≠i:=by rw [(fi.at_ g' i' hg' hi').2.1];exact q'
    exact ⟨(h.rv g' i' hg' hi').1.other e ne,(h.rv g' i' hg' hi').2.other e ne⟩
  ·rw [if_neg q,bz _ _ λ x=>q x.1]
   exact h.rv g' i' hg' hi'
 ·rcases List.mem_append.1 (List.mem_of_mem_take hp) with q | q
  ·rcases h.net p q with q | ⟨g',j,b1,b2,b3,b4,b5⟩
   ·exact .inl q
   ·exact .inr ⟨g',j,b1,b2,b3,b4,b5.ext (hs g')⟩
  ·refine .inr ⟨g,i,hg,hi,?_⟩
   have pf:=r.ou p q;rw [i1,i2,i4,a1,a2,a4] at pf;rcases hx.ou p q with q | q
   ·rw [fi.out g i hg hi] at q;cases q
   ·rw [a1,a2,a3] at q
    refine ⟨q.1,q.2.1,?_⟩;show PF A C.sz (if g=g then G else Γ g) g i p;rw [if_pos rfl];exact pf
def yV (C C':aL):Prop:=∀ g i,g<C.n->i<C.sz->(C.F g i).log.length<=(C'.F g i).log.length
theorem yV.refl (C:aL):yV C C:=λ _ _ _ _=>Nat.le_refl _
theorem yV.done {g i:Nat} {R':MR} (h:(C.F g i).log.length<=R'.log.length):yV C (C.done g i R'):=λ g' i' _ _=>by
 show _<=(fB C.F g i (uf R') g' i').log.length;by_cases q:g'=g/\i'=i
 ·obtain ⟨rfl,rfl⟩:=q;rw [bL];exact h
 ·rw [bz _ _ q];exact Nat.le_refl _
variable (HA:bK A) (HN:gJ A) (HP:rQ A)
include HA HN HP
theorem j6.tick (h:j6 A C Γ) (fi:C.aK A) (g i:Nat):(∃ Γ',Gr Γ Γ'/\j6 A (C.tick A g i) Γ')/\yV C (C.tick A g i):=by
 unfold aL.tick;split
 ·rename_i c
  have o:=fi.ok _ _ c.1 c.2;have a:=fi.at_ g i c.1 c.2;obtain ⟨Γ',h1,h2,h3⟩:=h.done fi c.1 c.2 (Nx.tick HA HN o ((fi.sd g i c.1 c.2).2.trans (congrArg Int.ofNat a.1).symm)) (RV.tick HA HP (by rw [a.2.2.2];exact h.ok g c.1) ((h.rv g i c.1 c.2).1.low (Nat.le_refl _)) o);exact ⟨⟨Γ',h1,h2⟩,.done h3⟩
 ·exact ⟨⟨Γ,.refl _,h⟩,.refl _⟩
theorem j6.fV (h:j6 A C Γ) (fi:C.aK A) (k:Nat):(∃ Γ',Gr Γ Γ'/\j6 A (C.fV A k) Γ')/\yV C (C.fV A k):=by
 unfold aL.fV;split
 ·exact ⟨⟨Γ,.refl _,h⟩,.refl _⟩
 ·rename_i p hp
  have hq:=List.mem_of_getElem? hp;have hm:=fi.net p hq;split
  ·rename_i c
   have o:=fi.ok _ _ c.1 c.2;have a:=fi.at_ _ _ c.1 c.2;have gm:=hm.gm HN fi.sz o (fi.sd _ _ c.1 c.2).1;obtain ⟨Γ',h1,h2,h3⟩:=h.done fi c.1 c.2 (Nx.take HA HN o (hm.f8 fi.n fi.sz).1 gm) (RV.take HA HP (f:=(p.fg.toNat,p.fr.toNat)) (d:=p.d) (by rw [a.2.2.2];exact h.ok _ c.1) ((h.rv _ _ c.1 c.2).1.low (Nat.le_refl _)) o gm λ m hd nq k3 k8=>by
    rcases h.net p hq with q | ⟨g',j,b1,b2,b3,b4,b5⟩
    ·exact (nq ⟨by show p.fg.toNat=255;rw [q];rfl,by omega⟩).elim
    ·obtain ⟨m1,m2⟩:=b5 m hd
     obtain ⟨m2,m3,m4⟩:=m2 k3 k8;have e1:p.tg.toNat=g':=by omega
     have e2:p.fr.toNat=j:=by omega
     rw [a.1,a.2.2.2];refine ⟨by show p.fg.toNat=p.tg.toNat;omega,by show p.fr.toNat<C.sz;omega,m3,m4,?_⟩;rw [e1];show MF C.sz (Γ g') p.fr.toNat m;rw [e2];exact m1)
   exact ⟨⟨Γ',h1,h2⟩,.done h3⟩
  ·exact ⟨⟨Γ,.refl _,h⟩,.refl _⟩
omit HA HN HP in
theorem j6.di (h:j6 A C Γ) (g i:Nat):j6 A (C.di A g i) Γ:=by
 unfold aL.di;split
 ·rename_i c
  refine ⟨h.ok,λ g' i' hg' hi'=>?_,h.net⟩;show RV A 0 (Γ g') (fB C.F g i (mStart A (C.F g i)) g' i')/\WR (Γ g') (fB C.F g i (mStart A (C.F g i)) g' i');by_cases q:g'=g/\i'=i
  ·obtain ⟨rfl,rfl⟩:=q
   rw [bL];exact (h.rv _ _ c.1 c.2).1.start (h.rv _ _ c.1 c.2).2
  ·rw [bz _ _ q];exact h.rv g' i' hg' hi'
 ·exact h
omit HA HN HP in
theorem j6.send (h:j6 A C Γ) (g i:Nat) (d:ByteArray):j6 A (C.send g i d) Γ:=by
 unfold aL.send;split
 ·refine ⟨h.ok,h.rv,λ p hp=>?_⟩
  have hp:p∈kC C.q ⟨255,255,g,i,d⟩:=hp;unfold kC at hp;split at hp
  ·rcases List.mem_append.1 hp with q | q
   ·exact h.net p q
   ·rw [List.mem_singleton] at q;subst q;exact .inl rfl
  ·exact h.net p hp
 ·exact h
omit HA HN HP in
theorem j6.new (n sz:Nat):j6 A (aL.new A n sz) (λ _=>⟨λ _ _=>none,λ _ _ _=>False,λ _=>⟨0,0⟩⟩) :=
 ⟨λ _ _=>⟨nofun,nofun,nofun⟩,λ g i _ _=>⟨⟨rfl,Nat.le_refl _,Nat.zero_lt_succ _,λ _=>rfl,nofun,nofun,nofun,λ _ _ _=>nofun,λ r=>(r rfl).elim,λ _=>⟨rfl,λ _=>rfl⟩,λ r=>absurd (show (0:Nat)=1 from r) (by decide),λ r=>absurd (show (0:Nat)=2 from r) (by decide),nofun,nofun,λ e=>absurd e (by simp [aL.new,CZ,mStart]),nofun,rfl,nofun,Nat.zero_le _⟩,rfl,nofun,λ _ _ _=>nofun⟩,nofun⟩
end
structure bT (A:aT) (S:Sit):Prop where
 fine:S.aK A
 bad:S.bad=false
 gh:∃ Γ,j6 A S.C Γ/\∀ g k c,g<S.C.n->(S.dM.getD g [])[k]? = some c->(Γ g).D S.C.sz k c
 le:∀ i,i<S.C.n*S.C.sz->S.fell.getD i true=false->S.len.getD i 0<=(S.C.F (aZ S.C i) (bH S.C i)).log.length
theorem Rp {C C':aL} (hn:C'.n=C.n) (hz:C'.sz=C.sz) (k:Int):aZ C' k=aZ C k/\bH C' k=bH C k:=by unfold aZ bH;rw [hn,hz];exact ⟨rfl,rfl⟩
theorem adN {C:aL} {i:Nat} (h:i<C.n*C.sz):aZ C i=i / C.sz/\bH C i=i%C.sz:=by
 have:bf (i:Int) (C.n*C.sz)=i:=by
  unfold bf;rw [if_neg (by omega),Int.toNat_natCast];exact Nat.mod_eq_of_lt h
 unfold aZ bH;rw [this];exact ⟨rfl,rfl⟩
theorem wF {α:Type} {f:α->α->Bool} (hf:∀ x,f x x=true):∀ {l m:List α},(∀ (k:Nat) (x y:α),l[k]? = some x->m[k]? = some y->x=y)->lu f l m=true
 | [],_,_=>by cases ‹List α› <;> rfl
 | _::_,[],_=>rfl
 | x::l,y::m,h=>by
  have e:=h 0 x y rfl rfl;subst e;show (f x x && lu f l m)=true;rw [hf x,wF hf λ k a b p q=>h (k+1) a b p q];rfl
theorem Rq (c:MC):sZ c c=true:=by simp [sZ,G9,qi]
section
variable {A:aT} {S:Sit}
theorem bT.eH (h:bT A S) {C:aL} (hC:C.aK A) (hn:C.n=S.C.n) (hz:C.sz=S.C.sz) (hq:S.C.q.length<=C.q.length) (hg:∀ Γ,j6 A S.C Γ->∃ Γ',Gr Γ Γ'/\j6 A C Γ') (hl:yV S.C C):bT A { S with C:=C }:=by
 obtain ⟨Γ,h1,h2⟩:=h.gh;obtain ⟨Γ',h3,h4⟩:=hg Γ h1;refine ⟨h.fine.eH hC hn hz hq,h.bad,⟨Γ',h4,λ g k c hg hk=>?_⟩,λ i hi hf=>?_⟩
 ·have hg:g<C.n:=hg
  show (Γ' g).D C.sz k c;rw [hn] at hg;rw [hz];exact (h2 g k c hg hk).ext (h3 g)
 ·have hi:i<C.n*C.sz:=hi
  rw [hn,hz] at hi;obtain ⟨e1,e2⟩:=Rp (C:=S.C) (C':=C) hn hz (i:Int);show _<=(C.F (aZ C i) (bH C i)).log.length;rw [e1,e2];obtain ⟨l1,l2⟩:=mG (C:=S.C) (k:=(i:Int)) h.fine.n h.fine.sz;exact Nat.le_trans (h.le i hi hf) (hl _ _ l1 l2)
theorem bT.asks (h:bT A S) {l:List Ask} {k:Nat} (hl:l.length<=S.C.q.length):bT A { S with asks:=l,next:=k }:=⟨⟨h.fine.cl,h.fine.n,h.fine.sz,h.fine.be,h.fine.le,h.fine.fe,hl⟩,h.bad,h.gh,h.le⟩
theorem bT.dW (h:bT A S) {i:Nat} (hi:i<S.C.n*S.C.sz):(S.dW i).2=true/\bT A (S.dW i).1/\(S.dW i).1.C=S.C:=by
 obtain ⟨q1,q2⟩:=h.fine.dW i;obtain ⟨Γ,h1,h2⟩:=h.gh;obtain ⟨l1,l2⟩:=mG (C:=S.C) (k:=(i:Int)) h.fine.n h.fine.sz;have rv:=(h1.rv _ _ l1 l2).1;have sz:=(h.fine.cl.at_ _ _ l1 l2).2.2.2;have lg:∀ {k c},(S.C.F (aZ S.C i) (bH S.C i)).log[k]? = some c->(Γ (aZ S.C i)).D S.C.sz k c:=λ e=>by have:=rv.lg e;rw [sz] at this;exact this
 obtain ⟨e1,e2,e3,e4,e5⟩:=S.FT i;have z:¬ lu sZ (S.C.F (aZ S.C i) (bH S.C i)).log (S.dM.getD (aZ S.C i) [])=false:=by
  rw [wF Rq λ k x y p q=>(h1.ok _ l1).one (lg p) (h2 _ k y l1 q)];decide
 have z2:¬ ((S.C.F (aZ S.C i) (bH S.C i)).log.length<S.len.getD i 0/\S.fell.getD i true=false):=λ q=>by have:=h.le i hi q.2;omega
 have eq:S.dW i=({ S.dh i with len:=S.len.set i (S.C.F (aZ S.C i) (bH S.C i)).log.length,fell:=S.fell.set i false },true):=by unfold Sit.dW;rw [if_neg z,if_neg z2]
 refine ⟨by rw [eq],⟨q1,?_,⟨Γ,by rw [q2];exact h1,λ g k c hg hk=>?_⟩,λ j hj hf=>?_⟩,q2⟩
 ·rw [eq];exact (S.Ul i).2.trans h.bad
 ·rw [q2] at hg |-
  have hk:((S.dh i).dM.getD g [])[k]? = some c:=by rw [eq] at hk;exact hk
  unfold Sit.dh at hk;split at hk
  ·have hk:((S.dM.set (aZ S.C i) (S.C.F (aZ S.C i) (bH S.C i)).log).getD g [])[k]? = some c:=hk
   by_cases e:aZ S.C i=g
   ·subst e
    rw [List.getD_eq_getElem?_getD,List.getElem?_set_self (by rw [h.fine.be];exact l1)] at hk;exact lg hk
   ·rw [List.getD_eq_getElem?_getD,List.getElem?_set_ne e,<- List.getD_eq_getElem?_getD] at hk
    exact h2 g k c hg hk
  ·exact h2 g k c hg hk
 ·rw [q2] at hj |-
  have hf:(S.fell.set i false).getD j true=false:=by rw [eq] at hf;exact hf
  show (S.dW i).1.len.getD j 0<=_;rw [eq];show (S.len.set i _).getD j 0<=_;by_cases e:i=j
  ·subst e
   rw [List.getD_eq_getElem?_getD,List.getElem?_set_self (by rw [h.fine.le];exact hi)];exact Nat.le_refl _
  ·rw [List.getD_eq_getElem?_getD,List.getElem?_set_ne e,<- List.getD_eq_getElem?_getD] at hf |-
   exact h.le j hj hf
theorem bT.eU (h:bT A S):∀ i,i<=S.C.n*S.C.sz->(S.eU i).2=true/\bT A (S.eU i).1/\(S.eU i).1.C=S.C
 | 0,_=>⟨rfl,h,rfl⟩
 | i+1,hi=>by
  have ih:=bT.eU h i (by omega);unfold Sit.eU;generalize S.eU i=p at ih;obtain ⟨T,b⟩:=p;obtain ⟨rfl,h1,h2⟩:=ih;have h2:T.C=S.C:=h2;obtain ⟨a1,a2,a3⟩:=bT.dW h1 (i:=i) (by show i<T.C.n*T.C.sz;rw [h2];omega);exact ⟨a1,a2,a3.trans h2⟩
theorem bT.look (h:bT A S):S.look.2=true/\bT A S.look.1/\S.look.1.C=S.C:=h.eU _ (Nat.le_refl _)
end
section
variable {A:aT} (HA:bK A) (HN:gJ A) (HL:rO A) (HP:rQ A) {S:Sit}
include HA HN HP
theorem bT.dH (h:bT A S) (k:Int):bT A { S with C:=S.C.dH A k }:=by
 refine h.eH (h.fine.cl.dH HA HN k) (aL.jr _ _ _).1 (aL.jr _ _ _).2 (aL.FU h.fine.cl.len _) (λ Γ hc=>?_) ?_
 ·unfold aL.dH
  split
  ·exact (hc.fV HA HN HP h.fine.cl _).1
  ·exact ⟨Γ,.refl _,hc⟩
 ·obtain ⟨Γ,hc,_⟩:=h.gh
  unfold aL.dH;split
  ·exact (hc.fV HA HN HP h.fine.cl _).2
  ·exact .refl _
theorem bT.tick (h:bT A S) (g i:Nat):bT A { S with C:=S.C.tick A g i }:=by
 obtain ⟨Γ,hc,_⟩:=h.gh;exact h.eH (h.fine.cl.tick HA HN g i) (aL.oD _ _ _ _).1 (aL.oD _ _ _ _).2 (aL.Kb h.fine.cl.len _ _) (λ Γ hc=>(hc.tick HA HN HP h.fine.cl g i).1) (hc.tick HA HN HP h.fine.cl g i).2
theorem bT.all:∀ (n:Nat) {S:Sit},bT A S->bT A (S.all A n)
 | 0,_,h=>h
 | n+1,S,h=>by
  unfold Sit.all;split
  ·have h1:=bT.dH HA HN HP h (S.next:Int)
   exact bT.all n (S:=S.one A) (h1.asks (l:=S.asks) (k:=S.next+1) h1.fine.ak)
  ·exact h
omit HA HN HP in
theorem bT.send (h:bT A S) {g i:Nat} (hg:g<S.C.n) (hi:i<S.C.sz) (d:ByteArray):bT A { S with C:=S.C.send g i d }:=by
 have h4:=h.fine.cl.n;have h5:=h.fine.cl.sz;refine h.eH (h.fine.cl.send (g:=g) (i:=i) (by omega) (by omega) d) (S.C.qG g i _).1 (S.C.qG g i _).2 (S.C.Kc g i _) (λ Γ hc=>⟨Γ,.refl _,hc.send g i d⟩) λ g' i' _ _=>?_
 unfold aL.send;split <;> exact Nat.le_refl _
omit HA HN HP in
theorem bT.di (HA:bK A) (HN:gJ A) (h:bT A S) (a:Int):bT A { S with C:=S.C.di A (aZ S.C a) (bH S.C a),fell:=S.fell.set (bf a (S.C.n*S.C.sz)) true }:=by
 obtain ⟨Γ,h1,h2⟩:=h.gh;obtain ⟨n1,n2⟩:=aL.xI A S.C (aZ S.C a) (bH S.C a);have f:=h.fine.eH (h.fine.cl.di HA HN (aZ S.C a) (bH S.C a)) n1 n2 (Nat.le_of_eq (congrArg List.length (aL.MO (A:=A) S.C (aZ S.C a) (bH S.C a)).symm));refine ⟨⟨f.cl,f.n,f.sz,f.be,f.le,by show (S.fell.set _ _).length=_;rw [List.length_set];exact f.fe,f.ak⟩,h.bad,⟨Γ,h1.di _ _,λ g k c hg hk=>?_⟩,λ j hj hf=>?_⟩
 ·show (Γ g).D (S.C.di A (aZ S.C a) (bH S.C a)).sz k c
  rw [n2];have hg:g<(S.C.di A (aZ S.C a) (bH S.C a)).n:=hg;rw [n1] at hg;exact h2 g k c hg hk
 ·have hj:j<(S.C.di A (aZ S.C a) (bH S.C a)).n*(S.C.di A (aZ S.C a) (bH S.C a)).sz:=hj
  rw [n1,n2] at hj;have hf:(S.fell.set (bf a (S.C.n*S.C.sz)) true).getD j true=false:=hf;by_cases e:bf a (S.C.n*S.C.sz)=j
  ·subst e
   rw [List.getD_eq_getElem?_getD,List.getElem?_set_self (by rw [h.fine.fe];exact hj)] at hf;cases hf
  ·rw [List.getD_eq_getElem?_getD,List.getElem?_set_ne e,<- List.getD_eq_getElem?_getD] at hf
   obtain ⟨e1,e2⟩:=Rp (C:=S.C) (C':=S.C.di A (aZ S.C a) (bH S.C a)) n1 n2 (j:Int);obtain ⟨e3,e4⟩:=adN hj;show _<=((S.C.di A (aZ S.C a) (bH S.C a)).F (aZ (S.C.di A (aZ S.C a) (bH S.C a)) j) (bH (S.C.di A (aZ S.C a) (bH S.C a)) j)).log.length;rw [e1,e2];have ne:¬ (aZ S.C j=aZ S.C a/\bH S.C j=bH S.C a):=λ q=>by
    rw [e3,e4] at q;unfold aZ bH at q;have:=Nat.div_add_mod (bf a (S.C.n*S.C.sz)) S.C.sz;rw [<- q.1,<- q.2,Nat.div_add_mod] at this;exact e this.symm
   unfold aL.di;split
   ·show _<=(fB S.C.F (aZ S.C a) (bH S.C a) (mStart A (S.C.F (aZ S.C a) (bH S.C a))) (aZ S.C j) (bH S.C j)).log.length
    rw [bz _ _ ne];exact h.le j hj hf
   ·exact h.le j hj hf
include HL
theorem bT.do (h:bT A S) {t:Stp} (ht:t.wf A):(S.do A t).2=true/\bT A (S.do A t).1:=by
 have f:=Sit.aK.do HA HN HL h.fine ht;have nb:(!S.bad)=true:=by rw [h.bad];rfl
 obtain ⟨l1,l2⟩:=mG (C:=S.C) (k:=t.a) h.fine.n h.fine.sz;have key:∀ k,((S.tQ A t k).1.aK A)->(S.tQ A t k).2=true/\bT A (S.tQ A t k).1:=λ k=>by
  unfold Sit.tQ;split
  ·intro f
   refine ⟨nb,?_⟩;have f:(if S.C.q.length<20000 then S.sends A (cO t.q) (aZ S.C t.a) (bH S.C t.a) else S).aK A:=f;show bT A (if S.C.q.length<20000 then S.sends A (cO t.q) (aZ S.C t.a) (bH S.C t.a) else S);split
   ·rename_i c
    rw [if_pos c] at f;exact (h.send l1 l2 (A.enc (nE (cO t.q)))).asks (l:=S.asks++[⟨cO t.q,aZ S.C t.a,S.C.q.length⟩]) (k:=S.next) f.ak
   ·exact h
  ·intro f
   refine ⟨nb,?_⟩;have f:(S.u7 A t).aK A:=f;show bT A (S.u7 A t);have s1:=h.send l1 l2 t.d;unfold Sit.u7 at f |-;split
   ·rename_i m hm
    rw [hm] at f;split
    ·rename_i c
     have f:(if m.kind=1/\¬ t.d.size > 1000/\S.C.q.length<20000 then S.Z0 A t m else { S with C:=S.C.send (aZ S.C t.a) (bH S.C t.a) t.d }).aK A:=f;rw [if_pos c] at f;exact s1.asks (l:=S.asks++[⟨m.q,aZ S.C t.a,S.C.q.length⟩]) (k:=S.next) f.ak
    ·exact s1
   ·exact s1
  ·intro f
   split
   ·exact ⟨rfl,bT.dH HA HN HP h _⟩
   ·exact ⟨nb,h⟩
  ·intro f
   split
   ·exact ⟨rfl,bT.dH HA HN HP h _⟩
   ·exact ⟨nb,h⟩
  ·intro f
   exact ⟨rfl,bT.tick HA HN HP h _ _⟩
  ·intro f
   obtain ⟨a1,a2,a3⟩:=h.look;refine ⟨a1,?_⟩;show bT A (S.MN A t);unfold Sit.MN;have:=a2.di HA HN t.a;rw [a3] at this |-;exact this
  ·intro f
   exact ⟨rfl,bT.all HA HN HP _ h⟩
 exact key _ f
omit HL HP in
theorem bT.new {n sz:Nat} (hn:0<n/\n<=4) (hN:n=A.N) (hz:0<sz/\sz<=5):bT A (Sit.new A n sz):=by
 refine ⟨Sit.aK.new HA HN hn hN hz,rfl,⟨_,j6.new n sz,λ g k c hg hk=>?_⟩,λ i hi hf=>?_⟩
 ·have hk:((List.replicate n []).getD g [])[k]? = some c:=hk
  rw [List.getD_eq_getElem?_getD,List.getElem?_replicate] at hk;split at hk <;> simp at hk
 ·show (List.replicate (n*sz) 0).getD i 0<=_
  rw [List.getD_eq_getElem?_getD,List.getElem?_replicate];split <;> simp
end
section
variable {A L:aT} (HA:bK A) (HN:gJ A) (HL:rO A) (HP:rQ A) (HA1:bK L) (Rs:gJ L) (Rt:rO L) (HV:EW L) (hL:L.N=1) {W:World}
include HA HN HL HP HA1 Rs Rt HV hL
theorem Uv {g f:Int} (hg:qH g) (hf:qH f) (hNA:1+bf g 4=A.N) {l:List Stp} {v:Value} (hl:MU W 11 v l.length (l.map Stp.cells).flatten) (hn:l.length<=9223372036854775807) (hwf:∀ t∈l,t.wf A):fZ Tryz.prog 7 #[.int .i64 g,.int .i64 f,v] W (λ x w'=>∃ bs S,x=.tuple #[Ptt bs,.bool true]/\bY (dK W) bs S w'/\bT A S):=by
 obtain ⟨va,vc,rfl,YN,hvl,hvd⟩:=hl;refine Ew ah Tryz.func7 rfl rfl ?_;refine aJ.piece (Q:=λ q w'=>q=[(0,.int .i64 g),(1,.int .i64 f),(2,.slice va l.length vc)]/\w'=W) (aJ.of ah mixed ⟨_,by exact ⟨rfl,rfl,rfl,trivial⟩,rfl,rfl⟩) ?_;rintro q W ⟨rfl,rfl⟩;refine aJ.piece (Q:=λ q w1=>∃ bs,q=[(2,.slice va l.length vc),(8,Ptt bs),(9,.bool true)]/\bY (dK W) bs (Sit.new A (1+bf g 4) (1+2*bf f 3)) w1) (aJ.of ah mixed ?_) ?_
 ·refine ⟨_,Un HA1 Rs Rt HV HA hL W g f hg hf,?_⟩
  rintro _ w1 ⟨bs,rfl,h1,k1⟩;exact ⟨_,by exact ⟨rfl,rfl,rfl,trivial⟩,bs,rfl,h1⟩
 rintro q w1 ⟨bs,rfl,h1⟩;have lf:=je f (show 0<3 by decide);have lg:=je g (show 0<4 by decide);have F0:bT A (Sit.new A (1+bf g 4) (1+2*bf f 3)):=bT.new HA HN ⟨by omega,by omega⟩ hNA ⟨by omega,by omega⟩;generalize Sit.new A (1+bf g 4) (1+2*bf f 3)=S0 at *;refine aJ.piece (Q:=λ q w4=>q=[(8,Ptt bs),(9,.bool true)]/\∃ S,bY (dK W) bs S w4/\bT A S) ?_ ?_;rotate_left
 ·rintro q w4 ⟨rfl,S,h4,i4⟩
  refine aJ.of ah mixed ?_;exact ⟨bs,S,rfl,h4,i4⟩
 refine aJ.piece (Q:=λ q w'=>q=[(2,.slice va l.length vc),(8,Ptt bs),(9,.bool true),(10,.int .i64 0)]/\w'=w1) (aJ.of ah mixed ⟨_,by exact ⟨rfl,rfl,rfl,rfl,trivial⟩,rfl,rfl⟩) ?_;rintro q w1 ⟨rfl,rfl⟩;refine aJ.block ?_;refine aJ.loop (λ m s wk=>∃ (i:Nat) (S:Sit),m=l.length - i/\i<=l.length/\s=[(2,.slice va l.length vc),(8,Ptt bs),(9,.bool true),(10,.int .i64 i)]/\bT A S/\bY (dK W) bs S wk) ⟨_,_,⟨0,S0,rfl,Nat.zero_le _,rfl,F0,h1⟩,rfl,rfl,rfl,rfl,trivial⟩ ?_;clear h1 F0;rintro m s wk ⟨i,S,rfl,hi,rfl,hS,hK⟩;refine aJ.cut (Qn:=λ q w'=>i<l.length/\q=[(2,.slice va l.length vc),(8,Ptt bs),(10,.int .i64 i)]/\w'=wk) (Qx:=λ j q w'=>j=0/\q=[(8,Ptt bs),(9,.bool true)]/\w'=wk) (Qr:=λ _ _=>False) (aJ.of ah mixed ?_) ?_ ?_ (λ _ _ _ h _=>h.elim)
 ·refine au (λ c=>?_) (λ c=>?_)
  ·exact ⟨_,by exact ⟨rfl,rfl,rfl,trivial⟩,by simp at c;omega,rfl,rfl⟩
  ·exact ⟨_,by exact ⟨rfl,rfl,trivial⟩,rfl,rfl,rfl⟩
 rotate_left
 ·rintro j q s w' ⟨rfl,rfl,rfl⟩ hs
  exact ⟨_,hs,rfl,S,hK,hS⟩
 rintro q wk ⟨c1,rfl,rfl⟩;rcases hvd with h0 | ⟨Bv,Kj,csv,tyv,zv',rfl,hBv,hcv⟩
 ·omega
 obtain ⟨t,ht⟩:∃ t,l[i]? = some t:=⟨l[i],by simp [c1]⟩;have twf:=hwf t (List.mem_of_getElem? ht);have hel:aQ csv.toList (Kj+i*11) 11=t.cells:=(Fz.elem hcv c1).trans (Xp ht);refine aJ.piece (Q:=λ q w'=>q=[(2,.slice (some ⟨Bv,Kj,none⟩) l.length vc),(8,Ptt bs),(9,.bool true),(10,.int .i64 i)]/\∃ S,bT A S/\bY (dK W) bs S w') ?_ ?_;rotate_left
 ·rintro q w' ⟨rfl,S',f1,h'⟩
  refine aJ.of ah mixed ?_;exact ⟨⟨by omega,by omega⟩,_,_,⟨i+1,S',rfl,by omega,rfl,f1,h'⟩,⟨rfl,rfl,rfl,rfl,trivial⟩,by omega⟩
 refine aJ.block ?_;refine aJ.piece (Q:=λ q w'=>q=[(2,.slice (some ⟨Bv,Kj,none⟩) l.length vc),(8,Ptt bs),(9,.bool true),(10,.int .i64 i)]/\∃ S,bT A S/\bY (dK W) bs S w') (aJ.of (Uq zv') mixed ?_) ?_
 ·have hd:=adw HA HN HL hK hS.fine twf
  obtain ⟨d1,d2⟩:=bT.do HA HN HL HP hS twf;rw [d1] at hd;refine ⟨⟨by omega,by omega⟩,_,_,hK.snap.get hBv nofun,t.cells,by show aQ csv.toList (Kj+(i:Int).toNat*11) 11=_;rw [Int.toNat_natCast];exact hel,rfl,_,hd,?_⟩;rintro _ w' ⟨rfl,h',k'⟩;exact ⟨_,by exact ⟨rfl,rfl,rfl,rfl,trivial⟩,rfl,_,d2,h'⟩
 rintro q w5 ⟨rfl,S1,i1,h5⟩;obtain ⟨b1,b2,b3⟩:=i1.look;have hlk:=J6 HN h5 i1.fine;rw [b1] at hlk;refine aJ.piece (Q:=λ q w'=>∃ r,q=[(2,.slice (some ⟨Bv,Kj,none⟩) l.length vc),(8,Ptt bs),(9,.bool true),(10,.int .i64 i),(44,.bool r)]/\w'=w5) (aJ.of ah mixed ?_) ?_
 ·refine ⟨by decide,?_⟩
  refine au (λ c=>?_) (λ c=>?_)
  ·exact ⟨⟨by omega,by omega⟩,_,by exact ⟨rfl,rfl,rfl,rfl,rfl,trivial⟩,_,rfl,rfl⟩
  ·exact ⟨_,by exact ⟨rfl,rfl,rfl,rfl,rfl,trivial⟩,_,rfl,rfl⟩
 rintro q w5 ⟨r,rfl,rfl⟩;refine aJ.cond r rfl ?_;cases r
 ·refine aJ.of ah mixed ?_
  exact ⟨_,by exact ⟨rfl,rfl,rfl,rfl,trivial⟩,rfl,S1,i1,h5⟩
 ·refine aJ.of ah mixed ?_
  refine ⟨_,hlk.x,?_⟩;rintro _ w6 ⟨rfl,h6,_⟩;exact ⟨_,by exact ⟨rfl,rfl,rfl,rfl,trivial⟩,rfl,_,b2,h6⟩
end
end
end Go.Proofs.YtignemioillaiabGreat
