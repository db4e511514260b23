/- What a replica knows stays so (1): do, agree, propose. -/
import Derived.Test.YtignemioillaiabGreatG50
namespace Go.Proofs.YtignemioillaiabGreat
set_option maxHeartbeats 8000000
set_option maxRecDepth 100000
section
open Go Go.Conc
theorem xN {g i sz:Nat} {t:Nat×Nat} (h:t∈gD g i g sz) (hi:i<sz):t.1=g/\sz≠1:=by
 unfold gD at h;obtain ⟨j,hj,rfl⟩:=List.mem_map.1 h;obtain ⟨h1,h2⟩:=List.mem_filter.1 hj;have h1:=List.mem_range.1 h1;refine ⟨rfl,λ e=>?_⟩;have:j=i:=by omega
 subst this;simp at h2
theorem xO {R:MR} {d:ByteArray} {t:Nat×Nat} {g:Nat} (h:t.1=g):(toP R d t).tg=g:=by rw [<- h];rfl
section
variable {A:aT} (HP:rQ A) {N:Nat} {Γ:Gh} {R:MR}
include HP
theorem PF.free {sz g j:Nat} {p:bF} {m:MM} (hd:p.d=A.enc m) (hk:m.kind=2\/m.kind=9\/m.kind=10):PF A sz Γ g j p:=λ m' h=>by
 rw [hd] at h;have:=HP.rest hk h;exact ⟨⟨λ e=>by omega,λ e=>by omega,λ e=>by omega,λ e=>by omega⟩,λ _ _=>by omega⟩
theorem RV.free (h:RV A N Γ R) {m:MM} (hk:m.kind=2\/m.kind=9\/m.kind=10) (tl:List (Nat×Nat)):RV A N Γ (lH A.enc R m tl):=h.snd λ _ _=>PF.free HP (m:=m) rfl hk
theorem RV.ans (h:RV A N Γ R) (c:MC) (p:az):RV A N Γ (nO A R c p):=by
 unfold nO;split
 ·exact h.free HP (.inl rfl) _
 ·split
  ·exact h.free HP (.inr (.inr rfl)) _
  ·exact h
theorem RV.do (h:RV A N Γ R) {c:MC} (hd:Γ.D R.sc.sz R.log.length c):RV A N Γ (qh A R c):=by
 have h1:RV A N Γ { R with st:=(A.ap R.st c).1,log:=R.log++[c] }:=⟨h.fw,h.sn,h.kP,h.one,h.vt,h.wt,h.vv,h.own,h.pQ,h.r0,λ r=>⟨(h.eu r).1,(h.eu r).2,(h.eu r).3⟩,λ r=>⟨(h.lead r).1,(h.lead r).2⟩,h.pp,h.ac,λ {k x} hk=>by
  have hk:(R.log++[c])[k]? = some x:=hk;rw [List.getElem?_append] at hk;split at hk
  ·exact h.lg hk
  ·rename_i hn
   have:k=R.log.length:=by
    have:=(List.getElem?_eq_some_iff.1 hk).1;simp at this;omega
   subst this;simp at hk;rw [<- hk];exact hd,h.kn,by
  show (A.ap R.st c).1=(R.log++[c]).foldl _ _;rw [List.foldl_append,<- h.st];rfl,h.ou,by show N<=(R.log++[c]).length;have:=h.ll;simp;omega⟩
 unfold qh;split
 ·exact h1.ans HP _ _
 ·exact h1
omit HP in
theorem RV.known (h:RV A N Γ R) {f:Nat->Option MC} (hf:∀ {k c},f k=some c->Γ.D R.sc.sz k c):RV A N Γ { R with known:=f }:=⟨h.fw,h.sn,h.kP,h.one,h.vt,h.wt,h.vv,h.own,h.pQ,h.r0,λ r=>⟨(h.eu r).1,(h.eu r).2,(h.eu r).3⟩,λ r=>⟨(h.lead r).1,(h.lead r).2⟩,h.pp,h.ac,h.lg,hf,h.st,h.ou,h.ll⟩
theorem RV.catch:∀ (n:Nat) {R:MR},RV A N Γ R->RV A N Γ (fP A n R)
 | 0,_,h=>h
 | n+1,R,h=>by
  unfold fP;split
  ·exact h
  ·rename_i c hc
   have h1:=h.known (f:=upd R.known R.log.length none) λ {k d} hd=>by
    unfold upd at hd;split at hd
    ·cases hd
    ·exact h.kn hd
   exact RV.catch n (h1.do HP (h.kn hc))
theorem RV.agree (h:RV A N Γ R) {s:Nat} {c:MC} (hd:Γ.D R.sc.sz s c):RV A N Γ (iN A R s c):=by
 unfold iN;split
 ·exact h
 ·refine RV.catch HP _ ⟨h.fw,h.sn,h.kP,h.one,h.vt,h.wt,h.vv,h.own,h.pQ,h.r0,λ r=>⟨(h.eu r).1,(h.eu r).2,(h.eu r).3⟩,λ r=>⟨λ hs=>(h.lead r).1 (Nat.le_trans (Nat.le_max_left _ _) hs),(h.lead r).2.mono λ k ⟨a1,a2⟩=>⟨a1,λ s' hs=>a2 s' (Nat.le_trans (Nat.le_max_left _ _) hs)⟩⟩,λ {k x} hp=>?_,λ {k x} hp=>?_,h.lg,λ {k x} hp=>?_,h.st,h.ou,h.ll⟩
  ·have hp:upd R.props s none k=some x:=hp
   unfold upd at hp;split at hp
   ·cases hp
   ·exact h.pp hp
  ·have hp:upd R.acc s none k=some x:=hp
   unfold upd at hp;split at hp
   ·cases hp
   ·exact h.ac hp
  ·have hp:upd R.known s (some c) k=some x:=hp
   unfold upd at hp;split at hp
   ·rename_i e;cases hp;subst e;exact hd
   ·exact h.kn hp
theorem RV.yo (o:Γ.Ok R.sc.sz) (h:RV A N Γ R) (hi:R.sc.i<R.sc.sz) {s k:Nat} (hg:∀ c,R.props s=some c->A.gc c/\s<60) (hv:Γ.V k R.sc.b s):RV A N Γ (jl A R s k):=by
 unfold jl;split
 ·exact h
 ·rename_i c hc
  obtain ⟨r2,hp⟩:=h.pp hc;have bits:∀ {j},(fQ R s k).testBit j=true->Γ.V j R.sc.b s:=λ {j} hj=>by
   rcases Ha hj with hj | rfl
   ·cases ha:R.acc s with
    | none=>rw [ha] at hj;simp at hj
    | some a=>rw [ha] at hj;exact (h.ac ha).2 hj
   ·exact hv
  have h1:RV A N Γ { R with acc:=upd R.acc s (some (fQ R s k)) }:=⟨h.fw,h.sn,h.kP,h.one,h.vt,h.wt,h.vv,h.own,h.pQ,h.r0,λ r=>⟨(h.eu r).1,(h.eu r).2,(h.eu r).3⟩,λ r=>⟨(h.lead r).1,(h.lead r).2⟩,h.pp,λ {t a} ha=>by
   have ha:upd R.acc s (some (fQ R s k)) t=some a:=ha;unfold upd at ha;split at ha
   ·rename_i e;cases ha;subst e;exact ⟨r2,bits⟩
   ·exact h.ac ha,h.lg,h.kn,h.st,h.ou,h.ll⟩
  split
  ·rename_i hm
   have hd:Γ.D R.sc.sz s c:=⟨_,hp,_,hm,λ j _ hj=>⟨(o.vp (bits hj)).1,bits hj⟩⟩;refine RV.agree HP (h1.snd λ t ht=>PF.of (m:={ aP 8 with s:=s,c:=c }) (λ m' hd=>HP.dec (hg c hc).2 (hg c hc).1 hd) ⟨nofun,nofun,nofun,λ _=>hd⟩ ?_) hd;obtain ⟨t1,t2⟩:=xN ht hi;exact ⟨xO t1,t2,Nat.zero_lt_succ _⟩
  ·exact h1
theorem RV.sa (h:RV A N Γ R) (hi:R.sc.i<R.sc.sz) (hn:R.sc.b.n<=4294967295) {s:Nat} {c:MC} (hs:s<60) (hc:A.gc c) (hp:Γ.P R.sc.b s=some c):RV A N Γ (Jg A.enc R s c):=h.snd λ _t ht=>PF.of (m:={ aP 6 with b:=R.sc.b,s:=s,c:=c }) (λ _m' hd=>HP.acc ⟨hn,h.kP⟩ hs hc hd) ⟨nofun,λ _=>hp,nofun,nofun⟩ ⟨xO (xN ht hi).1,(xN ht hi).2,h.kP⟩
theorem RV.prop (o:Γ.Ok R.sc.sz) (h:RV A N Γ R) (hi:R.sc.i<R.sc.sz) (hb:R.sc.b.n<=4294967295) {s:Nat} {c:MC} (r:R.sc.role=2) (hn:s<R.sc.next) (hP:Γ.P R.sc.b s=none\/Γ.P R.sc.b s=some c) (hs:Γ.Safe R.sc.sz R.sc.b s c) (hc:A.gc c) (uS:s<60):wC R.sc.i Γ (Γ.add R.sc.i R.sc.b s c)/\(Γ.add R.sc.i R.sc.b s c).Ok R.sc.sz/\RV A N (Γ.add R.sc.i R.sc.b s c) (gY A R s c):=by
 have ri:=h.pQ (by omega);have hP':Γ.P R.sc.b s=none/\R.sc.b.id=R.sc.i\/Γ.P R.sc.b s=some c:=hP.imp (λ e=>⟨e,ri⟩) id;have o1:=o.add hP' h.fw hi ⟨hb,h.kP⟩ hs;have new:(Γ.add R.sc.i R.sc.b s c).P R.sc.b s=some c:=if_pos ⟨rfl,rfl⟩;have h1:=h.CV o hP (.inr ⟨r,hn⟩);have h2:RV A N (Γ.add R.sc.i R.sc.b s c) (rD { R with props:=upd R.props s (some c) } s c):=⟨h1.fw,h1.sn,h1.kP,h1.one,h1.vt,h1.wt,h1.vv,h1.own,h1.pQ,h1.r0,λ r=>⟨(h1.eu r).1,(h1.eu r).2,(h1.eu r).3⟩,λ r=>⟨(h1.lead r).1,(h1.lead r).2⟩,λ {t x} hp=>by
  have hp:upd R.props s (some c) t=some x:=hp;unfold upd at hp;split at hp
  ·rename_i e;cases hp;subst e;exact ⟨r,new⟩
  ·exact h1.pp hp,h1.ac,h1.lg,h1.kn,h1.st,h1.ou,h1.ll⟩
 refine ⟨Gh.yU hP' h.fw,o1,?_⟩;refine RV.yo (R:=Jg A.enc (rD { R with props:=upd R.props s (some c) } s c) s c) HP o1 (h2.sa HP hi hb uS hc new) hi (λ x hx=>?_) (.inl ⟨rfl,rfl,rfl⟩);have hx:upd R.props s (some c) s=some x:=hx;rw [xM] at hx;cases hx
 exact ⟨hc,uS⟩
end
def To (A:aT) (N:Nat) (Γ:Gh) (R R':MR):Prop:=∃ Γ',wC R.sc.i Γ Γ'/\Γ'.Ok R.sc.sz/\RV A N Γ' R'
theorem To.refl {A:aT} {N:Nat} {Γ:Gh} {R R':MR} (o:Γ.Ok R.sc.sz) (h:RV A N Γ R'):To A N Γ R R':=⟨Γ,.refl _ _,o,h⟩
section
variable {A:aT} (HP:rQ A) {N:Nat} {Γ:Gh} {R:MR}
include HP
theorem RV.offer (o:Γ.Ok R.sc.sz) (h:RV A N Γ R) (ho:Ok A R) (r:R.sc.role=2) {c:MC} (hc:A.gc c):To A N Γ R (fT A R c):=by
 unfold fT;split
 ·exact .refl o h
 ·rename_i hn
  have l:=h.lead r;have uS:R.sc.next<60:=by omega
  have h1:RV A N Γ { R with sc:={ R.sc with next:=R.sc.next+1 } }:=⟨h.fw,h.sn,h.kP,h.one,h.vt,h.wt,h.vv,h.own,h.pQ,h.r0,λ r=>⟨(h.eu r).1,(h.eu r).2,(h.eu r).3⟩,λ _=>⟨λ hs=>l.1 (Nat.le_of_succ_le hs),l.2.mono λ k ⟨a1,a2⟩=>⟨a1,λ s' hs=>a2 s' (Nat.le_of_succ_le hs)⟩⟩,h.pp,h.ac,h.lg,h.kn,h.st,h.ou,h.ll⟩;exact ⟨_,RV.prop (R:={ R with sc:={ R.sc with next:=R.sc.next+1 } }) HP o h1 ho.i.1 ho.sn.2.1 r (Nat.lt_succ_self R.sc.next) (.inl (l.none (Nat.le_refl _))) (λ b' lt=>l.most.mono λ k ⟨a1,a2⟩=>⟨lt.le a1,λ v=>(a2 _ (Nat.le_refl _) b' lt v).elim⟩) hc uS⟩
end
theorem MX {f:Nat->Option MV}:∀ (l:List Nat) (a:Nat),a<=l.foldl (λ a k=>if (f k).isSome=true then max a (k+1) else a) a/\∀ k∈l,(f k).isSome=true->k+1<=l.foldl (λ a k=>if (f k).isSome=true then max a (k+1) else a) a
 | [],a=>⟨Nat.le_refl _,λ _ h=>by cases h⟩
 | x::l,a=>by
  obtain ⟨h1,h2⟩:=MX (f:=f) l (if (f x).isSome=true then max a (x+1) else a);refine ⟨Nat.le_trans ?_ h1,λ k hk hs=>?_⟩
  ·split
   ·exact Nat.le_max_left _ _
   ·exact Nat.le_refl _
  ·rcases List.mem_cons.1 hk with rfl | hk
   ·refine Nat.le_trans ?_ h1
    rw [if_pos hs];exact Nat.le_max_right _ _
   ·exact h2 k hk hs
theorem Ut {f:Nat->Option MV} {n0 k:Nat} {v:MV} (h:f k=some v) (hk:k<60):k<iG f n0:=(MX (f:=f) (List.range 60) n0).2 k (List.mem_range.2 hk) (by rw [h];rfl)
section
variable {A:aT} {R:MR} {s:Nat} {c:MC}
theorem Rm:(qh A R c).sc=R.sc/\(qh A R c).met=R.met:=by
 unfold qh nO;split
 ·split
  ·exact ⟨rfl,rfl⟩
  ·split <;> exact ⟨rfl,rfl⟩
 ·exact ⟨rfl,rfl⟩
theorem A8:∀ (n:Nat) {R:MR},(fP A n R).sc=R.sc/\(fP A n R).met=R.met
 | 0,_=>⟨rfl,rfl⟩
 | n+1,R=>by
  unfold fP;split
  ·exact ⟨rfl,rfl⟩
  ·obtain ⟨h1,h2⟩:=A8 n (R:=qh A { R with known:=upd R.known R.log.length none } _)
   exact ⟨h1.trans Rm.1,h2.trans Rm.2⟩
theorem Ro (h:s<R.sc.next):(iN A R s c).sc=R.sc/\(iN A R s c).met=R.met:=by
 unfold iN;split
 ·exact ⟨rfl,rfl⟩
 ·refine ⟨(A8 61).1.trans ?_,(A8 61).2⟩
  show { R.sc with next:=max R.sc.next (s+1) }=R.sc;rw [Nat.max_eq_left h]
theorem Ki (h:s<R.sc.next):(gY A R s c).sc=R.sc/\(gY A R s c).met=R.met:=by
 unfold gY jl;split
 ·exact ⟨rfl,rfl⟩
 ·split
  ·exact Ro (R:=lH A.enc _ _ _) h
  ·exact ⟨rfl,rfl⟩
theorem Hd:∀ (n s:Nat) {R:MR},(eD A n s R).sc=R.sc
 | 0,_,_=>rfl
 | n+1,s,R=>by
  unfold eD;split
  ·rename_i h
   refine (Hd n (s+1)).trans ?_;split
   ·rfl
   ·exact (Ki h).1
  ·rfl
end
def ch (R:MR) (s:Nat):MC:=((R.met s).map MV.c).getD nW
theorem To.step {A:aT} {N:Nat} {Γ Γ1:Gh} {R R1 R2:MR} (e:wC R.sc.i Γ Γ1) (hs:R1.sc.i=R.sc.i/\R1.sc.sz=R.sc.sz) (h:To A N Γ1 R1 R2):To A N Γ R R2:=by
 obtain ⟨Γ',a1,a2,a3⟩:=h;rw [hs.1] at a1;rw [hs.2] at a2;exact ⟨Γ',e.trans a1,a2,a3⟩
section
variable {A:aT} (HA:bK A) (HP:rQ A) {N:Nat} {Γ:Gh} {R:MR}
include HA HP
theorem RV.qo:∀ (n s0:Nat) {Γ:Gh} {R:MR},Γ.Ok R.sc.sz->RV A N Γ R->Ok A R->R.sc.role=2->(∀ s,s0<=s->s<R.sc.next->(Γ.P R.sc.b s=none\/Γ.P R.sc.b s=some (ch R s))/\Γ.Safe R.sc.sz R.sc.b s (ch R s))->To A N Γ R (eD A n s0 R)
 | 0,_,_,_,o,h,_,_,_=>.refl o h
 | n+1,s0,Γ,R,o,h,ho,r,hs=>by
  unfold eD;split
  ·rename_i lt
   split
   ·exact RV.qo n (s0+1) o h ho r λ s a b=>hs s (by omega) b
   ·have hg:A.gc (ch R s0):=by
     unfold ch;cases e:R.met s0 with
     | none=>exact HA.LJ
     | some v=>exact (ho.mt _ _ e).1
    have uS:s0<60:=Nat.lt_of_lt_of_le lt ho.nx;obtain ⟨a1,a2,a3⟩:=RV.prop HP o h ho.i.1 ho.sn.2.1 r lt (hs s0 (Nat.le_refl _) lt).1 (hs s0 (Nat.le_refl _) lt).2 hg uS;obtain ⟨e1,e2⟩:=Ki (A:=A) (R:=R) (c:=ch R s0) lt;have ec:∀ s,ch (gY A R s0 (ch R s0)) s=ch R s:=λ s=>congrArg (λ g:Nat->Option MV=>((g s).map MV.c).getD nW) e2
    refine To.step a1 ⟨congrArg Sc.i e1,congrArg Sc.sz e1⟩ (RV.qo n (s0+1) (Γ:=Γ.add R.sc.i R.sc.b s0 (ch R s0)) (R:=gY A R s0 (ch R s0)) (by rw [e1];exact a2) a3 (ho.prop HA uS hg).1 (by rw [e1];exact r) λ s l1 l2=>?_);rw [e1] at l2 |-;rw [ec,show (Γ.add R.sc.i R.sc.b s0 (ch R s0)).P R.sc.b s=Γ.P R.sc.b s from if_neg λ q=>by omega];exact ⟨(hs s (by omega) l2).1,(hs s (by omega) l2).2.ext a1.toExt⟩
  ·exact .refl o h
theorem RV.abk (o:Γ.Ok R.sc.sz) (h:RV A N Γ R) (ho:Ok A R) (r:R.sc.role=1) (hm:2*pc R.sc.prom > R.sc.sz):To A N Γ R (nA A R):=by
 have c:=h.eu r;have lt:∀ {s v},R.met s=some v->s<iG R.met R.log.length:=λ e=>Ut e (ho.mt _ _ e).2.1
 have q:∀ (p:Nat->Prop),(∀ k,R.sc.prom.testBit k=true->p k)->Most R.sc.sz p:=λ p hp=>⟨_,hm,λ k _ hk=>⟨(c.prom hk).1,hp k hk⟩⟩
 have h1:RV A N Γ { R with sc:={ R.sc with role:=2,next:=iG R.met R.log.length } }:=⟨h.fw,h.sn,h.kP,h.one,h.vt,h.wt,h.vv,h.own,λ _=>h.pQ (by omega),λ r=>absurd (show (2:Nat)=0 from r) (by decide),λ r=>absurd (show (2:Nat)=1 from r) (by decide),λ _=>⟨λ {s} hs=>by
  show Γ.P R.sc.b s=none;cases e:Γ.P R.sc.b s with
  | none=>rfl
  | some x =>
   obtain ⟨v,hv,_⟩:=c.has e;have:=lt hv;have hs:iG R.met R.log.length<=s:=hs;omega,q _ λ k hk=>⟨(c.prom hk).2.1,λ s hs b l v=>by
  obtain ⟨v,hv,_⟩:=(c.prom hk).2.2 l v;have:=lt hv;have hs:iG R.met R.log.length<=s:=hs;omega⟩⟩,λ hp=>⟨rfl,(h.pp hp).2⟩,λ ha=>⟨rfl,(h.ac ha).2⟩,h.lg,h.kn,h.st,h.ou,h.ll⟩
 obtain ⟨Γ',a1,a2,a3⟩:=RV.qo (R:={ R with sc:={ R.sc with role:=2,next:=iG R.met R.log.length } }) HA HP 61 R.log.length o h1 ho.HZ rfl λ s _ _=>by
  show (Γ.P R.sc.b s=none\/Γ.P R.sc.b s=some (ch R s))/\Γ.Safe R.sc.sz R.sc.b s (ch R s);unfold ch;cases e:R.met s with
  | none =>
   refine ⟨.inl ?_,λ b' l=>q _ λ k hk=>⟨l.le (c.prom hk).2.1,λ v=>?_⟩⟩
   ·cases e':Γ.P R.sc.b s with
    | none=>rfl
    | some x =>
     obtain ⟨v,hv,_⟩:=c.has e';rw [e] at hv;cases hv
   ·obtain ⟨v,hv,_⟩:=(c.prom hk).2.2 l v
    rw [e] at hv;cases hv
  | some v =>
   obtain ⟨p1,p2⟩:=c.met e;rcases p2.cases with eb | lb
   ·rw [eb] at p1
    exact ⟨.inr p1,o.safe p1⟩
   ·refine ⟨.inl ?_,λ b' l=>?_⟩
    ·cases e':Γ.P R.sc.b s with
     | none=>rfl
     | some x =>
      obtain ⟨v',hv',eb⟩:=c.has e';rw [e] at hv';cases hv';rw [eb] at lb;exact (lb.no (.refl _)).elim
    ·by_cases lv:b'.L v.b
     ·exact o.safe p1 b' lv
     ·refine q _ λ k hk=>⟨l.le (c.prom hk).2.1,λ x=>?_⟩
      obtain ⟨v',hv',x1⟩:=(c.prom hk).2.2 l x;rw [e] at hv';cases hv';rcases x1.cases with rfl | x1
      ·exact p1
      ·exact (lv x1).elim
 have rr:(eD A 61 R.log.length { R with sc:={ R.sc with role:=2,next:=iG R.met R.log.length } }).sc.role=2:=by rw [Hd]
 refine ⟨Γ',a1,a2,?_⟩;unfold nA;exact ⟨a3.fw,a3.sn,a3.kP,a3.one,a3.vt,a3.wt,a3.vv,a3.own,a3.pQ,λ r=>⟨(a3.r0 r).1,λ _=>rfl⟩,λ r=>(by have r:(eD A 61 R.log.length { R with sc:={ R.sc with role:=2,next:=iG R.met R.log.length } }).sc.role=1:=r;omega),λ r=>⟨(a3.lead r).1,(a3.lead r).2⟩,a3.pp,a3.ac,a3.lg,a3.kn,a3.st,a3.ou,a3.ll⟩
theorem RV.yw (o:Γ.Ok R.sc.sz) (h:RV A N Γ R) (ho:Ok A R) (r:R.sc.role=1) {k:Nat} (hk5:k<5) (hk:k<R.sc.sz/\R.sc.b.E (Γ.B k)/\∀ {b s},b.L R.sc.b->Γ.V k b s->∃ v,R.met s=some v/\b.E v.b):To A N Γ R (ky A R k):=by
 have h1:RV A N Γ { R with sc:={ R.sc with prom:=iQ R.sc.prom k } }:=⟨h.fw,h.sn,h.kP,h.one,h.vt,h.wt,h.vv,h.own,h.pQ,λ r0=>(by have r0:R.sc.role=0:=r0;omega),λ r=>⟨λ hj=>(Ha hj).elim (λ hj=>(h.eu r).1 hj) (λ e=>by subst e;exact hk),(h.eu r).2,(h.eu r).3⟩,λ r=>⟨(h.lead r).1,(h.lead r).2⟩,h.pp,h.ac,h.lg,h.kn,h.st,h.ou,h.ll⟩;unfold ky;split
 ·rename_i hm
  exact RV.abk (R:={ R with sc:={ R.sc with prom:=iQ R.sc.prom k } }) HA HP o h1 (ho.prom hk5) r hm
 ·exact .refl o h1
theorem RV.abl (o:Γ.Ok R.sc.sz) (h:RV A N Γ R) (ho:Ok A R) (r:R.sc.role=0):To A N Γ R (mE A R):=by
 unfold mE;split
 case isFalse=>exact .refl o h
 rename_i hc;obtain ⟨Γ1,e1,o1,h1,hi⟩:∃ Γ1,wC R.sc.i Γ Γ1/\Γ1.Ok R.sc.sz/\RV A N Γ1 (bZ R)/\(bZ R).sc.b.id=R.sc.i:=by
  unfold bZ;split
  ·rename_i q
   refine ⟨Γ,.refl _ _,o,h,?_⟩;have hz:R.sc.sz=1:=by omega
   rw [h.one hz];have:=ho.i.1;show 0=_;omega
  ·rename_i q
   have hl:R.sc.b.L ⟨R.sc.seen+1,R.sc.i⟩:=.inl (Nat.lt_succ_of_le h.sn);have hl':=hl.e;rw [<- h.fw] at hl';exact ⟨Γ.rise R.sc.i ⟨R.sc.seen+1,R.sc.i⟩,Gh.wE hl',o.rise hl',(h.rise o r hl (Nat.le_refl _) (by have:=ho.i.1;have:=ho.sz;show R.sc.i<256;omega) (λ e=>q (.inl e))).1,rfl⟩
 have es:(bZ R).sc.i=R.sc.i/\(bZ R).sc.sz=R.sc.sz/\(bZ R).sc.role=R.sc.role:=by
  unfold bZ;split <;> exact ⟨rfl,rfl,rfl⟩
 have r1:(bZ R).sc.role=0:=es.2.2.trans r;obtain ⟨z1,z2⟩:=h1.r0 r1;have om:∀ {s v},orM (bZ R).cz (bZ R).met s=some v↔(bZ R).cz s=some v:=λ {s v}=>by
  unfold orM;rw [z2 s];cases (bZ R).cz s <;> simp
 have h2:RV A N Γ1 (qp R):=⟨h1.fw,h1.sn,h1.kP,h1.one,h1.vt,h1.wt,h1.vv,h1.own,λ _=>hi.trans es.1.symm,λ q=>absurd (show (1:Nat)=0 from q) (by decide),λ _=>⟨λ {k} hk=>by
  have hk:(bZ R).sc.prom.testBit k=true:=hk;rw [z1] at hk;simp at hk,λ hv=>by
  have hv:=om.1 hv;refine ⟨(h1.vt hv).2,?_⟩;have:=(o1.vp (h1.vt hv).1).2.1;rw [h1.fw] at this;exact this,λ hp=>by
  obtain ⟨v,a,b⟩:=h1.own (hi.trans es.1.symm) hp;exact ⟨v,om.2 a,b⟩⟩,λ q=>absurd (show (1:Nat)=2 from q) (by decide),λ hp=>(by have:=(h1.pp hp).1;omega),λ ha=>(by have:=(h1.ac ha).1;omega),h1.lg,h1.kn,h1.st,h1.ou,h1.ll⟩
 have i5:R.sc.i<5:=Nat.lt_of_lt_of_le ho.i.1 ho.sz;refine To.step e1 ⟨es.1,es.2.1⟩ (RV.yw (R:=qp R) HA HP (by rw [<- es.2.1] at o1;exact o1) h2 ho.H5 rfl i5 ⟨Nat.lt_of_lt_of_eq ho.i.1 es.2.1.symm,?_,λ _ v=>?_⟩)
 ·show bE.E _ (Γ1.B R.sc.i)
  rw [<- es.1,h1.fw];exact .refl _
 ·rw [<- es.1] at v
  obtain ⟨x,a,b⟩:=h1.vv v;exact ⟨x,om.2 a,b⟩
end
theorem OP (g:Nat->Option MV) (v:MV):(∀ s x,g s=some x->∃ y,lJ g v s=some y/\x.b.E y.b)/\∃ y,lJ g v v.slot=some y/\v.b.E y.b:=by
 have up:(∀ x,g v.slot=some x->x.b.E v.b)->(∀ s x,g s=some x->∃ y,upd g v.slot (some v) s=some y/\x.b.E y.b)/\∃ y,upd g v.slot (some v) v.slot=some y/\v.b.E y.b:=λ hx=>by
  refine ⟨λ s x h=>?_,_,xM _ _ _,.refl _⟩;by_cases e:s=v.slot
  ·subst e;exact ⟨_,xM _ _ _,hx x h⟩
  ·rw [upd_ne _ _ e];exact ⟨x,h,.refl _⟩
 cases e:g v.slot with
 | none=>rw [wL e];exact up λ x h=>by rw [e] at h;cases h
 | some o =>
  cases hb:o.b.lt v.b with
  | true=>rw [yx e hb];exact up λ x h=>by rw [e] at h;cases h;exact (bE.aac.1 hb).e
  | false=>rw [Ao e hb];exact ⟨λ s x h=>⟨x,h,.refl _⟩,o,e,bE.not_lt (by rw [hb];decide)⟩
theorem EZ:∀ (vs:List MV) (g:Nat->Option MV),(∀ s x,g s=some x->∃ y,fU g vs s=some y/\x.b.E y.b)/\∀ v∈vs,∃ y,fU g vs v.slot=some y/\v.b.E y.b
 | [],_=>⟨λ _ x h=>⟨x,h,.refl _⟩,λ _ h=>by cases h⟩
 | v::vs,g=>by
  obtain ⟨h1,h2⟩:=EZ vs (lJ g v);obtain ⟨p1,y,p2,p3⟩:=OP g v;refine ⟨λ s x h=>?_,λ u hu=>?_⟩
  ·obtain ⟨y,a,b⟩:=p1 s x h
   obtain ⟨z,c,d⟩:=h1 s y a;exact ⟨z,c,b.trans d⟩
  ·rcases List.mem_cons.1 hu with rfl | hu
   ·obtain ⟨z,c,d⟩:=h1 _ y p2
    exact ⟨z,c,p3.trans d⟩
   ·exact h2 u hu
theorem A9 {f:Nat->Option MV} {k:Nat} {v:MV}:v∈mr f k↔∃ s,s<k/\f s=some v:=by
 unfold mr;rw [List.mem_filterMap];exact ⟨λ⟨s,a,b⟩=>⟨s,List.mem_range.1 a,b⟩,λ⟨s,a,b⟩=>⟨s,List.mem_range.2 a,b⟩⟩
theorem Bb (enc:MM->ByteArray) (R:MR) (f:Nat×Nat) (b:bE):(bJ enc R f b).cz=R.cz/\(bJ enc R f b).sc.i=R.sc.i/\(bJ enc R f b).sc.sz=R.sc.sz/\(bJ enc R f b).sc.g=R.sc.g/\(¬ b.lt R.sc.b=true->(bJ enc R f b).sc.b=b):=by
 unfold bJ;split
 ·rename_i h;exact ⟨rfl,rfl,rfl,rfl,λ n=>(n h).elim⟩
 ·split
  ·rename_i e;exact ⟨rfl,rfl,rfl,rfl,λ _=>e.symm⟩
  ·exact ⟨rfl,rfl,rfl,rfl,λ _=>rfl⟩
section
variable {A:aT} (HP:rQ A) {N:Nat} {Γ:Gh} {R:MR}
include HP
theorem RV.refuse (o:Γ.Ok R.sc.sz) (h:RV A N Γ R) (hw:R.sc.b.n<=4294967295) {f:Nat×Nat} (hf:f.1=R.sc.g) (h1:R.sc.sz≠1) {b:bE} (h8:b.id<256) (hn:b.n<=R.sc.seen):To A N Γ R (bJ A.enc R f b):=by
 unfold bJ;split
 ·refine .refl o (h.snd λ t ht=>PF.of (m:={ aP 5 with b:=R.sc.b }) (λ m' hd=>HP.fw (.inr rfl) ⟨hw,h.kP⟩ hd) ⟨nofun,nofun,nofun,nofun⟩ ⟨xO ?_,h1,h.kP⟩)
  rw [List.mem_singleton] at ht;rw [ht];exact hf
 ·rename_i lt
  split
  ·exact .refl o h
  ·rename_i ne
   have hl:R.sc.b.L b:=(bE.not_lt lt).cases.elim (λ e=>(ne e.symm).elim) id;have hl':=hl.e;rw [<- h.fw] at hl';exact ⟨Γ.rise R.sc.i b,Gh.wE hl',o.rise hl',(RV.rise (R:=fD R) (sn:=R.sc.seen) o h.stand rfl hl hn h8 h1).1⟩
theorem RV.Jt (o:Γ.Ok R.sc.sz) (h:RV A N Γ R) (ho:Ok A R) {f:Nat×Nat} (hf:f.1=R.sc.g) (h1:R.sc.sz≠1) {b:bE} (hb:b.W) (hn:b.n<=R.sc.seen):To A N Γ R (rE A.enc R f b):=by
 have hr:=RV.refuse HP o h ho.sn.2.1 hf h1 hb.2 hn;obtain ⟨e1,e2,e3,e4,e5⟩:=Bb A.enc R f b;unfold rE;split
 ·exact hr
 ·rename_i lt
  have e5:=e5 lt;obtain ⟨Γ',a1,a2,a3⟩:=hr;refine ⟨Γ',a1,a2,a3.snd λ t ht=>PF.of (m:={ aP 4 with b:=b,vs:=mr (bJ A.enc R f b).cz 60 }) (λ m' hd=>HP.prom hb (Ag _ _) (λ v hv=>?_) hd) ⟨λ _=>⟨?_,λ v hv=>?_,λ b' s l v=>?_⟩,nofun,nofun,nofun⟩ ⟨xO (g:=(bJ A.enc R f b).sc.g) ?_,?_,hb.2⟩⟩
  ·obtain ⟨s,hs,hv⟩:=A9.1 hv
   obtain ⟨q1,q2,q3⟩:=ho.vt s v (by rw [<- e1];exact hv);exact ⟨q1,by omega,(a2.pb (a3.vt hv).2).2⟩
  ·show bE.E b (Γ'.B (bJ A.enc R f b).sc.i)
   rw [a3.fw,e5];exact .refl _
  ·obtain ⟨s,hs,hv⟩:=A9.1 hv
   obtain ⟨q1,q2,q3⟩:=ho.vt s v (by rw [<- e1];exact hv);rw [q3];refine ⟨(a3.vt hv).2,?_⟩;have:=(a2.vp (a3.vt hv).1).2.1;rw [a3.fw,e5] at this;exact this
  ·obtain ⟨x,hx,hx'⟩:=a3.vv v
   obtain ⟨q1,q2,q3⟩:=ho.vt s x (by rw [<- e1];exact hx);exact ⟨x,A9.2 ⟨s,q2,hx⟩,q3,hx'⟩
  ·rw [List.mem_singleton] at ht;rw [ht,e4];exact hf
  ·rw [e3];exact h1
theorem RV.xA (o:Γ.Ok R.sc.sz) (h:RV A N Γ R) (ho:Ok A R) {f:Nat×Nat} (hf:f.1=R.sc.g) (h1:R.sc.sz≠1) {m:MM} (hb:m.b.W) (hn:m.b.n<=R.sc.seen) (hs:m.s<60) (hp:Γ.P m.b m.s=some m.c):To A N Γ R (j4 A R f m):=by
 have hr:=RV.refuse HP o h ho.sn.2.1 hf h1 hb.2 hn;obtain ⟨e1,e2,e3,e4,e5⟩:=Bb A.enc R f m.b;unfold j4;split
 ·exact hr
 ·rename_i lt
  have e5:=e5 lt;obtain ⟨Γ',a1,a2,a3⟩:=hr;have hp':Γ'.P (bJ A.enc R f m.b).sc.b m.s=some m.c:=by rw [e5];exact a1.P hp
  rw [<- e3] at a2;have hi:(bJ A.enc R f m.b).sc.i<(bJ A.enc R f m.b).sc.sz:=by rw [e2,e3];exact ho.i.1
  have b1:=Gh.yU (.inr hp') a3.fw;have b2:=a2.add (.inr hp') a3.fw hi (by rw [e5];exact hb) (a2.safe hp');have b3:=a3.CV a2 (.inr hp') (.inl hp');rw [e2] at b1;refine ⟨_,a1.trans b1,by rw [<- e3,<- e2];exact b2,?_⟩;rw [e2] at b3;refine b3.snd λ t ht=>PF.of (m:={ aP 7 with b:=m.b,s:=m.s }) (λ m' hd=>HP.pK hb hs hd) ⟨nofun,nofun,λ _=>.inl ⟨e2,e5.symm,rfl⟩,nofun⟩ ⟨xO (g:=(bJ A.enc R f m.b).sc.g) ?_,?_,hb.2⟩
  ·rw [List.mem_singleton] at ht;rw [ht,e4];exact hf
  ·show (bJ A.enc R f m.b).sc.sz≠1
   rw [e3];exact h1
theorem RV.Uu:∀ (l:List Nat) {R:MR},RV A N Γ R->Ok A R->RV A N Γ (l.foldl (oQ A.enc) R)
 | [],_,h,_=>h
 | k::l,R,h,ho=>by
  show RV A N Γ (l.foldl (oQ A.enc) (oQ A.enc R k));unfold oQ;split
  ·rename_i c hc
   exact RV.Uu l (h.sa HP ho.i.1 ho.sn.2.1 (ho.pp _ _ hc).2 (ho.pp _ _ hc).1 (h.pp hc).2) (ho.snd _ _ _)
  ·exact RV.Uu l h ho
theorem RV.OQ:∀ (l:List Nat) {R:MR},RV A N Γ R->RV A N Γ (l.foldl (qw A.enc) R)
 | [],_,h=>h
 | k::l,R,h=>by
  show RV A N Γ (l.foldl (qw A.enc) (qw A.enc R k));unfold qw;split
  ·exact RV.OQ l h
  ·exact RV.OQ l (h.free HP (.inr (.inl rfl)) _)
theorem RV.qx (o:Γ.Ok R.sc.sz) (h:RV A N Γ R) (ho:Ok A R):To A N Γ R (qx A R):=by
 have h2:RV A N Γ (fG A R):=h.snd λ t ht=>PF.of (m:={ aP 3 with b:=R.sc.b }) (λ m' hd=>HP.fw (.inl rfl) ⟨ho.sn.2.1,h.kP⟩ hd) ⟨nofun,nofun,nofun,nofun⟩ ⟨xO (xN ht ho.i.1).1,(xN ht ho.i.1).2,h.kP⟩
 unfold Go.Proofs.YtignemioillaiabGreat.qx;split
 ·exact .refl o h
 ·split
  ·exact .refl o (RV.OQ HP _ (RV.Uu HP _ h2 (ho.snd _ _ _)))
  ·exact .refl o h2
end
section
variable {A:aT} (HA:bK A) (HP:rQ A) {N:Nat} {Γ:Gh} {R:MR}
include HA HP
theorem RV.promise (o:Γ.Ok R.sc.sz) (h:RV A N Γ R) (ho:Ok A R) {f:Nat×Nat} (hf:f.2<R.sc.sz/\f.2<5) {m:MM} (hv:∀ v∈m.vs,A.gc v.c/\v.slot<60) (hm:m.b.E (Γ.B f.2)/\(∀ v∈m.vs,Γ.P v.b v.slot=some v.c/\v.b.E m.b)/\∀ b s,b.L m.b->Γ.V f.2 b s->∃ v∈m.vs,v.slot=s/\b.E v.b):To A N Γ R (iZ A R f m.b m.vs):=by
 unfold iZ;split
 ·exact .refl o h
 ·rename_i q
  have r:R.sc.role=1:=Classical.byContradiction λ e=>q (.inl e)
  have eb:m.b=R.sc.b:=Classical.byContradiction λ e=>q (.inr e)
  rw [eb] at hm;obtain ⟨m1,m2,m3⟩:=hm;have c:=h.eu r;obtain ⟨d1,d2⟩:=EZ m.vs R.met;have mt:∀ s v,fU R.met m.vs s=some v->Γ.P v.b s=some v.c/\v.b.E R.sc.b:=Ap (P:=λ s (v:MV)=>Γ.P v.b s=some v.c/\v.b.E R.sc.b) m.vs (λ s v e=>c.met e) m2;have h1:RV A N Γ { R with met:=fU R.met m.vs }:=⟨h.fw,h.sn,h.kP,h.one,h.vt,h.wt,h.vv,h.own,h.pQ,λ r0=>(by have r0:R.sc.role=0:=r0;omega),λ _=>⟨λ hk=>⟨(c.prom hk).1,(c.prom hk).2.1,λ l v=>by
   obtain ⟨x,a,b⟩:=(c.prom hk).2.2 l v;obtain ⟨y,p,q⟩:=d1 _ x a;exact ⟨y,p,b.trans q⟩⟩,λ e=>mt _ _ e,λ hp=>by
   obtain ⟨x,a,b⟩:=c.has hp;obtain ⟨y,p,q⟩:=d1 _ x a;rw [b] at q;refine ⟨y,p,?_⟩;rcases (mt _ _ p).2.cases with e | e
   ·exact e
   ·exact (e.no q).elim⟩,λ r=>⟨(h.lead r).1,(h.lead r).2⟩,h.pp,h.ac,h.lg,h.kn,h.st,h.ou,h.ll⟩
  exact RV.yw (R:={ R with met:=fU R.met m.vs }) HA HP o h1 (ho.fU hv) r hf.2 ⟨hf.1,m1,λ l v=>by
   obtain ⟨x,a,b,e⟩:=m3 _ _ l v;obtain ⟨y,p,q⟩:=d2 x a;rw [b] at p;exact ⟨y,p,e.trans q⟩⟩
theorem RV.tick (o:Γ.Ok R.sc.sz) (h:RV A N Γ R) (ho:Ok A R):To A N Γ R (kX A R):=by
 have t1:To A N Γ R (bG A R):=by
  unfold bG;split
  ·rename_i r;exact RV.abl HA HP o h ho r
  ·exact .refl o h
 obtain ⟨o1,_,e1,e2⟩:=ho.bG HA;obtain ⟨Γ',a1,a2,a3⟩:=t1;rw [<- e2] at a2;exact To.step a1 ⟨e1,e2⟩ (RV.qx HP a2 a3 o1)
theorem RV.take2 (o:Γ.Ok R.sc.sz) (h:RV A N Γ R) (ho:Ok A R) {f:Nat×Nat} {m:MM} (gm:GM A R f m) (hs:m.b.n<=R.sc.seen) (hk:3<=m.kind->m.kind<=8->f.1=R.sc.g/\f.2<R.sc.sz/\R.sc.sz≠1/\m.b.id<256/\MF R.sc.sz Γ f.2 m):To A N Γ R (nY A R f m):=by
 unfold nY;split
 ·rename_i k
  unfold uT;split
  ·exact .refl o h
  ·rename_i r
   split
   ·exact .refl o (h.free HP (.inl rfl) _)
   ·exact RV.offer HP o h ho (Classical.byContradiction r) (gm.ask k)
 split
 ·obtain ⟨k1,k2,k3,k4,k5⟩:=hk (by omega) (by omega)
  exact RV.Jt HP o h ho k1 k3 ⟨gm.bn,k4⟩ hs
 split
 ·rename_i k
  obtain ⟨k1,k2,k3,k4,k5⟩:=hk (by omega) (by omega);exact RV.promise HA HP o h ho ⟨k2,(gm.vs k).2.2⟩ (gm.vs k).1 (k5.prom k)
 split
 ·split
  ·exact .refl o h.stand
  ·exact .refl o h
 split
 ·rename_i k
  obtain ⟨k1,k2,k3,k4,k5⟩:=hk (by omega) (by omega);exact RV.xA HP o h ho k1 k3 ⟨gm.bn,k4⟩ hs (gm.acc k).2 (k5.acc k)
 split
 ·rename_i k
  obtain ⟨k1,k2,k3,k4,k5⟩:=hk (by omega) (by omega);unfold tZ;split
  ·rename_i q
   have v:=k5.pK k;rw [q.2] at v;exact .refl o (RV.yo HP o h ho.i.1 (λ c hc=>ho.pp _ _ hc) v)
  ·exact .refl o h
 split
 ·rename_i k
  obtain ⟨k1,k2,k3,k4,k5⟩:=hk (by omega) (by omega);exact .refl o (RV.agree HP h (k5.dec k))
 split
 ·rename_i k
  unfold rF;split
  ·exact .refl o h
  ·rename_i r
   split
   ·exact .refl o (h.free HP (.inr (.inr rfl)) _)
   ·split
    ·exact RV.offer HP o h ho (Classical.byContradiction r) (gm.qy k).2.2.2
    ·exact .refl o h
 split
 ·rename_i k
  have e:(m.peer.toNat:Int)=m.peer:=Int.toNat_of_nonneg (gm.lK k).1;unfold rG;split
  ·exact .refl o h
  ·rename_i r
   split
   ·exact .refl o h
   ·split
    ·exact RV.offer HP o h ho (Classical.byContradiction r) (by rw [e];exact (gm.lK k).2.2)
    ·exact .refl o h
 ·exact .refl o h
theorem RV.take (o:Γ.Ok R.sc.sz) (h:RV A N Γ R) (ho:Ok A R) {f:Nat×Nat} {d:ByteArray} (gm:∀ m,A.dec d=some m->¬ (f.1=255/\m.kind≠1)->GM A R f m) (hk:∀ m,A.dec d=some m->¬ (f.1=255/\m.kind≠1)->3<=m.kind->m.kind<=8->f.1=R.sc.g/\f.2<R.sc.sz/\R.sc.sz≠1/\m.b.id<256/\MF R.sc.sz Γ f.2 m):To A N Γ R (iU A R f d):=by
 unfold iU;split
 ·exact .refl o h
 ·rename_i m hd
  split
  ·exact .refl o h
  ·rename_i q
   have g:=gm m hd q;have h1:RV A N Γ (nC R m):=⟨h.fw,Nat.le_trans h.sn (Nat.le_max_left _ _),h.kP,h.one,h.vt,h.wt,h.vv,h.own,h.pQ,h.r0,λ r=>⟨(h.eu r).1,(h.eu r).2,(h.eu r).3⟩,λ r=>⟨(h.lead r).1,(h.lead r).2⟩,h.pp,h.ac,h.lg,h.kn,h.st,h.ou,h.ll⟩;exact RV.take2 (R:=nC R m) HA HP o h1 (ho.seen g.bn) ⟨g.bn,g.ask,g.vs,g.acc,g.pK,g.dec,g.qy,g.lK⟩ (Nat.le_max_right _ _) (hk m hd q)
end
end
end Go.Proofs.YtignemioillaiabGreat
