/- Ballots and votes of a group: what has been proposed, voted for, promised. -/
import Derived.Test.YtignemioillaiaaGreatG29
namespace Go.Proofs.YtignemioillaiaaGreat
set_option maxHeartbeats 8000000
set_option maxRecDepth 100000
section
open Go Go.Conc
def bF.L (a b:bF):Prop:=a.n<b.n\/a.n=b.n/\a.id<b.id
def bF.E (a b:bF):Prop:=a.n<b.n\/a.n=b.n/\a.id<=b.id
section
variable {a b c:bF}
theorem bF.aaH:a.lt b=true↔a.L b:=by unfold bF.lt bF.L;simp
theorem bF.V5 (h:¬ a.L b):b.E a:=by unfold bF.L at h;unfold bF.E;omega
theorem bF.not_lt (h:¬ a.lt b=true):b.E a:=bF.V5 λ k=>h (bF.aaH.2 k)
theorem bF.E.refl (a:bF):a.E a:=.inr ⟨rfl,Nat.le_refl _⟩
theorem bF.E.trans (h:a.E b) (k:b.E c):a.E c:=by unfold bF.E at *;omega
theorem bF.L.e (h:a.L b):a.E b:=by unfold bF.E;unfold bF.L at h;omega
theorem bF.L.le (h:a.L b) (k:b.E c):a.L c:=by unfold bF.E at k;unfold bF.L at *;omega
theorem bF.L.no (h:a.L b) (k:b.E a):False:=by unfold bF.E at k;unfold bF.L at h;omega
theorem bF.ext' (h:a.n=b.n) (k:a.id=b.id):a=b:=by cases a;cases b;cases h;cases k;rfl
theorem bF.E.cases (h:a.E b):a=b\/a.L b:=by
 by_cases e:a.n=b.n/\a.id=b.id
 ·exact .inl (bF.ext' e.1 e.2)
 ·exact .inr (by unfold bF.E at h;unfold bF.L;omega)
end
def Most (sz:Nat) (p:Nat->Prop):Prop:=∃ m:Nat,2*pc m > sz/\∀ k,k<5->m.testBit k=true->k<sz/\p k
theorem Ff {α:Type} {p q r:α->Bool}:∀ {l:List α},(∀ x∈l,p x=true->q x=true->False)->(∀ x∈l,p x=true\/q x=true->r x=true)->l.countP p+l.countP q<=l.countP r
 | [],_,_=>Nat.le_refl _
 | x::l,h1,h2=>by
  have ih:=Ff (l:=l) (λ y hy=>h1 y (List.mem_cons_of_mem _ hy)) (λ y hy=>h2 y (List.mem_cons_of_mem _ hy));have a1:=h1 x List.mem_cons_self;have a2:=h2 x List.mem_cons_self;simp only [List.countP_cons];cases hp:p x <;> cases hq:q x <;> cases hr:r x <;> simp_all <;> omega
theorem Kv (sz:Nat):∀ n,(List.range n).countP (λ k=>decide (k<sz))<=sz
 | 0=>Nat.zero_le _
 | n+1=>by
  have ih:=Kv sz n;rw [List.range_succ,List.countP_append];by_cases h:n<sz
  ·have:(List.range n).countP (λ k=>decide (k<sz))<=n:=by have:=List.countP_le_length (p:=λ k=>decide (k<sz)) (l:=List.range n);simpa using this
   simp [h];omega
  ·simp [h];omega
theorem Most.meet {sz:Nat} {p q:Nat->Prop} (h:Most sz p) (k:Most sz q):∃ i,p i/\q i:=by
 obtain ⟨m,h1,h2⟩:=h;obtain ⟨n,k1,k2⟩:=k;refine Classical.byContradiction λ no=>?_
 have:=Ff (p:=λ i=>m.testBit i) (q:=λ i=>n.testBit i) (r:=λ i=>decide (i<sz)) (l:=List.range 5) (λ i hi a b=>no ⟨i,(h2 i (List.mem_range.1 hi) a).2,(k2 i (List.mem_range.1 hi) b).2⟩) (λ i hi a=>decide_eq_true (a.elim (λ a=>(h2 i (List.mem_range.1 hi) a).1) (λ a=>(k2 i (List.mem_range.1 hi) a).1)));have:=Kv sz 5;unfold pc at h1 k1;omega
theorem Most.mono {sz:Nat} {p q:Nat->Prop} (h:Most sz p) (k:∀ i,p i->q i):Most sz q:=by
 obtain ⟨m,h1,h2⟩:=h;exact ⟨m,h1,λ i hi hm=>⟨(h2 i hi hm).1,k i (h2 i hi hm).2⟩⟩
theorem Hr {c r k:Nat} (h:(iW c r).testBit k=true):c.testBit k=true\/k=r:=by
 unfold iW at h;rw [Nat.testBit_or,Nat.one_shiftLeft,Nat.testBit_two_pow] at h;simp only [Bool.or_eq_true,decide_eq_true_eq] at h;exact h.imp id Eq.symm
structure Gh where
 P:bF->Nat->Option MC
 V:Nat->bF->Nat->Prop
 B:Nat->bF
def Gh.Safe (sz:Nat) (Γ:Gh) (b:bF) (s:Nat) (c:MC):Prop:=∀ b':bF,b'.L b->Most sz λ k=>b'.L (Γ.B k)/\(Γ.V k b' s->Γ.P b' s=some c)
def Gh.D (sz:Nat) (Γ:Gh) (s:Nat) (c:MC):Prop:=∃ b,Γ.P b s=some c/\Most sz λ k=>Γ.V k b s
structure Gh.Ok (sz:Nat) (Γ:Gh):Prop where
 vp:∀ {i b s},Γ.V i b s->i<sz/\b.E (Γ.B i)/\∃ c,Γ.P b s=some c
 pb:∀ {b s c},Γ.P b s=some c->b.E (Γ.B b.id)/\b.n<=4294967295/\b.id<256
 safe:∀ {b s c},Γ.P b s=some c->Γ.Safe sz b s c
structure Ext (Γ Γ':Gh):Prop where
 P:∀ {b s c},Γ.P b s=some c->Γ'.P b s=some c
 V:∀ {k b s},Γ.V k b s->Γ'.V k b s
 B:∀ k,(Γ.B k).E (Γ'.B k)
 late:∀ {k b s},Γ'.V k b s->b.L (Γ.B k)->Γ.V k b s
structure wI (i:Nat) (Γ Γ':Gh):Prop extends Ext Γ Γ' where
 P':∀ {b s},b.id≠i->Γ'.P b s=Γ.P b s
 V':∀ {k b s},k≠i->Γ'.V k b s->Γ.V k b s
 B':∀ {k},k≠i->Γ'.B k=Γ.B k
section
variable {sz:Nat} {Γ Γ' Γ'':Gh}
theorem Gh.Ok.one (h:Γ.Ok sz) {s:Nat} {c c':MC} (h1:Γ.D sz s c) (h2:Γ.D sz s c'):c=c':=by
 obtain ⟨b,p1,m1⟩:=h1;obtain ⟨b',p2,m2⟩:=h2;by_cases e:b.L b'
 ·obtain ⟨k,⟨_,a1⟩,a2⟩:=(h.safe p2 b e).meet m1
  have:=(a1 a2).symm.trans p1;cases this;rfl
 ·rcases (bF.V5 e).cases with rfl | e
  ·cases p1.symm.trans p2;rfl
  ·obtain ⟨k,⟨_,a1⟩,a2⟩:=(h.safe p1 b' e).meet m2
   have:=(a1 a2).symm.trans p2;cases this;rfl
theorem Ext.refl (Γ:Gh):Ext Γ Γ:=⟨λ h=>h,λ h=>h,λ _=>.refl _,λ h _=>h⟩
theorem Ext.trans (h:Ext Γ Γ') (k:Ext Γ' Γ''):Ext Γ Γ'':=⟨λ x=>k.P (h.P x),λ x=>k.V (h.V x),λ i=>(h.B i).trans (k.B i),λ x l=>h.late (k.late x (l.le (h.B _))) l⟩
theorem wI.refl (i:Nat) (Γ:Gh):wI i Γ Γ:=⟨.refl _,λ _=>rfl,λ _ h=>h,λ _=>rfl⟩
theorem wI.trans {i:Nat} (h:wI i Γ Γ') (k:wI i Γ' Γ''):wI i Γ Γ'':=⟨h.toExt.trans k.toExt,λ e=>(k.P' e).trans (h.P' e),λ e x=>h.V' e (k.V' e x),λ e=>(k.B' e).trans (h.B' e)⟩
theorem Gh.Safe.ext (e:Ext Γ Γ') {b:bF} {s:Nat} {c:MC} (h:Γ.Safe sz b s c):Γ'.Safe sz b s c:=λ b' l=>(h b' l).mono λ k ⟨h1,h2⟩=>⟨h1.le (e.B k),λ v=>e.P (h2 (e.late v h1))⟩
theorem Gh.D.ext (e:Ext Γ Γ') {s:Nat} {c:MC} (h:Γ.D sz s c):Γ'.D sz s c:=by
 obtain ⟨b,h1,h2⟩:=h;exact ⟨b,e.P h1,h2.mono λ _=>e.V⟩
end
def Gh.add (Γ:Gh) (i:Nat) (b:bF) (s:Nat) (c:MC):Gh:=⟨λ b' s'=>if b'=b/\s'=s then some c else Γ.P b' s',λ k b' s'=>(k=i/\b'=b/\s'=s)\/Γ.V k b' s',Γ.B⟩
def Gh.rise (Γ:Gh) (i:Nat) (b:bF):Gh:=⟨Γ.P,Γ.V,λ k=>if k=i then b else Γ.B k⟩
section
variable {sz:Nat} {Γ:Gh} {i:Nat} {b:bF}
theorem Gh.abM {s:Nat} {c:MC} (h:Γ.P b s=none\/Γ.P b s=some c) {b':bF} {s':Nat} {c':MC} (k:Γ.P b' s'=some c'):(Γ.add i b s c).P b' s'=some c':=by
 unfold Gh.add;show (if _ then _ else _)=_;split
 ·rename_i e
  obtain ⟨rfl,rfl⟩:=e;rcases h with h | h
  ·rw [h] at k;cases k
  ·exact h.symm.trans k
 ·exact k
theorem Gh.za {s:Nat} {c:MC} (h:Γ.P b s=none/\b.id=i\/Γ.P b s=some c) (hb:Γ.B i=b):wI i Γ (Γ.add i b s c):=by
 have h':Γ.P b s=none\/Γ.P b s=some c:=h.imp (λ h=>h.1) λ h=>h
 refine ⟨⟨λ k=>Gh.abM h' k,λ v=>.inr v,λ _=>.refl _,λ v l=>?_⟩,λ {b' s'} e=>?_,λ e v=>?_,λ _=>rfl⟩
 ·rcases v with ⟨rfl,rfl,rfl⟩ | v
  ·rw [hb] at l;exact (l.no (.refl _)).elim
  ·exact v
 ·show (if _ then _ else _)=_
  split
  ·rename_i f
   obtain ⟨rfl,rfl⟩:=f;rcases h with h | h
   ·exact (e h.2).elim
   ·exact h.symm
  ·rfl
 ·rcases v with ⟨f,_⟩ | v
  ·exact (e f).elim
  ·exact v
theorem Gh.Ok.add (o:Γ.Ok sz) {s:Nat} {c:MC} (h:Γ.P b s=none/\b.id=i\/Γ.P b s=some c) (hb:Γ.B i=b) (hi:i<sz) (h8:b.n<=4294967295/\b.id<256) (hs:Γ.Safe sz b s c):(Γ.add i b s c).Ok sz:=by
 have e:=(Gh.za h hb).toExt;refine ⟨λ v=>?_,λ {b' s' c'} p=>?_,λ {b' s' c'} p=>?_⟩
 ·rcases v with ⟨rfl,rfl,rfl⟩ | v
  ·exact ⟨hi,by show bF.E _ (Γ.B _);rw [hb];exact .refl _,c,if_pos ⟨rfl,rfl⟩⟩
  ·obtain ⟨a1,a2,c',a3⟩:=o.vp v
   exact ⟨a1,a2,c',e.P a3⟩
 ·replace p:(if b'=b/\s'=s then some c else Γ.P b' s')=some c':=p
  split at p
  ·rename_i f
   obtain ⟨rfl,rfl⟩:=f;refine ⟨?_,h8⟩;show bF.E b' (Γ.B b'.id);rcases h with h | h
   ·rw [h.2,hb];exact .refl _
   ·exact (o.pb h).1
  ·exact o.pb p
 ·replace p:(if b'=b/\s'=s then some c else Γ.P b' s')=some c':=p
  split at p
  ·rename_i f
   obtain ⟨rfl,rfl⟩:=f;cases p
   exact hs.ext e
  ·exact (o.safe p).ext e
theorem Gh.wK (h:(Γ.B i).E b):wI i Γ (Γ.rise i b):=by
 refine ⟨⟨λ h=>h,λ h=>h,λ k=>?_,λ h _=>h⟩,λ _=>rfl,λ _ h=>h,λ e=>if_neg e⟩;show bF.E _ (if _ then _ else _);split
 ·rename_i e;subst e;exact h
 ·exact .refl _
theorem Gh.Ok.rise (o:Γ.Ok sz) (h:(Γ.B i).E b):(Γ.rise i b).Ok sz:=by
 have e:=(Gh.wK h).toExt;refine ⟨λ v=>?_,λ p=>?_,λ p=>(o.safe p).ext e⟩
 ·obtain ⟨a1,a2,a3⟩:=o.vp v
  exact ⟨a1,a2.trans (e.B _),a3⟩
 ·obtain ⟨a1,a2⟩:=o.pb p
  exact ⟨a1.trans (e.B _),a2⟩
theorem Gh.RF:(Γ.rise i b).B i=b:=if_pos rfl
end
def bF.W (b:bF):Prop:=b.n<=4294967295/\b.id<256
structure MF (sz:Nat) (Γ:Gh) (j:Nat) (m:MM):Prop where
 prom:m.kind=4->m.b.E (Γ.B j)/\(∀ v∈m.vs,Γ.P v.b v.slot=some v.c/\v.b.E m.b)/\∀ b s,b.L m.b->Γ.V j b s->∃ v∈m.vs,v.slot=s/\b.E v.b
 acc:m.kind=6->Γ.P m.b m.s=some m.c
 pO:m.kind=7->Γ.V j m.b m.s
 dec:m.kind=8->Γ.D sz m.s m.c
def PF (A:aT) (sz:Nat) (Γ:Gh) (g j:Nat) (p:bG):Prop:=∀ m,A.dec p.d=some m->MF sz Γ j m/\(3<=m.kind->m.kind<=8->p.tg=g/\sz≠1/\m.b.id<256)
structure rU (A:aT):Prop where
 fC:∀ {k:Int} {b:bF} {m:MM},k=3\/k=5->b.W->A.dec (A.enc { aQ k with b:=b })=some m->m={ aQ k with b:=b }
 prom:∀ {b:bF} {vs:List MV} {m:MM},b.W->vs.length<=60->(∀ v∈vs,A.gc v.c/\v.slot<60/\v.b.W)->A.dec (A.enc { aQ 4 with b:=b,vs:=vs })=some m->m={ aQ 4 with b:=b,vs:=vs }
 acc:∀ {b:bF} {s:Nat} {c:MC} {m:MM},b.W->s<60->A.gc c->A.dec (A.enc { aQ 6 with b:=b,s:=s,c:=c })=some m->m={ aQ 6 with b:=b,s:=s,c:=c }
 pO:∀ {b:bF} {s:Nat} {m:MM},b.W->s<60->A.dec (A.enc { aQ 7 with b:=b,s:=s })=some m->m={ aQ 7 with b:=b,s:=s }
 dec:∀ {s:Nat} {c:MC} {m:MM},s<60->A.gc c->A.dec (A.enc { aQ 8 with s:=s,c:=c })=some m->m={ aQ 8 with s:=s,c:=c }
 rest:∀ {m m':MM},m.kind=2\/m.kind=9\/m.kind=10->A.dec (A.enc m)=some m'->m'.kind=m.kind
structure aeh (Γ:Gh) (R:MR):Prop where
 prom:∀ {k},R.sc.prom.testBit k=true->k<R.sc.sz/\R.sc.b.E (Γ.B k)/\∀ {b s},b.L R.sc.b->Γ.V k b s->∃ v,R.met s=some v/\b.E v.b
 met:∀ {s v},R.met s=some v->Γ.P v.b s=some v.c/\v.b.E R.sc.b
 has:∀ {s c},Γ.P R.sc.b s=some c->∃ v,R.met s=some v/\v.b=R.sc.b
structure aei (Γ:Gh) (R:MR):Prop where
 none:∀ {s},R.sc.next<=s->Γ.P R.sc.b s=none
 most:Most R.sc.sz λ k=>R.sc.b.E (Γ.B k)/\∀ s,R.sc.next<=s->∀ b:bF,b.L R.sc.b->¬ Γ.V k b s
structure RV (A:aT) (N:Nat) (Γ:Gh) (R:MR):Prop where
 fC:Γ.B R.sc.i=R.sc.b
 sn:R.sc.b.n<=R.sc.seen
 kR:R.sc.b.id<256
 one:R.sc.sz=1->R.sc.b=⟨0,0⟩
 vt:∀ {s v},R.cB s=some v->Γ.V R.sc.i v.b s/\Γ.P v.b s=some v.c
 wt:∀ {s v},R.fB s=some v->Γ.V R.sc.i v.b s/\Γ.P v.b s=some v.c
 vv:∀ {b s},Γ.V R.sc.i b s->∃ v,R.cB s=some v/\b.E v.b
 own:R.sc.b.id=R.sc.i->∀ {s c},Γ.P R.sc.b s=some c->∃ v,R.cB s=some v/\v.b=R.sc.b
 pU:R.sc.role≠0->R.sc.b.id=R.sc.i
 r0:R.sc.role=0->R.sc.prom=0/\∀ s,R.met s=none
 eD:R.sc.role=1->aeh Γ R
 lead:R.sc.role=2->aei Γ R
 pp:∀ {s c},R.props s=some c->R.sc.role=2/\Γ.P R.sc.b s=some c
 ac:∀ {s a},R.acc s=some a->R.sc.role=2/\∀ {k},a.testBit k=true->Γ.V k R.sc.b s
 lg:∀ {k c},R.log[k]? = some c->Γ.D R.sc.sz k c
 kn:∀ {k c},R.known k=some c->Γ.D R.sc.sz k c
 st:R.st=R.log.foldl (λ s c=>(A.ap s c).1) (A.bg R.sc.g R.sc.gs)
 ou:∀ p∈R.out,PF A R.sc.sz Γ R.sc.g R.sc.i p
 ll:N<=R.log.length
theorem MF.ext {sz j:Nat} {Γ Γ':Gh} (e:Ext Γ Γ') {m:MM} (h:MF sz Γ j m):MF sz Γ' j m:=by
 refine ⟨λ k=>?_,λ k=>e.P (h.acc k),λ k=>e.V (h.pO k),λ k=>(h.dec k).ext e⟩;obtain ⟨h1,h2,h3⟩:=h.prom k;exact ⟨h1.trans (e.B j),λ v hv=>⟨e.P (h2 v hv).1,(h2 v hv).2⟩,λ b s l v=>h3 b s l (e.late v (l.le h1))⟩
theorem PF.ext {A:aT} {sz g j:Nat} {Γ Γ':Gh} (e:Ext Γ Γ') {p:bG} (h:PF A sz Γ g j p):PF A sz Γ' g j p:=λ m hm=>⟨(h m hm).1.ext e,(h m hm).2⟩
theorem PF.of {A:aT} {sz g j:Nat} {Γ:Gh} {p:bG} {m:MM} (hb:∀ m',A.dec p.d=some m'->m'=m) (hm:MF sz Γ j m) (ht:p.tg=g/\sz≠1/\m.b.id<256):PF A sz Γ g j p:=λ m' hd=>by
 rw [hb m' hd];exact ⟨hm,λ _ _=>ht⟩
section
variable {A:aT} {N:Nat} {Γ Γ':Gh} {R:MR}
theorem RV.other {i:Nat} (h:RV A N Γ R) (e:wI i Γ Γ') (ne:R.sc.i≠i):RV A N Γ' R:=by
 have x:=e.toExt;refine ⟨(e.B' ne).trans h.fC,h.sn,h.kR,h.one,λ hv=>⟨x.V (h.vt hv).1,x.P (h.vt hv).2⟩,λ hv=>⟨x.V (h.wt hv).1,x.P (h.wt hv).2⟩,λ hv=>h.vv (e.V' ne hv),λ hi s c hp=>h.own hi ((e.P' (λ q=>ne (hi.symm.trans q))).symm.trans hp),h.pU,h.r0,λ r=>?_,λ r=>?_,λ hp=>⟨(h.pp hp).1,x.P (h.pp hp).2⟩,λ ha=>⟨(h.ac ha).1,λ hk=>x.V ((h.ac ha).2 hk)⟩,λ hk=>(h.lg hk).ext x,λ hk=>(h.kn hk).ext x,h.st,λ p hp=>(h.ou p hp).ext x,h.ll⟩
 ·have c:=h.eD r
  have ri:R.sc.b.id≠i:=by rw [h.pU (by omega)];exact ne
  exact ⟨λ hk=>⟨(c.prom hk).1,(c.prom hk).2.1.trans (x.B _),λ l v=>(c.prom hk).2.2 l (x.late v (l.le (c.prom hk).2.1))⟩,λ hm=>⟨x.P (c.met hm).1,(c.met hm).2⟩,λ hp=>c.has ((e.P' ri).symm.trans hp)⟩
 ·have c:=h.lead r
  have ri:R.sc.b.id≠i:=by rw [h.pU (by omega)];exact ne
  exact ⟨λ hs=>(e.P' ri).trans (c.none hs),c.most.mono λ k ⟨a1,a2⟩=>⟨a1.trans (x.B k),λ s hs b l v=>a2 s hs b l (x.late v (l.le a1))⟩⟩
theorem RV.out (h:RV A N Γ R) {o:List bG} (ho:∀ p∈o,PF A R.sc.sz Γ R.sc.g R.sc.i p):RV A N Γ { R with out:=o } :=
 ⟨h.fC,h.sn,h.kR,h.one,h.vt,h.wt,h.vv,h.own,h.pU,h.r0,λ r=>⟨(h.eD r).1,(h.eD r).2,(h.eD r).3⟩,λ r=>⟨(h.lead r).1,(h.lead r).2⟩,h.pp,h.ac,h.lg,h.kn,h.st,ho,h.ll⟩
theorem RV.snd (h:RV A N Γ R) {m:MM} {tl:List (Nat×Nat)} (hm:∀ t∈tl,PF A R.sc.sz Γ R.sc.g R.sc.i (toP R (A.enc m) t)):RV A N Γ (lL A.enc R m tl):=by
 refine h.out λ p hp=>?_
 rcases List.mem_append.1 hp with hp | hp
 ·exact h.ou p hp
 ·obtain ⟨t,ht,rfl⟩:=List.mem_map.1 hp
  exact hm t ht
theorem RV.stand (h:RV A N Γ R):RV A N Γ (fG R) :=
 ⟨h.fC,h.sn,h.kR,h.one,h.vt,h.wt,h.vv,h.own,λ r=>(r rfl).elim,λ _=>⟨rfl,λ _=>rfl⟩,λ r=>absurd (show (0:Nat)=1 from r) (by decide),λ r=>absurd (show (0:Nat)=2 from r) (by decide),nofun,nofun,h.lg,h.kn,h.st,h.ou,h.ll⟩
theorem RV.rise {b:bF} {sn:Nat} (o:Γ.Ok R.sc.sz) (h:RV A N Γ R) (h0:R.sc.role=0) (hb:R.sc.b.L b) (hn:b.n<=sn) (h8:b.id<256) (h1:R.sc.sz≠1):RV A N (Γ.rise R.sc.i b) { R with sc:={ R.sc with b:=b,seen:=sn } }/\∀ s c,b.id=R.sc.i->Γ.P b s≠some c:=by
 have fresh:∀ s c,b.id=R.sc.i->Γ.P b s≠some c:=λ s c hi hp=>by
  have:=(o.pb hp).1;rw [hi,h.fC] at this;exact hb.no this
 have x:=(Gh.wK (Γ:=Γ) (i:=R.sc.i) (b:=b) (by rw [h.fC];exact hb.e)).toExt;refine ⟨⟨Gh.RF,hn,h8,λ e=>(h1 e).elim,h.vt,h.wt,h.vv,λ hi s c hp=>(fresh s c hi hp).elim,λ r=>(r h0).elim,h.r0,λ r=>?_,λ r=>?_,λ hp=>?_,λ ha=>?_,λ hk=>(h.lg hk).ext x,λ hk=>(h.kn hk).ext x,h.st,λ p hp=>(h.ou p hp).ext x,h.ll⟩,fresh⟩
 ·have r:R.sc.role=1:=r
  omega
 ·have r:R.sc.role=2:=r
  omega
 ·have:=(h.pp hp).1;omega
 ·have:=(h.ac ha).1;omega
theorem xU {α:Type} (f:Nat->Option α) (k:Nat) (x:Option α):upd f k x k=x:=if_pos rfl
theorem upd_ne {α:Type} (f:Nat->Option α) {k j:Nat} (x:Option α) (h:j≠k):upd f k x j=f j:=if_neg h
theorem RV.Db {s:Nat} {c:MC} (o:Γ.Ok R.sc.sz) (h:RV A N Γ R) (hP:Γ.P R.sc.b s=none\/Γ.P R.sc.b s=some c) (hs:Γ.P R.sc.b s=some c\/R.sc.role=2/\s<R.sc.next):RV A N (Γ.add R.sc.i R.sc.b s c) (rG R s c):=by
 have hP':Γ.P R.sc.b s=none/\R.sc.b.id=R.sc.i\/Γ.P R.sc.b s=some c:=by
  rcases hs with hs | ⟨hs,_⟩
  ·exact .inr hs
  ·exact hP.imp (λ e=>⟨e,h.pU (by omega)⟩) id
 have x:=(Gh.za hP' h.fC).toExt;have new:(Γ.add R.sc.i R.sc.b s c).P R.sc.b s=some c:=if_pos ⟨rfl,rfl⟩;have old:∀ {b s'},s'≠s->(Γ.add R.sc.i R.sc.b s c).P b s'=Γ.P b s':=λ e=>if_neg λ q=>e q.2
 refine ⟨h.fC,h.sn,h.kR,h.one,λ {s' v} hv=>?_,λ hv=>⟨x.V (h.wt hv).1,x.P (h.wt hv).2⟩,λ {b s'} hv=>?_,λ hi s' c' hp=>?_,h.pU,h.r0,λ r=>?_,λ r=>?_,λ hp=>⟨(h.pp hp).1,x.P (h.pp hp).2⟩,λ ha=>⟨(h.ac ha).1,λ hk=>x.V ((h.ac ha).2 hk)⟩,λ hk=>(h.lg hk).ext x,λ hk=>(h.kn hk).ext x,h.st,λ p hp=>(h.ou p hp).ext x,h.ll⟩
 ·have hv:upd R.cB s (some ⟨s,R.sc.b,c⟩) s'=some v:=hv
  by_cases e:s'=s
  ·subst e
   rw [xU] at hv;cases hv
   exact ⟨.inl ⟨rfl,rfl,rfl⟩,new⟩
  ·rw [upd_ne _ _ e] at hv
   exact ⟨x.V (h.vt hv).1,x.P (h.vt hv).2⟩
 ·show ∃ v,upd R.cB s (some ⟨s,R.sc.b,c⟩) s'=some v/\_
  by_cases e:s'=s
  ·subst e
   refine ⟨_,xU _ _ _,?_⟩;rcases hv with ⟨_,rfl,_⟩ | hv
   ·exact .refl _
   ·have:b.E (Γ.B R.sc.i):=(o.vp hv).2.1
    rw [h.fC] at this;exact this
  ·rw [upd_ne _ _ e]
   rcases hv with ⟨_,_,q⟩ | hv
   ·exact (e q).elim
   ·exact h.vv hv
 ·show ∃ v,upd R.cB s (some ⟨s,R.sc.b,c⟩) s'=some v/\_
  by_cases e:s'=s
  ·subst e
   exact ⟨_,xU _ _ _,rfl⟩
  ·rw [upd_ne _ _ e]
   exact h.own hi ((old e).symm.trans hp)
 ·have r:R.sc.role=1:=r
  have cc:=h.eD r;have hp:Γ.P R.sc.b s=some c:=hs.elim id λ q=>by omega
  refine ⟨λ hk=>⟨(cc.prom hk).1,(cc.prom hk).2.1,λ l v=>(cc.prom hk).2.2 l (x.late v (l.le (cc.prom hk).2.1))⟩,λ hm=>⟨x.P (cc.met hm).1,(cc.met hm).2⟩,λ {s' c'} hq=>?_⟩;by_cases e:s'=s
  ·subst e;exact cc.has hp
  ·exact cc.has ((old e).symm.trans hq)
 ·have r:R.sc.role=2:=r
  have cc:=h.lead r;refine ⟨λ {s'} hn=>?_,cc.most.mono λ k ⟨a1,a2⟩=>⟨a1,λ s' hn b l v=>a2 s' hn b l (x.late v (l.le a1))⟩⟩;have hn:R.sc.next<=s':=hn;by_cases e:s'=s
  ·subst e
   rcases hs with hs | hs
   ·have:=cc.none hn;rw [hs] at this;cases this
   ·omega
  ·exact (old e).trans (cc.none hn)
end
theorem xV {g i sz:Nat} {t:Nat×Nat} (h:t∈gG g i g sz) (hi:i<sz):t.1=g/\sz≠1:=by
 unfold gG at h;obtain ⟨j,hj,rfl⟩:=List.mem_map.1 h;obtain ⟨h1,h2⟩:=List.mem_filter.1 hj;have h1:=List.mem_range.1 h1;refine ⟨rfl,λ e=>?_⟩;have:j=i:=by omega
 subst this;simp at h2
theorem xW {R:MR} {d:ByteArray} {t:Nat×Nat} {g:Nat} (h:t.1=g):(toP R d t).tg=g:=by rw [<- h];rfl
section
variable {A:aT} (HP:rU A) {N:Nat} {Γ:Gh} {R:MR}
include HP
theorem PF.free {sz g j:Nat} {p:bG} {m:MM} (hd:p.d=A.enc m) (hk:m.kind=2\/m.kind=9\/m.kind=10):PF A sz Γ g j p:=λ m' h=>by
 rw [hd] at h;have:=HP.rest hk h;exact ⟨⟨λ e=>by omega,λ e=>by omega,λ e=>by omega,λ e=>by omega⟩,λ _ _=>by omega⟩
theorem RV.free (h:RV A N Γ R) {m:MM} (hk:m.kind=2\/m.kind=9\/m.kind=10) (tl:List (Nat×Nat)):RV A N Γ (lL A.enc R m tl):=h.snd λ _ _=>PF.free HP (m:=m) rfl hk
theorem RV.ans (h:RV A N Γ R) (c:MC) (p:az):RV A N Γ (nQ A R c p):=by
 unfold nQ;split
 ·exact h.free HP (.inl rfl) _
 ·split
  ·exact h.free HP (.inr (.inr rfl)) _
  ·exact h
theorem RV.do (h:RV A N Γ R) {c:MC} (hd:Γ.D R.sc.sz R.log.length c):RV A N Γ (qj A R c):=by
 have h1:RV A N Γ { R with st:=(A.ap R.st c).1,log:=R.log++[c] }:=⟨h.fC,h.sn,h.kR,h.one,h.vt,h.wt,h.vv,h.own,h.pU,h.r0,λ r=>⟨(h.eD r).1,(h.eD r).2,(h.eD r).3⟩,λ r=>⟨(h.lead r).1,(h.lead r).2⟩,h.pp,h.ac,λ {k x} hk=>by
  have hk:(R.log++[c])[k]? = some x:=hk;rw [List.getElem?_append] at hk;split at hk
  ·exact h.lg hk
  ·rename_i hn
   have:k=R.log.length:=by
    have:=(List.getElem?_eq_some_iff.1 hk).1;simp at this;omega
   subst this;simp at hk;rw [<- hk];exact hd,h.kn,by
  show (A.ap R.st c).1=(R.log++[c]).foldl _ _;rw [List.foldl_append,<- h.st];rfl,h.ou,by show N<=(R.log++[c]).length;have:=h.ll;simp;omega⟩
 unfold qj;split
 ·exact h1.ans HP _ _
 ·exact h1
omit HP in
theorem RV.known (h:RV A N Γ R) {f:Nat->Option MC} (hf:∀ {k c},f k=some c->Γ.D R.sc.sz k c):RV A N Γ { R with known:=f }:=⟨h.fC,h.sn,h.kR,h.one,h.vt,h.wt,h.vv,h.own,h.pU,h.r0,λ r=>⟨(h.eD r).1,(h.eD r).2,(h.eD r).3⟩,λ r=>⟨(h.lead r).1,(h.lead r).2⟩,h.pp,h.ac,h.lg,hf,h.st,h.ou,h.ll⟩
theorem RV.catch:∀ (n:Nat) {R:MR},RV A N Γ R->RV A N Γ (fU A n R)
 | 0,_,h=>h
 | n+1,R,h=>by
  unfold fU;split
  ·exact h
  ·rename_i c hc
   have h1:=h.known (f:=upd R.known R.log.length none) λ {k d} hd=>by
    unfold upd at hd;split at hd
    ·cases hd
    ·exact h.kn hd
   exact RV.catch n (h1.do HP (h.kn hc))
theorem RV.agree (h:RV A N Γ R) {s:Nat} {c:MC} (hd:Γ.D R.sc.sz s c):RV A N Γ (iT A R s c):=by
 unfold iT;split
 ·exact h
 ·refine RV.catch HP _ ⟨h.fC,h.sn,h.kR,h.one,h.vt,h.wt,h.vv,h.own,h.pU,h.r0,λ r=>⟨(h.eD r).1,(h.eD r).2,(h.eD r).3⟩,λ r=>⟨λ hs=>(h.lead r).1 (Nat.le_trans (Nat.le_max_left _ _) hs),(h.lead r).2.mono λ k ⟨a1,a2⟩=>⟨a1,λ s' hs=>a2 s' (Nat.le_trans (Nat.le_max_left _ _) hs)⟩⟩,λ {k x} hp=>?_,λ {k x} hp=>?_,h.lg,λ {k x} hp=>?_,h.st,h.ou,h.ll⟩
  ·have hp:upd R.props s none k=some x:=hp
   unfold upd at hp;split at hp
   ·cases hp
   ·exact h.pp hp
  ·have hp:upd R.acc s none k=some x:=hp
   unfold upd at hp;split at hp
   ·cases hp
   ·exact h.ac hp
  ·have hp:upd R.known s (some c) k=some x:=hp
   unfold upd at hp;split at hp
   ·rename_i e;cases hp;subst e;exact hd
   ·exact h.kn hp
theorem RV.yC (o:Γ.Ok R.sc.sz) (h:RV A N Γ R) (hi:R.sc.i<R.sc.sz) {s k:Nat} (hg:∀ c,R.props s=some c->A.gc c/\s<60) (hv:Γ.V k R.sc.b s):RV A N Γ (jr A R s k):=by
 unfold jr;split
 ·exact h
 ·rename_i c hc
  obtain ⟨r2,hp⟩:=h.pp hc;have bits:∀ {j},(fV R s k).testBit j=true->Γ.V j R.sc.b s:=λ {j} hj=>by
   rcases Hr hj with hj | rfl
   ·cases ha:R.acc s with
    | none=>rw [ha] at hj;simp at hj
    | some a=>rw [ha] at hj;exact (h.ac ha).2 hj
   ·exact hv
  have h1:RV A N Γ { R with acc:=upd R.acc s (some (fV R s k)) }:=⟨h.fC,h.sn,h.kR,h.one,h.vt,h.wt,h.vv,h.own,h.pU,h.r0,λ r=>⟨(h.eD r).1,(h.eD r).2,(h.eD r).3⟩,λ r=>⟨(h.lead r).1,(h.lead r).2⟩,h.pp,λ {t a} ha=>by
   have ha:upd R.acc s (some (fV R s k)) t=some a:=ha;unfold upd at ha;split at ha
   ·rename_i e;cases ha;subst e;exact ⟨r2,bits⟩
   ·exact h.ac ha,h.lg,h.kn,h.st,h.ou,h.ll⟩
  split
  ·rename_i hm
   have hd:Γ.D R.sc.sz s c:=⟨_,hp,_,hm,λ j _ hj=>⟨(o.vp (bits hj)).1,bits hj⟩⟩;refine RV.agree HP (h1.snd λ t ht=>PF.of (m:={ aQ 8 with s:=s,c:=c }) (λ m' hd=>HP.dec (hg c hc).2 (hg c hc).1 hd) ⟨nofun,nofun,nofun,λ _=>hd⟩ ?_) hd;obtain ⟨t1,t2⟩:=xV ht hi;exact ⟨xW t1,t2,Nat.zero_lt_succ _⟩
  ·exact h1
theorem RV.sa (h:RV A N Γ R) (hi:R.sc.i<R.sc.sz) (hn:R.sc.b.n<=4294967295) {s:Nat} {c:MC} (hs:s<60) (hc:A.gc c) (hp:Γ.P R.sc.b s=some c):RV A N Γ (Jt A.enc R s c):=h.snd λ _t ht=>PF.of (m:={ aQ 6 with b:=R.sc.b,s:=s,c:=c }) (λ _m' hd=>HP.acc ⟨hn,h.kR⟩ hs hc hd) ⟨nofun,λ _=>hp,nofun,nofun⟩ ⟨xW (xV ht hi).1,(xV ht hi).2,h.kR⟩
theorem RV.prop (o:Γ.Ok R.sc.sz) (h:RV A N Γ R) (hi:R.sc.i<R.sc.sz) (hb:R.sc.b.n<=4294967295) {s:Nat} {c:MC} (r:R.sc.role=2) (hn:s<R.sc.next) (hP:Γ.P R.sc.b s=none\/Γ.P R.sc.b s=some c) (hs:Γ.Safe R.sc.sz R.sc.b s c) (hc:A.gc c) (uW:s<60):wI R.sc.i Γ (Γ.add R.sc.i R.sc.b s c)/\(Γ.add R.sc.i R.sc.b s c).Ok R.sc.sz/\RV A N (Γ.add R.sc.i R.sc.b s c) (ik A R s c):=by
 have ri:=h.pU (by omega);have hP':Γ.P R.sc.b s=none/\R.sc.b.id=R.sc.i\/Γ.P R.sc.b s=some c:=hP.imp (λ e=>⟨e,ri⟩) id;have o1:=o.add hP' h.fC hi ⟨hb,h.kR⟩ hs;have new:(Γ.add R.sc.i R.sc.b s c).P R.sc.b s=some c:=if_pos ⟨rfl,rfl⟩;have h1:=h.Db o hP (.inr ⟨r,hn⟩);have h2:RV A N (Γ.add R.sc.i R.sc.b s c) (rG { R with props:=upd R.props s (some c) } s c):=⟨h1.fC,h1.sn,h1.kR,h1.one,h1.vt,h1.wt,h1.vv,h1.own,h1.pU,h1.r0,λ r=>⟨(h1.eD r).1,(h1.eD r).2,(h1.eD r).3⟩,λ r=>⟨(h1.lead r).1,(h1.lead r).2⟩,λ {t x} hp=>by
  have hp:upd R.props s (some c) t=some x:=hp;unfold upd at hp;split at hp
  ·rename_i e;cases hp;subst e;exact ⟨r,new⟩
  ·exact h1.pp hp,h1.ac,h1.lg,h1.kn,h1.st,h1.ou,h1.ll⟩
 refine ⟨Gh.za hP' h.fC,o1,?_⟩;refine RV.yC (R:=Jt A.enc (rG { R with props:=upd R.props s (some c) } s c) s c) HP o1 (h2.sa HP hi hb uW hc new) hi (λ x hx=>?_) (.inl ⟨rfl,rfl,rfl⟩);have hx:upd R.props s (some c) s=some x:=hx;rw [xU] at hx;cases hx
 exact ⟨hc,uW⟩
end
def To (A:aT) (N:Nat) (Γ:Gh) (R R':MR):Prop:=∃ Γ',wI R.sc.i Γ Γ'/\Γ'.Ok R.sc.sz/\RV A N Γ' R'
theorem To.refl {A:aT} {N:Nat} {Γ:Gh} {R R':MR} (o:Γ.Ok R.sc.sz) (h:RV A N Γ R'):To A N Γ R R':=⟨Γ,.refl _ _,o,h⟩
section
variable {A:aT} (HP:rU A) {N:Nat} {Γ:Gh} {R:MR}
include HP
theorem RV.offer (o:Γ.Ok R.sc.sz) (h:RV A N Γ R) (ho:Ok A R) (r:R.sc.role=2) {c:MC} (hc:A.gc c):To A N Γ R (fZ A R c):=by
 unfold fZ;split
 ·exact .refl o h
 ·rename_i hn
  have l:=h.lead r;have uW:R.sc.next<60:=by omega
  have h1:RV A N Γ { R with sc:={ R.sc with next:=R.sc.next+1 } }:=⟨h.fC,h.sn,h.kR,h.one,h.vt,h.wt,h.vv,h.own,h.pU,h.r0,λ r=>⟨(h.eD r).1,(h.eD r).2,(h.eD r).3⟩,λ _=>⟨λ hs=>l.1 (Nat.le_of_succ_le hs),l.2.mono λ k ⟨a1,a2⟩=>⟨a1,λ s' hs=>a2 s' (Nat.le_of_succ_le hs)⟩⟩,h.pp,h.ac,h.lg,h.kn,h.st,h.ou,h.ll⟩;exact ⟨_,RV.prop (R:={ R with sc:={ R.sc with next:=R.sc.next+1 } }) HP o h1 ho.i.1 ho.sn.2.1 r (Nat.lt_succ_self R.sc.next) (.inl (l.none (Nat.le_refl _))) (λ b' lt=>l.most.mono λ k ⟨a1,a2⟩=>⟨lt.le a1,λ v=>(a2 _ (Nat.le_refl _) b' lt v).elim⟩) hc uW⟩
end
theorem M9 {f:Nat->Option MV}:∀ (l:List Nat) (a:Nat),a<=l.foldl (λ a k=>if (f k).isSome=true then max a (k+1) else a) a/\∀ k∈l,(f k).isSome=true->k+1<=l.foldl (λ a k=>if (f k).isSome=true then max a (k+1) else a) a
 | [],a=>⟨Nat.le_refl _,λ _ h=>by cases h⟩
 | x::l,a=>by
  obtain ⟨h1,h2⟩:=M9 (f:=f) l (if (f x).isSome=true then max a (x+1) else a);refine ⟨Nat.le_trans ?_ h1,λ k hk hs=>?_⟩
  ·split
   ·exact Nat.le_max_left _ _
   ·exact Nat.le_refl _
  ·rcases List.mem_cons.1 hk with rfl | hk
   ·refine Nat.le_trans ?_ h1
    rw [if_pos hs];exact Nat.le_max_right _ _
   ·exact h2 k hk hs
theorem UK {f:Nat->Option MV} {n0 k:Nat} {v:MV} (h:f k=some v) (hk:k<60):k<iK f n0:=(M9 (f:=f) (List.range 60) n0).2 k (List.mem_range.2 hk) (by rw [h];rfl)
section
variable {A:aT} {R:MR} {s:Nat} {c:MC}
theorem RG:(qj A R c).sc=R.sc/\(qj A R c).met=R.met:=by
 unfold qj nQ;split
 ·split
  ·exact ⟨rfl,rfl⟩
  ·split <;> exact ⟨rfl,rfl⟩
 ·exact ⟨rfl,rfl⟩
theorem Bi:∀ (n:Nat) {R:MR},(fU A n R).sc=R.sc/\(fU A n R).met=R.met
 | 0,_=>⟨rfl,rfl⟩
 | n+1,R=>by
  unfold fU;split
  ·exact ⟨rfl,rfl⟩
  ·obtain ⟨h1,h2⟩:=Bi n (R:=qj A { R with known:=upd R.known R.log.length none } _)
   exact ⟨h1.trans RG.1,h2.trans RG.2⟩
theorem RH (h:s<R.sc.next):(iT A R s c).sc=R.sc/\(iT A R s c).met=R.met:=by
 unfold iT;split
 ·exact ⟨rfl,rfl⟩
 ·refine ⟨(Bi 61).1.trans ?_,(Bi 61).2⟩
  show { R.sc with next:=max R.sc.next (s+1) }=R.sc;rw [Nat.max_eq_left h]
theorem Kw (h:s<R.sc.next):(ik A R s c).sc=R.sc/\(ik A R s c).met=R.met:=by
 unfold ik jr;split
 ·exact ⟨rfl,rfl⟩
 ·split
  ·exact RH (R:=lL A.enc _ _ _) h
  ·exact ⟨rfl,rfl⟩
theorem Ht:∀ (n s:Nat) {R:MR},(eH A n s R).sc=R.sc
 | 0,_,_=>rfl
 | n+1,s,R=>by
  unfold eH;split
  ·rename_i h
   refine (Ht n (s+1)).trans ?_;split
   ·rfl
   ·exact (Kw h).1
  ·rfl
end
def ch (R:MR) (s:Nat):MC:=((R.met s).map MV.c).getD ky
theorem To.step {A:aT} {N:Nat} {Γ Γ1:Gh} {R R1 R2:MR} (e:wI R.sc.i Γ Γ1) (hs:R1.sc.i=R.sc.i/\R1.sc.sz=R.sc.sz) (h:To A N Γ1 R1 R2):To A N Γ R R2:=by
 obtain ⟨Γ',a1,a2,a3⟩:=h;rw [hs.1] at a1;rw [hs.2] at a2;exact ⟨Γ',e.trans a1,a2,a3⟩
section
variable {A:aT} (HA:bK A) (HP:rU A) {N:Nat} {Γ:Gh} {R:MR}
include HA HP
theorem RV.qw:∀ (n s0:Nat) {Γ:Gh} {R:MR},Γ.Ok R.sc.sz->RV A N Γ R->Ok A R->R.sc.role=2->(∀ s,s0<=s->s<R.sc.next->(Γ.P R.sc.b s=none\/Γ.P R.sc.b s=some (ch R s))/\Γ.Safe R.sc.sz R.sc.b s (ch R s))->To A N Γ R (eH A n s0 R)
 | 0,_,_,_,o,h,_,_,_=>.refl o h
 | n+1,s0,Γ,R,o,h,ho,r,hs=>by
  unfold eH;split
  ·rename_i lt
   split
   ·exact RV.qw n (s0+1) o h ho r λ s a b=>hs s (by omega) b
   ·have hg:A.gc (ch R s0):=by
     unfold ch;cases e:R.met s0 with
     | none=>exact HA.Ju
     | some v=>exact (ho.mt _ _ e).1
    have uW:s0<60:=Nat.lt_of_lt_of_le lt ho.nx;obtain ⟨a1,a2,a3⟩:=RV.prop HP o h ho.i.1 ho.sn.2.1 r lt (hs s0 (Nat.le_refl _) lt).1 (hs s0 (Nat.le_refl _) lt).2 hg uW;obtain ⟨e1,e2⟩:=Kw (A:=A) (R:=R) (c:=ch R s0) lt;have ec:∀ s,ch (ik A R s0 (ch R s0)) s=ch R s:=λ s=>congrArg (λ g:Nat->Option MV=>((g s).map MV.c).getD ky) e2
    refine To.step a1 ⟨congrArg Sc.i e1,congrArg Sc.sz e1⟩ (RV.qw n (s0+1) (Γ:=Γ.add R.sc.i R.sc.b s0 (ch R s0)) (R:=ik A R s0 (ch R s0)) (by rw [e1];exact a2) a3 (ho.prop HA uW hg).1 (by rw [e1];exact r) λ s l1 l2=>?_);rw [e1] at l2 |-;rw [ec,show (Γ.add R.sc.i R.sc.b s0 (ch R s0)).P R.sc.b s=Γ.P R.sc.b s from if_neg λ q=>by omega];exact ⟨(hs s (by omega) l2).1,(hs s (by omega) l2).2.ext a1.toExt⟩
  ·exact .refl o h
theorem RV.abN (o:Γ.Ok R.sc.sz) (h:RV A N Γ R) (ho:Ok A R) (r:R.sc.role=1) (hm:2*pc R.sc.prom > R.sc.sz):To A N Γ R (nE A R):=by
 have c:=h.eD r;have lt:∀ {s v},R.met s=some v->s<iK R.met R.log.length:=λ e=>UK e (ho.mt _ _ e).2.1
 have q:∀ (p:Nat->Prop),(∀ k,R.sc.prom.testBit k=true->p k)->Most R.sc.sz p:=λ p hp=>⟨_,hm,λ k _ hk=>⟨(c.prom hk).1,hp k hk⟩⟩
 have h1:RV A N Γ { R with sc:={ R.sc with role:=2,next:=iK R.met R.log.length } }:=⟨h.fC,h.sn,h.kR,h.one,h.vt,h.wt,h.vv,h.own,λ _=>h.pU (by omega),λ r=>absurd (show (2:Nat)=0 from r) (by decide),λ r=>absurd (show (2:Nat)=1 from r) (by decide),λ _=>⟨λ {s} hs=>by
  show Γ.P R.sc.b s=none;cases e:Γ.P R.sc.b s with
  | none=>rfl
  | some x =>
   obtain ⟨v,hv,_⟩:=c.has e;have:=lt hv;have hs:iK R.met R.log.length<=s:=hs;omega,q _ λ k hk=>⟨(c.prom hk).2.1,λ s hs b l v=>by
  obtain ⟨v,hv,_⟩:=(c.prom hk).2.2 l v;have:=lt hv;have hs:iK R.met R.log.length<=s:=hs;omega⟩⟩,λ hp=>⟨rfl,(h.pp hp).2⟩,λ ha=>⟨rfl,(h.ac ha).2⟩,h.lg,h.kn,h.st,h.ou,h.ll⟩
 obtain ⟨Γ',a1,a2,a3⟩:=RV.qw (R:={ R with sc:={ R.sc with role:=2,next:=iK R.met R.log.length } }) HA HP 61 R.log.length o h1 ho.Ik rfl λ s _ _=>by
  show (Γ.P R.sc.b s=none\/Γ.P R.sc.b s=some (ch R s))/\Γ.Safe R.sc.sz R.sc.b s (ch R s);unfold ch;cases e:R.met s with
  | none =>
   refine ⟨.inl ?_,λ b' l=>q _ λ k hk=>⟨l.le (c.prom hk).2.1,λ v=>?_⟩⟩
   ·cases e':Γ.P R.sc.b s with
    | none=>rfl
    | some x =>
     obtain ⟨v,hv,_⟩:=c.has e';rw [e] at hv;cases hv
   ·obtain ⟨v,hv,_⟩:=(c.prom hk).2.2 l v
    rw [e] at hv;cases hv
  | some v =>
   obtain ⟨p1,p2⟩:=c.met e;rcases p2.cases with eb | lb
   ·rw [eb] at p1
    exact ⟨.inr p1,o.safe p1⟩
   ·refine ⟨.inl ?_,λ b' l=>?_⟩
    ·cases e':Γ.P R.sc.b s with
     | none=>rfl
     | some x =>
      obtain ⟨v',hv',eb⟩:=c.has e';rw [e] at hv';cases hv';rw [eb] at lb;exact (lb.no (.refl _)).elim
    ·by_cases lv:b'.L v.b
     ·exact o.safe p1 b' lv
     ·refine q _ λ k hk=>⟨l.le (c.prom hk).2.1,λ x=>?_⟩
      obtain ⟨v',hv',x1⟩:=(c.prom hk).2.2 l x;rw [e] at hv';cases hv';rcases x1.cases with rfl | x1
      ·exact p1
      ·exact (lv x1).elim
 have rr:(eH A 61 R.log.length { R with sc:={ R.sc with role:=2,next:=iK R.met R.log.length } }).sc.role=2:=by rw [Ht]
 refine ⟨Γ',a1,a2,?_⟩;unfold nE;exact ⟨a3.fC,a3.sn,a3.kR,a3.one,a3.vt,a3.wt,a3.vv,a3.own,a3.pU,λ r=>⟨(a3.r0 r).1,λ _=>rfl⟩,λ r=>(by have r:(eH A 61 R.log.length { R with sc:={ R.sc with role:=2,next:=iK R.met R.log.length } }).sc.role=1:=r;omega),λ r=>⟨(a3.lead r).1,(a3.lead r).2⟩,a3.pp,a3.ac,a3.lg,a3.kn,a3.st,a3.ou,a3.ll⟩
theorem RV.yE (o:Γ.Ok R.sc.sz) (h:RV A N Γ R) (ho:Ok A R) (r:R.sc.role=1) {k:Nat} (hk5:k<5) (hk:k<R.sc.sz/\R.sc.b.E (Γ.B k)/\∀ {b s},b.L R.sc.b->Γ.V k b s->∃ v,R.met s=some v/\b.E v.b):To A N Γ R (kD A R k):=by
 have h1:RV A N Γ { R with sc:={ R.sc with prom:=iW R.sc.prom k } }:=⟨h.fC,h.sn,h.kR,h.one,h.vt,h.wt,h.vv,h.own,h.pU,λ r0=>(by have r0:R.sc.role=0:=r0;omega),λ r=>⟨λ hj=>(Hr hj).elim (λ hj=>(h.eD r).1 hj) (λ e=>by subst e;exact hk),(h.eD r).2,(h.eD r).3⟩,λ r=>⟨(h.lead r).1,(h.lead r).2⟩,h.pp,h.ac,h.lg,h.kn,h.st,h.ou,h.ll⟩;unfold kD;split
 ·rename_i hm
  exact RV.abN (R:={ R with sc:={ R.sc with prom:=iW R.sc.prom k } }) HA HP o h1 (ho.prom hk5) r hm
 ·exact .refl o h1
theorem RV.abO (o:Γ.Ok R.sc.sz) (h:RV A N Γ R) (ho:Ok A R) (r:R.sc.role=0):To A N Γ R (mJ A R):=by
 unfold mJ;split
 case isFalse=>exact .refl o h
 rename_i hc;obtain ⟨Γ1,e1,o1,h1,hi⟩:∃ Γ1,wI R.sc.i Γ Γ1/\Γ1.Ok R.sc.sz/\RV A N Γ1 (bZ R)/\(bZ R).sc.b.id=R.sc.i:=by
  unfold bZ;split
  ·rename_i q
   refine ⟨Γ,.refl _ _,o,h,?_⟩;have hz:R.sc.sz=1:=by omega
   rw [h.one hz];have:=ho.i.1;show 0=_;omega
  ·rename_i q
   have hl:R.sc.b.L ⟨R.sc.seen+1,R.sc.i⟩:=.inl (Nat.lt_succ_of_le h.sn);have hl':=hl.e;rw [<- h.fC] at hl';exact ⟨Γ.rise R.sc.i ⟨R.sc.seen+1,R.sc.i⟩,Gh.wK hl',o.rise hl',(h.rise o r hl (Nat.le_refl _) (by have:=ho.i.1;have:=ho.sz;show R.sc.i<256;omega) (λ e=>q (.inl e))).1,rfl⟩
 have es:(bZ R).sc.i=R.sc.i/\(bZ R).sc.sz=R.sc.sz/\(bZ R).sc.role=R.sc.role:=by
  unfold bZ;split <;> exact ⟨rfl,rfl,rfl⟩
 have r1:(bZ R).sc.role=0:=es.2.2.trans r;obtain ⟨z1,z2⟩:=h1.r0 r1;have om:∀ {s v},orM (bZ R).cB (bZ R).met s=some v↔(bZ R).cB s=some v:=λ {s v}=>by
  unfold orM;rw [z2 s];cases (bZ R).cB s <;> simp
 have h2:RV A N Γ1 (qx R):=⟨h1.fC,h1.sn,h1.kR,h1.one,h1.vt,h1.wt,h1.vv,h1.own,λ _=>hi.trans es.1.symm,λ q=>absurd (show (1:Nat)=0 from q) (by decide),λ _=>⟨λ {k} hk=>by
  have hk:(bZ R).sc.prom.testBit k=true:=hk;rw [z1] at hk;simp at hk,λ hv=>by
  have hv:=om.1 hv;refine ⟨(h1.vt hv).2,?_⟩;have:=(o1.vp (h1.vt hv).1).2.1;rw [h1.fC] at this;exact this,λ hp=>by
  obtain ⟨v,a,b⟩:=h1.own (hi.trans es.1.symm) hp;exact ⟨v,om.2 a,b⟩⟩,λ q=>absurd (show (1:Nat)=2 from q) (by decide),λ hp=>(by have:=(h1.pp hp).1;omega),λ ha=>(by have:=(h1.ac ha).1;omega),h1.lg,h1.kn,h1.st,h1.ou,h1.ll⟩
 have i5:R.sc.i<5:=Nat.lt_of_lt_of_le ho.i.1 ho.sz;refine To.step e1 ⟨es.1,es.2.1⟩ (RV.yE (R:=qx R) HA HP (by rw [<- es.2.1] at o1;exact o1) h2 ho.Il rfl i5 ⟨Nat.lt_of_lt_of_eq ho.i.1 es.2.1.symm,?_,λ _ v=>?_⟩)
 ·show bF.E _ (Γ1.B R.sc.i)
  rw [<- es.1,h1.fC];exact .refl _
 ·rw [<- es.1] at v
  obtain ⟨x,a,b⟩:=h1.vv v;exact ⟨x,om.2 a,b⟩
end
end
end Go.Proofs.YtignemioillaiaaGreat
