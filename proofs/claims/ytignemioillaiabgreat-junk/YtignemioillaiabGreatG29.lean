/- What a replica hands out: every packet is the bytes of a message that may be taken. -/
import Derived.Test.YtignemioillaiabGreatG28
namespace Go.Proofs.YtignemioillaiabGreat
set_option maxHeartbeats 8000000
set_option linter.unusedSectionVars false
set_option maxRecDepth 100000
section
open Go Go.Conc
structure MG (A:aT) (n:Nat) (m:MM):Prop where
 bn:m.b.n<=4294967295
 k1:m.kind≠1
 vs:m.kind=4->(∀ v∈m.vs,A.gc v.c/\v.slot<60)/\m.vs.length<=60
 acc:m.kind=6->A.gc m.c/\m.s<60
 pK:m.kind=7->m.s<60
 dec:m.kind=8->A.gc m.c/\m.s<60
 qy:m.kind=9->0<=m.r.src/\m.r.src.toNat<n/\m.r.seq<=4294967295/\A.gc (oI m.r)
 lK:m.kind=10->0<=m.peer/\m.peer.toNat<n/\A.gc (sS m.peer m.seq)
structure gJ (A:aT):Prop where
 lens:∀ {k} s,A.good k s->s.I.length=s.n.toNat/\s.O.length=s.n.toNat/\s.n<=4
 stay:∀ {k} s c,A.good k s->A.gc c->(A.ap s c).1.n=s.n/\(A.ap s c).1.g=s.g
 YY:∀ g n,g<n->n<=4->(A.bg g n).n=n/\(A.bg g n).g=g
 lane:∀ {k} s,A.good k s->∀ o∈s.O,∀ r∈o.2,r.src=s.g/\r.seq<=4294967295/\A.gc (oI r)
 LK:∀ {k} s,A.good k s->∀ x∈s.I,0<=x/\x<=4294967295
 YZ:∀ p s,0<=p->p<4->0<=s->s<=4294967295->A.gc (sS p s)
 ask:∀ d m,A.dec d=some m->m.b.n<=4294967295/\(m.kind=1->A.gc (gI m.q))
 kind:∀ d m,A.dec d=some m->1<=m.kind/\m.kind<=10
 rl:∀ c,A.gc c->c.r.rows.length<=20000/\c.r.aY.length<=20000
 rc:∀ {k} s c,A.good k s->A.gc c->(A.ap s c).2.c<256
 back:∀ n m m',MG A n m->A.dec (A.enc m)=some m'->MG A n m'
def PG (A:aT) (g i n:Nat) (p:bF):Prop:=p.fg=g/\p.fr=i/\(0<=p.tg/\p.tg<256/\0<=p.tr/\p.tr<256)/\∃ m,p.d=A.enc m/\MG A n m
structure Nx (A:aT) (R R':MR):Prop where
 id:R'.sc.g=R.sc.g/\R'.sc.i=R.sc.i/\R'.sc.gs=R.sc.gs/\R'.sc.sz=R.sc.sz
 sd:R'.st.n=R.st.n/\R'.st.g=R.st.g
 ou:∀ p∈R'.out,p∈R.out\/PG A R.sc.g R.sc.i R.sc.gs p
section
variable {A:aT} {R R' R'':MR}
theorem Nx.refl (R:MR):Nx A R R:=⟨⟨rfl,rfl,rfl,rfl⟩,⟨rfl,rfl⟩,λ _ h=>.inl h⟩
theorem Nx.trans (h:Nx A R R') (k:Nx A R' R''):Nx A R R'':=by
 obtain ⟨h1,h2,h3,h4⟩:=h.id;refine ⟨⟨k.id.1.trans h1,k.id.2.1.trans h2,k.id.2.2.1.trans h3,k.id.2.2.2.trans h4⟩,⟨k.sd.1.trans h.sd.1,k.sd.2.trans h.sd.2⟩,λ p hp=>?_⟩;rcases k.ou p hp with q | q
 ·exact h.ou p q
 ·rw [h1,h2,h3] at q
  exact .inr q
def T8 (tl:List (Nat×Nat)):Prop:=∀ t∈tl,t.1<256/\t.2<256
theorem T8.one {f:Nat×Nat} (h:f.1<256/\f.2<256):T8 [f]:=λ t ht=>by rw [List.mem_singleton] at ht;rw [ht];exact h
theorem T8.gD {g i jV k:Nat} (h:jV<256) (hk:k<=5):T8 (gD g i jV k):=λ t ht=>by
 unfold Go.Proofs.YtignemioillaiabGreat.gD at ht;obtain ⟨j,hj,rfl⟩:=List.mem_map.1 ht;have:=List.mem_range.1 (List.mem_filter.1 hj).1;exact ⟨h,by show j<256;omega⟩
theorem Nx.snd {m:MM} (hm:MG A R.sc.gs m) {tl:List (Nat×Nat)} (ht:T8 tl):Nx A R (lH A.enc R m tl):=by
 refine ⟨⟨rfl,rfl,rfl,rfl⟩,⟨rfl,rfl⟩,λ p hp=>?_⟩;rcases List.mem_append.1 hp with h | h
 ·exact .inl h
 ·obtain ⟨x,hx,rfl⟩:=List.mem_map.1 h
  obtain ⟨t1,t2⟩:=ht x hx;exact .inr ⟨rfl,rfl,⟨Int.natCast_nonneg _,by show (x.1:Int)<256;omega,Int.natCast_nonneg _,by show (x.2:Int)<256;omega⟩,m,rfl,hm⟩
theorem MG.tell {n:Nat} (p:az):MG A n { aP 2 with p:=p }:=by constructor <;> simp [aP]
theorem MG.fw {n:Nat} {k:Int} (hk:k=3\/k=5) {b:bE} (hb:b.n<=4294967295):MG A n { aP k with b:=b }:=by
 rcases hk with rfl | rfl <;> constructor <;> simp [aP,hb]
theorem MG.accept {n:Nat} {b:bE} (hb:b.n<=4294967295) {s:Nat} (hs:s<60) {c:MC} (hc:A.gc c):MG A n { aP 6 with b:=b,s:=s,c:=c }:=by constructor <;> simp [aP,hb,hs,hc]
theorem MG.accepted {n:Nat} {b:bE} (hb:b.n<=4294967295) {s:Nat} (hs:s<60):MG A n { aP 7 with b:=b,s:=s }:=by constructor <;> simp [aP,hb,hs]
theorem MG.decide {n:Nat} {s:Nat} (hs:s<60) {c:MC} (hc:A.gc c):MG A n { aP 8 with s:=s,c:=c }:=by constructor <;> simp [aP,hs,hc]
theorem MG.promise {n:Nat} {b:bE} (hb:b.n<=4294967295) {l:List MV} (h1:∀ v∈l,A.gc v.c/\v.slot<60) (h2:l.length<=60):MG A n { aP 4 with b:=b,vs:=l }:=⟨hb,by simp [aP],λ _=>⟨h1,h2⟩,by simp [aP],by simp [aP],by simp [aP],by simp [aP],by simp [aP]⟩
theorem MG.move {n:Nat} {r:Rg} (h:0<=r.src/\r.src.toNat<n/\r.seq<=4294967295/\A.gc (oI r)):MG A n { aP 9 with r:=r }:=⟨by simp [aP],by simp [aP],by simp [aP],by simp [aP],by simp [aP],by simp [aP],λ _=>h,by simp [aP]⟩
theorem MG.UZ {n:Nat} {p s:Int} (h:0<=p/\p.toNat<n/\A.gc (sS p s)):MG A n { aP 10 with peer:=p,seq:=s }:=⟨by simp [aP],by simp [aP],by simp [aP],by simp [aP],by simp [aP],by simp [aP],by simp [aP],λ _=>h⟩
theorem Nx.of (h1:R'.sc.g=R.sc.g/\R'.sc.i=R.sc.i/\R'.sc.gs=R.sc.gs/\R'.sc.sz=R.sc.sz) (h2:R'.st=R.st) (h3:R'.out=R.out):Nx A R R':=⟨h1,by rw [h2];exact ⟨rfl,rfl⟩,λ p hp=>.inl (by rw [<- h3];exact hp)⟩
end
section
variable {A:aT} (HA:bK A) (HN:gJ A) {R:MR}
include HA HN
omit HA in
theorem Nx.lK (ho:Ok A R) (src:Nat) {tl:List (Nat×Nat)} (ht:T8 tl):Nx A R (Af A.enc R src tl):=by
 unfold Af;refine Nx.snd (MG.UZ ⟨by omega,by have:=ho.i.2.1;omega,HN.YZ _ _ (by omega) (by have:=ho.i.2.1;have:=ho.i.2.2;omega) ?_ ?_⟩) ht
 ·rw [List.getD_eq_getElem?_getD]
  cases h:R.st.I[src]? with
  | none=>exact Int.le_refl _
  | some x=>exact (HN.LK _ ho.st x (List.mem_of_getElem? h)).1
 ·rw [List.getD_eq_getElem?_getD]
  cases h:R.st.I[src]? with
  | none=>show (0:Int)<=_;omega
  | some x=>exact (HN.LK _ ho.st x (List.mem_of_getElem? h)).2
omit HA in
theorem Nx.ans (ho:Ok A R) {c:MC} {p:az} (hp:p.c<256) (hs:c.kind=2->c.r.src.toNat<256):Nx A R (nO A R c p):=by
 unfold nO;split
 ·exact Nx.snd (MG.tell p) (T8.one ⟨(by decide:255<256),by show p.c.toNat<256;omega⟩)
 ·split
  ·rename_i k;exact Nx.lK HN ho _ (T8.gD (hs k) ho.sz)
  ·exact Nx.refl R
theorem Nx.do (ho:Ok A R) {c:MC} (hc:A.gc c) (hl:R.log.length<60):Nx A R (qh A R c):=by
 obtain ⟨e1,e2⟩:=HN.stay _ _ ho.st hc;have h1:Nx A R { R with st:=(A.ap R.st c).1,log:=R.log++[c] }:=⟨⟨rfl,rfl,rfl,rfl⟩,⟨e1,e2⟩,λ _ h=>.inl h⟩;have o1:Ok A { R with st:=(A.ap R.st c).1,log:=R.log++[c] }:=⟨ho.sz,ho.i,HA.next ho.st (Nat.le_of_lt hl) hc,ho.kn,ho.pp,ho.vt,ho.wv,ho.mt,ho.ac,ho.pr,by simp;omega,λ x hx=>(List.mem_append.1 hx).elim (ho.lc x) (λ e=>by simp at e;rw [e];exact hc),ho.nx,ho.sn⟩;unfold qh;split
 ·refine h1.trans (Nx.ans HN o1 (HN.rc _ _ ho.st hc) λ k=>?_)
  have q1:=HA.src _ _ ho.st hc k;have q2:=HN.lens _ ho.st;omega
 ·exact h1
theorem Nx.catch:∀ (n:Nat) {R:MR},Ok A R->Nx A R (fP A n R)
 | 0,R,_=>Nx.refl R
 | n+1,R,ho=>by
  unfold fP;split
  ·exact Nx.refl R
  ·rename_i c hc
   obtain ⟨h1,h2⟩:=ho.kn _ _ hc;have o1:Ok A { R with known:=upd R.known R.log.length none }:=ho.known (λ k d hd=>by
    unfold upd at hd;split at hd
    ·cases hd
    ·exact ho.kn k d hd)
   have n1:Nx A R { R with known:=upd R.known R.log.length none }:=.of ⟨rfl,rfl,rfl,rfl⟩ rfl rfl;exact (n1.trans (Nx.do HA HN o1 h1 h2)).trans (Nx.catch n (o1.do HA h1 h2))
theorem Nx.agree (ho:Ok A R) {s:Nat} (hs:s<60) {c:MC} (hgc:A.gc c):Nx A R (iN A R s c):=by
 unfold iN;split
 ·exact Nx.refl R
 ·have o1:Ok A { R with props:=upd R.props s none,acc:=upd R.acc s none,sc:={ R.sc with next:=max R.sc.next (s+1) },known:=upd R.known s (some c) }:=by
   have del:∀ {α:Type} {P:Nat->α->Prop} {f:Nat->Option α} {s:Nat},(∀ k v,f k=some v->P k v)->∀ k v,upd f s none k=some v->P k v:=λ h k v hv=>by
    unfold upd at hv;split at hv
    ·cases hv
    ·exact h k v hv
   exact ⟨ho.sz,ho.i,ho.st,lU (P:=λ k c=>A.gc c/\k<60) ho.kn ⟨hgc,hs⟩,del ho.pp,ho.vt,ho.wv,ho.mt,del ho.ac,ho.pr,ho.lg,ho.lc,by show max _ _<=60;have:=ho.nx;omega,ho.sn⟩
  have n1:Nx A R { R with props:=upd R.props s none,acc:=upd R.acc s none,sc:={ R.sc with next:=max R.sc.next (s+1) },known:=upd R.known s (some c) }:=.of ⟨rfl,rfl,rfl,rfl⟩ rfl rfl;exact n1.trans (Nx.catch HA HN _ o1)
omit HA HN in
theorem Ok.pe (ho:Ok A R):T8 (gD R.sc.g R.sc.i R.sc.g R.sc.sz):=T8.gD (by have:=ho.i;omega) ho.sz
omit HA HN in
theorem Nx.sa (ho:Ok A R) {s:Nat} (hs:s<60) {c:MC} (hgc:A.gc c):Nx A R (Jg A.enc R s c):=Nx.snd (MG.accept ho.sn.2.1 hs hgc) ho.pe
theorem Nx.yo (ho:Ok A R) {s i:Nat} (hi:i<5):Nx A R (jl A R s i):=by
 unfold jl;split
 ·exact Nx.refl R
 ·rename_i c hc
  obtain ⟨h1,h2⟩:=ho.pp _ _ hc;have o1:Ok A { R with acc:=upd R.acc s (some (fQ R s i)) }:=by
   refine ⟨ho.sz,ho.i,ho.st,ho.kn,ho.pp,ho.vt,ho.wv,ho.mt,lU (P:=λ _ c=>c<32) ho.ac ?_,ho.pr,ho.lg,ho.lc,ho.nx,ho.sn⟩;refine uQ ?_ hi;cases hb:R.acc s with
   | none=>exact Nat.zero_lt_succ _
   | some x=>exact ho.ac s x hb
  have n1:Nx A R { R with acc:=upd R.acc s (some (fQ R s i)) }:=.of ⟨rfl,rfl,rfl,rfl⟩ rfl rfl;split
  ·have n2:Nx A { R with acc:=upd R.acc s (some (fQ R s i)) } (lH A.enc { R with acc:=upd R.acc s (some (fQ R s i)) } { aP 8 with s:=s,c:=c } (gD R.sc.g R.sc.i R.sc.g R.sc.sz)):=Nx.snd (MG.decide h2 h1) ho.pe
   exact (n1.trans n2).trans (Nx.agree HA HN (o1.snd _ _ _) h2 h1)
  ·exact n1
theorem Nx.prop (ho:Ok A R) {s:Nat} (hs:s<60) {c:MC} (hgc:A.gc c):Nx A R (gY A R s c):=by
 unfold gY;have o1:=Ok.Je ho hs hgc;have o2:=Ok.CV o1 hs hgc;have n1:Nx A R (rD { R with props:=upd R.props s (some c) } s c):=.of ⟨rfl,rfl,rfl,rfl⟩ rfl rfl;exact (n1.trans (Nx.sa o2 hs hgc)).trans (Nx.yo HA HN (o2.snd _ _ _) (Nat.lt_of_lt_of_le ho.i.1 ho.sz))
theorem Nx.offer (ho:Ok A R) {c:MC} (hgc:A.gc c):Nx A R (fT A R c):=by
 unfold fT;split
 ·exact Nx.refl R
 ·rename_i h
  have hn:R.sc.next<60:=by
   have:¬ 60<=R.sc.next:=λ e=>h (.inl e)
   omega
  have o1:Ok A { R with sc:={ R.sc with next:=R.sc.next+1 } }:=⟨ho.sz,ho.i,ho.st,ho.kn,ho.pp,ho.vt,ho.wv,ho.mt,ho.ac,ho.pr,ho.lg,ho.lc,hn,ho.sn⟩;have n1:Nx A R { R with sc:={ R.sc with next:=R.sc.next+1 } }:=.of ⟨rfl,rfl,rfl,rfl⟩ rfl rfl;exact n1.trans (Nx.prop HA HN o1 hn hgc)
omit HA HN in
theorem Nx.stand (R:MR):Nx A R (fD R):=.of ⟨rfl,rfl,rfl,rfl⟩ rfl rfl
omit HA HN in
theorem Nx.refuse (ho:Ok A R) {f:Nat×Nat} (hf:f.1<256/\f.2<256) (b:bE):Nx A R (bJ A.enc R f b):=by
 unfold bJ;split
 ·exact Nx.snd (MG.fw (.inr rfl) ho.sn.2.1) (T8.one hf)
 ·split
  ·exact Nx.refl R
  ·exact .of ⟨rfl,rfl,rfl,rfl⟩ rfl rfl
omit HA HN in
theorem Nx.Jt (ho:Ok A R) {f:Nat×Nat} (hf:f.1<256/\f.2<256) {b:bE} (hb:b.n<=4294967295):Nx A R (rE A.enc R f b):=by
 have o1:=ho.refuse f hb;unfold rE;split
 ·exact Nx.refuse ho hf b
 ·refine (Nx.refuse ho hf b).trans (Nx.snd (MG.promise hb (λ v hv=>?_) (Ag _ _)) (T8.one hf))
  obtain ⟨k,_,hk⟩:=List.mem_filterMap.1 hv;obtain ⟨h1,h2,h3⟩:=o1.vt k v hk;exact ⟨h1,by omega⟩
omit HN in
theorem Nx.xA (ho:Ok A R) {f:Nat×Nat} (hf:f.1<256/\f.2<256) {m:MM} (hb:m.b.n<=4294967295) (hs:m.s<60):Nx A R (j4 A R f m):=by
 unfold j4;split
 ·exact Nx.refuse ho hf m.b
 ·refine ((Nx.refuse ho hf m.b).trans (R'':=rD (bJ A.enc R f m.b) m.s m.c) (.of ⟨rfl,rfl,rfl,rfl⟩ rfl rfl)).trans (Nx.snd (MG.accepted hb hs) (T8.one hf))
theorem Nx.Tm (ho:Ok A R) {f:Nat×Nat} (hf:f.2<5) (m:MM):Nx A R (tZ A R f m):=by
 unfold tZ;split
 ·exact Nx.yo HA HN ho hf
 ·exact Nx.refl R
theorem Nx.ask (ho:Ok A R) {q:bN} (hq:A.gc (gI q)):Nx A R (uT A R q):=by
 unfold uT;split
 ·exact Nx.refl R
 ·split
  ·exact Nx.snd (MG.tell _) (T8.one ⟨(by decide:255<256),by have:=HN.rc _ _ ho.st hq;show (A.ap R.st (gI q)).2.c.toNat<256;omega⟩)
  ·exact Nx.offer HA HN ho hq
theorem Nx.qo:∀ (n s:Nat) {R:MR},Ok A R->Nx A R (eD A n s R)
 | 0,_,R,_=>Nx.refl R
 | n+1,s,R,ho=>by
  unfold eD;split
  ·rename_i h
   have hs:s<60:=Nat.lt_of_lt_of_le h ho.nx;split
   ·exact Nx.qo n (s+1) ho
   ·have hg:A.gc (((R.met s).map MV.c).getD nW):=by
     cases hm:R.met s with
     | none=>exact HA.LJ
     | some v=>exact (ho.mt s v hm).1
    exact (Nx.prop HA HN ho hs hg).trans (Nx.qo n (s+1) (ho.prop HA hs hg).1)
  ·exact Nx.refl R
theorem Nx.lead (ho:Ok A R):Nx A R (nA A R):=by
 have n1:Nx A R { R with sc:={ R.sc with role:=2,next:=iG R.met R.log.length } }:=.of ⟨rfl,rfl,rfl,rfl⟩ rfl rfl;have n2:=Nx.qo HA HN 61 R.log.length (Ok.HZ ho);exact (n1.trans n2).trans (.of ⟨rfl,rfl,rfl,rfl⟩ rfl rfl)
theorem Nx.yw (ho:Ok A R) {i:Nat} (hi:i<5):Nx A R (ky A R i):=by
 have n1:Nx A R { R with sc:={ R.sc with prom:=iQ R.sc.prom i } }:=.of ⟨rfl,rfl,rfl,rfl⟩ rfl rfl;unfold ky;split
 ·exact n1.trans (Nx.lead HA HN (ho.prom hi))
 ·exact n1
omit HA HN in
theorem Nx.raise (R:MR):Nx A R (bZ R):=by
 unfold bZ;split
 ·exact Nx.refl R
 ·exact .of ⟨rfl,rfl,rfl,rfl⟩ rfl rfl
theorem Nx.eu (ho:Ok A R):Nx A R (mE A R):=by
 unfold mE;split
 ·have n1:Nx A R (qp R):=(Nx.raise R).trans (.of ⟨rfl,rfl,rfl,rfl⟩ rfl rfl)
  exact n1.trans (Nx.yw HA HN ho.H5 (Nat.lt_of_lt_of_le ho.i.1 ho.sz))
 ·exact Nx.refl R
theorem Nx.promise (ho:Ok A R) {f:Nat×Nat} (hf:f.2<5) (b:bE) {vs:List MV} (hv:∀ v∈vs,A.gc v.c/\v.slot<60):Nx A R (iZ A R f b vs):=by
 unfold iZ;split
 ·exact Nx.refl R
 ·have n1:Nx A R { R with met:=fU R.met vs }:=.of ⟨rfl,rfl,rfl,rfl⟩ rfl rfl
  exact n1.trans (Nx.yw HA HN (ho.fU hv) hf)
theorem Nx.move (ho:Ok A R) {f:Nat×Nat} (hf:f.1<256/\f.2<256) {r:Rg} (hr:A.gc (oI r)):Nx A R (rF A R f r):=by
 unfold rF;split
 ·exact Nx.refl R
 ·split
  ·exact Nx.lK HN ho _ (T8.one hf)
  ·split
   ·exact Nx.offer HA HN ho hr
   ·exact Nx.refl R
theorem Nx.Tn (ho:Ok A R) {p:Nat} {s:Int} (hp:A.gc (sS p s)):Nx A R (rG A R p s):=by
 unfold rG;split
 ·exact Nx.refl R
 ·split
  ·exact Nx.refl R
  ·split
   ·exact Nx.offer HA HN ho hp
   ·exact Nx.refl R
theorem Nx.take2 (ho:Ok A R) {f:Nat×Nat} (hf:f.1<256/\f.2<256) {m:MM} (hm:GM A R f m):Nx A R (nY A R f m):=by
 unfold nY;split
 ·rename_i k;exact Nx.ask HA HN ho (hm.ask k)
 split
 ·exact Nx.Jt ho hf hm.bn
 split
 ·rename_i k;exact Nx.promise HA HN ho (hm.vs k).2.2 _ (hm.vs k).1
 split
 ·split
  ·exact Nx.stand R
  ·exact Nx.refl R
 split
 ·rename_i k;exact Nx.xA HA ho hf hm.bn (hm.acc k).2
 split
 ·rename_i k;exact Nx.Tm HA HN ho (hm.pK k).2 m
 split
 ·rename_i k;exact Nx.agree HA HN ho (hm.dec k).2 (hm.dec k).1
 split
 ·rename_i k;exact Nx.move HA HN ho hf (hm.qy k).2.2.2
 split
 ·rename_i k
  have e:(m.peer.toNat:Int)=m.peer:=Int.toNat_of_nonneg (hm.lK k).1;exact Nx.Tn HA HN ho (by rw [e];exact (hm.lK k).2.2)
 ·exact Nx.refl R
theorem Nx.take (ho:Ok A R) {f:Nat×Nat} (hf:f.1<256/\f.2<256) {d:ByteArray} (hm:∀ m,A.dec d=some m->¬ (f.1=255/\m.kind≠1)->GM A R f m):Nx A R (iU A R f d):=by
 unfold iU;split
 ·exact Nx.refl R
 ·rename_i m hd
  split
  ·exact Nx.refl R
  ·rename_i hn
   have g:=hm m hd hn;have n1:Nx A R (nC R m):=.of ⟨rfl,rfl,rfl,rfl⟩ rfl rfl;exact n1.trans (Nx.take2 HA HN (ho.seen g.bn) hf ⟨g.bn,g.ask,g.vs,g.acc,g.pK,g.dec,g.qy,g.lK⟩)
omit HA HN in
theorem Nx.oQ (ho:Ok A R) (n:Nat):Nx A R (iH A.enc R n)/\Ok A (iH A.enc R n)/\(iH A.enc R n).st=R.st:=by
 unfold iH;generalize List.range n=l;induction l generalizing R with
 | nil=>exact ⟨Nx.refl R,ho,rfl⟩
 | cons k l ih =>
  rw [List.foldl_cons];have h1:Nx A R (Go.Proofs.YtignemioillaiabGreat.oQ A.enc R k)/\Ok A (Go.Proofs.YtignemioillaiabGreat.oQ A.enc R k)/\(Go.Proofs.YtignemioillaiabGreat.oQ A.enc R k).st=R.st:=by
   unfold Go.Proofs.YtignemioillaiabGreat.oQ;split
   ·rename_i c hc
    obtain ⟨q1,q2⟩:=ho.pp _ _ hc;exact ⟨Nx.sa ho q2 q1,ho.snd _ _ _,rfl⟩
   ·exact ⟨Nx.refl R,ho,rfl⟩
  obtain ⟨a1,a2,a3⟩:=ih h1.2.1;exact ⟨h1.1.trans a1,a2,a3.trans h1.2.2⟩
omit HA in
theorem Nx.qw (ho:Ok A R) (hs:R.st.g=R.sc.g) (n:Nat):Nx A R (iT A.enc R n):=by
 unfold iT;generalize List.range n=l;induction l generalizing R with
 | nil=>exact Nx.refl R
 | cons k l ih =>
  rw [List.foldl_cons];have h1:Nx A R (Go.Proofs.YtignemioillaiabGreat.qw A.enc R k)/\Ok A (Go.Proofs.YtignemioillaiabGreat.qw A.enc R k):=by
   unfold Go.Proofs.YtignemioillaiabGreat.qw;split
   ·exact ⟨Nx.refl R,ho⟩
   ·rename_i r rs hr
    refine ⟨Nx.snd (MG.move ?_) (T8.gD ?_ ho.sz),ho.snd _ _ _⟩;all_goals
     have hm:∃ o∈R.st.O,r∈o.2/\k<R.st.O.length:=by
      rw [List.getD_eq_getElem?_getD] at hr;cases ho:R.st.O[k]? with
      | none=>rw [ho] at hr;cases hr
      | some o =>
       rw [ho] at hr;exact ⟨o,List.mem_of_getElem? ho,by rw [show o.2=r::rs from hr];exact List.mem_cons_self,(List.getElem?_eq_some_iff.1 ho).1⟩
     obtain ⟨o,h1,h2,h3⟩:=hm;obtain ⟨e1,e2,e3⟩:=HN.lane _ ho.st o h1 r h2;have q2:=HN.lens _ ho.st;have:=ho.i.2.1
    ·exact ⟨by omega,by omega,e2,e3⟩
    ·omega
  obtain ⟨a1,a2⟩:=h1;refine a1.trans (ih a2 ?_);rw [a1.sd.2,a1.id.1];exact hs
theorem Nx.tick (ho:Ok A R) (hs:R.st.g=R.sc.g):Nx A R (kX A R):=by
 obtain ⟨o1,_,_,_⟩:=ho.bG HA;have n1:Nx A R (bG A R):=by
  unfold Go.Proofs.YtignemioillaiabGreat.bG;split
  ·exact Nx.eu HA HN ho
  ·exact Nx.refl R
 unfold kX qx;have n2:Nx A (bG A R) (fG A (bG A R)):=Nx.snd (MG.fw (.inl rfl) o1.sn.2.1) o1.pe;have o2:Ok A (fG A (bG A R)):=o1.snd _ _ _;have n12:=n1.trans n2;split
 ·exact n1
 split
 ·obtain ⟨n3,o3,e3⟩:=Nx.oQ o2 (fG A (bG A R)).sc.next
  have n13:=n12.trans n3;refine n13.trans (Nx.qw HN o3 ?_ _);rw [n13.sd.2,n13.id.1];exact hs
 ·exact n12
end
theorem af.mono' {P:Program} {f:FuncId} {args:Array Value} {w:World} {Post Post':Value->World->Prop} (h:af P f args w Post) (hp:∀ v w',Post v w'->Post' v w'):af P f args w Post':=λ main D X cs hX hk=>h main D X cs hX λ fr v w' e1 e2 e3=>hk fr v w' e1 e2 (hp v w' e3)
def Ju (A:aT) (n sz:Nat) (p:bF):Prop:=(0<=p.tg/\p.tg<256/\0<=p.tr/\p.tr<256)/\((p.fg=255/\p.fr=255)\/∃ g i,g<n/\i<sz/\PG A g i n p)
structure aL.aK (A:aT) (C:aL):Prop where
 n:C.n<=4
 sz:C.sz<=5
 ok:∀ g i,g<C.n->i<C.sz->Ok A (C.F g i)
 out:∀ g i,g<C.n->i<C.sz->(C.F g i).out=[]
 at_:∀ g i,g<C.n->i<C.sz->(C.F g i).sc.g=g/\(C.F g i).sc.i=i/\(C.F g i).sc.gs=C.n/\(C.F g i).sc.sz=C.sz
 sd:∀ g i,g<C.n->i<C.sz->(C.F g i).st.n=C.n/\(C.F g i).st.g=g
 len:C.q.length<=20000
 net:∀ p∈C.q,Ju A C.n C.sz p
theorem mV {α:Type} {n sz:Nat} {F:Nat->Nat->α} {P:Nat->Nat->α->Prop} (h:∀ g i,g<n->i<sz->P g i (F g i)) {g i:Nat} {r:α} (hr:P g i r):∀ g' i',g'<n->i'<sz->P g' i' (fB F g i r g' i'):=λ g' i' hg hi=>by
 by_cases e:g'=g/\i'=i
 ·obtain ⟨rfl,rfl⟩:=e;rw [bL];exact hr
 ·rw [bz _ _ e];exact h g' i' hg hi
section
variable {A:aT} {C:aL}
theorem aL.aK.done (h:C.aK A) {g i:Nat} (hg:g<C.n) (hi:i<C.sz) {R':MR} (ho:Ok A R') (hx:Nx A (C.F g i) R'):(C.done g i R').aK A:=by
 obtain ⟨a1,a2,a3,a4⟩:=h.at_ g i hg hi;obtain ⟨e1,e2,e3,e4⟩:=hx.id;obtain ⟨s1,s2⟩:=h.sd g i hg hi;refine ⟨h.n,h.sz,mV (P:=λ _ _ (R:MR)=>Ok A R) h.ok ho.done,mV (P:=λ _ _ (R:MR)=>R.out=[]) h.out rfl,mV (P:=λ g i (R:MR)=>R.sc.g=g/\R.sc.i=i/\R.sc.gs=C.n/\R.sc.sz=C.sz) h.at_ ⟨e1.trans a1,e2.trans a2,e3.trans a3,e4.trans a4⟩,mV (P:=λ g i (R:MR)=>R.st.n=C.n/\R.st.g=g) h.sd ⟨hx.sd.1.trans s1,hx.sd.2.trans s2⟩,?_,λ p hp=>?_⟩
 ·show (List.take 20000 _).length<=20000
  rw [List.length_take];omega
 ·rcases List.mem_append.1 (List.mem_of_mem_take hp) with q | q
  ·exact h.net p q
  ·rcases hx.ou p q with q | q
   ·rw [h.out g i hg hi] at q;cases q
   ·rw [a1,a2,a3] at q
    exact ⟨q.2.2.1,.inr ⟨g,i,hg,hi,q⟩⟩
theorem aL.aK.di (HA:bK A) (HN:gJ A) (h:C.aK A) (g i:Nat):(C.di A g i).aK A:=by
 unfold aL.di;split
 ·rename_i c
  have o:=h.ok _ _ c.1 c.2;obtain ⟨e1,e2⟩:=HN.YY _ _ o.i.2.1 o.i.2.2.1;obtain ⟨a1,a2,a3,a4⟩:=h.at_ g i c.1 c.2;refine ⟨h.n,h.sz,mV (P:=λ _ _ (R:MR)=>Ok A R) h.ok (o.start HA),mV (P:=λ _ _ (R:MR)=>R.out=[]) h.out (h.out _ _ c.1 c.2),mV (P:=λ g i (R:MR)=>R.sc.g=g/\R.sc.i=i/\R.sc.gs=C.n/\R.sc.sz=C.sz) h.at_ (h.at_ _ _ c.1 c.2),mV (P:=λ g i (R:MR)=>R.st.n=C.n/\R.st.g=g) h.sd ⟨?_,?_⟩,h.len,h.net⟩
  ·rw [a1,a3] at e1;rw [show (mStart A (C.F g i)).st=A.bg (C.F g i).sc.g (C.F g i).sc.gs from rfl,a1,a3];exact e1
  ·rw [a1,a3] at e2;rw [show (mStart A (C.F g i)).st=A.bg (C.F g i).sc.g (C.F g i).sc.gs from rfl,a1,a3];exact e2
 ·exact h
theorem aL.aK.tick (HA:bK A) (HN:gJ A) (h:C.aK A) (g i:Nat):(C.tick A g i).aK A:=by
 unfold aL.tick;split
 ·rename_i c
  have o:=h.ok _ _ c.1 c.2;exact h.done c.1 c.2 (o.tick HA) (Nx.tick HA HN o ((h.sd g i c.1 c.2).2.trans (congrArg Int.ofNat (h.at_ g i c.1 c.2).1).symm))
 ·exact h
theorem aL.aK.send (h:C.aK A) {g i:Nat} (hg:g<256) (hi:i<256) (d:ByteArray):(C.send g i d).aK A:=by
 unfold aL.send;split
 ·rename_i c
  refine ⟨h.n,h.sz,h.ok,h.out,h.at_,h.sd,?_,λ p hp=>?_⟩
  ·have:=h.len
   show (kC _ _).length<=_;unfold kC;split
   ·simp;omega
   ·exact this
  ·have hp:p∈kC C.q ⟨255,255,g,i,d⟩:=hp
   unfold kC at hp;split at hp
   ·rcases List.mem_append.1 hp with q | q
    ·exact h.net p q
    ·rw [List.mem_singleton] at q
     subst q;exact ⟨⟨by show 0<=(g:Int);omega,by show (g:Int)<256;omega,by show 0<=(i:Int);omega,by show (i:Int)<256;omega⟩,.inl ⟨rfl,rfl⟩⟩
   ·exact h.net p hp
 ·exact h
theorem Ju.gm (HN:gJ A) {n sz:Nat} {p:bF} (h:Ju A n sz p) (hz:sz<=5) {R:MR} (ho:Ok A R) (hs:R.st.n=n):∀ m,A.dec p.d=some m->¬ ((p.fg.toNat,p.fr.toNat).1=255/\m.kind≠1)->GM A R (p.fg.toNat,p.fr.toNat) m:=by
 intro m hd hn;obtain ⟨b1,b2⟩:=HN.ask _ _ hd;obtain ⟨l1,l2,l3⟩:=HN.lens _ ho.st;rcases h.2 with ⟨c1,c2⟩ | ⟨g,i,hg,hi,c1,c2,c3,m0,e1,e2⟩
 ·have hk:m.kind=1:=Classical.byContradiction λ e=>hn ⟨by show p.fg.toNat=255;rw [c1];rfl,e⟩
  exact ⟨b1,b2,λ e=>by omega,λ e=>by omega,λ e=>by omega,λ e=>by omega,λ e=>by omega,λ e=>by omega⟩
 ·rw [e1] at hd
  have e2:=HN.back _ _ _ e2 hd;have f5:(p.fg.toNat,p.fr.toNat).2<5:=by show p.fr.toNat<5;omega
  exact ⟨b1,λ k=>(e2.k1 k).elim,λ k=>⟨(e2.vs k).1,Nat.le_trans (e2.vs k).2 (by decide),f5⟩,e2.acc,λ k=>⟨e2.pK k,f5⟩,e2.dec,λ k=>⟨(e2.qy k).1,by have:=(e2.qy k).2.1;omega,(e2.qy k).2.2⟩,λ k=>⟨(e2.lK k).1,by have:=(e2.lK k).2.1;omega,(e2.lK k).2.2⟩⟩
theorem Ju.f8 {n sz:Nat} {p:bF} (h:Ju A n sz p) (hn:n<=4) (hz:sz<=5):(p.fg.toNat<256/\p.fr.toNat<256)/\p.fg=(p.fg.toNat:Int)/\p.fr=(p.fr.toNat:Int):=by
 rcases h.2 with ⟨c1,c2⟩ | ⟨g,i,hg,hi,c1,c2,_⟩ <;> omega
theorem aL.aK.fV (HA:bK A) (HN:gJ A) (h:C.aK A) (k:Nat):(C.fV A k).aK A:=by
 unfold aL.fV;split
 ·exact h
 ·rename_i p hp
  have hm:=h.net p (List.mem_of_getElem? hp);split
  ·rename_i c
   have o:=h.ok _ _ c.1 c.2;have gm:=hm.gm HN h.sz o (h.sd _ _ c.1 c.2).1;exact h.done c.1 c.2 (o.take HA gm) (Nx.take HA HN o (hm.f8 h.n h.sz).1 gm)
  ·exact h
theorem aL.aK.new (HA:bK A) (HN:gJ A) {n sz:Nat} (hn:n<=4) (hN:n=A.N) (hz:sz<=5):(aL.new A n sz).aK A:=by
 refine ⟨hn,hz,λ g i hg hi=>Ok.new HA hg hn hN hi hz,λ _ _ _ _=>rfl,λ _ _ _ _=>⟨rfl,rfl,rfl,rfl⟩,λ g i hg hi=>?_,Nat.zero_le _,λ _ h=>by cases h⟩;obtain ⟨e1,e2⟩:=HN.YY g n hg hn;exact ⟨e1,e2⟩
end
def fZ (P:Program) (f:FuncId) (args:Array Value) (w:World) (Post:Value->World->Prop):Prop:=∀ (K:Machine->Trace->Prop) (cF:Frame) (cs:List Frame),(∀ v w',Post v w'->XR P K (G (cF.finish v) cs) w')->XR P K (G (Frame.enter P f args .normal) (cF::cs)) w
@[reducible] def nP (P:Program):jU P:=⟨fZ P,λ h hs K cF cs hk=>lT.rely hs (h K cF cs hk),λ main D X=>main=true/\D=xg/\∃ K,X=XR P K,λ _ hφ=>λ h hk=>by
 obtain ⟨rfl,rfl,K,rfl⟩:=hφ;exact h K _ _ hk⟩
theorem af.x {P:Program} {f:FuncId} {args:Array Value} {w:World} {Post:Value->World->Prop} (h:af P f args w Post):fZ P f args w Post:=λ K cF cs hk=>h true xg (XR P K) (cF::cs) lT λ _ v w' _ hl hp=>lT.back hl (hk v w' hp)
theorem rH {P:Program} (E:kM P) (hm:P.follows .mixedOrders=true) {f:FuncId} {fn:Func} {c:Code} {args:List Value} {w:World} {Post:Value->World->Prop} (hf:P.funcs[f]? = some fn) (hb:fn.body=some c) (hn:Nat.ble args.length fn.ntmps=true) (h:@tY P (nP P) E fn.ntmps c (Ab E fn.results.toList Post) (uI args 0) w):fZ P f args.toArray w Post :=
 λ K _cF _cs hk=>@UL P (nP P) E hm _ _ _ _ _ _ hf hb hn h _ _ _ (@SX.mk P (nP P) true xg (XR P K) lT ⟨rfl,rfl,K,rfl⟩) _ λ _ v w' _ hl hp=>lT.back hl (hk v w' hp)
structure Jv (Λ:bU) (bc:Nat) (C:aL) (gv sv:Value) (B:Nat->Nat->Nat) (ad:Nat->Nat->fH) (w:World):Prop where
 ci:CI w bc gv sv C.q C.n C.sz B ad C.F
 pr:∀ b o,Λ.pr b=some o->w.heap[b]? = some o/\¬ mh C.n C.sz B bc sv ad b
 os:w.os=Λ.os
 out:w.output=Λ.out
def tK (Λ:bU) (bc:Nat) (C:aL) (w:World):Prop:=∃ gv sv B ad,Jv Λ bc C gv sv B ad w
section
variable {Λ:bU} {w w':World} {bc:Nat} {C C':aL} {gv sv dx:Value} {B:Nat->Nat->Nat} {ad jo:Nat->Nat->fH}
theorem Jv.ax (h:Jv Λ bc C gv sv B ad w) (g:GB none w w'):Jv Λ bc C gv sv B ad w':=⟨h.ci.ax g,λ b o hb=>⟨g.get (h.pr b o hb).1 nofun,(h.pr b o hb).2⟩,g.os.trans h.os,g.out.trans h.out⟩
theorem Jv.step (h:Jv Λ bc C gv sv B ad w) (hn:C'.n=C.n) (hz:C'.sz=C.sz) (hc:CI w' bc gv dx C'.q C'.n C'.sz B jo C'.F) (ho:w'.os=w.os) (hu:w'.output=w.output) (hf:nZ C.n C.sz B bc w sv ad w' dx jo):tK Λ bc C' w' :=
 ⟨gv,dx,B,jo,hc,λ b o hb=>by rw [hn,hz];exact hf b o (h.pr b o hb).1 (h.pr b o hb).2,ho.trans h.os,hu.trans h.out⟩
end
section
variable {A:aT} (HA:bK A) {Λ:bU} {w:World} {bc:Nat} {C:aL}
include HA
theorem WC (h:tK Λ bc C w) (hf:C.aK A) (g i:Nat) (hg:g<256) (hi:i<256):af Tryz.prog 53 #[Ptt bc,.agg #[.int .u8 g,.int .u8 i]] w (λ v w'=>v=.int .i64 (if g<C.n/\i<C.sz then 0 else 6)/\tK Λ bc (C.di A g i) w'/\Kz w w'):=by
 obtain ⟨gv,sv,B,ad,h⟩:=h;refine af.mono' (Tg HA h.ci hf.n hf.sz g i hg hi λ a b=>hf.ok g i a b) ?_;rintro v w1 ⟨rfl,⟨jo,h1,f1⟩,o1,u1,k1⟩;refine ⟨rfl,?_,k1⟩;unfold aL.di;split
 ·rename_i c
  rw [if_pos c] at h1;exact h.step rfl rfl h1 o1 u1 f1
 ·rename_i c
  rw [if_neg c] at h1;exact h.step rfl rfl h1 o1 u1 f1
omit HA in
theorem Jw (h:tK Λ bc C w) (hn:C.n<=4) (hs:C.sz<=5) (g i:Nat) (hg:g<256) (hi:i<256) (d:ByteArray):af Tryz.prog 22 #[Ptt bc,.agg #[.int .u8 g,.int .u8 i],.string d] w (λ v w'=>v=.tuple #[.int .i64 (if (g<C.n/\i<C.sz)/\¬ d.size > 1000 then (C.q.length:Int) else 0),.int .i64 (if g<C.n/\i<C.sz then (if d.size > 1000 then 2 else 0) else 6)]/\tK Λ bc (C.send g i d) w'/\Kz w w'):=by
 obtain ⟨gv,sv,B,ad,h⟩:=h;refine af.mono' (Tk h.ci hn hs g i hg hi d) ?_;rintro v w1 ⟨⟨dx,q',h1,f1,hc⟩,k1,o1,u1⟩;unfold aL.send;rcases hc with ⟨c,rfl,rfl⟩ | ⟨c,e,rfl,rfl⟩ | ⟨c,e,rfl,rfl⟩
 ·rw [if_neg (λ x=>c x.1),if_neg c,if_neg (λ x=>c x.1)]
  exact ⟨rfl,h.step rfl rfl h1 o1 u1 f1,k1⟩
 ·rw [if_neg (λ x=>x.2 e),if_pos c,if_pos e,if_neg (λ x=>x.2 e)]
  exact ⟨rfl,h.step rfl rfl h1 o1 u1 f1,k1⟩
 ·rw [if_pos ⟨c,e⟩,if_pos c,if_neg e,if_pos ⟨c,e⟩]
  exact ⟨rfl,h.step rfl rfl h1 o1 u1 f1,k1⟩
omit HA in
theorem Qe {gv sv:Value} {B:Nat->Nat->Nat} {ad:Nat->Nat->fH} (h:Jv Λ bc C gv sv B ad w) {g i:Nat} (hg:g<C.n) (hi:i<C.sz) {f:FuncId} {fst cap:Array Value} {fn:Func}
 (hf : Tryz.prog.funcs[f]? = some fn) (hname : (fn.name == "runtime.NumGoroutine") = false) (hb : fn.body.isNone = false) {R' : MR} (hl : R'.out.length < 1000000)
 (Eb:∀ w1,GB none w w1->af Tryz.prog f (fst++cap) w1 (λ _ w'=>Wk (rest w1 (B g i) (ad g i)) (B g i) R' w'/\Kz w1 w')) :
 fZ Tryz.prog 47 #[Ptt bc,.pointer (some ⟨B g i,0,none⟩),.func (.func f) fst cap] w (λ v w'=>v=.tuple #[]/\tK Λ bc (C.done g i R') w'/\Kz w w'):=by
 intro K cF cs hk;exact WB h.ci hg hi hf hname hb hl Eb λ w4 dx jo h4 o4 u4 k4 f4=>hk _ w4 ⟨rfl,h.step rfl rfl h4 o4 u4 f4,k4⟩
theorem Qf (h:tK Λ bc C w) (hf:C.aK A) (g i:Nat) (hg:g<256) (hi:i<256):fZ Tryz.prog 34 #[Ptt bc,.agg #[.int .u8 g,.int .u8 i]] w (λ v w'=>v=.int .i64 (if g<C.n/\i<C.sz then 0 else 6)/\tK Λ bc (C.tick A g i) w'/\Kz w w'):=by
 obtain ⟨gv,sv,B,ad,h⟩:=h;refine rH ah mixed Tryz.func34 rfl rfl ?_;intro w1 b1 m1 g1 l1;have h1:=h.ax g1;refine ⟨_,_,m1,[.int .u8 g,.int .u8 i],rfl,rfl,_,(find_ok h1.ci hf.n hf.sz g i hg hi).x,?_⟩;rintro _ w2 ⟨rfl,g2⟩;have h2:=h1.ax g2;have G:=g1.trans g2;unfold aL.tick;by_cases c:g<C.n/\i<C.sz
 ·rw [if_pos c,if_pos c,if_pos c]
  have o:=hf.ok g i c.1 c.2;have e:=hf.out g i c.1 c.2;have hl:=Tp HA o;rw [e] at hl;refine ⟨_,Qe h2 c.1 c.2 (f:=57) Tryz.func57 (by kernel_rfl) (by kernel_rfl) (R':=kX A (C.F g i)) (by simp only [List.length_nil] at hl;omega) (λ w3 g3=>af.mono' (Wy HA ((h2.ax g3).ci.enter c.1 c.2) o (by rw [e];exact Nat.zero_le _)) λ v w' hp=>hp.2),?_⟩;rintro _ w3 ⟨rfl,h3,k3⟩;exact ⟨rfl,h3,G.kz.trans k3⟩
 ·rw [if_neg c,if_neg c,if_neg c]
  exact ⟨rfl,⟨_,_,_,_,h2⟩,G.kz⟩
end
theorem Ew {P:Program} (E:kM P) {f:FuncId} {fn:Func} {c:Code} {args:List Value} {w:World} {Post:Value->World->Prop} (hf:P.funcs[f]? = some fn) (hb:fn.body=some c) (hn:Nat.ble args.length fn.ntmps=true) (h:@CS P (nP P) fn.ntmps c (Ab E fn.results.toList Post) (uI args 0) w):fZ P f args.toArray w Post :=
 λ K _cF _cs hk=>@N7 P (nP P) E _ _ _ _ _ _ hf hb hn h _ _ _ (@SX.mk P (nP P) true xg (XR P K) lT ⟨rfl,rfl,K,rfl⟩) _ λ _ v w' _ hl hp=>lT.back hl (hk v w' hp)
abbrev aJ (P:Program) (n:Nat) (c:Code) (K:Ex->Sg->World->Prop) (s:Sg) (w:World):Prop:=@CS P (nP P) n c K s w
section
variable {P:Program} {n:Nat} {c x y:Code} {K K':Ex->Sg->World->Prop} {s q:Sg} {w:World}
theorem aJ.of (E:kM P) (hm:P.follows .mixedOrders=true) (h:@tY P (nP P) E n c K s w):aJ P n c K s w:=@CS.of P (nP P) _ _ _ _ _ E hm h
theorem aJ.block {id:Nat} (h:aJ P n c (λ e s w=>K (Yu id e) s w) s w):aJ P n (.block id c) K s w:=@CS.block P (nP P) _ _ _ _ _ _ h
theorem aJ.loop (I:Nat->Sg->World->Prop) (h0:∃ m q,I m q w/\gV q s) (h:∀ m s w,I m s w->aJ P n c (λ e s w=>PQ (∃ m' q,I m' q w/\gV q s/\m'<m) (K e s w) e) s w):aJ P n (.loop c) K s w:=@CS.loop P (nP P) _ _ _ _ _ I h0 h
theorem aJ.cond {o:Operand} (t:Bool) (he:ev s o=some (.bool t)) (h:aJ P n (bif t then x else y) K s w):aJ P n (.cond o x y) K s w:=@CS.cond P (nP P) _ _ _ _ _ _ _ t he h
theorem aJ.piece {Q:Sg->World->Prop} (h:aJ P n x (YJ Q) s w) (hy:∀ q w,Q q w->aJ P n y K q w):aJ P n (.seq x y) K s w:=@CS.piece P (nP P) _ _ _ _ _ _ _ h hy
theorem aJ.cut {Qn:Sg->World->Prop} {Qx:Nat->Sg->World->Prop} {Qr:Sg->World->Prop} (h:aJ P n x (Out Qn Qx Qr) s w) (hn:∀ q w,Qn q w->aJ P n y K q w) (hx:∀ j q s w,Qx j q w->gV q s->K (.x j) s w) (hr:∀ q s w,Qr q w->gV q s->K .r s w):aJ P n (.seq x y) K s w:=@CS.cut P (nP P) _ _ _ _ _ _ _ _ _ h hn hx hr
end
end
end Go.Proofs.YtignemioillaiabGreat
