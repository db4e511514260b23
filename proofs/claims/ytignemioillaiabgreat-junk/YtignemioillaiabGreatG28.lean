/- A cluster at work: join, Send. -/
import Derived.Test.YtignemioillaiabGreatG27
namespace Go.Proofs.YtignemioillaiabGreat
set_option maxHeartbeats 8000000
set_option maxRecDepth 100000
section
open Go Go.Conc
section
variable {w w1 w2:World} {bc:Nat} {gv sv:Value} {q:List bF} {n sz:Nat} {B:Nat->Nat->Nat} {ad:Nat->Nat->fH} {F:Nat->Nat->MR}
theorem CI.pk (h:CI w bc gv sv q n sz B ad F) {dx:Value} {q':List bF} (hl:q'.length<=20000) (g1:GB sv.ownBlock w w1) (ho:w1.ownsRow 0 97 5 dx q'.length (flat q')) (hn:∀ g,dx.ownBlock=some g->sv.ownBlock=some g\/w.heap.size<=g) (m2:w2.heap[bc]? = some (.cells #[gv,dx] 118)) (g2:GB (some bc) w1 w2):CI w2 bc gv dx q' n sz B ad F/\Kz w w2/\w2.os=w.os/\w2.output=w.output/\nZ n sz B bc w sv ad w2 dx ad:=by
 have tb:∀ {x:Nat},sv.ownBlock=some x->∃ cur,w.heap[x]? = some (.cells cur 97):=λ hx=>aD h.row hx
 have nb:∀ x,sv.ownBlock=some x->x≠bc:=λ x hx e=>by
  subst e;obtain ⟨c,hc⟩:=tb hx;rw [h.eH] at hc;injection hc with hc;injection hc with _ hc;revert hc;decide
 have nb':∀ x,dx.ownBlock=some x->x≠bc:=λ x hx e=>by
  rcases hn x hx with h1 | h1
  ·exact nb x h1 e
  ·have:=ag h.eH;omega
 have kp:∀ x,x<w.heap.size->some x≠sv.ownBlock->x≠bc->w2.heap[x]? = w.heap[x]?:=λ x hx h1 h2=>(g2.block x (Nat.lt_of_lt_of_le hx g1.size) λ e=>h2 (Option.some.inj e)).trans (g1.block x hx h1)
 have kt:∀ {x:Nat} {c:Array Value} {t:TypeId},w.heap[x]? = some (.cells c t)->t≠97->t≠118->w2.heap[x]? = some (.cells c t):=λ {x c t} hx h1 h2=>(kp x (ag hx) (λ e=>by obtain ⟨cur,hc⟩:=tb e.symm;rw [hx] at hc;injection hc with hc;injection hc with _ hc;exact h1 hc) (λ e=>by subst e;rw [h.eH] at hx;injection hx with hx;injection hx with _ hx;exact h2 hx.symm)).trans hx
 have k:Kz w w2:=λ t ht b c hb=>kt hb (λ e=>by subst e;revert ht;decide) (λ e=>by subst e;revert ht;decide)
 have nt:∀ {t:TypeId},t ∉ UX->t≠97/\t≠118:=λ {t} ht=>⟨λ e=>ht (by rw [e];decide),λ e=>ht (by rw [e];decide)⟩
 have ow:∀ g i x,g<n->i<sz->Own (B g i) (ad g i) x->x≠bc:=λ g i x hg hi ho e=>by
  subst e;rcases (h.rep g i hg hi).Aq ho h.eH with e | e | e <;> revert e <;> decide
 refine ⟨⟨m2,aA ho λ x hx=>?_,hl,?_,λ g i hg hi=>(h.rep g i hg hi).keep k λ x hx=>kp x ((h.rep g i hg hi).lt hx) (λ e=>h.ob g i x hg hi e.symm hx) (ow g i x hg hi hx),h.sep,λ g i x hg hi hx hO=>?_⟩,k,g2.os.trans g1.os,g2.out.trans g1.out,λ x o hx hN=>?_⟩
 ·obtain ⟨cur,hc⟩:=aD ho hx
  exact g2.block x (ag hc) λ e=>nb' x hx (Option.some.inj e)
 ·obtain ⟨bg,cg,cur,tg,e1,e2,e3,e4,e5⟩:=h.ptr
  refine ⟨bg,cg,cur,tg,e1,e2,kt e3 (nt (lL e4)).1 (nt (lL e4)).2,e4,λ g hg=>?_⟩;obtain ⟨bs,ct,cur',ts,f1,f2,f3,f4,f5⟩:=e5 g hg;exact ⟨bs,ct,cur',ts,f1,f2,kt f3 (nt (lL f4)).1 (nt (lL f4)).2,f4,f5⟩
 ·rcases hn x hx with h1 | h1
  ·exact h.ob g i x hg hi h1 hO
  ·have:=(h.rep g i hg hi).lt hO;omega
 ·refine ⟨(kp x (ag hx) (λ e=>hN (.inr (.inl e.symm))) λ e=>hN (.inl e)).trans hx,λ hc=>?_⟩
  rcases hc with e | e | e
  ·exact hN (.inl e)
  ·rcases hn x e with h1 | h1
   ·exact hN (.inr (.inl h1))
   ·have:=ag hx;omega
  ·exact hN (.inr (.inr e))
def kC (q:List bF) (p:bF):List bF:=if q.length<20000 then q++[p] else q
theorem Ti {k:Nat} (h:decide ((k:Int)<20000)=true):k<20000:=by have:=of_decide_eq_true h;omega
theorem YU {k:Nat} (h:decide ((k:Int)<20000)=false):¬ k<20000:=by have:=of_decide_eq_false h;omega
theorem Ar {q:List bF} {p:bF} (h:q.length<20000):kC q p=q++[p]:=by unfold kC;rw [if_pos h]
theorem Tj {q:List bF} {p:bF} (h:¬ q.length<20000):kC q p=q:=by unfold kC;rw [if_neg h]
theorem WA (h:CI w bc gv sv q n sz B ad F) (p:bF):af Tryz.prog 45 #[Ptt bc,.agg p.cells.toArray] w (λ v w'=>v=.tuple #[]/\(∃ dx,CI w' bc gv dx (kC q p) n sz B ad F/\nZ n sz B bc w sv ad w' dx ad)/\Kz w w'/\w'.os=w.os/\w'.output=w.output):=by
 refine aj ah mixed Tryz.func45 rfl rfl ?_;intro w1 b1 m1 g1 l1;have h1:=h.ax g1;obtain ⟨sa,sc,rfl⟩:=ae h1.row;have hlen:=h.len;obtain ⟨bg,cg,cur,tg,YV,_⟩:=h.ptr;subst YV;refine ⟨_,_,h1.eH,_,rfl,au (λ c=>?_) (λ c=>?_)⟩
 ·have c1:q.length<20000:=Ti c
  have em:=Ar (p:=p) c1;rw [em];refine ⟨by kernel_rfl,_,_,h1.eH,_,rfl,_,_,m1,p.cells,rfl,rfl,λ w2 b2 m2 g2 l2=>?_⟩;have h2:=h1.ax g2;refine ⟨⟨g2.get m1 nofun,h2.eH,trivial⟩,_,p.cells,h2.row,⟨_,_,m2,rfl,rfl,rfl⟩,by omega,λ lv w3 ho3 g3 n3=>?_⟩;have m3:w3.heap[bc]? = _:=(g3.block bc (ag h2.eH) λ e=>by
   obtain ⟨c,hc⟩:=aD h2.row e.symm;rw [h2.eH] at hc;injection hc with hc;injection hc with _ hc;revert hc;decide).trans h2.eH
  obtain ⟨la,lc,rfl⟩:=ae ho3;refine ⟨_,_,_,m3,rfl,rfl,λ w4 m4 g4=>?_⟩;obtain ⟨h4,k4,o4,u4,f4⟩:=h2.pk (q':=q++[p]) (by simp;omega) g3 (by rw [List.length_append,show flat (q++[p])=flat q++p.cells by simp [flat]];exact ho3) n3 m4 g4;have G:=g1.trans g2;exact ⟨rfl,⟨_,h4,(nZ.ax G).trans f4⟩,G.kz.trans k4,o4.trans G.os,u4.trans G.out⟩
 ·have c1:¬ q.length<20000:=YU c
  have em:=Tj (p:=p) c1;rw [em];exact ⟨rfl,⟨_,h1,nZ.ax g1⟩,g1.kz,g1.os,g1.out⟩
end
theorem acX {k:Nat} (h:decide ((k:Int) > 1000)=true):k > 1000:=by have:=of_decide_eq_true h;omega
theorem acY {k:Nat} (h:decide ((k:Int) > 1000)=false):¬ k > 1000:=by have:=of_decide_eq_false h;omega
section
variable {w:World} {bc:Nat} {gv sv:Value} {q:List bF} {n sz:Nat} {B:Nat->Nat->Nat} {ad:Nat->Nat->fH} {F:Nat->Nat->MR}
theorem Tk (h:CI w bc gv sv q n sz B ad F) (hn:n<=4) (hs:sz<=5) (g i:Nat) (hg:g<256) (hi:i<256) (d:ByteArray):af Tryz.prog 22 #[Ptt bc,.agg #[.int .u8 g,.int .u8 i],.string d] w (λ v w'=>(∃ dx q',CI w' bc gv dx q' n sz B ad F/\nZ n sz B bc w sv ad w' dx ad/\((¬ (g<n/\i<sz)/\v=.tuple #[.int .i64 0,.int .i64 6]/\q'=q)\/((g<n/\i<sz)/\d.size > 1000/\v=.tuple #[.int .i64 0,.int .i64 2]/\q'=q)\/((g<n/\i<sz)/\¬ d.size > 1000/\v=.tuple #[.int .i64 q.length,.int .i64 0]/\q'=kC q ⟨255,255,g,i,d⟩)))/\Kz w w'/\w'.os=w.os/\w'.output=w.output):=by
 refine aj ah mixed Tryz.func22 rfl rfl ?_;intro w1 b1 m1 g1 l1;have h1:=h.ax g1;refine ⟨_,_,m1,[.int .u8 g,.int .u8 i],rfl,rfl,_,find_ok h1 hn hs g i hg hi,?_⟩;rintro _ w2 ⟨rfl,g2⟩;have h2:=h1.ax g2;have G:=g1.trans g2;by_cases c:g<n/\i<sz
 ·rw [if_pos c]
  refine au (λ e=>?_) (λ e=>?_)
  ·have e1:d.size > 1000:=acX e
   exact ⟨⟨_,_,h2,nZ.ax G,.inr (.inl ⟨c,e1,rfl,rfl⟩)⟩,G.kz,G.os,G.out⟩
  ·have e1:¬ d.size > 1000:=acY e
   obtain ⟨bg,cg,cur,tg,YV,_⟩:=h.ptr;subst YV;obtain ⟨sa,sc,rfl⟩:=ae h2.row;refine ⟨_,_,h2.eH,_,rfl,λ w3 b3 m3 g3 l3=>⟨_,_,_,m3,rfl,rfl,λ w4 m4 g4=>?_⟩⟩;have g24:GB none w2 w4:=g3.new g4 l3;have h4:=h2.ax g24;refine ⟨_,_,m4,[.int .u8 255,.int .u8 255],rfl,rfl,_,_,(g2.trans g24).get m1 nofun,[.int .u8 g,.int .u8 i],rfl,rfl,_,WA h4 ⟨255,255,g,i,d⟩,?_⟩;rintro _ w5 ⟨rfl,⟨dx,h5,f5⟩,k5,o5,u5⟩;have GG:=G.trans g24;exact ⟨⟨_,_,h5,(nZ.ax GG).trans f5,.inr (.inr ⟨c,e1,rfl,rfl⟩)⟩,GG.kz.trans k5,o5.trans GG.os,u5.trans GG.out⟩
 ·rw [if_neg c]
  exact ⟨⟨_,_,h2,nZ.ax G,.inl ⟨c,rfl,rfl⟩⟩,G.kz,G.os,G.out⟩
end
section
variable {A:aT} {R:MR}
theorem Ok.stand (ho:Ok A R):Ok A (fD R):=⟨ho.sz,ho.i,ho.st,ho.kn,λ _ _ h=>(by cases h),ho.vt,ho.wv,λ _ _ h=>(by cases h),λ _ _ h=>(by cases h),Nat.zero_lt_succ _,ho.lg,ho.lc,ho.nx,ho.sn⟩
theorem Ok.fw (ho:Ok A R) {b:bE} (hb:b.n<=4294967295):Ok A { R with sc:={ R.sc with b:=b } }:=⟨ho.sz,ho.i,ho.st,ho.kn,ho.pp,ho.vt,ho.wv,ho.mt,ho.ac,ho.pr,ho.lg,ho.lc,ho.nx,ho.sn.1,hb,ho.sn.2.2⟩
theorem Ok.refuse (ho:Ok A R) (f:Nat×Nat) {b:bE} (hb:b.n<=4294967295):Ok A (bJ A.enc R f b):=by
 unfold bJ;split
 ·exact ho.snd _ _ _
 ·split
  ·exact ho
  ·exact (ho.fw hb).stand
theorem Ok.Jt (ho:Ok A R) (f:Nat×Nat) {b:bE} (hb:b.n<=4294967295):Ok A (rE A.enc R f b):=by
 unfold rE;split
 ·exact ho.refuse f hb
 ·exact (ho.refuse f hb).snd _ _ _
theorem Ok.xA (ho:Ok A R) (f:Nat×Nat) {m:MM} (hb:m.b.n<=4294967295) (hc:A.gc m.c/\m.s<60):Ok A (j4 A R f m):=by
 unfold j4;split
 ·exact ho.refuse f hb
 ·exact ((ho.refuse f hb).CV hc.2 hc.1).snd _ _ _
end
section
variable {A:aT} (HA:bK A) {R:MR}
include HA
theorem Ok.Tm (ho:Ok A R) {f:Nat×Nat} (hf:f.2<5) (m:MM):Ok A (tZ A R f m):=by
 unfold tZ;split
 ·exact (ho.yo HA hf).1
 ·exact ho
theorem Ok.ask (ho:Ok A R) {q:bN} (hq:A.gc (gI q)):Ok A (uT A R q):=by
 unfold uT;split
 ·exact ho
 ·split
  ·exact ho.snd _ _ _
  ·exact (ho.offer HA hq).1
theorem Ok.promise (ho:Ok A R) {f:Nat×Nat} (hf:f.2<5) (b:bE) {vs:List MV} (hv:∀ v∈vs,A.gc v.c/\v.slot<60):Ok A (iZ A R f b vs):=by
 unfold iZ;split
 ·exact ho
 ·exact ((ho.fU hv).yw HA hf).1
theorem Ok.move (ho:Ok A R) (f:Nat×Nat) {r:Rg} (hr:A.gc (oI r)):Ok A (rF A R f r):=by
 unfold rF;split
 ·exact ho
 ·split
  ·exact ho.snd _ _ _
  ·split
   ·exact (ho.offer HA hr).1
   ·exact ho
theorem Ok.Tn (ho:Ok A R) {p:Nat} {s:Int} (hp:A.gc (sS p s)):Ok A (rG A R p s):=by
 unfold rG;split
 ·exact ho
 ·split
  ·exact ho
  ·split
   ·exact (ho.offer HA hp).1
   ·exact ho
theorem Ok.take2 (ho:Ok A R) {f:Nat×Nat} {m:MM} (hm:GM A R f m):Ok A (nY A R f m):=by
 unfold nY;split
 ·rename_i k;exact ho.ask HA (hm.ask k)
 split
 ·exact ho.Jt f hm.bn
 split
 ·rename_i k;exact ho.promise HA (hm.vs k).2.2 _ (hm.vs k).1
 split
 ·split
  ·exact ho.stand
  ·exact ho
 split
 ·rename_i k;exact ho.xA f hm.bn (hm.acc k)
 split
 ·rename_i k;exact ho.Tm HA (hm.pK k).2 m
 split
 ·rename_i k;exact (ho.agree HA (hm.dec k).2 (hm.dec k).1).1
 split
 ·rename_i k;exact ho.move HA f (hm.qy k).2.2.2
 split
 ·rename_i k
  have e:(m.peer.toNat:Int)=m.peer:=Int.toNat_of_nonneg (hm.lK k).1;exact ho.Tn HA (by rw [e];exact (hm.lK k).2.2)
 ·exact ho
theorem Ok.take (ho:Ok A R) {f:Nat×Nat} {d:ByteArray} (hm:∀ m,A.dec d=some m->¬ (f.1=255/\m.kind≠1)->GM A R f m):Ok A (iU A R f d):=by
 unfold iU;split
 ·exact ho
 ·rename_i m hd
  split
  ·exact ho
  ·rename_i hn
   have g:=hm m hd hn;exact (ho.seen g.bn).take2 HA ⟨g.bn,g.ask,g.vs,g.acc,g.pK,g.dec,g.qy,g.lK⟩
end
section
variable {A:aT} (HA:bK A) {R:MR}
include HA
theorem Ok.new {g i gs sz:Nat} (hg:g<gs) (hn:gs<=4) (hN:gs=A.N) (hi:i<sz) (hz:sz<=5):Ok A (CZ A g i gs sz) :=
 ⟨hz,⟨hi,hg,hn,hN⟩,HA.NT _ _ hN hg hn,λ _ _ h=>(by cases h),λ _ _ h=>(by cases h),λ _ _ h=>(by cases h),λ _ _ h=>(by cases h),λ _ _ h=>(by cases h),λ _ _ h=>(by cases h),Nat.zero_lt_succ _,Nat.zero_le _,λ _ h=>(by cases h),Nat.zero_le _,Nat.zero_le _,Nat.zero_le _,Nat.zero_le _⟩
omit HA in
theorem Ev (R:MR) (f:Nat×Nat) (b:bE):(bJ A.enc R f b).out.length<=R.out.length+1:=by
 unfold bJ;split
 ·rw [jN];simp
 ·split
  ·omega
  ·show R.out.length<=_;omega
theorem Qb (ho:Ok A R) {f:Nat×Nat} {m:MM} (hm:GM A R f m):(nY A R f m).out.length<=R.out.length+20000:=by
 have one:∀ (R:MR) (mm:MM) (x:Nat×Nat),(lH A.enc R mm [x]).out.length=R.out.length+1:=λ R mm x=>by rw [jN];rfl
 unfold nY;split
 ·rename_i k
  unfold uT;split
  ·omega
  split
  ·unfold Bo;rw [one];omega
  ·exact Nat.le_trans (ho.offer HA (hm.ask k)).2.1 (by omega)
 split
 ·unfold rE
  have:=Ev (A:=A) R f m.b;split
  ·omega
  ·rw [one];omega
 split
 ·rename_i k
  unfold iZ;split
  ·omega
  ·exact ((ho.fU (hm.vs k).1).yw HA (hm.vs k).2.2).2.1
 split
 ·split
  ·show R.out.length<=_;omega
  ·omega
 split
 ·unfold j4
  have:=Ev (A:=A) R f m.b;split
  ·omega
  ·rw [one]
   show (bJ A.enc R f m.b).out.length+1<=_;omega
 split
 ·rename_i k
  unfold tZ;split
  ·exact Nat.le_trans (ho.yo HA (hm.pK k).2).2.1 (by omega)
  ·omega
 split
 ·rename_i k
  exact Nat.le_trans (ho.agree HA (hm.dec k).2 (hm.dec k).1).2.1 (by omega)
 split
 ·rename_i k
  unfold rF;split
  ·omega
  split
  ·unfold Af;rw [one];omega
  split
  ·exact Nat.le_trans (ho.offer HA (hm.qy k).2.2.2).2.1 (by omega)
  ·omega
 split
 ·rename_i k
  have e:(m.peer.toNat:Int)=m.peer:=Int.toNat_of_nonneg (hm.lK k).1;unfold rG;split
  ·omega
  split
  ·omega
  split
  ·exact Nat.le_trans (ho.offer HA (by rw [e];exact (hm.lK k).2.2)).2.1 (by omega)
  ·omega
 ·omega
theorem take_len (ho:Ok A R) {f:Nat×Nat} {d:ByteArray} (hm:∀ m,A.dec d=some m->¬ (f.1=255/\m.kind≠1)->GM A R f m):(iU A R f d).out.length<=R.out.length+20000:=by
 unfold iU;split
 ·omega
 ·rename_i m hd
  split
  ·omega
  ·rename_i hn
   have g:=hm m hd hn;exact Qb HA (ho.seen g.bn) ⟨g.bn,g.ask,g.vs,g.acc,g.pK,g.dec,g.qy,g.lK⟩
theorem Tp (ho:Ok A R):(kX A R).out.length<=R.out.length+30000:=by
 obtain ⟨o1,l1,_,_⟩:=ho.bG HA;have h2:(fG A (bG A R)).out.length<=(bG A R).out.length+5:=by
  unfold fG;rw [jN];have:=iR (bG A R).sc.g (bG A R).sc.i (bG A R).sc.g (bG A R).sc.sz;have:=o1.sz;omega
 unfold kX qx;split
 ·omega
 split
 ·have o2:Ok A (fG A (bG A R)):=o1.snd _ _ _
  have r1:=vW A.enc (fG A (bG A R)) o2.sz (fG A (bG A R)).sc.next;have o3:=r1.ok o2;have r2:=vX A.enc (iH A.enc (fG A (bG A R)) (fG A (bG A R)).sc.next) o3.sz (fG A (bG A R)).st.O.length;have a1:=r1.len;have a2:=r2.len;have a3:=HA.ol _ o2.st;have a4:=o2.nx;unfold qZ;exact Nat.le_trans a2 (by omega)
 ·omega
end
def acZ (Post:World->Prop):Ex->Sg->World->Prop
 | .n,_,w=>Post w
 | .r,_,w=>Post w
 | .x _,_,_=>False
theorem aay {P:Program} (E:kM P) (hm:P.follows .mixedOrders=true) (f:FuncId) {c:Code} {m:Nat} {args:List Value} {w:World} {Post:World->Prop} (hn:Nat.ble args.length m=true) (h:tY E m c (acZ Post) (uI args 0) w):Nj P f c { tmps:=args.toArray++Array.replicate (m - args.toArray.size) undef,defers:=[] } w (λ _ w'=>Post w'):=by
 intro main D X b cs hX _ hk0 hk;have hle:=Nat.le_of_ble_eq_true hn;refine CL (⟨hX,trivial⟩:SX P main D X) hk0 hm c _ [] ?_ _ w _ ?_ h
 ·intro e s w he a hfit
  cases e with
  | n=>exact hX.c.fin (hk a [] w hfit.defers he)
  | x j=>exact he.elim
  | r=>exact λ todo=>hk a todo w hfit.defers he
 ·refine ⟨rfl,?_,λ i v hi=>?_⟩
  ·simp;omega
  ·obtain ⟨d,h1,h2⟩:=yh hi
   rw [Nat.zero_add] at h1;subst h1;have hlt:i<args.length:=(List.getElem?_eq_some_iff.1 h2).1;rw [Array.getD_eq_getD_getElem?];show (((args.toArray++Array.replicate _ undef)[i]?).getD undef)=v;rw [Array.getElem?_append_left (by simpa using hlt)];simp [h2]
section
variable {Λ:bU} {w:World} {br:Nat} {R:MR}
theorem Qc (h:Wk Λ br R w):Nj Tryz.prog 134 (Tryz.f134.body.getD .skip) { tmps:=#[Ptt br]++Array.replicate (Tryz.f134.ntmps - (#[Ptt br]:Array Value).size) undef,defers:=[] } w (λ _ w'=>Wk Λ br (nX R) w'/\Kz w w'):=by
 obtain ⟨a,h⟩:=h;refine aay ah mixed _ (args:=[Ptt br]) (by kernel_rfl) ?_;refine ⟨_,_,h.ri.mem,_,rfl,rfl,_,_,_,h.ri.mem,rfl,rfl,λ w1 m1 g1=>?_⟩;have h1:=h.cell (s':={ R.sc with wb:=R.sc.b }) m1 g1;have k1:=h.ri.kz h.ri.iX g1;have hne:a.vm≠a.wm:=by have:=h1.ri.sep;simp at this;omega
 refine ⟨by kernel_rfl,_,_,h1.ri.mem,_,rfl,_,_,h1.ri.mem,_,rfl,_,FH h1.ri.wm h1.ri.vm hne,?_⟩;rintro _ w2 ⟨rfl,hm2,g2⟩;exact ⟨⟨_,h1.step h1.ri.CP g2 (h1.ri.wm' g2 hm2)⟩,k1.trans (h1.ri.kz h1.ri.CP g2)⟩
end
section
variable {w w3 w4:World} {bc:Nat} {gv sv:Value} {q:List bF} {n sz:Nat} {B:Nat->Nat->Nat} {ad:Nat->Nat->fH} {F:Nat->Nat->MR}
theorem RI.Tq {br:Nat} {R:MR} {a:fH} (h:RI w br R a) {x:Nat} (hx:Own br a x):(∃ es c,w.heap[x]? = some (.map es c))\/∃ c t,w.heap[x]? = some (.cells c t):=by
 rcases hx with rfl | rfl | rfl | rfl | rfl | rfl | rfl | hx | hx
 ·exact .inr ⟨_,_,h.mem⟩
 ·exact .inl h.vm.obj
 ·exact .inl h.wm.obj
 ·exact .inl h.kn.obj
 ·exact .inl h.mt.obj
 ·exact .inl h.pp.obj
 ·exact .inl h.ac.obj
 ·obtain ⟨c,hc⟩:=h.lg.obj hx;exact .inr ⟨_,_,hc⟩
 ·obtain ⟨c,hc⟩:=aD h.ob hx;exact .inr ⟨_,_,hc⟩
theorem CI.out (h:CI w3 bc gv sv q n sz B ad F) {g i:Nat} (hg:g<n) (hi:i<sz) {pk:Nat} (c1:∃ a b c d e f,w3.heap[pk]? = some (.chan a b c d e f)) (c2:∃ a b c d e f,w3.heap[pk+1]? = some (.chan a b c d e f)) (hA:IQ bc (B g i) gv sv (ad g i).ob q (F g i).out (nV (F g i) (ad g i)).toArray 135 pk w3 w4):∃ dx,CI w4 bc gv dx ((q++(F g i).out).take 20000) n sz B (fB ad g i { ad g i with ob:=.slice none 0 0 }) (fB F g i { F g i with out:=[] })/\Kz w3 w4/\∀ x o,x≠pk->x≠pk+1->w3.heap[x]? = some o->¬ mh n sz B bc sv ad x->w4.heap[x]? = some o/\¬ mh n sz B bc dx (fB ad g i { ad g i with ob:=.slice none 0 0 }) x:=by
 obtain ⟨dx,hc4,hr4,jB⟩:=hA.eH;have hR:=h.rep g i hg hi;have YW:∀ {x:Nat} {o:Obj},w3.heap[x]? = some o->(∀ a b c d e f,o≠.chan a b c d e f)->x≠pk/\x≠pk+1:=by
  intro x o hx ho;constructor
  ·rintro rfl
   obtain ⟨a,b,c,d,e,f,hh⟩:=c1;rw [hx] at hh;exact ho _ _ _ _ _ _ (Option.some.inj hh)
  ·rintro rfl
   obtain ⟨a,b,c,d,e,f,hh⟩:=c2;rw [hx] at hh;exact ho _ _ _ _ _ _ (Option.some.inj hh)
 have svt:∀ {x:Nat},some x=sv.ownBlock->∃ c,w3.heap[x]? = some (.cells c 97):=λ e=>aD h.row e.symm
 have slt:∀ {x:Nat},some x=(ad g i).ob.ownBlock->∃ c,w3.heap[x]? = some (.cells c 97):=λ e=>aD hR.ob e.symm
 have kt:∀ {x:Nat} {c:Array Value} {t:TypeId},w3.heap[x]? = some (.cells c t)->t≠97->t≠118->t≠135->w4.heap[x]? = some (.cells c t):=by
  intro x c t hx h1 h2 h3;obtain ⟨n1,n2⟩:=YW hx nofun;refine (hA.rest x (ag hx) (λ e=>?_) (λ e=>?_) (λ e=>?_) (λ e=>?_) n1 n2).trans hx
  ·subst e;rw [h.eH] at hx;injection hx with hx;injection hx with _ hx;exact h2 hx.symm
  ·subst e;rw [hR.mem] at hx;injection hx with hx;injection hx with _ hx;exact h3 hx.symm
  ·obtain ⟨c',hc⟩:=svt e;rw [hx] at hc;injection hc with hc;injection hc with _ hc;exact h1 hc
  ·obtain ⟨c',hc⟩:=slt e;rw [hx] at hc;injection hc with hc;injection hc with _ hc;exact h1 hc
 have k:Kz w3 w4:=λ t ht b c hb=>kt hb (λ e=>by subst e;revert ht;decide) (λ e=>by subst e;revert ht;decide) (λ e=>by subst e;revert ht;decide)
 have Qd:∀ g' i' x,g'<n->i'<sz->Own (B g' i') (ad g' i') x->x≠bc:=λ g' i' x hg' hi' ho e=>by
  subst e;rcases (h.rep g' i' hg' hi').Aq ho h.eH with e | e | e <;> revert e <;> decide
 have UY:∀ g' i' x,g'<n->i'<sz->Own (B g' i') (ad g' i') x->x≠pk/\x≠pk+1:=λ g' i' x hg' hi' ho=>by
  rcases (h.rep g' i' hg' hi').Tq ho with ⟨_,_,hh⟩ | ⟨_,_,hh⟩
  ·exact YW hh nofun
  ·exact YW hh nofun
 have own:∀ x,Own (B g i) (ad g i) x->x≠B g i->some x≠(ad g i).ob.ownBlock->w4.heap[x]? = w3.heap[x]?:=λ x hx n1 n2=>hA.rest x (hR.lt hx) (Qd g i x hg hi hx) n1 (λ e=>h.ob g i x hg hi e.symm hx) n2 (UY g i x hg hi hx).1 (UY g i x hg hi hx).2
 have mp:∀ m,Own (B g i) (ad g i) m->(∃ es c,w3.heap[m]? = some (Obj.map es c))->w4.heap[m]? = w3.heap[m]?:=λ m ho hm=>own m ho (gX hm hR.rX) λ e=>gX hm (hR.YC e.symm) rfl
 have nt:∀ {t:TypeId},t ∉ UX->t≠97/\t≠118/\t≠135:=λ {t} ht=>⟨λ e=>ht (by rw [e];decide),λ e=>ht (by rw [e];decide),λ e=>ht (by rw [e];decide)⟩
 have sub:∀ x,Own (B g i) { ad g i with ob:=.slice none 0 0 } x->Own (B g i) (ad g i) x:=by
  rintro x (e | e | e | e | e | e | e | e | e)
  ·exact .inl e
  ·exact .inr (.inl e)
  ·exact .inr (.inr (.inl e))
  ·exact .inr (.inr (.inr (.inl e)))
  ·exact .inr (.inr (.inr (.inr (.inl e))))
  ·exact .inr (.inr (.inr (.inr (.inr (.inl e)))))
  ·exact .inr (.inr (.inr (.inr (.inr (.inr (.inl e))))))
  ·exact hR.uP e
  ·cases e
 have Od:∀ g' i' x,Own (B g' i') (fB ad g i { ad g i with ob:=.slice none 0 0 } g' i') x->Own (B g' i') (ad g' i') x:=by
  intro g' i' x hx;by_cases e:g'=g/\i'=i
  ·obtain ⟨rfl,rfl⟩:=e
   rw [bL] at hx;exact sub x hx
  ·rw [bz _ _ e] at hx
   exact hx
 refine ⟨dx,⟨hc4,hr4,by rw [List.length_take];omega,?_,λ g' i' hg' hi'=>?_,λ g1 i1 g2 i2 x h1 h2 h3 h4 o1 o2=>h.sep g1 i1 g2 i2 x h1 h2 h3 h4 (Od _ _ _ o1) (Od _ _ _ o2),λ g1 i1 x h1 h2 hx o1=>?_⟩,k,λ x o p1 p2 hx hN=>?_⟩
 ·obtain ⟨bg,cg,cur,tg,e1,e2,e3,e4,e5⟩:=h.ptr
  refine ⟨bg,cg,cur,tg,e1,e2,kt e3 (nt (lL e4)).1 (nt (lL e4)).2.1 (nt (lL e4)).2.2,e4,λ g hg=>?_⟩;obtain ⟨bs,ct,cur',ts,f1,f2,f3,f4,f5⟩:=e5 g hg;exact ⟨bs,ct,cur',ts,f1,f2,kt f3 (nt (lL f4)).1 (nt (lL f4)).2.1 (nt (lL f4)).2.2,f4,f5⟩
 ·by_cases e:g'=g/\i'=i
  ·obtain ⟨rfl,rfl⟩:=e
   rw [bL,bL];refine ⟨hA.rep,hR.vm.keep (λ _ _ h=>h.kz k) (mp _ hR.uK hR.vm.obj),hR.wm.keep (λ _ _ h=>h.kz k) (mp _ hR.CP hR.wm.obj),hR.kn.keep (λ _ _ h=>h.kz k) (mp _ hR.uL hR.kn.obj),hR.mt.keep (λ _ _ h=>h.kz k) (mp _ hR.lZ hR.mt.obj),hR.pp.keep (λ _ _ h=>h.kz k) (mp _ hR.uN hR.pp.obj),hR.ac.keep (w':=w4) (λ v x (h:mo w3 v x)=>(show mo w4 v x from h)) (mp _ hR.uO hR.ac.obj),hR.lg.kz k (λ x hx=>own x (hR.uP hx) (hR.ym hx) λ e=>hR.NR hx e.symm rfl),hR.st.kz k,eX _ _ _,hR.sep⟩
  ·rw [bz _ _ e,bz _ _ e]
   have ne:∀ x,Own (B g' i') (ad g' i') x->¬ Own (B g i) (ad g i) x:=λ x o1 o2=>e (h.sep g' i' g i x hg' hi' hg hi o1 o2)
   exact (h.rep g' i' hg' hi').keep k λ x hx=>hA.rest x ((h.rep g' i' hg' hi').lt hx) (Qd g' i' x hg' hi' hx) (λ e=>ne x hx (.inl e)) (λ e=>h.ob g' i' x hg' hi' e.symm hx) (λ e=>ne x hx (hR.sP e.symm)) (UY g' i' x hg' hi' hx).1 (UY g' i' x hg' hi' hx).2
 ·have o1:=Od _ _ _ o1
  rcases jB x hx with h5 | h5
  ·exact h.ob g1 i1 x h1 h2 h5 o1
  ·have:=(h.rep g1 i1 h1 h2).lt o1;omega
 ·have no:¬ Own (B g i) (ad g i) x:=λ ho=>hN (.inr (.inr ⟨g,i,hg,hi,ho⟩))
  refine ⟨(hA.rest x (ag hx) (λ e=>hN (.inl e)) (λ e=>no (.inl e)) (λ e=>hN (.inr (.inl e.symm))) (λ e=>no (hR.sP e.symm)) p1 p2).trans hx,λ hc=>?_⟩;rcases hc with e | e | ⟨g1,i1,q1,q2,o1⟩
  ·exact hN (.inl e)
  ·rcases jB x e with h1 | h1
   ·exact hN (.inr (.inl h1))
   ·have:=ag hx;omega
  ·exact hN (.inr (.inr ⟨g1,i1,q1,q2,Od _ _ _ o1⟩))
end
section
variable {w:World} {bc:Nat} {gv sv:Value} {q:List bF} {n sz:Nat} {B:Nat->Nat->Nat} {ad:Nat->Nat->fH} {F:Nat->Nat->MR}
def uf (R:MR):MR:={ nX R with out:=[] }
theorem WB {K:Machine->Trace->Prop} (h:CI w bc gv sv q n sz B ad F) {g i:Nat} (hg:g<n) (hi:i<sz) {f:FuncId} {fst cap:Array Value} {fn:Func} {cF:Frame} {cs:List Frame}
 (hf : Tryz.prog.funcs[f]? = some fn) (hname : (fn.name == "runtime.NumGoroutine") = false) (hb : fn.body.isNone = false) {R' : MR} (hl : R'.out.length < 1000000)
 (Eb:∀ w1,GB none w w1->af Tryz.prog f (fst++cap) w1 (λ _ w'=>Wk (rest w1 (B g i) (ad g i)) (B g i) R' w'/\Kz w1 w'))
 (hk:∀ w4 dx jo,CI w4 bc gv dx ((q++R'.out).take 20000) n sz B jo (fB F g i (uf R'))->w4.os=w.os->w4.output=w.output->Kz w w4->nZ n sz B bc w sv ad w4 dx jo->XR Tryz.prog K (G (cF.finish (.tuple #[])) cs) w4) :
 XR Tryz.prog K (G (Frame.enter Tryz.prog 47 #[Ptt bc,.pointer (some ⟨B g i,0,none⟩),.func (.func f) fst cap] .normal) (cF::cs)) w:=by
 have hR:=h.rep g i hg hi;have g0:GB none w ((w.alloc (.chan 0 #[] false 0 0 false)).alloc (.chan 0 #[] false 0 0 false)):=(GB.alloc none w _).trans (GB.alloc none _ _);have ac0:((w.alloc (.chan 0 #[] false 0 0 false)).alloc (.chan 0 #[] false 0 0 false)).heap[w.heap.size]? = some (.chan 0 #[] false 0 0 false):=by
  rw [alloc_old (by rw [jk];omega),iK]
 have ac1:((w.alloc (.chan 0 #[] false 0 0 false)).alloc (.chan 0 #[] false 0 0 false)).heap[w.heap.size+1]? = some (.chan 0 #[] false 0 0 false):=by
  have:=iK (w.alloc (.chan 0 #[] false 0 0 false)) (.chan 0 #[] false 0 0 false);rwa [jk] at this
 generalize hw0:(w.alloc (.chan 0 #[] false 0 0 false)).alloc (.chan 0 #[] false 0 0 false)=w0 at *;have h0:=h.ax g0;have hR0:=h0.rep g i hg hi;have YX:∀ {x:Nat},w.heap.size<=x->¬ Own (B g i) (ad g i) x:=λ hx ho=>by have:=hR.lt ho;omega
 have pr:∀ {R3:MR} {a3:fH} {w3:World},Wa (rest w0 (B g i) (ad g i)) (B g i) R3 a3 w3->∀ {x:Nat} {o:Obj},w0.heap[x]? = some o->¬ Own (B g i) (ad g i) x->w3.heap[x]? = some o/\¬ Own (B g i) a3 x:=λ {R3 a3 w3} hw {x o} hx hn=>hw.pr x o (by unfold rest;dsimp only;rw [if_neg hn];exact hx)
 have Qd:¬ Own (B g i) (ad g i) bc:=λ ho=>by
  rcases hR.Aq ho h.eH with e | e | e <;> revert e <;> decide
 refine VS (bc:=bc) (br:=B g i) (gv:=gv) (sv:=sv) (q0:=q) hf hname hb h.len
  (Q1:=λ w1=>Wk (rest w0 (B g i) (ad g i)) (B g i) R' w1/\Kz w0 w1)
  (R3:=λ sl ps rc tR w3=>∃ a3,Wa (rest w0 (B g i) (ad g i)) (B g i) (nX R') a3 w3/\Kz w0 w3/\sl=a3.ob/\ps=R'.out/\rc=(nV (nX R') a3).toArray/\tR=135) ?_ ?_ ?_
 ·rw [hw0]
  exact Eb w0 g0
 ·rintro w1 ⟨hW,k1⟩
  have hB:=Qc hW;intro main D X b cs hX e1 e2 hfin;refine hB main D X b cs hX e1 e2 λ a' todo w3 hd hP=>hfin a' todo w3 hd ?_
  obtain ⟨⟨a3,h3⟩,k3⟩:=hP;have cb:=pr h3 (h0.eH) Qd;refine ⟨a3.ob,R'.out,(nV (nX R') a3).toArray,135,⟨cb.1,aA h0.row λ x hx=>?_,h3.ri.mem,rfl,h3.ri.ob,hl,?_,?_,?_,?_,?_⟩,a3,h3,k1.trans k3,rfl,rfl,rfl,rfl⟩
  ·obtain ⟨c,hc⟩:=aD h0.row hx
   exact (pr h3 hc (h0.ob g i x hg hi hx)).1.trans hc.symm
  ·exact λ e=>Qd (.inl e)
  ·exact λ e=>h.ob g i _ hg hi e.symm (.inl rfl)
  ·exact λ e=>cb.2 (h3.ri.sP e.symm)
  ·intro x hx e
   obtain ⟨c,hc⟩:=aD h0.row hx;exact (pr h3 hc (h0.ob g i x hg hi hx)).2 (h3.ri.sP e.symm)
  ·exact ⟨(pr h3 ac0 (YX (Nat.le_refl _))).1,(pr h3 ac1 (YX (Nat.le_succ _))).1⟩
 ·rintro sl ps rc tR w3 w4 hW ⟨a3,h3,k3,rfl,rfl,rfl,rfl⟩ hA
  obtain ⟨h3C,o3,u3,f3⟩:=h0.Qa hg hi h3 k3;have hA':IQ bc (B g i) gv sv (fB ad g i a3 g i).ob q (fB F g i (nX R') g i).out (nV (fB F g i (nX R') g i) (fB ad g i a3 g i)).toArray 135 w.heap.size w3 w4:=by
   rw [bL,bL];exact hA
  obtain ⟨dx,h4,k4,f4⟩:=h3C.out hg hi ⟨_,_,_,_,_,_,hW.ch.1⟩ ⟨_,_,_,_,_,_,hW.ch.2⟩ hA';rw [bL,bL] at h4;have e1:fB (fB F g i (nX R')) g i { nX R' with out:=[] }=fB F g i (uf R'):=by
   funext g' i'
   by_cases e:g'=g/\i'=i
   ·obtain ⟨rfl,rfl⟩:=e
    rw [bL,bL];rfl
   ·rw [bz _ _ e,bz _ _ e,bz _ _ e]
  rw [e1] at h4;refine hk w4 dx _ h4 (hA.os.trans (o3.trans g0.os)) (hA.out.trans (u3.trans g0.out)) ((g0.kz.trans k3).trans k4) λ x o hx hN=>?_
  have hl:=ag hx;obtain ⟨q1,q2⟩:=f3 x o (g0.get hx nofun) hN;have r:=f4 x o (by omega) (by omega) q1 q2;rw [bL] at r;exact r
end
structure aL where
 (n sz:Nat)
 F:Nat->Nat->MR
 q:List bF
section
variable (A:aT)
def aL.done (C:aL) (g i:Nat) (R:MR):aL:={ C with F:=fB C.F g i (uf R),q:=(C.q++R.out).take 20000 }
def aL.new (n sz:Nat):aL:=⟨n,sz,λ g i=>CZ A g i n sz,[]⟩
def aL.tick (C:aL) (g i:Nat):aL:=if g<C.n/\i<C.sz then C.done g i (kX A (C.F g i)) else C
def aL.di (C:aL) (g i:Nat):aL:=if g<C.n/\i<C.sz then { C with F:=fB C.F g i (mStart A (C.F g i)) } else C
def aL.fV (C:aL) (k:Nat):aL:=match C.q[k]? with
 | none=>C
 | some p=>if p.tg.toNat<C.n/\p.tr.toNat<C.sz then C.done p.tg.toNat p.tr.toNat (iU A (C.F p.tg.toNat p.tr.toNat) (p.fg.toNat,p.fr.toNat) p.d) else C
def aL.send (C:aL) (g i:Nat) (d:ByteArray):aL:=if (g<C.n/\i<C.sz)/\¬ d.size > 1000 then { C with q:=kC C.q ⟨255,255,g,i,d⟩ } else C
end
section
variable {A:aT} {R:MR}
theorem Ok.done (ho:Ok A R):Ok A (uf R):=⟨ho.sz,ho.i,ho.st,ho.kn,ho.pp,ho.vt,ho.write.wv,ho.mt,ho.ac,ho.pr,ho.lg,ho.lc,ho.nx,ho.write.sn⟩
end
end
end Go.Proofs.YtignemioillaiabGreat
