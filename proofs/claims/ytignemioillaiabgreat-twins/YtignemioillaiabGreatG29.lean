/- A replica at work (31): newReplica. -/
import Derived.Test.YtignemioillaiabGreatG28
namespace Go.Proofs.YtignemioillaiabGreat
set_option maxHeartbeats 8000000
set_option maxRecDepth 100000
section
open Go Go.Conc
def cZ (w:World):bN:=⟨fun b=>w.heap[b]?,w.os,w.output⟩
def YO:St:=⟨0,0,[],[],[],[],[]⟩
def zR (g i gs sz:Nat):MR:=⟨⟨g,i,gs,sz,⟨0,0⟩,⟨0,0⟩,0,0,0,0⟩,fun _=>none,fun _=>none,fun _=>none,[],YO,[],fun _=>none,fun _=>none,fun _=>none⟩
def Fh (A:bE) (g i gs sz:Nat):MR:=mStart A (zR g i gs sz)
theorem jG.zero (w:World):jG w (.slice none 0 0) (.slice none 0 0) (.slice none 0 0) (.slice none 0 0) (.slice none 0 0) YO :=
 ⟨Fz.nil _ _ _,Fz.nil _ _ _,Fz.nil _ _ _,⟨[],rfl,Fz.nil _ _ _,fun i o q h=>(by simp [YO] at h)⟩,Fz.nil _ _ _⟩
section
variable {A:bE} (HA:bW A) {w:World}
include HA
theorem YP (g i gs sz:Nat) (hg:g<gs) (hn:gs≤4):af Tryz.prog 147 #[.agg #[.int .u8 g,.int .u8 i],.int .i64 gs,.int .i64 sz] w (fun v w'=>∃ br,v=.pointer (some ⟨br,0,none⟩)∧w.heap.size≤br∧Wk (cZ w) br (Fh A g i gs sz) w'∧Kz w w'):=by
 refine ah au mixed Tryz.func147 rfl rfl ?_;intro w1 b1 m1 g1 l1;refine ⟨_,_,m1,[.int .u8 g,.int .u8 i],rfl,rfl,?_⟩;refine fun w2 b2 m2 g2 l2=>?_
 refine fun w3 b3 m3 g3 l3=>?_
 refine fun w4 b4 m4 g4 l4=>?_
 refine fun w5 b5 m5 g5 l5=>?_
 refine fun w6 b6 m6 g6 l6=>?_
 refine @Eq.mp (∀ w7 b7,eY w7 b7 (fun _=>none)→GB none w6 w7→w6.heap.size≤b7→∀ w8 b8,w8.heap[b8]? = some (.cells (fG (zR g i gs sz) ⟨b2,b3,b4,b5,b6,b7,.slice none 0 0,.slice none 0 0,.slice none 0 0,.slice none 0 0,.slice none 0 0,.slice none 0 0,.slice none 0 0⟩).toArray 135)→GB none w7 w8→w7.heap.size≤b8→∃ Q:Value→World→Prop,af Tryz.prog 88 #[.pointer (some ⟨b8,0,none⟩)] w8 Q∧∀ v w',Q v w'→∃ br,Value.pointer (some ⟨b8,0,none⟩)=.pointer (some ⟨br,0,none⟩)∧w.heap.size≤br∧Wk (cZ w) br (Fh A g i gs sz) w'∧Kz w w') _ (by kernel_rfl) ?_;intro w7 b7 m7 g7 l7 w8 b8 m8 g8 l8;have m8':w8.heap[b8]? = some (.cells (fG (zR g i gs sz) ⟨b2,b3,b4,b5,b6,b7,.slice none 0 0,.slice none 0 0,.slice none 0 0,.slice none 0 0,.slice none 0 0,.slice none 0 0,.slice none 0 0⟩).toArray 135):=m8;have G2:GB none w w2:=g1.trans g2;have G7:GB none w w7:=((((G2.trans g3).trans g4).trans g5).trans g6).trans g7;have G8:GB none w w8:=G7.trans g8;have t7:GB none w7 w8:=g8;have t6:=g7.trans t7;have t5:=g6.trans t6;have t4:=g5.trans t5;have t3:=g4.trans t4;have t2:=g3.trans t3;have q2:=m2.lt;have q3:=m3.lt;have q4:=m4.lt;have q5:=m5.lt;have q6:=m6.lt;have q7:=m7.lt;have z1:=g1.size;have z2:=g2.size;have z3:=g3.size;have z4:=g4.size;have z5:=g5.size;have z6:=g6.size;have z7:=g7.size;have zS:RI w8 b8 (zR g i gs sz) ⟨b2,b3,b4,b5,b6,b7,.slice none 0 0,.slice none 0 0,.slice none 0 0,.slice none 0 0,.slice none 0 0,.slice none 0 0,.slice none 0 0⟩:=by
  refine ⟨m8',bS.none (m2.keep (t2.block _ q2 nofun)),bS.none (m3.keep (t3.block _ q3 nofun)),bS.none (m4.keep (t4.block _ q4 nofun)),bS.none (m5.keep (t5.block _ q5 nofun)),bS.none (m6.keep (t6.block _ q6 nofun)),bS.none (m7.keep (t7.block _ q7 nofun)),⟨[],rfl,eG _ _ _,fun i c p h=>(by simp [zR] at h)⟩,jG.zero _,eG _ _ _,?_⟩;simp;omega
 have h8:Wk (cZ w) b8 (zR g i gs sz) w8:=by
  refine ⟨_,zS,fun b o hb=>?_,G8.os,G8.out⟩;have hl:=ae hb;refine ⟨G8.get hb nofun,fun ho=>?_⟩;rcases ho with e | e | e | e | e | e | e | e | e
  ·omega
  ·have e:b=b2:=e
   omega
  ·have e:b=b3:=e
   omega
  ·have e:b=b4:=e
   omega
  ·have e:b=b5:=e
   omega
  ·have e:b=b6:=e
   omega
  ·have e:b=b7:=e
   omega
  ·cases e
  ·cases e
 refine ⟨_,Jc HA h8 hg hn,?_⟩;rintro _ w9 ⟨rfl,h9,k9⟩;exact ⟨b8,rfl,by omega,h9,G8.kz.trans k9⟩
end
def UC:List Nat:=[135,80,97,118]
def Jd:List Nat:=[159,123]
theorem lL {t:Nat} (h:t∈Jd):t ∉ UC:=by
 unfold Jd at h;simp only [List.mem_cons,List.not_mem_nil,or_false] at h;rcases h with rfl | rfl <;> decide
def ac9 (w:World) (gv:Value) (n sz:Nat) (B:Nat→Nat→Nat):Prop:=∃ bg cg cur tg,gv=.slice (some ⟨bg,0,none⟩) n cg∧n≤cg∧w.heap[bg]? = some (.cells cur tg)∧tg∈Jd∧∀ g,g<n→∃ bs ct cur' ts,cur.toList[g]? = some (.slice (some ⟨bs,0,none⟩) sz ct)∧sz≤ct∧w.heap[bs]? = some (.cells cur' ts)∧ts∈Jd∧∀ i,i<sz→cur'.toList[i]? = some (.pointer (some ⟨B g i,0,none⟩))
structure CI (w:World) (bc:Nat) (gv sv:Value) (q:List bJ) (n sz:Nat) (B:Nat→Nat→Nat) (ad:Nat→Nat→fu) (F:Nat→Nat→MR):Prop where
 eX:w.heap[bc]? = some (.cells #[gv,sv] 118)
 row:w.ownsRow 0 97 5 sv q.length (flat q)
 len:q.length≤20000
 ptr:ac9 w gv n sz B
 rep:∀ g i,g<n→i<sz→RI w (B g i) (F g i) (ad g i)
 sep:∀ g i g' i' x,g<n→i<sz→g'<n→i'<sz→Own (B g i) (ad g i) x→Own (B g' i') (ad g' i') x→g=g'∧i=i'
 ob:∀ g i x,g<n→i<sz→sv.ownBlock=some x→¬ Own (B g i) (ad g i) x
open Classical in
noncomputable def rest (w:World) (br:Nat) (a:fu):bN:=⟨fun b=>if Own br a b then none else w.heap[b]?,w.os,w.output⟩
def gX {α:Type} (F:Nat→Nat→α) (g i:Nat) (r:α):Nat→Nat→α:=fun g' i'=>if g'=g∧i'=i then r else F g' i'
theorem bX {α:Type} (F:Nat→Nat→α) (g i:Nat) (r:α):gX F g i r g i=r:=if_pos ⟨rfl,rfl⟩
theorem bK {α:Type} (F:Nat→Nat→α) {g i g' i':Nat} (r:α) (h:¬ (g'=g∧i'=i)):gX F g i r g' i'=F g' i':=if_neg h
def lu (n sz:Nat) (B:Nat→Nat→Nat) (bc:Nat) (sv:Value) (ad:Nat→Nat→fu) (x:Nat):Prop:=x=bc∨sv.ownBlock=some x∨∃ g i,g<n∧i<sz∧Own (B g i) (ad g i) x
def nZ (n sz:Nat) (B:Nat→Nat→Nat) (bc:Nat) (w:World) (sv:Value) (ad:Nat→Nat→fu) (w':World) (dw:Value) (jh:Nat→Nat→fu):Prop:=∀ x o,w.heap[x]? = some o→¬ lu n sz B bc sv ad x→w'.heap[x]? = some o∧¬ lu n sz B bc dw jh x
theorem nZ.trans {n sz:Nat} {B:Nat→Nat→Nat} {bc:Nat} {w w' w'':World} {sv dw YQ:Value} {ad jh YR:Nat→Nat→fu} (h:nZ n sz B bc w sv ad w' dw jh) (k:nZ n sz B bc w' dw jh w'' YQ YR):nZ n sz B bc w sv ad w'' YQ YR:=fun x o hx hn=>k x o (h x o hx hn).1 (h x o hx hn).2
theorem nZ.ax {n sz:Nat} {B:Nat→Nat→Nat} {bc:Nat} {w w':World} {sv:Value} {ad:Nat→Nat→fu} (k:GB none w w'):nZ n sz B bc w sv ad w' sv ad:=fun _ _ hx hn=>⟨k.get hx nofun,hn⟩
theorem RI.xu {w:World} {br:Nat} {R:MR} {a:fu} (h:RI w br R a) {x:Nat} (hx:Own br a x) {c:Array Value} {t:TypeId} (hc:w.heap[x]? = some (.cells c t)):t=135∨t=80∨t=97:=by
 have mp:∀ {m:Nat},(∃ es k,w.heap[m]? = some (.map es k))→x=m→False:=by
  rintro m ⟨es,k,h1⟩ rfl;rw [h1] at hc;cases hc
 rcases hx with hx | hx | hx | hx | hx | hx | hx | hx | hx
 ·subst hx;rw [h.mem] at hc;injection hc with hc;injection hc with _ hc;exact .inl hc.symm
 ·exact (mp h.vm.obj hx).elim
 ·exact (mp h.wm.obj hx).elim
 ·exact (mp h.kn.obj hx).elim
 ·exact (mp h.mt.obj hx).elim
 ·exact (mp h.pp.obj hx).elim
 ·exact (mp h.ac.obj hx).elim
 ·obtain ⟨cur,h1⟩:=h.lg.obj hx;rw [h1] at hc;injection hc with hc;injection hc with _ hc;exact .inr (.inl hc.symm)
 ·obtain ⟨cur,h1⟩:=aG h.ob hx;rw [h1] at hc;injection hc with hc;injection hc with _ hc;exact .inr (.inr hc.symm)
section
variable {w w':World} {bc:Nat} {gv sv:Value} {q:List bJ} {n sz:Nat} {B:Nat→Nat→Nat} {ad:Nat→Nat→fu} {F:Nat→Nat→MR}
theorem CI.ax (h:CI w bc gv sv q n sz B ad F) (k:GB none w w'):CI w' bc gv sv q n sz B ad F:=by
 obtain ⟨bg,cg,cur,tg,e1,e2,e3,e4,e5⟩:=h.ptr;refine ⟨k.get h.eX nofun,aF h.row fun x hx=>?_,h.len,⟨bg,cg,cur,tg,e1,e2,k.get e3 nofun,e4,fun g hg=>?_⟩,fun g i hg hi=>(h.rep g i hg hi).ax k,h.sep,h.ob⟩
 ·obtain ⟨c,hc⟩:=aG h.row hx
  exact k.block x (ae hc) nofun
 ·obtain ⟨bs,ct,cur',ts,f1,f2,f3,f4,f5⟩:=e5 g hg
  exact ⟨bs,ct,cur',ts,f1,f2,k.get f3 nofun,f4,f5⟩
theorem CI.enter (h:CI w bc gv sv q n sz B ad F) {g i:Nat} (hg:g<n) (hi:i<sz):Wk (rest w (B g i) (ad g i)) (B g i) (F g i) w:=by
 refine ⟨ad g i,h.rep g i hg hi,fun b o hb=>?_,rfl,rfl⟩;unfold rest at hb;dsimp only at hb;split at hb
 ·cases hb
 ·rename_i hn
  exact ⟨hb,hn⟩
theorem CI.PT (h:CI w bc gv sv q n sz B ad F) {g i:Nat} (hg:g<n) (hi:i<sz) {R':MR} {a':fu} (hw:Wa (rest w (B g i) (ad g i)) (B g i) R' a' w') (k:Kz w w'):CI w' bc gv sv q n sz B (gX ad g i a') (gX F g i R')∧w'.os=w.os∧w'.output=w.output∧nZ n sz B bc w sv ad w' sv (gX ad g i a'):=by
 have kp:∀ {x:Nat} {o:Obj},w.heap[x]? = some o→¬ Own (B g i) (ad g i) x→w'.heap[x]? = some o∧¬ Own (B g i) a' x:=fun {x o} hx hn=>hw.pr x o (by unfold rest;dsimp only;rw [if_neg hn];exact hx)
 have nm:∀ {x:Nat} {c:Array Value} {t:TypeId},w.heap[x]? = some (.cells c t)→t≠135→t≠80→t≠97→¬ Own (B g i) (ad g i) x:=fun hx h1 h2 h3 ho=>by
  rcases (h.rep g i hg hi).xu ho hx with e | e | e
  ·exact h1 e
  ·exact h2 e
  ·exact h3 e
 have nt:∀ {t:TypeId},t ∉ UC→t≠135∧t≠80∧t≠97:=fun {t} ht=>⟨fun e=>ht (by rw [e];decide),fun e=>ht (by rw [e];decide),fun e=>ht (by rw [e];decide)⟩
 have gI:∀ {g' i':Nat},g'<n→i'<sz→¬ (g'=g∧i'=i)→∀ x,Own (B g' i') (ad g' i') x→w'.heap[x]? = w.heap[x]?∧¬ Own (B g i) a' x:=by
  intro g' i' hg' hi' hne x hx;have hlt:=(h.rep g' i' hg' hi').lt hx;obtain ⟨o,ho⟩:∃ o,w.heap[x]? = some o:=⟨w.heap[x],by simp [hlt]⟩;obtain ⟨h1,h2⟩:=kp ho fun hx'=>hne (by obtain ⟨e1,e2⟩:=h.sep g' i' g i x hg' hi' hg hi hx hx';exact ⟨e1,e2⟩)
  exact ⟨h1.trans ho.symm,h2⟩
 refine ⟨⟨(kp h.eX (nm h.eX (by decide) (by decide) (by decide))).1,aF h.row fun x hx=>?_,h.len,?_,fun g' i' hg' hi'=>?_,?_,?_⟩,hw.os,hw.out,fun x o hx hn=>?_⟩
 ·obtain ⟨c,hc⟩:=aG h.row hx
  exact (kp hc (h.ob g i x hg hi hx)).1.trans hc.symm
 ·obtain ⟨bg,cg,cur,tg,e1,e2,e3,e4,e5⟩:=h.ptr
  obtain ⟨t1,t2,t3⟩:=nt (lL e4);refine ⟨bg,cg,cur,tg,e1,e2,(kp e3 (nm e3 t1 t2 t3)).1,e4,fun g hg=>?_⟩;obtain ⟨bs,ct,cur',ts,f1,f2,f3,f4,f5⟩:=e5 g hg;obtain ⟨t1,t2,t3⟩:=nt (lL f4);exact ⟨bs,ct,cur',ts,f1,f2,(kp f3 (nm f3 t1 t2 t3)).1,f4,f5⟩
 ·by_cases e:g'=g∧i'=i
  ·obtain ⟨rfl,rfl⟩:=e
   rw [bX,bX];exact hw.ri
  ·rw [bK _ _ e,bK _ _ e]
   exact (h.rep g' i' hg' hi').keep k fun x hx=>(gI hg' hi' e x hx).1
 ·intro g1 i1 g2 i2 x h1 h2 h3 h4 o1 o2
  by_cases e1:g1=g∧i1=i <;> by_cases e2:g2=g∧i2=i
  ·exact ⟨e1.1.trans e2.1.symm,e1.2.trans e2.2.symm⟩
  ·obtain ⟨rfl,rfl⟩:=e1
   rw [bX] at o1;rw [bK _ _ e2] at o2;exact ((gI h3 h4 e2 x o2).2 o1).elim
  ·obtain ⟨rfl,rfl⟩:=e2
   rw [bX] at o2;rw [bK _ _ e1] at o1;exact ((gI h1 h2 e1 x o1).2 o2).elim
  ·rw [bK _ _ e1] at o1
   rw [bK _ _ e2] at o2;exact h.sep g1 i1 g2 i2 x h1 h2 h3 h4 o1 o2
 ·intro g1 i1 x h1 h2 hx o1
  by_cases e1:g1=g∧i1=i
  ·obtain ⟨rfl,rfl⟩:=e1
   rw [bX] at o1;obtain ⟨c,hc⟩:=aG h.row hx;exact (kp hc (h.ob _ _ x h1 h2 hx)).2 o1
  ·rw [bK _ _ e1] at o1
   exact h.ob g1 i1 x h1 h2 hx o1
 ·obtain ⟨h1,h2⟩:=kp hx fun ho=>hn (.inr (.inr ⟨g,i,hg,hi,ho⟩))
  refine ⟨h1,fun hc=>?_⟩;rcases hc with e | e | ⟨g1,i1,q1,q2,o1⟩
  ·exact hn (.inl e)
  ·exact hn (.inr (.inl e))
  ·by_cases e1:g1=g∧i1=i
   ·obtain ⟨rfl,rfl⟩:=e1
    rw [bX] at o1;exact h2 o1
   ·rw [bK _ _ e1] at o1
    exact hn (.inr (.inr ⟨g1,i1,q1,q2,o1⟩))
theorem CI.leave (h:CI w bc gv sv q n sz B ad F) {g i:Nat} (hg:g<n) (hi:i<sz) {R':MR} (hw:Wk (rest w (B g i) (ad g i)) (B g i) R' w') (k:Kz w w'):∃ jh,CI w' bc gv sv q n sz B jh (gX F g i R')∧w'.os=w.os∧w'.output=w.output∧nZ n sz B bc w sv ad w' sv jh:=by
 obtain ⟨a',hw⟩:=hw;exact ⟨_,h.PT hg hi hw k⟩
end
section
variable {w:World} {bc:Nat} {gv sv:Value} {q:List bJ} {n sz:Nat} {B:Nat→Nat→Nat} {ad:Nat→Nat→fu} {F:Nat→Nat→MR}
theorem find_ok (h:CI w bc gv sv q n sz B ad F) (_hn:n≤4) (_hs:sz≤5) (g i:Nat) (hg:g<256) (hi:i<256):af Tryz.prog 37 #[.pointer (some ⟨bc,0,none⟩),.agg #[.int .u8 g,.int .u8 i]] w (fun v w'=>v=.pointer (if g<n∧i<sz then some ⟨B g i,0,none⟩ else none)∧GB none w w'):=by
 refine ah au mixed Tryz.func37 rfl rfl ?_;intro w1 b1 m1 g1 l1;obtain ⟨bg,cg,cur,tg,rfl,e2,e3,e4,e5⟩:=h.ptr;have hc:=g1.get h.eX nofun;have e3:=g1.get e3 nofun;refine ⟨by kernel_rfl,_,_,m1,_,rfl,.inl ⟨by omega,_,_,m1,_,rfl,.inl ⟨by omega,?_⟩⟩⟩;refine ⟨_,_,hc,_,rfl,aj (fun c=>?_) (fun c=>?_)⟩
 ·have c1:g<n:=by simp at c;omega
  obtain ⟨bs,ct,cur',ts,f1,f2,f3,f4,f5⟩:=e5 g c1;have f3:=g1.get f3 nofun;refine ⟨_,_,hc,_,rfl,⟨by omega,by omega⟩,_,_,e3,.slice (some ⟨bs,0,none⟩) sz ct,by show cur.toList[0+g*1]? = _;rw [Nat.mul_one,Nat.zero_add];exact f1,?_⟩;refine aj (fun d=>?_) (fun d=>?_)
  ·have d1:¬ (g<n∧i<sz):=by simp at d;omega
   rw [if_neg d1];exact ⟨rfl,g1⟩
  ·have d1:i<sz:=by simp at d;omega
   rw [if_pos ⟨c1,d1⟩];refine ⟨_,_,hc,_,rfl,⟨by omega,by omega⟩,_,_,e3,.slice (some ⟨bs,0,none⟩) sz ct,by show cur.toList[0+g*1]? = _;rw [Nat.mul_one,Nat.zero_add];exact f1,⟨by omega,by omega⟩,_,_,f3,.pointer (some ⟨B g i,0,none⟩),by show cur'.toList[0+i*1]? = _;rw [Nat.mul_one,Nat.zero_add];exact f5 i d1,?_⟩;exact ⟨rfl,g1⟩
 ·have c1:¬ (g<n∧i<sz):=by simp at c;omega
  rw [if_neg c1];exact ⟨rfl,g1⟩
end
section
variable {A:bE} (HA:bW A) {w:World} {bc:Nat} {gv sv:Value} {q:List bJ} {n sz:Nat} {B:Nat→Nat→Nat} {ad:Nat→Nat→fu} {F:Nat→Nat→MR}
include HA
theorem SC (h:CI w bc gv sv q n sz B ad F) (hn:n≤4) (hs:sz≤5) (g i:Nat) (hg:g<256) (hi:i<256) (hF:g<n→i<sz→Ok A (F g i)):af Tryz.prog 53 #[.pointer (some ⟨bc,0,none⟩),.agg #[.int .u8 g,.int .u8 i]] w (fun v w'=>v=.int .i64 (if g<n∧i<sz then 0 else 6)∧(∃ jh,CI w' bc gv sv q n sz B jh (if g<n∧i<sz then gX F g i (mStart A (F g i)) else F)∧nZ n sz B bc w sv ad w' sv jh)∧w'.os=w.os∧w'.output=w.output∧Kz w w'):=by
 refine ah au mixed Tryz.func53 rfl rfl ?_;intro w1 b1 m1 g1 l1;have h1:=h.ax g1;refine ⟨_,_,m1,[.int .u8 g,.int .u8 i],rfl,rfl,_,find_ok h1 hn hs g i hg hi,?_⟩;rintro _ w2 ⟨rfl,g2⟩;have h2:=h1.ax g2;have G:=g1.trans g2;by_cases c:g<n∧i<sz
 ·rw [if_pos c,if_pos c,if_pos c]
  have o:=hF c.1 c.2;refine ⟨_,Jc HA (h2.enter c.1 c.2) o.i.2.1 o.i.2.2.1,?_⟩;rintro _ w3 ⟨rfl,h3,k3⟩;obtain ⟨jh,h4,h5,h6,f6⟩:=h2.leave c.1 c.2 h3 k3;exact ⟨rfl,⟨jh,h4,(nZ.ax G).trans f6⟩,h5.trans G.os,h6.trans G.out,G.kz.trans k3⟩
 ·rw [if_neg c,if_neg c,if_neg c]
  exact ⟨rfl,⟨ad,h2,nZ.ax G⟩,G.os,G.out,G.kz⟩
end
section
variable {w w1 w2:World} {bc:Nat} {gv sv:Value} {q:List bJ} {n sz:Nat} {B:Nat→Nat→Nat} {ad:Nat→Nat→fu} {F:Nat→Nat→MR}
theorem CI.pk (h:CI w bc gv sv q n sz B ad F) {dw:Value} {q':List bJ} (hl:q'.length≤20000) (g1:GB sv.ownBlock w w1) (ho:w1.ownsRow 0 97 5 dw q'.length (flat q')) (hn:∀ g,dw.ownBlock=some g→sv.ownBlock=some g∨w.heap.size≤g) (m2:w2.heap[bc]? = some (.cells #[gv,dw] 118)) (g2:GB (some bc) w1 w2):CI w2 bc gv dw q' n sz B ad F∧Kz w w2∧w2.os=w.os∧w2.output=w.output∧nZ n sz B bc w sv ad w2 dw ad:=by
 have tb:∀ {x:Nat},sv.ownBlock=some x→∃ cur,w.heap[x]? = some (.cells cur 97):=fun hx=>aG h.row hx
 have nb:∀ x,sv.ownBlock=some x→x≠bc:=fun x hx e=>by
  subst e;obtain ⟨c,hc⟩:=tb hx;rw [h.eX] at hc;injection hc with hc;injection hc with _ hc;revert hc;decide
 have nb':∀ x,dw.ownBlock=some x→x≠bc:=fun x hx e=>by
  rcases hn x hx with h1 | h1
  ·exact nb x h1 e
  ·have:=ae h.eX;omega
 have kp:∀ x,x<w.heap.size→some x≠sv.ownBlock→x≠bc→w2.heap[x]? = w.heap[x]?:=fun x hx h1 h2=>(g2.block x (Nat.lt_of_lt_of_le hx g1.size) fun e=>h2 (Option.some.inj e)).trans (g1.block x hx h1)
 have kt:∀ {x:Nat} {c:Array Value} {t:TypeId},w.heap[x]? = some (.cells c t)→t≠97→t≠118→w2.heap[x]? = some (.cells c t):=fun {x c t} hx h1 h2=>(kp x (ae hx) (fun e=>by obtain ⟨cur,hc⟩:=tb e.symm;rw [hx] at hc;injection hc with hc;injection hc with _ hc;exact h1 hc) (fun e=>by subst e;rw [h.eX] at hx;injection hx with hx;injection hx with _ hx;exact h2 hx.symm)).trans hx
 have k:Kz w w2:=fun t ht b c hb=>kt hb (fun e=>by subst e;revert ht;decide) (fun e=>by subst e;revert ht;decide)
 have nt:∀ {t:TypeId},t ∉ UC→t≠97∧t≠118:=fun {t} ht=>⟨fun e=>ht (by rw [e];decide),fun e=>ht (by rw [e];decide)⟩
 have ow:∀ g i x,g<n→i<sz→Own (B g i) (ad g i) x→x≠bc:=fun g i x hg hi ho e=>by
  subst e;rcases (h.rep g i hg hi).xu ho h.eX with e | e | e <;> revert e <;> decide
 refine ⟨⟨m2,aF ho fun x hx=>?_,hl,?_,fun g i hg hi=>(h.rep g i hg hi).keep k fun x hx=>kp x ((h.rep g i hg hi).lt hx) (fun e=>h.ob g i x hg hi e.symm hx) (ow g i x hg hi hx),h.sep,fun g i x hg hi hx hO=>?_⟩,k,g2.os.trans g1.os,g2.out.trans g1.out,fun x o hx hN=>?_⟩
 ·obtain ⟨cur,hc⟩:=aG ho hx
  exact g2.block x (ae hc) fun e=>nb' x hx (Option.some.inj e)
 ·obtain ⟨bg,cg,cur,tg,e1,e2,e3,e4,e5⟩:=h.ptr
  refine ⟨bg,cg,cur,tg,e1,e2,kt e3 (nt (lL e4)).1 (nt (lL e4)).2,e4,fun g hg=>?_⟩;obtain ⟨bs,ct,cur',ts,f1,f2,f3,f4,f5⟩:=e5 g hg;exact ⟨bs,ct,cur',ts,f1,f2,kt f3 (nt (lL f4)).1 (nt (lL f4)).2,f4,f5⟩
 ·rcases hn x hx with h1 | h1
  ·exact h.ob g i x hg hi h1 hO
  ·have:=(h.rep g i hg hi).lt hO;omega
 ·refine ⟨(kp x (ae hx) (fun e=>hN (.inr (.inl e.symm))) fun e=>hN (.inl e)).trans hx,fun hc=>?_⟩
  rcases hc with e | e | e
  ·exact hN (.inl e)
  ·rcases hn x e with h1 | h1
   ·exact hN (.inr (.inl h1))
   ·have:=ae hx;omega
  ·exact hN (.inr (.inr e))
def mE (q:List bJ) (p:bJ):List bJ:=if q.length<20000 then q++[p] else q
theorem SE {k:Nat} (h:decide ((k:Int)<20000)=true):k<20000:=by have:=of_decide_eq_true h;omega
theorem YS {k:Nat} (h:decide ((k:Int)<20000)=false):¬ k<20000:=by have:=of_decide_eq_false h;omega
theorem Gg {q:List bJ} {p:bJ} (h:q.length<20000):mE q p=q++[p]:=by unfold mE;rw [if_pos h]
theorem SF {q:List bJ} {p:bJ} (h:¬ q.length<20000):mE q p=q:=by unfold mE;rw [if_neg h]
theorem Wl (h:CI w bc gv sv q n sz B ad F) (p:bJ):af Tryz.prog 45 #[.pointer (some ⟨bc,0,none⟩),.agg p.cells.toArray] w (fun v w'=>v=.tuple #[]∧(∃ dw,CI w' bc gv dw (mE q p) n sz B ad F∧nZ n sz B bc w sv ad w' dw ad)∧Kz w w'∧w'.os=w.os∧w'.output=w.output):=by
 refine ah au mixed Tryz.func45 rfl rfl ?_;intro w1 b1 m1 g1 l1;have h1:=h.ax g1;obtain ⟨sa,sc,rfl⟩:=ag h1.row;have hlen:=h.len;obtain ⟨bg,cg,cur,tg,YT,_⟩:=h.ptr;subst YT;refine ⟨_,_,h1.eX,_,rfl,aj (fun c=>?_) (fun c=>?_)⟩
 ·have c1:q.length<20000:=SE c
  have em:=Gg (p:=p) c1;rw [em];refine ⟨by kernel_rfl,_,_,h1.eX,_,rfl,_,_,m1,p.cells,rfl,rfl,fun w2 b2 m2 g2 l2=>?_⟩;have h2:=h1.ax g2;refine ⟨⟨g2.get m1 nofun,h2.eX,trivial⟩,_,p.cells,h2.row,⟨_,_,m2,rfl,rfl,rfl⟩,by omega,fun lv w3 ho3 g3 n3=>?_⟩;have m3:w3.heap[bc]? = _:=(g3.block bc (ae h2.eX) fun e=>by
   obtain ⟨c,hc⟩:=aG h2.row e.symm;rw [h2.eX] at hc;injection hc with hc;injection hc with _ hc;revert hc;decide).trans h2.eX
  obtain ⟨la,lc,rfl⟩:=ag ho3;refine ⟨_,_,_,m3,rfl,rfl,fun w4 m4 g4=>?_⟩;obtain ⟨h4,k4,o4,u4,f4⟩:=h2.pk (q':=q++[p]) (by simp;omega) g3 (by rw [List.length_append,show flat (q++[p])=flat q++p.cells by simp [flat]];exact ho3) n3 m4 g4;have G:=g1.trans g2;exact ⟨rfl,⟨_,h4,(nZ.ax G).trans f4⟩,G.kz.trans k4,o4.trans G.os,u4.trans G.out⟩
 ·have c1:¬ q.length<20000:=YS c
  have em:=SF (p:=p) c1;rw [em];exact ⟨rfl,⟨_,h1,nZ.ax g1⟩,g1.kz,g1.os,g1.out⟩
end
theorem ada {k:Nat} (h:decide ((k:Int) > 1000)=true):k > 1000:=by have:=of_decide_eq_true h;omega
theorem adb {k:Nat} (h:decide ((k:Int) > 1000)=false):¬ k > 1000:=by have:=of_decide_eq_false h;omega
section
variable {w:World} {bc:Nat} {gv sv:Value} {q:List bJ} {n sz:Nat} {B:Nat→Nat→Nat} {ad:Nat→Nat→fu} {F:Nat→Nat→MR}
theorem SG (h:CI w bc gv sv q n sz B ad F) (hn:n≤4) (hs:sz≤5) (g i:Nat) (hg:g<256) (hi:i<256) (d:ByteArray):af Tryz.prog 22 #[.pointer (some ⟨bc,0,none⟩),.agg #[.int .u8 g,.int .u8 i],.string d] w (fun v w'=>(∃ dw q',CI w' bc gv dw q' n sz B ad F∧nZ n sz B bc w sv ad w' dw ad∧((¬ (g<n∧i<sz)∧v=.tuple #[.int .i64 0,.int .i64 6]∧q'=q)∨((g<n∧i<sz)∧d.size > 1000∧v=.tuple #[.int .i64 0,.int .i64 2]∧q'=q)∨((g<n∧i<sz)∧¬ d.size > 1000∧v=.tuple #[.int .i64 q.length,.int .i64 0]∧q'=mE q ⟨255,255,g,i,d⟩)))∧Kz w w'∧w'.os=w.os∧w'.output=w.output):=by
 refine ah au mixed Tryz.func22 rfl rfl ?_;intro w1 b1 m1 g1 l1;have h1:=h.ax g1;refine ⟨_,_,m1,[.int .u8 g,.int .u8 i],rfl,rfl,_,find_ok h1 hn hs g i hg hi,?_⟩;rintro _ w2 ⟨rfl,g2⟩;have h2:=h1.ax g2;have G:=g1.trans g2;by_cases c:g<n∧i<sz
 ·rw [if_pos c]
  refine aj (fun e=>?_) (fun e=>?_)
  ·have e1:d.size > 1000:=ada e
   exact ⟨⟨_,_,h2,nZ.ax G,.inr (.inl ⟨c,e1,rfl,rfl⟩)⟩,G.kz,G.os,G.out⟩
  ·have e1:¬ d.size > 1000:=adb e
   obtain ⟨bg,cg,cur,tg,YT,_⟩:=h.ptr;subst YT;obtain ⟨sa,sc,rfl⟩:=ag h2.row;refine ⟨_,_,h2.eX,_,rfl,fun w3 b3 m3 g3 l3=>⟨_,_,_,m3,rfl,rfl,fun w4 m4 g4=>?_⟩⟩;have g24:GB none w2 w4:=g3.new g4 l3;have h4:=h2.ax g24;refine ⟨_,_,m4,[.int .u8 255,.int .u8 255],rfl,rfl,_,_,(g2.trans g24).get m1 nofun,[.int .u8 g,.int .u8 i],rfl,rfl,_,Wl h4 ⟨255,255,g,i,d⟩,?_⟩;rintro _ w5 ⟨rfl,⟨dw,h5,f5⟩,k5,o5,u5⟩;have GG:=G.trans g24;exact ⟨⟨_,_,h5,(nZ.ax GG).trans f5,.inr (.inr ⟨c,e1,rfl,rfl⟩)⟩,GG.kz.trans k5,o5.trans GG.os,u5.trans GG.out⟩
 ·rw [if_neg c]
  exact ⟨⟨_,_,h2,nZ.ax G,.inl ⟨c,rfl,rfl⟩⟩,G.kz,G.os,G.out⟩
end
section
variable {A:bE} {R:MR}
theorem Ok.stand (ho:Ok A R):Ok A (fH R):=⟨ho.sz,ho.i,ho.st,ho.kn,fun _ _ h=>(by cases h),ho.vt,ho.wv,fun _ _ h=>(by cases h),fun _ _ h=>(by cases h),Nat.zero_lt_succ _,ho.lg,ho.lc,ho.nx,ho.sn⟩
theorem Ok.UD (ho:Ok A R) {b:dh} (hb:b.n≤4294967295):Ok A { R with sc:={ R.sc with b:=b } }:=⟨ho.sz,ho.i,ho.st,ho.kn,ho.pp,ho.vt,ho.wv,ho.mt,ho.ac,ho.pr,ho.lg,ho.lc,ho.nx,ho.sn.1,hb,ho.sn.2.2⟩
theorem Ok.refuse (ho:Ok A R) (f:Nat×Nat) {b:dh} (hb:b.n≤4294967295):Ok A (dW A.enc R f b):=by
 unfold dW;split
 ·exact ho.snd _ _ _
 ·split
  ·exact ho
  ·exact (ho.UD hb).stand
theorem Ok.SH (ho:Ok A R) (f:Nat×Nat) {b:dh} (hb:b.n≤4294967295):Ok A (tV A.enc R f b):=by
 unfold tV;split
 ·exact ho.refuse f hb
 ·exact (ho.refuse f hb).snd _ _ _
theorem Ok.Fj (ho:Ok A R) (f:Nat×Nat) {m:MM} (hb:m.b.n≤4294967295) (hc:A.gc m.c∧m.s<60):Ok A (lh A R f m):=by
 unfold lh;split
 ·exact ho.refuse f hb
 ·exact ((ho.refuse f hb).NH hc.2 hc.1).snd _ _ _
end
section
variable {A:bE} (HA:bW A) {R:MR}
include HA
theorem Ok.SI (ho:Ok A R) {f:Nat×Nat} (hf:f.2<5) (m:MM):Ok A (tX A R f m):=by
 unfold tX;split
 ·exact (ho.Fb HA hf).1
 ·exact ho
theorem Ok.ask (ho:Ok A R) {q:bH} (hq:A.gc (bZ q)):Ok A (jH A R q):=by
 unfold jH;split
 ·exact ho
 ·split
  ·exact ho.snd _ _ _
  ·exact (ho.offer HA hq).1
theorem Ok.promise (ho:Ok A R) {f:Nat×Nat} (hf:f.2<5) (b:dh) {vs:List MV} (hv:∀ v∈vs,A.gc v.c∧v.slot<60):Ok A (jq A R f b vs):=by
 unfold jq;split
 ·exact ho
 ·exact ((ho.jV hv).Fg HA hf).1
theorem Ok.move (ho:Ok A R) (f:Nat×Nat) {r:Rg} (hr:A.gc (oF r)):Ok A (rJ A R f r):=by
 unfold rJ;split
 ·exact ho
 ·split
  ·exact ho.snd _ _ _
  ·split
   ·exact (ho.offer HA hr).1
   ·exact ho
theorem Ok.SK (ho:Ok A R) {p:Nat} {s:Int} (hp:A.gc (sS p s)):Ok A (rM A R p s):=by
 unfold rM;split
 ·exact ho
 ·split
  ·exact ho
  ·split
   ·exact (ho.offer HA hp).1
   ·exact ho
theorem Ok.take2 (ho:Ok A R) {f:Nat×Nat} {m:MM} (hm:GM A R f m):Ok A (qm A R f m):=by
 unfold qm;split
 ·rename_i k;exact ho.ask HA (hm.ask k)
 split
 ·exact ho.SH f hm.bn
 split
 ·rename_i k;exact ho.promise HA (hm.vs k).2.2 _ (hm.vs k).1
 split
 ·split
  ·exact ho.stand
  ·exact ho
 split
 ·rename_i k;exact ho.Fj f hm.bn (hm.acc k)
 split
 ·rename_i k;exact ho.SI HA (hm.Ad k).2 m
 split
 ·rename_i k;exact (ho.agree HA (hm.dec k).2 (hm.dec k).1).1
 split
 ·rename_i k;exact ho.move HA f (hm.uR k).2.2.2
 split
 ·rename_i k
  have e:(m.peer.toNat:Int)=m.peer:=Int.toNat_of_nonneg (hm.pI k).1;exact ho.SK HA (by rw [e];exact (hm.pI k).2.2)
 ·exact ho
theorem Ok.take (ho:Ok A R) {f:Nat×Nat} {d:ByteArray} (hm:∀ m,A.dec d=some m→¬ (f.1=255∧m.kind≠1)→GM A R f m):Ok A (jB A R f d):=by
 unfold jB;split
 ·exact ho
 ·rename_i m hd
  split
  ·exact ho
  ·rename_i hn
   have g:=hm m hd hn;exact (ho.seen g.bn).take2 HA ⟨g.bn,g.ask,g.vs,g.acc,g.Ad,g.dec,g.uR,g.pI⟩
end
section
variable {A:bE} (HA:bW A) {R:MR}
include HA
theorem Ok.new {g i gs sz:Nat} (hg:g<gs) (hn:gs≤4) (hN:gs=A.N) (hi:i<sz) (hz:sz≤5):Ok A (Fh A g i gs sz) :=
 ⟨hz,⟨hi,hg,hn,hN⟩,HA.NC _ _ hN hg hn,fun _ _ h=>(by cases h),fun _ _ h=>(by cases h),fun _ _ h=>(by cases h),fun _ _ h=>(by cases h),fun _ _ h=>(by cases h),fun _ _ h=>(by cases h),Nat.zero_lt_succ _,Nat.zero_le _,fun _ h=>(by cases h),Nat.zero_le _,Nat.zero_le _,Nat.zero_le _,Nat.zero_le _⟩
omit HA in
theorem Ei (R:MR) (f:Nat×Nat) (b:dh):(dW A.enc R f b).out.length≤R.out.length+1:=by
 unfold dW;split
 ·rw [jM];simp
 ·split
  ·omega
  ·show R.out.length≤_;omega
theorem PU (ho:Ok A R) {f:Nat×Nat} {m:MM} (hm:GM A R f m):(qm A R f m).out.length≤R.out.length+20000:=by
 have one:∀ (R:MR) (mm:MM) (x:Nat×Nat),(nN A.enc R mm [x]).out.length=R.out.length+1:=fun R mm x=>by rw [jM];rfl
 unfold qm;split
 ·rename_i k
  unfold jH;split
  ·omega
  split
  ·unfold qd;rw [one];omega
  ·exact Nat.le_trans (ho.offer HA (hm.ask k)).2.1 (by omega)
 split
 ·unfold tV
  have:=Ei (A:=A) R f m.b;split
  ·omega
  ·rw [one];omega
 split
 ·rename_i k
  unfold jq;split
  ·omega
  ·exact ((ho.jV (hm.vs k).1).Fg HA (hm.vs k).2.2).2.1
 split
 ·split
  ·show R.out.length≤_;omega
  ·omega
 split
 ·unfold lh
  have:=Ei (A:=A) R f m.b;split
  ·omega
  ·rw [one]
   show (dW A.enc R f m.b).out.length+1≤_;omega
 split
 ·rename_i k
  unfold tX;split
  ·exact Nat.le_trans (ho.Fb HA (hm.Ad k).2).2.1 (by omega)
  ·omega
 split
 ·rename_i k
  exact Nat.le_trans (ho.agree HA (hm.dec k).2 (hm.dec k).1).2.1 (by omega)
 split
 ·rename_i k
  unfold rJ;split
  ·omega
  split
  ·unfold zX;rw [one];omega
  split
  ·exact Nat.le_trans (ho.offer HA (hm.uR k).2.2.2).2.1 (by omega)
  ·omega
 split
 ·rename_i k
  have e:(m.peer.toNat:Int)=m.peer:=Int.toNat_of_nonneg (hm.pI k).1;unfold rM;split
  ·omega
  split
  ·omega
  split
  ·exact Nat.le_trans (ho.offer HA (by rw [e];exact (hm.pI k).2.2)).2.1 (by omega)
  ·omega
 ·omega
theorem take_len (ho:Ok A R) {f:Nat×Nat} {d:ByteArray} (hm:∀ m,A.dec d=some m→¬ (f.1=255∧m.kind≠1)→GM A R f m):(jB A R f d).out.length≤R.out.length+20000:=by
 unfold jB;split
 ·omega
 ·rename_i m hd
  split
  ·omega
  ·rename_i hn
   have g:=hm m hd hn;exact PU HA (ho.seen g.bn) ⟨g.bn,g.ask,g.vs,g.acc,g.Ad,g.dec,g.uR,g.pI⟩
theorem SL (ho:Ok A R):(mD A R).out.length≤R.out.length+30000:=by
 obtain ⟨o1,l1,_,_⟩:=ho.bL HA;have h2:(fJ A (bL A R)).out.length≤(bL A R).out.length+5:=by
  unfold fJ;rw [jM];have:=iM (bL A R).sc.g (bL A R).sc.i (bL A R).sc.g (bL A R).sc.sz;have:=o1.sz;omega
 unfold mD ym;split
 ·omega
 split
 ·have o2:Ok A (fJ A (bL A R)):=o1.snd _ _ _
  have r1:=vS A.enc (fJ A (bL A R)) o2.sz (fJ A (bL A R)).sc.next;have o3:=r1.ok o2;have r2:=vU A.enc (iC A.enc (fJ A (bL A R)) (fJ A (bL A R)).sc.next) o3.sz (fJ A (bL A R)).st.O.length;have a1:=r1.len;have a2:=r2.len;have a3:=HA.ol _ o2.st;have a4:=o2.nx;unfold q8;exact Nat.le_trans a2 (by omega)
 ·omega
end
def ade (Post:World→Prop):Ex→Sg→World→Prop
 | .n,_,w=>Post w
 | .r,_,w=>Post w
 | .x _,_,_=>False
theorem aaE {P:Program} (E:kP P) (hm:P.follows .mixedOrders=true) (f:FuncId) {c:Code} {m:Nat} {args:List Value} {w:World} {Post:World→Prop} (hn:Nat.ble args.length m=true) (h:tT E m c (ade Post) (uF args 0) w):M3 P f c { tmps:=args.toArray++Array.replicate (m - args.toArray.size) undef,defers:=[] } w (fun _ w'=>Post w'):=by
 intro main D X b cs hX _ hk0 hk;have hle:=Nat.le_of_ble_eq_true hn;refine Cw (⟨hX,trivial⟩:SX P main D X) hk0 hm c _ [] ?_ _ w _ ?_ h
 ·intro e s w he a hfit
  cases e with
  | n=>exact hX.c.fin (hk a [] w hfit.defers he)
  | x j=>exact he.elim
  | r=>exact fun todo=>hk a todo w hfit.defers he
 ·refine ⟨rfl,?_,fun i v hi=>?_⟩
  ·simp;omega
  ·obtain ⟨d,h1,h2⟩:=xX hi
   rw [Nat.zero_add] at h1;subst h1;have hlt:i<args.length:=(List.getElem?_eq_some_iff.1 h2).1;rw [Array.getD_eq_getD_getElem?];show (((args.toArray++Array.replicate _ undef)[i]?).getD undef)=v;rw [Array.getElem?_append_left (by simpa using hlt)];simp [h2]
section
variable {Λ:bN} {w:World} {br:Nat} {R:MR}
theorem PV (h:Wk Λ br R w):M3 Tryz.prog 134 (Tryz.f134.body.getD .skip) { tmps:=#[.pointer (some ⟨br,0,none⟩)]++Array.replicate (Tryz.f134.ntmps - (#[.pointer (some ⟨br,0,none⟩)]:Array Value).size) undef,defers:=[] } w (fun _ w'=>Wk Λ br (nY R) w'∧Kz w w'):=by
 obtain ⟨a,h⟩:=h;refine aaE au mixed _ (args:=[.pointer (some ⟨br,0,none⟩)]) (by kernel_rfl) ?_;refine ⟨_,_,h.ri.mem,_,rfl,rfl,_,_,_,h.ri.mem,rfl,rfl,fun w1 m1 g1=>?_⟩;have h1:=h.cell (s':={ R.sc with wb:=R.sc.b }) m1 g1;have k1:=h.ri.kz h.ri.eQ g1;have hne:a.vm≠a.wm:=by have:=h1.ri.sep;simp at this;omega
 refine ⟨by kernel_rfl,_,_,h1.ri.mem,_,rfl,_,_,h1.ri.mem,_,rfl,_,Ff h1.ri.wm h1.ri.vm hne,?_⟩;rintro _ w2 ⟨rfl,hm2,g2⟩;exact ⟨⟨_,h1.step h1.ri.Cy g2 (h1.ri.wm' g2 hm2)⟩,k1.trans (h1.ri.kz h1.ri.Cy g2)⟩
end
end
end Go.Proofs.YtignemioillaiabGreat
