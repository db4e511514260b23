/- A step of a script: bytes that are sent. -/
import Derived.Test.YtignemioillaiabGreatG49
namespace Go.Proofs.YtignemioillaiabGreat
set_option maxHeartbeats 8000000
set_option linter.unusedSectionVars false
set_option maxRecDepth 100000
section
open Go Go.Conc
section
variable {A:bE} (HA:bW A) {Λ:bN} {w:World} {bs:Nat} {S:Sit}
theorem Sit.aba (A:bE) (S:Sit) (t:Stp):(S.y7 A t).bad=S.bad:=by
 unfold Sit.y7;split
 ·split <;> rfl
 ·rfl
include HA
theorem abb (h:cz Λ bs S w) (hF:S.aN A) {t:Stp} (ht:t.wf A) (hj:bA t.kind 7=1):gq Tryz.prog 26 #[.pointer (some ⟨bs,0,none⟩),.agg t.cells.toArray] w (fun v w'=>v=.bool (S.do A t).2∧cz Λ bs (S.do A t).1 w'∧Kz w w'):=by
 have hdo:S.do A t=(S.y7 A t,!S.bad):=by unfold Sit.do;rw [hj];rfl
 rw [hdo];have jr:=hF.cl.n;have hs5:=hF.cl.sz;have hlen:=hF.cl.len;have hak:=hF.ak;obtain ⟨bc,a,gv,sv,B,ad,hS⟩:=h;obtain ⟨q1,q2⟩:=qD (C:=S.C) (k:=t.a) hF.n hF.sz;refine Jg au Tryz.func26 rfl rfl ?_;refine aQ.piece (Q:=fun q w1=>∃ b3,q=[(0,.pointer (some ⟨bs,0,none⟩)),(3,.pointer (some ⟨b3,0,none⟩))]∧w1.heap[b3]? = some (.cells t.cells.toArray 95)∧GB none w w1∧w.heap.size≤b3) (aQ.of au mixed ?_) ?_
 ·exact fun w1 b3 m1 g1 l1=>⟨_,by exact ⟨rfl,rfl,trivial⟩,b3,rfl,m1,g1,l1⟩
 rintro q w1 ⟨b3,rfl,m1,g1,Gz⟩;have h1:=hS.ax g1;refine aQ.piece (Q:=fun q w2=>q=[(0,.pointer (some ⟨bs,0,none⟩)),(3,.pointer (some ⟨b3,0,none⟩)),(5,.int .i64 S.C.q.length)]∧GB none w1 w2) (aQ.of au mixed ?_) ?_
 ·refine ⟨_,_,h1.si.mem,_,rfl,_,(nu h1.enter hlen 0 (by decide) (by decide)).x,?_⟩
  rintro lv w2 ⟨o2,g2,_⟩;have e0:S.C.q.length - min (0:Int).toNat S.C.q.length=S.C.q.length:=by simp
  rw [e0] at o2;obtain ⟨la,lc,rfl⟩:=ag o2;exact ⟨_,by exact ⟨rfl,rfl,rfl,trivial⟩,rfl,g2⟩
 rintro q w2 ⟨rfl,g2⟩;have h2:=h1.ax g2;refine aQ.piece (Q:=fun q w5=>∃ b6,q=[(0,.pointer (some ⟨bs,0,none⟩)),(3,.pointer (some ⟨b3,0,none⟩)),(5,.int .i64 S.C.q.length),(6,.pointer (some ⟨b6,0,none⟩))]∧w5.heap[b6]? = some (.cells #[.int .u8 (bV S.C t.a),.int .u8 (dF S.C t.a)] 48)∧GB none w2 w5∧w.heap.size≤b6) (aQ.of au mixed ?_) ?_
 ·refine ⟨_,_,g2.get m1 nofun,_,rfl,_,(nI h2.si.mem ⟨hF.n,jr⟩ ⟨hF.sz,hs5⟩ t.a ht.a.1 ht.a.2).x,?_⟩
  rintro _ w3 ⟨rfl,g3⟩;refine fun w4 b6 m4 g4 l4=>⟨_,_,_,m4,rfl,rfl,fun w5 m5 g5=>?_⟩
  exact ⟨_,by exact ⟨rfl,rfl,rfl,rfl,trivial⟩,b6,rfl,m5,g3.trans (g4.new g5 l4),Nat.le_trans ((g1.trans g2).trans g3).size l4⟩
 rintro q w5 ⟨b6,rfl,m5,jF,GA⟩;have G:GB none w w5:=(g1.trans g2).trans jF;have m15:=(g2.trans jF).get m1 nofun;have h5:=hS.ax G;refine aQ.cut (Qn:=fun q w'=>q=[(0,.pointer (some ⟨bs,0,none⟩))]∧cz Λ bs (S.y7 A t) w'∧Kz w w') (Qx:=fun _ _ _=>False) (Qr:=fun _ _=>False) ?_ ?_ (fun _ _ _ _ h _=>h.elim) (fun _ _ _ h _=>h.elim);rotate_left
 ·rintro q w' ⟨rfl,h',k'⟩
  refine aQ.of au mixed ?_;obtain ⟨_,_,_,_,_,_,h'⟩:=h';refine ⟨_,_,h'.si.mem,_,rfl,?_,⟨_,_,_,_,_,_,h'⟩,k'⟩;show Value.bool (!(S.y7 A t).bad)=_;rw [Sit.aba]
 refine aQ.piece (Q:=fun q w'=>q=[(0,.pointer (some ⟨bs,0,none⟩)),(3,.pointer (some ⟨b3,0,none⟩)),(5,.int .i64 S.C.q.length),(6,.pointer (some ⟨b6,0,none⟩)),(28,.int .i64 1)]∧w'=w5) (aQ.of au mixed ?_) ?_
 ·have pk:=iR w5 t.kind 7 (by decide) ht.kind.1 ht.kind.2
  rw [hj] at pk;refine ⟨_,_,m15,_,rfl,_,pk.x,?_⟩;rintro _ w5 ⟨rfl,rfl⟩;exact ⟨_,by exact ⟨rfl,rfl,rfl,rfl,rfl,trivial⟩,rfl,rfl⟩
 rintro q w5 ⟨rfl,rfl⟩;refine aQ.block ?_;refine aQ.piece (Q:=fun q w'=>q=[(0,.pointer (some ⟨bs,0,none⟩)),(3,.pointer (some ⟨b3,0,none⟩)),(5,.int .i64 S.C.q.length),(6,.pointer (some ⟨b6,0,none⟩)),(28,.int .i64 1),(35,.bool false)]∧w'=w5) (aQ.of au mixed ⟨_,by exact ⟨rfl,rfl,rfl,rfl,rfl,rfl,trivial⟩,rfl,rfl⟩) ?_;rintro q w5 ⟨rfl,rfl⟩;refine aQ.cond false rfl ?_;refine aQ.piece (Q:=fun q w'=>q=[(0,.pointer (some ⟨bs,0,none⟩)),(3,.pointer (some ⟨b3,0,none⟩)),(5,.int .i64 S.C.q.length),(6,.pointer (some ⟨b6,0,none⟩)),(45,.bool true)]∧w'=w5) (aQ.of au mixed ⟨_,by exact ⟨rfl,rfl,rfl,rfl,rfl,trivial⟩,rfl,rfl⟩) ?_;rintro q w5 ⟨rfl,rfl⟩;refine aQ.cond true rfl ?_;refine aQ.piece (Q:=fun q w8=>∃ b7 e m rv dv vv rv' cB,q=[(0,.pointer (some ⟨bs,0,none⟩)),(3,.pointer (some ⟨b3,0,none⟩)),(5,.int .i64 S.C.q.length),(6,.pointer (some ⟨b6,0,none⟩)),(7,.pointer (some ⟨b7,0,none⟩)),(8,.int .i64 e)]∧w8.heap[b7]? = some (.cells (dK m rv dv vv rv' cB).toArray 83)∧((e=0∧A.dec t.d=some m)∨(e≠0∧A.dec t.d=none))∧GB none w5 w8∧w.heap.size≤b7) (aQ.of au mixed ?_) ?_
 ·refine ⟨_,_,m15,_,rfl,_,(HA.parse w5 t.d).x,?_⟩
  rintro _ w6 ⟨⟨mv,e,m,rfl,hm,hc⟩,g6⟩;obtain ⟨rv,dv,vv,rv',cB,rfl,i1,i2,i3⟩:=hm;obtain ⟨_,_,_,_,_,_,rfl,rfl⟩:=i1.sl;obtain ⟨_,_,rfl⟩:=i2.sl;obtain ⟨_,_,_,_,_,_,rfl,rfl⟩:=i3.sl;refine fun w7 b7 m7 g7 l7=>⟨_,_,_,m7,rfl,rfl,fun w8 m8 g8=>?_⟩
  exact ⟨_,by exact ⟨rfl,rfl,rfl,rfl,rfl,rfl,trivial⟩,b7,e,m,_,_,_,_,_,rfl,m8,hc.imp (fun x=>⟨x.1,x.2.1⟩) id,g6.trans (g7.new g8 l7),Nat.le_trans (G.trans g6).size l7⟩
 rintro q w8 ⟨b7,e,m,rv,dv,vv,rv',cB,rfl,m8,hc,BR,lb7⟩;have h8:=h5.ax BR;have adK:=BR.get m15 nofun;have m58:=BR.get m5 nofun;have nc:∀ {x:Nat},w.heap.size≤x→¬ lu S.C.n S.C.sz B bc sv ad x:=fun {x} hl hC=>by
  rcases hC with e | e | ⟨g',i',p1,p2,p3⟩
  ·subst e;have:=ae hS.ci.eX;omega
  ·obtain ⟨c',hc'⟩:=aG hS.ci.row e;have:=ae hc';omega
  ·have:=(hS.ci.rep g' i' p1 p2).lt p3;omega
 refine aQ.piece (Q:=fun q w9=>∃ k f,q=[(0,.pointer (some ⟨bs,0,none⟩)),(5,.int .i64 S.C.q.length),(6,.pointer (some ⟨b6,0,none⟩)),(7,.pointer (some ⟨b7,0,none⟩)),(8,.int .i64 e),(9,.int .i64 k),(10,.int .i64 f)]∧(f=0↔¬ t.d.size > 1000)∧(f=0→k=(S.C.q.length:Nat))∧w9.heap[b6]? = some (.cells #[.int .u8 (bV S.C t.a),.int .u8 (dF S.C t.a)] 48)∧w9.heap[b7]? = some (.cells (dK m rv dv vv rv' cB).toArray 83)∧cz Λ bs { S with C:=S.C.send (bV S.C t.a) (dF S.C t.a) t.d } w9∧Kz w w9) (aQ.of au mixed ?_) ?_
 ·refine ⟨by kernel_rfl,_,_,h8.si.mem,_,rfl,_,_,m58,[.int .u8 (bV S.C t.a),.int .u8 (dF S.C t.a)],rfl,rfl,_,_,adK,_,rfl,_,(PX h8.enter jr hs5 (bV S.C t.a) (dF S.C t.a) (by omega) (by omega) t.d).x,?_⟩
  rintro _ w9 ⟨rfl,hC9,k9⟩;have pr9:∀ {x:Nat} {o:Obj},w8.heap[x]? = some o→w.heap.size≤x→w9.heap[x]? = some o:=fun {x o} hx hl=>by
   obtain ⟨_,_,_,_,h'⟩:=hC9;exact (h'.pr x o (by unfold yI;dsimp only;rw [if_neg (nc hl)];exact hx)).1
  obtain ⟨en,ez⟩:=S.C.xD (bV S.C t.a) (dF S.C t.a) t.d;refine ⟨_,by exact ⟨rfl,rfl,rfl,rfl,rfl,rfl,rfl,trivial⟩,_,_,rfl,?_,?_,pr9 m58 GA,pr9 m8 lb7,h8.leave en ez hC9 k9,(G.trans BR).kz.trans k9⟩
  ·rw [if_pos ⟨q1,q2⟩]
   by_cases c:t.d.size > 1000
   ·rw [if_pos c];simp [c]
   ·rw [if_neg c];simp [c]
  ·rw [if_pos ⟨q1,q2⟩]
   by_cases c:t.d.size > 1000
   ·rw [if_pos c];intro h;cases h
   ·intro _;exact if_pos ⟨⟨q1,q2⟩,c⟩
 rintro q w9 ⟨k,f,rfl,hf1,hf2,m59,Z0,h9,K9⟩;have eno:(∀ m',A.dec t.d=some m'→¬ (m'.kind=1∧¬ t.d.size > 1000∧S.C.q.length<20000))→S.y7 A t={ S with C:=S.C.send (bV S.C t.a) (dF S.C t.a) t.d }:=fun h=>by
  unfold Sit.y7;cases hd:A.dec t.d with
  | none=>rfl
  | some m'=>show (if m'.kind=1∧¬ t.d.size > 1000∧S.C.q.length<20000 then _ else _)=_;rw [if_neg (h m' hd)]
 refine aQ.piece (Q:=fun q w'=>∃ r:Bool,q=[(0,.pointer (some ⟨bs,0,none⟩)),(6,.pointer (some ⟨b6,0,none⟩)),(7,.pointer (some ⟨b7,0,none⟩)),(9,.int .i64 k),(78,.bool r)]∧(r=true↔(e=0∧m.kind=1∧f=0∧S.C.q.length<20000))∧w'=w9) (aQ.of au mixed ?_) ?_
 ·refine aj (fun x=>?_) (fun x=>?_)
  ·have x1:e=0:=by simpa using x
   refine ⟨_,_,Z0,_,rfl,?_⟩;refine aj (fun y=>?_) (fun y=>?_)
   ·have y1:m.kind=1:=by simpa using y
    refine aj (fun z=>?_) (fun z=>?_)
    ·have z1:f=0:=by simpa using z
     exact ⟨_,by exact ⟨rfl,rfl,rfl,rfl,rfl,trivial⟩,_,rfl,⟨fun u=>⟨x1,y1,z1,SE u⟩,fun u=>decide_eq_true (by omega)⟩,rfl⟩
    ·have z1:¬ f=0:=by simpa using z
     exact ⟨_,by exact ⟨rfl,rfl,rfl,rfl,rfl,trivial⟩,false,rfl,⟨fun u=>(by cases u),fun u=>absurd u.2.2.1 z1⟩,rfl⟩
   ·have y1:¬ m.kind=1:=by simpa using y
    exact ⟨_,by exact ⟨rfl,rfl,rfl,rfl,rfl,trivial⟩,false,rfl,⟨fun u=>(by cases u),fun u=>absurd u.2.1 y1⟩,rfl⟩
  ·have x1:¬ e=0:=by simpa using x
   exact ⟨_,by exact ⟨rfl,rfl,rfl,rfl,rfl,trivial⟩,false,rfl,⟨fun u=>(by cases u),fun u=>absurd u.1 x1⟩,rfl⟩
 rintro q w9 ⟨r,rfl,hr,rfl⟩;refine aQ.cond r rfl ?_;cases r
 ·refine aQ.of au mixed ⟨_,by exact ⟨rfl,trivial⟩,rfl,?_,K9⟩
  rw [eno fun m' hm' h=>?_]
  ·exact h9
  ·have:¬ (e=0∧m.kind=1∧f=0∧S.C.q.length<20000):=fun h=>by have:=hr.2 h;cases this
   rcases hc with ⟨e0,hd⟩ | ⟨e0,hd⟩
   ·rw [hd] at hm';cases hm';exact this ⟨e0,h.1,hf1.2 h.2.1,h.2.2⟩
   ·rw [hd] at hm';cases hm'
 ·obtain ⟨x1,y1,z1,u1⟩:=hr.1 rfl
  have hd:A.dec t.d=some m:=by
   rcases hc with ⟨_,hd⟩ | ⟨e0,_⟩
   ·exact hd
   ·exact absurd x1 e0
  have ek:S.y7 A t=S.doA A t m:=by
   unfold Sit.y7;rw [hd];show (if m.kind=1∧¬ t.d.size > 1000∧S.C.q.length<20000 then _ else _)=_;rw [if_pos ⟨y1,hf1.1 z1,u1⟩]
  have hk:=hf2 z1;subst hk;rw [ek];refine aQ.of au mixed ?_;obtain ⟨bc',a',P8,dw,B',jh,h9⟩:=h9;have wu:=h9.si.mem;obtain ⟨aa,TT,haq⟩:=ag h9.si.ak;have Z4:=h9.si.ak;rw [haq] at Z4;refine ⟨by kernel_rfl,_,_,wu,.slice aa S.asks.length TT,by show (fI _ _ _)[3]? = _;unfold fI;rw [haq];rfl,_,_,Z0,m.q.cells,rfl,rfl,_,_,m59,_,rfl,fun wa ba ma ga la=>?_⟩;have haa:=aF Z4 (w1:=wa) fun x hx=>by obtain ⟨c,hc⟩:=aG Z4 hx;exact ga.block x (ae hc) nofun
  refine ⟨⟨ga.get m59 nofun,ga.get Z0 nofun,ga.get wu nofun,trivial⟩,?_⟩;refine ⟨_,(Ask.mk m.q (bV S.C t.a) S.C.q.length).cells,haa,⟨_,_,ma,rfl,rfl,rfl⟩,by show S.asks.length+1≤_;omega,fun v' wb UA gb nb=>?_⟩;have mm:wb.heap[bs]? = _:=gb.get (ga.get wu nofun) fun e=>by
   obtain ⟨c,hc⟩:=aG haa e.symm;exact cO (ga.get wu nofun) hc (by decide) rfl
  obtain ⟨va,vc,rfl⟩:=ag UA;refine ⟨_,_,_,mm,rfl,rfl,fun wc mc gc=>?_⟩;obtain ⟨hz,kz⟩:=(h9.ax ga).ak' (l:=S.asks++[⟨m.q,bV S.C t.a,S.C.q.length⟩]) (by rw [haq];exact gb) (by rw [List.length_append,List.map_append,List.flatten_append];exact UA) (fun x hx=>by rw [haq];exact nb x hx) mc gc;exact ⟨_,by exact ⟨rfl,trivial⟩,rfl,⟨_,_,_,_,_,_,hz⟩,(K9.trans ga.kz).trans kz⟩
end
section
variable {Λ:bN} {w w':World} {bs bc:Nat} {S:Sit} {a:xC} {gv sv:Value} {B:Nat→Nat→Nat} {ad:Nat→Nat→fu}
theorem dR.p9 (h:dR Λ bs bc S a gv sv B ad w) {b:Nat} (hb:w.heap.size≤b):Λ.pr b=none:=by
 cases hp:Λ.pr b with
 | none=>rfl
 | some o=>have:=ae (h.pr b o hp).1;omega
theorem dR.cl (h:dR Λ bs bc S a gv sv B ad w) {x:Nat} (hx:lu S.C.n S.C.sz B bc sv ad x):x<w.heap.size:=by
 rcases hx with rfl | hx | ⟨g,i,hg,hi,hx⟩
 ·exact ae h.ci.eX
 ·obtain ⟨c,hc⟩:=aG h.ci.row hx;exact ae hc
 ·exact (h.ci.rep g i hg hi).lt hx
theorem dR.box (h:dR Λ bs bc S a gv sv B ad w) (g:GB none w w') {b:Nat} {o:Obj} (hb:w'.heap[b]? = some o) (hl:w.heap.size≤b):dR (Λ.add b o) bs bc S a gv sv B ad w':=by
 have h':=h.ax g;refine ⟨h'.si,h'.ci,h'.dj,fun x q hx=>?_,h'.os,h'.out⟩;unfold bN.add at hx;dsimp only at hx;split at hx
 ·rename_i e
  subst e;cases hx
  exact ⟨hb,fun e=>(by have:=h.si.lt e;omega),fun e=>(by have:=h.cl e;omega)⟩
 ·exact h'.pr x q hx
theorem cz.at {b:Nat} {o:Obj} (h:cz (Λ.add b o) bs S w):w.heap[b]? = some o:=by
 obtain ⟨_,_,_,_,_,_,h⟩:=h;exact (h.pr b o (bN.mV _ _ _)).1
theorem cz.drop {b:Nat} {o:Obj} (h:cz (Λ.add b o) bs S w) (hb:Λ.pr b=none):cz Λ bs S w:=by
 obtain ⟨bc,a,gv,sv,B,ad,h⟩:=h;refine ⟨bc,a,gv,sv,B,ad,h.si,h.ci,h.dj,fun x q hx=>h.pr x q ?_,h.os,h.out⟩;unfold bN.add;dsimp only;rw [if_neg (fun e=>by subst e;rw [hb] at hx;cases hx)];exact hx
end
section
variable {A:bE} (HA:bW A) (HN:je A) {Λ:bN} {w:World} {bs:Nat} {S:Sit}
include HA HN
theorem abd (h:cz Λ bs S w) (hF:S.aN A) {t:Stp} (ht:t.wf A) (hj:bA t.kind 7=5):gq Tryz.prog 26 #[.pointer (some ⟨bs,0,none⟩),.agg t.cells.toArray] w (fun v w'=>v=.bool (S.do A t).2∧cz Λ bs (S.do A t).1 w'∧Kz w w'):=by
 have hdo:S.do A t=(S.Vi A t,S.look.2):=by unfold Sit.do;rw [hj];rfl
 rw [hdo];have jr:=hF.cl.n;have hs5:=hF.cl.sz;have hlen:=hF.cl.len;have hak:=hF.ak;obtain ⟨bc,a,gv,sv,B,ad,hS⟩:=h;obtain ⟨q1,q2⟩:=qD (C:=S.C) (k:=t.a) hF.n hF.sz;refine Jg au Tryz.func26 rfl rfl ?_;refine aQ.piece (Q:=fun q w1=>∃ b3,q=[(0,.pointer (some ⟨bs,0,none⟩)),(3,.pointer (some ⟨b3,0,none⟩))]∧w1.heap[b3]? = some (.cells t.cells.toArray 95)∧GB none w w1∧w.heap.size≤b3) (aQ.of au mixed ?_) ?_
 ·exact fun w1 b3 m1 g1 l1=>⟨_,by exact ⟨rfl,rfl,trivial⟩,b3,rfl,m1,g1,l1⟩
 rintro q w1 ⟨b3,rfl,m1,g1,Gz⟩;have h1:=hS.ax g1;refine aQ.piece (Q:=fun q w2=>q=[(0,.pointer (some ⟨bs,0,none⟩)),(3,.pointer (some ⟨b3,0,none⟩)),(5,.int .i64 S.C.q.length)]∧GB none w1 w2) (aQ.of au mixed ?_) ?_
 ·refine ⟨_,_,h1.si.mem,_,rfl,_,(nu h1.enter hlen 0 (by decide) (by decide)).x,?_⟩
  rintro lv w2 ⟨o2,g2,_⟩;have e0:S.C.q.length - min (0:Int).toNat S.C.q.length=S.C.q.length:=by simp
  rw [e0] at o2;obtain ⟨la,lc,rfl⟩:=ag o2;exact ⟨_,by exact ⟨rfl,rfl,rfl,trivial⟩,rfl,g2⟩
 rintro q w2 ⟨rfl,g2⟩;have h2:=h1.ax g2;refine aQ.piece (Q:=fun q w5=>∃ b6,q=[(0,.pointer (some ⟨bs,0,none⟩)),(3,.pointer (some ⟨b3,0,none⟩)),(5,.int .i64 S.C.q.length),(6,.pointer (some ⟨b6,0,none⟩))]∧w5.heap[b6]? = some (.cells #[.int .u8 (bV S.C t.a),.int .u8 (dF S.C t.a)] 48)∧GB none w2 w5∧w.heap.size≤b6) (aQ.of au mixed ?_) ?_
 ·refine ⟨_,_,g2.get m1 nofun,_,rfl,_,(nI h2.si.mem ⟨hF.n,jr⟩ ⟨hF.sz,hs5⟩ t.a ht.a.1 ht.a.2).x,?_⟩
  rintro _ w3 ⟨rfl,g3⟩;refine fun w4 b6 m4 g4 l4=>⟨_,_,_,m4,rfl,rfl,fun w5 m5 g5=>?_⟩
  exact ⟨_,by exact ⟨rfl,rfl,rfl,rfl,trivial⟩,b6,rfl,m5,g3.trans (g4.new g5 l4),Nat.le_trans ((g1.trans g2).trans g3).size l4⟩
 rintro q w5 ⟨b6,rfl,m5,jF,GA⟩;have G:GB none w w5:=(g1.trans g2).trans jF;have m15:=(g2.trans jF).get m1 nofun;have h5:=hS.ax G;have un3:Λ.pr b3=none:=hS.p9 Gz;have un6:Λ.pr b6=none:=hS.p9 GA;have l36:b6≠b3:=fun e=>by
  subst e;rw [m5] at m15;injection m15 with m15;injection m15 with _ m15;revert m15;decide
 obtain ⟨o3,ho3⟩:∃ o,o=Obj.cells t.cells.toArray 95:=⟨_,rfl⟩;obtain ⟨o6,LG⟩:∃ o,o=Obj.cells #[.int .u8 (bV S.C t.a),.int .u8 (dF S.C t.a)] 48:=⟨_,rfl⟩;rw [← ho3] at m15;rw [← LG] at m5;have h5':dR ((Λ.add b3 o3).add b6 o6) bs bc S a gv sv B ad w5:=by
  have z:=hS.box G m15 Gz;have z':=h5;refine ⟨z.si,z.ci,z.dj,fun x q hx=>?_,z.os,z.out⟩;unfold bN.add at hx;dsimp only at hx;split at hx
  ·rename_i e;subst e;cases hx
   exact ⟨m5,fun e=>(by have:=hS.si.lt e;omega),fun e=>(by have:=hS.cl e;omega)⟩
  ·exact z.pr x q hx
 have unA:(Λ.add b3 o3).pr b6=none:=by unfold bN.add;dsimp only;rw [if_neg l36];exact un6
 refine aQ.cut (Qn:=fun _ _=>False) (Qx:=fun _ _ _=>False) (Qr:=fun q w'=>q=[(4,.bool S.look.2)]∧cz Λ bs (S.Vi A t) w'∧Kz w w') ?_ (fun _ _ h=>h.elim) (fun _ _ _ _ h _=>h.elim) ?_;rotate_left
 ·rintro q s w' ⟨rfl,h',k'⟩ hs
  exact CJ hs ⟨rfl,h',k'⟩
 refine aQ.piece (Q:=fun q w'=>q=[(0,.pointer (some ⟨bs,0,none⟩)),(3,.pointer (some ⟨b3,0,none⟩)),(6,.pointer (some ⟨b6,0,none⟩)),(28,.int .i64 5)]∧w'=w5) (aQ.of au mixed ?_) ?_
 ·have pk:=iR w5 t.kind 7 (by decide) ht.kind.1 ht.kind.2
  rw [hj] at pk;rw [ho3] at m15;refine ⟨_,_,m15,_,rfl,_,pk.x,?_⟩;rintro _ w5 ⟨rfl,rfl⟩;exact ⟨_,by exact ⟨rfl,rfl,rfl,rfl,trivial⟩,rfl,rfl⟩
 rintro q w5 ⟨rfl,rfl⟩;refine aQ.block ?_;refine aQ.piece (Q:=fun q w'=>q=[(0,.pointer (some ⟨bs,0,none⟩)),(3,.pointer (some ⟨b3,0,none⟩)),(6,.pointer (some ⟨b6,0,none⟩)),(28,.int .i64 5),(35,.bool false)]∧w'=w5) (aQ.of au mixed ⟨_,by exact ⟨rfl,rfl,rfl,rfl,rfl,trivial⟩,rfl,rfl⟩) ?_;rintro q w5 ⟨rfl,rfl⟩;refine aQ.cond false rfl ?_;refine aQ.piece (Q:=fun q w'=>q=[(0,.pointer (some ⟨bs,0,none⟩)),(3,.pointer (some ⟨b3,0,none⟩)),(6,.pointer (some ⟨b6,0,none⟩)),(28,.int .i64 5),(45,.bool false)]∧w'=w5) (aQ.of au mixed ⟨_,by exact ⟨rfl,rfl,rfl,rfl,rfl,trivial⟩,rfl,rfl⟩) ?_;rintro q w5 ⟨rfl,rfl⟩;refine aQ.cond false rfl ?_;refine aQ.piece (Q:=fun q w'=>q=[(0,.pointer (some ⟨bs,0,none⟩)),(3,.pointer (some ⟨b3,0,none⟩)),(6,.pointer (some ⟨b6,0,none⟩)),(28,.int .i64 5),(94,.bool false)]∧w'=w5) (aQ.of au mixed ⟨_,by exact ⟨rfl,rfl,rfl,rfl,rfl,trivial⟩,rfl,rfl⟩) ?_;rintro q w5 ⟨rfl,rfl⟩;refine aQ.cond false rfl ?_;refine aQ.piece (Q:=fun q w'=>q=[(0,.pointer (some ⟨bs,0,none⟩)),(3,.pointer (some ⟨b3,0,none⟩)),(6,.pointer (some ⟨b6,0,none⟩)),(28,.int .i64 5),(109,.bool false)]∧w'=w5) (aQ.of au mixed ⟨_,by exact ⟨rfl,rfl,rfl,rfl,rfl,trivial⟩,rfl,rfl⟩) ?_;rintro q w5 ⟨rfl,rfl⟩;refine aQ.cond false rfl ?_;refine aQ.piece (Q:=fun q w'=>q=[(0,.pointer (some ⟨bs,0,none⟩)),(3,.pointer (some ⟨b3,0,none⟩)),(6,.pointer (some ⟨b6,0,none⟩)),(28,.int .i64 5),(128,.bool false)]∧w'=w5) (aQ.of au mixed ⟨_,by exact ⟨rfl,rfl,rfl,rfl,rfl,trivial⟩,rfl,rfl⟩) ?_;rintro q w5 ⟨rfl,rfl⟩;refine aQ.cond false rfl ?_;refine aQ.piece (Q:=fun q w'=>q=[(0,.pointer (some ⟨bs,0,none⟩)),(3,.pointer (some ⟨b3,0,none⟩)),(6,.pointer (some ⟨b6,0,none⟩)),(138,.bool true)]∧w'=w5) (aQ.of au mixed ⟨_,by exact ⟨rfl,rfl,rfl,rfl,trivial⟩,rfl,rfl⟩) ?_;rintro q w5 ⟨rfl,rfl⟩;refine aQ.cond true rfl ?_;obtain ⟨lF,lC⟩:=hF.iE (S.C.n*S.C.sz);have lF:S.look.1.aN A:=lF;have lC:S.look.1.C=S.C:=lC;obtain ⟨T,hT⟩:∃ T,T=S.look.1:=⟨_,rfl⟩;obtain ⟨r,hr⟩:∃ r,r=S.look.2:=⟨_,rfl⟩;have hlk:=ZQ HN ⟨_,_,_,_,_,_,h5'⟩ hF;have hd5:S.Vi A t={ T with C:=T.C.gL A (bV S.C t.a) (dF S.C t.a),fell:=T.fell.set (bA t.a (S.C.n*S.C.sz)) true }:=by rw [hT];rfl
 rw [hd5];rw [← hT] at lF lC hlk;rw [← hr] at hlk ⊢;have hle:S.C.n*S.C.sz≤20:=Nat.mul_le_mul jr hs5;have hpos:0<S.C.n*S.C.sz:=Nat.mul_pos hF.n hF.sz;have hpl:=gF t.a hpos;refine aQ.piece (Q:=fun q w6=>q=[(0,.pointer (some ⟨bs,0,none⟩)),(3,.pointer (some ⟨b3,0,none⟩)),(6,.pointer (some ⟨b6,0,none⟩)),(14,.bool r)]∧cz ((Λ.add b3 o3).add b6 o6) bs T w6∧Kz w w6) (aQ.of au mixed ?_) ?_
 ·refine ⟨_,hlk.x,?_⟩
  rintro _ w6 ⟨rfl,h6,k6⟩;exact ⟨_,by exact ⟨rfl,rfl,rfl,rfl,trivial⟩,rfl,h6,G.kz.trans k6⟩
 rintro q w6 ⟨rfl,h6,K6⟩;have m66:=h6.at;rw [LG] at m66;obtain ⟨Z5,a6,gv6,sv6,B6,ad6,h6⟩:=h6;refine aQ.piece (Q:=fun q w7=>q=[(0,.pointer (some ⟨bs,0,none⟩)),(3,.pointer (some ⟨b3,0,none⟩)),(14,.bool r),(15,.int .i64 0)]∧cz ((Λ.add b3 o3).add b6 o6) bs { T with C:=T.C.gL A (bV S.C t.a) (dF S.C t.a) } w7∧Kz w w7) (aQ.of au mixed ?_) ?_
 ·have hcr:af Tryz.prog 53 #[.pointer (some ⟨Z5,0,none⟩),.agg #[.int .u8 (bV S.C t.a),.int .u8 (dF S.C t.a)]] w6 (fun v w'=>v=.int .i64 0∧r9 (yI w6 T.C.n T.C.sz B6 Z5 sv6 ad6) Z5 (T.C.gL A (bV S.C t.a) (dF S.C t.a)) w'∧Kz w6 w'):=af.mono' (Wn HA h6.enter lF.cl (bV S.C t.a) (dF S.C t.a) (by omega) (by omega)) fun v w' hp=>⟨hp.1.trans (by rw [if_pos ⟨by rw [lC];exact q1,by rw [lC];exact q2⟩]),hp.2⟩
  refine ⟨by kernel_rfl,_,_,h6.si.mem,_,rfl,_,_,m66,[.int .u8 (bV S.C t.a),.int .u8 (dF S.C t.a)],rfl,rfl,_,hcr.x,?_⟩;rintro _ w7 ⟨rfl,hC,k7⟩;obtain ⟨en,ez⟩:=aW.Bl A T.C (bV S.C t.a) (dF S.C t.a);exact ⟨_,by exact ⟨rfl,rfl,rfl,rfl,trivial⟩,rfl,h6.leave en ez hC k7,K6.trans k7⟩
 rintro q w7 ⟨rfl,h7,K7⟩;have Z6:w7.heap[b3]? = some o3:=(h7.drop unA).at;rw [ho3] at Z6;obtain ⟨en,ez⟩:=aW.Bl A T.C (bV S.C t.a) (dF S.C t.a);refine aQ.piece (Q:=fun q w8=>q=[(14,.bool r),(15,.int .i64 0)]∧cz Λ bs { T with C:=T.C.gL A (bV S.C t.a) (dF S.C t.a),fell:=T.fell.set (bA t.a (S.C.n*S.C.sz)) true } w8∧Kz w w8) (aQ.of au mixed ?_) ?_
 ·obtain ⟨bc7,a7,gv7,sv7,B7,ad7,h7⟩:=h7
  have hmem:=h7.si.mem;have hcn:((T.C.gL A (bV S.C t.a) (dF S.C t.a)).n:Int)*((T.C.gL A (bV S.C t.a) (dF S.C t.a)).sz:Int)=((S.C.n*S.C.sz:Nat):Int):=by rw [en,ez,lC];exact (Int.natCast_mul _ _).symm
  obtain ⟨fl,hfl⟩:∃ x,T.fell[bA t.a (S.C.n*S.C.sz)]? = some x:=⟨T.fell[bA t.a (S.C.n*S.C.sz)]'(by rw [lF.fe,lC];exact hpl),by simp [lF.fe,lC,hpl]⟩;obtain ⟨gf,Ow,ZW,JQ,EF,Vg,ZX,adE⟩:=rA h7.si.fe (k:=bA t.a (S.C.n*S.C.sz)) (x:=.bool fl) (by rw [List.getElem?_map];show (T.fell[_]?).map _=_;rw [hfl];rfl);have pk:=iR w7 t.a (S.C.n*S.C.sz) hpos ht.a.1 ht.a.2;rw [← hcn] at pk;refine ⟨by kernel_rfl,_,_,hmem,.slice (some ⟨gf,0,none⟩) T.fell.length Ow,by show (fI _ _ _)[6]? = _;unfold fI;rw [JQ];rfl,_,_,Z6,_,rfl,_,_,hmem,_,rfl,_,_,hmem,_,rfl,⟨by show _≤((T.C.gL A (bV S.C t.a) (dF S.C t.a)).n:Int)*((T.C.gL A (bV S.C t.a) (dF S.C t.a)).sz:Int);omega,by show ((T.C.gL A (bV S.C t.a) (dF S.C t.a)).n:Int)*((T.C.gL A (bV S.C t.a) (dF S.C t.a)).sz:Int)≤_;omega⟩,_,pk.x,?_⟩;rintro _ w7 ⟨rfl,rfl⟩;have aa4:bA t.a (S.C.n*S.C.sz)<T.fell.length:=ZX;refine ⟨⟨hmem,hmem,Z6,hmem,trivial⟩,⟨by omega,by omega⟩,_,_,_,EF,fC rfl rfl (by show 0+((bA t.a (S.C.n*S.C.sz):Nat):Int).toNat*1<_;omega),rfl,fun w8 m8 g8=>?_⟩;have Z7:=h7.si.fe;rw [JQ] at Z7;have o8:=own_set' (off:=bA t.a (S.C.n*S.C.sz)) (v:=.bool true) Z7 EF m8 (by show 0+((bA t.a (S.C.n*S.C.sz):Nat):Int).toNat*1=_;omega) rfl rfl (by show _<T.fell.length*1;omega);have adL:w8.heap[bs]? = _:=g8.get hmem fun e=>cO hmem EF (by decide) (Option.some.inj e)
  obtain ⟨h8,k8⟩:=h7.ZL (v:=.slice (some ⟨gf,0,none⟩) T.fell.length Ow) (l:=T.fell.set (bA t.a (S.C.n*S.C.sz)) true) (w1:=w8) (w2:=w8) (by rw [JQ];exact g8) (by rw [List.length_set,List.map_set];exact o8) (fun x hx=>by rw [JQ];exact .inl hx) (by rw [adL];unfold fI;rw [JQ]) (GB.refl _ _);exact ⟨_,by exact ⟨rfl,rfl,trivial⟩,rfl,cz.drop (cz.drop ⟨_,_,_,_,_,_,h8⟩ unA) un3,K7.trans k8⟩
 rintro q w8 ⟨rfl,h8,K8⟩;refine aQ.of au mixed ?_;cases r
 ·exact ⟨_,by exact ⟨rfl,trivial⟩,rfl,h8,K8⟩
 ·exact ⟨_,by exact ⟨rfl,trivial⟩,rfl,h8,K8⟩
end
theorem aW.QM {C:aW} (h:C.q.length≤20000) (g i:Nat) (R:MR):C.q.length≤(C.done g i R).q.length:=by
 show _≤(List.take 20000 _).length;rw [List.length_take,List.length_append];omega
theorem aW.Mv {A:bE} {C:aW} (h:C.q.length≤20000) (k:Int):C.q.length≤(C.fM A k).q.length:=by
 unfold aW.fM;split
 ·unfold aW.nH
  split
  ·exact Nat.le_refl _
  ·split
   ·exact aW.QM h _ _ _
   ·exact Nat.le_refl _
 ·exact Nat.le_refl _
theorem aW.QO {A:bE} {C:aW} (h:C.q.length≤20000) (g i:Nat):C.q.length≤(C.tick A g i).q.length:=by
 unfold aW.tick;split
 ·exact aW.QM h _ _ _
 ·exact Nat.le_refl _
theorem aW.WW {A:bE} (C:aW) (g i:Nat):(C.gL A g i).q=C.q:=by unfold aW.gL;split <;> rfl
theorem aW.QP (C:aW) (g i:Nat) (d:ByteArray):C.q.length≤(C.send g i d).q.length:=by
 unfold aW.send;split
 ·show _≤(mE _ _).length
  unfold mE;split
  ·simp
  ·exact Nat.le_refl _
 ·exact Nat.le_refl _
theorem aW.Mw {C:aW} {g i:Nat} {d:ByteArray} (hg:g<C.n) (hi:i<C.sz) (hd:¬ d.size > 1000) (hq:C.q.length<20000):(C.send g i d).q.length=C.q.length+1:=by
 unfold aW.send;rw [if_pos ⟨⟨hg,hi⟩,hd⟩];show (mE _ _).length=_;rw [Gg hq];simp
section
variable {A:bE} {S:Sit}
theorem Sit.aN.eX (h:S.aN A) {C:aW} (hC:C.aN A) (hn:C.n=S.C.n) (hz:C.sz=S.C.sz) (hq:S.C.q.length≤C.q.length):Sit.aN A { S with C:=C }:=⟨hC,by show 0<C.n;rw [hn];exact h.n,by show 0<C.sz;rw [hz];exact h.sz,by show S.dY.length=C.n;rw [hn];exact h.be,by show S.len.length=C.n*C.sz;rw [hn,hz];exact h.le,by show S.fell.length=C.n*C.sz;rw [hn,hz];exact h.fe,Nat.le_trans h.ak hq⟩
theorem Sit.aN.nxt (h:S.aN A) (k:Nat):Sit.aN A { S with next:=k }:=⟨h.cl,h.n,h.sz,h.be,h.le,h.fe,h.ak⟩
end
section
variable {A:bE} (HA:bW A) (HN:je A) (HL:wh A) {S:Sit}
include HA HN
theorem Sit.aN.all:∀ (n:Nat) {S:Sit},S.aN A→(S.all A n).aN A
 | 0,_,h=>h
 | n+1,S,h=>by
  unfold Sit.all;split
  ·exact Sit.aN.all n (S:=S.one A) ((h.eX (h.cl.fM HA HN (S.next:Int)) (aW.nJ _ _ _).1 (aW.nJ _ _ _).2 (aW.Mv h.cl.len _)).nxt _)
  ·exact h
theorem Sit.aN.jD (h:S.aN A):∀ g,(S.jD A g).aN A
 | 0=>h
 | g+1=>(Sit.aN.jD h g).eX ((Sit.aN.jD h g).cl.tick HA HN _ _) (aW.sJ _ _ _ _).1 (aW.sJ _ _ _ _).2 (aW.QO (Sit.aN.jD h g).cl.len _ _)
theorem Sit.aN.round (h:S.aN A):(S.round A).aN A:=Sit.aN.all HA HN _ (Sit.aN.jD HA HN h _)
include HL
theorem Sit.aN.sends (h:S.aN A) {q:bH} (hq:A.gc (bZ q)) {g i:Nat} (hg:g<S.C.n) (hi:i<S.C.sz) (hl:S.C.q.length<20000):(S.sends A q g i).aN A:=by
 have hsm:=HL.small q hq;have h4:=h.cl.n;have h5:=h.cl.sz;have z:=h.eX (h.cl.send (g:=g) (i:=i) (by omega) (by omega) (A.enc (oI q))) (S.C.xD g i _).1 (S.C.xD g i _).2 (S.C.QP g i _);refine ⟨z.cl,z.n,z.sz,z.be,z.le,z.fe,?_⟩;show (S.asks++[_]).length≤(S.C.send g i (A.enc (oI q))).q.length;rw [List.length_append,aW.Mw hg hi (by omega) hl];have:=h.ak;show S.asks.length+1≤_;omega
theorem Sit.aN.do (h:S.aN A) {t:Stp} (ht:t.wf A):(S.do A t).1.aN A:=by
 obtain ⟨q1,q2⟩:=qD (C:=S.C) (k:=t.a) h.n h.sz;have h4:=h.cl.n;have h5:=h.cl.sz;have hp:=gF t.kind (show 0<7 by decide);have hs:=h.eX (h.cl.send (g:=bV S.C t.a) (i:=dF S.C t.a) (by omega) (by omega) t.d) (S.C.xD _ _ _).1 (S.C.xD _ _ _).2 (S.C.QP _ _ _);have hdl:∀ k:Int,Sit.aN A { S with C:=S.C.fM A k }:=fun k=>h.eX (h.cl.fM HA HN k) (aW.nJ _ _ _).1 (aW.nJ _ _ _).2 (aW.Mv h.cl.len _)
 unfold Sit.do;generalize bA t.kind 7=K at hp;match K,hp with
 | 0,_ =>
  show Sit.aN A (if S.C.q.length<20000 then _ else _);split
  ·rename_i c;exact Sit.aN.sends HA HN HL h ht.r q1 q2 c
  ·exact h
 | 1,_ =>
  show Sit.aN A (S.y7 A t);unfold Sit.y7;split
  ·rename_i m hm
   split
   ·rename_i c
    refine ⟨hs.cl,hs.n,hs.sz,hs.be,hs.le,hs.fe,?_⟩;show (S.asks++[_]).length≤(S.C.send _ _ t.d).q.length;rw [List.length_append,aW.Mw q1 q2 c.2.1 c.2.2];have:=h.ak;show S.asks.length+1≤_;omega
   ·exact hs
  ·exact hs
 | 2,_ =>
  show Sit.aN A (if 0<S.C.q.length then _ else _:Sit×Bool).1;split
  ·exact hdl _
  ·exact h
 | 3,_ =>
  show Sit.aN A (if 0<S.C.q.length then _ else _:Sit×Bool).1;split
  ·exact hdl _
  ·exact h
 | 4,_=>exact h.eX (h.cl.tick HA HN _ _) (aW.sJ _ _ _ _).1 (aW.sJ _ _ _ _).2 (aW.QO h.cl.len _ _)
 | 5,_ =>
  obtain ⟨lF,lC⟩:=h.iE (S.C.n*S.C.sz);have lF:S.look.1.aN A:=lF;have z:=lF.eX (lF.cl.gL HA HN (bV S.C t.a) (dF S.C t.a)) (aW.Bl _ _ _ _).1 (aW.Bl _ _ _ _).2 (Nat.le_of_eq (by rw [aW.WW]));refine ⟨z.cl,z.n,z.sz,z.be,z.le,?_,z.ak⟩;show (S.look.1.fell.set _ _).length=_;rw [List.length_set];exact z.fe
 | 6,_=>exact Sit.aN.all HA HN _ h
variable {Λ:bN} {w:World} {bs:Nat}
theorem TV (h:cz Λ bs S w) (hF:S.aN A) {t:Stp} (ht:t.wf A):gq Tryz.prog 26 #[.pointer (some ⟨bs,0,none⟩),.agg t.cells.toArray] w (fun v w'=>v=.bool (S.do A t).2∧cz Λ bs (S.do A t).1 w'∧Kz w w'):=by
 have hp:=gF t.kind (show 0<7 by decide);obtain ⟨K,hK⟩:∃ K,bA t.kind 7=K:=⟨_,rfl⟩;rw [hK] at hp;match K,hp,hK with
 | 0,_,hK=>exact aa5 HA HN HL h hF ht hK
 | 1,_,hK=>exact abb HA h hF ht hK
 | 2,_,hK=>exact aa6 HA HN HL h hF ht hK
 | 3,_,hK=>exact aa7 HA HN HL h hF ht hK
 | 4,_,hK=>exact aa8 HA HN HL h hF ht hK
 | 5,_,hK=>exact abd HA HN h hF ht hK
 | 6,_,hK=>exact aa9 HA HN HL h hF ht hK
end
end
end Go.Proofs.YtignemioillaiabGreat
