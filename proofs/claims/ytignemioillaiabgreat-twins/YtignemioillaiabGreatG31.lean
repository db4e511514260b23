/- Contracts beside leavers; a cluster at work: what lies beside it; Tick, Deliver, Crash, Send. -/
import Derived.Test.YtignemioillaiabGreatG30
namespace Go.Proofs.YtignemioillaiabGreat
set_option maxHeartbeats 8000000
set_option maxRecDepth 100000
section
open Go Go.Conc
theorem af.mono' {P:Program} {f:FuncId} {args:Array Value} {w:World} {Post Post':Value→World→Prop} (h:af P f args w Post) (hp:∀ v w',Post v w'→Post' v w'):af P f args w Post':=fun main D X cs hX hk=>h main D X cs hX fun fr v w' e1 e2 e3=>hk fr v w' e1 e2 (hp v w' e3)
def Je (A:bE) (n sz:Nat) (p:bJ):Prop:=(0≤p.tg∧p.tg<256∧0≤p.tr∧p.tr<256)∧((p.fg=255∧p.fr=255)∨∃ g i,g<n∧i<sz∧PG A g i n p)
structure aW.aN (A:bE) (C:aW):Prop where
 n:C.n≤4
 sz:C.sz≤5
 ok:∀ g i,g<C.n→i<C.sz→Ok A (C.F g i)
 out:∀ g i,g<C.n→i<C.sz→(C.F g i).out=[]
 at_:∀ g i,g<C.n→i<C.sz→(C.F g i).sc.g=g∧(C.F g i).sc.i=i∧(C.F g i).sc.gs=C.n∧(C.F g i).sc.sz=C.sz
 sd:∀ g i,g<C.n→i<C.sz→(C.F g i).st.n=C.n∧(C.F g i).st.g=g
 len:C.q.length≤20000
 net:∀ p∈C.q,Je A C.n C.sz p
theorem mX {α:Type} {n sz:Nat} {F:Nat→Nat→α} {P:Nat→Nat→α→Prop} (h:∀ g i,g<n→i<sz→P g i (F g i)) {g i:Nat} {r:α} (hr:P g i r):∀ g' i',g'<n→i'<sz→P g' i' (gX F g i r g' i'):=fun g' i' hg hi=>by
 by_cases e:g'=g∧i'=i
 ·obtain ⟨rfl,rfl⟩:=e;rw [bX];exact hr
 ·rw [bK _ _ e];exact h g' i' hg hi
section
variable {A:bE} {C:aW}
theorem aW.aN.done (h:C.aN A) {g i:Nat} (hg:g<C.n) (hi:i<C.sz) {R':MR} (ho:Ok A R') (hx:Nx A (C.F g i) R'):(C.done g i R').aN A:=by
 obtain ⟨a1,a2,a3,a4⟩:=h.at_ g i hg hi;obtain ⟨e1,e2,e3,e4⟩:=hx.id;obtain ⟨s1,s2⟩:=h.sd g i hg hi;refine ⟨h.n,h.sz,mX (P:=fun _ _ (R:MR)=>Ok A R) h.ok ho.done,mX (P:=fun _ _ (R:MR)=>R.out=[]) h.out rfl,mX (P:=fun g i (R:MR)=>R.sc.g=g∧R.sc.i=i∧R.sc.gs=C.n∧R.sc.sz=C.sz) h.at_ ⟨e1.trans a1,e2.trans a2,e3.trans a3,e4.trans a4⟩,mX (P:=fun g i (R:MR)=>R.st.n=C.n∧R.st.g=g) h.sd ⟨hx.sd.1.trans s1,hx.sd.2.trans s2⟩,?_,fun p hp=>?_⟩
 ·show (List.take 20000 _).length≤20000
  rw [List.length_take];omega
 ·rcases List.mem_append.1 (List.mem_of_mem_take hp) with q | q
  ·exact h.net p q
  ·rcases hx.ou p q with q | q
   ·rw [h.out g i hg hi] at q;cases q
   ·rw [a1,a2,a3] at q
    exact ⟨q.2.2.1,.inr ⟨g,i,hg,hi,q⟩⟩
theorem aW.aN.gL (HA:bW A) (HN:je A) (h:C.aN A) (g i:Nat):(C.gL A g i).aN A:=by
 unfold aW.gL;split
 ·rename_i c
  have o:=h.ok _ _ c.1 c.2;obtain ⟨e1,e2⟩:=HN.YW _ _ o.i.2.1 o.i.2.2.1;obtain ⟨a1,a2,a3,a4⟩:=h.at_ g i c.1 c.2;refine ⟨h.n,h.sz,mX (P:=fun _ _ (R:MR)=>Ok A R) h.ok (o.start HA),mX (P:=fun _ _ (R:MR)=>R.out=[]) h.out (h.out _ _ c.1 c.2),mX (P:=fun g i (R:MR)=>R.sc.g=g∧R.sc.i=i∧R.sc.gs=C.n∧R.sc.sz=C.sz) h.at_ (h.at_ _ _ c.1 c.2),mX (P:=fun g i (R:MR)=>R.st.n=C.n∧R.st.g=g) h.sd ⟨?_,?_⟩,h.len,h.net⟩
  ·rw [a1,a3] at e1;rw [show (mStart A (C.F g i)).st=A.bg (C.F g i).sc.g (C.F g i).sc.gs from rfl,a1,a3];exact e1
  ·rw [a1,a3] at e2;rw [show (mStart A (C.F g i)).st=A.bg (C.F g i).sc.g (C.F g i).sc.gs from rfl,a1,a3];exact e2
 ·exact h
theorem aW.aN.tick (HA:bW A) (HN:je A) (h:C.aN A) (g i:Nat):(C.tick A g i).aN A:=by
 unfold aW.tick;split
 ·rename_i c
  have o:=h.ok _ _ c.1 c.2;exact h.done c.1 c.2 (o.tick HA) (Nx.tick HA HN o ((h.sd g i c.1 c.2).2.trans (congrArg Int.ofNat (h.at_ g i c.1 c.2).1).symm))
 ·exact h
theorem aW.aN.send (h:C.aN A) {g i:Nat} (hg:g<256) (hi:i<256) (d:ByteArray):(C.send g i d).aN A:=by
 unfold aW.send;split
 ·rename_i c
  refine ⟨h.n,h.sz,h.ok,h.out,h.at_,h.sd,?_,fun p hp=>?_⟩
  ·have:=h.len
   show (mE _ _).length≤_;unfold mE;split
   ·simp;omega
   ·exact this
  ·have hp:p∈mE C.q ⟨255,255,g,i,d⟩:=hp
   unfold mE at hp;split at hp
   ·rcases List.mem_append.1 hp with q | q
    ·exact h.net p q
    ·rw [List.mem_singleton] at q
     subst q;exact ⟨⟨by show 0≤(g:Int);omega,by show (g:Int)<256;omega,by show 0≤(i:Int);omega,by show (i:Int)<256;omega⟩,.inl ⟨rfl,rfl⟩⟩
   ·exact h.net p hp
 ·exact h
theorem Je.gm (HN:je A) {n sz:Nat} {p:bJ} (h:Je A n sz p) (hz:sz≤5) {R:MR} (ho:Ok A R) (hs:R.st.n=n):∀ m,A.dec p.d=some m→¬ ((p.fg.toNat,p.fr.toNat).1=255∧m.kind≠1)→GM A R (p.fg.toNat,p.fr.toNat) m:=by
 intro m hd hn;obtain ⟨b1,b2⟩:=HN.ask _ _ hd;obtain ⟨l1,l2,l3⟩:=HN.lens _ ho.st;rcases h.2 with ⟨c1,c2⟩ | ⟨g,i,hg,hi,c1,c2,c3,m0,e1,e2⟩
 ·have hk:m.kind=1:=Classical.byContradiction fun e=>hn ⟨by show p.fg.toNat=255;rw [c1];rfl,e⟩
  exact ⟨b1,b2,fun e=>by omega,fun e=>by omega,fun e=>by omega,fun e=>by omega,fun e=>by omega,fun e=>by omega⟩
 ·rw [e1] at hd
  have e2:=HN.back _ _ _ e2 hd;have f5:(p.fg.toNat,p.fr.toNat).2<5:=by show p.fr.toNat<5;omega
  exact ⟨b1,fun k=>(e2.k1 k).elim,fun k=>⟨(e2.vs k).1,Nat.le_trans (e2.vs k).2 (by decide),f5⟩,e2.acc,fun k=>⟨e2.Ad k,f5⟩,e2.dec,fun k=>⟨(e2.uR k).1,by have:=(e2.uR k).2.1;omega,(e2.uR k).2.2⟩,fun k=>⟨(e2.pI k).1,by have:=(e2.pI k).2.1;omega,(e2.pI k).2.2⟩⟩
theorem Je.f8 {n sz:Nat} {p:bJ} (h:Je A n sz p) (hn:n≤4) (hz:sz≤5):(p.fg.toNat<256∧p.fr.toNat<256)∧p.fg=(p.fg.toNat:Int)∧p.fr=(p.fr.toNat:Int):=by
 rcases h.2 with ⟨c1,c2⟩ | ⟨g,i,hg,hi,c1,c2,_⟩ <;> omega
theorem aW.aN.nH (HA:bW A) (HN:je A) (h:C.aN A) (k:Nat):(C.nH A k).aN A:=by
 unfold aW.nH;split
 ·exact h
 ·rename_i p hp
  have hm:=h.net p (List.mem_of_getElem? hp);split
  ·rename_i c
   have o:=h.ok _ _ c.1 c.2;have gm:=hm.gm HN h.sz o (h.sd _ _ c.1 c.2).1;exact h.done c.1 c.2 (o.take HA gm) (Nx.take HA HN o (hm.f8 h.n h.sz).1 gm)
  ·exact h
theorem aW.aN.new (HA:bW A) (HN:je A) {n sz:Nat} (hn:n≤4) (hN:n=A.N) (hz:sz≤5):(aW.new A n sz).aN A:=by
 refine ⟨hn,hz,fun g i hg hi=>Ok.new HA hg hn hN hi hz,fun _ _ _ _=>rfl,fun _ _ _ _=>⟨rfl,rfl,rfl,rfl⟩,fun g i hg hi=>?_,Nat.zero_le _,fun _ h=>by cases h⟩;obtain ⟨e1,e2⟩:=HN.YW g n hg hn;exact ⟨e1,e2⟩
end
def gq (P:Program) (f:FuncId) (args:Array Value) (w:World) (Post:Value→World→Prop):Prop:=∀ (K:Machine→Trace→Prop) (cF:Frame) (cs:List Frame),(∀ v w',Post v w'→XR P K (G (cF.finish v) cs) w')→XR P K (G (Frame.enter P f args .normal) (cF::cs)) w
@[reducible] def mg (P:Program):kN P:=⟨gq P,fun h hs K cF cs hk=>lT.rely hs (h K cF cs hk),fun main D X=>main=true∧D=wV∧∃ K,X=XR P K,fun _ hφ=>fun h hk=>by
 obtain ⟨rfl,rfl,K,rfl⟩:=hφ;exact h K _ _ hk⟩
theorem af.x {P:Program} {f:FuncId} {args:Array Value} {w:World} {Post:Value→World→Prop} (h:af P f args w Post):gq P f args w Post:=fun K cF cs hk=>h true wV (XR P K) (cF::cs) lT fun _ v w' _ hl hp=>lT.back hl (hk v w' hp)
theorem rO {P:Program} (E:kP P) (hm:P.follows .mixedOrders=true) {f:FuncId} {fn:Func} {c:Code} {args:List Value} {w:World} {Post:Value→World→Prop} (hf:P.funcs[f]? = some fn) (hb:fn.body=some c) (hn:Nat.ble args.length fn.ntmps=true) (h:@tT P (mg P) E fn.ntmps c (zT E fn.results.toList Post) (uF args 0) w):gq P f args.toArray w Post :=
 fun K _cF _cs hk=>@Uu P (mg P) E hm _ _ _ _ _ _ hf hb hn h _ _ _ (@SX.mk P (mg P) true wV (XR P K) lT ⟨rfl,rfl,K,rfl⟩) _ fun _ v w' _ hl hp=>lT.back hl (hk v w' hp)
structure Jf (Λ:bN) (bc:Nat) (C:aW) (gv sv:Value) (B:Nat→Nat→Nat) (ad:Nat→Nat→fu) (w:World):Prop where
 ci:CI w bc gv sv C.q C.n C.sz B ad C.F
 pr:∀ b o,Λ.pr b=some o→w.heap[b]? = some o∧¬ lu C.n C.sz B bc sv ad b
 os:w.os=Λ.os
 out:w.output=Λ.out
def r9 (Λ:bN) (bc:Nat) (C:aW) (w:World):Prop:=∃ gv sv B ad,Jf Λ bc C gv sv B ad w
section
variable {Λ:bN} {w w':World} {bc:Nat} {C C':aW} {gv sv dw:Value} {B:Nat→Nat→Nat} {ad jh:Nat→Nat→fu}
theorem Jf.ax (h:Jf Λ bc C gv sv B ad w) (g:GB none w w'):Jf Λ bc C gv sv B ad w':=⟨h.ci.ax g,fun b o hb=>⟨g.get (h.pr b o hb).1 nofun,(h.pr b o hb).2⟩,g.os.trans h.os,g.out.trans h.out⟩
theorem Jf.step (h:Jf Λ bc C gv sv B ad w) (hn:C'.n=C.n) (hz:C'.sz=C.sz) (hc:CI w' bc gv dw C'.q C'.n C'.sz B jh C'.F) (ho:w'.os=w.os) (hu:w'.output=w.output) (hf:nZ C.n C.sz B bc w sv ad w' dw jh):r9 Λ bc C' w' :=
 ⟨gv,dw,B,jh,hc,fun b o hb=>by rw [hn,hz];exact hf b o (h.pr b o hb).1 (h.pr b o hb).2,ho.trans h.os,hu.trans h.out⟩
end
section
variable {A:bE} (HA:bW A) {Λ:bN} {w:World} {bc:Nat} {C:aW}
include HA
theorem Wn (h:r9 Λ bc C w) (hf:C.aN A) (g i:Nat) (hg:g<256) (hi:i<256):af Tryz.prog 53 #[.pointer (some ⟨bc,0,none⟩),.agg #[.int .u8 g,.int .u8 i]] w (fun v w'=>v=.int .i64 (if g<C.n∧i<C.sz then 0 else 6)∧r9 Λ bc (C.gL A g i) w'∧Kz w w'):=by
 obtain ⟨gv,sv,B,ad,h⟩:=h;refine af.mono' (SC HA h.ci hf.n hf.sz g i hg hi fun a b=>hf.ok g i a b) ?_;rintro v w1 ⟨rfl,⟨jh,h1,f1⟩,o1,u1,k1⟩;refine ⟨rfl,?_,k1⟩;unfold aW.gL;split
 ·rename_i c
  rw [if_pos c] at h1;exact h.step rfl rfl h1 o1 u1 f1
 ·rename_i c
  rw [if_neg c] at h1;exact h.step rfl rfl h1 o1 u1 f1
omit HA in
theorem PX (h:r9 Λ bc C w) (hn:C.n≤4) (hs:C.sz≤5) (g i:Nat) (hg:g<256) (hi:i<256) (d:ByteArray):af Tryz.prog 22 #[.pointer (some ⟨bc,0,none⟩),.agg #[.int .u8 g,.int .u8 i],.string d] w (fun v w'=>v=.tuple #[.int .i64 (if (g<C.n∧i<C.sz)∧¬ d.size > 1000 then (C.q.length:Int) else 0),.int .i64 (if g<C.n∧i<C.sz then (if d.size > 1000 then 2 else 0) else 6)]∧r9 Λ bc (C.send g i d) w'∧Kz w w'):=by
 obtain ⟨gv,sv,B,ad,h⟩:=h;refine af.mono' (SG h.ci hn hs g i hg hi d) ?_;rintro v w1 ⟨⟨dw,q',h1,f1,hc⟩,k1,o1,u1⟩;unfold aW.send;rcases hc with ⟨c,rfl,rfl⟩ | ⟨c,e,rfl,rfl⟩ | ⟨c,e,rfl,rfl⟩
 ·rw [if_neg (fun x=>c x.1),if_neg c,if_neg (fun x=>c x.1)]
  exact ⟨rfl,h.step rfl rfl h1 o1 u1 f1,k1⟩
 ·rw [if_neg (fun x=>x.2 e),if_pos c,if_pos e,if_neg (fun x=>x.2 e)]
  exact ⟨rfl,h.step rfl rfl h1 o1 u1 f1,k1⟩
 ·rw [if_pos ⟨c,e⟩,if_pos c,if_neg e,if_pos ⟨c,e⟩]
  exact ⟨rfl,h.step rfl rfl h1 o1 u1 f1,k1⟩
omit HA in
theorem PY {gv sv:Value} {B:Nat→Nat→Nat} {ad:Nat→Nat→fu} (h:Jf Λ bc C gv sv B ad w) {g i:Nat} (hg:g<C.n) (hi:i<C.sz) {f:FuncId} {fst cap:Array Value} {fn:Func}
 (hf : Tryz.prog.funcs[f]? = some fn) (hname : (fn.name == "runtime.NumGoroutine") = false) (hb : fn.body.isNone = false) {R' : MR} (hl : R'.out.length < 1000000)
 (DR:∀ w1,GB none w w1→af Tryz.prog f (fst++cap) w1 (fun _ w'=>Wk (rest w1 (B g i) (ad g i)) (B g i) R' w'∧Kz w1 w')) :
 gq Tryz.prog 47 #[.pointer (some ⟨bc,0,none⟩),.pointer (some ⟨B g i,0,none⟩),.func (.func f) fst cap] w (fun v w'=>v=.tuple #[]∧r9 Λ bc (C.done g i R') w'∧Kz w w'):=by
 intro K cF cs hk;exact Wm h.ci hg hi hf hname hb hl DR fun w4 dw jh h4 o4 u4 k4 f4=>hk _ w4 ⟨rfl,h.step rfl rfl h4 o4 u4 f4,k4⟩
theorem PZ (h:r9 Λ bc C w) (hf:C.aN A) (g i:Nat) (hg:g<256) (hi:i<256):gq Tryz.prog 34 #[.pointer (some ⟨bc,0,none⟩),.agg #[.int .u8 g,.int .u8 i]] w (fun v w'=>v=.int .i64 (if g<C.n∧i<C.sz then 0 else 6)∧r9 Λ bc (C.tick A g i) w'∧Kz w w'):=by
 obtain ⟨gv,sv,B,ad,h⟩:=h;refine rO au mixed Tryz.func34 rfl rfl ?_;intro w1 b1 m1 g1 l1;have h1:=h.ax g1;refine ⟨_,_,m1,[.int .u8 g,.int .u8 i],rfl,rfl,_,(find_ok h1.ci hf.n hf.sz g i hg hi).x,?_⟩;rintro _ w2 ⟨rfl,g2⟩;have h2:=h1.ax g2;have G:=g1.trans g2;unfold aW.tick;by_cases c:g<C.n∧i<C.sz
 ·rw [if_pos c,if_pos c,if_pos c]
  have o:=hf.ok g i c.1 c.2;have e:=hf.out g i c.1 c.2;have hl:=SL HA o;rw [e] at hl;refine ⟨_,PY h2 c.1 c.2 (f:=57) Tryz.func57 (by kernel_rfl) (by kernel_rfl) (R':=mD A (C.F g i)) (by simp only [List.length_nil] at hl;omega) (fun w3 g3=>af.mono' (Wh HA ((h2.ax g3).ci.enter c.1 c.2) o (by rw [e];exact Nat.zero_le _)) fun v w' hp=>hp.2),?_⟩;rintro _ w3 ⟨rfl,h3,k3⟩;exact ⟨rfl,h3,G.kz.trans k3⟩
 ·rw [if_neg c,if_neg c,if_neg c]
  exact ⟨rfl,⟨_,_,_,_,h2⟩,G.kz⟩
end
theorem Jg {P:Program} (E:kP P) {f:FuncId} {fn:Func} {c:Code} {args:List Value} {w:World} {Post:Value→World→Prop} (hf:P.funcs[f]? = some fn) (hb:fn.body=some c) (hn:Nat.ble args.length fn.ntmps=true) (h:@CS P (mg P) fn.ntmps c (zT E fn.results.toList Post) (uF args 0) w):gq P f args.toArray w Post :=
 fun K _cF _cs hk=>@NQ P (mg P) E _ _ _ _ _ _ hf hb hn h _ _ _ (@SX.mk P (mg P) true wV (XR P K) lT ⟨rfl,rfl,K,rfl⟩) _ fun _ v w' _ hl hp=>lT.back hl (hk v w' hp)
abbrev aQ (P:Program) (n:Nat) (c:Code) (K:Ex→Sg→World→Prop) (s:Sg) (w:World):Prop:=@CS P (mg P) n c K s w
section
variable {P:Program} {n:Nat} {c x y:Code} {K K':Ex→Sg→World→Prop} {s q:Sg} {w:World}
theorem aQ.of (E:kP P) (hm:P.follows .mixedOrders=true) (h:@tT P (mg P) E n c K s w):aQ P n c K s w:=@CS.of P (mg P) _ _ _ _ _ E hm h
theorem aQ.block {id:Nat} (h:aQ P n c (fun e s w=>K (Yg id e) s w) s w):aQ P n (.block id c) K s w:=@CS.block P (mg P) _ _ _ _ _ _ h
theorem aQ.loop (I:Nat→Sg→World→Prop) (h0:∃ m q,I m q w∧gJ q s) (h:∀ m s w,I m s w→aQ P n c (fun e s w=>Pt (∃ m' q,I m' q w∧gJ q s∧m'<m) (K e s w) e) s w):aQ P n (.loop c) K s w:=@CS.loop P (mg P) _ _ _ _ _ I h0 h
theorem aQ.cond {o:Operand} (t:Bool) (he:ev s o=some (.bool t)) (h:aQ P n (bif t then x else y) K s w):aQ P n (.cond o x y) K s w:=@CS.cond P (mg P) _ _ _ _ _ _ _ t he h
theorem aQ.piece {Q:Sg→World→Prop} (h:aQ P n x (YY Q) s w) (hy:∀ q w,Q q w→aQ P n y K q w):aQ P n (.seq x y) K s w:=@CS.piece P (mg P) _ _ _ _ _ _ _ h hy
theorem aQ.cut {Qn:Sg→World→Prop} {Qx:Nat→Sg→World→Prop} {Qr:Sg→World→Prop} (h:aQ P n x (Out Qn Qx Qr) s w) (hn:∀ q w,Qn q w→aQ P n y K q w) (hx:∀ j q s w,Qx j q w→gJ q s→K (.x j) s w) (hr:∀ q s w,Qr q w→gJ q s→K .r s w):aQ P n (.seq x y) K s w:=@CS.cut P (mg P) _ _ _ _ _ _ _ _ _ h hn hx hr
end
end
end Go.Proofs.YtignemioillaiabGreat
