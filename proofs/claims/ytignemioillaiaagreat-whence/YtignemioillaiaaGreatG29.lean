/- Contracts beside leavers; a cluster at work: what lies beside it; Tick, Deliver, Crash, Send. -/
import Derived.Test.YtignemioillaiaaGreatG28
namespace Go.Proofs.YtignemioillaiaaGreat
set_option maxHeartbeats 8000000
set_option maxRecDepth 100000
section
open Go Go.Conc
theorem ag.mono'{P:Program}{f:FuncId}{args:Array Value}{w:World}{Post Post':Value->World->Prop}(h:ag P f args w Post)(hp:∀v w',Post v w'->Post' v w'):ag P f args w Post':=λmain D X cs hX hk=>h main D X cs hX λfr v w' e1 e2 e3=>hk fr v w' e1 e2 (hp v w' e3)
def J7(A:aR)(n sz:Nat)(p:bH):Prop:=(0<=p.tg/\p.tg<256/\0<=p.tr/\p.tr<256)/\((p.fg=255/\p.fr=255)\/∃g i,g<n/\i<sz/\PG A g i n p)
structure aM.aK(A:aR)(C:aM):Prop where
 n:C.n<=4
 sz:C.sz<=5
 ok:∀g i,g<C.n->i<C.sz->Ok A (C.F g i)
 out:∀g i,g<C.n->i<C.sz->(C.F g i).out=[]
 at_:∀g i,g<C.n->i<C.sz->(C.F g i).sc.g=g/\(C.F g i).sc.i=i/\(C.F g i).sc.gs=C.n/\(C.F g i).sc.sz=C.sz
 sd:∀g i,g<C.n->i<C.sz->(C.F g i).st.n=C.n/\(C.F g i).st.g=g
 len:C.q.length<=20000
 net:∀p∈C.q,J7 A C.n C.sz p
theorem nH{α:Type}{n sz:Nat}{F:Nat->Nat->α}{P:Nat->Nat->α->Prop}(h:∀g i,g<n->i<sz->P g i (F g i)){g i:Nat}{r:α}(hr:P g i r):∀g' i',g'<n->i'<sz->P g' i' (fw F g i r g' i'):=λg' i' hg hi=>by
 by_cases e:g'=g/\i'=i
 ·obtain⟨rfl,rfl⟩:=e;rw[bL];exact hr
 ·rw[bz _ _ e];exact h g' i' hg hi
section
variable{A:aR}{C:aM}
theorem aM.aK.done(h:C.aK A){g i:Nat}(hg:g<C.n)(hi:i<C.sz){R':MR}(ho:Ok A R')(hx:Nx A (C.F g i) R'):(C.done g i R').aK A:=by
 obtain⟨a1,a2,a3,a4⟩:=h.at_ g i hg hi;obtain⟨e1,e2,e3,e4⟩:=hx.id;obtain⟨s1,s2⟩:=h.sd g i hg hi;refine⟨h.n,h.sz,nH (P:=λ_ _ (R:MR)=>Ok A R) h.ok ho.done,nH (P:=λ_ _ (R:MR)=>R.out=[]) h.out rfl,nH (P:=λg i (R:MR)=>R.sc.g=g/\R.sc.i=i/\R.sc.gs=C.n/\R.sc.sz=C.sz) h.at_ ⟨e1.trans a1,e2.trans a2,e3.trans a3,e4.trans a4⟩,nH (P:=λg i (R:MR)=>R.st.n=C.n/\R.st.g=g) h.sd ⟨hx.sd.1.trans s1,hx.sd.2.trans s2⟩,?_,λp hp=>?_⟩
 ·show(List.take 20000 _).length<=20000
  rw[List.length_take];omega
 ·rcases List.mem_append.1 (List.mem_of_mem_take hp)with q|q
  ·exact h.net p q
  ·rcases hx.ou p q with q|q
   ·rw[h.out g i hg hi]at q;cases q
   ·rw[a1,a2,a3]at q
    exact⟨q.2.2.1,.inr ⟨g,i,hg,hi,q⟩⟩
theorem aM.aK.dB(HA:bG A)(HN:dL A)(h:C.aK A)(g i:Nat):(C.dB A g i).aK A:=by
 unfold aM.dB;split
 ·rename_i c
  have o:=h.ok _ _ c.1 c.2;obtain⟨e1,e2⟩:=HN.QX _ _ o.i.2.1 o.i.2.2.1;obtain⟨a1,a2,a3,a4⟩:=h.at_ g i c.1 c.2;refine⟨h.n,h.sz,nH (P:=λ_ _ (R:MR)=>Ok A R) h.ok (o.start HA),nH (P:=λ_ _ (R:MR)=>R.out=[]) h.out (h.out _ _ c.1 c.2),nH (P:=λg i (R:MR)=>R.sc.g=g/\R.sc.i=i/\R.sc.gs=C.n/\R.sc.sz=C.sz) h.at_ (h.at_ _ _ c.1 c.2),nH (P:=λg i (R:MR)=>R.st.n=C.n/\R.st.g=g) h.sd ⟨?_,?_⟩,h.len,h.net⟩
  ·rw[a1,a3]at e1;rw[show(mStart A (C.F g i)).st=A.bg (C.F g i).sc.g (C.F g i).sc.gs from rfl,a1,a3];exact e1
  ·rw[a1,a3]at e2;rw[show(mStart A (C.F g i)).st=A.bg (C.F g i).sc.g (C.F g i).sc.gs from rfl,a1,a3];exact e2
 ·exact h
theorem aM.aK.tick(HA:bG A)(HN:dL A)(h:C.aK A)(g i:Nat):(C.tick A g i).aK A:=by
 unfold aM.tick;split
 ·rename_i c
  have o:=h.ok _ _ c.1 c.2;exact h.done c.1 c.2 (o.tick HA) (Nx.tick HA HN o ((h.sd g i c.1 c.2).2.trans (congrArg Int.ofNat (h.at_ g i c.1 c.2).1).symm))
 ·exact h
theorem aM.aK.send(h:C.aK A){g i:Nat}(hg:g<256)(hi:i<256)(d:ByteArray):(C.send g i d).aK A:=by
 unfold aM.send;split
 ·rename_i c
  refine⟨h.n,h.sz,h.ok,h.out,h.at_,h.sd,?_,λp hp=>?_⟩
  ·have:=h.len
   show(kN _ _).length<=_;unfold kN;split
   ·simp;omega
   ·exact this
  ·have hp:p∈kN C.q ⟨255,255,g,i,d⟩:=hp
   unfold kN at hp;split at hp
   ·rcases List.mem_append.1 hp with q|q
    ·exact h.net p q
    ·rw[List.mem_singleton]at q
     subst q;exact⟨⟨by show 0<=(g:Int);omega,by show(g:Int)<256;omega,by show 0<=(i:Int);omega,by show(i:Int)<256;omega⟩,.inl ⟨rfl,rfl⟩⟩
   ·exact h.net p hp
 ·exact h
theorem J7.gm(HN:dL A){n sz:Nat}{p:bH}(h:J7 A n sz p)(hz:sz<=5){R:MR}(ho:Ok A R)(hs:R.st.n=n):∀m,A.dec p.d=some m->¬((p.fg.toNat,p.fr.toNat).1=255/\m.kind≠1)->GM A R (p.fg.toNat,p.fr.toNat) m:=by
 intro m hd hn;obtain⟨b1,b2⟩:=HN.ask _ _ hd;obtain⟨l1,l2,l3⟩:=HN.lens _ ho.st;rcases h.2 with⟨c1,c2⟩|⟨g,i,hg,hi,c1,c2,c3,m0,e1,e2⟩
 ·have hk:m.kind=1:=Classical.byContradiction λe=>hn ⟨by show p.fg.toNat=255;rw[c1];rfl,e⟩
  exact⟨b1,b2,λe=>by omega,λe=>by omega,λe=>by omega,λe=>by omega,λe=>by omega,λe=>by omega⟩
 ·rw[e1]at hd
  have e2:=HN.back _ _ _ e2 hd;have f5:(p.fg.toNat,p.fr.toNat).2<5:=by show p.fr.toNat<5;omega
  exact⟨b1,λk=>(e2.k1 k).elim,λk=>⟨(e2.vs k).1,Nat.le_trans (e2.vs k).2 (by decide),f5⟩,e2.acc,λk=>⟨e2.qw k,f5⟩,e2.dec,λk=>⟨(e2.kZ k).1,by have:=(e2.kZ k).2.1;omega,(e2.kZ k).2.2⟩,λk=>⟨(e2.jo k).1,by have:=(e2.jo k).2.1;omega,(e2.jo k).2.2⟩⟩
theorem J7.f8{n sz:Nat}{p:bH}(h:J7 A n sz p)(hn:n<=4)(hz:sz<=5):(p.fg.toNat<256/\p.fr.toNat<256)/\p.fg=(p.fg.toNat:Int)/\p.fr=(p.fr.toNat:Int):=by
 rcases h.2 with⟨c1,c2⟩|⟨g,i,hg,hi,c1,c2,_⟩<;>omega
theorem aM.aK.jH(HA:bG A)(HN:dL A)(h:C.aK A)(k:Nat):(C.jH A k).aK A:=by
 unfold aM.jH;split
 ·exact h
 ·rename_i p hp
  have hm:=h.net p (List.mem_of_getElem? hp);split
  ·rename_i c
   have o:=h.ok _ _ c.1 c.2;have gm:=hm.gm HN h.sz o (h.sd _ _ c.1 c.2).1;exact h.done c.1 c.2 (o.take HA gm) (Nx.take HA HN o (hm.f8 h.n h.sz).1 gm)
  ·exact h
theorem aM.aK.new(HA:bG A)(HN:dL A){n sz:Nat}(hn:n<=4)(hN:n=A.N)(hz:sz<=5):(aM.new A n sz).aK A:=by
 refine⟨hn,hz,λg i hg hi=>Ok.new HA hg hn hN hi hz,λ_ _ _ _=>rfl,λ_ _ _ _=>⟨rfl,rfl,rfl,rfl⟩,λg i hg hi=>?_,Nat.zero_le _,λ_ h=>by cases h⟩;obtain⟨e1,e2⟩:=HN.QX g n hg hn;exact⟨e1,e2⟩
end
def gH(P:Program)(f:FuncId)(args:Array Value)(w:World)(Post:Value->World->Prop):Prop:=∀(K:Machine->Trace->Prop) (cF:Frame) (cs:List Frame),(∀v w',Post v w'->XR P K (G (cF.finish v) cs) w')->XR P K (G (Frame.enter P f args .normal) (cF::cs)) w
@[reducible] def oC (P:Program):kr P:=⟨gH P,λh hs K cF cs hk=>mE.rely hs (h K cF cs hk),λmain D X=>main=true/\D=xL/\∃K,X=XR P K,λ_ hφ=>λh hk=>by
 obtain⟨rfl,rfl,K,rfl⟩:=hφ;exact h K _ _ hk⟩
theorem ag.x{P:Program}{f:FuncId}{args:Array Value}{w:World}{Post:Value->World->Prop}(h:ag P f args w Post):gH P f args w Post:=λK cF cs hk=>h true xL (XR P K) (cF::cs) mE λ_ v w' _ hl hp=>mE.back hl (hk v w' hp)
theorem sK{P:Program}(E:lY P)(hm:P.follows .mixedOrders=true){f:FuncId}{fn:Func}{c:Code}{args:List Value}{w:World}{Post:Value->World->Prop}(hf:P.funcs[f]? = some fn)(hb:fn.body=some c)(hn:Nat.ble args.length fn.ntmps=true)(h:@uF P (oC P) E fn.ntmps c (AO E fn.results.toList Post) (vw args 0) w):gH P f args.toArray w Post :=
 λK _cF _cs hk=>@VJ P (oC P) E hm _ _ _ _ _ _ hf hb hn h _ _ _ (@SX.mk P (oC P) true xL (XR P K) mE ⟨rfl,rfl,K,rfl⟩) _ λ_ v w' _ hl hp=>mE.back hl (hk v w' hp)
structure J8(Λ:bU)(bc:Nat)(C:aM)(gv sv:Value)(B:Nat->Nat->Nat)(ad:Nat->Nat->fO)(w:World):Prop where
 ci:CI w bc gv sv C.q C.n C.sz B ad C.F
 pr:∀b o,Λ.pr b=some o->w.heap[b]? = some o/\¬mU C.n C.sz B bc sv ad b
 os:w.os=Λ.os
 out:w.output=Λ.out
def uw(Λ:bU)(bc:Nat)(C:aM)(w:World):Prop:=∃gv sv B ad,J8 Λ bc C gv sv B ad w
section
variable{Λ:bU}{w w':World}{bc:Nat}{C C':aM}{gv sv bX:Value}{B:Nat->Nat->Nat}{ad jF:Nat->Nat->fO}
theorem J8.ax(h:J8 Λ bc C gv sv B ad w)(g:GB none w w'):J8 Λ bc C gv sv B ad w':=⟨h.ci.ax g,λb o hb=>⟨g.get (h.pr b o hb).1 nofun,(h.pr b o hb).2⟩,g.os.trans h.os,g.out.trans h.out⟩
theorem J8.step(h:J8 Λ bc C gv sv B ad w)(hn:C'.n=C.n)(hz:C'.sz=C.sz)(hc:CI w' bc gv bX C'.q C'.n C'.sz B jF C'.F)(ho:w'.os=w.os)(hu:w'.output=w.output)(hf:oQ C.n C.sz B bc w sv ad w' bX jF):uw Λ bc C' w' :=
 ⟨gv,bX,B,jF,hc,λb o hb=>by rw[hn,hz];exact hf b o (h.pr b o hb).1 (h.pr b o hb).2,ho.trans h.os,hu.trans h.out⟩
end
section
variable{A:aR}(HA:bG A){Λ:bU}{w:World}{bc:Nat}{C:aM}
include HA
theorem XK(h:uw Λ bc C w)(hf:C.aK A)(g i:Nat)(hg:g<256)(hi:i<256):ag Tryz.prog 21 #[Ptt bc,.agg #[.int .u8 g,.int .u8 i]] w (λv w'=>v=.int .i64 (if g<C.n/\i<C.sz then 0 else 6)/\uw Λ bc (C.dB A g i) w'/\Kz w w'):=by
 obtain⟨gv,sv,B,ad,h⟩:=h;refine ag.mono' (Uk HA h.ci hf.n hf.sz g i hg hi λa b=>hf.ok g i a b) ?_;rintro v w1 ⟨rfl,⟨jF,h1,f1⟩,o1,u1,k1⟩;refine⟨rfl,?_,k1⟩;unfold aM.dB;split
 ·rename_i c
  rw[if_pos c]at h1;exact h.step rfl rfl h1 o1 u1 f1
 ·rename_i c
  rw[if_neg c]at h1;exact h.step rfl rfl h1 o1 u1 f1
omit HA in
theorem QY(h:uw Λ bc C w)(hn:C.n<=4)(hs:C.sz<=5)(g i:Nat)(hg:g<256)(hi:i<256)(d:ByteArray):ag Tryz.prog 23 #[Ptt bc,.agg #[.int .u8 g,.int .u8 i],.string d] w (λv w'=>v=.tuple #[.int .i64 (if(g<C.n/\i<C.sz)/\¬d.size > 1000 then(C.q.length:Int)else 0),.int .i64 (if g<C.n/\i<C.sz then(if d.size > 1000 then 2 else 0)else 6)]/\uw Λ bc (C.send g i d) w'/\Kz w w'):=by
 obtain⟨gv,sv,B,ad,h⟩:=h;refine ag.mono' (Un h.ci hn hs g i hg hi d) ?_;rintro v w1 ⟨⟨bX,q',h1,f1,hc⟩,k1,o1,u1⟩;unfold aM.send;rcases hc with⟨c,rfl,rfl⟩|⟨c,e,rfl,rfl⟩|⟨c,e,rfl,rfl⟩
 ·rw[if_neg (λx=>c x.1),if_neg c,if_neg (λx=>c x.1)]
  exact⟨rfl,h.step rfl rfl h1 o1 u1 f1,k1⟩
 ·rw[if_neg (λx=>x.2 e),if_pos c,if_pos e,if_neg (λx=>x.2 e)]
  exact⟨rfl,h.step rfl rfl h1 o1 u1 f1,k1⟩
 ·rw[if_pos ⟨c,e⟩,if_pos c,if_neg e,if_pos ⟨c,e⟩]
  exact⟨rfl,h.step rfl rfl h1 o1 u1 f1,k1⟩
omit HA in
theorem QZ{gv sv:Value}{B:Nat->Nat->Nat}{ad:Nat->Nat->fO}(h:J8 Λ bc C gv sv B ad w){g i:Nat}(hg:g<C.n)(hi:i<C.sz){f:FuncId}{fst cap:Array Value}{fn:Func}
 (hf : Tryz.prog.funcs[f]? = some fn) (hname : (fn.name == "runtime.NumGoroutine") = false) (hb : fn.body.isNone = false) {R' : MR} (hl : R'.out.length < 1000000)
 (Ez:∀w1,GB none w w1->ag Tryz.prog f (fst++cap) w1 (λ_ w'=>Wk (rest w1 (B g i) (ad g i)) (B g i) R' w'/\Kz w1 w')) :
 gH Tryz.prog 59 #[Ptt bc,.pointer (some ⟨B g i,0,none⟩),.func (.func f) fst cap] w (λv w'=>v=.tuple #[]/\uw Λ bc (C.done g i R') w'/\Kz w w'):=by
 intro K cF cs hk;exact XJ h.ci hg hi hf hname hb hl Ez λw4 bX jF h4 o4 u4 k4 f4=>hk _ w4 ⟨rfl,h.step rfl rfl h4 o4 u4 f4,k4⟩
theorem Q0(h:uw Λ bc C w)(hf:C.aK A)(g i:Nat)(hg:g<256)(hi:i<256):gH Tryz.prog 20 #[Ptt bc,.agg #[.int .u8 g,.int .u8 i]] w (λv w'=>v=.int .i64 (if g<C.n/\i<C.sz then 0 else 6)/\uw Λ bc (C.tick A g i) w'/\Kz w w'):=by
 obtain⟨gv,sv,B,ad,h⟩:=h;refine sK ah mixed Tryz.func20 rfl rfl ?_;intro w1 b1 m1 g1 l1;have h1:=h.ax g1;refine⟨_,_,m1,[.int .u8 g,.int .u8 i],rfl,rfl,_,(find_ok h1.ci hf.n hf.sz g i hg hi).x,?_⟩;rintro _ w2 ⟨rfl,g2⟩;have h2:=h1.ax g2;have G:=g1.trans g2;unfold aM.tick;by_cases c:g<C.n/\i<C.sz
 ·rw[if_pos c,if_pos c,if_pos c]
  have o:=hf.ok g i c.1 c.2;have e:=hf.out g i c.1 c.2;have hl:=Ur HA o;rw[e]at hl;refine⟨_,QZ h2 c.1 c.2 (f:=60) Tryz.func60 (by kernel_rfl) (by kernel_rfl) (R':=lS A (C.F g i)) (by simp only[List.length_nil]at hl;omega) (λw3 g3=>ag.mono' (XG HA ((h2.ax g3).ci.enter c.1 c.2) o (by rw[e];exact Nat.zero_le _)) λv w' hp=>hp.2),?_⟩;rintro _ w3 ⟨rfl,h3,k3⟩;exact⟨rfl,h3,G.kz.trans k3⟩
 ·rw[if_neg c,if_neg c,if_neg c]
  exact⟨rfl,⟨_,_,_,_,h2⟩,G.kz⟩
end
theorem EU{P:Program}(E:lY P){f:FuncId}{fn:Func}{c:Code}{args:List Value}{w:World}{Post:Value->World->Prop}(hf:P.funcs[f]? = some fn)(hb:fn.body=some c)(hn:Nat.ble args.length fn.ntmps=true)(h:@CS P (oC P) fn.ntmps c (AO E fn.results.toList Post) (vw args 0) w):gH P f args.toArray w Post :=
 λK _cF _cs hk=>@OQ P (oC P) E _ _ _ _ _ _ hf hb hn h _ _ _ (@SX.mk P (oC P) true xL (XR P K) mE ⟨rfl,rfl,K,rfl⟩) _ λ_ v w' _ hl hp=>mE.back hl (hk v w' hp)
abbrev aN(P:Program)(n:Nat)(c:Code)(K:Ex->Sg->World->Prop)(s:Sg)(w:World):Prop:=@CS P (oC P) n c K s w
section
variable{P:Program}{n:Nat}{c x y:Code}{K K':Ex->Sg->World->Prop}{s q:Sg}{w:World}
theorem aN.of(E:lY P)(hm:P.follows .mixedOrders=true)(h:@uF P (oC P) E n c K s w):aN P n c K s w:=@CS.of P (oC P) _ _ _ _ _ E hm h
theorem aN.block{id:Nat}(h:aN P n c (λe s w=>K (Zu id e) s w) s w):aN P n (.block id c) K s w:=@CS.block P (oC P) _ _ _ _ _ _ h
theorem aN.loop(I:Nat->Sg->World->Prop)(h0:∃m q,I m q w/\ik q s)(h:∀m s w,I m s w->aN P n c (λe s w=>QC (∃m' q,I m' q w/\ik q s/\m'<m) (K e s w) e) s w):aN P n (.loop c) K s w:=@CS.loop P (oC P) _ _ _ _ _ I h0 h
theorem aN.cond{o:Operand}(t:Bool)(he:ev s o=some (.bool t))(h:aN P n (bif t then x else y) K s w):aN P n (.cond o x y) K s w:=@CS.cond P (oC P) _ _ _ _ _ _ _ t he h
theorem aN.piece{Q:Sg->World->Prop}(h:aN P n x (ZL Q) s w)(hy:∀q w,Q q w->aN P n y K q w):aN P n (.seq x y) K s w:=@CS.piece P (oC P) _ _ _ _ _ _ _ h hy
theorem aN.cut{Qn:Sg->World->Prop}{Qx:Nat->Sg->World->Prop}{Qr:Sg->World->Prop}(h:aN P n x (Out Qn Qx Qr) s w)(hn:∀q w,Qn q w->aN P n y K q w)(hx:∀j q s w,Qx j q w->ik q s->K (.x j) s w)(hr:∀q s w,Qr q w->ik q s->K .r s w):aN P n (.seq x y) K s w:=@CS.cut P (oC P) _ _ _ _ _ _ _ _ _ h hn hx hr
end
def kT(c s:Int):Bool:=decide (c<4) && decide (1<=s)
def kJ(q:bQ):Bool:=kT q.c q.s && (if q.k=1\/q.k=3 then q.v == 0 && (q.hi == 0 && q.to == 0)else if q.k=2 then q.hi == 0 && q.to == 0 else if q.k=4 then decide (q.key<=q.hi) && (decide (q.to<4) && q.v == 0)else false)
def uy(p:aB):Bool:=kT p.c p.s && (if p.k=1 then(p.found || p.v == 0) && p.g == 0 else if p.k=3 then decide (p.g<4) && (!p.found && p.v == 0)else if p.k=2\/p.k=4\/p.k=5 then !p.found && (p.v == 0 && p.g == 0)else false)
theorem jM(w:World)(c s:Int):ag Tryz.prog 132 #[.int .u8 c,.int .u32 s] w (λv w'=>v=.bool (kT c s)/\w'=w):=by
 refine aj ah mixed Tryz.func132 rfl rfl ?_;refine au (λd=>?_) (λd=>?_)
 ·exact⟨congrArg Value.bool (by grind [kT]),rfl⟩
 ·exact⟨congrArg Value.bool (by grind [kT]),rfl⟩
theorem pV(w:World)(g:Int):ag Tryz.prog 133 #[.int .u8 g] w (λv w'=>v=.bool (decide (g<4))/\w'=w):=by
 refine aj ah mixed Tryz.func133 rfl rfl ?_;exact⟨rfl,rfl⟩
theorem IB(w:World)(k:Int):ag Tryz.prog 184 #[.int .u8 k] w (λv w'=>v=.bool (kept k)/\w'=w):=by
 refine aj ah mixed Tryz.func184 rfl rfl ?_;refine au (λd=>?_) (λd=>?_)
 ·refine au (λe=>?_) (λe=>?_)
  ·exact⟨congrArg Value.bool (by simp at d e;simp[kept,d,e]),rfl⟩
  ·exact⟨congrArg Value.bool (by simp at d e;simp[kept,e]),rfl⟩
 ·exact⟨congrArg Value.bool (by simp at d;simp[kept,d]),rfl⟩
theorem Ht(w:World)(r:Rg)(rv dv:Value)(k:Int):ag Tryz.prog 182 #[.agg (dP r rv dv).toArray,.int .u64 k] w (λv w'=>v=.bool (decide (r.lo<=k) && decide (k<=r.hi))/\GB none w w'):=by
 refine aj ah mixed Tryz.func182 rfl rfl ?_;refine λw1 b1 m1 g1 l1=>⟨_,_,m1,_,rfl,?_⟩
 refine au (λd=>?_) (λd=>?_)
 ·exact⟨_,_,m1,_,rfl,congrArg Value.bool (by grind),g1⟩
 ·exact⟨congrArg Value.bool (by grind),g1⟩
theorem Uu(w:World)(a b:aB):ag Tryz.prog 185 #[.agg a.cells.toArray,.agg b.cells.toArray] w (λv w'=>v=.bool (ahead a b)/\GB none w w'):=by
 refine aj ah mixed Tryz.func185 rfl rfl ?_;refine λw1 b1 m1 g1 l1 w2 b2 m2 g2 l2=>?_
 have m1:=g2.get m1 nofun;have g:=g1.trans g2;refine⟨_,_,m1,_,rfl,_,_,m2,_,rfl,?_⟩;refine au (λd=>?_) (λd=>?_)
 ·refine⟨_,_,m1,_,rfl,_,_,m2,_,rfl,?_⟩
  refine au (λe=>?_) (λe=>?_)
  ·exact⟨_,_,m1,_,rfl,_,_,m2,_,rfl,congrArg Value.bool (by simp at d e;simp[ahead,e]),g⟩
  ·exact⟨congrArg Value.bool (by simp at d e;simp[ahead,e];omega),g⟩
 ·exact⟨congrArg Value.bool (by simp at d;simp[ahead,d]),g⟩
theorem Q3(w:World)(c s key v hi to:Int):ag Tryz.prog 82 #[.agg (bQ.cells ⟨c,s,4,key,v,hi,to⟩).toArray] w (λx w'=>x=.bool (kJ ⟨c,s,4,key,v,hi,to⟩)/\GB none w w'):=by
 refine tL ah Tryz.func82 rfl rfl ?_;refine CS.piece (Q:=λq w'=>∃b1,q=[(1,Ptt b1)]/\w'.heap[b1]? = some (.cells (bQ.cells ⟨c,s,4,key,v,hi,to⟩).toArray 50)/\GB none w w'/\w.heap.size<=b1) (CS.of ah mixed (λw1 b1 m1 g1 l1=>⟨_,by exact⟨rfl,trivial⟩,b1,rfl,m1,g1,l1⟩)) ?_;rintro q w1 ⟨b1,rfl,m1,g1,l1⟩;refine CS.piece (Q:=λq w'=>q=[(1,Ptt b1),(3,.bool (kT c s))]/\w'=w1) (CS.of ah mixed ?_) ?_
 ·refine⟨_,_,m1,_,rfl,_,_,m1,_,rfl,_,jM _ _ _,?_⟩
  rintro _ w1 ⟨rfl,rfl⟩;exact⟨_,by exact⟨rfl,rfl,trivial⟩,rfl,rfl⟩
 rintro q w1 ⟨rfl,rfl⟩;refine CS.piece (Q:=λq w'=>∃a,q=[(1,Ptt b1),(3,.bool a)]/\a=(kT c s && (decide (key<=hi) && decide (to<4)))/\w'.heap[b1]? = some (.cells (bQ.cells ⟨c,s,4,key,v,0,0⟩).toArray 50)/\GB none w w') (CS.of ah mixed ?_) ?_
 ·refine⟨_,_,m1,_,rfl,?_⟩
  generalize kT c s=a;cases a
  ·refine⟨_,_,_,m1,rfl,rfl,λw2 m2 g2=>⟨_,_,_,m2,rfl,rfl,λw3 m3 g3=>?_⟩⟩
   exact⟨_,by exact⟨rfl,rfl,trivial⟩,_,rfl,rfl,m3,(g1.new g2 l1).new g3 l1⟩
  ·refine⟨_,_,m1,_,rfl,_,_,m1,_,rfl,?_⟩
   refine au (λd=>?_) (λd=>?_)
   ·refine⟨_,_,m1,_,rfl,_,pV _ _,?_⟩
    rintro _ w1 ⟨rfl,rfl⟩;refine⟨_,_,_,m1,rfl,rfl,λw2 m2 g2=>⟨_,_,_,m2,rfl,rfl,λw3 m3 g3=>?_⟩⟩;exact⟨_,by exact⟨rfl,rfl,trivial⟩,_,rfl,by simp at d;simp[d],m3,(g1.new g2 l1).new g3 l1⟩
   ·refine⟨_,_,_,m1,rfl,rfl,λw2 m2 g2=>⟨_,_,_,m2,rfl,rfl,λw3 m3 g3=>?_⟩⟩
    exact⟨_,by exact⟨rfl,rfl,trivial⟩,_,rfl,by simp at d;simp[Int.not_le.2 d],m3,(g1.new g2 l1).new g3 l1⟩
 rintro q w3 ⟨_,rfl,rfl,m3,g⟩;have e:kJ ⟨c,s,4,key,v,hi,to⟩=((kT c s && (decide (key<=hi) && decide (to<4))) && v == 0):=by simp[kJ,Bool.and_assoc]
 rw[e];generalize (kT c s && (decide (key<=hi) && decide (to<4)))=a;refine CS.of ah mixed ?_;cases a
 ·exact⟨rfl,g⟩
 ·refine⟨_,_,m3,_,rfl,?_⟩
  refine au (λd=>?_) (λd=>?_)
  ·exact⟨_,_,m3,_,rfl,_,_,m3,_,rfl,congrArg Value.bool (by grind),g⟩
  ·exact⟨congrArg Value.bool (by grind),g⟩
theorem y7(w:World)(q:bQ):ag Tryz.prog 82 #[.agg q.cells.toArray] w (λv w'=>v=.bool (kJ q)/\GB none w w'):=by
 obtain⟨c,s,k,key,v,hi,to⟩:=q;by_cases k1:k=1
 ·subst k1
  refine aj ah mixed Tryz.func82 rfl rfl ?_;refine λw1 b1 m1 g1 l1=>⟨_,_,m1,_,rfl,_,_,m1,_,rfl,_,jM _ _ _,?_⟩
  rintro _ w1 ⟨rfl,rfl⟩;simp only[kJ];generalize kT c s=a;refine⟨_,_,m1,_,rfl,?_⟩;cases a
  ·exact⟨congrArg Value.bool (by grind),g1⟩
  ·refine⟨_,_,m1,_,rfl,?_⟩
   refine au (λc0=>?_) (λc0=>?_)
   ·refine⟨_,_,m1,_,rfl,?_⟩
    refine au (λc1=>?_) (λc1=>?_)
    ·refine⟨_,_,m1,_,rfl,?_⟩
     exact⟨congrArg Value.bool (by grind),g1⟩
    ·exact⟨congrArg Value.bool (by grind),g1⟩
   ·exact⟨congrArg Value.bool (by grind),g1⟩
 by_cases k3:k=3
 ·subst k3
  refine aj ah mixed Tryz.func82 rfl rfl ?_;refine λw1 b1 m1 g1 l1=>⟨_,_,m1,_,rfl,_,_,m1,_,rfl,_,jM _ _ _,?_⟩
  rintro _ w1 ⟨rfl,rfl⟩;simp only[kJ];generalize kT c s=a;refine⟨_,_,m1,_,rfl,?_⟩;cases a
  ·exact⟨congrArg Value.bool (by grind),g1⟩
  ·refine⟨_,_,m1,_,rfl,?_⟩
   refine au (λc0=>?_) (λc0=>?_)
   ·refine⟨_,_,m1,_,rfl,?_⟩
    refine au (λc1=>?_) (λc1=>?_)
    ·refine⟨_,_,m1,_,rfl,?_⟩
     exact⟨congrArg Value.bool (by grind),g1⟩
    ·exact⟨congrArg Value.bool (by grind),g1⟩
   ·exact⟨congrArg Value.bool (by grind),g1⟩
 by_cases k2:k=2
 ·subst k2
  refine aj ah mixed Tryz.func82 rfl rfl ?_;refine λw1 b1 m1 g1 l1=>⟨_,_,m1,_,rfl,_,_,m1,_,rfl,_,jM _ _ _,?_⟩
  rintro _ w1 ⟨rfl,rfl⟩;simp only[kJ];generalize kT c s=a;refine⟨_,_,m1,_,rfl,?_⟩;cases a
  ·refine⟨_,_,_,m1,rfl,rfl,λw2 m2 g2=>?_⟩
   have g:=g1.new g2 l1;exact⟨congrArg Value.bool (by grind),g⟩
  ·refine⟨_,_,_,m1,rfl,rfl,λw2 m2 g2=>?_⟩
   have g:=g1.new g2 l1;refine⟨_,_,m2,_,rfl,?_⟩;refine⟨_,_,m2,_,rfl,?_⟩;refine au (λc0=>?_) (λc0=>?_)
   ·refine⟨_,_,m2,_,rfl,?_⟩
    exact⟨congrArg Value.bool (by grind),g⟩
   ·exact⟨congrArg Value.bool (by grind),g⟩
 by_cases k4:k=4
 ·subst k4
  exact Q3 w c s key v hi to
 refine aj ah mixed Tryz.func82 rfl rfl ?_;refine λw1 b1 m1 g1 l1=>⟨_,_,m1,_,rfl,_,_,m1,_,rfl,_,jM _ _ _,?_⟩
 rintro _ w1 ⟨rfl,rfl⟩;refine⟨_,_,m1,_,rfl,?_⟩;refine au (λe=>absurd (by simpa using e) k1) (λ_=>?_);refine au (λe=>absurd (by simpa using e) k3) (λ_=>?_);refine au (λe=>absurd (by simpa using e) k2) (λ_=>?_);refine au (λe=>absurd (by simpa using e) k4) (λ_=>?_);exact⟨congrArg Value.bool (by grind [kJ]),g1⟩
theorem J9(w:World)(p:aB):ag Tryz.prog 183 #[.agg p.cells.toArray] w (λv w'=>v=.bool (uy p)/\GB none w w'):=by
 obtain⟨c,s,key,k,found,v,g⟩:=p;by_cases k1:k=1
 ·subst k1
  refine aj ah mixed Tryz.func183 rfl rfl ?_;refine λw1 b1 m1 g1 l1=>⟨_,_,m1,_,rfl,_,_,m1,_,rfl,_,jM _ _ _,?_⟩
  rintro _ w1 ⟨rfl,rfl⟩;simp only[uy];generalize kT c s=a;refine⟨_,_,m1,_,rfl,?_⟩;cases a
  ·cases found
   ·refine⟨_,_,_,m1,rfl,rfl,λw2 m2 g2=>⟨_,_,_,m2,rfl,rfl,λw3 m3 g3=>?_⟩⟩
    have g9:=(g1.new g2 l1).new g3 l1;exact⟨congrArg Value.bool (by grind),g9⟩
   ·refine⟨_,_,_,m1,rfl,rfl,λw2 m2 g2=>⟨_,_,_,m2,rfl,rfl,λw3 m3 g3=>?_⟩⟩
    have g9:=(g1.new g2 l1).new g3 l1;exact⟨congrArg Value.bool (by grind),g9⟩
  ·cases found
   ·refine⟨_,_,m1,_,rfl,?_⟩
    refine⟨_,_,m1,_,rfl,?_⟩;refine⟨_,_,_,m1,rfl,rfl,λw2 m2 g2=>⟨_,_,_,m2,rfl,rfl,λw3 m3 g3=>?_⟩⟩;have g9:=(g1.new g2 l1).new g3 l1;refine au (λc0=>?_) (λc0=>?_)
    ·refine⟨_,_,m3,_,rfl,?_⟩
     refine⟨_,_,m3,_,rfl,?_⟩;refine⟨_,_,m3,_,rfl,?_⟩;exact⟨congrArg Value.bool (by grind),g9⟩
    ·exact⟨congrArg Value.bool (by grind),g9⟩
   ·refine⟨_,_,m1,_,rfl,?_⟩
    refine⟨_,_,_,m1,rfl,rfl,λw2 m2 g2=>⟨_,_,_,m2,rfl,rfl,λw3 m3 g3=>?_⟩⟩;have g9:=(g1.new g2 l1).new g3 l1;refine⟨_,_,m3,_,rfl,?_⟩;refine⟨_,_,m3,_,rfl,?_⟩;refine⟨_,_,m3,_,rfl,?_⟩;exact⟨congrArg Value.bool (by grind),g9⟩
 by_cases k3:k=3
 ·subst k3
  refine aj ah mixed Tryz.func183 rfl rfl ?_;refine λw1 b1 m1 g1 l1=>⟨_,_,m1,_,rfl,_,_,m1,_,rfl,_,jM _ _ _,?_⟩
  rintro _ w1 ⟨rfl,rfl⟩;simp only[uy];generalize kT c s=a;refine⟨_,_,m1,_,rfl,?_⟩;cases a
  ·cases found
   ·refine⟨_,_,_,m1,rfl,rfl,λw2 m2 g2=>?_⟩
    have g9:=g1.new g2 l1;exact⟨congrArg Value.bool (by grind),g9⟩
   ·refine⟨_,_,_,m1,rfl,rfl,λw2 m2 g2=>?_⟩
    have g9:=g1.new g2 l1;exact⟨congrArg Value.bool (by grind),g9⟩
  ·cases found
   ·refine⟨_,_,m1,_,rfl,?_⟩
    refine⟨_,pV _ _,?_⟩;rintro _ w1 ⟨rfl,rfl⟩;refine⟨_,_,_,m1,rfl,rfl,λw2 m2 g2=>?_⟩;have g9:=g1.new g2 l1;refine au (λc0=>?_) (λc0=>?_)
    ·refine⟨_,_,m2,_,rfl,?_⟩
     refine⟨_,_,m2,_,rfl,?_⟩;refine au (λc1=>?_) (λc1=>?_)
     ·refine⟨_,_,m2,_,rfl,?_⟩
      exact⟨congrArg Value.bool (by grind),g9⟩
     ·exact⟨congrArg Value.bool (by grind),g9⟩
    ·exact⟨congrArg Value.bool (by grind),g9⟩
   ·refine⟨_,_,m1,_,rfl,?_⟩
    refine⟨_,pV _ _,?_⟩;rintro _ w1 ⟨rfl,rfl⟩;refine⟨_,_,_,m1,rfl,rfl,λw2 m2 g2=>?_⟩;have g9:=g1.new g2 l1;refine au (λc0=>?_) (λc0=>?_)
    ·refine⟨_,_,m2,_,rfl,?_⟩
     exact⟨congrArg Value.bool (by grind),g9⟩
    ·exact⟨congrArg Value.bool (by grind),g9⟩
 by_cases k2:k=2
 ·subst k2
  refine aj ah mixed Tryz.func183 rfl rfl ?_;refine λw1 b1 m1 g1 l1=>⟨_,_,m1,_,rfl,_,_,m1,_,rfl,_,jM _ _ _,?_⟩
  rintro _ w1 ⟨rfl,rfl⟩;simp only[uy];generalize kT c s=a;refine⟨_,_,m1,_,rfl,?_⟩;cases a
  ·cases found
   ·exact⟨congrArg Value.bool (by grind),g1⟩
   ·exact⟨congrArg Value.bool (by grind),g1⟩
  ·cases found
   ·refine⟨_,_,m1,_,rfl,?_⟩
    refine⟨_,_,m1,_,rfl,?_⟩;refine au (λc0=>?_) (λc0=>?_)
    ·refine⟨_,_,m1,_,rfl,?_⟩
     exact⟨congrArg Value.bool (by grind),g1⟩
    ·exact⟨congrArg Value.bool (by grind),g1⟩
   ·refine⟨_,_,m1,_,rfl,?_⟩
    exact⟨congrArg Value.bool (by grind),g1⟩
 by_cases k4:k=4
 ·subst k4
  refine aj ah mixed Tryz.func183 rfl rfl ?_;refine λw1 b1 m1 g1 l1=>⟨_,_,m1,_,rfl,_,_,m1,_,rfl,_,jM _ _ _,?_⟩
  rintro _ w1 ⟨rfl,rfl⟩;simp only[uy];generalize kT c s=a;refine⟨_,_,m1,_,rfl,?_⟩;cases a
  ·cases found
   ·exact⟨congrArg Value.bool (by grind),g1⟩
   ·exact⟨congrArg Value.bool (by grind),g1⟩
  ·cases found
   ·refine⟨_,_,m1,_,rfl,?_⟩
    refine⟨_,_,m1,_,rfl,?_⟩;refine au (λc0=>?_) (λc0=>?_)
    ·refine⟨_,_,m1,_,rfl,?_⟩
     exact⟨congrArg Value.bool (by grind),g1⟩
    ·exact⟨congrArg Value.bool (by grind),g1⟩
   ·refine⟨_,_,m1,_,rfl,?_⟩
    exact⟨congrArg Value.bool (by grind),g1⟩
 by_cases k5:k=5
 ·subst k5
  refine aj ah mixed Tryz.func183 rfl rfl ?_;refine λw1 b1 m1 g1 l1=>⟨_,_,m1,_,rfl,_,_,m1,_,rfl,_,jM _ _ _,?_⟩
  rintro _ w1 ⟨rfl,rfl⟩;simp only[uy];generalize kT c s=a;refine⟨_,_,m1,_,rfl,?_⟩;cases a
  ·cases found
   ·exact⟨congrArg Value.bool (by grind),g1⟩
   ·exact⟨congrArg Value.bool (by grind),g1⟩
  ·cases found
   ·refine⟨_,_,m1,_,rfl,?_⟩
    refine⟨_,_,m1,_,rfl,?_⟩;refine au (λc0=>?_) (λc0=>?_)
    ·refine⟨_,_,m1,_,rfl,?_⟩
     exact⟨congrArg Value.bool (by grind),g1⟩
    ·exact⟨congrArg Value.bool (by grind),g1⟩
   ·refine⟨_,_,m1,_,rfl,?_⟩
    exact⟨congrArg Value.bool (by grind),g1⟩
 refine aj ah mixed Tryz.func183 rfl rfl ?_;refine λw1 b1 m1 g1 l1=>⟨_,_,m1,_,rfl,_,_,m1,_,rfl,_,jM _ _ _,?_⟩
 rintro _ w1 ⟨rfl,rfl⟩;refine⟨_,_,m1,_,rfl,?_⟩;refine au (λe=>absurd (by simpa using e) k1) (λ_=>?_);refine au (λe=>absurd (by simpa using e) k3) (λ_=>?_);refine au (λe=>absurd (by simpa using e) k2) (λ_=>?_);refine au (λe=>absurd (by simpa using e) k4) (λ_=>?_);refine au (λe=>absurd (by simpa using e) k5) (λ_=>?_);exact⟨congrArg Value.bool (by grind [uy]),g1⟩
end
