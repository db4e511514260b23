/- Lemmas. -/
import Derived.Test.YtignemioillaiaaGreatG28
namespace Go.Proofs.YtignemioillaiaaGreat
set_option maxHeartbeats 8000000
set_option maxRecDepth 100000
open List
section
open Go Go.Conc
theorem ag.mono'{P:Program}{f:FuncId}{args:Array Value}{w:World}{Post Post':Value->World->Prop}(h:ag P f args w Post)(hp:∀v w',Post v w'->Post' v w'):ag P f args w Post':=λmain D X cs hX hk=>h main D X cs hX λfr v w' e1 e2 e3=>hk fr v w' e1 e2 (hp v w' e3)
def KC(A:aO)(n sz:Nat)(p:bJ):Prop:=(0<=p.tg/\p.tg<256/\0<=p.tr/\p.tr<256)/\((p.fg=255/\p.fr=255)\/∃g i,g<n/\i<sz/\PG A g i n p)
structure aL.aJ(A:aO)(C:aL):Prop where
 n:C.n<=4
 sz:C.sz<=5
 ok:∀g i,g<C.n->i<C.sz->Ok A (C.F g i)
 out:∀g i,g<C.n->i<C.sz->(C.F g i).out=[]
 at_:∀g i,g<C.n->i<C.sz->(C.F g i).sc.g=g/\(C.F g i).sc.i=i/\(C.F g i).sc.gs=C.n/\(C.F g i).sc.sz=C.sz
 sd:∀g i,g<C.n->i<C.sz->(C.F g i).st.n=C.n/\(C.F g i).st.g=g
 len:C.q.length<=20000
 net:∀p∈C.q,KC A C.n C.sz p
theorem nS{α:Type}{n sz:Nat}{F:Nat->Nat->α}{P:Nat->Nat->α->Prop}(h:∀g i,g<n->i<sz->P g i (F g i)){g i:Nat}{r:α}(hr:P g i r):∀g' i',g'<n->i'<sz->P g' i' (fH F g i r g' i'):=λg' i' hg hi=>by
 by_cases e:g'=g/\i'=i
 ·obtain⟨rfl,rfl⟩:=e;rw[bL];exact hr
 ·rw[bf _ _ e];exact h g' i' hg hi
section
variable{A:aO}{C:aL}
theorem aL.aJ.done(h:C.aJ A){g i:Nat}(hg:g<C.n)(hi:i<C.sz){R':MR}(ho:Ok A R')(hx:Nx A (C.F g i) R'):(C.done g i R').aJ A:=by
 obtain⟨a1,a2,a3,a4⟩:=h.at_ g i hg hi;obtain⟨e1,e2,e3,e4⟩:=hx.id;obtain⟨s1,s2⟩:=h.sd g i hg hi;refine⟨h.n,h.sz,nS (P:=λ_ _ (R:MR)=>Ok A R) h.ok ho.done,nS (P:=λ_ _ (R:MR)=>R.out=[]) h.out rfl,nS (P:=λg i (R:MR)=>R.sc.g=g/\R.sc.i=i/\R.sc.gs=C.n/\R.sc.sz=C.sz) h.at_ ⟨e1.trans a1,e2.trans a2,e3.trans a3,e4.trans a4⟩,nS (P:=λg i (R:MR)=>R.st.n=C.n/\R.st.g=g) h.sd ⟨hx.sd.1.trans s1,hx.sd.2.trans s2⟩,?_,λp hp=>?_⟩
 ·show(List.take 20000 _).length<=20000
  rw[length_take];omega
 ·rcases mem_append.1 (mem_of_mem_take hp)with q|q
  ·exact h.net p q
  ·rcases hx.ou p q with q|q
   ·rw[h.out g i hg hi]at q;cases q
   ·rw[a1,a2,a3]at q
    exact⟨q.2.2.1,.inr ⟨g,i,hg,hi,q⟩⟩
theorem aL.aJ.dA(HA:bH A)(HN:dH A)(h:C.aJ A)(g i:Nat):(C.dA A g i).aJ A:=by
 unfold aL.dA;split
 ·rename_i c
  have o:=h.ok _ _ c.1 c.2;obtain⟨e1,e2⟩:=HN.Rz _ _ o.i.2.1 o.i.2.2.1;obtain⟨a1,a2,a3,a4⟩:=h.at_ g i c.1 c.2;refine⟨h.n,h.sz,nS (P:=λ_ _ (R:MR)=>Ok A R) h.ok (o.start HA),nS (P:=λ_ _ (R:MR)=>R.out=[]) h.out (h.out _ _ c.1 c.2),nS (P:=λg i (R:MR)=>R.sc.g=g/\R.sc.i=i/\R.sc.gs=C.n/\R.sc.sz=C.sz) h.at_ (h.at_ _ _ c.1 c.2),nS (P:=λg i (R:MR)=>R.st.n=C.n/\R.st.g=g) h.sd ⟨?_,?_⟩,h.len,h.net⟩
  ·rw[a1,a3]at e1;rw[show(mStart A (C.F g i)).st=A.bg (C.F g i).sc.g (C.F g i).sc.gs from rfl,a1,a3];exact e1
  ·rw[a1,a3]at e2;rw[show(mStart A (C.F g i)).st=A.bg (C.F g i).sc.g (C.F g i).sc.gs from rfl,a1,a3];exact e2
 ·exact h
theorem aL.aJ.tick(HA:bH A)(HN:dH A)(h:C.aJ A)(g i:Nat):(C.tick A g i).aJ A:=by
 unfold aL.tick;split
 ·rename_i c
  have o:=h.ok _ _ c.1 c.2;exact h.done c.1 c.2 (o.tick HA) (Nx.tick HA HN o ((h.sd g i c.1 c.2).2.trans (congrArg Int.ofNat (h.at_ g i c.1 c.2).1).symm))
 ·exact h
theorem aL.aJ.send(h:C.aJ A){g i:Nat}(hg:g<256)(hi:i<256)(d:ByteArray):(C.send g i d).aJ A:=by
 unfold aL.send;split
 ·rename_i c
  refine⟨h.n,h.sz,h.ok,h.out,h.at_,h.sd,?_,λp hp=>?_⟩
  ·have:=h.len
   show(lD _ _).length<=_;unfold lD;split
   ·simp;omega
   ·exact this
  ·have hp:p∈lD C.q ⟨255,255,g,i,d⟩:=hp
   unfold lD at hp;split at hp
   ·rcases mem_append.1 hp with q|q
    ·exact h.net p q
    ·rw[mem_singleton]at q
     subst q;exact⟨⟨by show 0<=(g:Int);omega,by show(g:Int)<256;omega,by show 0<=(i:Int);omega,by show(i:Int)<256;omega⟩,.inl ⟨rfl,rfl⟩⟩
   ·exact h.net p hp
 ·exact h
theorem KC.gm(HN:dH A){n sz:Nat}{p:bJ}(h:KC A n sz p)(hz:sz<=5){R:MR}(ho:Ok A R)(hs:R.st.n=n):∀m,A.dec p.d=some m->¬((p.fg.toNat,p.fr.toNat).1=255/\m.kind≠1)->GM A R (p.fg.toNat,p.fr.toNat) m:=by
 intro m hd hn;obtain⟨b1,b2⟩:=HN.ask _ _ hd;obtain⟨l1,l2,l3⟩:=HN.lens _ ho.st;rcases h.2 with⟨c1,c2⟩|⟨g,i,hg,hi,c1,c2,c3,m0,e1,e2⟩
 ·have hk:m.kind=1:=Classical.byContradiction λe=>hn ⟨by show p.fg.toNat=255;rw[c1];rfl,e⟩
  exact⟨b1,b2,λe=>by omega,λe=>by omega,λe=>by omega,λe=>by omega,λe=>by omega,λe=>by omega⟩
 ·rw[e1]at hd
  have e2:=HN.back _ _ _ e2 hd;have f5:(p.fg.toNat,p.fr.toNat).2<5:=by show p.fr.toNat<5;omega
  exact⟨b1,λk=>(e2.k1 k).elim,λk=>⟨(e2.vs k).1,Nat.le_trans (e2.vs k).2 (by decide),f5⟩,e2.acc,λk=>⟨e2.qI k,f5⟩,e2.dec,λk=>⟨(e2.lU k).1,by have:=(e2.lU k).2.1;omega,(e2.lU k).2.2⟩,λk=>⟨(e2.jC k).1,by have:=(e2.jC k).2.1;omega,(e2.jC k).2.2⟩⟩
theorem KC.f8{n sz:Nat}{p:bJ}(h:KC A n sz p)(hn:n<=4)(hz:sz<=5):(p.fg.toNat<256/\p.fr.toNat<256)/\p.fg=(p.fg.toNat:Int)/\p.fr=(p.fr.toNat:Int):=by
 rcases h.2 with⟨c1,c2⟩|⟨g,i,hg,hi,c1,c2,_⟩<;>omega
theorem aL.aJ.jQ(HA:bH A)(HN:dH A)(h:C.aJ A)(k:Nat):(C.jQ A k).aJ A:=by
 unfold aL.jQ;split
 ·exact h
 ·rename_i p hp
  have hm:=h.net p (List.mem_of_getElem? hp);split
  ·rename_i c
   have o:=h.ok _ _ c.1 c.2;have gm:=hm.gm HN h.sz o (h.sd _ _ c.1 c.2).1;exact h.done c.1 c.2 (o.take HA gm) (Nx.take HA HN o (hm.f8 h.n h.sz).1 gm)
  ·exact h
theorem aL.aJ.new(HA:bH A)(HN:dH A){n sz:Nat}(hn:n<=4)(hN:n=A.N)(hz:sz<=5):(aL.new A n sz).aJ A:=by
 refine⟨hn,hz,λg i hg hi=>Ok.new HA hg hn hN hi hz,λ_ _ _ _=>rfl,λ_ _ _ _=>⟨rfl,rfl,rfl,rfl⟩,λg i hg hi=>?_,Nat.zero_le _,λ_ h=>by cases h⟩;obtain⟨e1,e2⟩:=HN.Rz g n hg hn;exact⟨e1,e2⟩
end
def gQ(P:Program)(f:FuncId)(args:Array Value)(w:World)(Post:Value->World->Prop):Prop:=∀(K:Machine->Trace->Prop) (cF:Frame) (cs:List Frame),(∀v w',Post v w'->XR P K (G (cF.finish v) cs) w')->XR P K (G (Frame.enter P f args .normal) (cF::cs)) w
@[reducible] def nT (P:Program):ko P:=⟨gQ P,λh hs K cF cs hk=>mX.rely hs (h K cF cs hk),λmain D X=>main=true/\D=yh/\∃K,X=XR P K,λ_ hφ=>λh hk=>by
 obtain⟨rfl,rfl,K,rfl⟩:=hφ;exact h K _ _ hk⟩
theorem ag.x{P:Program}{f:FuncId}{args:Array Value}{w:World}{Post:Value->World->Prop}(h:ag P f args w Post):gQ P f args w Post:=λK cF cs hk=>h true yh (XR P K) (cF::cs) mX λ_ v w' _ hl hp=>mX.back hl (hk v w' hp)
theorem tT{P:Program}(E:mH P)(hm:P.follows .mixedOrders=true){f:FuncId}{fn:Func}{c:Code}{args:List Value}{w:World}{Post:Value->World->Prop}(hf:P.funcs[f]? = some fn)(hb:fn.body=some c)(hn:Nat.ble args.length fn.ntmps=true)(h:@pY P (nT P) E fn.ntmps c (zg E fn.results.toList Post) (uB args 0) w):gQ P f args.toArray w Post :=
 λK _cF _cs hk=>@Wo P (nT P) E hm _ _ _ _ _ _ hf hb hn h _ _ _ (@SX.mk P (nT P) true yh (XR P K) mX ⟨rfl,rfl,K,rfl⟩) _ λ_ v w' _ hl hp=>mX.back hl (hk v w' hp)
structure KD(Λ:bU)(bc:Nat)(C:aL)(gv sv:Value)(B:Nat->Nat->Nat)(ad:Nat->Nat->gp)(w:World):Prop where
 ci:CI w bc gv sv C.q C.n C.sz B ad C.F
 pr:∀b o,Λ.pr b=some o->w.heap[b]? = some o/\¬nC C.n C.sz B bc sv ad b
 os:w.os=Λ.os
 out:w.output=Λ.out
def uP(Λ:bU)(bc:Nat)(C:aL)(w:World):Prop:=∃gv sv B ad,KD Λ bc C gv sv B ad w
section
variable{Λ:bU}{w w':World}{bc:Nat}{C C':aL}{gv sv bX:Value}{B:Nat->Nat->Nat}{ad jM:Nat->Nat->gp}
theorem KD.au(h:KD Λ bc C gv sv B ad w)(g:GB none w w'):KD Λ bc C gv sv B ad w':=⟨h.ci.au g,λb o hb=>⟨g.get (h.pr b o hb).1 nofun,(h.pr b o hb).2⟩,g.os.trans h.os,g.out.trans h.out⟩
theorem KD.step(h:KD Λ bc C gv sv B ad w)(hn:C'.n=C.n)(hz:C'.sz=C.sz)(hc:CI w' bc gv bX C'.q C'.n C'.sz B jM C'.F)(ho:w'.os=w.os)(hu:w'.output=w.output)(hf:pM C.n C.sz B bc w sv ad w' bX jM):uP Λ bc C' w' :=
 ⟨gv,bX,B,jM,hc,λb o hb=>by rw[hn,hz];exact hf b o (h.pr b o hb).1 (h.pr b o hb).2,ho.trans h.os,hu.trans h.out⟩
end
section
variable{A:aO}(HA:bH A){Λ:bU}{w:World}{bc:Nat}{C:aL}
include HA
theorem Yl(h:uP Λ bc C w)(hf:C.aJ A)(g i:Nat)(hg:g<256)(hi:i<256):ag Tryz.prog 21 #[Ptt bc,.agg #[.int .u8 g,.int .u8 i]] w (λv w'=>v=.int .i64 (if g<C.n/\i<C.sz then 0 else 6)/\uP Λ bc (C.dA A g i) w'/\Kz w w'):=by
 obtain⟨gv,sv,B,ad,h⟩:=h;refine ag.mono' (UR HA h.ci hf.n hf.sz g i hg hi λa b=>hf.ok g i a b) ?_;rintro v w1 ⟨rfl,⟨jM,h1,f1⟩,o1,u1,k1⟩;refine⟨rfl,?_,k1⟩;unfold aL.dA;split
 ·rename_i c
  rw[if_pos c]at h1;exact h.step rfl rfl h1 o1 u1 f1
 ·rename_i c
  rw[if_neg c]at h1;exact h.step rfl rfl h1 o1 u1 f1
omit HA in
theorem RA(h:uP Λ bc C w)(hn:C.n<=4)(hs:C.sz<=5)(g i:Nat)(hg:g<256)(hi:i<256)(d:ByteArray):ag Tryz.prog 23 #[Ptt bc,.agg #[.int .u8 g,.int .u8 i],.string d] w (λv w'=>v=.tuple #[.int .i64 (if(g<C.n/\i<C.sz)/\¬d.size > 1000 then(C.q.length:Int)else 0),.int .i64 (if g<C.n/\i<C.sz then(if d.size > 1000 then 2 else 0)else 6)]/\uP Λ bc (C.send g i d) w'/\Kz w w'):=by
 obtain⟨gv,sv,B,ad,h⟩:=h;refine ag.mono' (UW h.ci hn hs g i hg hi d) ?_;rintro v w1 ⟨⟨bX,q',h1,f1,hc⟩,k1,o1,u1⟩;unfold aL.send;rcases hc with⟨c,rfl,rfl⟩|⟨c,e,rfl,rfl⟩|⟨c,e,rfl,rfl⟩
 ·rw[if_neg (λx=>c x.1),if_neg c,if_neg (λx=>c x.1)]
  exact⟨rfl,h.step rfl rfl h1 o1 u1 f1,k1⟩
 ·rw[if_neg (λx=>x.2 e),if_pos c,if_pos e,if_neg (λx=>x.2 e)]
  exact⟨rfl,h.step rfl rfl h1 o1 u1 f1,k1⟩
 ·rw[if_pos ⟨c,e⟩,if_pos c,if_neg e,if_pos ⟨c,e⟩]
  exact⟨rfl,h.step rfl rfl h1 o1 u1 f1,k1⟩
omit HA in
theorem RB{gv sv:Value}{B:Nat->Nat->Nat}{ad:Nat->Nat->gp}(h:KD Λ bc C gv sv B ad w){g i:Nat}(hg:g<C.n)(hi:i<C.sz){f:FuncId}{fst cap:Array Value}{fn:Func}
 (hf : Tryz.prog.funcs[f]? = some fn) (hname : (fn.name == "runtime.NumGoroutine") = false) (hb : fn.body.isNone = false) {R' : MR} (hl : R'.out.length < 1000000)
 (EX:∀w1,GB none w w1->ag Tryz.prog f (fst++cap) w1 (λ_ w'=>Wk (rest w1 (B g i) (ad g i)) (B g i) R' w'/\Kz w1 w')) :
 gQ Tryz.prog 59 #[Ptt bc,.pointer (some ⟨B g i,0,none⟩),.func (.func f) fst cap] w (λv w'=>v=.tuple #[]/\uP Λ bc (C.done g i R') w'/\Kz w w'):=by
 intro K cF cs hk;exact Yk h.ci hg hi hf hname hb hl EX λw4 bX jM h4 o4 u4 k4 f4=>hk _ w4 ⟨rfl,h.step rfl rfl h4 o4 u4 f4,k4⟩
theorem RD(h:uP Λ bc C w)(hf:C.aJ A)(g i:Nat)(hg:g<256)(hi:i<256):gQ Tryz.prog 20 #[Ptt bc,.agg #[.int .u8 g,.int .u8 i]] w (λv w'=>v=.int .i64 (if g<C.n/\i<C.sz then 0 else 6)/\uP Λ bc (C.tick A g i) w'/\Kz w w'):=by
 obtain⟨gv,sv,B,ad,h⟩:=h;refine tT fD mixed Tryz.func20 rfl rfl ?_;intro w1 b1 m1 g1 l1;have h1:=h.au g1;refine⟨_,_,m1,[.int .u8 g,.int .u8 i],rfl,rfl,_,(find_ok h1.ci hf.n hf.sz g i hg hi).x,?_⟩;rintro _ w2 ⟨rfl,g2⟩;have h2:=h1.au g2;have G:=g1.trans g2;unfold aL.tick;by_cases c:g<C.n/\i<C.sz
 ·rw[if_pos c,if_pos c,if_pos c]
  have o:=hf.ok g i c.1 c.2;have e:=hf.out g i c.1 c.2;have hl:=UZ HA o;rw[e]at hl;refine⟨_,RB h2 c.1 c.2 (f:=60) Tryz.func60 (by kernel_rfl) (by kernel_rfl) (R':=mr A (C.F g i)) (by simp only[length_nil]at hl;omega) (λw3 g3=>ag.mono' (Yh HA ((h2.au g3).ci.enter c.1 c.2) o (by rw[e];exact Nat.zero_le _)) λv w' hp=>hp.2),?_⟩;rintro _ w3 ⟨rfl,h3,k3⟩;exact⟨rfl,h3,G.kz.trans k3⟩
 ·rw[if_neg c,if_neg c,if_neg c]
  exact⟨rfl,⟨_,_,_,_,h2⟩,G.kz⟩
end
theorem Fy{P:Program}(E:mH P){f:FuncId}{fn:Func}{c:Code}{args:List Value}{w:World}{Post:Value->World->Prop}(hf:P.funcs[f]? = some fn)(hb:fn.body=some c)(hn:Nat.ble args.length fn.ntmps=true)(h:@CS P (nT P) fn.ntmps c (zg E fn.results.toList Post) (uB args 0) w):gQ P f args.toArray w Post :=
 λK _cF _cs hk=>@Pt P (nT P) E _ _ _ _ _ _ hf hb hn h _ _ _ (@SX.mk P (nT P) true yh (XR P K) mX ⟨rfl,rfl,K,rfl⟩) _ λ_ v w' _ hl hp=>mX.back hl (hk v w' hp)
abbrev aG(P:Program)(n:Nat)(c:Code)(K:Ex->Sg->World->Prop)(s:Sg)(w:World):Prop:=@CS P (nT P) n c K s w
section
variable{P:Program}{n:Nat}{c x y:Code}{K K':Ex->Sg->World->Prop}{s q:Sg}{w:World}
theorem aG.of(E:mH P)(hm:P.follows .mixedOrders=true)(h:@pY P (nT P) E n c K s w):aG P n c K s w:=@CS.of P (nT P) _ _ _ _ _ E hm h
theorem aG.e(h:@pY Tryz.prog (nT Tryz.prog) fD n c K s w):aG Tryz.prog n c K s w:=aG.of fD mixed h
theorem aG.block{id:Nat}(h:aG P n c (λe s w=>K (Z9 id e) s w) s w):aG P n (.block id c) K s w:=@CS.block P (nT P) _ _ _ _ _ _ h
theorem aG.loop(I:Nat->Sg->World->Prop)(h0:∃m q,I m q w/\iD q s)(h:∀m s w,I m s w->aG P n c (λe s w=>Rc (∃m' q,I m' q w/\iD q s/\m'<m) (K e s w) e) s w):aG P n (.loop c) K s w:=@CS.loop P (nT P) _ _ _ _ _ I h0 h
theorem aG.cond{o:Operand}(t:Bool)(he:ev s o=some (.bool t))(h:aG P n (bif t then x else y) K s w):aG P n (.cond o x y) K s w:=@CS.cond P (nT P) _ _ _ _ _ _ _ t he h
theorem aG.piece{Q:Sg->World->Prop}(h:aG P n x (aar Q) s w)(hy:∀q w,Q q w->aG P n y K q w):aG P n (.seq x y) K s w:=@CS.piece P (nT P) _ _ _ _ _ _ _ h hy
theorem aG.cut{Qn:Sg->World->Prop}{Qx:Nat->Sg->World->Prop}{Qr:Sg->World->Prop}(h:aG P n x (Out Qn Qx Qr) s w)(hn:∀q w,Qn q w->aG P n y K q w)(hx:∀j q s w,Qx j q w->iD q s->K (.x j) s w)(hr:∀q s w,Qr q w->iD q s->K .r s w):aG P n (.seq x y) K s w:=@CS.cut P (nT P) _ _ _ _ _ _ _ _ _ h hn hx hr
end
def lL(c s:Int):Bool:=decide (c<4) && decide (1<=s)
def jN(q:bQ):Bool:=lL q.c q.s && (if q.k=1\/q.k=3 then q.v == 0 && (q.hi == 0 && q.to == 0)else if q.k=2 then q.hi == 0 && q.to == 0 else if q.k=4 then decide (q.key<=q.hi) && (decide (q.to<4) && q.v == 0)else false)
def uQ(p:aA):Bool:=lL p.c p.s && (if p.k=1 then(p.found || p.v == 0) && p.g == 0 else if p.k=3 then decide (p.g<4) && (!p.found && p.v == 0)else if p.k=2\/p.k=4\/p.k=5 then !p.found && (p.v == 0 && p.g == 0)else false)
theorem jW(w:World)(c s:Int):ag Tryz.prog 132 #[.int .u8 c,.int .u32 s] w (λv w'=>v=.bool (lL c s)/\w'=w):=by
 refine ah Tryz.func132 rfl rfl ?_;refine aj (λd=>?_) (λd=>?_)
 ·exact⟨congrArg Value.bool (by grind [lL]),rfl⟩
 ·exact⟨congrArg Value.bool (by grind [lL]),rfl⟩
theorem qm(w:World)(g:Int):ag Tryz.prog 133 #[.int .u8 g] w (λv w'=>v=.bool (decide (g<4))/\w'=w):=by
 refine ah Tryz.func133 rfl rfl ?_;exact⟨rfl,rfl⟩
theorem Jb(w:World)(k:Int):ag Tryz.prog 184 #[.int .u8 k] w (λv w'=>v=.bool (kept k)/\w'=w):=by
 refine ah Tryz.func184 rfl rfl ?_;refine aj (λd=>?_) (λd=>?_)
 ·refine aj (λe=>?_) (λe=>?_)
  ·exact⟨congrArg Value.bool (by simp at d e;simp[kept,d,e]),rfl⟩
  ·exact⟨congrArg Value.bool (by simp at d e;simp[kept,e]),rfl⟩
 ·exact⟨congrArg Value.bool (by simp at d;simp[kept,d]),rfl⟩
theorem Iu(w:World)(r:Rg)(rv dv:Value)(k:Int):ag Tryz.prog 182 #[.agg (eu r rv dv).toArray,.int .u64 k] w (λv w'=>v=.bool (decide (r.lo<=k) && decide (k<=r.hi))/\GB none w w'):=by
 refine ah Tryz.func182 rfl rfl ?_;refine λw1 b1 m1 g1 l1=>⟨_,_,m1,_,rfl,?_⟩
 refine aj (λd=>?_) (λd=>?_)
 ·exact⟨_,_,m1,_,rfl,congrArg Value.bool (by grind),g1⟩
 ·exact⟨congrArg Value.bool (by grind),g1⟩
theorem U2(w:World)(a b:aA):ag Tryz.prog 185 #[.agg a.cells.toArray,.agg b.cells.toArray] w (λv w'=>v=.bool (ahead a b)/\GB none w w'):=by
 refine ah Tryz.func185 rfl rfl ?_;refine λw1 b1 m1 g1 l1 w2 b2 m2 g2 l2=>?_
 have m1:=g2.get m1 nofun;have g:=g1.trans g2;refine⟨_,_,m1,_,rfl,_,_,m2,_,rfl,?_⟩;refine aj (λd=>?_) (λd=>?_)
 ·refine⟨_,_,m1,_,rfl,_,_,m2,_,rfl,?_⟩
  refine aj (λe=>?_) (λe=>?_)
  ·exact⟨_,_,m1,_,rfl,_,_,m2,_,rfl,congrArg Value.bool (by simp at d e;simp[ahead,e]),g⟩
  ·exact⟨congrArg Value.bool (by simp at d e;simp[ahead,e];omega),g⟩
 ·exact⟨congrArg Value.bool (by simp at d;simp[ahead,d]),g⟩
theorem RF(w:World)(c s key v hi to:Int):ag Tryz.prog 82 #[.agg (bQ.cells ⟨c,s,4,key,v,hi,to⟩).toArray] w (λx w'=>x=.bool (jN ⟨c,s,4,key,v,hi,to⟩)/\GB none w w'):=by
 refine wu fD Tryz.func82 rfl rfl ?_;refine CS.piece (Q:=λq w'=>∃b1,q=[(1,Ptt b1)]/\w'.heap[b1]? = some (.cells (bQ.cells ⟨c,s,4,key,v,hi,to⟩).toArray 50)/\GB none w w'/\w.heap.size<=b1) (CS.e (λw1 b1 m1 g1 l1=>⟨_,by exact⟨rfl,trivial⟩,b1,rfl,m1,g1,l1⟩)) ?_;rintro q w1 ⟨b1,rfl,m1,g1,l1⟩;refine CS.piece (Q:=λq w'=>q=[(1,Ptt b1),(3,.bool (lL c s))]/\w'=w1) (CS.e ?_) ?_
 ·refine⟨_,_,m1,_,rfl,_,_,m1,_,rfl,_,jW _ _ _,?_⟩
  rintro _ w1 ⟨rfl,rfl⟩;exact⟨_,by exact⟨rfl,rfl,trivial⟩,rfl,rfl⟩
 rintro q w1 ⟨rfl,rfl⟩;refine CS.piece (Q:=λq w'=>∃a,q=[(1,Ptt b1),(3,.bool a)]/\a=(lL c s && (decide (key<=hi) && decide (to<4)))/\w'.heap[b1]? = some (.cells (bQ.cells ⟨c,s,4,key,v,0,0⟩).toArray 50)/\GB none w w') (CS.e ?_) ?_
 ·refine⟨_,_,m1,_,rfl,?_⟩
  generalize lL c s=a;cases a
  ·refine⟨_,_,_,m1,rfl,rfl,λw2 m2 g2=>⟨_,_,_,m2,rfl,rfl,λw3 m3 g3=>?_⟩⟩
   exact⟨_,by exact⟨rfl,rfl,trivial⟩,_,rfl,rfl,m3,(g1.new g2 l1).new g3 l1⟩
  ·refine⟨_,_,m1,_,rfl,_,_,m1,_,rfl,?_⟩
   refine aj (λd=>?_) (λd=>?_)
   ·refine⟨_,_,m1,_,rfl,_,qm _ _,?_⟩
    rintro _ w1 ⟨rfl,rfl⟩;refine⟨_,_,_,m1,rfl,rfl,λw2 m2 g2=>⟨_,_,_,m2,rfl,rfl,λw3 m3 g3=>?_⟩⟩;exact⟨_,by exact⟨rfl,rfl,trivial⟩,_,rfl,by simp at d;simp[d],m3,(g1.new g2 l1).new g3 l1⟩
   ·refine⟨_,_,_,m1,rfl,rfl,λw2 m2 g2=>⟨_,_,_,m2,rfl,rfl,λw3 m3 g3=>?_⟩⟩
    exact⟨_,by exact⟨rfl,rfl,trivial⟩,_,rfl,by simp at d;simp[Int.not_le.2 d],m3,(g1.new g2 l1).new g3 l1⟩
 rintro q w3 ⟨_,rfl,rfl,m3,g⟩;have e:jN ⟨c,s,4,key,v,hi,to⟩=((lL c s && (decide (key<=hi) && decide (to<4))) && v == 0):=by simp[jN,Bool.and_assoc]
 rw[e];generalize (lL c s && (decide (key<=hi) && decide (to<4)))=a;refine CS.e ?_;cases a
 ·exact⟨rfl,g⟩
 ·refine⟨_,_,m3,_,rfl,?_⟩
  refine aj (λd=>?_) (λd=>?_)
  ·exact⟨_,_,m3,_,rfl,_,_,m3,_,rfl,congrArg Value.bool (by grind),g⟩
  ·exact⟨congrArg Value.bool (by grind),g⟩
theorem zz(w:World)(q:bQ):ag Tryz.prog 82 #[.agg q.cells.toArray] w (λv w'=>v=.bool (jN q)/\GB none w w'):=by
 obtain⟨c,s,k,key,v,hi,to⟩:=q;by_cases k1:k=1
 ·subst k1
  refine ah Tryz.func82 rfl rfl ?_;refine λw1 b1 m1 g1 l1=>⟨_,_,m1,_,rfl,_,_,m1,_,rfl,_,jW _ _ _,?_⟩
  rintro _ w1 ⟨rfl,rfl⟩;simp only[jN];generalize lL c s=a;refine⟨_,_,m1,_,rfl,?_⟩;cases a
  ·exact⟨congrArg Value.bool (by grind),g1⟩
  ·refine⟨_,_,m1,_,rfl,?_⟩
   refine aj (λc0=>?_) (λc0=>?_)
   ·refine⟨_,_,m1,_,rfl,?_⟩
    refine aj (λc1=>?_) (λc1=>?_)
    ·refine⟨_,_,m1,_,rfl,?_⟩
     exact⟨congrArg Value.bool (by grind),g1⟩
    ·exact⟨congrArg Value.bool (by grind),g1⟩
   ·exact⟨congrArg Value.bool (by grind),g1⟩
 by_cases k3:k=3
 ·subst k3
  refine ah Tryz.func82 rfl rfl ?_;refine λw1 b1 m1 g1 l1=>⟨_,_,m1,_,rfl,_,_,m1,_,rfl,_,jW _ _ _,?_⟩
  rintro _ w1 ⟨rfl,rfl⟩;simp only[jN];generalize lL c s=a;refine⟨_,_,m1,_,rfl,?_⟩;cases a
  ·exact⟨congrArg Value.bool (by grind),g1⟩
  ·refine⟨_,_,m1,_,rfl,?_⟩
   refine aj (λc0=>?_) (λc0=>?_)
   ·refine⟨_,_,m1,_,rfl,?_⟩
    refine aj (λc1=>?_) (λc1=>?_)
    ·refine⟨_,_,m1,_,rfl,?_⟩
     exact⟨congrArg Value.bool (by grind),g1⟩
    ·exact⟨congrArg Value.bool (by grind),g1⟩
   ·exact⟨congrArg Value.bool (by grind),g1⟩
 by_cases k2:k=2
 ·subst k2
  refine ah Tryz.func82 rfl rfl ?_;refine λw1 b1 m1 g1 l1=>⟨_,_,m1,_,rfl,_,_,m1,_,rfl,_,jW _ _ _,?_⟩
  rintro _ w1 ⟨rfl,rfl⟩;simp only[jN];generalize lL c s=a;refine⟨_,_,m1,_,rfl,?_⟩;cases a
  ·refine⟨_,_,_,m1,rfl,rfl,λw2 m2 g2=>?_⟩
   have g:=g1.new g2 l1;exact⟨congrArg Value.bool (by grind),g⟩
  ·refine⟨_,_,_,m1,rfl,rfl,λw2 m2 g2=>?_⟩
   have g:=g1.new g2 l1;refine⟨_,_,m2,_,rfl,?_⟩;refine⟨_,_,m2,_,rfl,?_⟩;refine aj (λc0=>?_) (λc0=>?_)
   ·refine⟨_,_,m2,_,rfl,?_⟩
    exact⟨congrArg Value.bool (by grind),g⟩
   ·exact⟨congrArg Value.bool (by grind),g⟩
 by_cases k4:k=4
 ·subst k4
  exact RF w c s key v hi to
 refine ah Tryz.func82 rfl rfl ?_;refine λw1 b1 m1 g1 l1=>⟨_,_,m1,_,rfl,_,_,m1,_,rfl,_,jW _ _ _,?_⟩
 rintro _ w1 ⟨rfl,rfl⟩;refine⟨_,_,m1,_,rfl,?_⟩;refine aj (λe=>absurd (by simpa using e) k1) (λ_=>?_);refine aj (λe=>absurd (by simpa using e) k3) (λ_=>?_);refine aj (λe=>absurd (by simpa using e) k2) (λ_=>?_);refine aj (λe=>absurd (by simpa using e) k4) (λ_=>?_);exact⟨congrArg Value.bool (by grind [jN]),g1⟩
theorem KE(w:World)(p:aA):ag Tryz.prog 183 #[.agg p.cells.toArray] w (λv w'=>v=.bool (uQ p)/\GB none w w'):=by
 obtain⟨c,s,key,k,found,v,g⟩:=p;by_cases k1:k=1
 ·subst k1
  refine ah Tryz.func183 rfl rfl ?_;refine λw1 b1 m1 g1 l1=>⟨_,_,m1,_,rfl,_,_,m1,_,rfl,_,jW _ _ _,?_⟩
  rintro _ w1 ⟨rfl,rfl⟩;simp only[uQ];generalize lL c s=a;refine⟨_,_,m1,_,rfl,?_⟩;cases a
  ·cases found
   ·refine⟨_,_,_,m1,rfl,rfl,λw2 m2 g2=>⟨_,_,_,m2,rfl,rfl,λw3 m3 g3=>?_⟩⟩
    have g9:=(g1.new g2 l1).new g3 l1;exact⟨congrArg Value.bool (by grind),g9⟩
   ·refine⟨_,_,_,m1,rfl,rfl,λw2 m2 g2=>⟨_,_,_,m2,rfl,rfl,λw3 m3 g3=>?_⟩⟩
    have g9:=(g1.new g2 l1).new g3 l1;exact⟨congrArg Value.bool (by grind),g9⟩
  ·cases found
   ·refine⟨_,_,m1,_,rfl,?_⟩
    refine⟨_,_,m1,_,rfl,?_⟩;refine⟨_,_,_,m1,rfl,rfl,λw2 m2 g2=>⟨_,_,_,m2,rfl,rfl,λw3 m3 g3=>?_⟩⟩;have g9:=(g1.new g2 l1).new g3 l1;refine aj (λc0=>?_) (λc0=>?_)
    ·refine⟨_,_,m3,_,rfl,?_⟩
     refine⟨_,_,m3,_,rfl,?_⟩;refine⟨_,_,m3,_,rfl,?_⟩;exact⟨congrArg Value.bool (by grind),g9⟩
    ·exact⟨congrArg Value.bool (by grind),g9⟩
   ·refine⟨_,_,m1,_,rfl,?_⟩
    refine⟨_,_,_,m1,rfl,rfl,λw2 m2 g2=>⟨_,_,_,m2,rfl,rfl,λw3 m3 g3=>?_⟩⟩;have g9:=(g1.new g2 l1).new g3 l1;refine⟨_,_,m3,_,rfl,?_⟩;refine⟨_,_,m3,_,rfl,?_⟩;refine⟨_,_,m3,_,rfl,?_⟩;exact⟨congrArg Value.bool (by grind),g9⟩
 by_cases k3:k=3
 ·subst k3
  refine ah Tryz.func183 rfl rfl ?_;refine λw1 b1 m1 g1 l1=>⟨_,_,m1,_,rfl,_,_,m1,_,rfl,_,jW _ _ _,?_⟩
  rintro _ w1 ⟨rfl,rfl⟩;simp only[uQ];generalize lL c s=a;refine⟨_,_,m1,_,rfl,?_⟩;cases a
  ·cases found
   ·refine⟨_,_,_,m1,rfl,rfl,λw2 m2 g2=>?_⟩
    have g9:=g1.new g2 l1;exact⟨congrArg Value.bool (by grind),g9⟩
   ·refine⟨_,_,_,m1,rfl,rfl,λw2 m2 g2=>?_⟩
    have g9:=g1.new g2 l1;exact⟨congrArg Value.bool (by grind),g9⟩
  ·cases found
   ·refine⟨_,_,m1,_,rfl,?_⟩
    refine⟨_,qm _ _,?_⟩;rintro _ w1 ⟨rfl,rfl⟩;refine⟨_,_,_,m1,rfl,rfl,λw2 m2 g2=>?_⟩;have g9:=g1.new g2 l1;refine aj (λc0=>?_) (λc0=>?_)
    ·refine⟨_,_,m2,_,rfl,?_⟩
     refine⟨_,_,m2,_,rfl,?_⟩;refine aj (λc1=>?_) (λc1=>?_)
     ·refine⟨_,_,m2,_,rfl,?_⟩
      exact⟨congrArg Value.bool (by grind),g9⟩
     ·exact⟨congrArg Value.bool (by grind),g9⟩
    ·exact⟨congrArg Value.bool (by grind),g9⟩
   ·refine⟨_,_,m1,_,rfl,?_⟩
    refine⟨_,qm _ _,?_⟩;rintro _ w1 ⟨rfl,rfl⟩;refine⟨_,_,_,m1,rfl,rfl,λw2 m2 g2=>?_⟩;have g9:=g1.new g2 l1;refine aj (λc0=>?_) (λc0=>?_)
    ·refine⟨_,_,m2,_,rfl,?_⟩
     exact⟨congrArg Value.bool (by grind),g9⟩
    ·exact⟨congrArg Value.bool (by grind),g9⟩
 by_cases k2:k=2
 ·subst k2
  refine ah Tryz.func183 rfl rfl ?_;refine λw1 b1 m1 g1 l1=>⟨_,_,m1,_,rfl,_,_,m1,_,rfl,_,jW _ _ _,?_⟩
  rintro _ w1 ⟨rfl,rfl⟩;simp only[uQ];generalize lL c s=a;refine⟨_,_,m1,_,rfl,?_⟩;cases a
  ·cases found
   ·exact⟨congrArg Value.bool (by grind),g1⟩
   ·exact⟨congrArg Value.bool (by grind),g1⟩
  ·cases found
   ·refine⟨_,_,m1,_,rfl,?_⟩
    refine⟨_,_,m1,_,rfl,?_⟩;refine aj (λc0=>?_) (λc0=>?_)
    ·refine⟨_,_,m1,_,rfl,?_⟩
     exact⟨congrArg Value.bool (by grind),g1⟩
    ·exact⟨congrArg Value.bool (by grind),g1⟩
   ·refine⟨_,_,m1,_,rfl,?_⟩
    exact⟨congrArg Value.bool (by grind),g1⟩
 by_cases k4:k=4
 ·subst k4
  refine ah Tryz.func183 rfl rfl ?_;refine λw1 b1 m1 g1 l1=>⟨_,_,m1,_,rfl,_,_,m1,_,rfl,_,jW _ _ _,?_⟩
  rintro _ w1 ⟨rfl,rfl⟩;simp only[uQ];generalize lL c s=a;refine⟨_,_,m1,_,rfl,?_⟩;cases a
  ·cases found
   ·exact⟨congrArg Value.bool (by grind),g1⟩
   ·exact⟨congrArg Value.bool (by grind),g1⟩
  ·cases found
   ·refine⟨_,_,m1,_,rfl,?_⟩
    refine⟨_,_,m1,_,rfl,?_⟩;refine aj (λc0=>?_) (λc0=>?_)
    ·refine⟨_,_,m1,_,rfl,?_⟩
     exact⟨congrArg Value.bool (by grind),g1⟩
    ·exact⟨congrArg Value.bool (by grind),g1⟩
   ·refine⟨_,_,m1,_,rfl,?_⟩
    exact⟨congrArg Value.bool (by grind),g1⟩
 by_cases k5:k=5
 ·subst k5
  refine ah Tryz.func183 rfl rfl ?_;refine λw1 b1 m1 g1 l1=>⟨_,_,m1,_,rfl,_,_,m1,_,rfl,_,jW _ _ _,?_⟩
  rintro _ w1 ⟨rfl,rfl⟩;simp only[uQ];generalize lL c s=a;refine⟨_,_,m1,_,rfl,?_⟩;cases a
  ·cases found
   ·exact⟨congrArg Value.bool (by grind),g1⟩
   ·exact⟨congrArg Value.bool (by grind),g1⟩
  ·cases found
   ·refine⟨_,_,m1,_,rfl,?_⟩
    refine⟨_,_,m1,_,rfl,?_⟩;refine aj (λc0=>?_) (λc0=>?_)
    ·refine⟨_,_,m1,_,rfl,?_⟩
     exact⟨congrArg Value.bool (by grind),g1⟩
    ·exact⟨congrArg Value.bool (by grind),g1⟩
   ·refine⟨_,_,m1,_,rfl,?_⟩
    exact⟨congrArg Value.bool (by grind),g1⟩
 refine ah Tryz.func183 rfl rfl ?_;refine λw1 b1 m1 g1 l1=>⟨_,_,m1,_,rfl,_,_,m1,_,rfl,_,jW _ _ _,?_⟩
 rintro _ w1 ⟨rfl,rfl⟩;refine⟨_,_,m1,_,rfl,?_⟩;refine aj (λe=>absurd (by simpa using e) k1) (λ_=>?_);refine aj (λe=>absurd (by simpa using e) k3) (λ_=>?_);refine aj (λe=>absurd (by simpa using e) k2) (λ_=>?_);refine aj (λe=>absurd (by simpa using e) k4) (λ_=>?_);refine aj (λe=>absurd (by simpa using e) k5) (λ_=>?_);exact⟨congrArg Value.bool (by grind [uQ]),g1⟩
section
variable{α:Type}(f:α->Bool)(lt:α->α->Bool)
def xn(l:List α)(i:Nat):Bool:=match l[i]? with
 |none=>true
 |some x=>f x && (match i with
  |0=>true
  |j+1=>match l[j]? with
   |none=>true
   |some y=>lt y x)
def j5(l:List α):Bool:=decide (l.length<=255) && (List.range l.length).all (xn f lt l)
variable{f lt}{l:List α}
theorem zA(h:¬l.length<=255):j5 f lt l=false:=by simp[j5,h]
theorem yD{k:Nat}{x:α}(hx:l[k]? = some x)(h:f x=false):j5 f lt l=false:=by
 have hk:=(List.getElem?_eq_some_iff.1 hx).1;unfold j5;rw[M0 hk (by simp[xn,hx,h]),Bool.and_false]
theorem Ee{k:Nat}{x y:α}(hx:l[k+1]? = some x)(hy:l[k]? = some y)(h:lt y x=false):j5 f lt l=false:=by
 have hk:=(List.getElem?_eq_some_iff.1 hx).1;unfold j5;rw[M0 hk (by simp[xn,hx,hy,h]),Bool.and_false]
theorem wB{k:Nat}{x:α}(hx:l[k]? = some x)(h:f x=true)(hl:∀j y,k=j+1->l[j]? = some y->lt y x=true):xn f lt l k=true:=by
 unfold xn;rw[hx];simp only[h,Bool.true_and];cases k with
 |zero=>rfl
 |succ j =>
  simp only;cases hj:l[j]? with
  |none=>rfl
  |some y=>exact hl j y rfl hj
end
def FB(r:Rg)(k:Int):Bool:=decide (r.lo<=k) && decide (k<=r.hi)
def Cs(r:Rg):Bool:=j5 (λx:Row=>FB r x.key) (λy x=>decide (y.key<x.key)) r.rows
def zB(r:Rg):Bool:=j5 (λp:aA=>uQ p && (kept p.k && FB r p.key)) ahead r.aZ
theorem Nz{l:List Row}{k:Nat}{x:Row}(hx:l[k]? = some x){cs:List Value}{off:Nat}(hcut:aK cs off (l.length*2)=(l.map Row.cells).flatten):aK cs (off+k*2) 2=x.cells:=by
 have hk:=(List.getElem?_eq_some_iff.1 hx).1;have h1:=jZ (f:=Row.cells) (size:=2) (λ_=>rfl) l k x hx;rw[flatMap_def,<-hcut,vg _ _ _ _ _ (by omega)]at h1;exact h1
theorem NA{l:List aA}{k:Nat}{x:aA}(hx:l[k]? = some x){cs:List Value}{off:Nat}(hcut:aK cs off (l.length*7)=(l.map aA.cells).flatten):aK cs (off+k*7) 7=x.cells:=by
 have hk:=(List.getElem?_eq_some_iff.1 hx).1;have h1:=jZ (f:=aA.cells) (size:=7) (λ_=>rfl) l k x hx;rw[flatMap_def,<-hcut,vg _ _ _ _ _ (by omega)]at h1;exact h1
theorem iM{cs:List Value}{o n i:Nat}{xs:List Value}{v:Value}(h:aK cs o n=xs)(hi:xs[i]? = some v)(hn:i<n):cs[o+i]? = some v:=by
 rw[<-h]at hi;unfold aK at hi;rw[getElem?_take,if_pos hn,getElem?_drop]at hi;exact hi
section
variable{w:World}{r:Rg}{rv dv:Value}
theorem rows_ok(hr:aM w r rv dv):ag Tryz.prog 144 #[.agg (eu r rv dv).toArray] w (λv w'=>v=.bool (Cs r)/\GB none w w'):=by
 obtain⟨a0,n0,c0,_,_,_,rfl,rfl⟩:=hr.sl;obtain⟨⟨a,c,e,hcap,hlen,hv⟩,_⟩:=hr;injection e with e1 e2 e3;subst e1 e2 e3;refine ah Tryz.func144 rfl rfl ?_;refine λw1 b1 m1 g1 l1=>⟨_,_,m1,_,rfl,aj (λd=>?_) (λd=>?_)⟩
 ·exact⟨congrArg Value.bool (zA (by simp at d;omega)).symm,g1⟩
 have zt:r.rows.length<=255:=by simp at d;omega
 refine⟨_,_,m1,_,rfl,λm s wk=>∃k:Nat,m=r.rows.length - k/\k<=r.rows.length/\s=[(1,Ptt b1),(10,.slice a0 r.rows.length c0),(11,.int .i64 r.rows.length),(12,.int .i64 k)]/\GB none w1 wk/\(List.range k).all (xn (λx:Row=>FB r x.key) (λy x=>decide (y.key<x.key)) r.rows)=true,⟨_,_,⟨0,rfl,Nat.zero_le _,rfl,GB.refl _ _,rfl⟩,rfl,rfl,rfl,rfl,trivial⟩,?_⟩;rintro m s wk ⟨k,rfl,hk,rfl,gk,hall⟩;refine aj (λd=>?_) (λd=>?_)
 ·have d1:k<r.rows.length:=by have:=Ptq d;omega
  obtain⟨x,hx⟩:∃x,r.rows[k]? = some x:=⟨r.rows[k],by simp[d1]⟩;rcases hv with⟨_,h0⟩|⟨b,off,cs,rfl,hb,hcut⟩
  ·omega
  have hb1:=(g1.trans gk).get hb nofun;refine⟨by omega,_,_,hb1,x.cells,by show aK cs.toList (off+(k:Int).toNat*2) 2=_;rw[Int.toNat_natCast];exact Nz hx hcut,rfl,λw2 b2 m2 g2 l2=>⟨_,_,_,m2,rfl,rfl,λw3 m3 g3=>?_⟩⟩;have g23:=g2.new g3 l2;have m13:=(gk.trans g23).get m1 nofun;refine⟨_,_,m13,eu r _ _,rfl,rfl,_,_,m3,_,rfl,_,Iu w3 r _ _ _,?_⟩;rintro _ w4 ⟨rfl,g4⟩;have G:=(gk.trans g23).trans g4;have gw:=g1.trans G;obtain⟨z,hz⟩:∃z,FB r x.key=z:=⟨_,rfl⟩;have hz':(decide (r.lo<=x.key) && decide (x.key<=r.hi))=z:=hz;rw[hz'];cases z
  ·exact⟨congrArg Value.bool (yD hx hz).symm,gw⟩
  have RG:=g4.get m3 nofun;have m14:=G.get m1 nofun;have hb4:=gw.get hb nofun;refine⟨by kernel_rfl,aj (λe=>?_) (λe=>?_)⟩
  ·have e1:0<k:=by simp at e;omega
   obtain⟨j,rfl⟩:∃j,k=j+1:=⟨k - 1,by omega⟩;obtain⟨y,hy⟩:∃y,r.rows[j]? = some y:=⟨r.rows[j]'(by omega),by simp[show j<r.rows.length by omega]⟩;have ej:(((j+1:Nat):Int) - 1).toNat=j:=by omega
   refine⟨_,_,RG,_,rfl,_,_,m14,_,rfl,by omega,by omega,_,_,hb4,.int .u64 y.key,by show cs.toList[off+(((j+1:Nat):Int) - 1).toNat*2+0]? = _;rw[ej];exact iM (Nz hy hcut) rfl (by decide),?_⟩;refine aj (λq=>?_) (λq=>?_)
   ·exact⟨congrArg Value.bool (Ee hx hy (by simp at q;simp;omega)).symm,gw⟩
   ·exact⟨by omega,_,_,⟨j+2,rfl,by omega,rfl,G,vP hall (wB hx hz λi y' ei hy'=>by cases ei;rw[hy]at hy';cases hy';simp at q;simp;omega)⟩,⟨rfl,rfl,rfl,rfl,trivial⟩,by omega⟩
  ·have e1:k=0:=by simp at e;omega
   subst e1;exact⟨by omega,_,_,⟨1,rfl,by omega,rfl,G,vP hall (wB hx hz nofun)⟩,⟨rfl,rfl,rfl,rfl,trivial⟩,by omega⟩
 ·have d1:k=r.rows.length:=by have:=Ptx d;omega
  subst d1;exact⟨congrArg Value.bool (by unfold Cs j5;rw[hall];simp[zt]),g1.trans gk⟩
theorem Ym(hr:aM w r rv dv):ag Tryz.prog 145 #[.agg (eu r rv dv).toArray] w (λv w'=>v=.bool (zB r)/\GB none w w'):=by
 obtain⟨_,_,_,a0,n0,c0,rfl,rfl⟩:=hr.sl;obtain⟨_,⟨a,c,e,hcap,hlen,hv⟩⟩:=hr;injection e with e1 e2 e3;subst e1 e2 e3;refine ah Tryz.func145 rfl rfl ?_;refine λw1 b1 m1 g1 l1=>⟨_,_,m1,_,rfl,aj (λd=>?_) (λd=>?_)⟩
 ·exact⟨congrArg Value.bool (zA (by simp at d;omega)).symm,g1⟩
 have zt:r.aZ.length<=255:=by simp at d;omega
 refine⟨_,_,m1,_,rfl,λm s wk=>∃k:Nat,m=r.aZ.length - k/\k<=r.aZ.length/\s=[(1,Ptt b1),(10,.slice a0 r.aZ.length c0),(11,.int .i64 r.aZ.length),(12,.int .i64 k)]/\GB none w1 wk/\(List.range k).all (xn (λp:aA=>uQ p && (kept p.k && FB r p.key)) ahead r.aZ)=true,⟨_,_,⟨0,rfl,Nat.zero_le _,rfl,GB.refl _ _,rfl⟩,rfl,rfl,rfl,rfl,trivial⟩,?_⟩;rintro m s wk ⟨k,rfl,hk,rfl,gk,hall⟩;refine aj (λd=>?_) (λd=>?_)
 ·have d1:k<r.aZ.length:=by have:=Ptq d;omega
  obtain⟨x,hx⟩:∃x,r.aZ[k]? = some x:=⟨r.aZ[k],by simp[d1]⟩;rcases hv with⟨_,h0⟩|⟨b,off,cs,rfl,hb,hcut⟩
  ·omega
  have hb1:=(g1.trans gk).get hb nofun;refine⟨by omega,_,_,hb1,x.cells,by show aK cs.toList (off+(k:Int).toNat*7) 7=_;rw[Int.toNat_natCast];exact NA hx hcut,rfl,λw2 b2 m2 g2 l2=>⟨_,_,_,m2,rfl,rfl,λw3 m3 g3=>?_⟩⟩;have g23:=g2.new g3 l2;refine⟨_,_,m3,x.cells,rfl,rfl,_,KE w3 x,?_⟩;rintro _ w4 ⟨rfl,g4⟩;have G:=(gk.trans g23).trans g4;have gw:=g1.trans G;obtain⟨z,hz⟩:∃z,uQ x=z:=⟨_,rfl⟩;rw[hz];cases z
  ·exact⟨congrArg Value.bool (yD hx (by simp[hz])).symm,gw⟩
  have RG:=g4.get m3 nofun;refine⟨_,_,RG,_,rfl,_,Jb w4 _,?_⟩;rintro _ w4 ⟨rfl,rfl⟩;obtain⟨y,hy⟩:∃y,kept x.k=y:=⟨_,rfl⟩;rw[hy];cases y
  ·exact⟨congrArg Value.bool (yD hx (by simp[hy])).symm,gw⟩
  have m14:=G.get m1 nofun;refine⟨_,_,m14,eu r _ _,rfl,rfl,_,_,RG,_,rfl,_,Iu w4 r _ _ _,?_⟩;rintro _ w5 ⟨rfl,g5⟩;obtain⟨t,ht⟩:∃t,FB r x.key=t:=⟨_,rfl⟩;have ht':(decide (r.lo<=x.key) && decide (x.key<=r.hi))=t:=ht;rw[ht'];have G:=G.trans g5;have gw:=gw.trans g5;cases t
  ·exact⟨congrArg Value.bool (yD hx (by simp[ht])).symm,gw⟩
  have hf:(uQ x && (kept x.k && FB r x.key))=true:=by rw[hz,hy,ht];rfl
  have m35:=g5.get RG nofun;have m15:=G.get m1 nofun;have hb5:=gw.get hb nofun;refine⟨by kernel_rfl,aj (λe=>?_) (λe=>?_)⟩
  ·have e1:0<k:=by simp at e;omega
   obtain⟨j,rfl⟩:∃j,k=j+1:=⟨k - 1,by omega⟩;obtain⟨y,hy⟩:∃y,r.aZ[j]? = some y:=⟨r.aZ[j]'(by omega),by simp[show j<r.aZ.length by omega]⟩;have ej:(((j+1:Nat):Int) - 1).toNat=j:=by omega
   refine⟨_,_,m15,_,rfl,by omega,by omega,_,_,hb5,y.cells,by show aK cs.toList (off+(((j+1:Nat):Int) - 1).toNat*7) 7=_;rw[ej];exact NA hy hcut,rfl,_,_,m35,x.cells,rfl,rfl,_,U2 w5 y x,?_⟩;rintro _ w6 ⟨rfl,g6⟩;obtain⟨q,hq⟩:∃q,ahead y x=q:=⟨_,rfl⟩;rw[hq];cases q
   ·exact⟨congrArg Value.bool (Ee hx hy hq).symm,gw.trans g6⟩
   ·exact⟨by omega,_,_,⟨j+2,rfl,by omega,rfl,G.trans g6,vP hall (wB hx hf λi y' ei hy'=>by cases ei;rw[hy]at hy';cases hy';exact hq)⟩,⟨rfl,rfl,rfl,rfl,trivial⟩,by omega⟩
  ·have e1:k=0:=by simp at e;omega
   subst e1;exact⟨by omega,_,_,⟨1,rfl,by omega,rfl,G,vP hall (wB hx hf nofun)⟩,⟨rfl,rfl,rfl,rfl,trivial⟩,by omega⟩
 ·have d1:k=r.aZ.length:=by have:=Ptx d;omega
  subst d1;exact⟨congrArg Value.bool (by unfold zB j5;rw[hall];simp[zt]),g1.trans gk⟩
end
end
