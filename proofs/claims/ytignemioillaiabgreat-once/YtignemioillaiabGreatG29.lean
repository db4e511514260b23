/- Lemmas. -/
import Derived.Test.YtignemioillaiabGreatG28
namespace Go.Proofs.YtignemioillaiabGreat
set_option maxHeartbeats 8000000
set_option maxRecDepth 100000
open List
section
open Go Go.Conc
theorem gU.mono'{P:Program}{f:FuncId}{args:Array Value}{w:World}{Post Post':Value->World->Prop}(h:gU P f args w Post)(hp:∀v w',Post v w'->Post' v w'):gU P f args w Post':=λmain D X cs hX hk=>h main D X cs hX λfr v w' e1 e2 e3=>hk fr v w' e1 e2 (hp v w' e3)
def Mr(A:aI)(n sz:Nat)(p:bF):Prop:=(0<=p.tg/\p.tg<256/\0<=p.tr/\p.tr<256)/\((p.fg=255/\p.fr=255)\/∃g i,g<n/\i<sz/\PG A g i n p)
structure aJ.aK(A:aI)(C:aJ):Prop where
 n:C.n<=4
 sz:C.sz<=5
 ok:∀g i,g<C.n->i<C.sz->Ok A (C.F g i)
 out:∀g i,g<C.n->i<C.sz->(C.F g i).out=[]
 at_:∀g i,g<C.n->i<C.sz->(C.F g i).sc.g=g/\(C.F g i).sc.i=i/\(C.F g i).sc.gs=C.n/\(C.F g i).sc.sz=C.sz
 sd:∀g i,g<C.n->i<C.sz->(C.F g i).st.n=C.n/\(C.F g i).st.g=g
 len:C.q.length<=20000
 net:∀p∈C.q,Mr A C.n C.sz p
theorem oJ{α:Type}{n sz:Nat}{F:Nat->Nat->α}{P:Nat->Nat->α->Prop}(h:∀g i,g<n->i<sz->P g i (F g i)){g i:Nat}{r:α}(hr:P g i r):∀g' i',g'<n->i'<sz->P g' i' (fF F g i r g' i'):=λg' i' hg hi=>by
 by_cases e:g'=g/\i'=i
 .obtain⟨rfl,rfl⟩:=e;rw[bL];exact hr
 .rw[aZ _ _ e];exact h g' i' hg hi
section
variable{A:aI}{C:aJ}
theorem aJ.aK.done(h:C.aK A){g i:Nat}(hg:g<C.n)(hi:i<C.sz){R':MR}(ho:Ok A R')(hx:Nx A (C.F g i) R'):(C.done g i R').aK A:=by
 obtain⟨a1,a2,a3,a4⟩:=h.at_ g i hg hi;obtain⟨e1,e2,e3,e4⟩:=hx.id;obtain⟨s1,s2⟩:=h.sd g i hg hi;refine⟨h.n,h.sz,oJ (P:=λ_ _ (R:MR)=>Ok A R) h.ok ho.done,oJ (P:=λ_ _ (R:MR)=>R.out=[]) h.out rfl,oJ (P:=λg i (R:MR)=>R.sc.g=g/\R.sc.i=i/\R.sc.gs=C.n/\R.sc.sz=C.sz) h.at_ ⟨e1.trans a1,e2.trans a2,e3.trans a3,e4.trans a4⟩,oJ (P:=λg i (R:MR)=>R.st.n=C.n/\R.st.g=g) h.sd ⟨hx.sd.1.trans s1,hx.sd.2.trans s2⟩,?_,λp hp=>?_⟩
 .show(List.take 20000 _).length<=20000
  rw[Jd6];omega
 .rcases Jdc.1 (Jfy hp)with q|q
  .exact h.net p q
  .rcases hx.ou p q with q|q
   .rw[h.out g i hg hi]at q;cases q
   .rw[a1,a2,a3]at q
    exact⟨q.2.2.1,.inr ⟨g,i,hg,hi,q⟩⟩
theorem aJ.aK.dA(HA:bG A)(HN:dS A)(h:C.aK A)(g i:Nat):(C.dA A g i).aK A:=by
 unfold aJ.dA;split
 .rename_i c
  have o:=h.ok _ _ c.1 c.2;obtain⟨e1,e2⟩:=HN.Ub _ _ o.i.2.1 o.i.2.2.1;obtain⟨a1,a2,a3,a4⟩:=h.at_ g i c.1 c.2;refine⟨h.n,h.sz,oJ (P:=λ_ _ (R:MR)=>Ok A R) h.ok (o.start HA),oJ (P:=λ_ _ (R:MR)=>R.out=[]) h.out (h.out _ _ c.1 c.2),oJ (P:=λg i (R:MR)=>R.sc.g=g/\R.sc.i=i/\R.sc.gs=C.n/\R.sc.sz=C.sz) h.at_ (h.at_ _ _ c.1 c.2),oJ (P:=λg i (R:MR)=>R.st.n=C.n/\R.st.g=g) h.sd ⟨?_,?_⟩,h.len,h.net⟩
  .rw[a1,a3]at e1;rw[show(mStart A (C.F g i)).st=A.bg (C.F g i).sc.g (C.F g i).sc.gs from rfl,a1,a3];exact e1
  .rw[a1,a3]at e2;rw[show(mStart A (C.F g i)).st=A.bg (C.F g i).sc.g (C.F g i).sc.gs from rfl,a1,a3];exact e2
 .exact h
theorem aJ.aK.tick(HA:bG A)(HN:dS A)(h:C.aK A)(g i:Nat):(C.tick A g i).aK A:=by
 unfold aJ.tick;split
 .rename_i c
  have o:=h.ok _ _ c.1 c.2;exact h.done c.1 c.2 (o.tick HA) (Nx.tick HA HN o ((h.sd g i c.1 c.2).2.trans (congrArg Int.ofNat (h.at_ g i c.1 c.2).1).symm))
 .exact h
theorem aJ.aK.send(h:C.aK A){g i:Nat}(hg:g<256)(hi:i<256)(d:ByteArray):(C.send g i d).aK A:=by
 unfold aJ.send;split
 .rename_i c
  refine⟨h.n,h.sz,h.ok,h.out,h.at_,h.sd,?_,λp hp=>?_⟩
  .have:=h.len
   show(ko _ _).length<=_;unfold ko;split
   .simp;omega
   .exact this
  .have hp:p∈ko C.q ⟨255,255,g,i,d⟩:=hp
   unfold ko at hp;split at hp
   .rcases Jdc.1 hp with q|q
    .exact h.net p q
    .rw[Jg6]at q
     subst q;exact⟨⟨by show 0<=(g:Int);omega,by show(g:Int)<256;omega,by show 0<=(i:Int);omega,by show(i:Int)<256;omega⟩,.inl ⟨rfl,rfl⟩⟩
   .exact h.net p hp
 .exact h
theorem Mr.gm(HN:dS A){n sz:Nat}{p:bF}(h:Mr A n sz p)(hz:sz<=5){R:MR}(ho:Ok A R)(hs:R.st.n=n):∀m,A.dec p.d=some m->¬((p.fg.toNat,p.fr.toNat).1=255/\m.kind≠1)->GM A R (p.fg.toNat,p.fr.toNat) m:=by
 intro m hd hn;obtain⟨b1,b2⟩:=HN.ask _ _ hd;obtain⟨l1,l2,l3⟩:=HN.lens _ ho.st;rcases h.2 with⟨c1,c2⟩|⟨g,i,hg,hi,c1,c2,c3,m0,e1,e2⟩
 .have hk:m.kind=1:=Jg8 λe=>hn ⟨by show p.fg.toNat=255;rw[c1];rfl,e⟩
  exact⟨b1,b2,λe=>by omega,λe=>by omega,λe=>by omega,λe=>by omega,λe=>by omega,λe=>by omega⟩
 .rw[e1]at hd
  have e2:=HN.back _ _ _ e2 hd;have f5:(p.fg.toNat,p.fr.toNat).2<5:=by show p.fr.toNat<5;omega
  exact⟨b1,λk=>(e2.k1 k).elim,λk=>⟨(e2.vs k).1,Jb1 (e2.vs k).2 (by decide),f5⟩,e2.acc,λk=>⟨e2.ru k,f5⟩,e2.dec,λk=>⟨(e2.lU k).1,by have:=(e2.lU k).2.1;omega,(e2.lU k).2.2⟩,λk=>⟨(e2.jH k).1,by have:=(e2.jH k).2.1;omega,(e2.jH k).2.2⟩⟩
theorem Mr.f8{n sz:Nat}{p:bF}(h:Mr A n sz p)(hn:n<=4)(hz:sz<=5):(p.fg.toNat<256/\p.fr.toNat<256)/\p.fg=(p.fg.toNat:Int)/\p.fr=(p.fr.toNat:Int):=by
 rcases h.2 with⟨c1,c2⟩|⟨g,i,hg,hi,c1,c2,_⟩<;>omega
theorem aJ.aK.jW(HA:bG A)(HN:dS A)(h:C.aK A)(k:Nat):(C.jW A k).aK A:=by
 unfold aJ.jW;split
 .exact h
 .rename_i p hp
  have hm:=h.net p (Jcv hp);split
  .rename_i c
   have o:=h.ok _ _ c.1 c.2;have gm:=hm.gm HN h.sz o (h.sd _ _ c.1 c.2).1;exact h.done c.1 c.2 (o.take HA gm) (Nx.take HA HN o (hm.f8 h.n h.sz).1 gm)
  .exact h
theorem aJ.aK.new(HA:bG A)(HN:dS A){n sz:Nat}(hn:n<=4)(hN:n=A.N)(hz:sz<=5):(aJ.new A n sz).aK A:=by
 refine⟨hn,hz,λg i hg hi=>Ok.new HA hg hn hN hi hz,λ_ _ _ _=>rfl,λ_ _ _ _=>⟨rfl,rfl,rfl,rfl⟩,λg i hg hi=>?_,Jcm _,λ_ h=>by cases h⟩;obtain⟨e1,e2⟩:=HN.Ub g n hg hn;exact⟨e1,e2⟩
end
def lV(P:Program)(f:FuncId)(args:Array Value)(w:World)(Post:Value->World->Prop):Prop:=∀(K:Machine->Trace->Prop) (cF:Frame) (cs:List Frame),(∀v w',Post v w'->XR P K (G (cF.finish v) cs) w')->XR P K (G (Frame.enter P f args .normal) (cF::cs)) w
@[reducible] def oK (P:Program):kD P:=⟨lV P,λh hs K cF cs hk=>nH.rely hs (h K cF cs hk),λmain D X=>main=true/\D=yX/\∃K,X=XR P K,λ_ hφ=>λh hk=>by
 obtain⟨rfl,rfl,K,rfl⟩:=hφ;exact h K _ _ hk⟩
theorem gU.x{P:Program}{f:FuncId}{args:Array Value}{w:World}{Post:Value->World->Prop}(h:gU P f args w Post):lV P f args w Post:=λK cF cs hk=>h true yX (XR P K) (cF::cs) nH λ_ v w' _ hl hp=>nH.back hl (hk v w' hp)
theorem GQ{P:Program}(E:ng P)(hm:P.follows .mixedOrders=true){f:FuncId}{fn:Func}{c:Code}{args:List Value}{w:World}{Post:Value->World->Prop}(hf:P.funcs[f]?=some fn)(hb:fn.body=some c)(hn:Nat.ble args.length fn.ntmps=true)(h:@qE P (oK P) E fn.ntmps c (yB E fn.results.toList Post) (uY args 0) w):lV P f args.toArray w Post :=
 λK _cF _cs hk=>@Yg P (oK P) E hm _ _ _ _ _ _ hf hb hn h _ _ _ (@SX.mk P (oK P) true yX (XR P K) nH ⟨rfl,rfl,K,rfl⟩) _ λ_ v w' _ hl hp=>nH.back hl (hk v w' hp)
structure Ms(Λ:bW)(bc:Nat)(C:aJ)(gv sv:Value)(B:Nat->Nat->Nat)(ad:Nat->Nat->gD)(w:World):Prop where
 ci:CI w bc gv sv C.q C.n C.sz B ad C.F
 pr:∀b o,Λ.pr b=some o->w.heap[b]?=some o/\¬nO C.n C.sz B bc sv ad b
 os:w.os=Λ.os
 out:w.output=Λ.out
def vL(Λ:bW)(bc:Nat)(C:aJ)(w:World):Prop:=∃gv sv B ad,Ms Λ bc C gv sv B ad w
section
variable{Λ:bW}{w w':World}{bc:Nat}{C C':aJ}{gv sv bX:Value}{B:Nat->Nat->Nat}{ad jV:Nat->Nat->gD}
theorem Ms.ay(h:Ms Λ bc C gv sv B ad w)(g:GB none w w'):Ms Λ bc C gv sv B ad w':=⟨h.ci.ay g,λb o hb=>⟨g.get (h.pr b o hb).1 nofun,(h.pr b o hb).2⟩,g.os.trans h.os,g.out.trans h.out⟩
theorem Ms.step(h:Ms Λ bc C gv sv B ad w)(hn:C'.n=C.n)(hz:C'.sz=C.sz)(hc:CI w' bc gv bX C'.q C'.n C'.sz B jV C'.F)(ho:w'.os=w.os)(hu:w'.output=w.output)(hf:qo C.n C.sz B bc w sv ad w' bX jV):vL Λ bc C' w' :=
 ⟨gv,bX,B,jV,hc,λb o hb=>by rw[hn,hz];exact hf b o (h.pr b o hb).1 (h.pr b o hb).2,ho.trans h.os,hu.trans h.out⟩
end
section
variable{A:aI}(HA:bG A){Λ:bW}{w:World}{bc:Nat}{C:aJ}
include HA
theorem Z7(h:vL Λ bc C w)(hf:C.aK A)(g i:Nat)(hg:g<256)(hi:i<256):CY 53 #[Ptt bc,.agg #[.int .u8 g,.int .u8 i]] w (λv w'=>v=.int .i64 (if g<C.n/\i<C.sz then 0 else 6)/\vL Λ bc (C.dA A g i) w'/\Kz w w'):=by
 obtain⟨gv,sv,B,ad,h⟩:=h;refine gU.mono' (WI HA h.ci hf.n hf.sz g i hg hi λa b=>hf.ok g i a b) ?_;rintro v w1 ⟨rfl,⟨jV,h1,f1⟩,o1,u1,k1⟩;refine⟨rfl,?_,k1⟩;unfold aJ.dA;split
 .rename_i c
  rw[Jb6 c]at h1;exact h.step rfl rfl h1 o1 u1 f1
 .rename_i c
  rw[Jb5 c]at h1;exact h.step rfl rfl h1 o1 u1 f1
omit HA in
theorem Uc(h:vL Λ bc C w)(hn:C.n<=4)(hs:C.sz<=5)(g i:Nat)(hg:g<256)(hi:i<256)(d:ByteArray):CY 22 #[Ptt bc,.agg #[.int .u8 g,.int .u8 i],.string d] w (λv w'=>v=.tuple #[.int .i64 (if(g<C.n/\i<C.sz)/\¬d.size>1000 then(C.q.length:Int)else 0),.int .i64 (if g<C.n/\i<C.sz then(if d.size>1000 then 2 else 0)else 6)]/\vL Λ bc (C.send g i d) w'/\Kz w w'):=by
 obtain⟨gv,sv,B,ad,h⟩:=h;refine gU.mono' (WL h.ci hn hs g i hg hi d) ?_;rintro v w1 ⟨⟨bX,q',h1,f1,hc⟩,k1,o1,u1⟩;unfold aJ.send;rcases hc with⟨c,rfl,rfl⟩|⟨c,e,rfl,rfl⟩|⟨c,e,rfl,rfl⟩
 .rw[Jb5 (λx=>c x.1),Jb5 c,Jb5 (λx=>c x.1)]
  exact⟨rfl,h.step rfl rfl h1 o1 u1 f1,k1⟩
 .rw[Jb5 (λx=>x.2 e),Jb6 c,Jb6 e,Jb5 (λx=>x.2 e)]
  exact⟨rfl,h.step rfl rfl h1 o1 u1 f1,k1⟩
 .rw[Jb6 ⟨c,e⟩,Jb6 c,Jb5 e,Jb6 ⟨c,e⟩]
  exact⟨rfl,h.step rfl rfl h1 o1 u1 f1,k1⟩
omit HA in
theorem Ud{gv sv:Value}{B:Nat->Nat->Nat}{ad:Nat->Nat->gD}(h:Ms Λ bc C gv sv B ad w){g i:Nat}(hg:g<C.n)(hi:i<C.sz){f:FuncId}{fst cap:Array Value}{fn:Func}
 (hf : Tryz.prog.funcs[f]? = some fn) (hname : (fn.name == "runtime.NumGoroutine") = false) (hb : fn.body.isNone = false) {R' : MR} (hl : R'.out.length < 1000000)
 (Gm:∀w1,GB none w w1->CY f (fst++cap) w1 (λ_ w'=>Wk (rest w1 (B g i) (ad g i)) (B g i) R' w'/\Kz w1 w')) :
 lV Tryz.prog 47 #[Ptt bc,.pointer (some ⟨B g i,0,none⟩),.func (.func f) fst cap] w (λv w'=>v=.tuple #[]/\vL Λ bc (C.done g i R') w'/\Kz w w'):=by
 intro K cF cs hk;exact Z6 h.ci hg hi hf hname hb hl Gm λw4 bX jV h4 o4 u4 k4 f4=>hk _ w4 ⟨rfl,h.step rfl rfl h4 o4 u4 f4,k4⟩
theorem Ue(h:vL Λ bc C w)(hf:C.aK A)(g i:Nat)(hg:g<256)(hi:i<256):lV Tryz.prog 34 #[Ptt bc,.agg #[.int .u8 g,.int .u8 i]] w (λv w'=>v=.int .i64 (if g<C.n/\i<C.sz then 0 else 6)/\vL Λ bc (C.tick A g i) w'/\Kz w w'):=by
 obtain⟨gv,sv,B,ad,h⟩:=h;refine GQ fG mixed Tryz.func34 rfl rfl ?_;intro w1 b1 m1 g1 l1;have h1:=h.ay g1;refine⟨_,_,m1,[.int .u8 g,.int .u8 i],rfl,rfl,_,(find_ok h1.ci hf.n hf.sz g i hg hi).x,?_⟩;rintro _ w2 ⟨rfl,g2⟩;have h2:=h1.ay g2;have G:=g1.trans g2;unfold aJ.tick;by_cases c:g<C.n/\i<C.sz
 .rw[Jb6 c,Jb6 c,Jb6 c]
  have o:=hf.ok g i c.1 c.2;have e:=hf.out g i c.1 c.2;have hl:=WO HA o;rw[e]at hl;refine⟨_,Ud h2 c.1 c.2 (f:=57) Tryz.func57 (by kernel_rfl) (by kernel_rfl) (R':=mR A (C.F g i)) (by simp only[length_nil]at hl;omega) (λw3 g3=>gU.mono' (ZZ HA ((h2.ay g3).ci.enter c.1 c.2) o (by rw[e];exact Jcm _)) λv w' hp=>hp.2),?_⟩;rintro _ w3 ⟨rfl,h3,k3⟩;exact⟨rfl,h3,G.kz.trans k3⟩
 .rw[Jb5 c,Jb5 c,Jb5 c]
  exact⟨rfl,⟨_,_,_,_,h2⟩,G.kz⟩
end
theorem Mt{P:Program}(E:ng P){f:FuncId}{fn:Func}{c:Code}{args:List Value}{w:World}{Post:Value->World->Prop}(hf:P.funcs[f]?=some fn)(hb:fn.body=some c)(hn:Nat.ble args.length fn.ntmps=true)(h:@CS P (oK P) fn.ntmps c (yB E fn.results.toList Post) (uY args 0) w):lV P f args.toArray w Post :=
 λK _cF _cs hk=>@Q8 P (oK P) E _ _ _ _ _ _ hf hb hn h _ _ _ (@SX.mk P (oK P) true yX (XR P K) nH ⟨rfl,rfl,K,rfl⟩) _ λ_ v w' _ hl hp=>nH.back hl (hk v w' hp)
abbrev aM(P:Program)(n:Nat)(c:Code)(K:Ex->Sg->World->Prop)(s:Sg)(w:World):Prop:=@CS P (oK P) n c K s w
section
variable{P:Program}{n:Nat}{c x y:Code}{K K':Ex->Sg->World->Prop}{s q:Sg}{w:World}
theorem aM.of(E:ng P)(hm:P.follows .mixedOrders=true)(h:@qE P (oK P) E n c K s w):aM P n c K s w:=@CS.of P (oK P) _ _ _ _ _ E hm h
theorem aM.e(h:@qE Tryz.prog (oK Tryz.prog) fG n c K s w):aM Tryz.prog n c K s w:=aM.of fG mixed h
theorem aM.block{id:Nat}(h:aM P n c (λe s w=>K (blE id e) s w) s w):aM P n (.block id c) K s w:=@CS.block P (oK P) _ _ _ _ _ _ h
theorem aM.loop(I:Nat->Sg->World->Prop)(h0:∃m q,I m q w/\gz q s)(h:∀m s w,I m s w->aM P n c (λe s w=>TC (∃m' q,I m' q w/\gz q s/\m'<m) (K e s w) e) s w):aM P n (.loop c) K s w:=@CS.loop P (oK P) _ _ _ _ _ I h0 h
theorem aM.cond{o:Operand}(t:Bool)(he:ev s o=some (.bool t))(h:aM P n (bif t then x else y) K s w):aM P n (.cond o x y) K s w:=@CS.cond P (oK P) _ _ _ _ _ _ _ t he h
theorem aM.piece{Q:Sg->World->Prop}(h:aM P n x (ab8 Q) s w)(hy:∀q w,Q q w->aM P n y K q w):aM P n (.seq x y) K s w:=@CS.piece P (oK P) _ _ _ _ _ _ _ h hy
theorem aM.cut{Qn:Sg->World->Prop}{Qx:Nat->Sg->World->Prop}{Qr:Sg->World->Prop}(h:aM P n x (Out Qn Qx Qr) s w)(hn:∀q w,Qn q w->aM P n y K q w)(hx:∀j q s w,Qx j q w->gz q s->K (.x j) s w)(hr:∀q s w,Qr q w->gz q s->K .r s w):aM P n (.seq x y) K s w:=@CS.cut P (oK P) _ _ _ _ _ _ _ _ _ h hn hx hr
end
def jN(c s:Int):Bool:=decide (c<4)&&decide (1<=s)
def fV(q:aW):Bool:=jN q.c q.s&&(if q.k=1\/q.k=3 then q.v==0&&(q.hi==0&&q.to==0)else if q.k=2 then q.hi==0&&q.to==0 else if q.k=4 then decide (q.key<=q.hi)&&(decide (q.to<4)&&q.v==0)else false)
def lJ(p:ag):Bool:=jN p.c p.s&&(if p.k=1 then(p.found||p.v==0)&&p.g==0 else if p.k=3 then decide (p.g<4)&&(!p.found&&p.v==0)else if p.k=2\/p.k=4\/p.k=5 then !p.found&&(p.v==0&&p.g==0)else false)
theorem j4(w:World)(c s:Int):CY 153 #[.int .u8 c,.int .u32 s] w (λv w'=>v=.bool (jN c s)/\w'=w):=by
 refine aj Tryz.func153 rfl rfl ?_;refine ah (λd=>?_) (λd=>?_)
 .exact⟨vb (by grind [jN]),rfl⟩
 .exact⟨vb (by grind [jN]),rfl⟩
theorem qP(w:World)(g:Int):CY 117 #[.int .u8 g] w (λv w'=>v=.bool (decide (g<4))/\w'=w):=by
 refine aj Tryz.func117 rfl rfl ?_;exact⟨rfl,rfl⟩
theorem Kl(w:World)(k:Int):CY 195 #[.int .u8 k] w (λv w'=>v=.bool (kept k)/\w'=w):=by
 refine aj Tryz.func195 rfl rfl ?_;refine ah (λd=>?_) (λd=>?_)
 .refine ah (λe=>?_) (λe=>?_)
  .exact⟨vb (by simp at d e;simp[kept,d,e]),rfl⟩
  .exact⟨vb (by simp at d e;simp[kept,e]),rfl⟩
 .exact⟨vb (by simp at d;simp[kept,d]),rfl⟩
theorem JJ(w:World)(r:Rg)(rv dv:Value)(k:Int):CY 194 #[.agg (fB r rv dv).toArray,.int .u64 k] w (λv w'=>v=.bool (decide (r.lo<=k)&&decide (k<=r.hi))/\GB none w w'):=by
 refine aj Tryz.func194 rfl rfl ?_;refine λw1 b1 m1 g1 l1=>⟨_,_,m1,_,rfl,?_⟩
 refine ah (λd=>?_) (λd=>?_)
 .exact⟨_,_,m1,_,rfl,vb (by grind),g1⟩
 .exact⟨vb (by grind),g1⟩
theorem WT(w:World)(a b:ag):CY 196 #[.agg a.cells.toArray,.agg b.cells.toArray] w (λv w'=>v=.bool (ahead a b)/\GB none w w'):=by
 refine aj Tryz.func196 rfl rfl ?_;refine λw1 b1 m1 g1 l1 w2 b2 m2 g2 l2=>?_
 have m1:=g2.get m1 nofun;have g:=g1.trans g2;refine⟨_,_,m1,_,rfl,_,_,m2,_,rfl,?_⟩;refine ah (λd=>?_) (λd=>?_)
 .refine⟨_,_,m1,_,rfl,_,_,m2,_,rfl,?_⟩
  refine ah (λe=>?_) (λe=>?_)
  .exact⟨_,_,m1,_,rfl,_,_,m2,_,rfl,vb (by simp at d e;simp[ahead,e]),g⟩
  .exact⟨vb (by simp at d e;simp[ahead,e];omega),g⟩
 .exact⟨vb (by simp at d;simp[ahead,d]),g⟩
theorem Uf(w:World)(c s key v hi to:Int):CY 99 #[.agg (aW.cells ⟨c,s,4,key,v,hi,to⟩).toArray] w (λx w'=>x=.bool (fV ⟨c,s,4,key,v,hi,to⟩)/\GB none w w'):=by
 refine qh fG Tryz.func99 rfl rfl ?_;refine CS.piece (Q:=λq w'=>∃b1,q=[(1,Ptt b1)]/\Hl w' b1 (aW.cells ⟨c,s,4,key,v,hi,to⟩) 65/\GB none w w'/\w.heap.size<=b1) (CS.e (λw1 b1 m1 g1 l1=>⟨_,by exact sb rfl,b1,rfl,m1,g1,l1⟩)) ?_;rintro q w1 ⟨b1,rfl,m1,g1,l1⟩;refine CS.piece (Q:=λq w'=>q=[(1,Ptt b1),(3,.bool (jN c s))]/\w'=w1) (CS.e ?_) ?_
 .refine⟨_,_,m1,_,rfl,_,_,m1,_,rfl,_,j4 _ _ _,?_⟩
  rintro _ w1 ⟨rfl,rfl⟩;exact⟨_,by exact sb rfl,rfl,rfl⟩
 rintro q w1 ⟨rfl,rfl⟩;refine CS.piece (Q:=λq w'=>∃a,q=[(1,Ptt b1),(3,.bool a)]/\a=(jN c s&&(decide (key<=hi)&&decide (to<4)))/\Hl w' b1 (aW.cells ⟨c,s,4,key,v,0,0⟩) 65/\GB none w w') (CS.e ?_) ?_
 .refine⟨_,_,m1,_,rfl,?_⟩
  generalize jN c s=a;cases a
  .refine⟨_,_,_,m1,rfl,rfl,λw2 m2 g2=>⟨_,_,_,m2,rfl,rfl,λw3 m3 g3=>?_⟩⟩
   exact⟨_,by exact sb rfl,_,rfl,rfl,m3,(g1.new g2 l1).new g3 l1⟩
  .refine⟨_,_,m1,_,rfl,_,_,m1,_,rfl,?_⟩
   refine ah (λd=>?_) (λd=>?_)
   .refine⟨_,_,m1,_,rfl,_,qP _ _,?_⟩
    rintro _ w1 ⟨rfl,rfl⟩;refine⟨_,_,_,m1,rfl,rfl,λw2 m2 g2=>⟨_,_,_,m2,rfl,rfl,λw3 m3 g3=>?_⟩⟩;exact⟨_,by exact sb rfl,_,rfl,by simp at d;simp[d],m3,(g1.new g2 l1).new g3 l1⟩
   .refine⟨_,_,_,m1,rfl,rfl,λw2 m2 g2=>⟨_,_,_,m2,rfl,rfl,λw3 m3 g3=>?_⟩⟩
    exact⟨_,by exact sb rfl,_,rfl,by simp at d;simp[Int.not_le.2 d],m3,(g1.new g2 l1).new g3 l1⟩
 rintro q w3 ⟨_,rfl,rfl,m3,g⟩;have e:fV ⟨c,s,4,key,v,hi,to⟩=((jN c s&&(decide (key<=hi)&&decide (to<4)))&&v==0):=by simp[fV,Bool.and_assoc]
 rw[e];generalize (jN c s&&(decide (key<=hi)&&decide (to<4)))=a;refine CS.e ?_;cases a
 .exact⟨rfl,g⟩
 .refine⟨_,_,m3,_,rfl,?_⟩
  refine ah (λd=>?_) (λd=>?_)
  .exact⟨_,_,m3,_,rfl,_,_,m3,_,rfl,vb (by grind),g⟩
  .exact⟨vb (by grind),g⟩
theorem Ao(w:World)(q:aW):CY 99 #[.agg q.cells.toArray] w (λv w'=>v=.bool (fV q)/\GB none w w'):=by
 obtain⟨c,s,k,key,v,hi,to⟩:=q;by_cases k1:k=1
 .subst k1
  refine aj Tryz.func99 rfl rfl ?_;refine λw1 b1 m1 g1 l1=>⟨_,_,m1,_,rfl,_,_,m1,_,rfl,_,j4 _ _ _,?_⟩
  rintro _ w1 ⟨rfl,rfl⟩;simp only[fV];generalize jN c s=a;refine⟨_,_,m1,_,rfl,?_⟩;cases a
  .exact⟨vb (by grind),g1⟩
  .refine⟨_,_,m1,_,rfl,?_⟩
   refine ah (λc0=>?_) (λc0=>?_)
   .refine⟨_,_,m1,_,rfl,?_⟩
    refine ah (λc1=>?_) (λc1=>?_)
    .refine⟨_,_,m1,_,rfl,?_⟩
     exact⟨vb (by grind),g1⟩
    .exact⟨vb (by grind),g1⟩
   .exact⟨vb (by grind),g1⟩
 by_cases k3:k=3
 .subst k3
  refine aj Tryz.func99 rfl rfl ?_;refine λw1 b1 m1 g1 l1=>⟨_,_,m1,_,rfl,_,_,m1,_,rfl,_,j4 _ _ _,?_⟩
  rintro _ w1 ⟨rfl,rfl⟩;simp only[fV];generalize jN c s=a;refine⟨_,_,m1,_,rfl,?_⟩;cases a
  .exact⟨vb (by grind),g1⟩
  .refine⟨_,_,m1,_,rfl,?_⟩
   refine ah (λc0=>?_) (λc0=>?_)
   .refine⟨_,_,m1,_,rfl,?_⟩
    refine ah (λc1=>?_) (λc1=>?_)
    .refine⟨_,_,m1,_,rfl,?_⟩
     exact⟨vb (by grind),g1⟩
    .exact⟨vb (by grind),g1⟩
   .exact⟨vb (by grind),g1⟩
 by_cases k2:k=2
 .subst k2
  refine aj Tryz.func99 rfl rfl ?_;refine λw1 b1 m1 g1 l1=>⟨_,_,m1,_,rfl,_,_,m1,_,rfl,_,j4 _ _ _,?_⟩
  rintro _ w1 ⟨rfl,rfl⟩;simp only[fV];generalize jN c s=a;refine⟨_,_,m1,_,rfl,?_⟩;cases a
  .refine⟨_,_,_,m1,rfl,rfl,λw2 m2 g2=>?_⟩
   have g:=g1.new g2 l1;exact⟨vb (by grind),g⟩
  .refine⟨_,_,_,m1,rfl,rfl,λw2 m2 g2=>?_⟩
   have g:=g1.new g2 l1;refine⟨_,_,m2,_,rfl,?_⟩;refine⟨_,_,m2,_,rfl,?_⟩;refine ah (λc0=>?_) (λc0=>?_)
   .refine⟨_,_,m2,_,rfl,?_⟩
    exact⟨vb (by grind),g⟩
   .exact⟨vb (by grind),g⟩
 by_cases k4:k=4
 .subst k4
  exact Uf w c s key v hi to
 refine aj Tryz.func99 rfl rfl ?_;refine λw1 b1 m1 g1 l1=>⟨_,_,m1,_,rfl,_,_,m1,_,rfl,_,j4 _ _ _,?_⟩
 rintro _ w1 ⟨rfl,rfl⟩;refine⟨_,_,m1,_,rfl,?_⟩;refine ah (λe=>absurd (by simpa using e) k1) (λ_=>?_);refine ah (λe=>absurd (by simpa using e) k3) (λ_=>?_);refine ah (λe=>absurd (by simpa using e) k2) (λ_=>?_);refine ah (λe=>absurd (by simpa using e) k4) (λ_=>?_);exact⟨vb (by grind [fV]),g1⟩
theorem Mv(w:World)(p:ag):CY 114 #[.agg p.cells.toArray] w (λv w'=>v=.bool (lJ p)/\GB none w w'):=by
 obtain⟨c,s,key,k,found,v,g⟩:=p;by_cases k1:k=1
 .subst k1
  refine aj Tryz.func114 rfl rfl ?_;refine λw1 b1 m1 g1 l1=>⟨_,_,m1,_,rfl,_,_,m1,_,rfl,_,j4 _ _ _,?_⟩
  rintro _ w1 ⟨rfl,rfl⟩;simp only[lJ];generalize jN c s=a;refine⟨_,_,m1,_,rfl,?_⟩;cases a
  .cases found
   .refine⟨_,_,_,m1,rfl,rfl,λw2 m2 g2=>⟨_,_,_,m2,rfl,rfl,λw3 m3 g3=>?_⟩⟩
    have g9:=(g1.new g2 l1).new g3 l1;exact⟨vb (by grind),g9⟩
   .refine⟨_,_,_,m1,rfl,rfl,λw2 m2 g2=>⟨_,_,_,m2,rfl,rfl,λw3 m3 g3=>?_⟩⟩
    have g9:=(g1.new g2 l1).new g3 l1;exact⟨vb (by grind),g9⟩
  .cases found
   .refine⟨_,_,m1,_,rfl,?_⟩
    refine⟨_,_,m1,_,rfl,?_⟩;refine⟨_,_,_,m1,rfl,rfl,λw2 m2 g2=>⟨_,_,_,m2,rfl,rfl,λw3 m3 g3=>?_⟩⟩;have g9:=(g1.new g2 l1).new g3 l1;refine ah (λc0=>?_) (λc0=>?_)
    .refine⟨_,_,m3,_,rfl,?_⟩
     refine⟨_,_,m3,_,rfl,?_⟩;refine⟨_,_,m3,_,rfl,?_⟩;exact⟨vb (by grind),g9⟩
    .exact⟨vb (by grind),g9⟩
   .refine⟨_,_,m1,_,rfl,?_⟩
    refine⟨_,_,_,m1,rfl,rfl,λw2 m2 g2=>⟨_,_,_,m2,rfl,rfl,λw3 m3 g3=>?_⟩⟩;have g9:=(g1.new g2 l1).new g3 l1;refine⟨_,_,m3,_,rfl,?_⟩;refine⟨_,_,m3,_,rfl,?_⟩;refine⟨_,_,m3,_,rfl,?_⟩;exact⟨vb (by grind),g9⟩
 by_cases k3:k=3
 .subst k3
  refine aj Tryz.func114 rfl rfl ?_;refine λw1 b1 m1 g1 l1=>⟨_,_,m1,_,rfl,_,_,m1,_,rfl,_,j4 _ _ _,?_⟩
  rintro _ w1 ⟨rfl,rfl⟩;simp only[lJ];generalize jN c s=a;refine⟨_,_,m1,_,rfl,?_⟩;cases a
  .cases found
   .refine⟨_,_,_,m1,rfl,rfl,λw2 m2 g2=>?_⟩
    have g9:=g1.new g2 l1;exact⟨vb (by grind),g9⟩
   .refine⟨_,_,_,m1,rfl,rfl,λw2 m2 g2=>?_⟩
    have g9:=g1.new g2 l1;exact⟨vb (by grind),g9⟩
  .cases found
   .refine⟨_,_,m1,_,rfl,?_⟩
    refine⟨_,qP _ _,?_⟩;rintro _ w1 ⟨rfl,rfl⟩;refine⟨_,_,_,m1,rfl,rfl,λw2 m2 g2=>?_⟩;have g9:=g1.new g2 l1;refine ah (λc0=>?_) (λc0=>?_)
    .refine⟨_,_,m2,_,rfl,?_⟩
     refine⟨_,_,m2,_,rfl,?_⟩;refine ah (λc1=>?_) (λc1=>?_)
     .refine⟨_,_,m2,_,rfl,?_⟩
      exact⟨vb (by grind),g9⟩
     .exact⟨vb (by grind),g9⟩
    .exact⟨vb (by grind),g9⟩
   .refine⟨_,_,m1,_,rfl,?_⟩
    refine⟨_,qP _ _,?_⟩;rintro _ w1 ⟨rfl,rfl⟩;refine⟨_,_,_,m1,rfl,rfl,λw2 m2 g2=>?_⟩;have g9:=g1.new g2 l1;refine ah (λc0=>?_) (λc0=>?_)
    .refine⟨_,_,m2,_,rfl,?_⟩
     exact⟨vb (by grind),g9⟩
    .exact⟨vb (by grind),g9⟩
 by_cases k2:k=2
 .subst k2
  refine aj Tryz.func114 rfl rfl ?_;refine λw1 b1 m1 g1 l1=>⟨_,_,m1,_,rfl,_,_,m1,_,rfl,_,j4 _ _ _,?_⟩
  rintro _ w1 ⟨rfl,rfl⟩;simp only[lJ];generalize jN c s=a;refine⟨_,_,m1,_,rfl,?_⟩;cases a
  .cases found
   .exact⟨vb (by grind),g1⟩
   .exact⟨vb (by grind),g1⟩
  .cases found
   .refine⟨_,_,m1,_,rfl,?_⟩
    refine⟨_,_,m1,_,rfl,?_⟩;refine ah (λc0=>?_) (λc0=>?_)
    .refine⟨_,_,m1,_,rfl,?_⟩
     exact⟨vb (by grind),g1⟩
    .exact⟨vb (by grind),g1⟩
   .refine⟨_,_,m1,_,rfl,?_⟩
    exact⟨vb (by grind),g1⟩
 by_cases k4:k=4
 .subst k4
  refine aj Tryz.func114 rfl rfl ?_;refine λw1 b1 m1 g1 l1=>⟨_,_,m1,_,rfl,_,_,m1,_,rfl,_,j4 _ _ _,?_⟩
  rintro _ w1 ⟨rfl,rfl⟩;simp only[lJ];generalize jN c s=a;refine⟨_,_,m1,_,rfl,?_⟩;cases a
  .cases found
   .exact⟨vb (by grind),g1⟩
   .exact⟨vb (by grind),g1⟩
  .cases found
   .refine⟨_,_,m1,_,rfl,?_⟩
    refine⟨_,_,m1,_,rfl,?_⟩;refine ah (λc0=>?_) (λc0=>?_)
    .refine⟨_,_,m1,_,rfl,?_⟩
     exact⟨vb (by grind),g1⟩
    .exact⟨vb (by grind),g1⟩
   .refine⟨_,_,m1,_,rfl,?_⟩
    exact⟨vb (by grind),g1⟩
 by_cases k5:k=5
 .subst k5
  refine aj Tryz.func114 rfl rfl ?_;refine λw1 b1 m1 g1 l1=>⟨_,_,m1,_,rfl,_,_,m1,_,rfl,_,j4 _ _ _,?_⟩
  rintro _ w1 ⟨rfl,rfl⟩;simp only[lJ];generalize jN c s=a;refine⟨_,_,m1,_,rfl,?_⟩;cases a
  .cases found
   .exact⟨vb (by grind),g1⟩
   .exact⟨vb (by grind),g1⟩
  .cases found
   .refine⟨_,_,m1,_,rfl,?_⟩
    refine⟨_,_,m1,_,rfl,?_⟩;refine ah (λc0=>?_) (λc0=>?_)
    .refine⟨_,_,m1,_,rfl,?_⟩
     exact⟨vb (by grind),g1⟩
    .exact⟨vb (by grind),g1⟩
   .refine⟨_,_,m1,_,rfl,?_⟩
    exact⟨vb (by grind),g1⟩
 refine aj Tryz.func114 rfl rfl ?_;refine λw1 b1 m1 g1 l1=>⟨_,_,m1,_,rfl,_,_,m1,_,rfl,_,j4 _ _ _,?_⟩
 rintro _ w1 ⟨rfl,rfl⟩;refine⟨_,_,m1,_,rfl,?_⟩;refine ah (λe=>absurd (by simpa using e) k1) (λ_=>?_);refine ah (λe=>absurd (by simpa using e) k3) (λ_=>?_);refine ah (λe=>absurd (by simpa using e) k2) (λ_=>?_);refine ah (λe=>absurd (by simpa using e) k4) (λ_=>?_);refine ah (λe=>absurd (by simpa using e) k5) (λ_=>?_);exact⟨vb (by grind [lJ]),g1⟩
section
variable{α:Type}(f:α->Bool)(lt:α->α->Bool)
def xU(l:List α)(i:Nat):Bool:=match l[i]? with
 |none=>true
 |some x=>f x&&(match i with
  |0=>true
  |j+1=>match l[j]? with
   |none=>true
   |some y=>lt y x)
def kr(l:List α):Bool:=decide (l.length<=255)&&(List.range l.length).all (xU f lt l)
variable{f lt}{l:List α}
theorem Ap(h:¬l.length<=255):kr f lt l=false:=by simp[kr,h]
theorem zm{k:Nat}{x:α}(hx:l[k]?=some x)(h:f x=false):kr f lt l=false:=by
 have hk:=(Jcn.1 hx).1;unfold kr;rw[Ox hk (by simp[xU,hx,h]),Bool.and_false]
theorem Fe{k:Nat}{x y:α}(hx:l[k+1]?=some x)(hy:l[k]?=some y)(h:lt y x=false):kr f lt l=false:=by
 have hk:=(Jcn.1 hx).1;unfold kr;rw[Ox hk (by simp[xU,hx,hy,h]),Bool.and_false]
theorem wX{k:Nat}{x:α}(hx:l[k]?=some x)(h:f x=true)(hl:∀j y,k=j+1->l[j]?=some y->lt y x=true):xU f lt l k=true:=by
 unfold xU;rw[hx];simp only[h,Jdz];cases k with
 |zero=>rfl
 |succ j =>
  simp only;cases hj:l[j]? with
  |none=>rfl
  |some y=>exact hl j y rfl hj
end
def GR(r:Rg)(k:Int):Bool:=decide (r.lo<=k)&&decide (k<=r.hi)
def Dy(r:Rg):Bool:=kr (λx:Row=>GR r x.key) (λy x=>decide (y.key<x.key)) r.rows
def Aq(r:Rg):Bool:=kr (λp:ag=>lJ p&&(kept p.k&&GR r p.key)) ahead r.aX
theorem O6{l:List Row}{k:Nat}{x:Row}(hx:l[k]?=some x){cs:List Value}{off:Nat}(hcut:aG cs off (l.length*2)=(l.map Row.cells).flatten):aG cs (off+k*2) 2=x.cells:=by
 have hk:=(Jcn.1 hx).1;have h1:=jb (f:=Row.cells) (size:=2) (λ_=>rfl) l k x hx;rw[Jfx,<-hcut,zh _ _ _ _ _ (by omega)]at h1;exact h1
theorem O7{l:List ag}{k:Nat}{x:ag}(hx:l[k]?=some x){cs:List Value}{off:Nat}(hcut:aG cs off (l.length*7)=(l.map ag.cells).flatten):aG cs (off+k*7) 7=x.cells:=by
 have hk:=(Jcn.1 hx).1;have h1:=jb (f:=ag.cells) (size:=7) (λ_=>rfl) l k x hx;rw[Jfx,<-hcut,zh _ _ _ _ _ (by omega)]at h1;exact h1
theorem iU{cs:List Value}{o n i:Nat}{xs:List Value}{v:Value}(h:aG cs o n=xs)(hi:xs[i]?=some v)(hn:i<n):cs[o+i]?=some v:=by
 rw[<-h]at hi;unfold aG at hi;rw[Jc5,Jb6 hn,Jcf]at hi;exact hi
section
variable{w:World}{r:Rg}{rv dv:Value}
theorem rows_ok(hr:aS w r rv dv):CY 164 #[.agg (fB r rv dv).toArray] w (λv w'=>v=.bool (Dy r)/\GB none w w'):=by
 obtain⟨a0,n0,c0,_,_,_,rfl,rfl⟩:=hr.sl;obtain⟨⟨a,c,e,hcap,hlen,hv⟩,_⟩:=hr;injection e with e1 e2 e3;subst e1 e2 e3;refine aj Tryz.func164 rfl rfl ?_;refine λw1 b1 m1 g1 l1=>⟨_,_,m1,_,rfl,ah (λd=>?_) (λd=>?_)⟩
 .exact⟨vb (Ap (by simp at d;omega)).symm,g1⟩
 have Cm:r.rows.length<=255:=by simp at d;omega
 refine⟨_,_,m1,_,rfl,λm s wk=>∃k:Nat,m=r.rows.length-k/\k<=r.rows.length/\s=[(1,Ptt b1),(10,.slice a0 r.rows.length c0),(11,.int .i64 r.rows.length),(12,.int .i64 k)]/\GB none w1 wk/\(List.range k).all (xU (λx:Row=>GR r x.key) (λy x=>decide (y.key<x.key)) r.rows)=true,⟨_,_,⟨0,rfl,Jcm _,rfl,GB.refl _ _,rfl⟩,sb rfl⟩,?_⟩;rintro m s wk ⟨k,rfl,hk,rfl,gk,hall⟩;refine ah (λd=>?_) (λd=>?_)
 .have d1:k<r.rows.length:=by have:=Ptq d;omega
  obtain⟨x,hx⟩:∃x,r.rows[k]?=some x:=⟨r.rows[k],by simp[d1]⟩;rcases hv with⟨_,h0⟩|⟨b,off,cs,rfl,hb,hcut⟩
  .omega
  have hb1:=(g1.trans gk).get hb nofun;refine⟨by omega,_,_,hb1,x.cells,by show aG cs.toList (off+(k:Int).toNat*2) 2=_;rw[Jfa];exact O6 hx hcut,rfl,λw2 b2 m2 g2 l2=>⟨_,_,_,m2,rfl,rfl,λw3 m3 g3=>?_⟩⟩;have g23:=g2.new g3 l2;have m13:=(gk.trans g23).get m1 nofun;refine⟨_,_,m13,fB r _ _,rfl,rfl,_,_,m3,_,rfl,_,JJ w3 r _ _ _,?_⟩;rintro _ w4 ⟨rfl,g4⟩;have G:=(gk.trans g23).trans g4;have gw:=g1.trans G;obtain⟨z,hz⟩:∃z,GR r x.key=z:=⟨_,rfl⟩;have hz':(decide (r.lo<=x.key)&&decide (x.key<=r.hi))=z:=hz;rw[hz'];cases z
  .exact⟨vb (zm hx hz).symm,gw⟩
  have Ug:=g4.get m3 nofun;have m14:=G.get m1 nofun;have hb4:=gw.get hb nofun;refine⟨by kernel_rfl,ah (λe=>?_) (λe=>?_)⟩
  .have e1:0<k:=by simp at e;omega
   obtain⟨j,rfl⟩:∃j,k=j+1:=⟨k-1,by omega⟩;obtain⟨y,hy⟩:∃y,r.rows[j]?=some y:=⟨r.rows[j]'(by omega),by simp[show j<r.rows.length by omega]⟩;have ej:(((j+1:Nat):Int)-1).toNat=j:=by omega
   refine⟨_,_,Ug,_,rfl,_,_,m14,_,rfl,by omega,by omega,_,_,hb4,.int .u64 y.key,by show cs.toList[off+(((j+1:Nat):Int)-1).toNat*2+0]?=_;rw[ej];exact iU (O6 hy hcut) rfl (by decide),?_⟩;refine ah (λq=>?_) (λq=>?_)
   .exact⟨vb (Fe hx hy (by simp at q;simp;omega)).symm,gw⟩
   .exact⟨by omega,_,_,⟨j+2,rfl,by omega,rfl,G,wO hall (wX hx hz λi y' ei hy'=>by cases ei;rw[hy]at hy';cases hy';simp at q;simp;omega)⟩,(sb rfl),by omega⟩
  .have e1:k=0:=by simp at e;omega
   subst e1;exact⟨by omega,_,_,⟨1,rfl,by omega,rfl,G,wO hall (wX hx hz nofun)⟩,(sb rfl),by omega⟩
 .have d1:k=r.rows.length:=by have:=Ptx d;omega
  subst d1;exact⟨vb (by unfold Dy kr;rw[hall];simp[Cm]),g1.trans gk⟩
theorem Z8(hr:aS w r rv dv):CY 165 #[.agg (fB r rv dv).toArray] w (λv w'=>v=.bool (Aq r)/\GB none w w'):=by
 obtain⟨_,_,_,a0,n0,c0,rfl,rfl⟩:=hr.sl;obtain⟨_,⟨a,c,e,hcap,hlen,hv⟩⟩:=hr;injection e with e1 e2 e3;subst e1 e2 e3;refine aj Tryz.func165 rfl rfl ?_;refine λw1 b1 m1 g1 l1=>⟨_,_,m1,_,rfl,ah (λd=>?_) (λd=>?_)⟩
 .exact⟨vb (Ap (by simp at d;omega)).symm,g1⟩
 have Cm:r.aX.length<=255:=by simp at d;omega
 refine⟨_,_,m1,_,rfl,λm s wk=>∃k:Nat,m=r.aX.length-k/\k<=r.aX.length/\s=[(1,Ptt b1),(10,.slice a0 r.aX.length c0),(11,.int .i64 r.aX.length),(12,.int .i64 k)]/\GB none w1 wk/\(List.range k).all (xU (λp:ag=>lJ p&&(kept p.k&&GR r p.key)) ahead r.aX)=true,⟨_,_,⟨0,rfl,Jcm _,rfl,GB.refl _ _,rfl⟩,sb rfl⟩,?_⟩;rintro m s wk ⟨k,rfl,hk,rfl,gk,hall⟩;refine ah (λd=>?_) (λd=>?_)
 .have d1:k<r.aX.length:=by have:=Ptq d;omega
  obtain⟨x,hx⟩:∃x,r.aX[k]?=some x:=⟨r.aX[k],by simp[d1]⟩;rcases hv with⟨_,h0⟩|⟨b,off,cs,rfl,hb,hcut⟩
  .omega
  have hb1:=(g1.trans gk).get hb nofun;refine⟨by omega,_,_,hb1,x.cells,by show aG cs.toList (off+(k:Int).toNat*7) 7=_;rw[Jfa];exact O7 hx hcut,rfl,λw2 b2 m2 g2 l2=>⟨_,_,_,m2,rfl,rfl,λw3 m3 g3=>?_⟩⟩;have g23:=g2.new g3 l2;refine⟨_,_,m3,x.cells,rfl,rfl,_,Mv w3 x,?_⟩;rintro _ w4 ⟨rfl,g4⟩;have G:=(gk.trans g23).trans g4;have gw:=g1.trans G;obtain⟨z,hz⟩:∃z,lJ x=z:=⟨_,rfl⟩;rw[hz];cases z
  .exact⟨vb (zm hx (by simp[hz])).symm,gw⟩
  have Ug:=g4.get m3 nofun;refine⟨_,_,Ug,_,rfl,_,Kl w4 _,?_⟩;rintro _ w4 ⟨rfl,rfl⟩;obtain⟨y,hy⟩:∃y,kept x.k=y:=⟨_,rfl⟩;rw[hy];cases y
  .exact⟨vb (zm hx (by simp[hy])).symm,gw⟩
  have m14:=G.get m1 nofun;refine⟨_,_,m14,fB r _ _,rfl,rfl,_,_,Ug,_,rfl,_,JJ w4 r _ _ _,?_⟩;rintro _ w5 ⟨rfl,g5⟩;obtain⟨t,ht⟩:∃t,GR r x.key=t:=⟨_,rfl⟩;have ht':(decide (r.lo<=x.key)&&decide (x.key<=r.hi))=t:=ht;rw[ht'];have G:=G.trans g5;have gw:=gw.trans g5;cases t
  .exact⟨vb (zm hx (by simp[ht])).symm,gw⟩
  have hf:(lJ x&&(kept x.k&&GR r x.key))=true:=by rw[hz,hy,ht];rfl
  have m35:=g5.get Ug nofun;have m15:=G.get m1 nofun;have hb5:=gw.get hb nofun;refine⟨by kernel_rfl,ah (λe=>?_) (λe=>?_)⟩
  .have e1:0<k:=by simp at e;omega
   obtain⟨j,rfl⟩:∃j,k=j+1:=⟨k-1,by omega⟩;obtain⟨y,hy⟩:∃y,r.aX[j]?=some y:=⟨r.aX[j]'(by omega),by simp[show j<r.aX.length by omega]⟩;have ej:(((j+1:Nat):Int)-1).toNat=j:=by omega
   refine⟨_,_,m15,_,rfl,by omega,by omega,_,_,hb5,y.cells,by show aG cs.toList (off+(((j+1:Nat):Int)-1).toNat*7) 7=_;rw[ej];exact O7 hy hcut,rfl,_,_,m35,x.cells,rfl,rfl,_,WT w5 y x,?_⟩;rintro _ w6 ⟨rfl,g6⟩;obtain⟨q,hq⟩:∃q,ahead y x=q:=⟨_,rfl⟩;rw[hq];cases q
   .exact⟨vb (Fe hx hy hq).symm,gw.trans g6⟩
   .exact⟨by omega,_,_,⟨j+2,rfl,by omega,rfl,G.trans g6,wO hall (wX hx hf λi y' ei hy'=>by cases ei;rw[hy]at hy';cases hy';exact hq)⟩,(sb rfl),by omega⟩
  .have e1:k=0:=by simp at e;omega
   subst e1;exact⟨by omega,_,_,⟨1,rfl,by omega,rfl,G,wO hall (wX hx hf nofun)⟩,(sb rfl),by omega⟩
 .have d1:k=r.aX.length:=by have:=Ptx d;omega
  subst d1;exact⟨vb (by unfold Aq kr;rw[hall];simp[Cm]),g1.trans gk⟩
end
end
