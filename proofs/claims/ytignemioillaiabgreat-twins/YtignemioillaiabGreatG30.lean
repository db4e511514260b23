/- A step in a cluster. -/
import Derived.Test.YtignemioillaiabGreatG29
namespace Go.Proofs.YtignemioillaiabGreat
set_option maxHeartbeats 8000000
set_option linter.unusedSectionVars false
set_option maxRecDepth 100000
section
open Go Go.Conc
section
variable {w w3 w4:World} {bc:Nat} {gv sv:Value} {q:List bJ} {n sz:Nat} {B:Nat→Nat→Nat} {ad:Nat→Nat→fu} {F:Nat→Nat→MR}
theorem RI.SN {br:Nat} {R:MR} {a:fu} (h:RI w br R a) {x:Nat} (hx:Own br a x):(∃ es c,w.heap[x]? = some (.map es c))∨∃ c t,w.heap[x]? = some (.cells c t):=by
 rcases hx with rfl | rfl | rfl | rfl | rfl | rfl | rfl | hx | hx
 ·exact .inr ⟨_,_,h.mem⟩
 ·exact .inl h.vm.obj
 ·exact .inl h.wm.obj
 ·exact .inl h.kn.obj
 ·exact .inl h.mt.obj
 ·exact .inl h.pp.obj
 ·exact .inl h.ac.obj
 ·obtain ⟨c,hc⟩:=h.lg.obj hx;exact .inr ⟨_,_,hc⟩
 ·obtain ⟨c,hc⟩:=aG h.ob hx;exact .inr ⟨_,_,hc⟩
theorem CI.out (h:CI w3 bc gv sv q n sz B ad F) {g i:Nat} (hg:g<n) (hi:i<sz) {pk:Nat} (c1:∃ a b c d e f,w3.heap[pk]? = some (.chan a b c d e f)) (c2:∃ a b c d e f,w3.heap[pk+1]? = some (.chan a b c d e f)) (hA:Iq bc (B g i) gv sv (ad g i).ob q (F g i).out (fG (F g i) (ad g i)).toArray 135 pk w3 w4):∃ dw,CI w4 bc gv dw ((q++(F g i).out).take 20000) n sz B (gX ad g i { ad g i with ob:=.slice none 0 0 }) (gX F g i { F g i with out:=[] })∧Kz w3 w4∧∀ x o,x≠pk→x≠pk+1→w3.heap[x]? = some o→¬ lu n sz B bc sv ad x→w4.heap[x]? = some o∧¬ lu n sz B bc dw (gX ad g i { ad g i with ob:=.slice none 0 0 }) x:=by
 obtain ⟨dw,hc4,hr4,jr⟩:=hA.eX;have hR:=h.rep g i hg hi;have YU:∀ {x:Nat} {o:Obj},w3.heap[x]? = some o→(∀ a b c d e f,o≠.chan a b c d e f)→x≠pk∧x≠pk+1:=by
  intro x o hx ho;constructor
  ·rintro rfl
   obtain ⟨a,b,c,d,e,f,hh⟩:=c1;rw [hx] at hh;exact ho _ _ _ _ _ _ (Option.some.inj hh)
  ·rintro rfl
   obtain ⟨a,b,c,d,e,f,hh⟩:=c2;rw [hx] at hh;exact ho _ _ _ _ _ _ (Option.some.inj hh)
 have svt:∀ {x:Nat},some x=sv.ownBlock→∃ c,w3.heap[x]? = some (.cells c 97):=fun e=>aG h.row e.symm
 have slt:∀ {x:Nat},some x=(ad g i).ob.ownBlock→∃ c,w3.heap[x]? = some (.cells c 97):=fun e=>aG hR.ob e.symm
 have kt:∀ {x:Nat} {c:Array Value} {t:TypeId},w3.heap[x]? = some (.cells c t)→t≠97→t≠118→t≠135→w4.heap[x]? = some (.cells c t):=by
  intro x c t hx h1 h2 h3;obtain ⟨n1,n2⟩:=YU hx nofun;refine (hA.rest x (ae hx) (fun e=>?_) (fun e=>?_) (fun e=>?_) (fun e=>?_) n1 n2).trans hx
  ·subst e;rw [h.eX] at hx;injection hx with hx;injection hx with _ hx;exact h2 hx.symm
  ·subst e;rw [hR.mem] at hx;injection hx with hx;injection hx with _ hx;exact h3 hx.symm
  ·obtain ⟨c',hc⟩:=svt e;rw [hx] at hc;injection hc with hc;injection hc with _ hc;exact h1 hc
  ·obtain ⟨c',hc⟩:=slt e;rw [hx] at hc;injection hc with hc;injection hc with _ hc;exact h1 hc
 have k:Kz w3 w4:=fun t ht b c hb=>kt hb (fun e=>by subst e;revert ht;decide) (fun e=>by subst e;revert ht;decide) (fun e=>by subst e;revert ht;decide)
 have PW:∀ g' i' x,g'<n→i'<sz→Own (B g' i') (ad g' i') x→x≠bc:=fun g' i' x hg' hi' ho e=>by
  subst e;rcases (h.rep g' i' hg' hi').xu ho h.eX with e | e | e <;> revert e <;> decide
 have UE:∀ g' i' x,g'<n→i'<sz→Own (B g' i') (ad g' i') x→x≠pk∧x≠pk+1:=fun g' i' x hg' hi' ho=>by
  rcases (h.rep g' i' hg' hi').SN ho with ⟨_,_,hh⟩ | ⟨_,_,hh⟩
  ·exact YU hh nofun
  ·exact YU hh nofun
 have own:∀ x,Own (B g i) (ad g i) x→x≠B g i→some x≠(ad g i).ob.ownBlock→w4.heap[x]? = w3.heap[x]?:=fun x hx n1 n2=>hA.rest x (hR.lt hx) (PW g i x hg hi hx) n1 (fun e=>h.ob g i x hg hi e.symm hx) n2 (UE g i x hg hi hx).1 (UE g i x hg hi hx).2
 have mp:∀ m,Own (B g i) (ad g i) m→(∃ es c,w3.heap[m]? = some (Obj.map es c))→w4.heap[m]? = w3.heap[m]?:=fun m ho hm=>own m ho (gK hm hR.rX) fun e=>gK hm (hR.Yo e.symm) rfl
 have nt:∀ {t:TypeId},t ∉ UC→t≠97∧t≠118∧t≠135:=fun {t} ht=>⟨fun e=>ht (by rw [e];decide),fun e=>ht (by rw [e];decide),fun e=>ht (by rw [e];decide)⟩
 have sub:∀ x,Own (B g i) { ad g i with ob:=.slice none 0 0 } x→Own (B g i) (ad g i) x:=by
  rintro x (e | e | e | e | e | e | e | e | e)
  ·exact .inl e
  ·exact .inr (.inl e)
  ·exact .inr (.inr (.inl e))
  ·exact .inr (.inr (.inr (.inl e)))
  ·exact .inr (.inr (.inr (.inr (.inl e))))
  ·exact .inr (.inr (.inr (.inr (.inr (.inl e)))))
  ·exact .inr (.inr (.inr (.inr (.inr (.inr (.inl e))))))
  ·exact hR.uL e
  ·cases e
 have NP:∀ g' i' x,Own (B g' i') (gX ad g i { ad g i with ob:=.slice none 0 0 } g' i') x→Own (B g' i') (ad g' i') x:=by
  intro g' i' x hx;by_cases e:g'=g∧i'=i
  ·obtain ⟨rfl,rfl⟩:=e
   rw [bX] at hx;exact sub x hx
  ·rw [bK _ _ e] at hx
   exact hx
 refine ⟨dw,⟨hc4,hr4,by rw [List.length_take];omega,?_,fun g' i' hg' hi'=>?_,fun g1 i1 g2 i2 x h1 h2 h3 h4 o1 o2=>h.sep g1 i1 g2 i2 x h1 h2 h3 h4 (NP _ _ _ o1) (NP _ _ _ o2),fun g1 i1 x h1 h2 hx o1=>?_⟩,k,fun x o p1 p2 hx hN=>?_⟩
 ·obtain ⟨bg,cg,cur,tg,e1,e2,e3,e4,e5⟩:=h.ptr
  refine ⟨bg,cg,cur,tg,e1,e2,kt e3 (nt (lL e4)).1 (nt (lL e4)).2.1 (nt (lL e4)).2.2,e4,fun g hg=>?_⟩;obtain ⟨bs,ct,cur',ts,f1,f2,f3,f4,f5⟩:=e5 g hg;exact ⟨bs,ct,cur',ts,f1,f2,kt f3 (nt (lL f4)).1 (nt (lL f4)).2.1 (nt (lL f4)).2.2,f4,f5⟩
 ·by_cases e:g'=g∧i'=i
  ·obtain ⟨rfl,rfl⟩:=e
   rw [bX,bX];refine ⟨hA.rep,hR.vm.keep (fun _ _ h=>h.kz k) (mp _ hR.uH hR.vm.obj),hR.wm.keep (fun _ _ h=>h.kz k) (mp _ hR.Cy hR.wm.obj),hR.kn.keep (fun _ _ h=>h.kz k) (mp _ hR.uI hR.kn.obj),hR.mt.keep (fun _ _ h=>h.kz k) (mp _ hR.lZ hR.mt.obj),hR.pp.keep (fun _ _ h=>h.kz k) (mp _ hR.uJ hR.pp.obj),hR.ac.keep (w':=w4) (fun v x (h:mi w3 v x)=>(show mi w4 v x from h)) (mp _ hR.uK hR.ac.obj),hR.lg.kz k (fun x hx=>own x (hR.uL hx) (hR.x9 hx) fun e=>hR.NB hx e.symm rfl),hR.st.kz k,eG _ _ _,hR.sep⟩
  ·rw [bK _ _ e,bK _ _ e]
   have ne:∀ x,Own (B g' i') (ad g' i') x→¬ Own (B g i) (ad g i) x:=fun x o1 o2=>e (h.sep g' i' g i x hg' hi' hg hi o1 o2)
   exact (h.rep g' i' hg' hi').keep k fun x hx=>hA.rest x ((h.rep g' i' hg' hi').lt hx) (PW g' i' x hg' hi' hx) (fun e=>ne x hx (.inl e)) (fun e=>h.ob g' i' x hg' hi' e.symm hx) (fun e=>ne x hx (hR.sP e.symm)) (UE g' i' x hg' hi' hx).1 (UE g' i' x hg' hi' hx).2
 ·have o1:=NP _ _ _ o1
  rcases jr x hx with h5 | h5
  ·exact h.ob g1 i1 x h1 h2 h5 o1
  ·have:=(h.rep g1 i1 h1 h2).lt o1;omega
 ·have no:¬ Own (B g i) (ad g i) x:=fun ho=>hN (.inr (.inr ⟨g,i,hg,hi,ho⟩))
  refine ⟨(hA.rest x (ae hx) (fun e=>hN (.inl e)) (fun e=>no (.inl e)) (fun e=>hN (.inr (.inl e.symm))) (fun e=>no (hR.sP e.symm)) p1 p2).trans hx,fun hc=>?_⟩;rcases hc with e | e | ⟨g1,i1,q1,q2,o1⟩
  ·exact hN (.inl e)
  ·rcases jr x e with h1 | h1
   ·exact hN (.inr (.inl h1))
   ·have:=ae hx;omega
  ·exact hN (.inr (.inr ⟨g1,i1,q1,q2,NP _ _ _ o1⟩))
end
section
variable {w:World} {bc:Nat} {gv sv:Value} {q:List bJ} {n sz:Nat} {B:Nat→Nat→Nat} {ad:Nat→Nat→fu} {F:Nat→Nat→MR}
def G9 (R:MR):MR:={ nY R with out:=[] }
theorem Wm {K:Machine→Trace→Prop} (h:CI w bc gv sv q n sz B ad F) {g i:Nat} (hg:g<n) (hi:i<sz) {f:FuncId} {fst cap:Array Value} {fn:Func} {cF:Frame} {cs:List Frame}
 (hf : Tryz.prog.funcs[f]? = some fn) (hname : (fn.name == "runtime.NumGoroutine") = false) (hb : fn.body.isNone = false) {R' : MR} (hl : R'.out.length < 1000000)
 (DR:∀ w1,GB none w w1→af Tryz.prog f (fst++cap) w1 (fun _ w'=>Wk (rest w1 (B g i) (ad g i)) (B g i) R' w'∧Kz w1 w'))
 (hk:∀ w4 dw jh,CI w4 bc gv dw ((q++R'.out).take 20000) n sz B jh (gX F g i (G9 R'))→w4.os=w.os→w4.output=w.output→Kz w w4→nZ n sz B bc w sv ad w4 dw jh→XR Tryz.prog K (G (cF.finish (.tuple #[])) cs) w4) :
 XR Tryz.prog K (G (Frame.enter Tryz.prog 47 #[.pointer (some ⟨bc,0,none⟩),.pointer (some ⟨B g i,0,none⟩),.func (.func f) fst cap] .normal) (cF::cs)) w:=by
 have hR:=h.rep g i hg hi;have g0:GB none w ((w.alloc (.chan 0 #[] false 0 0 false)).alloc (.chan 0 #[] false 0 0 false)):=(GB.alloc none w _).trans (GB.alloc none _ _);have adf:((w.alloc (.chan 0 #[] false 0 0 false)).alloc (.chan 0 #[] false 0 0 false)).heap[w.heap.size]? = some (.chan 0 #[] false 0 0 false):=by
  rw [alloc_old (by rw [iy];omega),iF]
 have adg:((w.alloc (.chan 0 #[] false 0 0 false)).alloc (.chan 0 #[] false 0 0 false)).heap[w.heap.size+1]? = some (.chan 0 #[] false 0 0 false):=by
  have:=iF (w.alloc (.chan 0 #[] false 0 0 false)) (.chan 0 #[] false 0 0 false);rwa [iy] at this
 generalize hw0:(w.alloc (.chan 0 #[] false 0 0 false)).alloc (.chan 0 #[] false 0 0 false)=w0 at *;have h0:=h.ax g0;have hR0:=h0.rep g i hg hi;have YV:∀ {x:Nat},w.heap.size≤x→¬ Own (B g i) (ad g i) x:=fun hx ho=>by have:=hR.lt ho;omega
 have pr:∀ {R3:MR} {a3:fu} {w3:World},Wa (rest w0 (B g i) (ad g i)) (B g i) R3 a3 w3→∀ {x:Nat} {o:Obj},w0.heap[x]? = some o→¬ Own (B g i) (ad g i) x→w3.heap[x]? = some o∧¬ Own (B g i) a3 x:=fun {R3 a3 w3} hw {x o} hx hn=>hw.pr x o (by unfold rest;dsimp only;rw [if_neg hn];exact hx)
 have PW:¬ Own (B g i) (ad g i) bc:=fun ho=>by
  rcases hR.xu ho h.eX with e | e | e <;> revert e <;> decide
 refine VE (bc:=bc) (br:=B g i) (gv:=gv) (sv:=sv) (q0:=q) hf hname hb h.len
  (Q1:=fun w1=>Wk (rest w0 (B g i) (ad g i)) (B g i) R' w1∧Kz w0 w1)
  (R3:=fun sl ps rc tR w3=>∃ a3,Wa (rest w0 (B g i) (ad g i)) (B g i) (nY R') a3 w3∧Kz w0 w3∧sl=a3.ob∧ps=R'.out∧rc=(fG (nY R') a3).toArray∧tR=135) ?_ ?_ ?_
 ·rw [hw0]
  exact DR w0 g0
 ·rintro w1 ⟨hW,k1⟩
  have hB:=PV hW;intro main D X b cs hX e1 e2 hfin;refine hB main D X b cs hX e1 e2 fun a' todo w3 hd hP=>hfin a' todo w3 hd ?_
  obtain ⟨⟨a3,h3⟩,k3⟩:=hP;have cb:=pr h3 (h0.eX) PW;refine ⟨a3.ob,R'.out,(fG (nY R') a3).toArray,135,⟨cb.1,aF h0.row fun x hx=>?_,h3.ri.mem,rfl,h3.ri.ob,hl,?_,?_,?_,?_,?_⟩,a3,h3,k1.trans k3,rfl,rfl,rfl,rfl⟩
  ·obtain ⟨c,hc⟩:=aG h0.row hx
   exact (pr h3 hc (h0.ob g i x hg hi hx)).1.trans hc.symm
  ·exact fun e=>PW (.inl e)
  ·exact fun e=>h.ob g i _ hg hi e.symm (.inl rfl)
  ·exact fun e=>cb.2 (h3.ri.sP e.symm)
  ·intro x hx e
   obtain ⟨c,hc⟩:=aG h0.row hx;exact (pr h3 hc (h0.ob g i x hg hi hx)).2 (h3.ri.sP e.symm)
  ·exact ⟨(pr h3 adf (YV (Nat.le_refl _))).1,(pr h3 adg (YV (Nat.le_succ _))).1⟩
 ·rintro sl ps rc tR w3 w4 hW ⟨a3,h3,k3,rfl,rfl,rfl,rfl⟩ hA
  obtain ⟨h3C,o3,u3,f3⟩:=h0.PT hg hi h3 k3;have hA':Iq bc (B g i) gv sv (gX ad g i a3 g i).ob q (gX F g i (nY R') g i).out (fG (gX F g i (nY R') g i) (gX ad g i a3 g i)).toArray 135 w.heap.size w3 w4:=by
   rw [bX,bX];exact hA
  obtain ⟨dw,h4,k4,f4⟩:=h3C.out hg hi ⟨_,_,_,_,_,_,hW.ch.1⟩ ⟨_,_,_,_,_,_,hW.ch.2⟩ hA';rw [bX,bX] at h4;have e1:gX (gX F g i (nY R')) g i { nY R' with out:=[] }=gX F g i (G9 R'):=by
   funext g' i'
   by_cases e:g'=g∧i'=i
   ·obtain ⟨rfl,rfl⟩:=e
    rw [bX,bX];rfl
   ·rw [bK _ _ e,bK _ _ e,bK _ _ e]
  rw [e1] at h4;refine hk w4 dw _ h4 (hA.os.trans (o3.trans g0.os)) (hA.out.trans (u3.trans g0.out)) ((g0.kz.trans k3).trans k4) fun x o hx hN=>?_
  have hl:=ae hx;obtain ⟨q1,q2⟩:=f3 x o (g0.get hx nofun) hN;have r:=f4 x o (by omega) (by omega) q1 q2;rw [bX] at r;exact r
end
structure aW where
 (n sz:Nat)
 F:Nat→Nat→MR
 q:List bJ
section
variable (A:bE)
def aW.done (C:aW) (g i:Nat) (R:MR):aW:={ C with F:=gX C.F g i (G9 R),q:=(C.q++R.out).take 20000 }
def aW.new (n sz:Nat):aW:=⟨n,sz,fun g i=>Fh A g i n sz,[]⟩
def aW.tick (C:aW) (g i:Nat):aW:=if g<C.n∧i<C.sz then C.done g i (mD A (C.F g i)) else C
def aW.gL (C:aW) (g i:Nat):aW:=if g<C.n∧i<C.sz then { C with F:=gX C.F g i (mStart A (C.F g i)) } else C
def aW.nH (C:aW) (k:Nat):aW:=match C.q[k]? with
 | none=>C
 | some p=>if p.tg.toNat<C.n∧p.tr.toNat<C.sz then C.done p.tg.toNat p.tr.toNat (jB A (C.F p.tg.toNat p.tr.toNat) (p.fg.toNat,p.fr.toNat) p.d) else C
def aW.send (C:aW) (g i:Nat) (d:ByteArray):aW:=if (g<C.n∧i<C.sz)∧¬ d.size > 1000 then { C with q:=mE C.q ⟨255,255,g,i,d⟩ } else C
end
section
variable {A:bE} {R:MR}
theorem Ok.done (ho:Ok A R):Ok A (G9 R):=⟨ho.sz,ho.i,ho.st,ho.kn,ho.pp,ho.vt,ho.write.wv,ho.mt,ho.ac,ho.pr,ho.lg,ho.lc,ho.nx,ho.write.sn⟩
end
structure MG (A:bE) (n:Nat) (m:MM):Prop where
 bn:m.b.n≤4294967295
 k1:m.kind≠1
 vs:m.kind=4→(∀ v∈m.vs,A.gc v.c∧v.slot<60)∧m.vs.length≤60
 acc:m.kind=6→A.gc m.c∧m.s<60
 Ad:m.kind=7→m.s<60
 dec:m.kind=8→A.gc m.c∧m.s<60
 uR:m.kind=9→0≤m.r.src∧m.r.src.toNat<n∧m.r.seq≤4294967295∧A.gc (oF m.r)
 pI:m.kind=10→0≤m.peer∧m.peer.toNat<n∧A.gc (sS m.peer m.seq)
structure je (A:bE):Prop where
 lens:∀ {k} s,A.good k s→s.I.length=s.n.toNat∧s.O.length=s.n.toNat∧s.n≤4
 stay:∀ {k} s c,A.good k s→A.gc c→(A.ap s c).1.n=s.n∧(A.ap s c).1.g=s.g
 YW:∀ g n,g<n→n≤4→(A.bg g n).n=n∧(A.bg g n).g=g
 lane:∀ {k} s,A.good k s→∀ o∈s.O,∀ r∈o.2,r.src=s.g∧r.seq≤4294967295∧A.gc (oF r)
 Lm:∀ {k} s,A.good k s→∀ x∈s.I,0≤x∧x≤4294967295
 YX:∀ p s,0≤p→p<4→0≤s→s≤4294967295→A.gc (sS p s)
 ask:∀ d m,A.dec d=some m→m.b.n≤4294967295∧(m.kind=1→A.gc (bZ m.q))
 kind:∀ d m,A.dec d=some m→1≤m.kind∧m.kind≤10
 rl:∀ c,A.gc c→c.r.rows.length≤20000∧c.r.bz.length≤20000
 rc:∀ {k} s c,A.good k s→A.gc c→(A.ap s c).2.c<256
 back:∀ n m m',MG A n m→A.dec (A.enc m)=some m'→MG A n m'
def PG (A:bE) (g i n:Nat) (p:bJ):Prop:=p.fg=g∧p.fr=i∧(0≤p.tg∧p.tg<256∧0≤p.tr∧p.tr<256)∧∃ m,p.d=A.enc m∧MG A n m
structure Nx (A:bE) (R R':MR):Prop where
 id:R'.sc.g=R.sc.g∧R'.sc.i=R.sc.i∧R'.sc.gs=R.sc.gs∧R'.sc.sz=R.sc.sz
 sd:R'.st.n=R.st.n∧R'.st.g=R.st.g
 ou:∀ p∈R'.out,p∈R.out∨PG A R.sc.g R.sc.i R.sc.gs p
section
variable {A:bE} {R R' R'':MR}
theorem Nx.refl (R:MR):Nx A R R:=⟨⟨rfl,rfl,rfl,rfl⟩,⟨rfl,rfl⟩,fun _ h=>.inl h⟩
theorem Nx.trans (h:Nx A R R') (k:Nx A R' R''):Nx A R R'':=by
 obtain ⟨h1,h2,h3,h4⟩:=h.id;refine ⟨⟨k.id.1.trans h1,k.id.2.1.trans h2,k.id.2.2.1.trans h3,k.id.2.2.2.trans h4⟩,⟨k.sd.1.trans h.sd.1,k.sd.2.trans h.sd.2⟩,fun p hp=>?_⟩;rcases k.ou p hp with q | q
 ·exact h.ou p q
 ·rw [h1,h2,h3] at q
  exact .inr q
def T8 (tl:List (Nat×Nat)):Prop:=∀ t∈tl,t.1<256∧t.2<256
theorem T8.one {f:Nat×Nat} (h:f.1<256∧f.2<256):T8 [f]:=fun t ht=>by rw [List.mem_singleton] at ht;rw [ht];exact h
theorem T8.gI {g i jT k:Nat} (h:jT<256) (hk:k≤5):T8 (gI g i jT k):=fun t ht=>by
 unfold Go.Proofs.YtignemioillaiabGreat.gI at ht;obtain ⟨j,hj,rfl⟩:=List.mem_map.1 ht;have:=List.mem_range.1 (List.mem_filter.1 hj).1;exact ⟨h,by show j<256;omega⟩
theorem Nx.snd {m:MM} (hm:MG A R.sc.gs m) {tl:List (Nat×Nat)} (ht:T8 tl):Nx A R (nN A.enc R m tl):=by
 refine ⟨⟨rfl,rfl,rfl,rfl⟩,⟨rfl,rfl⟩,fun p hp=>?_⟩;rcases List.mem_append.1 hp with h | h
 ·exact .inl h
 ·obtain ⟨x,hx,rfl⟩:=List.mem_map.1 h
  obtain ⟨t1,t2⟩:=ht x hx;exact .inr ⟨rfl,rfl,⟨Int.natCast_nonneg _,by show (x.1:Int)<256;omega,Int.natCast_nonneg _,by show (x.2:Int)<256;omega⟩,m,rfl,hm⟩
theorem MG.tell {n:Nat} (p:aD):MG A n { bf 2 with p:=p }:=by constructor <;> simp [bf]
theorem MG.UD {n:Nat} {k:Int} (hk:k=3∨k=5) {b:dh} (hb:b.n≤4294967295):MG A n { bf k with b:=b }:=by
 rcases hk with rfl | rfl <;> constructor <;> simp [bf,hb]
theorem MG.accept {n:Nat} {b:dh} (hb:b.n≤4294967295) {s:Nat} (hs:s<60) {c:MC} (hc:A.gc c):MG A n { bf 6 with b:=b,s:=s,c:=c }:=by constructor <;> simp [bf,hb,hs,hc]
theorem MG.accepted {n:Nat} {b:dh} (hb:b.n≤4294967295) {s:Nat} (hs:s<60):MG A n { bf 7 with b:=b,s:=s }:=by constructor <;> simp [bf,hb,hs]
theorem MG.decide {n:Nat} {s:Nat} (hs:s<60) {c:MC} (hc:A.gc c):MG A n { bf 8 with s:=s,c:=c }:=by constructor <;> simp [bf,hs,hc]
theorem MG.promise {n:Nat} {b:dh} (hb:b.n≤4294967295) {l:List MV} (h1:∀ v∈l,A.gc v.c∧v.slot<60) (h2:l.length≤60):MG A n { bf 4 with b:=b,vs:=l }:=⟨hb,by simp [bf],fun _=>⟨h1,h2⟩,by simp [bf],by simp [bf],by simp [bf],by simp [bf],by simp [bf]⟩
theorem MG.move {n:Nat} {r:Rg} (h:0≤r.src∧r.src.toNat<n∧r.seq≤4294967295∧A.gc (oF r)):MG A n { bf 9 with r:=r }:=⟨by simp [bf],by simp [bf],by simp [bf],by simp [bf],by simp [bf],by simp [bf],fun _=>h,by simp [bf]⟩
theorem MG.aaF {n:Nat} {p s:Int} (h:0≤p∧p.toNat<n∧A.gc (sS p s)):MG A n { bf 10 with peer:=p,seq:=s }:=⟨by simp [bf],by simp [bf],by simp [bf],by simp [bf],by simp [bf],by simp [bf],by simp [bf],fun _=>h⟩
theorem Nx.of (h1:R'.sc.g=R.sc.g∧R'.sc.i=R.sc.i∧R'.sc.gs=R.sc.gs∧R'.sc.sz=R.sc.sz) (h2:R'.st=R.st) (h3:R'.out=R.out):Nx A R R':=⟨h1,by rw [h2];exact ⟨rfl,rfl⟩,fun p hp=>.inl (by rw [← h3];exact hp)⟩
end
section
variable {A:bE} (HA:bW A) (HN:je A) {R:MR}
include HA HN
omit HA in
theorem Nx.pI (ho:Ok A R) (src:Nat) {tl:List (Nat×Nat)} (ht:T8 tl):Nx A R (zX A.enc R src tl):=by
 unfold zX;refine Nx.snd (MG.aaF ⟨by omega,by have:=ho.i.2.1;omega,HN.YX _ _ (by omega) (by have:=ho.i.2.1;have:=ho.i.2.2;omega) ?_ ?_⟩) ht
 ·rw [List.getD_eq_getElem?_getD]
  cases h:R.st.I[src]? with
  | none=>exact Int.le_refl _
  | some x=>exact (HN.Lm _ ho.st x (List.mem_of_getElem? h)).1
 ·rw [List.getD_eq_getElem?_getD]
  cases h:R.st.I[src]? with
  | none=>show (0:Int)≤_;omega
  | some x=>exact (HN.Lm _ ho.st x (List.mem_of_getElem? h)).2
omit HA in
theorem Nx.ans (ho:Ok A R) {c:MC} {p:aD} (hp:p.c<256) (hs:c.kind=2→c.r.src.toNat<256):Nx A R (qX A R c p):=by
 unfold qX;split
 ·exact Nx.snd (MG.tell p) (T8.one ⟨(by decide:255<256),by show p.c.toNat<256;omega⟩)
 ·split
  ·rename_i k;exact Nx.pI HN ho _ (T8.gI (hs k) ho.sz)
  ·exact Nx.refl R
theorem Nx.do (ho:Ok A R) {c:MC} (hc:A.gc c) (hl:R.log.length<60):Nx A R (xn A R c):=by
 obtain ⟨e1,e2⟩:=HN.stay _ _ ho.st hc;have h1:Nx A R { R with st:=(A.ap R.st c).1,log:=R.log++[c] }:=⟨⟨rfl,rfl,rfl,rfl⟩,⟨e1,e2⟩,fun _ h=>.inl h⟩;have o1:Ok A { R with st:=(A.ap R.st c).1,log:=R.log++[c] }:=⟨ho.sz,ho.i,HA.next ho.st (Nat.le_of_lt hl) hc,ho.kn,ho.pp,ho.vt,ho.wv,ho.mt,ho.ac,ho.pr,by simp;omega,fun x hx=>(List.mem_append.1 hx).elim (ho.lc x) (fun e=>by simp at e;rw [e];exact hc),ho.nx,ho.sn⟩;unfold xn;split
 ·refine h1.trans (Nx.ans HN o1 (HN.rc _ _ ho.st hc) fun k=>?_)
  have q1:=HA.src _ _ ho.st hc k;have q2:=HN.lens _ ho.st;omega
 ·exact h1
theorem Nx.catch:∀ (n:Nat) {R:MR},Ok A R→Nx A R (jo A n R)
 | 0,R,_=>Nx.refl R
 | n+1,R,ho=>by
  unfold jo;split
  ·exact Nx.refl R
  ·rename_i c hc
   obtain ⟨h1,h2⟩:=ho.kn _ _ hc;have o1:Ok A { R with known:=upd R.known R.log.length none }:=ho.known (fun k d hd=>by
    unfold upd at hd;split at hd
    ·cases hd
    ·exact ho.kn k d hd)
   have n1:Nx A R { R with known:=upd R.known R.log.length none }:=.of ⟨rfl,rfl,rfl,rfl⟩ rfl rfl;exact (n1.trans (Nx.do HA HN o1 h1 h2)).trans (Nx.catch n (o1.do HA h1 h2))
theorem Nx.agree (ho:Ok A R) {s:Nat} (hs:s<60) {c:MC} (hgc:A.gc c):Nx A R (kG A R s c):=by
 unfold kG;split
 ·exact Nx.refl R
 ·have o1:Ok A { R with props:=upd R.props s none,acc:=upd R.acc s none,sc:={ R.sc with next:=max R.sc.next (s+1) },known:=upd R.known s (some c) }:=by
   have del:∀ {α:Type} {P:Nat→α→Prop} {f:Nat→Option α} {s:Nat},(∀ k v,f k=some v→P k v)→∀ k v,upd f s none k=some v→P k v:=fun h k v hv=>by
    unfold upd at hv;split at hv
    ·cases hv
    ·exact h k v hv
   exact ⟨ho.sz,ho.i,ho.st,lU (P:=fun k c=>A.gc c∧k<60) ho.kn ⟨hgc,hs⟩,del ho.pp,ho.vt,ho.wv,ho.mt,del ho.ac,ho.pr,ho.lg,ho.lc,by show max _ _≤60;have:=ho.nx;omega,ho.sn⟩
  have n1:Nx A R { R with props:=upd R.props s none,acc:=upd R.acc s none,sc:={ R.sc with next:=max R.sc.next (s+1) },known:=upd R.known s (some c) }:=.of ⟨rfl,rfl,rfl,rfl⟩ rfl rfl;exact n1.trans (Nx.catch HA HN _ o1)
omit HA HN in
theorem Ok.pe (ho:Ok A R):T8 (gI R.sc.g R.sc.i R.sc.g R.sc.sz):=T8.gI (by have:=ho.i;omega) ho.sz
omit HA HN in
theorem Nx.sa (ho:Ok A R) {s:Nat} (hs:s<60) {c:MC} (hgc:A.gc c):Nx A R (PD A.enc R s c):=Nx.snd (MG.accept ho.sn.2.1 hs hgc) ho.pe
theorem Nx.Fb (ho:Ok A R) {s i:Nat} (hi:i<5):Nx A R (ky A R s i):=by
 unfold ky;split
 ·exact Nx.refl R
 ·rename_i c hc
  obtain ⟨h1,h2⟩:=ho.pp _ _ hc;have o1:Ok A { R with acc:=upd R.acc s (some (iH R s i)) }:=by
   refine ⟨ho.sz,ho.i,ho.st,ho.kn,ho.pp,ho.vt,ho.wv,ho.mt,lU (P:=fun _ c=>c<32) ho.ac ?_,ho.pr,ho.lg,ho.lc,ho.nx,ho.sn⟩;refine uN ?_ hi;cases hb:R.acc s with
   | none=>exact Nat.zero_lt_succ _
   | some x=>exact ho.ac s x hb
  have n1:Nx A R { R with acc:=upd R.acc s (some (iH R s i)) }:=.of ⟨rfl,rfl,rfl,rfl⟩ rfl rfl;split
  ·have n2:Nx A { R with acc:=upd R.acc s (some (iH R s i)) } (nN A.enc { R with acc:=upd R.acc s (some (iH R s i)) } { bf 8 with s:=s,c:=c } (gI R.sc.g R.sc.i R.sc.g R.sc.sz)):=Nx.snd (MG.decide h2 h1) ho.pe
   exact (n1.trans n2).trans (Nx.agree HA HN (o1.snd _ _ _) h2 h1)
  ·exact n1
theorem Nx.prop (ho:Ok A R) {s:Nat} (hs:s<60) {c:MC} (hgc:A.gc c):Nx A R (kC A R s c):=by
 unfold kC;have o1:=Ok.IW ho hs hgc;have o2:=Ok.NH o1 hs hgc;have n1:Nx A R (yc { R with props:=upd R.props s (some c) } s c):=.of ⟨rfl,rfl,rfl,rfl⟩ rfl rfl;exact (n1.trans (Nx.sa o2 hs hgc)).trans (Nx.Fb HA HN (o2.snd _ _ _) (Nat.lt_of_lt_of_le ho.i.1 ho.sz))
theorem Nx.offer (ho:Ok A R) {c:MC} (hgc:A.gc c):Nx A R (eT A R c):=by
 unfold eT;split
 ·exact Nx.refl R
 ·rename_i h
  have hn:R.sc.next<60:=by
   have:¬ 60≤R.sc.next:=fun e=>h (.inl e)
   omega
  have o1:Ok A { R with sc:={ R.sc with next:=R.sc.next+1 } }:=⟨ho.sz,ho.i,ho.st,ho.kn,ho.pp,ho.vt,ho.wv,ho.mt,ho.ac,ho.pr,ho.lg,ho.lc,hn,ho.sn⟩;have n1:Nx A R { R with sc:={ R.sc with next:=R.sc.next+1 } }:=.of ⟨rfl,rfl,rfl,rfl⟩ rfl rfl;exact n1.trans (Nx.prop HA HN o1 hn hgc)
omit HA HN in
theorem Nx.stand (R:MR):Nx A R (fH R):=.of ⟨rfl,rfl,rfl,rfl⟩ rfl rfl
omit HA HN in
theorem Nx.refuse (ho:Ok A R) {f:Nat×Nat} (hf:f.1<256∧f.2<256) (b:dh):Nx A R (dW A.enc R f b):=by
 unfold dW;split
 ·exact Nx.snd (MG.UD (.inr rfl) ho.sn.2.1) (T8.one hf)
 ·split
  ·exact Nx.refl R
  ·exact .of ⟨rfl,rfl,rfl,rfl⟩ rfl rfl
omit HA HN in
theorem Nx.SH (ho:Ok A R) {f:Nat×Nat} (hf:f.1<256∧f.2<256) {b:dh} (hb:b.n≤4294967295):Nx A R (tV A.enc R f b):=by
 have o1:=ho.refuse f hb;unfold tV;split
 ·exact Nx.refuse ho hf b
 ·refine (Nx.refuse ho hf b).trans (Nx.snd (MG.promise hb (fun v hv=>?_) (F3 _ _)) (T8.one hf))
  obtain ⟨k,_,hk⟩:=List.mem_filterMap.1 hv;obtain ⟨h1,h2,h3⟩:=o1.vt k v hk;exact ⟨h1,by omega⟩
omit HN in
theorem Nx.Fj (ho:Ok A R) {f:Nat×Nat} (hf:f.1<256∧f.2<256) {m:MM} (hb:m.b.n≤4294967295) (hs:m.s<60):Nx A R (lh A R f m):=by
 unfold lh;split
 ·exact Nx.refuse ho hf m.b
 ·refine ((Nx.refuse ho hf m.b).trans (R'':=yc (dW A.enc R f m.b) m.s m.c) (.of ⟨rfl,rfl,rfl,rfl⟩ rfl rfl)).trans (Nx.snd (MG.accepted hb hs) (T8.one hf))
theorem Nx.SI (ho:Ok A R) {f:Nat×Nat} (hf:f.2<5) (m:MM):Nx A R (tX A R f m):=by
 unfold tX;split
 ·exact Nx.Fb HA HN ho hf
 ·exact Nx.refl R
theorem Nx.ask (ho:Ok A R) {q:bH} (hq:A.gc (bZ q)):Nx A R (jH A R q):=by
 unfold jH;split
 ·exact Nx.refl R
 ·split
  ·exact Nx.snd (MG.tell _) (T8.one ⟨(by decide:255<256),by have:=HN.rc _ _ ho.st hq;show (A.ap R.st (bZ q)).2.c.toNat<256;omega⟩)
  ·exact Nx.offer HA HN ho hq
theorem Nx.yh:∀ (n s:Nat) {R:MR},Ok A R→Nx A R (gp A n s R)
 | 0,_,R,_=>Nx.refl R
 | n+1,s,R,ho=>by
  unfold gp;split
  ·rename_i h
   have hs:s<60:=Nat.lt_of_lt_of_le h ho.nx;split
   ·exact Nx.yh n (s+1) ho
   ·have hg:A.gc (((R.met s).map MV.c).getD kQ):=by
     cases hm:R.met s with
     | none=>exact HA.IY
     | some v=>exact (ho.mt s v hm).1
    exact (Nx.prop HA HN ho hs hg).trans (Nx.yh n (s+1) (ho.prop HA hs hg).1)
  ·exact Nx.refl R
theorem Nx.lead (ho:Ok A R):Nx A R (qh A R):=by
 have n1:Nx A R { R with sc:={ R.sc with role:=2,next:=nG R.met R.log.length } }:=.of ⟨rfl,rfl,rfl,rfl⟩ rfl rfl;have n2:=Nx.yh HA HN 61 R.log.length (Ok.NK ho);exact (n1.trans n2).trans (.of ⟨rfl,rfl,rfl,rfl⟩ rfl rfl)
theorem Nx.Fg (ho:Ok A R) {i:Nat} (hi:i<5):Nx A R (mo A R i):=by
 have n1:Nx A R { R with sc:={ R.sc with prom:=kv R.sc.prom i } }:=.of ⟨rfl,rfl,rfl,rfl⟩ rfl rfl;unfold mo;split
 ·exact n1.trans (Nx.lead HA HN (ho.prom hi))
 ·exact n1
omit HA HN in
theorem Nx.raise (R:MR):Nx A R (eD R):=by
 unfold eD;split
 ·exact Nx.refl R
 ·exact .of ⟨rfl,rfl,rfl,rfl⟩ rfl rfl
theorem Nx.Sz (ho:Ok A R):Nx A R (oG A R):=by
 unfold oG;split
 ·have n1:Nx A R (uP R):=(Nx.raise R).trans (.of ⟨rfl,rfl,rfl,rfl⟩ rfl rfl)
  exact n1.trans (Nx.Fg HA HN ho.NM (Nat.lt_of_lt_of_le ho.i.1 ho.sz))
 ·exact Nx.refl R
theorem Nx.promise (ho:Ok A R) {f:Nat×Nat} (hf:f.2<5) (b:dh) {vs:List MV} (hv:∀ v∈vs,A.gc v.c∧v.slot<60):Nx A R (jq A R f b vs):=by
 unfold jq;split
 ·exact Nx.refl R
 ·have n1:Nx A R { R with met:=jV R.met vs }:=.of ⟨rfl,rfl,rfl,rfl⟩ rfl rfl
  exact n1.trans (Nx.Fg HA HN (ho.jV hv) hf)
theorem Nx.move (ho:Ok A R) {f:Nat×Nat} (hf:f.1<256∧f.2<256) {r:Rg} (hr:A.gc (oF r)):Nx A R (rJ A R f r):=by
 unfold rJ;split
 ·exact Nx.refl R
 ·split
  ·exact Nx.pI HN ho _ (T8.one hf)
  ·split
   ·exact Nx.offer HA HN ho hr
   ·exact Nx.refl R
theorem Nx.SK (ho:Ok A R) {p:Nat} {s:Int} (hp:A.gc (sS p s)):Nx A R (rM A R p s):=by
 unfold rM;split
 ·exact Nx.refl R
 ·split
  ·exact Nx.refl R
  ·split
   ·exact Nx.offer HA HN ho hp
   ·exact Nx.refl R
theorem Nx.take2 (ho:Ok A R) {f:Nat×Nat} (hf:f.1<256∧f.2<256) {m:MM} (hm:GM A R f m):Nx A R (qm A R f m):=by
 unfold qm;split
 ·rename_i k;exact Nx.ask HA HN ho (hm.ask k)
 split
 ·exact Nx.SH ho hf hm.bn
 split
 ·rename_i k;exact Nx.promise HA HN ho (hm.vs k).2.2 _ (hm.vs k).1
 split
 ·split
  ·exact Nx.stand R
  ·exact Nx.refl R
 split
 ·rename_i k;exact Nx.Fj HA ho hf hm.bn (hm.acc k).2
 split
 ·rename_i k;exact Nx.SI HA HN ho (hm.Ad k).2 m
 split
 ·rename_i k;exact Nx.agree HA HN ho (hm.dec k).2 (hm.dec k).1
 split
 ·rename_i k;exact Nx.move HA HN ho hf (hm.uR k).2.2.2
 split
 ·rename_i k
  have e:(m.peer.toNat:Int)=m.peer:=Int.toNat_of_nonneg (hm.pI k).1;exact Nx.SK HA HN ho (by rw [e];exact (hm.pI k).2.2)
 ·exact Nx.refl R
theorem Nx.take (ho:Ok A R) {f:Nat×Nat} (hf:f.1<256∧f.2<256) {d:ByteArray} (hm:∀ m,A.dec d=some m→¬ (f.1=255∧m.kind≠1)→GM A R f m):Nx A R (jB A R f d):=by
 unfold jB;split
 ·exact Nx.refl R
 ·rename_i m hd
  split
  ·exact Nx.refl R
  ·rename_i hn
   have g:=hm m hd hn;have n1:Nx A R (bR R m):=.of ⟨rfl,rfl,rfl,rfl⟩ rfl rfl;exact n1.trans (Nx.take2 HA HN (ho.seen g.bn) hf ⟨g.bn,g.ask,g.vs,g.acc,g.Ad,g.dec,g.uR,g.pI⟩)
omit HA HN in
theorem Nx.uQ (ho:Ok A R) (n:Nat):Nx A R (iC A.enc R n)∧Ok A (iC A.enc R n)∧(iC A.enc R n).st=R.st:=by
 unfold iC;generalize List.range n=l;induction l generalizing R with
 | nil=>exact ⟨Nx.refl R,ho,rfl⟩
 | cons k l ih =>
  rw [List.foldl_cons];have h1:Nx A R (Go.Proofs.YtignemioillaiabGreat.uQ A.enc R k)∧Ok A (Go.Proofs.YtignemioillaiabGreat.uQ A.enc R k)∧(Go.Proofs.YtignemioillaiabGreat.uQ A.enc R k).st=R.st:=by
   unfold Go.Proofs.YtignemioillaiabGreat.uQ;split
   ·rename_i c hc
    obtain ⟨q1,q2⟩:=ho.pp _ _ hc;exact ⟨Nx.sa ho q2 q1,ho.snd _ _ _,rfl⟩
   ·exact ⟨Nx.refl R,ho,rfl⟩
  obtain ⟨a1,a2,a3⟩:=ih h1.2.1;exact ⟨h1.1.trans a1,a2,a3.trans h1.2.2⟩
omit HA in
theorem Nx.wF (ho:Ok A R) (hs:R.st.g=R.sc.g) (n:Nat):Nx A R (iO A.enc R n):=by
 unfold iO;generalize List.range n=l;induction l generalizing R with
 | nil=>exact Nx.refl R
 | cons k l ih =>
  rw [List.foldl_cons];have h1:Nx A R (Go.Proofs.YtignemioillaiabGreat.wF A.enc R k)∧Ok A (Go.Proofs.YtignemioillaiabGreat.wF A.enc R k):=by
   unfold Go.Proofs.YtignemioillaiabGreat.wF;split
   ·exact ⟨Nx.refl R,ho⟩
   ·rename_i r rs hr
    refine ⟨Nx.snd (MG.move ?_) (T8.gI ?_ ho.sz),ho.snd _ _ _⟩;all_goals
     have hm:∃ o∈R.st.O,r∈o.2∧k<R.st.O.length:=by
      rw [List.getD_eq_getElem?_getD] at hr;cases ho:R.st.O[k]? with
      | none=>rw [ho] at hr;cases hr
      | some o =>
       rw [ho] at hr;exact ⟨o,List.mem_of_getElem? ho,by rw [show o.2=r::rs from hr];exact List.mem_cons_self,(List.getElem?_eq_some_iff.1 ho).1⟩
     obtain ⟨o,h1,h2,h3⟩:=hm;obtain ⟨e1,e2,e3⟩:=HN.lane _ ho.st o h1 r h2;have q2:=HN.lens _ ho.st;have:=ho.i.2.1
    ·exact ⟨by omega,by omega,e2,e3⟩
    ·omega
  obtain ⟨a1,a2⟩:=h1;refine a1.trans (ih a2 ?_);rw [a1.sd.2,a1.id.1];exact hs
theorem Nx.tick (ho:Ok A R) (hs:R.st.g=R.sc.g):Nx A R (mD A R):=by
 obtain ⟨o1,_,_,_⟩:=ho.bL HA;have n1:Nx A R (bL A R):=by
  unfold Go.Proofs.YtignemioillaiabGreat.bL;split
  ·exact Nx.Sz HA HN ho
  ·exact Nx.refl R
 unfold mD ym;have n2:Nx A (bL A R) (fJ A (bL A R)):=Nx.snd (MG.UD (.inl rfl) o1.sn.2.1) o1.pe;have o2:Ok A (fJ A (bL A R)):=o1.snd _ _ _;have n12:=n1.trans n2;split
 ·exact n1
 split
 ·obtain ⟨n3,o3,e3⟩:=Nx.uQ o2 (fJ A (bL A R)).sc.next
  have n13:=n12.trans n3;refine n13.trans (Nx.wF HN o3 ?_ _);rw [n13.sd.2,n13.id.1];exact hs
 ·exact n12
end
end
end Go.Proofs.YtignemioillaiabGreat
