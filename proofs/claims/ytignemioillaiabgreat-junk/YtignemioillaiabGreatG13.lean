/- join, whole; the walk from one select to the next. -/
import Derived.Test.YtignemioillaiabGreatG12
namespace Go.Proofs.YtignemioillaiabGreat
set_option maxHeartbeats 8000000
set_option maxRecDepth 100000
section
open Go Go.Conc
theorem ready_nil {ops:Array Oper} {l:Array Bool} (hr:Region.ready .any ops l=[]) (i:Nat) {o:Oper} (ho:ops[i]? = some o) (hd:∀ e∈o.after,Region.binds .any e=true->l.getD e.on false=true):l.getD i true=true:=by
 cases h:l.getD i true
 ·have:i∈Region.ready .any ops l:=mem_ready.2 ⟨h,o,ho,hd⟩
  rw [hr] at this;cases this
 ·rfl
section
variable {bc nb:Nat} {gv sv:Value} {p:bF} {q:List bF} {F F0:Nat->Prop} {w:World} {Stop:(Nat->Prop)->Goroutine->World->Prop} {cs:List Frame}
theorem XG {n:Nat} {l:Array Bool} {a:Act} (h:JI bc nb gv sv p q F0 n l F a w) (hn:n=0\/Region.ready .any IL l=[]):a.defers=[]/\(∀ x,F0 x->F x)/\(∀ x,F x->x<w.heap.size)/\∃ dx,w.heap[bc]? = some (.cells #[gv,dx] 118)/\w.ownsRow 0 97 5 dx (q.length+1) (flat (q++[p]))/\∀ g,dx.ownBlock=some g->F g:=by
 obtain ⟨b0,b1,b2,b3,b4,b5,b6,b7,b8,b9,b10,nG,nH,kg,iL,ko,kr,ku,dF,fK,fM,rfl,hs,rfl,hJ⟩:=h;have h10:b10=true:=by
  rcases hn with rfl | hr
  ·have tn:∀ b:Bool,b.toNat<=1:=λ b=>by cases b <;> decide
   have:=tn b0;have:=tn b1;have:=tn b2;have:=tn b3;have:=tn b4;have:=tn b5;have:=tn b6;have:=tn b7;have:=tn b8;have:=tn b9;cases b10
   ·simp at hs;omega
   ·rfl
  ·have hh:=λ i o ho hd=>ready_nil (i:=i) (o:=o) hr ho hd
   unfold IL at hh;simp only [F9,Tryz.f45,cr,co,Option.getD] at hh;have e0:=hh 0 _ rfl (by simp);have e1:=hh 1 _ rfl (by simp);have e5:=hh 5 _ rfl (by simp);simp only [Array.getD_eq_getD_getElem?,List.getElem?_toArray,List.getElem?_cons_succ,List.getElem?_cons_zero,Option.getD_some] at e0 e1 e5;subst e0 e1 e5;have e2:=hh 2 _ rfl (by simp);simp only [Array.getD_eq_getD_getElem?,List.getElem?_toArray,List.getElem?_cons_succ,List.getElem?_cons_zero,Option.getD_some] at e2;subst e2;have e3:=hh 3 _ rfl (by simp);simp only [Array.getD_eq_getD_getElem?,List.getElem?_toArray,List.getElem?_cons_succ,List.getElem?_cons_zero,Option.getD_some] at e3;subst e3;have e4:=hh 4 _ rfl (by simp);have e6:=hh 6 _ rfl (by simp);simp only [Array.getD_eq_getD_getElem?,List.getElem?_toArray,List.getElem?_cons_succ,List.getElem?_cons_zero,Option.getD_some] at e4 e6;subst e4 e6;have e7:=hh 7 _ rfl (by simp);simp only [Array.getD_eq_getD_getElem?,List.getElem?_toArray,List.getElem?_cons_succ,List.getElem?_cons_zero,Option.getD_some] at e7;subst e7;have e8:=hh 8 _ rfl (by simp);simp only [Array.getD_eq_getD_getElem?,List.getElem?_toArray,List.getElem?_cons_succ,List.getElem?_cons_zero,Option.getD_some] at e8;subst e8;have e9:=hh 9 _ rfl (by simp);simp only [Array.getD_eq_getD_getElem?,List.getElem?_toArray,List.getElem?_cons_succ,List.getElem?_cons_zero,Option.getD_some] at e9;subst e9;have e10:=hh 10 _ rfl (by simp);simpa using e10
 obtain ⟨y,hy,_,hy2⟩:=hJ.hc;obtain rfl:=hy2 h10;exact ⟨rfl,hJ.sub,hJ.vG,y,hy,(hJ.i7 (hJ.i10 h10)).1,(hJ.i7 (hJ.i10 h10)).2⟩
theorem XH {cF:Frame} (hF:F bc) (hC:w.heap[bc]? = some (.cells #[gv,sv] 118)) (ho:w.ownsRow 0 97 5 sv q.length (flat q)) (hof:∀ g,sv.ownBlock=some g->F g) (hin:∀ x,F x->x<w.heap.size) (hq:q.length<=20000)
 (h:∀ F' w' dx,(∀ x,F x->F' x)->(∀ x,F' x->x<w'.heap.size)->w'.heap[bc]? = some (.cells #[gv,dx] 118)->w'.ownsRow 0 97 5 dx ((q++[p]).take 20000).length (flat ((q++[p]).take 20000))->(∀ g,dx.ownBlock=some g->F' g)->aB Tryz.prog true Stop F' (G (cF.finish (.tuple #[])) cs) w') :
 aB Tryz.prog true Stop F (G (Frame.enter Tryz.prog 45 #[.pointer (some ⟨bc,0,none⟩),p.val] .normal) (cF::cs)) w:=by
 have hsl:∃ sa cap,sv=.slice sa q.length cap:=by
  rcases ho.2 with ⟨h,h0⟩ | ⟨g,cap,cur,h,_⟩
  ·exact ⟨none,0,by rw [h,h0]⟩
  ·exact ⟨_,cap,h⟩
 obtain ⟨sa,cap,hsl⟩:=hsl;have hlv:∀ (a':Act) (todo:List Item) (F':Nat->Prop) (w':World),a'.defers=[]->aB Tryz.prog true Stop F' (G (cF.finish (.tuple #[])) cs) w'->aB Tryz.prog true Stop F' (G { (Go.Conc.base 45).at a' todo with mode:=.returning } (cF::cs)) w':=λ a' todo F' w' hd hg =>
  aF.go rfl (λ w=>stepG_leave (b:=Go.Conc.base 45) (fn:=Tryz.f45) rfl hd Tryz.func45 (results_none rfl _ _ _) (events_results_none rfl _ _)) hg
 rw [VO];simp only [F9,Tryz.f45,Option.getD];refine aI.seq aF ?_;refine aI.region aF _ rfl ?_;simp [List.range,List.range.loop];refine aB.Hw rfl rfl (by decide) (ob:=.cells p.cells.toArray 97) (v:=λ n=>.pointer (some ⟨n,0,none⟩)) (λ w1=>by simp [go_sem]) (λ w1=>by unfold bF.val;go_simp;rfl) hin (λ w1 h1=>?_);simp [Act.put];have hst:=VP (bc:=bc) (nb:=w1.heap.size) (gv:=gv) (sv:=sv) (p:=p) (q:=q) (F0:=F) (Stop:=Stop) (k:=[]) (cs:=cF::cs);have hen:=λ n l a F' w'=>XG (bc:=bc) (nb:=w1.heap.size) (gv:=gv) (sv:=sv) (p:=p) (q:=q) (F0:=F) (n:=n) (l:=l) (a:=a) (F:=F') (w:=w')
 unfold IL at hst hen;simp only [F9,Tryz.f45,cr,co,Option.getD] at hst hen;have Pj:(w1.alloc (.cells p.cells.toArray 97)).heap[bc]? = some (.cells #[gv,sv] 118):=by rw [alloc_old (Nat.lt_of_lt_of_le (hin bc hF) h1.size),h1.own bc hF];exact hC
 refine aI.regionEnd aF ?_;refine aI.seq aF ?_;refine aI.region aF _ rfl ?_;simp [List.range,List.range.loop];refine aI.quiet aF rfl rfl (by decide) _ (λ _=>by go_simp <;> rfl) (λ _=>by simp [go_sem, *]) ?_;simp [Act.put];refine aI.quiet aF rfl rfl (by decide) _ (λ _=>by go_simp <;> rfl) (λ _=>by simp [go_sem, *]) ?_;simp [Act.put];refine aI.quiet aF rfl rfl (by decide) _ (λ _=>by go_simp <;> rfl) (λ _=>by simp [go_sem, *]) ?_;simp [Act.put];refine aB.Nh rfl rfl (by decide) 37 rfl rfl (.inl hF) Pj Tryz.underlying37 rfl rfl ?_;simp [Act.put];subst hsl;refine aI.quiet aF rfl rfl (by decide) _ (λ _=>by go_simp <;> rfl) (λ _=>by simp [go_sem, *]) ?_;simp [Act.put];refine aI.quiet aF rfl rfl (by decide) _ (λ _=>by go_simp <;> rfl) (λ _=>by simp [go_sem, *]) ?_;simp [Act.put];refine aI.regionEnd aF ?_;refine aI.cond aF (decide ((q.length:Int)<20000)) rfl ?_;have hg1:∀ x,F x->(w1.alloc (.cells p.cells.toArray 97)).heap[x]? = w.heap[x]?:=λ x hx=>by rw [alloc_old (Nat.lt_of_lt_of_le (hin x hx) h1.size),h1.own x hx]
 have hin1:∀ x,(F x\/x=w1.heap.size)->x<(w1.alloc (.cells p.cells.toArray 97)).heap.size:=λ x hx=>by
  rw [jk];rcases hx with hx | hx
  ·have:=hin x hx;have:=h1.size;omega
  ·omega
 by_cases hlt:q.length<20000
 ·have hlt':(q.length:Int)<20000:=by omega
  simp only [hlt',decide_true,if_true];have htk:(q++[p]).take 20000=q++[p]:=List.take_of_length_le (by simp;omega);rw [htk] at h;refine aB.drawn (by kernel_rfl) (JI bc w1.heap.size gv (.slice sa q.length cap) p q F) (λ w2 h2=>?_) (λ n l F a w i rest=>hst hlt n l F a w i rest) (λ n l F' a w' hI hn=>?_)
  ·refine ⟨false,false,false,false,false,false,false,false,false,false,false,undef,undef,undef,undef,undef,undef,undef,undef,undef,undef,rfl,rfl,rfl,JS.rely ?_ h2⟩
   exact ⟨nofun,nofun,nofun,nofun,nofun,nofun,nofun,nofun,λ x hx=>.inl hx,hin1,.inl hF,λ _=>⟨.inr rfl,iK _ _⟩,nofun,nofun,⟨_,Pj,λ _=>rfl,nofun⟩,nofun,nofun,λ _=>⟨aA ho λ g hg=>hg1 g (hof g hg),λ g hg=>.inl (hof g hg)⟩,nofun⟩
  ·obtain ⟨hd,hsub,hin',dx,e1,e2,e3⟩:=hen _ _ _ _ _ hI hn
   exact aI.fin aF (hlv a _ F' w' hd (h F' w' dx hsub hin' e1 (by simpa using e2) e3))
 ·have hlt':¬ (q.length:Int)<20000:=by omega
  simp only [hlt',decide_false,Bool.false_eq_true,if_false];have htk:(q++[p]).take 20000=q:=by
   rw [List.take_append_of_le_length (by omega),List.take_of_length_le (by omega)]
  rw [htk] at h;refine aI.skip aF ?_;refine aI.fin aF (hlv _ _ _ _ rfl (h _ _ _ (λ x hx=>.inl hx) hin1 Pj (aA ho λ g hg=>hg1 g (hof g hg)) λ g hg=>.inl (hof g hg)))
end
noncomputable def Ea (bc:Nat) (gv r wk:Value) (pk th:Nat) (q0:List bF) (cs:List Frame) (acc:List Value) (F:Nat->Prop) (a:Goroutine) (w:World):Prop :=
 ∃ ps:List bF,acc=ps.map bF.val/\∃ sv x8 dF fK fM x20 qK qL qM x24,a=zb (.pointer (some ⟨bc,0,none⟩)) r wk pk th x8 dF fK fM x20 qK qL qM x24 cs/\F bc/\w.heap[bc]? = some (.cells #[gv,sv] 118) /\
  w.ownsRow 0 97 5 sv ((q0++ps).take 20000).length (flat ((q0++ps).take 20000))/\(∀ g,sv.ownBlock=some g->F g)/\∀ x,F x->x<w.heap.size
section
variable {bc:Nat} {gv r wk:Value} {pk th:Nat} {q0:List bF} {cs:List Frame}
theorem Ea.rely {acc:List Value} {F:Nat->Prop} {a:Goroutine} {w w1:World} (h:Ea bc gv r wk pk th q0 cs acc F a w) (hr:aO F w w1):Ea bc gv r wk pk th q0 cs acc F a w1:=by
 obtain ⟨ps,e,sv,x8,dF,fK,fM,x20,qK,qL,qM,x24,h1,h2,h3,h4,h5,h6⟩:=h;exact ⟨ps,e,sv,x8,dF,fK,fM,x20,qK,qL,qM,x24,h1,h2,(hr.own _ h2).trans h3,aA h4 λ g hg=>hr.own g (h5 g hg),h5,λ x hx=>Nat.lt_of_lt_of_le (h6 x hx) hr.size⟩
theorem IM (c r wk:Value) (pk th:Nat) (x8 dF fK fM x20 qK qL qM x24:Value) (cs:List Frame) (i:Int) (v:Value) (ok:Bool):(zb c r wk pk th x8 dF fK fM x20 qK qL qM x24 cs).finishComm Tryz.prog (dw pk th z59 tC) .select i v ok =
 G ((Go.Conc.base 47).at ⟨zW c r wk pk th x8 (commResult (dw pk th z59 tC) .select i v ok) fK fM x20 qK qL qM x24,[]⟩ (.inRegion BQ [1,2,3]::IK)) cs:=by
 show G (((Go.Conc.base 47).at ⟨zW c r wk pk th x8 dF fK fM x20 qK qL qM x24,[]⟩ (.inRegion BQ [0,1,2,3]::IK)).finish (commResult (dw pk th z59 tC) .select i v ok)) cs=_;rw [Frame.finish_at];have:(BQ[0]?).bind (·.dst)=some 17:=by
  unfold BQ;simp only [IJ,II,c59,Tryz.f47,cl,cr,cb,co,Option.getD];rfl
 rw [this];rfl
theorem aan (v:Value):commResult (dw pk th z59 tC) .select 0 v true=.tuple #[.int .i64 0,.bool true,v,tC]:=by
 simp [commResult,dw,rcase,goInt]
theorem aao (v:Value):commResult (dw pk th z59 tC) .select 1 v false=.tuple #[.int .i64 1,.bool false,z59,v]:=by
 simp [commResult,dw,rcase,goInt]
theorem Si {acc:List Value} {F:Nat->Prop} {a:Goroutine} {w:World} (h:Ea bc gv r wk pk th q0 cs acc F a w) (hq:q0.length<=20000) :
 ∃ A2,iC Tryz.prog (dw pk th z59 tC) A2 a/\∀ v,(∃ p:bF,v=p.val)->aB Tryz.prog true (Ea bc gv r wk pk th q0 cs (acc++[v])) F (A2.finishComm Tryz.prog (dw pk th z59 tC) .select 0 v true) w:=by
 obtain ⟨ps,rfl,sv,x8,dF,fK,fM,x20,qK,qL,qM,x24,rfl,g2,h3,h4,h5,h6⟩:=h;refine ⟨_,Bf _ _ _ _ _ _ _ _ _ _ _ _ _ _ _,?_⟩;rintro _ ⟨p,rfl⟩;rw [IM,aan];have hend:∀ (F':Nat->Prop) (w':World) (dx y8 XI XJ XK y20 y21 y22 y23 y24:Value),F' bc->(∀ x,F' x->x<w'.heap.size)->w'.heap[bc]? = some (.cells #[gv,dx] 118)->w'.ownsRow 0 97 5 dx ((q0++(ps++[p])).take 20000).length (flat ((q0++(ps++[p])).take 20000))->(∀ g,dx.ownBlock=some g->F' g) ->
  aB Tryz.prog true (Ea bc gv r wk pk th q0 cs (ps.map bF.val++[p.val])) F' (zb (.pointer (some ⟨bc,0,none⟩)) r wk pk th y8 XI XJ XK y20 y21 y22 y23 y24 cs) w':=by
  intro F' w' dx y8 XI XJ XK y20 y21 y22 y23 y24 k1 k2 k3 k4 k5;refine aB.stop λ w1 h1=>Ea.rely ?_ h1
  exact ⟨ps++[p],by simp,dx,y8,XI,XJ,XK,y20,y21,y22,y23,y24,rfl,k1,k3,k4,k5,k2⟩
 unfold zb zW BQ IK at hend;unfold zW BQ IK;simp only [IJ,II,c59,Tryz.f47,cl,cr,cb,co,Option.getD] at hend |-;refine aI.quiet aF rfl rfl (by decide) _ (λ _=>by go_simp <;> rfl) (λ _=>by simp [go_sem, *]) ?_;simp [Act.put];refine aI.quiet aF rfl rfl (by decide) _ (λ _=>by go_simp <;> rfl) (λ _=>by simp [go_sem, *]) ?_;simp [Act.put];refine aI.quiet aF rfl rfl (by decide) _ (λ _=>by go_simp <;> rfl) (λ _=>by simp [go_sem, *]) ?_;simp [Act.put];refine aI.regionEnd aF ?_;refine aI.block aF ?_;refine aI.cond aF true rfl ?_;simp only [if_true];refine aI.seq aF ?_;refine aI.region aF _ rfl ?_;simp [List.range,List.range.loop];refine aI.quiet aF rfl rfl (by decide) _ (λ _=>by go_simp <;> rfl) (λ _=>by simp [go_sem, *]) ?_;simp [Act.put];refine aB.Hw rfl rfl (by decide) (ob:=.cells #[.int .u8 0,.int .u8 0,.int .u8 0,.int .u8 0,.string ⟨#[]⟩] 97) (v:=λ n=>.pointer (some ⟨n,0,none⟩)) (λ w1=>by simp [go_sem]) (λ w1=>by go_simp) h6 (λ w1 h1=>?_);simp [Act.put];refine aB.D9 rfl rfl (by decide) 97 rfl rfl (v:=.agg p.cells.toArray) rfl (.inr rfl) (B:=w1.heap.size) (xs:=#[.int .u8 0,.int .u8 0,.int .u8 0,.int .u8 0,.string ⟨#[]⟩]) (t:=97) (iK w1 _) (by kernel_rfl) rfl (Nat.le_refl 5) p.cells rfl (λ w2 w3 h2 hb3 Ni R8 XC XD=>?_);simp [Act.put];have hs2:w1.heap.size+1<=w2.heap.size:=by rw [<- jk];exact h2.size
 have hold:∀ x,F x->w3.heap[x]? = w.heap[x]?:=λ x hx=>by
  have hx1:x<w1.heap.size:=Nat.lt_of_lt_of_le (h6 x hx) h1.size;rw [Ni x (by omega),h2.own x (.inl hx),<- h1.own x hx,alloc_old hx1]
 refine aI.regionEnd aF ?_;refine aI.region aF _ rfl ?_;simp [List.range,List.range.loop];refine aI.quiet aF rfl rfl (by decide) _ (λ _=>by go_simp <;> rfl) (λ _=>by simp [go_sem, *]) ?_;simp [Act.put];refine aB.Hy rfl rfl (by decide) 97 rfl rfl (.inr rfl) hb3 Tryz.underlying97 rfl (n:=5) (by kernel_rfl) (Nat.le_refl 5) p.cells rfl ?_;simp [Act.put];refine aI.call aF rfl rfl (by decide) rfl Tryz.func45 (by kernel_rfl) (by rw [Pg];rfl) ?_;simp [Act.eval];have Sj:∀ x,(F x\/x=w1.heap.size)->x<w3.heap.size:=λ x hx=>by
  rcases hx with hx | hx
  ·have:=h6 x hx;have:=h1.size;omega
  ·omega
 refine XH (q:=(q0++ps).take 20000) (.inl g2) ((hold bc g2).trans h3) (aA h4 λ g hg=>hold g (h5 g hg)) (λ g hg=>.inl (h5 g hg)) Sj (by simp;omega) (λ F' w' dx k1 k2 k3 k4 k5=>?_);rw [Frame.finish_at];simp [Act.put];refine aI.regionEnd aF ?_;refine aI.inBlock aF ?_;refine aI.inBlock aF ?_;refine aI.inLoop aF ?_;refine aI.block aF ?_;refine aI.seq aF ?_;refine aI.seq aF ?_;refine aI.region aF _ rfl ?_;simp [List.range,List.range.loop];refine aI.quiet aF rfl rfl (by decide) _ (λ _=>by go_simp <;> rfl) (λ _=>by simp [go_sem, *]) ?_;simp [Act.put];refine aI.regionEnd aF ?_;refine aI.region aF _ rfl ?_;simp [List.range,List.range.loop];refine aI.quiet aF rfl rfl (by decide) _ (λ _=>by go_simp <;> rfl) (λ _=>by simp [go_sem, *]) ?_;simp [Act.put];refine aI.regionEnd aF ?_;refine aI.seq aF ?_;refine aI.region aF _ rfl ?_;simp [List.range,List.range.loop];refine hend F' w' dx _ _ _ _ _ _ _ _ _ (k1 _ (.inl g2)) k2 k3 ?_ k5;have htk:(q0++(ps++[p])).take 20000=((q0++ps).take 20000++[p]).take 20000:=by
  rw [<- List.append_assoc,List.take_append (l₁:=q0++ps),List.take_append (l₁:=(q0++ps).take 20000),List.take_take,Nat.min_self];congr 1
  rw [List.length_take];by_cases hle:(q0++ps).length<=20000
  ·rw [Nat.min_eq_right hle]
  ·rw [Nat.min_eq_left (by omega)]
   congr 1
   omega
 rw [htk];exact k4
end
theorem val_inj {p q:bF} (h:p.val=q.val):p=q:=by
 cases p
 cases q
 simp only [bF.val,Value.agg.injEq,Array.mk.injEq,List.cons.injEq,Value.int.injEq,Value.string.injEq,true_and,and_true] at h;obtain ⟨rfl,rfl,rfl,rfl,rfl⟩:=h;rfl
theorem IP:∀ {ps qs:List bF},ps.map bF.val=qs.map bF.val->ps=qs
 | [],[],_=>rfl
 | [],_::_,h=>by cases h
 | _::_,[],h=>by cases h
 | p::ps,q::qs,h=>by
  injection h with h1 h2;rw [val_inj h1,IP h2]
theorem VQ {bc br:Nat} {gv r wk x rv:Value} {pk th:Nat} {q0:List bF} {cs:List Frame} {rc:Array Value} {tR:TypeId} {sl:Value} {ps:List bF} (hq:q0.length<=20000) (hn:ps.length<1000000) (hrc:20<rc.size) (s:Score) (e1:s.pk=pk) (e2:s.th=th) (e3:s.z0=z59) (e4:s.z1=tC) :
 Parts Tryz.prog s (Ea bc gv r wk pk th q0 cs) (y7 br pk rc tR sl ps (rz rv wk pk th x [y9 th]) [iP Tryz.prog]) (λ v=>∃ p:bF,v=p.val):=by
 have hcs:s.cs=dw pk th z59 tC:=by unfold Score.cs;rw [e1,e2,e3,e4]
 refine ⟨λ acc F a w w1 h hr=>h.rely hr,λ vs F b w w1 h hr=>h.rely hr,λ acc F a w h=>?_,λ v vs F b w h=>?_,λ F b w h=>?_⟩
 ·rw [hcs]
  exact Si h hq
 ·rw [e1]
  exact VL rfl hn hrc h
 ·obtain ⟨rfl,_⟩:=h
  refine ⟨rfl,rfl,G { (baseD 77).at ⟨xY rv wk pk th x,[]⟩ [] with mode:=.returning } [iP Tryz.prog],2,IE Tryz.func77 (by kernel_rfl),λ w1 kt hw=>?_⟩;rw [e2] at hw |-;exact Nk (b:=baseD 77) (by kernel_rfl) w1 hw
section
variable {K:Machine->Trace->Prop} {w:World} {bc br:Nat} {gv sv wk:Value} {q0:List bF} {cs:List Frame} {cF:Frame} {f:FuncId} {fst cap:Array Value} {fn:Func}
structure IQ (bc br:Nat) (gv sv sl:Value) (q0 ps:List bF) (rc:Array Value) (tR:TypeId) (pk:Nat) (w3 w4:World):Prop where
 eH:∃ dx,w4.heap[bc]? = some (.cells #[gv,dx] 118)/\w4.ownsRow 0 97 5 dx ((q0++ps).take 20000).length (flat ((q0++ps).take 20000))/\∀ g,dx.ownBlock=some g->sv.ownBlock=some g\/w3.heap.size<=g
 rep:w4.heap[br]? = some (.cells (rc.setIfInBounds 20 (.slice none 0 0)) tR)
 rest:∀ x,x<w3.heap.size->x≠bc->x≠br->some x≠sv.ownBlock->some x≠sl.ownBlock->x≠pk->x≠pk+1->w4.heap[x]? = w3.heap[x]?
 size:w3.heap.size<=w4.heap.size
 os:w4.os=w3.os
 out:w4.output=w3.output
structure Written (bc br:Nat) (gv sv sl:Value) (q0 ps:List bF) (rc:Array Value) (tR:TypeId) (pk:Nat) (w3:World):Prop where
 eH:w3.heap[bc]? = some (.cells #[gv,sv] 118)
 row:w3.ownsRow 0 97 5 sv q0.length (flat q0)
 rep:w3.heap[br]? = some (.cells rc tR)
 out:rc[20]? = some sl
 box:w3.ownsRow 0 97 5 sl ps.length (flat ps)
 few:ps.length<1000000
 ne1:bc≠br
 Lf:some br≠sv.ownBlock
 ne3:some bc≠sl.ownBlock
 ne4:∀ g,sv.ownBlock=some g->some g≠sl.ownBlock
 ch:w3.heap[pk]? = some (.chan 0 #[] false 0 0 false)/\w3.heap[pk+1]? = some (.chan 0 #[] false 0 0 false)
theorem xn {w:World} {sv:Value} {n:Nat} {xs:List Value} (h:w.ownsRow 0 97 5 sv n xs) {g:Nat} (hg:sv.ownBlock=some g):∃ cur,w.heap[g]? = some (.cells cur 97):=by
 rcases h.2 with ⟨rfl,_⟩ | ⟨g',cap,cur,rfl,_,hb,_⟩
 ·cases hg
 ·obtain rfl:g'=g:=by simpa [Value.ownBlock] using hg
  exact ⟨cur,hb⟩
theorem Pk (hX:Shut Tryz.prog true xg (XR Tryz.prog K)) {c r:Value} {pk th:Nat} {x8 dF fK fM x20 qK qL qM x24:Value} (h:XR Tryz.prog K (G (cF.finish (.tuple #[])) cs) w) :
 XR Tryz.prog K ((zb c r wk pk th x8 dF fK fM x20 qK qL qM x24 (cF::cs)).finishComm Tryz.prog (dw pk th z59 tC) .select 1 tC false) w:=by
 rw [IM,aao];unfold zW BQ IK;simp only [IJ,II,c59,Tryz.f47,cl,cr,cb,co,Option.getD];refine aI.quiet hX.c rfl rfl (by decide) _ (λ _=>by go_simp <;> rfl) (λ _=>by simp [go_sem, *]) ?_;simp [Act.put];refine aI.quiet hX.c rfl rfl (by decide) _ (λ _=>by go_simp <;> rfl) (λ _=>by simp [go_sem, *]) ?_;simp [Act.put];refine aI.quiet hX.c rfl rfl (by decide) _ (λ _=>by go_simp <;> rfl) (λ _=>by simp [go_sem, *]) ?_;simp [Act.put];refine aI.regionEnd hX.c ?_;refine aI.block hX.c ?_;refine aI.cond hX.c false rfl ?_;simp only [Bool.false_eq_true,if_false];refine aI.cond hX.c true rfl ?_;simp only [if_true];refine aI.ret hX.c ?_;exact hX.c.go rfl (λ w=>stepG_leave (b:=Go.Conc.base 47) (fn:=Tryz.f47) rfl rfl Tryz.func47 (results_none (by kernel_rfl) _ _ _) (events_results_none (by kernel_rfl) _ _)) h
theorem VR (c r wk:Value) (pk th:Nat) (cs:List Frame) (w:World):stepG Tryz.prog true (G ((Go.Conc.base 47).at ⟨#[c,r,wk,undef,undef,undef,.chan (some pk),.chan (some th),undef,.chan (some pk),.chan (some th),r,wk,.chan (some pk),.chan (some th),undef,undef,undef,undef,undef,undef,undef,undef,undef,undef],[]⟩ [.inRegion (co (cl (cr (cr c59)))) [4],.code (cr (cr (cr c59)))]) cs) w =
 .spawn (G ((Go.Conc.base 47).at ⟨#[c,r,wk,undef,undef,undef,.chan (some pk),.chan (some th),undef,.chan (some pk),.chan (some th),r,wk,.chan (some pk),.chan (some th),undef,undef,undef,undef,undef,undef,undef,undef,undef,undef],[]⟩ [.inRegion (co (cl (cr (cr c59)))) [],.code (cr (cr (cr c59)))]) cs) (born Tryz.prog (dcall 77 #[r,wk,.chan (some pk),.chan (some th)])) w #[]:=by
 simp only [c59,Tryz.f47,cl,cr,co,Option.getD];rw [stepG_spawn rfl rfl (by decide) (d:=dcall 77 #[r,wk,.chan (some pk),.chan (some th)]) (w':=w) (by go_simp;rfl) rfl,listed_none (by simp [go_sem])];rfl
theorem dB.imp {P:Program} {main:Bool} {R:World->World->Prop} {D:World->World->Array Event->Prop} {Stop Stop':Goroutine->World->Prop} {g:Goroutine} {w:World} (h:dB P main R D Stop g w) (hs:∀ g w,Stop g w->Stop' g w):dB P main R D Stop' g w :=
 h (λ g w=>dB P main R D Stop' g w) (λ _ _ h=>.stop λ w₁ h1=>hs _ _ (h w₁ h1)) λ _ _ hr h=>.step hr h
theorem VS (hf : Tryz.prog.funcs[f]? = some fn) (hname : (fn.name == "runtime.NumGoroutine") = false) (hb : fn.body.isNone = false) (hq : q0.length ≤ 20000)
 {Q1:World->Prop} {R3:Value->List bF->Array Value->TypeId->World->Prop}
 (Eb:af Tryz.prog f (fst++cap) ((w.alloc (.chan 0 #[] false 0 0 false)).alloc (.chan 0 #[] false 0 0 false)) (λ _ w'=>Q1 w'))
 (XL:∀ w₁,Q1 w₁->Nj Tryz.prog 134 (Tryz.f134.body.getD .skip) { tmps:=#[.pointer (some ⟨br,0,none⟩)]++Array.replicate (Tryz.f134.ntmps - (#[.pointer (some ⟨br,0,none⟩)]:Array Value).size) undef,defers:=[] } w₁ (λ _ w'=>∃ sl ps rc tR,Written bc br gv sv sl q0 ps rc tR w.heap.size w'/\R3 sl ps rc tR w'))
 (h:∀ sl ps rc tR w3 w4,Written bc br gv sv sl q0 ps rc tR w.heap.size w3->R3 sl ps rc tR w3->IQ bc br gv sv sl q0 ps rc tR w.heap.size w3 w4->XR Tryz.prog K (G (cF.finish (.tuple #[])) cs) w4) :
 XR Tryz.prog K (G (Frame.enter Tryz.prog 47 #[.pointer (some ⟨bc,0,none⟩),.pointer (some ⟨br,0,none⟩),.func (.func f) fst cap] .normal) (cF::cs)) w:=by
 refine Ky lT ?_;obtain ⟨n,hn⟩:=Pf (.pointer (some ⟨bc,0,none⟩)) (.pointer (some ⟨br,0,none⟩)) (.func (.func f) fst cap) w.heap.size (w.heap.size+1) (cF::cs);have hpk:dD ((w.alloc (.chan 0 #[] false 0 0 false)).alloc (.chan 0 #[] false 0 0 false)) w.heap.size 0:=by
  unfold dD;rw [alloc_old (by rw [jk];omega),iK]
 have hth:dD ((w.alloc (.chan 0 #[] false 0 0 false)).alloc (.chan 0 #[] false 0 0 false)) (w.heap.size+1) 0:=by
  unfold dD;have:=iK (w.alloc (.chan 0 #[] false 0 0 false)) (.chan 0 #[] false 0 0 false);rwa [jk] at this
 generalize afI:w.heap.size=pk at *;let ny:Goroutine->World->Prop:=λ g w'=>∃ sl ps rc tR w3 F' x,Written bc br gv sv sl q0 ps rc tR pk w3/\R3 sl ps rc tR w3/\y7 br pk rc tR sl ps (rz (.pointer (some ⟨br,0,none⟩)) (.func (.func f) fst cap) pk (pk+1) x [y9 (pk+1)]) [iP Tryz.prog] (ps.map bF.val) F' g w'/\D7 (λ x=>x=br\/some x=sl.ownBlock) w3 F' w'
 refine hire (ny:=ny) rfl (λ w₁=>VR _ _ _ _ _ _ w₁) hn hpk hth (by omega) ?_ ?_
 ·-- the worker
  refine Hr uE hf hname hb ?_;refine Eb false _ _ _ uE λ fr v w' _ hl hQ=>uE.back hl ?_
  refine Ht uE ?_;have key:∀ (sl:Value) (ps:List bF) (rc:Array Value) (tR:TypeId) (w3:World),Written bc br gv sv sl q0 ps rc tR pk w3->R3 sl ps rc tR w3->dB Tryz.prog false cu (DW pk (pk+1)) ny (G (rz (.pointer (some ⟨br,0,none⟩)) (.func (.func f) fst cap) pk (pk+1) v [dcall 133 #[.pointer (some ⟨br,0,none⟩),.chan (some pk)],y9 (pk+1)]) [iP Tryz.prog]) w3:=by
   intro sl ps rc tR w3 hW Pm;refine IG uE ?_;have hnot:∀ c,w3.heap[c]? = some (.chan 0 #[] false 0 0 false)->¬ (c=br\/some c=sl.ownBlock):=by
    rintro c hc (rfl | h)
    ·rw [hW.rep] at hc;cases hc
    ·obtain ⟨cur,aR⟩:=xn hW.box h.symm
     rw [hc] at aR;cases aR
   have XM:∀ x,(x=br\/some x=sl.ownBlock)->x<w3.heap.size:=by
    rintro x (rfl | h)
    ·exact ag hW.rep
    ·obtain ⟨cur,aR⟩:=xn hW.box h.symm
     exact ag aR
   have hgo:=R9 (br:=br) (pk:=pk) (tR:=tR) (cR:=rz (.pointer (some ⟨br,0,none⟩)) (.func (.func f) fst cap) pk (pk+1) v [y9 (pk+1)]) (cs1:=[iP Tryz.prog]) (F:=λ x=>x=br\/some x=sl.ownBlock) rfl hW.few (.inl rfl) hW.rep hW.out hW.box (λ g hg=>.inr hg.symm) XM;refine (hgo.toU (pk:=pk) (th:=pk+1) (hnot _ hW.ch.1) (hnot _ hW.ch.2) (ag hW.ch.1) (ag hW.ch.2) XM).imp ?_;rintro g w' ⟨F',h1,h2⟩;exact ⟨sl,ps,rc,tR,w3,F',v,hW,Pm,h1,h2⟩
  rw [enter_atD #[.pointer (some ⟨br,0,none⟩)] Tryz.func134 (c:=Tryz.f134.body.getD .skip) rfl];refine XL w' hQ false _ _ (baseD 134) _ uE rfl (by decide) λ a' todo w3 hd hq=>?_
  obtain ⟨sl,ps,rc,tR,hW,Pm⟩:=hq;refine uE.c.go rfl (λ w=>stepG_leave_deferred (b:=baseD 134) (fn:=Tryz.f134) rfl hd Tryz.func134 (results_none (by kernel_rfl) _ _ _) (events_results_none (by kernel_rfl) _ _) rfl) ?_;exact key sl ps rc tR w3 hW Pm
 ·-- the meeting
  rintro b w' ⟨sl,ps,rc,tR,w3,F',x,hW,Pm,hSW,hS0⟩;have hrc:20<rc.size:=(Array.getElem?_eq_some_iff.1 hW.out).1;have hF':∀ c,¬ (c=br\/some c=sl.ownBlock)->c<w3.heap.size->¬ F' c:=λ c hc hl hx=>by
   rcases hS0.own c hx with h | h
   ·exact hc h
   ·omega
  have hbc:¬ (bc=br\/some bc=sl.ownBlock):=λ h=>h.elim hW.ne1 hW.ne3
  have hsv:∀ g,sv.ownBlock=some g->¬ (g=br\/some g=sl.ownBlock):=λ g hg h=>h.elim (λ e=>hW.Lf (by rw [hg,e])) (hW.ne4 g hg)
  have Np:∀ g,sv.ownBlock=some g->g<w3.heap.size:=λ g hg=>by
   obtain ⟨cur,aR⟩:=xn hW.row hg;exact ag aR
  have hnot:∀ c,w3.heap[c]? = some (.chan 0 #[] false 0 0 false)->¬ (c=br\/some c=sl.ownBlock):=by
   rintro c hc (rfl | h)
   ·rw [hW.rep] at hc;cases hc
   ·obtain ⟨cur,aR⟩:=xn hW.box h.symm
    rw [hc] at aR;cases aR
  have UF:∀ c,w3.heap[c]? = some (.chan 0 #[] false 0 0 false)->¬ (c=bc\/some c=sv.ownBlock):=by
   rintro c hc (rfl | h)
   ·rw [hW.eH] at hc;cases hc
   ·obtain ⟨cur,aR⟩:=xn hW.row h.symm
    rw [hc] at aR;cases aR
  have htk:q0.take 20000=q0:=List.take_of_length_le hq;have XN:w'.heap[bc]? = some (.cells #[gv,sv] 118):=(hS0.rest bc (ag hW.eH) hbc).trans hW.eH;have hrow:w'.ownsRow 0 97 5 sv q0.length (flat q0):=aA hW.row λ g hg=>hS0.rest g (Np g hg) (hsv g hg)
  have XO:∀ x,(x=bc\/some x=sv.ownBlock)->x<w'.heap.size:=by
   rintro x (rfl | h)
   ·exact ag XN
   ·have:=Np x h.symm;have:=hS0.size;omega
  refine ⟨Ea bc gv (.pointer (some ⟨br,0,none⟩)) (.func (.func f) fst cap) pk (pk+1) q0 (cF::cs),y7 br pk rc tR sl ps (rz (.pointer (some ⟨br,0,none⟩)) (.func (.func f) fst cap) pk (pk+1) x [y9 (pk+1)]) [iP Tryz.prog],(λ v=>∃ p:bF,v=p.val),ps.map bF.val,(λ x=>x=bc\/some x=sv.ownBlock),F',⟨λ s e1 e2 e3 e4=>VQ hq hW.few hrc s e1 e2 e3 e4,hSW,?_,?_,XO,hS0.vG,⟨UF _ hW.ch.1,UF _ hW.ch.2⟩,⟨hF' _ (hnot _ hW.ch.1) (ag hW.ch.1),hF' _ (hnot _ hW.ch.2) (ag hW.ch.2)⟩⟩,?_⟩
  ·exact ⟨_,⟨[],rfl,sv,_,_,_,_,_,_,_,_,_,rfl,.inl rfl,XN,by simpa [htk] using hrow,λ g hg=>.inr hg.symm,XO⟩,Bf _ _ _ _ _ _ _ _ _ _ _ _ _ _ _⟩
  ·rintro y (rfl | hy)
   ·exact hF' _ hbc (ag hW.eH)
   ·exact hF' _ (hsv y hy.symm) (Np y hy.symm)
  ·intro vE yY KZ a0 b0 w4 hM hat hWn hD
   obtain ⟨ps',e,dx,x8,dF,fK,fM,x20,qK,qL,qM,x24,rfl,k2,k3,k4,k5,k6⟩:=hM;obtain rfl:=IP e;obtain rfl:=hat.inj (Bf _ _ _ _ _ _ _ _ _ _ _ _ _ _ _) w4;refine Pk lT (h sl ps rc tR w3 w4 hW Pm ⟨⟨dx,k3,k4,λ g hg=>?_⟩,hWn.2.2.1,λ y hy h1 h2 h3 h4 h5 h6=>?_,Nat.le_trans hS0.size hD.size,hD.os.trans hS0.os,hD.out.trans hS0.out⟩)
   ·by_cases hl:g<w'.heap.size
    ·rcases hD.zP g hl (k5 g hg) with rfl | h
     ·exact absurd (by rw [hg]) (Fx k4 k3)
     ·exact .inl h.symm
    ·exact .inr (by have:=hS0.size;omega)
   ·have acN:=hF' y (λ h=>h.elim h2 h4) hy
    rw [hD.rest y (Nat.lt_of_lt_of_le hy hS0.size) (λ h=>h.elim h1 h3) acN h5 h6];exact hS0.rest y hy λ h=>h.elim h2 h4
end
section
variable {P:Program} {f:FuncId} {args:Array Value} {w:World} {Post:Value->World->Prop}
end
section
variable {P:Program} {main:Bool} {D:World->World->Array Event->Prop} {X:Goroutine->World->Prop} {w:World} {b:Frame} {a:Act} {k:List Item} {cs:List Frame} {ops:Array Oper} {i:Nat} {rest:List Nat} {o:Oper}
theorem CJ {A:FuncId->Bool} {S:FuncId->List Nat} {fn:FuncId} {ρ:Operand->Value} (h:RD A S fn o.op=true) (hc:Io o.op=true):Plain [] (execOp ρ o):=(RF h hc).1
theorem pF {ρ:Operand->Value} {bt:Builtin} {ar:Array Operand} {ats:Array TypeId} (hop:o.op=.call { callee:=.builtin bt,args:=ar,argTypes:=ats }) (h:zJ bt=true):Plain [] (execOp ρ o):=by
 have e:execOp ρ o=builtin bt ats o.type (ar.map λ | .const _=>true | _=>false) (ar.map ρ):=by
  unfold execOp;rw [hop];rfl
 rw [e];exact (Na h _ _ _ _).1
theorem tX {ρ:Operand->Value} {ty:TypeId} {x:Operand} (hop:o.op=.load ty x):Plain [] (execOp ρ o):=CJ (A:=λ _=>false) (S:=λ _=>[]) (fn:=0) (by rw [hop];rfl) (by rw [hop];rfl)
theorem KC {ρ:Operand->Value} {ty:TypeId} {x y:Operand} (hop:o.op=.store ty x y):Plain [] (execOp ρ o):=CJ (A:=λ _=>false) (S:=λ _=>[]) (fn:=0) (by rw [hop];rfl) (by rw [hop];rfl)
end
section
variable (P:Program) (X:Goroutine->World->Prop) (b:Frame) (k:List Item) (cs:List Frame) (ops:Array Oper) (S:World->Prop) (z:Nat)
end
section
variable {P:Program} {main:Bool} {D:World->World->Array Event->Prop} {X:Goroutine->World->Prop} {b:Frame} {k:List Item} {cs:List Frame} {ops:Array Oper} {S:World->Prop} {z:Nat}
theorem af.same {f:FuncId} {args:Array Value} {w w₁:World} {Post:Value->World->Prop} (h:af P f args w Post) (hs:cu w w₁):af P f args w₁ Post:=λ main D X cs hX hk=>hX.rely hs (h main D X cs hX hk)
end
section
variable {P:Program} {ops:Array Oper}
end
structure GB (r:Option Nat) (w w':World):Prop where
 os:w'.os=w.os
 out:w'.output=w.output
 size:w.heap.size<=w'.heap.size
 block:∀ x,x<w.heap.size->some x≠r->w'.heap[x]? = w.heap[x]?
theorem GB.refl (r:Option Nat) (w:World):GB r w w:=⟨rfl,rfl,Nat.le_refl _,λ _ _ _=>rfl⟩
theorem GB.trans {r:Option Nat} {a b c:World} (h:GB r a b) (k:GB r b c):GB r a c:=⟨k.os.trans h.os,k.out.trans h.out,Nat.le_trans h.size k.size,λ x hx hr=>(k.block x (Nat.lt_of_lt_of_le hx h.size) hr).trans (h.block x hx hr)⟩
theorem GB.only {b:Nat} {w w':World} (h:Only b w w'):GB (some b) w w':=⟨h.os,h.output,Nat.le_of_eq h.size.symm,λ x _ hr=>h.block x λ e=>hr (by rw [e])⟩
theorem GB.weak {r:Option Nat} {w w':World} (h:GB none w w'):GB r w w':=⟨h.os,h.out,h.size,λ x hx _=>h.block x hx nofun⟩
theorem GB.alloc (r:Option Nat) (w:World) (o:Obj):GB r w (w.alloc o):=⟨rfl,rfl,by rw [jk];omega,λ x hx _=>alloc_old hx o⟩
theorem GB.same {r:Option Nat} {a b c:World} (h:GB r a b) (hs:cu b c):GB r a c:=by
 obtain ⟨p,rfl⟩:=hs;exact ⟨h.os,h.out,h.size,h.block⟩
theorem GB.get {r:Option Nat} {w w':World} (h:GB r w w') {x:Nat} {o:Obj} (hx:w.heap[x]? = some o) (hr:some x≠r):w'.heap[x]? = some o:=(h.block x (ag hx) hr).trans hx
def XP (w:World) (m:Nat):Prop:=w.heap[m]? = some (.map #[] 0)
section
variable {P:Program} {w:World} {m:Nat}
theorem vJ {key:TypeId} {k:Int} {b:Bool} (hk:P.underlying key=some (.int .u32)) (n:Nat) (w:World):(Instr.checkKey b (n+1) key (.int .u32 k)).run P w=.ok () w:=by
 rw [Instr.checkKey];simp [run_underlying hk]
end
theorem Nq {ρ:Operand->Value} {o:Oper} {t:TypeId} {x:Operand} (hop:o.op=.range t x):execOp ρ o=(do pure (Next.value (<- Instr.range t (ρ x)))):=by
 unfold execOp;rw [hop]
theorem Ga {ρ:Operand->Value} {o:Oper} {x:Operand} (hop:o.op=.next x false):execOp ρ o=(do pure (Next.value (<- Instr.next (ρ x) false o.type))):=by
 unfold execOp;rw [hop]
theorem Ec {ρ:Operand->Value} {o:Oper} {t:TypeId} {x:Operand} (hop:o.op=.call { callee:=.builtin .clear,args:=#[x],argTypes:=#[t] }):execOp ρ o=(do pure (Next.value (<- Builtin.clear_ #[t] o.type #[ρ x]))):=by
 have e:execOp ρ o=builtin .clear #[t] o.type (#[x].map λ | .const _=>true | _=>false) (#[x].map ρ):=by
  unfold execOp;rw [hop];rfl
 rw [e,show #[x].map ρ = #[ρ x] by simp];rfl
section
variable {P:Program} {main:Bool} {D:World->World->Array Event->Prop} {X:Goroutine->World->Prop} {w:World} {b:Frame} {a:Act} {k:List Item} {cs:List Frame} {ops:Array Oper} {i:Nat} {rest:List Nat} {o:Oper}
end
end
end Go.Proofs.YtignemioillaiabGreat
