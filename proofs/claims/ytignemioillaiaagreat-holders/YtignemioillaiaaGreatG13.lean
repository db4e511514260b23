/- Lemmas. -/
import Derived.Test.YtignemioillaiaaGreatG12
namespace Go.Proofs.YtignemioillaiaaGreat
set_option maxHeartbeats 8000000
set_option maxRecDepth 100000
open List
section
open Go Go.Conc
theorem ready_nil{ops:Array Oper}{l:Array Bool}(hr:Region.ready .any ops l=[])(i:Nat){o:Oper}(ho:ops[i]? = some o)(hd:∀e∈o.after,Region.binds .any e=true->l.getD e.on false=true):l.getD i true=true:=by
 cases h:l.getD i true
 ·have:i∈Region.ready .any ops l:=mem_ready.2 ⟨h,o,ho,hd⟩
  rw[hr]at this;cases this
 ·rfl
section
variable{bc nb:Nat}{gv sv:Value}{p:bJ}{q:List bJ}{F F0:Nat->Prop}{w:World}{Stop:(Nat->Prop)->Goroutine->World->Prop}{cs:List Frame}
theorem Zi{n:Nat}{l:Array Bool}{a:Act}(h:JI bc nb gv sv p q F0 n l F a w)(hn:n=0\/Region.ready .any JQ l=[]):a.defers=[]/\(∀x,F0 x->F x)/\(∀x,F x->x<w.heap.size)/\∃bX,w.heap[bc]? = some (.cells #[gv,bX] 131)/\w.ownsRow 0 139 5 bX (q.length+1) (flat (q++[p]))/\∀g,bX.ownBlock=some g->F g:=by
 obtain⟨b0,b1,b2,b3,b4,b5,b6,b7,b8,b9,b10,nD,oK,kS,iX,kT,kU,kV,dK,gI,gJ,rfl,hs,rfl,hJ⟩:=h;have h10:b10=true:=by
  rcases hn with rfl|hr
  ·have tn:∀b:Bool,b.toNat<=1:=λb=>by cases b<;>decide
   have:=tn b0;have:=tn b1;have:=tn b2;have:=tn b3;have:=tn b4;have:=tn b5;have:=tn b6;have:=tn b7;have:=tn b8;have:=tn b9;cases b10
   ·simp at hs;omega
   ·rfl
  ·have hh:=λi o ho hd=>ready_nil (i:=i) (o:=o) hr ho hd
   unfold JQ at hh;simp only[H6,Tryz.f63,cr,co,Option.getD]at hh;have e0:=hh 0 _ rfl (by simp);have e1:=hh 1 _ rfl (by simp);have e5:=hh 5 _ rfl (by simp);simp only[Array.getD_eq_getD_getElem?,getElem?_toArray,getElem?_cons_succ,getElem?_cons_zero,Option.getD_some]at e0 e1 e5;subst e0 e1 e5;have e2:=hh 2 _ rfl (by simp);simp only[Array.getD_eq_getD_getElem?,getElem?_toArray,getElem?_cons_succ,getElem?_cons_zero,Option.getD_some]at e2;subst e2;have e3:=hh 3 _ rfl (by simp);simp only[Array.getD_eq_getD_getElem?,getElem?_toArray,getElem?_cons_succ,getElem?_cons_zero,Option.getD_some]at e3;subst e3;have e4:=hh 4 _ rfl (by simp);have e6:=hh 6 _ rfl (by simp);simp only[Array.getD_eq_getD_getElem?,getElem?_toArray,getElem?_cons_succ,getElem?_cons_zero,Option.getD_some]at e4 e6;subst e4 e6;have e7:=hh 7 _ rfl (by simp);simp only[Array.getD_eq_getD_getElem?,getElem?_toArray,getElem?_cons_succ,getElem?_cons_zero,Option.getD_some]at e7;subst e7;have e8:=hh 8 _ rfl (by simp);simp only[Array.getD_eq_getD_getElem?,getElem?_toArray,getElem?_cons_succ,getElem?_cons_zero,Option.getD_some]at e8;subst e8;have e9:=hh 9 _ rfl (by simp);simp only[Array.getD_eq_getD_getElem?,getElem?_toArray,getElem?_cons_succ,getElem?_cons_zero,Option.getD_some]at e9;subst e9;have e10:=hh 10 _ rfl (by simp);simpa using e10
 obtain⟨y,hy,_,hy2⟩:=hJ.hc;obtain rfl:=hy2 h10;exact⟨rfl,hJ.sub,hJ.wQ,y,hy,(hJ.i7 (hJ.i10 h10)).1,(hJ.i7 (hJ.i10 h10)).2⟩
theorem Zj{cF:Frame}(hF:F bc)(hC:w.heap[bc]? = some (.cells #[gv,sv] 131))(ho:w.ownsRow 0 139 5 sv q.length (flat q))(hof:∀g,sv.ownBlock=some g->F g)(hin:∀x,F x->x<w.heap.size)(hq:q.length<=20000)
 (h:∀F' w' bX,(∀x,F x->F' x)->(∀x,F' x->x<w'.heap.size)->w'.heap[bc]? = some (.cells #[gv,bX] 131)->w'.ownsRow 0 139 5 bX ((q++[p]).take 20000).length (flat ((q++[p]).take 20000))->(∀g,bX.ownBlock=some g->F' g)->aB Tryz.prog true Stop F' (G (cF.finish (.tuple #[])) cs) w') :
 aB Tryz.prog true Stop F (G (Frame.enter Tryz.prog 63 #[.pointer (some ⟨bc,0,none⟩),p.val] .normal) (cF::cs)) w:=by
 have hsl:∃sa cap,sv=.slice sa q.length cap:=by
  rcases ho.2 with⟨h,h0⟩|⟨g,cap,cur,h,_⟩
  ·exact⟨none,0,by rw[h,h0]⟩
  ·exact⟨_,cap,h⟩
 obtain⟨sa,cap,hsl⟩:=hsl;have hlv:∀(a':Act) (todo:List Item) (F':Nat->Prop) (w':World),a'.defers=[]->aB Tryz.prog true Stop F' (G (cF.finish (.tuple #[])) cs) w'->aB Tryz.prog true Stop F' (G { (Go.Conc.base 63).at a' todo with mode:=.returning } (cF::cs)) w':=λa' todo F' w' hd hg =>
  aD.go rfl (λw=>stepG_leave (b:=Go.Conc.base 63) (fn:=Tryz.f63) rfl hd Tryz.func63 (results_none rfl _ _ _) (events_results_none rfl _ _)) hg
 rw[XE];simp only[H6,Tryz.f63,Option.getD];refine aI.seq aD ?_;refine aI.region aD _ rfl ?_;simp[List.range,List.range.loop];refine aB.Jc rfl rfl (by decide) (ob:=.cells p.cells.toArray 139) (v:=λn=>.pointer (some ⟨n,0,none⟩)) (λw1=>by simp[go_sem]) (λw1=>by unfold bJ.val;go_simp;rfl) hin (λw1 h1=>?_);simp[Act.put];have hst:=XF (bc:=bc) (nb:=w1.heap.size) (gv:=gv) (sv:=sv) (p:=p) (q:=q) (F0:=F) (Stop:=Stop) (k:=[]) (cs:=cF::cs);have hen:=λn l a F' w'=>Zi (bc:=bc) (nb:=w1.heap.size) (gv:=gv) (sv:=sv) (p:=p) (q:=q) (F0:=F) (n:=n) (l:=l) (a:=a) (F:=F') (w:=w')
 unfold JQ at hst hen;simp only[H6,Tryz.f63,cr,co,Option.getD]at hst hen;have QJ:(w1.alloc (.cells p.cells.toArray 139)).heap[bc]? = some (.cells #[gv,sv] 131):=by rw[alloc_old (Nat.lt_of_lt_of_le (hin bc hF) h1.size),h1.own bc hF];exact hC
 refine aI.regionEnd aD ?_;refine aI.seq aD ?_;refine aI.region aD _ rfl ?_;simp[List.range,List.range.loop];refine aI.quiet aD rfl rfl (by decide) _ (λ_=>by go_simp<;>rfl) (λ_=>by simp[go_sem, *]) ?_;simp[Act.put];refine aI.quiet aD rfl rfl (by decide) _ (λ_=>by go_simp<;>rfl) (λ_=>by simp[go_sem, *]) ?_;simp[Act.put];refine aI.quiet aD rfl rfl (by decide) _ (λ_=>by go_simp<;>rfl) (λ_=>by simp[go_sem, *]) ?_;simp[Act.put];refine aB.OI rfl rfl (by decide) 72 rfl rfl (.inl hF) QJ Tryz.underlying72 rfl rfl ?_;simp[Act.put];subst hsl;refine aI.quiet aD rfl rfl (by decide) _ (λ_=>by go_simp<;>rfl) (λ_=>by simp[go_sem, *]) ?_;simp[Act.put];refine aI.quiet aD rfl rfl (by decide) _ (λ_=>by go_simp<;>rfl) (λ_=>by simp[go_sem, *]) ?_;simp[Act.put];refine aI.regionEnd aD ?_;refine aI.cond aD (decide ((q.length:Int)<20000)) rfl ?_;have hg1:∀x,F x->(w1.alloc (.cells p.cells.toArray 139)).heap[x]? = w.heap[x]?:=λx hx=>by rw[alloc_old (Nat.lt_of_lt_of_le (hin x hx) h1.size),h1.own x hx]
 have hin1:∀x,(F x\/x=w1.heap.size)->x<(w1.alloc (.cells p.cells.toArray 139)).heap.size:=λx hx=>by
  rw[jI];rcases hx with hx|hx
  ·have:=hin x hx;have:=h1.size;omega
  ·omega
 by_cases hlt:q.length<20000
 ·have hlt':(q.length:Int)<20000:=by omega
  simp only[hlt',decide_true,if_true];have htk:(q++[p]).take 20000=q++[p]:=take_of_length_le (by simp;omega);rw[htk]at h;refine aB.drawn (by kernel_rfl) (JI bc w1.heap.size gv (.slice sa q.length cap) p q F) (λw2 h2=>?_) (λn l F a w i rest=>hst hlt n l F a w i rest) (λn l F' a w' hI hn=>?_)
  ·refine⟨false,false,false,false,false,false,false,false,false,false,false,undef,undef,undef,undef,undef,undef,undef,undef,undef,undef,rfl,rfl,rfl,JS.rely ?_ h2⟩
   exact⟨nofun,nofun,nofun,nofun,nofun,nofun,nofun,nofun,λx hx=>.inl hx,hin1,.inl hF,λ_=>⟨.inr rfl,iW _ _⟩,nofun,nofun,⟨_,QJ,λ_=>rfl,nofun⟩,nofun,nofun,λ_=>⟨ay ho λg hg=>hg1 g (hof g hg),λg hg=>.inl (hof g hg)⟩,nofun⟩
  ·obtain⟨hd,hsub,hin',bX,e1,e2,e3⟩:=hen _ _ _ _ _ hI hn
   exact aI.fin aD (hlv a _ F' w' hd (h F' w' bX hsub hin' e1 (by simpa using e2) e3))
 ·have hlt':¬(q.length:Int)<20000:=by omega
  simp only[hlt',decide_false,Bool.false_eq_true,if_false];have htk:(q++[p]).take 20000=q:=by
   rw[take_append_of_le_length (by omega),take_of_length_le (by omega)]
  rw[htk]at h;refine aI.skip aD ?_;refine aI.fin aD (hlv _ _ _ _ rfl (h _ _ _ (λx hx=>.inl hx) hin1 QJ (ay ho λg hg=>hg1 g (hof g hg)) λg hg=>.inl (hof g hg)))
end
noncomputable def EW(bc:Nat)(gv r wk:Value)(pk th:Nat)(q0:List bJ)(cs:List Frame)(acc:List Value)(F:Nat->Prop)(a:Goroutine)(w:World):Prop :=
 ∃ps:List bJ,acc=ps.map bJ.val/\∃sv x8 dK gI gJ x20 rX rY rZ x24,a=Ac (.pointer (some ⟨bc,0,none⟩)) r wk pk th x8 dK gI gJ x20 rX rY rZ x24 cs/\F bc/\w.heap[bc]? = some (.cells #[gv,sv] 131) /\
  w.ownsRow 0 139 5 sv ((q0++ps).take 20000).length (flat ((q0++ps).take 20000))/\(∀g,sv.ownBlock=some g->F g)/\∀x,F x->x<w.heap.size
section
variable{bc:Nat}{gv r wk:Value}{pk th:Nat}{q0:List bJ}{cs:List Frame}
theorem EW.rely{acc:List Value}{F:Nat->Prop}{a:Goroutine}{w w1:World}(h:EW bc gv r wk pk th q0 cs acc F a w)(hr:aQ F w w1):EW bc gv r wk pk th q0 cs acc F a w1:=by
 obtain⟨ps,e,sv,x8,dK,gI,gJ,x20,rX,rY,rZ,x24,h1,h2,h3,h4,h5,h6⟩:=h;exact⟨ps,e,sv,x8,dK,gI,gJ,x20,rX,rY,rZ,x24,h1,h2,(hr.own _ h2).trans h3,ay h4 λg hg=>hr.own g (h5 g hg),h5,λx hx=>Nat.lt_of_lt_of_le (h6 x hx) hr.size⟩
theorem JR(c r wk:Value)(pk th:Nat)(x8 dK gI gJ x20 rX rY rZ x24:Value)(cs:List Frame)(i:Int)(v:Value)(ok:Bool):(Ac c r wk pk th x8 dK gI gJ x20 rX rY rZ x24 cs).finishComm Tryz.prog (dD pk th z59 uJ) .select i v ok =
 G ((Go.Conc.base 59).at ⟨Ba c r wk pk th x8 (commResult (dD pk th z59 uJ) .select i v ok) gI gJ x20 rX rY rZ x24,[]⟩ (.inRegion CY [1,2,3]::JP)) cs:=by
 show G (((Go.Conc.base 59).at ⟨Ba c r wk pk th x8 dK gI gJ x20 rX rY rZ x24,[]⟩ (.inRegion CY [0,1,2,3]::JP)).finish (commResult (dD pk th z59 uJ) .select i v ok)) cs=_;rw[Frame.finish_at];have:(CY[0]?).bind (·.dst)=some 17:=by
  unfold CY;simp only[JO,JN,c59,Tryz.f59,cl,cr,cb,co,Option.getD];rfl
 rw[this];rfl
theorem ab8(v:Value):commResult (dD pk th z59 uJ) .select 0 v true=.tuple #[.int .i64 0,.bool true,v,uJ]:=by
 simp[commResult,dD,rcase,goInt]
theorem ab9(v:Value):commResult (dD pk th z59 uJ) .select 1 v false=.tuple #[.int .i64 1,.bool false,z59,v]:=by
 simp[commResult,dD,rcase,goInt]
theorem Un{acc:List Value}{F:Nat->Prop}{a:Goroutine}{w:World}(h:EW bc gv r wk pk th q0 cs acc F a w)(hq:q0.length<=20000) :
 ∃A2,iP Tryz.prog (dD pk th z59 uJ) A2 a/\∀v,(∃p:bJ,v=p.val)->aB Tryz.prog true (EW bc gv r wk pk th q0 cs (acc++[v])) F (A2.finishComm Tryz.prog (dD pk th z59 uJ) .select 0 v true) w:=by
 obtain⟨ps,rfl,sv,x8,dK,gI,gJ,x20,rX,rY,rZ,x24,rfl,g2,h3,h4,h5,h6⟩:=h;refine⟨_,Cg _ _ _ _ _ _ _ _ _ _ _ _ _ _ _,?_⟩;rintro _ ⟨p,rfl⟩;rw[JR,ab8];have hend:∀(F':Nat->Prop) (w':World) (bX y8 Zk Zl Zm y20 y21 y22 y23 y24:Value),F' bc->(∀x,F' x->x<w'.heap.size)->w'.heap[bc]? = some (.cells #[gv,bX] 131)->w'.ownsRow 0 139 5 bX ((q0++(ps++[p])).take 20000).length (flat ((q0++(ps++[p])).take 20000))->(∀g,bX.ownBlock=some g->F' g) ->
  aB Tryz.prog true (EW bc gv r wk pk th q0 cs (ps.map bJ.val++[p.val])) F' (Ac (.pointer (some ⟨bc,0,none⟩)) r wk pk th y8 Zk Zl Zm y20 y21 y22 y23 y24 cs) w':=by
  intro F' w' bX y8 Zk Zl Zm y20 y21 y22 y23 y24 k1 k2 k3 k4 k5;refine aB.stop λw1 h1=>EW.rely ?_ h1
  exact⟨ps++[p],by simp,bX,y8,Zk,Zl,Zm,y20,y21,y22,y23,y24,rfl,k1,k3,k4,k5,k2⟩
 unfold Ac Ba CY JP at hend;unfold Ba CY JP;simp only[JO,JN,c59,Tryz.f59,cl,cr,cb,co,Option.getD]at hend |-;refine aI.quiet aD rfl rfl (by decide) _ (λ_=>by go_simp<;>rfl) (λ_=>by simp[go_sem, *]) ?_;simp[Act.put];refine aI.quiet aD rfl rfl (by decide) _ (λ_=>by go_simp<;>rfl) (λ_=>by simp[go_sem, *]) ?_;simp[Act.put];refine aI.quiet aD rfl rfl (by decide) _ (λ_=>by go_simp<;>rfl) (λ_=>by simp[go_sem, *]) ?_;simp[Act.put];refine aI.regionEnd aD ?_;refine aI.block aD ?_;refine aI.cond aD true rfl ?_;simp only[if_true];refine aI.seq aD ?_;refine aI.region aD _ rfl ?_;simp[List.range,List.range.loop];refine aI.quiet aD rfl rfl (by decide) _ (λ_=>by go_simp<;>rfl) (λ_=>by simp[go_sem, *]) ?_;simp[Act.put];refine aB.Jc rfl rfl (by decide) (ob:=.cells #[.int .u8 0,.int .u8 0,.int .u8 0,.int .u8 0,.string ⟨#[]⟩] 139) (v:=λn=>.pointer (some ⟨n,0,none⟩)) (λw1=>by simp[go_sem]) (λw1=>by go_simp) h6 (λw1 h1=>?_);simp[Act.put];refine aB.EU rfl rfl (by decide) 139 rfl rfl (v:=.agg p.cells.toArray) rfl (.inr rfl) (B:=w1.heap.size) (xs:=#[.int .u8 0,.int .u8 0,.int .u8 0,.int .u8 0,.string ⟨#[]⟩]) (t:=139) (iW w1 _) (by kernel_rfl) rfl (Nat.le_refl 5) p.cells rfl (λw2 w3 h2 hb3 OJ Ui Ze Zf=>?_);simp[Act.put];have hs2:w1.heap.size+1<=w2.heap.size:=by rw[<-jI];exact h2.size
 have hold:∀x,F x->w3.heap[x]? = w.heap[x]?:=λx hx=>by
  have hx1:x<w1.heap.size:=Nat.lt_of_lt_of_le (h6 x hx) h1.size;rw[OJ x (by omega),h2.own x (.inl hx),<-h1.own x hx,alloc_old hx1]
 refine aI.regionEnd aD ?_;refine aI.region aD _ rfl ?_;simp[List.range,List.range.loop];refine aI.quiet aD rfl rfl (by decide) _ (λ_=>by go_simp<;>rfl) (λ_=>by simp[go_sem, *]) ?_;simp[Act.put];refine aB.Jd rfl rfl (by decide) 139 rfl rfl (.inr rfl) hb3 Tryz.underlying139 rfl (n:=5) (by kernel_rfl) (Nat.le_refl 5) p.cells rfl ?_;simp[Act.put];refine aI.call aD rfl rfl (by decide) rfl Tryz.func63 (by kernel_rfl) (by rw[QH];rfl) ?_;simp[Act.eval];have aeO:∀x,(F x\/x=w1.heap.size)->x<w3.heap.size:=λx hx=>by
  rcases hx with hx|hx
  ·have:=h6 x hx;have:=h1.size;omega
  ·omega
 refine Zj (q:=(q0++ps).take 20000) (.inl g2) ((hold bc g2).trans h3) (ay h4 λg hg=>hold g (h5 g hg)) (λg hg=>.inl (h5 g hg)) aeO (by simp;omega) (λF' w' bX k1 k2 k3 k4 k5=>?_);rw[Frame.finish_at];simp[Act.put];refine aI.regionEnd aD ?_;refine aI.inBlock aD ?_;refine aI.inBlock aD ?_;refine aI.inLoop aD ?_;refine aI.block aD ?_;refine aI.seq aD ?_;refine aI.seq aD ?_;refine aI.region aD _ rfl ?_;simp[List.range,List.range.loop];refine aI.quiet aD rfl rfl (by decide) _ (λ_=>by go_simp<;>rfl) (λ_=>by simp[go_sem, *]) ?_;simp[Act.put];refine aI.regionEnd aD ?_;refine aI.region aD _ rfl ?_;simp[List.range,List.range.loop];refine aI.quiet aD rfl rfl (by decide) _ (λ_=>by go_simp<;>rfl) (λ_=>by simp[go_sem, *]) ?_;simp[Act.put];refine aI.regionEnd aD ?_;refine aI.seq aD ?_;refine aI.region aD _ rfl ?_;simp[List.range,List.range.loop];refine hend F' w' bX _ _ _ _ _ _ _ _ _ (k1 _ (.inl g2)) k2 k3 ?_ k5;have htk:(q0++(ps++[p])).take 20000=((q0++ps).take 20000++[p]).take 20000:=by
  rw[<-append_assoc,take_append (l₁:=q0++ps),take_append (l₁:=(q0++ps).take 20000),take_take,Nat.min_self];congr 1
  rw[length_take];by_cases hle:(q0++ps).length<=20000
  ·rw[Nat.min_eq_right hle]
  ·rw[Nat.min_eq_left (by omega)]
   congr 1
   omega
 rw[htk];exact k4
end
theorem val_inj{p q:bJ}(h:p.val=q.val):p=q:=by
 cases p
 cases q
 simp only[bJ.val,Value.agg.injEq,Array.mk.injEq,List.cons.injEq,Value.int.injEq,Value.string.injEq,true_and,and_true]at h;obtain⟨rfl,rfl,rfl,rfl,rfl⟩:=h;rfl
theorem JU:∀{ps qs:List bJ},ps.map bJ.val=qs.map bJ.val->ps=qs
 | [],[],_=>rfl
 | [],_::_,h=>by cases h
 |_::_,[],h=>by cases h
 |p::ps,q::qs,h=>by
  injection h with h1 h2;rw[val_inj h1,JU h2]
theorem XG{bc br:Nat}{gv r wk x rv:Value}{pk th:Nat}{q0:List bJ}{cs:List Frame}{rc:Array Value}{tR:TypeId}{sl:Value}{ps:List bJ}(hq:q0.length<=20000)(hn:ps.length<1000000)(hrc:20<rc.size)(s:Score)(e1:s.pk=pk)(e2:s.th=th)(e3:s.z0=z59)(e4:s.z1=uJ) :
 Parts Tryz.prog s (EW bc gv r wk pk th q0 cs) (Aa br pk rc tR sl ps (tH rv wk pk th x [Ab th]) [jd Tryz.prog]) (λv=>∃p:bJ,v=p.val):=by
 have hcs:s.cs=dD pk th z59 uJ:=by unfold Score.cs;rw[e1,e2,e3,e4]
 refine⟨λacc F a w w1 h hr=>h.rely hr,λvs F b w w1 h hr=>h.rely hr,λacc F a w h=>?_,λv vs F b w h=>?_,λF b w h=>?_⟩
 ·rw[hcs]
  exact Un h hq
 ·rw[e1]
  exact XB rfl hn hrc h
 ·obtain⟨rfl,_⟩:=h
  refine⟨rfl,rfl,G { (baseD 106).at ⟨y7 rv wk pk th x,[]⟩ []with mode:=.returning } [jd Tryz.prog],2,JL Tryz.func106 (by kernel_rfl),λw1 kt hw=>?_⟩;rw[e2]at hw |-;exact OM (b:=baseD 106) (by kernel_rfl) w1 hw
section
variable{K:Machine->Trace->Prop}{w:World}{bc br:Nat}{gv sv wk:Value}{q0:List bJ}{cs:List Frame}{cF:Frame}{f:FuncId}{fst cap:Array Value}{fn:Func}
structure JV(bc br:Nat)(gv sv sl:Value)(q0 ps:List bJ)(rc:Array Value)(tR:TypeId)(pk:Nat)(w3 w4:World):Prop where
 fC:∃bX,w4.heap[bc]? = some (.cells #[gv,bX] 131)/\w4.ownsRow 0 139 5 bX ((q0++ps).take 20000).length (flat ((q0++ps).take 20000))/\∀g,bX.ownBlock=some g->sv.ownBlock=some g\/w3.heap.size<=g
 rep:w4.heap[br]? = some (.cells (rc.setIfInBounds 20 (.slice none 0 0)) tR)
 rest:∀x,x<w3.heap.size->x≠bc->x≠br->some x≠sv.ownBlock->some x≠sl.ownBlock->x≠pk->x≠pk+1->w4.heap[x]? = w3.heap[x]?
 size:w3.heap.size<=w4.heap.size
 os:w4.os=w3.os
 out:w4.output=w3.output
structure Written(bc br:Nat)(gv sv sl:Value)(q0 ps:List bJ)(rc:Array Value)(tR:TypeId)(pk:Nat)(w3:World):Prop where
 fC:w3.heap[bc]? = some (.cells #[gv,sv] 131)
 row:w3.ownsRow 0 139 5 sv q0.length (flat q0)
 rep:w3.heap[br]? = some (.cells rc tR)
 out:rc[20]? = some sl
 box:w3.ownsRow 0 139 5 sl ps.length (flat ps)
 few:ps.length<1000000
 ne1:bc≠br
 M6:some br≠sv.ownBlock
 ne3:some bc≠sl.ownBlock
 ne4:∀g,sv.ownBlock=some g->some g≠sl.ownBlock
 ch:w3.heap[pk]? = some (.chan 0 #[] false 0 0 false)/\w3.heap[pk+1]? = some (.chan 0 #[] false 0 0 false)
theorem yn{w:World}{sv:Value}{n:Nat}{xs:List Value}(h:w.ownsRow 0 139 5 sv n xs){g:Nat}(hg:sv.ownBlock=some g):∃cur,w.heap[g]? = some (.cells cur 139):=by
 rcases h.2 with⟨rfl,_⟩|⟨g',cap,cur,rfl,_,hb,_⟩
 ·cases hg
 ·obtain rfl:g'=g:=by simpa[Value.ownBlock]using hg
  exact⟨cur,hb⟩
theorem QK(hX:Shut Tryz.prog true yh (XR Tryz.prog K)){c r:Value}{pk th:Nat}{x8 dK gI gJ x20 rX rY rZ x24:Value}(h:XR Tryz.prog K (G (cF.finish (.tuple #[])) cs) w) :
 XR Tryz.prog K ((Ac c r wk pk th x8 dK gI gJ x20 rX rY rZ x24 (cF::cs)).finishComm Tryz.prog (dD pk th z59 uJ) .select 1 uJ false) w:=by
 rw[JR,ab9];unfold Ba CY JP;simp only[JO,JN,c59,Tryz.f59,cl,cr,cb,co,Option.getD];refine aI.quiet hX.c rfl rfl (by decide) _ (λ_=>by go_simp<;>rfl) (λ_=>by simp[go_sem, *]) ?_;simp[Act.put];refine aI.quiet hX.c rfl rfl (by decide) _ (λ_=>by go_simp<;>rfl) (λ_=>by simp[go_sem, *]) ?_;simp[Act.put];refine aI.quiet hX.c rfl rfl (by decide) _ (λ_=>by go_simp<;>rfl) (λ_=>by simp[go_sem, *]) ?_;simp[Act.put];refine aI.regionEnd hX.c ?_;refine aI.block hX.c ?_;refine aI.cond hX.c false rfl ?_;simp only[Bool.false_eq_true,if_false];refine aI.cond hX.c true rfl ?_;simp only[if_true];refine aI.ret hX.c ?_;exact hX.c.go rfl (λw=>stepG_leave (b:=Go.Conc.base 59) (fn:=Tryz.f59) rfl rfl Tryz.func59 (results_none (by kernel_rfl) _ _ _) (events_results_none (by kernel_rfl) _ _)) h
theorem XH(c r wk:Value)(pk th:Nat)(cs:List Frame)(w:World):stepG Tryz.prog true (G ((Go.Conc.base 59).at ⟨#[c,r,wk,undef,undef,undef,.chan (some pk),.chan (some th),undef,.chan (some pk),.chan (some th),r,wk,.chan (some pk),.chan (some th),undef,undef,undef,undef,undef,undef,undef,undef,undef,undef],[]⟩ [.inRegion (co (cl (cr (cr c59)))) [4],.code (cr (cr (cr c59)))]) cs) w =
 .spawn (G ((Go.Conc.base 59).at ⟨#[c,r,wk,undef,undef,undef,.chan (some pk),.chan (some th),undef,.chan (some pk),.chan (some th),r,wk,.chan (some pk),.chan (some th),undef,undef,undef,undef,undef,undef,undef,undef,undef,undef],[]⟩ [.inRegion (co (cl (cr (cr c59)))) [],.code (cr (cr (cr c59)))]) cs) (born Tryz.prog (dcall 106 #[r,wk,.chan (some pk),.chan (some th)])) w #[]:=by
 simp only[c59,Tryz.f59,cl,cr,co,Option.getD];rw[stepG_spawn rfl rfl (by decide) (d:=dcall 106 #[r,wk,.chan (some pk),.chan (some th)]) (w':=w) (by go_simp;rfl) rfl,listed_none (by simp[go_sem])];rfl
theorem dF.imp{P:Program}{main:Bool}{R:World->World->Prop}{D:World->World->Array Event->Prop}{Stop Stop':Goroutine->World->Prop}{g:Goroutine}{w:World}(h:dF P main R D Stop g w)(hs:∀g w,Stop g w->Stop' g w):dF P main R D Stop' g w :=
 h (λg w=>dF P main R D Stop' g w) (λ_ _ h=>.stop λw₁ h1=>hs _ _ (h w₁ h1)) λ_ _ hr h=>.step hr h
theorem XI (hf : Tryz.prog.funcs[f]? = some fn) (hname : (fn.name == "runtime.NumGoroutine") = false) (hb : fn.body.isNone = false) (hq : q0.length ≤ 20000)
 {Q1:World->Prop} {R3:Value->List bJ->Array Value->TypeId->World->Prop}
 (EX:ag Tryz.prog f (fst++cap) ((w.alloc (.chan 0 #[] false 0 0 false)).alloc (.chan 0 #[] false 0 0 false)) (λ_ w'=>Q1 w'))
 (Zn:∀w₁,Q1 w₁->OL Tryz.prog 155 (Tryz.f155.body.getD .skip) { tmps:=#[.pointer (some ⟨br,0,none⟩)]++Array.replicate (Tryz.f155.ntmps - (#[.pointer (some ⟨br,0,none⟩)]:Array Value).size) undef,defers:=[] } w₁ (λ_ w'=>∃sl ps rc tR,Written bc br gv sv sl q0 ps rc tR w.heap.size w'/\R3 sl ps rc tR w'))
 (h:∀sl ps rc tR w3 w4,Written bc br gv sv sl q0 ps rc tR w.heap.size w3->R3 sl ps rc tR w3->JV bc br gv sv sl q0 ps rc tR w.heap.size w3 w4->XR Tryz.prog K (G (cF.finish (.tuple #[])) cs) w4) :
 XR Tryz.prog K (G (Frame.enter Tryz.prog 59 #[.pointer (some ⟨bc,0,none⟩),.pointer (some ⟨br,0,none⟩),.func (.func f) fst cap] .normal) (cF::cs)) w:=by
 refine Mk mX ?_;obtain⟨n,hn⟩:=QG (.pointer (some ⟨bc,0,none⟩)) (.pointer (some ⟨br,0,none⟩)) (.func (.func f) fst cap) w.heap.size (w.heap.size+1) (cF::cs);have hpk:dI ((w.alloc (.chan 0 #[] false 0 0 false)).alloc (.chan 0 #[] false 0 0 false)) w.heap.size 0:=by
  unfold dI;rw[alloc_old (by rw[jI];omega),iW]
 have hth:dI ((w.alloc (.chan 0 #[] false 0 0 false)).alloc (.chan 0 #[] false 0 0 false)) (w.heap.size+1) 0:=by
  unfold dI;have:=iW (w.alloc (.chan 0 #[] false 0 0 false)) (.chan 0 #[] false 0 0 false);rwa [jI]at this
 generalize ahD:w.heap.size=pk at *;let oD:Goroutine->World->Prop:=λg w'=>∃sl ps rc tR w3 F' x,Written bc br gv sv sl q0 ps rc tR pk w3/\R3 sl ps rc tR w3/\Aa br pk rc tR sl ps (tH (.pointer (some ⟨br,0,none⟩)) (.func (.func f) fst cap) pk (pk+1) x [Ab (pk+1)]) [jd Tryz.prog] (ps.map bJ.val) F' g w'/\ES (λx=>x=br\/some x=sl.ownBlock) w3 F' w'
 refine hire (oD:=oD) rfl (λw₁=>XH _ _ _ _ _ _ w₁) hn hpk hth (by omega) ?_ ?_
 ·-- the worker
  refine I9 vN hf hname hb ?_;refine EX false _ _ _ vN λfr v w' _ hl hQ=>vN.back hl ?_
  refine Ja vN ?_;have key:∀(sl:Value) (ps:List bJ) (rc:Array Value) (tR:TypeId) (w3:World),Written bc br gv sv sl q0 ps rc tR pk w3->R3 sl ps rc tR w3->dF Tryz.prog false cB (DW pk (pk+1)) oD (G (tH (.pointer (some ⟨br,0,none⟩)) (.func (.func f) fst cap) pk (pk+1) v [dcall 154 #[.pointer (some ⟨br,0,none⟩),.chan (some pk)],Ab (pk+1)]) [jd Tryz.prog]) w3:=by
   intro sl ps rc tR w3 hW QL;refine JM vN ?_;have hnot:∀c,w3.heap[c]? = some (.chan 0 #[] false 0 0 false)->¬(c=br\/some c=sl.ownBlock):=by
    rintro c hc (rfl|h)
    ·rw[hW.rep]at hc;cases hc
    ·obtain⟨cur,aR⟩:=yn hW.box h.symm
     rw[hc]at aR;cases aR
   have Zo:∀x,(x=br\/some x=sl.ownBlock)->x<w3.heap.size:=by
    rintro x (rfl|h)
    ·exact ae hW.rep
    ·obtain⟨cur,aR⟩:=yn hW.box h.symm
     exact ae aR
   have hgo:=Uj (br:=br) (pk:=pk) (tR:=tR) (cR:=tH (.pointer (some ⟨br,0,none⟩)) (.func (.func f) fst cap) pk (pk+1) v [Ab (pk+1)]) (cs1:=[jd Tryz.prog]) (F:=λx=>x=br\/some x=sl.ownBlock) rfl hW.few (.inl rfl) hW.rep hW.out hW.box (λg hg=>.inr hg.symm) Zo;refine(hgo.toU (pk:=pk) (th:=pk+1) (hnot _ hW.ch.1) (hnot _ hW.ch.2) (ae hW.ch.1) (ae hW.ch.2) Zo).imp ?_;rintro g w' ⟨F',h1,h2⟩;exact⟨sl,ps,rc,tR,w3,F',v,hW,QL,h1,h2⟩
  rw[enter_atD #[.pointer (some ⟨br,0,none⟩)] Tryz.func155 (c:=Tryz.f155.body.getD .skip) rfl];refine Zn w' hQ false _ _ (baseD 155) _ vN rfl (by decide) λa' todo w3 hd hq=>?_
  obtain⟨sl,ps,rc,tR,hW,QL⟩:=hq;refine vN.c.go rfl (λw=>stepG_leave_deferred (b:=baseD 155) (fn:=Tryz.f155) rfl hd Tryz.func155 (results_none (by kernel_rfl) _ _ _) (events_results_none (by kernel_rfl) _ _) rfl) ?_;exact key sl ps rc tR w3 hW QL
 ·-- the meeting
  rintro b w' ⟨sl,ps,rc,tR,w3,F',x,hW,QL,hSW,hS0⟩;have hrc:20<rc.size:=(Array.getElem?_eq_some_iff.1 hW.out).1;have hF':∀c,¬(c=br\/some c=sl.ownBlock)->c<w3.heap.size->¬F' c:=λc hc hl hx=>by
   rcases hS0.own c hx with h|h
   ·exact hc h
   ·omega
  have hbc:¬(bc=br\/some bc=sl.ownBlock):=λh=>h.elim hW.ne1 hW.ne3
  have hsv:∀g,sv.ownBlock=some g->¬(g=br\/some g=sl.ownBlock):=λg hg h=>h.elim (λe=>hW.M6 (by rw[hg,e])) (hW.ne4 g hg)
  have OQ:∀g,sv.ownBlock=some g->g<w3.heap.size:=λg hg=>by
   obtain⟨cur,aR⟩:=yn hW.row hg;exact ae aR
  have hnot:∀c,w3.heap[c]? = some (.chan 0 #[] false 0 0 false)->¬(c=br\/some c=sl.ownBlock):=by
   rintro c hc (rfl|h)
   ·rw[hW.rep]at hc;cases hc
   ·obtain⟨cur,aR⟩:=yn hW.box h.symm
    rw[hc]at aR;cases aR
  have Wh:∀c,w3.heap[c]? = some (.chan 0 #[] false 0 0 false)->¬(c=bc\/some c=sv.ownBlock):=by
   rintro c hc (rfl|h)
   ·rw[hW.fC]at hc;cases hc
   ·obtain⟨cur,aR⟩:=yn hW.row h.symm
    rw[hc]at aR;cases aR
  have htk:q0.take 20000=q0:=take_of_length_le hq;have Zp:w'.heap[bc]? = some (.cells #[gv,sv] 131):=(hS0.rest bc (ae hW.fC) hbc).trans hW.fC;have hrow:w'.ownsRow 0 139 5 sv q0.length (flat q0):=ay hW.row λg hg=>hS0.rest g (OQ g hg) (hsv g hg)
  have Zq:∀x,(x=bc\/some x=sv.ownBlock)->x<w'.heap.size:=by
   rintro x (rfl|h)
   ·exact ae Zp
   ·have:=OQ x h.symm;have:=hS0.size;omega
  refine⟨EW bc gv (.pointer (some ⟨br,0,none⟩)) (.func (.func f) fst cap) pk (pk+1) q0 (cF::cs),Aa br pk rc tR sl ps (tH (.pointer (some ⟨br,0,none⟩)) (.func (.func f) fst cap) pk (pk+1) x [Ab (pk+1)]) [jd Tryz.prog],(λv=>∃p:bJ,v=p.val),ps.map bJ.val,(λx=>x=bc\/some x=sv.ownBlock),F',⟨λs e1 e2 e3 e4=>XG hq hW.few hrc s e1 e2 e3 e4,hSW,?_,?_,Zq,hS0.wQ,⟨Wh _ hW.ch.1,Wh _ hW.ch.2⟩,⟨hF' _ (hnot _ hW.ch.1) (ae hW.ch.1),hF' _ (hnot _ hW.ch.2) (ae hW.ch.2)⟩⟩,?_⟩
  ·exact⟨_,⟨[],rfl,sv,_,_,_,_,_,_,_,_,_,rfl,.inl rfl,Zp,by simpa[htk]using hrow,λg hg=>.inr hg.symm,Zq⟩,Cg _ _ _ _ _ _ _ _ _ _ _ _ _ _ _⟩
  ·rintro y (rfl|hy)
   ·exact hF' _ hbc (ae hW.fC)
   ·exact hF' _ (hsv y hy.symm) (OQ y hy.symm)
  ·intro wO zY MZ a0 b0 w4 hM hat hWn hD
   obtain⟨ps',e,bX,x8,dK,gI,gJ,x20,rX,rY,rZ,x24,rfl,k2,k3,k4,k5,k6⟩:=hM;obtain rfl:=JU e;obtain rfl:=hat.inj (Cg _ _ _ _ _ _ _ _ _ _ _ _ _ _ _) w4;refine QK mX (h sl ps rc tR w3 w4 hW QL ⟨⟨bX,k3,k4,λg hg=>?_⟩,hWn.2.2.1,λy hy h1 h2 h3 h4 h5 h6=>?_,Nat.le_trans hS0.size hD.size,hD.os.trans hS0.os,hD.out.trans hS0.out⟩)
   ·by_cases hl:g<w'.heap.size
    ·rcases hD.AX g hl (k5 g hg)with rfl|h
     ·exact absurd (by rw[hg]) (GA k4 k3)
     ·exact .inl h.symm
    ·exact .inr (by have:=hS0.size;omega)
   ·have aeP:=hF' y (λh=>h.elim h2 h4) hy
    rw[hD.rest y (Nat.lt_of_lt_of_le hy hS0.size) (λh=>h.elim h1 h3) aeP h5 h6];exact hS0.rest y hy λh=>h.elim h2 h4
end
section
variable{P:Program}{f:FuncId}{args:Array Value}{w:World}{Post:Value->World->Prop}
end
section
variable{P:Program}{main:Bool}{D:World->World->Array Event->Prop}{X:Goroutine->World->Prop}{w:World}{b:Frame}{a:Act}{k:List Item}{cs:List Frame}{ops:Array Oper}{i:Nat}{rest:List Nat}{o:Oper}
theorem DU{A:FuncId->Bool}{S:FuncId->List Nat}{fn:FuncId}{ρ:Operand->Value}(h:TT A S fn o.op=true)(hc:Jz o.op=true):Plain [] (execOp ρ o):=(TU h hc).1
theorem qD{ρ:Operand->Value}{bt:Builtin}{ar:Array Operand}{ats:Array TypeId}(hop:o.op=.call { callee:=.builtin bt,args:=ar,argTypes:=ats })(h:AO bt=true):Plain [] (execOp ρ o):=by
 have e:execOp ρ o=builtin bt ats o.type (ar.map λ | .const _=>true|_=>false) (ar.map ρ):=by
  unfold execOp;rw[hop];rfl
 rw[e];exact(OC h _ _ _ _).1
theorem uW{ρ:Operand->Value}{ty:TypeId}{x:Operand}(hop:o.op=.load ty x):Plain [] (execOp ρ o):=DU (A:=λ_=>false) (S:=λ_=>[]) (fn:=0) (by rw[hop];rfl) (by rw[hop];rfl)
theorem Mm{ρ:Operand->Value}{ty:TypeId}{x y:Operand}(hop:o.op=.store ty x y):Plain [] (execOp ρ o):=DU (A:=λ_=>false) (S:=λ_=>[]) (fn:=0) (by rw[hop];rfl) (by rw[hop];rfl)
end
section
variable(P:Program)(X:Goroutine->World->Prop)(b:Frame)(k:List Item)(cs:List Frame)(ops:Array Oper)(S:World->Prop)(z:Nat)
end
section
variable{P:Program}{main:Bool}{D:World->World->Array Event->Prop}{X:Goroutine->World->Prop}{b:Frame}{k:List Item}{cs:List Frame}{ops:Array Oper}{S:World->Prop}{z:Nat}
theorem ag.same{f:FuncId}{args:Array Value}{w w₁:World}{Post:Value->World->Prop}(h:ag P f args w Post)(hs:cB w w₁):ag P f args w₁ Post:=λmain D X cs hX hk=>hX.rely hs (h main D X cs hX hk)
end
section
variable{P:Program}{ops:Array Oper}
end
structure GB(r:Option Nat)(w w':World):Prop where
 os:w'.os=w.os
 out:w'.output=w.output
 size:w.heap.size<=w'.heap.size
 block:∀x,x<w.heap.size->some x≠r->w'.heap[x]? = w.heap[x]?
theorem GB.refl(r:Option Nat)(w:World):GB r w w:=⟨rfl,rfl,Nat.le_refl _,λ_ _ _=>rfl⟩
theorem GB.trans{r:Option Nat}{a b c:World}(h:GB r a b)(k:GB r b c):GB r a c:=⟨k.os.trans h.os,k.out.trans h.out,Nat.le_trans h.size k.size,λx hx hr=>(k.block x (Nat.lt_of_lt_of_le hx h.size) hr).trans (h.block x hx hr)⟩
theorem GB.only{b:Nat}{w w':World}(h:Only b w w'):GB (some b) w w':=⟨h.os,h.output,Nat.le_of_eq h.size.symm,λx _ hr=>h.block x λe=>hr (by rw[e])⟩
theorem GB.weak{r:Option Nat}{w w':World}(h:GB none w w'):GB r w w':=⟨h.os,h.out,h.size,λx hx _=>h.block x hx nofun⟩
theorem GB.alloc(r:Option Nat)(w:World)(o:Obj):GB r w (w.alloc o):=⟨rfl,rfl,by rw[jI];omega,λx hx _=>alloc_old hx o⟩
theorem GB.same{r:Option Nat}{a b c:World}(h:GB r a b)(hs:cB b c):GB r a c:=by
 obtain⟨p,rfl⟩:=hs;exact⟨h.os,h.out,h.size,h.block⟩
theorem GB.get{r:Option Nat}{w w':World}(h:GB r w w'){x:Nat}{o:Obj}(hx:w.heap[x]? = some o)(hr:some x≠r):w'.heap[x]? = some o:=(h.block x (ae hx) hr).trans hx
def Zr(w:World)(m:Nat):Prop:=w.heap[m]? = some (.map #[] 0)
section
variable{P:Program}{w:World}{m:Nat}
theorem wS{key:TypeId}{k:Int}{b:Bool}(hk:P.underlying key=some (.int .u32))(n:Nat)(w:World):(Instr.checkKey b (n+1) key (.int .u32 k)).run P w=.ok () w:=by
 rw[Instr.checkKey];simp[run_underlying hk]
end
theorem OT{ρ:Operand->Value}{o:Oper}{t:TypeId}{x:Operand}(hop:o.op=.range t x):execOp ρ o=(do pure (Next.value (<-Instr.range t (ρ x)))):=by
 unfold execOp;rw[hop]
theorem H7{ρ:Operand->Value}{o:Oper}{x:Operand}(hop:o.op=.next x false):execOp ρ o=(do pure (Next.value (<-Instr.next (ρ x) false o.type))):=by
 unfold execOp;rw[hop]
theorem EY{ρ:Operand->Value}{o:Oper}{t:TypeId}{x:Operand}(hop:o.op=.call { callee:=.builtin .clear,args:=#[x],argTypes:=#[t] }):execOp ρ o=(do pure (Next.value (<-Builtin.clear_ #[t] o.type #[ρ x]))):=by
 have e:execOp ρ o=builtin .clear #[t] o.type (#[x].map λ | .const _=>true|_=>false) (#[x].map ρ):=by
  unfold execOp;rw[hop];rfl
 rw[e,show #[x].map ρ = #[ρ x]by simp];rfl
section
variable{P:Program}{main:Bool}{D:World->World->Array Event->Prop}{X:Goroutine->World->Prop}{w:World}{b:Frame}{a:Act}{k:List Item}{cs:List Frame}{ops:Array Oper}{i:Nat}{rest:List Nat}{o:Oper}
end
end
section
open Go Go.Conc Go.RowKit
section
variable{P:Program}{main:Bool}{D:World->World->Array Event->Prop}{X:Goroutine->World->Prop}{w:World}{b:Frame}{a:Act}{k:List Item}{cs:List Frame}{ops:Array Oper}{i:Nat}{rest:List Nat}{o:Oper}
theorem aI.unw(hX:aI P main X)(ho:ops[i]? = some o)(hw:Region.wanted o (yielded ops a.tmps)=false)(h:X (G (b.at (a.put o.dst undef) (.inRegion ops rest::k)) cs) w):X (G (b.at a (.inRegion ops (i::rest)::k)) cs) w :=
 hX.go rfl (λ_=>stepG_unwanted ho hw) h
theorem Mo{s x:Operand}{t:TypeId}(hop:o.op=.call { callee:=.builtin .append,args:=#[s,x],argTypes:=#[t,t] })
 (e:TypeId) (ii:TypeInfo) (z:Value) (size bytes:Nat) (ht:P.underlying t=some (.slice e)) (hi:P.info? e=some ii) (hz:ii.zero=some z) (hsize:ii.size=size) (hby:ii.bytes=bytes) (hzs:z.cells.size=size) (hsz:0<size)
 {v:Value} {n:Nat} {xs:List Value} (hs:a.eval s=v) (hown:w.ownsRow 0 e size v n xs) {B m c:Nat} {news:List Value} {off:Nat} (hx:a.eval x=.slice (some ⟨B,off,none⟩) m c) {nb:Array Value} {tb:TypeId} (hW:w.heap[B]? = some (.cells nb tb)) (hnb:(nb.toList.drop off).take (m*size)=news) (hl:news.length=m*size) (h1:∀u∈news,u.oneCell'=true)
 (h63:n+m<=maxLen) (hbytes:(n+m)*bytes<=140737488355328):∃v' w',(execOp a.eval o).run P w=.ok (.value v') w'/\w'.ownsRow 0 e size v' (n+m) (xs++news)/\GB v.ownBlock w w'/\(∀g,v'.ownBlock=some g->v.ownBlock=some g\/w.heap.size<=g)/\∀g c',v=.slice (some ⟨g,0,none⟩) n c'->n+m<=c'->v'=.slice (some ⟨g,0,none⟩) (n+m) c':=by
 have hnews:∀j u,news[j]? = some u->w.cell? ((⟨B,off,none⟩:Addr).add j)=some u:=λj u hu=>by
  have hadd:(⟨B,off,none⟩:Addr).add j=⟨B,off+j,none⟩:=by unfold Addr.add;split<;>simp_all
  rw[hadd,yY hW];rw[<-hnb,getElem?_take]at hu;split at hu
  ·rw[getElem?_drop]at hu;simpa using hu
  ·cases hu
 obtain⟨v',w',hrun,ho',hg⟩:=ym (P:=P) w 0 t o.type e ii z size bytes ht hi hz hsize hby hzs hsz v n xs hown ⟨B,off,none⟩ m c news hl hnews h1 h63 hbytes (Nat.zero_le _);refine⟨v',w',?_,ho',⟨hg.grown.os,hg.grown.output,hg.grown.size,λy hy hne=>hg.grown.block y hy hne⟩,λg hgo=>?_,λg c' hv hroom=>?_⟩
 ·have hh:=uponK_append (P:=P) s x t hop hs hx hrun (K:=λa' w''=>a'=a.put o.dst v'/\w''=w') ⟨rfl,rfl⟩
  have e1:execOp a.eval o=builtin .append #[t,t] o.type (#[s,x].map λ | .const _=>true|_=>false) (#[s,x].map a.eval):=by
   unfold execOp;rw[hop];rfl
  rw[e1];simp only[map_toArray,map_cons,map_nil,hs,hx];unfold builtin;simp only[Sem.run_bind];simp[hrun]
 ·rcases hg.own with he|he
  ·exact .inl (he▸hgo)
  ·exact .inr (he g hgo)
 ·subst hsize
  rcases hown.2 with⟨e0,_⟩|⟨g2,cap,cur,e2,_,hg2,_,_,hcs,_⟩
  ·rw[hv]at e0;cases e0
  ·rw[hv]at e2
   injection e2 with e3 _ e4;injection e3 with e3;injection e3 with e3;subst e3;subst e4;have hr:=run_append_room (P:=P) w t o.type e ii ht hi g n c' cur hg2 ⟨B,off,none⟩ m c news hl hnews h1 hroom (by rw[hl,hcs,<-Nat.add_mul];exact Nat.mul_le_mul_right _ hroom);rw[hv,hr]at hrun;injection hrun with hrun;exact hrun.symm
end
end
