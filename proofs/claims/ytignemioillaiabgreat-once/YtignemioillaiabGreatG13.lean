/- Lemmas. -/
import Derived.Test.YtignemioillaiabGreatG12
namespace Go.Proofs.YtignemioillaiabGreat
set_option maxHeartbeats 8000000
set_option maxRecDepth 100000
open List
section
open Go Go.Conc
noncomputable def Gj(bc:Nat)(gv r wk:Value)(pk th:Nat)(q0:List bF)(cs:List Frame)(acc:List Value)(F:Nat->Prop)(a:Goroutine)(w:World):Prop :=
 ∃ps:List bF,acc=ps.map bF.val/\∃sv x8 dI gV gX x20 tu tC tF x24,a=Bg (.pointer (some ⟨bc,0,none⟩)) r wk pk th x8 dI gV gX x20 tu tC tF x24 cs/\F bc/\w.heap[bc]?=some (.cells #[gv,sv] 118) /\
  w.ownsRow 0 97 5 sv ((q0++ps).take 20000).length (flat ((q0++ps).take 20000))/\(∀g,sv.ownBlock=some g->F g)/\∀x,F x->x<w.heap.size
section
variable{bc:Nat}{gv r wk:Value}{pk th:Nat}{q0:List bF}{cs:List Frame}
theorem Gj.rely{acc:List Value}{F:Nat->Prop}{a:Goroutine}{w w1:World}(h:Gj bc gv r wk pk th q0 cs acc F a w)(hr:aO F w w1):Gj bc gv r wk pk th q0 cs acc F a w1:=by
 obtain⟨ps,e,sv,x8,dI,gV,gX,x20,tu,tC,tF,x24,h1,h2,h3,h4,h5,h6⟩:=h;exact⟨ps,e,sv,x8,dI,gV,gX,x20,tu,tC,tF,x24,h1,h2,(hr.own _ h2).trans h3,ax h4 λg hg=>hr.own g (h5 g hg),h5,λx hx=>Jbz (h6 x hx) hr.size⟩
theorem Lj(c r wk:Value)(pk th:Nat)(x8 dI gV gX x20 tu tC tF x24:Value)(cs:List Frame)(i:Int)(v:Value)(ok:Bool):(Bg c r wk pk th x8 dI gV gX x20 tu tC tF x24 cs).finishComm Tryz.prog (dB pk th z59 vE) .select i v ok =
 G ((Go.Conc.base 47).at ⟨BZ c r wk pk th x8 (commResult (dB pk th z59 vE) .select i v ok) gV gX x20 tu tC tF x24,[]⟩ (.inRegion Ed [1,2,3]::Lh)) cs:=by
 show G (((Go.Conc.base 47).at ⟨BZ c r wk pk th x8 dI gV gX x20 tu tC tF x24,[]⟩ (.inRegion Ed [0,1,2,3]::Lh)).finish (commResult (dB pk th z59 vE) .select i v ok)) cs=_;rw[Frame.finish_at];have:(Ed[0]?).bind (·.dst)=some 17:=by
  unfold Ed;simp only[Lg,Lf,c59,Tryz.f47,cl,cr,cb,co,Option.getD];rfl
 rw[this];rfl
theorem aej(v:Value):commResult (dB pk th z59 vE) .select 0 v true=.tuple #[.int .i64 0,.bool true,v,vE]:=by
 simp[commResult,dB,rcase,goInt]
theorem aek(v:Value):commResult (dB pk th z59 vE) .select 1 v false=.tuple #[.int .i64 1,.bool false,z59,v]:=by
 simp[commResult,dB,rcase,goInt]
theorem V3{acc:List Value}{F:Nat->Prop}{a:Goroutine}{w:World}(h:Gj bc gv r wk pk th q0 cs acc F a w)(hq:q0.length<=20000) :
 ∃A2,iY Tryz.prog (dB pk th z59 vE) A2 a/\∀v,(∃p:bF,v=p.val)->aA Tryz.prog true (Gj bc gv r wk pk th q0 cs (acc++[v])) F (A2.finishComm Tryz.prog (dB pk th z59 vE) .select 0 v true) w:=by
 obtain⟨ps,rfl,sv,x8,dI,gV,gX,x20,tu,tC,tF,x24,rfl,g2,h3,h4,h5,h6⟩:=h;refine⟨_,Dp _ _ _ _ _ _ _ _ _ _ _ _ _ _ _,?_⟩;rintro _ ⟨p,rfl⟩;rw[Lj,aej];have hend:∀(F':Nat->Prop) (w':World) (bX y8 y17 y18 y19 y20 y21 y22 y23 y24:Value),F' bc->(∀x,F' x->x<w'.heap.size)->w'.heap[bc]?=some (.cells #[gv,bX] 118)->w'.ownsRow 0 97 5 bX ((q0++(ps++[p])).take 20000).length (flat ((q0++(ps++[p])).take 20000))->(∀g,bX.ownBlock=some g->F' g) ->
  aA Tryz.prog true (Gj bc gv r wk pk th q0 cs (ps.map bF.val++[p.val])) F' (Bg (.pointer (some ⟨bc,0,none⟩)) r wk pk th y8 y17 y18 y19 y20 y21 y22 y23 y24 cs) w':=by
  intro F' w' bX y8 y17 y18 y19 y20 y21 y22 y23 y24 k1 k2 k3 k4 k5;refine aA.stop λw1 h1=>Gj.rely ?_ h1
  exact⟨ps++[p],by simp,bX,y8,y17,y18,y19,y20,y21,y22,y23,y24,rfl,k1,k3,k4,k5,k2⟩
 unfold Bg BZ Ed Lh at hend;unfold BZ Ed Lh;simp only[Lg,Lf,c59,Tryz.f47,cl,cr,cb,co,Option.getD]at hend |-;refine aH.quiet aC rfl rfl (by decide) _ (λ_=>by go_simp<;>rfl) (λ_=>by simp[go_sem, *]) ?_;simp[Act.put];refine aH.quiet aC rfl rfl (by decide) _ (λ_=>by go_simp<;>rfl) (λ_=>by simp[go_sem, *]) ?_;simp[Act.put];refine aH.quiet aC rfl rfl (by decide) _ (λ_=>by go_simp<;>rfl) (λ_=>by simp[go_sem, *]) ?_;simp[Act.put];refine aH.regionEnd aC ?_;refine aH.block aC ?_;refine aH.cond aC true rfl ?_;simp only[Jb8];refine aH.seq aC ?_;refine aH.region aC _ rfl ?_;simp[List.range,List.range.loop];refine aH.quiet aC rfl rfl (by decide) _ (λ_=>by go_simp<;>rfl) (λ_=>by simp[go_sem, *]) ?_;simp[Act.put];refine aA.Km rfl rfl (by decide) (ob:=.cells #[.int .u8 0,.int .u8 0,.int .u8 0,.int .u8 0,.string ⟨#[]⟩] 97) (v:=λn=>.pointer (some ⟨n,0,none⟩)) (λw1=>by simp[go_sem]) (λw1=>by go_simp) h6 (λw1 h1=>?_);simp[Act.put];refine aA.Gi rfl rfl (by decide) 97 rfl rfl (v:=.agg p.cells.toArray) rfl (.inr rfl) (B:=w1.heap.size) (xs:=#[.int .u8 0,.int .u8 0,.int .u8 0,.int .u8 0,.string ⟨#[]⟩]) (t:=97) (je w1 _) (by kernel_rfl) rfl (Jb0 5) p.cells rfl (λw2 w3 h2 hb3 Qs VV aa0 aa1=>?_);simp[Act.put];have hs2:w1.heap.size+1<=w2.heap.size:=by rw[<-jJ];exact h2.size
 have hold:∀x,F x->w3.heap[x]?=w.heap[x]?:=λx hx=>by
  have hx1:x<w1.heap.size:=Jbz (h6 x hx) h1.size;rw[Qs x (by omega),h2.own x (.inl hx),<-h1.own x hx,alloc_old hx1]
 refine aH.regionEnd aC ?_;refine aH.region aC _ rfl ?_;simp[List.range,List.range.loop];refine aH.quiet aC rfl rfl (by decide) _ (λ_=>by go_simp<;>rfl) (λ_=>by simp[go_sem, *]) ?_;simp[Act.put];refine aA.Kn rfl rfl (by decide) 97 rfl rfl (.inr rfl) hb3 Tryz.underlying97 rfl (n:=5) (by kernel_rfl) (Jb0 5) p.cells rfl ?_;simp[Act.put];refine aH.call aC rfl rfl (by decide) rfl Tryz.func45 (by kernel_rfl) (by rw[SL];rfl) ?_;simp[Act.eval];have agO:∀x,(F x\/x=w1.heap.size)->x<w3.heap.size:=λx hx=>by
  rcases hx with hx|hx
  .have:=h6 x hx;have:=h1.size;omega
  .omega
 refine aa5 (q:=(q0++ps).take 20000) (.inl g2) ((hold bc g2).trans h3) (ax h4 λg hg=>hold g (h5 g hg)) (λg hg=>.inl (h5 g hg)) agO (by simp;omega) (λF' w' bX k1 k2 k3 k4 k5=>?_);rw[Frame.finish_at];simp[Act.put];refine aH.regionEnd aC ?_;refine aH.inBlock aC ?_;refine aH.inBlock aC ?_;refine aH.inLoop aC ?_;refine aH.block aC ?_;refine aH.seq aC ?_;refine aH.seq aC ?_;refine aH.region aC _ rfl ?_;simp[List.range,List.range.loop];refine aH.quiet aC rfl rfl (by decide) _ (λ_=>by go_simp<;>rfl) (λ_=>by simp[go_sem, *]) ?_;simp[Act.put];refine aH.regionEnd aC ?_;refine aH.region aC _ rfl ?_;simp[List.range,List.range.loop];refine aH.quiet aC rfl rfl (by decide) _ (λ_=>by go_simp<;>rfl) (λ_=>by simp[go_sem, *]) ?_;simp[Act.put];refine aH.regionEnd aC ?_;refine aH.seq aC ?_;refine aH.region aC _ rfl ?_;simp[List.range,List.range.loop];refine hend F' w' bX _ _ _ _ _ _ _ _ _ (k1 _ (.inl g2)) k2 k3 ?_ k5;have htk:(q0++(ps++[p])).take 20000=((q0++ps).take 20000++[p]).take 20000:=by
  rw[<-Jd4,take_append (l₁:=q0++ps),take_append (l₁:=(q0++ps).take 20000),Jd5,Nat.min_self];congr 1
  rw[Jd6];by_cases hle:(q0++ps).length<=20000
  .rw[Nat.min_eq_right hle]
  .rw[Jd7 (by omega)]
   congr 1
   omega
 rw[htk];exact k4
end
theorem val_inj{p q:bF}(h:p.val=q.val):p=q:=by
 cases p
 cases q
 simp only[bF.val,Value.agg.injEq,Array.mk.injEq,Jd8,Value.int.injEq,Value.string.injEq,true_and,and_true]at h;obtain⟨rfl,rfl,rfl,rfl,rfl⟩:=h;rfl
theorem Ll:∀{ps qs:List bF},ps.map bF.val=qs.map bF.val->ps=qs
 | [],[],_=>rfl
 | [],_::_,h=>by cases h
 |_::_,[],h=>by cases h
 |p::ps,q::qs,h=>by
  injection h with h1 h2;rw[val_inj h1,Ll h2]
theorem Zp{bc br:Nat}{gv r wk x rv:Value}{pk th:Nat}{q0:List bF}{cs:List Frame}{rc:Array Value}{tR:TypeId}{sl:Value}{ps:List bF}(hq:q0.length<=20000)(hn:ps.length<1000000)(hrc:20<rc.size)(s:Score)(e1:s.pk=pk)(e2:s.th=th)(e3:s.z0=z59)(e4:s.z1=vE) :
 Parts Tryz.prog s (Gj bc gv r wk pk th q0 cs) (Be br pk rc tR sl ps (um rv wk pk th x [Bf th]) [jk Tryz.prog]) (λv=>∃p:bF,v=p.val):=by
 have hcs:s.cs=dB pk th z59 vE:=by unfold Score.cs;rw[e1,e2,e3,e4]
 refine⟨λacc F a w w1 h hr=>h.rely hr,λvs F b w w1 h hr=>h.rely hr,λacc F a w h=>?_,λv vs F b w h=>?_,λF b w h=>?_⟩
 .rw[hcs]
  exact V3 h hq
 .rw[e1]
  exact Zk rfl hn hrc h
 .obtain⟨rfl,_⟩:=h
  refine⟨rfl,rfl,G { (baseD 77).at ⟨zT rv wk pk th x,[]⟩ []with mode:=.returning} [jk Tryz.prog],2,Ld Tryz.func77 (by kernel_rfl),λw1 kt hw=>?_⟩;rw[e2]at hw |-;exact Qu (b:=baseD 77) (by kernel_rfl) w1 hw
section
variable{K:Machine->Trace->Prop}{w:World}{bc br:Nat}{gv sv wk:Value}{q0:List bF}{cs:List Frame}{cF:Frame}{f:FuncId}{fst cap:Array Value}{fn:Func}
structure Lm(bc br:Nat)(gv sv sl:Value)(q0 ps:List bF)(rc:Array Value)(tR:TypeId)(pk:Nat)(w3 w4:World):Prop where
 fu:∃bX,w4.heap[bc]?=some (.cells #[gv,bX] 118)/\w4.ownsRow 0 97 5 bX ((q0++ps).take 20000).length (flat ((q0++ps).take 20000))/\∀g,bX.ownBlock=some g->sv.ownBlock=some g\/w3.heap.size<=g
 rep:w4.heap[br]?=some (.cells (rc.setIfInBounds 20 (.slice none 0 0)) tR)
 rest:∀x,x<w3.heap.size->x≠bc->x≠br->some x≠sv.ownBlock->some x≠sl.ownBlock->x≠pk->x≠pk+1->w4.heap[x]?=w3.heap[x]?
 size:w3.heap.size<=w4.heap.size
 os:w4.os=w3.os
 out:w4.output=w3.output
structure Written(bc br:Nat)(gv sv sl:Value)(q0 ps:List bF)(rc:Array Value)(tR:TypeId)(pk:Nat)(w3:World):Prop where
 fu:w3.heap[bc]?=some (.cells #[gv,sv] 118)
 row:w3.ownsRow 0 97 5 sv q0.length (flat q0)
 rep:w3.heap[br]?=some (.cells rc tR)
 out:rc[20]?=some sl
 box:w3.ownsRow 0 97 5 sl ps.length (flat ps)
 few:ps.length<1000000
 ne1:bc≠br
 OB:some br≠sv.ownBlock
 ne3:some bc≠sl.ownBlock
 ne4:∀g,sv.ownBlock=some g->some g≠sl.ownBlock
 ch:w3.heap[pk]?=some (.chan 0 #[] false 0 0 false)/\w3.heap[pk+1]?=some (.chan 0 #[] false 0 0 false)
theorem y9{w:World}{sv:Value}{n:Nat}{xs:List Value}(h:w.ownsRow 0 97 5 sv n xs){g:Nat}(hg:sv.ownBlock=some g):∃cur,w.heap[g]?=some (.cells cur 97):=by
 rcases h.2 with⟨rfl,_⟩|⟨g',cap,cur,rfl,_,hb,_⟩
 .cases hg
 .obtain rfl:g'=g:=by simpa[Value.ownBlock]using hg
  exact⟨cur,hb⟩
theorem SS(hX:Shut Tryz.prog true yX (XR Tryz.prog K)){c r:Value}{pk th:Nat}{x8 dI gV gX x20 tu tC tF x24:Value}(h:XR Tryz.prog K (G (cF.finish (.tuple #[])) cs) w) :
 XR Tryz.prog K ((Bg c r wk pk th x8 dI gV gX x20 tu tC tF x24 (cF::cs)).finishComm Tryz.prog (dB pk th z59 vE) .select 1 vE false) w:=by
 rw[Lj,aek];unfold BZ Ed Lh;simp only[Lg,Lf,c59,Tryz.f47,cl,cr,cb,co,Option.getD];refine aH.quiet hX.c rfl rfl (by decide) _ (λ_=>by go_simp<;>rfl) (λ_=>by simp[go_sem, *]) ?_;simp[Act.put];refine aH.quiet hX.c rfl rfl (by decide) _ (λ_=>by go_simp<;>rfl) (λ_=>by simp[go_sem, *]) ?_;simp[Act.put];refine aH.quiet hX.c rfl rfl (by decide) _ (λ_=>by go_simp<;>rfl) (λ_=>by simp[go_sem, *]) ?_;simp[Act.put];refine aH.regionEnd hX.c ?_;refine aH.block hX.c ?_;refine aH.cond hX.c false rfl ?_;simp only[Jb9,Jba];refine aH.cond hX.c true rfl ?_;simp only[Jb8];refine aH.ret hX.c ?_;exact hX.c.go rfl (λw=>stepG_leave (b:=Go.Conc.base 47) (fn:=Tryz.f47) rfl rfl Tryz.func47 (results_none (by kernel_rfl) _ _ _) (events_results_none (by kernel_rfl) _ _)) h
theorem Zq(c r wk:Value)(pk th:Nat)(cs:List Frame)(w:World):stepG Tryz.prog true (G ((Go.Conc.base 47).at ⟨#[c,r,wk,undef,undef,undef,.chan (some pk),.chan (some th),undef,.chan (some pk),.chan (some th),r,wk,.chan (some pk),.chan (some th),undef,undef,undef,undef,undef,undef,undef,undef,undef,undef],[]⟩ [.inRegion (co (cl (cr (cr c59)))) [4],.code (cr (cr (cr c59)))]) cs) w =
 .spawn (G ((Go.Conc.base 47).at ⟨#[c,r,wk,undef,undef,undef,.chan (some pk),.chan (some th),undef,.chan (some pk),.chan (some th),r,wk,.chan (some pk),.chan (some th),undef,undef,undef,undef,undef,undef,undef,undef,undef,undef],[]⟩ [.inRegion (co (cl (cr (cr c59)))) [],.code (cr (cr (cr c59)))]) cs) (born Tryz.prog (dcall 77 #[r,wk,.chan (some pk),.chan (some th)])) w #[]:=by
 simp only[c59,Tryz.f47,cl,cr,co,Option.getD];rw[stepG_spawn rfl rfl (by decide) (d:=dcall 77 #[r,wk,.chan (some pk),.chan (some th)]) (w':=w) (by go_simp;rfl) rfl,listed_none (by simp[go_sem])];rfl
theorem dD.imp{P:Program}{main:Bool}{R:World->World->Prop}{D:World->World->Array Event->Prop}{Stop Stop':Goroutine->World->Prop}{g:Goroutine}{w:World}(h:dD P main R D Stop g w)(hs:∀g w,Stop g w->Stop' g w):dD P main R D Stop' g w :=
 h (λg w=>dD P main R D Stop' g w) (λ_ _ h=>.stop λw₁ h1=>hs _ _ (h w₁ h1)) λ_ _ hr h=>.step hr h
theorem Zr (hf : Tryz.prog.funcs[f]? = some fn) (hname : (fn.name == "runtime.NumGoroutine") = false) (hb : fn.body.isNone = false) (hq : q0.length ≤ 20000)
 {Q1:World->Prop} {R3:Value->List bF->Array Value->TypeId->World->Prop}
 (Gm:gU Tryz.prog f (fst++cap) ((w.alloc (.chan 0 #[] false 0 0 false)).alloc (.chan 0 #[] false 0 0 false)) (λ_ w'=>Q1 w'))
 (aa9:∀w₁,Q1 w₁->Qt Tryz.prog 134 (Tryz.f134.body.getD .skip) {tmps:=#[.pointer (some ⟨br,0,none⟩)]++Array.replicate (Tryz.f134.ntmps-(#[.pointer (some ⟨br,0,none⟩)]:Array Value).size) undef,defers:=[]} w₁ (λ_ w'=>∃sl ps rc tR,Written bc br gv sv sl q0 ps rc tR w.heap.size w'/\R3 sl ps rc tR w'))
 (h:∀sl ps rc tR w3 w4,Written bc br gv sv sl q0 ps rc tR w.heap.size w3->R3 sl ps rc tR w3->Lm bc br gv sv sl q0 ps rc tR w.heap.size w3 w4->XR Tryz.prog K (G (cF.finish (.tuple #[])) cs) w4) :
 XR Tryz.prog K (G (Frame.enter Tryz.prog 47 #[.pointer (some ⟨bc,0,none⟩),.pointer (some ⟨br,0,none⟩),.func (.func f) fst cap] .normal) (cF::cs)) w:=by
 refine NS nH ?_;obtain⟨n,hn⟩:=SK (.pointer (some ⟨bc,0,none⟩)) (.pointer (some ⟨br,0,none⟩)) (.func (.func f) fst cap) w.heap.size (w.heap.size+1) (cF::cs);have hpk:dG ((w.alloc (.chan 0 #[] false 0 0 false)).alloc (.chan 0 #[] false 0 0 false)) w.heap.size 0:=by
  unfold dG;rw[alloc_old (by rw[jJ];omega),je]
 have hth:dG ((w.alloc (.chan 0 #[] false 0 0 false)).alloc (.chan 0 #[] false 0 0 false)) (w.heap.size+1) 0:=by
  unfold dG;have:=je (w.alloc (.chan 0 #[] false 0 0 false)) (.chan 0 #[] false 0 0 false);rwa [jJ]at this
 generalize ajJ:w.heap.size=pk at *;let pq:Goroutine->World->Prop:=λg w'=>∃sl ps rc tR w3 F' x,Written bc br gv sv sl q0 ps rc tR pk w3/\R3 sl ps rc tR w3/\Be br pk rc tR sl ps (um (.pointer (some ⟨br,0,none⟩)) (.func (.func f) fst cap) pk (pk+1) x [Bf (pk+1)]) [jk Tryz.prog] (ps.map bF.val) F' g w'/\Gf (λx=>x=br\/some x=sl.ownBlock) w3 F' w'
 refine hire (pq:=pq) rfl (λw₁=>Zq _ _ _ _ _ _ w₁) hn hpk hth (by omega) ?_ ?_
 ·-- the worker
  refine Kj wN hf hname hb ?_;refine Gm false _ _ _ wN λfr v w' _ hl hQ=>wN.back hl ?_
  refine Kk wN ?_;have key:∀(sl:Value) (ps:List bF) (rc:Array Value) (tR:TypeId) (w3:World),Written bc br gv sv sl q0 ps rc tR pk w3->R3 sl ps rc tR w3->dD Tryz.prog false cO (DW pk (pk+1)) pq (G (um (.pointer (some ⟨br,0,none⟩)) (.func (.func f) fst cap) pk (pk+1) v [dcall 133 #[.pointer (some ⟨br,0,none⟩),.chan (some pk)],Bf (pk+1)]) [jk Tryz.prog]) w3:=by
   intro sl ps rc tR w3 hW SV;refine Le wN ?_;have hnot:∀c,w3.heap[c]?=some (.chan 0 #[] false 0 0 false)->¬(c=br\/some c=sl.ownBlock):=by
    rintro c hc (rfl|h)
    .rw[hW.rep]at hc;cases hc
    .obtain⟨cur,aR⟩:=y9 hW.box h.symm
     rw[hc]at aR;cases aR
   have aba:∀x,(x=br\/some x=sl.ownBlock)->x<w3.heap.size:=by
    rintro x (rfl|h)
    .exact ae hW.rep
    .obtain⟨cur,aR⟩:=y9 hW.box h.symm
     exact ae aR
   have hgo:=VW (br:=br) (pk:=pk) (tR:=tR) (cR:=um (.pointer (some ⟨br,0,none⟩)) (.func (.func f) fst cap) pk (pk+1) v [Bf (pk+1)]) (cs1:=[jk Tryz.prog]) (F:=λx=>x=br\/some x=sl.ownBlock) rfl hW.few (.inl rfl) hW.rep hW.out hW.box (λg hg=>.inr hg.symm) aba;refine(hgo.toU (pk:=pk) (th:=pk+1) (hnot _ hW.ch.1) (hnot _ hW.ch.2) (ae hW.ch.1) (ae hW.ch.2) aba).imp ?_;rintro g w' ⟨F',h1,h2⟩;exact⟨sl,ps,rc,tR,w3,F',v,hW,SV,h1,h2⟩
  rw[enter_atD #[.pointer (some ⟨br,0,none⟩)] Tryz.func134 (c:=Tryz.f134.body.getD .skip) rfl];refine aa9 w' hQ false _ _ (baseD 134) _ wN rfl (by decide) λa' todo w3 hd hq=>?_
  obtain⟨sl,ps,rc,tR,hW,SV⟩:=hq;refine wN.c.go rfl (λw=>stepG_leave_deferred (b:=baseD 134) (fn:=Tryz.f134) rfl hd Tryz.func134 (results_none (by kernel_rfl) _ _ _) (events_results_none (by kernel_rfl) _ _) rfl) ?_;exact key sl ps rc tR w3 hW SV
 ·-- the meeting
  rintro b w' ⟨sl,ps,rc,tR,w3,F',x,hW,SV,hSW,hS0⟩;have hrc:20<rc.size:=(Jbd.1 hW.out).1;have hF':∀c,¬(c=br\/some c=sl.ownBlock)->c<w3.heap.size->¬F' c:=λc hc hl hx=>by
   rcases hS0.own c hx with h|h
   .exact hc h
   .omega
  have hbc:¬(bc=br\/some bc=sl.ownBlock):=λh=>h.elim hW.ne1 hW.ne3
  have hsv:∀g,sv.ownBlock=some g->¬(g=br\/some g=sl.ownBlock):=λg hg h=>h.elim (λe=>hW.OB (by rw[hg,e])) (hW.ne4 g hg)
  have Qy:∀g,sv.ownBlock=some g->g<w3.heap.size:=λg hg=>by
   obtain⟨cur,aR⟩:=y9 hW.row hg;exact ae aR
  have hnot:∀c,w3.heap[c]?=some (.chan 0 #[] false 0 0 false)->¬(c=br\/some c=sl.ownBlock):=by
   rintro c hc (rfl|h)
   .rw[hW.rep]at hc;cases hc
   .obtain⟨cur,aR⟩:=y9 hW.box h.symm
    rw[hc]at aR;cases aR
  have Yb:∀c,w3.heap[c]?=some (.chan 0 #[] false 0 0 false)->¬(c=bc\/some c=sv.ownBlock):=by
   rintro c hc (rfl|h)
   .rw[hW.fu]at hc;cases hc
   .obtain⟨cur,aR⟩:=y9 hW.row h.symm
    rw[hc]at aR;cases aR
  have htk:q0.take 20000=q0:=Jd2 hq;have abb:w'.heap[bc]?=some (.cells #[gv,sv] 118):=(hS0.rest bc (ae hW.fu) hbc).trans hW.fu;have hrow:w'.ownsRow 0 97 5 sv q0.length (flat q0):=ax hW.row λg hg=>hS0.rest g (Qy g hg) (hsv g hg)
  have abd:∀x,(x=bc\/some x=sv.ownBlock)->x<w'.heap.size:=by
   rintro x (rfl|h)
   .exact ae abb
   .have:=Qy x h.symm;have:=hS0.size;omega
  refine⟨Gj bc gv (.pointer (some ⟨br,0,none⟩)) (.func (.func f) fst cap) pk (pk+1) q0 (cF::cs),Be br pk rc tR sl ps (um (.pointer (some ⟨br,0,none⟩)) (.func (.func f) fst cap) pk (pk+1) x [Bf (pk+1)]) [jk Tryz.prog],(λv=>∃p:bF,v=p.val),ps.map bF.val,(λx=>x=bc\/some x=sv.ownBlock),F',⟨λs e1 e2 e3 e4=>Zp hq hW.few hrc s e1 e2 e3 e4,hSW,?_,?_,abd,hS0.xD,⟨Yb _ hW.ch.1,Yb _ hW.ch.2⟩,⟨hF' _ (hnot _ hW.ch.1) (ae hW.ch.1),hF' _ (hnot _ hW.ch.2) (ae hW.ch.2)⟩⟩,?_⟩
  .exact⟨_,⟨[],rfl,sv,_,_,_,_,_,_,_,_,_,rfl,.inl rfl,abb,by simpa[htk]using hrow,λg hg=>.inr hg.symm,abd⟩,Dp _ _ _ _ _ _ _ _ _ _ _ _ _ _ _⟩
  .rintro y (rfl|hy)
   .exact hF' _ hbc (ae hW.fu)
   .exact hF' _ (hsv y hy.symm) (Qy y hy.symm)
  .intro xB Bb Ow a0 b0 w4 hM hat hWn hD
   obtain⟨ps',e,bX,x8,dI,gV,gX,x20,tu,tC,tF,x24,rfl,k2,k3,k4,k5,k6⟩:=hM;obtain rfl:=Ll e;obtain rfl:=hat.inj (Dp _ _ _ _ _ _ _ _ _ _ _ _ _ _ _) w4;refine SS nH (h sl ps rc tR w3 w4 hW SV ⟨⟨bX,k3,k4,λg hg=>?_⟩,hWn.2.2.1,λy hy h1 h2 h3 h4 h5 h6=>?_,Jb1 hS0.size hD.size,hD.os.trans hS0.os,hD.out.trans hS0.out⟩)
   .by_cases hl:g<w'.heap.size
    .rcases hD.BQ g hl (k5 g hg)with rfl|h
     .exact absurd (by rw[hg]) (IA k4 k3)
     .exact .inl h.symm
    .exact .inr (by have:=hS0.size;omega)
   .have agP:=hF' y (λh=>h.elim h2 h4) hy
    rw[hD.rest y (Jbz hy hS0.size) (λh=>h.elim h1 h3) agP h5 h6];exact hS0.rest y hy λh=>h.elim h2 h4
end
section
variable{P:Program}{f:FuncId}{args:Array Value}{w:World}{Post:Value->World->Prop}
end
section
variable{P:Program}{main:Bool}{D:World->World->Array Event->Prop}{X:Goroutine->World->Prop}{w:World}{b:Frame}{a:Act}{k:List Item}{cs:List Frame}{ops:Array Oper}{i:Nat}{rest:List Nat}{o:Oper}
theorem EO{A:FuncId->Bool}{S:FuncId->List Nat}{fn:FuncId}{ρ:Operand->Value}(h:VH A S fn o.op=true)(hc:KR o.op=true):Plain [] (execOp ρ o):=(VI h hc).1
theorem rf{ρ:Operand->Value}{bt:Builtin}{ar:Array Operand}{ats:Array TypeId}(hop:o.op=.call {callee:=.builtin bt,args:=ar,argTypes:=ats})(h:BK bt=true):Plain [] (execOp ρ o):=by
 have e:execOp ρ o=builtin bt ats o.type (ar.map λ | .const _=>true|_=>false) (ar.map ρ):=by
  unfold execOp;rw[hop];rfl
 rw[e];exact(Qk h _ _ _ _).1
theorem vV{ρ:Operand->Value}{ty:TypeId}{x:Operand}(hop:o.op=.load ty x):Plain [] (execOp ρ o):=EO (A:=λ_=>false) (S:=λ_=>[]) (fn:=0) (by rw[hop];rfl) (by rw[hop];rfl)
theorem NU{ρ:Operand->Value}{ty:TypeId}{x y:Operand}(hop:o.op=.store ty x y):Plain [] (execOp ρ o):=EO (A:=λ_=>false) (S:=λ_=>[]) (fn:=0) (by rw[hop];rfl) (by rw[hop];rfl)
end
section
variable(P:Program)(X:Goroutine->World->Prop)(b:Frame)(k:List Item)(cs:List Frame)(ops:Array Oper)(S:World->Prop)(z:Nat)
end
section
variable{P:Program}{main:Bool}{D:World->World->Array Event->Prop}{X:Goroutine->World->Prop}{b:Frame}{k:List Item}{cs:List Frame}{ops:Array Oper}{S:World->Prop}{z:Nat}
theorem gU.same{f:FuncId}{args:Array Value}{w w₁:World}{Post:Value->World->Prop}(h:gU P f args w Post)(hs:cO w w₁):gU P f args w₁ Post:=λmain D X cs hX hk=>hX.rely hs (h main D X cs hX hk)
end
section
variable{P:Program}{ops:Array Oper}
end
structure GB(r:Option Nat)(w w':World):Prop where
 os:w'.os=w.os
 out:w'.output=w.output
 size:w.heap.size<=w'.heap.size
 block:∀x,x<w.heap.size->some x≠r->w'.heap[x]?=w.heap[x]?
theorem GB.refl(r:Option Nat)(w:World):GB r w w:=⟨rfl,rfl,Jb0 _,λ_ _ _=>rfl⟩
theorem GB.trans{r:Option Nat}{a b c:World}(h:GB r a b)(k:GB r b c):GB r a c:=⟨k.os.trans h.os,k.out.trans h.out,Jb1 h.size k.size,λx hx hr=>(k.block x (Jbz hx h.size) hr).trans (h.block x hx hr)⟩
theorem GB.only{b:Nat}{w w':World}(h:Only b w w'):GB (some b) w w':=⟨h.os,h.output,Jc0 h.size.symm,λx _ hr=>h.block x λe=>hr (by rw[e])⟩
theorem GB.weak{r:Option Nat}{w w':World}(h:GB none w w'):GB r w w':=⟨h.os,h.out,h.size,λx hx _=>h.block x hx nofun⟩
theorem GB.alloc(r:Option Nat)(w:World)(o:Obj):GB r w (w.alloc o):=⟨rfl,rfl,by rw[jJ];omega,λx hx _=>alloc_old hx o⟩
theorem GB.same{r:Option Nat}{a b c:World}(h:GB r a b)(hs:cO b c):GB r a c:=by
 obtain⟨p,rfl⟩:=hs;exact⟨h.os,h.out,h.size,h.block⟩
theorem GB.get{r:Option Nat}{w w':World}(h:GB r w w'){x:Nat}{o:Obj}(hx:w.heap[x]?=some o)(hr:some x≠r):w'.heap[x]?=some o:=(h.block x (ae hx) hr).trans hx
def Emp(w:World)(m:Nat):Prop:=w.heap[m]?=some (.map #[] 0)
section
variable{P:Program}{w:World}{m:Nat}
theorem xG{key:TypeId}{k:Int}{b:Bool}(hk:P.underlying key=some (.int .u32))(n:Nat)(w:World):(Instr.checkKey b (n+1) key (.int .u32 k)).run P w=.ok () w:=by
 rw[Instr.checkKey];simp[run_underlying hk]
end
theorem Qz{ρ:Operand->Value}{o:Oper}{t:TypeId}{x:Operand}(hop:o.op=.range t x):execOp ρ o=(do pure (Next.value (<-Instr.range t (ρ x)))):=by
 unfold execOp;rw[hop]
theorem Jo{ρ:Operand->Value}{o:Oper}{x:Operand}(hop:o.op=.next x false):execOp ρ o=(do pure (Next.value (<-Instr.next (ρ x) false o.type))):=by
 unfold execOp;rw[hop]
theorem Gn{ρ:Operand->Value}{o:Oper}{t:TypeId}{x:Operand}(hop:o.op=.call {callee:=.builtin .clear,args:=#[x],argTypes:=#[t]}):execOp ρ o=(do pure (Next.value (<-Builtin.clear_ #[t] o.type #[ρ x]))):=by
 have e:execOp ρ o=builtin .clear #[t] o.type (#[x].map λ | .const _=>true|_=>false) (#[x].map ρ):=by
  unfold execOp;rw[hop];rfl
 rw[e,show #[x].map ρ=#[ρ x]by simp];rfl
section
variable{P:Program}{main:Bool}{D:World->World->Array Event->Prop}{X:Goroutine->World->Prop}{w:World}{b:Frame}{a:Act}{k:List Item}{cs:List Frame}{ops:Array Oper}{i:Nat}{rest:List Nat}{o:Oper}
end
end
section
open Go Go.Conc Go.RowKit
section
variable{P:Program}{main:Bool}{D:World->World->Array Event->Prop}{X:Goroutine->World->Prop}{w:World}{b:Frame}{a:Act}{k:List Item}{cs:List Frame}{ops:Array Oper}{i:Nat}{rest:List Nat}{o:Oper}
theorem aH.unw(hX:aH P main X)(ho:ops[i]?=some o)(hw:Region.wanted o (yielded ops a.tmps)=false)(h:X (G (b.at (a.put o.dst undef) (.inRegion ops rest::k)) cs) w):X (G (b.at a (.inRegion ops (i::rest)::k)) cs) w :=
 hX.go rfl (λ_=>stepG_unwanted ho hw) h
theorem NW{s x:Operand}{t:TypeId}(hop:o.op=.call {callee:=.builtin .append,args:=#[s,x],argTypes:=#[t,t]})
 (e:TypeId) (ii:TypeInfo) (z:Value) (size bytes:Nat) (ht:P.underlying t=some (.slice e)) (hi:P.info? e=some ii) (hz:ii.zero=some z) (hsize:ii.size=size) (hby:ii.bytes=bytes) (hzs:z.cells.size=size) (hsz:0<size)
 {v:Value} {n:Nat} {xs:List Value} (hs:a.eval s=v) (hown:w.ownsRow 0 e size v n xs) {B m c:Nat} {news:List Value} {off:Nat} (hx:a.eval x=.slice (some ⟨B,off,none⟩) m c) {nb:Array Value} {tb:TypeId} (hW:w.heap[B]?=some (.cells nb tb)) (hnb:(nb.toList.drop off).take (m*size)=news) (hl:news.length=m*size) (h1:∀u∈news,u.oneCell'=true)
 (h63:n+m<=maxLen) (hbytes:(n+m)*bytes<=140737488355328):∃v' w',(execOp a.eval o).run P w=.ok (.value v') w'/\w'.ownsRow 0 e size v' (n+m) (xs++news)/\GB v.ownBlock w w'/\(∀g,v'.ownBlock=some g->v.ownBlock=some g\/w.heap.size<=g)/\∀g c',v=.slice (some ⟨g,0,none⟩) n c'->n+m<=c'->v'=.slice (some ⟨g,0,none⟩) (n+m) c':=by
 have hnews:∀j u,news[j]?=some u->w.cell? ((⟨B,off,none⟩:Addr).add j)=some u:=λj u hu=>by
  have hadd:(⟨B,off,none⟩:Addr).add j=⟨B,off+j,none⟩:=by unfold Addr.add;split<;>simp_all
  rw[hadd,zQ hW];rw[<-hnb,Jc5]at hu;split at hu
  .rw[Jcf]at hu;simpa using hu
  .cases hu
 obtain⟨v',w',hrun,ho',hg⟩:=y7 (P:=P) w 0 t o.type e ii z size bytes ht hi hz hsize hby hzs hsz v n xs hown ⟨B,off,none⟩ m c news hl hnews h1 h63 hbytes (Jcm _);refine⟨v',w',?_,ho',⟨hg.grown.os,hg.grown.output,hg.grown.size,λy hy hne=>hg.grown.block y hy hne⟩,λg hgo=>?_,λg c' hv hroom=>?_⟩
 .have hh:=uponK_append (P:=P) s x t hop hs hx hrun (K:=λa' w''=>a'=a.put o.dst v'/\w''=w') ⟨rfl,rfl⟩
  have e1:execOp a.eval o=builtin .append #[t,t] o.type (#[s,x].map λ | .const _=>true|_=>false) (#[s,x].map a.eval):=by
   unfold execOp;rw[hop];rfl
  rw[e1];simp only[map_toArray,Jcj,map_nil,hs,hx];unfold builtin;simp only[Sem.run_bind];simp[hrun]
 .rcases hg.own with he|he
  .exact .inl (he▸hgo)
  .exact .inr (he g hgo)
 .subst hsize
  rcases hown.2 with⟨e0,_⟩|⟨g2,cap,cur,e2,_,hg2,_,_,hcs,_⟩
  .rw[hv]at e0;cases e0
  .rw[hv]at e2
   injection e2 with e3 _ e4;injection e3 with e3;injection e3 with e3;subst e3;subst e4;have hr:=run_append_room (P:=P) w t o.type e ii ht hi g n c' cur hg2 ⟨B,off,none⟩ m c news hl hnews h1 hroom (by rw[hl,hcs,<-Nat.add_mul];exact Jcr _ hroom);rw[hv,hr]at hrun;injection hrun with hrun;exact hrun.symm
end
structure mH(w:World)(m:Nat)(l:List (Int×Value)):Prop where
 ex:∃es clock,w.heap[m]?=some (.map es clock)/\es.toList.map (λe=>(e.key,e.val))=l.map (λp=>(Value.int .u32 p.1,p.2))/\(es.toList.map MapEntry.born).Nodup/\∀e∈es.toList,e.born<clock
 keys:(l.map Prod.fst).Nodup
theorem mH.same{w w':World}{m:Nat}{l:List (Int×Value)}(h:mH w m l)(hs:cO w w'):mH w' m l:=by
 obtain⟨es,c,h1,h2⟩:=h.ex;exact⟨⟨es,c,by rw[hs.heap];exact h1,h2⟩,h.keys⟩
theorem mH.keep{w w':World}{m:Nat}{l:List (Int×Value)}(h:mH w m l)(hs:w'.heap[m]?=w.heap[m]?):mH w' m l:=by
 obtain⟨es,c,h1,h2⟩:=h.ex;exact⟨⟨es,c,by rw[hs];exact h1,h2⟩,h.keys⟩
theorem Emp.agQ{w:World}{m:Nat}(h:Emp w m):mH w m []:=⟨⟨#[],0,h,rfl,nodup_nil,by simp⟩,nodup_nil⟩
def idx(l:List (Int×Value))(k:Int):Option (Nat×Value):=go l 0
where go:List (Int×Value)->Nat->Option (Nat×Value)
 | [],_=>none
 |p::r,i=>if p.1=k then some (i,p.2)else go r (i+1)
theorem za(k:Int):∀(es:List MapEntry) (l:List (Int×Value)) (i:Nat),es.map (λe=>(e.key,e.val))=l.map (λp=>(Value.int .u32 p.1,p.2))->Instr.findNow (.int .u32) (.int .u32 k) es i=some (idx.go k l i)
 | [],l,i,h=>by
  cases l with
  |nil=>rfl
  |cons p r=>simp at h
 |e::es,l,i,h=>by
  cases l with
  |nil=>simp at h
  |cons p r =>
   simp only[Jcj,Jd8,Jcw]at h;obtain⟨⟨h1,h2⟩,h3⟩:=h;unfold Instr.findNow idx.go;rw[h1,h2];by_cases hk:p.1=k
   .simp[Instr.sameNow,hk]
   .have:¬k=p.1:=λe=>hk e.symm
    simp only[Instr.sameNow,Jb8,Jd9.2 this,hk,Jba];exact za k es r (i+1) h3
section
variable{P:Program}{w:World}{m:Nat}{l:List (Int×Value)}
theorem NY{t key e:TypeId}{z:Value}{k:Int}(ht:P.underlying t=some (.map key e))(hk:P.underlying key=some (.int .u32))(hz:∀w,(zeroValue e).run P w=.ok z w)(h:mH w m l):(Instr.lookup t (.map (some m)) (.int .u32 k) true).run P w=.ok (match idx l k with|some (_,v)=>.tuple #[v,.bool true]|none=>.tuple #[z,.bool false]) w:=by
 obtain⟨es,c,h1,h2,_,_⟩:=h.ex;have hf:=za k es.toList l 0 h2;have hc:=xG (P:=P) (k:=k) (b:=es.isEmpty) hk 9999 w;simp only[Nat.reduceAdd]at hc;have hi:idx l k=idx.go k l 0:=rfl;rw[hi];cases hg:idx.go k l 0 with
 |none =>
  rw[hg]at hf;simp[Instr.lookup,run_underlying ht,run_underlying hk,getObj,h1,Sem.run,hz,Instr.findKey,hf,hc]
 |some p =>
  rw[hg]at hf;obtain⟨i,v⟩:=p;simp[Instr.lookup,run_underlying ht,run_underlying hk,getObj,h1,Sem.run,Instr.findKey,hf,hc]
theorem QA{t ty key e:TypeId}(ht:P.underlying t=some (.map key e))(h:mH w m l):∃w',(Builtin.clear_ #[t] ty #[.map (some m)]).run P w=.ok (.tuple #[]) w'/\mH w' m []/\GB (some m) w w':=by
 obtain⟨es,c,h1,h2,_,_⟩:=h.ex;refine⟨{w with heap:=w.heap.setIfInBounds m (.map #[] c)},?_,⟨⟨#[],c,?_,rfl,nodup_nil,by simp⟩,nodup_nil⟩,⟨rfl,rfl,by simp,λx hx hne=>?_⟩⟩
 .simp[Builtin.clear_,run_underlying ht,getObj,setObj,h1,Sem.run]
 .exact Array.getElem?_setIfInBounds_self_of_lt (ae h1)
 .exact Array.getElem?_setIfInBounds_ne λe=>hne (by rw[e])
def QB(l:List (Int×Value))(k:Int)(v:Value):List (Int×Value):=match idx l k with
 |some (i,_)=>l.modify i λ_p=>(k,v)
 |none=>l++[(k,v)]
theorem qL{k:Int}:∀{l:List (Int×Value)} {i j:Nat} {v:Value},idx.go k l i=some (j,v)->∃d,j=i+d/\l[d]?=some (k,v)
 | [],_,_,_,h=>by simp[idx.go]at h
 |p::r,i,j,v,h=>by
  unfold idx.go at h;split at h
  .rename_i hk
   cases h
   exact⟨0,rfl,by simp[<-hk]⟩
  .obtain⟨d,h1,h2⟩:=qL h
   exact⟨d+1,by omega,by simpa using h2⟩
theorem zU{k:Int}:∀{l:List (Int×Value)} {i:Nat},idx.go k l i=none->∀p∈l,p.1≠k
 | [],_,_,p,hp=>by simp at hp
 |q::r,i,h,p,hp=>by
  unfold idx.go at h;split at h
  .cases h
  .rename_i hk
   rcases Jb3.1 hp with rfl|hp
   .exact hk
   .exact zU h p hp
theorem rP{α β:Type}(f:α->β)(g:α->α)(g':β->β)(hfg:∀x,f (g x)=g' (f x)):∀(l:List α) (i:Nat),(l.modify i g).map f=(l.map f).modify i g'
 | [],_=>by simp
 |x::r,0=>by simp[hfg]
 |x::r,i+1=>by simpa using rP f g g' hfg r i
theorem NZ{t key e:TypeId}{k:Int}{v:Value}(ht:P.underlying t=some (.map key e))(hk:P.underlying key=some (.int .u32))(h:mH w m l):∃w',(Instr.mapUpdate t (.map (some m)) (.int .u32 k) v).run P w=.ok () w'/\mH w' m (QB l k v)/\GB (some m) w w':=by
 obtain⟨es,c,h1,h2,h3,h4⟩:=h.ex;have hf:=za k es.toList l 0 h2;have hc:=xG (P:=P) (k:=k) (b:=false) hk 9999 w;simp only[Nat.reduceAdd]at hc;have hlt:=ae h1;unfold QB;rw[show idx l k=idx.go k l 0 from rfl];cases hg:idx.go k l 0 with
 |none =>
  rw[hg]at hf;refine⟨{w with heap:=w.heap.setIfInBounds m (.map (es.push {key:=.int .u32 k,val:=v,born:=c}) (c+1))},?_,⟨⟨_,_,Array.getElem?_setIfInBounds_self_of_lt hlt,?_,?_,?_⟩,?_⟩,⟨rfl,rfl,by simp,λx hx hne=>Array.getElem?_setIfInBounds_ne λe=>hne (by rw[e])⟩⟩
  .simp[Instr.mapUpdate,run_underlying ht,run_underlying hk,getObj,setObj,h1,Sem.run,Instr.findKey,hf,hc]
  .simp[h2]
  .simp only[Array.toList_push,Jda,Jcj,map_nil]
   refine nodup_append.2 ⟨h3,by simp,?_⟩;intro a ha b hb;simp only[Jb3,Jbw,Jbx]at hb;obtain⟨e',he,rfl⟩:=Jdb.1 ha;have:=h4 e' he;omega
  .intro e' he
   simp only[Array.toList_push,Jdc,Jb3,Jbw,Jbx]at he;rcases he with he|rfl
   .have:=h4 e' he;omega
   .exact Jbp _
  .simp only[Jda,Jcj,map_nil]
   refine nodup_append.2 ⟨h.keys,by simp,?_⟩;intro a ha b hb;simp only[Jb3,Jbw,Jbx]at hb;obtain⟨p,hp,rfl⟩:=Jdb.1 ha;rw[hb];exact zU hg p hp
 |some q =>
  obtain⟨i,v0⟩:=q;rw[hg]at hf;obtain⟨d,hd,hi⟩:=qL hg;obtain rfl:d=i:=by omega
  have hes:∃e0,es[d]?=some e0/\e0.key=.int .u32 k:=by
   have:=congrArg (λq=>q[d]?) h2;simp only[Jdd,hi,Jbb]at this;obtain⟨e0,he0,he1⟩:=Jbk.1 this;exact⟨e0,by simpa using he0,by simpa using congrArg Prod.fst he1⟩
  obtain⟨e0,he0,he1⟩:=hes;refine⟨{w with heap:=w.heap.setIfInBounds m (.map (es.modify d λe=>{e with key:=.int .u32 k,val:=v}) c)},?_,⟨⟨_,_,Array.getElem?_setIfInBounds_self_of_lt hlt,?_,?_,?_⟩,?_⟩,⟨rfl,rfl,by simp,λx hx hne=>Array.getElem?_setIfInBounds_ne λe=>hne (by rw[e])⟩⟩
  .simp[Instr.mapUpdate,run_underlying ht,run_underlying hk,getObj,setObj,h1,Sem.run,Instr.findKey,hf,hc,he0,he1,Instr.keyThatStays,Instr.sameBits]
  .rw[Array.toList_modify,rP (λe:MapEntry=>(e.key,e.val)) (λe=>{e with key:=.int .u32 k,val:=v}) (λ_=>(Value.int .u32 k,v)) (λ_=>rfl),h2]
   exact(rP (λp:Int×Value=>(Value.int .u32 p.1,p.2)) (λ_=>(k,v)) (λ_=>(Value.int .u32 k,v)) (λ_=>rfl) _ _).symm
  .rw[Array.toList_modify,rP MapEntry.born (λe=>{e with key:=.int .u32 k,val:=v}) id (λ_=>rfl)]
   rw[show ∀(q:List Nat) (j:Nat),q.modify j id=q from λq j=>modify_id j q];exact h3
  .intro e' he'
   rw[Array.toList_modify]at he';obtain⟨j,hj⟩:=Jdf.1 he';rw[getElem?_modify]at hj;obtain⟨e1,h5,h6⟩:=Jbk.1 hj;have:=h4 e1 (Jcv h5);rw[<-h6];split<;>exact this
  .have:(l.modify d λ_=>(k,v)).map Prod.fst=l.map Prod.fst:=by
    rw[rP (Prod.fst:Int×Value->Int) (λ_=>(k,v)) (λ_=>k) (λ_=>rfl)];refine Jcd λj=>?_
    rw[getElem?_modify];by_cases hj:d=j
    .subst hj;simp[hi]
    .simp[hj]
   show((l.modify d λ_=>(k,v)).map Prod.fst).Nodup;rw[this];exact h.keys
end
end
