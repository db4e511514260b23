/- The loop of step; what is asked of its two parts. -/
import Derived.Test.YtignemioillaiabGreatG13
namespace Go.Proofs.YtignemioillaiabGreat
set_option maxHeartbeats 8000000
set_option maxRecDepth 100000
section
open Go Go.Conc
noncomputable def DN (bc:Nat) (gv r wk:Value) (pk th:Nat) (q0:List bJ) (cs:List Frame) (acc:List Value) (F:Nat→Prop) (a:Goroutine) (w:World):Prop :=
 ∃ ps:List bJ,acc=ps.map bJ.val∧∃ sv x8 dE fD fE x20 qJ qK qL x24,a=yS (.pointer (some ⟨bc,0,none⟩)) r wk pk th x8 dE fD fE x20 qJ qK qL x24 cs∧F bc∧w.heap[bc]? = some (.cells #[gv,sv] 118) ∧
  w.ownsRow 0 97 5 sv ((q0++ps).take 20000).length (flat ((q0++ps).take 20000))∧(∀ g,sv.ownBlock=some g→F g)∧∀ x,F x→x<w.heap.size
section
variable {bc:Nat} {gv r wk:Value} {pk th:Nat} {q0:List bJ} {cs:List Frame}
theorem DN.rely {acc:List Value} {F:Nat→Prop} {a:Goroutine} {w w1:World} (h:DN bc gv r wk pk th q0 cs acc F a w) (hr:aS F w w1):DN bc gv r wk pk th q0 cs acc F a w1:=by
 obtain ⟨ps,e,sv,x8,dE,fD,fE,x20,qJ,qK,qL,x24,h1,h2,h3,h4,h5,h6⟩:=h;exact ⟨ps,e,sv,x8,dE,fD,fE,x20,qJ,qK,qL,x24,h1,h2,(hr.own _ h2).trans h3,aF h4 fun g hg=>hr.own g (h5 g hg),h5,fun x hx=>Nat.lt_of_lt_of_le (h6 x hx) hr.size⟩
theorem Io (c r wk:Value) (pk th:Nat) (x8 dE fD fE x20 qJ qK qL x24:Value) (cs:List Frame) (i:Int) (v:Value) (ok:Bool):(yS c r wk pk th x8 dE fD fE x20 qJ qK qL x24 cs).finishComm Tryz.prog (di pk th z59 tu) .select i v ok =
 G ((Go.Conc.base 47).at ⟨zN c r wk pk th x8 (commResult (di pk th z59 tu) .select i v ok) fD fE x20 qJ qK qL x24,[]⟩ (.inRegion BG [1,2,3]::Il)) cs:=by
 show G (((Go.Conc.base 47).at ⟨zN c r wk pk th x8 dE fD fE x20 qJ qK qL x24,[]⟩ (.inRegion BG [0,1,2,3]::Il)).finish (commResult (di pk th z59 tu) .select i v ok)) cs=_;rw [Frame.finish_at];have:(BG[0]?).bind (·.dst)=some 17:=by
  unfold BG;simp only [Ik,Ij,c59,Tryz.f47,cl,cr,cb,co,Option.getD];rfl
 rw [this];rfl
theorem aao (v:Value):commResult (di pk th z59 tu) .select 0 v true=.tuple #[.int .i64 0,.bool true,v,tu]:=by
 simp [commResult,di,rcase,goInt]
theorem aap (v:Value):commResult (di pk th z59 tu) .select 1 v false=.tuple #[.int .i64 1,.bool false,z59,v]:=by
 simp [commResult,di,rcase,goInt]
theorem RJ {acc:List Value} {F:Nat→Prop} {a:Goroutine} {w:World} (h:DN bc gv r wk pk th q0 cs acc F a w) (hq:q0.length≤20000) :
 ∃ A2,iw Tryz.prog (di pk th z59 tu) A2 a∧∀ v,(∃ p:bJ,v=p.val)→aH Tryz.prog true (DN bc gv r wk pk th q0 cs (acc++[v])) F (A2.finishComm Tryz.prog (di pk th z59 tu) .select 0 v true) w:=by
 obtain ⟨ps,rfl,sv,x8,dE,fD,fE,x20,qJ,qK,qL,x24,rfl,g2,h3,h4,h5,h6⟩:=h;refine ⟨_,AV _ _ _ _ _ _ _ _ _ _ _ _ _ _ _,?_⟩;rintro _ ⟨p,rfl⟩;rw [Io,aao];have hend:∀ (F':Nat→Prop) (w':World) (dw y8 Xw Xx Xy y20 y21 y22 y23 y24:Value),F' bc→(∀ x,F' x→x<w'.heap.size)→w'.heap[bc]? = some (.cells #[gv,dw] 118)→w'.ownsRow 0 97 5 dw ((q0++(ps++[p])).take 20000).length (flat ((q0++(ps++[p])).take 20000))→(∀ g,dw.ownBlock=some g→F' g) →
  aH Tryz.prog true (DN bc gv r wk pk th q0 cs (ps.map bJ.val++[p.val])) F' (yS (.pointer (some ⟨bc,0,none⟩)) r wk pk th y8 Xw Xx Xy y20 y21 y22 y23 y24 cs) w':=by
  intro F' w' dw y8 Xw Xx Xy y20 y21 y22 y23 y24 k1 k2 k3 k4 k5;refine aH.stop fun w1 h1=>DN.rely ?_ h1
  exact ⟨ps++[p],by simp,dw,y8,Xw,Xx,Xy,y20,y21,y22,y23,y24,rfl,k1,k3,k4,k5,k2⟩
 unfold yS zN BG Il at hend;unfold zN BG Il;simp only [Ik,Ij,c59,Tryz.f47,cl,cr,cb,co,Option.getD] at hend ⊢;refine aL.quiet aJ rfl rfl (by decide) _ (fun _=>by go_simp <;> rfl) (fun _=>by simp [go_sem, *]) ?_;simp [Act.put];refine aL.quiet aJ rfl rfl (by decide) _ (fun _=>by go_simp <;> rfl) (fun _=>by simp [go_sem, *]) ?_;simp [Act.put];refine aL.quiet aJ rfl rfl (by decide) _ (fun _=>by go_simp <;> rfl) (fun _=>by simp [go_sem, *]) ?_;simp [Act.put];refine aL.regionEnd aJ ?_;refine aL.block aJ ?_;refine aL.cond aJ true rfl ?_;simp only [if_true];refine aL.seq aJ ?_;refine aL.region aJ _ rfl ?_;simp [List.range,List.range.loop];refine aL.quiet aJ rfl rfl (by decide) _ (fun _=>by go_simp <;> rfl) (fun _=>by simp [go_sem, *]) ?_;simp [Act.put];refine aH.GV rfl rfl (by decide) (ob:=.cells #[.int .u8 0,.int .u8 0,.int .u8 0,.int .u8 0,.string ⟨#[]⟩] 97) (v:=fun n=>.pointer (some ⟨n,0,none⟩)) (fun w1=>by simp [go_sem]) (fun w1=>by go_simp) h6 (fun w1 h1=>?_);simp [Act.put];refine aH.DL rfl rfl (by decide) 97 rfl rfl (v:=.agg p.cells.toArray) rfl (.inr rfl) (B:=w1.heap.size) (xs:=#[.int .u8 0,.int .u8 0,.int .u8 0,.int .u8 0,.string ⟨#[]⟩]) (t:=97) (iF w1 _) (by kernel_rfl) rfl (Nat.le_refl 5) p.cells rfl (fun w2 w3 h2 hb3 M0 RB Xp Xq=>?_);simp [Act.put];have hs2:w1.heap.size+1≤w2.heap.size:=by rw [← iy];exact h2.size
 have hold:∀ x,F x→w3.heap[x]? = w.heap[x]?:=fun x hx=>by
  have hx1:x<w1.heap.size:=Nat.lt_of_lt_of_le (h6 x hx) h1.size;rw [M0 x (by omega),h2.own x (.inl hx),← h1.own x hx,alloc_old hx1]
 refine aL.regionEnd aJ ?_;refine aL.region aJ _ rfl ?_;simp [List.range,List.range.loop];refine aL.quiet aJ rfl rfl (by decide) _ (fun _=>by go_simp <;> rfl) (fun _=>by simp [go_sem, *]) ?_;simp [Act.put];refine aH.GX rfl rfl (by decide) 97 rfl rfl (.inr rfl) hb3 Tryz.underlying97 rfl (n:=5) (by kernel_rfl) (Nat.le_refl 5) p.cells rfl ?_;simp [Act.put];refine aL.call aJ rfl rfl (by decide) rfl Tryz.func45 (by kernel_rfl) (by rw [OZ];rfl) ?_;simp [Act.eval];have acZ:∀ x,(F x∨x=w1.heap.size)→x<w3.heap.size:=fun x hx=>by
  rcases hx with hx | hx
  ·have:=h6 x hx;have:=h1.size;omega
  ·omega
 refine Xv (q:=(q0++ps).take 20000) (.inl g2) ((hold bc g2).trans h3) (aF h4 fun g hg=>hold g (h5 g hg)) (fun g hg=>.inl (h5 g hg)) acZ (by simp;omega) (fun F' w' dw k1 k2 k3 k4 k5=>?_);rw [Frame.finish_at];simp [Act.put];refine aL.regionEnd aJ ?_;refine aL.inBlock aJ ?_;refine aL.inBlock aJ ?_;refine aL.inLoop aJ ?_;refine aL.block aJ ?_;refine aL.seq aJ ?_;refine aL.seq aJ ?_;refine aL.region aJ _ rfl ?_;simp [List.range,List.range.loop];refine aL.quiet aJ rfl rfl (by decide) _ (fun _=>by go_simp <;> rfl) (fun _=>by simp [go_sem, *]) ?_;simp [Act.put];refine aL.regionEnd aJ ?_;refine aL.region aJ _ rfl ?_;simp [List.range,List.range.loop];refine aL.quiet aJ rfl rfl (by decide) _ (fun _=>by go_simp <;> rfl) (fun _=>by simp [go_sem, *]) ?_;simp [Act.put];refine aL.regionEnd aJ ?_;refine aL.seq aJ ?_;refine aL.region aJ _ rfl ?_;simp [List.range,List.range.loop];refine hend F' w' dw _ _ _ _ _ _ _ _ _ (k1 _ (.inl g2)) k2 k3 ?_ k5;have htk:(q0++(ps++[p])).take 20000=((q0++ps).take 20000++[p]).take 20000:=by
  rw [← List.append_assoc,List.take_append (l₁:=q0++ps),List.take_append (l₁:=(q0++ps).take 20000),List.take_take,Nat.min_self];congr 1
  rw [List.length_take];by_cases hle:(q0++ps).length≤20000
  ·rw [Nat.min_eq_right hle]
  ·rw [Nat.min_eq_left (by omega)]
   congr 1
   omega
 rw [htk];exact k4
end
theorem val_inj {p q:bJ} (h:p.val=q.val):p=q:=by
 cases p
 cases q
 simp only [bJ.val,Value.agg.injEq,Array.mk.injEq,List.cons.injEq,Value.int.injEq,Value.string.injEq,true_and,and_true] at h;obtain ⟨rfl,rfl,rfl,rfl,rfl⟩:=h;rfl
theorem Ip:∀ {ps qs:List bJ},ps.map bJ.val=qs.map bJ.val→ps=qs
 | [],[],_=>rfl
 | [],_::_,h=>by cases h
 | _::_,[],h=>by cases h
 | p::ps,q::qs,h=>by
  injection h with h1 h2;rw [val_inj h1,Ip h2]
theorem VC {bc br:Nat} {gv r wk x rv:Value} {pk th:Nat} {q0:List bJ} {cs:List Frame} {rc:Array Value} {tR:TypeId} {sl:Value} {ps:List bJ} (hq:q0.length≤20000) (hn:ps.length<1000000) (hrc:20<rc.size) (s:Score) (e1:s.pk=pk) (e2:s.th=th) (e3:s.z0=z59) (e4:s.z1=tu) :
 Parts Tryz.prog s (DN bc gv r wk pk th q0 cs) (yQ br pk rc tR sl ps (rE rv wk pk th x [yR th]) [iK Tryz.prog]) (fun v=>∃ p:bJ,v=p.val):=by
 have hcs:s.cs=di pk th z59 tu:=by unfold Score.cs;rw [e1,e2,e3,e4]
 refine ⟨fun acc F a w w1 h hr=>h.rely hr,fun vs F b w w1 h hr=>h.rely hr,fun acc F a w h=>?_,fun v vs F b w h=>?_,fun F b w h=>?_⟩
 ·rw [hcs]
  exact RJ h hq
 ·rw [e1]
  exact Vx rfl hn hrc h
 ·obtain ⟨rfl,_⟩:=h
  refine ⟨rfl,rfl,G { (baseD 77).at ⟨xQ rv wk pk th x,[]⟩ [] with mode:=.returning } [iK Tryz.prog],2,Ih Tryz.func77 (by kernel_rfl),fun w1 kt hw=>?_⟩;rw [e2] at hw ⊢;exact M4 (b:=baseD 77) (by kernel_rfl) w1 hw
section
variable {K:Machine→Trace→Prop} {w:World} {bc br:Nat} {gv sv wk:Value} {q0:List bJ} {cs:List Frame} {cF:Frame} {f:FuncId} {fst cap:Array Value} {fn:Func}
structure Iq (bc br:Nat) (gv sv sl:Value) (q0 ps:List bJ) (rc:Array Value) (tR:TypeId) (pk:Nat) (w3 w4:World):Prop where
 eX:∃ dw,w4.heap[bc]? = some (.cells #[gv,dw] 118)∧w4.ownsRow 0 97 5 dw ((q0++ps).take 20000).length (flat ((q0++ps).take 20000))∧∀ g,dw.ownBlock=some g→sv.ownBlock=some g∨w3.heap.size≤g
 rep:w4.heap[br]? = some (.cells (rc.setIfInBounds 20 (.slice none 0 0)) tR)
 rest:∀ x,x<w3.heap.size→x≠bc→x≠br→some x≠sv.ownBlock→some x≠sl.ownBlock→x≠pk→x≠pk+1→w4.heap[x]? = w3.heap[x]?
 size:w3.heap.size≤w4.heap.size
 os:w4.os=w3.os
 out:w4.output=w3.output
structure Written (bc br:Nat) (gv sv sl:Value) (q0 ps:List bJ) (rc:Array Value) (tR:TypeId) (pk:Nat) (w3:World):Prop where
 eX:w3.heap[bc]? = some (.cells #[gv,sv] 118)
 row:w3.ownsRow 0 97 5 sv q0.length (flat q0)
 rep:w3.heap[br]? = some (.cells rc tR)
 out:rc[20]? = some sl
 box:w3.ownsRow 0 97 5 sl ps.length (flat ps)
 few:ps.length<1000000
 ne1:bc≠br
 KU:some br≠sv.ownBlock
 ne3:some bc≠sl.ownBlock
 ne4:∀ g,sv.ownBlock=some g→some g≠sl.ownBlock
 ch:w3.heap[pk]? = some (.chan 0 #[] false 0 0 false)∧w3.heap[pk+1]? = some (.chan 0 #[] false 0 0 false)
theorem wZ {w:World} {sv:Value} {n:Nat} {xs:List Value} (h:w.ownsRow 0 97 5 sv n xs) {g:Nat} (hg:sv.ownBlock=some g):∃ cur,w.heap[g]? = some (.cells cur 97):=by
 rcases h.2 with ⟨rfl,_⟩ | ⟨g',cap,cur,rfl,_,hb,_⟩
 ·cases hg
 ·obtain rfl:g'=g:=by simpa [Value.ownBlock] using hg
  exact ⟨cur,hb⟩
theorem O4 (hX:Shut Tryz.prog true wV (XR Tryz.prog K)) {c r:Value} {pk th:Nat} {x8 dE fD fE x20 qJ qK qL x24:Value} (h:XR Tryz.prog K (G (cF.finish (.tuple #[])) cs) w) :
 XR Tryz.prog K ((yS c r wk pk th x8 dE fD fE x20 qJ qK qL x24 (cF::cs)).finishComm Tryz.prog (di pk th z59 tu) .select 1 tu false) w:=by
 rw [Io,aap];unfold zN BG Il;simp only [Ik,Ij,c59,Tryz.f47,cl,cr,cb,co,Option.getD];refine aL.quiet hX.c rfl rfl (by decide) _ (fun _=>by go_simp <;> rfl) (fun _=>by simp [go_sem, *]) ?_;simp [Act.put];refine aL.quiet hX.c rfl rfl (by decide) _ (fun _=>by go_simp <;> rfl) (fun _=>by simp [go_sem, *]) ?_;simp [Act.put];refine aL.quiet hX.c rfl rfl (by decide) _ (fun _=>by go_simp <;> rfl) (fun _=>by simp [go_sem, *]) ?_;simp [Act.put];refine aL.regionEnd hX.c ?_;refine aL.block hX.c ?_;refine aL.cond hX.c false rfl ?_;simp only [Bool.false_eq_true,if_false];refine aL.cond hX.c true rfl ?_;simp only [if_true];refine aL.ret hX.c ?_;exact hX.c.go rfl (fun w=>stepG_leave (b:=Go.Conc.base 47) (fn:=Tryz.f47) rfl rfl Tryz.func47 (results_none (by kernel_rfl) _ _ _) (events_results_none (by kernel_rfl) _ _)) h
theorem VD (c r wk:Value) (pk th:Nat) (cs:List Frame) (w:World):stepG Tryz.prog true (G ((Go.Conc.base 47).at ⟨#[c,r,wk,undef,undef,undef,.chan (some pk),.chan (some th),undef,.chan (some pk),.chan (some th),r,wk,.chan (some pk),.chan (some th),undef,undef,undef,undef,undef,undef,undef,undef,undef,undef],[]⟩ [.inRegion (co (cl (cr (cr c59)))) [4],.code (cr (cr (cr c59)))]) cs) w =
 .spawn (G ((Go.Conc.base 47).at ⟨#[c,r,wk,undef,undef,undef,.chan (some pk),.chan (some th),undef,.chan (some pk),.chan (some th),r,wk,.chan (some pk),.chan (some th),undef,undef,undef,undef,undef,undef,undef,undef,undef,undef],[]⟩ [.inRegion (co (cl (cr (cr c59)))) [],.code (cr (cr (cr c59)))]) cs) (born Tryz.prog (dcall 77 #[r,wk,.chan (some pk),.chan (some th)])) w #[]:=by
 simp only [c59,Tryz.f47,cl,cr,co,Option.getD];rw [stepG_spawn rfl rfl (by decide) (d:=dcall 77 #[r,wk,.chan (some pk),.chan (some th)]) (w':=w) (by go_simp;rfl) rfl,listed_none (by simp [go_sem])];rfl
theorem dz.imp {P:Program} {main:Bool} {R:World→World→Prop} {D:World→World→Array Event→Prop} {Stop Stop':Goroutine→World→Prop} {g:Goroutine} {w:World} (h:dz P main R D Stop g w) (hs:∀ g w,Stop g w→Stop' g w):dz P main R D Stop' g w :=
 h (fun g w=>dz P main R D Stop' g w) (fun _ _ h=>.stop fun w₁ h1=>hs _ _ (h w₁ h1)) fun _ _ hr h=>.step hr h
theorem VE (hf : Tryz.prog.funcs[f]? = some fn) (hname : (fn.name == "runtime.NumGoroutine") = false) (hb : fn.body.isNone = false) (hq : q0.length ≤ 20000)
 {Q1:World→Prop} {R3:Value→List bJ→Array Value→TypeId→World→Prop}
 (DR:af Tryz.prog f (fst++cap) ((w.alloc (.chan 0 #[] false 0 0 false)).alloc (.chan 0 #[] false 0 0 false)) (fun _ w'=>Q1 w'))
 (Xz:∀ w₁,Q1 w₁→M3 Tryz.prog 134 (Tryz.f134.body.getD .skip) { tmps:=#[.pointer (some ⟨br,0,none⟩)]++Array.replicate (Tryz.f134.ntmps - (#[.pointer (some ⟨br,0,none⟩)]:Array Value).size) undef,defers:=[] } w₁ (fun _ w'=>∃ sl ps rc tR,Written bc br gv sv sl q0 ps rc tR w.heap.size w'∧R3 sl ps rc tR w'))
 (h:∀ sl ps rc tR w3 w4,Written bc br gv sv sl q0 ps rc tR w.heap.size w3→R3 sl ps rc tR w3→Iq bc br gv sv sl q0 ps rc tR w.heap.size w3 w4→XR Tryz.prog K (G (cF.finish (.tuple #[])) cs) w4) :
 XR Tryz.prog K (G (Frame.enter Tryz.prog 47 #[.pointer (some ⟨bc,0,none⟩),.pointer (some ⟨br,0,none⟩),.func (.func f) fst cap] .normal) (cF::cs)) w:=by
 refine Kk lT ?_;obtain ⟨n,hn⟩:=OY (.pointer (some ⟨bc,0,none⟩)) (.pointer (some ⟨br,0,none⟩)) (.func (.func f) fst cap) w.heap.size (w.heap.size+1) (cF::cs);have hpk:dB ((w.alloc (.chan 0 #[] false 0 0 false)).alloc (.chan 0 #[] false 0 0 false)) w.heap.size 0:=by
  unfold dB;rw [alloc_old (by rw [iy];omega),iF]
 have hth:dB ((w.alloc (.chan 0 #[] false 0 0 false)).alloc (.chan 0 #[] false 0 0 false)) (w.heap.size+1) 0:=by
  unfold dB;have:=iF (w.alloc (.chan 0 #[] false 0 0 false)) (.chan 0 #[] false 0 0 false);rwa [iy] at this
 generalize afT:w.heap.size=pk at *;let nE:Goroutine→World→Prop:=fun g w'=>∃ sl ps rc tR w3 F' x,Written bc br gv sv sl q0 ps rc tR pk w3∧R3 sl ps rc tR w3∧yQ br pk rc tR sl ps (rE (.pointer (some ⟨br,0,none⟩)) (.func (.func f) fst cap) pk (pk+1) x [yR (pk+1)]) [iK Tryz.prog] (ps.map bJ.val) F' g w'∧DJ (fun x=>x=br∨some x=sl.ownBlock) w3 F' w'
 refine hire (nE:=nE) rfl (fun w₁=>VD _ _ _ _ _ _ w₁) hn hpk hth (by omega) ?_ ?_
 ·-- the worker
  refine GQ uB hf hname hb ?_;refine DR false _ _ _ uB fun fr v w' _ hl hQ=>uB.back hl ?_
  refine GR uB ?_;have key:∀ (sl:Value) (ps:List bJ) (rc:Array Value) (tR:TypeId) (w3:World),Written bc br gv sv sl q0 ps rc tR pk w3→R3 sl ps rc tR w3→dz Tryz.prog false cu (DW pk (pk+1)) nE (G (rE (.pointer (some ⟨br,0,none⟩)) (.func (.func f) fst cap) pk (pk+1) v [dcall 133 #[.pointer (some ⟨br,0,none⟩),.chan (some pk)],yR (pk+1)]) [iK Tryz.prog]) w3:=by
   intro sl ps rc tR w3 hW O5;refine Ii uB ?_;have hnot:∀ c,w3.heap[c]? = some (.chan 0 #[] false 0 0 false)→¬ (c=br∨some c=sl.ownBlock):=by
    rintro c hc (rfl | h)
    ·rw [hW.rep] at hc;cases hc
    ·obtain ⟨cur,aT⟩:=wZ hW.box h.symm
     rw [hc] at aT;cases aT
   have XA:∀ x,(x=br∨some x=sl.ownBlock)→x<w3.heap.size:=by
    rintro x (rfl | h)
    ·exact ae hW.rep
    ·obtain ⟨cur,aT⟩:=wZ hW.box h.symm
     exact ae aT
   have hgo:=RD (br:=br) (pk:=pk) (tR:=tR) (cR:=rE (.pointer (some ⟨br,0,none⟩)) (.func (.func f) fst cap) pk (pk+1) v [yR (pk+1)]) (cs1:=[iK Tryz.prog]) (F:=fun x=>x=br∨some x=sl.ownBlock) rfl hW.few (.inl rfl) hW.rep hW.out hW.box (fun g hg=>.inr hg.symm) XA;refine (hgo.toU (pk:=pk) (th:=pk+1) (hnot _ hW.ch.1) (hnot _ hW.ch.2) (ae hW.ch.1) (ae hW.ch.2) XA).imp ?_;rintro g w' ⟨F',h1,h2⟩;exact ⟨sl,ps,rc,tR,w3,F',v,hW,O5,h1,h2⟩
  rw [enter_atD #[.pointer (some ⟨br,0,none⟩)] Tryz.func134 (c:=Tryz.f134.body.getD .skip) rfl];refine Xz w' hQ false _ _ (baseD 134) _ uB rfl (by decide) fun a' todo w3 hd hq=>?_
  obtain ⟨sl,ps,rc,tR,hW,O5⟩:=hq;refine uB.c.go rfl (fun w=>stepG_leave_deferred (b:=baseD 134) (fn:=Tryz.f134) rfl hd Tryz.func134 (results_none (by kernel_rfl) _ _ _) (events_results_none (by kernel_rfl) _ _) rfl) ?_;exact key sl ps rc tR w3 hW O5
 ·-- the meeting
  rintro b w' ⟨sl,ps,rc,tR,w3,F',x,hW,O5,hSW,hS0⟩;have hrc:20<rc.size:=(Array.getElem?_eq_some_iff.1 hW.out).1;have hF':∀ c,¬ (c=br∨some c=sl.ownBlock)→c<w3.heap.size→¬ F' c:=fun c hc hl hx=>by
   rcases hS0.own c hx with h | h
   ·exact hc h
   ·omega
  have hbc:¬ (bc=br∨some bc=sl.ownBlock):=fun h=>h.elim hW.ne1 hW.ne3
  have hsv:∀ g,sv.ownBlock=some g→¬ (g=br∨some g=sl.ownBlock):=fun g hg h=>h.elim (fun e=>hW.KU (by rw [hg,e])) (hW.ne4 g hg)
  have M7:∀ g,sv.ownBlock=some g→g<w3.heap.size:=fun g hg=>by
   obtain ⟨cur,aT⟩:=wZ hW.row hg;exact ae aT
  have hnot:∀ c,w3.heap[c]? = some (.chan 0 #[] false 0 0 false)→¬ (c=br∨some c=sl.ownBlock):=by
   rintro c hc (rfl | h)
   ·rw [hW.rep] at hc;cases hc
   ·obtain ⟨cur,aT⟩:=wZ hW.box h.symm
    rw [hc] at aT;cases aT
  have Um:∀ c,w3.heap[c]? = some (.chan 0 #[] false 0 0 false)→¬ (c=bc∨some c=sv.ownBlock):=by
   rintro c hc (rfl | h)
   ·rw [hW.eX] at hc;cases hc
   ·obtain ⟨cur,aT⟩:=wZ hW.row h.symm
    rw [hc] at aT;cases aT
  have htk:q0.take 20000=q0:=List.take_of_length_le hq;have XB:w'.heap[bc]? = some (.cells #[gv,sv] 118):=(hS0.rest bc (ae hW.eX) hbc).trans hW.eX;have hrow:w'.ownsRow 0 97 5 sv q0.length (flat q0):=aF hW.row fun g hg=>hS0.rest g (M7 g hg) (hsv g hg)
  have XC:∀ x,(x=bc∨some x=sv.ownBlock)→x<w'.heap.size:=by
   rintro x (rfl | h)
   ·exact ae XB
   ·have:=M7 x h.symm;have:=hS0.size;omega
  refine ⟨DN bc gv (.pointer (some ⟨br,0,none⟩)) (.func (.func f) fst cap) pk (pk+1) q0 (cF::cs),yQ br pk rc tR sl ps (rE (.pointer (some ⟨br,0,none⟩)) (.func (.func f) fst cap) pk (pk+1) x [yR (pk+1)]) [iK Tryz.prog],(fun v=>∃ p:bJ,v=p.val),ps.map bJ.val,(fun x=>x=bc∨some x=sv.ownBlock),F',⟨fun s e1 e2 e3 e4=>VC hq hW.few hrc s e1 e2 e3 e4,hSW,?_,?_,XC,hS0.vE,⟨Um _ hW.ch.1,Um _ hW.ch.2⟩,⟨hF' _ (hnot _ hW.ch.1) (ae hW.ch.1),hF' _ (hnot _ hW.ch.2) (ae hW.ch.2)⟩⟩,?_⟩
  ·exact ⟨_,⟨[],rfl,sv,_,_,_,_,_,_,_,_,_,rfl,.inl rfl,XB,by simpa [htk] using hrow,fun g hg=>.inr hg.symm,XC⟩,AV _ _ _ _ _ _ _ _ _ _ _ _ _ _ _⟩
  ·rintro y (rfl | hy)
   ·exact hF' _ hbc (ae hW.eX)
   ·exact hF' _ (hsv y hy.symm) (M7 y hy.symm)
  ·intro vB yO KP a0 b0 w4 hM hat hWn hD
   obtain ⟨ps',e,dw,x8,dE,fD,fE,x20,qJ,qK,qL,x24,rfl,k2,k3,k4,k5,k6⟩:=hM;obtain rfl:=Ip e;obtain rfl:=hat.inj (AV _ _ _ _ _ _ _ _ _ _ _ _ _ _ _) w4;refine O4 lT (h sl ps rc tR w3 w4 hW O5 ⟨⟨dw,k3,k4,fun g hg=>?_⟩,hWn.2.2.1,fun y hy h1 h2 h3 h4 h5 h6=>?_,Nat.le_trans hS0.size hD.size,hD.os.trans hS0.os,hD.out.trans hS0.out⟩)
   ·by_cases hl:g<w'.heap.size
    ·rcases hD.zH g hl (k5 g hg) with rfl | h
     ·exact absurd (by rw [hg]) (E5 k4 k3)
     ·exact .inl h.symm
    ·exact .inr (by have:=hS0.size;omega)
   ·have ac0:=hF' y (fun h=>h.elim h2 h4) hy
    rw [hD.rest y (Nat.lt_of_lt_of_le hy hS0.size) (fun h=>h.elim h1 h3) ac0 h5 h6];exact hS0.rest y hy fun h=>h.elim h2 h4
end
section
variable {P:Program} {f:FuncId} {args:Array Value} {w:World} {Post:Value→World→Prop}
end
section
variable {P:Program} {main:Bool} {D:World→World→Array Event→Prop} {X:Goroutine→World→Prop} {w:World} {b:Frame} {a:Act} {k:List Item} {cs:List Frame} {ops:Array Oper} {i:Nat} {rest:List Nat} {o:Oper}
theorem Cu {A:FuncId→Bool} {S:FuncId→List Nat} {fn:FuncId} {ρ:Operand→Value} (h:Rl A S fn o.op=true) (hc:Hz o.op=true):Plain [] (execOp ρ o):=(Rm h hc).1
theorem pz {ρ:Operand→Value} {bt:Builtin} {ar:Array Operand} {ats:Array TypeId} (hop:o.op=.call { callee:=.builtin bt,args:=ar,argTypes:=ats }) (h:zA bt=true):Plain [] (execOp ρ o):=by
 have e:execOp ρ o=builtin bt ats o.type (ar.map fun | .const _=>true | _=>false) (ar.map ρ):=by
  unfold execOp;rw [hop];rfl
 rw [e];exact (MP h _ _ _ _).1
theorem tQ {ρ:Operand→Value} {ty:TypeId} {x:Operand} (hop:o.op=.load ty x):Plain [] (execOp ρ o):=Cu (A:=fun _=>false) (S:=fun _=>[]) (fn:=0) (by rw [hop];rfl) (by rw [hop];rfl)
theorem Km {ρ:Operand→Value} {ty:TypeId} {x y:Operand} (hop:o.op=.store ty x y):Plain [] (execOp ρ o):=Cu (A:=fun _=>false) (S:=fun _=>[]) (fn:=0) (by rw [hop];rfl) (by rw [hop];rfl)
end
section
variable (P:Program) (X:Goroutine→World→Prop) (b:Frame) (k:List Item) (cs:List Frame) (ops:Array Oper) (S:World→Prop) (z:Nat)
end
section
variable {P:Program} {main:Bool} {D:World→World→Array Event→Prop} {X:Goroutine→World→Prop} {b:Frame} {k:List Item} {cs:List Frame} {ops:Array Oper} {S:World→Prop} {z:Nat}
theorem af.same {f:FuncId} {args:Array Value} {w w₁:World} {Post:Value→World→Prop} (h:af P f args w Post) (hs:cu w w₁):af P f args w₁ Post:=fun main D X cs hX hk=>hX.rely hs (h main D X cs hX hk)
end
section
variable {P:Program} {ops:Array Oper}
end
structure GB (r:Option Nat) (w w':World):Prop where
 os:w'.os=w.os
 out:w'.output=w.output
 size:w.heap.size≤w'.heap.size
 block:∀ x,x<w.heap.size→some x≠r→w'.heap[x]? = w.heap[x]?
theorem GB.refl (r:Option Nat) (w:World):GB r w w:=⟨rfl,rfl,Nat.le_refl _,fun _ _ _=>rfl⟩
theorem GB.trans {r:Option Nat} {a b c:World} (h:GB r a b) (k:GB r b c):GB r a c:=⟨k.os.trans h.os,k.out.trans h.out,Nat.le_trans h.size k.size,fun x hx hr=>(k.block x (Nat.lt_of_lt_of_le hx h.size) hr).trans (h.block x hx hr)⟩
theorem GB.only {b:Nat} {w w':World} (h:Only b w w'):GB (some b) w w':=⟨h.os,h.output,Nat.le_of_eq h.size.symm,fun x _ hr=>h.block x fun e=>hr (by rw [e])⟩
theorem GB.weak {r:Option Nat} {w w':World} (h:GB none w w'):GB r w w':=⟨h.os,h.out,h.size,fun x hx _=>h.block x hx nofun⟩
theorem GB.alloc (r:Option Nat) (w:World) (o:Obj):GB r w (w.alloc o):=⟨rfl,rfl,by rw [iy];omega,fun x hx _=>alloc_old hx o⟩
theorem GB.same {r:Option Nat} {a b c:World} (h:GB r a b) (hs:cu b c):GB r a c:=by
 obtain ⟨p,rfl⟩:=hs;exact ⟨h.os,h.out,h.size,h.block⟩
theorem GB.get {r:Option Nat} {w w':World} (h:GB r w w') {x:Nat} {o:Obj} (hx:w.heap[x]? = some o) (hr:some x≠r):w'.heap[x]? = some o:=(h.block x (ae hx) hr).trans hx
def XD (w:World) (m:Nat):Prop:=w.heap[m]? = some (.map #[] 0)
section
variable {P:Program} {w:World} {m:Nat}
theorem vG {key:TypeId} {k:Int} {b:Bool} (hk:P.underlying key=some (.int .u32)) (n:Nat) (w:World):(Instr.checkKey b (n+1) key (.int .u32 k)).run P w=.ok () w:=by
 rw [Instr.checkKey];simp [run_underlying hk]
end
theorem M8 {ρ:Operand→Value} {o:Oper} {t:TypeId} {x:Operand} (hop:o.op=.range t x):execOp ρ o=(do pure (Next.value (← Instr.range t (ρ x)))):=by
 unfold execOp;rw [hop]
theorem FO {ρ:Operand→Value} {o:Oper} {x:Operand} (hop:o.op=.next x false):execOp ρ o=(do pure (Next.value (← Instr.next (ρ x) false o.type))):=by
 unfold execOp;rw [hop]
theorem DT {ρ:Operand→Value} {o:Oper} {t:TypeId} {x:Operand} (hop:o.op=.call { callee:=.builtin .clear,args:=#[x],argTypes:=#[t] }):execOp ρ o=(do pure (Next.value (← Builtin.clear_ #[t] o.type #[ρ x]))):=by
 have e:execOp ρ o=builtin .clear #[t] o.type (#[x].map fun | .const _=>true | _=>false) (#[x].map ρ):=by
  unfold execOp;rw [hop];rfl
 rw [e,show #[x].map ρ = #[ρ x] by simp];rfl
section
variable {P:Program} {main:Bool} {D:World→World→Array Event→Prop} {X:Goroutine→World→Prop} {w:World} {b:Frame} {a:Act} {k:List Item} {cs:List Frame} {ops:Array Oper} {i:Nat} {rest:List Nat} {o:Oper}
end
end
section
open Go Go.Conc Go.RowKit
section
variable {P:Program} {main:Bool} {D:World→World→Array Event→Prop} {X:Goroutine→World→Prop} {w:World} {b:Frame} {a:Act} {k:List Item} {cs:List Frame} {ops:Array Oper} {i:Nat} {rest:List Nat} {o:Oper}
theorem aL.unw (hX:aL P main X) (ho:ops[i]? = some o) (hw:Region.wanted o (yielded ops a.tmps)=false) (h:X (G (b.at (a.put o.dst undef) (.inRegion ops rest::k)) cs) w):X (G (b.at a (.inRegion ops (i::rest)::k)) cs) w :=
 hX.go rfl (fun _=>stepG_unwanted ho hw) h
theorem Kn {s x:Operand} {t:TypeId} (hop:o.op=.call { callee:=.builtin .append,args:=#[s,x],argTypes:=#[t,t] })
 (e:TypeId) (ii:TypeInfo) (z:Value) (size bytes:Nat) (ht:P.underlying t=some (.slice e)) (hi:P.info? e=some ii) (hz:ii.zero=some z) (hsize:ii.size=size) (hby:ii.bytes=bytes) (hzs:z.cells.size=size) (hsz:0<size)
 {v:Value} {n:Nat} {xs:List Value} (hs:a.eval s=v) (hown:w.ownsRow 0 e size v n xs) {B m c:Nat} {news:List Value} {off:Nat} (hx:a.eval x=.slice (some ⟨B,off,none⟩) m c) {nb:Array Value} {tb:TypeId} (hW:w.heap[B]? = some (.cells nb tb)) (hnb:(nb.toList.drop off).take (m*size)=news) (hl:news.length=m*size) (h1:∀ u∈news,u.oneCell'=true)
 (h63:n+m≤maxLen) (hbytes:(n+m)*bytes≤140737488355328):∃ v' w',(execOp a.eval o).run P w=.ok (.value v') w'∧w'.ownsRow 0 e size v' (n+m) (xs++news)∧GB v.ownBlock w w'∧(∀ g,v'.ownBlock=some g→v.ownBlock=some g∨w.heap.size≤g)∧∀ g c',v=.slice (some ⟨g,0,none⟩) n c'→n+m≤c'→v'=.slice (some ⟨g,0,none⟩) (n+m) c':=by
 have hnews:∀ j u,news[j]? = some u→w.cell? ((⟨B,off,none⟩:Addr).add j)=some u:=fun j u hu=>by
  have hadd:(⟨B,off,none⟩:Addr).add j=⟨B,off+j,none⟩:=by unfold Addr.add;split <;> simp_all
  rw [hadd,xO hW];rw [← hnb,List.getElem?_take] at hu;split at hu
  ·rw [List.getElem?_drop] at hu;simpa using hu
  ·cases hu
 obtain ⟨v',w',hrun,ho',hg⟩:=wY (P:=P) w 0 t o.type e ii z size bytes ht hi hz hsize hby hzs hsz v n xs hown ⟨B,off,none⟩ m c news hl hnews h1 h63 hbytes (Nat.zero_le _);refine ⟨v',w',?_,ho',⟨hg.grown.os,hg.grown.output,hg.grown.size,fun y hy hne=>hg.grown.block y hy hne⟩,fun g hgo=>?_,fun g c' hv hroom=>?_⟩
 ·have hh:=uponK_append (P:=P) s x t hop hs hx hrun (K:=fun a' w''=>a'=a.put o.dst v'∧w''=w') ⟨rfl,rfl⟩
  have e1:execOp a.eval o=builtin .append #[t,t] o.type (#[s,x].map fun | .const _=>true | _=>false) (#[s,x].map a.eval):=by
   unfold execOp;rw [hop];rfl
  rw [e1];simp only [List.map_toArray,List.map_cons,List.map_nil,hs,hx];unfold builtin;simp only [Sem.run_bind];simp [hrun]
 ·rcases hg.own with he | he
  ·exact .inl (he ▸ hgo)
  ·exact .inr (he g hgo)
 ·subst hsize
  rcases hown.2 with ⟨e0,_⟩ | ⟨g2,cap,cur,e2,_,hg2,_,_,hcs,_⟩
  ·rw [hv] at e0;cases e0
  ·rw [hv] at e2
   injection e2 with e3 _ e4;injection e3 with e3;injection e3 with e3;subst e3;subst e4;have hr:=run_append_room (P:=P) w t o.type e ii ht hi g n c' cur hg2 ⟨B,off,none⟩ m c news hl hnews h1 hroom (by rw [hl,hcs,← Nat.add_mul];exact Nat.mul_le_mul_right _ hroom);rw [hv,hr] at hrun;injection hrun with hrun;exact hrun.symm
end
end
end Go.Proofs.YtignemioillaiabGreat
