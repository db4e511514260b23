/- The worker: from its birth to its stops; its close and its end. -/
import Derived.Test.YtignemioillaiabGreatG11
import Derived.Conc.EventLaws
import Derived.Conc.SmallLaws
import Derived.Test.YtignemioillaiabGreatRows
import Derived.WalkLawsBesides
namespace Go.Proofs.YtignemioillaiabGreat
set_option maxHeartbeats 8000000
set_option maxRecDepth 100000
section
open Go Go.Conc
section
variable {P:Program} {main:Bool} {X:Goroutine→World→Prop} {b:Frame} {a:Act} {k:List Item} {cs:List Frame} {w:World}
theorem aL.defer (hX:aL P main X) {ops:Array Oper} {i:Nat} {rest:List Nat} {o:Oper} (ho:ops[i]? = some o) (hw:Region.wanted o (yielded ops a.tmps)=true) (hk:b.kind≠.early) (d:Deferred) (hr:∀ w,(execOp a.eval o).run P w=.ok (.defer d) w) (he:∀ w,(execOp a.eval o).events P w #[] = #[])
 (h:X (G (b.at (Act.put ⟨a.tmps,d::a.defers⟩ o.dst undef) (.inRegion ops rest::k)) cs) w):X (G (b.at a (.inRegion ops (i::rest)::k)) cs) w:=by
 refine hX.go rfl (fun w₁=>?_) h;have hfin:(b.at ⟨a.tmps,d::a.defers⟩ (.inRegion ops (i::rest)::k)).finish undef=b.at (Act.put ⟨a.tmps,d::a.defers⟩ o.dst undef) (.inRegion ops rest::k):=by rw [Frame.finish_at,ho];rfl
 have hk':(b.kind == CallKind.early)=false:=by simpa using hk
 rw [stepG_oper ho hw,← hfin];simp [stepG.apply,hr,he,G,Frame.at,hk',GStep.after,seen_none]
theorem aL.call (hX:aL P main X) {ops:Array Oper} {i:Nat} {rest:List Nat} {o:Oper} {f:FuncId} {fn:Func} {args:Array Operand} {ats:Array TypeId} (ho:ops[i]? = some o) (hw:Region.wanted o (yielded ops a.tmps)=true) (hk:b.kind≠.early) (hop:o.op=.call { callee:=.value (.func f),args,argTypes:=ats })
 (hf : P.funcs[f]? = some fn) (hname : (fn.name == "runtime.NumGoroutine") = false) (hb : fn.body.isNone = false) (h : X (G (Frame.enter P f (args.map a.eval) .normal) (b.at a (.inRegion ops (i :: rest) :: k) :: cs)) w) : X (G (b.at a (.inRegion ops (i :: rest) :: k)) cs) w :=
 aL.enter hX ho hw hk (fun _=>run_call_body hop hf hname hb) (fun _=>events_call_body hop hf hname hb #[]) h
theorem aL.unwind (hX : aL P main X) {todo : List Item} {ds : List Deferred} {f : FuncId} {fn : Func} {c : Code} {args : Array Value} (hd : a.defers = dcall f args :: ds) (hf : P.funcs[f]? = some fn) (hname : (fn.name == "runtime.NumGoroutine") = false) (hb : fn.body = some c)
 (h:X (G (Frame.enter P f args .deferred) ({ b.at ⟨a.tmps,ds⟩ todo with mode:=.returning }::cs)) w):X (G { b.at a todo with mode:=.returning } cs) w :=
 hX.go rfl (fun _=>by rw [enter_atD args hf hb];exact stepG_unwind_enter hd hf hname hb) h
end
def af (P:Program) (f:FuncId) (args:Array Value) (w:World) (Post:Value→World→Prop):Prop :=
 ∀ (main:Bool) (D:World→World→Array Event→Prop) (X:Goroutine→World→Prop) (cs:List Frame),Shut P main D X→(∀ fr v w',fr.fn=f→fr.leaving P w' (.returned v)→Post v w'→X (G fr cs) w')→X (G (Frame.enter P f args .normal) cs) w
def M3 (P:Program) (f:FuncId) (c:Code) (a:Act) (w:World) (Post:Act→World→Prop):Prop :=
 ∀ (main:Bool) (D:World→World→Array Event→Prop) (X:Goroutine→World→Prop) (b:Frame) (cs:List Frame),Shut P main D X→b.fn=f→b.kind≠.early→(∀ a' todo w',a'.defers=[]→Post a' w'→X (G { b.at a' todo with mode:=.returning } cs) w')→X (G (b.at a [.code c]) cs) w
section
variable {P:Program} {main:Bool} {D:World→World→Array Event→Prop} {X:Goroutine→World→Prop} {w:World} {cs:List Frame}
theorem Ig {fr:Frame} {v:Value} {w w':World} (h:fr.leaving P w (.returned v)) (hs:cu w w'):fr.leaving P w' (.returned v):=by
 obtain ⟨l1,l2,l3,fn,l4,l5⟩:=h;exact ⟨l1,l2,l3,fn,l4,GN fn fr.tmps hs.heap hs.os hs.out l5⟩
theorem Shut.back (hX:Shut P main D X) {fr c:Frame} {v:Value} (hl:fr.leaving P w (.returned v)) (h:X (G (c.finish v) cs) w):X (G fr (c::cs)) w:=by
 refine hX.step rfl fun w₁ h1=>?_
 obtain ⟨hm,hd,hk,fn,hfn,hr⟩:=Ig hl h1;have hr':((results fn fr.tmps).runT P w₁ #[]).1=.ok v w₁:=by rw [Sem.runT_fst];exact hr
 have hst:stepG P main (G fr (c::cs)) w₁=.go (G (c.finish v) cs) w₁ (seen P fr.fn ((results fn fr.tmps).runT P w₁ #[]).2++#[]):=by
  simp only [G,stepG,unwind,doReturn,hm,hd,hk,hfn,hr'];rfl
 rw [hst,goes_go];refine ⟨hX.plain ⟨fun e he=>?_,eZ.refl _⟩,hX.rely h1 h⟩;have h2:=(Dx (Q:=fun _=>True) P (results fn fr.tmps) w₁ #[] (Dw (kn:=[]) fn fr.tmps) (by
  have:=fO.bind (Q:=fun _=>True) (f:=fun v=>(pure v:Sem Value)) (fun _=>trivial) (results fn fr.tmps);rwa [bind_pure] at this)).2 (by simp)
 exact h2 e (uy _ _ _ e (by simpa using he))
end
def yR (th:Nat):Deferred:={ target:=.builtin .close #[243] 0 #[false],args:=#[.chan (some th)] }
def iK (P:Program):Frame:={ (default:Frame) with fn:=P.funcs.size,defers:=[],mode:=.panicking [goexitEntry] }
theorem M4 {P:Program} {main:Bool} {b:Frame} {tm:Array Value} {todo:List Item} {cs:List Frame} {th kt:Nat} (hq:(P.funcs[b.fn]?).any (·.norace)=false) (w:World) (h:w.heap[th]? = some (.chan 0 #[] false kt kt false)) :
 stepG P main (G { b.at ⟨tm,[yR th]⟩ todo with mode:=.returning } cs) w=.go (G { b.at ⟨tm,[]⟩ todo with mode:=.returning } cs) { w with heap:=w.heap.setIfInBounds th (.chan 0 #[] true kt kt false) } #[⟨.obj th,false,true⟩,⟨.obj th,true,true⟩]:=by
 have hr:(builtin .close #[243] 0 #[false] #[.chan (some th)]).run P w=.ok (.value (.tuple #[])) { w with heap:=w.heap.setIfInBounds th (.chan 0 #[] true kt kt false) }:=by
  simp [builtin,run_close_open _ _ h]
 have he:(builtin .close #[243] 0 #[false] #[.chan (some th)]).events P w #[] = #[⟨.obj th,false,true⟩,⟨.obj th,true,true⟩]:=by
  simp [builtin,events_close_open _ _ h]
 have hs:seen P b.fn #[⟨.obj th,false,true⟩,⟨.obj th,true,true⟩] = #[⟨.obj th,false,true⟩,⟨.obj th,true,true⟩]:=by
  unfold seen;simp [hq]
 simp [G,stepG,unwind,callDeferred,Frame.at,yR,invoke,hr,he,hs,GStep.after]
theorem Ih {P:Program} {tm:Array Value} {todo:List Item} {f:FuncId} {fn:Func} (hf:P.funcs[f]? = some fn) (hr:fn.results = #[]):QuitsD P 2 0 (G { (baseD f).at ⟨tm,[]⟩ todo with mode:=.returning } [iK P]):=by
 refine QuitsD.ctl rfl (g':=G (iK P) []) (fun w=>?_) ?_
 ·have h1:=results_none hr tm P w
  have h2:=events_results_none (w:=w) (P:=P) hr tm #[];simp [G,stepG,unwind,doReturn,Frame.at,baseD,hf,h1,h2,GStep.after,seen_none,iK,goexitEntry]
 ·refine QuitsD.ctl rfl (g':={ G (iK P) [] with status:=.finished }) (fun w=>?_) ⟨rfl,rfl⟩
  have hc:Frame.catches P (iK P)=false:=by
   unfold Frame.catches iK;simp;rfl
  simp only [G,stepG,unwind,iK] at hc ⊢;simp only [hc,Bool.false_eq_true,if_false];rfl
theorem OX {P : Program} {main : Bool} {f : FuncId} {fn : Func} {c : Code} (args : Array Value) (hf : P.funcs[f]? = some fn) (hname : (fn.name == "runtime.NumGoroutine") = false) (hb : fn.body = some c) (w : World) :
 stepG P main (born P (dcall f args)) w=.go (G (Frame.enter P f args .deferred) [iK P]) w #[]:=by
 have h1 : ¬ fn.name = "runtime.NumGoroutine" := by simpa using hname
 simp [born,G,stepG,unwind,callDeferred,dcall,invoke,callFunc,hf,h1,hb,GStep.after,seen_none,iK]
theorem zM {P : Program} {w : World} {a : Act} {o : Oper} {x : Operand} {f : FuncId} {fst cap : Array Value} {fn : Func} (hop : o.op = .call { callee := .value x, args := #[], argTypes := #[] }) (hx : a.eval x = .func (.func f) fst cap) (hf : P.funcs[f]? = some fn) (hname : (fn.name == "runtime.NumGoroutine") = false) (hb : fn.body.isNone = false) :
 (execOp a.eval o).run P w=.ok (.enter f (fst++cap)) w∧(execOp a.eval o).events P w #[] = #[]:=by
 have h1 : ¬ fn.name = "runtime.NumGoroutine" := by simpa using hname
 have h2:¬ fn.body=none:=by cases hx:fn.body <;> simp_all
 constructor <;> (unfold execOp;simp [hop,resolve,Deferred.ofValue,invoke,callFunc,hf,h1,h2,hx])
noncomputable def EZ:Code:=Tryz.f77.body.getD .skip
noncomputable def RF:Array Oper:=co (cr (cr (cr EZ)))
theorem KT:Tryz.f77.body=some EZ:=by
 unfold EZ;rfl
theorem RG (x y z u:Value):Frame.enter Tryz.prog 77 #[x,y,z,u] .deferred=(baseD 77).at ⟨#[x,y,z,u,undef,undef,undef,undef,undef,undef,undef,undef,undef,undef],[]⟩ [.code EZ]:=by
 have h:=enter_atD (P:=Tryz.prog) #[x,y,z,u] Tryz.func77 KT;rw [show Tryz.f77.ntmps=14 from rfl] at h;rw [h];walk_nrm
def xQ (r wk:Value) (pk th:Nat) (x:Value):Array Value:=#[r,wk,.chan (some pk),.chan (some th),undef,undef,undef,undef,.chan (some th),r,.chan (some pk),r,wk,x]
noncomputable def M5 (r wk:Value) (pk th:Nat):Frame:=(baseD 77).at ⟨xQ r wk pk th undef,[dcall 134 #[r],dcall 133 #[r,.chan (some pk)],yR th]⟩ [.inRegion RF [1]]
def rE (r wk:Value) (pk th:Nat) (x:Value) (ds:List Deferred):Frame:={ (baseD 77).at ⟨xQ r wk pk th x,ds⟩ [] with mode:=.returning }
section
variable {D:World→World→Array Event→Prop} {X:Goroutine→World→Prop} {w:World} {r:Value} {pk th:Nat}
theorem GQ (hX : Shut Tryz.prog false D X) {f : FuncId} {fst cap : Array Value} {fn : Func} (hf : Tryz.prog.funcs[f]? = some fn) (hname : (fn.name == "runtime.NumGoroutine") = false) (hb : fn.body.isNone = false)
 (h:X (G (Frame.enter Tryz.prog f (fst++cap) .normal) [M5 r (.func (.func f) fst cap) pk th,iK Tryz.prog]) w):X (born Tryz.prog (dcall 77 #[r,.func (.func f) fst cap,.chan (some pk),.chan (some th)])) w:=by
 refine hX.c.go rfl (fun w=>OX _ Tryz.func77 (by kernel_rfl) KT w) ?_;rw [RG];unfold M5 xQ RF at h;simp only [EZ,Tryz.f77,cr,co,Option.getD] at h ⊢;refine aL.seq hX.c ?_;refine aL.region hX.c _ rfl ?_;simp [List.range,List.range.loop];refine aL.quiet hX.c rfl rfl (by decide) _ (fun _=>by go_simp <;> rfl) (fun _=>by simp [go_sem, *]) ?_;simp [Act.put];refine aL.defer hX.c rfl rfl (by decide) (yR th) (fun _=>by go_simp;rfl) (fun _=>by simp [go_sem]) ?_;simp [Act.put];refine aL.regionEnd hX.c ?_;refine aL.seq hX.c ?_;refine aL.region hX.c _ rfl ?_;simp [List.range,List.range.loop];refine aL.quiet hX.c rfl rfl (by decide) _ (fun _=>by go_simp <;> rfl) (fun _=>by simp [go_sem, *]) ?_;simp [Act.put];refine aL.quiet hX.c rfl rfl (by decide) _ (fun _=>by go_simp <;> rfl) (fun _=>by simp [go_sem, *]) ?_;simp [Act.put];refine aL.defer hX.c rfl rfl (by decide) (dcall 133 #[r,.chan (some pk)]) (fun _=>by go_simp;rfl) (fun _=>by simp [go_sem]) ?_;simp [Act.put];refine aL.regionEnd hX.c ?_;refine aL.seq hX.c ?_;refine aL.region hX.c _ rfl ?_;simp [List.range,List.range.loop];refine aL.quiet hX.c rfl rfl (by decide) _ (fun _=>by go_simp <;> rfl) (fun _=>by simp [go_sem, *]) ?_;simp [Act.put];refine aL.defer hX.c rfl rfl (by decide) (dcall 134 #[r]) (fun _=>by go_simp;rfl) (fun _=>by simp [go_sem]) ?_;simp [Act.put];refine aL.regionEnd hX.c ?_;refine aL.region hX.c _ rfl ?_;simp [List.range,List.range.loop];refine aL.quiet hX.c rfl rfl (by decide) _ (fun _=>by go_simp <;> rfl) (fun _=>by simp [go_sem, *]) ?_;simp [Act.put];refine aL.enter hX.c rfl rfl (by decide) (fun w=>(zM rfl rfl hf hname hb).1) (fun w=>(zM rfl rfl hf hname hb).2) ?_;exact h
theorem GR (hX:Shut Tryz.prog false D X) {wk v:Value} (h:X (G (Frame.enter Tryz.prog 134 #[r] .deferred) [rE r wk pk th v [dcall 133 #[r,.chan (some pk)],yR th],iK Tryz.prog]) w):X (G ((M5 r wk pk th).finish v) [iK Tryz.prog]) w:=by
 unfold M5 xQ RF;rw [Frame.finish_at];unfold rE xQ at h;simp only [EZ,Tryz.f77,cr,co,Option.getD];simp [Act.put];refine aL.regionEnd hX.c ?_;refine aL.fin hX.c ?_;exact aL.unwind hX.c rfl Tryz.func134 (c:=Tryz.f134.body.getD .skip) (by kernel_rfl) rfl h
theorem Ii (hX:Shut Tryz.prog false D X) {wk v:Value} (h:X (G (Frame.enter Tryz.prog 133 #[r,.chan (some pk)] .deferred) [rE r wk pk th v [yR th],iK Tryz.prog]) w):X (G (rE r wk pk th v [dcall 133 #[r,.chan (some pk)],yR th]) [iK Tryz.prog]) w:=by
 unfold rE xQ at h ⊢;exact aL.unwind hX.c rfl Tryz.func133 (by kernel_rfl) KR h
end
noncomputable def c59:Code:=Tryz.f47.body.getD .skip
theorem Xr:Tryz.f47.body=some c59:=by
 unfold c59;rfl
theorem Vy (x y z:Value):Frame.enter Tryz.prog 47 #[x,y,z] .normal=(Go.Conc.base 47).at ⟨#[x,y,z,undef,undef,undef,undef,undef,undef,undef,undef,undef,undef,undef,undef,undef,undef,undef,undef,undef,undef,undef,undef,undef,undef],[]⟩ [.code c59]:=by
 have h:=enter_at (P:=Tryz.prog) #[x,y,z] Tryz.func47 Xr;rw [show Tryz.f47.ntmps=25 from rfl] at h;rw [h];walk_nrm
noncomputable def Ij:Code:=cb (cb (cr (cr (cr c59))))
noncomputable def Ik:Code:=cb Ij
noncomputable def BG:Array Oper:=co (cl (cr Ik))
noncomputable def Il:List Item:=[.code (cr (cr Ik)),.inBlock 1,.inLoop Ij,.inBlock 0]
def zN (c r wk:Value) (pk th:Nat) (x8 dE fD fE x20 qJ qK qL x24:Value):Array Value:=#[c,r,wk,undef,undef,undef,.chan (some pk),.chan (some th),x8,.chan (some pk),.chan (some th),r,wk,.chan (some pk),.chan (some th),.chan (some pk),.chan (some th),dE,fD,fE,x20,qJ,qK,qL,x24]
def z59:Value:=.agg #[.int .u8 0,.int .u8 0,.int .u8 0,.int .u8 0,.string ⟨#[]⟩]
def tu:Value:=.agg #[]
noncomputable def yS (c r wk:Value) (pk th:Nat) (x8 dE fD fE x20 qJ qK qL x24:Value) (cs:List Frame):Goroutine:=G ((Go.Conc.base 47).at ⟨zN c r wk pk th x8 dE fD fE x20 qJ qK qL x24,[]⟩ (.inRegion BG [0,1,2,3]::Il)) cs
theorem AV (c r wk:Value) (pk th:Nat) (x8 dE fD fE x20 qJ qK qL x24:Value) (cs:List Frame):iw Tryz.prog (di pk th z59 tu) (yS c r wk pk th x8 dE fD fE x20 qJ qK qL x24 cs) (yS c r wk pk th x8 dE fD fE x20 qJ qK qL x24 cs):=by
 refine ⟨rfl,rfl,rfl,rfl,fun w=>?_⟩;unfold yS BG zN;simp only [Ik,Ij,c59,Tryz.f47,cl,cr,cb,co,Option.getD];rw [stepG_comm rfl rfl (by decide) (cases:=di pk th z59 tu) (blocking:=true) (shape:=.select) (w':=w) (by go_simp;rfl),listed_none (by simp [go_sem])]
section
variable {X:Goroutine→World→Prop} {w:World} {c r wk:Value} {cs:List Frame}
theorem yT {P:Program} {main:Bool} {b:Frame} {a:Act} {k:List Item} (hX:Shut P main wV X) {ops:Array Oper} {i:Nat} {rest:List Nat} {o:Oper} (ho:ops[i]? = some o) (hw:Region.wanted o (yielded ops a.tmps)=true) (hk:b.kind≠.early)
 {t e:TypeId} {dir:ChanDir} (hop:o.op=.makeChan t (.const (.int .i64 0))) (ht:P.underlying t=some (.chan dir e)) (hi:(P.info? e).isSome=true)
 (h:X (G (b.at (a.put o.dst (.chan (some w.heap.size))) (.inRegion ops rest::k)) cs) (w.alloc (.chan 0 #[] false 0 0 false))):X (G (b.at a (.inRegion ops (i::rest)::k)) cs) w:=by
 obtain ⟨ii,hi⟩:=Option.isSome_iff_exists.1 hi;have hx:execOp a.eval o=(do pure (Next.value (← Instr.makeChan t (.int .i64 0)))):=by unfold execOp;rw [hop];rfl
 have hr:∀ w:World,(execOp a.eval o).run P w=.ok (.value (.chan (some w.heap.size))) (w.alloc (.chan 0 #[] false 0 0 false)):=fun w=>by
  have:=run_makeChan (P:=P) (w:=w) ht hi .i64 0 (by decide) (by simp);rw [hx,Sem.run_bind,show (Instr.makeChan t (.int .i64 0)).run P w=_ from this];rfl
 have he:∀ w:World,(execOp a.eval o).events P w #[] = #[]:=fun w=>by
  rw [hx,Ct];exact events_makeChan (P:=P) (w:=w) ht hi .i64 0 (by decide) (by simp) #[]
 refine hX.step rfl fun w₁ h1=>?_
 rw [stepG_value ho hw hk (hr w₁),listed_none (he w₁),goes_go];obtain ⟨p,rfl⟩:=h1;exact ⟨by intro e he;simp at he,hX.rely ⟨p,rfl⟩ h⟩
theorem Kk (hX:Shut Tryz.prog true wV X)
 (h:X (G ((Go.Conc.base 47).at ⟨#[c,r,wk,undef,undef,undef,.chan (some w.heap.size),.chan (some (w.heap.size+1)),undef,.chan (some w.heap.size),.chan (some (w.heap.size+1)),r,wk,.chan (some w.heap.size),.chan (some (w.heap.size+1)),undef,undef,undef,undef,undef,undef,undef,undef,undef,undef],[]⟩ [.inRegion (co (cl (cr (cr c59)))) [4],.code (cr (cr (cr c59)))]) cs) ((w.alloc (.chan 0 #[] false 0 0 false)).alloc (.chan 0 #[] false 0 0 false))):X (G (Frame.enter Tryz.prog 47 #[c,r,wk] .normal) cs) w:=by
 rw [Vy];simp only [c59,Tryz.f47,cl,cr,co,Option.getD] at h ⊢;refine aL.seq hX.c ?_;refine aL.region hX.c _ rfl ?_;simp [List.range,List.range.loop];refine yT hX rfl rfl (by decide) rfl Tryz.underlying183 (by kernel_rfl) ?_;simp [Act.put];refine aL.quiet hX.c rfl rfl (by decide) _ (fun _=>by go_simp <;> rfl) (fun _=>by simp [go_sem, *]) ?_;simp [Act.put];refine aL.regionEnd hX.c ?_;refine aL.seq hX.c ?_;refine aL.region hX.c _ rfl ?_;simp [List.range,List.range.loop];refine yT hX rfl rfl (by decide) rfl Tryz.underlying184 (by kernel_rfl) ?_;simp [Act.put];refine aL.quiet hX.c rfl rfl (by decide) _ (fun _=>by go_simp <;> rfl) (fun _=>by simp [go_sem, *]) ?_;simp [Act.put];refine aL.regionEnd hX.c ?_;refine aL.seq hX.c ?_;refine aL.region hX.c _ rfl ?_;simp [List.range,List.range.loop];refine aL.quiet hX.c rfl rfl (by decide) _ (fun _=>by go_simp <;> rfl) (fun _=>by simp [go_sem, *]) ?_;simp [Act.put];refine aL.quiet hX.c rfl rfl (by decide) _ (fun _=>by go_simp <;> rfl) (fun _=>by simp [go_sem, *]) ?_;simp [Act.put];refine aL.quiet hX.c rfl rfl (by decide) _ (fun _=>by go_simp <;> rfl) (fun _=>by simp [go_sem, *]) ?_;simp [Act.put];refine aL.quiet hX.c rfl rfl (by decide) _ (fun _=>by go_simp <;> rfl) (fun _=>by simp [go_sem, *]) ?_;simp [Act.put];exact h
end
theorem acU {P:Program} {cs:Array CommCase} {A2:Goroutine}:aL P true (fun g _=>∃ n,QW P cs A2 n g):=⟨fun hr hs ⟨n,h⟩=>⟨n+1,.inr ⟨hr,_,hs,h⟩⟩⟩
theorem Kl {X:Goroutine→World→Prop} (hC:aL Tryz.prog true X) {w:World} {c r wk:Value} {pk th:Nat} {cs:List Frame} (hh':X (yS c r wk pk th undef undef undef undef undef undef undef undef undef cs) w):X (G ((Go.Conc.base 47).at ⟨#[c,r,wk,undef,undef,undef,.chan (some pk),.chan (some th),undef,.chan (some pk),.chan (some th),r,wk,.chan (some pk),.chan (some th),undef,undef,undef,undef,undef,undef,undef,undef,undef,undef],[]⟩ [.inRegion (co (cl (cr (cr c59)))) [],.code (cr (cr (cr c59)))]) cs) w:=by
 unfold yS zN Il BG at hh';simp only [Ik,Ij,c59,Tryz.f47,cl,cr,cb,co,Option.getD] at hh' ⊢;refine aL.regionEnd hC ?_;refine aL.block hC ?_;refine aL.loop hC ?_;refine aL.block hC ?_;refine aL.seq hC ?_;refine aL.seq hC ?_;refine aL.region hC _ rfl ?_;simp [List.range,List.range.loop];refine aL.quiet hC rfl rfl (by decide) _ (fun _=>by go_simp <;> rfl) (fun _=>by simp [go_sem, *]) ?_;simp [Act.put];refine aL.regionEnd hC ?_;refine aL.region hC _ rfl ?_;simp [List.range,List.range.loop];refine aL.quiet hC rfl rfl (by decide) _ (fun _=>by go_simp <;> rfl) (fun _=>by simp [go_sem, *]) ?_;simp [Act.put];refine aL.regionEnd hC ?_;refine aL.seq hC ?_;refine aL.region hC _ rfl ?_;simp [List.range,List.range.loop];exact hh'
theorem OY (c r wk:Value) (pk th:Nat) (cs:List Frame):∃ n,QW Tryz.prog (di pk th z59 tu) (yS c r wk pk th undef undef undef undef undef undef undef undef undef cs) n (G ((Go.Conc.base 47).at ⟨#[c,r,wk,undef,undef,undef,.chan (some pk),.chan (some th),undef,.chan (some pk),.chan (some th),r,wk,.chan (some pk),.chan (some th),undef,undef,undef,undef,undef,undef,undef,undef,undef,undef],[]⟩ [.inRegion (co (cl (cr (cr c59)))) [],.code (cr (cr (cr c59)))]) cs) :=
 Kl (w:=default) (acU (P:=Tryz.prog) (cs:=di pk th z59 tu) (A2:=yS c r wk pk th undef undef undef undef undef undef undef undef undef cs)) ⟨0,AV _ _ _ _ _ _ _ _ _ _ _ _ _ _ _⟩
end
section

end
section
open Go.RowKit
structure acV (w:World) (v:Value) (w':World) (v':Value):Prop where
 grown:w.grownBy w' v.ownBlock
 own:v'.ownBlock=v.ownBlock∨∀ k,v'.ownBlock=some k→w.heap.size≤k
section
variable {P:Program} (w:World)
theorem wY (base:Nat) (t ty e:TypeId) (i:TypeInfo) (z:Value) (size bytes:Nat) (ht:P.underlying t=some (.slice e)) (hi:P.info? e=some i) (hz:i.zero=some z)
 (hsize:i.size=size) (hby:i.bytes=bytes) (hzs:z.cells.size=size) (hsz:0<size) (v:Value) (n:Nat) (xs:List Value) (hown:w.ownsRow base e size v n xs)
 (a:Addr) (m c:Nat) (news:List Value) (hl:news.length=m*size) (hnews:∀ j u,news[j]? = some u→w.cell? (a.add j)=some u) (h1:∀ u∈news,u.oneCell'=true)
 (h63:n+m≤maxLen) (hbytes:(n+m)*bytes≤140737488355328) (hbase:base≤w.heap.size) :
 ∃ v' w',(Builtin.append_ #[t,t] ty #[v,.slice (some a) m c]).run P w=.ok v' w'∧w'.ownsRow base e size v' (n+m) (xs++news)∧acV w v w' v':=by
 obtain ⟨v',w',hr,ho,hg,_⟩:=run_append_own (P:=P) w base t ty e i z size bytes ht hi hz hsize hby hzs hsz v n xs hown a m c news hl hnews h1 h63 hbytes hbase;refine ⟨v',w',hr,ho,hg,?_⟩;rcases hown.2 with ⟨rfl,rfl⟩ | ⟨g,cap,cur,rfl,hbg,hgg,hnc,hcm,hcs,htake⟩
 ·right
  have hx:xs=[]:=List.eq_nil_of_length_eq_zero (by simpa using hown.1);subst hx;obtain ⟨v2,w2,hr2,ho2,_,_⟩:=run_append_own (P:=P) w w.heap.size t ty e i z size bytes ht hi hz hsize hby hzs hsz _ 0 [] (World.ownsRow_nil w w.heap.size e size) a m c news hl hnews h1 h63 hbytes (Nat.le_refl _);rw [hr2] at hr;injection hr with e1 e2;subst e1;exact fun k hk=>(ho2.lt k hk).1
 ·have hsmall:n+m≤9223372036854775807:=by simp only [maxLen] at h63;omega
  subst hsize;subst hby;by_cases hroom:n+m≤cap
  ·have hfit:n*i.size+news.length≤cur.size:=by rw [hl,hcs,← Nat.add_mul];exact Nat.mul_le_mul_right _ hroom
   rw [run_append_room (P:=P) w t ty e i ht hi g n cap cur hgg a m c news hl hnews h1 hroom hfit] at hr;injection hr with e1 e2;subst e1;exact .inl rfl
  ·rw [run_append_grow (P:=P) w t ty e i z ht hi hz ⟨g,0,none⟩ n cap xs hown.1 (hown.cells (g:=g) rfl) a m c news hl hnews (by omega) (by omega) (growslice_fits (by omega) hbytes)] at hr
   injection hr with e1 e2;subst e1;exact .inr fun k hk=>by simp [Value.ownBlock] at hk;omega
end
end
end Go.Proofs.YtignemioillaiabGreat
