/- Lemmas. -/
import Derived.Test.YtignemioillaiabGreatG11
import Derived.Conc.SmallLaws
import Derived.Test.YtignemioillaiabGreatRows
import Derived.WalkLawsBesides
import Derived.Orders
import Derived.Conc.AppendWalk
namespace Go.Proofs.YtignemioillaiabGreat
set_option maxHeartbeats 8000000
set_option maxRecDepth 100000
open List
section
open Go Go.Conc
noncomputable def c59:Code:=Tryz.f47.body.getD .skip
theorem aa2:Tryz.f47.body=some c59:=by
 unfold c59;rfl
theorem Zl(x y z:Value):Frame.enter Tryz.prog 47 #[x,y,z] .normal=(Go.Conc.base 47).at ⟨#[x,y,z,undef,undef,undef,undef,undef,undef,undef,undef,undef,undef,undef,undef,undef,undef,undef,undef,undef,undef,undef,undef,undef,undef],[]⟩ [.code c59]:=by
 have h:=enter_at (P:=Tryz.prog) #[x,y,z] Tryz.func47 aa2;rw[show Tryz.f47.ntmps=25 from rfl]at h;rw[h];walk_nrm
noncomputable def Lf:Code:=cb (cb (cr (cr (cr c59))))
noncomputable def Lg:Code:=cb Lf
noncomputable def Ed:Array Oper:=co (cl (cr Lg))
noncomputable def Lh:List Item:=[.code (cr (cr Lg)),.inBlock 1,.inLoop Lf,.inBlock 0]
def BZ(c r wk:Value)(pk th:Nat)(x8 dI gV gX x20 tu tC tF x24:Value):Array Value:=#[c,r,wk,undef,undef,undef,.chan (some pk),.chan (some th),x8,.chan (some pk),.chan (some th),r,wk,.chan (some pk),.chan (some th),.chan (some pk),.chan (some th),dI,gV,gX,x20,tu,tC,tF,x24]
def z59:Value:=.agg #[.int .u8 0,.int .u8 0,.int .u8 0,.int .u8 0,.string ⟨#[]⟩]
def vE:Value:=.agg #[]
noncomputable def Bg(c r wk:Value)(pk th:Nat)(x8 dI gV gX x20 tu tC tF x24:Value)(cs:List Frame):Goroutine:=G ((Go.Conc.base 47).at ⟨BZ c r wk pk th x8 dI gV gX x20 tu tC tF x24,[]⟩ (.inRegion Ed [0,1,2,3]::Lh)) cs
theorem Dp(c r wk:Value)(pk th:Nat)(x8 dI gV gX x20 tu tC tF x24:Value)(cs:List Frame):iY Tryz.prog (dB pk th z59 vE) (Bg c r wk pk th x8 dI gV gX x20 tu tC tF x24 cs) (Bg c r wk pk th x8 dI gV gX x20 tu tC tF x24 cs):=by
 refine⟨rfl,rfl,rfl,rfl,λw=>?_⟩;unfold Bg Ed BZ;simp only[Lg,Lf,c59,Tryz.f47,cl,cr,cb,co,Option.getD];rw[stepG_comm rfl rfl (by decide) (cases:=dB pk th z59 vE) (blocking:=true) (shape:=.select) (w':=w) (by go_simp;rfl),listed_none (by simp[go_sem])]
section
variable{X:Goroutine->World->Prop}{w:World}{c r wk:Value}{cs:List Frame}
theorem Bh{P:Program}{main:Bool}{b:Frame}{a:Act}{k:List Item}(hX:Shut P main yX X){ops:Array Oper}{i:Nat}{rest:List Nat}{o:Oper}(ho:ops[i]?=some o)(hw:Region.wanted o (yielded ops a.tmps)=true)(hk:b.kind≠.early)
 {t e:TypeId} {dir:ChanDir} (hop:o.op=.makeChan t (.const (.int .i64 0))) (ht:P.underlying t=some (.chan dir e)) (hi:(P.info? e).isSome=true)
 (h:X (G (b.at (a.put o.dst (.chan (some w.heap.size))) (.inRegion ops rest::k)) cs) (w.alloc (.chan 0 #[] false 0 0 false))):X (G (b.at a (.inRegion ops (i::rest)::k)) cs) w:=by
 obtain⟨ii,hi⟩:=Jcp.1 hi;have hx:execOp a.eval o=(do pure (Next.value (<-Instr.makeChan t (.int .i64 0)))):=by unfold execOp;rw[hop];rfl
 have hr:∀w:World,(execOp a.eval o).run P w=.ok (.value (.chan (some w.heap.size))) (w.alloc (.chan 0 #[] false 0 0 false)):=λw=>by
  have:=run_makeChan (P:=P) (w:=w) ht hi .i64 0 (by decide) (by simp);rw[hx,Sem.run_bind,show(Instr.makeChan t (.int .i64 0)).run P w=_ from this];rfl
 have he:∀w:World,(execOp a.eval o).events P w #[]=#[]:=λw=>by
  rw[hx,EN];exact events_makeChan (P:=P) (w:=w) ht hi .i64 0 (by decide) (by simp) #[]
 refine hX.step rfl λw₁ h1=>?_
 rw[stepG_value ho hw hk (hr w₁),listed_none (he w₁),goes_go];obtain⟨p,rfl⟩:=h1;exact⟨by intro e he;simp at he,hX.rely ⟨p,rfl⟩ h⟩
theorem NS(hX:Shut Tryz.prog true yX X)
 (h:X (G ((Go.Conc.base 47).at ⟨#[c,r,wk,undef,undef,undef,.chan (some w.heap.size),.chan (some (w.heap.size+1)),undef,.chan (some w.heap.size),.chan (some (w.heap.size+1)),r,wk,.chan (some w.heap.size),.chan (some (w.heap.size+1)),undef,undef,undef,undef,undef,undef,undef,undef,undef,undef],[]⟩ [.inRegion (co (cl (cr (cr c59)))) [4],.code (cr (cr (cr c59)))]) cs) ((w.alloc (.chan 0 #[] false 0 0 false)).alloc (.chan 0 #[] false 0 0 false))):X (G (Frame.enter Tryz.prog 47 #[c,r,wk] .normal) cs) w:=by
 rw[Zl];simp only[c59,Tryz.f47,cl,cr,co,Option.getD]at h |-;refine aH.seq hX.c ?_;refine aH.region hX.c _ rfl ?_;simp[List.range,List.range.loop];refine Bh hX rfl rfl (by decide) rfl Tryz.underlying183 (by kernel_rfl) ?_;simp[Act.put];refine aH.quiet hX.c rfl rfl (by decide) _ (λ_=>by go_simp<;>rfl) (λ_=>by simp[go_sem, *]) ?_;simp[Act.put];refine aH.regionEnd hX.c ?_;refine aH.seq hX.c ?_;refine aH.region hX.c _ rfl ?_;simp[List.range,List.range.loop];refine Bh hX rfl rfl (by decide) rfl Tryz.underlying184 (by kernel_rfl) ?_;simp[Act.put];refine aH.quiet hX.c rfl rfl (by decide) _ (λ_=>by go_simp<;>rfl) (λ_=>by simp[go_sem, *]) ?_;simp[Act.put];refine aH.regionEnd hX.c ?_;refine aH.seq hX.c ?_;refine aH.region hX.c _ rfl ?_;simp[List.range,List.range.loop];refine aH.quiet hX.c rfl rfl (by decide) _ (λ_=>by go_simp<;>rfl) (λ_=>by simp[go_sem, *]) ?_;simp[Act.put];refine aH.quiet hX.c rfl rfl (by decide) _ (λ_=>by go_simp<;>rfl) (λ_=>by simp[go_sem, *]) ?_;simp[Act.put];refine aH.quiet hX.c rfl rfl (by decide) _ (λ_=>by go_simp<;>rfl) (λ_=>by simp[go_sem, *]) ?_;simp[Act.put];refine aH.quiet hX.c rfl rfl (by decide) _ (λ_=>by go_simp<;>rfl) (λ_=>by simp[go_sem, *]) ?_;simp[Act.put];exact h
end
theorem agJ{P:Program}{cs:Array CommCase}{A2:Goroutine}:aH P true (λg _=>∃n,QW P cs A2 n g):=⟨λhr hs ⟨n,h⟩=>⟨n+1,.inr ⟨hr,_,hs,h⟩⟩⟩
theorem NT{X:Goroutine->World->Prop}(hC:aH Tryz.prog true X){w:World}{c r wk:Value}{pk th:Nat}{cs:List Frame}(hh':X (Bg c r wk pk th undef undef undef undef undef undef undef undef undef cs) w):X (G ((Go.Conc.base 47).at ⟨#[c,r,wk,undef,undef,undef,.chan (some pk),.chan (some th),undef,.chan (some pk),.chan (some th),r,wk,.chan (some pk),.chan (some th),undef,undef,undef,undef,undef,undef,undef,undef,undef,undef],[]⟩ [.inRegion (co (cl (cr (cr c59)))) [],.code (cr (cr (cr c59)))]) cs) w:=by
 unfold Bg BZ Lh Ed at hh';simp only[Lg,Lf,c59,Tryz.f47,cl,cr,cb,co,Option.getD]at hh' |-;refine aH.regionEnd hC ?_;refine aH.block hC ?_;refine aH.loop hC ?_;refine aH.block hC ?_;refine aH.seq hC ?_;refine aH.seq hC ?_;refine aH.region hC _ rfl ?_;simp[List.range,List.range.loop];refine aH.quiet hC rfl rfl (by decide) _ (λ_=>by go_simp<;>rfl) (λ_=>by simp[go_sem, *]) ?_;simp[Act.put];refine aH.regionEnd hC ?_;refine aH.region hC _ rfl ?_;simp[List.range,List.range.loop];refine aH.quiet hC rfl rfl (by decide) _ (λ_=>by go_simp<;>rfl) (λ_=>by simp[go_sem, *]) ?_;simp[Act.put];refine aH.regionEnd hC ?_;refine aH.seq hC ?_;refine aH.region hC _ rfl ?_;simp[List.range,List.range.loop];exact hh'
theorem SK(c r wk:Value)(pk th:Nat)(cs:List Frame):∃n,QW Tryz.prog (dB pk th z59 vE) (Bg c r wk pk th undef undef undef undef undef undef undef undef undef cs) n (G ((Go.Conc.base 47).at ⟨#[c,r,wk,undef,undef,undef,.chan (some pk),.chan (some th),undef,.chan (some pk),.chan (some th),r,wk,.chan (some pk),.chan (some th),undef,undef,undef,undef,undef,undef,undef,undef,undef,undef],[]⟩ [.inRegion (co (cl (cr (cr c59)))) [],.code (cr (cr (cr c59)))]) cs) :=
 NT (w:=default) (agJ (P:=Tryz.prog) (cs:=dB pk th z59 vE) (A2:=Bg c r wk pk th undef undef undef undef undef undef undef undef undef cs)) ⟨0,Dp _ _ _ _ _ _ _ _ _ _ _ _ _ _ _⟩
end
section

end
section
open Go.RowKit
structure agK(w:World)(v:Value)(w':World)(v':Value):Prop where
 grown:w.grownBy w' v.ownBlock
 own:v'.ownBlock=v.ownBlock\/∀k,v'.ownBlock=some k->w.heap.size<=k
section
variable{P:Program}(w:World)
theorem y7(base:Nat)(t ty e:TypeId)(i:TypeInfo)(z:Value)(size bytes:Nat)(ht:P.underlying t=some (.slice e))(hi:P.info? e=some i)(hz:i.zero=some z)
 (hsize:i.size=size) (hby:i.bytes=bytes) (hzs:z.cells.size=size) (hsz:0<size) (v:Value) (n:Nat) (xs:List Value) (hown:w.ownsRow base e size v n xs)
 (a:Addr) (m c:Nat) (news:List Value) (hl:news.length=m*size) (hnews:∀j u,news[j]?=some u->w.cell? (a.add j)=some u) (h1:∀u∈news,u.oneCell'=true)
 (h63:n+m<=maxLen) (hbytes:(n+m)*bytes<=140737488355328) (hbase:base<=w.heap.size) :
 ∃v' w',(Builtin.append_ #[t,t] ty #[v,.slice (some a) m c]).run P w=.ok v' w'/\w'.ownsRow base e size v' (n+m) (xs++news)/\agK w v w' v':=by
 obtain⟨v',w',hr,ho,hg,_⟩:=run_append_own (P:=P) w base t ty e i z size bytes ht hi hz hsize hby hzs hsz v n xs hown a m c news hl hnews h1 h63 hbytes hbase;refine⟨v',w',hr,ho,hg,?_⟩;rcases hown.2 with⟨rfl,rfl⟩|⟨g,cap,cur,rfl,hbg,hgg,hnc,hcm,hcs,htake⟩
 .right
  have hx:xs=[]:=Jcq (by simpa using hown.1);subst hx;obtain⟨v2,w2,hr2,ho2,_,_⟩:=run_append_own (P:=P) w w.heap.size t ty e i z size bytes ht hi hz hsize hby hzs hsz _ 0 [] (World.ownsRow_nil w w.heap.size e size) a m c news hl hnews h1 h63 hbytes (Jb0 _);rw[hr2]at hr;injection hr with e1 e2;subst e1;exact λk hk=>(ho2.lt k hk).1
 .have hsmall:n+m<=9223372036854775807:=by simp only[maxLen]at h63;omega
  subst hsize;subst hby;by_cases hroom:n+m<=cap
  .have hfit:n*i.size+news.length<=cur.size:=by rw[hl,hcs,<-Nat.add_mul];exact Jcr _ hroom
   rw[run_append_room (P:=P) w t ty e i ht hi g n cap cur hgg a m c news hl hnews h1 hroom hfit]at hr;injection hr with e1 e2;subst e1;exact .inl rfl
  .rw[run_append_grow (P:=P) w t ty e i z ht hi hz ⟨g,0,none⟩ n cap xs hown.1 (hown.cells (g:=g) rfl) a m c news hl hnews (by omega) (by omega) (growslice_fits (by omega) hbytes)]at hr
   injection hr with e1 e2;subst e1;exact .inr λk hk=>by simp[Value.ownBlock]at hk;omega
end
end
section
open Go Go.Conc
section
variable{P:Program}{main:Bool}{Stop:(Nat->Prop)->Goroutine->World->Prop}{F:Nat->Prop}{w:World}{b:Frame}{a:Act}{k:List Item}{cs:List Frame}{ops:Array Oper}
theorem aA.drawn{id:Nat}(hm:P.follows .mixedOrders=true)(I:Nat->Array Bool->(Nat->Prop)->Act->World->Prop)(h0:∀w1,aO F w w1->I ops.size (Array.replicate ops.size false) F a w1)
 (hstep:∀n l F a w i rest,I (n+1) l F a w->l.getD i true=false->(∃o,ops[i]?=some o/\∀e∈o.after,Region.binds .any e=true->l.getD e.on false=true)->(∀F' a' w',I n (l.setIfInBounds i true) F' a' w'->aA P main Stop F' (G (b.at a' (.inRegion ops rest::k)) cs) w')->aA P main Stop F (G (b.at a (.inRegion ops (i::rest)::k)) cs) w)
 (hend:∀n l F a w,I n l F a w->n=0\/Region.ready .any ops l=[]->aA P main Stop F (G (b.at a k) cs) w):aA P main Stop F (G (b.at a (.code (.region id ops true)::k)) cs) w:=by
 have key:∀(n t:Nat) (l:Array Bool) (F:Nat->Prop) (a:Act) (w:World),I n l F a w->aA P main Stop F (G (b.at a (.inRegion ops (Region.linearise.go .any ops n t l [])::k)) cs) w:=by
  intro n;induction n with
  |zero=>exact λt l F a w h=>aH.regionEnd aC (hend 0 l F a w h (.inl rfl))
  |succ n ih =>
   intro t l F a w h;simp only[Region.linearise.go];change aA P main Stop F (G (b.at a (.inRegion ops (match(Region.ready .any ops l)[t%(Region.ready .any ops l).length]? with
    |some i=>Region.linearise.go .any ops n (t / (Region.ready .any ops l).length) (l.setIfInBounds i true) [i]
    |none=>[].reverse)::k)) cs) w
   cases hi:(Region.ready .any ops l)[t%(Region.ready .any ops l).length]? with
   |none =>
    have hnil:Region.ready .any ops l=[]:=by
     cases hr:Region.ready .any ops l with
     |nil=>rfl
     |cons x xs =>
      rw[hr]at hi;have:=Jct.1 hi;have:=Nat.mod_lt t (show 0<(x::xs).length by simp);omega
    exact aH.regionEnd aC (hend _ l F a w h (.inr hnil))
   |some i =>
    have hmem:=mem_ready.1 (Jcv hi);simp only[];rw[linearise_go_acc,reverse_singleton,singleton_append];exact hstep n l F a w i _ h hmem.1 hmem.2 λF' a' w' h'=>ih _ _ F' a' w' h'
 refine aA.step rfl λw1 h1=>?_
 have hs:stepG P main (G (b.at a (.code (.region id ops true)::k)) cs) w1=.go (G (b.at a (.inRegion ops (Region.schedule (P.follows .mixedOrders) ops (w1.tape w1.drawn (.order b.fn id)))::k)) cs) {w1 with drawn:=w1.drawn+1} #[]:=by
  simp[G,stepG,stepG.exec,Frame.at,choose,Sem.run,Question.forced,Question.cut]
 have hgs:Grow F w1 {w1 with drawn:=w1.drawn+1}=F:=uJ rfl;rw[hs,goes_go,hgs];refine⟨⟨Jb0 _,λ_ _ _=>rfl,rfl,rfl,by simp⟩,?_⟩;simp only[Region.schedule,hm,Bool.true_or,Jb8];exact key _ _ _ F a _ (h0 _ (h1.trans ⟨Jb0 _,λ_ _=>rfl,rfl,rfl⟩))
theorem aA.Zm{i:Nat}{rest:List Nat}{o:Oper}(ho:ops[i]?=some o)(hw:Region.wanted o (yielded ops a.tmps)=true)(hk:b.kind≠.early){s x:Operand}{t:TypeId}(hop:o.op=.call {callee:=.builtin .append,args:=#[s,x],argTypes:=#[t,t]})
 (e:TypeId) (ii:TypeInfo) (z:Value) (size bytes:Nat) (ht:P.underlying t=some (.slice e)) (hi:P.info? e=some ii) (hz:ii.zero=some z) (hsize:ii.size=size) (hby:ii.bytes=bytes) (hzs:z.cells.size=size) (hsz:0<size)
 {v:Value} {n:Nat} {xs:List Value} (hs:a.eval s=v) (hown:w.ownsRow 0 e size v n xs) (X9:∀g,v.ownBlock=some g->F g) {B m c:Nat} {news:List Value} (hx:a.eval x=.slice (some ⟨B,0,none⟩) m c) (hB:F B) {nb:Array Value} {tb:TypeId} (hW:w.heap[B]?=some (.cells nb tb)) (hnb:nb.toList.take (m*size)=news) (hl:news.length=m*size) (h1:∀u∈news,u.oneCell'=true)
 (h63:n+m<=maxLen) (hbytes:(n+m)*bytes<=140737488355328) (hin:∀x,F x->x<w.heap.size)
 (h:∀w1 F' v' w',aO F w w1->(∀x,F x->F' x)->(∀x,F' x->x<w'.heap.size)->(∀x,F' x->F x\/w1.heap.size<=x)->w'.ownsRow 0 e size v' (n+m) (xs++news)->(∀g,v'.ownBlock=some g->F' g)->(∀x,F x->some x≠v.ownBlock->w'.heap[x]?=w1.heap[x]?)->aA P main Stop F' (G (b.at (a.put o.dst v') (.inRegion ops rest::k)) cs) w'):aA P main Stop F (G (b.at a (.inRegion ops (i::rest)::k)) cs) w:=by
 refine aA.opK ho hw hk λw1 hr K hK=>?_
 have hown1:w1.ownsRow 0 e size v n xs:=ax hown λg hg=>hr.own g (X9 g hg)
 have hW1:w1.heap[B]?=some (.cells nb tb):=(hr.own B hB).trans hW;have hnews:∀j u,news[j]?=some u->w1.cell? ((⟨B,0,none⟩:Addr).add j)=some u:=λj u hu=>by
  have hadd:(⟨B,0,none⟩:Addr).add j=⟨B,j,none⟩:=by unfold Addr.add;split<;>simp_all
  rw[hadd,zQ hW1];rw[<-hnb,Jc5]at hu;split at hu
  .simpa using hu
  .cases hu
 obtain⟨v',w',hrun,ho',hg⟩:=y7 (P:=P) w1 0 t o.type e ii z size bytes ht hi hz hsize hby hzs hsz v n xs hown1 ⟨B,0,none⟩ m c news hl hnews h1 h63 hbytes (Jcm _);have hev:=events_append_where (P:=P) w1 0 t o.type e ii z size bytes ht hi hz hsize hby v n xs hown1 ⟨B,0,none⟩ m c news hl hnews h1 h63 hbytes;refine uponK_append s x t hop hs hx hrun (hK _ _ ⟨hg.grown.size,λy hy hnF=>hg.grown.block y hy λe=>hnF (X9 y e.symm),hg.grown.os,hg.grown.output,λev Qw=>?_⟩ ?_)
 .have h2:=wK _ _ _ ev Qw
  rw[events_append_op s x t hop hs hx]at h2;rcases hev ev h2 with⟨ad,e1,e2⟩|⟨mk,rfl,hn⟩
  .refine zP e1 (.inl ?_)
   rcases e2 with⟨_,e2⟩|e2
   .rw[e2];exact hB
   .exact X9 _ e2.symm
  .exact VR hn
 .refine h w1 _ v' w' hr (λy hy=>.inl hy) ?_ ?_ ho' ?_ ?_
  .rintro y (hy|hy)
   .have:=hin y hy;have:=hr.size;have:=hg.grown.size;omega
   .exact hy.2
  .rintro y (hy|hy)
   .exact .inl hy
   .exact .inr hy.1
  .intro g hgo
   rcases hg.own with he|he
   .exact .inl (X9 g (he▸hgo))
   .refine .inr ⟨he g hgo,?_⟩
    rcases ho'.2 with⟨rfl,_⟩|⟨g',cap,cur,rfl,_,hb,_⟩
    .cases hgo
    .have:g'=g:=by simpa[Value.ownBlock]using hgo
     subst this;exact(Jbd.1 hb).1
  .intro y hy hne
   exact hg.grown.block y (by have:=hin y hy;have:=hr.size;omega) hne
end
noncomputable def Jn:Code:=Tryz.f45.body.getD .skip
theorem SL:Tryz.f45.body=some Jn:=by
 unfold Jn;rfl
theorem Zn(x y:Value):Frame.enter Tryz.prog 45 #[x,y] .normal=(Go.Conc.base 45).at ⟨#[x,y,undef,undef,undef,undef,undef,undef,undef,undef,undef,undef,undef,undef,undef,undef,undef,undef,undef,undef],[]⟩ [.code Jn]:=by
 have h:=enter_at (P:=Tryz.prog) #[x,y] Tryz.func45 SL;rw[show Tryz.f45.ntmps=20 from rfl]at h;rw[h];walk_nrm
theorem VZ:(Tryz.prog.info? 97).map (λi=>(i.zero,i.size,i.bytes))=some (some (.agg #[.int .u8 0,.int .u8 0,.int .u8 0,.int .u8 0,.string ⟨#[]⟩]),5,24):=by kernel_rfl
structure JS(bc nb:Nat)(gv sv:Value)(p:bF)(q:List bF)(F0:Nat->Prop)(b0 b1 b2 b3 b4 b5 b6 b7 b8 b9 b10:Bool)(nR pJ kZ jf lD lG lH dI gV gX:Value)(F:Nat->Prop)(w:World):Prop where
 i0:b0=true->nR=.pointer (some ⟨bc,0,none⟩)
 i1:b1=true->pJ=.pointer (some ⟨bc,0,none⟩)
 i2:b2=true->kZ=.pointer (some ⟨bc,0,none⟩)
 i3:b3=true->jf=.pointer (some ⟨bc,1,none⟩)
 i4:b4=true->lD=sv
 i5:b5=true->lG=p.val
 i8:b8=true->gV=.pointer (some ⟨bc,0,none⟩)
 i9:b9=true->gX=.pointer (some ⟨bc,1,none⟩)
 sub:∀x,F0 x->F x
 xD:∀x,F x->x<w.heap.size
 fc:F bc
 fb:b5=false->F nb/\w.heap[nb]?=some (.cells p.cells.toArray 97)
 i65:b6=true->b5=true
 i6:b6=true->b7=false->∃ns,lH=.slice (some ⟨ns,0,none⟩) 1 1/\F ns/\w.heap[ns]?=some (.cells p.cells.toArray 97)
 hc:∃y,w.heap[bc]?=some (.cells #[gv,y] 118)/\(b10=false->y=sv)/\(b10=true->y=dI)
 i74:b7=true->b4=true/\b6=true
 i7:b7=true->w.ownsRow 0 97 5 dI (q.length+1) (flat (q++[p]))/\∀g,dI.ownBlock=some g->F g
 n7:b7=false->w.ownsRow 0 97 5 sv q.length (flat q)/\∀g,sv.ownBlock=some g->F g
 i10:b10=true->b7=true
section
variable{bc nb:Nat}{gv sv:Value}{p:bF}{q:List bF}{F0:Nat->Prop}{b0 b1 b2 b3 b4 b5 b6 b7 b8 b9 b10:Bool}{nR pJ kZ jf lD lG lH dI gV gX:Value}{F:Nat->Prop}{w:World}
theorem JS.grow(h:JS bc nb gv sv p q F0 b0 b1 b2 b3 b4 b5 b6 b7 b8 b9 b10 nR pJ kZ jf lD lG lH dI gV gX F w){F':Nat->Prop}{w1:World}(hF:∀x,F x->F' x)(hw:∀x,F x->w1.heap[x]?=w.heap[x]?)(hin:∀x,F' x->x<w1.heap.size):JS bc nb gv sv p q F0 b0 b1 b2 b3 b4 b5 b6 b7 b8 b9 b10 nR pJ kZ jf lD lG lH dI gV gX F' w1 :=
 {h with
  sub:=λx hx=>hF x (h.sub x hx)
  xD:=hin
  fc:=hF _ h.fc
  fb:=λh5=>⟨hF _ (h.fb h5).1,(hw _ (h.fb h5).1).trans (h.fb h5).2⟩
  i6:=λh6 h7=>by obtain⟨ns,e1,e2,e3⟩:=h.i6 h6 h7;exact⟨ns,e1,hF _ e2,(hw _ e2).trans e3⟩
  hc:=by obtain⟨y,e1,e2⟩:=h.hc;exact⟨y,(hw _ h.fc).trans e1,e2⟩
  i7:=λh7=>⟨ax (h.i7 h7).1 λg hg=>hw g ((h.i7 h7).2 g hg),λg hg=>hF g ((h.i7 h7).2 g hg)⟩
  n7:=λh7=>⟨ax (h.n7 h7).1 λg hg=>hw g ((h.n7 h7).2 g hg),λg hg=>hF g ((h.n7 h7).2 g hg)⟩}
theorem JS.rely(h:JS bc nb gv sv p q F0 b0 b1 b2 b3 b4 b5 b6 b7 b8 b9 b10 nR pJ kZ jf lD lG lH dI gV gX F w){w1:World}(hr:aO F w w1):JS bc nb gv sv p q F0 b0 b1 b2 b3 b4 b5 b6 b7 b8 b9 b10 nR pJ kZ jf lD lG lH dI gV gX F w1 :=
 h.grow (λ_ hx=>hx) hr.own λx hx=>Jbz (h.xD x hx) hr.size
theorem SN(q:List bF)(p:bF):flat (q++[p])=flat q++p.cells:=by simp[flat]
theorem IA{sv:Value}{n:Nat}{xs:List Value}{bc:Nat}{ys:Array Value}(h:w.ownsRow 0 97 5 sv n xs)(hb:w.heap[bc]?=some (.cells ys 118)):some bc≠sv.ownBlock:=by
 intro e;rcases h.2 with⟨rfl,_⟩|⟨g,cap,cur,rfl,_,hg,_⟩
 .cases e
 .obtain rfl:bc=g:=by simpa[Value.ownBlock]using e
  rw[hb]at hg;injection hg with hg;injection hg with _ h2 _;cases h2
end
def aa3(bc nb:Nat)(p:bF)(sv:Value)(n:Nat)(nR pJ kZ jf lD lG lH dI gV gX:Value):Array Value:=#[.pointer (some ⟨bc,0,none⟩),p.val,undef,.pointer (some ⟨nb,0,none⟩),.pointer (some ⟨bc,0,none⟩),.pointer (some ⟨bc,0,none⟩),.pointer (some ⟨bc,1,none⟩),sv,.int .i64 n,.bool true,nR,pJ,kZ,jf,lD,lG,lH,dI,gV,gX]
def JI(bc nb:Nat)(gv sv:Value)(p:bF)(q:List bF)(F0:Nat->Prop)(n:Nat)(l:Array Bool)(F:Nat->Prop)(a:Act)(w:World):Prop :=
 ∃b0 b1 b2 b3 b4 b5 b6 b7 b8 b9 b10 nR pJ kZ jf lD lG lH dI gV gX,l=#[b0,b1,b2,b3,b4,b5,b6,b7,b8,b9,b10]/\n+b0.toNat+b1.toNat+b2.toNat+b3.toNat+b4.toNat+b5.toNat+b6.toNat+b7.toNat+b8.toNat+b9.toNat+b10.toNat=11 /\
  a=⟨aa3 bc nb p sv q.length nR pJ kZ jf lD lG lH dI gV gX,[]⟩/\JS bc nb gv sv p q F0 b0 b1 b2 b3 b4 b5 b6 b7 b8 b9 b10 nR pJ kZ jf lD lG lH dI gV gX F w
noncomputable def Li:Array Oper:=co (match cr (cr Jn)with | .cond _ x _=>x|c=>c)
section
variable{bc nb:Nat}{gv sv:Value}{p:bF}{q:List bF}{F0:Nat->Prop}{Stop:(Nat->Prop)->Goroutine->World->Prop}{k:List Item}{cs:List Frame}
theorem Zo(hq:q.length<20000)(n:Nat)(l:Array Bool)(F:Nat->Prop)(a:Act)(w:World)(i:Nat)(rest:List Nat)(h:JI bc nb gv sv p q F0 (n+1) l F a w)(hi:l.getD i true=false)(hr:∃o,Li[i]?=some o/\∀e∈o.after,Region.binds .any e=true->l.getD e.on false=true)
 (hk:∀F' a' w',JI bc nb gv sv p q F0 n (l.setIfInBounds i true) F' a' w'->aA Tryz.prog true Stop F' (G ((Go.Conc.base 45).at a' (.inRegion Li rest::k)) cs) w'):aA Tryz.prog true Stop F (G ((Go.Conc.base 45).at a (.inRegion Li (i::rest)::k)) cs) w:=by
 obtain⟨b0,b1,b2,b3,b4,b5,b6,b7,b8,b9,b10,nR,pJ,kZ,jf,lD,lG,lH,dI,gV,gX,rfl,hn,rfl,hJ⟩:=h;obtain⟨o,ho,rO⟩:=hr;unfold Li at ho hk |-;simp only[Jn,Tryz.f45,cr,co,Option.getD]at ho hk |-;have hlt:i<11:=by
  have:=(Jbd.1 ho).1;simpa using this
 have hcases:i=0\/i=1\/i=2\/i=3\/i=4\/i=5\/i=6\/i=7\/i=8\/i=9\/i=10:=by omega
 have agL:b4=false->b7=false:=λh4=>by
  cases h7:b7
  .rfl
  .rw[(hJ.i74 h7).1]at h4;cases h4
 have Ya:b7=false->b10=false:=λh7=>by
  cases h10:b10
  .rfl
  .rw[hJ.i10 h10]at h7;cases h7
 have agM:b5=false->b6=false:=λh5=>by
  cases h6:b6
  .rfl
  .rw[hJ.i65 h6]at h5;cases h5
 have agN:b6=false->b7=false:=λh6=>by
  cases h7:b7
  .rfl
  .rw[(hJ.i74 h7).2]at h6;cases h6
 unfold aa3;rcases hcases with rfl|rfl|rfl|rfl|rfl|rfl|rfl|rfl|rfl|rfl|rfl<;>(obtain rfl:=Jbm ho;simp[Region.binds]at hi rO;simp at hk;subst hi)
 .refine aH.quiet aC rfl rfl (by decide) _ (λ_=>by go_simp<;>rfl) (λ_=>by simp[go_sem, *]) ?_
  simp[Act.put];exact hk F _ w ⟨true,b1,b2,b3,b4,b5,b6,b7,b8,b9,b10,_,pJ,kZ,jf,lD,lG,lH,dI,gV,gX,rfl,by simp at hn |-;omega,rfl,{hJ with i0:=λ_=>rfl}⟩
 .refine aH.quiet aC rfl rfl (by decide) _ (λ_=>by go_simp<;>rfl) (λ_=>by simp[go_sem, *]) ?_
  simp[Act.put];exact hk F _ w ⟨b0,true,b2,b3,b4,b5,b6,b7,b8,b9,b10,nR,_,kZ,jf,lD,lG,lH,dI,gV,gX,rfl,by simp at hn |-;omega,rfl,{hJ with i1:=λ_=>rfl}⟩
 .obtain rfl:=hJ.i1 rO
  refine aH.quiet aC rfl rfl (by decide) _ (λ_=>by go_simp<;>rfl) (λ_=>by simp[go_sem, *]) ?_;simp[Act.put];exact hk F _ w ⟨b0,b1,true,b3,b4,b5,b6,b7,b8,b9,b10,nR,_,_,jf,lD,lG,lH,dI,gV,gX,rfl,by simp at hn |-;omega,rfl,{hJ with i2:=λ_=>rfl}⟩
 .obtain rfl:=hJ.i2 rO
  refine aH.quiet aC rfl rfl (by decide) _ (λ_=>by go_simp<;>rfl) (λ_=>by simp[go_sem, *]) ?_;simp[Act.put];exact hk F _ w ⟨b0,b1,b2,true,b4,b5,b6,b7,b8,b9,b10,nR,pJ,_,_,lD,lG,lH,dI,gV,gX,rfl,by simp at hn |-;omega,rfl,{hJ with i3:=λ_=>rfl}⟩
 .obtain rfl:=hJ.i3 rO
  obtain⟨y,hy,hy1,_⟩:=hJ.hc;obtain rfl:=hy1 (Ya (agL rfl));refine aA.Qq rfl rfl (by decide) 37 rfl rfl hJ.fc hy Tryz.underlying37 rfl rfl ?_;simp[Act.put];exact hk F _ w ⟨b0,b1,b2,b3,true,b5,b6,b7,b8,b9,b10,nR,pJ,kZ,_,_,lG,lH,dI,gV,gX,rfl,by simp at hn |-;omega,rfl,{hJ with i4:=λ_=>rfl,i74:=λh7=>⟨rfl,(hJ.i74 h7).2⟩}⟩
 .refine aA.Kn rfl rfl (by decide) 97 rfl rfl (hJ.fb rfl).1 (hJ.fb rfl).2 Tryz.underlying97 rfl (n:=5) (by kernel_rfl) (Jb0 5) p.cells rfl ?_
  simp[Act.put];exact hk F _ w ⟨b0,b1,b2,b3,b4,true,b6,b7,b8,b9,b10,nR,pJ,kZ,jf,lD,_,lH,dI,gV,gX,rfl,by simp at hn |-;omega,rfl,{hJ with i5:=λ_=>rfl,fb:=λh=>(by cases h),i65:=λ_=>rfl}⟩
 .obtain rfl:=hJ.i5 rO
  refine aA.Km rfl rfl (by decide) (ob:=.cells p.cells.toArray 97) (v:=λn=>.slice (some ⟨n,0,none⟩) 1 1) (λw1=>by simp[go_sem,bF.val]) (λw1=>by unfold bF.val;go_simp;rfl) hJ.xD (λw1 h1=>?_);simp[Act.put];have hJ':=(hJ.rely h1).grow (F':=λx=>F x\/x=w1.heap.size) (w1:=w1.alloc (.cells p.cells.toArray 97)) (λx hx=>.inl hx) (λx hx=>alloc_old ((hJ.rely h1).xD x hx) _) (λx hx=>by rw[jJ];rcases hx with hx|hx;exact Nat.lt_succ_of_lt ((hJ.rely h1).xD x hx);omega);exact hk _ _ _ ⟨b0,b1,b2,b3,b4,b5,true,b7,b8,b9,b10,nR,pJ,kZ,jf,lD,_,_,dI,gV,gX,rfl,by simp at hn |-;omega,rfl,{hJ' with i65:=λ_=>rO,i6:=λ_ _=>⟨_,rfl,.inr rfl,je w1 _⟩,i74:=λh7=>⟨(hJ.i74 h7).1,rfl⟩}⟩
 .obtain rfl:=hJ.i4 rO.1
  obtain⟨ns,rfl,hns,hnb⟩:=hJ.i6 rO.2 rfl;obtain⟨y,hy,hy1,_⟩:=hJ.hc;obtain rfl:=Ya rfl;obtain rfl:=hy1 rfl;obtain⟨ho,hof⟩:=hJ.n7 rfl;obtain⟨ii,hii,hz,hs,hb⟩:∃ii,Tryz.prog.info? 97=some ii/\ii.zero=some (.agg #[.int .u8 0,.int .u8 0,.int .u8 0,.int .u8 0,.string ⟨#[]⟩])/\ii.size=5/\ii.bytes=24:=by
   have:=VZ;cases hq:Tryz.prog.info? 97 with
   |none=>rw[hq]at this;cases this
   |some ii =>
    rw[hq]at this;simp only[Jbb,Jbc,Jcw]at this;exact⟨ii,rfl,this⟩
  refine aA.Zm rfl rfl (by decide) rfl 97 ii _ 5 24 Tryz.underlying37 hii hz hs hb rfl (by decide) rfl ho hof rfl hns hnb (news:=p.cells) rfl rfl (by simp[bF.cells,Value.oneCell']) (by unfold maxLen;omega) (by omega) hJ.xD (λw1 F' v' w' h1 hsub hin' hnew hown' hF' hkeep=>?_);simp[Act.put];have hyF:w'.heap[bc]?=some (.cells #[gv,y] 118):=by rw[hkeep bc hJ.fc (IA ho hy),h1.own bc hJ.fc];exact hy
  rw[<-SN]at hown';exact hk F' _ w' ⟨b0,b1,b2,b3,b4,b5,b6,true,b8,b9,false,nR,pJ,kZ,jf,_,lG,_,v',gV,gX,rfl,by simp at hn |-;omega,rfl,{hJ with
   sub:=λx hx=>hsub x (hJ.sub x hx)
   xD:=hin'
   fc:=hsub _ hJ.fc
   fb:=λh5=>by rw[hJ.i65 rO.2]at h5;cases h5
   i6:=λ_ h=>by cases h
   hc:=⟨y,hyF,λ_=>rfl,λh=>(by cases h)⟩
   i74:=λ_=>rO
   i7:=λ_=>⟨hown',hF'⟩
   n7:=λh=>by cases h
   i10:=λh=>by cases h}⟩
 .obtain rfl:=hJ.i0 rO.1
  refine aH.quiet aC rfl rfl (by decide) _ (λ_=>by go_simp<;>rfl) (λ_=>by simp[go_sem, *]) ?_;simp[Act.put];exact hk F _ w ⟨b0,b1,b2,b3,b4,b5,b6,b7,true,b9,b10,_,pJ,kZ,jf,lD,lG,lH,dI,_,gX,rfl,by simp at hn |-;omega,rfl,{hJ with i8:=λ_=>rfl}⟩
 .obtain rfl:=hJ.i8 rO.1
  refine aH.quiet aC rfl rfl (by decide) _ (λ_=>by go_simp<;>rfl) (λ_=>by simp[go_sem, *]) ?_;simp[Act.put];exact hk F _ w ⟨b0,b1,b2,b3,b4,b5,b6,b7,b8,true,b10,nR,pJ,kZ,jf,lD,lG,lH,dI,_,_,rfl,by simp at hn |-;omega,rfl,{hJ with i9:=λ_=>rfl}⟩
 .obtain rfl:=hJ.i9 rO.1
  obtain⟨y,hy,_,_⟩:=hJ.hc;have h7:b7=true:=rO.2.1;obtain⟨ho,hof⟩:=hJ.i7 h7;have hv:dI.cells=#[dI]/\dI.oneCell'=true:=by
   rcases ho.2 with⟨rfl,_⟩|⟨g,cap,cur,rfl,_⟩<;>exact⟨rfl,rfl⟩
  refine aA.Gi rfl rfl (by decide) 37 rfl rfl (v:=dI) rfl hJ.fc hy (by rw[hv.1];kernel_rfl) (by rw[hv.1];simp[hv.2]) (by rw[hv.1];exact Jb0 2) [gv,dI] (by rw[hv.1];rfl) (λw1 w' h1 hb hne hsz hos hou=>?_);simp[Act.put];have hbc:∀g,dI.ownBlock=some g->g≠bc:=λg hg e=>IA ho hy (by rw[hg,e])
  exact hk F _ w' ⟨b0,b1,b2,b3,b4,b5,b6,b7,b8,b9,true,nR,pJ,kZ,jf,lD,lG,lH,dI,gV,_,rfl,by simp at hn |-;omega,rfl,{hJ with
   xD:=λx hx=>by rw[hsz];exact Jbz (hJ.xD x hx) h1.size
   fb:=λh5=>by have:=agN (agM h5);rw[h7]at this;cases this
   i6:=λ_ h=>by rw[h7]at h;cases h
   hc:=⟨dI,hb,λh=>(by cases h),λ_=>rfl⟩
   i7:=λ_=>⟨ax ho λg hg=>by rw[hne g (hbc g hg),h1.own g (hof g hg)],hof⟩
   n7:=λh=>by rw[h7]at h;cases h
   i10:=λ_=>h7}⟩
end
theorem ready_nil{ops:Array Oper}{l:Array Bool}(hr:Region.ready .any ops l=[])(i:Nat){o:Oper}(ho:ops[i]?=some o)(hd:∀e∈o.after,Region.binds .any e=true->l.getD e.on false=true):l.getD i true=true:=by
 cases h:l.getD i true
 .have:i∈Region.ready .any ops l:=mem_ready.2 ⟨h,o,ho,hd⟩
  rw[hr]at this;cases this
 .rfl
section
variable{bc nb:Nat}{gv sv:Value}{p:bF}{q:List bF}{F F0:Nat->Prop}{w:World}{Stop:(Nat->Prop)->Goroutine->World->Prop}{cs:List Frame}
theorem aa4{n:Nat}{l:Array Bool}{a:Act}(h:JI bc nb gv sv p q F0 n l F a w)(hn:n=0\/Region.ready .any Li l=[]):a.defers=[]/\(∀x,F0 x->F x)/\(∀x,F x->x<w.heap.size)/\∃bX,w.heap[bc]?=some (.cells #[gv,bX] 118)/\w.ownsRow 0 97 5 bX (q.length+1) (flat (q++[p]))/\∀g,bX.ownBlock=some g->F g:=by
 obtain⟨b0,b1,b2,b3,b4,b5,b6,b7,b8,b9,b10,nR,pJ,kZ,jf,lD,lG,lH,dI,gV,gX,rfl,hs,rfl,hJ⟩:=h;have h10:b10=true:=by
  rcases hn with rfl|hr
  .have tn:∀b:Bool,b.toNat<=1:=λb=>by cases b<;>decide
   have:=tn b0;have:=tn b1;have:=tn b2;have:=tn b3;have:=tn b4;have:=tn b5;have:=tn b6;have:=tn b7;have:=tn b8;have:=tn b9;cases b10
   .simp at hs;omega
   .rfl
  .have hh:=λi o ho hd=>ready_nil (i:=i) (o:=o) hr ho hd
   unfold Li at hh;simp only[Jn,Tryz.f45,cr,co,Option.getD]at hh;have e0:=hh 0 _ rfl (by simp);have e1:=hh 1 _ rfl (by simp);have e5:=hh 5 _ rfl (by simp);simp only[Jcx,Jcy,Jcz,Jd0,Jd1]at e0 e1 e5;subst e0 e1 e5;have e2:=hh 2 _ rfl (by simp);simp only[Jcx,Jcy,Jcz,Jd0,Jd1]at e2;subst e2;have e3:=hh 3 _ rfl (by simp);simp only[Jcx,Jcy,Jcz,Jd0,Jd1]at e3;subst e3;have e4:=hh 4 _ rfl (by simp);have e6:=hh 6 _ rfl (by simp);simp only[Jcx,Jcy,Jcz,Jd0,Jd1]at e4 e6;subst e4 e6;have e7:=hh 7 _ rfl (by simp);simp only[Jcx,Jcy,Jcz,Jd0,Jd1]at e7;subst e7;have e8:=hh 8 _ rfl (by simp);simp only[Jcx,Jcy,Jcz,Jd0,Jd1]at e8;subst e8;have e9:=hh 9 _ rfl (by simp);simp only[Jcx,Jcy,Jcz,Jd0,Jd1]at e9;subst e9;have e10:=hh 10 _ rfl (by simp);simpa using e10
 obtain⟨y,hy,_,hy2⟩:=hJ.hc;obtain rfl:=hy2 h10;exact⟨rfl,hJ.sub,hJ.xD,y,hy,(hJ.i7 (hJ.i10 h10)).1,(hJ.i7 (hJ.i10 h10)).2⟩
theorem aa5{cF:Frame}(hF:F bc)(hC:w.heap[bc]?=some (.cells #[gv,sv] 118))(ho:w.ownsRow 0 97 5 sv q.length (flat q))(hof:∀g,sv.ownBlock=some g->F g)(hin:∀x,F x->x<w.heap.size)(hq:q.length<=20000)
 (h:∀F' w' bX,(∀x,F x->F' x)->(∀x,F' x->x<w'.heap.size)->w'.heap[bc]?=some (.cells #[gv,bX] 118)->w'.ownsRow 0 97 5 bX ((q++[p]).take 20000).length (flat ((q++[p]).take 20000))->(∀g,bX.ownBlock=some g->F' g)->aA Tryz.prog true Stop F' (G (cF.finish (.tuple #[])) cs) w') :
 aA Tryz.prog true Stop F (G (Frame.enter Tryz.prog 45 #[.pointer (some ⟨bc,0,none⟩),p.val] .normal) (cF::cs)) w:=by
 have hsl:∃sa cap,sv=.slice sa q.length cap:=by
  rcases ho.2 with⟨h,h0⟩|⟨g,cap,cur,h,_⟩
  .exact⟨none,0,by rw[h,h0]⟩
  .exact⟨_,cap,h⟩
 obtain⟨sa,cap,hsl⟩:=hsl;have hlv:∀(a':Act) (todo:List Item) (F':Nat->Prop) (w':World),a'.defers=[]->aA Tryz.prog true Stop F' (G (cF.finish (.tuple #[])) cs) w'->aA Tryz.prog true Stop F' (G { (Go.Conc.base 45).at a' todo with mode:=.returning} (cF::cs)) w':=λa' todo F' w' hd hg =>
  aC.go rfl (λw=>stepG_leave (b:=Go.Conc.base 45) (fn:=Tryz.f45) rfl hd Tryz.func45 (results_none rfl _ _ _) (events_results_none rfl _ _)) hg
 rw[Zn];simp only[Jn,Tryz.f45,Option.getD];refine aH.seq aC ?_;refine aH.region aC _ rfl ?_;simp[List.range,List.range.loop];refine aA.Km rfl rfl (by decide) (ob:=.cells p.cells.toArray 97) (v:=λn=>.pointer (some ⟨n,0,none⟩)) (λw1=>by simp[go_sem]) (λw1=>by unfold bF.val;go_simp;rfl) hin (λw1 h1=>?_);simp[Act.put];have hst:=Zo (bc:=bc) (nb:=w1.heap.size) (gv:=gv) (sv:=sv) (p:=p) (q:=q) (F0:=F) (Stop:=Stop) (k:=[]) (cs:=cF::cs);have hen:=λn l a F' w'=>aa4 (bc:=bc) (nb:=w1.heap.size) (gv:=gv) (sv:=sv) (p:=p) (q:=q) (F0:=F) (n:=n) (l:=l) (a:=a) (F:=F') (w:=w')
 unfold Li at hst hen;simp only[Jn,Tryz.f45,cr,co,Option.getD]at hst hen;have SQ:(w1.alloc (.cells p.cells.toArray 97)).heap[bc]?=some (.cells #[gv,sv] 118):=by rw[alloc_old (Jbz (hin bc hF) h1.size),h1.own bc hF];exact hC
 refine aH.regionEnd aC ?_;refine aH.seq aC ?_;refine aH.region aC _ rfl ?_;simp[List.range,List.range.loop];refine aH.quiet aC rfl rfl (by decide) _ (λ_=>by go_simp<;>rfl) (λ_=>by simp[go_sem, *]) ?_;simp[Act.put];refine aH.quiet aC rfl rfl (by decide) _ (λ_=>by go_simp<;>rfl) (λ_=>by simp[go_sem, *]) ?_;simp[Act.put];refine aH.quiet aC rfl rfl (by decide) _ (λ_=>by go_simp<;>rfl) (λ_=>by simp[go_sem, *]) ?_;simp[Act.put];refine aA.Qq rfl rfl (by decide) 37 rfl rfl (.inl hF) SQ Tryz.underlying37 rfl rfl ?_;simp[Act.put];subst hsl;refine aH.quiet aC rfl rfl (by decide) _ (λ_=>by go_simp<;>rfl) (λ_=>by simp[go_sem, *]) ?_;simp[Act.put];refine aH.quiet aC rfl rfl (by decide) _ (λ_=>by go_simp<;>rfl) (λ_=>by simp[go_sem, *]) ?_;simp[Act.put];refine aH.regionEnd aC ?_;refine aH.cond aC (decide ((q.length:Int)<20000)) rfl ?_;have hg1:∀x,F x->(w1.alloc (.cells p.cells.toArray 97)).heap[x]?=w.heap[x]?:=λx hx=>by rw[alloc_old (Jbz (hin x hx) h1.size),h1.own x hx]
 have hin1:∀x,(F x\/x=w1.heap.size)->x<(w1.alloc (.cells p.cells.toArray 97)).heap.size:=λx hx=>by
  rw[jJ];rcases hx with hx|hx
  .have:=hin x hx;have:=h1.size;omega
  .omega
 by_cases hlt:q.length<20000
 .have hlt':(q.length:Int)<20000:=by omega
  simp only[hlt',decide_true,Jb8];have htk:(q++[p]).take 20000=q++[p]:=Jd2 (by simp;omega);rw[htk]at h;refine aA.drawn (by kernel_rfl) (JI bc w1.heap.size gv (.slice sa q.length cap) p q F) (λw2 h2=>?_) (λn l F a w i rest=>hst hlt n l F a w i rest) (λn l F' a w' hI hn=>?_)
  .refine⟨false,false,false,false,false,false,false,false,false,false,false,undef,undef,undef,undef,undef,undef,undef,undef,undef,undef,rfl,rfl,rfl,JS.rely ?_ h2⟩
   exact⟨nofun,nofun,nofun,nofun,nofun,nofun,nofun,nofun,λx hx=>.inl hx,hin1,.inl hF,λ_=>⟨.inr rfl,je _ _⟩,nofun,nofun,⟨_,SQ,λ_=>rfl,nofun⟩,nofun,nofun,λ_=>⟨ax ho λg hg=>hg1 g (hof g hg),λg hg=>.inl (hof g hg)⟩,nofun⟩
  .obtain⟨hd,hsub,hin',bX,e1,e2,e3⟩:=hen _ _ _ _ _ hI hn
   exact aH.fin aC (hlv a _ F' w' hd (h F' w' bX hsub hin' e1 (by simpa using e2) e3))
 .have hlt':¬(q.length:Int)<20000:=by omega
  simp only[hlt',decide_false,Jb9,Jba];have htk:(q++[p]).take 20000=q:=by
   rw[Jd3 (by omega),Jd2 (by omega)]
  rw[htk]at h;refine aH.skip aC ?_;refine aH.fin aC (hlv _ _ _ _ rfl (h _ _ _ (λx hx=>.inl hx) hin1 SQ (ax ho λg hg=>hg1 g (hof g hg)) λg hg=>.inl (hof g hg)))
end
end
