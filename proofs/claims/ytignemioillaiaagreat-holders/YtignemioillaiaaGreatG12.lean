/- Lemmas. -/
import Derived.Test.YtignemioillaiaaGreatG11
import Derived.Conc.SmallLaws
import Derived.Test.YtignemioillaiaaGreatRows
import Derived.WalkLawsBesides
import Derived.Orders
import Derived.Conc.AppendWalk
namespace Go.Proofs.YtignemioillaiaaGreat
set_option maxHeartbeats 8000000
set_option maxRecDepth 100000
open List
section
open Go Go.Conc
noncomputable def c59:Code:=Tryz.f59.body.getD .skip
theorem Zg:Tryz.f59.body=some c59:=by
 unfold c59;rfl
theorem XC(x y z:Value):Frame.enter Tryz.prog 59 #[x,y,z] .normal=(Go.Conc.base 59).at ⟨#[x,y,z,undef,undef,undef,undef,undef,undef,undef,undef,undef,undef,undef,undef,undef,undef,undef,undef,undef,undef,undef,undef,undef,undef],[]⟩ [.code c59]:=by
 have h:=enter_at (P:=Tryz.prog) #[x,y,z] Tryz.func59 Zg;rw[show Tryz.f59.ntmps=25 from rfl]at h;rw[h];walk_nrm
noncomputable def JN:Code:=cb (cb (cr (cr (cr c59))))
noncomputable def JO:Code:=cb JN
noncomputable def CY:Array Oper:=co (cl (cr JO))
noncomputable def JP:List Item:=[.code (cr (cr JO)),.inBlock 1,.inLoop JN,.inBlock 0]
def Ba(c r wk:Value)(pk th:Nat)(x8 dK gI gJ x20 rX rY rZ x24:Value):Array Value:=#[c,r,wk,undef,undef,undef,.chan (some pk),.chan (some th),x8,.chan (some pk),.chan (some th),r,wk,.chan (some pk),.chan (some th),.chan (some pk),.chan (some th),dK,gI,gJ,x20,rX,rY,rZ,x24]
def z59:Value:=.agg #[.int .u8 0,.int .u8 0,.int .u8 0,.int .u8 0,.string ⟨#[]⟩]
def uJ:Value:=.agg #[]
noncomputable def Ac(c r wk:Value)(pk th:Nat)(x8 dK gI gJ x20 rX rY rZ x24:Value)(cs:List Frame):Goroutine:=G ((Go.Conc.base 59).at ⟨Ba c r wk pk th x8 dK gI gJ x20 rX rY rZ x24,[]⟩ (.inRegion CY [0,1,2,3]::JP)) cs
theorem Cg(c r wk:Value)(pk th:Nat)(x8 dK gI gJ x20 rX rY rZ x24:Value)(cs:List Frame):iP Tryz.prog (dD pk th z59 uJ) (Ac c r wk pk th x8 dK gI gJ x20 rX rY rZ x24 cs) (Ac c r wk pk th x8 dK gI gJ x20 rX rY rZ x24 cs):=by
 refine⟨rfl,rfl,rfl,rfl,λw=>?_⟩;unfold Ac CY Ba;simp only[JO,JN,c59,Tryz.f59,cl,cr,cb,co,Option.getD];rw[stepG_comm rfl rfl (by decide) (cases:=dD pk th z59 uJ) (blocking:=true) (shape:=.select) (w':=w) (by go_simp;rfl),listed_none (by simp[go_sem])]
section
variable{X:Goroutine->World->Prop}{w:World}{c r wk:Value}{cs:List Frame}
theorem Ad{P:Program}{main:Bool}{b:Frame}{a:Act}{k:List Item}(hX:Shut P main yh X){ops:Array Oper}{i:Nat}{rest:List Nat}{o:Oper}(ho:ops[i]? = some o)(hw:Region.wanted o (yielded ops a.tmps)=true)(hk:b.kind≠.early)
 {t e:TypeId} {dir:ChanDir} (hop:o.op=.makeChan t (.const (.int .i64 0))) (ht:P.underlying t=some (.chan dir e)) (hi:(P.info? e).isSome=true)
 (h:X (G (b.at (a.put o.dst (.chan (some w.heap.size))) (.inRegion ops rest::k)) cs) (w.alloc (.chan 0 #[] false 0 0 false))):X (G (b.at a (.inRegion ops (i::rest)::k)) cs) w:=by
 obtain⟨ii,hi⟩:=Option.isSome_iff_exists.1 hi;have hx:execOp a.eval o=(do pure (Next.value (<-Instr.makeChan t (.int .i64 0)))):=by unfold execOp;rw[hop];rfl
 have hr:∀w:World,(execOp a.eval o).run P w=.ok (.value (.chan (some w.heap.size))) (w.alloc (.chan 0 #[] false 0 0 false)):=λw=>by
  have:=run_makeChan (P:=P) (w:=w) ht hi .i64 0 (by decide) (by simp);rw[hx,Sem.run_bind,show(Instr.makeChan t (.int .i64 0)).run P w=_ from this];rfl
 have he:∀w:World,(execOp a.eval o).events P w #[] = #[]:=λw=>by
  rw[hx,DT];exact events_makeChan (P:=P) (w:=w) ht hi .i64 0 (by decide) (by simp) #[]
 refine hX.step rfl λw₁ h1=>?_
 rw[stepG_value ho hw hk (hr w₁),listed_none (he w₁),goes_go];obtain⟨p,rfl⟩:=h1;exact⟨by intro e he;simp at he,hX.rely ⟨p,rfl⟩ h⟩
theorem Mk(hX:Shut Tryz.prog true yh X)
 (h:X (G ((Go.Conc.base 59).at ⟨#[c,r,wk,undef,undef,undef,.chan (some w.heap.size),.chan (some (w.heap.size+1)),undef,.chan (some w.heap.size),.chan (some (w.heap.size+1)),r,wk,.chan (some w.heap.size),.chan (some (w.heap.size+1)),undef,undef,undef,undef,undef,undef,undef,undef,undef,undef],[]⟩ [.inRegion (co (cl (cr (cr c59)))) [4],.code (cr (cr (cr c59)))]) cs) ((w.alloc (.chan 0 #[] false 0 0 false)).alloc (.chan 0 #[] false 0 0 false))):X (G (Frame.enter Tryz.prog 59 #[c,r,wk] .normal) cs) w:=by
 rw[XC];simp only[c59,Tryz.f59,cl,cr,co,Option.getD]at h |-;refine aI.seq hX.c ?_;refine aI.region hX.c _ rfl ?_;simp[List.range,List.range.loop];refine Ad hX rfl rfl (by decide) rfl Tryz.underlying197 (by kernel_rfl) ?_;simp[Act.put];refine aI.quiet hX.c rfl rfl (by decide) _ (λ_=>by go_simp<;>rfl) (λ_=>by simp[go_sem, *]) ?_;simp[Act.put];refine aI.regionEnd hX.c ?_;refine aI.seq hX.c ?_;refine aI.region hX.c _ rfl ?_;simp[List.range,List.range.loop];refine Ad hX rfl rfl (by decide) rfl Tryz.underlying198 (by kernel_rfl) ?_;simp[Act.put];refine aI.quiet hX.c rfl rfl (by decide) _ (λ_=>by go_simp<;>rfl) (λ_=>by simp[go_sem, *]) ?_;simp[Act.put];refine aI.regionEnd hX.c ?_;refine aI.seq hX.c ?_;refine aI.region hX.c _ rfl ?_;simp[List.range,List.range.loop];refine aI.quiet hX.c rfl rfl (by decide) _ (λ_=>by go_simp<;>rfl) (λ_=>by simp[go_sem, *]) ?_;simp[Act.put];refine aI.quiet hX.c rfl rfl (by decide) _ (λ_=>by go_simp<;>rfl) (λ_=>by simp[go_sem, *]) ?_;simp[Act.put];refine aI.quiet hX.c rfl rfl (by decide) _ (λ_=>by go_simp<;>rfl) (λ_=>by simp[go_sem, *]) ?_;simp[Act.put];refine aI.quiet hX.c rfl rfl (by decide) _ (λ_=>by go_simp<;>rfl) (λ_=>by simp[go_sem, *]) ?_;simp[Act.put];exact h
end
theorem aeJ{P:Program}{cs:Array CommCase}{A2:Goroutine}:aI P true (λg _=>∃n,QW P cs A2 n g):=⟨λhr hs ⟨n,h⟩=>⟨n+1,.inr ⟨hr,_,hs,h⟩⟩⟩
theorem Ml{X:Goroutine->World->Prop}(hC:aI Tryz.prog true X){w:World}{c r wk:Value}{pk th:Nat}{cs:List Frame}(hh':X (Ac c r wk pk th undef undef undef undef undef undef undef undef undef cs) w):X (G ((Go.Conc.base 59).at ⟨#[c,r,wk,undef,undef,undef,.chan (some pk),.chan (some th),undef,.chan (some pk),.chan (some th),r,wk,.chan (some pk),.chan (some th),undef,undef,undef,undef,undef,undef,undef,undef,undef,undef],[]⟩ [.inRegion (co (cl (cr (cr c59)))) [],.code (cr (cr (cr c59)))]) cs) w:=by
 unfold Ac Ba JP CY at hh';simp only[JO,JN,c59,Tryz.f59,cl,cr,cb,co,Option.getD]at hh' |-;refine aI.regionEnd hC ?_;refine aI.block hC ?_;refine aI.loop hC ?_;refine aI.block hC ?_;refine aI.seq hC ?_;refine aI.seq hC ?_;refine aI.region hC _ rfl ?_;simp[List.range,List.range.loop];refine aI.quiet hC rfl rfl (by decide) _ (λ_=>by go_simp<;>rfl) (λ_=>by simp[go_sem, *]) ?_;simp[Act.put];refine aI.regionEnd hC ?_;refine aI.region hC _ rfl ?_;simp[List.range,List.range.loop];refine aI.quiet hC rfl rfl (by decide) _ (λ_=>by go_simp<;>rfl) (λ_=>by simp[go_sem, *]) ?_;simp[Act.put];refine aI.regionEnd hC ?_;refine aI.seq hC ?_;refine aI.region hC _ rfl ?_;simp[List.range,List.range.loop];exact hh'
theorem QG(c r wk:Value)(pk th:Nat)(cs:List Frame):∃n,QW Tryz.prog (dD pk th z59 uJ) (Ac c r wk pk th undef undef undef undef undef undef undef undef undef cs) n (G ((Go.Conc.base 59).at ⟨#[c,r,wk,undef,undef,undef,.chan (some pk),.chan (some th),undef,.chan (some pk),.chan (some th),r,wk,.chan (some pk),.chan (some th),undef,undef,undef,undef,undef,undef,undef,undef,undef,undef],[]⟩ [.inRegion (co (cl (cr (cr c59)))) [],.code (cr (cr (cr c59)))]) cs) :=
 Ml (w:=default) (aeJ (P:=Tryz.prog) (cs:=dD pk th z59 uJ) (A2:=Ac c r wk pk th undef undef undef undef undef undef undef undef undef cs)) ⟨0,Cg _ _ _ _ _ _ _ _ _ _ _ _ _ _ _⟩
end
section

end
section
open Go.RowKit
structure aeK(w:World)(v:Value)(w':World)(v':Value):Prop where
 grown:w.grownBy w' v.ownBlock
 own:v'.ownBlock=v.ownBlock\/∀k,v'.ownBlock=some k->w.heap.size<=k
section
variable{P:Program}(w:World)
theorem ym(base:Nat)(t ty e:TypeId)(i:TypeInfo)(z:Value)(size bytes:Nat)(ht:P.underlying t=some (.slice e))(hi:P.info? e=some i)(hz:i.zero=some z)
 (hsize:i.size=size) (hby:i.bytes=bytes) (hzs:z.cells.size=size) (hsz:0<size) (v:Value) (n:Nat) (xs:List Value) (hown:w.ownsRow base e size v n xs)
 (a:Addr) (m c:Nat) (news:List Value) (hl:news.length=m*size) (hnews:∀j u,news[j]? = some u->w.cell? (a.add j)=some u) (h1:∀u∈news,u.oneCell'=true)
 (h63:n+m<=maxLen) (hbytes:(n+m)*bytes<=140737488355328) (hbase:base<=w.heap.size) :
 ∃v' w',(Builtin.append_ #[t,t] ty #[v,.slice (some a) m c]).run P w=.ok v' w'/\w'.ownsRow base e size v' (n+m) (xs++news)/\aeK w v w' v':=by
 obtain⟨v',w',hr,ho,hg,_⟩:=run_append_own (P:=P) w base t ty e i z size bytes ht hi hz hsize hby hzs hsz v n xs hown a m c news hl hnews h1 h63 hbytes hbase;refine⟨v',w',hr,ho,hg,?_⟩;rcases hown.2 with⟨rfl,rfl⟩|⟨g,cap,cur,rfl,hbg,hgg,hnc,hcm,hcs,htake⟩
 ·right
  have hx:xs=[]:=eq_nil_of_length_eq_zero (by simpa using hown.1);subst hx;obtain⟨v2,w2,hr2,ho2,_,_⟩:=run_append_own (P:=P) w w.heap.size t ty e i z size bytes ht hi hz hsize hby hzs hsz _ 0 [] (World.ownsRow_nil w w.heap.size e size) a m c news hl hnews h1 h63 hbytes (Nat.le_refl _);rw[hr2]at hr;injection hr with e1 e2;subst e1;exact λk hk=>(ho2.lt k hk).1
 ·have hsmall:n+m<=9223372036854775807:=by simp only[maxLen]at h63;omega
  subst hsize;subst hby;by_cases hroom:n+m<=cap
  ·have hfit:n*i.size+news.length<=cur.size:=by rw[hl,hcs,<-Nat.add_mul];exact Nat.mul_le_mul_right _ hroom
   rw[run_append_room (P:=P) w t ty e i ht hi g n cap cur hgg a m c news hl hnews h1 hroom hfit]at hr;injection hr with e1 e2;subst e1;exact .inl rfl
  ·rw[run_append_grow (P:=P) w t ty e i z ht hi hz ⟨g,0,none⟩ n cap xs hown.1 (hown.cells (g:=g) rfl) a m c news hl hnews (by omega) (by omega) (growslice_fits (by omega) hbytes)]at hr
   injection hr with e1 e2;subst e1;exact .inr λk hk=>by simp[Value.ownBlock]at hk;omega
end
end
section
open Go Go.Conc
section
variable{P:Program}{main:Bool}{Stop:(Nat->Prop)->Goroutine->World->Prop}{F:Nat->Prop}{w:World}{b:Frame}{a:Act}{k:List Item}{cs:List Frame}{ops:Array Oper}
theorem aB.drawn{id:Nat}(hm:P.follows .mixedOrders=true)(I:Nat->Array Bool->(Nat->Prop)->Act->World->Prop)(h0:∀w1,aQ F w w1->I ops.size (Array.replicate ops.size false) F a w1)
 (hstep:∀n l F a w i rest,I (n+1) l F a w->l.getD i true=false->(∃o,ops[i]? = some o/\∀e∈o.after,Region.binds .any e=true->l.getD e.on false=true)->(∀F' a' w',I n (l.setIfInBounds i true) F' a' w'->aB P main Stop F' (G (b.at a' (.inRegion ops rest::k)) cs) w')->aB P main Stop F (G (b.at a (.inRegion ops (i::rest)::k)) cs) w)
 (hend:∀n l F a w,I n l F a w->n=0\/Region.ready .any ops l=[]->aB P main Stop F (G (b.at a k) cs) w):aB P main Stop F (G (b.at a (.code (.region id ops true)::k)) cs) w:=by
 have key:∀(n t:Nat) (l:Array Bool) (F:Nat->Prop) (a:Act) (w:World),I n l F a w->aB P main Stop F (G (b.at a (.inRegion ops (Region.linearise.go .any ops n t l [])::k)) cs) w:=by
  intro n;induction n with
  |zero=>exact λt l F a w h=>aI.regionEnd aD (hend 0 l F a w h (.inl rfl))
  |succ n ih =>
   intro t l F a w h;simp only[Region.linearise.go];change aB P main Stop F (G (b.at a (.inRegion ops (match(Region.ready .any ops l)[t%(Region.ready .any ops l).length]? with
    |some i=>Region.linearise.go .any ops n (t / (Region.ready .any ops l).length) (l.setIfInBounds i true) [i]
    |none=>[].reverse)::k)) cs) w
   cases hi:(Region.ready .any ops l)[t%(Region.ready .any ops l).length]? with
   |none =>
    have hnil:Region.ready .any ops l=[]:=by
     cases hr:Region.ready .any ops l with
     |nil=>rfl
     |cons x xs =>
      rw[hr]at hi;have:=List.getElem?_eq_none_iff.1 hi;have:=Nat.mod_lt t (show 0<(x::xs).length by simp);omega
    exact aI.regionEnd aD (hend _ l F a w h (.inr hnil))
   |some i =>
    have hmem:=mem_ready.1 (List.mem_of_getElem? hi);simp only[];rw[linearise_go_acc,reverse_singleton,singleton_append];exact hstep n l F a w i _ h hmem.1 hmem.2 λF' a' w' h'=>ih _ _ F' a' w' h'
 refine aB.step rfl λw1 h1=>?_
 have hs:stepG P main (G (b.at a (.code (.region id ops true)::k)) cs) w1=.go (G (b.at a (.inRegion ops (Region.schedule (P.follows .mixedOrders) ops (w1.tape w1.drawn (.order b.fn id)))::k)) cs) { w1 with drawn:=w1.drawn+1 } #[]:=by
  simp[G,stepG,stepG.exec,Frame.at,choose,Sem.run,Question.forced,Question.cut]
 have hgs:Grow F w1 { w1 with drawn:=w1.drawn+1 }=F:=ug rfl;rw[hs,goes_go,hgs];refine⟨⟨Nat.le_refl _,λ_ _ _=>rfl,rfl,rfl,by simp⟩,?_⟩;simp only[Region.schedule,hm,Bool.true_or,if_true];exact key _ _ _ F a _ (h0 _ (h1.trans ⟨Nat.le_refl _,λ_ _=>rfl,rfl,rfl⟩))
theorem aB.XD{i:Nat}{rest:List Nat}{o:Oper}(ho:ops[i]? = some o)(hw:Region.wanted o (yielded ops a.tmps)=true)(hk:b.kind≠.early){s x:Operand}{t:TypeId}(hop:o.op=.call { callee:=.builtin .append,args:=#[s,x],argTypes:=#[t,t] })
 (e:TypeId) (ii:TypeInfo) (z:Value) (size bytes:Nat) (ht:P.underlying t=some (.slice e)) (hi:P.info? e=some ii) (hz:ii.zero=some z) (hsize:ii.size=size) (hby:ii.bytes=bytes) (hzs:z.cells.size=size) (hsz:0<size)
 {v:Value} {n:Nat} {xs:List Value} (hs:a.eval s=v) (hown:w.ownsRow 0 e size v n xs) (Wd:∀g,v.ownBlock=some g->F g) {B m c:Nat} {news:List Value} (hx:a.eval x=.slice (some ⟨B,0,none⟩) m c) (hB:F B) {nb:Array Value} {tb:TypeId} (hW:w.heap[B]? = some (.cells nb tb)) (hnb:nb.toList.take (m*size)=news) (hl:news.length=m*size) (h1:∀u∈news,u.oneCell'=true)
 (h63:n+m<=maxLen) (hbytes:(n+m)*bytes<=140737488355328) (hin:∀x,F x->x<w.heap.size)
 (h:∀w1 F' v' w',aQ F w w1->(∀x,F x->F' x)->(∀x,F' x->x<w'.heap.size)->(∀x,F' x->F x\/w1.heap.size<=x)->w'.ownsRow 0 e size v' (n+m) (xs++news)->(∀g,v'.ownBlock=some g->F' g)->(∀x,F x->some x≠v.ownBlock->w'.heap[x]? = w1.heap[x]?)->aB P main Stop F' (G (b.at (a.put o.dst v') (.inRegion ops rest::k)) cs) w'):aB P main Stop F (G (b.at a (.inRegion ops (i::rest)::k)) cs) w:=by
 refine aB.opK ho hw hk λw1 hr K hK=>?_
 have hown1:w1.ownsRow 0 e size v n xs:=ay hown λg hg=>hr.own g (Wd g hg)
 have hW1:w1.heap[B]? = some (.cells nb tb):=(hr.own B hB).trans hW;have hnews:∀j u,news[j]? = some u->w1.cell? ((⟨B,0,none⟩:Addr).add j)=some u:=λj u hu=>by
  have hadd:(⟨B,0,none⟩:Addr).add j=⟨B,j,none⟩:=by unfold Addr.add;split<;>simp_all
  rw[hadd,yY hW1];rw[<-hnb,getElem?_take]at hu;split at hu
  ·simpa using hu
  ·cases hu
 obtain⟨v',w',hrun,ho',hg⟩:=ym (P:=P) w1 0 t o.type e ii z size bytes ht hi hz hsize hby hzs hsz v n xs hown1 ⟨B,0,none⟩ m c news hl hnews h1 h63 hbytes (Nat.zero_le _);have hev:=events_append_where (P:=P) w1 0 t o.type e ii z size bytes ht hi hz hsize hby v n xs hown1 ⟨B,0,none⟩ m c news hl hnews h1 h63 hbytes;refine uponK_append s x t hop hs hx hrun (hK _ _ ⟨hg.grown.size,λy hy hnF=>hg.grown.block y hy λe=>hnF (Wd y e.symm),hg.grown.os,hg.grown.output,λev OP=>?_⟩ ?_)
 ·have h2:=vJ _ _ _ ev OP
  rw[events_append_op s x t hop hs hx]at h2;rcases hev ev h2 with⟨ad,e1,e2⟩|⟨mk,rfl,hn⟩
  ·refine yX e1 (.inl ?_)
   rcases e2 with⟨_,e2⟩|e2
   ·rw[e2];exact hB
   ·exact Wd _ e2.symm
  ·exact Ue hn
 ·refine h w1 _ v' w' hr (λy hy=>.inl hy) ?_ ?_ ho' ?_ ?_
  ·rintro y (hy|hy)
   ·have:=hin y hy;have:=hr.size;have:=hg.grown.size;omega
   ·exact hy.2
  ·rintro y (hy|hy)
   ·exact .inl hy
   ·exact .inr hy.1
  ·intro g hgo
   rcases hg.own with he|he
   ·exact .inl (Wd g (he▸hgo))
   ·refine .inr ⟨he g hgo,?_⟩
    rcases ho'.2 with⟨rfl,_⟩|⟨g',cap,cur,rfl,_,hb,_⟩
    ·cases hgo
    ·have:g'=g:=by simpa[Value.ownBlock]using hgo
     subst this;exact(Array.getElem?_eq_some_iff.1 hb).1
  ·intro y hy hne
   exact hg.grown.block y (by have:=hin y hy;have:=hr.size;omega) hne
end
noncomputable def H6:Code:=Tryz.f63.body.getD .skip
theorem QH:Tryz.f63.body=some H6:=by
 unfold H6;rfl
theorem XE(x y:Value):Frame.enter Tryz.prog 63 #[x,y] .normal=(Go.Conc.base 63).at ⟨#[x,y,undef,undef,undef,undef,undef,undef,undef,undef,undef,undef,undef,undef,undef,undef,undef,undef,undef,undef],[]⟩ [.code H6]:=by
 have h:=enter_at (P:=Tryz.prog) #[x,y] Tryz.func63 QH;rw[show Tryz.f63.ntmps=20 from rfl]at h;rw[h];walk_nrm
theorem Um:(Tryz.prog.info? 139).map (λi=>(i.zero,i.size,i.bytes))=some (some (.agg #[.int .u8 0,.int .u8 0,.int .u8 0,.int .u8 0,.string ⟨#[]⟩]),5,24):=by kernel_rfl
structure JS(bc nb:Nat)(gv sv:Value)(p:bJ)(q:List bJ)(F0:Nat->Prop)(b0 b1 b2 b3 b4 b5 b6 b7 b8 b9 b10:Bool)(nD oK kS iX kT kU kV dK gI gJ:Value)(F:Nat->Prop)(w:World):Prop where
 i0:b0=true->nD=.pointer (some ⟨bc,0,none⟩)
 i1:b1=true->oK=.pointer (some ⟨bc,0,none⟩)
 i2:b2=true->kS=.pointer (some ⟨bc,0,none⟩)
 i3:b3=true->iX=.pointer (some ⟨bc,1,none⟩)
 i4:b4=true->kT=sv
 i5:b5=true->kU=p.val
 i8:b8=true->gI=.pointer (some ⟨bc,0,none⟩)
 i9:b9=true->gJ=.pointer (some ⟨bc,1,none⟩)
 sub:∀x,F0 x->F x
 wQ:∀x,F x->x<w.heap.size
 fc:F bc
 fb:b5=false->F nb/\w.heap[nb]? = some (.cells p.cells.toArray 139)
 i65:b6=true->b5=true
 i6:b6=true->b7=false->∃ns,kV=.slice (some ⟨ns,0,none⟩) 1 1/\F ns/\w.heap[ns]? = some (.cells p.cells.toArray 139)
 hc:∃y,w.heap[bc]? = some (.cells #[gv,y] 131)/\(b10=false->y=sv)/\(b10=true->y=dK)
 i74:b7=true->b4=true/\b6=true
 i7:b7=true->w.ownsRow 0 139 5 dK (q.length+1) (flat (q++[p]))/\∀g,dK.ownBlock=some g->F g
 n7:b7=false->w.ownsRow 0 139 5 sv q.length (flat q)/\∀g,sv.ownBlock=some g->F g
 i10:b10=true->b7=true
section
variable{bc nb:Nat}{gv sv:Value}{p:bJ}{q:List bJ}{F0:Nat->Prop}{b0 b1 b2 b3 b4 b5 b6 b7 b8 b9 b10:Bool}{nD oK kS iX kT kU kV dK gI gJ:Value}{F:Nat->Prop}{w:World}
theorem JS.grow(h:JS bc nb gv sv p q F0 b0 b1 b2 b3 b4 b5 b6 b7 b8 b9 b10 nD oK kS iX kT kU kV dK gI gJ F w){F':Nat->Prop}{w1:World}(hF:∀x,F x->F' x)(hw:∀x,F x->w1.heap[x]? = w.heap[x]?)(hin:∀x,F' x->x<w1.heap.size):JS bc nb gv sv p q F0 b0 b1 b2 b3 b4 b5 b6 b7 b8 b9 b10 nD oK kS iX kT kU kV dK gI gJ F' w1 :=
 { h with
  sub:=λx hx=>hF x (h.sub x hx)
  wQ:=hin
  fc:=hF _ h.fc
  fb:=λh5=>⟨hF _ (h.fb h5).1,(hw _ (h.fb h5).1).trans (h.fb h5).2⟩
  i6:=λh6 h7=>by obtain⟨ns,e1,e2,e3⟩:=h.i6 h6 h7;exact⟨ns,e1,hF _ e2,(hw _ e2).trans e3⟩
  hc:=by obtain⟨y,e1,e2⟩:=h.hc;exact⟨y,(hw _ h.fc).trans e1,e2⟩
  i7:=λh7=>⟨ay (h.i7 h7).1 λg hg=>hw g ((h.i7 h7).2 g hg),λg hg=>hF g ((h.i7 h7).2 g hg)⟩
  n7:=λh7=>⟨ay (h.n7 h7).1 λg hg=>hw g ((h.n7 h7).2 g hg),λg hg=>hF g ((h.n7 h7).2 g hg)⟩ }
theorem JS.rely(h:JS bc nb gv sv p q F0 b0 b1 b2 b3 b4 b5 b6 b7 b8 b9 b10 nD oK kS iX kT kU kV dK gI gJ F w){w1:World}(hr:aQ F w w1):JS bc nb gv sv p q F0 b0 b1 b2 b3 b4 b5 b6 b7 b8 b9 b10 nD oK kS iX kT kU kV dK gI gJ F w1 :=
 h.grow (λ_ hx=>hx) hr.own λx hx=>Nat.lt_of_lt_of_le (h.wQ x hx) hr.size
theorem QI(q:List bJ)(p:bJ):flat (q++[p])=flat q++p.cells:=by simp[flat]
theorem GA{sv:Value}{n:Nat}{xs:List Value}{bc:Nat}{ys:Array Value}(h:w.ownsRow 0 139 5 sv n xs)(hb:w.heap[bc]? = some (.cells ys 131)):some bc≠sv.ownBlock:=by
 intro e;rcases h.2 with⟨rfl,_⟩|⟨g,cap,cur,rfl,_,hg,_⟩
 ·cases e
 ·obtain rfl:bc=g:=by simpa[Value.ownBlock]using e
  rw[hb]at hg;injection hg with hg;injection hg with _ h2 _;cases h2
end
def Zh(bc nb:Nat)(p:bJ)(sv:Value)(n:Nat)(nD oK kS iX kT kU kV dK gI gJ:Value):Array Value:=#[.pointer (some ⟨bc,0,none⟩),p.val,undef,.pointer (some ⟨nb,0,none⟩),.pointer (some ⟨bc,0,none⟩),.pointer (some ⟨bc,0,none⟩),.pointer (some ⟨bc,1,none⟩),sv,.int .i64 n,.bool true,nD,oK,kS,iX,kT,kU,kV,dK,gI,gJ]
def JI(bc nb:Nat)(gv sv:Value)(p:bJ)(q:List bJ)(F0:Nat->Prop)(n:Nat)(l:Array Bool)(F:Nat->Prop)(a:Act)(w:World):Prop :=
 ∃b0 b1 b2 b3 b4 b5 b6 b7 b8 b9 b10 nD oK kS iX kT kU kV dK gI gJ,l = #[b0,b1,b2,b3,b4,b5,b6,b7,b8,b9,b10]/\n+b0.toNat+b1.toNat+b2.toNat+b3.toNat+b4.toNat+b5.toNat+b6.toNat+b7.toNat+b8.toNat+b9.toNat+b10.toNat=11 /\
  a=⟨Zh bc nb p sv q.length nD oK kS iX kT kU kV dK gI gJ,[]⟩/\JS bc nb gv sv p q F0 b0 b1 b2 b3 b4 b5 b6 b7 b8 b9 b10 nD oK kS iX kT kU kV dK gI gJ F w
noncomputable def JQ:Array Oper:=co (match cr (cr H6)with | .cond _ x _=>x|c=>c)
section
variable{bc nb:Nat}{gv sv:Value}{p:bJ}{q:List bJ}{F0:Nat->Prop}{Stop:(Nat->Prop)->Goroutine->World->Prop}{k:List Item}{cs:List Frame}
theorem XF(hq:q.length<20000)(n:Nat)(l:Array Bool)(F:Nat->Prop)(a:Act)(w:World)(i:Nat)(rest:List Nat)(h:JI bc nb gv sv p q F0 (n+1) l F a w)(hi:l.getD i true=false)(hr:∃o,JQ[i]? = some o/\∀e∈o.after,Region.binds .any e=true->l.getD e.on false=true)
 (hk:∀F' a' w',JI bc nb gv sv p q F0 n (l.setIfInBounds i true) F' a' w'->aB Tryz.prog true Stop F' (G ((Go.Conc.base 63).at a' (.inRegion JQ rest::k)) cs) w'):aB Tryz.prog true Stop F (G ((Go.Conc.base 63).at a (.inRegion JQ (i::rest)::k)) cs) w:=by
 obtain⟨b0,b1,b2,b3,b4,b5,b6,b7,b8,b9,b10,nD,oK,kS,iX,kT,kU,kV,dK,gI,gJ,rfl,hn,rfl,hJ⟩:=h;obtain⟨o,ho,qW⟩:=hr;unfold JQ at ho hk |-;simp only[H6,Tryz.f63,cr,co,Option.getD]at ho hk |-;have hlt:i<11:=by
  have:=(Array.getElem?_eq_some_iff.1 ho).1;simpa using this
 have hcases:i=0\/i=1\/i=2\/i=3\/i=4\/i=5\/i=6\/i=7\/i=8\/i=9\/i=10:=by omega
 have aeL:b4=false->b7=false:=λh4=>by
  cases h7:b7
  ·rfl
  ·rw[(hJ.i74 h7).1]at h4;cases h4
 have We:b7=false->b10=false:=λh7=>by
  cases h10:b10
  ·rfl
  ·rw[hJ.i10 h10]at h7;cases h7
 have aeM:b5=false->b6=false:=λh5=>by
  cases h6:b6
  ·rfl
  ·rw[hJ.i65 h6]at h5;cases h5
 have aeN:b6=false->b7=false:=λh6=>by
  cases h7:b7
  ·rfl
  ·rw[(hJ.i74 h7).2]at h6;cases h6
 unfold Zh;rcases hcases with rfl|rfl|rfl|rfl|rfl|rfl|rfl|rfl|rfl|rfl|rfl<;>(obtain rfl:=Option.some.inj ho;simp[Region.binds]at hi qW;simp at hk;subst hi)
 ·refine aI.quiet aD rfl rfl (by decide) _ (λ_=>by go_simp<;>rfl) (λ_=>by simp[go_sem, *]) ?_
  simp[Act.put];exact hk F _ w ⟨true,b1,b2,b3,b4,b5,b6,b7,b8,b9,b10,_,oK,kS,iX,kT,kU,kV,dK,gI,gJ,rfl,by simp at hn |-;omega,rfl,{ hJ with i0:=λ_=>rfl }⟩
 ·refine aI.quiet aD rfl rfl (by decide) _ (λ_=>by go_simp<;>rfl) (λ_=>by simp[go_sem, *]) ?_
  simp[Act.put];exact hk F _ w ⟨b0,true,b2,b3,b4,b5,b6,b7,b8,b9,b10,nD,_,kS,iX,kT,kU,kV,dK,gI,gJ,rfl,by simp at hn |-;omega,rfl,{ hJ with i1:=λ_=>rfl }⟩
 ·obtain rfl:=hJ.i1 qW
  refine aI.quiet aD rfl rfl (by decide) _ (λ_=>by go_simp<;>rfl) (λ_=>by simp[go_sem, *]) ?_;simp[Act.put];exact hk F _ w ⟨b0,b1,true,b3,b4,b5,b6,b7,b8,b9,b10,nD,_,_,iX,kT,kU,kV,dK,gI,gJ,rfl,by simp at hn |-;omega,rfl,{ hJ with i2:=λ_=>rfl }⟩
 ·obtain rfl:=hJ.i2 qW
  refine aI.quiet aD rfl rfl (by decide) _ (λ_=>by go_simp<;>rfl) (λ_=>by simp[go_sem, *]) ?_;simp[Act.put];exact hk F _ w ⟨b0,b1,b2,true,b4,b5,b6,b7,b8,b9,b10,nD,oK,_,_,kT,kU,kV,dK,gI,gJ,rfl,by simp at hn |-;omega,rfl,{ hJ with i3:=λ_=>rfl }⟩
 ·obtain rfl:=hJ.i3 qW
  obtain⟨y,hy,hy1,_⟩:=hJ.hc;obtain rfl:=hy1 (We (aeL rfl));refine aB.OI rfl rfl (by decide) 72 rfl rfl hJ.fc hy Tryz.underlying72 rfl rfl ?_;simp[Act.put];exact hk F _ w ⟨b0,b1,b2,b3,true,b5,b6,b7,b8,b9,b10,nD,oK,kS,_,_,kU,kV,dK,gI,gJ,rfl,by simp at hn |-;omega,rfl,{ hJ with i4:=λ_=>rfl,i74:=λh7=>⟨rfl,(hJ.i74 h7).2⟩ }⟩
 ·refine aB.Jd rfl rfl (by decide) 139 rfl rfl (hJ.fb rfl).1 (hJ.fb rfl).2 Tryz.underlying139 rfl (n:=5) (by kernel_rfl) (Nat.le_refl 5) p.cells rfl ?_
  simp[Act.put];exact hk F _ w ⟨b0,b1,b2,b3,b4,true,b6,b7,b8,b9,b10,nD,oK,kS,iX,kT,_,kV,dK,gI,gJ,rfl,by simp at hn |-;omega,rfl,{ hJ with i5:=λ_=>rfl,fb:=λh=>(by cases h),i65:=λ_=>rfl }⟩
 ·obtain rfl:=hJ.i5 qW
  refine aB.Jc rfl rfl (by decide) (ob:=.cells p.cells.toArray 139) (v:=λn=>.slice (some ⟨n,0,none⟩) 1 1) (λw1=>by simp[go_sem,bJ.val]) (λw1=>by unfold bJ.val;go_simp;rfl) hJ.wQ (λw1 h1=>?_);simp[Act.put];have hJ':=(hJ.rely h1).grow (F':=λx=>F x\/x=w1.heap.size) (w1:=w1.alloc (.cells p.cells.toArray 139)) (λx hx=>.inl hx) (λx hx=>alloc_old ((hJ.rely h1).wQ x hx) _) (λx hx=>by rw[jI];rcases hx with hx|hx;exact Nat.lt_succ_of_lt ((hJ.rely h1).wQ x hx);omega);exact hk _ _ _ ⟨b0,b1,b2,b3,b4,b5,true,b7,b8,b9,b10,nD,oK,kS,iX,kT,_,_,dK,gI,gJ,rfl,by simp at hn |-;omega,rfl,{ hJ' with i65:=λ_=>qW,i6:=λ_ _=>⟨_,rfl,.inr rfl,iW w1 _⟩,i74:=λh7=>⟨(hJ.i74 h7).1,rfl⟩ }⟩
 ·obtain rfl:=hJ.i4 qW.1
  obtain⟨ns,rfl,hns,hnb⟩:=hJ.i6 qW.2 rfl;obtain⟨y,hy,hy1,_⟩:=hJ.hc;obtain rfl:=We rfl;obtain rfl:=hy1 rfl;obtain⟨ho,hof⟩:=hJ.n7 rfl;obtain⟨ii,hii,hz,hs,hb⟩:∃ii,Tryz.prog.info? 139=some ii/\ii.zero=some (.agg #[.int .u8 0,.int .u8 0,.int .u8 0,.int .u8 0,.string ⟨#[]⟩])/\ii.size=5/\ii.bytes=24:=by
   have:=Um;cases hq:Tryz.prog.info? 139 with
   |none=>rw[hq]at this;cases this
   |some ii =>
    rw[hq]at this;simp only[Option.map_some,Option.some.injEq,Prod.mk.injEq]at this;exact⟨ii,rfl,this⟩
  refine aB.XD rfl rfl (by decide) rfl 139 ii _ 5 24 Tryz.underlying72 hii hz hs hb rfl (by decide) rfl ho hof rfl hns hnb (news:=p.cells) rfl rfl (by simp[bJ.cells,Value.oneCell']) (by unfold maxLen;omega) (by omega) hJ.wQ (λw1 F' v' w' h1 hsub hin' hnew hown' hF' hkeep=>?_);simp[Act.put];have hyF:w'.heap[bc]? = some (.cells #[gv,y] 131):=by rw[hkeep bc hJ.fc (GA ho hy),h1.own bc hJ.fc];exact hy
  rw[<-QI]at hown';exact hk F' _ w' ⟨b0,b1,b2,b3,b4,b5,b6,true,b8,b9,false,nD,oK,kS,iX,_,kU,_,v',gI,gJ,rfl,by simp at hn |-;omega,rfl,{ hJ with
   sub:=λx hx=>hsub x (hJ.sub x hx)
   wQ:=hin'
   fc:=hsub _ hJ.fc
   fb:=λh5=>by rw[hJ.i65 qW.2]at h5;cases h5
   i6:=λ_ h=>by cases h
   hc:=⟨y,hyF,λ_=>rfl,λh=>(by cases h)⟩
   i74:=λ_=>qW
   i7:=λ_=>⟨hown',hF'⟩
   n7:=λh=>by cases h
   i10:=λh=>by cases h }⟩
 ·obtain rfl:=hJ.i0 qW.1
  refine aI.quiet aD rfl rfl (by decide) _ (λ_=>by go_simp<;>rfl) (λ_=>by simp[go_sem, *]) ?_;simp[Act.put];exact hk F _ w ⟨b0,b1,b2,b3,b4,b5,b6,b7,true,b9,b10,_,oK,kS,iX,kT,kU,kV,dK,_,gJ,rfl,by simp at hn |-;omega,rfl,{ hJ with i8:=λ_=>rfl }⟩
 ·obtain rfl:=hJ.i8 qW.1
  refine aI.quiet aD rfl rfl (by decide) _ (λ_=>by go_simp<;>rfl) (λ_=>by simp[go_sem, *]) ?_;simp[Act.put];exact hk F _ w ⟨b0,b1,b2,b3,b4,b5,b6,b7,b8,true,b10,nD,oK,kS,iX,kT,kU,kV,dK,_,_,rfl,by simp at hn |-;omega,rfl,{ hJ with i9:=λ_=>rfl }⟩
 ·obtain rfl:=hJ.i9 qW.1
  obtain⟨y,hy,_,_⟩:=hJ.hc;have h7:b7=true:=qW.2.1;obtain⟨ho,hof⟩:=hJ.i7 h7;have hv:dK.cells = #[dK]/\dK.oneCell'=true:=by
   rcases ho.2 with⟨rfl,_⟩|⟨g,cap,cur,rfl,_⟩<;>exact⟨rfl,rfl⟩
  refine aB.EU rfl rfl (by decide) 72 rfl rfl (v:=dK) rfl hJ.fc hy (by rw[hv.1];kernel_rfl) (by rw[hv.1];simp[hv.2]) (by rw[hv.1];exact Nat.le_refl 2) [gv,dK] (by rw[hv.1];rfl) (λw1 w' h1 hb hne hsz hos hou=>?_);simp[Act.put];have hbc:∀g,dK.ownBlock=some g->g≠bc:=λg hg e=>GA ho hy (by rw[hg,e])
  exact hk F _ w' ⟨b0,b1,b2,b3,b4,b5,b6,b7,b8,b9,true,nD,oK,kS,iX,kT,kU,kV,dK,gI,_,rfl,by simp at hn |-;omega,rfl,{ hJ with
   wQ:=λx hx=>by rw[hsz];exact Nat.lt_of_lt_of_le (hJ.wQ x hx) h1.size
   fb:=λh5=>by have:=aeN (aeM h5);rw[h7]at this;cases this
   i6:=λ_ h=>by rw[h7]at h;cases h
   hc:=⟨dK,hb,λh=>(by cases h),λ_=>rfl⟩
   i7:=λ_=>⟨ay ho λg hg=>by rw[hne g (hbc g hg),h1.own g (hof g hg)],hof⟩
   n7:=λh=>by rw[h7]at h;cases h
   i10:=λ_=>h7 }⟩
end
end
