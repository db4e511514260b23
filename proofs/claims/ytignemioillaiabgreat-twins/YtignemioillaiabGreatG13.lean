/- join, of one who owns the cluster's record. -/
import Derived.Test.YtignemioillaiabGreatG12
import Derived.Orders
import Derived.Conc.AppendWalk
namespace Go.Proofs.YtignemioillaiabGreat
set_option maxHeartbeats 8000000
set_option maxRecDepth 100000
section
open Go Go.Conc
section
variable {P:Program} {main:Bool} {Stop:(Nat→Prop)→Goroutine→World→Prop} {F:Nat→Prop} {w:World} {b:Frame} {a:Act} {k:List Item} {cs:List Frame} {ops:Array Oper}
theorem aH.drawn {id:Nat} (hm:P.follows .mixedOrders=true) (I:Nat→Array Bool→(Nat→Prop)→Act→World→Prop) (h0:∀ w1,aS F w w1→I ops.size (Array.replicate ops.size false) F a w1)
 (hstep:∀ n l F a w i rest,I (n+1) l F a w→l.getD i true=false→(∃ o,ops[i]? = some o∧∀ e∈o.after,Region.binds .any e=true→l.getD e.on false=true)→(∀ F' a' w',I n (l.setIfInBounds i true) F' a' w'→aH P main Stop F' (G (b.at a' (.inRegion ops rest::k)) cs) w')→aH P main Stop F (G (b.at a (.inRegion ops (i::rest)::k)) cs) w)
 (hend:∀ n l F a w,I n l F a w→n=0∨Region.ready .any ops l=[]→aH P main Stop F (G (b.at a k) cs) w):aH P main Stop F (G (b.at a (.code (.region id ops true)::k)) cs) w:=by
 have key:∀ (n t:Nat) (l:Array Bool) (F:Nat→Prop) (a:Act) (w:World),I n l F a w→aH P main Stop F (G (b.at a (.inRegion ops (Region.linearise.go .any ops n t l [])::k)) cs) w:=by
  intro n;induction n with
  | zero=>exact fun t l F a w h=>aL.regionEnd aJ (hend 0 l F a w h (.inl rfl))
  | succ n ih =>
   intro t l F a w h;simp only [Region.linearise.go];change aH P main Stop F (G (b.at a (.inRegion ops (match (Region.ready .any ops l)[t%(Region.ready .any ops l).length]? with
    | some i=>Region.linearise.go .any ops n (t / (Region.ready .any ops l).length) (l.setIfInBounds i true) [i]
    | none=>[].reverse)::k)) cs) w
   cases hi:(Region.ready .any ops l)[t%(Region.ready .any ops l).length]? with
   | none =>
    have hnil:Region.ready .any ops l=[]:=by
     cases hr:Region.ready .any ops l with
     | nil=>rfl
     | cons x xs =>
      rw [hr] at hi;have:=List.getElem?_eq_none_iff.1 hi;have:=Nat.mod_lt t (show 0<(x::xs).length by simp);omega
    exact aL.regionEnd aJ (hend _ l F a w h (.inr hnil))
   | some i =>
    have hmem:=mem_ready.1 (List.mem_of_getElem? hi);simp only [];rw [linearise_go_acc,List.reverse_singleton,List.singleton_append];exact hstep n l F a w i _ h hmem.1 hmem.2 fun F' a' w' h'=>ih _ _ F' a' w' h'
 refine aH.step rfl fun w1 h1=>?_
 have hs:stepG P main (G (b.at a (.code (.region id ops true)::k)) cs) w1=.go (G (b.at a (.inRegion ops (Region.schedule (P.follows .mixedOrders) ops (w1.tape w1.drawn (.order b.fn id)))::k)) cs) { w1 with drawn:=w1.drawn+1 } #[]:=by
  simp [G,stepG,stepG.exec,Frame.at,choose,Sem.run,Question.forced,Question.cut]
 have hgs:Grow F w1 { w1 with drawn:=w1.drawn+1 }=F:=rU rfl;rw [hs,goes_go,hgs];refine ⟨⟨Nat.le_refl _,fun _ _ _=>rfl,rfl,rfl,by simp⟩,?_⟩;simp only [Region.schedule,hm,Bool.true_or,if_true];exact key _ _ _ F a _ (h0 _ (h1.trans ⟨Nat.le_refl _,fun _ _=>rfl,rfl,rfl⟩))
theorem aH.Vz {i:Nat} {rest:List Nat} {o:Oper} (ho:ops[i]? = some o) (hw:Region.wanted o (yielded ops a.tmps)=true) (hk:b.kind≠.early) {s x:Operand} {t:TypeId} (hop:o.op=.call { callee:=.builtin .append,args:=#[s,x],argTypes:=#[t,t] })
 (e:TypeId) (ii:TypeInfo) (z:Value) (size bytes:Nat) (ht:P.underlying t=some (.slice e)) (hi:P.info? e=some ii) (hz:ii.zero=some z) (hsize:ii.size=size) (hby:ii.bytes=bytes) (hzs:z.cells.size=size) (hsz:0<size)
 {v:Value} {n:Nat} {xs:List Value} (hs:a.eval s=v) (hown:w.ownsRow 0 e size v n xs) (Uk:∀ g,v.ownBlock=some g→F g) {B m c:Nat} {news:List Value} (hx:a.eval x=.slice (some ⟨B,0,none⟩) m c) (hB:F B) {nb:Array Value} {tb:TypeId} (hW:w.heap[B]? = some (.cells nb tb)) (hnb:nb.toList.take (m*size)=news) (hl:news.length=m*size) (h1:∀ u∈news,u.oneCell'=true)
 (h63:n+m≤maxLen) (hbytes:(n+m)*bytes≤140737488355328) (hin:∀ x,F x→x<w.heap.size)
 (h:∀ w1 F' v' w',aS F w w1→(∀ x,F x→F' x)→(∀ x,F' x→x<w'.heap.size)→(∀ x,F' x→F x∨w1.heap.size≤x)→w'.ownsRow 0 e size v' (n+m) (xs++news)→(∀ g,v'.ownBlock=some g→F' g)→(∀ x,F x→some x≠v.ownBlock→w'.heap[x]? = w1.heap[x]?)→aH P main Stop F' (G (b.at (a.put o.dst v') (.inRegion ops rest::k)) cs) w'):aH P main Stop F (G (b.at a (.inRegion ops (i::rest)::k)) cs) w:=by
 refine aH.opK ho hw hk fun w1 hr K hK=>?_
 have hown1:w1.ownsRow 0 e size v n xs:=aF hown fun g hg=>hr.own g (Uk g hg)
 have hW1:w1.heap[B]? = some (.cells nb tb):=(hr.own B hB).trans hW;have hnews:∀ j u,news[j]? = some u→w1.cell? ((⟨B,0,none⟩:Addr).add j)=some u:=fun j u hu=>by
  have hadd:(⟨B,0,none⟩:Addr).add j=⟨B,j,none⟩:=by unfold Addr.add;split <;> simp_all
  rw [hadd,xO hW1];rw [← hnb,List.getElem?_take] at hu;split at hu
  ·simpa using hu
  ·cases hu
 obtain ⟨v',w',hrun,ho',hg⟩:=wY (P:=P) w1 0 t o.type e ii z size bytes ht hi hz hsize hby hzs hsz v n xs hown1 ⟨B,0,none⟩ m c news hl hnews h1 h63 hbytes (Nat.zero_le _);have hev:=events_append_where (P:=P) w1 0 t o.type e ii z size bytes ht hi hz hsize hby v n xs hown1 ⟨B,0,none⟩ m c news hl hnews h1 h63 hbytes;refine uponK_append s x t hop hs hx hrun (hK _ _ ⟨hg.grown.size,fun y hy hnF=>hg.grown.block y hy fun e=>hnF (Uk y e.symm),hg.grown.os,hg.grown.output,fun ev M6=>?_⟩ ?_)
 ·have h2:=uy _ _ _ ev M6
  rw [events_append_op s x t hop hs hx] at h2;rcases hev ev h2 with ⟨ad,e1,e2⟩ | ⟨mk,rfl,hn⟩
  ·refine xN e1 (.inl ?_)
   rcases e2 with ⟨_,e2⟩ | e2
   ·rw [e2];exact hB
   ·exact Uk _ e2.symm
  ·exact Rx hn
 ·refine h w1 _ v' w' hr (fun y hy=>.inl hy) ?_ ?_ ho' ?_ ?_
  ·rintro y (hy | hy)
   ·have:=hin y hy;have:=hr.size;have:=hg.grown.size;omega
   ·exact hy.2
  ·rintro y (hy | hy)
   ·exact .inl hy
   ·exact .inr hy.1
  ·intro g hgo
   rcases hg.own with he | he
   ·exact .inl (Uk g (he ▸ hgo))
   ·refine .inr ⟨he g hgo,?_⟩
    rcases ho'.2 with ⟨rfl,_⟩ | ⟨g',cap,cur,rfl,_,hb,_⟩
    ·cases hgo
    ·have:g'=g:=by simpa [Value.ownBlock] using hgo
     subst this;exact (Array.getElem?_eq_some_iff.1 hb).1
  ·intro y hy hne
   exact hg.grown.block y (by have:=hin y hy;have:=hr.size;omega) hne
end
noncomputable def FN:Code:=Tryz.f45.body.getD .skip
theorem OZ:Tryz.f45.body=some FN:=by
 unfold FN;rfl
theorem VA (x y:Value):Frame.enter Tryz.prog 45 #[x,y] .normal=(Go.Conc.base 45).at ⟨#[x,y,undef,undef,undef,undef,undef,undef,undef,undef,undef,undef,undef,undef,undef,undef,undef,undef,undef,undef],[]⟩ [.code FN]:=by
 have h:=enter_at (P:=Tryz.prog) #[x,y] Tryz.func45 OZ;rw [show Tryz.f45.ntmps=20 from rfl] at h;rw [h];walk_nrm
theorem RH:(Tryz.prog.info? 97).map (fun i=>(i.zero,i.size,i.bytes))=some (some (.agg #[.int .u8 0,.int .u8 0,.int .u8 0,.int .u8 0,.string ⟨#[]⟩]),5,24):=by kernel_rfl
structure JS (bc nb:Nat) (gv sv:Value) (p:bJ) (q:List bJ) (F0:Nat→Prop) (b0 b1 b2 b3 b4 b5 b6 b7 b8 b9 b10:Bool) (nL nM j5 iG j6 kg kr dE fD fE:Value) (F:Nat→Prop) (w:World):Prop where
 i0:b0=true→nL=.pointer (some ⟨bc,0,none⟩)
 i1:b1=true→nM=.pointer (some ⟨bc,0,none⟩)
 i2:b2=true→j5=.pointer (some ⟨bc,0,none⟩)
 i3:b3=true→iG=.pointer (some ⟨bc,1,none⟩)
 i4:b4=true→j6=sv
 i5:b5=true→kg=p.val
 i8:b8=true→fD=.pointer (some ⟨bc,0,none⟩)
 i9:b9=true→fE=.pointer (some ⟨bc,1,none⟩)
 sub:∀ x,F0 x→F x
 vE:∀ x,F x→x<w.heap.size
 fc:F bc
 fb:b5=false→F nb∧w.heap[nb]? = some (.cells p.cells.toArray 97)
 i65:b6=true→b5=true
 i6:b6=true→b7=false→∃ ns,kr=.slice (some ⟨ns,0,none⟩) 1 1∧F ns∧w.heap[ns]? = some (.cells p.cells.toArray 97)
 hc:∃ y,w.heap[bc]? = some (.cells #[gv,y] 118)∧(b10=false→y=sv)∧(b10=true→y=dE)
 i74:b7=true→b4=true∧b6=true
 i7:b7=true→w.ownsRow 0 97 5 dE (q.length+1) (flat (q++[p]))∧∀ g,dE.ownBlock=some g→F g
 n7:b7=false→w.ownsRow 0 97 5 sv q.length (flat q)∧∀ g,sv.ownBlock=some g→F g
 i10:b10=true→b7=true
section
variable {bc nb:Nat} {gv sv:Value} {p:bJ} {q:List bJ} {F0:Nat→Prop} {b0 b1 b2 b3 b4 b5 b6 b7 b8 b9 b10:Bool} {nL nM j5 iG j6 kg kr dE fD fE:Value} {F:Nat→Prop} {w:World}
theorem JS.grow (h:JS bc nb gv sv p q F0 b0 b1 b2 b3 b4 b5 b6 b7 b8 b9 b10 nL nM j5 iG j6 kg kr dE fD fE F w) {F':Nat→Prop} {w1:World} (hF:∀ x,F x→F' x) (hw:∀ x,F x→w1.heap[x]? = w.heap[x]?) (hin:∀ x,F' x→x<w1.heap.size):JS bc nb gv sv p q F0 b0 b1 b2 b3 b4 b5 b6 b7 b8 b9 b10 nL nM j5 iG j6 kg kr dE fD fE F' w1 :=
 { h with
  sub:=fun x hx=>hF x (h.sub x hx)
  vE:=hin
  fc:=hF _ h.fc
  fb:=fun h5=>⟨hF _ (h.fb h5).1,(hw _ (h.fb h5).1).trans (h.fb h5).2⟩
  i6:=fun h6 h7=>by obtain ⟨ns,e1,e2,e3⟩:=h.i6 h6 h7;exact ⟨ns,e1,hF _ e2,(hw _ e2).trans e3⟩
  hc:=by obtain ⟨y,e1,e2⟩:=h.hc;exact ⟨y,(hw _ h.fc).trans e1,e2⟩
  i7:=fun h7=>⟨aF (h.i7 h7).1 fun g hg=>hw g ((h.i7 h7).2 g hg),fun g hg=>hF g ((h.i7 h7).2 g hg)⟩
  n7:=fun h7=>⟨aF (h.n7 h7).1 fun g hg=>hw g ((h.n7 h7).2 g hg),fun g hg=>hF g ((h.n7 h7).2 g hg)⟩ }
theorem JS.rely (h:JS bc nb gv sv p q F0 b0 b1 b2 b3 b4 b5 b6 b7 b8 b9 b10 nL nM j5 iG j6 kg kr dE fD fE F w) {w1:World} (hr:aS F w w1):JS bc nb gv sv p q F0 b0 b1 b2 b3 b4 b5 b6 b7 b8 b9 b10 nL nM j5 iG j6 kg kr dE fD fE F w1 :=
 h.grow (fun _ hx=>hx) hr.own fun x hx=>Nat.lt_of_lt_of_le (h.vE x hx) hr.size
theorem O0 (q:List bJ) (p:bJ):flat (q++[p])=flat q++p.cells:=by simp [flat]
theorem E5 {sv:Value} {n:Nat} {xs:List Value} {bc:Nat} {ys:Array Value} (h:w.ownsRow 0 97 5 sv n xs) (hb:w.heap[bc]? = some (.cells ys 118)):some bc≠sv.ownBlock:=by
 intro e;rcases h.2 with ⟨rfl,_⟩ | ⟨g,cap,cur,rfl,_,hg,_⟩
 ·cases e
 ·obtain rfl:bc=g:=by simpa [Value.ownBlock] using e
  rw [hb] at hg;injection hg with hg;injection hg with _ h2 _;cases h2
end
def Xt (bc nb:Nat) (p:bJ) (sv:Value) (n:Nat) (nL nM j5 iG j6 kg kr dE fD fE:Value):Array Value:=#[.pointer (some ⟨bc,0,none⟩),p.val,undef,.pointer (some ⟨nb,0,none⟩),.pointer (some ⟨bc,0,none⟩),.pointer (some ⟨bc,0,none⟩),.pointer (some ⟨bc,1,none⟩),sv,.int .i64 n,.bool true,nL,nM,j5,iG,j6,kg,kr,dE,fD,fE]
def JI (bc nb:Nat) (gv sv:Value) (p:bJ) (q:List bJ) (F0:Nat→Prop) (n:Nat) (l:Array Bool) (F:Nat→Prop) (a:Act) (w:World):Prop :=
 ∃ b0 b1 b2 b3 b4 b5 b6 b7 b8 b9 b10 nL nM j5 iG j6 kg kr dE fD fE,l = #[b0,b1,b2,b3,b4,b5,b6,b7,b8,b9,b10]∧n+b0.toNat+b1.toNat+b2.toNat+b3.toNat+b4.toNat+b5.toNat+b6.toNat+b7.toNat+b8.toNat+b9.toNat+b10.toNat=11 ∧
  a=⟨Xt bc nb p sv q.length nL nM j5 iG j6 kg kr dE fD fE,[]⟩∧JS bc nb gv sv p q F0 b0 b1 b2 b3 b4 b5 b6 b7 b8 b9 b10 nL nM j5 iG j6 kg kr dE fD fE F w
noncomputable def Im:Array Oper:=co (match cr (cr FN) with | .cond _ x _=>x | c=>c)
section
variable {bc nb:Nat} {gv sv:Value} {p:bJ} {q:List bJ} {F0:Nat→Prop} {Stop:(Nat→Prop)→Goroutine→World→Prop} {k:List Item} {cs:List Frame}
theorem VB (hq:q.length<20000) (n:Nat) (l:Array Bool) (F:Nat→Prop) (a:Act) (w:World) (i:Nat) (rest:List Nat) (h:JI bc nb gv sv p q F0 (n+1) l F a w) (hi:l.getD i true=false) (hr:∃ o,Im[i]? = some o∧∀ e∈o.after,Region.binds .any e=true→l.getD e.on false=true)
 (hk:∀ F' a' w',JI bc nb gv sv p q F0 n (l.setIfInBounds i true) F' a' w'→aH Tryz.prog true Stop F' (G ((Go.Conc.base 45).at a' (.inRegion Im rest::k)) cs) w'):aH Tryz.prog true Stop F (G ((Go.Conc.base 45).at a (.inRegion Im (i::rest)::k)) cs) w:=by
 obtain ⟨b0,b1,b2,b3,b4,b5,b6,b7,b8,b9,b10,nL,nM,j5,iG,j6,kg,kr,dE,fD,fE,rfl,hn,rfl,hJ⟩:=h;obtain ⟨o,ho,pV⟩:=hr;unfold Im at ho hk ⊢;simp only [FN,Tryz.f45,cr,co,Option.getD] at ho hk ⊢;have hlt:i<11:=by
  have:=(Array.getElem?_eq_some_iff.1 ho).1;simpa using this
 have hcases:i=0∨i=1∨i=2∨i=3∨i=4∨i=5∨i=6∨i=7∨i=8∨i=9∨i=10:=by omega
 have acW:b4=false→b7=false:=fun h4=>by
  cases h7:b7
  ·rfl
  ·rw [(hJ.i74 h7).1] at h4;cases h4
 have Ul:b7=false→b10=false:=fun h7=>by
  cases h10:b10
  ·rfl
  ·rw [hJ.i10 h10] at h7;cases h7
 have acX:b5=false→b6=false:=fun h5=>by
  cases h6:b6
  ·rfl
  ·rw [hJ.i65 h6] at h5;cases h5
 have acY:b6=false→b7=false:=fun h6=>by
  cases h7:b7
  ·rfl
  ·rw [(hJ.i74 h7).2] at h6;cases h6
 unfold Xt;rcases hcases with rfl | rfl | rfl | rfl | rfl | rfl | rfl | rfl | rfl | rfl | rfl <;> (obtain rfl:=Option.some.inj ho;simp [Region.binds] at hi pV;simp at hk;subst hi)
 ·refine aL.quiet aJ rfl rfl (by decide) _ (fun _=>by go_simp <;> rfl) (fun _=>by simp [go_sem, *]) ?_
  simp [Act.put];exact hk F _ w ⟨true,b1,b2,b3,b4,b5,b6,b7,b8,b9,b10,_,nM,j5,iG,j6,kg,kr,dE,fD,fE,rfl,by simp at hn ⊢;omega,rfl,{ hJ with i0:=fun _=>rfl }⟩
 ·refine aL.quiet aJ rfl rfl (by decide) _ (fun _=>by go_simp <;> rfl) (fun _=>by simp [go_sem, *]) ?_
  simp [Act.put];exact hk F _ w ⟨b0,true,b2,b3,b4,b5,b6,b7,b8,b9,b10,nL,_,j5,iG,j6,kg,kr,dE,fD,fE,rfl,by simp at hn ⊢;omega,rfl,{ hJ with i1:=fun _=>rfl }⟩
 ·obtain rfl:=hJ.i1 pV
  refine aL.quiet aJ rfl rfl (by decide) _ (fun _=>by go_simp <;> rfl) (fun _=>by simp [go_sem, *]) ?_;simp [Act.put];exact hk F _ w ⟨b0,b1,true,b3,b4,b5,b6,b7,b8,b9,b10,nL,_,_,iG,j6,kg,kr,dE,fD,fE,rfl,by simp at hn ⊢;omega,rfl,{ hJ with i2:=fun _=>rfl }⟩
 ·obtain rfl:=hJ.i2 pV
  refine aL.quiet aJ rfl rfl (by decide) _ (fun _=>by go_simp <;> rfl) (fun _=>by simp [go_sem, *]) ?_;simp [Act.put];exact hk F _ w ⟨b0,b1,b2,true,b4,b5,b6,b7,b8,b9,b10,nL,nM,_,_,j6,kg,kr,dE,fD,fE,rfl,by simp at hn ⊢;omega,rfl,{ hJ with i3:=fun _=>rfl }⟩
 ·obtain rfl:=hJ.i3 pV
  obtain ⟨y,hy,hy1,_⟩:=hJ.hc;obtain rfl:=hy1 (Ul (acW rfl));refine aH.MZ rfl rfl (by decide) 37 rfl rfl hJ.fc hy Tryz.underlying37 rfl rfl ?_;simp [Act.put];exact hk F _ w ⟨b0,b1,b2,b3,true,b5,b6,b7,b8,b9,b10,nL,nM,j5,_,_,kg,kr,dE,fD,fE,rfl,by simp at hn ⊢;omega,rfl,{ hJ with i4:=fun _=>rfl,i74:=fun h7=>⟨rfl,(hJ.i74 h7).2⟩ }⟩
 ·refine aH.GX rfl rfl (by decide) 97 rfl rfl (hJ.fb rfl).1 (hJ.fb rfl).2 Tryz.underlying97 rfl (n:=5) (by kernel_rfl) (Nat.le_refl 5) p.cells rfl ?_
  simp [Act.put];exact hk F _ w ⟨b0,b1,b2,b3,b4,true,b6,b7,b8,b9,b10,nL,nM,j5,iG,j6,_,kr,dE,fD,fE,rfl,by simp at hn ⊢;omega,rfl,{ hJ with i5:=fun _=>rfl,fb:=fun h=>(by cases h),i65:=fun _=>rfl }⟩
 ·obtain rfl:=hJ.i5 pV
  refine aH.GV rfl rfl (by decide) (ob:=.cells p.cells.toArray 97) (v:=fun n=>.slice (some ⟨n,0,none⟩) 1 1) (fun w1=>by simp [go_sem,bJ.val]) (fun w1=>by unfold bJ.val;go_simp;rfl) hJ.vE (fun w1 h1=>?_);simp [Act.put];have hJ':=(hJ.rely h1).grow (F':=fun x=>F x∨x=w1.heap.size) (w1:=w1.alloc (.cells p.cells.toArray 97)) (fun x hx=>.inl hx) (fun x hx=>alloc_old ((hJ.rely h1).vE x hx) _) (fun x hx=>by rw [iy];rcases hx with hx | hx;exact Nat.lt_succ_of_lt ((hJ.rely h1).vE x hx);omega);exact hk _ _ _ ⟨b0,b1,b2,b3,b4,b5,true,b7,b8,b9,b10,nL,nM,j5,iG,j6,_,_,dE,fD,fE,rfl,by simp at hn ⊢;omega,rfl,{ hJ' with i65:=fun _=>pV,i6:=fun _ _=>⟨_,rfl,.inr rfl,iF w1 _⟩,i74:=fun h7=>⟨(hJ.i74 h7).1,rfl⟩ }⟩
 ·obtain rfl:=hJ.i4 pV.1
  obtain ⟨ns,rfl,hns,hnb⟩:=hJ.i6 pV.2 rfl;obtain ⟨y,hy,hy1,_⟩:=hJ.hc;obtain rfl:=Ul rfl;obtain rfl:=hy1 rfl;obtain ⟨ho,hof⟩:=hJ.n7 rfl;obtain ⟨ii,hii,hz,hs,hb⟩:∃ ii,Tryz.prog.info? 97=some ii∧ii.zero=some (.agg #[.int .u8 0,.int .u8 0,.int .u8 0,.int .u8 0,.string ⟨#[]⟩])∧ii.size=5∧ii.bytes=24:=by
   have:=RH;cases hq:Tryz.prog.info? 97 with
   | none=>rw [hq] at this;cases this
   | some ii =>
    rw [hq] at this;simp only [Option.map_some,Option.some.injEq,Prod.mk.injEq] at this;exact ⟨ii,rfl,this⟩
  refine aH.Vz rfl rfl (by decide) rfl 97 ii _ 5 24 Tryz.underlying37 hii hz hs hb rfl (by decide) rfl ho hof rfl hns hnb (news:=p.cells) rfl rfl (by simp [bJ.cells,Value.oneCell']) (by unfold maxLen;omega) (by omega) hJ.vE (fun w1 F' v' w' h1 hsub hin' hnew hown' hF' hkeep=>?_);simp [Act.put];have hyF:w'.heap[bc]? = some (.cells #[gv,y] 118):=by rw [hkeep bc hJ.fc (E5 ho hy),h1.own bc hJ.fc];exact hy
  rw [← O0] at hown';exact hk F' _ w' ⟨b0,b1,b2,b3,b4,b5,b6,true,b8,b9,false,nL,nM,j5,iG,_,kg,_,v',fD,fE,rfl,by simp at hn ⊢;omega,rfl,{ hJ with
   sub:=fun x hx=>hsub x (hJ.sub x hx)
   vE:=hin'
   fc:=hsub _ hJ.fc
   fb:=fun h5=>by rw [hJ.i65 pV.2] at h5;cases h5
   i6:=fun _ h=>by cases h
   hc:=⟨y,hyF,fun _=>rfl,fun h=>(by cases h)⟩
   i74:=fun _=>pV
   i7:=fun _=>⟨hown',hF'⟩
   n7:=fun h=>by cases h
   i10:=fun h=>by cases h }⟩
 ·obtain rfl:=hJ.i0 pV.1
  refine aL.quiet aJ rfl rfl (by decide) _ (fun _=>by go_simp <;> rfl) (fun _=>by simp [go_sem, *]) ?_;simp [Act.put];exact hk F _ w ⟨b0,b1,b2,b3,b4,b5,b6,b7,true,b9,b10,_,nM,j5,iG,j6,kg,kr,dE,_,fE,rfl,by simp at hn ⊢;omega,rfl,{ hJ with i8:=fun _=>rfl }⟩
 ·obtain rfl:=hJ.i8 pV.1
  refine aL.quiet aJ rfl rfl (by decide) _ (fun _=>by go_simp <;> rfl) (fun _=>by simp [go_sem, *]) ?_;simp [Act.put];exact hk F _ w ⟨b0,b1,b2,b3,b4,b5,b6,b7,b8,true,b10,nL,nM,j5,iG,j6,kg,kr,dE,_,_,rfl,by simp at hn ⊢;omega,rfl,{ hJ with i9:=fun _=>rfl }⟩
 ·obtain rfl:=hJ.i9 pV.1
  obtain ⟨y,hy,_,_⟩:=hJ.hc;have h7:b7=true:=pV.2.1;obtain ⟨ho,hof⟩:=hJ.i7 h7;have hv:dE.cells = #[dE]∧dE.oneCell'=true:=by
   rcases ho.2 with ⟨rfl,_⟩ | ⟨g,cap,cur,rfl,_⟩ <;> exact ⟨rfl,rfl⟩
  refine aH.DL rfl rfl (by decide) 37 rfl rfl (v:=dE) rfl hJ.fc hy (by rw [hv.1];kernel_rfl) (by rw [hv.1];simp [hv.2]) (by rw [hv.1];exact Nat.le_refl 2) [gv,dE] (by rw [hv.1];rfl) (fun w1 w' h1 hb hne hsz hos hou=>?_);simp [Act.put];have hbc:∀ g,dE.ownBlock=some g→g≠bc:=fun g hg e=>E5 ho hy (by rw [hg,e])
  exact hk F _ w' ⟨b0,b1,b2,b3,b4,b5,b6,b7,b8,b9,true,nL,nM,j5,iG,j6,kg,kr,dE,fD,_,rfl,by simp at hn ⊢;omega,rfl,{ hJ with
   vE:=fun x hx=>by rw [hsz];exact Nat.lt_of_lt_of_le (hJ.vE x hx) h1.size
   fb:=fun h5=>by have:=acY (acX h5);rw [h7] at this;cases this
   i6:=fun _ h=>by rw [h7] at h;cases h
   hc:=⟨dE,hb,fun h=>(by cases h),fun _=>rfl⟩
   i7:=fun _=>⟨aF ho fun g hg=>by rw [hne g (hbc g hg),h1.own g (hof g hg)],hof⟩
   n7:=fun h=>by rw [h7] at h;cases h
   i10:=fun _=>h7 }⟩
end
theorem ready_nil {ops:Array Oper} {l:Array Bool} (hr:Region.ready .any ops l=[]) (i:Nat) {o:Oper} (ho:ops[i]? = some o) (hd:∀ e∈o.after,Region.binds .any e=true→l.getD e.on false=true):l.getD i true=true:=by
 cases h:l.getD i true
 ·have:i∈Region.ready .any ops l:=mem_ready.2 ⟨h,o,ho,hd⟩
  rw [hr] at this;cases this
 ·rfl
section
variable {bc nb:Nat} {gv sv:Value} {p:bJ} {q:List bJ} {F F0:Nat→Prop} {w:World} {Stop:(Nat→Prop)→Goroutine→World→Prop} {cs:List Frame}
theorem Xu {n:Nat} {l:Array Bool} {a:Act} (h:JI bc nb gv sv p q F0 n l F a w) (hn:n=0∨Region.ready .any Im l=[]):a.defers=[]∧(∀ x,F0 x→F x)∧(∀ x,F x→x<w.heap.size)∧∃ dw,w.heap[bc]? = some (.cells #[gv,dw] 118)∧w.ownsRow 0 97 5 dw (q.length+1) (flat (q++[p]))∧∀ g,dw.ownBlock=some g→F g:=by
 obtain ⟨b0,b1,b2,b3,b4,b5,b6,b7,b8,b9,b10,nL,nM,j5,iG,j6,kg,kr,dE,fD,fE,rfl,hs,rfl,hJ⟩:=h;have h10:b10=true:=by
  rcases hn with rfl | hr
  ·have tn:∀ b:Bool,b.toNat≤1:=fun b=>by cases b <;> decide
   have:=tn b0;have:=tn b1;have:=tn b2;have:=tn b3;have:=tn b4;have:=tn b5;have:=tn b6;have:=tn b7;have:=tn b8;have:=tn b9;cases b10
   ·simp at hs;omega
   ·rfl
  ·have hh:=fun i o ho hd=>ready_nil (i:=i) (o:=o) hr ho hd
   unfold Im at hh;simp only [FN,Tryz.f45,cr,co,Option.getD] at hh;have e0:=hh 0 _ rfl (by simp);have e1:=hh 1 _ rfl (by simp);have e5:=hh 5 _ rfl (by simp);simp only [Array.getD_eq_getD_getElem?,List.getElem?_toArray,List.getElem?_cons_succ,List.getElem?_cons_zero,Option.getD_some] at e0 e1 e5;subst e0 e1 e5;have e2:=hh 2 _ rfl (by simp);simp only [Array.getD_eq_getD_getElem?,List.getElem?_toArray,List.getElem?_cons_succ,List.getElem?_cons_zero,Option.getD_some] at e2;subst e2;have e3:=hh 3 _ rfl (by simp);simp only [Array.getD_eq_getD_getElem?,List.getElem?_toArray,List.getElem?_cons_succ,List.getElem?_cons_zero,Option.getD_some] at e3;subst e3;have e4:=hh 4 _ rfl (by simp);have e6:=hh 6 _ rfl (by simp);simp only [Array.getD_eq_getD_getElem?,List.getElem?_toArray,List.getElem?_cons_succ,List.getElem?_cons_zero,Option.getD_some] at e4 e6;subst e4 e6;have e7:=hh 7 _ rfl (by simp);simp only [Array.getD_eq_getD_getElem?,List.getElem?_toArray,List.getElem?_cons_succ,List.getElem?_cons_zero,Option.getD_some] at e7;subst e7;have e8:=hh 8 _ rfl (by simp);simp only [Array.getD_eq_getD_getElem?,List.getElem?_toArray,List.getElem?_cons_succ,List.getElem?_cons_zero,Option.getD_some] at e8;subst e8;have e9:=hh 9 _ rfl (by simp);simp only [Array.getD_eq_getD_getElem?,List.getElem?_toArray,List.getElem?_cons_succ,List.getElem?_cons_zero,Option.getD_some] at e9;subst e9;have e10:=hh 10 _ rfl (by simp);simpa using e10
 obtain ⟨y,hy,_,hy2⟩:=hJ.hc;obtain rfl:=hy2 h10;exact ⟨rfl,hJ.sub,hJ.vE,y,hy,(hJ.i7 (hJ.i10 h10)).1,(hJ.i7 (hJ.i10 h10)).2⟩
theorem Xv {cF:Frame} (hF:F bc) (hC:w.heap[bc]? = some (.cells #[gv,sv] 118)) (ho:w.ownsRow 0 97 5 sv q.length (flat q)) (hof:∀ g,sv.ownBlock=some g→F g) (hin:∀ x,F x→x<w.heap.size) (hq:q.length≤20000)
 (h:∀ F' w' dw,(∀ x,F x→F' x)→(∀ x,F' x→x<w'.heap.size)→w'.heap[bc]? = some (.cells #[gv,dw] 118)→w'.ownsRow 0 97 5 dw ((q++[p]).take 20000).length (flat ((q++[p]).take 20000))→(∀ g,dw.ownBlock=some g→F' g)→aH Tryz.prog true Stop F' (G (cF.finish (.tuple #[])) cs) w') :
 aH Tryz.prog true Stop F (G (Frame.enter Tryz.prog 45 #[.pointer (some ⟨bc,0,none⟩),p.val] .normal) (cF::cs)) w:=by
 have hsl:∃ sa cap,sv=.slice sa q.length cap:=by
  rcases ho.2 with ⟨h,h0⟩ | ⟨g,cap,cur,h,_⟩
  ·exact ⟨none,0,by rw [h,h0]⟩
  ·exact ⟨_,cap,h⟩
 obtain ⟨sa,cap,hsl⟩:=hsl;have hlv:∀ (a':Act) (todo:List Item) (F':Nat→Prop) (w':World),a'.defers=[]→aH Tryz.prog true Stop F' (G (cF.finish (.tuple #[])) cs) w'→aH Tryz.prog true Stop F' (G { (Go.Conc.base 45).at a' todo with mode:=.returning } (cF::cs)) w':=fun a' todo F' w' hd hg =>
  aJ.go rfl (fun w=>stepG_leave (b:=Go.Conc.base 45) (fn:=Tryz.f45) rfl hd Tryz.func45 (results_none rfl _ _ _) (events_results_none rfl _ _)) hg
 rw [VA];simp only [FN,Tryz.f45,Option.getD];refine aL.seq aJ ?_;refine aL.region aJ _ rfl ?_;simp [List.range,List.range.loop];refine aH.GV rfl rfl (by decide) (ob:=.cells p.cells.toArray 97) (v:=fun n=>.pointer (some ⟨n,0,none⟩)) (fun w1=>by simp [go_sem]) (fun w1=>by unfold bJ.val;go_simp;rfl) hin (fun w1 h1=>?_);simp [Act.put];have hst:=VB (bc:=bc) (nb:=w1.heap.size) (gv:=gv) (sv:=sv) (p:=p) (q:=q) (F0:=F) (Stop:=Stop) (k:=[]) (cs:=cF::cs);have hen:=fun n l a F' w'=>Xu (bc:=bc) (nb:=w1.heap.size) (gv:=gv) (sv:=sv) (p:=p) (q:=q) (F0:=F) (n:=n) (l:=l) (a:=a) (F:=F') (w:=w')
 unfold Im at hst hen;simp only [FN,Tryz.f45,cr,co,Option.getD] at hst hen;have O3:(w1.alloc (.cells p.cells.toArray 97)).heap[bc]? = some (.cells #[gv,sv] 118):=by rw [alloc_old (Nat.lt_of_lt_of_le (hin bc hF) h1.size),h1.own bc hF];exact hC
 refine aL.regionEnd aJ ?_;refine aL.seq aJ ?_;refine aL.region aJ _ rfl ?_;simp [List.range,List.range.loop];refine aL.quiet aJ rfl rfl (by decide) _ (fun _=>by go_simp <;> rfl) (fun _=>by simp [go_sem, *]) ?_;simp [Act.put];refine aL.quiet aJ rfl rfl (by decide) _ (fun _=>by go_simp <;> rfl) (fun _=>by simp [go_sem, *]) ?_;simp [Act.put];refine aL.quiet aJ rfl rfl (by decide) _ (fun _=>by go_simp <;> rfl) (fun _=>by simp [go_sem, *]) ?_;simp [Act.put];refine aH.MZ rfl rfl (by decide) 37 rfl rfl (.inl hF) O3 Tryz.underlying37 rfl rfl ?_;simp [Act.put];subst hsl;refine aL.quiet aJ rfl rfl (by decide) _ (fun _=>by go_simp <;> rfl) (fun _=>by simp [go_sem, *]) ?_;simp [Act.put];refine aL.quiet aJ rfl rfl (by decide) _ (fun _=>by go_simp <;> rfl) (fun _=>by simp [go_sem, *]) ?_;simp [Act.put];refine aL.regionEnd aJ ?_;refine aL.cond aJ (decide ((q.length:Int)<20000)) rfl ?_;have hg1:∀ x,F x→(w1.alloc (.cells p.cells.toArray 97)).heap[x]? = w.heap[x]?:=fun x hx=>by rw [alloc_old (Nat.lt_of_lt_of_le (hin x hx) h1.size),h1.own x hx]
 have hin1:∀ x,(F x∨x=w1.heap.size)→x<(w1.alloc (.cells p.cells.toArray 97)).heap.size:=fun x hx=>by
  rw [iy];rcases hx with hx | hx
  ·have:=hin x hx;have:=h1.size;omega
  ·omega
 by_cases hlt:q.length<20000
 ·have hlt':(q.length:Int)<20000:=by omega
  simp only [hlt',decide_true,if_true];have htk:(q++[p]).take 20000=q++[p]:=List.take_of_length_le (by simp;omega);rw [htk] at h;refine aH.drawn (by kernel_rfl) (JI bc w1.heap.size gv (.slice sa q.length cap) p q F) (fun w2 h2=>?_) (fun n l F a w i rest=>hst hlt n l F a w i rest) (fun n l F' a w' hI hn=>?_)
  ·refine ⟨false,false,false,false,false,false,false,false,false,false,false,undef,undef,undef,undef,undef,undef,undef,undef,undef,undef,rfl,rfl,rfl,JS.rely ?_ h2⟩
   exact ⟨nofun,nofun,nofun,nofun,nofun,nofun,nofun,nofun,fun x hx=>.inl hx,hin1,.inl hF,fun _=>⟨.inr rfl,iF _ _⟩,nofun,nofun,⟨_,O3,fun _=>rfl,nofun⟩,nofun,nofun,fun _=>⟨aF ho fun g hg=>hg1 g (hof g hg),fun g hg=>.inl (hof g hg)⟩,nofun⟩
  ·obtain ⟨hd,hsub,hin',dw,e1,e2,e3⟩:=hen _ _ _ _ _ hI hn
   exact aL.fin aJ (hlv a _ F' w' hd (h F' w' dw hsub hin' e1 (by simpa using e2) e3))
 ·have hlt':¬ (q.length:Int)<20000:=by omega
  simp only [hlt',decide_false,Bool.false_eq_true,if_false];have htk:(q++[p]).take 20000=q:=by
   rw [List.take_append_of_le_length (by omega),List.take_of_length_le (by omega)]
  rw [htk] at h;refine aL.skip aJ ?_;refine aL.fin aJ (hlv _ _ _ _ rfl (h _ _ _ (fun x hx=>.inl hx) hin1 O3 (aF ho fun g hg=>hg1 g (hof g hg)) fun g hg=>.inl (hof g hg)))
end
end
end Go.Proofs.YtignemioillaiabGreat
