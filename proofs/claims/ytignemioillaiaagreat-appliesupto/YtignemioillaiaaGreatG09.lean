/- shard.fresh: the lanes while their queues are copied. -/
import Derived.Test.YtignemioillaiaaGreatG08
namespace Go.Proofs.YtignemioillaiaaGreat
set_option maxHeartbeats 8000000
set_option maxRecDepth 100000
section
open Go.RowKit Go.Lib
theorem zu:∀ y:ax,(ax.cells y).length=2:=fun _=>rfl
theorem Sw (q:List ax):∀ y∈q.map ax.cells,y.length=2:=by
 intro y hy;obtain ⟨r,_,rfl⟩:=List.mem_map.1 hy;rfl
theorem Pf (q:List ax):∀ u∈(q.map ax.cells).flatten,u.oneCell'=true:=by
 intro u hu;obtain ⟨l,hl,hu⟩:=List.mem_flatten.1 hu;obtain ⟨r,_,rfl⟩:=List.mem_map.1 hl;simp [ax.cells] at hu;rcases hu with rfl | rfl <;> rfl
theorem Sy (q:List Int):∀ y∈q.map yA,y.length=1:=by
 intro y hy;obtain ⟨r,_,rfl⟩:=List.mem_map.1 hy;rfl
theorem Ph (q:List Int):∀ u∈(q.map yA).flatten,u.oneCell'=true:=by
 intro u hu;obtain ⟨l,hl,hu⟩:=List.mem_flatten.1 hu;obtain ⟨r,_,rfl⟩:=List.mem_map.1 hl;simp [yA] at hu;subst hu;rfl
theorem Zm (q:List Pc):∀ y∈q.map Pc.cells,y.length=2:=by
 intro y hy;obtain ⟨r,_,rfl⟩:=List.mem_map.1 hy;rfl
theorem Zn (q:List Pc):∀ u∈(q.map Pc.cells).flatten,u.oneCell'=true:=by
 intro u hu;obtain ⟨l,hl,hu⟩:=List.mem_flatten.1 hu;obtain ⟨r,_,rfl⟩:=List.mem_map.1 hl;simp [Pc.cells] at hu;rcases hu with rfl | rfl <;> rfl
theorem LM.Xg {w:World} {base:Nat} {L:List ax} (h:LM w base L) {v:Value} (hv:v∈QV L):∀ k,v.ownBlock=some k→base≤k∧k<w.heap.size:=by
 obtain ⟨r,hr,rfl⟩:=List.mem_map.1 hv;exact fun k hk=>(h.own r hr).lt k hk
theorem eF {w:World} {b:Nat} {e e':TypeId} {size:Nat} {v:Value} {n:Nat} {xs:List Value} {K:Nat} {cur:Array Value} {fz:Nat×Nat} (h:w.ownsRow b e size v n xs) (hK:w.heap[K]? = some (.cells cur e' fz)) (hne:e≠e'):∀ k,v.ownBlock=some k→k≠K:=by
 intro k hk e2;subst e2;rcases h.2 with ⟨rfl,_⟩ | ⟨g,cap,cur',rfl,_,hg,_⟩
 ·cases hk
 ·simp only [Value.ownBlock,Option.some.injEq] at hk
  subst hk;rw [hg] at hK;injection hK with h3;injection h3 with h4 h5;exact hne h5
theorem RM.only {w w':World} {base g:Nat} {q:List aF} {cur:Array Value} {e:TypeId} (h:RM w base q) (ho:Only g w w') (hg:w.heap[g]? = some (.cells cur e)) (h1:128≠e) (h2:57≠e):RM w' base q :=
 h.dX (av.only (A:=fun k=>k=g) ho rfl) (fun v hv k hk=>by obtain ⟨y,hy,rfl⟩:=List.mem_map.1 hv;exact eF (h.rows y hy) hg h1 k hk) (fun v hv k hk=>by obtain ⟨y,hy,rfl⟩:=List.mem_map.1 hv;exact eF (h.bP y hy) hg h2 k hk)
theorem LM.only {w w':World} {base g:Nat} {L:List ax} {cur:Array Value} {e:TypeId} (h:LM w base L) (ho:Only g w w') (hg:w.heap[g]? = some (.cells cur e)) (h1:128≠e) (h2:57≠e) (h3:52≠e):LM w' base L :=
 ⟨fun l hl=>dB (h.own l hl) (av.only (A:=fun k=>k=g) ho rfl) (eF (h.own l hl) hg h3),h.aq,h.rm.only ho hg h1 h2⟩
theorem LM.snoc {w:World} {base B:Nat} {L:List ax} {l:ax} (h:LM w base L) (hB:∀ v∈QV L,∀ k,v.ownBlock=some k→k<B) (hBR:∀ v∈RV (mH L),∀ k,v.ownBlock=some k→k<B) (hBD:∀ v∈DV (mH L),∀ k,v.ownBlock=some k→k<B)
 (ho:w.ownsRow B 52 7 l.qs.val l.q.length (l.q.map aF.cells).flatten) (hr:RM w B l.q) (hb:base≤B):LM w base (L++[l]):=by
 refine ⟨fun x hx=>?_,?_,?_⟩
 ·rcases List.mem_append.1 hx with hx | hx
  ·exact h.own x hx
  ·rw [List.mem_singleton.1 hx];exact dE ho hb
 ·unfold QV
  rw [List.map_append,List.pairwise_append];refine ⟨h.aq,List.pairwise_singleton _ _,fun a ha b hb=>gV.lt (hB a ha) ?_⟩;rw [List.mem_singleton.1 hb];exact fun k hk=>(ho.lt k hk).1
 ·unfold mH
  rw [List.flatMap_append];simp only [List.flatMap_cons,List.flatMap_nil,List.append_nil];exact RM.append h.rm (hr.mono hb) hBR hBD (fun v hv k hk=>(hr.GH hv k hk).1) (fun v hv k hk=>(hr.GI hv k hk).1)
structure Oq (B:Nat) (c wr:World) (L p:List ax) (k:Nat) (v:Value):Prop where
 len:p.length=k
 core:p.map ax.core=(L.take k).map ax.core
 own:wr.ownsRow B 103 2 v L.length ((p++L.drop k).map ax.cells).flatten
 lm:LM wr c.heap.size p
 dX:av (fun j=>v.ownBlock=some j) c wr
theorem Oq.step {B:Nat} {c wr wx w1:World} {L p:List ax} {k:Nat} {g cap:Nat} {l:ax} {v':Value} (h:Oq B c wr L p k (.slice (some ⟨g,0,none⟩) L.length cap)) (hr:L[k]? = some l) (b1:Below wr.heap.size wr w1) (hx:wr.heap.size≤wx.heap.size) (hq:Sq wx l.q v' w1) :
 Oq B c (w1.setCell ⟨g,k*2+1,none⟩ v') L (p++[⟨l.next,⟨(match v' with | .slice a _ _=>a | _=>none),(match v' with | .slice _ n _=>n | _=>0),(match v' with | .slice _ _ c=>c | _=>0)⟩,(Classical.choose (Classical.choose_spec hq))⟩]) (k+1) (.slice (some ⟨g,0,none⟩) L.length cap):=by
 obtain ⟨q1,q2,q3,q4⟩:=Classical.choose_spec (Classical.choose_spec hq);generalize Classical.choose (Classical.choose_spec hq)=pq at q2 q3 q4 ⊢;generalize Classical.choose hq=s at q1 q2 q3 q4;obtain ⟨sa,sn,sc⟩:=s;subst q1;show Oq B c _ L (p++[⟨l.next,⟨sa,sn,sc⟩,pq⟩]) (k+1) _;have hk:=(mV hr);obtain ⟨g',cap',cur,hv,hBg,hg,hm,hcl,hnc,hcm,ht,_,hput⟩:=kS h.own (by omega);simp only [Value.slice.injEq,Option.some.injEq,Addr.mk.injEq] at hv;obtain ⟨⟨rfl,_⟩,_,rfl⟩:=hv;have hgl:g<wr.heap.size:=(df hg);have hg1:=af b1 hg;obtain ⟨s1,s2⟩:=wV (o:=k*2+1) (v:=Value.slice sa sn sc) hg1;have hd:L.drop k=l::L.drop (k+1):=by
  rw [List.drop_eq_getElem_cons hk];congr 1
  exact (List.getElem?_eq_some_iff.1 hr).2
 have hat:(p++L.drop k)[k]? = some l:=by rw [List.getElem?_append_right (by rw [h.len];exact Nat.le_refl _),h.len,hd];simp
 have e1:=yT zu (p++L.drop k) k 1 l ⟨l.next,⟨sa,sn,sc⟩,pq⟩ (.slice sa sn sc) hat (by decide) rfl;have e3:(p++L.drop k).set k ⟨l.next,⟨sa,sn,sc⟩,pq⟩=(p++[⟨l.next,⟨sa,sn,sc⟩,pq⟩])++L.drop (k+1):=by
  rw [List.set_append_right _ _ (by rw [h.len];exact Nat.le_refl _),h.len,Nat.sub_self,hd];simp
 have hpl:pq.length=l.q.length:=by simpa using congrArg List.length q3
 refine ⟨by simp [h.len],?_,?_,?_,?_⟩
 ·rw [List.map_append,h.core,List.take_add_one,hr,List.map_append]
  simp [ax.core,q3]
 ·have:=hput (w1.setCell ⟨g,k*2+1,none⟩ (.slice sa sn sc)) (cur.set (k*2+1) (.slice sa sn sc)) (by simp) s1
  rw [List.take_set,ht,e1,e3] at this;exact this
 ·refine LM.snoc (B:=wr.heap.size) ((h.lm.later b1).only s2 hg1 (by decide) (by decide) (by decide)) (fun v hv k hk=>(h.lm.Xg hv k hk).2) (fun v hv k hk=>(h.lm.rm.GH hv k hk).2) (fun v hv k hk=>(h.lm.rm.GI hv k hk).2) ?_ ?_ h.dX.size
  ·have:=dB q2 (av.only (A:=fun k=>k=g) s2 rfl) (eF q2 hg1 (by decide))
   rw [← hpl] at this;exact dE this hx
  ·exact (q4.only s2 hg1 (by decide) (by decide)).mono hx
 ·exact (h.dX.trans (av.later b1)).trans (av.only s2 rfl)
section
variable {α:Type} (f:α→Int)
def sB (lo:Int) (l:List α):List α:=l.filter fun x=>decide (f x<lo)
def sA (lo hi:Int) (l:List α):List α:=l.filter fun x=>!decide (f x<lo) && decide (hi<f x)
def sW (lo hi:Int) (l:List α):List α:=l.filter fun x=>!decide (f x<lo) && !decide (hi<f x)
theorem fK {m:List α} {k:Nat} {x:α} (P:α→Bool) (hx:m[k]? = some x):(m.take (k+1)).filter P=if P x then (m.take k).filter P++[x] else (m.take k).filter P:=by
 rw [List.take_add_one,hx];simp only [Option.toList_some,List.filter_append,List.filter_cons,List.filter_nil];split <;> simp
theorem pV {m:List α} {k:Nat} (P:α→Bool):((m.take k).filter P).length≤m.length:=by
 have h1:=List.length_filter_le P (m.take k);have h2:(m.take k).length≤m.length:=by simp [List.length_take];omega
 omega
end
structure Own3 {α:Type} (w:World) (base:Nat) (e:TypeId) (k:Nat) (cf:α→List Value) (v1 v2 v3:Value) (x1 x2 x3:List α):Prop where
 o1:w.ownsRow base e k v1 x1.length (x1.map cf).flatten
 o2:w.ownsRow base e k v2 x2.length (x2.map cf).flatten
 o3:w.ownsRow base e k v3 x3.length (x3.map cf).flatten
 a12:gV v1 v2
 a23:gV v2 v3
 a31:gV v3 v1
section
variable {α:Type} {w w':World} {base:Nat} {e:TypeId} {k:Nat} {cf:α→List Value} {v1 v2 v3:Value} {x1 x2 x3:List α}
theorem Own3.I9 (h:Own3 w base e k cf v1 v2 v3 x1 x2 x3):Own3 w base e k cf v2 v3 v1 x2 x3 x1:=⟨h.o2,h.o3,h.o1,h.a23,h.a31,h.a12⟩
theorem Own3.nil:Own3 w base e k cf (.slice none 0 0) (.slice none 0 0) (.slice none 0 0) [] [] [] :=
 ⟨World.ownsRow_nil _ _ _ _,World.ownsRow_nil _ _ _ _,World.ownsRow_nil _ _ _ _,.inl rfl,.inl rfl,.inl rfl⟩
theorem Own3.later (h:Own3 w base e k cf v1 v2 v3 x1 x2 x3) (hb:Below w.heap.size w w'):Own3 w' base e k cf v1 v2 v3 x1 x2 x3:=⟨ay h.o1 hb,ay h.o2 hb,ay h.o3 hb,h.a12,h.a23,h.a31⟩
theorem Own3.grow {v1':Value} {y:α} (h:Own3 w base e k cf v1 v2 v3 x1 x2 x3) (hg:fC w v1 w' v1') (ho:w'.ownsRow base e k v1' (x1.length+1) ((x1.map cf).flatten++cf y)):Own3 w' base e k cf v1' v2 v3 (x1++[y]) x2 x3:=by
 have ap:∀ {v:Value} {n:Nat} {xs:List Value},w.ownsRow base e k v n xs→gV v v1→gV v v1':=by
  intro v n xs hv ha;rcases hg.own with h1 | h1
  ·unfold gV;rw [h1];exact ha
  ·exact gV.lt (B:=w.heap.size) (fun j hj=>(hv.lt j hj).2) h1
 refine ⟨by simpa using ho,h.o2.kept hg.grown h.a12.symm,h.o3.kept hg.grown h.a31,(ap h.o2 h.a12.symm).symm,h.a23,ap h.o3 h.a31⟩
end
theorem cu {W:World} {cs:List Value} {t:TypeId} {b:Nat} (hb:b=W.heap.size):∀ (j:Nat) (u:Value),cs[j]? = some u→(W.alloc (.cells cs.toArray t)).cell? ((⟨b,0,none⟩:Addr).add j)=some u:=by
 intro j u h;subst hb;have hadd:(⟨W.heap.size,0,none⟩:Addr).add j=⟨W.heap.size,j,none⟩:=by unfold Addr.add;split <;> simp_all
 rw [hadd,ah (heap_alloc_new W _) j];simpa using h
theorem cz {cs:List Value} (h:cs.all (·.oneCell')=true):∀ u∈cs,u.oneCell'=true:=fun u hu=>List.all_eq_true.1 h u hu
theorem Ik (w:World) (k v:Int):Calls Tryz.prog 90 #[.agg #[.int .u64 k,.int .u64 v]] w fun e w'=>e=.returned (.int .u64 k)∧Below w.heap.size w w':=by
 go_enter Tryz.func90,Tryz.ntmps90
 go_wp2
 go_ret
 exact ⟨rfl,aj w _⟩
theorem Il (w:World) (pc ps eZ pk:Int) (pf:Bool) (pv pg:Int):Calls Tryz.prog 93 #[.agg (rP pc ps eZ pk pf pv pg).toArray] w fun e w'=>e=.returned (.int .u64 eZ)∧Below w.heap.size w w':=by
 go_enter Tryz.func93,Tryz.ntmps93
 go_wp2
 go_ret
 exact ⟨rfl,aj w _⟩
theorem dO {w a b:World} {v v':Value} (h:Below w.heap.size w a) (hg:fC a v b v') (hv:∀ j,v.ownBlock=some j→w.heap.size≤j):Below w.heap.size w b :=
 ⟨hg.grown.os.trans h.os,hg.grown.tape.trans h.tape,hg.grown.output.trans h.output,Nat.le_trans h.size hg.grown.size,fun k hk=>(hg.grown.block k (Nat.lt_of_lt_of_le hk h.size) (fun e=>by have:=hv k e.symm;omega)).trans (h.block k hk)⟩
theorem yK:(Tryz.prog.info? 128).map (fun i=>(i.zero,i.size,i.bytes))=some (some (.agg #[.int .u64 0,.int .u64 0]),2,16):=by kernel_rfl
theorem Pj (a:Option Addr) (n c:Nat) (T:List Row) (lo hi:Int) (w:World) (h:bQ w.heap.size w ⟨a,n,c⟩ 2 (T.map Row.cells)) (hl:T.length<1000000) :
 Calls Tryz.prog 89 #[.slice a n c,.func (.func 90) #[] #[],.int .u64 lo,.int .u64 hi] w fun e w'=>∃ vb vw va,e=.returned (.tuple #[vb,vw,va])∧Own3 w' w.heap.size 128 2 Row.cells vb vw va (sB (fun x:Row=>x.key) lo T) (sW (fun x:Row=>x.key) lo hi T) (sA (fun x:Row=>x.key) lo hi T)∧Below w.heap.size w w':=by
 obtain ⟨i0,hi0,hz0,hz1,hz2⟩:=info_parts yK;have hlen:n=T.length:=by simpa using h.len
 have HI:=ae h;have HL:Hid (n=T.length):=hlen;have hnl:n<1000000:=by omega
 clear hlen h;go_enter Tryz.func89,Tryz.ntmps89
 go_wp2_with fail
 go_loopw [8,9,10,16] (fun b1 b2 b3 i wr=>∃ (k:Nat) (vb vw va:Value),vb=b1∧vw=b2∧va=b3∧k≤n∧i=.int .i64 k∧Hid (Own3 wr w.heap.size 128 2 Row.cells vb vw va (sB (fun x:Row=>x.key) lo (T.take k)) (sW (fun x:Row=>x.key) lo hi (T.take k)) (sA (fun x:Row=>x.key) lo hi (T.take k)))∧Hid (Below w.heap.size w wr)) (fun _ _ _ i _=>n - (intOf i).toNat)
 case atStart=>exact ⟨0,_,_,_,rfl,rfl,rfl,Nat.zero_le _,rfl,Own3.nil,Below.refl _ _⟩
 case round =>
  obtain ⟨k,vb,vw,va,rfl,rfl,rfl,hk,rfl,OA,bV⟩:=hrel;by_cases hlt:k<n
  ·have hdk:decide ((k:Int)<(n:Int))=true:=by simp;omega
   obtain ⟨x,hx⟩:∃ x,T[k]? = some x:=⟨T[k]'(by rw [← HL.out];exact hlt),by simp⟩;obtain ⟨b,off,ha,j4,hc⟩:=(HI.out.below bV.out (Nat.le_refl _)).el (i:=k) (x:=x.cells) (by simp [hx]);obtain rfl:a=some ⟨b,off,none⟩:=ha;have HX:Hid (T[k]? = some x):=hx;have HN:Hid ((sB (fun x:Row=>x.key) lo (T.take k)).length<1000000∧(sA (fun x:Row=>x.key) lo hi (T.take k)).length<1000000∧(sW (fun x:Row=>x.key) lo hi (T.take k)).length<1000000):=(⟨Nat.lt_of_le_of_lt (pV _) hl,Nat.lt_of_le_of_lt (pV _) hl,Nat.lt_of_le_of_lt (pV _) hl⟩:_∧_∧_);clear hx;obtain ⟨az,dU⟩:=x;have HC:Hid (∀ (j:Nat) (u:Value),[.int .u64 az,.int .u64 dU][j]? = some u→wr.cell? ⟨b,off+k*2+j,none⟩=some u):=hc;clear hc;have hi1:(0:Int)≤(k:Int):=by omega
   have hi2:(k:Int)<(n:Int):=by omega
   have nB:=fK (fun x:Row=>decide (x.key<lo)) HX.out;have nW:=fK (fun x:Row=>!decide (x.key<lo) && !decide (hi<x.key)) HX.out;have nA:=fK (fun x:Row=>!decide (x.key<lo) && decide (hi<x.key)) HX.out;dsimp only at nB nW nA;by_cases h1:az<lo
   ·have hd1:decide (az<lo)=true:=by simp [h1]
    rw [hd1] at nB nW nA;have HE:Hid (∀ (w9:World) (v1 v2 v3:Value),Own3 w9 w.heap.size 128 2 Row.cells v1 v2 v3 ((sB (fun x:Row=>x.key) lo (T.take k))++[(Row.mk az dU)]) (sW (fun x:Row=>x.key) lo hi (T.take k)) (sA (fun x:Row=>x.key) lo hi (T.take k))→Own3 w9 w.heap.size 128 2 Row.cells v1 v2 v3 (sB (fun x:Row=>x.key) lo (T.take (k+1))) (sW (fun x:Row=>x.key) lo hi (T.take (k+1))) (sA (fun x:Row=>x.key) lo hi (T.take (k+1)))):=fun w9 v1 v2 v3 ho=>by
     unfold sB sW sA at ho ⊢;rw [nB,nW,nA];exact ho
    clear nB nW nA;go_wp2_with (first
     | (with_reducible show cB 19 128 ..;go_must (refine bB rfl _ _ rfl b (off+k*2) rfl 2 _ ve rfl (by kernel_rfl) [.int .u64 az,.int .u64 dU] rfl HC.out ?_))
     | (with_reducible show dJ 128 12 ..;go_must (refine fH wr.heap.size 0 [.int .u64 az,.int .u64 dU] _ _ _ (heap_alloc_new wr (.cells #[.int .u64 0,.int .u64 0] 128)) [.int .u64 az,.int .u64 dU] ?_;intro w2 hw ho;have HW2:Hid (w2.heap[wr.heap.size]? = some (.cells #[.int .u64 az,.int .u64 dU] 128)):=ae hw;have HB2:Hid (Below wr.heap.size wr w2):=ae ((aj wr _).trans (ho.below (Nat.le_refl _)));clear hw ho))
     | (with_reducible show cB 21 128 ..;go_must (refine dF wr.heap.size 0 2 ve _ _ HW2.out [.int .u64 az,.int .u64 dU] ?_))
     | (go_at_call 90;go_must (refine (Ik _ az dU).mono ?_;rintro e w3 ⟨rfl,hb3⟩;have HW3:Hid (w3.heap[wr.heap.size]? = some (.cells #[.int .u64 az,.int .u64 dU] 128)):=ae (af hb3 HW2.out);have HB3:Hid (Below wr.heap.size wr w3):=ae (ai HB2.out hb3);have zB:Hid (Own3 (w3.alloc (.cells #[.int .u64 az,.int .u64 dU] 128)) w.heap.size 128 2 Row.cells vb vw va (sB (fun x:Row=>x.key) lo (T.take k)) (sW (fun x:Row=>x.key) lo hi (T.take k)) (sA (fun x:Row=>x.key) lo hi (T.take k))):=ae ((OA.out.later HB3.out).later (aj _ _));clear hb3))
     | (with_reducible show cB 32 128 ..;go_must (refine dF wr.heap.size 0 2 ve _ _ HW3.out [.int .u64 az,.int .u64 dU] ?_))
     | (at_builtin;go_must (refine aZ _ rfl _ _ 25 rfl w.heap.size 128 i0 (.agg #[.int .u64 0,.int .u64 0]) 2 16 rE hi0 hz0 hz1 hz2 rfl (by decide) vb (sB (fun x:Row=>x.key) lo (T.take k)).length ((sB (fun x:Row=>x.key) lo (T.take k)).map Row.cells).flatten rfl zB.out.o1 ⟨w3.heap.size,0,none⟩ 1 1 [.int .u64 az,.int .u64 dU] rfl rfl (cu rfl) (cz rfl) (by have:=HN.out.1;unfold maxLen;omega) (by have:=HN.out.1;omega) (by have h1:=HB3.out.size;have h2:=bV.out.size;simp;omega) ?_;intro v9 w9 bJ gZ)))
    have O9:=ae (zB.out.grow (y:=(Row.mk az dU)) gZ bJ);have o8:Hid (Below w.heap.size w w9):=dO (ai bV.out (ai HB3.out (aj _ _))) gZ (fun j hj=>(zB.out.o1.lt j hj).1);clear bJ gZ;go_wp2_with fail
    go_roundw
    case rel=>exact ⟨k+1,_,_,_,rfl,rfl,rfl,by omega,by go_num,HE.out _ _ _ _ O9.out,o8.out⟩
    case measure=>simp [intOf];omega
   ·have hd1:decide (az<lo)=false:=by simp [h1]
    rw [hd1] at nB nW nA;by_cases h2:hi<az
    ·have hd2:decide (hi<az)=true:=by simp [h2]
     rw [hd2] at nW nA;have HE:Hid (∀ (w9:World) (v1 v2 v3:Value),Own3 w9 w.heap.size 128 2 Row.cells v1 v2 v3 (sB (fun x:Row=>x.key) lo (T.take k)) (sW (fun x:Row=>x.key) lo hi (T.take k)) ((sA (fun x:Row=>x.key) lo hi (T.take k))++[(Row.mk az dU)])→Own3 w9 w.heap.size 128 2 Row.cells v1 v2 v3 (sB (fun x:Row=>x.key) lo (T.take (k+1))) (sW (fun x:Row=>x.key) lo hi (T.take (k+1))) (sA (fun x:Row=>x.key) lo hi (T.take (k+1)))):=fun w9 v1 v2 v3 ho=>by
      unfold sB sW sA at ho ⊢;rw [nB,nW,nA];exact ho
     clear nB nW nA;go_wp2_with (first
      | (with_reducible show cB 19 128 ..;go_must (refine bB rfl _ _ rfl b (off+k*2) rfl 2 _ ve rfl (by kernel_rfl) [.int .u64 az,.int .u64 dU] rfl HC.out ?_))
      | (with_reducible show dJ 128 12 ..;go_must (refine fH wr.heap.size 0 [.int .u64 az,.int .u64 dU] _ _ _ (heap_alloc_new wr (.cells #[.int .u64 0,.int .u64 0] 128)) [.int .u64 az,.int .u64 dU] ?_;intro w2 hw ho;have HW2:Hid (w2.heap[wr.heap.size]? = some (.cells #[.int .u64 az,.int .u64 dU] 128)):=ae hw;have HB2:Hid (Below wr.heap.size wr w2):=ae ((aj wr _).trans (ho.below (Nat.le_refl _)));clear hw ho))
      | (with_reducible show cB 21 128 ..;go_must (refine dF wr.heap.size 0 2 ve _ _ HW2.out [.int .u64 az,.int .u64 dU] ?_))
      | (go_at_call 90;go_must (refine (Ik _ az dU).mono ?_;rintro e w3 ⟨rfl,hb3⟩;have HW3:Hid (w3.heap[wr.heap.size]? = some (.cells #[.int .u64 az,.int .u64 dU] 128)):=ae (af hb3 HW2.out);have HB3:Hid (Below wr.heap.size wr w3):=ae (ai HB2.out hb3);have zB:Hid (Own3 (w3.alloc (.cells #[.int .u64 az,.int .u64 dU] 128)) w.heap.size 128 2 Row.cells vb vw va (sB (fun x:Row=>x.key) lo (T.take k)) (sW (fun x:Row=>x.key) lo hi (T.take k)) (sA (fun x:Row=>x.key) lo hi (T.take k))):=ae ((OA.out.later HB3.out).later (aj _ _));clear hb3))
      | (with_reducible show cB 40 128 ..;go_must (refine dF wr.heap.size 0 2 ve _ _ HW3.out [.int .u64 az,.int .u64 dU] ?_))
      | (at_builtin;go_must (refine aZ _ rfl _ _ 25 rfl w.heap.size 128 i0 (.agg #[.int .u64 0,.int .u64 0]) 2 16 rE hi0 hz0 hz1 hz2 rfl (by decide) va (sA (fun x:Row=>x.key) lo hi (T.take k)).length ((sA (fun x:Row=>x.key) lo hi (T.take k)).map Row.cells).flatten rfl zB.out.o3 ⟨w3.heap.size,0,none⟩ 1 1 [.int .u64 az,.int .u64 dU] rfl rfl (cu rfl) (cz rfl) (by have:=HN.out.2.1;unfold maxLen;omega) (by have:=HN.out.2.1;omega) (by have h1:=HB3.out.size;have h2:=bV.out.size;simp;omega) ?_;intro v9 w9 bJ gZ)))
     have O9:=ae ((zB.out.I9.I9.grow (y:=(Row.mk az dU)) gZ bJ).I9);have o8:Hid (Below w.heap.size w w9):=dO (ai bV.out (ai HB3.out (aj _ _))) gZ (fun j hj=>(zB.out.o3.lt j hj).1);clear bJ gZ;go_wp2_with fail
     go_roundw
     case rel=>exact ⟨k+1,_,_,_,rfl,rfl,rfl,by omega,by go_num,HE.out _ _ _ _ O9.out,o8.out⟩
     case measure=>simp [intOf];omega
    ·have hd2:decide (hi<az)=false:=by simp [h2]
     rw [hd2] at nW nA;have HE:Hid (∀ (w9:World) (v1 v2 v3:Value),Own3 w9 w.heap.size 128 2 Row.cells v1 v2 v3 (sB (fun x:Row=>x.key) lo (T.take k)) ((sW (fun x:Row=>x.key) lo hi (T.take k))++[(Row.mk az dU)]) (sA (fun x:Row=>x.key) lo hi (T.take k))→Own3 w9 w.heap.size 128 2 Row.cells v1 v2 v3 (sB (fun x:Row=>x.key) lo (T.take (k+1))) (sW (fun x:Row=>x.key) lo hi (T.take (k+1))) (sA (fun x:Row=>x.key) lo hi (T.take (k+1)))):=fun w9 v1 v2 v3 ho=>by
      unfold sB sW sA at ho ⊢;rw [nB,nW,nA];exact ho
     clear nB nW nA;go_wp2_with (first
      | (with_reducible show cB 19 128 ..;go_must (refine bB rfl _ _ rfl b (off+k*2) rfl 2 _ ve rfl (by kernel_rfl) [.int .u64 az,.int .u64 dU] rfl HC.out ?_))
      | (with_reducible show dJ 128 12 ..;go_must (refine fH wr.heap.size 0 [.int .u64 az,.int .u64 dU] _ _ _ (heap_alloc_new wr (.cells #[.int .u64 0,.int .u64 0] 128)) [.int .u64 az,.int .u64 dU] ?_;intro w2 hw ho;have HW2:Hid (w2.heap[wr.heap.size]? = some (.cells #[.int .u64 az,.int .u64 dU] 128)):=ae hw;have HB2:Hid (Below wr.heap.size wr w2):=ae ((aj wr _).trans (ho.below (Nat.le_refl _)));clear hw ho))
      | (with_reducible show cB 21 128 ..;go_must (refine dF wr.heap.size 0 2 ve _ _ HW2.out [.int .u64 az,.int .u64 dU] ?_))
      | (go_at_call 90;go_must (refine (Ik _ az dU).mono ?_;rintro e w3 ⟨rfl,hb3⟩;have HW3:Hid (w3.heap[wr.heap.size]? = some (.cells #[.int .u64 az,.int .u64 dU] 128)):=ae (af hb3 HW2.out);have HB3:Hid (Below wr.heap.size wr w3):=ae (ai HB2.out hb3);have zB:Hid (Own3 (w3.alloc (.cells #[.int .u64 az,.int .u64 dU] 128)) w.heap.size 128 2 Row.cells vb vw va (sB (fun x:Row=>x.key) lo (T.take k)) (sW (fun x:Row=>x.key) lo hi (T.take k)) (sA (fun x:Row=>x.key) lo hi (T.take k))):=ae ((OA.out.later HB3.out).later (aj _ _));clear hb3))
      | (with_reducible show cB 24 128 ..;go_must (refine dF wr.heap.size 0 2 ve _ _ HW3.out [.int .u64 az,.int .u64 dU] ?_))
      | (at_builtin;go_must (refine aZ _ rfl _ _ 25 rfl w.heap.size 128 i0 (.agg #[.int .u64 0,.int .u64 0]) 2 16 rE hi0 hz0 hz1 hz2 rfl (by decide) vw (sW (fun x:Row=>x.key) lo hi (T.take k)).length ((sW (fun x:Row=>x.key) lo hi (T.take k)).map Row.cells).flatten rfl zB.out.o2 ⟨w3.heap.size,0,none⟩ 1 1 [.int .u64 az,.int .u64 dU] rfl rfl (cu rfl) (cz rfl) (by have:=HN.out.2.2;unfold maxLen;omega) (by have:=HN.out.2.2;omega) (by have h1:=HB3.out.size;have h2:=bV.out.size;simp;omega) ?_;intro v9 w9 bJ gZ)))
     have O9:=ae ((zB.out.I9.grow (y:=(Row.mk az dU)) gZ bJ).I9.I9);have o8:Hid (Below w.heap.size w w9):=dO (ai bV.out (ai HB3.out (aj _ _))) gZ (fun j hj=>(zB.out.o2.lt j hj).1);clear bJ gZ;go_wp2_with fail
     go_roundw
     case rel=>exact ⟨k+1,_,_,_,rfl,rfl,rfl,by omega,by go_num,HE.out _ _ _ _ O9.out,o8.out⟩
     case measure=>simp [intOf];omega
  ·have hdk:decide ((k:Int)<(n:Int))=false:=by simp;omega
   obtain rfl:k=n:=by omega
   have OT:Hid (Own3 wr w.heap.size 128 2 Row.cells vb vw va (sB (fun x:Row=>x.key) lo T) (sW (fun x:Row=>x.key) lo hi T) (sA (fun x:Row=>x.key) lo hi T)):=by
    have:=OA.out;rw [HL.out,List.take_length] at this;exact this
   go_wp2_with fail
   go_ret3
   exact ⟨_,_,_,rfl,OT.out,bV.out⟩
theorem zC:(Tryz.prog.info? 57).map (fun i=>(i.zero,i.size,i.bytes))=some (some (.agg bA.toArray),7,40):=by kernel_rfl
theorem Pk (a:Option Addr) (n c:Nat) (T:List ak) (lo hi:Int) (w:World) (h:bQ w.heap.size w ⟨a,n,c⟩ 7 (T.map ak.cells)) (hl:T.length<1000000) :
 Calls Tryz.prog 92 #[.slice a n c,.func (.func 93) #[] #[],.int .u64 lo,.int .u64 hi] w fun e w'=>∃ vb vw va,e=.returned (.tuple #[vb,vw,va])∧Own3 w' w.heap.size 57 7 ak.cells vb vw va (sB (fun x:ak=>x.key) lo T) (sW (fun x:ak=>x.key) lo hi T) (sA (fun x:ak=>x.key) lo hi T)∧Below w.heap.size w w':=by
 obtain ⟨i0,hi0,hz0,hz1,hz2⟩:=info_parts zC;have hlen:n=T.length:=by simpa using h.len
 have HI:=ae h;have HL:Hid (n=T.length):=hlen;have hnl:n<1000000:=by omega
 clear hlen h;go_enter Tryz.func92,Tryz.ntmps92
 go_wp2_with fail
 go_loopw [8,9,10,16] (fun b1 b2 b3 i wr=>∃ (k:Nat) (vb vw va:Value),vb=b1∧vw=b2∧va=b3∧k≤n∧i=.int .i64 k∧Hid (Own3 wr w.heap.size 57 7 ak.cells vb vw va (sB (fun x:ak=>x.key) lo (T.take k)) (sW (fun x:ak=>x.key) lo hi (T.take k)) (sA (fun x:ak=>x.key) lo hi (T.take k)))∧Hid (Below w.heap.size w wr)) (fun _ _ _ i _=>n - (intOf i).toNat)
 case atStart=>exact ⟨0,_,_,_,rfl,rfl,rfl,Nat.zero_le _,rfl,Own3.nil,Below.refl _ _⟩
 case round =>
  obtain ⟨k,vb,vw,va,rfl,rfl,rfl,hk,rfl,OA,bV⟩:=hrel;by_cases hlt:k<n
  ·have hdk:decide ((k:Int)<(n:Int))=true:=by simp;omega
   obtain ⟨x,hx⟩:∃ x,T[k]? = some x:=⟨T[k]'(by rw [← HL.out];exact hlt),by simp⟩;obtain ⟨b,off,ha,j4,hc⟩:=(HI.out.below bV.out (Nat.le_refl _)).el (i:=k) (x:=x.cells) (by simp [hx]);obtain rfl:a=some ⟨b,off,none⟩:=ha;have HX:Hid (T[k]? = some x):=hx;have HN:Hid ((sB (fun x:ak=>x.key) lo (T.take k)).length<1000000∧(sA (fun x:ak=>x.key) lo hi (T.take k)).length<1000000∧(sW (fun x:ak=>x.key) lo hi (T.take k)).length<1000000):=(⟨Nat.lt_of_le_of_lt (pV _) hl,Nat.lt_of_le_of_lt (pV _) hl,Nat.lt_of_le_of_lt (pV _) hl⟩:_∧_∧_);clear hx;obtain ⟨xc,xs,az,xk,xf,xv,xg⟩:=x;have HC:Hid (∀ (j:Nat) (u:Value),(rP xc xs az xk xf xv xg)[j]? = some u→wr.cell? ⟨b,off+k*7+j,none⟩=some u):=hc;clear hc;have hi1:(0:Int)≤(k:Int):=by omega
   have hi2:(k:Int)<(n:Int):=by omega
   have nB:=fK (fun x:ak=>decide (x.key<lo)) HX.out;have nW:=fK (fun x:ak=>!decide (x.key<lo) && !decide (hi<x.key)) HX.out;have nA:=fK (fun x:ak=>!decide (x.key<lo) && decide (hi<x.key)) HX.out;dsimp only at nB nW nA;by_cases h1:az<lo
   ·have hd1:decide (az<lo)=true:=by simp [h1]
    rw [hd1] at nB nW nA;have HE:Hid (∀ (w9:World) (v1 v2 v3:Value),Own3 w9 w.heap.size 57 7 ak.cells v1 v2 v3 ((sB (fun x:ak=>x.key) lo (T.take k))++[(ak.mk xc xs az xk xf xv xg)]) (sW (fun x:ak=>x.key) lo hi (T.take k)) (sA (fun x:ak=>x.key) lo hi (T.take k))→Own3 w9 w.heap.size 57 7 ak.cells v1 v2 v3 (sB (fun x:ak=>x.key) lo (T.take (k+1))) (sW (fun x:ak=>x.key) lo hi (T.take (k+1))) (sA (fun x:ak=>x.key) lo hi (T.take (k+1)))):=fun w9 v1 v2 v3 ho=>by
     unfold sB sW sA at ho ⊢;rw [nB,nW,nA];exact ho
    clear nB nW nA;go_wp2_with (first
     | (with_reducible show cB 19 57 ..;go_must (refine bB rfl _ _ rfl b (off+k*7) rfl 7 _ dD rfl (by kernel_rfl) (rP xc xs az xk xf xv xg) rfl HC.out ?_))
     | (with_reducible show dJ 57 12 ..;go_must (refine fH wr.heap.size 0 (rP xc xs az xk xf xv xg) _ _ _ (heap_alloc_new wr (.cells bA.toArray 57)) (rP xc xs az xk xf xv xg) ?_;intro w2 hw ho;have HW2:Hid (w2.heap[wr.heap.size]? = some (.cells (rP xc xs az xk xf xv xg).toArray 57)):=ae hw;have HB2:Hid (Below wr.heap.size wr w2):=ae ((aj wr _).trans (ho.below (Nat.le_refl _)));clear hw ho))
     | (with_reducible show cB 21 57 ..;go_must (refine dF wr.heap.size 0 7 dD _ _ HW2.out (rP xc xs az xk xf xv xg) ?_))
     | (go_at_call 93;go_must (refine (Il _ xc xs az xk xf xv xg).mono ?_;rintro e w3 ⟨rfl,hb3⟩;have HW3:Hid (w3.heap[wr.heap.size]? = some (.cells (rP xc xs az xk xf xv xg).toArray 57)):=ae (af hb3 HW2.out);have HB3:Hid (Below wr.heap.size wr w3):=ae (ai HB2.out hb3);have zB:Hid (Own3 (w3.alloc (.cells (rP xc xs az xk xf xv xg).toArray 57)) w.heap.size 57 7 ak.cells vb vw va (sB (fun x:ak=>x.key) lo (T.take k)) (sW (fun x:ak=>x.key) lo hi (T.take k)) (sA (fun x:ak=>x.key) lo hi (T.take k))):=ae ((OA.out.later HB3.out).later (aj _ _));clear hb3))
     | (with_reducible show cB 32 57 ..;go_must (refine dF wr.heap.size 0 7 dD _ _ HW3.out (rP xc xs az xk xf xv xg) ?_))
     | (at_builtin;go_must (refine aZ _ rfl _ _ 27 rfl w.heap.size 57 i0 (.agg bA.toArray) 7 40 qy hi0 hz0 hz1 hz2 rfl (by decide) vb (sB (fun x:ak=>x.key) lo (T.take k)).length ((sB (fun x:ak=>x.key) lo (T.take k)).map ak.cells).flatten rfl zB.out.o1 ⟨w3.heap.size,0,none⟩ 1 1 (rP xc xs az xk xf xv xg) rfl rfl (cu rfl) (cz rfl) (by have:=HN.out.1;unfold maxLen;omega) (by have:=HN.out.1;omega) (by have h1:=HB3.out.size;have h2:=bV.out.size;simp;omega) ?_;intro v9 w9 bJ gZ)))
    have O9:=ae (zB.out.grow (y:=(ak.mk xc xs az xk xf xv xg)) gZ bJ);have o8:Hid (Below w.heap.size w w9):=dO (ai bV.out (ai HB3.out (aj _ _))) gZ (fun j hj=>(zB.out.o1.lt j hj).1);clear bJ gZ;go_wp2_with fail
    go_roundw
    case rel=>exact ⟨k+1,_,_,_,rfl,rfl,rfl,by omega,by go_num,HE.out _ _ _ _ O9.out,o8.out⟩
    case measure=>simp [intOf];omega
   ·have hd1:decide (az<lo)=false:=by simp [h1]
    rw [hd1] at nB nW nA;by_cases h2:hi<az
    ·have hd2:decide (hi<az)=true:=by simp [h2]
     rw [hd2] at nW nA;have HE:Hid (∀ (w9:World) (v1 v2 v3:Value),Own3 w9 w.heap.size 57 7 ak.cells v1 v2 v3 (sB (fun x:ak=>x.key) lo (T.take k)) (sW (fun x:ak=>x.key) lo hi (T.take k)) ((sA (fun x:ak=>x.key) lo hi (T.take k))++[(ak.mk xc xs az xk xf xv xg)])→Own3 w9 w.heap.size 57 7 ak.cells v1 v2 v3 (sB (fun x:ak=>x.key) lo (T.take (k+1))) (sW (fun x:ak=>x.key) lo hi (T.take (k+1))) (sA (fun x:ak=>x.key) lo hi (T.take (k+1)))):=fun w9 v1 v2 v3 ho=>by
      unfold sB sW sA at ho ⊢;rw [nB,nW,nA];exact ho
     clear nB nW nA;go_wp2_with (first
      | (with_reducible show cB 19 57 ..;go_must (refine bB rfl _ _ rfl b (off+k*7) rfl 7 _ dD rfl (by kernel_rfl) (rP xc xs az xk xf xv xg) rfl HC.out ?_))
      | (with_reducible show dJ 57 12 ..;go_must (refine fH wr.heap.size 0 (rP xc xs az xk xf xv xg) _ _ _ (heap_alloc_new wr (.cells bA.toArray 57)) (rP xc xs az xk xf xv xg) ?_;intro w2 hw ho;have HW2:Hid (w2.heap[wr.heap.size]? = some (.cells (rP xc xs az xk xf xv xg).toArray 57)):=ae hw;have HB2:Hid (Below wr.heap.size wr w2):=ae ((aj wr _).trans (ho.below (Nat.le_refl _)));clear hw ho))
      | (with_reducible show cB 21 57 ..;go_must (refine dF wr.heap.size 0 7 dD _ _ HW2.out (rP xc xs az xk xf xv xg) ?_))
      | (go_at_call 93;go_must (refine (Il _ xc xs az xk xf xv xg).mono ?_;rintro e w3 ⟨rfl,hb3⟩;have HW3:Hid (w3.heap[wr.heap.size]? = some (.cells (rP xc xs az xk xf xv xg).toArray 57)):=ae (af hb3 HW2.out);have HB3:Hid (Below wr.heap.size wr w3):=ae (ai HB2.out hb3);have zB:Hid (Own3 (w3.alloc (.cells (rP xc xs az xk xf xv xg).toArray 57)) w.heap.size 57 7 ak.cells vb vw va (sB (fun x:ak=>x.key) lo (T.take k)) (sW (fun x:ak=>x.key) lo hi (T.take k)) (sA (fun x:ak=>x.key) lo hi (T.take k))):=ae ((OA.out.later HB3.out).later (aj _ _));clear hb3))
      | (with_reducible show cB 40 57 ..;go_must (refine dF wr.heap.size 0 7 dD _ _ HW3.out (rP xc xs az xk xf xv xg) ?_))
      | (at_builtin;go_must (refine aZ _ rfl _ _ 27 rfl w.heap.size 57 i0 (.agg bA.toArray) 7 40 qy hi0 hz0 hz1 hz2 rfl (by decide) va (sA (fun x:ak=>x.key) lo hi (T.take k)).length ((sA (fun x:ak=>x.key) lo hi (T.take k)).map ak.cells).flatten rfl zB.out.o3 ⟨w3.heap.size,0,none⟩ 1 1 (rP xc xs az xk xf xv xg) rfl rfl (cu rfl) (cz rfl) (by have:=HN.out.2.1;unfold maxLen;omega) (by have:=HN.out.2.1;omega) (by have h1:=HB3.out.size;have h2:=bV.out.size;simp;omega) ?_;intro v9 w9 bJ gZ)))
     have O9:=ae ((zB.out.I9.I9.grow (y:=(ak.mk xc xs az xk xf xv xg)) gZ bJ).I9);have o8:Hid (Below w.heap.size w w9):=dO (ai bV.out (ai HB3.out (aj _ _))) gZ (fun j hj=>(zB.out.o3.lt j hj).1);clear bJ gZ;go_wp2_with fail
     go_roundw
     case rel=>exact ⟨k+1,_,_,_,rfl,rfl,rfl,by omega,by go_num,HE.out _ _ _ _ O9.out,o8.out⟩
     case measure=>simp [intOf];omega
    ·have hd2:decide (hi<az)=false:=by simp [h2]
     rw [hd2] at nW nA;have HE:Hid (∀ (w9:World) (v1 v2 v3:Value),Own3 w9 w.heap.size 57 7 ak.cells v1 v2 v3 (sB (fun x:ak=>x.key) lo (T.take k)) ((sW (fun x:ak=>x.key) lo hi (T.take k))++[(ak.mk xc xs az xk xf xv xg)]) (sA (fun x:ak=>x.key) lo hi (T.take k))→Own3 w9 w.heap.size 57 7 ak.cells v1 v2 v3 (sB (fun x:ak=>x.key) lo (T.take (k+1))) (sW (fun x:ak=>x.key) lo hi (T.take (k+1))) (sA (fun x:ak=>x.key) lo hi (T.take (k+1)))):=fun w9 v1 v2 v3 ho=>by
      unfold sB sW sA at ho ⊢;rw [nB,nW,nA];exact ho
     clear nB nW nA;go_wp2_with (first
      | (with_reducible show cB 19 57 ..;go_must (refine bB rfl _ _ rfl b (off+k*7) rfl 7 _ dD rfl (by kernel_rfl) (rP xc xs az xk xf xv xg) rfl HC.out ?_))
      | (with_reducible show dJ 57 12 ..;go_must (refine fH wr.heap.size 0 (rP xc xs az xk xf xv xg) _ _ _ (heap_alloc_new wr (.cells bA.toArray 57)) (rP xc xs az xk xf xv xg) ?_;intro w2 hw ho;have HW2:Hid (w2.heap[wr.heap.size]? = some (.cells (rP xc xs az xk xf xv xg).toArray 57)):=ae hw;have HB2:Hid (Below wr.heap.size wr w2):=ae ((aj wr _).trans (ho.below (Nat.le_refl _)));clear hw ho))
      | (with_reducible show cB 21 57 ..;go_must (refine dF wr.heap.size 0 7 dD _ _ HW2.out (rP xc xs az xk xf xv xg) ?_))
      | (go_at_call 93;go_must (refine (Il _ xc xs az xk xf xv xg).mono ?_;rintro e w3 ⟨rfl,hb3⟩;have HW3:Hid (w3.heap[wr.heap.size]? = some (.cells (rP xc xs az xk xf xv xg).toArray 57)):=ae (af hb3 HW2.out);have HB3:Hid (Below wr.heap.size wr w3):=ae (ai HB2.out hb3);have zB:Hid (Own3 (w3.alloc (.cells (rP xc xs az xk xf xv xg).toArray 57)) w.heap.size 57 7 ak.cells vb vw va (sB (fun x:ak=>x.key) lo (T.take k)) (sW (fun x:ak=>x.key) lo hi (T.take k)) (sA (fun x:ak=>x.key) lo hi (T.take k))):=ae ((OA.out.later HB3.out).later (aj _ _));clear hb3))
      | (with_reducible show cB 24 57 ..;go_must (refine dF wr.heap.size 0 7 dD _ _ HW3.out (rP xc xs az xk xf xv xg) ?_))
      | (at_builtin;go_must (refine aZ _ rfl _ _ 27 rfl w.heap.size 57 i0 (.agg bA.toArray) 7 40 qy hi0 hz0 hz1 hz2 rfl (by decide) vw (sW (fun x:ak=>x.key) lo hi (T.take k)).length ((sW (fun x:ak=>x.key) lo hi (T.take k)).map ak.cells).flatten rfl zB.out.o2 ⟨w3.heap.size,0,none⟩ 1 1 (rP xc xs az xk xf xv xg) rfl rfl (cu rfl) (cz rfl) (by have:=HN.out.2.2;unfold maxLen;omega) (by have:=HN.out.2.2;omega) (by have h1:=HB3.out.size;have h2:=bV.out.size;simp;omega) ?_;intro v9 w9 bJ gZ)))
     have O9:=ae ((zB.out.I9.grow (y:=(ak.mk xc xs az xk xf xv xg)) gZ bJ).I9.I9);have o8:Hid (Below w.heap.size w w9):=dO (ai bV.out (ai HB3.out (aj _ _))) gZ (fun j hj=>(zB.out.o2.lt j hj).1);clear bJ gZ;go_wp2_with fail
     go_roundw
     case rel=>exact ⟨k+1,_,_,_,rfl,rfl,rfl,by omega,by go_num,HE.out _ _ _ _ O9.out,o8.out⟩
     case measure=>simp [intOf];omega
  ·have hdk:decide ((k:Int)<(n:Int))=false:=by simp;omega
   obtain rfl:k=n:=by omega
   have OT:Hid (Own3 wr w.heap.size 57 7 ak.cells vb vw va (sB (fun x:ak=>x.key) lo T) (sW (fun x:ak=>x.key) lo hi T) (sA (fun x:ak=>x.key) lo hi T)):=by
    have:=OA.out;rw [HL.out,List.take_length] at this;exact this
   go_wp2_with fail
   go_ret3
   exact ⟨_,_,_,rfl,OT.out,bV.out⟩
end
end Go.Proofs.YtignemioillaiaaGreat
