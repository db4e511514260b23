/- Fresh lists. -/
import Derived.Test.YtignemioillaiaaGreatG07
namespace Go.Proofs.YtignemioillaiaaGreat
set_option maxHeartbeats 8000000
set_option maxRecDepth 100000
section
open Go.RowKit Go.Lib
theorem Xb:(Tryz.prog.info? 128).map (fun i=>(i.zero,i.size,i.bytes))=some (some (.agg #[.int .u64 0,.int .u64 0]),2,16):=by kernel_rfl
theorem Xc (w:World) (base:Nat) (v:Value) (n:Nat) (xs:List (List Value)) (hown:w.ownsRow base 128 2 v n xs.flatten) (hn:n=xs.length) (hall:∀ y∈xs,y.length=2) (h1:∀ u∈xs.flatten,u.oneCell'=true) (hl:n<1000000) :
 Calls Tryz.prog 76 #[v] w fun e w'=>∃ v',e=.returned v'∧w'.ownsRow w.heap.size 128 2 v' n xs.flatten∧Below w.heap.size w w':=by
 obtain ⟨i0,hi0,hz0,hz1,hz2⟩:=info_parts Xb;subst hn;obtain ⟨a,m,c,rfl,hin,hnil⟩:=qj hown hall;have hm:m=xs.length:=hin.len;have HI:Hid (bQ w.heap.size w ⟨a,m,c⟩ 2 xs):=hin;have HM:Hid (m=xs.length):=hm;clear hin hm hown;go_enter Tryz.func76,Tryz.ntmps76
 go_wp2_with (at_builtin;go_must (refine mG rfl _ _ 25 rfl 128 i0 (.agg #[.int .u64 0,.int .u64 0]) 2 16 rE hi0 hz0 hz1 hz2 rfl (by decide) rfl w.heap.size a m c rfl xs HI.out hnil hall h1 (by have:=HM.out;omega) ?_;intro v' w1 ho hg))
 all_goals (
  go_wp2
  go_ret
  exact ⟨v',rfl,ho,⟨hg.os,hg.tape,hg.output,hg.size,fun k hk=>hg.block k hk (by simp)⟩⟩)
theorem Sj:(Tryz.prog.info? 107).map (fun i=>(i.zero,i.size,i.bytes))=some (some (.agg #[.int .u64 0,.int .u8 0]),2,16):=by kernel_rfl
theorem afd (w:World) (base:Nat) (v:Value) (n:Nat) (xs:List (List Value)) (hown:w.ownsRow base 107 2 v n xs.flatten) (hn:n=xs.length) (hall:∀ y∈xs,y.length=2) (h1:∀ u∈xs.flatten,u.oneCell'=true) (hl:n<1000000) :
 Calls Tryz.prog 77 #[v] w fun e w'=>∃ v',e=.returned v'∧w'.ownsRow w.heap.size 107 2 v' n xs.flatten∧Below w.heap.size w w':=by
 obtain ⟨i0,hi0,hz0,hz1,hz2⟩:=info_parts Sj;subst hn;obtain ⟨a,m,c,rfl,hin,hnil⟩:=qj hown hall;have hm:m=xs.length:=hin.len;have HI:Hid (bQ w.heap.size w ⟨a,m,c⟩ 2 xs):=hin;have HM:Hid (m=xs.length):=hm;clear hin hm hown;go_enter Tryz.func77,Tryz.ntmps77
 go_wp2_with (at_builtin;go_must (refine mG rfl _ _ 26 rfl 107 i0 (.agg #[.int .u64 0,.int .u8 0]) 2 16 Lv hi0 hz0 hz1 hz2 rfl (by decide) rfl w.heap.size a m c rfl xs HI.out hnil hall h1 (by have:=HM.out;omega) ?_;intro v' w1 ho hg))
 all_goals (
  go_wp2
  go_ret
  exact ⟨v',rfl,ho,⟨hg.os,hg.tape,hg.output,hg.size,fun k hk=>hg.block k hk (by simp)⟩⟩)
theorem Xd:(Tryz.prog.info? 57).map (fun i=>(i.zero,i.size,i.bytes))=some (some (.agg bA.toArray),7,40):=by kernel_rfl
theorem Xe (w:World) (base:Nat) (v:Value) (n:Nat) (xs:List (List Value)) (hown:w.ownsRow base 57 7 v n xs.flatten) (hn:n=xs.length) (hall:∀ y∈xs,y.length=7) (h1:∀ u∈xs.flatten,u.oneCell'=true) (hl:n<1000000) :
 Calls Tryz.prog 78 #[v] w fun e w'=>∃ v',e=.returned v'∧w'.ownsRow w.heap.size 57 7 v' n xs.flatten∧Below w.heap.size w w':=by
 obtain ⟨i0,hi0,hz0,hz1,hz2⟩:=info_parts Xd;subst hn;obtain ⟨a,m,c,rfl,hin,hnil⟩:=qj hown hall;have hm:m=xs.length:=hin.len;have HI:Hid (bQ w.heap.size w ⟨a,m,c⟩ 7 xs):=hin;have HM:Hid (m=xs.length):=hm;clear hin hm hown;go_enter Tryz.func78,Tryz.ntmps78
 go_wp2_with (at_builtin;go_must (refine mG rfl _ _ 27 rfl 57 i0 (.agg bA.toArray) 7 40 qy hi0 hz0 hz1 hz2 rfl (by decide) rfl w.heap.size a m c rfl xs HI.out hnil hall h1 (by have:=HM.out;omega) ?_;intro v' w1 ho hg))
 all_goals (
  go_wp2
  go_ret
  exact ⟨v',rfl,ho,⟨hg.os,hg.tape,hg.output,hg.size,fun k hk=>hg.block k hk (by simp)⟩⟩)
theorem Jo:(Tryz.prog.info? 47).map (fun i=>(i.zero,i.size,i.bytes))=some (some (.int .u32 0),1,4):=by kernel_rfl
theorem acQ (w:World) (base:Nat) (v:Value) (n:Nat) (xs:List (List Value)) (hown:w.ownsRow base 47 1 v n xs.flatten) (hn:n=xs.length) (hall:∀ y∈xs,y.length=1) (h1:∀ u∈xs.flatten,u.oneCell'=true) (hl:n<1000000) :
 Calls Tryz.prog 79 #[v] w fun e w'=>∃ v',e=.returned v'∧w'.ownsRow w.heap.size 47 1 v' n xs.flatten∧Below w.heap.size w w':=by
 obtain ⟨i0,hi0,hz0,hz1,hz2⟩:=info_parts Jo;subst hn;obtain ⟨a,m,c,rfl,hin,hnil⟩:=qj hown hall;have hm:m=xs.length:=hin.len;have HI:Hid (bQ w.heap.size w ⟨a,m,c⟩ 1 xs):=hin;have HM:Hid (m=xs.length):=hm;clear hin hm hown;go_enter Tryz.func79,Tryz.ntmps79
 go_wp2_with (at_builtin;go_must (refine mG rfl _ _ 29 rfl 47 i0 (.int .u32 0) 1 4 RL hi0 hz0 hz1 hz2 rfl (by decide) rfl w.heap.size a m c rfl xs HI.out hnil hall h1 (by have:=HM.out;omega) ?_;intro v' w1 ho hg))
 all_goals (
  go_wp2
  go_ret
  exact ⟨v',rfl,ho,⟨hg.os,hg.tape,hg.output,hg.size,fun k hk=>hg.block k hk (by simp)⟩⟩)
theorem Ii:(Tryz.prog.info? 103).map (fun i=>(i.zero,i.size,i.bytes))=some (some (.agg #[.int .u32 0,.slice none 0 0]),2,32):=by kernel_rfl
theorem abE (w:World) (base:Nat) (v:Value) (n:Nat) (xs:List (List Value)) (hown:w.ownsRow base 103 2 v n xs.flatten) (hn:n=xs.length) (hall:∀ y∈xs,y.length=2) (h1:∀ u∈xs.flatten,u.oneCell'=true) (hl:n<1000000) :
 Calls Tryz.prog 80 #[v] w fun e w'=>∃ v',e=.returned v'∧w'.ownsRow w.heap.size 103 2 v' n xs.flatten∧Below w.heap.size w w':=by
 obtain ⟨i0,hi0,hz0,hz1,hz2⟩:=info_parts Ii;subst hn;obtain ⟨a,m,c,rfl,hin,hnil⟩:=qj hown hall;have hm:m=xs.length:=hin.len;have HI:Hid (bQ w.heap.size w ⟨a,m,c⟩ 2 xs):=hin;have HM:Hid (m=xs.length):=hm;clear hin hm hown;go_enter Tryz.func80,Tryz.ntmps80
 go_wp2_with (at_builtin;go_must (refine mG rfl _ _ 28 rfl 103 i0 (.agg #[.int .u32 0,.slice none 0 0]) 2 32 RJ hi0 hz0 hz1 hz2 rfl (by decide) rfl w.heap.size a m c rfl xs HI.out hnil hall h1 (by have:=HM.out;omega) ?_;intro v' w1 ho hg))
 all_goals (
  go_wp2
  go_ret
  exact ⟨v',rfl,ho,⟨hg.os,hg.tape,hg.output,hg.size,fun k hk=>hg.block k hk (by simp)⟩⟩)
theorem Xf:(Tryz.prog.info? 52).map (fun i=>(i.zero,i.size,i.bytes))=some (some (.agg Fz.toArray),7,72):=by kernel_rfl
theorem acR (w:World) (base:Nat) (v:Value) (n:Nat) (xs:List (List Value)) (hown:w.ownsRow base 52 7 v n xs.flatten) (hn:n=xs.length) (hall:∀ y∈xs,y.length=7) (h1:∀ u∈xs.flatten,u.oneCell'=true) (hl:n<1000000) :
 Calls Tryz.prog 131 #[v] w fun e w'=>∃ v',e=.returned v'∧w'.ownsRow w.heap.size 52 7 v' n xs.flatten∧Below w.heap.size w w':=by
 obtain ⟨i0,hi0,hz0,hz1,hz2⟩:=info_parts Xf;subst hn;obtain ⟨a,m,c,rfl,hin,hnil⟩:=qj hown hall;have hm:m=xs.length:=hin.len;have HI:Hid (bQ w.heap.size w ⟨a,m,c⟩ 7 xs):=hin;have HM:Hid (m=xs.length):=hm;clear hin hm hown;go_enter Tryz.func131,Tryz.ntmps131
 go_wp2_with (at_builtin;go_must (refine mG rfl _ _ 101 rfl 52 i0 (.agg Fz.toArray) 7 72 Hr hi0 hz0 hz1 hz2 rfl (by decide) rfl w.heap.size a m c rfl xs HI.out hnil hall h1 (by have:=HM.out;omega) ?_;intro v' w1 ho hg))
 all_goals (
  go_wp2
  go_ret
  exact ⟨v',rfl,ho,⟨hg.os,hg.tape,hg.output,hg.size,fun k hk=>hg.block k hk (by simp)⟩⟩)
def gV (x y:Value):Prop:=x.ownBlock=none∨x.ownBlock≠y.ownBlock
theorem gV.symm {x y:Value} (h:gV x y):gV y x:=by
 rcases h with h | h
 ·cases hy:y.ownBlock with
  | none=>exact .inl hy
  | some c=>exact .inr (by rw [h,hy];simp)
 ·exact .inr (Ne.symm h)
theorem gV.lt {x y:Value} {B:Nat} (h1:∀ k,x.ownBlock=some k→k<B) (h2:∀ k,y.ownBlock=some k→B≤k):gV x y:=by
 cases hx:x.ownBlock with
 | none=>exact .inl hx
 | some c=>exact .inr fun e=>by have a:=h1 c hx;have b:=h2 c (by rw [← e,hx]);omega
structure Rg where
 (src dst seq lo hi:Int)
 rows:List Row
 bP:List ak
def aF.core (r:aF):Rg:=⟨r.src,r.dst,r.seq,r.lo,r.hi,r.rows,r.bP⟩
structure ax where
 next:Int
 qs:Sl
 q:List aF
def ax.cells (l:ax):List Value:=[.int .u32 l.next,l.qs.val]
def ax.core (l:ax):Int×List Rg:=(l.next,l.q.map aF.core)
def yA (i:Int):List Value:=[.int .u32 i]
def QV (L:List ax):List Value:=L.map fun l=>l.qs.val
def RV (q:List aF):List Value:=q.map fun r=>r.rs.val
def DV (q:List aF):List Value:=q.map fun r=>r.ds.val
def mH (L:List ax):List aF:=L.flatMap ax.q
structure RM (w:World) (base:Nat) (q:List aF):Prop where
 rows:∀ r∈q,w.ownsRow base 128 2 r.rs.val r.rows.length (r.rows.map Row.cells).flatten
 bP:∀ r∈q,w.ownsRow base 57 7 r.ds.val r.bP.length (r.bP.map ak.cells).flatten
 ar:(RV q).Pairwise gV
 ad:(DV q).Pairwise gV
structure LM (w:World) (base:Nat) (L:List ax):Prop where
 own:∀ l∈L,w.ownsRow base 52 7 l.qs.val l.q.length (l.q.map aF.cells).flatten
 aq:(QV L).Pairwise gV
 rm:RM w base (mH L)
structure ShM (w:World) (base:Nat) (vT vM vD vO vI:Value) (T:List Row) (M:List Pc) (D:List ak) (L:List ax) (I:List Int):Prop where
 oT:w.ownsRow base 128 2 vT T.length (T.map Row.cells).flatten
 oM:w.ownsRow base 107 2 vM M.length (M.map Pc.cells).flatten
 oD:w.ownsRow base 57 7 vD D.length (D.map ak.cells).flatten
 oO:w.ownsRow base 103 2 vO L.length (L.map ax.cells).flatten
 oI:w.ownsRow base 47 1 vI I.length (I.map yA).flatten
 ln:LM w base L
 aT:∀ v∈RV (mH L),gV vT v
 aD:∀ v∈DV (mH L),gV vD v
theorem dE {w:World} {base base':Nat} {e:TypeId} {k n:Nat} {v:Value} {xs:List Value} (h:w.ownsRow base e k v n xs) (hb:base'≤base):w.ownsRow base' e k v n xs :=
 ⟨h.1,h.2.imp id fun ⟨g,cap,cur,h1,h2,h3⟩=>⟨g,cap,cur,h1,Nat.le_trans hb h2,h3⟩⟩
theorem pO {w:World} {base:Nat} {e:TypeId} {k n m:Nat} {a:Option Addr} {c:Nat} {xs:List Value} (h:w.ownsRow base e k (.slice a m c) n xs):m=n:=by
 rcases h.2 with ⟨h1,h2⟩ | ⟨_,_,_,h1,_⟩
 ·cases h1;exact h2.symm
 ·cases h1;rfl
structure av (A:Nat→Prop) (w w':World):Prop where
 os:w'.os=w.os
 tape:w'.tape=w.tape
 output:w'.output=w.output
 size:w.heap.size≤w'.heap.size
 block:∀ k,k<w.heap.size→¬ A k→w'.heap[k]? = w.heap[k]?
theorem av.refl (A:Nat→Prop) (w:World):av A w w:=⟨rfl,rfl,rfl,Nat.le_refl _,fun _ _ _=>rfl⟩
theorem av.trans {A:Nat→Prop} {a b c:World} (h:av A a b) (k:av A b c):av A a c :=
 ⟨k.os.trans h.os,k.tape.trans h.tape,k.output.trans h.output,Nat.le_trans h.size k.size,fun j hj hA=>(k.block j (Nat.lt_of_lt_of_le hj h.size) hA).trans (h.block j hj hA)⟩
theorem av.trans' {A A':Nat→Prop} {a b c:World} (h:av A a b) (k:av A' b c) (hs:∀ j,j<a.heap.size→A' j→A j):av A a c :=
 ⟨k.os.trans h.os,k.tape.trans h.tape,k.output.trans h.output,Nat.le_trans h.size k.size,fun j hj hA=>(k.block j (Nat.lt_of_lt_of_le hj h.size) (fun e=>hA (hs j hj e))).trans (h.block j hj hA)⟩
theorem av.later {A:Nat→Prop} {w w':World} (h:Below w.heap.size w w'):av A w w':=⟨h.os,h.tape,h.output,h.size,fun k hk _=>h.block k hk⟩
theorem av.only {A:Nat→Prop} {w w':World} {B:Nat} (h:Only B w w') (hB:A B):av A w w':=⟨h.os,h.tape,h.output,Nat.le_of_eq h.size.symm,fun k _ hA=>h.block k (fun e=>hA (e ▸ hB))⟩
theorem av.mono {A A':Nat→Prop} {w w':World} (h:av A w w') (hs:∀ j,j<w.heap.size→A j→A' j):av A' w w':=⟨h.os,h.tape,h.output,h.size,fun k hk hA=>h.block k hk (fun e=>hA (hs k hk e))⟩
theorem av.below {A:Nat→Prop} {w w':World} {B:Nat} (h:av A w w') (hB:∀ k,k<B→k<w.heap.size∧¬ A k):Below B w w':=⟨h.os,h.tape,h.output,h.size,fun k hk=>h.block k (hB k hk).1 (hB k hk).2⟩
theorem dB {A:Nat→Prop} {w w':World} {b:Nat} {e:TypeId} {size n:Nat} {v:Value} {xs:List Value} (h:w.ownsRow b e size v n xs) (hf:av A w w') (hA:∀ k,v.ownBlock=some k→¬ A k):w'.ownsRow b e size v n xs:=by
 refine ⟨h.1,?_⟩;rcases h.2 with h1 | ⟨g,cap,cur,rfl,h2,h3,h4⟩
 ·exact .inl h1
 ·exact .inr ⟨g,cap,cur,rfl,h2,(hf.block g (df h3) (hA g rfl)).trans h3,h4⟩
theorem nQ {A:Nat→Prop} {w w':World} {B:Nat} {o:Obj} (h:w.heap[B]? = some o) (hf:av A w w') (hA:¬ A B):w'.heap[B]? = some o:=(hf.block B (df h) hA).trans h
theorem RM.dX {A:Nat→Prop} {w w':World} {base:Nat} {q:List aF} (h:RM w base q) (hf:av A w w') (h1:∀ v∈RV q,∀ k,v.ownBlock=some k→¬ A k) (h2:∀ v∈DV q,∀ k,v.ownBlock=some k→¬ A k):RM w' base q :=
 ⟨fun r hr=>dB (h.rows r hr) hf (h1 _ (List.mem_map.2 ⟨r,hr,rfl⟩)),fun r hr=>dB (h.bP r hr) hf (h2 _ (List.mem_map.2 ⟨r,hr,rfl⟩)),h.ar,h.ad⟩
theorem RM.later {w w':World} {base:Nat} {q:List aF} (h:RM w base q) (hb:Below w.heap.size w w'):RM w' base q:=⟨fun r hr=>ay (h.rows r hr) hb,fun r hr=>ay (h.bP r hr) hb,h.ar,h.ad⟩
theorem RM.mono {w:World} {base base':Nat} {q:List aF} (h:RM w base q) (hb:base'≤base):RM w base' q:=⟨fun r hr=>dE (h.rows r hr) hb,fun r hr=>dE (h.bP r hr) hb,h.ar,h.ad⟩
theorem RM.nil (w:World) (base:Nat):RM w base []:=⟨fun _ hr=>absurd hr (List.not_mem_nil),fun _ hr=>absurd hr (List.not_mem_nil),List.Pairwise.nil,List.Pairwise.nil⟩
theorem RM.GH {w:World} {base:Nat} {q:List aF} (h:RM w base q) {v:Value} (hv:v∈RV q):∀ k,v.ownBlock=some k→base≤k∧k<w.heap.size:=by
 obtain ⟨r,hr,rfl⟩:=List.mem_map.1 hv;exact fun k hk=>(h.rows r hr).lt k hk
theorem RM.GI {w:World} {base:Nat} {q:List aF} (h:RM w base q) {v:Value} (hv:v∈DV q):∀ k,v.ownBlock=some k→base≤k∧k<w.heap.size:=by
 obtain ⟨r,hr,rfl⟩:=List.mem_map.1 hv;exact fun k hk=>(h.bP r hr).lt k hk
theorem RM.append {w:World} {base B:Nat} {q p:List aF} (h:RM w base q) (hp:RM w base p) (h1:∀ v∈RV q,∀ k,v.ownBlock=some k→k<B) (h2:∀ v∈DV q,∀ k,v.ownBlock=some k→k<B) (h3:∀ v∈RV p,∀ k,v.ownBlock=some k→B≤k) (h4:∀ v∈DV p,∀ k,v.ownBlock=some k→B≤k):RM w base (q++p):=by
 refine ⟨fun r hr=>?_,fun r hr=>?_,?_,?_⟩
 ·rcases List.mem_append.1 hr with hr | hr
  ·exact h.rows r hr
  ·exact hp.rows r hr
 ·rcases List.mem_append.1 hr with hr | hr
  ·exact h.bP r hr
  ·exact hp.bP r hr
 ·unfold RV;rw [List.map_append,List.pairwise_append]
  exact ⟨h.ar,hp.ar,fun a ha b hb=>gV.lt (h1 a ha) (h3 b hb)⟩
 ·unfold DV;rw [List.map_append,List.pairwise_append]
  exact ⟨h.ad,hp.ad,fun a ha b hb=>gV.lt (h2 a ha) (h4 b hb)⟩
theorem LM.later {w w':World} {base:Nat} {L:List ax} (h:LM w base L) (hb:Below w.heap.size w w'):LM w' base L:=⟨fun l hl=>ay (h.own l hl) hb,h.aq,h.rm.later hb⟩
theorem LM.mono {w:World} {base base':Nat} {L:List ax} (h:LM w base L) (hb:base'≤base):LM w base' L:=⟨fun l hl=>dE (h.own l hl) hb,h.aq,h.rm.mono hb⟩
theorem LM.nil (w:World) (base:Nat):LM w base []:=⟨fun _ hr=>absurd hr (List.not_mem_nil),List.Pairwise.nil,RM.nil w base⟩
theorem ShM.later {w w':World} {base:Nat} {vT vM vD vO vI:Value} {T:List Row} {M:List Pc} {D:List ak} {L:List ax} {I:List Int} (h:ShM w base vT vM vD vO vI T M D L I) (hb:Below w.heap.size w w'):ShM w' base vT vM vD vO vI T M D L I :=
 ⟨ay h.oT hb,ay h.oM hb,ay h.oD hb,ay h.oO hb,ay h.oI hb,h.ln.later hb,h.aT,h.aD⟩
theorem ShM.mono {w:World} {base base':Nat} {vT vM vD vO vI:Value} {T:List Row} {M:List Pc} {D:List ak} {L:List ax} {I:List Int} (h:ShM w base vT vM vD vO vI T M D L I) (hb:base'≤base):ShM w base' vT vM vD vO vI T M D L I :=
 ⟨dE h.oT hb,dE h.oM hb,dE h.oD hb,dE h.oO hb,dE h.oI hb,h.ln.mono hb,h.aT,h.aD⟩
theorem kS {w:World} {base:Nat} {e:TypeId} {k n:Nat} {v:Value} {xs:List Value} (h:w.ownsRow base e k v n xs) (hn:0<n) :
 ∃ (g cap:Nat) (cur:List Value),v=.slice (some ⟨g,0,none⟩) n cap∧base≤g∧w.heap[g]? = some (.cells cur.toArray e)∧n*k≤cur.length∧cur.length=cap*k∧n≤cap∧cap≤maxLen∧cur.take (n*k)=xs∧xs.length=n*k ∧
  (∀ (w':World) (ys:List Value),ys.length=cur.length→w'.heap[g]? = some (.cells ys.toArray e)→w'.ownsRow base e k v n (ys.take (n*k))):=by
 rcases h.2 with ⟨_,h0⟩ | ⟨g,cap,cur,rfl,h2,h3,h4,h5,h6,h7⟩
 ·omega
 ·have hl:n*k≤cur.toList.length:=by rw [Array.length_toList,h6];exact Nat.mul_le_mul_right _ h4
  refine ⟨g,cap,cur.toList,rfl,h2,by rw [Array.toArray_toList];exact h3,hl,by rw [Array.length_toList];exact h6,h4,h5,h7,h.1,fun w' ys hy hw=>?_⟩;have hy2:ys.length=cap*k:=by rw [hy,Array.length_toList,h6]
  exact ⟨by rw [List.length_take,hy2];exact Nat.min_eq_left (Nat.mul_le_mul_right _ h4),.inr ⟨g,cap,ys.toArray,rfl,h2,hw,h4,h5,by simpa using hy2,by simp⟩⟩
theorem Ij {cur xs:List Value} {m o:Nat} {u:Value} (ht:cur.take m=xs) (ho:o<m) (hm:m≤cur.length):(cur.take o++[u]++cur.drop (o+1)).take m=xs.set o u∧(cur.take o++[u]++cur.drop (o+1)).length=cur.length:=by
 have e:cur.take o++[u]++cur.drop (o+1)=cur.set o u:=by
  rw [List.set_eq_take_append_cons_drop,if_pos (by omega)];simp
 rw [e,List.take_set,ht];exact ⟨rfl,List.length_set⟩
theorem yT {α:Type} {f:α→List Value} {s:Nat} (hf:∀ y,(f y).length=s):∀ (l:List α) (k j:Nat) (x x':α) (u:Value),l[k]? = some x→j<s→f x'=(f x).set j u→((l.map f).flatten).set (k*s+j) u=((l.set k x').map f).flatten
 | [],k,j,x,x',u,h,_,_=>by simp at h
 | a::r,0,j,x,x',u,h,hj,hx=>by
  simp at h;subst h;simp only [List.map_cons,List.flatten_cons,Nat.zero_mul,Nat.zero_add,List.set_cons_zero];rw [List.set_append_left _ _ (by rw [hf];exact hj),hx]
 | a::r,k+1,j,x,x',u,h,hj,hx=>by
  simp only [List.map_cons,List.flatten_cons,List.set_cons_succ];rw [List.set_append_right _ _ (by rw [hf,Nat.succ_mul];omega),hf,show (k+1)*s+j - s=k*s+j by rw [Nat.succ_mul];omega];rw [yT hf r k j x x' u (by simpa using h) hj hx]
theorem Oo {α:Type} {f:α→List Value} {s:Nat} (hf:∀ y,(f y).length=s) {l:List α} {k:Nat} {x:α} (h:l[k]? = some x) {cur:List Value} {n:Nat} (ht:cur.take (n*s)=(l.map f).flatten) (hn:l.length=n):(cur.drop (k*s)).take s=f x:=by
 have hk:=(mV h);have e1:(cur.drop (k*s)).take s=((cur.take (n*s)).drop (k*s)).take s:=by
  rw [List.drop_take,List.take_take,Nat.min_eq_left];have:(k+1)*s≤n*s:=Nat.mul_le_mul_right _ (by omega);rw [Nat.succ_mul] at this;omega
 rw [e1,ht,AU hf];have e2:l.drop k=x::l.drop (k+1):=by
  rw [List.drop_eq_getElem_cons hk];congr 1
  exact (List.getElem?_eq_some_iff.1 h).2
 rw [e2,List.map_cons,List.flatten_cons,List.take_append_of_le_length (by rw [hf];exact Nat.le_refl _),List.take_of_length_le (by rw [hf];exact Nat.le_refl _)]
theorem qM {α:Type} {f:α→List Value} {s:Nat} (hf:∀ y,(f y).length=s) {l:List α} {k j:Nat} {x:α} {u:Value} (h:l[k]? = some x) (hu:(f x)[j]? = some u) {cur:List Value} {n:Nat} (ht:cur.take (n*s)=(l.map f).flatten) (hn:l.length=n):cur[k*s+j]? = some u:=by
 have hk:=(mV h);have hj:=(mV hu);rw [hf] at hj;have:=Oo hf h ht hn;rw [← this,List.getElem?_take,if_pos hj,List.getElem?_drop] at hu;exact hu
theorem BZ:∀ y:aF,(aF.cells y).length=7:=fun _=>rfl
theorem Pe (q:List aF):∀ u∈(q.map aF.cells).flatten,u.oneCell'=true:=by
 intro u hu;obtain ⟨l,hl,hu⟩:=List.mem_flatten.1 hu;obtain ⟨r,_,rfl⟩:=List.mem_map.1 hl;simp [aF.cells] at hu;rcases hu with rfl | rfl | rfl | rfl | rfl | rfl | rfl <;> rfl
theorem Sk (q:List aF):∀ y∈q.map aF.cells,y.length=7:=by
 intro y hy;obtain ⟨r,_,rfl⟩:=List.mem_map.1 hy;rfl
theorem Sm (T:List Row):∀ y∈T.map Row.cells,y.length=2:=by
 intro y hy;obtain ⟨r,_,rfl⟩:=List.mem_map.1 hy;rfl
theorem Sn (D:List ak):∀ y∈D.map ak.cells,y.length=7:=by
 intro y hy;obtain ⟨r,_,rfl⟩:=List.mem_map.1 hy;rfl
def Sq (w:World) (q:List aF) (v:Value) (w':World):Prop:=∃ (s:Sl) (p:List aF),v=s.val∧w'.ownsRow w.heap.size 52 7 s.val q.length (p.map aF.cells).flatten∧p.map aF.core=q.map aF.core∧RM w' w.heap.size p
structure Sr (w wr:World) (q p:List aF) (k:Nat) (v:Value):Prop where
 len:p.length=k
 core:p.map aF.core=(q.take k).map aF.core
 own:wr.ownsRow w.heap.size 52 7 v q.length ((p++q.drop k).map aF.cells).flatten
 rm:RM wr w.heap.size p
 zA:Below w.heap.size w wr
theorem RM.one {w:World} {base:Nat} {r:aF} (h1:w.ownsRow base 128 2 r.rs.val r.rows.length (r.rows.map Row.cells).flatten) (h2:w.ownsRow base 57 7 r.ds.val r.bP.length (r.bP.map ak.cells).flatten):RM w base [r] :=
 ⟨fun x hx=>by rw [List.mem_singleton.1 hx];exact h1,fun x hx=>by rw [List.mem_singleton.1 hx];exact h2,List.pairwise_singleton _ _,List.pairwise_singleton _ _⟩
theorem Sr.step {w wr w1 w2 w3 w4 w5:World} {q p:List aF} {k g cap:Nat} {cur:List Value} {r:aF} {s1 s2:Sl} (h:Sr w wr q p k (.slice (some ⟨g,0,none⟩) q.length cap)) (hr:q[k]? = some r)
 (hg:wr.heap[g]? = some (.cells cur.toArray 52)) (hm:q.length*7≤cur.length) (ht:cur.take (q.length*7)=((p++q.drop k).map aF.cells).flatten)
 (hput:∀ (w':World) (ys:List Value),ys.length=cur.length→w'.heap[g]? = some (.cells ys.toArray 52)→w'.ownsRow w.heap.size 52 7 (.slice (some ⟨g,0,none⟩) q.length cap) q.length (ys.take (q.length*7)))
 (b1:Below wr.heap.size wr w1) (o2:w2.ownsRow w1.heap.size 128 2 s1.val r.rows.length (r.rows.map Row.cells).flatten) (b2:Below w1.heap.size w1 w2) (o3:Only g w2 w3)
 (b4:Below w3.heap.size w3 w4) (o4:w4.ownsRow w3.heap.size 57 7 s2.val r.bP.length (r.bP.map ak.cells).flatten) (o5:Only g w4 w5) (h5:w5.heap[g]? = some (.cells ((cur.take (k*7+5)++[s1.val]++cur.drop (k*7+5+1)).take (k*7+6)++[s2.val]++(cur.take (k*7+5)++[s1.val]++cur.drop (k*7+5+1)).drop (k*7+6+1)).toArray 52)) :
 Sr w w5 q (p++[{ r with rs:=s1,ds:=s2 }]) (k+1) (.slice (some ⟨g,0,none⟩) q.length cap):=by
 have hk:=(mV hr);have hgB:w.heap.size≤g:=by
  rcases h.own.2 with ⟨e,_⟩ | ⟨g',cap',cur',e,hb,_⟩
  ·cases e
  ·cases e;exact hb
 have hgl:g<wr.heap.size:=(df hg);obtain ⟨t1,l1⟩:=Ij (u:=s1.val) (o:=k*7+5) ht (by omega) hm;obtain ⟨t2,l2⟩:=Ij (u:=s2.val) (o:=k*7+6) t1 (by omega) (by rw [l1];exact hm);have hd:q.drop k=r::q.drop (k+1):=by
  rw [List.drop_eq_getElem_cons hk];congr 1
  exact (List.getElem?_eq_some_iff.1 hr).2
 have hat:(p++q.drop k)[k]? = some r:=by rw [List.getElem?_append_right (by rw [h.len];exact Nat.le_refl _),h.len,hd];simp
 have e1:=yT BZ (p++q.drop k) k 5 r { r with rs:=s1 } s1.val hat (by decide) rfl;have hlp:k<(p++q.drop k).length:=(mV hat);have e2:=yT BZ ((p++q.drop k).set k { r with rs:=s1 }) k 6 { r with rs:=s1 } { r with rs:=s1,ds:=s2 } s2.val (by rw [List.getElem?_set_self hlp]) (by decide) rfl;have e3:((p++q.drop k).set k { r with rs:=s1 }).set k { r with rs:=s1,ds:=s2 }=(p++[{ r with rs:=s1,ds:=s2 }])++q.drop (k+1):=by
  rw [List.set_set,List.set_append_right _ _ (by rw [h.len];exact Nat.le_refl _),h.len,Nat.sub_self,hd];simp
 have bw1:=h.zA.trans (b1.mono h.zA.size);have bw2:=bw1.trans (b2.mono bw1.size);have bw3:=bw2.trans (o3.below hgB);have bw4:=bw3.trans (b4.mono bw3.size);have bw5:=bw4.trans (o5.below hgB);have hK3:∀ {x:List aF},RM w2 w.heap.size x→RM w3 w.heap.size x:=fun hx=>by
  have hG:w2.heap[g]? = some (.cells cur.toArray 52):=(b2.block g (Nat.lt_of_lt_of_le hgl b1.size)).trans ((b1.block g hgl).trans hg);refine hx.dX (av.only (A:=fun k=>k=g) o3 rfl) (fun v hv k hk e=>?_) (fun v hv k hk e=>?_)
  ·obtain ⟨y,hy,rfl⟩:=List.mem_map.1 hv
   subst e;rcases (hx.rows y hy).2 with ⟨e,_⟩ | ⟨g',_,_,e,_,hg',_⟩
   ·rw [e] at hk;cases hk
   ·rw [e] at hk;simp only [Value.ownBlock,Option.some.injEq] at hk;subst hk;rw [hG] at hg';injection hg' with h9;injection h9 with _ h9 _;exact absurd h9 (by decide)
  ·obtain ⟨y,hy,rfl⟩:=List.mem_map.1 hv
   subst e;rcases (hx.bP y hy).2 with ⟨e,_⟩ | ⟨g',_,_,e,_,hg',_⟩
   ·rw [e] at hk;cases hk
   ·rw [e] at hk;simp only [Value.ownBlock,Option.some.injEq] at hk;subst hk;rw [hG] at hg';injection hg' with h9;injection h9 with _ h9 _;exact absurd h9 (by decide)
 have hne1:∀ j,(s1.val).ownBlock=some j→w1.heap.size≤j∧j<w2.heap.size:=fun j hj=>o2.lt j hj
 have hne2:∀ j,(s2.val).ownBlock=some j→w3.heap.size≤j∧j<w4.heap.size:=fun j hj=>o4.lt j hj
 have hs2:w2.heap.size=w3.heap.size:=o3.size.symm;have R1:w5.ownsRow w.heap.size 128 2 s1.val r.rows.length (r.rows.map Row.cells).flatten:=by
  have a:=dB o2 (av.only (A:=fun k=>k=g) o3 rfl) (fun j hj e=>by have:=hne1 j hj;have:=b1.size;omega);have b:=ay a b4;have c:=dB b (av.only (A:=fun k=>k=g) o5 rfl) (fun j hj e=>by have:=hne1 j hj;have:=b1.size;omega);exact dE c bw1.size
 have R2:w5.ownsRow w.heap.size 57 7 s2.val r.bP.length (r.bP.map ak.cells).flatten:=by
  have c:=dB o4 (av.only (A:=fun k=>k=g) o5 rfl) (fun j hj e=>by have:=hne2 j hj;have:=b1.size;have:=b2.size;omega);exact dE c bw3.size
 have P5:RM w5 w.heap.size p:=by
  have a:=hK3 ((h.rm.later b1).later b2);have b:=a.later b4;have hG:w4.heap[g]? = w3.heap[g]?:=b4.block g (by have:=b1.size;have:=b2.size;omega);refine b.dX (av.only (A:=fun k=>k=g) o5 rfl) (fun v hv k hk e=>?_) (fun v hv k hk e=>?_)
  ·subst e
   obtain ⟨y,hy,rfl⟩:=List.mem_map.1 hv;rcases (h.rm.rows y hy).2 with ⟨e,_⟩ | ⟨g',_,_,e,_,hg',_⟩
   ·rw [e] at hk;cases hk
   ·rw [e] at hk;simp only [Value.ownBlock,Option.some.injEq] at hk;subst hk;rw [hg] at hg';injection hg' with h9;injection h9 with _ h9 _;exact absurd h9 (by decide)
  ·subst e
   obtain ⟨y,hy,rfl⟩:=List.mem_map.1 hv;rcases (h.rm.bP y hy).2 with ⟨e,_⟩ | ⟨g',_,_,e,_,hg',_⟩
   ·rw [e] at hk;cases hk
   ·rw [e] at hk;simp only [Value.ownBlock,Option.some.injEq] at hk;subst hk;rw [hg] at hg';injection hg' with h9;injection h9 with _ h9 _;exact absurd h9 (by decide)
 refine ⟨by simp [h.len],?_,?_,?_,bw5⟩
 ·rw [List.map_append,h.core,List.take_add_one,hr,List.map_append];rfl
 ·have:=hput w5 _ (by rw [l2,l1]) h5
  rw [t2,e1,e2,e3] at this;exact this
 ·refine RM.append (B:=wr.heap.size) P5 (RM.one R1 R2) (fun v hv k hk=>(h.rm.GH hv k hk).2) (fun v hv k hk=>(h.rm.GI hv k hk).2) (fun v hv k hk=>?_) (fun v hv k hk=>?_)
  ·rw [List.mem_singleton.1 hv] at hk
   exact Nat.le_trans b1.size (hne1 k hk).1
  ·rw [List.mem_singleton.1 hv] at hk
   have:=(hne2 k hk).1;have:=b1.size;have:=b2.size;omega
theorem acU (w:World) (base:Nat) (v:Value) (q:List aF) (hown:w.ownsRow base 52 7 v q.length (q.map aF.cells).flatten) (hrm:RM w base q) (hl:q.length<1000000) (hr:∀ r∈q,r.rows.length<1000000∧r.bP.length<1000000) :
 Calls Tryz.prog 81 #[v] w fun e w'=>∃ v',e=.returned v'∧Sq w q v' w'∧Below w.heap.size w w':=by
 have HOW:Hid (w.ownsRow base 52 7 v q.length (q.map aF.cells).flatten):=hown;have Su:Hid (RM w base q):=hrm;have HR:Hid (∀ r∈q,r.rows.length<1000000∧r.bP.length<1000000):=hr;clear hown hrm hr;go_enter Tryz.func81,Tryz.ntmps81
 go_wp2_with (go_at_call 131;go_must (refine (acR _ base v q.length (q.map aF.cells) HOW.out (by simp) (Sk q) (Pe q) hl).mono ?_;rintro e w1 ⟨v1,rfl,ho1,hb1⟩;obtain ⟨a,m,c,rfl⟩:=aB ho1;have lG:Hid (w1.ownsRow w.heap.size 52 7 (.slice a m c) q.length (q.map aF.cells).flatten):=ae ho1;have HB1:Hid (Below w.heap.size w w1):=ae hb1;have hm:m=q.length:=pO ho1;subst hm;clear ho1 hb1))
 go_loopw [9] (fun i wr=>∃ (k:Nat) (p:List aF),k≤q.length∧i=.int .i64 k∧Hid (Sr w wr q p k (.slice a q.length c))) (fun i _=>q.length - (intOf i).toNat)
 case atStart=>exact ⟨0,[],Nat.zero_le _,rfl,⟨rfl,rfl,lG.out,RM.nil _ _,HB1.out⟩⟩
 case round =>
  obtain ⟨k,p,hk,rfl,HF⟩:=hrel;by_cases hlt:k<q.length
  ·have hdk:decide ((k:Int)<(q.length:Int))=true:=by simp;omega
   obtain ⟨r,hr⟩:∃ r,q[k]? = some r:=⟨q[k]'hlt,by simp⟩;obtain ⟨g,cap,cur,hv,hbg,hg,hnl,hcl,hnc,hcm,htk,_,hput⟩:=kS HF.out.own (by omega);simp only [Value.slice.injEq] at hv;obtain ⟨rfl,_,rfl⟩:=hv;have hd:q.drop k=r::q.drop (k+1):=by
    rw [List.drop_eq_getElem_cons hlt];congr 1
    exact (List.getElem?_eq_some_iff.1 hr).2
   have hat:(p++q.drop k)[k]? = some r:=by rw [List.getElem?_append_right (by rw [HF.out.len];exact Nat.le_refl _),HF.out.len,hd];simp
   have hll:(p++q.drop k).length=q.length:=by simp [HF.out.len];omega
   have HE:Hid ((cur.drop (k*7)).take 7=aF.cells r):=Oo BZ hat htk hll;have HG:Hid (wr.heap[g]? = some (.cells cur.toArray 52)):=hg;have Sv:=ae hput;have Bo:Hid (cur.take (q.length*7)=((p++q.drop k).map aF.cells).flatten):=htk;have Aa:Hid (q[k]? = some r):=hr;have CW:Hid (Nat.ble (k*7+7) cur.length=true):=by show _=_;rw [Nat.ble_eq];omega
   have aht:Hid (Nat.ble (k*7+5+1) cur.length=true):=by show _=_;rw [Nat.ble_eq];omega
   obtain ⟨acV,hrl2⟩:=HR.out r (List.mem_of_getElem? hr);have Jp:Hid (w.ownsRow base 128 2 r.rs.val r.rows.length (r.rows.map Row.cells).flatten):=Su.out.rows r (List.mem_of_getElem? hr);have Au:Hid (w.ownsRow base 57 7 r.ds.val r.bP.length (r.bP.map ak.cells).flatten):=Su.out.bP r (List.mem_of_getElem? hr);have Jq:g<wr.heap.size:=(df hg);have hi1:(0:Int)≤(k:Int):=by omega
   have hi2:(k:Int)<(q.length:Int):=by omega
   clear hd hat hll hput htk hr hg hnc hcm hcl;obtain ⟨aM,bG,aV,aP,bg,⟨bZ,bR,cK⟩,⟨bX,bN,bY⟩,bF,bC⟩:=r;have HE2:Hid ((cur.drop (k*7)).take 7=(rR aM bG aV aP bg bZ bR cK bX bN bY)):=HE.out;have Zl:Hid (w.ownsRow base 128 2 (.slice bZ bR cK) bF.length (bF.map Row.cells).flatten):=Jp.out;have V3:Hid (w.ownsRow base 57 7 (.slice bX bN bY) bC.length (bC.map ak.cells).flatten):=Au.out;dsimp only at acV hrl2;clear HE Jp Au;go_wp2_with (first
    | (with_reducible show cB 13 52 ..;go_must (refine nS rfl _ _ rfl g (k*7) rfl 7 _ qD rfl (by kernel_rfl) cur 52 HG.out CW.out (rR aM bG aV aP bg bZ bR cK bX bN bY) HE2.out ?_))
    | (with_reducible show dJ 52 4 ..;go_must (refine fH wr.heap.size 0 (rR aM bG aV aP bg bZ bR cK bX bN bY) _ Fz 52 (heap_alloc_new wr _) (rR aM bG aV aP bg bZ bR cK bX bN bY) ?_;intro w2 hw ho;have dL:Hid (w2.heap[wr.heap.size]? = some (.cells (rR aM bG aV aP bg bZ bR cK bX bN bY).toArray 52)):=ae hw;have HB2:Hid (Below wr.heap.size wr w2):=ae ((aj wr _).trans (ho.below (Nat.le_refl _)));have r9:w2.cell? ⟨wr.heap.size,5,none⟩=some (.slice bZ bR cK):=(by with_unfolding_all exact ah hw 5);clear hw ho))
    | (go_at_call 76;go_must (refine (Xc _ base (.slice bZ bR cK) bF.length (bF.map Row.cells) (ay Zl.out (ai HF.out.zA HB2.out)) (by simp) (Sm _) (Cg _) acV).mono ?_;rintro e w3 ⟨v3,rfl,ho3,hb3⟩;obtain ⟨a3,n3,c3,rfl⟩:=aB ho3;have pE:Hid (w3.ownsRow w2.heap.size 128 2 (Sl.val ⟨a3,n3,c3⟩) bF.length (bF.map Row.cells).flatten):=(show _ from by with_unfolding_all exact ho3);have HB3:Hid (Below w2.heap.size w2 w3):=ae hb3;have KX:Hid (w3.heap[g]? = some (.cells cur.toArray 52)):=ae (af hb3 (af HB2.out HG.out));have KY:Hid (w3.heap[wr.heap.size]? = some (.cells (rR aM bG aV aP bg bZ bR cK bX bN bY).toArray 52)):=ae (af hb3 dL.out);clear ho3 hb3))
    | (with_reducible show wpList _ _ _ ({ dst:=none,op:=Op.store 25 _ _,type:=_,pos:=_,after:=_,guard:=none }::_) _ _;go_must (refine cZ rfl _ _ _ rfl rfl g (k*7+5) rfl (.slice a3 n3 c3) rfl (by kernel_rfl) rfl cur 52 KX.out aht.out _ rfl ?_;intro w4 hw ho;have HG4:Hid (w4.heap[g]? = some (.cells (cur.take (k*7+5)++[Value.slice a3 n3 c3]++cur.drop (k*7+5+1)).toArray 52)):=ae hw;have o6:Hid (Only g w3 w4):=ae ho;have pU:Hid (w4.heap[wr.heap.size]? = some (.cells (rR aM bG aV aP bg bZ bR cK bX bN bY).toArray 52)):=ae ((ho.block _ (by omega)).trans KY.out);have hc6:w4.cell? ⟨wr.heap.size,6,none⟩=some (.slice bX bN bY):=(by with_unfolding_all exact ah pU.out 6);have fD:Hid (Below w.heap.size w w4):=ae (((ai HF.out.zA HB2.out).trans (HB3.out.mono (ai HF.out.zA HB2.out).size)).trans (ho.below hbg));have ahu:Hid (Nat.ble (k*7+6+1) (cur.take (k*7+5)++[Value.slice a3 n3 c3]++cur.drop (k*7+5+1)).length=true):=ae (by rw [(Ij Bo.out (by omega) hnl).2,Nat.ble_eq];omega);clear hw ho))
    | (go_at_call 78;go_must (refine (Xe _ base (.slice bX bN bY) bC.length (bC.map ak.cells) (ay V3.out fD.out) (by simp) (Sn _) (FD _) hrl2).mono ?_;rintro e w5 ⟨v5,rfl,lF,hb5⟩;obtain ⟨a5,n5,c5,rfl⟩:=aB lF;have ru:Hid (w5.ownsRow w4.heap.size 57 7 (Sl.val ⟨a5,n5,c5⟩) bC.length (bC.map ak.cells).flatten):=(show _ from by with_unfolding_all exact lF);have fu:Hid (Below w4.heap.size w4 w5):=ae hb5;have HG5:Hid (w5.heap[g]? = some (.cells (cur.take (k*7+5)++[Value.slice a3 n3 c3]++cur.drop (k*7+5+1)).toArray 52)):=ae (af hb5 HG4.out);clear lF hb5))
    | (with_reducible show wpList _ _ _ ({ dst:=none,op:=Op.store 27 _ _,type:=_,pos:=_,after:=_,guard:=none }::_) _ _;go_must (refine cZ rfl _ _ _ rfl rfl g (k*7+6) rfl (.slice a5 n5 c5) rfl (by kernel_rfl) rfl _ 52 HG5.out ahu.out _ rfl ?_;intro w6 hw ho;have GJ:=ae hw;have Nf:Hid (Only g w5 w6):=ae ho;clear hw ho)))
   go_roundw
   case rel=>exact ⟨k+1,_,by omega,by go_num,Sr.step HF.out Aa.out HG.out hnl Bo.out Sv.out HB2.out pE.out HB3.out o6.out fu.out ru.out Nf.out GJ.out⟩
   case measure=>simp [intOf];omega
  ·have hdk:decide ((k:Int)<(q.length:Int))=false:=by simp;omega
   have hkq:k=q.length:=by omega
   go_wp2_with fail
   go_ret
   refine ⟨_,rfl,⟨⟨a,q.length,c⟩,p,rfl,?_,?_,HF.out.rm⟩,HF.out.zA⟩
   ·have:=HF.out.own
    rw [hkq,List.drop_length,List.append_nil] at this;exact this
   ·rw [HF.out.core,hkq,List.take_length]
end
end Go.Proofs.YtignemioillaiaaGreat
