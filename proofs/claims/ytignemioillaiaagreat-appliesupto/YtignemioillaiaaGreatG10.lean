/- slices.Grow of nothing; slices.Concat. -/
import Derived.Test.YtignemioillaiaaGreatG09
namespace Go.Proofs.YtignemioillaiaaGreat
set_option maxHeartbeats 8000000
set_option maxRecDepth 100000
section
open Go.RowKit Go.Lib
theorem Ng {w:World} {base g cap k:Nat} {e:TypeId} {cur:Array Value} (hb:base≤g) (hg:w.heap[g]? = some (.cells cur e)) (hc:cur.size=cap*k) (hm:cap≤maxLen):w.ownsRow base e k (.slice (some ⟨g,0,none⟩) 0 cap) 0 [] :=
 ⟨by simp,.inr ⟨g,cap,cur,rfl,hb,hg,Nat.zero_le _,hm,hc,by simp⟩⟩
structure RD {α:Type} (w:World) (bv:Nat) (size:Nat) (cf:α→List Value) (vs:List Sl) (gW:List (List α)):Prop where
 cell:∀ (i:Nat) (s:Sl),vs[i]? = some s→w.cell? ⟨bv,i,none⟩=some s.val
 lt:bv<w.heap.size
 len:vs.length=gW.length
 el:∀ (i:Nat) (s:Sl) (x:List α),vs[i]? = some s→gW[i]? = some x→bQ w.heap.size w s size (x.map cf)∧(s.a=none→s.cap=0)
theorem Im {α:Type} {gW:List (List α)} {k:Nat} {x:List α} (h:gW[k]? = some x):(gW.take (k+1)).flatten=(gW.take k).flatten++x:=by
 rw [List.take_add_one,h];simp
theorem Dq {α:Type} (gW:List (List α)) (k:Nat):(gW.take k).flatten.length≤gW.flatten.length:=by
 have:gW.flatten=(gW.take k).flatten++(gW.drop k).flatten:=by rw [← List.flatten_append,List.take_append_drop]
 rw [this,List.length_append];omega
theorem Zo (w:World) (n:Nat) (hn:n<1000000) :
 Calls Tryz.prog 149 #[.slice none 0 0,.int .i64 n] w fun e w'=>∃ v',e=.returned v'∧w'.ownsRow w.heap.size 128 2 v' 0 []∧Below w.heap.size w w':=by
 obtain ⟨i0,hi0,hz0,hz1,hz2⟩:=info_parts yK;have hd0:decide ((n:Int)<0)=false:=by simp
 by_cases h0:n=0
 ·subst h0
  go_enter Tryz.func149,Tryz.ntmps149
  go_wp2_with fail
  go_ret
  exact ⟨_,rfl,World.ownsRow_nil _ _ _ _,Below.refl _ _⟩
 ·have hd1:decide ((0:Int)<(n:Int))=true:=by simp;omega
  have hrun:=run_append_nil_zeros (P:=Tryz.prog) w 25 3 25 128 i0 (.agg #[.int .u64 0,.int .u64 0]) .i64 .i64 rE RI hi0 hz0 n (by omega) (by rw [hz1];decide) (by omega) (by rw [hz2];omega);obtain ⟨cp,hcp⟩:∃ cp,cp=grownCap w n 0 128:=⟨_,rfl⟩;have hge:n≤cp:=by rw [hcp];exact grownCap_ge w n 0 128
  have hmax:cp≤maxLen:=by rw [hcp];exact grownCap_le_maxLen w n 0 _ (by unfold maxLen;omega)
  obtain ⟨cur,dW⟩:∃ cur,cur=Builtin.zeroCells (Value.agg #[.int .u64 0,.int .u64 0]).cells n++Builtin.zeroCells (Value.agg #[.int .u64 0,.int .u64 0]).cells (grownCap w n 0 128 - n):=⟨_,rfl⟩;have hcs:cur.size=cp*2:=by
   rw [dW,← hcp,Array.size_append,size_zeroCells,size_zeroCells,show (Value.agg #[.int .u64 0,.int .u64 0]).cells.size=2 from rfl,← Nat.add_mul];congr 1
   omega
  rw [← dW,← hcp] at hrun;clear hcp dW;have HR:=ae hrun;have Nh:=ae hcs;clear hrun hcs;go_enter Tryz.func149,Tryz.ntmps149
  go_wp2_with (with_reducible show yw 22 ..;go_must (refine wpList_append_run _ rfl _ _ 25 3 rfl (.slice none 0 0) (.int .i64 n) rfl rfl _ _ HR.out ?_))
  go_ret
  exact ⟨_,rfl,Ng (Nat.le_refl _) (heap_alloc_new w.drew _) Nh.out hmax,(Below.refl _ w).drew.alloc (Nat.le_refl _) _⟩
theorem Ni (w:World) (bv m cp:Nat) (vs:List Sl) (gW:List (List Row)) (h:RD w bv 2 Row.cells vs gW) (hm:m=gW.length) (hl:gW.flatten.length<1000000) (hlm:gW.length<1000000) :
 Calls Tryz.prog 91 #[.slice (some ⟨bv,0,none⟩) m cp] w fun e w'=>∃ v',e=.returned v'∧w'.ownsRow w.heap.size 128 2 v' gW.flatten.length (gW.flatten.map Row.cells).flatten∧Below w.heap.size w w':=by
 obtain ⟨i0,hi0,hz0,hz1,hz2⟩:=info_parts yK;have HI:=ae h;have HM:Hid (m=gW.length):=hm;have hm2:m<1000000:=by omega
 clear h hm;go_enter Tryz.func91,Tryz.ntmps91
 go_wp2_with fail
 go_loopw [3,11] (fun b1 i wr=>∃ k:Nat,k≤m∧b1=.int .i64 ((gW.take k).flatten.length:Nat)∧i=.int .i64 k∧w=wr) (fun _ i _=>m - (intOf i).toNat)
 case atStart=>exact ⟨0,Nat.zero_le _,by simp,rfl,rfl⟩
 case round =>
  obtain ⟨k,hk,rfl,rfl,rfl⟩:=hrel;by_cases hlt:k<m
  ·have hdk:decide ((k:Int)<(m:Int))=true:=by simp;omega
   obtain ⟨x,hx⟩:∃ x,gW[k]? = some x:=⟨gW[k]'(by rw [← HM.out];exact hlt),by simp⟩;obtain ⟨v,hv⟩:∃ v,vs[k]? = some v:=⟨vs[k]'(by rw [HI.out.len,← HM.out];exact hlt),by simp⟩;have hcl:=HI.out.cell k v hv;have hln:v.len=x.length:=by simpa using (HI.out.el k v x hv hx).1.len
   obtain ⟨va,vn,vc⟩:=v;dsimp only [Sl.val] at hcl hln;have hnx:=Im hx;have hnl:=Dq gW (k+1);rw [hnx,List.length_append,← hln] at hnl;have hi1:(0:Int)≤(k:Int):=by omega
   have hi2:(k:Int)<(m:Int):=by omega
   have HE:Hid ((gW.take (k+1)).flatten.length=(gW.take k).flatten.length+vn):=by show _=_;rw [hnx,List.length_append,← hln]
   obtain ⟨acc,hacc⟩:∃ acc,acc=(gW.take k).flatten.length:=⟨_,rfl⟩;rw [← hacc] at hnl HE ⊢;clear hnx hacc hx hv hln;have hdn:decide (((acc:Int)+(vn:Int))<0)=false:=by simp;omega
   go_wp2_with fail
   go_roundw
   case rel=>exact ⟨k+1,by omega,by rw [HE.out];go_num,by go_num,trivial⟩
   case measure=>simp [intOf];omega
  ·have hdk:decide ((k:Int)<(m:Int))=false:=by simp;omega
   obtain rfl:k=m:=by omega
   have hkl:(gW.take k).flatten.length≤gW.flatten.length:=Dq gW k;obtain ⟨acc,hacc⟩:∃ acc,acc=(gW.take k).flatten.length:=⟨_,rfl⟩;rw [← hacc] at hkl ⊢;clear hacc;go_wp2_with (go_at_call 149;go_must (refine (Zo _ acc (by omega)).mono ?_;rintro e w1 ⟨v1,rfl,ho1,hb1⟩;have lG:=ae ho1;have HB1:=ae hb1;clear ho1 hb1))
   have Xh:Hid (w1.ownsRow w.heap.size 128 2 v1 (gW.take 0).flatten.length ((gW.take 0).flatten.map Row.cells).flatten):=by show World.ownsRow _ _ _ _ _ _ _;simpa using lG.out
   go_loopw [6,27] (fun b1 i wr=>∃ (j:Nat) (vb:Value),vb=b1∧j≤k∧i=.int .i64 j∧Hid (wr.ownsRow w.heap.size 128 2 vb (gW.take j).flatten.length ((gW.take j).flatten.map Row.cells).flatten)∧Hid (Below w.heap.size w wr)) (fun _ i _=>k - (intOf i).toNat)
   case atStart=>exact ⟨0,_,rfl,Nat.zero_le _,rfl,Xh.out,HB1.out⟩
   case round =>
    obtain ⟨j,vb,rfl,hj,rfl,HO,HB⟩:=hrel;by_cases hlt:j<k
    ·have hdj:decide ((j:Int)<(k:Int))=true:=by simp;omega
     obtain ⟨x,hx⟩:∃ x,gW[j]? = some x:=⟨gW[j]'(by rw [← HM.out];exact hlt),by simp⟩;obtain ⟨v,hv⟩:∃ v,vs[j]? = some v:=⟨vs[j]'(by rw [HI.out.len,← HM.out];exact hlt),by simp⟩;have hcl:=(HB.out.cell (p:=⟨bv,j,none⟩) HI.out.lt).trans (HI.out.cell j v hv);obtain ⟨Sz,hnil⟩:=HI.out.el j v x hv hx;have hin:=Sz.below HB.out (Nat.le_refl _);have hln:v.len=x.length:=by simpa using hin.len
     obtain ⟨va,vn,vc⟩:=v;dsimp only [Sl.val] at hcl hln hnil;have hnx:=Im hx;have hnl:=Dq gW (j+1);rw [hnx,List.length_append,← hln] at hnl;have hi1:(0:Int)≤(j:Int):=by omega
     have hi2:(j:Int)<(k:Int):=by omega
     have HE:Hid ((gW.take (j+1)).flatten=(gW.take j).flatten++x):=hnx;have Da:=ae hin;have zw:Hid (vn=x.length):=hln;have hmx:vn≤maxLen:=Nat.le_trans hin.le hin.max;unfold maxLen at hmx;clear hnx hx hv hln hin Sz;cases va with
     | none =>
      have hc0:vc=0:=hnil rfl;have hn0:vn=0:=by have:=Da.out.le;dsimp only at this;omega
      subst hc0;subst hn0;have hx0:x=[]:=List.eq_nil_of_length_eq_zero zw.out.symm;subst hx0;go_wp2_with (at_builtin;go_must (refine wpList_append_own_none rfl _ _ 25 rfl w.heap.size 128 i0 2 rE hi0 vb _ _ rfl HO.out rfl ?_))
      go_roundw
      case rel=>exact ⟨j+1,_,rfl,by omega,by go_num,by rw [HE.out,List.append_nil];exact HO.out,HB.out⟩
      case measure=>simp [intOf];omega
     | some ad =>
      have Ja:Hid ((x.map Row.cells).flatten.length=vn*2):=by show _=_;rw [Ap (k:=2) (fun _=>rfl),zw.out]
      have HNW:Hid (∀ (q:Nat) (u:Value),(x.map Row.cells).flatten[q]? = some u→wr.cell? (ad.add q)=some u):=by
       intro q u hu;have hq:=(mV hu);refine Da.out.news (by intro y hy;obtain ⟨r,_,rfl⟩:=List.mem_map.1 hy;rfl) ad rfl ?_ q u hu;rw [Ja.out] at hq;show 0<vn;rcases Nat.eq_zero_or_pos vn with h0 | h0
       ·rw [h0] at hq;omega
       ·exact h0
      go_wp2_with (at_builtin;go_must (refine aZ _ rfl _ _ 25 rfl w.heap.size 128 i0 (.agg #[.int .u64 0,.int .u64 0]) 2 16 rE hi0 hz0 hz1 hz2 rfl (by decide) vb _ _ rfl HO.out ad vn vc (x.map Row.cells).flatten rfl Ja.out HNW.out (Cg x) (by unfold maxLen;omega) (by omega) HB.out.size ?_;intro v9 w9 bJ gZ))
      have o8:Hid (Below w.heap.size w w9):=dO HB.out gZ (fun q hq=>(HO.out.lt q hq).1);have fo:Hid (w9.ownsRow w.heap.size 128 2 v9 (gW.take (j+1)).flatten.length ((gW.take (j+1)).flatten.map Row.cells).flatten):=by
       show World.ownsRow _ _ _ _ _ _ _;rw [HE.out,List.length_append,List.map_append,List.flatten_append,← zw.out];exact bJ
      clear bJ gZ;go_wp2_with fail
      go_roundw
      case rel=>exact ⟨j+1,_,rfl,by omega,by go_num,fo.out,o8.out⟩
      case measure=>simp [intOf];omega
    ·have hdj:decide ((j:Int)<(k:Int))=false:=by simp;omega
     obtain rfl:j=k:=by omega
     have fo:Hid (wr.ownsRow w.heap.size 128 2 vb gW.flatten.length (gW.flatten.map Row.cells).flatten):=by
      have:=HO.out;rw [HM.out,List.take_length] at this;exact this
     go_wp2_with fail
     go_ret
     exact ⟨_,rfl,fo.out,HB.out⟩
theorem Zp (w:World) (n:Nat) (hn:n<1000000) :
 Calls Tryz.prog 150 #[.slice none 0 0,.int .i64 n] w fun e w'=>∃ v',e=.returned v'∧w'.ownsRow w.heap.size 57 7 v' 0 []∧Below w.heap.size w w':=by
 obtain ⟨i0,hi0,hz0,hz1,hz2⟩:=info_parts zC;have hd0:decide ((n:Int)<0)=false:=by simp
 by_cases h0:n=0
 ·subst h0
  go_enter Tryz.func150,Tryz.ntmps150
  go_wp2_with fail
  go_ret
  exact ⟨_,rfl,World.ownsRow_nil _ _ _ _,Below.refl _ _⟩
 ·have hd1:decide ((0:Int)<(n:Int))=true:=by simp;omega
  have hrun:=run_append_nil_zeros (P:=Tryz.prog) w 27 3 27 57 i0 (.agg bA.toArray) .i64 .i64 qy RI hi0 hz0 n (by omega) (by rw [hz1];decide) (by omega) (by rw [hz2];omega);obtain ⟨cp,hcp⟩:∃ cp,cp=grownCap w n 0 57:=⟨_,rfl⟩;have hge:n≤cp:=by rw [hcp];exact grownCap_ge w n 0 57
  have hmax:cp≤maxLen:=by rw [hcp];exact grownCap_le_maxLen w n 0 _ (by unfold maxLen;omega)
  obtain ⟨cur,dW⟩:∃ cur,cur=Builtin.zeroCells (Value.agg bA.toArray).cells n++Builtin.zeroCells (Value.agg bA.toArray).cells (grownCap w n 0 57 - n):=⟨_,rfl⟩;have hcs:cur.size=cp*7:=by
   rw [dW,← hcp,Array.size_append,size_zeroCells,size_zeroCells,show (Value.agg bA.toArray).cells.size=7 from rfl,← Nat.add_mul];congr 1
   omega
  rw [← dW,← hcp] at hrun;clear hcp dW;have HR:=ae hrun;have Nh:=ae hcs;clear hrun hcs;go_enter Tryz.func150,Tryz.ntmps150
  go_wp2_with (with_reducible show yw 22 ..;go_must (refine wpList_append_run _ rfl _ _ 27 3 rfl (.slice none 0 0) (.int .i64 n) rfl rfl _ _ HR.out ?_))
  go_ret
  exact ⟨_,rfl,Ng (Nat.le_refl _) (heap_alloc_new w.drew _) Nh.out hmax,(Below.refl _ w).drew.alloc (Nat.le_refl _) _⟩
theorem Nj (w:World) (bv m cp:Nat) (vs:List Sl) (gW:List (List ak)) (h:RD w bv 7 ak.cells vs gW) (hm:m=gW.length) (hl:gW.flatten.length<1000000) (hlm:gW.length<1000000) :
 Calls Tryz.prog 94 #[.slice (some ⟨bv,0,none⟩) m cp] w fun e w'=>∃ v',e=.returned v'∧w'.ownsRow w.heap.size 57 7 v' gW.flatten.length (gW.flatten.map ak.cells).flatten∧Below w.heap.size w w':=by
 obtain ⟨i0,hi0,hz0,hz1,hz2⟩:=info_parts zC;have HI:=ae h;have HM:Hid (m=gW.length):=hm;have hm2:m<1000000:=by omega
 clear h hm;go_enter Tryz.func94,Tryz.ntmps94
 go_wp2_with fail
 go_loopw [3,11] (fun b1 i wr=>∃ k:Nat,k≤m∧b1=.int .i64 ((gW.take k).flatten.length:Nat)∧i=.int .i64 k∧w=wr) (fun _ i _=>m - (intOf i).toNat)
 case atStart=>exact ⟨0,Nat.zero_le _,by simp,rfl,rfl⟩
 case round =>
  obtain ⟨k,hk,rfl,rfl,rfl⟩:=hrel;by_cases hlt:k<m
  ·have hdk:decide ((k:Int)<(m:Int))=true:=by simp;omega
   obtain ⟨x,hx⟩:∃ x,gW[k]? = some x:=⟨gW[k]'(by rw [← HM.out];exact hlt),by simp⟩;obtain ⟨v,hv⟩:∃ v,vs[k]? = some v:=⟨vs[k]'(by rw [HI.out.len,← HM.out];exact hlt),by simp⟩;have hcl:=HI.out.cell k v hv;have hln:v.len=x.length:=by simpa using (HI.out.el k v x hv hx).1.len
   obtain ⟨va,vn,vc⟩:=v;dsimp only [Sl.val] at hcl hln;have hnx:=Im hx;have hnl:=Dq gW (k+1);rw [hnx,List.length_append,← hln] at hnl;have hi1:(0:Int)≤(k:Int):=by omega
   have hi2:(k:Int)<(m:Int):=by omega
   have HE:Hid ((gW.take (k+1)).flatten.length=(gW.take k).flatten.length+vn):=by show _=_;rw [hnx,List.length_append,← hln]
   obtain ⟨acc,hacc⟩:∃ acc,acc=(gW.take k).flatten.length:=⟨_,rfl⟩;rw [← hacc] at hnl HE ⊢;clear hnx hacc hx hv hln;have hdn:decide (((acc:Int)+(vn:Int))<0)=false:=by simp;omega
   go_wp2_with fail
   go_roundw
   case rel=>exact ⟨k+1,by omega,by rw [HE.out];go_num,by go_num,trivial⟩
   case measure=>simp [intOf];omega
  ·have hdk:decide ((k:Int)<(m:Int))=false:=by simp;omega
   obtain rfl:k=m:=by omega
   have hkl:(gW.take k).flatten.length≤gW.flatten.length:=Dq gW k;obtain ⟨acc,hacc⟩:∃ acc,acc=(gW.take k).flatten.length:=⟨_,rfl⟩;rw [← hacc] at hkl ⊢;clear hacc;go_wp2_with (go_at_call 150;go_must (refine (Zp _ acc (by omega)).mono ?_;rintro e w1 ⟨v1,rfl,ho1,hb1⟩;have lG:=ae ho1;have HB1:=ae hb1;clear ho1 hb1))
   have Xh:Hid (w1.ownsRow w.heap.size 57 7 v1 (gW.take 0).flatten.length ((gW.take 0).flatten.map ak.cells).flatten):=by show World.ownsRow _ _ _ _ _ _ _;simpa using lG.out
   go_loopw [6,27] (fun b1 i wr=>∃ (j:Nat) (vb:Value),vb=b1∧j≤k∧i=.int .i64 j∧Hid (wr.ownsRow w.heap.size 57 7 vb (gW.take j).flatten.length ((gW.take j).flatten.map ak.cells).flatten)∧Hid (Below w.heap.size w wr)) (fun _ i _=>k - (intOf i).toNat)
   case atStart=>exact ⟨0,_,rfl,Nat.zero_le _,rfl,Xh.out,HB1.out⟩
   case round =>
    obtain ⟨j,vb,rfl,hj,rfl,HO,HB⟩:=hrel;by_cases hlt:j<k
    ·have hdj:decide ((j:Int)<(k:Int))=true:=by simp;omega
     obtain ⟨x,hx⟩:∃ x,gW[j]? = some x:=⟨gW[j]'(by rw [← HM.out];exact hlt),by simp⟩;obtain ⟨v,hv⟩:∃ v,vs[j]? = some v:=⟨vs[j]'(by rw [HI.out.len,← HM.out];exact hlt),by simp⟩;have hcl:=(HB.out.cell (p:=⟨bv,j,none⟩) HI.out.lt).trans (HI.out.cell j v hv);obtain ⟨Sz,hnil⟩:=HI.out.el j v x hv hx;have hin:=Sz.below HB.out (Nat.le_refl _);have hln:v.len=x.length:=by simpa using hin.len
     obtain ⟨va,vn,vc⟩:=v;dsimp only [Sl.val] at hcl hln hnil;have hnx:=Im hx;have hnl:=Dq gW (j+1);rw [hnx,List.length_append,← hln] at hnl;have hi1:(0:Int)≤(j:Int):=by omega
     have hi2:(j:Int)<(k:Int):=by omega
     have HE:Hid ((gW.take (j+1)).flatten=(gW.take j).flatten++x):=hnx;have Da:=ae hin;have zw:Hid (vn=x.length):=hln;have hmx:vn≤maxLen:=Nat.le_trans hin.le hin.max;unfold maxLen at hmx;clear hnx hx hv hln hin Sz;cases va with
     | none =>
      have hc0:vc=0:=hnil rfl;have hn0:vn=0:=by have:=Da.out.le;dsimp only at this;omega
      subst hc0;subst hn0;have hx0:x=[]:=List.eq_nil_of_length_eq_zero zw.out.symm;subst hx0;go_wp2_with (at_builtin;go_must (refine wpList_append_own_none rfl _ _ 27 rfl w.heap.size 57 i0 7 qy hi0 vb _ _ rfl HO.out rfl ?_))
      go_roundw
      case rel=>exact ⟨j+1,_,rfl,by omega,by go_num,by rw [HE.out,List.append_nil];exact HO.out,HB.out⟩
      case measure=>simp [intOf];omega
     | some ad =>
      have Ja:Hid ((x.map ak.cells).flatten.length=vn*7):=by show _=_;rw [Ap (k:=7) (fun _=>rfl),zw.out]
      have HNW:Hid (∀ (q:Nat) (u:Value),(x.map ak.cells).flatten[q]? = some u→wr.cell? (ad.add q)=some u):=by
       intro q u hu;have hq:=(mV hu);refine Da.out.news (by intro y hy;obtain ⟨r,_,rfl⟩:=List.mem_map.1 hy;rfl) ad rfl ?_ q u hu;rw [Ja.out] at hq;show 0<vn;rcases Nat.eq_zero_or_pos vn with h0 | h0
       ·rw [h0] at hq;omega
       ·exact h0
      go_wp2_with (at_builtin;go_must (refine aZ _ rfl _ _ 27 rfl w.heap.size 57 i0 (.agg bA.toArray) 7 40 qy hi0 hz0 hz1 hz2 rfl (by decide) vb _ _ rfl HO.out ad vn vc (x.map ak.cells).flatten rfl Ja.out HNW.out (FD x) (by unfold maxLen;omega) (by omega) HB.out.size ?_;intro v9 w9 bJ gZ))
      have o8:Hid (Below w.heap.size w w9):=dO HB.out gZ (fun q hq=>(HO.out.lt q hq).1);have fo:Hid (w9.ownsRow w.heap.size 57 7 v9 (gW.take (j+1)).flatten.length ((gW.take (j+1)).flatten.map ak.cells).flatten):=by
       show World.ownsRow _ _ _ _ _ _ _;rw [HE.out,List.length_append,List.map_append,List.flatten_append,← zw.out];exact bJ
      clear bJ gZ;go_wp2_with fail
      go_roundw
      case rel=>exact ⟨j+1,_,rfl,by omega,by go_num,fo.out,o8.out⟩
      case measure=>simp [intOf];omega
    ·have hdj:decide ((j:Int)<(k:Int))=false:=by simp;omega
     obtain rfl:j=k:=by omega
     have fo:Hid (wr.ownsRow w.heap.size 57 7 vb gW.flatten.length (gW.flatten.map ak.cells).flatten):=by
      have:=HO.out;rw [HM.out,List.take_length] at this;exact this
     go_wp2_with fail
     go_ret
     exact ⟨_,rfl,fo.out,HB.out⟩
theorem UC (w:World) (b:Nat) (g n:Int) (vT vM vD vO vI:Value) (qc qs qk ag qv au aA:Int) (hc:w.heap[b]? = some (.cells (rW g n vT vM vD vO vI).toArray 31)) (hto:(aA == g)=true) :
 Calls Tryz.prog 179 #[.pointer (some ⟨b,0,none⟩),.agg (rQ qc qs qk ag qv au aA).toArray] w fun e w'=>e=.returned (.tuple #[.slice none 0 0,.bool false])∧Below w.heap.size w w':=by
 obtain ⟨W,hW⟩:∃ W,W=w.alloc (.cells (rQ qc qs qk ag qv au aA).toArray 50):=⟨_,rfl⟩;have fP:W.heap[w.heap.size]? = some (.cells (rQ qc qs qk ag qv au aA).toArray 50):=by rw [hW];exact heap_alloc_new w _
 have bE:Below w.heap.size w W:=by rw [hW];exact aj w _
 have Nk:W.cell? ⟨w.heap.size,6,none⟩=some (.int .u8 aA):=ah fP 6;have hs0:W.cell? ⟨b,0,none⟩=some (.int .u8 g):=ah (af bE hc) 0;have hs1:W.cell? ⟨b,1,none⟩=some (.int .u8 n):=ah (af bE hc) 1;clear hc fP;go_enter Tryz.func179,Tryz.ntmps179
 go_wp2_with fail
 rw [← hW];clear hW;go_quiet (fail)
 go_wp2
 go_ret2
 exact ⟨rfl,below_drewN bE _⟩
theorem V4 (w:World) (b:Nat) (g n:Int) (vT vM vD vO vI:Value) (qc qs qk ag qv au aA:Int) (hc:w.heap[b]? = some (.cells (rW g n vT vM vD vO vI).toArray 31)) (hto:(aA == g)=false) (alG:decide (n≤aA)=true) :
 Calls Tryz.prog 179 #[.pointer (some ⟨b,0,none⟩),.agg (rQ qc qs qk ag qv au aA).toArray] w fun e w'=>e=.returned (.tuple #[.slice none 0 0,.bool false])∧Below w.heap.size w w':=by
 obtain ⟨W,hW⟩:∃ W,W=w.alloc (.cells (rQ qc qs qk ag qv au aA).toArray 50):=⟨_,rfl⟩;have fP:W.heap[w.heap.size]? = some (.cells (rQ qc qs qk ag qv au aA).toArray 50):=by rw [hW];exact heap_alloc_new w _
 have bE:Below w.heap.size w W:=by rw [hW];exact aj w _
 have Nk:W.cell? ⟨w.heap.size,6,none⟩=some (.int .u8 aA):=ah fP 6;have hs0:W.cell? ⟨b,0,none⟩=some (.int .u8 g):=ah (af bE hc) 0;have hs1:W.cell? ⟨b,1,none⟩=some (.int .u8 n):=ah (af bE hc) 1;clear hc fP;go_enter Tryz.func179,Tryz.ntmps179
 go_wp2_with fail
 rw [← hW];clear hW;go_quiet (fail)
 go_wp2
 go_ret2
 exact ⟨rfl,below_drewN bE _⟩
theorem Nl (w:World) (b:Nat) (g n:Int) (vT vM vD vO vI:Value) (qc qs qk ag qv au aA:Int) (hc:w.heap[b]? = some (.cells (rW g n vT vM vD vO vI).toArray 31)) (hto:aA=g∨n≤aA) :
 Calls Tryz.prog 179 #[.pointer (some ⟨b,0,none⟩),.agg (rQ qc qs qk ag qv au aA).toArray] w fun e w'=>e=.returned (.tuple #[.slice none 0 0,.bool false])∧Below w.heap.size w w':=by
 by_cases h:aA=g
 ·exact UC w b g n vT vM vD vO vI qc qs qk ag qv au aA hc (by simp [h])
 ·exact V4 w b g n vT vM vD vO vI qc qs qk ag qv au aA hc (by simp [h]) (by simp;omega)
theorem jv {P:Program} {ops:Array Oper} {o:Oper} {a:Act} {w:World} {K:Act→World→Prop} {Q:Exit→Act→World→Prop} {E:Prop} (hgd:o.guard=none) (s x:Operand) (t:TypeId)
 (ho:o.op=.call { callee:=.builtin .append,args:=#[s,x],argTypes:=#[t,t] })
 (base:Nat) (e:TypeId) (i:TypeInfo) (z:Value) (size bytes:Nat) (ht:P.underlying t=some (.slice e)) (hi:P.info? e=some i) (hz:i.zero=some z)
 (hsize:i.size=size) (hby:i.bytes=bytes) (hzs:z.cells.size=size) (hsz:0<size) (v:Value) (n:Nat) (xs:List Value) (hs:a.eval s=v) (hown:w.ownsRow base e size v n xs)
 (ad:Addr) (m c:Nat) (news:List Value) (hx:a.eval x=.slice (some ad) m c) (hl:news.length=m*size) (hnews:∀ j u,news[j]? = some u→w.cell? (ad.add j)=some u) (h1:∀ u∈news,u.oneCell'=true)
 (h63:n+m≤maxLen) (hbytes:(n+m)*bytes≤140737488355328) (hbase:base≤w.heap.size)
 (h:∀ v' w',w'.ownsRow base e size v' (n+m) (xs++news)→fC w v w' v'→K (a.put o.dst v') w') :
 if Region.wanted o (yielded ops a.tmps)=true then Oper.wp P o a w K Q else E:=by
 have hw:Region.wanted o (yielded ops a.tmps)=true:=by simp [Region.wanted,hgd]
 rw [if_pos hw];obtain ⟨v',w',hr,h2,h3⟩:=Bz (P:=P) w base t o.type e i z size bytes ht hi hz hsize hby hzs hsz v n xs hown ad m c news hl hnews h1 h63 hbytes hbase;unfold Oper.wp execOp;simp only [ho,resolve,invoke,builtin,Sem.run_bind,Sem.run_pure,Result.andThen_ok,List.map_toArray,List.map_cons,List.map_nil,hs,hx,hr];exact h v' w' h2 h3
theorem fC.dX {w w':World} {v v':Value} (h:fC w v w' v'):av (fun k=>v.ownBlock=some k) w w':=⟨h.grown.os,h.grown.tape,h.grown.output,h.grown.size,fun k hk hA=>h.grown.block k hk (fun e=>hA e.symm)⟩
theorem fC.acY {w a b:World} {v v':Value} (h:fC a v b v') (hs:w.heap.size≤a.heap.size):v'.ownBlock=v.ownBlock∨∀ k,v'.ownBlock=some k→w.heap.size≤k:=h.own.imp id fun hk k e=>Nat.le_trans hs (hk k e)
theorem Ch:(Tryz.prog.info? 52).map (fun i=>(i.zero,i.size,i.bytes))=some (some (.agg Fz.toArray),7,72):=by kernel_rfl
theorem ahv {c d a0 a1 a2 a3 a4 a5 a6:Code} (hc:Tryz.f180.body=some (a0.seq (a1.seq (a2.seq (a3.seq (a4.seq (a5.seq (a6.seq (c.seq d))))))))) {u0 u1 u2 u3 u6 u7 u8 u9 jB jg jh ji jk jl u16 mW oz lJ nC mE mF mh jC jD jw j6 ig ik iq iw u32 jm jq jr jE jF jG jH jI jJ jK jL jM jN jO jP jQ jR jS jT jU jV jW jX jY kv ky kz kC kD kE kF u64 kG kH kg ko kI kJ kK kL kM kN kP kQ kR lK lL lN lQ lT lU lV lW lX lY lZ l7 l8 l9 mf mg mi:Value} (w:World) (base gO R0 j n0:Nat) (bz:Int) (cur xs:List Value) (eG:Option Addr) (eP eQ:Nat) (aM bG aV aP bg:Int) (bZ:Option Addr) (bR cK:Nat) (bX:Option Addr) (bN bY:Nat)
 (hG:w.heap[gO]? = some (.cells cur.toArray 103)) (ho0:cur[j*2]? = some (.int .u32 bz)) (ho1:cur[j*2+1]? = some (.slice eG eP eQ)) (hR:w.heap[R0]? = some (.cells (rR aM bG aV aP bg bZ bR cK bX bN bY).toArray 52))
 (hq:w.ownsRow base 52 7 (.slice eG eP eQ) n0 xs) (SA:Value.ownBlock (.slice eG eP eQ)≠some R0) (hn:n0<1000000) (hb:base≤w.heap.size) (Q:World→Prop)
 (hQ:∀ (w':World) (sa:Option Addr) (sn sc:Nat),w'.ownsRow base 52 7 (.slice sa sn sc) (n0+1) (xs++(rR aM bG aV aP bg bZ bR cK bX bN bY))→(Value.ownBlock (.slice sa sn sc)=Value.ownBlock (.slice eG eP eQ)∨∀ k,Value.ownBlock (.slice sa sn sc)=some k→w.heap.size≤k) →
  w'.heap[gO]? = some (.cells ((cur.set (j*2+1) (.slice sa sn sc)).set (j*2) (.int .u32 (IntKind.u32.wrap (bz+1)))).toArray 103)→av (fun k=>k=gO∨Value.ownBlock (.slice eG eP eQ)=some k) w w'→Q w') {K:Act→World→Prop} (hK:∀ a w,d.wp Tryz.prog (bodyPost Tryz.prog Tryz.f180 fun e w'=>e=.returned (.tuple #[])∧Q w') a w→K a w) :
 c.wp Tryz.prog (Exit.then K (bodyPost Tryz.prog Tryz.f180 fun e w'=>e=.returned (.tuple #[])∧Q w')) { tmps:=(List.toArray (α:=Value) (u0::u1::u2::u3::.pointer (some ⟨gO,j*2,none⟩)::.pointer (some ⟨R0,0,none⟩)::u6::u7::u8::u9::jB::jg::jh::ji::jk::jl::u16::mW::oz::lJ::nC::mE::mF::mh::jC::jD::jw::j6::ig::ik::iq::iw::u32::jm::jq::jr::jE::jF::jG::jH::jI::jJ::jK::jL::jM::jN::jO::jP::jQ::jR::jS::jT::jU::jV::jW::jX::jY::kv::ky::kz::kC::kD::kE::kF::u64::kG::kH::kg::ko::kI::kJ::kK::kL::kM::kN::kP::kQ::kR::lK::lL::lN::lQ::lT::lU::lV::lW::lX::lY::lZ::l7::l8::l9::mf::mg::mi::[])),defers:=[] } w:=by
 injection hc with k0;injection k0 with e0 k1;clear e0;injection k1 with e1 k2;clear e1;injection k2 with e2 k3;clear e2;injection k3 with e3 k4;clear e3;injection k4 with e4 k5;clear e4;injection k5 with e5 k6;clear e5;injection k6 with e6 k7;clear e6;injection k7 with e7 k8;subst k8;subst e7;obtain ⟨i0,hi0,hz0,hz1,hz2⟩:=info_parts Ch;have hc0:w.cell? ⟨gO,j*2,none⟩=some (.int .u32 bz):=by rw [ah hG];simpa using ho0
 have hc1:w.cell? ⟨gO,j*2+1,none⟩=some (.slice eG eP eQ):=by rw [ah hG];simpa using ho1
 have hr0:=ah hR;have ahw:gO<w.heap.size:=(df hG);have hlt1:R0<w.heap.size:=(df hR);have HQ:=ae hq;have HG:=ae hG;have Xi:=ae hQ;have UX:=ae SA;have Nn:Hid (¬ (Value.ownBlock (.slice eG eP eQ)=some gO)):=fun e=>eF hq hG (by decide) gO e rfl
 have lG:Hid (cur.toArray[j*2+1]? = some (.slice eG eP eQ)):=by show _=_;simpa using ho1
 clear hq hG hR hQ SA;go_region_law (refine jv rfl (.tmp 82) (.tmp 84) 101 rfl base 52 i0 (.agg Fz.toArray) 7 72 Hr hi0 hz0 hz1 hz2 rfl (by decide) (.slice eG eP eQ) n0 xs (by simp [Act.eval]) (ay HQ.out (by first | exact (aj w _).drew | exact (aj w.drew _))) ⟨w.heap.size,0,none⟩ 1 1 (rR aM bG aV aP bg bZ bR cK bX bN bY) (by simp [Act.eval]) rfl (cu rfl) (cz rfl) (by unfold maxLen;omega) (by omega) (by simp;omega) ?_;intro v9 w9 bJ gZ;obtain ⟨sa,sn,sc,rfl⟩:=aB bJ;have HCH:Hid (av (fun k=>Value.ownBlock (.slice eG eP eQ)=some k) w w9):=ae ((av.later (by first | exact (aj w _).drew | exact (aj w.drew _))).trans (fC.dX gZ));have zV:Hid (w9.heap[gO]? = some (.cells cur.toArray 103)):=ae (nQ HG.out HCH.out Nn.out);have hcn:w9.cell? ⟨gO,j*2+1,none⟩=some (.slice eG eP eQ):=(ah zV.out _).trans lG.out;have hfn:w9.frozen? ⟨gO,j*2+1,none⟩=false:=oh (Below.refl _ w9) zV.out _;have fo:=ae bJ;have HF9:=ae (fC.acY (w:=w) gZ (by simp));clear bJ gZ)
 all_goals (
  obtain ⟨s1,s2⟩:=wV (o:=j*2+1) (v:=Value.slice sa sn sc) zV.out;have uH:=ae s1;have HS2:=ae s2;generalize w9.setCell ⟨gO,j*2+1,none⟩ (Value.slice sa sn sc)=FK at uH HS2;clear s1 s2 hcn hfn;have hjl:j*2+1<cur.length:=(mV ho1);have hd0:FK.cell? ⟨gO,j*2,none⟩=some (.int .u32 bz):=by
   rw [ah uH.out];simp only [List.getElem?_toArray];rw [List.getElem?_set_ne (by omega)];exact ho0
  have GK:Hid (Nat.ble (j*2+1) (cur.set (j*2+1) (Value.slice sa sn sc)).length=true):=by show _=_;rw [List.length_set,Nat.ble_eq];omega
  clear hc0 hc1 hr0;go_wp2_with (with_reducible show wpList _ _ _ ({ dst:=none,op:=Op.store 47 _ _,type:=_,pos:=_,after:=_,guard:=none }::_) _ _;go_must (refine cZ rfl _ _ _ rfl rfl gO (j*2) rfl (.int .u32 (IntKind.u32.wrap (bz+1))) rfl (by kernel_rfl) rfl _ 103 uH.out GK.out _ rfl ?_;intro w11 hw ho;have ahx:=ae hw;have acZ:=ae ho;clear hw ho))
  go_end0
  refine ⟨rfl,Xi.out w11 sa sn sc ?_ HF9.out ?_ ?_⟩
  ·have c1:av (fun k=>k=gO) w9 w11:=av.trans (av.only (A:=fun k=>k=gO) HS2.out rfl) (av.only (A:=fun k=>k=gO) acZ.out rfl)
   exact dB fo.out c1 (eF fo.out zV.out (by decide))
  ·have e:∀ (l:List Value) (o:Nat) (u:Value),o<l.length→l.take o++[u]++l.drop (o+1)=l.set o u:=fun l o u h=>by rw [List.set_eq_take_append_cons_drop,if_pos h];simp
   have:=ahx.out;rw [e _ _ _ (by rw [List.length_set];omega)] at this;exact this
  ·exact (HCH.out.mono (fun k _ h=>.inr h)).trans ((av.only HS2.out (.inl rfl)).trans (av.only acZ.out (.inl rfl))))
end
end Go.Proofs.YtignemioillaiaaGreat
