/- slices.Insert of one Row. -/
import Derived.Test.YtignemioillaiaaGreatG03
namespace Go.Proofs.YtignemioillaiaaGreat
set_option maxHeartbeats 8000000
set_option maxRecDepth 100000
section
open Go.RowKit Go.Lib
theorem RX (g cap n i:Nat) (cur xs nw:List Value) (vb:Nat) (w:World) (hg:w.heap[g]? = some (.cells cur.toArray 128)) (hcs:cur.length=cap*2) (htk:cur.take (n*2)=xs) (hroom:n+1≤cap) (h1:∀ u∈xs,u.oneCell'=true)
 (hnl:nw.length=2) (zZ:∀ u∈nw,u.oneCell'=true) (hvb:w.heap[vb]? = some (.cells nw.toArray 128)) (hne:vb≠g) (hi:i<n) (hn:n<1000000) :
 Calls Tryz.prog 177 #[.slice (some ⟨g,0,none⟩) n cap,.int .i64 i,.slice (some ⟨vb,0,none⟩) 1 1] w fun e w' =>
  e=.returned (.slice (some ⟨g,0,none⟩) (n+1) cap)∧w'.heap[g]? = some (.cells (splice (splice cur ((i+1)*2) (xs.drop (i*2))) (i*2) nw).toArray 128)∧Only g w w':=by
 have hd1:((i:Int) == (n:Int))=false:=by simp;omega
 have hi0:(0:Int)≤(i:Int):=by omega
 have hi1:(i:Int)≤(n:Int):=by omega
 have hwr:IntKind.i64.wrap ((i:Int)+1)=(i:Int)+1:=by rw [IntKind.wrap_i64];omega
 have hi4:(0:Int)≤(i:Int)+1:=by omega
 have ht1:((i:Int)+1).toNat=i+1:=by omega
 have hi5:(i:Int)≤(n:Int)+1:=by omega
 have hi3:((i:Int)+1)≤(n:Int)+1:=by omega
 have Y4:n+1 - (i+1)=n - i:=by omega
 obtain ⟨i0,wU,hz0,hz1,hz2'⟩:=info_parts Bw;have hd2:decide ((cap:Int)<(n:Int)+1)=false:=by simp;omega
 have hi2:((n:Int)+1)≤(cap:Int):=by omega
 have Y5:¬ cap=i+1:=by omega
 have VL:¬ cap=i:=by omega
 have HG:Hid (w.heap[g]? = some (.cells cur.toArray 128)):=hg;have HV:Hid (w.heap[vb]? = some (.cells nw.toArray 128)):=hvb;have hov:∀ off lb cb,(callFunc 206 #[.slice (some ⟨vb,0,none⟩) 1 1,.slice (some ⟨g,off,none⟩) lb cb]).run Tryz.prog w=.ok (.value (.bool false)) w:=fun off lb cb=>by
  rw [run_callFunc_extern Tryz.func206 (by kernel_rfl) (by kernel_rfl) (by kernel_rfl) (e:=Extern.SlicesOverlaps.overlaps #[25,25] #[4]) (by kernel_rfl),
   Lib.run_overlaps_apart w 25 4 128 rE 2 (fun w=>by simp [sizeOf,typeInfo,wU,hz1]) ⟨vb,0,none⟩ ⟨g,off,none⟩ 1 1 lb cb hne 128 128 2 cur.length (by simp [World.shape?,hvb,hnl]) (by simp [World.shape?,hg]) (by rw [hcs];omega) (by simp [World.frozen?,hvb]) (by simp [World.frozen?,hvb])]
  rfl
 clear hg hvb wU hz0 hz1 hz2';have HX:Hid (cur.take (n*2)=xs):=htk;clear htk;have HL:Hid ((xs.drop (i*2)).length=(n - i)*2):=by
  show _=_;rw [← HX.out,List.length_drop,List.length_take,hcs,Nat.min_eq_left (Nat.mul_le_mul_right _ (by omega)),Nat.sub_mul]
 have HN:Hid (nw.length=2):=hnl;have Am:Nat.min (n+1 - i) (n - i)=n - i:=Nat.min_eq_right (by omega);have HC:Hid (cur.length=cap*2):=hcs;obtain ⟨X2,hX2⟩:∃ X2,X2=xs.drop (i*2):=⟨_,rfl⟩;have wu:Hid (X2=xs.drop (i*2)):=hX2;have HS2:Hid (∀ j v,X2[j]? = some v→w.cell? ((⟨g,i*2,none⟩:Addr).add j)=some v):=by rw [hX2];exact yQ HG.out HX.out _
 have dZ:Hid (∀ u∈X2,u.oneCell'=true):=by rw [hX2];exact DC h1 _
 have HL2:Hid (X2.length=Nat.min (n+1 - i) (n - i)*2):=by rw [hX2,Am];exact HL.out
 have wy:Hid ((i+1)*2+X2.length≤cur.length):=by show _≤_;rw [HL2.out,Am,HC.out,← Nat.add_mul];exact Nat.mul_le_mul_right _ (by omega)
 clear hX2 hcs hnl Am;rw [← wu.out];obtain ⟨c1,hc1⟩:∃ c1,c1=splice cur ((i+1)*2) X2:=⟨_,rfl⟩;have wB:Hid (c1=splice cur ((i+1)*2) X2):=hc1;rw [← hc1];clear hc1;go_enter Tryz.func177,Tryz.ntmps177
 go_wp2_with fail
 go_region_law (refine Df rfl (.tmp 73) (.tmp 76) 25 25 rfl 128 2 rE (by kernel_rfl) g ((i+1)*2) (n - i) (cap - (i+1)) (by simp [Act.eval,Act.put]) ⟨g,i*2,none⟩ (n+1 - i) (cap - i) (by simp [Act.eval,Act.put]) cur 128 HG.out X2 HL2.out HS2.out wy.out dZ.out ?_;intro w1 hg1 ho1)
 have Ce:Hid (w1.heap[g]? = some (.cells c1.toArray 128)):=by rw [wB.out];exact hg1.out
 have HV1:Hid (w1.heap[vb]? = some (.cells nw.toArray 128)):=(ho1.out.block vb hne).trans HV.out;have lG:Hid (Only g w w1):=Only.trans (Only.drew g w) ho1.out;have C8:Hid (i*2+nw.length≤c1.length):=by
  show _≤_;rw [wB.out,length_splice _ _ _ wy.out,HN.out,HC.out,← Nat.succ_mul];exact Nat.mul_le_mul_right _ (by omega)
 have dL:Hid (nw.length=Nat.min 1 (n+1 - i)*2):=by
  show _=_;rw [HN.out,show Nat.min 1 (n+1 - i)=1 from Nat.min_eq_left (by omega),Nat.one_mul]
 clear hg1 ho1;go_wp2_with (with_reducible show yw 82 ..;go_must (refine AO rfl (.tmp 80) (.tmp 81) 25 25 rfl 128 2 rE (by kernel_rfl) g (i*2) (n+1 - i) (cap - i) rfl ⟨vb,0,none⟩ 1 1 rfl c1 128 Ce.out nw dL.out (Al HV1.out) C8.out zZ ?_;intro w2 hg2 ho2))
 go_wp2
 go_ret
 exact ⟨rfl,hg2.out,lG.out.trans ho2.out⟩
theorem RY (g cap n i:Nat) (cur xs nw:List Value) (vb:Nat) (w:World) (hg:w.heap[g]? = some (.cells cur.toArray 128)) (hcs:cur.length=cap*2) (htk:cur.take (n*2)=xs) (hnc:n≤cap) (hroom:cap<n+1) (h1:∀ u∈xs,u.oneCell'=true)
 (hnl:nw.length=2) (zZ:∀ u∈nw,u.oneCell'=true) (hvb:w.heap[vb]? = some (.cells nw.toArray 128)) (hi:i<n) (hn:n<1000000) :
 Calls Tryz.prog 177 #[.slice (some ⟨g,0,none⟩) n cap,.int .i64 i,.slice (some ⟨vb,0,none⟩) 1 1] w fun e w' =>
  ∃ (c2:Nat) (dP:List Value),e=.returned (.slice (some ⟨w.heap.size,0,none⟩) (n+1) c2)∧w'.heap[w.heap.size]? = some (.cells (splice (splice dP (i*2) nw) ((i+1)*2) (xs.drop (i*2))).toArray 128) ∧
   dP.length=c2*2∧n+1≤c2∧c2≤maxLen∧dP.take (i*2)=xs.take (i*2)∧Below w.heap.size w w':=by
 have hd1:((i:Int) == (n:Int))=false:=by simp;omega
 have hi0:(0:Int)≤(i:Int):=by omega
 have hi1:(i:Int)≤(n:Int):=by omega
 have hwr:IntKind.i64.wrap ((i:Int)+1)=(i:Int)+1:=by rw [IntKind.wrap_i64];omega
 have hi4:(0:Int)≤(i:Int)+1:=by omega
 have ht1:((i:Int)+1).toNat=i+1:=by omega
 have hi5:(i:Int)≤(n:Int)+1:=by omega
 have hi3:((i:Int)+1)≤(n:Int)+1:=by omega
 have Y4:n+1 - (i+1)=n - i:=by omega
 obtain ⟨i0,wU,hz0,hz1,hz2'⟩:=info_parts Bw;have hd2:decide ((cap:Int)<(n:Int)+1)=true:=by simp;omega
 have hgl:g<w.heap.size:=(df hg);have hvl:vb<w.heap.size:=(df hvb);have HG:Hid (w.heap[g]? = some (.cells cur.toArray 128)):=hg;have HV:Hid (w.heap[vb]? = some (.cells nw.toArray 128)):=hvb;have hxl:(xs.take (i*2)).length=i*i0.size:=by
  rw [hz1,List.length_take,← htk,List.length_take,hcs,Nat.min_eq_left (Nat.mul_le_mul_right _ hnc),Nat.min_eq_left (Nat.mul_le_mul_right _ (by omega))]
 have WR:∀ j v,(xs.take (i*2))[j]? = some v→w.cell? ((⟨g,0,none⟩:Addr).add j)=some v:=by
  intro j v hj;refine yQ hg htk 0 j v ?_;rw [List.getElem?_take] at hj;split at hj
  ·simpa using hj
  ·cases hj
 obtain ⟨dP,BA,LF,hrun⟩:=Dz (P:=Tryz.prog) w 25 3 25 128 i0 (.agg #[.int .u64 0,.int .u64 0]) .i64 .i64 rE RI wU hz0 (by rw [hz1];rfl) ⟨g,0,none⟩ i cap (xs.take (i*2)) hxl WR (n+1 - i) (by omega) (by rw [hz1];decide) (by omega) (by rw [hz2',show i+(n+1 - i)=n+1 by omega];omega) (by unfold maxLen;omega);have hge:=grownCap_ge w (i+(n+1 - i)) cap 128;have hle:=grownCap_le_maxLen w (i+(n+1 - i)) cap 128 (by unfold maxLen;omega);generalize grownCap w (i+(n+1 - i)) cap 128=c2 at BA hrun hge hle;rw [show i+(n+1 - i)=n+1 by omega] at hrun hge;rw [show (((n+1 - i:Nat)):Int)=(n:Int)+1 - (i:Int) by omega] at hrun;rw [hz1] at BA LF;have HR:Hid ((Builtin.append_ #[25,3] 25 #[.slice (some ⟨g,0,none⟩) i cap,.int .i64 ((n:Int)+1 - (i:Int))]).run Tryz.prog w=.ok (.slice (some ⟨w.heap.size,0,none⟩) (n+1) c2) (w.drew.alloc (.cells dP.toArray 128))):=hrun;obtain ⟨W,hW⟩:∃ W,W=w.drew.alloc (.cells dP.toArray 128):=⟨_,rfl⟩;have HW0:Hid (W.heap[w.heap.size]? = some (.cells dP.toArray 128)):=by show _=_;rw [hW];exact heap_alloc_new w.drew _
 have WS:Hid (Below w.heap.size w W):=by
  show Below _ _ _;rw [hW];exact (Below.refl _ w).drew.alloc (Nat.le_refl _) _
 have lH:Hid (dP.length=c2*2∧dP.take (i*2)=xs.take (i*2)∧n+1≤c2∧c2≤maxLen):=(⟨BA,LF,hge,hle⟩:_∧_∧_∧_);have Y5:¬ c2=i+1:=by omega
 have VL:¬ c2=i:=by omega
 have acC:¬ cap=i:=by omega
 have HX:Hid (cur.take (n*2)=xs):=htk;have HL:Hid ((xs.drop (i*2)).length=(n - i)*2):=by
  show _=_;rw [← htk,List.length_drop,List.length_take,hcs,Nat.min_eq_left (Nat.mul_le_mul_right _ (by omega)),Nat.sub_mul]
 have HN:Hid (nw.length=2):=hnl;have dL:Hid (nw.length=Nat.min 1 (n+1 - i)*2):=by
  show _=_;rw [hnl,show Nat.min 1 (n+1 - i)=1 from Nat.min_eq_left (by omega),Nat.one_mul]
 have C8:Hid (i*2+nw.length≤dP.length):=by
  show _≤_;rw [hnl,BA,← Nat.succ_mul];exact Nat.mul_le_mul_right _ (by omega)
 have Am:Nat.min (n - i) (n - i)=n - i:=Nat.min_self _;obtain ⟨X2,hX2⟩:∃ X2,X2=xs.drop (i*2):=⟨_,rfl⟩;have wu:Hid (X2=xs.drop (i*2)):=hX2;have HS2:Hid (∀ j v,X2[j]? = some v→w.cell? ((⟨g,i*2,none⟩:Addr).add j)=some v):=by rw [hX2];exact yQ hg htk _
 have dZ:Hid (∀ u∈X2,u.oneCell'=true):=by rw [hX2];exact DC h1 _
 have HL2:Hid (X2.length=Nat.min (n - i) (n - i)*2):=by rw [hX2,Am];exact HL.out
 obtain ⟨c1,hc1⟩:∃ c1,c1=splice dP (i*2) nw:=⟨_,rfl⟩;have wB:Hid (c1=splice dP (i*2) nw):=hc1;have wy:Hid ((i+1)*2+X2.length≤c1.length):=by show _≤_;rw [hc1,length_splice _ _ _ C8.out,HL2.out,Am,BA,← Nat.add_mul];exact Nat.mul_le_mul_right _ (by omega)
 clear hX2 hcs hnl Am hc1 BA LF hge hle hrun hg hvb htk hxl WR wU hz0 hz1 hz2';go_enter Tryz.func177,Tryz.ntmps177
 go_wp2_with (first
  | (with_reducible show yw 40 ..;go_must (refine Lib.wpList_append_run _ rfl (.tmp 34) (.tmp 39) 25 3 rfl (.slice (some ⟨g,0,none⟩) i cap) (.int .i64 ((n:Int)+1 - (i:Int))) rfl rfl _ _ HR.out ?_;rw [← hW];clear hW HR))
  | (with_reducible show yw 45 ..;go_must (refine AO rfl (.tmp 43) (.tmp 44) 25 25 rfl 128 2 rE (by kernel_rfl) w.heap.size (i*2) (n+1 - i) (c2 - i) rfl ⟨vb,0,none⟩ 1 1 rfl dP 128 HW0.out nw dL.out (Al ((WS.out.block vb hvl).trans HV.out)) C8.out zZ ?_;intro w1 hg1 ho1)))
 have Ce:Hid (w1.heap[w.heap.size]? = some (.cells c1.toArray 128)):=by rw [wB.out];exact hg1.out
 have HB1:Hid (Below w.heap.size w w1):=WS.out.trans (ho1.out.below (Nat.le_refl _));have uF:Hid (∀ j v,X2[j]? = some v→w1.cell? ((⟨g,i*2,none⟩:Addr).add j)=some v):=fun j v hj=>by
  have:=HS2.out j v hj;rw [MQ] at this ⊢;rw [HB1.out.cell (p:=⟨g,i*2+j,none⟩) hgl];exact this
 clear hg1 ho1;go_region_law (refine Df rfl (.tmp 50) (.tmp 53) 25 25 rfl 128 2 rE (by kernel_rfl) w.heap.size ((i+1)*2) (n - i) (c2 - (i+1)) (by simp [Act.eval,Act.put]) ⟨g,i*2,none⟩ (n - i) (cap - i) (by simp [Act.eval,Act.put]) c1 128 Ce.out X2 HL2.out uF.out wy.out dZ.out ?_;intro w2 hg2 ho2)
 go_wp2
 go_ret
 exact ⟨c2,dP,rfl,by rw [← wu.out,← wB.out];exact hg2.out,lH.out.1,lH.out.2.2.1,lH.out.2.2.2,lH.out.2.1,HB1.out.drew.trans (ho2.out.below (Nat.le_refl _))⟩
theorem UA (base:Nat) (a:Option Addr) (n c:Nat) (xs nw:List Value) (vb:Nat) (w:World) (hown:w.ownsRow base 128 2 (.slice a n c) n xs)
 (hnl:nw.length=2) (zZ:∀ u∈nw,u.oneCell'=true) (hvb:w.heap[vb]? = some (.cells nw.toArray 128)) (hb:base≤w.heap.size) (hn:n<1000000) :
 Calls Tryz.prog 177 #[.slice a n c,.int .i64 n,.slice (some ⟨vb,0,none⟩) 1 1] w fun e w' =>
  ∃ v',e=.returned v'∧w'.ownsRow base 128 2 v' (n+1) (xs++nw)∧fC w (.slice a n c) w' v':=by
 obtain ⟨i0,wU,hz0,hz1,hz2'⟩:=info_parts Bw;have HV:Hid (∀ (j:Nat) (u:Value),nw[j]? = some u→w.cell? ((⟨vb,0,none⟩:Addr).add j)=some u):=Al hvb;have hi0:(0:Int)≤(n:Int):=by omega
 have HOW:Hid (w.ownsRow base 128 2 (.slice a n c) n xs):=hown;have HN:Hid (nw.length=1*2):=by show _=_;rw [hnl]
 clear hown hvb hnl;go_enter Tryz.func177,Tryz.ntmps177
 go_wp2_with (at_builtin;go_must (refine aZ _ rfl _ _ 25 rfl base 128 i0 (.agg #[.int .u64 0,.int .u64 0]) 2 16 rE wU hz0 hz1 hz2' rfl (by decide) (.slice a n c) n xs rfl HOW.out ⟨vb,0,none⟩ 1 1 nw rfl HN.out HV.out zZ (by unfold maxLen;omega) (by omega) hb ?_;intro v' w1 hown' hgrow))
 all_goals (go_wp2;go_ret;exact ⟨v',rfl,hown',by first | exact hgrow | (rw [h] at hgrow;exact hgrow)⟩)
theorem abu (base:Nat) (v:Value) (n i:Nat) (xs nw:List Value) (vb:Nat) (w:World) (hown:w.ownsRow base 128 2 v n xs) (h1:∀ u∈xs,u.oneCell'=true)
 (hnl:nw.length=2) (zZ:∀ u∈nw,u.oneCell'=true) (hvb:w.heap[vb]? = some (.cells nw.toArray 128)) (hne:v.ownBlock≠some vb) (hi:i≤n) (hb:base≤w.heap.size) (hn:n<1000000) :
 Calls Tryz.prog 177 #[v,.int .i64 i,.slice (some ⟨vb,0,none⟩) 1 1] w fun e w' =>
  ∃ v',e=.returned v'∧w'.ownsRow base 128 2 v' (n+1) (xs.take (i*2)++(nw++xs.drop (i*2)))∧fC w v w' v':=by
 have hxl:=hown.1;rcases Nat.lt_or_eq_of_le hi with hlt | rfl
 ·rcases hown.2 with ⟨_,h0⟩ | ⟨g,cap,cur,rfl,hbg,hg,hnc,hcm,hcs,htake⟩
  ·omega
  have hcs':cur.toList.length=cap*2:=by rw [Array.length_toList];exact hcs
  have hne':vb≠g:=fun e=>hne (by rw [e];rfl)
  have hg':w.heap[g]? = some (.cells cur.toList.toArray 128):=by rw [Array.toArray_toList];exact hg
  have hL:(xs.take (i*2)++(nw++xs.drop (i*2))).length=(n+1)*2:=by
   simp only [List.length_append,List.length_take,List.length_drop,hxl,hnl,Nat.min_eq_left (Nat.mul_le_mul_right 2 (Nat.le_of_lt hlt))];have:=Nat.mul_le_mul_right 2 (Nat.le_of_lt hlt);omega
  by_cases hroom:n+1≤cap
  ·refine (RX g cap n i cur.toList xs nw vb w hg' hcs' htake hroom h1 hnl zZ hvb hne' hlt hn).mono ?_
   rintro e w' ⟨rfl,hg1,ho⟩;have hcl:n*2+2≤cur.toList.length:=by rw [hcs',← Nat.succ_mul];exact Nat.mul_le_mul_right _ hroom
   have hil:=Nat.mul_le_mul_right 2 (Nat.le_of_lt hlt);rw [Nat.succ_mul,I6 cur.toList xs nw (i*2) 2 (n*2) htake hcl hil hnl] at hg1;refine ⟨_,rfl,⟨hL,.inr ⟨g,cap,_,rfl,hbg,hg1,hroom,hcm,?_,?_⟩⟩,⟨qB ho,.inl rfl⟩⟩
   ·rw [List.size_toArray,← hcs',← List.append_assoc,← List.append_assoc,List.append_assoc _ nw,List.length_append,hL,List.length_drop,Nat.succ_mul]
    omega
   ·show (xs.take (i*2)++(nw++(xs.drop (i*2)++_))).take ((n+1)*2)=_
    rw [← hL];exact Dh _ _ _ _
  ·refine (RY g cap n i cur.toList xs nw vb w hg' hcs' htake hnc (by omega) h1 hnl zZ hvb hlt hn).mono ?_
   rintro e w' ⟨c2,dP,rfl,hg1,hl2,hge,hle,ht2,hbel⟩;have hal:(xs.take (i*2)).length=i*2:=by rw [List.length_take,hxl,Nat.min_eq_left (Nat.mul_le_mul_right 2 (Nat.le_of_lt hlt))]
   have hdl:(xs.drop (i*2)).length=n*2 - i*2:=by rw [List.length_drop,hxl]
   have hil:=Nat.mul_le_mul_right 2 (Nat.le_of_lt hlt);have hcl:i*2+2+(xs.drop (i*2)).length≤dP.length:=by
    rw [hdl,hl2];have:=Nat.mul_le_mul_right 2 hge;rw [Nat.succ_mul] at this;omega
   rw [Nat.succ_mul,I7 dP _ nw _ (i*2) 2 ht2 hal hnl hcl] at hg1;refine ⟨_,rfl,⟨hL,.inr ⟨w.heap.size,c2,_,rfl,hb,hg1,hge,hle,?_,?_⟩⟩,⟨F6 hbel,.inr fun k hk=>?_⟩⟩
   ·rw [List.size_toArray,← hl2,← List.append_assoc,← List.append_assoc,List.append_assoc _ nw,List.length_append,hL,List.length_drop,Nat.succ_mul]
    rw [hdl] at hcl ⊢;omega
   ·show (xs.take (i*2)++(nw++(xs.drop (i*2)++_))).take ((n+1)*2)=_
    rw [← hL];exact Dh _ _ _ _
   ·simp [Value.ownBlock] at hk;omega
 ·obtain ⟨a,c,rfl⟩:∃ a c,v=.slice a i c:=by
   rcases hown.2 with ⟨rfl,rfl⟩ | ⟨g,cap,cur,rfl,_⟩
   ·exact ⟨none,0,rfl⟩
   ·exact ⟨_,_,rfl⟩
  refine (UA base a i c xs nw vb w hown hnl zZ hvb hb hn).mono ?_;rintro e w' ⟨v',rfl,hown',hgr⟩;refine ⟨v',rfl,?_,hgr⟩;rw [List.take_of_length_le (by omega),List.drop_eq_nil_of_le (by omega),List.append_nil];exact hown'
theorem UB (g cap n i:Nat) (cur xs:List Value) (w:World) (hg:w.heap[g]? = some (.cells cur.toArray 128)) (hcs:cur.length=cap*2) (htk:cur.take (n*2)=xs) (hnc:n≤cap) (h1:∀ u∈xs,u.oneCell'=true) (hi:i<n) (hn:n<1000000) (hcap:¬ cap=i+1) :
 Calls Tryz.prog 178 #[.slice (some ⟨g,0,none⟩) n cap,.int .i64 i,.int .i64 ((i:Int)+1)] w fun e w' =>
  e=.returned (.slice (some ⟨g,0,none⟩) (n - 1) cap)∧(∃ zs:List Value,zs.length=2∧w'.heap[g]? = some (.cells (splice (cur.take (i*2)++xs.drop (i*2+2)++cur.drop (i*2+(xs.drop (i*2+2)).length)) (n*2 - 2) zs).toArray 128))∧Only g w w':=by
 obtain ⟨i0,wU,hz0,hz1,hz2'⟩:=info_parts Bw;have hd1:((i:Int) == (i:Int)+1)=false:=beq_eq_false_iff_ne.2 (by omega);have hi0:(0:Int)≤(i:Int):=by omega
 have hi1:(i:Int)≤(i:Int)+1:=by omega
 have hi2:((i:Int)+1)≤(n:Int):=by omega
 have hi3:(n:Int)≤(cap:Int):=by omega
 have hi4:(0:Int)≤(i:Int)+1:=by omega
 have hi5:(i:Int)≤(cap:Int):=by omega
 have ht1:((i:Int)+1).toNat=i+1:=by omega
 have hi6:((n - 1:Nat):Int)≤(n:Int):=by omega
 have hcn:¬ cap=i+1:=by omega
 have VL:¬ cap=n - 1:=by omega
 have hsb:n - (n - 1)=1:=by omega
 have acC:¬ n=i:=by omega
 have HG:Hid (w.heap[g]? = some (.cells cur.toArray 128)):=hg;have HX:Hid (cur.take (n*2)=xs):=htk;have HC:Hid (cur.length=cap*2):=hcs;obtain ⟨X2,hX2⟩:∃ X2,X2=xs.drop (i*2+2):=⟨_,rfl⟩;have wu:Hid (X2=xs.drop (i*2+2)):=hX2;have hxl:xs.length=n*2:=by rw [← htk,List.length_take,hcs,Nat.min_eq_left (Nat.mul_le_mul_right _ hnc)]
 have HL2:Hid (X2.length=(n - (i+1))*2):=by
  show _=_;rw [hX2,List.length_drop,hxl,Nat.sub_mul,Nat.succ_mul]
 have HS2:Hid (∀ j v,X2[j]? = some v→w.cell? ((⟨g,(i+1)*2,none⟩:Addr).add j)=some v):=by
  intro j v hj;rw [hX2] at hj;have:=yQ hg htk (i*2+2) j v hj;rw [show (i+1)*2=i*2+2 by omega];exact this
 have dZ:Hid (∀ u∈X2,u.oneCell'=true):=by rw [hX2];exact DC h1 _
 have wy:Hid (i*2+X2.length≤cur.length):=by show _≤_;rw [HL2.out,hcs,← Nat.add_mul];exact Nat.mul_le_mul_right _ (by omega)
 have hrm:i+(n - (i+1))≤cap:=by omega
 have hre:i+(n - (i+1))=n - 1:=by omega
 obtain ⟨c1,hc1⟩:∃ c1,c1=cur.take (i*2)++X2++cur.drop (i*2+X2.length):=⟨_,rfl⟩;have wB:Hid (c1=cur.take (i*2)++X2++cur.drop (i*2+X2.length)):=hc1;have C8:Hid ((n - 1)*2+1*2≤c1.length):=by
  have h2:=wy.out;show _≤_;rw [hc1,List.length_append,List.length_append,List.length_take,List.length_drop,hcs,Nat.min_eq_left (Nat.mul_le_mul_right _ (by omega))];omega
 clear hg htk hcs hX2 hxl hc1;go_enter Tryz.func178,Tryz.ntmps178
 go_wp2_with fail
 go_region_law (refine Ji rfl (.tmp 22) (.tmp 25) 25 rfl 128 i0 rE wU 2 hz1 g i cap (by simp [Act.eval,Act.put]) ⟨g,(i+1)*2,none⟩ (n - (i+1)) (cap - (i+1)) (by simp [Act.eval,Act.put]) cur HG.out X2 HL2.out HS2.out dZ.out hrm wy.out (n - 1) hre ?_;intro w1 hg1 ho1)
 have Ce:Hid (w1.heap[g]? = some (.cells c1.toArray 128)):=by rw [wB.out];exact hg1.out
 have lG:Hid (Only g w w1):=Only.trans (Only.drew g w) ho1.out;clear hg1 ho1;go_wp2_with (with_reducible show wpList _ _ _ ({ dst:=none,op:=Op.call _,type:=_,pos:=_,after:=_,guard:=none }::_) _ _;go_must (refine CU rfl (.tmp 31) 25 rfl 128 i0 (.agg #[.int .u64 0,.int .u64 0]) rE wU hz0 2 hz1 rfl (by simp [Value.cells,Value.oneCell']) g ((n - 1)*2) 1 (cap - (n - 1)) rfl (by decide) c1 128 Ce.out C8.out ?_;intro zs w2 hzl hg2 ho2))
 go_wp2
 go_ret
 refine ⟨rfl,⟨zs,by rw [hzl.out],?_⟩,lG.out.trans ho2.out⟩;rw [← wu.out,← wB.out,show n*2 - 2=(n - 1)*2 by omega];exact hg2.out
theorem RZ (g i:Nat) (cur _xs:List Value) (w:World) (hg:w.heap[g]? = some (.cells cur.toArray 128)) (hcs:cur.length=(i+1)*2) (hn:i<1000000) :
 Calls Tryz.prog 178 #[.slice (some ⟨g,0,none⟩) (i+1) (i+1),.int .i64 i,.int .i64 ((i:Int)+1)] w fun e w' =>
  e=.returned (.slice (some ⟨g,0,none⟩) i (i+1))∧(∃ zs:List Value,zs.length=2∧w'.heap[g]? = some (.cells (splice (cur.take (i*2)++cur.drop (i*2)) (i*2) zs).toArray 128))∧Only g w w':=by
 obtain ⟨i0,wU,hz0,hz1,hz2'⟩:=info_parts Bw;have hd1:((i:Int) == (i:Int)+1)=false:=beq_eq_false_iff_ne.2 (by omega);have hi0:(0:Int)≤(i:Int):=by omega
 have hi1:(i:Int)≤(i:Int)+1:=by omega
 have hi4:(0:Int)≤(i:Int)+1:=by omega
 have ht1:((i:Int)+1).toNat=i+1:=by omega
 have HG:Hid (w.heap[g]? = some (.cells cur.toArray 128)):=hg;have HC:Hid (cur.length=(i+1)*2):=hcs;have wy:Hid (i*2+([]:List Value).length≤cur.length):=by show _≤_;rw [hcs];simp;omega
 obtain ⟨c1,hc1⟩:∃ c1,c1=cur.take (i*2)++[]++cur.drop (i*2+([]:List Value).length):=⟨_,rfl⟩;have wB:Hid (c1=cur.take (i*2)++[]++cur.drop (i*2+([]:List Value).length)):=hc1;have C8:Hid (i*2+1*2≤c1.length):=by
  show _≤_;simp only [hc1,List.append_nil,List.length_nil,Nat.add_zero,List.take_append_drop,hcs];omega
 clear hg hcs hc1;go_enter Tryz.func178,Tryz.ntmps178
 go_wp2_with fail
 go_region_law (refine Ji rfl (.tmp 22) (.tmp 25) 25 rfl 128 i0 rE wU 2 hz1 g i (i+1) (by simp [Act.eval,Act.put]) ⟨g,0,none⟩ 0 0 (by simp [Act.eval,Act.put]) cur HG.out [] rfl (fun j u h=>by simp at h) (fun u h=>by simp at h) (by omega) wy.out i (by omega) ?_;intro w1 hg1 ho1)
 have Ce:Hid (w1.heap[g]? = some (.cells c1.toArray 128)):=by rw [wB.out];exact hg1.out
 have lG:Hid (Only g w w1):=Only.trans (Only.drew g w) ho1.out;clear hg1 ho1;go_wp2_with (with_reducible show wpList _ _ _ ({ dst:=none,op:=Op.call _,type:=_,pos:=_,after:=_,guard:=none }::_) _ _;go_must (refine CU rfl (.tmp 31) 25 rfl 128 i0 (.agg #[.int .u64 0,.int .u64 0]) rE wU hz0 2 hz1 rfl (by simp [Value.cells,Value.oneCell']) g (i*2) 1 1 (by simp [Act.eval]) (by decide) c1 128 Ce.out C8.out ?_;intro zs w2 hzl hg2 ho2))
 go_wp2
 go_ret
 refine ⟨rfl,⟨zs,by rw [hzl.out],?_⟩,lG.out.trans ho2.out⟩;have h2:=hg2.out;rw [wB.out,List.append_nil,List.length_nil,Nat.add_zero] at h2;exact h2
theorem abv (base:Nat) (v:Value) (n i:Nat) (xs:List Value) (w:World) (hown:w.ownsRow base 128 2 v n xs) (h1:∀ u∈xs,u.oneCell'=true) (hi:i<n) (hn:n<1000000) :
 Calls Tryz.prog 178 #[v,.int .i64 i,.int .i64 ((i:Int)+1)] w fun e w' =>
  ∃ v',e=.returned v'∧w'.ownsRow base 128 2 v' (n - 1) (xs.take (i*2)++xs.drop (i*2+2))∧fC w v w' v':=by
 have hxl:=hown.1;rcases hown.2 with ⟨_,h0⟩ | ⟨g,cap,cur,rfl,hbg,hg,hnc,hcm,hcs,htake⟩
 ·omega
 have hcs':cur.toList.length=cap*2:=by rw [Array.length_toList];exact hcs
 have hg':w.heap[g]? = some (.cells cur.toList.toArray 128):=by rw [Array.toArray_toList];exact hg
 have hcl:n*2≤cur.toList.length:=by rw [hcs'];exact Nat.mul_le_mul_right _ hnc
 have hil:i*2+2≤n*2:=by rw [← Nat.succ_mul];exact Nat.mul_le_mul_right _ hi
 have key:Calls Tryz.prog 178 #[.slice (some ⟨g,0,none⟩) n cap,.int .i64 i,.int .i64 ((i:Int)+1)] w fun e w' =>
  e=.returned (.slice (some ⟨g,0,none⟩) (n - 1) cap)∧(∃ zs:List Value,zs.length=2∧w'.heap[g]? = some (.cells (splice (cur.toList.take (i*2)++xs.drop (i*2+2)++cur.toList.drop (i*2+(xs.drop (i*2+2)).length)) (n*2 - 2) zs).toArray 128))∧Only g w w':=by
  by_cases hc:cap=i+1
  ·obtain rfl:n=i+1:=by omega
   subst hc;have he:xs.drop (i*2+2)=[]:=List.drop_eq_nil_of_le (by omega);refine (RZ g i cur.toList xs w hg' hcs' (by omega)).mono ?_;rintro e w' ⟨rfl,⟨zs,hzl,hg1⟩,ho⟩;refine ⟨rfl,⟨zs,hzl,?_⟩,ho⟩;rw [he,List.append_nil,List.length_nil,Nat.add_zero,show (i+1)*2 - 2=i*2 by omega];exact hg1
  ·exact UB g cap n i cur.toList xs w hg' hcs' htake hnc h1 hi hn hc
 refine key.mono ?_;rintro e w' ⟨rfl,⟨zs,hzl,hg1⟩,ho⟩;have hL:(xs.take (i*2)++xs.drop (i*2+2)).length=(n - 1)*2:=by
  rw [List.length_append,List.length_take,List.length_drop,hxl];omega
 refine ⟨_,rfl,⟨hL,.inr ⟨g,cap,_,rfl,hbg,hg1,by omega,hcm,?_,?_⟩⟩,⟨qB ho,.inl rfl⟩⟩
 ·have hl1:(cur.toList.take (i*2)++xs.drop (i*2+2)++cur.toList.drop (i*2+(xs.drop (i*2+2)).length)).length=cap*2:=by
   rw [List.length_append,List.length_append,List.length_take,List.length_drop,List.length_drop,hxl,hcs'];rw [hcs'] at hcl;omega
  rw [List.size_toArray,length_splice _ _ _ (by rw [hl1,hzl];rw [hcs'] at hcl;omega),hl1]
 ·show (splice _ _ _).take ((n - 1)*2)=_
  rw [show (n - 1)*2=n*2 - 2 by omega];exact Y0 cur.toList xs zs (i*2) 2 (n*2) htake hcl hil hzl
structure mq (w:World) (base b:Nat) (g n:Int) (vT vM vD vO vI:Value) (T:List Row) (D:List ak):Prop where
 cell:w.heap[b]? = some (.cells (rW g n vT vM vD vO vI).toArray 31)
 oT:w.ownsRow base 128 2 vT T.length (T.map Row.cells).flatten
 oD:w.ownsRow base 57 7 vD D.length (D.map ak.cells).flatten
 b1:base≤b
def Kd (t:TypeId):Prop:=t=31∨t=128∨t=57
structure Mod (base lim:Nat) (X:Nat→Prop) (w w':World):Prop where
 os:w'.os=w.os
 tape:w'.tape=w.tape
 output:w'.output=w.output
 size:w.heap.size≤w'.heap.size
 block:∀ k,k<w.heap.size→(k<base∨lim≤k∨¬ X k)→w'.heap[k]? = w.heap[k]?
 typ:∀ (k:Nat) (cs:Array Value) (t:TypeId),w.heap[k]? = some (.cells cs t)→¬ Kd t→w'.heap[k]? = w.heap[k]?
theorem Mod.trans {base lim:Nat} {X:Nat→Prop} {a b c:World} (h:Mod base lim X a b) (k:Mod base lim X b c):Mod base lim X a c :=
 ⟨k.os.trans h.os,k.tape.trans h.tape,k.output.trans h.output,Nat.le_trans h.size k.size,fun j hj hx=>(k.block j (Nat.lt_of_lt_of_le hj h.size) hx).trans (h.block j hj hx),
  fun j cs t hj ht=>(k.typ j cs t ((h.typ j cs t hj ht).trans hj) ht).trans (h.typ j cs t hj ht)⟩
theorem Mod.later {base lim:Nat} {X:Nat→Prop} {w w':World} (h:Below w.heap.size w w'):Mod base lim X w w':=⟨h.os,h.tape,h.output,h.size,fun k hk _=>h.block k hk,fun k _ _ hk _=>h.block k (df hk)⟩
theorem Mod.only {base lim:Nat} {X:Nat→Prop} {B:Nat} {w w':World} {cs:Array Value} {t:TypeId} (h:Only B w w') (h1:base≤B) (h2:B<lim∧X B) (hB:w.heap[B]? = some (.cells cs t)) (ht:Kd t):Mod base lim X w w' :=
 ⟨h.os,h.tape,h.output,Nat.le_of_eq h.size.symm,fun k _ hx=>h.block k (fun e=>by subst e;rcases hx with hx | hx | hx;omega;omega;exact hx h2.2),fun k cs' t' hk hn=>h.block k (fun e=>by subst e;rw [hB] at hk;simp at hk;exact hn (hk.2 ▸ ht))⟩
theorem Mod.grew {base lim b':Nat} {X:Nat→Prop} {w w':World} {v v':Value} {e:TypeId} {s n:Nat} {xs:List Value} (h:fC w v w' v') (h1:∀ k,v.ownBlock=some k→base≤k∧k<lim∧X k) (hown:w.ownsRow b' e s v n xs) (ht:Kd e):Mod base lim X w w' :=
 ⟨h.grown.os,h.grown.tape,h.grown.output,h.grown.size,fun k hk hx=>h.grown.block k hk (fun e=>by obtain ⟨x1,x2,x3⟩:=h1 k e.symm;rcases hx with hx | hx | hx;omega;omega;exact hx x3),fun k cs t hk hn=>h.grown.block k (df hk) (fun ek=>by
  rcases hown.2 with ⟨rfl,_⟩ | ⟨g,cap,cur,rfl,_,hg,_⟩
  ·simp [Value.ownBlock] at ek
  ·simp [Value.ownBlock] at ek
   subst ek;rw [hg] at hk;simp at hk;exact hn (hk.2 ▸ ht))⟩
theorem kdS:Kd 31:=.inl rfl
theorem kdT:Kd 128:=.inr (.inl rfl)
theorem kdD:Kd 57:=.inr (.inr rfl)
theorem pI {base:Nat} {w:World} {e:TypeId} {k:Nat} {v:Value} {α:Type} {f:α→List Value} {l:List α} (h:w.ownsRow base e k v l.length (l.map f).flatten) (hf:∀ y,(f y).length=k) :
 ∃ a n c,v=.slice a n c∧n=l.length∧bQ w.heap.size w ⟨a,n,c⟩ k (l.map f):=by
 obtain ⟨a,n,c,h1,h2,_⟩:=qj (xs:=l.map f) (by rw [List.length_map];exact h) (by intro y hy;obtain ⟨r,_,rfl⟩:=List.mem_map.1 hy;exact hf r);exact ⟨a,n,c,h1,by simpa using h2.len,h2⟩
theorem ay {base:Nat} {w w':World} {e:TypeId} {k n:Nat} {v:Value} {xs:List Value} (h:w.ownsRow base e k v n xs) (hb:Below w.heap.size w w'):w'.ownsRow base e k v n xs :=
 h.kept (row:=none) (F6 hb) (by cases hv:v.ownBlock <;> simp)
theorem mq.later {w w':World} {base b:Nat} {g n:Int} {vT vM vD vO vI:Value} {T:List Row} {D:List ak} (h:mq w base b g n vT vM vD vO vI T D) (hb:Below w.heap.size w w'):mq w' base b g n vT vM vD vO vI T D :=
 ⟨af hb h.cell,ay h.oT hb,ay h.oD hb,h.b1⟩
theorem acF {w:World} {base b:Nat} {g n:Int} {vT vM vD vO vI:Value} {T:List Row} {D:List ak} (h:mq w base b g n vT vM vD vO vI T D):w.cell? ⟨b,2,none⟩=some vT:=ah h.cell 2
abbrev wE (T:List Row) (key:Int):Nat:=fJ (fun x:Row=>j3 x.key key) T
abbrev o7 (T:List Row) (key:Int):Bool:=wS (fun x:Row=>j3 x.key key) T
abbrev Bn (D:List ak) (q:ak):Nat:=fJ (fun x:ak=>nO x q) D
abbrev BC (D:List ak) (q:ak):Bool:=wS (fun x:ak=>nO x q) D
theorem BD (w:World) (base b:Nat) (g n:Int) (vT vM vD vO vI:Value) (T:List Row) (D:List ak) (key:Int) (h:mq w base b g n vT vM vD vO vI T D) (hs:jZ T) :
 Calls Tryz.prog 176 #[.pointer (some ⟨b,0,none⟩),.int .u64 key] w fun e w'=>e=.returned (.tuple #[.int .i64 (wE T key:Nat),.bool (o7 T key)])∧Below w.heap.size w w':=by
 obtain ⟨a,m,c,rfl,hm,hin⟩:=pI h.oT (fun y=>rfl);have hc:=acF h;have HI:Hid (bQ w.heap.size w ⟨a,m,c⟩ 2 (T.map Row.cells)):=hin;have HS:Hid (jZ T):=hs;clear h hin hs hm;go_enter Tryz.func176,Tryz.ntmps176
 go_wp2_with (go_at_call 204;go_must (refine (abq a m c T key _ HI.out (VM HS.out key)).mono ?_;rintro e w1 ⟨rfl,hb1⟩))
 go_ret2
 exact ⟨rfl,hb1⟩
theorem Dn (w:World) (base b:Nat) (g n:Int) (vT vM vD vO vI:Value) (T:List Row) (D:List ak) (qc qs ag qk:Int) (qf:Bool) (qv qg:Int) (h:mq w base b g n vT vM vD vO vI T D) (hs:eU D) :
 Calls Tryz.prog 84 #[.pointer (some ⟨b,0,none⟩),.agg (rP qc qs ag qk qf qv qg).toArray] w fun e w'=>e=.returned (.tuple #[.int .i64 (Bn D (ak.mk qc qs ag qk qf qv qg):Nat),.bool (BC D (ak.mk qc qs ag qk qf qv qg))])∧Below w.heap.size w w':=by
 obtain ⟨W,hW⟩:∃ W,W=w.alloc (.cells (rP qc qs ag qk qf qv qg).toArray 57):=⟨_,rfl⟩;have fP:W.heap[w.heap.size]? = some (.cells (rP qc qs ag qk qf qv qg).toArray 57):=by rw [hW];exact heap_alloc_new w _
 have bE:Below w.heap.size w W:=by rw [hW];exact aj w _
 obtain ⟨a,m,c,rfl,hm,hin⟩:=pI h.oD (fun y=>rfl);have hc:=af bE h.cell;have HI:Hid (bQ W.heap.size W ⟨a,m,c⟩ 7 (D.map ak.cells)):=hin.later bE;have HS:Hid (eU D):=hs;have MK:Hid (∀ w',Below W.heap.size W w'→(Below W.heap.size W w'∧w'.cell? ⟨b,4,none⟩=some (.slice a m c)∧w'.cell? ⟨w.heap.size,0,none⟩=some (.int .u8 qc)∧w'.cell? ⟨w.heap.size,1,none⟩=some (.int .u32 qs)∧w'.cell? ⟨w.heap.size,2,none⟩=some (.int .u64 ag)∧w'.cell? ⟨w.heap.size,3,none⟩=some (.int .u8 qk)∧w'.cell? ⟨w.heap.size,4,none⟩=some (.bool qf)∧w'.cell? ⟨w.heap.size,5,none⟩=some (.int .u64 qv)∧w'.cell? ⟨w.heap.size,6,none⟩=some (.int .u8 qg))):=fun w' hb=>⟨hb,blk hb hc 4,blk hb fP 0,blk hb fP 1,blk hb fP 2,blk hb fP 3,blk hb fP 4,blk hb fP 5,blk hb fP 6⟩
 clear h hin hs hm hc;go_enter Tryz.func84,Tryz.ntmps84
 go_wp2_with fail
 rw [← hW];clear hW;go_region_held3 (fun w'=>Below W.heap.size W w'∧w'.cell? ⟨b,4,none⟩=some (.slice a m c)∧w'.cell? ⟨w.heap.size,0,none⟩=some (.int .u8 qc)∧w'.cell? ⟨w.heap.size,1,none⟩=some (.int .u32 qs)∧w'.cell? ⟨w.heap.size,2,none⟩=some (.int .u64 ag)∧w'.cell? ⟨w.heap.size,3,none⟩=some (.int .u8 qk)∧w'.cell? ⟨w.heap.size,4,none⟩=some (.bool qf)∧w'.cell? ⟨w.heap.size,5,none⟩=some (.int .u64 qv)∧w'.cell? ⟨w.heap.size,6,none⟩=some (.int .u8 qg)) (first | exact MK.out _ (Below.refl _ _).drew | exact MK.out _ (fB (by assumption) (by assumption)) | exact MK.out _ (fI (by assumption))) (first | (go_at_call 134;refine (abr a m c D qc qs ag qk qf qv qg _ (HI.out.later (And.left (by assumption))) (VN HS.out _)).mono ?_;rintro e w1 ⟨rfl,zQ⟩))
 go_wp2
 go_ret2
 exact ⟨rfl,ai bE (And.left (by assumption))⟩
def qR (T:List Row) (key:Int):Int:=if o7 T key then ((T[wE T key]?).map Row.val).getD 0 else 0
theorem abw (w:World) (base b:Nat) (g n:Int) (vT vM vD vO vI:Value) (T:List Row) (D:List ak) (key:Int) (h:mq w base b g n vT vM vD vO vI T D) (hs:jZ T) :
 Calls Tryz.prog 139 #[.pointer (some ⟨b,0,none⟩),.int .u64 key] w fun e w'=>e=.returned (.tuple #[.int .u64 (qR T key),.bool (o7 T key)])∧Below w.heap.size w w':=by
 unfold qR;have HH:Hid (mq w base b g n vT vM vD vO vI T D):=h;obtain ⟨a,m,c,hv,hm,hin⟩:=pI h.oT (fun y=>rfl);have HI:Hid (bQ w.heap.size w ⟨a,m,c⟩ 2 (T.map Row.cells)):=hin;have HM:Hid (m=T.length):=hm;have HS:Hid (jZ T):=hs;have HC:Hid (w.heap[b]? = some (.cells (rW g n vT vM vD vO vI).toArray 31)):=h.cell;clear h hin hs hm;cases hh:o7 T key with
 | false =>
  go_enter Tryz.func139,Tryz.ntmps139
  go_wp2_with (go_at_call 176;go_must (refine (BD _ base b g n vT vM vD vO vI T D key HH.out HS.out).mono ?_;rintro e w1 ⟨rfl,hb1⟩;rw [hh]))
  go_ret2
  exact ⟨rfl,hb1⟩
 | true =>
  obtain ⟨x,hx,hxe⟩:=wC hh;have hxl:=(mV hx);obtain ⟨bb,off,ha,j4,hc0,hc1⟩:=HI.out.at2 hx;dsimp only at ha;subst ha;subst hv;have hlm:m≤maxLen:=Nat.le_trans HI.out.le HI.out.max;unfold maxLen at hlm;obtain ⟨p,hp⟩:∃ p,p=wE T key:=⟨_,rfl⟩;have hp':fJ (fun x:Row=>j3 x.key key) T=p:=hp.symm;have hi1:(0:Int)≤(p:Int):=by omega
  have hi2:(p:Int)<(m:Int):=by rw [hp']at hxl;have:=HM.out;omega
  rw [hp'] at hx hc1;have HX:Hid (T[p]? = some x):=hx;have KT:=ah HC.out 2;have HP:Hid (wE T key=p):=hp';clear hx hxl hp hp' hc0;obtain ⟨az,dU⟩:=x;dsimp only at hc1;go_enter Tryz.func139,Tryz.ntmps139
  go_wp2_with (go_at_call 176;go_must (refine (BD _ base b g n (.slice (some ⟨bb,off,none⟩) m c) vM vD vO vI T D key HH.out HS.out).mono ?_;rintro e w1 ⟨rfl,hb1⟩;rw [hh,HP.out];have R3:=(hb1.cell (p:=⟨b,2,none⟩) (df HC.out)).trans KT;have alD:=(hb1.cell (p:=⟨bb,off+p*2+1,none⟩) j4).trans hc1))
  go_ret2
  exact ⟨by rw [HP.out,HX.out];rfl,hb1⟩
end
end Go.Proofs.YtignemioillaiaaGreat
