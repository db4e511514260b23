/- shard.receive, whole. -/
import Derived.Test.YtignemioillaiaaGreatG19
namespace Go.Proofs.YtignemioillaiaaGreat
set_option maxHeartbeats 8000000
set_option maxRecDepth 100000
section
open Go.RowKit Go.Lib
def pW (s:St) (ok:Bool) (r:Rg):St :=
 if ok=true∧oL s.g s.n s.I r=true∧(dG s.M r.lo r.hi s.g).length≤1000 then
  { s with T:=sB (fun x:Row=>x.key) r.lo s.T++(r.rows++sA (fun x:Row=>x.key) r.lo r.hi s.T),M:=dG s.M r.lo r.hi s.g,D:=sB (fun x:ak=>x.key) r.lo s.D++(r.bP++sA (fun x:ak=>x.key) r.lo r.hi s.D),I:=s.I.set r.src.toNat r.seq }
 else s
section
variable {w w':World} {base b:Nat} {g n:Int} {vT vM vD vO vI:Value} {T:List Row} {M:List Pc} {D:List ak} {L:List ax} {I:List Int}
theorem qI.same (h:qI w base b g n vT vM vD vO vI T M D L I) (hb:Below w.heap.size w w'):nK base b g n vT vM vD vO vI L T M D (L.map ax.core) I w w' :=
 ⟨vT,vM,vD,vO,vI,L,h.later hb,rfl,av.later hb,fun _ hk=>.inl hk⟩
end
theorem FR:∀ y:Int,(yA y).length=1:=fun _=>rfl
theorem ND (w:World) (base b gI cap:Nat) (g n:Int) (vT vM vD vO:Value) (T:List Row) (M:List Pc) (D:List ak) (L:List ax) (I:List Int) (aM bG aV aP bg:Int) (bZ:Option Addr) (bR cK:Nat) (bX:Option Addr) (bN bY:Nat) (bF:List Row) (bC:List ak) (h:qI w base b g n vT vM vD vO (.slice (some ⟨gI,0,none⟩) I.length cap) T M D L I) (hil:(I.length:Int)=n)
 (hr:bQ base w ⟨bZ,bR,cK⟩ 2 (bF.map Row.cells)) (hd:bQ base w ⟨bX,bN,bY⟩ 7 (bC.map ak.cells)) (hbw:base≤w.heap.size) (hsrc:0≤aM) (hno:(aF.mk aM bG aV aP bg ⟨bZ,bR,cK⟩ ⟨bX,bN,bY⟩ bF bC).ok=false∨oL g n I (aF.mk aM bG aV aP bg ⟨bZ,bR,cK⟩ ⟨bX,bN,bY⟩ bF bC).core=false) :
 Calls Tryz.prog 45 #[.pointer (some ⟨b,0,none⟩),.agg (rR aM bG aV aP bg bZ bR cK bX bN bY).toArray] w fun e w'=>e=.returned (.tuple #[])∧Below w.heap.size w w':=by
 obtain ⟨W,hW⟩:∃ W,W=w.alloc (.cells (rR aM bG aV aP bg bZ bR cK bX bN bY).toArray 52):=⟨_,rfl⟩;have fP:W.heap[w.heap.size]? = some (.cells (rR aM bG aV aP bg bZ bR cK bX bN bY).toArray 52):=by rw [hW];exact heap_alloc_new w _
 have bE:Below w.heap.size w W:=by rw [hW];exact aj w _
 have nX:=ae fP;have dQ:=ae bE;have HH:=ae h;have HRR:Hid (bQ W.heap.size W ⟨bZ,bR,cK⟩ 2 (bF.map Row.cells)):=Dr (zF (A:=fun _=>False) hr (av.later bE) hbw (fun _ _ h=>h)) (Nat.le_trans hbw bE.size);have vk:Hid (bQ W.heap.size W ⟨bX,bN,bY⟩ 7 (bC.map ak.cells)):=Dr (zF (A:=fun _=>False) hd (av.later bE) hbw (fun _ _ h=>h)) (Nat.le_trans hbw bE.size);have U9:Hid (∀ w1,Below W.heap.size W w1→Calls Tryz.prog 87 #[.pointer (some ⟨b,0,none⟩),.agg (rR aM bG aV aP bg bZ bR cK bX bN bY).toArray] w1 fun e w'=>e=.returned (.bool (oL g n I (aF.mk aM bG aV aP bg ⟨bZ,bR,cK⟩ ⟨bX,bN,bY⟩ bF bC).core))∧Below w1.heap.size w1 w'):=by
  intro w1 hb1;have h1:=h.later (ai bE hb1);by_cases hI:0<I.length
  ·obtain ⟨g',cap',cur,hv,hbg,hg,hnl,hcl,hnc,hcm,htk,_,hput⟩:=kS h1.m.oI hI
   simp only [Value.slice.injEq,Option.some.injEq,Addr.mk.injEq] at hv;obtain ⟨⟨rfl,_⟩,_,rfl⟩:=hv;by_cases hs:aM<n
   ·obtain ⟨iv,FT⟩:∃ iv,I[aM.toNat]? = some iv:=⟨I[aM.toNat]'(by omega),by simp⟩
    refine Dl w1 b gI 0 cap I.length g n iv vT vM vD vO aM bG aV aP bg bZ bR cK bX bN bY bF bC I h1.cell hsrc (fun _=>⟨by omega,FT,?_⟩) (df hg);rw [ah hg];simpa using qM FR (j:=0) FT rfl htk rfl
   ·exact Dl w1 b gI 0 cap I.length g n 0 vT vM vD vO aM bG aV aP bg bZ bR cK bX bN bY bF bC I h1.cell hsrc (fun hh=>absurd hh hs) (df hg)
  ·have hn0:n=0:=by omega
   rcases h1.m.oI.2 with ⟨e,_⟩ | ⟨g',_,cur',e,_,hg',_⟩
   ·cases e
   ·simp only [Value.slice.injEq,Option.some.injEq,Addr.mk.injEq] at e
    obtain ⟨⟨rfl,_⟩,_⟩:=e;exact Dl w1 b gI 0 cap I.length g n 0 vT vM vD vO aM bG aV aP bg bZ bR cK bX bN bY bF bC I h1.cell hsrc (fun hh=>by omega) (df hg')
 clear h hr hd fP bE;cases hok:(aF.mk aM bG aV aP bg ⟨bZ,bR,cK⟩ ⟨bX,bN,bY⟩ bF bC).ok with
 | false =>
  go_enter Tryz.func45,Tryz.ntmps45
  go_upto_region 1 with fail
  rw [← hW];clear hW;go_wp2_with (first
   | (with_reducible show cB 12 52 ..;go_must (refine dF w.heap.size 0 7 qD _ _ nX.out (rR aM bG aV aP bg bZ bR cK bX bN bY) ?_))
   | (go_at_call 86;go_must (refine (DU _ _ _ _ _ _ _ _ _ _ _ bF bC _ HRR.out vk.out).mono ?_;rintro e w1 ⟨rfl,hb1⟩;rw [hok])))
  refine bodyPost_ret (results_none rfl _ _ _) rfl ?_;exact ⟨rfl,ai dQ.out hb1⟩
 | true =>
  have HN:Hid (oL g n I (aF.mk aM bG aV aP bg ⟨bZ,bR,cK⟩ ⟨bX,bN,bY⟩ bF bC).core=false):=by
   rcases hno with e | e
   ·rw [hok] at e;cases e
   ·exact e
  go_enter Tryz.func45,Tryz.ntmps45
  go_upto_region 1 with fail
  rw [← hW];clear hW;go_wp2_with (first
   | (with_reducible show cB 12 52 ..;go_must (refine dF w.heap.size 0 7 qD _ _ nX.out (rR aM bG aV aP bg bZ bR cK bX bN bY) ?_))
   | (go_at_call 86;go_must (refine (DU _ _ _ _ _ _ _ _ _ _ _ bF bC _ HRR.out vk.out).mono ?_;rintro e w1 ⟨rfl,hb1⟩;rw [hok];have HB1:=ae hb1;have HW1:=ae (af hb1 nX.out);clear hb1))
   | (with_reducible show I5 17 52 ..;go_must (refine dF w.heap.size 0 7 qD _ _ HW1.out (rR aM bG aV aP bg bZ bR cK bX bN bY) ?_))
   | (go_at_call 87;go_must (refine (U9.out _ HB1.out).mono ?_;rintro e w2 ⟨rfl,hb2⟩;rw [HN.out])))
  refine bodyPost_ret (results_none rfl _ _ _) rfl ?_;exact ⟨rfl,ai (ai dQ.out HB1.out) hb2⟩
theorem UG (w:World) (base b gI cap j:Nat) (g n:Int) (vT vM vD vO:Value) (T:List Row) (M:List Pc) (D:List ak) (L:List ax) (I:List Int) (aM bG aV aP bg:Int) (bZ:Option Addr) (bR cK:Nat) (bX:Option Addr) (bN bY:Nat) (bF:List Row) (bC:List ak) (h:qI w base b g n vT vM vD vO (.slice (some ⟨gI,0,none⟩) I.length cap) T M D L I) (hok:ku ⟨g,n,T,M,D,L.map ax.core,I⟩)
 (hr:bQ base w ⟨bZ,bR,cK⟩ 2 (bF.map Row.cells)) (hrn:bZ=none→cK=0) (hd:bQ base w ⟨bX,bN,bY⟩ 7 (bC.map ak.cells)) (hdn:bX=none→bY=0) (hbw:base≤w.heap.size) (hsrc:aM=(j:Int)) (hjn:j<I.length) (hlo:aP≤bg) (hhi0:0≤bg) (hhi:bg<18446744073709551616)
 (hn1:T.length+bF.length<1000000) (hn2:D.length+bC.length<1000000) (ahR:(aF.mk aM bG aV aP bg ⟨bZ,bR,cK⟩ ⟨bX,bN,bY⟩ bF bC).ok=true) (hnx:oL g n I (aF.mk aM bG aV aP bg ⟨bZ,bR,cK⟩ ⟨bX,bN,bY⟩ bF bC).core=true) :
 Calls Tryz.prog 45 #[.pointer (some ⟨b,0,none⟩),.agg (rR aM bG aV aP bg bZ bR cK bX bN bY).toArray] w fun e w'=>e=.returned (.tuple #[])∧nK base b g n vT vM vD vO (.slice (some ⟨gI,0,none⟩) I.length cap) L (pW ⟨g,n,T,M,D,L.map ax.core,I⟩ true (aF.mk aM bG aV aP bg ⟨bZ,bR,cK⟩ ⟨bX,bN,bY⟩ bF bC).core).T (pW ⟨g,n,T,M,D,L.map ax.core,I⟩ true (aF.mk aM bG aV aP bg ⟨bZ,bR,cK⟩ ⟨bX,bN,bY⟩ bF bC).core).M (pW ⟨g,n,T,M,D,L.map ax.core,I⟩ true (aF.mk aM bG aV aP bg ⟨bZ,bR,cK⟩ ⟨bX,bN,bY⟩ bF bC).core).D (L.map ax.core) (pW ⟨g,n,T,M,D,L.map ax.core,I⟩ true (aF.mk aM bG aV aP bg ⟨bZ,bR,cK⟩ ⟨bX,bN,bY⟩ bF bC).core).I w w':=by
 obtain ⟨ta,tn,tc,rfl⟩:=aB h.m.oT;obtain ⟨da,dn,dc,rfl⟩:=aB h.m.oD;obtain ⟨ma,mn,mc,rfl,BG,_⟩:=nP.Ia (l:=M) h.m.oM;obtain ⟨W,hW⟩:∃ W,W=w.alloc (.cells (rR aM bG aV aP bg bZ bR cK bX bN bY).toArray 52):=⟨_,rfl⟩;have fP:W.heap[w.heap.size]? = some (.cells (rR aM bG aV aP bg bZ bR cK bX bN bY).toArray 52):=by rw [hW];exact heap_alloc_new w _
 have bE:Below w.heap.size w W:=by rw [hW];exact aj w _
 have nX:=ae fP;have dQ:=ae bE;have HH:=ae h;have Py:=ae hr;have HD0:=ae hd;have HMI:=ae BG;have qi:=ae hok;have adF:=ae hsrc;have Pp:=ae hnx;have hi1:0≤aM:=by omega
 have hi2:aM<(I.length:Int):=by omega
 have HRR:Hid (bQ W.heap.size W ⟨bZ,bR,cK⟩ 2 (bF.map Row.cells)):=Dr (zF (A:=fun _=>False) hr (av.later bE) hbw (fun _ _ h=>h)) (Nat.le_trans hbw bE.size);have vk:Hid (bQ W.heap.size W ⟨bX,bN,bY⟩ 7 (bC.map ak.cells)):=Dr (zF (A:=fun _=>False) hd (av.later bE) hbw (fun _ _ h=>h)) (Nat.le_trans hbw bE.size);have hnI:(I.length:Int)=n:=hok.il;have U9:Hid (∀ w1,Below W.heap.size W w1→Calls Tryz.prog 87 #[.pointer (some ⟨b,0,none⟩),.agg (rR aM bG aV aP bg bZ bR cK bX bN bY).toArray] w1 fun e w'=>e=.returned (.bool true)∧Below w1.heap.size w1 w'):=by
  intro w1 hb1;have h1:=h.later (ai bE hb1);obtain ⟨g',cap',cur,hv,hbg,hg,hnl,hcl,hnc,hcm,htk,_,hput⟩:=kS h1.m.oI (by omega);simp only [Value.slice.injEq,Option.some.injEq,Addr.mk.injEq] at hv;obtain ⟨⟨rfl,_⟩,_,rfl⟩:=hv;obtain ⟨iv,FT⟩:∃ iv,I[j]? = some iv:=⟨I[j]'hjn,by simp⟩;have ht:aM.toNat=j:=by omega
  have:=Dl w1 b gI 0 cap I.length g n iv (.slice ta tn tc) (.slice ma mn mc) (.slice da dn dc) vO aM bG aV aP bg bZ bR cK bX bN bY bF bC I h1.cell (by omega) (fun _=>⟨by omega,by rw [ht];exact FT,by rw [ht,ah hg];simpa using qM FR (j:=0) FT rfl htk rfl⟩) (df hg);rw [hnx] at this;exact this
 clear h hr hd fP bE BG hok hnx hsrc;go_enter Tryz.func45,Tryz.ntmps45
 go_upto_region 1 with fail
 rw [← hW];clear hW;go_upto_region 2 with (first
  | (with_reducible show cB 12 52 ..;go_must (refine dF w.heap.size 0 7 qD _ _ nX.out (rR aM bG aV aP bg bZ bR cK bX bN bY) ?_))
  | (go_at_call 86;go_must (refine (DU _ _ _ _ _ _ _ _ _ _ _ bF bC _ HRR.out vk.out).mono ?_;rintro e w1 ⟨rfl,hb1⟩;rw [ahR];have HB1:=ae hb1;have HW1:=ae (af hb1 nX.out);clear hb1))
  | (with_reducible show I5 17 52 ..;go_must (refine dF w.heap.size 0 7 qD _ _ HW1.out (rR aM bG aV aP bg bZ bR cK bX bN bY) ?_))
  | (go_at_call 87;go_must (refine (U9.out _ HB1.out).mono ?_;rintro e w2 ⟨rfl,hb2⟩;have HB2:=ae hb2;clear hb2)))
 have DT:Hid (Below W.heap.size W w2):=ai HB1.out HB2.out;have Iu:Hid (Below w.heap.size w w2):=ai dQ.out DT.out;have lH:=ae (af Iu.out HH.out.cell);have qP:=ae (af DT.out nX.out);have MK:Hid (∀ w',Below w2.heap.size w2 w'→(Below w2.heap.size w2 w'∧w'.cell? ⟨b,3,none⟩=some (.slice ma mn mc)∧w'.cell? ⟨w.heap.size,3,none⟩=some (.int .u64 aP)∧w'.cell? ⟨w.heap.size,4,none⟩=some (.int .u64 bg)∧w'.cell? ⟨b,0,none⟩=some (.int .u8 g))):=fun w' hb=>⟨hb,blk hb lH.out 3,blk hb qP.out 3,blk hb qP.out 4,blk hb lH.out 0⟩
 go_region_held3 (fun w'=>Below w2.heap.size w2 w'∧w'.cell? ⟨b,3,none⟩=some (.slice ma mn mc)∧w'.cell? ⟨w.heap.size,3,none⟩=some (.int .u64 aP)∧w'.cell? ⟨w.heap.size,4,none⟩=some (.int .u64 bg)∧w'.cell? ⟨b,0,none⟩=some (.int .u8 g)) (first | exact MK.out _ (Below.refl _ _).drew | exact MK.out _ (fB (by assumption) (by assumption)) | exact MK.out _ (fI (by assumption))) (first | (go_at_call 88;refine (Sb ma mn mc M aP bg g _ (HMI.out.later (ai Iu.out (And.left (by assumption)))) qi.out.FP qi.out.can qi.out.ml hhi0 hhi (by have h1:=qi.out.gn;have h2:=qi.out.n4;dsimp only at h1 h2;omega)).mono ?_;rintro e w3 ⟨vG,rfl,ho3,kT⟩;have pE:=ae ho3))
 have HB3:Hid (Below w2.heap.size w2 w3):=And.left (by assumption);have LV:Hid (Below w.heap.size w w3):=ai Iu.out HB3.out;by_cases hk:1000<(dG M aP bg g).length
 ·have e1:qW (dG M aP bg g)=3:=by simp [qW,hk]
  have HE:Hid (pW ⟨g,n,T,M,D,L.map ax.core,I⟩ true (aF.mk aM bG aV aP bg ⟨bZ,bR,cK⟩ ⟨bX,bN,bY⟩ bF bC).core=⟨g,n,T,M,D,L.map ax.core,I⟩):=by
   show _=_;unfold pW;rw [if_neg (by intro hh;have:=hh.2.2;simp only [aF.core] at this;omega)]
  rw [e1];go_wp2_with fail
  refine bodyPost_ret (results_none rfl _ _ _) rfl ?_;rw [HE.out];exact ⟨rfl,HH.out.same LV.out⟩
 ·have e1:qW (dG M aP bg g)=0:=by simp [qW,hk]
  have e2:qG (dG M aP bg g)=dG M aP bg g:=by simp [qG,hk]
  have HE:Hid (pW ⟨g,n,T,M,D,L.map ax.core,I⟩ true (aF.mk aM bG aV aP bg ⟨bZ,bR,cK⟩ ⟨bX,bN,bY⟩ bF bC).core={ g:=g,n:=n,T:=sB (fun x:Row=>x.key) aP T++(bF++sA (fun x:Row=>x.key) aP bg T),M:=dG M aP bg g,D:=sB (fun x:ak=>x.key) aP D++(bC++sA (fun x:ak=>x.key) aP bg D),O:=L.map ax.core,I:=I.set j aV }):=by
   show _=_;unfold pW;have ht:aM.toNat=j:=by have:=adF.out;omega
   rw [if_pos ⟨rfl,Pp.out,by simp only [aF.core];omega⟩];simp only [aF.core,ht]
  have KX:Hid (w3.ownsRow w.heap.size 107 2 vG (dG M aP bg g).length ((dG M aP bg g).map Pc.cells).flatten):=by
   have a:=pE.out;rw [e2] at a;exact dE a Iu.out.size
  have h1G:=dR KX.out;have U7:=ae (af HB3.out lH.out);have HQ3:=ae (af HB3.out qP.out);rw [e1];go_upto_region 5 with (with_reducible show wpList _ _ _ ({ dst:=none,op:=Op.store 26 _ _,type:=_,pos:=_,after:=_,guard:=none }::_) _ _;go_must (refine cZ rfl _ _ _ rfl rfl b 3 rfl vG rfl (by kernel_rfl) h1G [.int .u8 g,.int .u8 n,.slice ta tn tc,.slice ma mn mc,.slice da dn dc,vO,.slice (some ⟨gI,0,none⟩) I.length cap] 31 U7.out rfl [.int .u8 g,.int .u8 n,.slice ta tn tc,vG,.slice da dn dc,vO,.slice (some ⟨gI,0,none⟩) I.length cap] rfl ?_;intro w4 hw ho;have Db:Hid (w4.heap[b]? = some (.cells #[.int .u8 g,.int .u8 n,.slice ta tn tc,vG,.slice da dn dc,vO,.slice (some ⟨gI,0,none⟩) I.length cap] 31)):=ae hw;have o6:Hid (Only b w3 w4):=ae ho;clear hw ho))
  have ahS:b≠w.heap.size:=by have:=(df HH.out.cell);omega
  have Pz:Hid (w4.heap[w.heap.size]? = some (.cells (rR aM bG aV aP bg bZ bR cK bX bN bY).toArray 52)):=(o6.out.block _ (Ne.symm ahS)).trans HQ3.out;have HI3:Hid (w3.ownsRow base 47 1 (.slice (some ⟨gI,0,none⟩) I.length cap) I.length (I.map yA).flatten):=ay HH.out.m.oI LV.out;have HI4:Hid (w4.ownsRow base 47 1 (.slice (some ⟨gI,0,none⟩) I.length cap) I.length (I.map yA).flatten):=dB HI3.out (av.only (A:=fun k=>k=b) o6.out rfl) (eF HI3.out U7.out (by decide));obtain ⟨g',cap',cur,hv,hbg,hg,hnl,hcl,hnc,hcm,htk,_,hput⟩:=kS HI4.out (by omega);simp only [Value.slice.injEq,Option.some.injEq,Addr.mk.injEq] at hv;obtain ⟨⟨rfl,_⟩,_,rfl⟩:=hv;obtain ⟨iv,FT⟩:∃ iv,I[j]? = some iv:=⟨I[j]'hjn,by simp⟩;have htj:aM.toNat=j:=by have:=adF.out;omega
  have hcI:w4.cell? ⟨gI,aM.toNat,none⟩=some (.int .u32 iv):=by rw [htj,ah hg];simpa using qM FR (j:=0) FT rfl htk rfl
  have hfI:w4.frozen? ⟨gI,aM.toNat,none⟩=false:=oh (Below.refl _ w4) hg _;have XG:=ae hg;have Sv:=ae hput;have Bo:=ae htk;have HTJ:=ae htj;have hc6:w4.cell? ⟨b,6,none⟩=some (.slice (some ⟨gI,0,none⟩) I.length cap):=ah Db.out 6;have hq0:w4.cell? ⟨w.heap.size,0,none⟩=some (.int .u8 aM):=ah Pz.out 0;have hq2:w4.cell? ⟨w.heap.size,2,none⟩=some (.int .u32 aV):=ah Pz.out 2;clear hg hput htk htj FT;go_region
  obtain ⟨s1,s2⟩:=wV (o:=aM.toNat) (v:=Value.int .u32 aV) XG.out;have uH:Hid ((w4.setCell ⟨gI,aM.toNat,none⟩ (Value.int .u32 aV)).drew.heap[gI]? = some (.cells (cur.set aM.toNat (Value.int .u32 aV)).toArray 47)):=s1;have HS2:Hid (Only gI w4 (w4.setCell ⟨gI,aM.toNat,none⟩ (Value.int .u32 aV)).drew):=s2.trans (Only.drew _ _);generalize (w4.setCell ⟨gI,aM.toNat,none⟩ (Value.int .u32 aV)).drew=w5 at uH HS2;clear s1 s2 hcI hfI hc6 hq0 hq2;have ahT:b≠gI:=fun e=>by have:=Db.out;rw [e,XG.out] at this;injection this with h;injection h with _ h _;exact absurd h (by decide)
  have CY:w.heap.size≠gI:=fun e=>by have:=Pz.out;rw [e,XG.out] at this;injection this with h;injection h with _ h _;exact absurd h (by decide)
  have C5:Hid (av (fun k=>k=b∨k=gI) w3 w5):=(av.only o6.out (.inl rfl)).trans (av.only HS2.out (.inr rfl));have XH:Hid (av (fun k=>k=b∨k=gI) w w5):=(av.later LV.out).trans C5.out;have ahU:∃ cs,w3.heap[gI]? = some (.cells cs 47):=by
   rcases HI3.out.2 with ⟨e,_⟩ | ⟨g',_,cur',e,_,hg',_⟩
   ·cases e
   ·simp only [Value.slice.injEq,Option.some.injEq,Addr.mk.injEq] at e
    obtain ⟨⟨rfl,_⟩,_⟩:=e;exact ⟨_,hg'⟩
  have aaL:∀ {e:TypeId} {s m B:Nat} {v:Value} {xs:List Value},w3.ownsRow B e s v m xs→e≠31→e≠47→w5.ownsRow B e s v m xs:=fun hv h1 h2=>dB hv C5.out (fun k hk e=>by
   obtain ⟨cs,hcs⟩:=ahU;rcases e with e | e
   ·exact eF hv U7.out h1 k hk e
   ·exact eF hv hcs h2 k hk e)
  have keep:∀ {e:TypeId} {s m B:Nat} {v:Value} {xs:List Value},w.ownsRow B e s v m xs→e≠31→e≠47→w5.ownsRow B e s v m xs:=fun hv h1 h2=>aaL (ay hv LV.out) h1 h2
  have XI:Hid (ShM w5 base (.slice ta tn tc) vG (.slice da dn dc) vO (.slice (some ⟨gI,0,none⟩) I.length cap) T (dG M aP bg g) D L (I.set j aV)):=by
   have hm:=HH.out.m;refine ⟨keep hm.oT (by decide) (by decide),dE (aaL KX.out (by decide) (by decide)) hbw,keep hm.oD (by decide) (by decide),keep hm.oO (by decide) (by decide),?_,⟨fun l hl=>keep (hm.ln.own l hl) (by decide) (by decide),hm.ln.aq,⟨fun r hr=>keep (hm.ln.rm.rows r hr) (by decide) (by decide),fun r hr=>keep (hm.ln.rm.bP r hr) (by decide) (by decide),hm.ln.rm.ar,hm.ln.rm.ad⟩⟩,hm.aT,hm.aD⟩;have h1:=Sv.out w5 _ (by simp) uH.out;have e1:=yT FR I j 0 _ aV (.int .u32 aV) (List.getElem?_eq_getElem hjn) (by decide) rfl;rw [HTJ.out,List.take_set,Bo.out,show j=j*1+0 by omega,e1] at h1;rw [List.length_set];simpa using h1
  have KZ:Hid (w5.heap[b]? = some (.cells #[.int .u8 g,.int .u8 n,.slice ta tn tc,vG,.slice da dn dc,vO,.slice (some ⟨gI,0,none⟩) I.length cap] 31)):=(HS2.out.block _ ahT).trans Db.out;have Nz:Hid (w5.heap[w.heap.size]? = some (.cells (rR aM bG aV aP bg bZ bR cK bX bN bY).toArray 52)):=(HS2.out.block _ CY).trans Pz.out;have hbb:=HH.out.b1;have hgb:base≤gI:=by
   rcases HI3.out.2 with ⟨e,_⟩ | ⟨g',_,cur',e,hb',hg',_⟩
   ·cases e
   ·simp only [Value.slice.injEq,Option.some.injEq,Addr.mk.injEq] at e
    obtain ⟨⟨rfl,_⟩,_⟩:=e;exact hb'
  have noA:∀ k,k<base→¬ (k=b∨k=gI):=fun k hk e=>by omega
  apply_assumption
  refine ahQ rfl w5 base b w.heap.size g n vG vO (.slice (some ⟨gI,0,none⟩) I.length cap) ta tn tc da dn dc T D aM bG aV aP bg bZ bR cK bX bN bY bF bC KZ.out Nz.out XI.out.oT XI.out.oD (zF Py.out XH.out hbw noA) hrn (zF HD0.out XH.out hbw noA) hdn hbb (Nat.le_trans hbw XH.out.size) (by omega) (by omega) hn1 hn2 _ ?_;intro w' dN eY hrec;rw [HE.out];have Zz:w.heap.size≤w5.heap.size:=XH.out.size;have Ck:=XI.out;have kp:∀ {e:TypeId} {s m B:Nat} {v:Value} {xs:List Value},w5.ownsRow B e s v m xs→e≠31→w'.ownsRow B e s v m xs:=fun hv h1=>dB hv hrec.dX (eF hv KZ.out h1)
  have XJ:base≤w5.heap.size:=Nat.le_trans hbw Zz;refine ⟨dN,vG,eY,vO,.slice (some ⟨gI,0,none⟩) I.length cap,L,⟨hrec.cell,hbb,dE hrec.oT XJ,kp Ck.oM (by decide),dE hrec.oD XJ,kp Ck.oO (by decide),kp Ck.oI (by decide),⟨fun l hl=>kp (Ck.ln.own l hl) (by decide),Ck.ln.aq,⟨fun r hr=>kp (Ck.ln.rm.rows r hr) (by decide),fun r hr=>kp (Ck.ln.rm.bP r hr) (by decide),Ck.ln.rm.ar,Ck.ln.rm.ad⟩⟩,fun v hv=>(gV.lt (B:=w5.heap.size) (fun k hk=>(Ck.ln.rm.GH hv k hk).2) (fun k hk=>(hrec.oT.lt k hk).1)).symm,fun v hv=>(gV.lt (B:=w5.heap.size) (fun k hk=>(Ck.ln.rm.GI hv k hk).2) (fun k hk=>(hrec.oD.lt k hk).1)).symm⟩,rfl,?_,fun k hk=>?_⟩
  ·refine (XH.out.mono (fun k _ e=>?_)).trans (hrec.dX.mono (fun k _ e=>.inl e))
   rcases e with e | e
   ·exact .inl e
   ·exact .inr (.inr (.inr (.inr (.inr (.inl (by rw [e];rfl))))))
  ·rcases hk with hk | hk | hk | hk | hk
   ·exact .inl (.inl hk)
   ·exact .inr (Nat.le_trans Zz (hrec.oT.lt k hk).1)
   ·exact .inr (KX.out.lt k hk).1
   ·exact .inr (Nat.le_trans Zz (hrec.oD.lt k hk).1)
   ·exact .inl (.inr (.inr (.inr (.inr hk))))
theorem KE (w:World) (bs:Nat) (sq:Int) (aM bG aV aP bg:Int) (bZ:Option Addr) (bR cK:Nat) (bX:Option Addr) (bN bY:Nat) (hs:w.cell? ⟨bs,0,none⟩=some (.int .u32 sq)) (hlt:bs<w.heap.size) :
 Calls Tryz.prog 96 #[.agg (rR aM bG aV aP bg bZ bR cK bX bN bY).toArray,.pointer (some ⟨bs,0,none⟩)] w fun e w'=>e=.returned (.bool (decide (aV≤sq)))∧Below w.heap.size w w':=by
 have hs2:(w.alloc (.cells (rR aM bG aV aP bg bZ bR cK bX bN bY).toArray 52)).cell? ⟨bs,0,none⟩=some (.int .u32 sq):=((aj w _).cell (p:=⟨bs,0,none⟩) hlt).trans hs;go_enter Tryz.func96,Tryz.ntmps96
 go_wp2_with fail
 go_ret
 exact ⟨rfl,aj w _⟩
def yV (sq:Int) (r:aF):Bool:=decide (r.seq≤sq)
theorem XK (w:World) (bs:Nat) (sq:Int) (a:Option Addr) (n c:Nat) (q:List aF) (h:bQ w.heap.size w ⟨a,n,c⟩ 7 (q.map aF.cells)) (hs:w.cell? ⟨bs,0,none⟩=some (.int .u32 sq)) (hlt:bs<w.heap.size) (hn:q.length<1000000) :
 Calls Tryz.prog 151 #[.slice a n c,.func (.func 96) #[] #[.pointer (some ⟨bs,0,none⟩)]] w fun e w'=>∃ i:Int,e=.returned (.int .i64 i)∧(i = -1∧(∀ r∈q,yV sq r=false)∨∃ k:Nat,i=(k:Int)∧(∃ r,q[k]? = some r∧yV sq r=true)∧∀ r∈q.take k,yV sq r=false)∧Below w.heap.size w w':=by
 have hl:n=q.length:=by simpa using h.len
 have HL:=ae hl;have HI:=ae h;have hnl:n<1000000:=by omega
 clear hl h;go_enter Tryz.func151,Tryz.ntmps151
 go_wp2_with fail
 go_loopw [8] (fun i wr=>∃ k:Nat,k≤n∧i=.int .i64 k∧Hid (Below w.heap.size w wr)∧Hid (∀ r∈q.take k,yV sq r=false)) (fun i _=>n - (intOf i).toNat)
 case atStart=>exact ⟨0,Nat.zero_le _,rfl,Below.refl _ _,fun r hr=>by simp at hr⟩
 case round =>
  obtain ⟨k,hk,rfl,HB,HF⟩:=hrel;by_cases hkn:k<n
  ·have hdk:decide ((k:Int)<(n:Int))=true:=by simp;omega
   obtain ⟨r,hr⟩:∃ r,q[k]? = some r:=⟨q[k]'(by rw [← HL.out];exact hkn),by simp⟩;obtain ⟨b,off,ha,j4,hc⟩:=(HI.out.below HB.out (Nat.le_refl _)).el (i:=k) (x:=r.cells) (by simp [hr]);obtain rfl:a=some ⟨b,off,none⟩:=ha;have HX:=ae hr;have HTN:Hid (∀ {v:Bool},yV sq r=v→v=false→∀ x∈q.take (k+1),yV sq x=false):=by
    intro v hv hv2 x hx;rw [List.take_add_one,hr] at hx;simp only [Option.toList_some,List.mem_append,List.mem_singleton] at hx;rcases hx with hx | rfl
    ·exact HF.out x hx
    ·rw [hv,hv2]
   clear hr;obtain ⟨aM,bG,aV,aP,bg,⟨bZ,bR,cK⟩,⟨bX,bN,bY⟩,bF,bC⟩:=r;have HC:Hid (∀ (j:Nat) (u:Value),(rR aM bG aV aP bg bZ bR cK bX bN bY)[j]? = some u→wr.cell? ⟨b,off+k*7+j,none⟩=some u):=hc;clear hc;have hi1:(0:Int)≤(k:Int):=by omega
   have hi2:(k:Int)<(n:Int):=by omega
   have uu:Hid (wr.cell? ⟨bs,0,none⟩=some (.int .u32 sq)):=(HB.out.cell (p:=⟨bs,0,none⟩) hlt).trans hs;by_cases hg:aV≤sq
   ·have hd:decide (aV≤sq)=true:=by simp [hg]
    go_wp2_with (first
     | (with_reducible show cB 15 52 ..;go_must (refine bB rfl _ _ rfl b (off+k*7) rfl 7 _ qD rfl (by kernel_rfl) (rR aM bG aV aP bg bZ bR cK bX bN bY) rfl HC.out ?_))
     | (go_at_call 96;go_must (refine (KE _ bs sq aM bG aV aP bg bZ bR cK bX bN bY uu.out (Nat.lt_of_lt_of_le hlt HB.out.size)).mono ?_;rintro e w3 ⟨rfl,hb3⟩;rw [hd];have HB3:=ae hb3;clear hb3)))
    go_ret
    exact ⟨_,rfl,.inr ⟨k,rfl,⟨_,HX.out,by simp [yV,hg]⟩,HF.out⟩,ai HB.out HB3.out⟩
   ·have hd:decide (aV≤sq)=false:=by simp [hg]
    go_wp2_with (first
     | (with_reducible show cB 15 52 ..;go_must (refine bB rfl _ _ rfl b (off+k*7) rfl 7 _ qD rfl (by kernel_rfl) (rR aM bG aV aP bg bZ bR cK bX bN bY) rfl HC.out ?_))
     | (go_at_call 96;go_must (refine (KE _ bs sq aM bG aV aP bg bZ bR cK bX bN bY uu.out (Nat.lt_of_lt_of_le hlt HB.out.size)).mono ?_;rintro e w3 ⟨rfl,hb3⟩;rw [hd];have HB3:=ae hb3;clear hb3)))
    go_roundw
    case rel=>exact ⟨k+1,by omega,by go_num,ai HB.out HB3.out,HTN.out (by simp [yV,hg]) rfl⟩
    case measure=>simp [intOf];omega
  ·have hdk:decide ((k:Int)<(n:Int))=false:=by simp;omega
   go_wp2_with fail
   go_ret
   refine ⟨_,rfl,.inl ⟨rfl,?_⟩,HB.out⟩;have:=HF.out;rwa [List.take_of_length_le (by rw [← HL.out];omega)] at this
def su (sq:Int) (q:List aF):List aF:=q.filter fun r=>!yV sq r
structure LW (w wr:World) (base g cap:Nat) (sq:Int) (q cs:List aF) (i j:Nat):Prop where
 len:cs.length=q.length
 tk:cs.take i=su sq (q.take j)
 dr:cs.drop j=q.drop j
 ij:i<j
 own:wr.ownsRow base 52 7 (.slice (some ⟨g,0,none⟩) q.length cap) q.length (cs.map aF.cells).flatten
 dX:av (fun k=>k=g) w wr
theorem LW.skip {w wr w':World} {base g cap:Nat} {sq:Int} {q cs:List aF} {i j:Nat} {r:aF} (h:LW w wr base g cap sq q cs i j) (hr:q[j]? = some r) (hg:yV sq r=true) (hb:Below wr.heap.size wr w'):LW w w' base g cap sq q cs i (j+1):=by
 refine ⟨h.len,?_,?_,Nat.lt_succ_of_lt h.ij,ay h.own hb,h.dX.trans (av.later hb)⟩
 ·rw [h.tk];unfold su;rw [List.take_add_one,hr,List.filter_append];simp [hg]
 ·have:(cs.drop j).drop 1=(q.drop j).drop 1:=by rw [h.dr]
  rwa [List.drop_drop,List.drop_drop] at this
theorem LW.move {w wr w1 w2:World} {base g cap:Nat} {sq:Int} {q cs:List aF} {i j:Nat} {r:aF} {cur:List Value} (h:LW w wr base g cap sq q cs i j) (hr:q[j]? = some r) (hg:yV sq r=false) (hb:Below wr.heap.size wr w1) (dW:wr.heap[g]? = some (.cells cur.toArray 52)) (ho:Only g w1 w2) (hw:w2.heap[g]? = some (.cells (cur.take (i*7)++r.cells++cur.drop (i*7+7)).toArray 52)):LW w w2 base g cap sq q (cs.set i r) (i+1) (j+1):=by
 have hj:=(mV hr);have hij:=h.ij;obtain ⟨g',cap',cur',hv,hBg,hg',hm,hcl,hnc,hcm,ht,_,hput⟩:=kS h.own (by omega);simp only [Value.slice.injEq,Option.some.injEq,Addr.mk.injEq] at hv;obtain ⟨⟨rfl,_⟩,_,rfl⟩:=hv;obtain rfl:cur'=cur:=by
  rw [hg'] at dW;injection dW with e;injection e with e;simpa using e
 have e1:(cur'.take (i*7)++r.cells++cur'.drop (i*7+7))=splice cur' (i*7) r.cells:=by
  unfold splice;rw [List.append_assoc,BZ]
 have e2:(splice cur' (i*7) r.cells).take (q.length*7)=splice ((cs.map aF.cells).flatten) (i*7) r.cells:=z8 cur' _ r.cells (q.length*7) (i*7) ht hm (by rw [BZ];omega);have e3:((cs.set i r).map aF.cells).flatten=splice ((cs.map aF.cells).flatten) (i*7) r.cells:=DD BZ cs i r (by rw [h.len];omega);have hl:(splice cur' (i*7) r.cells).length=cur'.length:=by
  unfold splice;simp only [List.length_append,List.length_take,List.length_drop,BZ];omega
 refine ⟨by rw [List.length_set,h.len],?_,?_,by omega,?_,?_⟩
 ·rw [List.take_set,List.take_add_one]
  have hil:i<cs.length:=by rw [h.len];omega
  have:(List.take i cs++(cs[i]?).toList).set i r=List.take i cs++[r]:=by
   rw [List.getElem?_eq_getElem hil];rw [List.set_append_right _ _ (by simp [List.length_take];omega)];simp [List.length_take,Nat.min_eq_left (Nat.le_of_lt hil)]
  rw [this,h.tk];unfold su;rw [List.take_add_one,hr,List.filter_append];simp [hg]
 ·have:(cs.drop j).drop 1=(q.drop j).drop 1:=by rw [h.dr]
  rw [List.drop_drop,List.drop_drop] at this;rw [List.drop_set_of_lt (by omega)];exact this
 ·rw [e1] at hw
  have:=hput w2 _ hl hw;rw [e2,← e3] at this;exact this
 ·exact (h.dX.trans (av.later hb)).trans (av.only ho rfl)
theorem UH (w:World) (base bs:Nat) (sq:Int) (a:Option Addr) (n c:Nat) (q:List aF) (h:w.ownsRow base 52 7 (.slice a n c) q.length (q.map aF.cells).flatten) (hs:w.heap[bs]? = some (.cells #[.int .u32 sq] 47)) (hn:q.length<1000000) :
 Calls Tryz.prog 95 #[.slice a n c,.func (.func 96) #[] #[.pointer (some ⟨bs,0,none⟩)]] w fun e w'=>∃ n':Nat,e=.returned (.slice a n' c)∧w'.ownsRow base 52 7 (.slice a n' c) (su sq q).length ((su sq q).map aF.cells).flatten∧av (fun k=>Value.ownBlock (.slice a n c)=some k) w w':=by
 obtain ⟨i0,hi0,hz0,hz1,hz2⟩:=info_parts Ch;obtain rfl:=pO h;have HO:=ae h;have HS:=ae hs;have hlt:bs<w.heap.size:=(df hs);have hs0:w.cell? ⟨bs,0,none⟩=some (.int .u32 sq):=ah hs 0;have HSL:Hid (bQ w.heap.size w ⟨a,q.length,c⟩ 7 (q.map aF.cells)):=by
  obtain ⟨a',n',c',e,hm,hin⟩:=pI h (fun y=>rfl);cases e;exact hin
 clear h hs;go_enter Tryz.func95,Tryz.ntmps95
 go_upto_region 2 with (go_at_call 151;go_must (refine (XK _ bs sq a q.length c q HSL.out hs0 hlt hn).mono ?_;rintro e w1 ⟨ix,rfl,hix,hb1⟩;have HB1:=ae hb1;have HIX:=ae hix;clear hb1 hix))
 rcases HIX.out with ⟨rfl,hall⟩ | ⟨k,rfl,⟨r,hr,hrg⟩,hbef⟩
 ·have hk:su sq q=q:=by unfold su;rw [List.filter_eq_self];intro x hx;simp [hall x hx]
  have HK:=ae hk;clear hk hall HIX;go_wp2_with fail
  go_ret
  exact ⟨_,rfl,by rw [HK.out];exact ay HO.out HB1.out,av.later HB1.out⟩
 ·have hkq:=(mV hr)
  have hdk:((k:Int) == -1)=false:=beq_eq_false_iff_ne.2 (by omega);have Cm:Hid (su sq (q.take (k+1))=q.take k):=by
   show _=_;unfold su;rw [List.take_add_one,hr,List.filter_append];have e1:(q.take k).filter (fun r=>!yV sq r)=q.take k:=by rw [List.filter_eq_self];intro x hx;simp [hbef x hx]
   rw [e1];simp [hrg]
  obtain ⟨g,cap,alQ,hv,hBg,hg0,hm0,hcl0,ahV,hcm0,ht0,_,_⟩:=kS HO.out (by omega);simp only [Value.slice.injEq] at hv;obtain ⟨rfl,_,rfl⟩:=hv;have hne:g≠bs:=fun e=>by have:=HS.out;rw [← e,hg0] at this;injection this with h;injection h with _ h _;exact absurd h (by decide)
  clear hr hrg hbef HIX hg0 hm0 hcl0 ahV hcm0 ht0;go_wp2_with fail
  go_loopw [5,6] (fun ii jj wr=>∃ (i j:Nat) (cs:List aF),ii=.int .i64 i∧jj=.int .i64 j∧j≤q.length∧Hid (LW w wr base g c sq q cs i j)) (fun _ jj _=>q.length - (intOf jj).toNat)
  case atStart=>exact ⟨k,k+1,q,rfl,by go_num,by omega,⟨rfl,Cm.out.symm,rfl,Nat.lt_succ_self _,ay HO.out HB1.out,av.later HB1.out⟩⟩
  case round =>
   obtain ⟨i,j,cs,rfl,rfl,hjq,HF⟩:=hrel;have hij:=HF.out.ij;by_cases hjl:j<q.length
   ·have hdj:decide ((j:Int)<(q.length:Int))=true:=by simp;omega
    obtain ⟨r,hr⟩:∃ r,q[j]? = some r:=⟨q[j]'hjl,by simp⟩;obtain ⟨g',cap',cur,hv,_,hg,hnl,hcl,hnc,hcm,htk,_,_⟩:=kS HF.out.own (by omega);simp only [Value.slice.injEq,Option.some.injEq,Addr.mk.injEq] at hv;obtain ⟨⟨rfl,_⟩,_,rfl⟩:=hv;have hat:cs[j]? = some r:=by
     have h1:(cs.drop j)[0]? = (q.drop j)[0]?:=by rw [HF.out.dr]
     simpa [hr] using h1
    have HE:Hid ((cur.drop (j*7)).take 7=aF.cells r):=Oo BZ hat htk HF.out.len;have HG:=ae hg;have CW:Hid (Nat.ble (j*7+7) cur.length=true):=by show _=_;rw [Nat.ble_eq];omega
    have ahW:Hid (Nat.ble (i*7+7) cur.length=true):=by show _=_;rw [Nat.ble_eq];omega
    have Aa:=ae hr;have Jq:g<wr.heap.size:=(df hg);have HSB:Hid (wr.heap[bs]? = some (.cells #[.int .u32 sq] 47)):=nQ HS.out HF.out.dX (fun e=>hne e.symm);have hi1:(0:Int)≤(j:Int):=by omega
    have hi2:(j:Int)<(q.length:Int):=by omega
    have hi3:(0:Int)≤(i:Int):=by omega
    have hi4:(i:Int)<(q.length:Int):=by omega
    clear hat htk hr hg hnc hcm hcl;obtain ⟨aM,bG,aV,aP,bg,⟨bZ,bR,cK⟩,⟨bX,bN,bY⟩,bF,bC⟩:=r;have HE2:Hid ((cur.drop (j*7)).take 7=(rR aM bG aV aP bg bZ bR cK bX bN bY)):=HE.out;clear HE;by_cases hgd:aV≤sq
    ·have hd:decide (aV≤sq)=true:=by simp [hgd]
     go_wp2_with (first
      | (with_reducible show cB 25 52 ..;go_must (refine nS rfl _ _ rfl g (j*7) rfl 7 _ qD rfl (by kernel_rfl) cur 52 HG.out CW.out (rR aM bG aV aP bg bZ bR cK bX bN bY) HE2.out ?_))
      | (with_reducible show dJ 52 7 ..;go_must (refine fH wr.heap.size 0 (rR aM bG aV aP bg bZ bR cK bX bN bY) _ Fz 52 (heap_alloc_new wr _) (rR aM bG aV aP bg bZ bR cK bX bN bY) ?_;intro w2 hw ho;have dL:Hid (w2.heap[wr.heap.size]? = some (.cells (rR aM bG aV aP bg bZ bR cK bX bN bY).toArray 52)):=ae hw;have HB2:Hid (Below wr.heap.size wr w2):=ae ((aj wr _).trans (ho.below (Nat.le_refl _)));clear hw ho))
      | (with_reducible show cB 27 52 ..;go_must (refine dF wr.heap.size 0 7 qD _ _ dL.out (rR aM bG aV aP bg bZ bR cK bX bN bY) ?_))
      | (go_at_call 96;go_must (refine (KE _ bs sq aM bG aV aP bg bZ bR cK bX bN bY (ah (af HB2.out HSB.out) 0) (df (af HB2.out HSB.out))).mono ?_;rintro e w3 ⟨rfl,hb3⟩;rw [hd];have HB3:=ae hb3;clear hb3)))
     go_roundw
     case rel=>exact ⟨i,j+1,cs,rfl,by go_num,by omega,HF.out.skip Aa.out (by simp [yV,hgd]) (ai HB2.out HB3.out)⟩
     case measure=>simp [intOf];omega
    ·have hd:decide (aV≤sq)=false:=by simp [hgd]
     go_wp2_with (first
      | (with_reducible show cB 25 52 ..;go_must (refine nS rfl _ _ rfl g (j*7) rfl 7 _ qD rfl (by kernel_rfl) cur 52 HG.out CW.out (rR aM bG aV aP bg bZ bR cK bX bN bY) HE2.out ?_))
      | (with_reducible show dJ 52 7 ..;go_must (refine fH wr.heap.size 0 (rR aM bG aV aP bg bZ bR cK bX bN bY) _ Fz 52 (heap_alloc_new wr _) (rR aM bG aV aP bg bZ bR cK bX bN bY) ?_;intro w2 hw ho;have dL:Hid (w2.heap[wr.heap.size]? = some (.cells (rR aM bG aV aP bg bZ bR cK bX bN bY).toArray 52)):=ae hw;have HB2:Hid (Below wr.heap.size wr w2):=ae ((aj wr _).trans (ho.below (Nat.le_refl _)));clear hw ho))
      | (with_reducible show cB 27 52 ..;go_must (refine dF wr.heap.size 0 7 qD _ _ dL.out (rR aM bG aV aP bg bZ bR cK bX bN bY) ?_))
      | (go_at_call 96;go_must (refine (KE _ bs sq aM bG aV aP bg bZ bR cK bX bN bY (ah (af HB2.out HSB.out) 0) (df (af HB2.out HSB.out))).mono ?_;rintro e w3 ⟨rfl,hb3⟩;rw [hd];have HB3:Hid (Below wr.heap.size wr w3):=ae (ai HB2.out hb3);have KY:Hid (w3.heap[wr.heap.size]? = some (.cells (rR aM bG aV aP bg bZ bR cK bX bN bY).toArray 52)):=ae (af hb3 dL.out);have KX:=ae (af HB3.out HG.out);clear hb3))
      | (with_reducible show cB 32 52 ..;go_must (refine dF wr.heap.size 0 7 qD _ _ KY.out (rR aM bG aV aP bg bZ bR cK bX bN bY) ?_))
      | (with_reducible show dJ 52 33 ..;go_must (refine eu rfl _ _ _ rfl rfl g (i*7) rfl (rR aM bG aV aP bg bZ bR cK bX bN bY) rfl 7 (by kernel_rfl) rfl rfl cur 52 KX.out ahW.out _ rfl ?_;intro w4 hw ho;have HG4:=ae hw;have o6:Hid (Only g w3 w4):=ae ho;clear hw ho)))
     go_roundw
     case rel=>exact ⟨i+1,j+1,_,by go_num,by go_num,by omega,HF.out.move Aa.out (by simp [yV];omega) HB3.out HG.out o6.out HG4.out⟩
     case measure=>simp [intOf];omega
   ·have hdj:decide ((j:Int)<(q.length:Int))=false:=by simp;omega
    obtain rfl:j=q.length:=by omega
    obtain ⟨g',cap',cur,hv,ahX,hg,hnl,hcl,hnc,hcm,htk,_,_⟩:=kS HF.out.own (by omega);simp only [Value.slice.injEq,Option.some.injEq,Addr.mk.injEq] at hv;obtain ⟨⟨rfl,_⟩,_,rfl⟩:=hv;have HG:=ae hg;have hi3:(0:Int)≤(i:Int):=by omega
    have hi4:(i:Int)≤(q.length:Int):=by omega
    have GK:Hid (i*7+(q.length - i)*7≤cur.length):=by show _≤_;omega
    have hls:q.length≤c:=hnc;have Bo:=ae htk;have HCL:=ae hcl;have hcm':c≤9223372036854775807:=by unfold maxLen at hcm;omega
    clear hg htk hcl;go_wp2_with (with_reducible show wpList _ _ _ ({ dst:=none,op:=Op.call _,type:=_,pos:=_,after:=_,guard:=none }::_) _ _;go_must (refine CU rfl (.tmp 38) 101 rfl 52 i0 (.agg Fz.toArray) Hr hi0 hz0 7 hz1 rfl (by simp [Value.cells,Value.oneCell']) g (i*7) (q.length - i) (c - i) rfl (by omega) cur 52 HG.out GK.out ?_;intro zs w2 hzl hg2 ho2))
    go_wp2_with fail
    go_ret
    have hil:i≤cs.length:=by rw [HF.out.len];omega
    have hkl:(su sq q).length=i:=by
     have h1:=HF.out.tk;rw [List.take_length] at h1;rw [← h1,List.length_take,Nat.min_eq_left hil]
    refine ⟨i,rfl,?_,?_⟩
    ·have hsl:(splice cur (i*7) zs).length=c*7:=by
      have h1:=hzl.out;have h2:=GK.out;have h3:=HCL.out;unfold splice;simp only [List.length_append,List.length_take,List.length_drop,h1];omega
     have hst:(splice cur (i*7) zs).take (i*7)=((su sq q).map aF.cells).flatten:=by
      have h1:(splice cur (i*7) zs).take (i*7)=cur.take (i*7):=by
       unfold splice;have h2:=GK.out;rw [List.take_append_of_le_length (by rw [List.length_take];omega),List.take_of_length_le (by rw [List.length_take];omega)]
      have h2:cur.take (i*7)=((cs.take i).map aF.cells).flatten:=by
       rw [← AP BZ,← Bo.out,List.take_take,Nat.min_eq_left (Nat.mul_le_mul_right _ (by omega))]
      have h3:=HF.out.tk;rw [List.take_length] at h3;rw [h1,h2,h3]
     rw [hkl];refine ⟨by rw [Ap BZ,hkl],.inr ⟨g,c,(splice cur (i*7) zs).toArray,rfl,ahX,hg2.out,by omega,hcm,by simpa using hsl,?_⟩⟩;simpa using hst
    ·exact (HF.out.dX.trans (av.only ho2.out rfl)).mono (fun k _ e=>by rw [e];rfl)
end
end Go.Proofs.YtignemioillaiaaGreat
