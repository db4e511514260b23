/- shard.Apply, with a request, with a range. -/
import Derived.Test.YtignemioillaiaaGreatG21
namespace Go.Proofs.YtignemioillaiaaGreat
set_option maxHeartbeats 8000000
set_option maxRecDepth 100000
section
open Go.RowKit Go.Lib
theorem XP (w:World) (g n:Int) (vT vM vD vO vI:Value) (T:List Row) (M:List Pc) (D:List ak) (L:List ax) (I:List Int) (aG:Int) (di dh dw aO dx bK bL:Int) (aH aK aL bu aW:Int) (aQ:Option Addr) (aX aR:Nat) (aS:Option Addr) (aY aU:Nat) (aN bW:Int) (h:ShM w 0 vT vM vD vO vI T M D L I) (hok:ku ⟨g,n,T,M,D,L.map ax.core,I⟩) (hsm:nL 999999 ⟨g,n,T,M,D,L.map ax.core,I⟩) (hk1:(aG == 1)=true) (hwf:(bH.mk di dh dw aO dx bK bL).wf) :
 Calls Tryz.prog 12 #[.agg (rW g n vT vM vD vO vI).toArray,.agg (rC aG di dh dw aO dx bK bL aH aK aL bu aW aQ aX aR aS aY aU aN bW).toArray] w (NF w g n (qz ⟨g,n,T,M,D,L.map ax.core,I⟩ (bH.mk di dh dw aO dx bK bL)).1 (qz ⟨g,n,T,M,D,L.map ax.core,I⟩ (bH.mk di dh dw aO dx bK bL)).2):=by
 obtain ⟨W,hW⟩:∃ W,W=(((w.alloc (.cells (rW g n vT vM vD vO vI).toArray 31)).alloc (.cells (rC aG di dh dw aO dx bK bL aH aK aL bu aW aQ aX aR aS aY aU aN bW).toArray 54)).alloc (.cells dS.toArray 31)).alloc (.cells bA.toArray 57):=⟨_,rfl⟩;obtain ⟨hS,hC,hZ,hY,bE,hWs⟩:=four w (.cells (rW g n vT vM vD vO vI).toArray 31) (.cells (rC aG di dh dw aO dx bK bL aH aK aL bu aW aQ aX aR aS aY aU aN bW).toArray 54) (.cells dS.toArray 31) (.cells bA.toArray 57);rw [← hW] at hS hC hZ hY bE hWs;have qi:=ae hok;have NH:=ae hsm;have dQ:=ae bE;have pR:=ae hWs;have HS:=ae hS;have HC:=ae hC;have HZ:=ae hZ;have HY:=ae hY;have HOW:=ae (h.later bE);have LX:=ae (NG hok hsm);clear h hok hsm bE hWs hS hC hZ hY;go_enter Tryz.func12,Tryz.ntmps12
 go_upto_region 1 with fail
 rw [← hW];clear hW;go_upto_region 5 with (first
  | (with_reducible show cB 8 31 ..;go_must (refine dF w.heap.size 0 7 fE (rW g n vT vM vD vO vI) 31 HS.out (rW g n vT vM vD vO vI) ?_))
  | (go_at_call 42;go_must (refine (FM _ g n vT vM vD vO vI T M D L I HOW.out LX.out).mono ?_;rintro e w1 ⟨wT,wM,wD,wO,wI,rfl,hfr⟩;obtain ⟨p,hcore,qm⟩:=hfr.sh;have HB1:=ae hfr.zA;have o9:=ae hcore;have lG:=ae qm;have h7:(rW g n wT wM wD wO wI).all (·.oneCell')=true:=(by rw [List.all_eq_true];intro u hu;simp only [List.mem_cons,List.not_mem_nil,or_false] at hu;rcases hu with rfl | rfl | rfl | rfl | rfl | rfl | rfl <;> first | rfl | exact dR qm.oT | exact dR qm.oM | exact dR qm.oD | exact dR qm.oO | exact dR qm.oI);clear hfr hcore qm))
  | (with_reducible show dJ 31 6 ..;go_must (refine eu rfl _ _ _ rfl rfl w1.heap.size 0 rfl (rW g n wT wM wD wO wI) rfl _ (by kernel_rfl) rfl h7 dS 31 (heap_alloc_new w1 _) rfl (rW g n wT wM wD wO wI) rfl ?_;intro w2 hw ho;have dL:Hid (w2.heap[w1.heap.size]? = some (.cells (rW g n wT wM wD wO wI).toArray 31)):=ae hw;have HB2:Hid (Below w1.heap.size w1 w2):=ae ((aj w1 _).trans (ho.below (Nat.le_refl _)));have hs2:w2.heap.size=w1.heap.size+1:=(by rw [ho.size];simp);clear hw ho))
  | (with_reducible show cB 10 31 ..;go_must (refine dF w1.heap.size 0 7 fE (rW g n wT wM wD wO wI) 31 (af (aj w2 _) dL.out) (rW g n wT wM wD wO wI) ?_))
  | (go_at_call 43;go_must (refine (FQ _ W.heap.size g n wT wM wD wO wI T M D p I ((lG.out.later HB2.out).later (aj w2 _)) (by rw [o9.out];exact qi.out)).mono ?_;rintro e w3 ⟨rfl,hb3⟩;have HB3:Hid (Below w2.heap.size w2 w3):=ae (ai (aj w2 _) hb3);have HR3:Hid (w3.heap[w1.heap.size+1]? = some (.cells bA.toArray 57)):=ae (af hb3 (by rw [← hs2];exact heap_alloc_new w2 _));clear hb3)))
 have nD:Hid (Below W.heap.size W w3):=ai (ai HB1.out HB2.out) HB3.out;have yC:Hid (qI w3 W.heap.size w1.heap.size g n wT wM wD wO wI T M D p I):=⟨af HB3.out dL.out,HB1.out.size,(lG.out.later HB2.out).later HB3.out⟩;have hcm:w3.cell? ⟨w.heap.size+1,0,none⟩=some (.int .u8 aG):=blk nD.out HC.out 0;have hws:=pR.out;have ZB:=HB1.out.size;have ZC:=HB2.out.size;have ZE:=HB3.out.size;have ZF:w1.heap.size+1<w3.heap.size:=(df HR3.out);have LY:¬ nJ w1.heap.size wT wM wD wO wI p (w1.heap.size+1):=fun e=>by
  rcases lG.out.foot _ e with h1 | h1 <;> omega
 have LZ:¬ nJ w1.heap.size wT wM wD wO wI p (w.heap.size+1+1):=fun e=>by have:=yC.out.ge _ e;omega
 have L6:¬ nJ w1.heap.size wT wM wD wO wI p (w.heap.size+1+1+1):=fun e=>by have:=yC.out.ge _ e;omega
 have Oy:Hid (ku ⟨g,n,T,M,D,p.map ax.core,I⟩):=by rw [o9.out];exact qi.out
 have Tg:Hid (nL 999999 ⟨g,n,T,M,D,p.map ax.core,I⟩):=by rw [o9.out];exact NH.out
 go_upto_region 12 with (first
  | (with_reducible show cB 20 50 ..;go_must (refine dF (w.heap.size+1) 1 7 wR (rC aG di dh dw aO dx bK bL aH aK aL bu aW aQ aX aR aS aY aU aN bW) 54 (af nD.out HC.out) (rQ di dh dw aO dx bK bL) ?_))
  | (go_at_call 44;go_must (refine (abI _ W.heap.size w1.heap.size g n wT wM wD wO wI T M D p I di dh dw aO dx bK bL yC.out Oy.out Tg.out nD.out.size hwf).mono ?_;rintro e w4 ⟨pc,ps,eZ,pk,pf,pv,pg,rfl,adJ,hout⟩;have HAS:=ae adJ;have pQ:=ae hout;have HR4:Hid (w4.heap[w1.heap.size+1]? = some (.cells bA.toArray 57)):=ae (nK.keep hout HR3.out LY);clear adJ hout))
  | (with_reducible show dJ 57 7 ..;go_must (refine fH (w1.heap.size+1) 0 (rP pc ps eZ pk pf pv pg) _ bA 57 HR4.out (rP pc ps eZ pk pf pv pg) ?_;intro w5 hw ho;have zU:Hid (w5.heap[w1.heap.size+1]? = some (.cells (rP pc ps eZ pk pf pv pg).toArray 57)):=ae hw;have HN5:Hid (Only (w1.heap.size+1) w4 w5):=ae ho;clear hw ho)))
 have Ti:=nK.keep pQ.out (af nD.out HZ.out) LZ;have Tj:=nK.keep pQ.out (af nD.out HY.out) L6;obtain ⟨xT,xM,xD,xO,xI,xL,xU,hO4,Tk,hF4⟩:=pQ.out;have hZ5:=(HN5.out.block _ (by omega)).trans Ti;have hY5:=(HN5.out.block _ (by omega)).trans Tj;have PD:=xU.dX (av.only (A:=fun k=>k=w1.heap.size+1) HN5.out rfl) (fun k hk e=>by
  subst e;rcases hF4 _ hk with h1 | h1
  ·exact LY h1
  ·omega)
 have c5:av (fun k=>W.heap.size≤k) w3 w5:=(Tk.mono (fun k _ e=>yC.out.ge k e)).trans (av.only HN5.out (by omega));have e1:(qz ⟨g,n,T,M,D,L.map ax.core,I⟩ (bH.mk di dh dw aO dx bK bL))=(qz ⟨g,n,T,M,D,p.map ax.core,I⟩ (bH.mk di dh dw aO dx bK bL)):=by rw [o9.out]
 have e2:(ak.mk pc ps eZ pk pf pv pg)=(qz ⟨g,n,T,M,D,L.map ax.core,I⟩ (bH.mk di dh dw aO dx bK bL)).2:=by rw [e1];exact HAS.out.symm
 obtain ⟨ta,tn,tc,rfl⟩:=aB PD.m.oT;obtain ⟨ma,mn,mc,rfl⟩:=aB PD.m.oM;obtain ⟨da,dn,dc,rfl⟩:=aB PD.m.oD;obtain ⟨oa,on,oc,rfl⟩:=aB PD.m.oO;obtain ⟨ia,il,ic,rfl⟩:=aB PD.m.oI;refine NA rfl w5 (w.heap.size+1+1) (w.heap.size+1+1+1) w1.heap.size (w1.heap.size+1) g n ta tn tc ma mn mc da dn dc oa on oc ia il ic pc ps eZ pk pf pv pg PD.cell zU.out hZ5 hY5 (by omega) (by omega) (by omega) (by omega) (by omega) (by omega) (by omega) (by omega) (by omega) (by omega) _ ?_ (by assumption);intro w' hcw;have hfin:=PD.dX hcw (fun k hk e=>by have:=PD.ge k hk;omega);have hbel:Below w.heap.size w w':=((ai dQ.out nD.out).trans (c5.below (fun k hk=>⟨by omega,by omega⟩))).trans (hcw.below (fun k hk=>⟨by have:=c5.size;omega,by omega⟩));rw [← e2,e1];exact ⟨_,_,_,_,_,xL,rfl,hO4,afm (s:=⟨g,n,T,M,D,p.map ax.core,I⟩) (q:=(bH.mk di dh dw aO dx bK bL)) ▸ hfin.m.mono dQ.out.size,hbel⟩
theorem XQ (w:World) (g n:Int) (vT vM vD vO vI:Value) (T:List Row) (M:List Pc) (D:List ak) (L:List ax) (I:List Int) (aG:Int) (di dh dw aO dx bK bL:Int) (aH aK aL bu aW:Int) (aQ:Option Addr) (aX aR:Nat) (aS:Option Addr) (aY aU:Nat) (aN bW:Int) (aI:List Row) (aJ:List ak) (h:ShM w 0 vT vM vD vO vI T M D L I) (hok:ku ⟨g,n,T,M,D,L.map ax.core,I⟩) (hsm:nL 999999 ⟨g,n,T,M,D,L.map ax.core,I⟩) (hk1:(aG == 1)=false) (hk2:(aG == 2)=true) (hr:bQ w.heap.size w ⟨aQ,aX,aR⟩ 2 (aI.map Row.cells)) (hrn:aQ=none→aR=0) (hd:bQ w.heap.size w ⟨aS,aY,aU⟩ 7 (aJ.map ak.cells)) (hdn:aS=none→aU=0) (hwf:0≤aH∧0≤aW∧aW<18446744073709551616) (hn1:T.length+aI.length<1000000) (hn2:D.length+aJ.length<1000000) :
 Calls Tryz.prog 12 #[.agg (rW g n vT vM vD vO vI).toArray,.agg (rC aG di dh dw aO dx bK bL aH aK aL bu aW aQ aX aR aS aY aU aN bW).toArray] w (NF w g n (pW ⟨g,n,T,M,D,L.map ax.core,I⟩ (aF.mk aH aK aL bu aW ⟨aQ,aX,aR⟩ ⟨aS,aY,aU⟩ aI aJ).ok (aF.mk aH aK aL bu aW ⟨aQ,aX,aR⟩ ⟨aS,aY,aU⟩ aI aJ).core) qX):=by
 obtain ⟨W,hW⟩:∃ W,W=(((w.alloc (.cells (rW g n vT vM vD vO vI).toArray 31)).alloc (.cells (rC aG di dh dw aO dx bK bL aH aK aL bu aW aQ aX aR aS aY aU aN bW).toArray 54)).alloc (.cells dS.toArray 31)).alloc (.cells bA.toArray 57):=⟨_,rfl⟩;obtain ⟨hS,hC,hZ,hY,bE,hWs⟩:=four w (.cells (rW g n vT vM vD vO vI).toArray 31) (.cells (rC aG di dh dw aO dx bK bL aH aK aL bu aW aQ aX aR aS aY aU aN bW).toArray 54) (.cells dS.toArray 31) (.cells bA.toArray 57);rw [← hW] at hS hC hZ hY bE hWs;have qi:=ae hok;have NH:=ae hsm;have dQ:=ae bE;have pR:=ae hWs;have HS:=ae hS;have HC:=ae hC;have HZ:=ae hZ;have HY:=ae hY;have HOW:=ae (h.later bE);have LX:=ae (NG hok hsm);have HRR:=ae hr;have vk:=ae hd;clear hr hd;clear h hok hsm bE hWs hS hC hZ hY;go_enter Tryz.func12,Tryz.ntmps12
 go_upto_region 1 with fail
 rw [← hW];clear hW;go_upto_region 5 with (first
  | (with_reducible show cB 8 31 ..;go_must (refine dF w.heap.size 0 7 fE (rW g n vT vM vD vO vI) 31 HS.out (rW g n vT vM vD vO vI) ?_))
  | (go_at_call 42;go_must (refine (FM _ g n vT vM vD vO vI T M D L I HOW.out LX.out).mono ?_;rintro e w1 ⟨wT,wM,wD,wO,wI,rfl,hfr⟩;obtain ⟨p,hcore,qm⟩:=hfr.sh;have HB1:=ae hfr.zA;have o9:=ae hcore;have lG:=ae qm;have h7:(rW g n wT wM wD wO wI).all (·.oneCell')=true:=(by rw [List.all_eq_true];intro u hu;simp only [List.mem_cons,List.not_mem_nil,or_false] at hu;rcases hu with rfl | rfl | rfl | rfl | rfl | rfl | rfl <;> first | rfl | exact dR qm.oT | exact dR qm.oM | exact dR qm.oD | exact dR qm.oO | exact dR qm.oI);clear hfr hcore qm))
  | (with_reducible show dJ 31 6 ..;go_must (refine eu rfl _ _ _ rfl rfl w1.heap.size 0 rfl (rW g n wT wM wD wO wI) rfl _ (by kernel_rfl) rfl h7 dS 31 (heap_alloc_new w1 _) rfl (rW g n wT wM wD wO wI) rfl ?_;intro w2 hw ho;have dL:Hid (w2.heap[w1.heap.size]? = some (.cells (rW g n wT wM wD wO wI).toArray 31)):=ae hw;have HB2:Hid (Below w1.heap.size w1 w2):=ae ((aj w1 _).trans (ho.below (Nat.le_refl _)));have hs2:w2.heap.size=w1.heap.size+1:=(by rw [ho.size];simp);clear hw ho))
  | (with_reducible show cB 10 31 ..;go_must (refine dF w1.heap.size 0 7 fE (rW g n wT wM wD wO wI) 31 (af (aj w2 _) dL.out) (rW g n wT wM wD wO wI) ?_))
  | (go_at_call 43;go_must (refine (FQ _ W.heap.size g n wT wM wD wO wI T M D p I ((lG.out.later HB2.out).later (aj w2 _)) (by rw [o9.out];exact qi.out)).mono ?_;rintro e w3 ⟨rfl,hb3⟩;have HB3:Hid (Below w2.heap.size w2 w3):=ae (ai (aj w2 _) hb3);have HR3:Hid (w3.heap[w1.heap.size+1]? = some (.cells bA.toArray 57)):=ae (af hb3 (by rw [← hs2];exact heap_alloc_new w2 _));clear hb3)))
 have nD:Hid (Below W.heap.size W w3):=ai (ai HB1.out HB2.out) HB3.out;have yC:Hid (qI w3 W.heap.size w1.heap.size g n wT wM wD wO wI T M D p I):=⟨af HB3.out dL.out,HB1.out.size,(lG.out.later HB2.out).later HB3.out⟩;have hcm:w3.cell? ⟨w.heap.size+1,0,none⟩=some (.int .u8 aG):=blk nD.out HC.out 0;have hws:=pR.out;have ZB:=HB1.out.size;have ZC:=HB2.out.size;have ZE:=HB3.out.size;have ZF:w1.heap.size+1<w3.heap.size:=(df HR3.out);have LY:¬ nJ w1.heap.size wT wM wD wO wI p (w1.heap.size+1):=fun e=>by
  rcases lG.out.foot _ e with h1 | h1 <;> omega
 have LZ:¬ nJ w1.heap.size wT wM wD wO wI p (w.heap.size+1+1):=fun e=>by have:=yC.out.ge _ e;omega
 have L6:¬ nJ w1.heap.size wT wM wD wO wI p (w.heap.size+1+1+1):=fun e=>by have:=yC.out.ge _ e;omega
 have Oy:Hid (ku ⟨g,n,T,M,D,p.map ax.core,I⟩):=by rw [o9.out];exact qi.out
 have Tg:Hid (nL 999999 ⟨g,n,T,M,D,p.map ax.core,I⟩):=by rw [o9.out];exact NH.out
 obtain ⟨gI,PE,hwI⟩:∃ gI PE,wI=.slice (some ⟨gI,0,none⟩) I.length PE:=by
  have h1:=qi.out.il;have h2:=qi.out.gn;have h3:=qi.out.g0;dsimp only at h1 h2 h3;obtain ⟨gI,PE,_,hv,_⟩:=kS lG.out.oI (by omega);exact ⟨gI,PE,hv⟩
 subst hwI;have ahZ:Hid (Calls Tryz.prog 45 #[.pointer (some ⟨w1.heap.size,0,none⟩),.agg (rR aH aK aL bu aW aQ aX aR aS aY aU).toArray] w3 fun e w'=>e=.returned (.tuple #[])∧nK W.heap.size w1.heap.size g n wT wM wD wO (.slice (some ⟨gI,0,none⟩) I.length PE) p (pW ⟨g,n,T,M,D,p.map ax.core,I⟩ (aF.mk aH aK aL bu aW ⟨aQ,aX,aR⟩ ⟨aS,aY,aU⟩ aI aJ).ok (aF.mk aH aK aL bu aW ⟨aQ,aX,aR⟩ ⟨aS,aY,aU⟩ aI aJ).core).T (pW ⟨g,n,T,M,D,p.map ax.core,I⟩ (aF.mk aH aK aL bu aW ⟨aQ,aX,aR⟩ ⟨aS,aY,aU⟩ aI aJ).ok (aF.mk aH aK aL bu aW ⟨aQ,aX,aR⟩ ⟨aS,aY,aU⟩ aI aJ).core).M (pW ⟨g,n,T,M,D,p.map ax.core,I⟩ (aF.mk aH aK aL bu aW ⟨aQ,aX,aR⟩ ⟨aS,aY,aU⟩ aI aJ).ok (aF.mk aH aK aL bu aW ⟨aQ,aX,aR⟩ ⟨aS,aY,aU⟩ aI aJ).core).D (p.map ax.core) (pW ⟨g,n,T,M,D,p.map ax.core,I⟩ (aF.mk aH aK aL bu aW ⟨aQ,aX,aR⟩ ⟨aS,aY,aU⟩ aI aJ).ok (aF.mk aH aK aL bu aW ⟨aQ,aX,aR⟩ ⟨aS,aY,aU⟩ aI aJ).core).I w3 w'):=by
  have adK:Below w.heap.size w w3:=ai dQ.out nD.out;have hr3:bQ W.heap.size w3 ⟨aQ,aX,aR⟩ 2 (aI.map Row.cells):=by
   have a:=HRR.out.below adK (Nat.le_refl _);exact ⟨a.len,a.le,a.max,fun h0=>by obtain ⟨b,off,ha,hlt,hc⟩:=a.at' h0;exact ⟨b,off,ha,Nat.lt_of_lt_of_le hlt dQ.out.size,hc⟩⟩
  have hd3:bQ W.heap.size w3 ⟨aS,aY,aU⟩ 7 (aJ.map ak.cells):=by
   have a:=vk.out.below adK (Nat.le_refl _);exact ⟨a.len,a.le,a.max,fun h0=>by obtain ⟨b,off,ha,hlt,hc⟩:=a.at' h0;exact ⟨b,off,ha,Nat.lt_of_lt_of_le hlt dQ.out.size,hc⟩⟩
  have hil:=qi.out.il;have hno:((aF.mk aH aK aL bu aW ⟨aQ,aX,aR⟩ ⟨aS,aY,aU⟩ aI aJ).ok=false∨oL g n I (aF.mk aH aK aL bu aW ⟨aQ,aX,aR⟩ ⟨aS,aY,aU⟩ aI aJ).core=false)→pW ⟨g,n,T,M,D,p.map ax.core,I⟩ (aF.mk aH aK aL bu aW ⟨aQ,aX,aR⟩ ⟨aS,aY,aU⟩ aI aJ).ok (aF.mk aH aK aL bu aW ⟨aQ,aX,aR⟩ ⟨aS,aY,aU⟩ aI aJ).core=⟨g,n,T,M,D,p.map ax.core,I⟩:=fun hh=>by
   unfold pW;rw [if_neg];rintro ⟨h1,h2,_⟩;rcases hh with e | e
   ·rw [e] at h1;cases h1
   ·rw [e] at h2;cases h2
  by_cases h1:(aF.mk aH aK aL bu aW ⟨aQ,aX,aR⟩ ⟨aS,aY,aU⟩ aI aJ).ok=true
  ·by_cases h2:oL g n I (aF.mk aH aK aL bu aW ⟨aQ,aX,aR⟩ ⟨aS,aY,aU⟩ aI aJ).core=true
   ·have hsn:aH<n:=by
     simp only [oL,aF.core,Bool.and_eq_true] at h2;have:=h2.1.2;exact of_decide_eq_true this
    have aaI:bu≤aW:=by
     simp only [aF.ok,Bool.and_eq_true,decide_eq_true_eq] at h1;exact h1.1.1.2
    have hx:=UG w3 W.heap.size w1.heap.size gI PE aH.toNat g n wT wM wD wO T M D p I aH aK aL bu aW aQ aX aR aS aY aU aI aJ yC.out Oy.out hr3 hrn hd3 hdn nD.out.size (by omega) (by dsimp only at hil;omega) aaI hwf.2.1 hwf.2.2 hn1 hn2 h1 h2;rw [h1];exact hx
   ·rw [hno (.inr (by simpa using h2))]
    refine (ND w3 W.heap.size w1.heap.size gI PE g n wT wM wD wO T M D p I aH aK aL bu aW aQ aX aR aS aY aU aI aJ yC.out hil hr3 hd3 nD.out.size hwf.1 (.inr (by simpa using h2))).mono ?_;rintro e w' ⟨rfl,hb'⟩;exact ⟨rfl,yC.out.same hb'⟩
  ·rw [hno (.inl (by simpa using h1))]
   refine (ND w3 W.heap.size w1.heap.size gI PE g n wT wM wD wO T M D p I aH aK aL bu aW aQ aX aR aS aY aU aI aJ yC.out hil hr3 hd3 nD.out.size hwf.1 (.inl (by simpa using h1))).mono ?_;rintro e w' ⟨rfl,hb'⟩;exact ⟨rfl,yC.out.same hb'⟩
 go_upto_region 12 with (first
  | (with_reducible show cB 25 52 ..;go_must (refine dF (w.heap.size+1) 8 7 qD (rC aG di dh dw aO dx bK bL aH aK aL bu aW aQ aX aR aS aY aU aN bW) 54 (af nD.out HC.out) (rR aH aK aL bu aW aQ aX aR aS aY aU) ?_))
  | (go_at_call 45;go_must (refine ahZ.out.mono ?_;rintro e w4 ⟨rfl,hout⟩;have pQ:=ae hout;have HR4:Hid (w4.heap[w1.heap.size+1]? = some (.cells bA.toArray 57)):=ae (nK.keep hout HR3.out LY);clear hout)))
 have Ti:=nK.keep pQ.out (af nD.out HZ.out) LZ;have Tj:=nK.keep pQ.out (af nD.out HY.out) L6;obtain ⟨xT,xM,xD,xO,xI,xL,xU,hO4,Tk,hF4⟩:=pQ.out;have c5:av (fun k=>W.heap.size≤k) w3 w4:=Tk.mono (fun k _ e=>yC.out.ge k e);have e1:pW ⟨g,n,T,M,D,L.map ax.core,I⟩ (aF.mk aH aK aL bu aW ⟨aQ,aX,aR⟩ ⟨aS,aY,aU⟩ aI aJ).ok (aF.mk aH aK aL bu aW ⟨aQ,aX,aR⟩ ⟨aS,aY,aU⟩ aI aJ).core=pW ⟨g,n,T,M,D,p.map ax.core,I⟩ (aF.mk aH aK aL bu aW ⟨aQ,aX,aR⟩ ⟨aS,aY,aU⟩ aI aJ).ok (aF.mk aH aK aL bu aW ⟨aQ,aX,aR⟩ ⟨aS,aY,aU⟩ aI aJ).core:=by rw [o9.out]
 obtain ⟨ta,tn,tc,rfl⟩:=aB xU.m.oT;obtain ⟨ma,mn,mc,rfl⟩:=aB xU.m.oM;obtain ⟨da,dn,dc,rfl⟩:=aB xU.m.oD;obtain ⟨oa,on,oc,rfl⟩:=aB xU.m.oO;obtain ⟨ia,il,ic,rfl⟩:=aB xU.m.oI;refine NA rfl w4 (w.heap.size+1+1) (w.heap.size+1+1+1) w1.heap.size (w1.heap.size+1) g n ta tn tc ma mn mc da dn dc oa on oc ia il ic 0 0 0 0 false 0 0 xU.cell HR4.out Ti Tj (by omega) (by omega) (by omega) (by omega) (by omega) (by omega) (by omega) (by omega) (by omega) (by omega) _ ?_ (by assumption);intro w' hcw;have hfin:=xU.dX hcw (fun k hk e=>by have:=xU.ge k hk;omega);have hbel:Below w.heap.size w w':=((ai dQ.out nD.out).trans (c5.below (fun k hk=>⟨by omega,by omega⟩))).trans (hcw.below (fun k hk=>⟨by have:=c5.size;omega,by omega⟩));rw [e1];exact ⟨_,_,_,_,_,xL,rfl,hO4.trans (afn ⟨g,n,T,M,D,p.map ax.core,I⟩ (aF.mk aH aK aL bu aW ⟨aQ,aX,aR⟩ ⟨aS,aY,aU⟩ aI aJ).ok (aF.mk aH aK aL bu aW ⟨aQ,aX,aR⟩ ⟨aS,aY,aU⟩ aI aJ).core).symm,hfin.m.mono dQ.out.size,hbel⟩
end
section
open Go.RowKit

def need (out:List Pc) (g:Int):Bool:=match out.getLast? with
 | none=>true
 | some y=>!(y.g == g)
theorem PG {out:List Pc} {f g:Int}:join out ⟨f,g⟩=if need out g then out++[⟨f,g⟩] else out:=by
 unfold join need;cases h:out.getLast? with
 | none=>simp
 | some y=>by_cases h:y.g=g <;> simp [h]
theorem JB (a:Option Addr) (n c:Nat) (m:List Pc) (lo hi g:Int) (w:World) (h:nT w a n c m) (hwf:∀ (i:Nat) (x:Pc),m[i]? = some x→x.wf) (Jn:nM m=true) (oV:Can m) (hm:m.length≤1000) (h0:0≤lo) (hlh:lo≤hi) (h1:hi<18446744073709551616) (hg0:0≤g) (hg4:g<4) :
 Calls Tryz.prog 104 #[.slice a n c,.int .u64 lo,.int .u64 hi,.int .u8 g] w fun e w'=>∃ v',e=.returned (.tuple #[v',.int .i64 (qW (dG m lo hi g))])∧nP w.heap.size w' v' (qG (dG m lo hi g))∧Below w.heap.size w w':=by
 obtain ⟨i0,hi0,hz0,hz1,hz2⟩:=info_parts KA;have hlen:n=m.length:=by simpa using h.len
 have hlm:n≤1000:=by omega
 have HL:Hid (n=m.length):=hlen;have HC:Hid (Can m):=oV;have hd1:decide (hi<lo)=false:=by simp;omega
 have hd2:decide (3<g)=false:=by simp;omega
 clear hlen oV;go_enter Tryz.func104,Tryz.ntmps104
 go_wp2_with (go_at_call 153;go_must (refine (Xq _ _ _ m _ h hwf).mono ?_;rintro e w1 ⟨rfl,hb1⟩;rw [Jn]))
 go_loopw [11,12] (fun vo va wr=>∃ (out:List Pc) (at':Int),va=.int .u64 at'∧0≤at'∧at'<18446744073709551616∧Hid (nP w.heap.size wr vo out)∧Hid (Came (uG m lo hi g) out at')∧Hid (out.length≤(0::pM m lo hi).countP fun x=>decide (x<at'))∧Hid (at'∈0::pM m lo hi)∧Below w.heap.size w wr) (fun _ va _=>(18446744073709551616 - intOf va).toNat)
 case atStart=>exact ⟨[],0,rfl,Int.le_refl _,by decide,Ib _ _,.inl ⟨rfl,rfl⟩,Nat.zero_le _,by show (0:Int)∈_;simp,hb1⟩
 case round =>
  obtain ⟨out,at',rfl,ha0,ha1,HO,HK,HN,HI,hnx⟩:=hrel;have hS:nT wr a n c m:=h.later hnx;go_upto_region 9 with (go_at_call 152;go_must (refine (Ju _ _ _ m _ _ hS).mono ?_;rintro e w2 ⟨rfl,hb2⟩))
  go_cut [37] from 27 to 132 (fun s wx=>s=.bool (decide (lo≤at'∧at'≤hi))∧w2=wx)
  case first =>
   by_cases e1:lo≤at'
   ·have d1:decide (lo≤at')=true:=by simp [e1]
    by_cases e2:at'≤hi
    ·have d2:decide (at'≤hi)=true:=by simp [e2]
     go_wp2_with fail
     go_meet
     exact ⟨congrArg Value.bool (decide_eq_true (p:=lo≤at'∧at'≤hi) (by omega)).symm,rfl⟩
    ·have d2:decide (at'≤hi)=false:=by simp;omega
     go_wp2_with fail
     go_meet
     exact ⟨congrArg Value.bool (decide_eq_false (p:=lo≤at'∧at'≤hi) (by omega)).symm,rfl⟩
   ·have d1:decide (lo≤at')=false:=by simp;omega
    go_wp2_with fail
    go_meet
    exact ⟨congrArg Value.bool (decide_eq_false (p:=lo≤at'∧at'≤hi) (by omega)).symm,rfl⟩
  case rest =>
   obtain ⟨rfl,rfl⟩:=hcut;go_upto_if 37 with fail
   go_cut [13] from 27 to 132 (fun s wx=>s=.int .u8 (uG m lo hi g at')∧w2=wx)
   case first =>
    by_cases e1:lo≤at'∧at'≤hi
    ·have d1:decide (lo≤at'∧at'≤hi)=true:=by simp [e1]
     go_wp2_with fail
     go_meet
     exact ⟨by unfold uG;rw [if_pos e1],rfl⟩
    ·have d1:decide (lo≤at'∧at'≤hi)=false:=decide_eq_false e1
     go_wp2_with fail
     go_meet
     exact ⟨by unfold uG;rw [if_neg e1],rfl⟩
   case rest =>
    obtain ⟨rfl,rfl⟩:=hcut;have hgv:=UZ HC.out (lo:=lo) (hi:=hi) ⟨hg0,hg4⟩ at';have HJ:Hid (Inv (join out ⟨at',uG m lo hi g at'⟩) at' (uG m lo hi g)):=WY HK.out ha1 hgv;have HM:Hid ((join out ⟨at',uG m lo hi g at'⟩).length≤((0::pM m lo hi).countP fun x=>decide (x<at'))+1):=Nat.le_trans (Ah _ _) (Nat.add_le_add_right HN.out 1);have HB:Hid (out.length≤1003):=by
     have e1:=List.countP_le_length (p:=fun x=>decide (x<at')) (l:=0::pM m lo hi);have e2:(0::pM m lo hi).length≤m.length+3:=by unfold pM;split <;> simp
     have:=HN.out;show out.length≤1003;omega
    obtain ⟨gv,egv⟩:∃ x,x=uG m lo hi g at':=⟨_,rfl⟩;rw [← egv] at HJ HM ⊢;have ho2:=Ic HO.out hb2;have hn2:Below w.heap.size w w2:=hnx.trans (hb2.mono hnx.size);obtain ⟨a1,n1,c1,ev,hin1,_⟩:=ho2.Ia;subst ev;have hn1:Hid (n1=out.length):=by show _=_;simpa using hin1.len
    have ah0:n1≤1003:=by rw [hn1.out];exact HB.out
    have hsw:=hn2.size;clear egv hgv HK HN HO hb2 hnx hS;go_upto_region 11 with fail
    go_cut [52] from 27 to 132 (fun s wx=>s=.bool (need out gv)∧w2=wx)
    case first =>
     by_cases hz:n1=0
     ·subst hz
      have:need out gv=true:=by
       have:out=[]:=List.eq_nil_of_length_eq_zero hn1.out.symm;subst this;rfl
      go_wp2_with fail
      go_meet
      exact ⟨congrArg Value.bool this.symm,rfl⟩
     ·obtain ⟨y,hy⟩:∃ y,out[out.length - 1]? = some y:=⟨out[out.length - 1]'(by rw [← hn1.out];omega),by simp⟩
      obtain ⟨b,off,ha,j4,hc0,hc1⟩:=hin1.C9 hy;obtain rfl:a1=some ⟨b,off,none⟩:=ha;rw [← hn1.out] at hc1;have hnd:need out gv = !(y.g == gv):=by unfold need;rw [List.getLast?_eq_getElem?,hy]
      clear hy hc0;obtain ⟨yf,yg⟩:=y;dsimp only at hc1 hnd;have hj0:(0:Int)≤(n1:Int) - 1:=by omega
      have hj1:(n1:Int) - 1<(n1:Int):=by omega
      have hzd:((n1:Int) == 0)=false:=by simp;omega
      have hn0:0<n1:=by omega
      go_wp2_with fail
      go_meet
      exact ⟨congrArg Value.bool (by rw [hnd];rfl),rfl⟩
    case rest =>
     obtain ⟨rfl,rfl⟩:=hcut;go_upto_if 52 with fail
     go_cut [11] from 27 to 132 (fun s wx=>Hid (nP w.heap.size wx s (join out ⟨at',gv⟩))∧Below w.heap.size w wx)
     case first =>
      cases hnd:need out gv
      ·go_wp2_with fail
       go_meet
       refine ⟨?_,hn2⟩;show nP _ _ _ _;rw [PG,hnd];exact ho2
      ·go_wp2_with (first | (at_builtin;go_must (refine aZ _ rfl _ _ 26 rfl w.heap.size 107 i0 (.agg #[.int .u64 0,.int .u8 0]) 2 16 Lv hi0 hz0 hz1 hz2 rfl (by decide) _ _ _ rfl (qF ho2 _) _ 1 1 [.int .u64 at',.int .u8 gv] rfl rfl ?_ ?_ ?_ ?_ ?_ ?_)))
       case refine_1=>exact MZ rfl
       case refine_2=>exact KD at' gv
       case refine_3=>unfold maxLen;have:=hn1.out;omega
       case refine_4=>have:=hn1.out;omega
       case refine_5=>simp;omega
       intro v' w3 ho3 hg3;go_wp2
       go_meet
       refine ⟨?_,?_⟩
       ·show nP _ _ _ _
        rw [PG,hnd];exact FJ ho3
       ·exact hn2.trans ((Below.mono (aj w2 _) (by omega)).trans (hg3.DF (qF ho2 _) (by simp;omega)))
     case rest =>
      obtain ⟨dZ,KW⟩:=hcut;obtain ⟨a2,n2,c2,ev,hin2,_⟩:=dZ.out.Ia;subst ev;have ZG:Hid (n2=(join out ⟨at',gv⟩).length):=by show _=_;simpa using hin2.len
      have alR:n2≤1004:=by have:=ZG.out;have:=HB.out;have:=Ah out ⟨at',gv⟩;omega
      have hS':nT wc a n c m:=h.later KW;clear hin2 hin1 ho2 hn2 hsw hn1 ah0 HB;go_wp2_with fail
      go_loopw [14,15] (fun vn i wr2=>∃ (k:Nat) (nx:Int),k≤n∧i=.int .i64 k∧vn=.int .u64 nx∧at'≤nx∧nx<18446744073709551616∧Hid (Nx ((m.take k).map Pc.f) at' nx)∧wc=wr2) (fun _ i _=>n - (intOf i).toNat)
      case atStart=>exact ⟨0,at',Nat.zero_le _,rfl,rfl,Int.le_refl _,ha1,acL at',rfl⟩
      case round =>
       obtain ⟨k,nx,hk,rfl,rfl,hx0,hx1,HX,rfl⟩:=hrel;by_cases hlt:k<n
       ·have hdk:decide ((k:Int)<(n:Int))=true:=by simp;omega
        obtain ⟨x,hx⟩:∃ x,m[k]? = some x:=⟨m[k]'(by rw [← HL.out];exact hlt),by simp⟩;obtain ⟨b,off,ha,LH,hc0,hc1⟩:=hS'.C9 hx;obtain rfl:a=some ⟨b,off,none⟩:=ha;have hxw:=hwf k x hx;have HT:Hid ((m.take (k+1)).map Pc.f=(m.take k).map Pc.f++[x.f]):=by
         show _=_;rw [List.take_add_one,hx];simp
        clear hx hc1;obtain ⟨xf,xg⟩:=x;dsimp only at hc0 HT;obtain ⟨xw0,xw1,_,_⟩:=hxw;dsimp only at xw0 xw1;have hi1:(0:Int)≤(k:Int):=by omega
        have hi2:(k:Int)<(n:Int):=by omega
        by_cases e1:at'<xf
        ·have d1:decide (at'<xf)=true:=by simp [e1]
         by_cases e2:nx=at'
         ·have d2:(nx == at')=true:=by simp [e2]
          have Tm:Hid (Nx ((m.take (k+1)).map Pc.f) at' xf):=by show Nx _ _ _;rw [HT.out];exact Kz HX.out e1 (.inl e2)
          go_wp2_with fail
          go_roundw
          case rel=>exact ⟨k+1,xf,by omega,by go_num,rfl,by omega,xw1,Tm,trivial⟩
          case measure=>simp [intOf];omega
         ·have d2:(nx == at')=false:=by simp [e2]
          by_cases e3:xf<nx
          ·have d3:decide (xf<nx)=true:=by simp [e3]
           have Tm:Hid (Nx ((m.take (k+1)).map Pc.f) at' xf):=by show Nx _ _ _;rw [HT.out];exact Kz HX.out e1 (.inr e3)
           go_wp2_with fail
           go_roundw
           case rel=>exact ⟨k+1,xf,by omega,by go_num,rfl,by omega,xw1,Tm,trivial⟩
           case measure=>simp [intOf];omega
          ·have d3:decide (xf<nx)=false:=by simp;omega
           have Tm:Hid (Nx ((m.take (k+1)).map Pc.f) at' nx):=by show Nx _ _ _;rw [HT.out];exact H8 HX.out (by omega)
           go_wp2_with fail
           go_roundw
           case rel=>exact ⟨k+1,nx,by omega,by go_num,rfl,hx0,hx1,Tm,trivial⟩
           case measure=>simp [intOf];omega
        ·have d1:decide (at'<xf)=false:=by simp;omega
         have Tm:Hid (Nx ((m.take (k+1)).map Pc.f) at' nx):=by show Nx _ _ _;rw [HT.out];exact H8 HX.out (by omega)
         go_wp2_with fail
         go_roundw
         case rel=>exact ⟨k+1,nx,by omega,by go_num,rfl,hx0,hx1,Tm,trivial⟩
         case measure=>simp [intOf];omega
       ·have hdk:decide ((k:Int)<(n:Int))=false:=by simp;omega
        obtain rfl:k=n:=by omega
        have JA:Hid (Nx (m.map Pc.f) at' nx):=by have:=HX.out;rw [HL.out,List.take_length] at this;exact this
        clear HX hdk hk hlt;go_upto_region 19 with fail
        go_cut [104] from 27 to 132 (fun s wx=>s=.bool (decide (at'<lo∧(nx=at'∨lo<nx)))∧wc=wx)
        case first =>
         by_cases e1:at'<lo
         ·have d1:decide (at'<lo)=true:=by simp [e1]
          by_cases e2:nx=at'
          ·have d2:(nx == at')=true:=by simp [e2]
           have E:decide (at'<lo∧(nx=at'∨lo<nx))=true:=decide_eq_true (by omega);clear e2;go_wp2_with fail
           go_meet
           exact ⟨congrArg Value.bool E.symm,rfl⟩
          ·have d2:(nx == at')=false:=by simp [e2]
           by_cases e3:lo<nx
           ·have d3:decide (lo<nx)=true:=by simp [e3]
            have E:decide (at'<lo∧(nx=at'∨lo<nx))=true:=decide_eq_true (by omega);go_wp2_with fail
            go_meet
            exact ⟨congrArg Value.bool E.symm,rfl⟩
           ·have d3:decide (lo<nx)=false:=by simp;omega
            have E:decide (at'<lo∧(nx=at'∨lo<nx))=false:=decide_eq_false (by omega);go_wp2_with fail
            go_meet
            exact ⟨congrArg Value.bool E.symm,rfl⟩
         ·have d1:decide (at'<lo)=false:=by simp;omega
          have E:decide (at'<lo∧(nx=at'∨lo<nx))=false:=decide_eq_false (by omega);go_wp2_with fail
          go_meet
          exact ⟨congrArg Value.bool E.symm,rfl⟩
        case rest =>
         obtain ⟨rfl,rfl⟩:=hcut;go_upto_if 104 with fail
         go_cut [14] from 27 to 132 (fun s wx=>(∃ uy,s=.int .u64 uy∧at'≤uy∧uy<18446744073709551616∧Hid (Nx (m.map Pc.f++[lo]) at' uy))∧wc=wx)
         case first =>
          by_cases e1:at'<lo∧(nx=at'∨lo<nx)
          ·have d1:decide (at'<lo∧(nx=at'∨lo<nx))=true:=decide_eq_true e1
           have wu:Hid (Nx (m.map Pc.f++[lo]) at' lo):=Kz JA.out e1.1 e1.2;have DW:at'<lo:=e1.1;generalize decide (at'<lo∧(nx=at'∨lo<nx))=dd at d1;subst d1;clear e1;go_wp2_with fail
           go_meet
           exact ⟨⟨lo,rfl,by omega,by omega,wu⟩,rfl⟩
          ·have d1:decide (at'<lo∧(nx=at'∨lo<nx))=false:=decide_eq_false e1
           have wu:Hid (Nx (m.map Pc.f++[lo]) at' nx):=H8 JA.out e1;generalize decide (at'<lo∧(nx=at'∨lo<nx))=dd at d1;subst d1;clear e1;go_wp2_with fail
           go_meet
           exact ⟨⟨nx,rfl,hx0,hx1,wu⟩,rfl⟩
         case rest =>
          clear JA hx0 hx1;obtain ⟨⟨uy,rfl,hx0,hx1,wu⟩,rfl⟩:=hcut;go_upto_region 21 with fail
          go_cut [126] from 27 to 132 (fun s wx=>s=.bool (decide (hi≠18446744073709551615∧at'<hi+1∧(uy=at'∨hi+1<uy)))∧wc=wx)
          case first =>
           by_cases hmax:hi=18446744073709551615
           ·have d1:decide (at'<0)=false:=by simp;omega
            have hwz:IntKind.u64.wrap 18446744073709551616=0:=by decide
            subst hmax;go_wp2_with fail
            go_meet
            exact ⟨congrArg Value.bool (decide_eq_false (fun h=>h.1 rfl)).symm,rfl⟩
           ·have hh:hi+1<18446744073709551616:=by omega
            have d9:decide (hi<hi+1)=true:=by simp;omega
            by_cases e1:at'<hi+1
            ·have d1:decide (at'<hi+1)=true:=by simp [e1]
             by_cases e2:uy=at'
             ·have d2:(uy == at')=true:=by simp [e2]
              have E:decide (hi≠18446744073709551615∧at'<hi+1∧(uy=at'∨hi+1<uy))=true:=decide_eq_true (by omega);clear e2;go_wp2_with fail
              go_meet
              exact ⟨congrArg Value.bool E.symm,rfl⟩
             ·have d2:(uy == at')=false:=by simp [e2]
              by_cases e3:hi+1<uy
              ·have d3:decide (hi+1<uy)=true:=by simp [e3]
               have E:decide (hi≠18446744073709551615∧at'<hi+1∧(uy=at'∨hi+1<uy))=true:=decide_eq_true (by omega);go_wp2_with fail
               go_meet
               exact ⟨congrArg Value.bool E.symm,rfl⟩
              ·have d3:decide (hi+1<uy)=false:=by simp;omega
               have E:decide (hi≠18446744073709551615∧at'<hi+1∧(uy=at'∨hi+1<uy))=false:=decide_eq_false (by omega);go_wp2_with fail
               go_meet
               exact ⟨congrArg Value.bool E.symm,rfl⟩
            ·have d1:decide (at'<hi+1)=false:=by simp;omega
             have E:decide (hi≠18446744073709551615∧at'<hi+1∧(uy=at'∨hi+1<uy))=false:=decide_eq_false (by omega);go_wp2_with fail
             go_meet
             exact ⟨congrArg Value.bool E.symm,rfl⟩
          case rest =>
           obtain ⟨rfl,rfl⟩:=hcut;go_upto_if 126 with fail
           go_cut [14] from 27 to 132 (fun s wx=>(∃ Lc,s=.int .u64 Lc∧at'≤Lc∧Lc<18446744073709551616∧Hid (Nx (pM m lo hi) at' Lc))∧wc=wx)
           case first =>
            by_cases e1:hi≠18446744073709551615∧at'<hi+1∧(uy=at'∨hi+1<uy)
            ·have d1:decide (hi≠18446744073709551615∧at'<hi+1∧(uy=at'∨hi+1<uy))=true:=decide_eq_true e1
             have NI:Hid (Nx (pM m lo hi) at' (hi+1)):=by
              show Nx _ _ _;unfold pM;rw [if_neg e1.1];exact Kz wu.out e1.2.1 e1.2.2
             have DW:at'<hi+1:=e1.2.1;have hh:hi+1<18446744073709551616:=by have:=e1.1;omega
             generalize decide (hi≠18446744073709551615∧at'<hi+1∧(uy=at'∨hi+1<uy))=dd at d1;subst d1;clear e1;go_wp2_with fail
             go_meet
             exact ⟨⟨hi+1,rfl,by omega,hh,NI⟩,rfl⟩
            ·have d1:decide (hi≠18446744073709551615∧at'<hi+1∧(uy=at'∨hi+1<uy))=false:=decide_eq_false e1
             have NI:Hid (Nx (pM m lo hi) at' uy):=by
              show Nx _ _ _;unfold pM;by_cases hmax:hi=18446744073709551615
              ·rw [if_pos hmax,List.append_nil];exact wu.out
              ·rw [if_neg hmax];exact H8 wu.out (fun hc=>e1 ⟨hmax,hc.1,hc.2⟩)
             generalize decide (hi≠18446744073709551615∧at'<hi+1∧(uy=at'∨hi+1<uy))=dd at d1;subst d1;clear e1;go_wp2_with fail
             go_meet
             exact ⟨⟨uy,rfl,hx0,hx1,NI⟩,rfl⟩
           case rest =>
            clear wu hx0 hx1;obtain ⟨⟨Lc,rfl,hx0,hx1,NI⟩,rfl⟩:=hcut;by_cases e:Lc=at'
            ·have d:(Lc == at')=true:=by simp [e]
             have HE:Hid (join out ⟨at',gv⟩=dG m lo hi g):=Zi HC.out h0 hlh h1 ⟨hg0,hg4⟩ HJ.out (by have:=NI.out;rw [e] at this;exact this);clear e;go_wp2_with fail
             ·go_ret2
              have hlt:1000<n2:=by omega
              rw [ZG.out,HE.out] at hlt;refine ⟨.slice none 0 0,?_,?_,KW⟩
              ·unfold qW;rw [if_pos hlt];rfl
              ·unfold qG;rw [if_pos hlt];exact Ib _ _
             ·go_ret2
              have hlt:¬ 1000<n2:=by omega
              rw [ZG.out,HE.out] at hlt;refine ⟨.slice a2 n2 c2,?_,?_,KW⟩
              ·unfold qW;rw [if_neg hlt];rfl
              ·unfold qG;rw [if_neg hlt];have:=dZ.out;rw [HE.out] at this;exact this
            ·have d:(Lc == at')=false:=by simp [e]
             have hlt2:at'<Lc:=by omega
             go_wp2_with fail
             go_roundw
             case rel =>
              have HR:Lc∈0::pM m lo hi:=by
               rcases NI.out with ⟨h9,_⟩ | ⟨_,h9,_⟩
               ·exact (e h9).elim
               ·exact List.mem_cons_of_mem _ h9
              exact ⟨_,_,rfl,by omega,hx1,dZ,WZ HJ.out NI.out e hx1,Nat.le_trans HM.out (VT HI.out hlt2),HR,KW⟩
             case measure=>simp [intOf];omega
end
end Go.Proofs.YtignemioillaiaaGreat
