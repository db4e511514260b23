/- The document: Apply: Client, Receive, Nop. -/
import Derived.Test.YtignemioillaiaaGreatG31
import Derived.Test.YtignemioillaiaaGreatG32
namespace Go.Proofs.YtignemioillaiaaGreat
set_option maxHeartbeats 8000000
set_option maxRecDepth 100000
section
open Go.RowKit Go.Lib
theorem ab4 (P:Nat→Prop) (w:World) (g n:Int) (ta:Option Addr) (tn tc:Nat) (ma:Option Addr) (mn mc:Nat) (da:Option Addr) (dn dc:Nat) (oa:Option Addr) (on oc:Nat) (ia:Option Addr) (il ic:Nat) (aG:Int) (di dh dw aO dx bK bL:Int) (aH aK aL bu aW:Int) (aQ:Option Addr) (aX aR:Nat) (aS:Option Addr) (aY aU:Nat) (aN bW:Int) (aI:List Row) (aJ:List ak) (T:List Row) (M:List Pc) (D:List ak) (L:List ax) (I:List Int)
 (hS:ry P w ⟨ta,tn,tc⟩ ⟨ma,mn,mc⟩ ⟨da,dn,dc⟩ ⟨oa,on,oc⟩ ⟨ia,il,ic⟩ T M D L I) (hok:ku (St.mk g n T M D (L.map ax.core) I)) (_hlT:T.length<490000) (_hlD:D.length<490000) (hP:∀ k,w.heap.size≤k→¬ P k) (hk1:(aG == 1)=false) (hk2:(aG == 2)=false) (hk3:(aG == 3)=false) :
 Calls Tryz.prog 13 #[.agg (rS g n ta tn tc ma mn mc da dn dc oa on oc ia il ic).toArray,.agg (rC aG di dh dw aO dx bK bL aH aK aL bu aW aQ aX aR aS aY aU aN bW).toArray] w fun e w'=>Cc P w g n (uz (St.mk g n T M D (L.map ax.core) I) (dY.mk aG (bH.mk di dh dw aO dx bK bL) (aF.mk aH aK aL bu aW ⟨aQ,aX,aR⟩ ⟨aS,aY,aU⟩ aI aJ) aN bW)) e w':=by
 obtain ⟨W,hW⟩:∃ W,W=((((w.alloc (.cells (rS g n ta tn tc ma mn mc da dn dc oa on oc ia il ic).toArray 31)).alloc (.cells (rC aG di dh dw aO dx bK bL aH aK aL bu aW aQ aX aR aS aY aU aN bW).toArray 54)).alloc (.cells dS.toArray 31)).alloc (.cells bA.toArray 57)):=⟨_,rfl⟩;obtain ⟨h2,h3,h4,h5,bE,hWs⟩:=NR w (.cells (rS g n ta tn tc ma mn mc da dn dc oa on oc ia il ic).toArray 31) (.cells (rC aG di dh dw aO dx bK bL aH aK aL bu aW aQ aX aR aS aY aU aN bW).toArray 54) (.cells dS.toArray 31) (.cells bA.toArray 57);rw [← hW] at h2 h3 h4 h5 bE hWs;obtain ⟨b5,hb5⟩:∃ b5,w.heap.size+1+1+1=b5:=⟨_,rfl⟩;obtain ⟨b4,hb4⟩:∃ b4,w.heap.size+1+1=b4:=⟨_,rfl⟩;obtain ⟨b3,hb3⟩:∃ b3,w.heap.size+1=b3:=⟨_,rfl⟩;obtain ⟨b2,hb2⟩:∃ b2,w.heap.size=b2:=⟨_,rfl⟩;rw [hb5] at h5;rw [hb4] at h4;rw [hb3] at h3;have h2':W.heap[b2]? = some (.cells (rS g n ta tn tc ma mn mc da dn dc oa on oc ia il ic).toArray 31):=by rw [← hb2];exact h2
 obtain ⟨Bb,hBd⟩:∃ Bb:Nat→Prop,Bb=fun k=>w.heap.size≤k∧k<W.heap.size∧k≠b3:=⟨_,rfl⟩
 obtain ⟨Pb,wF⟩:∃ Pb:Nat→Prop,Pb=fun k=>P k∨(w.heap.size≤k∧k<W.heap.size):=⟨_,rfl⟩
 have hBb:∀ k,Bb k→Pb k:=by intro k hk;rw [hBd] at hk;rw [wF];exact .inr ⟨hk.1,hk.2.1⟩
 have De:∀ k,W.heap.size≤k→¬ Pb k:=by
  intro k hk e;rw [wF] at e;rcases e with e | e
  ·exact hP k (by omega) e
  ·omega
 have sP:Bb b2:=by rw [hBd];refine ⟨?_,?_,?_⟩ <;> omega
 have zH:Bb b4:=by rw [hBd];refine ⟨?_,?_,?_⟩ <;> omega
 have Be:Bb b5:=by rw [hBd];refine ⟨?_,?_,?_⟩ <;> omega
 have G8:¬ Bb b3:=by rw [hBd];exact fun e=>e.2.2 rfl
 have Gp:¬ b5=b4:=by omega
 have Gq:¬ b4=b5:=by omega
 have TP:¬ b4=b2:=by omega
 have TQ:¬ b5=b2:=by omega
 have toP:∀ k,Pb k→P k∨w.heap.size≤k:=by intro k hk;rw [wF] at hk;exact hk.imp id (fun h=>h.1)
 have back:∀ {x:World} k,P k→Pb k∨x.heap.size≤k:=by intro x k hk;rw [wF];exact .inl (.inl hk)
 have fin:∀ w',av Bb W w'→Below w.heap.size w w':=fun w' hc=>bE.trans (hc.below (fun k hk=>⟨by omega,fun e=>by rw [hBd] at e;omega⟩))
 have HS:=ae ((hS.to toP).later bE);have qi:=ae hok;have H2:=ae h2';have H3:=ae h3;have H4:=ae h4;have H5:=ae h5;have dQ:=ae bE;have Br:=ae (And.intro hb2 (And.intro hb3 (And.intro hb4 hb5)));have Bt:Hid (uz (St.mk g n T M D (L.map ax.core) I) (dY.mk aG (bH.mk di dh dw aO dx bK bL) (aF.mk aH aK aL bu aW ⟨aQ,aX,aR⟩ ⟨aS,aY,aU⟩ aI aJ) aN bW)=((St.mk g n T M D (L.map ax.core) I),qX)):=ae (by
  have a1:¬ aG=1:=by simpa using hk1
  have a2:¬ aG=2:=by simpa using hk2
  have a3:¬ aG=3:=by simpa using hk3
  unfold uz;simp [a1,a2,a3])
 clear h2 h2' h3 h4 h5 bE hWs hS hok hb2 hb3 hb4 hb5;go_enter Tryz.func13,Tryz.ntmps13
 go_upto_region 1 with fail
 rw [← hW];clear hW;obtain ⟨hb2,hb3,hb4,hb5⟩:=Br.out;rw [hb5,hb4,hb3,hb2];clear hb2 hb3 hb4 hb5;have hc0:W.cell? ⟨b3,0,none⟩=some (.int .u8 aG):=ah H3.out 0;go_wp2_with (first
  | (with_reducible show cB 90 31 ..;go_must (refine dF b2 0 7 fE _ _ H2.out (rS g n ta tn tc ma mn mc da dn dc oa on oc ia il ic) ?_))
  | (with_reducible show dJ 31 4 ..;go_must (refine fH b4 0 (rS g n ta tn tc ma mn mc da dn dc oa on oc ia il ic) 7 dS 31 H4.out (rS g n ta tn tc ma mn mc da dn dc oa on oc ia il ic) ?_;intro w8 h9 bJ;have Fh:=ae h9;have pF:=ae bJ;clear h9 bJ))
  | (with_reducible show dJ 57 5 ..;go_must (refine fH b5 0 bA 7 bA 57 ((pF.out.block b5 Gp).trans H5.out) bA ?_;intro w9 h9 bJ;have Bq:=ae h9;have pG:=ae bJ;clear h9 bJ)))
 refine bodyPost_ret (v:=.tuple #[.agg (rS g n ta tn tc ma mn mc da dn dc oa on oc ia il ic).toArray,.agg bA.toArray]) (mY Tryz.results13 _ _ b4 b5 _ _ _ _ (0,0) (0,0) _ _ rfl ((pG.out.block b4 Gq).trans Fh.out) rfl Bq.out fE rfl (by kernel_rfl) dD rfl (by kernel_rfl)) rfl ?_;have hall:av Bb W w9:=(((av.only pF.out zH).trans (av.only pG.out Be)));rw [Bt.out];exact ⟨⟨ta,tn,tc⟩,⟨ma,mn,mc⟩,⟨da,dn,dc⟩,⟨oa,on,oc⟩,⟨ia,il,ic⟩,L,rfl,rfl,((HS.out.dV hBb hall).to back),fin _ hall⟩
theorem ab5 (P:Nat→Prop) (w:World) (g n:Int) (ta:Option Addr) (tn tc:Nat) (ma:Option Addr) (mn mc:Nat) (da:Option Addr) (dn dc:Nat) (oa:Option Addr) (on oc:Nat) (ia:Option Addr) (il ic:Nat) (aG:Int) (di dh dw aO dx bK bL:Int) (aH aK aL bu aW:Int) (aQ:Option Addr) (aX aR:Nat) (aS:Option Addr) (aY aU:Nat) (aN bW:Int) (aI:List Row) (aJ:List ak) (T:List Row) (M:List Pc) (D:List ak) (L:List ax) (I:List Int)
 (hS:ry P w ⟨ta,tn,tc⟩ ⟨ma,mn,mc⟩ ⟨da,dn,dc⟩ ⟨oa,on,oc⟩ ⟨ia,il,ic⟩ T M D L I) (hok:ku (St.mk g n T M D (L.map ax.core) I)) (gY:T.length<490000) (gU:D.length<490000) (hP:∀ k,w.heap.size≤k→¬ P k) (hk1:(aG == 1)=true) (hwf:(bH.mk di dh dw aO dx bK bL).wf) :
 Calls Tryz.prog 13 #[.agg (rS g n ta tn tc ma mn mc da dn dc oa on oc ia il ic).toArray,.agg (rC aG di dh dw aO dx bK bL aH aK aL bu aW aQ aX aR aS aY aU aN bW).toArray] w fun e w'=>Cc P w g n (uz (St.mk g n T M D (L.map ax.core) I) (dY.mk aG (bH.mk di dh dw aO dx bK bL) (aF.mk aH aK aL bu aW ⟨aQ,aX,aR⟩ ⟨aS,aY,aU⟩ aI aJ) aN bW)) e w':=by
 obtain ⟨W,hW⟩:∃ W,W=((((w.alloc (.cells (rS g n ta tn tc ma mn mc da dn dc oa on oc ia il ic).toArray 31)).alloc (.cells (rC aG di dh dw aO dx bK bL aH aK aL bu aW aQ aX aR aS aY aU aN bW).toArray 54)).alloc (.cells dS.toArray 31)).alloc (.cells bA.toArray 57)):=⟨_,rfl⟩;obtain ⟨h2,h3,h4,h5,bE,hWs⟩:=NR w (.cells (rS g n ta tn tc ma mn mc da dn dc oa on oc ia il ic).toArray 31) (.cells (rC aG di dh dw aO dx bK bL aH aK aL bu aW aQ aX aR aS aY aU aN bW).toArray 54) (.cells dS.toArray 31) (.cells bA.toArray 57);rw [← hW] at h2 h3 h4 h5 bE hWs;obtain ⟨b5,hb5⟩:∃ b5,w.heap.size+1+1+1=b5:=⟨_,rfl⟩;obtain ⟨b4,hb4⟩:∃ b4,w.heap.size+1+1=b4:=⟨_,rfl⟩;obtain ⟨b3,hb3⟩:∃ b3,w.heap.size+1=b3:=⟨_,rfl⟩;obtain ⟨b2,hb2⟩:∃ b2,w.heap.size=b2:=⟨_,rfl⟩;rw [hb5] at h5;rw [hb4] at h4;rw [hb3] at h3;have h2':W.heap[b2]? = some (.cells (rS g n ta tn tc ma mn mc da dn dc oa on oc ia il ic).toArray 31):=by rw [← hb2];exact h2
 obtain ⟨Bb,hBd⟩:∃ Bb:Nat→Prop,Bb=fun k=>w.heap.size≤k∧k<W.heap.size∧k≠b3:=⟨_,rfl⟩
 obtain ⟨Pb,wF⟩:∃ Pb:Nat→Prop,Pb=fun k=>P k∨(w.heap.size≤k∧k<W.heap.size):=⟨_,rfl⟩
 have hBb:∀ k,Bb k→Pb k:=by intro k hk;rw [hBd] at hk;rw [wF];exact .inr ⟨hk.1,hk.2.1⟩
 have De:∀ k,W.heap.size≤k→¬ Pb k:=by
  intro k hk e;rw [wF] at e;rcases e with e | e
  ·exact hP k (by omega) e
  ·omega
 have sP:Bb b2:=by rw [hBd];refine ⟨?_,?_,?_⟩ <;> omega
 have zH:Bb b4:=by rw [hBd];refine ⟨?_,?_,?_⟩ <;> omega
 have Be:Bb b5:=by rw [hBd];refine ⟨?_,?_,?_⟩ <;> omega
 have G8:¬ Bb b3:=by rw [hBd];exact fun e=>e.2.2 rfl
 have Gp:¬ b5=b4:=by omega
 have Gq:¬ b4=b5:=by omega
 have TP:¬ b4=b2:=by omega
 have TQ:¬ b5=b2:=by omega
 have toP:∀ k,Pb k→P k∨w.heap.size≤k:=by intro k hk;rw [wF] at hk;exact hk.imp id (fun h=>h.1)
 have back:∀ {x:World} k,P k→Pb k∨x.heap.size≤k:=by intro x k hk;rw [wF];exact .inl (.inl hk)
 have fin:∀ w',av Bb W w'→Below w.heap.size w w':=fun w' hc=>bE.trans (hc.below (fun k hk=>⟨by omega,fun e=>by rw [hBd] at e;omega⟩))
 have HS:=ae ((hS.to toP).later bE);have qi:=ae hok;have H2:=ae h2';have H3:=ae h3;have H4:=ae h4;have H5:=ae h5;have dQ:=ae bE;have Br:=ae (And.intro hb2 (And.intro hb3 (And.intro hb4 hb5)));have zW:=ae hwf;have hq0:0≤dh:=hwf.s.1;have hkk:aG=1:=by simpa using hk1
 have Bt:Hid (uz (St.mk g n T M D (L.map ax.core) I) (dY.mk aG (bH.mk di dh dw aO dx bK bL) (aF.mk aH aK aL bu aW ⟨aQ,aX,aR⟩ ⟨aS,aY,aU⟩ aI aJ) aN bW)=if (bH.mk di dh dw aO dx bK bL).ok=true then uA (St.mk g n T M D (L.map ax.core) I) (bH.mk di dh dw aO dx bK bL) else ((St.mk g n T M D (L.map ax.core) I),qX)):=ae (by unfold uz;rw [if_pos hkk]);have Vk:Hid ((bH.mk di dh dw aO dx bK bL).ok=(bH.mk di dh dw aO dx bK bL).ok):=ae rfl;clear h2 h2' h3 h4 h5 bE hWs hS hok hb2 hb3 hb4 hb5 hwf hkk;go_enter Tryz.func13,Tryz.ntmps13
 go_upto_region 1 with fail
 rw [← hW];clear hW;obtain ⟨hb2,hb3,hb4,hb5⟩:=Br.out;rw [hb5,hb4,hb3,hb2];clear hb2 hb3 hb4 hb5;have hc0:W.cell? ⟨b3,0,none⟩=some (.int .u8 aG):=ah H3.out 0;cases hok1:(bH.mk di dh dw aO dx bK bL).ok with
 | false =>
  have Cm:=ae hok1;clear hok1;go_upto_region 22 with (first
   | (with_reducible show cB 17 50 ..;go_must (refine dF b3 1 7 wR _ _ H3.out (rQ di dh dw aO dx bK bL) ?_))
   | (go_at_call 47;go_must (refine (K7 di dh dw aO dx bK bL _ hq0).mono ?_;rintro e w1 ⟨rfl,hb1⟩;rw [Cm.out];have HB1:=ae hb1;clear hb1)))
  go_wp2_with (first
   | (with_reducible show cB 90 31 ..;go_must (refine dF b2 0 7 fE _ _ (af HB1.out H2.out) (rS g n ta tn tc ma mn mc da dn dc oa on oc ia il ic) ?_))
   | (with_reducible show dJ 31 4 ..;go_must (refine fH b4 0 (rS g n ta tn tc ma mn mc da dn dc oa on oc ia il ic) 7 dS 31 (af HB1.out H4.out) (rS g n ta tn tc ma mn mc da dn dc oa on oc ia il ic) ?_;intro w8 h9 bJ;have Fh:=ae h9;have pF:=ae bJ;clear h9 bJ))
   | (with_reducible show dJ 57 5 ..;go_must (refine fH b5 0 bA 7 bA 57 ((pF.out.block b5 Gp).trans (af HB1.out H5.out)) bA ?_;intro w9 h9 bJ;have Bq:=ae h9;have pG:=ae bJ;clear h9 bJ)))
  refine bodyPost_ret (v:=.tuple #[.agg (rS g n ta tn tc ma mn mc da dn dc oa on oc ia il ic).toArray,.agg bA.toArray]) (mY Tryz.results13 _ _ b4 b5 _ _ _ _ (0,0) (0,0) _ _ rfl ((pG.out.block b4 Gq).trans Fh.out) rfl Bq.out fE rfl (by kernel_rfl) dD rfl (by kernel_rfl)) rfl ?_;have hall:av Bb W w9:=((av.later HB1.out).trans ((av.only pF.out zH).trans (av.only pG.out Be)));rw [Bt.out,Cm.out,if_neg (by simp)];exact ⟨⟨ta,tn,tc⟩,⟨ma,mn,mc⟩,⟨da,dn,dc⟩,⟨oa,on,oc⟩,⟨ia,il,ic⟩,L,rfl,rfl,((HS.out.dV hBb hall).to back),fin _ hall⟩
 | true =>
  have Cm:=ae hok1;clear hok1;go_wp2_with (first
   | (with_reducible show cB 17 50 ..;go_must (refine dF b3 1 7 wR _ _ H3.out (rQ di dh dw aO dx bK bL) ?_))
   | (go_at_call 47;go_must (refine (K7 di dh dw aO dx bK bL _ hq0).mono ?_;rintro e w1 ⟨rfl,hb1⟩;rw [Cm.out];have HB1:=ae hb1;clear hb1))
   | (with_reducible show cB 20 31 ..;go_must (refine dF b2 0 7 fE _ _ (af HB1.out H2.out) (rS g n ta tn tc ma mn mc da dn dc oa on oc ia il ic) ?_))
   | (with_reducible show cB 22 50 ..;go_must (refine dF b3 1 7 wR _ _ (af HB1.out H3.out) (rQ di dh dw aO dx bK bL) ?_))
   | (go_at_call 48;go_must (refine (Wi Pb _ g n ta tn tc ma mn mc da dn dc oa on oc ia il ic di dh dw aO dx bK bL T M D L I (HS.out.later HB1.out) qi.out (by omega) (by omega) (fun k hk=>De k (Nat.le_trans HB1.out.size hk)) Cm.out zW.out).mono ?_;rintro e w3 ⟨xT,xM,xD,xO,xI,L3,rfl,hco,hrs,hbl⟩;have o9:=ae hco;have Yf:=ae hrs;have rG:=ae (ai HB1.out hbl);clear hco hrs hbl;obtain ⟨pr,hpr⟩:∃ pr,pr=(uA (St.mk g n T M D (L.map ax.core) I) (bH.mk di dh dw aO dx bK bL)).2:=⟨_,rfl⟩;rw [← hpr];have HPR:=ae hpr;clear hpr;obtain ⟨Cr,Cs,Ct⟩:=xT;obtain ⟨Cu,Cv,Cw⟩:=xM;obtain ⟨Cx,Cy,Cz⟩:=xD;obtain ⟨CB,CE,CF⟩:=xO;obtain ⟨CG,CJ,CK⟩:=xI;obtain ⟨pc,ps,eZ,pk,pf,pv,pg⟩:=pr;have Yg:=ae (af rG.out H4.out);have Yh:=ae (af rG.out H5.out)))
   | (with_reducible show dJ 31 4 ..;go_must (refine fH b4 0 (rS g n Cr Cs Ct Cu Cv Cw Cx Cy Cz CB CE CF CG CJ CK) 7 dS 31 Yg.out (rS g n Cr Cs Ct Cu Cv Cw Cx Cy Cz CB CE CF CG CJ CK) ?_;intro w8 h9 bJ;have Fh:=ae h9;have pF:=ae bJ;clear h9 bJ))
   | (with_reducible show dJ 57 5 ..;go_must (refine fH b5 0 (rP pc ps eZ pk pf pv pg) 7 bA 57 ((pF.out.block b5 Gp).trans Yh.out) (rP pc ps eZ pk pf pv pg) ?_;intro w9 h9 bJ;have Bq:=ae h9;have pG:=ae bJ;clear h9 bJ)))
  refine bodyPost_ret (v:=.tuple #[.agg (rS g n Cr Cs Ct Cu Cv Cw Cx Cy Cz CB CE CF CG CJ CK).toArray,.agg (rP pc ps eZ pk pf pv pg).toArray]) (mY Tryz.results13 _ _ b4 b5 _ _ _ _ (0,0) (0,0) _ _ rfl ((pG.out.block b4 Gq).trans Fh.out) rfl Bq.out fE rfl (by kernel_rfl) dD rfl (by kernel_rfl)) rfl ?_;have Ym:av Bb w3 w9:=(av.only pF.out zH).trans (av.only pG.out Be);have hall:av Bb W w9:=(av.later rG.out).trans Ym;rw [Bt.out,if_pos Cm.out];exact ⟨⟨Cr,Cs,Ct⟩,⟨Cu,Cv,Cw⟩,⟨Cx,Cy,Cz⟩,⟨CB,CE,CF⟩,⟨CG,CJ,CK⟩,L3,by rw [← HPR.out];rfl,o9.out,(Yf.out.dV hBb Ym).to back,fin _ hall⟩
theorem UL (P:Nat→Prop) (w:World) (g n:Int) (ta:Option Addr) (tn tc:Nat) (ma:Option Addr) (mn mc:Nat) (da:Option Addr) (dn dc:Nat) (oa:Option Addr) (on oc:Nat) (ia:Option Addr) (il ic:Nat) (aG:Int) (di dh dw aO dx bK bL:Int) (aH aK aL bu aW:Int) (aQ:Option Addr) (aX aR:Nat) (aS:Option Addr) (aY aU:Nat) (aN bW:Int) (aI:List Row) (aJ:List ak) (T:List Row) (M:List Pc) (D:List ak) (L:List ax) (I:List Int)
 (hS:ry P w ⟨ta,tn,tc⟩ ⟨ma,mn,mc⟩ ⟨da,dn,dc⟩ ⟨oa,on,oc⟩ ⟨ia,il,ic⟩ T M D L I) (hok:ku (St.mk g n T M D (L.map ax.core) I)) (gY:T.length<490000) (gU:D.length<490000) (hP:∀ k,w.heap.size≤k→¬ P k) (hk1:(aG == 1)=false) (hk2:(aG == 2)=true) (Ll:fT P w ⟨aQ,aX,aR⟩ 2 (aI.map Row.cells)) (G7:fT P w ⟨aS,aY,aU⟩ 7 (aJ.map ak.cells)) (hwf:(aF.mk aH aK aL bu aW ⟨aQ,aX,aR⟩ ⟨aS,aY,aU⟩ aI aJ).wf) :
 Calls Tryz.prog 13 #[.agg (rS g n ta tn tc ma mn mc da dn dc oa on oc ia il ic).toArray,.agg (rC aG di dh dw aO dx bK bL aH aK aL bu aW aQ aX aR aS aY aU aN bW).toArray] w fun e w'=>Cc P w g n (uz (St.mk g n T M D (L.map ax.core) I) (dY.mk aG (bH.mk di dh dw aO dx bK bL) (aF.mk aH aK aL bu aW ⟨aQ,aX,aR⟩ ⟨aS,aY,aU⟩ aI aJ) aN bW)) e w':=by
 obtain ⟨W,hW⟩:∃ W,W=((((w.alloc (.cells (rS g n ta tn tc ma mn mc da dn dc oa on oc ia il ic).toArray 31)).alloc (.cells (rC aG di dh dw aO dx bK bL aH aK aL bu aW aQ aX aR aS aY aU aN bW).toArray 54)).alloc (.cells dS.toArray 31)).alloc (.cells bA.toArray 57)):=⟨_,rfl⟩;obtain ⟨h2,h3,h4,h5,bE,hWs⟩:=NR w (.cells (rS g n ta tn tc ma mn mc da dn dc oa on oc ia il ic).toArray 31) (.cells (rC aG di dh dw aO dx bK bL aH aK aL bu aW aQ aX aR aS aY aU aN bW).toArray 54) (.cells dS.toArray 31) (.cells bA.toArray 57);rw [← hW] at h2 h3 h4 h5 bE hWs;obtain ⟨b5,hb5⟩:∃ b5,w.heap.size+1+1+1=b5:=⟨_,rfl⟩;obtain ⟨b4,hb4⟩:∃ b4,w.heap.size+1+1=b4:=⟨_,rfl⟩;obtain ⟨b3,hb3⟩:∃ b3,w.heap.size+1=b3:=⟨_,rfl⟩;obtain ⟨b2,hb2⟩:∃ b2,w.heap.size=b2:=⟨_,rfl⟩;rw [hb5] at h5;rw [hb4] at h4;rw [hb3] at h3;have h2':W.heap[b2]? = some (.cells (rS g n ta tn tc ma mn mc da dn dc oa on oc ia il ic).toArray 31):=by rw [← hb2];exact h2
 obtain ⟨Bb,hBd⟩:∃ Bb:Nat→Prop,Bb=fun k=>w.heap.size≤k∧k<W.heap.size∧k≠b3:=⟨_,rfl⟩
 obtain ⟨Pb,wF⟩:∃ Pb:Nat→Prop,Pb=fun k=>P k∨(w.heap.size≤k∧k<W.heap.size):=⟨_,rfl⟩
 have hBb:∀ k,Bb k→Pb k:=by intro k hk;rw [hBd] at hk;rw [wF];exact .inr ⟨hk.1,hk.2.1⟩
 have De:∀ k,W.heap.size≤k→¬ Pb k:=by
  intro k hk e;rw [wF] at e;rcases e with e | e
  ·exact hP k (by omega) e
  ·omega
 have sP:Bb b2:=by rw [hBd];refine ⟨?_,?_,?_⟩ <;> omega
 have zH:Bb b4:=by rw [hBd];refine ⟨?_,?_,?_⟩ <;> omega
 have Be:Bb b5:=by rw [hBd];refine ⟨?_,?_,?_⟩ <;> omega
 have G8:¬ Bb b3:=by rw [hBd];exact fun e=>e.2.2 rfl
 have Gp:¬ b5=b4:=by omega
 have Gq:¬ b4=b5:=by omega
 have TP:¬ b4=b2:=by omega
 have TQ:¬ b5=b2:=by omega
 have toP:∀ k,Pb k→P k∨w.heap.size≤k:=by intro k hk;rw [wF] at hk;exact hk.imp id (fun h=>h.1)
 have back:∀ {x:World} k,P k→Pb k∨x.heap.size≤k:=by intro x k hk;rw [wF];exact .inl (.inl hk)
 have fin:∀ w',av Bb W w'→Below w.heap.size w w':=fun w' hc=>bE.trans (hc.below (fun k hk=>⟨by omega,fun e=>by rw [hBd] at e;omega⟩))
 have HS:=ae ((hS.to toP).later bE);have qi:=ae hok;have H2:=ae h2';have H3:=ae h3;have H4:=ae h4;have H5:=ae h5;have dQ:=ae bE;have Br:=ae (And.intro hb2 (And.intro hb3 (And.intro hb4 hb5)));have zW:=ae hwf;have HRW:=ae ((Ll.to toP).later bE);have vk:=ae ((G7.to toP).later bE);have TS:¬ aG=1:=by simpa using hk1
 have hkk:aG=2:=by simpa using hk2
 have Bt:Hid (uz (St.mk g n T M D (L.map ax.core) I) (dY.mk aG (bH.mk di dh dw aO dx bK bL) (aF.mk aH aK aL bu aW ⟨aQ,aX,aR⟩ ⟨aS,aY,aU⟩ aI aJ) aN bW)=(if (aF.mk aH aK aL bu aW ⟨aQ,aX,aR⟩ ⟨aS,aY,aU⟩ aI aJ).ok=true then zG (St.mk g n T M D (L.map ax.core) I) (aF.mk aH aK aL bu aW ⟨aQ,aX,aR⟩ ⟨aS,aY,aU⟩ aI aJ).core else (St.mk g n T M D (L.map ax.core) I),qX)):=ae (by unfold uz;rw [if_neg TS,if_pos hkk]);clear h2 h2' h3 h4 h5 bE hWs hS hok hb2 hb3 hb4 hb5 hwf hkk TS Ll G7;go_enter Tryz.func13,Tryz.ntmps13
 go_upto_region 1 with fail
 rw [← hW];clear hW;obtain ⟨hb2,hb3,hb4,hb5⟩:=Br.out;rw [hb5,hb4,hb3,hb2];clear hb2 hb3 hb4 hb5;have hc0:W.cell? ⟨b3,0,none⟩=some (.int .u8 aG):=ah H3.out 0;cases hok1:(aF.mk aH aK aL bu aW ⟨aQ,aX,aR⟩ ⟨aS,aY,aU⟩ aI aJ).ok with
 | false =>
  have Cm:=ae hok1;clear hok1;go_upto_region 22 with (first
   | (with_reducible show cB 29 52 ..;go_must (refine dF b3 8 7 qD _ _ H3.out (rR aH aK aL bu aW aQ aX aR aS aY aU) ?_))
   | (go_at_call 49;go_must (refine (Ra aH aK aL bu aW aQ aX aR aS aY aU aI aJ _ HRW.out.at_ vk.out.at_ zW.out).mono ?_;rintro e w1 ⟨rfl,hb1⟩;rw [Cm.out];have HB1:=ae hb1;clear hb1)))
  go_wp2_with (first
   | (with_reducible show cB 90 31 ..;go_must (refine dF b2 0 7 fE _ _ (af HB1.out H2.out) (rS g n ta tn tc ma mn mc da dn dc oa on oc ia il ic) ?_))
   | (with_reducible show dJ 31 4 ..;go_must (refine fH b4 0 (rS g n ta tn tc ma mn mc da dn dc oa on oc ia il ic) 7 dS 31 (af HB1.out H4.out) (rS g n ta tn tc ma mn mc da dn dc oa on oc ia il ic) ?_;intro w8 h9 bJ;have Fh:=ae h9;have pF:=ae bJ;clear h9 bJ))
   | (with_reducible show dJ 57 5 ..;go_must (refine fH b5 0 bA 7 bA 57 ((pF.out.block b5 Gp).trans (af HB1.out H5.out)) bA ?_;intro w9 h9 bJ;have Bq:=ae h9;have pG:=ae bJ;clear h9 bJ)))
  refine bodyPost_ret (v:=.tuple #[.agg (rS g n ta tn tc ma mn mc da dn dc oa on oc ia il ic).toArray,.agg bA.toArray]) (mY Tryz.results13 _ _ b4 b5 _ _ _ _ (0,0) (0,0) _ _ rfl ((pG.out.block b4 Gq).trans Fh.out) rfl Bq.out fE rfl (by kernel_rfl) dD rfl (by kernel_rfl)) rfl ?_;have hall:av Bb W w9:=((av.later HB1.out).trans ((av.only pF.out zH).trans (av.only pG.out Be)));rw [Bt.out,Cm.out,if_neg (by simp)];exact ⟨⟨ta,tn,tc⟩,⟨ma,mn,mc⟩,⟨da,dn,dc⟩,⟨oa,on,oc⟩,⟨ia,il,ic⟩,L,rfl,rfl,((HS.out.dV hBb hall).to back),fin _ hall⟩
 | true =>
  have Cm:=ae hok1;clear hok1;go_upto_region 22 with (first
   | (with_reducible show cB 29 52 ..;go_must (refine dF b3 8 7 qD _ _ H3.out (rR aH aK aL bu aW aQ aX aR aS aY aU) ?_))
   | (go_at_call 49;go_must (refine (Ra aH aK aL bu aW aQ aX aR aS aY aU aI aJ _ HRW.out.at_ vk.out.at_ zW.out).mono ?_;rintro e w1 ⟨rfl,hb1⟩;rw [Cm.out];have HB1:=ae hb1;clear hb1))
   | (with_reducible show cB 32 31 ..;go_must (refine dF b2 0 7 fE _ _ (af HB1.out H2.out) (rS g n ta tn tc ma mn mc da dn dc oa on oc ia il ic) ?_))
   | (with_reducible show cB 34 52 ..;go_must (refine dF b3 8 7 qD _ _ (af HB1.out H3.out) (rR aH aK aL bu aW aQ aX aR aS aY aU) ?_))
   | (go_at_call 50;go_must (refine (UK Pb _ g n ta tn tc ma mn mc da dn dc oa on oc ia il ic aH aK aL bu aW aQ aX aR aS aY aU aI aJ T M D L I (HS.out.later HB1.out) (HRW.out.later HB1.out) (vk.out.later HB1.out) qi.out gY gU (fun k hk=>De k (Nat.le_trans HB1.out.size hk)) Cm.out zW.out).mono ?_;rintro e w3 ⟨xT,xM,xD,xO,xI,L3,rfl,hco,hrs,hbl⟩;have o9:=ae hco;have Yf:=ae hrs;have rG:=ae (ai HB1.out hbl);clear hco hrs hbl;obtain ⟨Cr,Cs,Ct⟩:=xT;obtain ⟨Cu,Cv,Cw⟩:=xM;obtain ⟨Cx,Cy,Cz⟩:=xD;obtain ⟨CB,CE,CF⟩:=xO;obtain ⟨CG,CJ,CK⟩:=xI;have Yg:=ae (af rG.out H4.out);have Yh:=ae (af rG.out H5.out)))
   | (with_reducible show dJ 31 2 ..;go_must (refine fH b2 0 (rS g n Cr Cs Ct Cu Cv Cw Cx Cy Cz CB CE CF CG CJ CK) 7 (rS g n ta tn tc ma mn mc da dn dc oa on oc ia il ic) 31 (af rG.out H2.out) (rS g n Cr Cs Ct Cu Cv Cw Cx Cy Cz CB CE CF CG CJ CK) ?_;intro w7 h9 bJ;have HS7:=ae h9;have HN7:=ae bJ;clear h9 bJ)))
  go_wp2_with (first
   | (with_reducible show cB 90 31 ..;go_must (refine dF b2 0 7 fE _ _ HS7.out (rS g n Cr Cs Ct Cu Cv Cw Cx Cy Cz CB CE CF CG CJ CK) ?_))
   | (with_reducible show dJ 31 4 ..;go_must (refine fH b4 0 (rS g n Cr Cs Ct Cu Cv Cw Cx Cy Cz CB CE CF CG CJ CK) 7 dS 31 ((HN7.out.block b4 TP).trans Yg.out) (rS g n Cr Cs Ct Cu Cv Cw Cx Cy Cz CB CE CF CG CJ CK) ?_;intro w8 h9 bJ;have Fh:=ae h9;have pF:=ae bJ;clear h9 bJ))
   | (with_reducible show dJ 57 5 ..;go_must (refine fH b5 0 bA 7 bA 57 ((pF.out.block b5 Gp).trans ((HN7.out.block b5 TQ).trans Yh.out)) bA ?_;intro w9 h9 bJ;have Bq:=ae h9;have pG:=ae bJ;clear h9 bJ)))
  refine bodyPost_ret (v:=.tuple #[.agg (rS g n Cr Cs Ct Cu Cv Cw Cx Cy Cz CB CE CF CG CJ CK).toArray,.agg bA.toArray]) (mY Tryz.results13 _ _ b4 b5 _ _ _ _ (0,0) (0,0) _ _ rfl ((pG.out.block b4 Gq).trans Fh.out) rfl Bq.out fE rfl (by kernel_rfl) dD rfl (by kernel_rfl)) rfl ?_;have Ym:av Bb w3 w9:=((av.only HN7.out sP).trans (av.only pF.out zH)).trans (av.only pG.out Be);have hall:av Bb W w9:=(av.later rG.out).trans Ym;rw [Bt.out,if_pos Cm.out];exact ⟨⟨Cr,Cs,Ct⟩,⟨Cu,Cv,Cw⟩,⟨Cx,Cy,Cz⟩,⟨CB,CE,CF⟩,⟨CG,CJ,CK⟩,L3,rfl,o9.out,(Yf.out.dV hBb Ym).to back,fin _ hall⟩
end
end Go.Proofs.YtignemioillaiaaGreat
