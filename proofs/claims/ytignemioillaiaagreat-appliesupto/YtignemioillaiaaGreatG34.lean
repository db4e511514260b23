/- The document: Apply: Settle. -/
import Derived.Test.YtignemioillaiaaGreatG33
namespace Go.Proofs.YtignemioillaiaaGreat
set_option maxHeartbeats 8000000
set_option maxRecDepth 100000
section
open Go.RowKit Go.Lib
theorem ab6 (P:Nat→Prop) (w:World) (g n:Int) (ta:Option Addr) (tn tc:Nat) (ma:Option Addr) (mn mc:Nat) (da:Option Addr) (dn dc:Nat) (oa:Option Addr) (on oc:Nat) (ia:Option Addr) (il ic:Nat) (aG:Int) (di dh dw aO dx bK bL:Int) (aH aK aL bu aW:Int) (aQ:Option Addr) (aX aR:Nat) (aS:Option Addr) (aY aU:Nat) (aN bW:Int) (aI:List Row) (aJ:List ak) (T:List Row) (M:List Pc) (D:List ak) (L:List ax) (I:List Int)
 (hS:ry P w ⟨ta,tn,tc⟩ ⟨ma,mn,mc⟩ ⟨da,dn,dc⟩ ⟨oa,on,oc⟩ ⟨ia,il,ic⟩ T M D L I) (hok:ku (St.mk g n T M D (L.map ax.core) I)) (_hlT:T.length<490000) (_hlD:D.length<490000) (hP:∀ k,w.heap.size≤k→¬ P k) (hk1:(aG == 1)=false) (hk2:(aG == 2)=false) (hk3:(aG == 3)=true) (hp0:0≤aN) (hlL:∀ l∈L,l.q.length<900000) :
 Calls Tryz.prog 13 #[.agg (rS g n ta tn tc ma mn mc da dn dc oa on oc ia il ic).toArray,.agg (rC aG di dh dw aO dx bK bL aH aK aL bu aW aQ aX aR aS aY aU aN bW).toArray] w fun e w'=>Cc P w g n (uz (St.mk g n T M D (L.map ax.core) I) (dY.mk aG (bH.mk di dh dw aO dx bK bL) (aF.mk aH aK aL bu aW ⟨aQ,aX,aR⟩ ⟨aS,aY,aU⟩ aI aJ) aN bW)) e w':=by
 obtain ⟨W,hW⟩:∃ W,W=((((w.alloc (.cells (rS g n ta tn tc ma mn mc da dn dc oa on oc ia il ic).toArray 31)).alloc (.cells (rC aG di dh dw aO dx bK bL aH aK aL bu aW aQ aX aR aS aY aU aN bW).toArray 54)).alloc (.cells dS.toArray 31)).alloc (.cells bA.toArray 57)):=⟨_,rfl⟩;obtain ⟨h2,h3,h4,h5,bE,hWs⟩:=NR w (.cells (rS g n ta tn tc ma mn mc da dn dc oa on oc ia il ic).toArray 31) (.cells (rC aG di dh dw aO dx bK bL aH aK aL bu aW aQ aX aR aS aY aU aN bW).toArray 54) (.cells dS.toArray 31) (.cells bA.toArray 57);rw [← hW] at h2 h3 h4 h5 bE hWs;obtain ⟨b5,hb5⟩:∃ b5,w.heap.size+1+1+1=b5:=⟨_,rfl⟩;obtain ⟨b4,hb4⟩:∃ b4,w.heap.size+1+1=b4:=⟨_,rfl⟩;obtain ⟨b3,hb3⟩:∃ b3,w.heap.size+1=b3:=⟨_,rfl⟩;obtain ⟨b2,hb2⟩:∃ b2,w.heap.size=b2:=⟨_,rfl⟩;rw [hb5] at h5;rw [hb4] at h4;rw [hb3] at h3;have h2':W.heap[b2]? = some (.cells (rS g n ta tn tc ma mn mc da dn dc oa on oc ia il ic).toArray 31):=by rw [← hb2];exact h2
 obtain ⟨Bb,hBd⟩:∃ Bb:Nat→Prop,Bb=fun k=>w.heap.size≤k∧k<W.heap.size∧k≠b3:=⟨_,rfl⟩
 obtain ⟨Pb,wF⟩:∃ Pb:Nat→Prop,Pb=fun k=>P k∨(w.heap.size≤k∧k<W.heap.size):=⟨_,rfl⟩
 have hBb:∀ k,Bb k→Pb k:=by intro k hk;rw [hBd] at hk;rw [wF];exact .inr ⟨hk.1,hk.2.1⟩
 have De:∀ k,W.heap.size≤k→¬ Pb k:=by
  intro k hk e;rw [wF] at e;rcases e with e | e
  ·exact hP k (by omega) e
  ·omega
 have sP:Bb b2:=by rw [hBd];refine ⟨?_,?_,?_⟩ <;> omega
 have zH:Bb b4:=by rw [hBd];refine ⟨?_,?_,?_⟩ <;> omega
 have Be:Bb b5:=by rw [hBd];refine ⟨?_,?_,?_⟩ <;> omega
 have G8:¬ Bb b3:=by rw [hBd];exact fun e=>e.2.2 rfl
 have Gp:¬ b5=b4:=by omega
 have Gq:¬ b4=b5:=by omega
 have TP:¬ b4=b2:=by omega
 have TQ:¬ b5=b2:=by omega
 have toP:∀ k,Pb k→P k∨w.heap.size≤k:=by intro k hk;rw [wF] at hk;exact hk.imp id (fun h=>h.1)
 have back:∀ {x:World} k,P k→Pb k∨x.heap.size≤k:=by intro x k hk;rw [wF];exact .inl (.inl hk)
 have fin:∀ w',av Bb W w'→Below w.heap.size w w':=fun w' hc=>bE.trans (hc.below (fun k hk=>⟨by omega,fun e=>by rw [hBd] at e;omega⟩))
 have HS:=ae ((hS.to toP).later bE);have qi:=ae hok;have H2:=ae h2';have H3:=ae h3;have H4:=ae h4;have H5:=ae h5;have dQ:=ae bE;have Br:=ae (And.intro hb2 (And.intro hb3 (And.intro hb4 hb5)));have TS:¬ aG=1:=by simpa using hk1
 have aen:¬ aG=2:=by simpa using hk2
 have hkk:aG=3:=by simpa using hk3
 have aim:¬ b3=b2:=by omega
 have zw:Hid ((L.length:Int)=n∧n≤4):=ae ⟨by simpa using hok.ol,hok.n4⟩;have Bt:Hid (uz (St.mk g n T M D (L.map ax.core) I) (dY.mk aG (bH.mk di dh dw aO dx bK bL) (aF.mk aH aK aL bu aW ⟨aQ,aX,aR⟩ ⟨aS,aY,aU⟩ aI aJ) aN bW)=(qU (St.mk g n T M D (L.map ax.core) I) aN bW,qX)):=ae (by unfold uz;rw [if_neg TS,if_neg aen,if_pos hkk]);clear h2 h2' h3 h4 h5 bE hWs hS hok hb2 hb3 hb4 hb5 hkk TS aen;go_enter Tryz.func13,Tryz.ntmps13
 go_upto_region 1 with fail
 rw [← hW];clear hW;obtain ⟨hb2,hb3,hb4,hb5⟩:=Br.out;rw [hb5,hb4,hb3,hb2];clear hb2 hb3 hb4 hb5;have hc0:W.cell? ⟨b3,0,none⟩=some (.int .u8 aG):=ah H3.out 0;by_cases hpn:aN<n
 ·have hdp:decide (aN<n)=true:=by simp [hpn]
  obtain ⟨j,hj⟩:∃ j:Nat,aN=(j:Int):=⟨aN.toNat,by omega⟩;have hjl:j<L.length:=by have:=zw.out;omega
  obtain ⟨⟨bz,⟨eG,eP,eQ⟩,lq⟩,hl⟩:∃ l,L[j]? = some l:=⟨L[j]'hjl,by simp⟩;have A8:=ae hl;have ain:Hid (qJ (L.map ax.core) aN=(bz,lq.map aF.core)):=ae (by rw [hj,Jz hl];rfl);obtain ⟨ob,oo,hoa,Jc,hox⟩:=HS.out.o.at_.el (i:=j) (x:=(ax.mk bz ⟨eG,eP,eQ⟩ lq).cells) (by simp [hl]);obtain rfl:oa=some ⟨ob,oo,none⟩:=hoa;have hx1:W.cell? ⟨ob,oo+j*2+1,none⟩=some (.slice eG eP eQ):=hox 1 _ rfl;have HX0:Hid (W.cell? ⟨ob,oo+j*2,none⟩=some (.int .u32 bz)):=ae (by simpa using hox 0 _ rfl);have FE:Hid (ob<W.heap.size):=ae Jc;have hon:on=L.length:=HS.out.o.len;have TT:=ae (HS.out.ln _ (List.mem_of_getElem? hl));have Vh:Hid (eP=lq.length):=ae TT.out.q.len;have HQM:Hid (eP≤maxLen):=ae (Nat.le_trans TT.out.q.at_.le TT.out.q.at_.max);have hqm:=HQM.out;unfold maxLen at hqm;have hlq:lq.length<900000:=hlL _ (List.mem_of_getElem? hl);have hi1:(0:Int)≤(j:Int):=by omega
  have hi2:(j:Int)<(on:Int):=by omega
  have HE2:Hid (uz (St.mk g n T M D (L.map ax.core) I) (dY.mk aG (bH.mk di dh dw aO dx bK bL) (aF.mk aH aK aL bu aW ⟨aQ,aX,aR⟩ ⟨aS,aY,aU⟩ aI aJ) aN bW)=(qU (St.mk g n T M D (L.map ax.core) I) aN bW,qX)):=Bt;subst hj;have Me:W.cell? ⟨b3,15,none⟩=some (.int .u8 (j:Int)):=ah H3.out 15;have hd1:W.cell? ⟨b2,1,none⟩=some (.int .u8 n):=ah H2.out 1;have hd5:W.cell? ⟨b2,5,none⟩=some (.slice (some ⟨ob,oo,none⟩) on oc):=ah H2.out 5;obtain ⟨i0,hi0,hz0,hz1,hz2⟩:=info_parts Ch;clear hox hl hon Jc Bt;go_upto_region 14 with fail
  clear hc0 Me hd1 hd5 hx1;go_wp2_with fail
  go_loopw [8,10] (fun q i wr=>∃ (k:Nat) (vb:Value),vb=q∧k≤eP∧i=.int .i64 k∧Hid (wr.ownsRow W.heap.size 52 7 vb ((lq.take k).filter (fun r=>decide (bW<r.seq))).length (((lq.take k).filter (fun r=>decide (bW<r.seq))).map aF.cells).flatten)∧Hid (Below W.heap.size W wr)) (fun _ i _=>eP - (intOf i).toNat)
  case atStart=>exact ⟨0,_,rfl,Nat.zero_le _,rfl,World.ownsRow_nil _ _ _ _,Below.refl _ _⟩
  case round =>
   obtain ⟨k,vb,rfl,hk,rfl,HO,bV⟩:=hrel;have SQ:Hid (((lq.take k).filter (fun r=>decide (bW<r.seq))).length<900000):=ae (by
    have h1:=List.length_filter_le (fun r:aF=>decide (bW<r.seq)) (lq.take k);have h2:(lq.take k).length≤lq.length:=by rw [List.length_take];exact Nat.min_le_right _ _
    omega)
   by_cases hlt:k<eP
   ·have hdk:decide ((k:Int)<(eP:Int))=true:=by simp;omega
    obtain ⟨x,hx⟩:∃ x,lq[k]? = some x:=⟨lq[k]'(by rw [← Vh.out];exact hlt),by simp⟩;obtain ⟨qb,qo,hqa,hqb,hqc⟩:=(TT.out.q.later bV.out).at_.el (i:=k) (x:=x.cells) (by simp [hx]);obtain rfl:eG=some ⟨qb,qo,none⟩:=hqa;have Vn:=ae hx;clear hx;obtain ⟨Mf,Mg,IG,TU,TV,⟨JP,JQ,JR⟩,⟨JS,JU,JV⟩,Wl,Wm⟩:=x;have xS:Hid (∀ (i:Nat) (u:Value),(rR Mf Mg IG TU TV JP JQ JR JS JU JV)[i]? = some u→wr.cell? ⟨qb,qo+k*7+i,none⟩=some u):=ae hqc;have hs2:wr.cell? ⟨qb,qo+k*7+2,none⟩=some (.int .u32 IG):=hqc 2 _ rfl;have hc16:wr.cell? ⟨b3,16,none⟩=some (.int .u32 bW):=ah (af bV.out H3.out) 16;have hi3:(0:Int)≤(k:Int):=by omega
    have hi4:(k:Int)<(eP:Int):=by omega
    clear hqc;cases hgt:decide (bW<IG) with
    | true =>
     go_upto_region 17 with fail
     go_quiet (fail)
     have HB2:Hid (Below W.heap.size W (wr.drewN nq)):=ae (below_drewN bV.out _);have dZ:Hid ((wr.drewN nq).ownsRow W.heap.size 52 7 vb ((lq.take k).filter (fun r=>decide (bW<r.seq))).length (((lq.take k).filter (fun r=>decide (bW<r.seq))).map aF.cells).flatten):=ae (ay HO.out (below_drewN (Below.refl _ _) _));have wu:Hid (∀ (i:Nat) (u:Value),(rR Mf Mg IG TU TV JP JQ JR JS JU JV)[i]? = some u→(wr.drewN nq).cell? ⟨qb,qo+k*7+i,none⟩=some u):=xS;generalize wr.drewN nq=y0 at HB2 dZ wu;clear hs2 hc16;go_wp2_with (first
      | (with_reducible show cB 68 52 ..;go_must (refine bB rfl _ _ rfl qb (qo+k*7) rfl 7 _ qD rfl (by kernel_rfl) (rR Mf Mg IG TU TV JP JQ JR JS JU JV) rfl wu.out ?_))
      | (at_builtin;go_must (refine aZ _ rfl _ _ 101 rfl W.heap.size 52 i0 (.agg Fz.toArray) 7 72 Hr hi0 hz0 hz1 hz2 rfl (by decide) vb _ _ rfl (ay dZ.out (aj y0 _)) ⟨y0.heap.size,0,none⟩ 1 1 (rR Mf Mg IG TU TV JP JQ JR JS JU JV) rfl rfl (cu rfl) (cz rfl) (by have:=SQ.out;unfold maxLen;omega) (by have:=SQ.out;omega) (by have:=HB2.out.size;simp;omega) ?_;intro v5 y1 lF hg5;have fu:Hid (Below W.heap.size W y1):=ae (dO (ai HB2.out (aj y0 _)) hg5 (fun i hi=>(dZ.out.lt i hi).1));have ru:=ae (kZ (cf:=aF.cells) (x:=((lq.take k).filter (fun r=>decide (bW<r.seq)))) (y:=(aF.mk Mf Mg IG TU TV ⟨JP,JQ,JR⟩ ⟨JS,JU,JV⟩ Wl Wm)) lF);clear lF hg5)))
     go_roundw
     case rel =>
      refine ⟨k+1,v5,rfl,by omega,by go_num,?_,fu⟩;have e:((lq.take (k+1)).filter (fun r=>decide (bW<r.seq)))=((lq.take k).filter (fun r=>decide (bW<r.seq)))++[(aF.mk Mf Mg IG TU TV ⟨JP,JQ,JR⟩ ⟨JS,JU,JV⟩ Wl Wm)]:=by
       rw [List.take_add_one,Vn.out,Option.toList_some,List.filter_append,List.filter_cons];simp only [hgt,if_true,List.filter_nil]
      rw [e];exact ru
     case measure=>simp [intOf];omega
    | false =>
     go_upto_region 17 with fail
     go_quiet (fail)
     clear hs2 hc16;go_wp2_with fail
     go_roundw
     case rel =>
      refine ⟨k+1,vb,rfl,by omega,by go_num,?_,ae (below_drewN bV.out _)⟩;have e:((lq.take (k+1)).filter (fun r=>decide (bW<r.seq)))=((lq.take k).filter (fun r=>decide (bW<r.seq))):=by
       rw [List.take_add_one,Vn.out,Option.toList_some,List.filter_append,List.filter_cons];simp [hgt]
      rw [e];exact ay HO.out (below_drewN (Below.refl _ _) _)
     case measure=>simp [intOf];omega
   ·have hdk:decide ((k:Int)<(eP:Int))=false:=by simp;omega
    have L8:lq.take k=lq:=List.take_of_length_le (by have:=Vh.out;omega);rw [L8] at HO;clear L8;obtain ⟨⟨va,vn,vc⟩,hv1,hr1⟩:=eH (P:=Pb) De HO.out (fun _=>rfl);have nR:vb=.slice va vn vc:=hv1;subst nR;have HRV:=ae hr1;clear hv1 hr1;have hy0:wr.cell? ⟨ob,oo+j*2,none⟩=some (.int .u32 bz):=(bV.out.cell (p:=⟨ob,oo+j*2,none⟩) FE.out).trans HX0.out;have Me:wr.cell? ⟨b3,15,none⟩=some (.int .u8 (j:Int)):=ah (af bV.out H3.out) 15;have hd5:wr.cell? ⟨b2,5,none⟩=some (.slice (some ⟨ob,oo,none⟩) on oc):=ah (af bV.out H2.out) 5;have hLp:0<L.length:=by omega
    have hll:L.length<1000000:=by have:=zw.out;omega
    have HOr:=ae (HS.out.o.later bV.out);go_upto_region 21 with (first
     | (go_at_call 51;go_must (refine (PH Pb _ (some ⟨ob,oo,none⟩) on oc L HOr.out hll).mono ?_;rintro e y1 ⟨v1,rfl,ho1,hb1⟩;have HB1:=ae hb1;have HOL:=ae ho1;clear ho1 hb1;obtain ⟨gl,cl,cur,hvl,hbl,hgl,hnl,hcl,ZL,ZM,htk,hxl,hput⟩:=kS HOL.out hLp;subst hvl;have HGL:=ae hgl;have Bo:=ae htk;have TD:=ae hput;have TE:=ae hnl;have rG:=ae hbl;clear hgl htk hput hnl hcl ZL ZM hxl hbl))
     | (with_reducible show dJ 28 81 ..;go_must (refine oZ b2 5 (.slice (some ⟨gl,0,none⟩) L.length cl) (rS g n ta tn tc ma mn mc da dn dc (some ⟨ob,oo,none⟩) on oc ia il ic) 31 (af HB1.out (af bV.out H2.out)) (rS g n ta tn tc ma mn mc da dn dc (some ⟨gl,0,none⟩) L.length cl ia il ic) ?_;intro y2 h9 bJ;have HS2:=ae h9;have dL:=ae bJ;clear h9 bJ)))
    clear hy0 Me hd5;have hz2':b2<wr.heap.size:=(df (af bV.out H2.out));have alX:b3<wr.heap.size:=(df (af bV.out H3.out));have alY:b4<wr.heap.size:=(df (af bV.out H4.out));have alZ:b5<wr.heap.size:=(df (af bV.out H5.out));have hbl:=rG.out;have aio:gl≠b2:=by omega
    have aip:¬ b2=gl:=by omega
    have aiq:¬ b4=gl:=by omega
    have air:¬ b5=gl:=by omega
    have hgg:wr.heap.size≤gl:=hbl;clear hbl;have ZN:=ae ((dL.out.block gl aio).trans HGL.out);have CW:Hid (Nat.ble (j*2+2) cur.length=true):=by show _=_;have:=TE.out;simp [Nat.ble_eq];omega
    have hi5:(j:Int)<(L.length:Int):=by omega
    have hd5:y2.cell? ⟨b2,5,none⟩=some (.slice (some ⟨gl,0,none⟩) L.length cl):=ah HS2.out 5;have Me:y2.cell? ⟨b3,15,none⟩=some (.int .u8 (j:Int)):=ah ((dL.out.block b3 aim).trans (af HB1.out (af bV.out H3.out))) 15;go_upto_region 22 with (first
     | (with_reducible show dJ 103 89 ..;go_must (refine eu rfl _ _ _ rfl rfl gl (j*2) rfl [.int .u32 bz,.slice va vn vc] rfl 2 (by kernel_rfl) rfl rfl cur 103 ZN.out CW.out _ rfl ?_;intro y3 h9 bJ;have uF:=ae h9;have KY:=ae bJ;clear h9 bJ)))
    clear hd5 Me;have HP2:=ae ((KY.out.block b2 aip).trans HS2.out);have HP4:=ae ((KY.out.block b4 aiq).trans ((dL.out.block b4 TP).trans (af HB1.out (af bV.out H4.out))));have XI:=ae ((KY.out.block b5 air).trans ((dL.out.block b5 TQ).trans (af HB1.out (af bV.out H5.out))));go_wp2_with (first
     | (with_reducible show cB 90 31 ..;go_must (refine dF b2 0 7 fE _ _ HP2.out (rS g n ta tn tc ma mn mc da dn dc (some ⟨gl,0,none⟩) L.length cl ia il ic) ?_))
     | (with_reducible show dJ 31 4 ..;go_must (refine fH b4 0 (rS g n ta tn tc ma mn mc da dn dc (some ⟨gl,0,none⟩) L.length cl ia il ic) 7 dS 31 HP4.out (rS g n ta tn tc ma mn mc da dn dc (some ⟨gl,0,none⟩) L.length cl ia il ic) ?_;intro w8 h9 bJ;have Fh:=ae h9;have pF:=ae bJ;clear h9 bJ))
     | (with_reducible show dJ 57 5 ..;go_must (refine fH b5 0 bA 7 bA 57 ((pF.out.block b5 Gp).trans XI.out) bA ?_;intro w9 h9 bJ;have Bq:=ae h9;have pG:=ae bJ;clear h9 bJ)))
    refine bodyPost_ret (v:=.tuple #[.agg (rS g n ta tn tc ma mn mc da dn dc (some ⟨gl,0,none⟩) L.length cl ia il ic).toArray,.agg bA.toArray]) (mY Tryz.results13 _ _ b4 b5 _ _ _ _ (0,0) (0,0) _ _ rfl ((pG.out.block b4 Gq).trans Fh.out) rfl Bq.out fE rfl (by kernel_rfl) dD rfl (by kernel_rfl)) rfl ?_;obtain ⟨Pg,TG⟩:∃ Pg:Nat→Prop,Pg=fun k=>Pb k∨k=gl:=⟨_,rfl⟩
    obtain ⟨Bg,hBg⟩:∃ Bg:Nat→Prop,Bg=fun k=>Bb k∨k=gl:=⟨_,rfl⟩
    have ZO:∀ k,Bg k→Pg k:=by intro k hk;rw [hBg] at hk;rw [TG];exact hk.imp (hBb k) id
    have ais:Bg b2:=by rw [hBg];exact .inl sP
    have ZP:Bg gl:=by rw [hBg];exact .inr rfl
    have Yb:Hid (av Bg wr y3):=ae (((av.later HB1.out).trans (av.only dL.out ais)).trans (av.only KY.out ZP));have TH:Hid (av Bb y3 w9):=ae ((av.only pF.out zH).trans (av.only pG.out Be));have Lg:∀ k,Pg k→Pb k∨wr.heap.size≤k:=by
     intro k hk;rw [TG] at hk;rcases hk with hk | hk
     ·exact .inl hk
     ·exact .inr (by omega)
    have to2:∀ k,Pb k→Pg k∨y3.heap.size≤k:=by intro k hk;rw [TG];exact .inl (.inl hk)
    have aeo:=bV.out.size;have XM:w9.ownsRow wr.heap.size 103 2 (.slice (some ⟨gl,0,none⟩) L.length cl) (L.set j (ax.mk bz ⟨va,vn,vc⟩ (lq.filter (fun r=>decide (bW<r.seq))))).length ((L.set j (ax.mk bz ⟨va,vn,vc⟩ (lq.filter (fun r=>decide (bW<r.seq))))).map ax.cells).flatten:=by
     have e0:cur.take (j*2)++[Value.int .u32 bz,.slice va vn vc]++cur.drop (j*2+2)=splice cur (j*2) ((ax.mk bz ⟨va,vn,vc⟩ (lq.filter (fun r=>decide (bW<r.seq))))).cells:=by unfold splice;rw [List.append_assoc];rfl
     have h1:=uF.out;rw [e0] at h1;have hl2:(splice cur (j*2) ((ax.mk bz ⟨va,vn,vc⟩ (lq.filter (fun r=>decide (bW<r.seq))))).cells).length=cur.length:=Lf (by have:=TE.out;simp [ax.cells];omega);have h2:=TD.out y3 _ hl2 h1;rw [z8 cur _ _ _ _ Bo.out TE.out (by simp [ax.cells];omega),← DD zu L j (ax.mk bz ⟨va,vn,vc⟩ (lq.filter (fun r=>decide (bW<r.seq)))) hjl] at h2;rw [List.length_set];exact dB h2 TH.out (fun k hk hPk=>De k (Nat.le_trans aeo (h2.lt k hk).1) (hBb k hPk))
    obtain ⟨⟨NJ,NK,NL⟩,hv,hr2⟩:=eH (P:=Pb) (fun k hk=>De k (Nat.le_trans aeo hk)) XM (fun _=>rfl);have hv':Value.slice (some ⟨gl,0,none⟩) L.length cl=.slice NJ NK NL:=hv;injection hv' with q1 q2 q3;subst q1 q2 q3;have bring:∀ {s:Sl} {size:Nat} {xs:List (List Value)},fT Pb wr s size xs→fT Pb w9 s size xs:=fun h=>(((h.to Lg).dV ZO Yb.out).to to2).dV hBb TH.out
    have JO:∀ {r:aF},FU Pb wr r→FU Pb w9 r:=fun h=>⟨bring h.rows,bring h.bP⟩
    have hSr:=HS.out.later bV.out;have hall:av Bb W w9:=((av.later bV.out).trans' Yb.out (fun k hk h=>by rw [hBg] at h;rcases h with h | h;exact h;exact absurd h (by omega))).trans TH.out;have eS:qU (St.mk g n T M D (L.map ax.core) I) (j:Int) bW=St.mk g n T M D ((L.map ax.core).set j (bz,keepR bW (lq.map aF.core))) I:=by
     unfold qU;rw [if_pos hpn];show St.mk g n T M D _ I=_;rw [ain.out];rfl
    rw [HE2.out,eS];refine ⟨⟨ta,tn,tc⟩,⟨ma,mn,mc⟩,⟨da,dn,dc⟩,⟨some ⟨gl,0,none⟩,L.length,cl⟩,⟨ia,il,ic⟩,L.set j (ax.mk bz ⟨va,vn,vc⟩ (lq.filter (fun r=>decide (bW<r.seq)))),rfl,?_,⟨(bring hSr.t).to back,(bring hSr.m).to back,(bring hSr.d).to back,hr2.to back,(bring hSr.i).to back,fun l hl=>?_⟩,fin _ hall⟩
    ·rw [List.map_set]
     have e:(((lq.filter (fun r=>decide (bW<r.seq)))).map aF.core)=keepR bW (lq.map aF.core):=by
      unfold keepR;rw [List.filter_map];congr 1
      apply List.filter_congr
      intro r _;show decide (bW<r.seq) = !decide (r.seq≤bW);by_cases h:r.seq≤bW
      ·have h2:¬ bW<r.seq:=by omega
       simp [h,h2]
      ·have h2:bW<r.seq:=by omega
       simp [h,h2]
     show _=(L.map ax.core).set j (bz,keepR bW (lq.map aF.core));rw [← e];rfl
    ·rcases TB hl with rfl | hl
     ·refine ⟨(bring HRV.out).to back,fun r hr=>?_⟩
      exact (JO ((TT.out.later bV.out).rg r (List.mem_filter.1 hr).1)).to back
     ·have hN:=hSr.ln l hl
      exact ⟨(bring hN.q).to back,fun r hr=>(JO (hN.rg r hr)).to back⟩
 ·have hdp:decide (aN<n)=false:=by simp;omega
  have HE3:Hid (uz (St.mk g n T M D (L.map ax.core) I) (dY.mk aG (bH.mk di dh dw aO dx bK bL) (aF.mk aH aK aL bu aW ⟨aQ,aX,aR⟩ ⟨aS,aY,aU⟩ aI aJ) aN bW)=((St.mk g n T M D (L.map ax.core) I),qX)):=ae (by rw [Bt.out];unfold qU;rw [if_neg hpn]);have Me:W.cell? ⟨b3,15,none⟩=some (.int .u8 aN):=ah H3.out 15;have hd1:W.cell? ⟨b2,1,none⟩=some (.int .u8 n):=ah H2.out 1;clear Bt;go_upto_region 22 with fail
  clear hc0 Me hd1;go_wp2_with (first
   | (with_reducible show cB 90 31 ..;go_must (refine dF b2 0 7 fE _ _ H2.out (rS g n ta tn tc ma mn mc da dn dc oa on oc ia il ic) ?_))
   | (with_reducible show dJ 31 4 ..;go_must (refine fH b4 0 (rS g n ta tn tc ma mn mc da dn dc oa on oc ia il ic) 7 dS 31 H4.out (rS g n ta tn tc ma mn mc da dn dc oa on oc ia il ic) ?_;intro w8 h9 bJ;have Fh:=ae h9;have pF:=ae bJ;clear h9 bJ))
   | (with_reducible show dJ 57 5 ..;go_must (refine fH b5 0 bA 7 bA 57 ((pF.out.block b5 Gp).trans H5.out) bA ?_;intro w9 h9 bJ;have Bq:=ae h9;have pG:=ae bJ;clear h9 bJ)))
  refine bodyPost_ret (v:=.tuple #[.agg (rS g n ta tn tc ma mn mc da dn dc oa on oc ia il ic).toArray,.agg bA.toArray]) (mY Tryz.results13 _ _ b4 b5 _ _ _ _ (0,0) (0,0) _ _ rfl ((pG.out.block b4 Gq).trans Fh.out) rfl Bq.out fE rfl (by kernel_rfl) dD rfl (by kernel_rfl)) rfl ?_;have hall:av Bb W w9:=(((av.only pF.out zH).trans (av.only pG.out Be)));rw [HE3.out];exact ⟨⟨ta,tn,tc⟩,⟨ma,mn,mc⟩,⟨da,dn,dc⟩,⟨oa,on,oc⟩,⟨ia,il,ic⟩,L,rfl,rfl,((HS.out.dV hBb hall).to back),fin _ hall⟩
end
section
open Go.RowKit
open Go.RowKit
open Go.RowKit
theorem JW (a1:Option Addr) (n1 c1:Nat) (a2:Option Addr) (n2 c2:Nat) (rows:List Row) (w:World) (h1:bQ w.heap.size w ⟨a1,n1,c1⟩ 2 (rows.map Row.cells)) (h2:bQ w.heap.size w ⟨a2,n2,c2⟩ 2 (rows.map Row.cells)) :
 Calls Tryz.prog 38 #[.slice a1 n1 c1,.slice a2 n2 c2] w fun e w'=>e=.returned (.bool true)∧Below w.heap.size w w':=by
 have hl1:n1=rows.length:=by simpa using h1.len
 have hl2:n2=rows.length:=by simpa using h2.len
 obtain rfl:n2=n1:=by omega
 have hlm:n2≤maxLen:=Nat.le_trans h1.le h1.max;unfold maxLen at hlm;have HL:Hid (n2=rows.length):=hl1;clear hl1 hl2;go_enter Tryz.func38,Tryz.ntmps38
 go_wp2_with fail
 go_loopw [5] (fun i wr=>∃ k:Nat,k≤n2∧i=.int .i64 k∧Below w.heap.size w wr) (fun i _=>n2 - (intOf i).toNat)
 case atStart=>exact ⟨0,Nat.zero_le _,rfl,Below.refl _ _⟩
 case round =>
  obtain ⟨k,hk,rfl,hnx⟩:=hrel;by_cases hlt:k<n2
  ·obtain ⟨x,hx⟩:∃ x,rows[k]? = some x:=⟨rows[k]'(by rw [← HL.out];exact hlt),by simp⟩
   obtain ⟨b,off,ha,j4,hc0,hc1⟩:=(h1.later hnx).at2 hx;obtain ⟨b',off',ha',LH,hd0,hd1⟩:=(h2.later hnx).at2 hx;obtain rfl:a1=some ⟨b,off,none⟩:=ha;obtain rfl:a2=some ⟨b',off',none⟩:=ha';have hi0:(0:Int)≤(k:Int):=by omega
   have hi1:(k:Int)<(n2:Int):=by omega
   clear hx;obtain ⟨az,dU⟩:=x;dsimp only at hc0 hc1 hd0 hd1;go_wp2_with fail
   go_quiet (fail)
   go_wp2
   go_roundw
   case rel=>exact ⟨k+1,by omega,by go_num,below_drewN hnx _⟩
   case measure=>simp [intOf];omega
  ·go_wp2
   go_ret
   exact ⟨rfl,hnx⟩
theorem JX (a1:Option Addr) (n1 c1:Nat) (a2:Option Addr) (n2 c2:Nat) (bP:List ak) (w:World) (h1:bQ w.heap.size w ⟨a1,n1,c1⟩ 7 (bP.map ak.cells)) (h2:bQ w.heap.size w ⟨a2,n2,c2⟩ 7 (bP.map ak.cells)) :
 Calls Tryz.prog 40 #[.slice a1 n1 c1,.slice a2 n2 c2] w fun e w'=>e=.returned (.bool true)∧Below w.heap.size w w':=by
 have hl1:n1=bP.length:=by simpa using h1.len
 have hl2:n2=bP.length:=by simpa using h2.len
 obtain rfl:n2=n1:=by omega
 have hlm:n2≤maxLen:=Nat.le_trans h1.le h1.max;unfold maxLen at hlm;have HL:Hid (n2=bP.length):=hl1;clear hl1 hl2;go_enter Tryz.func40,Tryz.ntmps40
 go_wp2_with fail
 go_loopw [5] (fun i wr=>∃ k:Nat,k≤n2∧i=.int .i64 k∧Below w.heap.size w wr) (fun i _=>n2 - (intOf i).toNat)
 case atStart=>exact ⟨0,Nat.zero_le _,rfl,Below.refl _ _⟩
 case round =>
  obtain ⟨k,hk,rfl,hnx⟩:=hrel;by_cases hlt:k<n2
  ·obtain ⟨x,hx⟩:∃ x,bP[k]? = some x:=⟨bP[k]'(by rw [← HL.out];exact hlt),by simp⟩
   obtain ⟨b,off,ha,j4,hc0,hc1,hc2,hc3,hc4,r9,hc6⟩:=(h1.later hnx).KR hx;obtain ⟨b',off',ha',LH,hd0,hd1,hd2,hd3,hd4,hd5,hd6⟩:=(h2.later hnx).KR hx;obtain rfl:a1=some ⟨b,off,none⟩:=ha;obtain rfl:a2=some ⟨b',off',none⟩:=ha';have hi0:(0:Int)≤(k:Int):=by omega
   have hi1:(k:Int)<(n2:Int):=by omega
   clear hx;obtain ⟨xc,xs,az,xk,xf,xv,xg⟩:=x;dsimp only at hc0 hc1 hc2 hc3 hc4 r9 hc6 hd0 hd1 hd2 hd3 hd4 hd5 hd6;go_wp2_with fail
   go_quiet (fail)
   go_wp2
   go_roundw
   case rel=>exact ⟨k+1,by omega,by go_num,below_drewN hnx _⟩
   case measure=>simp [intOf];omega
  ·go_wp2
   go_ret
   exact ⟨rfl,hnx⟩
theorem CZ (aM bG aV aP bg:Int) (bZ:Option Addr) (bR cK:Nat) (bX:Option Addr) (bN bY:Nat) (Yn:Option Addr) (Yo Yp:Nat) (sw:Option Addr) (sF sG:Nat) (bF:List Row) (bC:List ak) (w:World)
 (h1:bQ w.heap.size w ⟨bZ,bR,cK⟩ 2 (bF.map Row.cells)) (h2:bQ w.heap.size w ⟨bX,bN,bY⟩ 7 (bC.map ak.cells)) (h3:bQ w.heap.size w ⟨Yn,Yo,Yp⟩ 2 (bF.map Row.cells)) (h4:bQ w.heap.size w ⟨sw,sF,sG⟩ 7 (bC.map ak.cells)) :
 Calls Tryz.prog 41 #[.agg (rR aM bG aV aP bg bZ bR cK bX bN bY).toArray,.agg (rR aM bG aV aP bg Yn Yo Yp sw sF sG).toArray] w fun e w'=>e=.returned (.bool true)∧Below w.heap.size w w':=by
 have hT:Below w.heap.size w ((w.alloc (.cells (rR aM bG aV aP bg bZ bR cK bX bN bY).toArray 52)).alloc (.cells (rR aM bG aV aP bg Yn Yo Yp sw sF sG).toArray 52)):=ai (aj _ _) (aj _ _);have hWa:((w.alloc (.cells (rR aM bG aV aP bg bZ bR cK bX bN bY).toArray 52)).alloc (.cells (rR aM bG aV aP bg Yn Yo Yp sw sF sG).toArray 52)).heap[w.heap.size]? = _:=heap_alloc2_old w _ _;have UT:((w.alloc (.cells (rR aM bG aV aP bg bZ bR cK bX bN bY).toArray 52)).alloc (.cells (rR aM bG aV aP bg Yn Yo Yp sw sF sG).toArray 52)).heap[w.heap.size+1]? = _:=heap_alloc2_new w _ _;go_enter Tryz.func41,Tryz.ntmps41
 go_wp2_with (first | (go_at_call 38;go_must (refine (JW _ _ _ _ _ _ bF _ (h1.later hT) (h3.later hT)).mono ?_;rintro e w1 ⟨rfl,zQ⟩;have hT1:=ai hT zQ;have LC:=af zQ hWa;have LD:=af zQ UT;have ait:=ah LC;have aiu:=ah LD)) | (go_at_call 40;go_must (refine (JX _ _ _ _ _ _ bC _ (h2.later hT1) (h4.later hT1)).mono ?_;rintro e w2 ⟨rfl,Cb⟩;have qY:=ai hT1 Cb;have al0:=ah (af Cb LC);have al1:=ah (af Cb LD))))
 go_ret
 exact ⟨rfl,qY⟩
theorem NT (aG:Int) (di dh dw aO dx bK bL:Int) (aH aK aL bu aW:Int) (aQ:Option Addr) (aX aR:Nat) (aS:Option Addr) (aY aU:Nat) (aN bW:Int) (OI:Option Addr) (OJ OL:Nat) (OM:Option Addr) (OO OP:Nat) (aI:List Row) (aJ:List ak) (w:World)
 (h1:bQ w.heap.size w ⟨aQ,aX,aR⟩ 2 (aI.map Row.cells)) (h2:bQ w.heap.size w ⟨aS,aY,aU⟩ 7 (aJ.map ak.cells)) (h3:bQ w.heap.size w ⟨OI,OJ,OL⟩ 2 (aI.map Row.cells)) (h4:bQ w.heap.size w ⟨OM,OO,OP⟩ 7 (aJ.map ak.cells)) :
 Calls Tryz.prog 14 #[.agg (rC aG di dh dw aO dx bK bL aH aK aL bu aW aQ aX aR aS aY aU aN bW).toArray,.agg (rC aG di dh dw aO dx bK bL aH aK aL bu aW OI OJ OL OM OO OP aN bW).toArray] w fun e w'=>e=.returned (.bool true)∧Below w.heap.size w w':=by
 have hT:Below w.heap.size w ((w.alloc (.cells (rC aG di dh dw aO dx bK bL aH aK aL bu aW aQ aX aR aS aY aU aN bW).toArray 54)).alloc (.cells (rC aG di dh dw aO dx bK bL aH aK aL bu aW OI OJ OL OM OO OP aN bW).toArray 54)):=ai (aj _ _) (aj _ _);have hWa:((w.alloc (.cells (rC aG di dh dw aO dx bK bL aH aK aL bu aW aQ aX aR aS aY aU aN bW).toArray 54)).alloc (.cells (rC aG di dh dw aO dx bK bL aH aK aL bu aW OI OJ OL OM OO OP aN bW).toArray 54)).heap[w.heap.size]? = _:=heap_alloc2_old w _ _;have UT:((w.alloc (.cells (rC aG di dh dw aO dx bK bL aH aK aL bu aW aQ aX aR aS aY aU aN bW).toArray 54)).alloc (.cells (rC aG di dh dw aO dx bK bL aH aK aL bu aW OI OJ OL OM OO OP aN bW).toArray 54)).heap[w.heap.size+1]? = _:=heap_alloc2_new w _ _;go_enter Tryz.func14,Tryz.ntmps14
 go_wp2_with (first | (with_reducible show I5 7 52 ..;go_must (refine dF (w.heap.size) 8 7 qD _ _ hWa (rR aH aK aL bu aW aQ aX aR aS aY aU) ?_)) | (with_reducible show I5 9 52 ..;go_must (refine dF (w.heap.size+1) 8 7 qD _ _ UT (rR aH aK aL bu aW OI OJ OL OM OO OP) ?_)) | (go_at_call 41;go_must (refine (CZ _ _ _ _ _ _ _ _ _ _ _ _ _ _ _ _ _ aI aJ _ (h1.later hT) (h2.later hT) (h3.later hT) (h4.later hT)).mono ?_;rintro e w1 ⟨rfl,zQ⟩;have hT1:=ai hT zQ;have LC:=af zQ hWa;have LD:=af zQ UT;have ait:=ah LC;have aiu:=ah LD)) | (with_reducible show I5 21 50 ..;go_must (refine dF (w.heap.size) 1 7 wR _ _ LC (rQ di dh dw aO dx bK bL) ?_)) | (with_reducible show I5 23 50 ..;go_must (refine dF (w.heap.size+1) 1 7 wR _ _ LD (rQ di dh dw aO dx bK bL) ?_)))
 go_ret
 exact ⟨rfl,hT1⟩
end
section
open Go.RowKit
theorem OQ (a1:Option Addr) (n1 c1:Nat) (a2:Option Addr) (n2 c2:Nat) (m:List Pc) (w:World) (h1:nT w a1 n1 c1 m) (h2:nT w a2 n2 c2 m) :
 Calls Tryz.prog 39 #[.slice a1 n1 c1,.slice a2 n2 c2] w fun e w'=>e=.returned (.bool true)∧Below w.heap.size w w':=by
 have hl1:n1=m.length:=by simpa using h1.len
 have hl2:n2=m.length:=by simpa using h2.len
 obtain rfl:n2=n1:=by omega
 have hlm:n2≤maxLen:=Nat.le_trans h1.le h1.max;unfold maxLen at hlm;have HL:Hid (n2=m.length):=hl1;clear hl1 hl2;go_enter Tryz.func39,Tryz.ntmps39
 go_wp2_with fail
 go_loopw [5] (fun i wr=>∃ k:Nat,k≤n2∧i=.int .i64 k∧Below w.heap.size w wr) (fun i _=>n2 - (intOf i).toNat)
 case atStart=>exact ⟨0,Nat.zero_le _,rfl,Below.refl _ _⟩
 case round =>
  obtain ⟨k,hk,rfl,hnx⟩:=hrel;by_cases hlt:k<n2
  ·obtain ⟨x,hx⟩:∃ x,m[k]? = some x:=⟨m[k]'(by rw [← HL.out];exact hlt),by simp⟩
   obtain ⟨b,off,ha,j4,hc0,hc1⟩:=(h1.later hnx).C9 hx;obtain ⟨b',off',ha',LH,hd0,hd1⟩:=(h2.later hnx).C9 hx;obtain rfl:a1=some ⟨b,off,none⟩:=ha;obtain rfl:a2=some ⟨b',off',none⟩:=ha';have hi0:(0:Int)≤(k:Int):=by omega
   have hi1:(k:Int)<(n2:Int):=by omega
   clear hx;obtain ⟨xf,xg⟩:=x;dsimp only at hc0 hc1 hd0 hd1;go_wp2_with fail
   go_quiet (fail)
   go_wp2
   go_roundw
   case rel=>exact ⟨k+1,by omega,by go_num,below_drewN hnx _⟩
   case measure=>simp [intOf];omega
  ·go_wp2
   go_ret
   exact ⟨rfl,hnx⟩
end
end Go.Proofs.YtignemioillaiaaGreat
