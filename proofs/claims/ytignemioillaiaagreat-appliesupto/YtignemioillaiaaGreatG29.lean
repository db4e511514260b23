/- The document: delegate, whole. -/
import Derived.Test.YtignemioillaiaaGreatG28
namespace Go.Proofs.YtignemioillaiaaGreat
set_option maxHeartbeats 8000000
set_option maxRecDepth 100000
section
open Go.RowKit Go.Lib
def Cc (P:Nat→Prop) (w:World) (g n:Int) (r:St×ak) (e:Ending) (w':World):Prop :=
 ∃ (vT vM vD vO vI:Sl) (L':List ax),e=.returned (.tuple #[.agg #[.int .u8 g,.int .u8 n,vT.val,vM.val,vD.val,vO.val,vI.val],.agg r.2.cells.toArray])∧L'.map ax.core=r.1.O∧ry P w' vT vM vD vO vI r.1.T r.1.M r.1.D L' r.1.I∧Below w.heap.size w w'
theorem five (w:World) (a b c d e:Obj):(((((w.alloc a).alloc b).alloc c).alloc d).alloc e).heap[w.heap.size]? = some a∧(((((w.alloc a).alloc b).alloc c).alloc d).alloc e).heap[w.heap.size+1]? = some b∧(((((w.alloc a).alloc b).alloc c).alloc d).alloc e).heap[w.heap.size+1+1]? = some c∧(((((w.alloc a).alloc b).alloc c).alloc d).alloc e).heap[w.heap.size+1+1+1]? = some d∧(((((w.alloc a).alloc b).alloc c).alloc d).alloc e).heap[w.heap.size+1+1+1+1]? = some e∧Below w.heap.size w (((((w.alloc a).alloc b).alloc c).alloc d).alloc e)∧(((((w.alloc a).alloc b).alloc c).alloc d).alloc e).heap.size=w.heap.size+5:=by
 have e1:(w.alloc a).heap.size=w.heap.size+1:=by simp
 have e2:((w.alloc a).alloc b).heap.size=w.heap.size+1+1:=by simp
 have e3:(((w.alloc a).alloc b).alloc c).heap.size=w.heap.size+1+1+1:=by simp
 have e4:((((w.alloc a).alloc b).alloc c).alloc d).heap.size=w.heap.size+1+1+1+1:=by simp
 refine ⟨?_,?_,?_,?_,?_,ai (ai (ai (ai (aj _ _) (aj _ _)) (aj _ _)) (aj _ _)) (aj _ _),by simp⟩
 ·rw [heap_alloc_old _ _ (by omega),heap_alloc_old _ _ (by omega),heap_alloc_old _ _ (by omega),heap_alloc_old _ _ (by omega)];exact heap_alloc_new w _
 ·rw [heap_alloc_old _ _ (by omega),heap_alloc_old _ _ (by omega),heap_alloc_old _ _ (by omega),← e1];exact heap_alloc_new _ _
 ·rw [heap_alloc_old _ _ (by omega),heap_alloc_old _ _ (by omega),← e2];exact heap_alloc_new _ _
 ·rw [heap_alloc_old _ _ (by omega),← e3];exact heap_alloc_new _ _
 ·rw [← e4];exact heap_alloc_new _ _
theorem TI (P:Nat→Prop) (w:World) (g n:Int) (ta:Option Addr) (tn tc:Nat) (ma:Option Addr) (mn mc:Nat) (da:Option Addr) (dn dc:Nat) (oa:Option Addr) (on oc:Nat) (ia:Option Addr) (il ic:Nat) (qc qs ag qv au aA:Int) (T:List Row) (M:List Pc) (D:List ak) (L:List ax) (I:List Int)
 (hS:ry P w ⟨ta,tn,tc⟩ ⟨ma,mn,mc⟩ ⟨da,dn,dc⟩ ⟨oa,on,oc⟩ ⟨ia,il,ic⟩ T M D L I) (hok:ku (St.mk g n T M D (L.map ax.core) I)) (gY:T.length<499999) (gU:D.length<499999) (hP:∀ k,w.heap.size≤k→¬ P k) (hq:(bH.mk qc qs 4 ag qv au aA).ok=true) (hwf:(bH.mk qc qs 4 ag qv au aA).wf) :
 Calls Tryz.prog 98 #[.agg (rS g n ta tn tc ma mn mc da dn dc oa on oc ia il ic).toArray,.agg (rQ qc qs 4 ag qv au aA).toArray,.agg (rP qc qs ag 2 false 0 0).toArray] w fun e w'=>Cc P w g n (Bd (St.mk g n T M D (L.map ax.core) I) (bH.mk qc qs 4 ag qv au aA)) e w':=by
 obtain ⟨W,hW⟩:∃ W,W=(((((w.alloc (.cells (rS g n ta tn tc ma mn mc da dn dc oa on oc ia il ic).toArray 31)).alloc (.cells (rQ qc qs 4 ag qv au aA).toArray 50)).alloc (.cells (rP qc qs ag 2 false 0 0).toArray 57)).alloc (.cells dS.toArray 31)).alloc (.cells bA.toArray 57)):=⟨_,rfl⟩;obtain ⟨h3,h4,h5,h6,h7,bE,hWs⟩:=five w (.cells (rS g n ta tn tc ma mn mc da dn dc oa on oc ia il ic).toArray 31) (.cells (rQ qc qs 4 ag qv au aA).toArray 50) (.cells (rP qc qs ag 2 false 0 0).toArray 57) (.cells dS.toArray 31) (.cells bA.toArray 57);rw [← hW] at h3 h4 h5 h6 h7 bE hWs;obtain ⟨b7,Vi⟩:∃ b7,w.heap.size+1+1+1+1=b7:=⟨_,rfl⟩;obtain ⟨b6,hb6⟩:∃ b6,w.heap.size+1+1+1=b6:=⟨_,rfl⟩;obtain ⟨b5,hb5⟩:∃ b5,w.heap.size+1+1=b5:=⟨_,rfl⟩;obtain ⟨b4,hb4⟩:∃ b4,w.heap.size+1=b4:=⟨_,rfl⟩;obtain ⟨b3,hb3⟩:∃ b3,w.heap.size=b3:=⟨_,rfl⟩;obtain ⟨Pb,wF⟩:∃ Pb:Nat→Prop,Pb=fun k=>P k∨(w.heap.size≤k∧k<W.heap.size):=⟨_,rfl⟩
 have De:∀ k,W.heap.size≤k→¬ Pb k:=by
  intro k hk e;rw [wF] at e;rcases e with e | e
  ·exact hP k (by omega) e
  ·omega
 obtain ⟨Bb,hBd⟩:∃ Bb:Nat→Prop,Bb=fun k=>w.heap.size≤k∧k<W.heap.size:=⟨_,rfl⟩
 have hBb:∀ k,Bb k→Pb k:=by intro k hk;rw [hBd] at hk;rw [wF];exact .inr hk
 have fM:Bb b3:=by rw [hBd];constructor <;> omega
 have Be:Bb b5:=by rw [hBd];constructor <;> omega
 have OC:Bb b6:=by rw [hBd];constructor <;> omega
 have OD:Bb b7:=by rw [hBd];constructor <;> omega
 have Dt:¬ b7=b6:=by omega
 have Du:¬ b6=b7:=by omega
 have KH:¬ b3=b6:=by omega
 have KI:¬ b3=b7:=by omega
 have KJ:¬ b5=b6:=by omega
 have KL:¬ b5=b7:=by omega
 have uR:¬ b6=b3:=by omega
 have uS:¬ b7=b3:=by omega
 have GU:¬ b6=b5:=by omega
 have GV:¬ b7=b5:=by omega
 have Vj:¬ b3=b5:=by omega
 have uQ:¬ b5=b3:=by omega
 have qw:¬ b4=b3:=by omega
 have HS:Hid (ry Pb W ⟨ta,tn,tc⟩ ⟨ma,mn,mc⟩ ⟨da,dn,dc⟩ ⟨oa,on,oc⟩ ⟨ia,il,ic⟩ T M D L I):=(hS.to (fun k hk=>by rw [wF] at hk;exact hk.imp id (fun h=>h.1))).later bE;have back:∀ {x:World} k,P k→Pb k∨x.heap.size≤k:=by intro x k hk;rw [wF];exact .inl (.inl hk)
 have fin:∀ w',av Bb W w'→Below w.heap.size w w':=fun w' hc=>bE.trans (hc.below (fun k hk=>⟨by omega,fun e=>by rw [hBd] at e;omega⟩))
 have HWM:Hid (∀ (i:Nat) (x:Pc),M[i]? = some x→x.wf):=ae fun i x hx=>by
  have:=Ky hok.can x (List.mem_of_getElem? hx);exact ⟨this.1,this.2.1,this.2.2.1,by omega⟩
 have qi:=ae hok;have zw:Hid ((L.length:Int)=n∧n≤4):=ae ⟨by simpa using hok.ol,hok.n4⟩;have hk0:0≤ag:=hwf.key.1;have hhi:au<18446744073709551616:=hwf.hi.2;have adq:0≤aA:=hwf.to.1;obtain ⟨hlh,adr⟩:ag≤au∧aA<4:=by
  simp [bH.ok] at hq;omega
 rw [Vi] at h7;rw [hb6] at h6;rw [hb5] at h5;rw [hb4] at h4;rw [hb3] at h3;have H3:=ae h3;have H4:=ae h4;have H5:=ae h5;have H6:=ae h6;have H7:=ae h7;clear h3 h4 h5 h6 h7 bE hWs hS hok hq hwf;have Br:=ae (And.intro hb3 (And.intro hb4 (And.intro hb5 (And.intro hb6 Vi))));clear hb3 hb4 hb5 hb6 Vi;go_enter Tryz.func98,Tryz.ntmps98
 go_upto_region 1 with fail
 rw [← hW];clear hW;obtain ⟨hb3,hb4,hb5,hb6,Vi⟩:=Br.out;rw [Vi,hb6,hb5,hb4,hb3];clear hb3 hb4 hb5 hb6 Vi;have hc0:W.cell? ⟨b3,3,none⟩=some (.slice ma mn mc):=ah H3.out 3;have hc1:W.cell? ⟨b4,3,none⟩=some (.int .u64 ag):=ah H4.out 3;have hc2:W.cell? ⟨b4,5,none⟩=some (.int .u64 au):=ah H4.out 5;have hc3:W.cell? ⟨b4,6,none⟩=some (.int .u8 aA):=ah H4.out 6;go_upto_region 2 with (first
  | (go_at_call 104;go_must (refine (JB ma mn mc M ag au aA _ HS.out.m.at_ HWM.out qi.out.FP qi.out.can qi.out.ml hk0 hlh hhi adq adr).mono ?_;rintro e y1 ⟨v1,rfl,ho1,hb1⟩;have HB1:=ae hb1;have HOM:=ae ho1;obtain ⟨⟨ka,kn,kc⟩,hv1,hr1⟩:=eH (P:=Pb) De ho1 (fun _=>rfl);have nR:v1=.slice ka kn kc:=hv1;subst nR;clear hv1;have HR1:=ae hr1;clear hr1 ho1 hb1)))
 clear hc0 hc1 hc2 hc3;have hd0:y1.cell? ⟨b3,0,none⟩=some (.int .u8 g):=ah (af HB1.out H3.out) 0;have hd1:y1.cell? ⟨b3,1,none⟩=some (.int .u8 n):=ah (af HB1.out H3.out) 1;have hd2:y1.cell? ⟨b3,5,none⟩=some (.slice oa on oc):=ah (af HB1.out H3.out) 5;have hd3:y1.cell? ⟨b4,6,none⟩=some (.int .u8 aA):=ah (af HB1.out H4.out) 6;have HKN:Hid (kn=(qG (dG M ag au aA)).length):=ae HR1.out.len;go_cut [55] from 24 to 55 (fun s wx=>s=.bool (!(om (St.mk g n T M D (L.map ax.core) I) (bH.mk qc qs 4 ag qv au aA)))∧wx=y1)
 case first =>
  by_cases h1:aA=g
  ·have e1:(aA == g)=true:=by simp [h1]
   have e2:om (St.mk g n T M D (L.map ax.core) I) (bH.mk qc qs 4 ag qv au aA)=false:=by simp [om,h1]
   clear h1;go_wp2_with fail
   go_meet
   exact ⟨by rw [e2];rfl,rfl⟩
  by_cases h2:n≤aA
  ·have e1:(aA == g)=false:=by simp [h1]
   have e3:decide (n≤aA)=true:=by simp [h2]
   have e2:om (St.mk g n T M D (L.map ax.core) I) (bH.mk qc qs 4 ag qv au aA)=false:=by
    have:¬ aA<n:=by omega
    simp [om,this]
   clear h1 h2;go_wp2_with fail
   go_meet
   exact ⟨by rw [e2];rfl,rfl⟩
  have e1:(aA == g)=false:=by simp [h1]
  have e3:decide (n≤aA)=false:=by simp;omega
  by_cases h3:1000<(dG M ag au aA).length
  ·have e4:(qW (dG M ag au aA) != 0)=true:=by simp [qW,h3]
   have e2:om (St.mk g n T M D (L.map ax.core) I) (bH.mk qc qs 4 ag qv au aA)=false:=by
    have:¬ (dG M ag au aA).length≤8:=by omega
    simp [om,this]
   clear h1 h2 h3;go_wp2_with fail
   go_meet
   exact ⟨by rw [e2];rfl,rfl⟩
  have e4:(qW (dG M ag au aA) != 0)=false:=by simp [qW,h3]
  have e5:qG (dG M ag au aA)=dG M ag au aA:=by simp [qG,h3]
  have hkn:=HKN.out;rw [e5] at hkn;by_cases h4:8<(dG M ag au aA).length
  ·have e6:decide ((8:Int)<(kn:Int))=true:=by simp;omega
   have e2:om (St.mk g n T M D (L.map ax.core) I) (bH.mk qc qs 4 ag qv au aA)=false:=by
    have:¬ (dG M ag au aA).length≤8:=by omega
    simp [om,this]
   clear h1 h2 h3 h4 e5 hkn;go_wp2_with fail
   go_meet
   exact ⟨by rw [e2];rfl,rfl⟩
  have e6:decide ((8:Int)<(kn:Int))=false:=by simp;omega
  obtain ⟨j,hj⟩:∃ j:Nat,aA=(j:Int):=⟨aA.toNat,by omega⟩;have hjl:j<L.length:=by have:=zw.out;omega
  obtain ⟨⟨bz,⟨eG,eP,eQ⟩,lq⟩,hl⟩:∃ l,L[j]? = some l:=⟨L[j]'hjl,by simp⟩;have CX:(qJ (L.map ax.core) aA).2.length=lq.length:=by rw [hj,Jz hl];simp [ax.core]
  obtain ⟨ob,oo,hoa,Jc,hox⟩:=(HS.out.o.dV hBb (av.later HB1.out)).at_.el (i:=j) (x:=(ax.mk bz ⟨eG,eP,eQ⟩ lq).cells) (by simp [hl]);obtain rfl:oa=some ⟨ob,oo,none⟩:=hoa;have hx0:y1.cell? ⟨ob,oo+j*2+1,none⟩=some (.slice eG eP eQ):=hox 1 _ rfl;have hqn:eP=lq.length:=(HS.out.ln _ (List.mem_of_getElem? hl)).q.len;have hon:on=L.length:=HS.out.o.len;have hi1:(0:Int)≤(j:Int):=by omega
  have hi2:(j:Int)<(on:Int):=by omega
  subst hj;by_cases h5:4≤lq.length
  ·have e7:decide ((4:Int)≤(eP:Int))=true:=by simp;omega
   have e2:om (St.mk g n T M D (L.map ax.core) I) (bH.mk qc qs 4 ag qv au (j:Int))=false:=by
    have:¬ lq.length<4:=by omega
    simp [om,CX,this]
   clear h1 h2 h3 h4 h5 e5 hkn hox hqn CX hl Jc;go_wp2_with fail
   go_meet
   exact ⟨by rw [e2];rfl,rfl⟩
  ·have e7:decide ((4:Int)≤(eP:Int))=false:=by simp;omega
   have e2:om (St.mk g n T M D (L.map ax.core) I) (bH.mk qc qs 4 ag qv au (j:Int))=true:=by
    have a1:(j:Int)<n:=by omega
    have a2:lq.length<4:=by omega
    have a3:(dG M ag au (j:Int)).length≤8:=by omega
    simp [om,CX,h1,a1,a2,a3]
   clear h1 h2 h3 h4 h5 e5 hkn hox hqn CX hl Jc;go_wp2_with fail
   go_meet
   exact ⟨by rw [e2];rfl,rfl⟩
 case rest =>
 obtain ⟨aib,hwx⟩:=hcut;subst aib;obtain rfl:y1=wc:=hwx.symm;clear hd0 hd1 hd2 hd3;cases hfit:om (St.mk g n T M D (L.map ax.core) I) (bH.mk qc qs 4 ag qv au aA) with
 | false =>
  go_upto_region 4 with (first
   | (with_reducible show dJ 5 56 ..;go_must (refine oZ b5 3 (.int .u8 5) (rP qc qs ag 2 false 0 0) 57 (af HB1.out H5.out) (rP qc qs ag 5 false 0 0) ?_;intro y2 h9 bJ;have HS2:=ae h9;have dL:=ae bJ;clear h9 bJ)))
  have hc0:y2.cell? ⟨b3,4,none⟩=some (.slice da dn dc):=ah ((dL.out.block b3 Vj).trans (af HB1.out H3.out)) 4;go_upto_region 5 with (first
   | (with_reducible show cB 59 57 ..;go_must (refine dF b5 0 7 dD _ _ HS2.out (rP qc qs ag 5 false 0 0) ?_))
   | (go_at_call 101;go_must (refine (Ca da dn dc D qc qs ag 5 false 0 0 _ (HS.out.d.dV hBb ((av.later HB1.out).trans (av.only dL.out Be))).at_ gU).mono ?_;rintro e y3 ⟨v1,rfl,ho1,hb1⟩;have HB3:=ae hb1;have pE:=ae ho1;obtain ⟨⟨ea,en,ec⟩,hv1,hr1⟩:=eH (P:=Pb) (fun k hk=>De k (Nat.le_trans ((av.later HB1.out).trans (av.only dL.out Be)).size hk)) ho1 (fun _=>rfl);have nR:v1=.slice ea en ec:=hv1;subst nR;clear hv1;have HR3:=ae hr1;clear hr1 ho1 hb1))
   | (with_reducible show dJ 27 61 ..;go_must (refine oZ b3 4 (.slice ea en ec) (rS g n ta tn tc ma mn mc da dn dc oa on oc ia il ic) 31 (af HB3.out ((dL.out.block b3 Vj).trans (af HB1.out H3.out))) (rS g n ta tn tc ma mn mc ea en ec oa on oc ia il ic) ?_;intro y4 h9 bJ;have I8:=ae h9;have pU:=ae bJ;clear h9 bJ)))
  clear hc0;have Q8:y4.heap[b3]? = some (.cells (rS g n ta tn tc ma mn mc ea en ec oa on oc ia il ic).toArray 31):=I8.out;have NP:y4.heap[b5]? = some (.cells (rP qc qs ag 5 false 0 0).toArray 57):=((pU.out.block b5 uQ).trans (af HB3.out HS2.out));have NQ:y4.heap[b6]? = some (.cells dS.toArray 31):=((pU.out.block b6 uR).trans (af HB3.out ((dL.out.block b6 GU).trans (af HB1.out H6.out))));have h37:y4.heap[b7]? = some (.cells bA.toArray 57):=((pU.out.block b7 uS).trans (af HB3.out ((dL.out.block b7 GV).trans (af HB1.out H7.out))));have hc3:=ah Q8;have r9:=ah NP;have hc6:=ah NQ;have XF:=ah h37;have hf6:=oh (Below.refl _ y4) NQ;have hf7:=oh (Below.refl _ y4) h37;have H36:=ae NQ;have H37:=ae h37;clear Q8 NP NQ h37;go_region
  go_wp2_with fail
  obtain ⟨k1,k2⟩:=j5 b6 31 (rS g n ta tn tc ma mn mc ea en ec oa on oc ia il ic) 0 dS y4 H36.out (by simp);simp only [World.setCells,Nat.reduceAdd] at k1 k2;generalize (((((((y4.setCell ⟨b6,0,none⟩ (.int .u8 g)).setCell ⟨b6,1,none⟩ (.int .u8 n)).setCell ⟨b6,2,none⟩ (.slice ta tn tc)).setCell ⟨b6,3,none⟩ (.slice ma mn mc)).setCell ⟨b6,4,none⟩ (.slice ea en ec)).setCell ⟨b6,5,none⟩ (.slice oa on oc)).setCell ⟨b6,6,none⟩ (.slice ia il ic))=w6 at k1 k2 ⊢;obtain ⟨k3,k4⟩:=j5 b7 57 (rP qc qs ag 5 false 0 0) 0 bA w6 ((k2.block b7 Dt).trans H37.out) (by simp);simp only [World.setCells,Nat.reduceAdd] at k3 k4;generalize (((((((w6.setCell ⟨b7,0,none⟩ (.int .u8 qc)).setCell ⟨b7,1,none⟩ (.int .u32 qs)).setCell ⟨b7,2,none⟩ (.int .u64 ag)).setCell ⟨b7,3,none⟩ (.int .u8 5)).setCell ⟨b7,4,none⟩ (.bool false)).setCell ⟨b7,5,none⟩ (.int .u64 0)).setCell ⟨b7,6,none⟩ (.int .u8 0))=w7 at k3 k4 ⊢;have hA:w7.drew.heap[b6]? = some (.cells (rS g n ta tn tc ma mn mc ea en ec oa on oc ia il ic).toArray 31):=(k4.block b6 Du).trans k1;have hE:w7.drew.heap[b7]? = some (.cells (rP qc qs ag 5 false 0 0).toArray 57):=k3;refine bodyPost_ret (v:=.tuple #[.agg (rS g n ta tn tc ma mn mc ea en ec oa on oc ia il ic).toArray,.agg (rP qc qs ag 5 false 0 0).toArray]) (mY Tryz.results98 _ _ b6 b7 _ _ _ _ (0,0) (0,0) _ _ rfl hA rfl hE fE rfl (by kernel_rfl) dD rfl (by kernel_rfl)) rfl ?_;have hce:av Bb y4 w7.drew:=(av.only k2 OC).trans (av.only (k4.trans (Only.drew _ _)) OD);have hall:av Bb W w7.drew:=((((av.later HB1.out).trans (av.only dL.out Be)).trans (av.later HB3.out)).trans (av.only pU.out fM)).trans hce;have hE7:=(HR3.out.dV hBb (av.only pU.out fM)).dV hBb hce;have eR:Bd (St.mk g n T M D (L.map ax.core) I) (bH.mk qc qs 4 ag qv au aA)=((St.mk g n T M (fe D ⟨qc,qs,ag,5,false,0,0⟩) (L.map ax.core) I),⟨qc,qs,ag,5,false,0,0⟩):=by unfold Bd;rw [if_neg (by rw [hfit];simp)]
  rw [eR];refine ⟨⟨ta,tn,tc⟩,⟨ma,mn,mc⟩,⟨ea,en,ec⟩,⟨oa,on,oc⟩,⟨ia,il,ic⟩,L,rfl,rfl,?_,fin _ hall⟩
  ·exact ⟨(HS.out.t.dV hBb hall).to back,(HS.out.m.dV hBb hall).to back,hE7.to back,(HS.out.o.dV hBb hall).to back,(HS.out.i.dV hBb hall).to back,fun l hl=>((HS.out.ln l hl).dV hBb hall).to back⟩
 | true =>
  obtain ⟨j,hj⟩:∃ j:Nat,aA=(j:Int):=⟨aA.toNat,by omega⟩;have Xl:(dG M ag au aA).length≤8:=by unfold om at hfit;simp at hfit;exact hfit.2
  have hbn:aA<n:=by unfold om at hfit;simp at hfit;exact hfit.1.1.2
  have hjl:j<L.length:=by have:=zw.out;omega
  obtain ⟨⟨bz,⟨eG,eP,eQ⟩,lq⟩,hl⟩:∃ l,L[j]? = some l:=⟨L[j]'hjl,by simp⟩;have CX:qJ (L.map ax.core) aA=(bz,lq.map aF.core):=by rw [hj,Jz hl];rfl
  have hlq:lq.length<4:=by unfold om at hfit;simp [CX] at hfit;exact hfit.1.2
  have e5:qG (dG M ag au aA)=dG M ag au aA:=by unfold qG;rw [if_neg (by omega)]
  have HR2:Hid (fT Pb y1 ⟨ka,kn,kc⟩ 2 ((dG M ag au aA).map Pc.cells)):=by
   have:=HR1.out;rw [e5] at this;exact this
  have hsz:W.heap.size≤y1.heap.size:=HB1.out.size;subst hj;go_upto_region 6 with fail
  refine ah9 rfl y1 b3 b4 b5 b6 b7 j g n bz ta tn tc ma mn mc da dn dc oa on oc ia il ic ka kn kc eG eP eQ qc qs 4 ag qv au T (dG M ag au (j:Int)) D L I lq Pb Bb (af HB1.out H3.out) (af HB1.out H4.out) (af HB1.out H5.out) (af HB1.out H6.out) (af HB1.out H7.out) (HS.out.t.dV hBb (av.later HB1.out)) (HS.out.d.dV hBb (av.later HB1.out)) (HS.out.o.dV hBb (av.later HB1.out)) (HS.out.i.dV hBb (av.later HB1.out)) HR2.out (fun l hl=>(HS.out.ln l hl).dV hBb (av.later HB1.out)) hl gY gU (by have:=zw.out;omega) (by omega) (fun k hk=>De k (Nat.le_trans hsz hk)) hBb fM OC OD qw uQ uR uS Dt Du KH KI KJ KL GU GV _ ?_ (by first | assumption | exact fun _ _ h=>h);intro vT vM vD vO vI L' w' e1 hS2 hC2;have eR:Bd (St.mk g n T M D (L.map ax.core) I) (bH.mk qc qs 4 ag qv au (j:Int))=(St.mk g n (dz (fun x:Row=>x.key) ag au false T) (dG M ag au (j:Int)) (dz (fun x:ak=>x.key) ag au false (fe D ⟨qc,qs,ag,2,false,0,0⟩)) ((L.map ax.core).set j (IntKind.u32.wrap (bz+1),lq.map aF.core++[⟨g,(j:Int),bz,ag,au,dz (fun x:Row=>x.key) ag au true T,dz (fun x:ak=>x.key) ag au true (fe D ⟨qc,qs,ag,2,false,0,0⟩)⟩])) I,⟨qc,qs,ag,2,false,0,0⟩):=by
   unfold Bd;rw [if_pos hfit];simp only [CX];rfl
  rw [eR];exact ⟨vT,vM,vD,vO,vI,L',rfl,e1,hS2.to back,fin _ ((av.later HB1.out).trans hC2)⟩
theorem ad9 {c d a0 a1 a2 a3 a4 a5:Code} (hc:Tryz.f48.body=some (a0.seq (a1.seq (a2.seq (a3.seq (a4.seq (a5.seq (c.seq d)))))))) {u0 u1 u7 u8 u9 jB jg jh ji jk jl u16 mW oz lJ nC mE mF mh jC jD jw j6 ig ik iq iw u32 jm jq jr jE jF jG jH jI jJ jK jL jM jN jO jP jQ jR jS jT jU jV jW jX jY kv ky kz kC kD kE kF u64 kG kH kg ko kI kJ kK kL kM kN kP kQ kR lK lL lN lQ lT lU lV lW lX lY lZ l7 l8 l9 mf mg mi mI nE nG nH nI fU fV fZ gm gp gq gu gy gz gB gF gG gH gJ gK gL gM gN gP gQ iA iB iC iD iE iF iG iH iI iJ iK iL iM iN iO iP iQ iR iT iU iV iW iX iY iZ jd je jf kU kV kW kX lg lh ll lu lv lC lD mJ mK mM mO mP mQ mR mU mZ ng ni nu ny:Value} (w:World) (b2 b3 b4 b5 b6:Nat) (g n:Int) (ta:Option Addr) (tn tc:Nat) (ma:Option Addr) (mn mc:Nat) (da:Option Addr) (dn dc:Nat) (oa:Option Addr) (on oc:Nat) (ia:Option Addr) (il ic:Nat) (qc qs qk ag qv au aA:Int) (D:List ak) (p:Nat) (xk:Int) (xf:Bool) (xv xg:Int)
 (h2:w.heap[b2]? = some (.cells (rS g n ta tn tc ma mn mc da dn dc oa on oc ia il ic).toArray 31)) (h3:w.heap[b3]? = some (.cells (rQ qc qs qk ag qv au aA).toArray 50)) (h6:w.heap[b6]? = some (.cells (rP qc qs ag 2 false 0 0).toArray 57)) (h4:w.heap[b4]? = some (.cells dS.toArray 31)) (h5:w.heap[b5]? = some (.cells bA.toArray 57))
 (hD:bQ w.heap.size w ⟨da,dn,dc⟩ 7 (D.map ak.cells)) (hl:D.length<499999) (hp:D[p]? = some (ak.mk qc qs ag xk xf xv xg)) (hbef:∀ (j:Nat) (y:ak),j<p→D[j]? = some y→sN qc qs ag y=false)
 (_n1:¬ b4=b2) (_n2:¬ b4=b6) (_n3:¬ b5=b2) (_n4:¬ b5=b6) (n5:¬ b4=b5) (_n6:¬ b2=b4) (_n7:¬ b6=b4) (_n8:¬ b2=b5) (_n9:¬ b6=b5) (n10:¬ b5=b4) (n11:¬ b6=b2) (n12:¬ b2=b6) (PP:Ending→World→Prop)
 (hQ:∀ w',av (fun k=>k=b4∨k=b5∨k=b6) w w'→PP (.returned (.tuple #[.agg (rS g n ta tn tc ma mn mc da dn dc oa on oc ia il ic).toArray,.agg (rP qc qs ag xk xf xv xg).toArray])) w') {K:Act→World→Prop} (hK:∀ a w,d.wp Tryz.prog (bodyPost Tryz.prog Tryz.f48 PP) a w→K a w) :
 c.wp Tryz.prog (Exit.then K (bodyPost Tryz.prog Tryz.f48 PP)) { tmps:=(List.toArray (α:=Value) (u0::u1::.pointer (some ⟨b2,0,none⟩)::.pointer (some ⟨b3,0,none⟩)::.pointer (some ⟨b4,0,none⟩)::.pointer (some ⟨b5,0,none⟩)::.pointer (some ⟨b6,0,none⟩)::u7::u8::u9::jB::jg::jh::ji::jk::jl::u16::mW::oz::lJ::nC::mE::mF::mh::jC::jD::jw::j6::ig::ik::iq::iw::u32::jm::jq::jr::jE::jF::jG::jH::jI::jJ::jK::jL::jM::jN::jO::jP::jQ::jR::jS::jT::jU::jV::jW::jX::jY::kv::ky::kz::kC::kD::kE::kF::u64::kG::kH::kg::ko::kI::kJ::kK::kL::kM::kN::kP::kQ::kR::lK::lL::lN::lQ::lT::lU::lV::lW::lX::lY::lZ::l7::l8::l9::mf::mg::mi::mI::nE::nG::nH::nI::fU::fV::fZ::gm::gp::gq::gu::gy::gz::gB::gF::gG::gH::gJ::gK::gL::gM::gN::gP::gQ::iA::iB::iC::iD::iE::iF::iG::iH::iI::iJ::iK::iL::iM::iN::iO::iP::iQ::iR::iT::iU::iV::iW::iX::iY::iZ::jd::je::jf::kU::kV::kW::kX::lg::lh::ll::lu::lv::lC::lD::mJ::mK::mM::mO::mP::mQ::mR::mU::mZ::ng::ni::nu::ny::[])),defers:=[] } w:=by
 injection hc with k0;injection k0 with e0 k1;clear e0;injection k1 with e1 k2;clear e1;injection k2 with e2 k3;clear e2;injection k3 with e3 k4;clear e3;injection k4 with e4 k5;clear e4;injection k5 with e5 k6;clear e5;injection k6 with e6 k7;subst k7;subst e6;have yZ:Hid (dn=D.length):=ae (by simpa using hD.len);have hdl:dn<499999:=by have:=yZ.out;omega
 have hpd:p<dn:=by have:=yZ.out;have:=(mV hp);omega
 have Ld:b4<w.heap.size:=(df h4);have Le:b5<w.heap.size:=(df h5);have H2:=ae h2;have H3:=ae h3;have H4:=ae h4;have H5:=ae h5;have H6:=ae h6;have HD:=ae hD;have HP:=ae hp;have HBF:=ae hbef;have HQ:=ae hQ;clear h2 h3 h4 h5 h6 hD hp hbef hQ;go_wp2_with fail
 go_loopw [10] (fun i wr=>∃ k:Nat,k≤p∧i=.int .i64 k∧Hid (Below w.heap.size w wr)) (fun i _=>dn - (intOf i).toNat)
 case atStart=>exact ⟨0,Nat.zero_le _,rfl,Below.refl _ _⟩
 case round =>
  obtain ⟨k,hk,rfl,bV⟩:=hrel;have hc24:wr.cell? ⟨b2,4,none⟩=some (.slice da dn dc):=blk bV.out H2.out 4;have hdk:decide ((k:Int)<(dn:Int))=true:=by simp;omega
  have hi1:(0:Int)≤(k:Int):=by omega
  have hi2:(k:Int)<(dn:Int):=by omega
  by_cases hlt:k<p
  ·obtain ⟨y,hy⟩:∃ y,D[k]? = some y:=⟨D[k]'(by rw [← yZ.out];omega),by simp⟩
   obtain ⟨b,off,ha,j4,hc0⟩:=(HD.out.later bV.out).el (i:=k) (x:=y.cells) (by simp [hy]);obtain rfl:da=some ⟨b,off,none⟩:=ha;have hnx:sN qc qs ag y=false:=HBF.out k y hlt hy;clear hy;obtain ⟨yc,ys,dM,yk,yf,yv,yg⟩:=y;have qO:Hid (∀ (j:Nat) (u:Value),(rP yc ys dM yk yf yv yg)[j]? = some u→wr.cell? ⟨b,off+k*7+j,none⟩=some u):=hc0;clear hc0;go_upto_region 14 with (first
    | (with_reducible show cB 52 57 ..;go_must (refine bB rfl _ _ rfl b (off+k*7) rfl 7 _ dD rfl (by kernel_rfl) (rP yc ys dM yk yf yv yg) rfl qO.out ?_))
    | (with_reducible show dJ 57 11 ..;go_must (refine fH wr.heap.size 0 (rP yc ys dM yk yf yv yg) _ bA 57 (heap_alloc_new wr _) (rP yc ys dM yk yf yv yg) ?_;intro w2 hw2 ho2;have HW2:=ae hw2;have HB2:Hid (Below wr.heap.size wr w2):=ae ((aj wr _).trans (ho2.below (Nat.le_refl _)));clear hw2 ho2)))
   have hq0:w2.cell? ⟨b3,0,none⟩=some (.int .u8 qc):=blk (ai bV.out HB2.out) H3.out 0;have hq1:w2.cell? ⟨b3,1,none⟩=some (.int .u32 qs):=blk (ai bV.out HB2.out) H3.out 1;have hq3:w2.cell? ⟨b3,3,none⟩=some (.int .u64 ag):=blk (ai bV.out HB2.out) H3.out 3;have hx0:w2.cell? ⟨wr.heap.size,0,none⟩=some (.int .u8 yc):=ah HW2.out 0;have hx1:w2.cell? ⟨wr.heap.size,1,none⟩=some (.int .u32 ys):=ah HW2.out 1;have hx2:w2.cell? ⟨wr.heap.size,2,none⟩=some (.int .u64 dM):=ah HW2.out 2;by_cases h1:dM=ag
   ·by_cases h2:yc=qc
    ·have hd1:(dM == ag)=true:=by simp [h1]
     have hd2:(yc == qc)=true:=by simp [h2]
     have hd3:(ys == qs)=false:=by simp [sN,h1,h2] at hnx;simp;exact hnx.1
     have hd4:decide (qs<ys)=false:=by simp [sN,h1,h2] at hnx;simp;omega
     clear hnx h1 h2 hc24;go_wp2_with fail
     go_roundw
     case rel=>exact ⟨k+1,by omega,by go_num,ai bV.out HB2.out⟩
     case measure=>simp [intOf];omega
    ·have hd1:(dM == ag)=true:=by simp [h1]
     have hd2:(yc == qc)=false:=by simp [h2]
     clear hnx h1 h2 hc24;go_wp2_with fail
     go_roundw
     case rel=>exact ⟨k+1,by omega,by go_num,ai bV.out HB2.out⟩
     case measure=>simp [intOf];omega
   ·have hd1:(dM == ag)=false:=by simp [h1]
    clear hnx h1 hc24;go_wp2_with fail
    go_roundw
    case rel=>exact ⟨k+1,by omega,by go_num,ai bV.out HB2.out⟩
    case measure=>simp [intOf];omega
  ·obtain rfl:k=p:=by omega
   obtain ⟨b,off,ha,j4,hc0⟩:=(HD.out.later bV.out).el (i:=k) (x:=(ak.mk qc qs ag xk xf xv xg).cells) (by simp [HP.out]);obtain rfl:da=some ⟨b,off,none⟩:=ha;have qO:Hid (∀ (j:Nat) (u:Value),(rP qc qs ag xk xf xv xg)[j]? = some u→wr.cell? ⟨b,off+k*7+j,none⟩=some u):=hc0;clear hc0;go_upto_region 14 with (first
    | (with_reducible show cB 52 57 ..;go_must (refine bB rfl _ _ rfl b (off+k*7) rfl 7 _ dD rfl (by kernel_rfl) (rP qc qs ag xk xf xv xg) rfl qO.out ?_))
    | (with_reducible show dJ 57 11 ..;go_must (refine fH wr.heap.size 0 (rP qc qs ag xk xf xv xg) _ bA 57 (heap_alloc_new wr _) (rP qc qs ag xk xf xv xg) ?_;intro w2 hw2 ho2;have HW2:=ae hw2;have HB2:Hid (Below wr.heap.size wr w2):=ae ((aj wr _).trans (ho2.below (Nat.le_refl _)));clear hw2 ho2)))
   have hq0:w2.cell? ⟨b3,0,none⟩=some (.int .u8 qc):=blk (ai bV.out HB2.out) H3.out 0;have hq1:w2.cell? ⟨b3,1,none⟩=some (.int .u32 qs):=blk (ai bV.out HB2.out) H3.out 1;have hq3:w2.cell? ⟨b3,3,none⟩=some (.int .u64 ag):=blk (ai bV.out HB2.out) H3.out 3;have hx0:w2.cell? ⟨wr.heap.size,0,none⟩=some (.int .u8 qc):=ah HW2.out 0;have hx1:w2.cell? ⟨wr.heap.size,1,none⟩=some (.int .u32 qs):=ah HW2.out 1;have hx2:w2.cell? ⟨wr.heap.size,2,none⟩=some (.int .u64 ag):=ah HW2.out 2;clear hc24;go_upto_region 15 with fail
   have h22:w2.heap[b2]? = some (.cells (rS g n ta tn tc ma mn mc (some ⟨b,off,none⟩) dn dc oa on oc ia il ic).toArray 31):=af (ai bV.out HB2.out) H2.out;have Ba:w2.heap[b4]? = some (.cells dS.toArray 31):=af (ai bV.out HB2.out) H4.out;have Bc:w2.heap[b5]? = some (.cells bA.toArray 57):=af (ai bV.out HB2.out) H5.out;have JC:w2.heap[wr.heap.size]? = some (.cells (rP qc qs ag xk xf xv xg).toArray 57):=HW2.out;have hzw:=bV.out.size;have m1:¬ b4=wr.heap.size:=by omega
   have m2:¬ b5=wr.heap.size:=by omega
   have m3:¬ wr.heap.size=b4:=by omega
   have m4:¬ wr.heap.size=b5:=by omega
   have hc2:=ah h22;have hc6:=ah JC;have hc4:=ah Ba;have r9:=ah Bc;have WU:=oh (Below.refl _ w2) Ba;have hf5:=oh (Below.refl _ w2) Bc;have Tp:=ae Ba;have Tq:=ae Bc;clear h22 Ba Bc JC;go_region
   go_wp2_with fail
   obtain ⟨k1,k2⟩:=j5 b4 31 (rS g n ta tn tc ma mn mc (some ⟨b,off,none⟩) dn dc oa on oc ia il ic) 0 dS w2 Tp.out (by simp);simp only [World.setCells,Nat.reduceAdd] at k1 k2;generalize ((((((w2.setCell ⟨b4,0,none⟩ (.int .u8 g)).setCell ⟨b4,1,none⟩ (.int .u8 n)).setCell ⟨b4,2,none⟩ (.slice ta tn tc)).setCell ⟨b4,3,none⟩ (.slice ma mn mc)).setCell ⟨b4,4,none⟩ (.slice (some ⟨b,off,none⟩) dn dc)).setCell ⟨b4,5,none⟩ (.slice oa on oc)).setCell ⟨b4,6,none⟩ (.slice ia il ic)=w6 at k1 k2 ⊢;obtain ⟨k3,k4⟩:=j5 b5 57 (rP qc qs ag xk xf xv xg) 0 bA w6 ((k2.block b5 n10).trans Tq.out) (by simp);simp only [World.setCells,Nat.reduceAdd] at k3 k4;generalize ((((((w6.setCell ⟨b5,0,none⟩ (.int .u8 qc)).setCell ⟨b5,1,none⟩ (.int .u32 qs)).setCell ⟨b5,2,none⟩ (.int .u64 ag)).setCell ⟨b5,3,none⟩ (.int .u8 xk)).setCell ⟨b5,4,none⟩ (.bool xf)).setCell ⟨b5,5,none⟩ (.int .u64 xv)).setCell ⟨b5,6,none⟩ (.int .u8 xg)=w7 at k3 k4 ⊢;have hA:w7.drew.heap[b4]? = some (.cells (rS g n ta tn tc ma mn mc (some ⟨b,off,none⟩) dn dc oa on oc ia il ic).toArray 31):=(k4.block b4 n5).trans k1;have hE:w7.drew.heap[b5]? = some (.cells (rP qc qs ag xk xf xv xg).toArray 57):=k3;refine bodyPost_ret (v:=.tuple #[.agg (rS g n ta tn tc ma mn mc (some ⟨b,off,none⟩) dn dc oa on oc ia il ic).toArray,.agg (rP qc qs ag xk xf xv xg).toArray]) (mY Tryz.results48 _ _ b4 b5 _ _ _ _ (0,0) (0,0) _ _ rfl hA rfl hE fE rfl (by kernel_rfl) dD rfl (by kernel_rfl)) rfl ?_;exact HQ.out _ ((av.later (ai bV.out HB2.out)).trans ((av.only k2 (.inl rfl)).trans (av.only (k4.trans (Only.drew _ _)) (.inr (.inl rfl)))))
theorem aeb {c d a0 a1 a2 a3 a4 a5:Code} (hc:Tryz.f48.body=some (a0.seq (a1.seq (a2.seq (a3.seq (a4.seq (a5.seq (c.seq d)))))))) {u0 u1 u7 u8 u9 jB jg jh ji jk jl u16 mW oz lJ nC mE mF mh jC jD jw j6 ig ik iq iw u32 jm jq jr jE jF jG jH jI jJ jK jL jM jN jO jP jQ jR jS jT jU jV jW jX jY kv ky kz kC kD kE kF u64 kG kH kg ko kI kJ kK kL kM kN kP kQ kR lK lL lN lQ lT lU lV lW lX lY lZ l7 l8 l9 mf mg mi mI nE nG nH nI fU fV fZ gm gp gq gu gy gz gB gF gG gH gJ gK gL gM gN gP gQ iA iB iC iD iE iF iG iH iI iJ iK iL iM iN iO iP iQ iR iT iU iV iW iX iY iZ jd je jf kU kV kW kX lg lh ll lu lv lC lD mJ mK mM mO mP mQ mR mU mZ ng ni nu ny:Value} (w:World) (b2 b3 b4 b5 b6:Nat) (g n:Int) (ta:Option Addr) (tn tc:Nat) (ma:Option Addr) (mn mc:Nat) (da:Option Addr) (dn dc:Nat) (oa:Option Addr) (on oc:Nat) (ia:Option Addr) (il ic:Nat) (qc qs qk ag qv au aA:Int) (D:List ak) (p:Nat) (xs xk:Int) (xf:Bool) (xv xg:Int)
 (h2:w.heap[b2]? = some (.cells (rS g n ta tn tc ma mn mc da dn dc oa on oc ia il ic).toArray 31)) (h3:w.heap[b3]? = some (.cells (rQ qc qs qk ag qv au aA).toArray 50)) (h6:w.heap[b6]? = some (.cells (rP qc qs ag 2 false 0 0).toArray 57)) (h4:w.heap[b4]? = some (.cells dS.toArray 31)) (h5:w.heap[b5]? = some (.cells bA.toArray 57))
 (hD:bQ w.heap.size w ⟨da,dn,dc⟩ 7 (D.map ak.cells)) (hl:D.length<499999) (hp:D[p]? = some (ak.mk qc xs ag xk xf xv xg)) (aaS:qs<xs) (hbef:∀ (j:Nat) (y:ak),j<p→D[j]? = some y→sN qc qs ag y=false)
 (_n1:¬ b4=b2) (n2:¬ b4=b6) (_n3:¬ b5=b2) (n4:¬ b5=b6) (n5:¬ b4=b5) (_n6:¬ b2=b4) (n7:¬ b6=b4) (n8:¬ b2=b5) (n9:¬ b6=b5) (n10:¬ b5=b4) (n11:¬ b6=b2) (n12:¬ b2=b6) (PP:Ending→World→Prop)
 (hQ:∀ w',av (fun k=>k=b4∨k=b5∨k=b6) w w'→PP (.returned (.tuple #[.agg (rS g n ta tn tc ma mn mc da dn dc oa on oc ia il ic).toArray,.agg (rP qc qs ag 4 false 0 0).toArray])) w') {K:Act→World→Prop} (hK:∀ a w,d.wp Tryz.prog (bodyPost Tryz.prog Tryz.f48 PP) a w→K a w) :
 c.wp Tryz.prog (Exit.then K (bodyPost Tryz.prog Tryz.f48 PP)) { tmps:=(List.toArray (α:=Value) (u0::u1::.pointer (some ⟨b2,0,none⟩)::.pointer (some ⟨b3,0,none⟩)::.pointer (some ⟨b4,0,none⟩)::.pointer (some ⟨b5,0,none⟩)::.pointer (some ⟨b6,0,none⟩)::u7::u8::u9::jB::jg::jh::ji::jk::jl::u16::mW::oz::lJ::nC::mE::mF::mh::jC::jD::jw::j6::ig::ik::iq::iw::u32::jm::jq::jr::jE::jF::jG::jH::jI::jJ::jK::jL::jM::jN::jO::jP::jQ::jR::jS::jT::jU::jV::jW::jX::jY::kv::ky::kz::kC::kD::kE::kF::u64::kG::kH::kg::ko::kI::kJ::kK::kL::kM::kN::kP::kQ::kR::lK::lL::lN::lQ::lT::lU::lV::lW::lX::lY::lZ::l7::l8::l9::mf::mg::mi::mI::nE::nG::nH::nI::fU::fV::fZ::gm::gp::gq::gu::gy::gz::gB::gF::gG::gH::gJ::gK::gL::gM::gN::gP::gQ::iA::iB::iC::iD::iE::iF::iG::iH::iI::iJ::iK::iL::iM::iN::iO::iP::iQ::iR::iT::iU::iV::iW::iX::iY::iZ::jd::je::jf::kU::kV::kW::kX::lg::lh::ll::lu::lv::lC::lD::mJ::mK::mM::mO::mP::mQ::mR::mU::mZ::ng::ni::nu::ny::[])),defers:=[] } w:=by
 injection hc with k0;injection k0 with e0 k1;clear e0;injection k1 with e1 k2;clear e1;injection k2 with e2 k3;clear e2;injection k3 with e3 k4;clear e3;injection k4 with e4 k5;clear e4;injection k5 with e5 k6;clear e5;injection k6 with e6 k7;subst k7;subst e6;have yZ:Hid (dn=D.length):=ae (by simpa using hD.len);have hdl:dn<499999:=by have:=yZ.out;omega
 have hpd:p<dn:=by have:=yZ.out;have:=(mV hp);omega
 have Ld:b4<w.heap.size:=(df h4);have Le:b5<w.heap.size:=(df h5);have H2:=ae h2;have H3:=ae h3;have H4:=ae h4;have H5:=ae h5;have H6:=ae h6;have HD:=ae hD;have HP:=ae hp;have HBF:=ae hbef;have HQ:=ae hQ;clear h2 h3 h4 h5 h6 hD hp hbef hQ;go_wp2_with fail
 go_loopw [10] (fun i wr=>∃ k:Nat,k≤p∧i=.int .i64 k∧Hid (Below w.heap.size w wr)) (fun i _=>dn - (intOf i).toNat)
 case atStart=>exact ⟨0,Nat.zero_le _,rfl,Below.refl _ _⟩
 case round =>
  obtain ⟨k,hk,rfl,bV⟩:=hrel;have hc24:wr.cell? ⟨b2,4,none⟩=some (.slice da dn dc):=blk bV.out H2.out 4;have hdk:decide ((k:Int)<(dn:Int))=true:=by simp;omega
  have hi1:(0:Int)≤(k:Int):=by omega
  have hi2:(k:Int)<(dn:Int):=by omega
  by_cases hlt:k<p
  ·obtain ⟨y,hy⟩:∃ y,D[k]? = some y:=⟨D[k]'(by rw [← yZ.out];omega),by simp⟩
   obtain ⟨b,off,ha,j4,hc0⟩:=(HD.out.later bV.out).el (i:=k) (x:=y.cells) (by simp [hy]);obtain rfl:da=some ⟨b,off,none⟩:=ha;have hnx:sN qc qs ag y=false:=HBF.out k y hlt hy;clear hy;obtain ⟨yc,ys,dM,yk,yf,yv,yg⟩:=y;have qO:Hid (∀ (j:Nat) (u:Value),(rP yc ys dM yk yf yv yg)[j]? = some u→wr.cell? ⟨b,off+k*7+j,none⟩=some u):=hc0;clear hc0;go_upto_region 14 with (first
    | (with_reducible show cB 52 57 ..;go_must (refine bB rfl _ _ rfl b (off+k*7) rfl 7 _ dD rfl (by kernel_rfl) (rP yc ys dM yk yf yv yg) rfl qO.out ?_))
    | (with_reducible show dJ 57 11 ..;go_must (refine fH wr.heap.size 0 (rP yc ys dM yk yf yv yg) _ bA 57 (heap_alloc_new wr _) (rP yc ys dM yk yf yv yg) ?_;intro w2 hw2 ho2;have HW2:=ae hw2;have HB2:Hid (Below wr.heap.size wr w2):=ae ((aj wr _).trans (ho2.below (Nat.le_refl _)));clear hw2 ho2)))
   have hq0:w2.cell? ⟨b3,0,none⟩=some (.int .u8 qc):=blk (ai bV.out HB2.out) H3.out 0;have hq1:w2.cell? ⟨b3,1,none⟩=some (.int .u32 qs):=blk (ai bV.out HB2.out) H3.out 1;have hq3:w2.cell? ⟨b3,3,none⟩=some (.int .u64 ag):=blk (ai bV.out HB2.out) H3.out 3;have hx0:w2.cell? ⟨wr.heap.size,0,none⟩=some (.int .u8 yc):=ah HW2.out 0;have hx1:w2.cell? ⟨wr.heap.size,1,none⟩=some (.int .u32 ys):=ah HW2.out 1;have hx2:w2.cell? ⟨wr.heap.size,2,none⟩=some (.int .u64 dM):=ah HW2.out 2;by_cases h1:dM=ag
   ·by_cases h2:yc=qc
    ·have hd1:(dM == ag)=true:=by simp [h1]
     have hd2:(yc == qc)=true:=by simp [h2]
     have hd3:(ys == qs)=false:=by simp [sN,h1,h2] at hnx;simp;exact hnx.1
     have hd4:decide (qs<ys)=false:=by simp [sN,h1,h2] at hnx;simp;omega
     clear hnx h1 h2 hc24;go_wp2_with fail
     go_roundw
     case rel=>exact ⟨k+1,by omega,by go_num,ai bV.out HB2.out⟩
     case measure=>simp [intOf];omega
    ·have hd1:(dM == ag)=true:=by simp [h1]
     have hd2:(yc == qc)=false:=by simp [h2]
     clear hnx h1 h2 hc24;go_wp2_with fail
     go_roundw
     case rel=>exact ⟨k+1,by omega,by go_num,ai bV.out HB2.out⟩
     case measure=>simp [intOf];omega
   ·have hd1:(dM == ag)=false:=by simp [h1]
    clear hnx h1 hc24;go_wp2_with fail
    go_roundw
    case rel=>exact ⟨k+1,by omega,by go_num,ai bV.out HB2.out⟩
    case measure=>simp [intOf];omega
  ·obtain rfl:k=p:=by omega
   obtain ⟨b,off,ha,j4,hc0⟩:=(HD.out.later bV.out).el (i:=k) (x:=(ak.mk qc xs ag xk xf xv xg).cells) (by simp [HP.out]);obtain rfl:da=some ⟨b,off,none⟩:=ha;have qO:Hid (∀ (j:Nat) (u:Value),(rP qc xs ag xk xf xv xg)[j]? = some u→wr.cell? ⟨b,off+k*7+j,none⟩=some u):=hc0;clear hc0;go_upto_region 14 with (first
    | (with_reducible show cB 52 57 ..;go_must (refine bB rfl _ _ rfl b (off+k*7) rfl 7 _ dD rfl (by kernel_rfl) (rP qc xs ag xk xf xv xg) rfl qO.out ?_))
    | (with_reducible show dJ 57 11 ..;go_must (refine fH wr.heap.size 0 (rP qc xs ag xk xf xv xg) _ bA 57 (heap_alloc_new wr _) (rP qc xs ag xk xf xv xg) ?_;intro w2 hw2 ho2;have HW2:=ae hw2;have HB2:Hid (Below wr.heap.size wr w2):=ae ((aj wr _).trans (ho2.below (Nat.le_refl _)));clear hw2 ho2)))
   have hq0:w2.cell? ⟨b3,0,none⟩=some (.int .u8 qc):=blk (ai bV.out HB2.out) H3.out 0;have hq1:w2.cell? ⟨b3,1,none⟩=some (.int .u32 qs):=blk (ai bV.out HB2.out) H3.out 1;have hq3:w2.cell? ⟨b3,3,none⟩=some (.int .u64 ag):=blk (ai bV.out HB2.out) H3.out 3;have hx0:w2.cell? ⟨wr.heap.size,0,none⟩=some (.int .u8 qc):=ah HW2.out 0;have hx1:w2.cell? ⟨wr.heap.size,1,none⟩=some (.int .u32 xs):=ah HW2.out 1;have hx2:w2.cell? ⟨wr.heap.size,2,none⟩=some (.int .u64 ag):=ah HW2.out 2;clear hc24;have hd3:(xs == qs)=false:=by simp;omega
   have hd4:decide (qs<xs)=true:=by simp;omega
   have Li:=ae (af (ai bV.out HB2.out) H6.out);go_upto_region 18 with (first
    | (with_reducible show dJ 5 93 ..;go_must (refine oZ b6 3 (.int .u8 4) (rP qc qs ag 2 false 0 0) 57 Li.out (rP qc qs ag 4 false 0 0) ?_;intro w3 h9 bJ;have H63:=ae h9;have pE:=ae bJ;clear h9 bJ)))
   clear hq0 hq1 hq3 hx0 hx1 hx2;have h22:w3.heap[b2]? = some (.cells (rS g n ta tn tc ma mn mc (some ⟨b,off,none⟩) dn dc oa on oc ia il ic).toArray 31):=(pE.out.block b2 n12).trans (af (ai bV.out HB2.out) H2.out);have Ba:w3.heap[b4]? = some (.cells dS.toArray 31):=(pE.out.block b4 n2).trans (af (ai bV.out HB2.out) H4.out);have Bc:w3.heap[b5]? = some (.cells bA.toArray 57):=(pE.out.block b5 n4).trans (af (ai bV.out HB2.out) H5.out);have JC:w3.heap[b6]? = some (.cells (rP qc qs ag 4 false 0 0).toArray 57):=H63.out;have hc2:=ah h22;have hc6:=ah JC;have hc4:=ah Ba;have r9:=ah Bc;have WU:=oh (Below.refl _ w3) Ba;have hf5:=oh (Below.refl _ w3) Bc;have Tp:=ae Ba;have Tq:=ae Bc;clear h22 Ba Bc JC;go_region
   go_wp2_with fail
   obtain ⟨k1,k2⟩:=j5 b4 31 (rS g n ta tn tc ma mn mc (some ⟨b,off,none⟩) dn dc oa on oc ia il ic) 0 dS w3 Tp.out (by simp);simp only [World.setCells,Nat.reduceAdd] at k1 k2;generalize ((((((w3.setCell ⟨b4,0,none⟩ (.int .u8 g)).setCell ⟨b4,1,none⟩ (.int .u8 n)).setCell ⟨b4,2,none⟩ (.slice ta tn tc)).setCell ⟨b4,3,none⟩ (.slice ma mn mc)).setCell ⟨b4,4,none⟩ (.slice (some ⟨b,off,none⟩) dn dc)).setCell ⟨b4,5,none⟩ (.slice oa on oc)).setCell ⟨b4,6,none⟩ (.slice ia il ic)=w6 at k1 k2 ⊢;obtain ⟨k3,k4⟩:=j5 b5 57 (rP qc qs ag 4 false 0 0) 0 bA w6 ((k2.block b5 n10).trans Tq.out) (by simp);simp only [World.setCells,Nat.reduceAdd] at k3 k4;generalize ((((((w6.setCell ⟨b5,0,none⟩ (.int .u8 qc)).setCell ⟨b5,1,none⟩ (.int .u32 qs)).setCell ⟨b5,2,none⟩ (.int .u64 ag)).setCell ⟨b5,3,none⟩ (.int .u8 4)).setCell ⟨b5,4,none⟩ (.bool false)).setCell ⟨b5,5,none⟩ (.int .u64 0)).setCell ⟨b5,6,none⟩ (.int .u8 0)=w7 at k3 k4 ⊢;have hA:w7.drew.heap[b4]? = some (.cells (rS g n ta tn tc ma mn mc (some ⟨b,off,none⟩) dn dc oa on oc ia il ic).toArray 31):=(k4.block b4 n5).trans k1;have hE:w7.drew.heap[b5]? = some (.cells (rP qc qs ag 4 false 0 0).toArray 57):=k3;refine bodyPost_ret (v:=.tuple #[.agg (rS g n ta tn tc ma mn mc (some ⟨b,off,none⟩) dn dc oa on oc ia il ic).toArray,.agg (rP qc qs ag 4 false 0 0).toArray]) (mY Tryz.results48 _ _ b4 b5 _ _ _ _ (0,0) (0,0) _ _ rfl hA rfl hE fE rfl (by kernel_rfl) dD rfl (by kernel_rfl)) rfl ?_;exact HQ.out _ (((av.later (ai bV.out HB2.out)).trans (av.only pE.out (.inr (.inr rfl)))).trans ((av.only k2 (.inl rfl)).trans (av.only (k4.trans (Only.drew _ _)) (.inr (.inl rfl)))))
end
end Go.Proofs.YtignemioillaiaaGreat
