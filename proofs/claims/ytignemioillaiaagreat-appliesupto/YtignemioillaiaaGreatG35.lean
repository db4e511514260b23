/- sameShard of two shards that hold the same. -/
import Derived.Test.YtignemioillaiaaGreatG34
import Derived.Test.YtignemioillaiaaGreatProg
import Derived.BigRegion
import Derived.OwnWalk
namespace Go.Proofs.YtignemioillaiaaGreat
set_option maxHeartbeats 8000000
set_option maxRecDepth 100000
section
open Go.RowKit Go.Lib
theorem ab7 {L L':List ax} (h:L'.map ax.core=L.map ax.core) {q:Nat} {l:ax} (hl:L[q]? = some l):∃ l',L'[q]? = some l'∧l'.next=l.next∧l'.q.map aF.core=l.q.map aF.core:=by
 have h1:(L'.map ax.core)[q]? = some l.core:=by rw [h];simp [hl]
 rw [List.getElem?_map] at h1;cases hl':L'[q]? with
 | none=>rw [hl'] at h1;simp at h1
 | some l' =>
  rw [hl'] at h1;simp only [Option.map_some,Option.some.injEq,ax.core,Prod.mk.injEq] at h1;exact ⟨l',rfl,h1.1,h1.2⟩
theorem ab8 {q q':List aF} (h:q'.map aF.core=q.map aF.core) {k:Nat} {r:aF} (hr:q[k]? = some r):∃ r',q'[k]? = some r'∧r'.core=r.core:=by
 have h1:(q'.map aF.core)[k]? = some r.core:=by rw [h];simp [hr]
 rw [List.getElem?_map] at h1;cases hr':q'[k]? with
 | none=>rw [hr'] at h1;simp at h1
 | some r' =>
  rw [hr'] at h1;simp only [Option.map_some,Option.some.injEq] at h1;exact ⟨r',rfl,h1⟩
theorem Rv (P P':Nat→Prop) (w:World) (g n:Int) (ta:Option Addr) (tn tc:Nat) (ma:Option Addr) (mn mc:Nat) (da:Option Addr) (dn dc:Nat) (oa:Option Addr) (on oc:Nat) (ia:Option Addr) (il ic:Nat) (wH:Option Addr) (wJ wK:Nat) (xV:Option Addr) (xW xX:Nat) (sw:Option Addr) (sF sG:Nat) (xY:Option Addr) (yN wL:Nat) (xZ:Option Addr) (yO yF:Nat) (T:List Row) (M:List Pc) (D:List ak) (L L':List ax) (I:List Int)
 (hS:ry P w ⟨ta,tn,tc⟩ ⟨ma,mn,mc⟩ ⟨da,dn,dc⟩ ⟨oa,on,oc⟩ ⟨ia,il,ic⟩ T M D L I) (hS1:ry P' w ⟨wH,wJ,wK⟩ ⟨xV,xW,xX⟩ ⟨sw,sF,sG⟩ ⟨xY,yN,wL⟩ ⟨xZ,yO,yF⟩ T M D L' I) (hco:L'.map ax.core=L.map ax.core) :
 Calls Tryz.prog 10 #[.agg (rS g n ta tn tc ma mn mc da dn dc oa on oc ia il ic).toArray,.agg (rS g n wH wJ wK xV xW xX sw sF sG xY yN wL xZ yO yF).toArray] w fun e w'=>e=.returned (.bool true)∧Below w.heap.size w w':=by
 have hLL:L'.length=L.length:=by have:=congrArg List.length hco;simpa using this
 obtain rfl:on=L.length:=hS.o.len;obtain rfl:yN=L.length:=by have:=hS1.o.len;dsimp only at this;omega
 obtain rfl:il=I.length:=hS.i.len;obtain rfl:yO=I.length:=hS1.i.len;have hmO:L.length≤maxLen:=Nat.le_trans hS.o.at_.le hS.o.at_.max;have hmI:I.length≤maxLen:=Nat.le_trans hS.i.at_.le hS.i.at_.max;unfold maxLen at hmO hmI;obtain ⟨on,hon⟩:∃ on,on=L.length:=⟨_,rfl⟩;obtain ⟨il,hil⟩:∃ il,il=I.length:=⟨_,rfl⟩;rw [← hon] at hS hS1 hmO ⊢;rw [← hil] at hS hS1 hmI ⊢;obtain ⟨W,hW⟩:∃ W,W=(w.alloc (.cells (rS g n ta tn tc ma mn mc da dn dc oa on oc ia il ic).toArray 31)).alloc (.cells (rS g n wH wJ wK xV xW xX sw sF sG xY on wL xZ il yF).toArray 31):=⟨_,rfl⟩;have h2:W.heap[w.heap.size]? = some (.cells (rS g n ta tn tc ma mn mc da dn dc oa on oc ia il ic).toArray 31):=by rw [hW];exact heap_alloc2_old w _ _
 have h3:W.heap[w.heap.size+1]? = some (.cells (rS g n wH wJ wK xV xW xX sw sF sG xY on wL xZ il yF).toArray 31):=by rw [hW];exact heap_alloc2_new w _ _
 have bE:Below w.heap.size w W:=by rw [hW];exact ai (aj _ _) (aj _ _)
 obtain ⟨b3,hb3⟩:∃ b3,w.heap.size+1=b3:=⟨_,rfl⟩;obtain ⟨b2,hb2⟩:∃ b2,w.heap.size=b2:=⟨_,rfl⟩;rw [hb3] at h3;have h2':W.heap[b2]? = some (.cells (rS g n ta tn tc ma mn mc da dn dc oa on oc ia il ic).toArray 31):=by rw [← hb2];exact h2
 have Br:=ae (And.intro hb2 hb3);have HS:=ae (hS.later bE);have uH:=ae (hS1.later bE);have o9:=ae hco;have NN:Hid (on=L.length):=ae hon;have TN:Hid (il=I.length):=ae hil;have dQ:=ae bE;have H2:=ae h2';have H3:=ae h3;have hc2:=ah h2';have hc3:=ah h3;clear h2 h2' h3 bE hS hS1 hco hon hil hLL hb2 hb3;go_enter Tryz.func10,Tryz.ntmps10
 go_upto_region 1 with fail
 rw [← hW];clear hW;obtain ⟨hb2,hb3⟩:=Br.out;rw [hb3,hb2];clear hb2 hb3;go_upto_region 4 with (first
  | (go_at_call 38;go_must (refine (JW ta tn tc wH wJ wK T _ HS.out.t.at_ uH.out.t.at_).mono ?_;rintro e w1 ⟨rfl,hb1⟩;have HB1:=ae hb1;clear hb1;have hd2:=ah (af HB1.out H2.out);have hd3:=ah (af HB1.out H3.out);clear hc2 hc3))
  | (go_at_call 39;go_must (refine (OQ ma mn mc xV xW xX M _ (HS.out.m.later HB1.out).at_ (uH.out.m.later HB1.out).at_).mono ?_;rintro e w2 ⟨rfl,hb2⟩;have HB2:=ae (ai HB1.out hb2);clear hb2;have hc2:=ah (af HB2.out H2.out);have hc3:=ah (af HB2.out H3.out);clear hd2 hd3))
  | (go_at_call 40;go_must (refine (JX da dn dc sw sF sG D _ (HS.out.d.later HB2.out).at_ (uH.out.d.later HB2.out).at_).mono ?_;rintro e w3 ⟨rfl,hb3⟩;have HB3:=ae (ai HB2.out hb3);clear hb3 hc2 hc3)))
 have hc2:=ah (af HB3.out H2.out);have hc3:=ah (af HB3.out H3.out);go_wp2_with fail
 go_loopw [8] (fun i wr=>∃ k:Nat,k≤il∧i=.int .i64 k∧Hid (Below W.heap.size W wr)) (fun i _=>il - (intOf i).toNat)
 case atStart=>exact ⟨0,Nat.zero_le _,rfl,HB3⟩
 case round =>
  clear hc2 hc3;obtain ⟨k,hk,rfl,bV⟩:=hrel;have hc2:=ah (af bV.out H2.out);have hc3:=ah (af bV.out H3.out);by_cases hlt:k<il
  ·have hdk:decide ((k:Int)<(il:Int))=true:=by simp;omega
   obtain ⟨x,hx⟩:∃ x,I[k]? = some x:=⟨I[k]'(by rw [← TN.out];exact hlt),by simp⟩;obtain ⟨ib,io,hia,hib,hic⟩:=(HS.out.i.later bV.out).at_.el (i:=k) (x:=yA x) (by simp [hx]);obtain ⟨jb,jo,hja,hjb,hjc⟩:=(uH.out.i.later bV.out).at_.el (i:=k) (x:=yA x) (by simp [hx]);obtain rfl:ia=some ⟨ib,io,none⟩:=hia;obtain rfl:xZ=some ⟨jb,jo,none⟩:=hja;have hx1:wr.cell? ⟨ib,io+k,none⟩=some (.int .u32 x):=by simpa using hic 0 _ rfl
   have hx2:wr.cell? ⟨jb,jo+k,none⟩=some (.int .u32 x):=by simpa using hjc 0 _ rfl
   have hi1:(0:Int)≤(k:Int):=by omega
   have hi2:(k:Int)<(il:Int):=by omega
   clear hic hjc hx;go_upto_region 9 with fail
   go_quiet (fail)
   go_wp2_with fail
   go_roundw
   case rel=>exact ⟨k+1,by omega,by go_num,ae (below_drewN bV.out _)⟩
   case measure=>simp [intOf];omega
  ·have hdk:decide ((k:Int)<(il:Int))=false:=by simp;omega
   go_wp2_with fail
   clear hlt hk;go_loopw [9] (fun i wr=>∃ q:Nat,q≤on∧i=.int .i64 q∧Hid (Below W.heap.size W wr)) (fun i _=>on - (intOf i).toNat)
   case atStart=>exact ⟨0,Nat.zero_le _,rfl,bV⟩
   case round =>
    clear hc2 hc3 hdk bV;obtain ⟨q,hq,rfl,bV⟩:=hrel;have hc2:=ah (af bV.out H2.out);have hc3:=ah (af bV.out H3.out);by_cases hlt:q<on
    ·have hdk:decide ((q:Int)<(on:Int))=true:=by simp;omega
     obtain ⟨l,hl⟩:∃ l,L[q]? = some l:=⟨L[q]'(by rw [← NN.out];exact hlt),by simp⟩;obtain ⟨l1,hl1,hn1,hq1⟩:=ab7 o9.out hl;obtain ⟨lnx,⟨la,ln,lc⟩,lq⟩:=l;obtain ⟨OU,⟨Yq,Ac,Vp⟩,lq1⟩:=l1;dsimp only at hn1 hq1;subst hn1;obtain ⟨ob,oo,hoa,Jc,hox⟩:=HS.out.o.at_.el (i:=q) (x:=(ax.mk OU ⟨la,ln,lc⟩ lq).cells) (by simp [hl]);obtain ⟨pb,po,hpa,hpb,hpx⟩:=uH.out.o.at_.el (i:=q) (x:=(ax.mk OU ⟨Yq,Ac,Vp⟩ lq1).cells) (by simp [hl1]);obtain rfl:oa=some ⟨ob,oo,none⟩:=hoa;obtain rfl:xY=some ⟨pb,po,none⟩:=hpa;have Yr:=ae (HS.out.ln _ (List.mem_of_getElem? hl));have Gz:=ae (uH.out.ln _ (List.mem_of_getElem? hl1));have pz:=ae hq1;have hlen:ln=lq.length:=Yr.out.q.len;have hlen1:Ac=lq1.length:=Gz.out.q.len;have hll:lq1.length=lq.length:=by have:=congrArg List.length hq1;simpa using this
     obtain rfl:Ac=ln:=by omega
     have zw:Hid (Ac=lq.length):=ae hlen;have hmq:Ac≤maxLen:=Nat.le_trans Yr.out.q.at_.le Yr.out.q.at_.max;unfold maxLen at hmq;have HX0:Hid (W.cell? ⟨ob,oo+q*2,none⟩=some (.int .u32 OU)):=ae (by simpa using hox 0 _ rfl);have JA:Hid (W.cell? ⟨ob,oo+q*2+1,none⟩=some (.slice la Ac lc)):=ae (hox 1 _ rfl);have HY0:Hid (W.cell? ⟨pb,po+q*2,none⟩=some (.int .u32 OU)):=ae (by simpa using hpx 0 _ rfl);have HY1:Hid (W.cell? ⟨pb,po+q*2+1,none⟩=some (.slice Yq Ac Vp)):=ae (hpx 1 _ rfl);have hx0:wr.cell? ⟨ob,oo+q*2,none⟩=some (.int .u32 OU):=(bV.out.cell (p:=⟨ob,oo+q*2,none⟩) Jc).trans HX0.out;have hx1:wr.cell? ⟨ob,oo+q*2+1,none⟩=some (.slice la Ac lc):=(bV.out.cell (p:=⟨ob,oo+q*2+1,none⟩) Jc).trans JA.out;have hy0:wr.cell? ⟨pb,po+q*2,none⟩=some (.int .u32 OU):=(bV.out.cell (p:=⟨pb,po+q*2,none⟩) hpb).trans HY0.out;have hy1:wr.cell? ⟨pb,po+q*2+1,none⟩=some (.slice Yq Ac Vp):=(bV.out.cell (p:=⟨pb,po+q*2+1,none⟩) hpb).trans HY1.out;have hi1:(0:Int)≤(q:Int):=by omega
     have hi2:(q:Int)<(on:Int):=by omega
     clear hox hpx hl hl1 hlen hlen1 hll hq1;go_upto_region 14 with fail
     go_quiet (fail)
     have fu:Hid (Below W.heap.size W (wr.drewN nq)):=ae (below_drewN bV.out _);generalize wr.drewN nq=w5 at fu;clear hx0 hx1 hy0 hy1 hc2 hc3 bV;go_wp2_with fail
     go_loopw [10] (fun i wr=>∃ k:Nat,k≤Ac∧i=.int .i64 k∧Hid (Below W.heap.size W wr)) (fun i _=>Ac - (intOf i).toNat)
     case atStart=>exact ⟨0,Nat.zero_le _,rfl,fu⟩
     case round =>
      obtain ⟨k,hk,rfl,bV⟩:=hrel;have H2z:=ae (af bV.out H2.out);have H3z:=ae (af bV.out H3.out);have r9:wr.cell? ⟨b2,5,none⟩=some (.slice (some ⟨ob,oo,none⟩) on oc):=ah H2z.out 5;have aiv:ob<wr.heap.size:=Nat.lt_of_lt_of_le Jc bV.out.size;have aiw:pb<wr.heap.size:=Nat.lt_of_lt_of_le hpb bV.out.size;have hx1:wr.cell? ⟨ob,oo+q*2+1,none⟩=some (.slice la Ac lc):=(bV.out.cell (p:=⟨ob,oo+q*2+1,none⟩) Jc).trans JA.out;have hx2:wr.cell? ⟨pb,po+q*2+1,none⟩=some (.slice Yq Ac Vp):=(bV.out.cell (p:=⟨pb,po+q*2+1,none⟩) hpb).trans HY1.out;by_cases hlk:k<Ac
      ·have Ad:decide ((k:Int)<(Ac:Int))=true:=by simp;omega
       obtain ⟨r,hr⟩:∃ r,lq[k]? = some r:=⟨lq[k]'(by rw [← zw.out];exact hlk),by simp⟩;obtain ⟨r1,hr1,hrc⟩:=ab8 pz.out hr;have Py:=ae (Yr.out.rg r (List.mem_of_getElem? hr));have HR1:=ae (Gz.out.rg r1 (List.mem_of_getElem? hr1));obtain ⟨sb,so,hsa,hsb,hsc⟩:=(Yr.out.q.later bV.out).at_.el (i:=k) (x:=r.cells) (by simp [hr]);obtain ⟨ub,uo,hua,hub,huc⟩:=(Gz.out.q.later bV.out).at_.el (i:=k) (x:=r1.cells) (by simp [hr1]);obtain rfl:la=some ⟨sb,so,none⟩:=hsa;obtain rfl:Yq=some ⟨ub,uo,none⟩:=hua;obtain ⟨Mf,Mg,IG,TU,TV,⟨JP,JQ,JR⟩,⟨JS,JU,JV⟩,Wl,Wm⟩:=r;obtain ⟨Mh,Mi,Mj,TW,TY,⟨yra,yrn,yrc⟩,⟨yda,ydn,ydc⟩,afq,afr⟩:=r1;simp only [aF.core,Rg.mk.injEq] at hrc;obtain ⟨rfl,rfl,rfl,rfl,rfl,rfl,rfl⟩:=hrc;have hs0:wr.cell? ⟨sb,so+k*7,none⟩=some (.int .u8 Mh):=by simpa using hsc 0 _ rfl
       have hs1:wr.cell? ⟨sb,so+k*7+1,none⟩=some (.int .u8 Mi):=hsc 1 _ rfl;have hs2:wr.cell? ⟨sb,so+k*7+2,none⟩=some (.int .u32 Mj):=hsc 2 _ rfl;have hs3:wr.cell? ⟨sb,so+k*7+3,none⟩=some (.int .u64 TW):=hsc 3 _ rfl;have hs4:wr.cell? ⟨sb,so+k*7+4,none⟩=some (.int .u64 TY):=hsc 4 _ rfl;have hs5:wr.cell? ⟨sb,so+k*7+5,none⟩=some (.slice JP JQ JR):=hsc 5 _ rfl;have hs6:wr.cell? ⟨sb,so+k*7+6,none⟩=some (.slice JS JU JV):=hsc 6 _ rfl;have hu0:wr.cell? ⟨ub,uo+k*7,none⟩=some (.int .u8 Mh):=by simpa using huc 0 _ rfl
       have hu1:wr.cell? ⟨ub,uo+k*7+1,none⟩=some (.int .u8 Mi):=huc 1 _ rfl;have hu2:wr.cell? ⟨ub,uo+k*7+2,none⟩=some (.int .u32 Mj):=huc 2 _ rfl;have hu3:wr.cell? ⟨ub,uo+k*7+3,none⟩=some (.int .u64 TW):=huc 3 _ rfl;have hu4:wr.cell? ⟨ub,uo+k*7+4,none⟩=some (.int .u64 TY):=huc 4 _ rfl;have hu5:wr.cell? ⟨ub,uo+k*7+5,none⟩=some (.slice yra yrn yrc):=huc 5 _ rfl;have hu6:wr.cell? ⟨ub,uo+k*7+6,none⟩=some (.slice yda ydn ydc):=huc 6 _ rfl;have hi3:(0:Int)≤(k:Int):=by omega
       have hi4:(k:Int)<(Ac:Int):=by omega
       clear hsc huc hr hr1;have MK:Hid (∀ w',Below wr.heap.size wr w'→(fun w'=>Below wr.heap.size wr w'∧w'.cell? ⟨b2,5,none⟩=some (.slice (some ⟨ob,oo,none⟩) on oc)∧w'.cell? ⟨b3,5,none⟩=some (.slice (some ⟨pb,po,none⟩) on wL)∧w'.cell? ⟨ob,oo+q*2+1,none⟩=some (.slice (some ⟨sb,so,none⟩) Ac lc)∧w'.cell? ⟨pb,po+q*2+1,none⟩=some (.slice (some ⟨ub,uo,none⟩) Ac Vp)∧w'.cell? ⟨sb,so+k*7,none⟩=some (.int .u8 Mh)∧w'.cell? ⟨sb,so+k*7+1,none⟩=some (.int .u8 Mi)∧w'.cell? ⟨sb,so+k*7+2,none⟩=some (.int .u32 Mj)∧w'.cell? ⟨sb,so+k*7+3,none⟩=some (.int .u64 TW)∧w'.cell? ⟨sb,so+k*7+4,none⟩=some (.int .u64 TY)∧w'.cell? ⟨sb,so+k*7+5,none⟩=some (.slice JP JQ JR)∧w'.cell? ⟨sb,so+k*7+6,none⟩=some (.slice JS JU JV)∧w'.cell? ⟨ub,uo+k*7,none⟩=some (.int .u8 Mh)∧w'.cell? ⟨ub,uo+k*7+1,none⟩=some (.int .u8 Mi)∧w'.cell? ⟨ub,uo+k*7+2,none⟩=some (.int .u32 Mj)∧w'.cell? ⟨ub,uo+k*7+3,none⟩=some (.int .u64 TW)∧w'.cell? ⟨ub,uo+k*7+4,none⟩=some (.int .u64 TY)∧w'.cell? ⟨ub,uo+k*7+5,none⟩=some (.slice yra yrn yrc)∧w'.cell? ⟨ub,uo+k*7+6,none⟩=some (.slice yda ydn ydc)) w'):=ae fun w' hb=>⟨hb,blk hb H2z.out 5,blk hb H3z.out 5,(hb.cell (p:=⟨ob,oo+q*2+1,none⟩) aiv).trans hx1,(hb.cell (p:=⟨pb,po+q*2+1,none⟩) aiw).trans hx2,(hb.cell (p:=⟨sb,so+k*7,none⟩) hsb).trans hs0,(hb.cell (p:=⟨sb,so+k*7+1,none⟩) hsb).trans hs1,(hb.cell (p:=⟨sb,so+k*7+2,none⟩) hsb).trans hs2,(hb.cell (p:=⟨sb,so+k*7+3,none⟩) hsb).trans hs3,(hb.cell (p:=⟨sb,so+k*7+4,none⟩) hsb).trans hs4,(hb.cell (p:=⟨sb,so+k*7+5,none⟩) hsb).trans hs5,(hb.cell (p:=⟨sb,so+k*7+6,none⟩) hsb).trans hs6,(hb.cell (p:=⟨ub,uo+k*7,none⟩) hub).trans hu0,(hb.cell (p:=⟨ub,uo+k*7+1,none⟩) hub).trans hu1,(hb.cell (p:=⟨ub,uo+k*7+2,none⟩) hub).trans hu2,(hb.cell (p:=⟨ub,uo+k*7+3,none⟩) hub).trans hu3,(hb.cell (p:=⟨ub,uo+k*7+4,none⟩) hub).trans hu4,(hb.cell (p:=⟨ub,uo+k*7+5,none⟩) hub).trans hu5,(hb.cell (p:=⟨ub,uo+k*7+6,none⟩) hub).trans hu6⟩
       go_upto_region 19 with fail
       go_region_held3 (fun w'=>Below wr.heap.size wr w'∧w'.cell? ⟨b2,5,none⟩=some (.slice (some ⟨ob,oo,none⟩) on oc)∧w'.cell? ⟨b3,5,none⟩=some (.slice (some ⟨pb,po,none⟩) on wL)∧w'.cell? ⟨ob,oo+q*2+1,none⟩=some (.slice (some ⟨sb,so,none⟩) Ac lc)∧w'.cell? ⟨pb,po+q*2+1,none⟩=some (.slice (some ⟨ub,uo,none⟩) Ac Vp)∧w'.cell? ⟨sb,so+k*7,none⟩=some (.int .u8 Mh)∧w'.cell? ⟨sb,so+k*7+1,none⟩=some (.int .u8 Mi)∧w'.cell? ⟨sb,so+k*7+2,none⟩=some (.int .u32 Mj)∧w'.cell? ⟨sb,so+k*7+3,none⟩=some (.int .u64 TW)∧w'.cell? ⟨sb,so+k*7+4,none⟩=some (.int .u64 TY)∧w'.cell? ⟨sb,so+k*7+5,none⟩=some (.slice JP JQ JR)∧w'.cell? ⟨sb,so+k*7+6,none⟩=some (.slice JS JU JV)∧w'.cell? ⟨ub,uo+k*7,none⟩=some (.int .u8 Mh)∧w'.cell? ⟨ub,uo+k*7+1,none⟩=some (.int .u8 Mi)∧w'.cell? ⟨ub,uo+k*7+2,none⟩=some (.int .u32 Mj)∧w'.cell? ⟨ub,uo+k*7+3,none⟩=some (.int .u64 TW)∧w'.cell? ⟨ub,uo+k*7+4,none⟩=some (.int .u64 TY)∧w'.cell? ⟨ub,uo+k*7+5,none⟩=some (.slice yra yrn yrc)∧w'.cell? ⟨ub,uo+k*7+6,none⟩=some (.slice yda ydn ydc)) (first | exact MK.out _ (Below.refl _ _).drew | exact MK.out _ (fB (by assumption) (by assumption)) | exact MK.out _ (fI (by assumption))) (first | (go_at_call 41;refine (CZ Mh Mi Mj TW TY JP JQ JR JS JU JV yra yrn yrc yda ydn ydc afq afr _ (Py.out.rows.later (ai bV.out (And.left (by assumption)))).at_ (Py.out.bP.later (ai bV.out (And.left (by assumption)))).at_ (HR1.out.rows.later (ai bV.out (And.left (by assumption)))).at_ (HR1.out.bP.later (ai bV.out (And.left (by assumption)))).at_).mono ?_;rintro e w6 ⟨rfl,hb6⟩))
       have xR:Hid (Below W.heap.size W w6):=ae (ai bV.out (And.left (by assumption)));go_wp2_with fail
       go_roundw
       case rel=>exact ⟨k+1,by omega,by go_num,xR⟩
       case measure=>simp [intOf];omega
      ·have Ad:decide ((k:Int)<(Ac:Int))=false:=by simp;omega
       clear hx2;go_wp2_with fail
       go_roundw
       case rel=>exact ⟨q+1,by omega,by go_num,bV⟩
       case measure=>simp [intOf];omega
    ·have hdk:decide ((q:Int)<(on:Int))=false:=by simp;omega
     go_wp2_with fail
     go_ret
     exact ⟨rfl,dQ.out.trans (bV.out.mono dQ.out.size)⟩
theorem Sl.val_inj {a b:Sl} (h:a.val=b.val):a=b:=by
 obtain ⟨a1,a2,a3⟩:=a;obtain ⟨b1,b2,b3⟩:=b;simp only [Sl.val,Value.slice.injEq] at h;obtain ⟨rfl,rfl,rfl⟩:=h;rfl
theorem TZ {P:Nat→Prop} {w:World} {base:Nat} {e:TypeId} {size:Nat} {s:Sl} {α:Type} {f:α→List Value} {l:List α} (hP:∀ k,base≤k→¬ P k) (h:w.ownsRow base e size s.val l.length (l.map f).flatten) (hf:∀ y,(f y).length=size):fT P w s size (l.map f):=by
 obtain ⟨s',hv,hr⟩:=eH hP h hf;rw [Sl.val_inj hv];exact hr
theorem kY {L:List ax} {l:ax} {r:aF} (hl:l∈L) (hr:r∈l.q):r∈mH L:=List.mem_flatMap.2 ⟨l,hl,hr⟩
theorem ShM.rd {w:World} {base:Nat} {vT vM vD vO vI:Value} {T:List Row} {M:List Pc} {D:List ak} {L:List ax} {I:List Int} (h:ShM w base vT vM vD vO vI T M D L I) :
 ∃ sT sM sD sO sI:Sl,vT=sT.val∧vM=sM.val∧vD=sD.val∧vO=sO.val∧vI=sI.val∧ry (fun _=>False) w sT sM sD sO sI T M D L I:=by
 have hP:∀ k,base≤k→¬ (fun _:Nat=>False) k:=fun _ _ h=>h
 obtain ⟨sT,eT,rT⟩:=eH hP h.oT (fun _=>rfl);obtain ⟨sM,eM,rM⟩:=eH hP h.oM (fun _=>rfl);obtain ⟨sD,eD,rD⟩:=eH hP h.oD (fun _=>rfl);obtain ⟨sO,eO,rO⟩:=eH hP h.oO (fun _=>rfl);obtain ⟨sI,eI,rI⟩:=eH hP h.oI FR;refine ⟨sT,sM,sD,sO,sI,eT,eM,eD,eO,eI,rT,rM,rD,rO,rI,fun l hl=>⟨TZ hP (h.ln.own l hl) (fun _=>rfl),fun r hr=>⟨TZ hP (h.ln.rm.rows r (kY hl hr)) (fun _=>rfl),TZ hP (h.ln.rm.bP r (kY hl hr)) (fun _=>rfl)⟩⟩⟩
def vg (c:dY):Nat:=1+c.qE.rows.length+c.qE.bP.length
theorem ZU {s:St} (hs:ku s) {r:aF} {N:Nat} (h:nL N s):nL (N+(1+r.rows.length+r.bP.length)) (pW s r.ok r.core):=by
 unfold pW;split
 ·rename_i c
  obtain ⟨hr,hn,hg⟩:=c;obtain ⟨_,hlh,h1,h2⟩:=FW hr;have b1:(sB (fun x:Row=>x.key) r.lo s.T++sA (fun x:Row=>x.key) r.lo r.hi s.T).length≤s.T.length:=Av hlh hs.sT.le;have b2:(sB (fun x:ak=>x.key) r.lo s.D++sA (fun x:ak=>x.key) r.lo r.hi s.D).length≤s.D.length:=Av hlh hs.sD.le;simp only [List.length_append] at b1 b2;refine ⟨?_,?_,fun x hx=>(h.mono (by omega)).q x hx⟩
  ·have:=h.t
   simp only [aF.core,List.length_append];omega
  ·have:=h.d
   simp only [aF.core,List.length_append];omega
 ·exact h.mono (by omega)
theorem ZV {s:St} (hs:ku s) {c:dY} (hq:0≤c.zq.key∧c.zq.hi<18446744073709551616∧0≤c.zq.to) {N:Nat} (h:nL N s):nL (N+vg c) (iy s c).1:=by
 unfold iy vg;split
 ·exact ((Tz hs hq).2 N h).mono (by omega)
 ·split
  ·exact ZU hs h
  ·split
   ·exact ((TA hs _ _).2 N h).mono (by omega)
   ·exact h.mono (by omega)
theorem ZW {g n:Int} {T:List Row} {M:List Pc} {D:List ak} {L:List ax} {I:List Int} {N:Nat} (h:nL N ⟨g,n,T,M,D,L.map ax.core,I⟩):∀ l∈L,l.q.length<N:=by
 intro l hl;have:=(h.q l.core (List.mem_map.2 ⟨l,hl,rfl⟩)).1;simpa [ax.core] using this
theorem Hd (P:Nat→Prop) (w:World) (g n:Int) (ta:Option Addr) (tn tc:Nat) (ma:Option Addr) (mn mc:Nat) (da:Option Addr) (dn dc:Nat) (oa:Option Addr) (on oc:Nat) (ia:Option Addr) (il ic:Nat) (aG:Int) (di dh dw aO dx bK bL:Int) (aH aK aL bu aW:Int) (aQ:Option Addr) (aX aR:Nat) (aS:Option Addr) (aY aU:Nat) (aN bW:Int) (aI:List Row) (aJ:List ak) (T:List Row) (M:List Pc) (D:List ak) (L:List ax) (I:List Int)
 (hS:ry P w ⟨ta,tn,tc⟩ ⟨ma,mn,mc⟩ ⟨da,dn,dc⟩ ⟨oa,on,oc⟩ ⟨ia,il,ic⟩ T M D L I) (hok:ku (St.mk g n T M D (L.map ax.core) I)) (hsm:nL 490000 (St.mk g n T M D (L.map ax.core) I)) (hP:∀ k,w.heap.size≤k→¬ P k) (Ll:fT P w ⟨aQ,aX,aR⟩ 2 (aI.map Row.cells)) (G7:fT P w ⟨aS,aY,aU⟩ 7 (aJ.map ak.cells)) (hwf:(dY.mk aG (bH.mk di dh dw aO dx bK bL) (aF.mk aH aK aL bu aW ⟨aQ,aX,aR⟩ ⟨aS,aY,aU⟩ aI aJ) aN bW).wf) :
 Calls Tryz.prog 13 #[.agg (rS g n ta tn tc ma mn mc da dn dc oa on oc ia il ic).toArray,.agg (rC aG di dh dw aO dx bK bL aH aK aL bu aW aQ aX aR aS aY aU aN bW).toArray] w fun e w'=>Cc P w g n (iy (St.mk g n T M D (L.map ax.core) I) (dY.mk aG (bH.mk di dh dw aO dx bK bL) (aF.mk aH aK aL bu aW ⟨aQ,aX,aR⟩ ⟨aS,aY,aU⟩ aI aJ) aN bW)) e w':=by
 rw [← abV hok hwf.zq.key.1];have gY:T.length<490000:=hsm.t;have gU:D.length<490000:=hsm.d;cases h1:(aG == 1) with
 | true=>exact ab5 P w g n ta tn tc ma mn mc da dn dc oa on oc ia il ic aG di dh dw aO dx bK bL aH aK aL bu aW aQ aX aR aS aY aU aN bW aI aJ T M D L I hS hok gY gU hP h1 hwf.zq
 | false =>
  cases h2:(aG == 2) with
  | true=>exact UL P w g n ta tn tc ma mn mc da dn dc oa on oc ia il ic aG di dh dw aO dx bK bL aH aK aL bu aW aQ aX aR aS aY aU aN bW aI aJ T M D L I hS hok gY gU hP h1 h2 Ll G7 hwf.qE
  | false =>
   cases h3:(aG == 3) with
   | true=>exact ab6 P w g n ta tn tc ma mn mc da dn dc oa on oc ia il ic aG di dh dw aO dx bK bL aH aK aL bu aW aQ aX aR aS aY aU aN bW aI aJ T M D L I hS hok gY gU hP h1 h2 h3 hwf.peer.1 (fun l hl=>Nat.lt_trans (ZW hsm l hl) (by omega))
   | false=>exact ab4 P w g n ta tn tc ma mn mc da dn dc oa on oc ia il ic aG di dh dw aO dx bK bL aH aK aL bu aW aQ aX aR aS aY aU aN bW aI aJ T M D L I hS hok gY gU hP h1 h2 h3
theorem Ay (w:World) (g n:Int) (vT vM vD vO vI:Value) (T:List Row) (M:List Pc) (D:List ak) (L:List ax) (I:List Int) (aG:Int) (di dh dw aO dx bK bL:Int) (aH aK aL bu aW:Int) (aQ:Option Addr) (aX aR:Nat) (aS:Option Addr) (aY aU:Nat) (aN bW:Int) (aI:List Row) (aJ:List ak) (h:ShM w 0 vT vM vD vO vI T M D L I) (hok:ku ⟨g,n,T,M,D,L.map ax.core,I⟩) (hsm:nL 490000 ⟨g,n,T,M,D,L.map ax.core,I⟩) (hr:bQ w.heap.size w ⟨aQ,aX,aR⟩ 2 (aI.map Row.cells)) (hrn:aQ=none→aR=0) (hd:bQ w.heap.size w ⟨aS,aY,aU⟩ 7 (aJ.map ak.cells)) (hdn:aS=none→aU=0) (hl1:aI.length<490000) (hl2:aJ.length<490000) (hwf:(dY.mk aG (bH.mk di dh dw aO dx bK bL) (aF.mk aH aK aL bu aW ⟨aQ,aX,aR⟩ ⟨aS,aY,aU⟩ aI aJ) aN bW).wf) :
 Calls Tryz.prog 12 #[.agg (rW g n vT vM vD vO vI).toArray,.agg (rC aG di dh dw aO dx bK bL aH aK aL bu aW aQ aX aR aS aY aU aN bW).toArray] w (NF w g n (iy ⟨g,n,T,M,D,L.map ax.core,I⟩ (dY.mk aG (bH.mk di dh dw aO dx bK bL) (aF.mk aH aK aL bu aW ⟨aQ,aX,aR⟩ ⟨aS,aY,aU⟩ aI aJ) aN bW)).1 (iy ⟨g,n,T,M,D,L.map ax.core,I⟩ (dY.mk aG (bH.mk di dh dw aO dx bK bL) (aF.mk aH aK aL bu aW ⟨aQ,aX,aR⟩ ⟨aS,aY,aU⟩ aI aJ) aN bW)).2):=by
 have hs9:=hsm.mono (N':=999999) (by omega);have gY:T.length<490000:=hsm.t;have gU:D.length<490000:=hsm.d;cases h1:(aG == 1) with
 | true =>
  have k1:aG=1:=by simpa using h1
  have e:iy ⟨g,n,T,M,D,L.map ax.core,I⟩ (dY.mk aG (bH.mk di dh dw aO dx bK bL) (aF.mk aH aK aL bu aW ⟨aQ,aX,aR⟩ ⟨aS,aY,aU⟩ aI aJ) aN bW)=qz ⟨g,n,T,M,D,L.map ax.core,I⟩ (bH.mk di dh dw aO dx bK bL):=by unfold iy;rw [if_pos k1]
  rw [e];exact XP w g n vT vM vD vO vI T M D L I aG di dh dw aO dx bK bL aH aK aL bu aW aQ aX aR aS aY aU aN bW h hok hs9 h1 hwf.zq
 | false =>
  have k1:¬ aG=1:=by simpa using h1
  cases h2:(aG == 2) with
  | true =>
   have k2:aG=2:=by simpa using h2
   have e:iy ⟨g,n,T,M,D,L.map ax.core,I⟩ (dY.mk aG (bH.mk di dh dw aO dx bK bL) (aF.mk aH aK aL bu aW ⟨aQ,aX,aR⟩ ⟨aS,aY,aU⟩ aI aJ) aN bW)=(pW ⟨g,n,T,M,D,L.map ax.core,I⟩ (aF.mk aH aK aL bu aW ⟨aQ,aX,aR⟩ ⟨aS,aY,aU⟩ aI aJ).ok (aF.mk aH aK aL bu aW ⟨aQ,aX,aR⟩ ⟨aS,aY,aU⟩ aI aJ).core,qX):=by unfold iy;rw [if_neg k1,if_pos k2]
   rw [e];exact XQ w g n vT vM vD vO vI T M D L I aG di dh dw aO dx bK bL aH aK aL bu aW aQ aX aR aS aY aU aN bW aI aJ h hok hs9 h1 h2 hr hrn hd hdn ⟨hwf.qE.src.1,hwf.qE.hi.1,hwf.qE.hi.2⟩ (by omega) (by omega)
  | false =>
   have k2:¬ aG=2:=by simpa using h2
   cases h3:(aG == 3) with
   | true =>
    have k3:aG=3:=by simpa using h3
    have e:iy ⟨g,n,T,M,D,L.map ax.core,I⟩ (dY.mk aG (bH.mk di dh dw aO dx bK bL) (aF.mk aH aK aL bu aW ⟨aQ,aX,aR⟩ ⟨aS,aY,aU⟩ aI aJ) aN bW)=(qU ⟨g,n,T,M,D,L.map ax.core,I⟩ aN bW,qX):=by unfold iy;rw [if_neg k1,if_neg k2,if_pos k3]
    rw [e];exact XO w g n vT vM vD vO vI T M D L I aG di dh dw aO dx bK bL aH aK aL bu aW aQ aX aR aS aY aU aN bW h hok hs9 h1 h2 h3 hwf.peer.1
   | false =>
    have k3:¬ aG=3:=by simpa using h3
    have e:iy ⟨g,n,T,M,D,L.map ax.core,I⟩ (dY.mk aG (bH.mk di dh dw aO dx bK bL) (aF.mk aH aK aL bu aW ⟨aQ,aX,aR⟩ ⟨aS,aY,aU⟩ aI aJ) aN bW)=(⟨g,n,T,M,D,L.map ax.core,I⟩,qX):=by unfold iy;rw [if_neg k1,if_neg k2,if_neg k3]
    rw [e];exact XN w g n vT vM vD vO vI T M D L I aG di dh dw aO dx bK bL aH aK aL bu aW aQ aX aR aS aY aU aN bW h hok hs9 h1 h2 h3
end
section
open Go.RowKit
theorem Rb:(Tryz.prog.info? 103).map (fun i=>(i.zero,i.size,i.bytes))=some (some (.agg #[.int .u32 0,.slice none 0 0]),2,32):=by kernel_rfl
theorem Yt:(Tryz.prog.info? 47).map (·.size)=some 1:=by kernel_rfl
theorem T9:(Tryz.prog.info? 31).map (·.size)=some 7:=by kernel_rfl
theorem Ua:(Tryz.prog.info? 47).map (fun i=>(i.zero,i.size,i.bytes))=some (some (.int .u32 0),1,4):=by kernel_rfl
theorem FY {P:Program} {fn:Func} {p u:Tmp} {ty:TypeId} (h:fn.results = #[.cell p ty,.tmp u]) (tmps:Array Value) (w:World) (g:Nat) (t:TypeId) (cs:Array Value) (fr:Nat×Nat) (d:TypeDesc)
 (hp:tmps.getD p undef=.pointer (some ⟨g,0,none⟩)) (hg:w.heap[g]? = some (.cells cs t fr))
 (hu:P.underlying ty=some d) (hd:(match d with | .struct _ | .array _ _=>true | _=>false)=true) (hi:(P.info? ty).map (·.size)=some cs.size) :
 (results fn tmps).run P w=.ok (.tuple #[.agg cs,tmps.getD u undef]) w:=by
 have hp':tmps[p]?.getD undef=.pointer (some ⟨g,0,none⟩):=by simpa using hp
 simp [results,h,hp',asAddr,run_loadVar_row w g t ty cs fr d hg hu hd hi]
def nY (i k:Nat):List Value:=(List.replicate i [Value.int .u32 1,.slice none 0 0]++List.replicate (k - i) [Value.int .u32 0,.slice none 0 0]).flatten
structure Wn (w wx:World) (g:Int) (k:Nat) (bS bM bO bI:Nat) (ls ns:Array Value):Prop where
 lS:w.heap.size<bS
 lM:w.heap.size<bM
 lO:w.heap.size<bO
 lI:w.heap.size<bI
 oS:bO≠bS
 oM:bO≠bM
 oI:bO≠bI
 cR:wx.heap[w.heap.size]? = some (.cells dS.toArray 31)
 cS:wx.heap[bS]? = some (.cells (rS g k none 0 0 (some ⟨bM,0,none⟩) 1 1 none 0 0 (some ⟨bO,0,none⟩) k k (some ⟨bI,0,none⟩) k k).toArray 31)
 cM:wx.heap[bM]? = some (.cells #[.int .u64 0,.int .u8 0] 107)
 cO:wx.heap[bO]? = some (.cells ls 103)
 cI:wx.heap[bI]? = some (.cells ns 47)
 zA:Below w.heap.size w wx
theorem ZX {i k:Nat} (hi:i<k) (hk:k≤4):(nY i k).take (i*2)++[Value.int .u32 1]++(nY i k).drop (i*2+1)=nY (i+1) k:=by
 obtain ⟨j,hj⟩:∃ j,j=k:=⟨_,rfl⟩;obtain rfl | rfl | rfl | rfl:k=1∨k=2∨k=3∨k=4:=by omega
 all_goals (obtain rfl | rfl | rfl | rfl:i=0∨i=1∨i=2∨i=3:=by omega)
 all_goals first | rfl | omega
theorem Rc {i k:Nat} (hi:i≤k):(nY i k).length=k*2:=by
 unfold nY;simp only [List.length_flatten,List.map_append,List.map_replicate,List.sum_append,List.sum_replicate_nat];simp only [List.length_cons,List.length_nil];omega
theorem heap_alloc (w:World) (o:Obj):(w.alloc o).heap=w.heap.push o:=rfl
theorem heap_drew (w:World):w.drew.heap=w.heap:=rfl
theorem ab9 (g:Int) (k:Nat) (w:World) (h0:0≤g) (h1:g<k) (hk1:1≤k) (hk4:k≤4) :
 Calls Tryz.prog 8 #[.int .i64 g,.int .i64 k] w fun e w'=>∃ bM bO bI,e=.returned (.tuple #[.agg (rS g k none 0 0 (some ⟨bM,0,none⟩) 1 1 none 0 0 (some ⟨bO,0,none⟩) k k (some ⟨bI,0,none⟩) k k).toArray,.int .i64 0]) ∧
  w.heap.size≤bM∧w.heap.size≤bO∧w.heap.size≤bI∧w'.heap[bM]? = some (.cells #[.int .u64 0,.int .u8 0] 107)∧w'.heap[bO]? = some (.cells (nY k k).toArray 103) ∧
  w'.heap[bI]? = some (.cells (List.replicate k (Value.int .u32 0)).toArray 47)∧Below w.heap.size w w':=by
 obtain ⟨i0,hi0,hz0,hz1,hz2⟩:=info_parts Rb;obtain ⟨j0,hj0,hy0,hy1,hy2⟩:=info_parts Ua;obtain ⟨ls,hls⟩:∃ ls,ls=(madeCells (Value.agg #[.int .u32 0,.slice none 0 0]).cells (k*2)):=⟨_,rfl⟩;obtain ⟨ns,hns⟩:∃ ns,ns=(madeCells (Value.int .u32 0).cells (k*1)):=⟨_,rfl⟩;have HM:∀ W:World,(Instr.makeSlice 28 (.int .i64 k) (.int .i64 k)).run Tryz.prog W=.ok (.slice (some ⟨W.heap.size,0,none⟩) k k) (W.alloc (.cells ls 103)):=fun W=>by
  rw [run_makeSlice W 28 103 i0 _ RJ hi0 hz0 .i64 .i64 k k (by omega) (by omega) (by rw [hz1];omega) (by rw [hz2];omega) (by omega),hls,hz1];simp
 have HN:∀ W:World,(Instr.makeSlice 29 (.int .i64 k) (.int .i64 k)).run Tryz.prog W=.ok (.slice (some ⟨W.heap.size,0,none⟩) k k) (W.alloc (.cells ns 47)):=fun W=>by
  rw [run_makeSlice W 29 47 j0 _ RL hj0 hy0 .i64 .i64 k k (by omega) (by omega) (by rw [hy1];omega) (by rw [hy2];omega) (by omega),hns,hy1];simp
 have HL:Hid (ls=(nY 0 k).toArray):=by
  show _=_;obtain rfl | rfl | rfl | rfl:k=1∨k=2∨k=3∨k=4:=by omega
  all_goals (rw [hls];kernel_rfl)
 have HU:Hid (ns=(List.replicate k (Value.int .u32 0)).toArray):=by
  show _=_;obtain rfl | rfl | rfl | rfl:k=1∨k=2∨k=3∨k=4:=by omega
  all_goals (rw [hns];kernel_rfl)
 clear hls hns;have hd0:decide ((k:Int)<1)=false:=by simp;omega
 have hd1:decide ((4:Int)<k)=false:=by simp;omega
 have hd2:decide (g<0)=false:=by simp;omega
 have hd3:decide ((k:Int)≤g)=false:=by simp;omega
 have hw:IntKind.u8.wrap g=g:=by have e:IntKind.u8.wrap g=g%256:=rfl;rw [e];omega
 have hwk:IntKind.u8.wrap (k:Int)=k:=by have e:IntKind.u8.wrap (k:Int)=(k:Int)%256:=rfl;rw [e];omega
 go_enter Tryz.func8,Tryz.ntmps8
 go_upto_region 3 with fail
 go_cut [6,29,31,33] from 24 (fun s sM sO sI wx=>∃ bS bM bO bI,(s=.pointer (some ⟨bS,0,none⟩)∧sM=.slice (some ⟨bM,0,none⟩) 1 1∧sO=.slice (some ⟨bO,0,none⟩) k k∧sI=.slice (some ⟨bI,0,none⟩) k k)∧Hid (Wn w wx g k bS bM bO bI ls ns))
 case first =>
  go_region
  all_goals (go_wp2_with fail;go_meet;refine ⟨_,_,_,_,⟨rfl,rfl,rfl,rfl⟩,?_⟩;refine Wn.mk (by omega) (by omega) (by omega) (by omega) (by omega) (by omega) (by omega) ?_ ?_ ?_ ?_ ?_ ?_)
  all_goals first
   | (simp only [heap_drew,heap_alloc];simp (disch:=omega) [Array.getElem?_push];done)
   | exact (Below.alloc (Below.alloc (Below.alloc (Below.alloc (Below.alloc (Below.refl _ w) (Nat.le_refl _) _) (by simp only [heap_alloc,Array.size_push];omega) _) (by simp only [heap_alloc,Array.size_push];omega) _) (by simp only [heap_alloc,Array.size_push];omega) _) (by simp only [heap_alloc,Array.size_push];omega) _).drew
   | exact af (Below.alloc (Below.alloc (Below.alloc (Below.alloc (Below.refl _ (w.alloc _)) (Nat.le_refl _) _) (by simp only [heap_alloc,Array.size_push];omega) _) (by simp only [heap_alloc,Array.size_push];omega) _) (by simp only [heap_alloc,Array.size_push];omega) _).drew (by simp [heap_alloc])
 case rest =>
  obtain ⟨bS,bM,bO,bI,⟨rfl,rfl,rfl,rfl⟩,HB⟩:=hcut;have KT:=ah HB.out.cS;go_wp2_with fail
  go_loopw [38] (fun i wr=>∃ j:Nat,j≤k∧i=.int .i64 j∧Hid (Wn w wr g k bS bM bO bI (nY j k).toArray ns)) (fun i _=>k - (intOf i).toNat)
  case atStart=>exact ⟨0,Nat.zero_le _,rfl,by rw [← HL.out];exact HB⟩
  case round =>
   clear KT HB;obtain ⟨j,hj,rfl,HB⟩:=hrel;have KT:=ah HB.out.cS;by_cases hlt:j<k
   ·have hdk:decide ((j:Int)<(k:Int))=true:=by simp;omega
    have hi1:(0:Int)≤(j:Int):=by omega
    have hi2:(j:Int)<(k:Int):=by omega
    have hcO:=HB.out.cO;have hfit:Nat.ble (j*2+1) (nY j k).length=true:=by rw [Rc hj];simp [Nat.ble_eq];omega
    go_wp2_with (first | (with_reducible show wpList _ _ _ ({ dst:=none,op:=Op.store 47 _ _,type:=_,pos:=_,after:=_,guard:=none }::_) _ _;go_must (refine cZ rfl _ _ _ rfl rfl bO (j*2) rfl (.int .u32 1) rfl Yt rfl _ _ hcO hfit _ (ZX hlt hk4) ?_;intro w9 Bu oG)))
    go_roundw
    case rel=>exact ⟨j+1,by omega,by go_num,⟨HB.out.lS,HB.out.lM,HB.out.lO,HB.out.lI,HB.out.oS,HB.out.oM,HB.out.oI,(oG.block _ (by have:=HB.out.lO;omega)).trans HB.out.cR,(oG.block _ HB.out.oS.symm).trans HB.out.cS,(oG.block _ HB.out.oM.symm).trans HB.out.cM,Bu,(oG.block _ HB.out.oI.symm).trans HB.out.cI,HB.out.zA.trans (oG.below (Nat.le_of_lt HB.out.lO))⟩⟩
    case measure=>simp [intOf];omega
   ·have hdk:decide ((j:Int)<(k:Int))=false:=by simp;omega
    obtain rfl:j=k:=by omega
    have hcR:=HB.out.cR;have ZY:=HB.out.cS;go_wp2_with (first | (with_reducible show cB 47 31 ..;go_must (refine dF bS 0 7 fE _ _ ZY _ ?_)) | (with_reducible show wpList _ _ _ ({ dst:=none,op:=Op.store 31 _ _,type:=_,pos:=_,after:=_,guard:=none }::_) _ _;go_must (refine fH w.heap.size 0 _ _ _ _ hcR _ ?_;intro w9 Bu oG;have hcW:=ah Bu)))
    refine bodyPost_ret (v:=.tuple #[.agg (rS g j none 0 0 (some ⟨bM,0,none⟩) 1 1 none 0 0 (some ⟨bO,0,none⟩) j j (some ⟨bI,0,none⟩) j j).toArray,.int .i64 0]) (FY Tryz.results8 _ _ w.heap.size 31 _ (0,0) _ rfl Bu fE rfl T9) rfl ⟨bM,bO,bI,rfl,Nat.le_of_lt HB.out.lM,Nat.le_of_lt HB.out.lO,Nat.le_of_lt HB.out.lI,?_,?_,?_,HB.out.zA.trans (oG.below (Nat.le_refl _))⟩
    ·exact (oG.block _ (by have:=HB.out.lM;omega)).trans HB.out.cM
    ·exact (oG.block _ (by have:=HB.out.lO;omega)).trans HB.out.cO
    ·exact (oG.block _ (by have:=HB.out.lI;omega)).trans (by rw [HB.out.cI,HU.out])
end
end Go.Proofs.YtignemioillaiaaGreat
