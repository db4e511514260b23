/- The document: receive: rows and dups. -/
import Derived.Test.YtignemioillaiaaGreatG30
namespace Go.Proofs.YtignemioillaiaaGreat
set_option maxHeartbeats 8000000
set_option maxRecDepth 100000
section
open Go.RowKit Go.Lib
theorem aie {c d a0 a1 a2 a3 a4 a5 a6 a7 a8 a9 G6:Code} (hc:Tryz.f50.body=some (a0.seq (a1.seq (a2.seq (a3.seq (a4.seq (a5.seq (a6.seq (a7.seq (a8.seq (a9.seq (G6.seq (c.seq d))))))))))))) {u0 u1 u5 u6 u7 u8 u9 jB jg jh ji jk jl u16 mW oz lJ nC mE mF mh jC jD jw j6 ig ik iq iw u32 jm jq jr jE jF jG jH jI jJ jK jL jM jN jO jP jQ jR jS jT jU jV jW jX jY kv ky kz kC kD kE kF u64 kG kH kg ko kI kJ kK kL kM kN kP kQ kR lK lL lN lQ lT lU lV lW lX lY lZ l7 l8 l9 mf mg mi mI nE nG nH nI fU fV fZ gm gp gq gu gy gz gB gF gG gH gJ gK gL gM gN gP gQ:Value} (P B:Nat→Prop) (w:World) (b2 b3 b4:Nat) (g n:Int) (ta:Option Addr) (tn tc:Nat) (da:Option Addr) (dn dc:Nat) (ka:Option Addr) (kn kc:Nat) (oa:Option Addr) (on oc:Nat) (ja:Option Addr) (jn jc:Nat) (aM bG aV aP bg:Int) (bZ:Option Addr) (bR cK:Nat) (bX:Option Addr) (bN bY:Nat) (bC:List ak) (D:List ak)
 (h2:w.heap[b2]? = some (.cells (rS g n ta tn tc ka kn kc da dn dc oa on oc ja jn jc).toArray 31)) (h3:w.heap[b3]? = some (.cells (rR aM bG aV aP bg bZ bR cK bX bN bY).toArray 52)) (h4:w.heap[b4]? = some (.cells dS.toArray 31))
 (hD:fT P w ⟨da,dn,dc⟩ 7 (D.map ak.cells)) (G7:fT P w ⟨bX,bN,bY⟩ 7 (bC.map ak.cells)) (gU:D.length<499999) (Yk:∀ k,((bC.take k).foldl fe (dz (fun x:ak=>x.key) aP bg false D)).length<499999) (hP:∀ k,w.heap.size≤k→¬ P k) (pX:∀ k,B k→P k) (sP:B b2) (zH:B b4) (G8:¬ B b3) (zi:¬ b4=b2) (_n_b2_b4:¬ b2=b4) (Dv:¬ b3=b2) (PP:Ending→World→Prop)
 (hQ:∀ (za:Option Addr) (zn zc:Nat) (w':World),fT P w' ⟨za,zn,zc⟩ 7 ((bC.foldl fe (dz (fun x:ak=>x.key) aP bg false D)).map ak.cells)→av B w w'→PP (.returned (.agg (rS g n ta tn tc ka kn kc za zn zc oa on oc ja jn jc).toArray)) w') {K:Act→World→Prop} (hK:∀ a w,d.wp Tryz.prog (bodyPost Tryz.prog Tryz.f50 PP) a w→K a w) :
 c.wp Tryz.prog (Exit.then K (bodyPost Tryz.prog Tryz.f50 PP)) { tmps:=(List.toArray (α:=Value) (u0::u1::.pointer (some ⟨b2,0,none⟩)::.pointer (some ⟨b3,0,none⟩)::.pointer (some ⟨b4,0,none⟩)::u5::u6::u7::u8::u9::jB::jg::jh::ji::jk::jl::u16::mW::oz::lJ::nC::mE::mF::mh::jC::jD::jw::j6::ig::ik::iq::iw::u32::jm::jq::jr::jE::jF::jG::jH::jI::jJ::jK::jL::jM::jN::jO::jP::jQ::jR::jS::jT::jU::jV::jW::jX::jY::kv::ky::kz::kC::kD::kE::kF::u64::kG::kH::kg::ko::kI::kJ::kK::kL::kM::kN::kP::kQ::kR::lK::lL::lN::lQ::lT::lU::lV::lW::lX::lY::lZ::l7::l8::l9::mf::mg::mi::mI::nE::nG::nH::nI::fU::fV::fZ::gm::gp::gq::gu::gy::gz::gB::gF::gG::gH::gJ::gK::gL::gM::gN::gP::gQ::[])),defers:=[] } w:=by
 injection hc with k0;injection k0 with e0 k1;clear e0;injection k1 with e1 k2;clear e1;injection k2 with e2 k3;clear e2;injection k3 with e3 k4;clear e3;injection k4 with e4 k5;clear e4;injection k5 with e5 k6;clear e5;injection k6 with e6 k7;clear e6;injection k7 with e7 k8;clear e7;injection k8 with e8 k9;clear e8;injection k9 with e9 k10;clear e9;injection k10 with e10 k11;clear e10;injection k11 with e11 k12;subst k12;subst e11;have H2:=ae h2;have H3:=ae h3;have H4:=ae h4;have HD:=ae hD;have vk:=ae G7;have Yl:=ae Yk;have HQ:=ae hQ;clear hD G7 Yk hQ;have hc0:w.cell? ⟨b2,4,none⟩=some (.slice da dn dc):=ah h2 4;have hc1:w.cell? ⟨b3,3,none⟩=some (.int .u64 aP):=ah h3 3;have hc2:w.cell? ⟨b3,4,none⟩=some (.int .u64 bg):=ah h3 4;clear h2 h3 h4;go_upto_region 17 with (first
  | (go_at_call 105;go_must (refine (Js da dn dc D aP bg _ HD.out.at_ (Nat.lt_of_lt_of_le gU (by omega))).mono ?_;rintro e w1 ⟨v1,rfl,ho1,hb1⟩;have HB1:=ae hb1;obtain ⟨⟨ea,en,ec⟩,hv1,hr1⟩:=eH (P:=P) hP ho1 (fun _=>rfl);have nR:v1=.slice ea en ec:=hv1;subst nR;clear hv1;have HR1:=ae hr1;clear hr1 ho1 hb1))
  | (with_reducible show dJ 27 102 ..;go_must (refine oZ b2 4 (.slice ea en ec) (rS g n ta tn tc ka kn kc da dn dc oa on oc ja jn jc) 31 (af HB1.out H2.out) (rS g n ta tn tc ka kn kc ea en ec oa on oc ja jn jc) ?_;intro w2 h9 bJ;have HS2:=ae h9;have dL:=ae bJ;clear h9 bJ)))
 clear hc0 hc1 hc2;have C2:av B w w2:=(av.later HB1.out).trans (av.only dL.out sP);have lH:=ae C2;clear C2;have Vl:Hid (bN=bC.length):=ae vk.out.len;have HMX:Hid (bN≤maxLen):=ae (Nat.le_trans vk.out.at_.le vk.out.at_.max);have hmx:=HMX.out;unfold maxLen at hmx;go_wp2_with fail
 go_loopw [9] (fun i wr=>∃ (k:Nat) (fa:Option Addr) (fl fc:Nat),k≤bN∧i=.int .i64 k∧Hid (wr.heap[b2]? = some (.cells (rS g n ta tn tc ka kn kc fa fl fc oa on oc ja jn jc).toArray 31))∧Hid (fT P wr ⟨fa,fl,fc⟩ 7 (((bC.take k).foldl fe (dz (fun x:ak=>x.key) aP bg false D)).map ak.cells))∧Hid (av B w wr)∧Hid (wr.heap[b4]? = some (.cells dS.toArray 31))) (fun i _=>bN - (intOf i).toNat)
 case atStart=>exact ⟨0,ea,en,ec,Nat.zero_le _,rfl,HS2,ae (HR1.out.dV pX (av.only dL.out sP)),lH,ae ((dL.out.block b4 zi).trans (af HB1.out H4.out))⟩
 case round =>
  obtain ⟨k,fa,fl,fc,hk,rfl,wu,HX,HC,Te⟩:=hrel;have Vm:=ae (nQ H3.out HC.out G8);have r9:wr.cell? ⟨b3,6,none⟩=some (.slice bX bN bY):=ah Vm.out 6;have hcx:wr.cell? ⟨b2,4,none⟩=some (.slice fa fl fc):=ah wu.out 4;by_cases hlt:k<bN
  ·have hdk:decide ((k:Int)<(bN:Int))=true:=by simp;omega
   obtain ⟨x,hx⟩:∃ x,bC[k]? = some x:=⟨bC[k]'(by rw [← Vl.out];exact hlt),by simp⟩;obtain ⟨rb,ro,hra,hrb,hrc⟩:=(vk.out.dV pX HC.out).at_.el (i:=k) (x:=x.cells) (by simp [hx]);obtain rfl:bX=some ⟨rb,ro,none⟩:=hra;obtain ⟨xc,xs,az,xk,xf,xv,xg⟩:=x;have hx0:wr.cell? ⟨rb,ro+k*7,none⟩=some (.int .u8 xc):=by simpa using hrc 0 _ rfl
   have hx1:wr.cell? ⟨rb,ro+k*7+1,none⟩=some (.int .u32 xs):=by simpa using hrc 1 _ rfl
   have hx2:wr.cell? ⟨rb,ro+k*7+2,none⟩=some (.int .u64 az):=by simpa using hrc 2 _ rfl
   have hx3:wr.cell? ⟨rb,ro+k*7+3,none⟩=some (.int .u8 xk):=by simpa using hrc 3 _ rfl
   have hx4:wr.cell? ⟨rb,ro+k*7+4,none⟩=some (.bool xf):=by simpa using hrc 4 _ rfl
   have hx5:wr.cell? ⟨rb,ro+k*7+5,none⟩=some (.int .u64 xv):=by simpa using hrc 5 _ rfl
   have hx6:wr.cell? ⟨rb,ro+k*7+6,none⟩=some (.int .u8 xg):=by simpa using hrc 6 _ rfl
   have Vn:=ae hx;have hlt3:b3<wr.heap.size:=(df Vm.out);have Ot:b3≠b2:=Dv;have CY:rb≠b2:=fun e=>(vk.out.dV pX HC.out).off (Nat.lt_of_le_of_lt (Nat.zero_le k) hlt) _ _ _ rfl (e ▸ pX _ sP)
   clear hrc hx;have hi1:(0:Int)≤(k:Int):=by omega
   have hi2:(k:Int)<(bN:Int):=by omega
   go_upto_region 20 with fail
   refine wp_region_noPanic ?_;refine wp_region_held_drew (S:=(fun w'=>w'.cell? ⟨b3,6,none⟩=some (.slice (some ⟨rb,ro,none⟩) bN bY)∧w'.cell? ⟨rb,ro+k*7,none⟩=some (.int .u8 xc)∧w'.cell? ⟨rb,ro+k*7+1,none⟩=some (.int .u32 xs)∧w'.cell? ⟨rb,ro+k*7+2,none⟩=some (.int .u64 az)∧w'.cell? ⟨rb,ro+k*7+3,none⟩=some (.int .u8 xk)∧w'.cell? ⟨rb,ro+k*7+4,none⟩=some (.bool xf)∧w'.cell? ⟨rb,ro+k*7+5,none⟩=some (.int .u64 xv)∧w'.cell? ⟨rb,ro+k*7+6,none⟩=some (.int .u8 xg))) (by kernel_rfl) (⟨r9,hx0,hx1,hx2,hx3,hx4,hx5,hx6⟩) (fun hHeld=>?_);refine dC 0 ?_;try simp only [Act.put,dK]
   refine dC 2 ?_;try simp only [Act.put]
   refine dC 3 ?_;try simp only [Act.put]
   refine dC 4 ?_;try simp only [Act.put]
   refine dC 5 ?_;try simp only [Act.put]
   refine dC 6 ?_;try simp only [Act.put]
   refine mo 1 (fun K hK=>?_);go_simp
   refine hK.out _ _ (⟨r9,hx0,hx1,hx2,hx3,hx4,hx5,hx6⟩) (fun hHeld=>?_);clear hK K;try simp only [Act.put,dK,fF,fG]
   refine mo 7 (fun K hK=>?_);go_simp
   refine (Ca fa fl fc ((bC.take k).foldl fe (dz (fun x:ak=>x.key) aP bg false D)) xc xs az xk xf xv xg _ (HX.out.later (Below.refl _ _).drew).at_ (Yl.out k)).mono ?_;rintro e y1 ⟨v1,rfl,ho1,hb1⟩;have wG:Hid (Below wr.heap.size wr y1):=ae ((Below.refl _ wr).drew.trans hb1);obtain ⟨⟨za,zn,zc⟩,hv1,hr1⟩:=eH (P:=P) (fun q hq=>hP q (Nat.le_trans HC.out.size hq)) ho1 (fun _=>rfl);have nR:v1=.slice za zn zc:=hv1;subst nR;have HZ:=ae hr1;clear hv1 hr1 ho1 hb1;have HB2:=ae (af wG.out wu.out);have hcy:y1.cell? ⟨b2,4,none⟩=some (.slice fa fl fc):=ah HB2.out 4;have hfy:y1.frozen? ⟨b2,4,none⟩=false:=oh (Below.refl _ y1) HB2.out 4;obtain ⟨s1,s2⟩:=wV (o:=4) (v:=Value.slice za zn zc) (cur:=(rS g n ta tn tc ka kn kc fa fl fc oa on oc ja jn jc)) HB2.out;have Jp:=ae s1;have Aw:=ae s2;clear s1 s2;go_wp2_with fail
   refine hK.out _ _ (⟨(wG.out.cell (p:=⟨b3,6,none⟩) hlt3).trans r9,(wG.out.cell (p:=⟨rb,ro+k*7,none⟩) hrb).trans hx0,(wG.out.cell (p:=⟨rb,ro+k*7+1,none⟩) hrb).trans hx1,(wG.out.cell (p:=⟨rb,ro+k*7+2,none⟩) hrb).trans hx2,(wG.out.cell (p:=⟨rb,ro+k*7+3,none⟩) hrb).trans hx3,(wG.out.cell (p:=⟨rb,ro+k*7+4,none⟩) hrb).trans hx4,(wG.out.cell (p:=⟨rb,ro+k*7+5,none⟩) hrb).trans hx5,(wG.out.cell (p:=⟨rb,ro+k*7+6,none⟩) hrb).trans hx6⟩) (fun hHeld=>?_);clear hK K;try simp only [Act.put,dK,fF,fG]
   refine dC 8 ?_;try simp only [Act.put,dK]
   refine mo 9 (fun K hK=>?_);go_simp
   refine hK.out _ _ (⟨(pJ Aw.out Ot).trans ((wG.out.cell (p:=⟨b3,6,none⟩) hlt3).trans r9),(pJ Aw.out CY).trans ((wG.out.cell (p:=⟨rb,ro+k*7,none⟩) hrb).trans hx0),(pJ Aw.out CY).trans ((wG.out.cell (p:=⟨rb,ro+k*7+1,none⟩) hrb).trans hx1),(pJ Aw.out CY).trans ((wG.out.cell (p:=⟨rb,ro+k*7+2,none⟩) hrb).trans hx2),(pJ Aw.out CY).trans ((wG.out.cell (p:=⟨rb,ro+k*7+3,none⟩) hrb).trans hx3),(pJ Aw.out CY).trans ((wG.out.cell (p:=⟨rb,ro+k*7+4,none⟩) hrb).trans hx4),(pJ Aw.out CY).trans ((wG.out.cell (p:=⟨rb,ro+k*7+5,none⟩) hrb).trans hx5),(pJ Aw.out CY).trans ((wG.out.cell (p:=⟨rb,ro+k*7+6,none⟩) hrb).trans hx6)⟩) (fun hHeld=>?_);clear hK K;try simp only [Act.put,dK,fF,fG]
   refine wpAnyH_done (by kernel_rfl) ?_ _;refine NoPanic.normal ?_;go_wp2_with fail
   generalize y1.setCell ⟨b2,4,none⟩ (.slice za zn zc)=y2 at Jp Aw;go_roundw
   case rel =>
    have c12:av B wr y2:=(av.later wG.out).trans (av.only Aw.out sP);refine ⟨k+1,za,zn,zc,by omega,by go_num,Jp,?_,ae (HC.out.trans c12),ae ((Aw.out.block b4 zi).trans (af wG.out Te.out))⟩;have e:((bC.take (k+1)).foldl fe (dz (fun x:ak=>x.key) aP bg false D))=fe ((bC.take k).foldl fe (dz (fun x:ak=>x.key) aP bg false D)) ⟨xc,xs,az,xk,xf,xv,xg⟩:=by rw [List.take_add_one,Vn.out,Option.toList_some,List.foldl_append];rfl
    rw [e];exact HZ.out.dV pX (av.only Aw.out sP)
   case measure=>simp [intOf];omega
  ·have hdk:decide ((k:Int)<(bN:Int))=false:=by simp;omega
   have pY:k=bN:=by omega
   have hfull:bC.take k=bC:=List.take_of_length_le (by have:=Vl.out;omega);rw [hfull] at HX;clear hfull;clear hcx;go_wp2_with (first
    | (with_reducible show cB 119 31 ..;go_must (refine dF b2 0 7 fE _ _ wu.out (rS g n ta tn tc ka kn kc fa fl fc oa on oc ja jn jc) ?_))
    | (with_reducible show wpList _ _ _ ({ dst:=none,op:=Op.store 31 _ _,type:=_,pos:=_,after:=_,guard:=none }::_) _ _;go_must (refine fH b4 0 (rS g n ta tn tc ka kn kc fa fl fc oa on oc ja jn jc) 7 dS 31 Te.out (rS g n ta tn tc ka kn kc fa fl fc oa on oc ja jn jc) ?_;intro w5 h9 bJ;have TM:=ae h9;have ru:=ae bJ;clear h9 bJ)))
   refine bodyPost_ret (v:=.agg (rS g n ta tn tc ka kn kc fa fl fc oa on oc ja jn jc).toArray) (results_cell_row Tryz.results50 _ _ b4 31 _ (0,0) _ rfl TM.out fE rfl (by kernel_rfl)) rfl ?_;exact HQ.out fa fl fc w5 (HX.out.dV pX (av.only ru.out zH)) (HC.out.trans (av.only ru.out zH))
theorem aif {c d a0 a1 a2 a3 a4 a5 a6 a7 a8:Code} (hc:Tryz.f50.body=some (a0.seq (a1.seq (a2.seq (a3.seq (a4.seq (a5.seq (a6.seq (a7.seq (a8.seq (c.seq d))))))))))) {u0 u1 u5 u6 u7 u8 u9 jB jg jh ji jk jl u16 mW oz lJ nC mE mF mh jC jD jw j6 ig ik iq iw u32 jm jq jr jE jF jG jH jI jJ jK jL jM jN jO jP jQ jR jS jT jU jV jW jX jY kv ky kz kC kD kE kF u64 kG kH kg ko kI kJ kK kL kM kN kP kQ kR lK lL lN lQ lT lU lV lW lX lY lZ l7 l8 l9 mf mg mi mI nE nG nH nI fU fV fZ gm gp gq gu gy gz gB gF gG gH gJ gK gL gM gN gP gQ:Value} (P B:Nat→Prop) (w:World) (b2 b3 b4:Nat) (g n:Int) (ta:Option Addr) (tn tc:Nat) (da:Option Addr) (dn dc:Nat) (ka:Option Addr) (kn kc:Nat) (oa:Option Addr) (on oc:Nat) (ja:Option Addr) (jn jc:Nat) (aM bG aV aP bg:Int) (bZ:Option Addr) (bR cK:Nat) (bX:Option Addr) (bN bY:Nat) (bF:List Row) (bC:List ak) (T:List Row) (D:List ak)
 (h2:w.heap[b2]? = some (.cells (rS g n ta tn tc ka kn kc da dn dc oa on oc ja jn jc).toArray 31)) (h3:w.heap[b3]? = some (.cells (rR aM bG aV aP bg bZ bR cK bX bN bY).toArray 52)) (h4:w.heap[b4]? = some (.cells dS.toArray 31))
 (hT:fT P w ⟨ta,tn,tc⟩ 2 (T.map Row.cells)) (Ll:fT P w ⟨bZ,bR,cK⟩ 2 (bF.map Row.cells)) (hD:fT P w ⟨da,dn,dc⟩ 7 (D.map ak.cells)) (G7:fT P w ⟨bX,bN,bY⟩ 7 (bC.map ak.cells)) (gY:T.length<499999) (gU:D.length<499999) (hLT:∀ k,((bF.take k).foldl oU (dz (fun x:Row=>x.key) aP bg false T)).length<499999) (Yk:∀ k,((bC.take k).foldl fe (dz (fun x:ak=>x.key) aP bg false D)).length<499999) (hP:∀ k,w.heap.size≤k→¬ P k) (pX:∀ k,B k→P k) (sP:B b2) (zH:B b4) (G8:¬ B b3) (zi:¬ b4=b2) (OG:¬ b2=b4) (Dv:¬ b3=b2) (PP:Ending→World→Prop)
 (hQ:∀ (ya:Option Addr) (yn yc:Nat) (za:Option Addr) (zn zc:Nat) (w':World),fT P w' ⟨ya,yn,yc⟩ 2 ((bF.foldl oU (dz (fun x:Row=>x.key) aP bg false T)).map Row.cells)→fT P w' ⟨za,zn,zc⟩ 7 ((bC.foldl fe (dz (fun x:ak=>x.key) aP bg false D)).map ak.cells)→av B w w'→PP (.returned (.agg (rS g n ya yn yc ka kn kc za zn zc oa on oc ja jn jc).toArray)) w') {K:Act→World→Prop} (hK:∀ a w,d.wp Tryz.prog (bodyPost Tryz.prog Tryz.f50 PP) a w→K a w) :
 c.wp Tryz.prog (Exit.then K (bodyPost Tryz.prog Tryz.f50 PP)) { tmps:=(List.toArray (α:=Value) (u0::u1::.pointer (some ⟨b2,0,none⟩)::.pointer (some ⟨b3,0,none⟩)::.pointer (some ⟨b4,0,none⟩)::u5::u6::u7::u8::u9::jB::jg::jh::ji::jk::jl::u16::mW::oz::lJ::nC::mE::mF::mh::jC::jD::jw::j6::ig::ik::iq::iw::u32::jm::jq::jr::jE::jF::jG::jH::jI::jJ::jK::jL::jM::jN::jO::jP::jQ::jR::jS::jT::jU::jV::jW::jX::jY::kv::ky::kz::kC::kD::kE::kF::u64::kG::kH::kg::ko::kI::kJ::kK::kL::kM::kN::kP::kQ::kR::lK::lL::lN::lQ::lT::lU::lV::lW::lX::lY::lZ::l7::l8::l9::mf::mg::mi::mI::nE::nG::nH::nI::fU::fV::fZ::gm::gp::gq::gu::gy::gz::gB::gF::gG::gH::gJ::gK::gL::gM::gN::gP::gQ::[])),defers:=[] } w:=by
 injection hc with k0;injection k0 with e0 k1;clear e0;injection k1 with e1 k2;clear e1;injection k2 with e2 k3;clear e2;injection k3 with e3 k4;clear e3;injection k4 with e4 k5;clear e4;injection k5 with e5 k6;clear e5;injection k6 with e6 k7;clear e6;injection k7 with e7 k8;clear e7;injection k8 with e8 k9;clear e8;injection k9 with e9 k10;subst k10;subst e9;have H2:=ae h2;have H3:=ae h3;have H4:=ae h4;have HT:=ae hT;have HRW:=ae Ll;have HD:=ae hD;have vk:=ae G7;have Yl:=ae hLT;have Jb:=ae Yk;have HQ:=ae hQ;clear hT Ll hD G7 hLT Yk hQ;have hc0:w.cell? ⟨b2,2,none⟩=some (.slice ta tn tc):=ah h2 2;have hc1:w.cell? ⟨b3,3,none⟩=some (.int .u64 aP):=ah h3 3;have hc2:w.cell? ⟨b3,4,none⟩=some (.int .u64 bg):=ah h3 4;clear h2 h3 h4;go_upto_region 12 with (first
  | (go_at_call 99;go_must (refine (DJ ta tn tc T aP bg _ HT.out.at_ (Nat.lt_of_lt_of_le gY (by omega))).mono ?_;rintro e w1 ⟨v1,rfl,ho1,hb1⟩;have HB1:=ae hb1;obtain ⟨⟨ea,en,ec⟩,hv1,hr1⟩:=eH (P:=P) hP ho1 (fun _=>rfl);have nR:v1=.slice ea en ec:=hv1;subst nR;clear hv1;have HR1:=ae hr1;clear hr1 ho1 hb1))
  | (with_reducible show dJ 25 78 ..;go_must (refine oZ b2 2 (.slice ea en ec) (rS g n ta tn tc ka kn kc da dn dc oa on oc ja jn jc) 31 (af HB1.out H2.out) (rS g n ea en ec ka kn kc da dn dc oa on oc ja jn jc) ?_;intro w2 h9 bJ;have HS2:=ae h9;have dL:=ae bJ;clear h9 bJ)))
 clear hc0 hc1 hc2;have C2:av B w w2:=(av.later HB1.out).trans (av.only dL.out sP);have lH:=ae C2;clear C2;have Vl:Hid (bR=bF.length):=ae HRW.out.len;have HMX:Hid (bR≤maxLen):=ae (Nat.le_trans HRW.out.at_.le HRW.out.at_.max);have hmx:=HMX.out;unfold maxLen at hmx;go_wp2_with fail
 go_loopw [8] (fun i wr=>∃ (k:Nat) (fa:Option Addr) (fl fc:Nat),k≤bR∧i=.int .i64 k∧Hid (wr.heap[b2]? = some (.cells (rS g n fa fl fc ka kn kc da dn dc oa on oc ja jn jc).toArray 31))∧Hid (fT P wr ⟨fa,fl,fc⟩ 2 (((bF.take k).foldl oU (dz (fun x:Row=>x.key) aP bg false T)).map Row.cells))∧Hid (av B w wr)∧Hid (wr.heap[b4]? = some (.cells dS.toArray 31))) (fun i _=>bR - (intOf i).toNat)
 case atStart=>exact ⟨0,ea,en,ec,Nat.zero_le _,rfl,HS2,ae (HR1.out.dV pX (av.only dL.out sP)),lH,ae ((dL.out.block b4 zi).trans (af HB1.out H4.out))⟩
 case round =>
  obtain ⟨k,fa,fl,fc,hk,rfl,wu,HX,HC,Te⟩:=hrel;have Vm:=ae (nQ H3.out HC.out G8);have r9:wr.cell? ⟨b3,5,none⟩=some (.slice bZ bR cK):=ah Vm.out 5;have hcx:wr.cell? ⟨b2,2,none⟩=some (.slice fa fl fc):=ah wu.out 2;by_cases hlt:k<bR
  ·have hdk:decide ((k:Int)<(bR:Int))=true:=by simp;omega
   obtain ⟨x,hx⟩:∃ x,bF[k]? = some x:=⟨bF[k]'(by rw [← Vl.out];exact hlt),by simp⟩;obtain ⟨rb,ro,hra,hrb,hrc⟩:=(HRW.out.dV pX HC.out).at_.el (i:=k) (x:=x.cells) (by simp [hx]);obtain rfl:bZ=some ⟨rb,ro,none⟩:=hra;obtain ⟨az,dU⟩:=x;have hx0:wr.cell? ⟨rb,ro+k*2,none⟩=some (.int .u64 az):=by simpa using hrc 0 _ rfl
   have hx1:wr.cell? ⟨rb,ro+k*2+1,none⟩=some (.int .u64 dU):=by simpa using hrc 1 _ rfl
   have Vn:=ae hx;have hlt3:b3<wr.heap.size:=(df Vm.out);have Ot:b3≠b2:=Dv;have CY:rb≠b2:=fun e=>(HRW.out.dV pX HC.out).off (Nat.lt_of_le_of_lt (Nat.zero_le k) hlt) _ _ _ rfl (e ▸ pX _ sP)
   clear hrc hx;have hi1:(0:Int)≤(k:Int):=by omega
   have hi2:(k:Int)<(bR:Int):=by omega
   go_upto_region 15 with fail
   refine wp_region_noPanic ?_;refine wp_region_held_drew (S:=(fun w'=>w'.cell? ⟨b3,5,none⟩=some (.slice (some ⟨rb,ro,none⟩) bR cK)∧w'.cell? ⟨rb,ro+k*2,none⟩=some (.int .u64 az)∧w'.cell? ⟨rb,ro+k*2+1,none⟩=some (.int .u64 dU))) (by kernel_rfl) (⟨r9,hx0,hx1⟩) (fun hHeld=>?_);refine dC 0 ?_;try simp only [Act.put,dK]
   refine dC 2 ?_;try simp only [Act.put]
   refine dC 3 ?_;try simp only [Act.put]
   refine dC 4 ?_;try simp only [Act.put]
   refine dC 5 ?_;try simp only [Act.put]
   refine dC 6 ?_;try simp only [Act.put]
   refine mo 1 (fun K hK=>?_);go_simp
   refine hK.out _ _ (⟨r9,hx0,hx1⟩) (fun hHeld=>?_);clear hK K;try simp only [Act.put,dK,fF,fG]
   refine mo 7 (fun K hK=>?_);go_simp
   refine (F8 fa fl fc ((bF.take k).foldl oU (dz (fun x:Row=>x.key) aP bg false T)) az dU _ (HX.out.later (Below.refl _ _).drew).at_ (Yl.out k)).mono ?_;rintro e y1 ⟨v1,rfl,ho1,hb1⟩;have wG:Hid (Below wr.heap.size wr y1):=ae ((Below.refl _ wr).drew.trans hb1);obtain ⟨⟨za,zn,zc⟩,hv1,hr1⟩:=eH (P:=P) (fun q hq=>hP q (Nat.le_trans HC.out.size hq)) ho1 (fun _=>rfl);have nR:v1=.slice za zn zc:=hv1;subst nR;have HZ:=ae hr1;clear hv1 hr1 ho1 hb1;have HB2:=ae (af wG.out wu.out);have hcy:y1.cell? ⟨b2,2,none⟩=some (.slice fa fl fc):=ah HB2.out 2;have hfy:y1.frozen? ⟨b2,2,none⟩=false:=oh (Below.refl _ y1) HB2.out 2;obtain ⟨s1,s2⟩:=wV (o:=2) (v:=Value.slice za zn zc) (cur:=(rS g n fa fl fc ka kn kc da dn dc oa on oc ja jn jc)) HB2.out;have Jp:=ae s1;have Aw:=ae s2;clear s1 s2;go_wp2_with fail
   refine hK.out _ _ (⟨(wG.out.cell (p:=⟨b3,5,none⟩) hlt3).trans r9,(wG.out.cell (p:=⟨rb,ro+k*2,none⟩) hrb).trans hx0,(wG.out.cell (p:=⟨rb,ro+k*2+1,none⟩) hrb).trans hx1⟩) (fun hHeld=>?_);clear hK K;try simp only [Act.put,dK,fF,fG]
   refine dC 8 ?_;try simp only [Act.put,dK]
   refine mo 9 (fun K hK=>?_);go_simp
   refine hK.out _ _ (⟨(pJ Aw.out Ot).trans ((wG.out.cell (p:=⟨b3,5,none⟩) hlt3).trans r9),(pJ Aw.out CY).trans ((wG.out.cell (p:=⟨rb,ro+k*2,none⟩) hrb).trans hx0),(pJ Aw.out CY).trans ((wG.out.cell (p:=⟨rb,ro+k*2+1,none⟩) hrb).trans hx1)⟩) (fun hHeld=>?_);clear hK K;try simp only [Act.put,dK,fF,fG]
   refine wpAnyH_done (by kernel_rfl) ?_ _;refine NoPanic.normal ?_;go_wp2_with fail
   generalize y1.setCell ⟨b2,2,none⟩ (.slice za zn zc)=y2 at Jp Aw;go_roundw
   case rel =>
    have c12:av B wr y2:=(av.later wG.out).trans (av.only Aw.out sP);refine ⟨k+1,za,zn,zc,by omega,by go_num,Jp,?_,ae (HC.out.trans c12),ae ((Aw.out.block b4 zi).trans (af wG.out Te.out))⟩;have e:((bF.take (k+1)).foldl oU (dz (fun x:Row=>x.key) aP bg false T))=oU ((bF.take k).foldl oU (dz (fun x:Row=>x.key) aP bg false T)) ⟨az,dU⟩:=by rw [List.take_add_one,Vn.out,Option.toList_some,List.foldl_append];rfl
    rw [e];exact HZ.out.dV pX (av.only Aw.out sP)
   case measure=>simp [intOf];omega
  ·have hdk:decide ((k:Int)<(bR:Int))=false:=by simp;omega
   have pY:k=bR:=by omega
   have hfull:bF.take k=bF:=List.take_of_length_le (by have:=Vl.out;omega);rw [hfull] at HX;clear hfull;clear hcx;have hsz:=HC.out.size;go_upto_region 16 with fail
   refine aie rfl P B wr b2 b3 b4 g n fa fl fc da dn dc ka kn kc oa on oc ja jn jc aM bG aV aP bg bZ bR cK bX bN bY bC D wu.out Vm.out Te.out (HD.out.dV pX HC.out) (vk.out.dV pX HC.out) gU Jb.out (fun q hq=>hP q (Nat.le_trans hsz hq)) pX sP zH G8 zi OG Dv PP ?_ (by first | assumption | exact fun _ _ h=>h);intro za zn zc w' hz hc2;exact HQ.out fa fl fc za zn zc w' (HX.out.dV pX hc2) hz (HC.out.trans hc2)
def afp (P:Nat→Prop) (w:World) (g n:Int) (r:St) (e:Ending) (w':World):Prop :=
 ∃ (vT vM vD vO vI:Sl) (L':List ax),e=.returned (.agg #[.int .u8 g,.int .u8 n,vT.val,vM.val,vD.val,vO.val,vI.val])∧L'.map ax.core=r.O∧ry P w' vT vM vD vO vI r.T r.M r.D L' r.I∧Below w.heap.size w w'
theorem ZR {T rows:List Row} {lo hi:Int} (hs:jZ T) (hr:uV lo hi rows=true) (hlh:lo≤hi) (k:Nat):((rows.take k).foldl oU (dz (fun x:Row=>x.key) lo hi false T)).length≤T.length+255:=by
 obtain ⟨s1,i1,l1⟩:=Gl hr;have e1:=L9 (lo:=lo) (hi:=hi) (B:=sB (fun x:Row=>x.key) lo T) (A:=sA (fun x:Row=>x.key) lo hi T) (fun x hx=>KF hx) (fun x hx=>KG hx) (rows.take k) [] (by simp) (s1.sublist (List.take_sublist _ _)) (fun x hx=>i1 x (List.mem_of_mem_take hx));simp only [List.nil_append] at e1;rw [← uL hlh hs.le,e1];have b1:(sB (fun x:Row=>x.key) lo T++sA (fun x:Row=>x.key) lo hi T).length≤T.length:=Av hlh hs.le;simp only [List.length_append,List.length_take] at b1 ⊢;omega
theorem ZT {D bP:List ak} {lo hi:Int} (hs:eU D) (hr:yx lo hi bP=true) (hlh:lo≤hi) (k:Nat):((bP.take k).foldl fe (dz (fun x:ak=>x.key) lo hi false D)).length≤D.length+255:=by
 obtain ⟨s1,i1,l1⟩:=Gm hr;have e1:=Ma (lo:=lo) (hi:=hi) (B:=sB (fun x:ak=>x.key) lo D) (A:=sA (fun x:ak=>x.key) lo hi D) (fun x hx=>KF hx) (fun x hx=>KG hx) (hs.sublist List.filter_sublist) (hs.sublist List.filter_sublist) hlh (bP.take k) [] (by rw [List.nil_append];exact s1.sublist (List.take_sublist _ _)) (by simp only [List.nil_append];exact fun x hx=>i1 x (List.mem_of_mem_take hx));simp only [List.nil_append] at e1;rw [← uL hlh hs.le,e1];have b1:(sB (fun x:ak=>x.key) lo D++sA (fun x:ak=>x.key) lo hi D).length≤D.length:=Av hlh hs.le;simp only [List.length_append,List.length_take] at b1 ⊢;omega
theorem UK (P:Nat→Prop) (w:World) (g n:Int) (ta:Option Addr) (tn tc:Nat) (ma:Option Addr) (mn mc:Nat) (da:Option Addr) (dn dc:Nat) (oa:Option Addr) (on oc:Nat) (ia:Option Addr) (il ic:Nat) (aM bG aV aP bg:Int) (bZ:Option Addr) (bR cK:Nat) (bX:Option Addr) (bN bY:Nat) (bF:List Row) (bC:List ak) (T:List Row) (M:List Pc) (D:List ak) (L:List ax) (I:List Int)
 (hS:ry P w ⟨ta,tn,tc⟩ ⟨ma,mn,mc⟩ ⟨da,dn,dc⟩ ⟨oa,on,oc⟩ ⟨ia,il,ic⟩ T M D L I) (Ll:fT P w ⟨bZ,bR,cK⟩ 2 (bF.map Row.cells)) (G7:fT P w ⟨bX,bN,bY⟩ 7 (bC.map ak.cells)) (hok:ku (St.mk g n T M D (L.map ax.core) I)) (gY:T.length<490000) (gU:D.length<490000) (hP:∀ k,w.heap.size≤k→¬ P k) (hr:(aF.mk aM bG aV aP bg ⟨bZ,bR,cK⟩ ⟨bX,bN,bY⟩ bF bC).ok=true) (hwf:(aF.mk aM bG aV aP bg ⟨bZ,bR,cK⟩ ⟨bX,bN,bY⟩ bF bC).wf) :
 Calls Tryz.prog 50 #[.agg (rS g n ta tn tc ma mn mc da dn dc oa on oc ia il ic).toArray,.agg (rR aM bG aV aP bg bZ bR cK bX bN bY).toArray] w fun e w'=>afp P w g n (zG (St.mk g n T M D (L.map ax.core) I) (aF.mk aM bG aV aP bg ⟨bZ,bR,cK⟩ ⟨bX,bN,bY⟩ bF bC).core) e w':=by
 obtain ⟨W,hW⟩:∃ W,W=(((w.alloc (.cells (rS g n ta tn tc ma mn mc da dn dc oa on oc ia il ic).toArray 31)).alloc (.cells (rR aM bG aV aP bg bZ bR cK bX bN bY).toArray 52)).alloc (.cells dS.toArray 31)):=⟨_,rfl⟩;obtain ⟨h2,h3,h4,bE,hWs⟩:=three w (.cells (rS g n ta tn tc ma mn mc da dn dc oa on oc ia il ic).toArray 31) (.cells (rR aM bG aV aP bg bZ bR cK bX bN bY).toArray 52) (.cells dS.toArray 31);rw [← hW] at h2 h3 h4 bE hWs;obtain ⟨b4,hb4⟩:∃ b4,w.heap.size+1+1=b4:=⟨_,rfl⟩;obtain ⟨b3,hb3⟩:∃ b3,w.heap.size+1=b3:=⟨_,rfl⟩;obtain ⟨b2,hb2⟩:∃ b2,w.heap.size=b2:=⟨_,rfl⟩;have h4':W.heap[b4]? = some (.cells dS.toArray 31):=by rw [← hb4];exact h4
 rw [hb3] at h3;have h2':W.heap[b2]? = some (.cells (rS g n ta tn tc ma mn mc da dn dc oa on oc ia il ic).toArray 31):=by rw [← hb2];exact h2
 obtain ⟨Bb,hBd⟩:∃ Bb:Nat→Prop,Bb=fun k=>w.heap.size≤k∧k<W.heap.size∧k≠b3:=⟨_,rfl⟩
 obtain ⟨Pb,wF⟩:∃ Pb:Nat→Prop,Pb=fun k=>P k∨(w.heap.size≤k∧k<W.heap.size):=⟨_,rfl⟩
 have hBb:∀ k,Bb k→Pb k:=by intro k hk;rw [hBd] at hk;rw [wF];exact .inr ⟨hk.1,hk.2.1⟩
 have De:∀ k,W.heap.size≤k→¬ Pb k:=by
  intro k hk e;rw [wF] at e;rcases e with e | e
  ·exact hP k (by omega) e
  ·omega
 have sP:Bb b2:=by rw [hBd];refine ⟨?_,?_,?_⟩ <;> omega
 have zH:Bb b4:=by rw [hBd];refine ⟨?_,?_,?_⟩ <;> omega
 have G8:¬ Bb b3:=by rw [hBd];exact fun e=>e.2.2 rfl
 have zi:¬ b4=b2:=by omega
 have OG:¬ b2=b4:=by omega
 have Dv:¬ b3=b2:=by omega
 have HZ:Hid (w.heap.size≤b4∧b4<W.heap.size∧b4≠b3):=ae ⟨by omega,by omega,by omega⟩;have toP:∀ k,Pb k→P k∨w.heap.size≤k:=by intro k hk;rw [wF] at hk;exact hk.imp id (fun h=>h.1)
 have back:∀ {x:World} k,P k→Pb k∨x.heap.size≤k:=by intro x k hk;rw [wF];exact .inl (.inl hk)
 have fin:∀ w',av Bb W w'→Below w.heap.size w w':=fun w' hc=>bE.trans (hc.below (fun k hk=>⟨by omega,fun e=>by rw [hBd] at e;omega⟩))
 have yD:=ae hS;have HS:=ae ((hS.to toP).later bE);have HRW:=ae ((Ll.to toP).later bE);have vk:=ae ((G7.to toP).later bE);have HWM:Hid (∀ (i:Nat) (x:Pc),M[i]? = some x→x.wf):=ae fun i x hx=>by
  have:=Ky hok.can x (List.mem_of_getElem? hx);exact ⟨this.1,this.2.1,this.2.2.1,by omega⟩
 obtain ⟨_,hlh,hro,hdo⟩:=FW hr;have qi:=ae hok;have SH:Hid (∀ k,((bF.take k).foldl oU (dz (fun x:Row=>x.key) aP bg false T)).length<499999):=ae fun k=>Nat.lt_of_le_of_lt (ZR hok.sT hro hlh k) (by show T.length+255<499999;omega)
 have Jb:Hid (∀ k,((bC.take k).foldl fe (dz (fun x:ak=>x.key) aP bg false D)).length<499999):=ae fun k=>Nat.lt_of_le_of_lt (ZT hok.sD hdo hlh k) (by show D.length+255<499999;omega)
 have aih:aP≤bg:=hlh;have hl0:0≤aP:=hwf.lo.1;have hhi:bg<18446744073709551616:=hwf.hi.2;have hs0:0≤aM:=hwf.src.1;have hg0:0≤g:=hok.g0;have hg4:g<4:=by have h1:=hok.gn;have h2:=hok.n4;dsimp only at h1 h2;omega
 have TN:Hid ((I.length:Int)=n∧il=I.length∧n≤4):=ae ⟨hok.il,hS.i.len,hok.n4⟩;have H2:=ae h2';have H3:=ae h3;have H4:=ae h4';have Br:=ae (And.intro hb2 (And.intro hb3 hb4));clear h2 h2' h3 h4 h4' bE hWs hS hok hr hwf Ll G7 hb2 hb3 hb4 hro hdo hlh;go_enter Tryz.func50,Tryz.ntmps50
 go_upto_region 1 with fail
 rw [← hW];clear hW;obtain ⟨hb2,hb3,hb4⟩:=Br.out;rw [hb4,hb3,hb2];clear hb2 hb3 hb4;have hr0:W.cell? ⟨b3,0,none⟩=some (.int .u8 aM):=ah H3.out 0;have hr1:W.cell? ⟨b3,1,none⟩=some (.int .u8 bG):=ah H3.out 1;have hr2:W.cell? ⟨b3,2,none⟩=some (.int .u32 aV):=ah H3.out 2;have hd0:W.cell? ⟨b2,0,none⟩=some (.int .u8 g):=ah H2.out 0;have hd1:W.cell? ⟨b2,1,none⟩=some (.int .u8 n):=ah H2.out 1;have hd6:W.cell? ⟨b2,6,none⟩=some (.slice ia il ic):=ah H2.out 6;go_cut [40] from 10 to 40 (fun s wx=>s=.bool (!(oL g n I (aF.mk aM bG aV aP bg ⟨bZ,bR,cK⟩ ⟨bX,bN,bY⟩ bF bC).core))∧Hid (Below W.heap.size W wx))
 case first =>
  by_cases h1:bG=g
  ·have e1:(bG != g)=false:=by simp [h1]
   by_cases h2:aM=g
   ·have e2:(aM == g)=true:=by simp [h2]
    have e9:oL g n I (aF.mk aM bG aV aP bg ⟨bZ,bR,cK⟩ ⟨bX,bN,bY⟩ bF bC).core=false:=by simp [oL,aF.core,h2]
    clear h1 h2;go_quiet (fail)
    go_wp2_with fail
    go_meet
    exact ⟨by rw [e9];rfl,below_drewN (Below.refl _ _) _⟩
   ·have e2:(aM == g)=false:=by simp [h2]
    by_cases h3:n≤aM
    ·have e3:decide (n≤aM)=true:=by simp [h3]
     have e9:oL g n I (aF.mk aM bG aV aP bg ⟨bZ,bR,cK⟩ ⟨bX,bN,bY⟩ bF bC).core=false:=by
      have:¬ aM<n:=by omega
      simp [oL,aF.core,this]
     clear h1 h2 h3;go_quiet (fail)
     go_wp2_with fail
     go_meet
     exact ⟨by rw [e9];rfl,below_drewN (Below.refl _ _) _⟩
    ·have e3:decide (n≤aM)=false:=by simp;omega
     obtain ⟨t,ht⟩:∃ t:Nat,aM=(t:Int):=⟨aM.toNat,by omega⟩;have htl:t<I.length:=by have:=TN.out;omega
     obtain ⟨iv,FT⟩:∃ iv,I[t]? = some iv:=⟨I[t]'htl,by simp⟩;obtain ⟨ib,io,hia,hib,hic⟩:=HS.out.i.at_.el (i:=t) (x:=yA iv) (by simp [FT]);obtain rfl:ia=some ⟨ib,io,none⟩:=hia;have hx0:W.cell? ⟨ib,io+t,none⟩=some (.int .u32 iv):=by simpa using hic 0 _ rfl
     have hi1:(0:Int)≤(t:Int):=by omega
     have hi2:(t:Int)<(il:Int):=by have:=TN.out;omega
     subst ht;have e9:oL g n I (aF.mk (t:Int) bG aV aP bg ⟨bZ,bR,cK⟩ ⟨bX,bN,bY⟩ bF bC).core=(aV == IntKind.u32.wrap (iv+1)):=by
      have:(t:Int)<n:=by omega
      simp [oL,aF.core,h1,h2,this,FT]
     clear h1 h2 h3 hic FT htl hib;go_quiet (fail)
     go_wp2_with fail
     go_meet
     exact ⟨by rw [e9];rfl,below_drewN (Below.refl _ _) _⟩
  ·have e1:(bG != g)=true:=by simp [h1]
   have e9:oL g n I (aF.mk aM bG aV aP bg ⟨bZ,bR,cK⟩ ⟨bX,bN,bY⟩ bF bC).core=false:=by simp [oL,aF.core,h1]
   clear h1;go_quiet (fail)
   go_wp2_with fail
   go_meet
   exact ⟨by rw [e9];rfl,below_drewN (Below.refl _ _) _⟩
 case rest =>
 obtain ⟨aii,Ab⟩:=hcut;subst aii;clear hr0 hr1 hr2 hd0 hd1 hd6;cases hnx:oL g n I (aF.mk aM bG aV aP bg ⟨bZ,bR,cK⟩ ⟨bX,bN,bY⟩ bF bC).core with
 | false =>
  have eR:zG (St.mk g n T M D (L.map ax.core) I) (aF.mk aM bG aV aP bg ⟨bZ,bR,cK⟩ ⟨bX,bN,bY⟩ bF bC).core=(St.mk g n T M D (L.map ax.core) I):=by unfold zG;rw [if_neg (fun e=>by have:=e.1;dsimp only at this;rw [hnx] at this;exact absurd this (by simp))]
  have Bt:=ae eR;clear eR;go_wp2_with (first
   | (with_reducible show cB 41 31 ..;go_must (refine dF b2 0 7 fE _ _ (af Ab.out H2.out) (rS g n ta tn tc ma mn mc da dn dc oa on oc ia il ic) ?_))
   | (with_reducible show wpList _ _ _ ({ dst:=none,op:=Op.store 31 _ _,type:=_,pos:=_,after:=_,guard:=none }::_) _ _;go_must (refine fH b4 0 (rS g n ta tn tc ma mn mc da dn dc oa on oc ia il ic) 7 dS 31 (af Ab.out H4.out) (rS g n ta tn tc ma mn mc da dn dc oa on oc ia il ic) ?_;intro w5 h9 bJ;have TM:=ae h9;have ru:=ae bJ;clear h9 bJ)))
  refine bodyPost_ret (v:=.agg (rS g n ta tn tc ma mn mc da dn dc oa on oc ia il ic).toArray) (results_cell_row Tryz.results50 _ _ b4 31 _ (0,0) _ rfl TM.out fE rfl (by kernel_rfl)) rfl ?_;rw [Bt.out];have hcx:av (fun k=>k=b4) W w5:=(av.later Ab.out).trans (av.only ru.out rfl);have hbx:=fin _ (hcx.mono (fun k _ e=>by rw [hBd];have:=HZ.out;constructor <;> omega));exact ⟨⟨ta,tn,tc⟩,⟨ma,mn,mc⟩,⟨da,dn,dc⟩,⟨oa,on,oc⟩,⟨ia,il,ic⟩,L,rfl,rfl,yD.out.later hbx,hbx⟩
 | true =>
  have U9:=ae hnx;have hq0:wc.cell? ⟨b2,0,none⟩=some (.int .u8 g):=ah (af Ab.out H2.out) 0;have hq1:wc.cell? ⟨b2,3,none⟩=some (.slice ma mn mc):=ah (af Ab.out H2.out) 3;have hq2:wc.cell? ⟨b3,3,none⟩=some (.int .u64 aP):=ah (af Ab.out H3.out) 3;have hq3:wc.cell? ⟨b3,4,none⟩=some (.int .u64 bg):=ah (af Ab.out H3.out) 4;clear hnx;go_upto_region 4 with (first
   | (go_at_call 104;go_must (refine (JB ma mn mc M aP bg g _ (HS.out.m.later Ab.out).at_ HWM.out qi.out.FP qi.out.can qi.out.ml hl0 aih hhi hg0 hg4).mono ?_;rintro e y1 ⟨v1,rfl,ho1,hb1⟩;have HB1:=ae (ai Ab.out hb1);obtain ⟨⟨ka,kn,kc⟩,hv1,hr1⟩:=eH (P:=Pb) (fun k hk=>De k (Nat.le_trans Ab.out.size hk)) ho1 (fun _=>rfl);have nR:v1=.slice ka kn kc:=hv1;subst nR;clear hv1;have HR1:=ae hr1;clear hr1 ho1 hb1)))
  clear hq0 hq1 hq2 hq3;by_cases hlen:1000<(dG M aP bg g).length
  ·have e4:qW (dG M aP bg g)=3:=by simp [qW,hlen]
   have eR:zG (St.mk g n T M D (L.map ax.core) I) (aF.mk aM bG aV aP bg ⟨bZ,bR,cK⟩ ⟨bX,bN,bY⟩ bF bC).core=(St.mk g n T M D (L.map ax.core) I):=by
    unfold zG;rw [if_neg (fun e=>by have h2:(dG M aP bg g).length≤1000:=e.2;omega)]
   rw [e4];clear Ab;have Ab:=HB1;have Bt:=ae eR;clear eR;go_wp2_with (first
    | (with_reducible show cB 56 31 ..;go_must (refine dF b2 0 7 fE _ _ (af Ab.out H2.out) (rS g n ta tn tc ma mn mc da dn dc oa on oc ia il ic) ?_))
    | (with_reducible show wpList _ _ _ ({ dst:=none,op:=Op.store 31 _ _,type:=_,pos:=_,after:=_,guard:=none }::_) _ _;go_must (refine fH b4 0 (rS g n ta tn tc ma mn mc da dn dc oa on oc ia il ic) 7 dS 31 (af Ab.out H4.out) (rS g n ta tn tc ma mn mc da dn dc oa on oc ia il ic) ?_;intro w5 h9 bJ;have TM:=ae h9;have ru:=ae bJ;clear h9 bJ)))
   refine bodyPost_ret (v:=.agg (rS g n ta tn tc ma mn mc da dn dc oa on oc ia il ic).toArray) (results_cell_row Tryz.results50 _ _ b4 31 _ (0,0) _ rfl TM.out fE rfl (by kernel_rfl)) rfl ?_;rw [Bt.out];have hcx:av (fun k=>k=b4) W w5:=(av.later Ab.out).trans (av.only ru.out rfl);have hbx:=fin _ (hcx.mono (fun k _ e=>by rw [hBd];have:=HZ.out;constructor <;> omega));exact ⟨⟨ta,tn,tc⟩,⟨ma,mn,mc⟩,⟨da,dn,dc⟩,⟨oa,on,oc⟩,⟨ia,il,ic⟩,L,rfl,rfl,yD.out.later hbx,hbx⟩
  ·have e4:qW (dG M aP bg g)=0:=by simp [qW,hlen]
   have e5:qG (dG M aP bg g)=dG M aP bg g:=by simp [qG,hlen]
   have eR:zG (St.mk g n T M D (L.map ax.core) I) (aF.mk aM bG aV aP bg ⟨bZ,bR,cK⟩ ⟨bX,bN,bY⟩ bF bC).core=St.mk g n (bF.foldl oU (dz (fun x:Row=>x.key) aP bg false T)) (dG M aP bg g) (bC.foldl fe (dz (fun x:ak=>x.key) aP bg false D)) (L.map ax.core) (I.set aM.toNat aV):=by
    unfold zG;rw [if_pos ⟨U9.out,by show (dG M aP bg g).length≤1000;omega⟩];rfl
   rw [e4];rw [e5] at HR1;clear e4 e5 hlen;have hsl:aM.toNat<I.length:=by
    have h1:=U9.out;unfold oL at h1;simp only [Bool.and_eq_true,decide_eq_true_eq] at h1;have h2:aM<n:=h1.1.2;have:=TN.out;omega
   obtain ⟨t,ht⟩:∃ t:Nat,aM=(t:Int):=⟨aM.toNat,by omega⟩;have htt:aM.toNat=t:=by omega
   rw [htt] at hsl eR;have Bt:=ae eR;clear eR htt;go_upto_region 8 with (first
    | (with_reducible show dJ 26 58 ..;go_must (refine oZ b2 3 (.slice ka kn kc) (rS g n ta tn tc ma mn mc da dn dc oa on oc ia il ic) 31 (af HB1.out H2.out) (rS g n ta tn tc ka kn kc da dn dc oa on oc ia il ic) ?_;intro y2 h9 bJ;have HS2:=ae h9;have dL:=ae bJ;clear h9 bJ)))
   have Nk:y2.cell? ⟨b2,6,none⟩=some (.slice ia il ic):=ah HS2.out 6;have lH:Hid (av Bb W y2):=ae ((av.later HB1.out).trans (av.only dL.out sP));have HI2:=ae (HS.out.i.dV hBb lH.out);have hnil:ia=none→ic=0:=HI2.out.nil;have hall:=Sy I;have zZ:=Ph I;obtain ⟨i0,hi0,hz0,hz1,hz2⟩:=info_parts Jo;go_upto_region 9 with (first
    | (at_builtin;go_must (refine mG rfl _ _ 29 rfl 47 i0 (.int .u32 0) 1 4 RL hi0 hz0 hz1 hz2 rfl (by decide) rfl y2.heap.size ia il ic rfl (I.map yA) HI2.out.at_ hnil hall zZ (by have:=TN.out;omega) ?_;intro vq wq hoq G5;have TC:Hid (Below y2.heap.size y2 wq):=ae ⟨G5.os,G5.tape,G5.output,G5.size,fun k hk=>G5.block k hk (by simp)⟩;rw [List.length_map] at hoq;obtain ⟨gi,ci,cur,hvi,hbi,hgi,hni,hci,aij,aik,aek,hxi,hput⟩:=kS hoq (Nat.lt_of_le_of_lt (Nat.zero_le _) hsl);subst hvi;have XG:=ae hgi;have Bo:=ae aek;have TD:=ae hput;have Jv:=ae hni;have Xt:=ae hbi;clear hoq G5 hgi aek hput hni hbi hci aij aik hxi)))
   clear Nk;have hw0:wq.cell? ⟨b3,0,none⟩=some (.int .u8 aM):=ah (af TC.out (nQ H3.out lH.out G8)) 0;have hw2:wq.cell? ⟨b3,2,none⟩=some (.int .u32 aV):=ah (af TC.out (nQ H3.out lH.out G8)) 2;subst ht;have hi1:(0:Int)≤(t:Int):=by omega
   have hi2:(t:Int)<(I.length:Int):=by omega
   have CW:Hid (Nat.ble (t+1) cur.length=true):=by show _=_;have:=Jv.out;simp [Nat.ble_eq];omega
   go_upto_region 10 with (first
    | (with_reducible show dJ 47 68 ..;go_must (refine cZ rfl _ _ _ rfl rfl gi t rfl (.int .u32 aV) rfl (by kernel_rfl) rfl cur 47 XG.out CW.out _ rfl ?_;intro y3 h9 bJ;have uF:=ae h9;have KY:=ae bJ;clear h9 bJ)))
   clear hw0 hw2;have HB3:Hid (Below y2.heap.size y2 y3):=ae (TC.out.trans (KY.out.below Xt.out));have Da:Hid (y3.ownsRow y2.heap.size 47 1 (.slice (some ⟨gi,0,none⟩) I.length ci) (I.set t aV).length ((I.set t aV).map yA).flatten):=by
    show World.ownsRow _ _ _ _ _ _ _;have hm:I.length*1≤cur.length:=Jv.out;obtain ⟨k1,k2⟩:=Ij (u:=Value.int .u32 aV) Bo.out (by omega:t<I.length*1) hm;have h2:=TD.out y3 _ k2 uF.out;obtain ⟨iv,FT⟩:∃ iv,I[t]? = some iv:=⟨I[t]'hsl,by simp⟩;have e1:=yT FR I t 0 iv aV (.int .u32 aV) FT (by decide) rfl;simp only [Nat.mul_one,Nat.add_zero] at e1;rw [k1,e1] at h2;rw [List.length_set];exact h2
   obtain ⟨⟨ja,jn,jc⟩,hv1,hr1⟩:=eH (P:=Pb) (fun k hk=>De k (Nat.le_trans lH.out.size hk)) Da.out FR;have nR:Value.slice (some ⟨gi,0,none⟩) I.length ci=.slice ja jn jc:=hv1;injection nR with q1 q2 q3;subst q1 q2 q3;have HJ:=ae hr1;clear hv1 hr1;go_upto_region 11 with (first
    | (with_reducible show dJ 29 70 ..;go_must (refine oZ b2 6 (.slice (some ⟨gi,0,none⟩) I.length ci) (rS g n ta tn tc ka kn kc da dn dc oa on oc ia il ic) 31 (af HB3.out HS2.out) (rS g n ta tn tc ka kn kc da dn dc oa on oc (some ⟨gi,0,none⟩) I.length ci) ?_;intro y4 h9 bJ;have I8:=ae h9;have pU:=ae bJ;clear h9 bJ)))
   have Db:Hid (av Bb W y4):=ae ((lH.out.trans (av.later HB3.out)).trans (av.only pU.out sP));have ail:=Db.out.size;refine aif rfl Pb Bb y4 b2 b3 b4 g n ta tn tc da dn dc ka kn kc oa on oc (some ⟨gi,0,none⟩) I.length ci (t:Int) bG aV aP bg bZ bR cK bX bN bY bF bC T D I8.out (nQ H3.out Db.out G8) ((pU.out.block b4 zi).trans (af HB3.out ((dL.out.block b4 zi).trans (af HB1.out H4.out)))) (HS.out.t.dV hBb Db.out) (HRW.out.dV hBb Db.out) (HS.out.d.dV hBb Db.out) (vk.out.dV hBb Db.out) (by omega) (by omega) SH.out Jb.out (fun k hk=>De k (Nat.le_trans ail hk)) hBb sP zH G8 zi OG Dv _ ?_ (by first | assumption | exact fun _ _ h=>h);intro ya yn yc za zn zc w' hy hz hc;have KM:=Db.out.trans hc;rw [Bt.out];exact ⟨⟨ya,yn,yc⟩,⟨ka,kn,kc⟩,⟨za,zn,zc⟩,⟨oa,on,oc⟩,⟨some ⟨gi,0,none⟩,I.length,ci⟩,L,rfl,rfl,⟨hy.to back,(HR1.out.dV hBb ((av.only dL.out sP).trans ((av.later HB3.out).trans ((av.only pU.out sP).trans hc)))).to back,hz.to back,(HS.out.o.dV hBb KM).to back,(HJ.out.dV hBb ((av.only pU.out sP).trans hc)).to back,fun l hl=>((HS.out.ln l hl).dV hBb KM).to back⟩,fin _ KM⟩
end
end Go.Proofs.YtignemioillaiaaGreat
