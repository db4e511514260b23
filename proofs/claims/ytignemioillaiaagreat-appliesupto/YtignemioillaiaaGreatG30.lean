/- The document: client: a key of another group. -/
import Derived.Test.YtignemioillaiaaGreatG29
namespace Go.Proofs.YtignemioillaiaaGreat
set_option maxHeartbeats 8000000
set_option maxRecDepth 100000
section
open Go.RowKit Go.Lib
theorem aed {c d a0 a1 a2 a3:Code} (hc:Tryz.f48.body=some (a0.seq (a1.seq (a2.seq (a3.seq (c.seq d)))))) {u0 u1 u8 u9 jB jg jh ji jk jl u16 mW oz lJ nC mE mF mh jC jD jw j6 ig ik iq iw u32 jm jq jr jE jF jG jH jI jJ jK jL jM jN jO jP jQ jR jS jT jU jV jW jX jY kv ky kz kC kD kE kF u64 kG kH kg ko kI kJ kK kL kM kN kP kQ kR lK lL lN lQ lT lU lV lW lX lY lZ l7 l8 l9 mf mg mi mI nE nG nH nI fU fV fZ gm gp gq gu gy gz gB gF gG gH gJ gK gL gM gN gP gQ iA iB iC iD iE iF iG iH iI iJ iK iL iM iN iO iP iQ iR iT iU iV iW iX iY iZ jd je jf kU kV kW kX lg lh ll lu lv lC lD mJ mK mM mO mP mQ mR mU mZ ng ni nu ny:Value} (w:World) (b2 b3 b4 b5 b6:Nat) (g n:Int) (ta:Option Addr) (tn tc:Nat) (ma:Option Addr) (mn mc:Nat) (da:Option Addr) (dn dc:Nat) (oa:Option Addr) (on oc:Nat) (ia:Option Addr) (il ic:Nat) (qc qs qk ag qv au aA hi fg:Int) (M:List Pc)
 (h2:w.heap[b2]? = some (.cells (rS g n ta tn tc ma mn mc da dn dc oa on oc ia il ic).toArray 31)) (h3:w.heap[b3]? = some (.cells (rQ qc qs qk ag qv au aA).toArray 50)) (h6:w.heap[b6]? = some (.cells (rP qc qs ag 2 false 0 0).toArray 57)) (h4:w.heap[b4]? = some (.cells dS.toArray 31)) (h5:w.heap[b5]? = some (.cells bA.toArray 57))
 (hM:nT w ma mn mc M) (Q9:DK M g ag hi=true) (hfg:Io M g ag hi=fg)
 (_n1:¬ b4=b2) (n2:¬ b4=b6) (_n3:¬ b5=b2) (n4:¬ b5=b6) (n5:¬ b4=b5) (_n6:¬ b2=b4) (n7:¬ b6=b4) (n8:¬ b2=b5) (n9:¬ b6=b5) (n10:¬ b5=b4) (n11:¬ b6=b2) (n12:¬ b2=b6) (PP:Ending→World→Prop)
 (hQ:∀ w',av (fun k=>k=b4∨k=b5∨k=b6) w w'→PP (.returned (.tuple #[.agg (rS g n ta tn tc ma mn mc da dn dc oa on oc ia il ic).toArray,.agg (rP qc qs ag 3 false 0 fg).toArray])) w') {K:Act→World→Prop} (hK:∀ a w,d.wp Tryz.prog (bodyPost Tryz.prog Tryz.f48 PP) a w→K a w) :
 c.wp Tryz.prog (Exit.then K (bodyPost Tryz.prog Tryz.f48 PP)) { tmps:=(List.toArray (α:=Value) (u0::u1::.pointer (some ⟨b2,0,none⟩)::.pointer (some ⟨b3,0,none⟩)::.pointer (some ⟨b4,0,none⟩)::.pointer (some ⟨b5,0,none⟩)::.pointer (some ⟨b6,0,none⟩)::.int .u64 hi::u8::u9::jB::jg::jh::ji::jk::jl::u16::mW::oz::lJ::nC::mE::mF::mh::jC::jD::jw::j6::ig::ik::iq::iw::u32::jm::jq::jr::jE::jF::jG::jH::jI::jJ::jK::jL::jM::jN::jO::jP::jQ::jR::jS::jT::jU::jV::jW::jX::jY::kv::ky::kz::kC::kD::kE::kF::u64::kG::kH::kg::ko::kI::kJ::kK::kL::kM::kN::kP::kQ::kR::lK::lL::lN::lQ::lT::lU::lV::lW::lX::lY::lZ::l7::l8::l9::mf::mg::mi::mI::nE::nG::nH::nI::fU::fV::fZ::gm::gp::gq::gu::gy::gz::gB::gF::gG::gH::gJ::gK::gL::gM::gN::gP::gQ::iA::iB::iC::iD::iE::iF::iG::iH::iI::iJ::iK::iL::iM::iN::iO::iP::iQ::iR::iT::iU::iV::iW::iX::iY::iZ::jd::je::jf::kU::kV::kW::kX::lg::lh::ll::lu::lv::lC::lD::mJ::mK::mM::mO::mP::mQ::mR::mU::mZ::ng::ni::nu::ny::[])),defers:=[] } w:=by
 injection hc with k0;injection k0 with e0 k1;clear e0;injection k1 with e1 k2;clear e1;injection k2 with e2 k3;clear e2;injection k3 with e3 k4;clear e3;injection k4 with e4 k5;subst k5;subst e4;have hq3:w.cell? ⟨b3,3,none⟩=some (.int .u64 ag):=ah h3 3;have H2:=ae h2;have H4:=ae h4;have H5:=ae h5;have H6:=ae h6;have HM:=ae hM;have HFB:=ae Q9;have HFG:=ae hfg;have HQ:=ae hQ;clear h2 h3 h4 h5 h6 hM hQ Q9 hfg;go_upto_region 9 with (first
  | (with_reducible show cB 28 31 ..;go_must (refine dF b2 0 7 fE _ _ H2.out (rS g n ta tn tc ma mn mc da dn dc oa on oc ia il ic) ?_))
  | (go_at_call 97;go_must (refine (K8 _ g n (.slice ta tn tc) (.slice da dn dc) (.slice oa on oc) (.slice ia il ic) ma mn mc M ag hi HM.out).mono ?_;rintro e w1 ⟨rfl,hb1⟩;rw [HFB.out,HFG.out];have HB1:=ae hb1;clear hb1;have FV:=ae (af HB1.out H6.out)))
  | (with_reducible show dJ 5 36 ..;go_must (refine oZ b6 3 (.int .u8 3) (rP qc qs ag 2 false 0 0) 57 FV.out (rP qc qs ag 3 false 0 0) ?_;intro w2 h9 bJ;have Li:=ae h9;have dZ:=ae bJ;clear h9 bJ))
  | (with_reducible show dJ 5 38 ..;go_must (refine oZ b6 6 (.int .u8 fg) (rP qc qs ag 3 false 0 0) 57 Li.out (rP qc qs ag 3 false 0 fg) ?_;intro w3 h9 bJ;have H63:=ae h9;have pE:=ae bJ;clear h9 bJ)))
 clear hq3;have h22:w3.heap[b2]? = some (.cells (rS g n ta tn tc ma mn mc da dn dc oa on oc ia il ic).toArray 31):=((dZ.out.trans pE.out).block b2 n12).trans (af HB1.out H2.out);have Ba:w3.heap[b4]? = some (.cells dS.toArray 31):=((dZ.out.trans pE.out).block b4 n2).trans (af HB1.out H4.out);have Bc:w3.heap[b5]? = some (.cells bA.toArray 57):=((dZ.out.trans pE.out).block b5 n4).trans (af HB1.out H5.out);have JC:w3.heap[b6]? = some (.cells (rP qc qs ag 3 false 0 fg).toArray 57):=H63.out;have hc2:=ah h22;have hc6:=ah JC;have hc4:=ah Ba;have r9:=ah Bc;have WU:=oh (Below.refl _ w3) Ba;have hf5:=oh (Below.refl _ w3) Bc;have Tp:=ae Ba;have Tq:=ae Bc;clear h22 Ba Bc JC;go_region
 go_wp2_with fail
 obtain ⟨k1,k2⟩:=j5 b4 31 (rS g n ta tn tc ma mn mc da dn dc oa on oc ia il ic) 0 dS w3 Tp.out (by simp);simp only [World.setCells,Nat.reduceAdd] at k1 k2;generalize ((((((w3.setCell ⟨b4,0,none⟩ (.int .u8 g)).setCell ⟨b4,1,none⟩ (.int .u8 n)).setCell ⟨b4,2,none⟩ (.slice ta tn tc)).setCell ⟨b4,3,none⟩ (.slice ma mn mc)).setCell ⟨b4,4,none⟩ (.slice da dn dc)).setCell ⟨b4,5,none⟩ (.slice oa on oc)).setCell ⟨b4,6,none⟩ (.slice ia il ic)=w6 at k1 k2 ⊢;obtain ⟨k3,k4⟩:=j5 b5 57 (rP qc qs ag 3 false 0 fg) 0 bA w6 ((k2.block b5 n10).trans Tq.out) (by simp);simp only [World.setCells,Nat.reduceAdd] at k3 k4;generalize ((((((w6.setCell ⟨b5,0,none⟩ (.int .u8 qc)).setCell ⟨b5,1,none⟩ (.int .u32 qs)).setCell ⟨b5,2,none⟩ (.int .u64 ag)).setCell ⟨b5,3,none⟩ (.int .u8 3)).setCell ⟨b5,4,none⟩ (.bool false)).setCell ⟨b5,5,none⟩ (.int .u64 0)).setCell ⟨b5,6,none⟩ (.int .u8 fg)=w7 at k3 k4 ⊢;have hA:w7.drew.heap[b4]? = some (.cells (rS g n ta tn tc ma mn mc da dn dc oa on oc ia il ic).toArray 31):=(k4.block b4 n5).trans k1;have hE:w7.drew.heap[b5]? = some (.cells (rP qc qs ag 3 false 0 fg).toArray 57):=k3;refine bodyPost_ret (v:=.tuple #[.agg (rS g n ta tn tc ma mn mc da dn dc oa on oc ia il ic).toArray,.agg (rP qc qs ag 3 false 0 fg).toArray]) (mY Tryz.results48 _ _ b4 b5 _ _ _ _ (0,0) (0,0) _ _ rfl hA rfl hE fE rfl (by kernel_rfl) dD rfl (by kernel_rfl)) rfl ?_;exact HQ.out _ (((av.later HB1.out).trans (av.only (dZ.out.trans pE.out) (.inr (.inr rfl)))).trans ((av.only k2 (.inl rfl)).trans (av.only (k4.trans (Only.drew _ _)) (.inr (.inl rfl)))))
theorem UJ {D:List ak} {f:ak→Bool} {x:ak} (h:D.find? f=some x):∃ p:Nat,D[p]? = some x∧∀ (j:Nat) (y:ak),j<p→D[j]? = some y→f y=false:=by
 induction D with
 | nil=>simp at h
 | cons a t ih =>
  rw [List.find?_cons] at h;cases ha:f a with
  | true=>rw [ha] at h;simp at h;subst h;exact ⟨0,rfl,fun j y hj=>absurd hj (Nat.not_lt_zero _)⟩
  | false =>
   rw [ha] at h;obtain ⟨p,h1,h2⟩:=ih h;refine ⟨p+1,by simpa using h1,fun j y hj hy=>?_⟩;cases j with
   | zero=>simp at hy;subst hy;exact ha
   | succ j=>exact h2 j y (by omega) (by simpa using hy)
theorem Yd {c d a0 a1 a2 a3:Code} (hc:Tryz.f48.body=some (a0.seq (a1.seq (a2.seq (a3.seq (c.seq d)))))) {u0 u1 u8 u9 jB jg jh ji jk jl u16 mW oz lJ nC mE mF mh jC jD jw j6 ig ik iq iw u32 jm jq jr jE jF jG jH jI jJ jK jL jM jN jO jP jQ jR jS jT jU jV jW jX jY kv ky kz kC kD kE kF u64 kG kH kg ko kI kJ kK kL kM kN kP kQ kR lK lL lN lQ lT lU lV lW lX lY lZ l7 l8 l9 mf mg mi mI nE nG nH nI fU fV fZ gm gp gq gu gy gz gB gF gG gH gJ gK gL gM gN gP gQ iA iB iC iD iE iF iG iH iI iJ iK iL iM iN iO iP iQ iR iT iU iV iW iX iY iZ jd je jf kU kV kW kX lg lh ll lu lv lC lD mJ mK mM mO mP mQ mR mU mZ ng ni nu ny:Value} (P:Nat→Prop) (w0 w:World) (b2 b3 b4 b5 b6:Nat) (g n:Int) (ta:Option Addr) (tn tc:Nat) (ma:Option Addr) (mn mc:Nat) (da:Option Addr) (dn dc:Nat) (oa:Option Addr) (on oc:Nat) (ia:Option Addr) (il ic:Nat) (qc qs qk ag qv au aA hi:Int) (T:List Row) (M:List Pc) (D:List ak) (L:List ax) (I:List Int)
 (h2:w.heap[b2]? = some (.cells (rS g n ta tn tc ma mn mc da dn dc oa on oc ia il ic).toArray 31)) (h3:w.heap[b3]? = some (.cells (rQ qc qs qk ag qv au aA).toArray 50)) (h6:w.heap[b6]? = some (.cells (rP qc qs ag 2 false 0 0).toArray 57)) (h4:w.heap[b4]? = some (.cells dS.toArray 31)) (h5:w.heap[b5]? = some (.cells bA.toArray 57))
 (hS:ry P w0 ⟨ta,tn,tc⟩ ⟨ma,mn,mc⟩ ⟨da,dn,dc⟩ ⟨oa,on,oc⟩ ⟨ia,il,ic⟩ T M D L I) (hB:Below w0.heap.size w0 w) (hok:ku (St.mk g n T M D (L.map ax.core) I)) (gY:T.length<499999) (gU:D.length<499999) (hP:∀ k,w0.heap.size≤k→¬ P k) (hqk:(bH.mk qc qs qk ag qv au aA).ok=true) (hwf:(bH.mk qc qs qk ag qv au aA).wf) (hhi:Gj (bH.mk qc qs qk ag qv au aA)=hi) (hz:w0.heap.size≤b2∧w0.heap.size≤b3∧w0.heap.size≤b4∧w0.heap.size≤b5∧w0.heap.size≤b6)
 (n1:¬ b4=b2) (n2:¬ b4=b6) (n3:¬ b5=b2) (n4:¬ b5=b6) (n5:¬ b4=b5) (n6:¬ b2=b4) (n7:¬ b6=b4) (n8:¬ b2=b5) (n9:¬ b6=b5) (n10:¬ b5=b4) (n11:¬ b6=b2) (n12:¬ b2=b6) {K:Act→World→Prop} (hK:∀ a w,d.wp Tryz.prog (bodyPost Tryz.prog Tryz.f48 fun e w'=>Cc P w0 g n (uA (St.mk g n T M D (L.map ax.core) I) (bH.mk qc qs qk ag qv au aA)) e w') a w→K a w) :
 c.wp Tryz.prog (Exit.then K (bodyPost Tryz.prog Tryz.f48 fun e w'=>Cc P w0 g n (uA (St.mk g n T M D (L.map ax.core) I) (bH.mk qc qs qk ag qv au aA)) e w')) { tmps:=(List.toArray (α:=Value) (u0::u1::.pointer (some ⟨b2,0,none⟩)::.pointer (some ⟨b3,0,none⟩)::.pointer (some ⟨b4,0,none⟩)::.pointer (some ⟨b5,0,none⟩)::.pointer (some ⟨b6,0,none⟩)::.int .u64 hi::u8::u9::jB::jg::jh::ji::jk::jl::u16::mW::oz::lJ::nC::mE::mF::mh::jC::jD::jw::j6::ig::ik::iq::iw::u32::jm::jq::jr::jE::jF::jG::jH::jI::jJ::jK::jL::jM::jN::jO::jP::jQ::jR::jS::jT::jU::jV::jW::jX::jY::kv::ky::kz::kC::kD::kE::kF::u64::kG::kH::kg::ko::kI::kJ::kK::kL::kM::kN::kP::kQ::kR::lK::lL::lN::lQ::lT::lU::lV::lW::lX::lY::lZ::l7::l8::l9::mf::mg::mi::mI::nE::nG::nH::nI::fU::fV::fZ::gm::gp::gq::gu::gy::gz::gB::gF::gG::gH::gJ::gK::gL::gM::gN::gP::gQ::iA::iB::iC::iD::iE::iF::iG::iH::iI::iJ::iK::iL::iM::iN::iO::iP::iQ::iR::iT::iU::iV::iW::iX::iY::iZ::jd::je::jf::kU::kV::kW::kX::lg::lh::ll::lu::lv::lC::lD::mJ::mK::mM::mO::mP::mQ::mR::mU::mZ::ng::ni::nu::ny::[])),defers:=[] } w:=by
 injection hc with k0;injection k0 with e0 k1;clear e0;injection k1 with e1 k2;clear e1;injection k2 with e2 k3;clear e2;injection k3 with e3 k4;clear e3;injection k4 with e4 k5;subst k5;subst e4;have H2:=ae h2;have H3:=ae h3;have H4:=ae h4;have H5:=ae h5;have H6:=ae h6;have yD:=ae hS;have HB:=ae hB;have qi:=ae hok;have Vk:=ae hqk;have zW:=ae hwf;have OE:∀ {x:World},Below w0.heap.size w0 x→∀ w',av (fun k=>k=b4∨k=b5∨k=b6) x w'→Below w0.heap.size w0 w':=fun hx w' hc=>hx.trans (hc.below (fun k hk=>⟨Nat.lt_of_lt_of_le hk hx.size,by rintro (rfl | rfl | rfl) <;> omega⟩))
 clear hS hB hok hqk hwf;cases Q9:DK M g ag hi with
 | true =>
  refine aed rfl w b2 b3 b4 b5 b6 g n ta tn tc ma mn mc da dn dc oa on oc ia il ic qc qs qk ag qv au aA hi _ M h2 h3 h6 h4 h5 (yD.out.m.later HB.out).at_ Q9 rfl n1 n2 n3 n4 n5 n6 n7 n8 n9 n10 n11 n12 _ ?_ (by first | assumption | exact fun _ _ h=>h);intro w' hc;have eR:uA (St.mk g n T M D (L.map ax.core) I) (bH.mk qc qs qk ag qv au aA)=((St.mk g n T M D (L.map ax.core) I),⟨qc,qs,ag,3,false,0,Io M g ag hi⟩):=by unfold uA;rw [hhi,if_pos Q9]
  rw [eR];exact ⟨⟨ta,tn,tc⟩,⟨ma,mn,mc⟩,⟨da,dn,dc⟩,⟨oa,on,oc⟩,⟨ia,il,ic⟩,L,rfl,rfl,yD.out.later (OE HB.out _ hc),OE HB.out _ hc⟩
 | false =>
  have HNB:Hid (¬ (DK (St.mk g n T M D (L.map ax.core) I).M (St.mk g n T M D (L.map ax.core) I).g (bH.mk qc qs qk ag qv au aA).key (Gj (bH.mk qc qs qk ag qv au aA))=true)):=by show ¬ _;rw [hhi];show ¬ (DK M g ag hi=true);rw [Q9];simp
  have HFB:=ae Q9;have hq3:w.cell? ⟨b3,3,none⟩=some (.int .u64 ag):=ah h3 3;clear h2 h3 h4 h5 h6 Q9 hhi;go_upto_if 35 with (first
   | (with_reducible show cB 28 31 ..;go_must (refine dF b2 0 7 fE _ _ H2.out (rS g n ta tn tc ma mn mc da dn dc oa on oc ia il ic) ?_))
   | (go_at_call 97;go_must (refine (K8 _ g n (.slice ta tn tc) (.slice da dn dc) (.slice oa on oc) (.slice ia il ic) ma mn mc M ag hi (yD.out.m.later HB.out).at_).mono ?_;rintro e w1 ⟨rfl,hb1⟩;rw [HFB.out];have HB1:=ae hb1;clear hb1)))
  clear hq3;refine wp_cond_false rfl ?_;refine wp_skip ?_;show _;unfold Exit.then;apply_assumption
  refine wp_seq_k (fun K9 hK9=>?_);have Tn:=ae (af HB1.out H2.out);have Ye:=ae (af HB1.out H3.out);have H41:=ae (af HB1.out H4.out);have H51:=ae (af HB1.out H5.out);have FV:=ae (af HB1.out H6.out);have Gn:Hid (Below w0.heap.size w0 w1):=ae (HB.out.trans (HB1.out.mono HB.out.size));cases hf:D.find? (sN qc qs ag) with
  | some x =>
   obtain ⟨p,hp,hbef⟩:=UJ hf;have hx:=List.find?_some hf;obtain ⟨xc,xs,az,xk,xf,xv,xg⟩:=x;unfold sN at hx;simp only [Bool.and_eq_true,Bool.or_eq_true,beq_iff_eq,decide_eq_true_eq] at hx;obtain ⟨⟨hx1,hx2⟩,hx3⟩:=hx;replace hx1:=hx1.symm;replace hx2:=hx2.symm;subst hx1;subst hx2;by_cases hx4:qs=xs
   ·subst hx4
    have eR:uA (St.mk g n T M D (L.map ax.core) I) (bH.mk qc qs qk ag qv au aA)=((St.mk g n T M D (L.map ax.core) I),⟨qc,qs,ag,xk,xf,xv,xg⟩):=by unfold uA;rw [if_neg HNB.out];simp only [hf,if_true]
    refine ad9 rfl w1 b2 b3 b4 b5 b6 g n ta tn tc ma mn mc da dn dc oa on oc ia il ic qc qs qk ag qv au aA D p xk xf xv xg Tn.out Ye.out FV.out H41.out H51.out (yD.out.d.later Gn.out).at_ gU hp hbef n1 n2 n3 n4 n5 n6 n7 n8 n9 n10 n11 n12 _ ?_ (by first | assumption | exact fun _ _ h=>h);intro w' hc;rw [eR];exact ⟨⟨ta,tn,tc⟩,⟨ma,mn,mc⟩,⟨da,dn,dc⟩,⟨oa,on,oc⟩,⟨ia,il,ic⟩,L,rfl,rfl,yD.out.later (OE Gn.out _ hc),OE Gn.out _ hc⟩
   ·have aaS:qs<xs:=by omega
    have eR:uA (St.mk g n T M D (L.map ax.core) I) (bH.mk qc qs qk ag qv au aA)=((St.mk g n T M D (L.map ax.core) I),⟨qc,qs,ag,4,false,0,0⟩):=by unfold uA;rw [if_neg HNB.out];simp only [hf,Ne.symm hx4,if_false]
    refine aeb rfl w1 b2 b3 b4 b5 b6 g n ta tn tc ma mn mc da dn dc oa on oc ia il ic qc qs qk ag qv au aA D p xs xk xf xv xg Tn.out Ye.out FV.out H41.out H51.out (yD.out.d.later Gn.out).at_ gU hp aaS hbef n1 n2 n3 n4 n5 n6 n7 n8 n9 n10 n11 n12 _ ?_ (by first | assumption | exact fun _ _ h=>h);intro w' hc;rw [eR];exact ⟨⟨ta,tn,tc⟩,⟨ma,mn,mc⟩,⟨da,dn,dc⟩,⟨oa,on,oc⟩,⟨ia,il,ic⟩,L,rfl,rfl,yD.out.later (OE Gn.out _ hc),OE Gn.out _ hc⟩
  | none =>
   have HFD:Hid (D.find? (sN qc qs ag)=none):=ae hf;refine abO rfl w1 b2 b3 b4 b5 b6 g n ta tn tc ma mn mc da dn dc oa on oc ia il ic qc qs qk ag qv au aA D Tn.out Ye.out (yD.out.d.later Gn.out).at_ gU hf _ ?_;clear hf;intro v0 v1 v7 v8 v9 PK PL PM PN PO PQ XX PR PS PT PU PV PW PX GQ GR JF DY XY XZ X0 X3 X4 PY PZ P6 P7 P8 Qa Qb Qc Qd Qe Qf Qg Qh Qi Qj Qk Ql Qm Qn Qo Qp Qq Qr Qs Qt Qu Qv Qw Qx Qy Qz QA QB QC X5 X6 QD QE QF QG QH QI QJ QK QL QM QN QO QP QQ QR QS QT QU QW QX QY QZ Q3 Q4 Q5 JG JH JI JJ JK JL DZ D5 D6 D7 D8 D9 Ea Eb Ec Ed Ee Ef Eg Eh Ei Ej El Em En Eo Ep Er Es Et Eu Ev Ew Ex Ey Ez EA EB EC ED EE EF EG EH EI EJ EK EL EN EO EP ER ET EU EW EX EY EZ BH BI BJ BK BL BM BN F9 Ga Gb Gc Gd Gf Gg Gh BO BP BQ BR BS w2 hb2;have IC:Hid (Below w0.heap.size w0 w2):=ae (Gn.out.trans (hb2.mono Gn.out.size));have DX:=ae (af hb2 Tn.out);have TJ:=ae (af hb2 Ye.out);have TK:=ae (af hb2 H41.out);have TL:=ae (af hb2 H51.out);have Li:=ae (af hb2 FV.out);clear Tn Ye H41 H51 FV Gn H2 H3 H4 H5 H6 hb2;have hz2:b2<w2.heap.size:=(df DX.out);have hq2:w2.cell? ⟨b3,2,none⟩=some (.int .u8 qk):=ah TJ.out 2;apply_assumption
   by_cases hk4:qk=4
   ·subst hk4
    have aic:((4:Int) == 4)=true:=rfl;go_upto_region 20 with fail
    obtain ⟨P2,hP2⟩:∃ P2:Nat→Prop,P2=fun k=>P k∨k=b4∨k=b5:=⟨_,rfl⟩
    have HS2:Hid (ry P2 w2 ⟨ta,tn,tc⟩ ⟨ma,mn,mc⟩ ⟨da,dn,dc⟩ ⟨oa,on,oc⟩ ⟨ia,il,ic⟩ T M D L I):=ae ((yD.out.to (fun k hk=>by rw [hP2] at hk;rcases hk with hk | hk | hk;exact .inl hk;exact .inr (by omega);exact .inr (by omega))).later IC.out);have aid:∀ k,w2.heap.size≤k→¬ P2 k:=by
     intro k hk e;have:=IC.out.size;have h41:=(df TK.out);have h51:=(df TL.out);rw [hP2] at e;rcases e with e | e | e
     ·exact hP k (by omega) e
     ·omega
     ·omega
    clear hq2;go_wp2_with (first
     | (with_reducible show cB 99 31 ..;go_must (refine dF b2 0 7 fE _ _ DX.out (rS g n ta tn tc ma mn mc da dn dc oa on oc ia il ic) ?_))
     | (with_reducible show cB 100 50 ..;go_must (refine dF b3 0 7 wR _ _ TJ.out (rQ qc qs 4 ag qv au aA) ?_))
     | (with_reducible show cB 101 57 ..;go_must (refine dF b6 0 7 dD _ _ Li.out (rP qc qs ag 2 false 0 0) ?_))
     | (go_at_call 98;go_must (refine (TI P2 _ g n ta tn tc ma mn mc da dn dc oa on oc ia il ic qc qs ag qv au aA T M D L I HS2.out qi.out gY gU aid Vk.out zW.out).mono ?_;rintro e w3 ⟨xT,xM,xD,xO,xI,L3,rfl,hco,hrs,hbl⟩;have o9:=ae hco;have Yf:=ae hrs;have rG:=ae hbl;clear hco hrs hbl;obtain ⟨pr,hpr⟩:∃ pr,pr=(Bd (St.mk g n T M D (L.map ax.core) I) (bH.mk qc qs 4 ag qv au aA)).2:=⟨_,rfl⟩;rw [← hpr];have HPR:=ae hpr;clear hpr;obtain ⟨Cr,Cs,Ct⟩:=xT;obtain ⟨Cu,Cv,Cw⟩:=xM;obtain ⟨Cx,Cy,Cz⟩:=xD;obtain ⟨CB,CE,CF⟩:=xO;obtain ⟨CG,CJ,CK⟩:=xI;obtain ⟨pc,ps,eZ,pk,pf,pv,pg⟩:=pr;have Yg:=ae (af rG.out TK.out);have Yh:=ae (af rG.out TL.out)))
     | (with_reducible show wpList _ _ _ ({ dst:=none,op:=Op.store 31 _ _,type:=_,pos:=_,after:=_,guard:=none }::_) _ _;go_must (refine fH b4 0 (rS g n Cr Cs Ct Cu Cv Cw Cx Cy Cz CB CE CF CG CJ CK) 7 dS 31 Yg.out (rS g n Cr Cs Ct Cu Cv Cw Cx Cy Cz CB CE CF CG CJ CK) ?_;intro w4 h9 bJ;have H44:=ae h9;have o6:=ae bJ;clear h9 bJ;have H54:=ae ((o6.out.block b5 n10).trans Yh.out)))
     | (with_reducible show wpList _ _ _ ({ dst:=none,op:=Op.store 57 _ _,type:=_,pos:=_,after:=_,guard:=none }::_) _ _;go_must (refine fH b5 0 (rP pc ps eZ pk pf pv pg) 7 bA 57 H54.out (rP pc ps eZ pk pf pv pg) ?_;intro w5 h9 bJ;have H55:=ae h9;have ru:=ae bJ;clear h9 bJ;have TM:=ae ((ru.out.block b4 n5).trans H44.out))))
    refine bodyPost_ret (v:=.tuple #[.agg (rS g n Cr Cs Ct Cu Cv Cw Cx Cy Cz CB CE CF CG CJ CK).toArray,.agg (rP pc ps eZ pk pf pv pg).toArray]) (mY Tryz.results48 _ _ b4 b5 _ _ _ _ (0,0) (0,0) _ _ rfl TM.out rfl H55.out fE rfl (by kernel_rfl) dD rfl (by kernel_rfl)) rfl ?_;have eR:uA (St.mk g n T M D (L.map ax.core) I) (bH.mk qc qs 4 ag qv au aA)=Bd (St.mk g n T M D (L.map ax.core) I) (bH.mk qc qs 4 ag qv au aA):=by unfold uA;rw [if_neg HNB.out,HFD.out];rfl
    have c45:av (fun k=>k=b4∨k=b5) w3 w5:=(av.only o6.out (.inl rfl)).trans (av.only ru.out (.inr rfl));refine ⟨⟨Cr,Cs,Ct⟩,⟨Cu,Cv,Cw⟩,⟨Cx,Cy,Cz⟩,⟨CB,CE,CF⟩,⟨CG,CJ,CK⟩,L3,?_,by rw [eR];exact o9.out,?_,?_⟩
    ·rw [eR,← HPR.out];rfl
    ·rw [eR];exact (Yf.out.dV (fun k hk=>by rw [hP2];exact .inr hk) c45).to (fun k hk=>.inl (by rw [hP2];exact .inl hk))
    ·exact (IC.out.trans (rG.out.mono IC.out.size)).trans (c45.below (fun k hk=>⟨by have:=IC.out.size;have:=rG.out.size;omega,by rintro (rfl | rfl) <;> omega⟩))
   ·have aic:(qk == 4)=false:=by simp [hk4]
    go_upto_region 21 with fail
    clear hq2;have eR:uA (St.mk g n T M D (L.map ax.core) I) (bH.mk qc qs qk ag qv au aA)=(St.mk g n (zm (St.mk g n T M D (L.map ax.core) I) (bH.mk qc qs qk ag qv au aA)) M (fe D (vz (St.mk g n T M D (L.map ax.core) I) (bH.mk qc qs qk ag qv au aA))) (L.map ax.core) I,vz (St.mk g n T M D (L.map ax.core) I) (bH.mk qc qs qk ag qv au aA)):=by unfold uA;rw [if_neg HNB.out,HFD.out];simp only [hk4,if_false]
    have HT2:Hid (bQ w0.heap.size w2 ⟨ta,tn,tc⟩ 2 (T.map Row.cells)):=ae (yD.out.t.at_.below IC.out (Nat.le_refl _));have HD2:Hid (bQ w0.heap.size w2 ⟨da,dn,dc⟩ 7 (D.map ak.cells)):=ae (yD.out.d.at_.below IC.out (Nat.le_refl _));have hkk:qk=1∨qk=2∨qk=3:=by have:=Vk.out;simp [bH.ok] at this;omega
    have fin:∀ w',av (fun k=>k=b2∨k=b4∨k=b5∨k=b6) w2 w'→Below w0.heap.size w0 w':=fun w' hc=>IC.out.trans (hc.below (fun k hk=>⟨by have:=IC.out.size;omega,by rintro (rfl | rfl | rfl | rfl) <;> omega⟩))
    have bring:∀ {s:Sl} {size:Nat} {xs:List (List Value)} {w':World},fT P w0 s size xs→av (fun k=>k=b2∨k=b4∨k=b5∨k=b6) w2 w'→fT P w' s size xs:=fun h hc=>h.later (fin _ hc)
    have Yi:∀ {l:ax} {w':World},Cn P w0 l→av (fun k=>k=b2∨k=b4∨k=b5∨k=b6) w2 w'→Cn P w' l:=fun h hc=>h.later (fin _ hc)
    have hdone:∀ (va:Option Addr) (vn vc:Nat) (xa:Option Addr) (xn xc:Nat) (w':World),fT P w' ⟨xa,xn,xc⟩ 2 ((zm (St.mk g n T M D (L.map ax.core) I) (bH.mk qc qs qk ag qv au aA)).map Row.cells)→fT P w' ⟨va,vn,vc⟩ 7 ((fe D (vz (St.mk g n T M D (L.map ax.core) I) (bH.mk qc qs qk ag qv au aA))).map ak.cells)→av (fun k=>k=b2∨k=b4∨k=b5∨k=b6) w2 w'→Cc P w0 g n (uA (St.mk g n T M D (L.map ax.core) I) (bH.mk qc qs qk ag qv au aA)) (.returned (.tuple #[.agg (rS g n xa xn xc ma mn mc va vn vc oa on oc ia il ic).toArray,.agg (vz (St.mk g n T M D (L.map ax.core) I) (bH.mk qc qs qk ag qv au aA)).cells.toArray])) w':=by
     intro va vn vc xa xn xc w' h1 h2 hc;rw [eR];exact ⟨⟨xa,xn,xc⟩,⟨ma,mn,mc⟩,⟨va,vn,vc⟩,⟨oa,on,oc⟩,⟨ia,il,ic⟩,L,rfl,rfl,⟨h1,bring yD.out.m hc,h2,bring yD.out.o hc,bring yD.out.i hc,fun l hl=>Yi (yD.out.ln l hl) hc⟩,fin _ hc⟩
    have uK:=ae hdone;clear hdone bring Yi;rcases hkk with hk1 | hk2 | hk3
    ·subst hk1
     cases hth:dz (fun x:Row=>x.key) ag ag true T with
     | nil =>
      have er:vz (St.mk g n T M D (L.map ax.core) I) (bH.mk qc qs 1 ag qv au aA)=⟨qc,qs,ag,1,false,0,0⟩:=by unfold vz;simp [hth]
      have et:zm (St.mk g n T M D (L.map ax.core) I) (bH.mk qc qs 1 ag qv au aA)=T:=by unfold zm;simp
      rw [er,et] at uK;refine abM rfl w2 w0.heap.size b2 b3 b4 b5 b6 g n ta tn tc ma mn mc da dn dc oa on oc ia il ic qc qs ag qv au aA T D DX.out TJ.out Li.out TK.out TL.out HT2.out HD2.out gY gU (by omega) n1 n2 n3 n4 n5 n6 n7 n8 n9 n10 n11 n12 hth P (fun k hk=>hP k hk) _ ?_ (by first | assumption | exact fun _ _ h=>h);intro va vn vc w' hr hc;exact uK.out va vn vc ta tn tc w' (yD.out.t.later (fin _ hc)) hr hc
     | cons x R =>
      have er:vz (St.mk g n T M D (L.map ax.core) I) (bH.mk qc qs 1 ag qv au aA)=⟨qc,qs,ag,1,true,x.val,0⟩:=by unfold vz;simp [hth]
      have et:zm (St.mk g n T M D (L.map ax.core) I) (bH.mk qc qs 1 ag qv au aA)=T:=by unfold zm;simp
      rw [er,et] at uK;refine adN rfl w2 w0.heap.size b2 b3 b4 b5 b6 g n ta tn tc ma mn mc da dn dc oa on oc ia il ic qc qs ag qv au aA T D DX.out TJ.out Li.out TK.out TL.out HT2.out HD2.out gY gU (by omega) n1 n2 n3 n4 n5 n6 n7 n8 n9 n10 n11 n12 x R hth P (fun k hk=>hP k hk) _ ?_ (by first | assumption | exact fun _ _ h=>h);intro va vn vc w' hr hc;exact uK.out va vn vc ta tn tc w' (yD.out.t.later (fin _ hc)) hr hc
    ·have aeh:(qk == 1)=false:=by simp [hk2]
     have aei:(qk == 3)=false:=by simp [hk2]
     have m1:¬ qk=1:=by omega
     have m3:¬ qk=3:=by omega
     by_cases hfu:dz (fun x:Row=>x.key) ag ag true T=[]∧8≤T.length
     ·have er:vz (St.mk g n T M D (L.map ax.core) I) (bH.mk qc qs qk ag qv au aA)=⟨qc,qs,ag,5,false,0,0⟩:=by unfold vz;simp [m1,m3,hfu.1,hfu.2]
      have et:zm (St.mk g n T M D (L.map ax.core) I) (bH.mk qc qs qk ag qv au aA)=T:=by unfold zm;simp [m1,m3,hfu.1,hfu.2]
      rw [er,et] at uK;refine abN rfl w2 w0.heap.size b2 b3 b4 b5 b6 g n ta tn tc ma mn mc da dn dc oa on oc ia il ic qc qs qk ag qv au aA T D DX.out TJ.out Li.out TK.out TL.out HT2.out HD2.out gY gU (by omega) n1 n2 n3 n4 n5 n6 n7 n8 n9 n10 n11 n12 hfu.1 hfu.2 aeh aei P (fun k hk=>hP k hk) _ ?_ (by first | assumption | exact fun _ _ h=>h);intro va vn vc w' hr hc;exact uK.out va vn vc ta tn tc w' (yD.out.t.later (fin _ hc)) hr hc
     ·have hfu2:¬ ((dz (fun x:Row=>x.key) ag ag true T).length=0∧8≤T.length):=fun e=>hfu ⟨List.eq_nil_of_length_eq_zero e.1,e.2⟩
      have er:vz (St.mk g n T M D (L.map ax.core) I) (bH.mk qc qs qk ag qv au aA)=⟨qc,qs,ag,2,false,0,0⟩:=by unfold vz;rw [if_neg m1,if_neg m3,if_neg hfu2]
      have et:zm (St.mk g n T M D (L.map ax.core) I) (bH.mk qc qs qk ag qv au aA)=oU T ⟨ag,qv⟩:=by unfold zm;rw [if_neg m1,if_neg m3,if_neg hfu2]
      rw [er,et] at uK;refine adP rfl w2 w0.heap.size b2 b3 b4 b5 b6 g n ta tn tc ma mn mc da dn dc oa on oc ia il ic qc qs qk ag qv au aA T D DX.out TJ.out Li.out TK.out TL.out HT2.out HD2.out gY gU (by omega) n1 n2 n3 n4 n5 n6 n7 n8 n9 n10 n11 n12 hfu aeh aei P (fun k hk=>hP k hk) _ ?_ (by first | assumption | exact fun _ _ h=>h);intro xa xn xc va vn vc w' hx hr hc;exact uK.out va vn vc xa xn xc w' hx hr hc
    ·subst hk3
     have er:vz (St.mk g n T M D (L.map ax.core) I) (bH.mk qc qs 3 ag qv au aA)=⟨qc,qs,ag,2,false,0,0⟩:=by unfold vz;simp
     have et:zm (St.mk g n T M D (L.map ax.core) I) (bH.mk qc qs 3 ag qv au aA)=dz (fun x:Row=>x.key) ag ag false T:=by unfold zm;simp
     rw [er,et] at uK;refine adO rfl w2 w0.heap.size b2 b3 b4 b5 b6 g n ta tn tc ma mn mc da dn dc oa on oc ia il ic qc qs ag qv au aA T D DX.out TJ.out Li.out TK.out TL.out HT2.out HD2.out gY gU (by omega) n1 n2 n3 n4 n5 n6 n7 n8 n9 n10 n11 n12 P (fun k hk=>hP k hk) _ ?_ (by first | assumption | exact fun _ _ h=>h);intro xa xn xc va vn vc w' hx hr hc;exact uK.out va vn vc xa xn xc w' hx hr hc
theorem NR (w:World) (a b c d:Obj):((((w.alloc a).alloc b).alloc c).alloc d).heap[w.heap.size]? = some a∧((((w.alloc a).alloc b).alloc c).alloc d).heap[w.heap.size+1]? = some b∧((((w.alloc a).alloc b).alloc c).alloc d).heap[w.heap.size+1+1]? = some c∧((((w.alloc a).alloc b).alloc c).alloc d).heap[w.heap.size+1+1+1]? = some d∧Below w.heap.size w ((((w.alloc a).alloc b).alloc c).alloc d)∧((((w.alloc a).alloc b).alloc c).alloc d).heap.size=w.heap.size+4:=by
 have e1:(w.alloc a).heap.size=w.heap.size+1:=by simp
 have e2:((w.alloc a).alloc b).heap.size=w.heap.size+1+1:=by simp
 have e3:(((w.alloc a).alloc b).alloc c).heap.size=w.heap.size+1+1+1:=by simp
 refine ⟨?_,?_,?_,?_,ai (ai (ai (aj _ _) (aj _ _)) (aj _ _)) (aj _ _),by simp⟩
 ·rw [heap_alloc_old _ _ (by omega),heap_alloc_old _ _ (by omega),heap_alloc_old _ _ (by omega)];exact heap_alloc_new w _
 ·rw [heap_alloc_old _ _ (by omega),heap_alloc_old _ _ (by omega),← e1];exact heap_alloc_new _ _
 ·rw [heap_alloc_old _ _ (by omega),← e2];exact heap_alloc_new _ _
 ·rw [← e3];exact heap_alloc_new _ _
theorem Wi (P:Nat→Prop) (w:World) (g n:Int) (ta:Option Addr) (tn tc:Nat) (ma:Option Addr) (mn mc:Nat) (da:Option Addr) (dn dc:Nat) (oa:Option Addr) (on oc:Nat) (ia:Option Addr) (il ic:Nat) (qc qs qk ag qv au aA:Int) (T:List Row) (M:List Pc) (D:List ak) (L:List ax) (I:List Int)
 (hS:ry P w ⟨ta,tn,tc⟩ ⟨ma,mn,mc⟩ ⟨da,dn,dc⟩ ⟨oa,on,oc⟩ ⟨ia,il,ic⟩ T M D L I) (hok:ku (St.mk g n T M D (L.map ax.core) I)) (gY:T.length<499999) (gU:D.length<499999) (hP:∀ k,w.heap.size≤k→¬ P k) (hq:(bH.mk qc qs qk ag qv au aA).ok=true) (hwf:(bH.mk qc qs qk ag qv au aA).wf) :
 Calls Tryz.prog 48 #[.agg (rS g n ta tn tc ma mn mc da dn dc oa on oc ia il ic).toArray,.agg (rQ qc qs qk ag qv au aA).toArray] w fun e w'=>Cc P w g n (uA (St.mk g n T M D (L.map ax.core) I) (bH.mk qc qs qk ag qv au aA)) e w':=by
 obtain ⟨W,hW⟩:∃ W,W=((((w.alloc (.cells (rS g n ta tn tc ma mn mc da dn dc oa on oc ia il ic).toArray 31)).alloc (.cells (rQ qc qs qk ag qv au aA).toArray 50)).alloc (.cells dS.toArray 31)).alloc (.cells bA.toArray 57)):=⟨_,rfl⟩;obtain ⟨h2,h3,h4,h5,bE,hWs⟩:=NR w (.cells (rS g n ta tn tc ma mn mc da dn dc oa on oc ia il ic).toArray 31) (.cells (rQ qc qs qk ag qv au aA).toArray 50) (.cells dS.toArray 31) (.cells bA.toArray 57);rw [← hW] at h2 h3 h4 h5 bE hWs;obtain ⟨b5,hb5⟩:∃ b5,w.heap.size+1+1+1=b5:=⟨_,rfl⟩;obtain ⟨b4,hb4⟩:∃ b4,w.heap.size+1+1=b4:=⟨_,rfl⟩;obtain ⟨b3,hb3⟩:∃ b3,w.heap.size+1=b3:=⟨_,rfl⟩;obtain ⟨b2,hb2⟩:∃ b2,w.heap.size=b2:=⟨_,rfl⟩;obtain ⟨b6,hb6⟩:∃ b6,W.heap.size=b6:=⟨_,rfl⟩;rw [hb5] at h5;rw [hb4] at h4;rw [hb3] at h3;have h2':W.heap[b2]? = some (.cells (rS g n ta tn tc ma mn mc da dn dc oa on oc ia il ic).toArray 31):=by rw [← hb2];exact h2
 have n1:¬ b4=b2:=by omega
 have n2:¬ b4=b6:=by omega
 have n3:¬ b5=b2:=by omega
 have n4:¬ b5=b6:=by omega
 have n5:¬ b4=b5:=by omega
 have n6:¬ b2=b4:=by omega
 have n7:¬ b6=b4:=by omega
 have n8:¬ b2=b5:=by omega
 have n9:¬ b6=b5:=by omega
 have n10:¬ b5=b4:=by omega
 have n11:¬ b6=b2:=by omega
 have n12:¬ b2=b6:=by omega
 have HZ:Hid (w.heap.size≤b2∧w.heap.size≤b3∧w.heap.size≤b4∧w.heap.size≤b5∧w.heap.size≤b6):=ae ⟨by omega,by omega,by omega,by omega,by omega⟩;have HS:=ae hS;have qi:=ae hok;have Vk:=ae hq;have zW:=ae hwf;have H2:=ae h2';have H3:=ae h3;have H4:=ae h4;have H5:=ae h5;have dQ:=ae bE;have Br:=ae (And.intro hb2 (And.intro hb3 (And.intro hb4 (And.intro hb5 hb6))));clear h2 h2' h3 h4 h5 bE hWs hS hok hq hwf hb2 hb3 hb4 hb5 hb6;go_enter Tryz.func48,Tryz.ntmps48
 go_upto_region 1 with fail
 rw [← hW];clear hW;obtain ⟨hb2,hb3,hb4,hb5,hb6⟩:=Br.out;rw [hb5,hb4,hb3,hb2];clear hb2 hb3 hb4 hb5;have hc0:W.cell? ⟨b3,0,none⟩=some (.int .u8 qc):=ah H3.out 0;have hc1:W.cell? ⟨b3,1,none⟩=some (.int .u32 qs):=ah H3.out 1;have hc3:W.cell? ⟨b3,3,none⟩=some (.int .u64 ag):=ah H3.out 3;clear hb6;go_upto_region 2 with (first
  | (with_reducible show wpList _ _ _ ({ dst:=none,op:=Op.store 57 _ _,type:=_,pos:=_,after:=_,guard:=none }::_) _ _;go_must (refine fH W.heap.size 0 (rP qc qs ag 2 false 0 0) 7 bA 57 (heap_alloc_new W _) (rP qc qs ag 2 false 0 0) ?_;intro y1 h9 bJ;have ZQ:=ae h9;have rG:Hid (Below W.heap.size W y1):=ae ((aj W _).trans (bJ.below (Nat.le_refl _)));clear h9 bJ)))
 clear hc0 hc1 hc3;have hb6:=Br.out.2.2.2.2;rw [hb6];have HY6:Hid (y1.heap[b6]? = some (.cells (rP qc qs ag 2 false 0 0).toArray 57)):=by rw [hb6] at ZQ;exact ZQ
 clear hb6 ZQ;have HY2:=ae (af rG.out H2.out);have Yj:=ae (af rG.out H3.out);have HY4:=ae (af rG.out H4.out);have HY5:=ae (af rG.out H5.out);have Lj:Hid (Below w.heap.size w y1):=ae (dQ.out.trans (rG.out.mono dQ.out.size));have hd2:y1.cell? ⟨b3,2,none⟩=some (.int .u8 qk):=ah Yj.out 2;have hd3:y1.cell? ⟨b3,3,none⟩=some (.int .u64 ag):=ah Yj.out 3;have hd5:y1.cell? ⟨b3,5,none⟩=some (.int .u64 au):=ah Yj.out 5;by_cases hk4:qk=4
 ·have hkb:(qk == 4)=true:=by simp [hk4]
  have hh:Gj (bH.mk qc qs qk ag qv au aA)=au:=by unfold Gj;rw [if_pos hk4]
  clear hk4;go_upto_region 5 with fail
  refine Yd rfl P w y1 b2 b3 b4 b5 b6 g n ta tn tc ma mn mc da dn dc oa on oc ia il ic qc qs qk ag qv au aA au T M D L I HY2.out Yj.out HY6.out HY4.out HY5.out HS.out Lj.out qi.out gY gU hP Vk.out zW.out hh HZ.out n1 n2 n3 n4 n5 n6 n7 n8 n9 n10 n11 n12 (by first | assumption | exact fun _ _ h=>h)
 ·have hkb:(qk == 4)=false:=by simp [hk4]
  have hh:Gj (bH.mk qc qs qk ag qv au aA)=ag:=by unfold Gj;rw [if_neg hk4]
  clear hk4;go_upto_region 5 with fail
  refine Yd rfl P w y1 b2 b3 b4 b5 b6 g n ta tn tc ma mn mc da dn dc oa on oc ia il ic qc qs qk ag qv au aA ag T M D L I HY2.out Yj.out HY6.out HY4.out HY5.out HS.out Lj.out qi.out gY gU hP Vk.out zW.out hh HZ.out n1 n2 n3 n4 n5 n6 n7 n8 n9 n10 n11 n12 (by first | assumption | exact fun _ _ h=>h)
end
end Go.Proofs.YtignemioillaiaaGreat
