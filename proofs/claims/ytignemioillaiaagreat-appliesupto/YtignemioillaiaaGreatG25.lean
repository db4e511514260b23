/- The document: client: what it remembers. -/
import Derived.Test.YtignemioillaiaaGreatG24
namespace Go.Proofs.YtignemioillaiaaGreat
set_option maxHeartbeats 8000000
set_option maxRecDepth 100000
section
open Go.RowKit Go.Lib
def sN (c s key:Int) (x:ak):Bool:=(x.key == key && x.c == c) && (x.s == s || decide (s<x.s))
theorem abO {c d a0 a1 a2 a3 a4 a5:Code} (hc:Tryz.f48.body=some (a0.seq (a1.seq (a2.seq (a3.seq (a4.seq (a5.seq (c.seq d)))))))) {u0 u1 u7 u8 u9 jB jg jh ji jk jl u16 mW oz lJ nC mE mF mh jC jD jw j6 ig ik iq iw u32 jm jq jr jE jF jG jH jI jJ jK jL jM jN jO jP jQ jR jS jT jU jV jW jX jY kv ky kz kC kD kE kF u64 kG kH kg ko kI kJ kK kL kM kN kP kQ kR lK lL lN lQ lT lU lV lW lX lY lZ l7 l8 l9 mf mg mi mI nE nG nH nI fU fV fZ gm gp gq gu gy gz gB gF gG gH gJ gK gL gM gN gP gQ iA iB iC iD iE iF iG iH iI iJ iK iL iM iN iO iP iQ iR iT iU iV iW iX iY iZ jd je jf kU kV kW kX lg lh ll lu lv lC lD mJ mK mM mO mP mQ mR mU mZ ng ni nu ny:Value} (w:World) (b2 b3 b4 b5 b6:Nat) (g n:Int) (ta:Option Addr) (tn tc:Nat) (ma:Option Addr) (mn mc:Nat) (da:Option Addr) (dn dc:Nat) (oa:Option Addr) (on oc:Nat) (ia:Option Addr) (il ic:Nat) (qc qs qk ag qv au aA:Int) (D:List ak)
 (h2:w.heap[b2]? = some (.cells (rS g n ta tn tc ma mn mc da dn dc oa on oc ia il ic).toArray 31)) (h3:w.heap[b3]? = some (.cells (rQ qc qs qk ag qv au aA).toArray 50))
 (hD:bQ w.heap.size w ⟨da,dn,dc⟩ 7 (D.map ak.cells)) (hl:D.length<499999) (hno:D.find? (sN qc qs ag)=none) (PP:Ending→World→Prop)
 {K:Act→World→Prop} (hM:∀ (v0 v1 v7 v8 v9 PK PL PM PN PO PQ XX PR PS PT PU PV PW PX GQ GR JF DY XY XZ X0 X3 X4 PY PZ P6 P7 P8 Qa Qb Qc Qd Qe Qf Qg Qh Qi Qj Qk Ql Qm Qn Qo Qp Qq Qr Qs Qt Qu Qv Qw Qx Qy Qz QA QB QC X5 X6 QD QE QF QG QH QI QJ QK QL QM QN QO QP QQ QR QS QT QU QW QX QY QZ Q3 Q4 Q5 JG JH JI JJ JK JL DZ D5 D6 D7 D8 D9 Ea Eb Ec Ed Ee Ef Eg Eh Ei Ej El Em En Eo Ep Er Es Et Eu Ev Ew Ex Ey Ez EA EB EC ED EE EF EG EH EI EJ EK EL EN EO EP ER ET EU EW EX EY EZ BH BI BJ BK BL BM BN F9 Ga Gb Gc Gd Gf Gg Gh BO BP BQ BR BS:Value) (w1:World),Below w.heap.size w w1→K { tmps:=(List.toArray (α:=Value) (v0::v1::.pointer (some ⟨b2,0,none⟩)::.pointer (some ⟨b3,0,none⟩)::.pointer (some ⟨b4,0,none⟩)::.pointer (some ⟨b5,0,none⟩)::.pointer (some ⟨b6,0,none⟩)::v7::v8::v9::PK::PL::PM::PN::PO::PQ::XX::PR::PS::PT::PU::PV::PW::PX::GQ::GR::JF::DY::XY::XZ::X0::X3::X4::PY::PZ::P6::P7::P8::Qa::Qb::Qc::Qd::Qe::Qf::Qg::Qh::Qi::Qj::Qk::Ql::Qm::Qn::Qo::Qp::Qq::Qr::Qs::Qt::Qu::Qv::Qw::Qx::Qy::Qz::QA::QB::QC::X5::X6::QD::QE::QF::QG::QH::QI::QJ::QK::QL::QM::QN::QO::QP::QQ::QR::QS::QT::QU::QW::QX::QY::QZ::Q3::Q4::Q5::JG::JH::JI::JJ::JK::JL::DZ::D5::D6::D7::D8::D9::Ea::Eb::Ec::Ed::Ee::Ef::Eg::Eh::Ei::Ej::El::Em::En::Eo::Ep::Er::Es::Et::Eu::Ev::Ew::Ex::Ey::Ez::EA::EB::EC::ED::EE::EF::EG::EH::EI::EJ::EK::EL::EN::EO::EP::ER::ET::EU::EW::EX::EY::EZ::BH::BI::BJ::BK::BL::BM::BN::F9::Ga::Gb::Gc::Gd::Gf::Gg::Gh::BO::BP::BQ::BR::BS::[])),defers:=[] } w1) :
 c.wp Tryz.prog (Exit.then K (bodyPost Tryz.prog Tryz.f48 PP)) { tmps:=(List.toArray (α:=Value) (u0::u1::.pointer (some ⟨b2,0,none⟩)::.pointer (some ⟨b3,0,none⟩)::.pointer (some ⟨b4,0,none⟩)::.pointer (some ⟨b5,0,none⟩)::.pointer (some ⟨b6,0,none⟩)::u7::u8::u9::jB::jg::jh::ji::jk::jl::u16::mW::oz::lJ::nC::mE::mF::mh::jC::jD::jw::j6::ig::ik::iq::iw::u32::jm::jq::jr::jE::jF::jG::jH::jI::jJ::jK::jL::jM::jN::jO::jP::jQ::jR::jS::jT::jU::jV::jW::jX::jY::kv::ky::kz::kC::kD::kE::kF::u64::kG::kH::kg::ko::kI::kJ::kK::kL::kM::kN::kP::kQ::kR::lK::lL::lN::lQ::lT::lU::lV::lW::lX::lY::lZ::l7::l8::l9::mf::mg::mi::mI::nE::nG::nH::nI::fU::fV::fZ::gm::gp::gq::gu::gy::gz::gB::gF::gG::gH::gJ::gK::gL::gM::gN::gP::gQ::iA::iB::iC::iD::iE::iF::iG::iH::iI::iJ::iK::iL::iM::iN::iO::iP::iQ::iR::iT::iU::iV::iW::iX::iY::iZ::jd::je::jf::kU::kV::kW::kX::lg::lh::ll::lu::lv::lC::lD::mJ::mK::mM::mO::mP::mQ::mR::mU::mZ::ng::ni::nu::ny::[])),defers:=[] } w:=by
 injection hc with k0;injection k0 with e0 k1;clear e0;injection k1 with e1 k2;clear e1;injection k2 with e2 k3;clear e2;injection k3 with e3 k4;clear e3;injection k4 with e4 k5;clear e4;injection k5 with e5 k6;clear e5;injection k6 with e6 k7;clear k7;subst e6;have yZ:Hid (dn=D.length):=ae (by simpa using hD.len);have hdl:dn<499999:=by have:=yZ.out;omega
 have H2:=ae h2;have H3:=ae h3;have HD:=ae hD;have HM:=ae hM;have Nn:=ae hno;clear h2 h3 hD hM hno;go_wp2_with fail
 go_loopw [10] (fun i wr=>∃ k:Nat,k≤dn∧i=.int .i64 k∧Hid (Below w.heap.size w wr)) (fun i _=>dn - (intOf i).toNat)
 case atStart=>exact ⟨0,Nat.zero_le _,rfl,Below.refl _ _⟩
 case round =>
  obtain ⟨k,hk,rfl,bV⟩:=hrel;have hc24:wr.cell? ⟨b2,4,none⟩=some (.slice da dn dc):=blk bV.out H2.out 4;by_cases hlt:k<dn
  ·have hdk:decide ((k:Int)<(dn:Int))=true:=by simp;omega
   obtain ⟨x,hx⟩:∃ x,D[k]? = some x:=⟨D[k]'(by rw [← yZ.out];exact hlt),by simp⟩;obtain ⟨b,off,ha,j4,hc0⟩:=(HD.out.later bV.out).el (i:=k) (x:=x.cells) (by simp [hx]);obtain rfl:da=some ⟨b,off,none⟩:=ha;have hnx:sN qc qs ag x=false:=by
    have:=List.find?_eq_none.1 Nn.out x (List.mem_of_getElem? hx);simpa using this
   clear hx;obtain ⟨xc,xs,az,xk,xf,xv,xg⟩:=x;have qO:Hid (∀ (j:Nat) (u:Value),(rP xc xs az xk xf xv xg)[j]? = some u→wr.cell? ⟨b,off+k*7+j,none⟩=some u):=hc0;clear hc0;have hi1:(0:Int)≤(k:Int):=by omega
   have hi2:(k:Int)<(dn:Int):=by omega
   go_upto_region 14 with (first
    | (with_reducible show cB 52 57 ..;go_must (refine bB rfl _ _ rfl b (off+k*7) rfl 7 _ dD rfl (by kernel_rfl) (rP xc xs az xk xf xv xg) rfl qO.out ?_))
    | (with_reducible show dJ 57 11 ..;go_must (refine fH wr.heap.size 0 (rP xc xs az xk xf xv xg) _ bA 57 (heap_alloc_new wr _) (rP xc xs az xk xf xv xg) ?_;intro w2 hw2 ho2;have HW2:=ae hw2;have HB2:Hid (Below wr.heap.size wr w2):=ae ((aj wr _).trans (ho2.below (Nat.le_refl _)));clear hw2 ho2)))
   have hq0:w2.cell? ⟨b3,0,none⟩=some (.int .u8 qc):=blk (ai bV.out HB2.out) H3.out 0;have hq1:w2.cell? ⟨b3,1,none⟩=some (.int .u32 qs):=blk (ai bV.out HB2.out) H3.out 1;have hq3:w2.cell? ⟨b3,3,none⟩=some (.int .u64 ag):=blk (ai bV.out HB2.out) H3.out 3;have hx0:w2.cell? ⟨wr.heap.size,0,none⟩=some (.int .u8 xc):=ah HW2.out 0;have hx1:w2.cell? ⟨wr.heap.size,1,none⟩=some (.int .u32 xs):=ah HW2.out 1;have hx2:w2.cell? ⟨wr.heap.size,2,none⟩=some (.int .u64 az):=ah HW2.out 2;by_cases h1:az=ag
   ·by_cases h2:xc=qc
    ·have hd1:(az == ag)=true:=by simp [h1]
     have hd2:(xc == qc)=true:=by simp [h2]
     have hd3:(xs == qs)=false:=by simp [sN,h1,h2] at hnx;simp;exact hnx.1
     have hd4:decide (qs<xs)=false:=by simp [sN,h1,h2] at hnx;simp;omega
     clear hnx h1 h2 hc24;go_wp2_with fail
     go_roundw
     case rel=>exact ⟨k+1,by omega,by go_num,ai bV.out HB2.out⟩
     case measure=>simp [intOf];omega
    ·have hd1:(az == ag)=true:=by simp [h1]
     have hd2:(xc == qc)=false:=by simp [h2]
     clear hnx h1 h2 hc24;go_wp2_with fail
     go_roundw
     case rel=>exact ⟨k+1,by omega,by go_num,ai bV.out HB2.out⟩
     case measure=>simp [intOf];omega
   ·have hd1:(az == ag)=false:=by simp [h1]
    clear hnx h1 hc24;go_wp2_with fail
    go_roundw
    case rel=>exact ⟨k+1,by omega,by go_num,ai bV.out HB2.out⟩
    case measure=>simp [intOf];omega
  ·have hdk:decide ((k:Int)<(dn:Int))=false:=by simp;omega
   go_wp2_with fail
   exact HM.out _ _ _ _ _ _ _ _ _ _ _ _ _ _ _ _ _ _ _ _ _ _ _ _ _ _ _ _ _ _ _ _ _ _ _ _ _ _ _ _ _ _ _ _ _ _ _ _ _ _ _ _ _ _ _ _ _ _ _ _ _ _ _ _ _ _ _ _ _ _ _ _ _ _ _ _ _ _ _ _ _ _ _ _ _ _ _ _ _ _ _ _ _ _ _ _ _ _ _ _ _ _ _ _ _ _ _ _ _ _ _ _ _ _ _ _ _ _ _ _ _ _ _ _ _ _ _ _ _ _ _ _ _ _ _ _ _ _ _ _ _ _ _ _ _ _ _ _ _ _ _ _ _ _ _ _ _ _ _ _ _ _ _ _ _ _ _ _ bV.out
end
end Go.Proofs.YtignemioillaiaaGreat
