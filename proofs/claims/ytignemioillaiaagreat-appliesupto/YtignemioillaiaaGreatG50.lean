/- The law of Applies: the document's Apply, its answer in two new boxes. -/
import Derived.Test.YtignemioillaiaaGreatG46
namespace Go.Proofs.YtignemioillaiaaGreat
set_option maxHeartbeats 8000000
set_option maxRecDepth 100000
section
open Go.RowKit Go.Lib
theorem ae6 {r c a0 a1 a2 a3 a4 a5 a8 a9 G6 Ko b0 b1 b2 b3 b4:Code} {n0 n1:Nat} (hc:Tryz.f3.body=some (a0.seq (a1.seq (a2.seq (a3.seq (a4.seq (a5.seq ((a8.seq (Code.block n0 (Code.loop (a9.seq ((Code.block n1 (b0.seq (b1.seq (b2.seq (b3.seq (b4.seq (r.seq c))))))).seq G6))))).seq Ko)))))))) {u0 u2 u3 u4 u5 u6 u7 u8 jB jg jh ji jk jl u16 lJ nC mE mF mh jC jD jw j6 ig ik iq iw u32 jm jq jr jE jF jG jH jI jJ jK jL jM jN jO jP jQ jR jS jT jU jV jW jX jY kv ky kz kC kD kE kF u64 kG kH kg ko kI kJ kK kL kM kN kP kQ kR lK lL lN lQ lT lU lV lW lX lY lZ l7 l8 l9 mf mg mi mI nE nG nH nI fU fV fZ gm gp gq gu gy gz gB gF gG gH gJ gK gL gM gN gP gQ iA iB iC iD iE iF iG iH iI iJ iK iL iM iN iO iP iQ iR iT iU iV iW iX iY iZ jd je jf kU kV kW kX lg lh ll lu lv lC lD mJ mK mM mO mP mQ mR mU mZ ng ni nu ny wZ xe xh xm xq xu xx vF vH vJ vK vN vQ vS vU vW vX vY vZ wh wm xy xz xA xB xC xE xG xH xJ xK xN xP sQ sU sV sZ tq tu tC tF tH tJ tK tL tN tQ tV tX tY tZ uf ug uh ui uj uk:Value} (P:Nat→Prop) (w:World) (gb gn gc gi cb co cn cc ci:Nat) (g n:Int) (ta:Option Addr) (tn tc:Nat) (ma:Option Addr) (mn mc:Nat) (da:Option Addr) (dn dc:Nat) (oa:Option Addr) (on oc:Nat) (ia:Option Addr) (il ic:Nat) (T:List Row) (M:List Pc) (D:List ak) (L:List ax) (I:List Int) (aG:Int) (di dh dw aO dx bK bL:Int) (aH aK aL bu aW:Int) (aQ:Option Addr) (aX aR:Nat) (aS:Option Addr) (aY aU:Nat) (aN bW:Int) (aI:List Row) (aJ:List ak)
 (hA:∀ w',Below w.heap.size w w'→∀ (j:Nat) (u:Value),((rS g n ta tn tc ma mn mc da dn dc oa on oc ia il ic):List Value)[j]? = some u→w'.cell? ⟨gb,gi*7+j,none⟩=some u) (hgi:gi<gn) (hC:∀ w',Below w.heap.size w w'→∀ (j:Nat) (u:Value),((rC aG di dh dw aO dx bK bL aH aK aL bu aW aQ aX aR aS aY aU aN bW):List Value)[j]? = some u→w'.cell? ⟨cb,co+ci*17+j,none⟩=some u) (hci:ci<cn) (h:ry P w ⟨ta,tn,tc⟩ ⟨ma,mn,mc⟩ ⟨da,dn,dc⟩ ⟨oa,on,oc⟩ ⟨ia,il,ic⟩ T M D L I) (hok:ku (St.mk g n T M D (L.map ax.core) I)) (hsm:nL 490000 (St.mk g n T M D (L.map ax.core) I)) (hP:∀ k,w.heap.size≤k→¬ P k) (hr:fT P w ⟨aQ,aX,aR⟩ 2 (aI.map Row.cells)) (hd:fT P w ⟨aS,aY,aU⟩ 7 (aJ.map ak.cells)) (hwf:(dY.mk aG (bH.mk di dh dw aO dx bK bL) (aF.mk aH aK aL bu aW ⟨aQ,aX,aR⟩ ⟨aS,aY,aU⟩ aI aJ) aN bW).wf)
 (K:Act→World→Prop) (Q0:Exit→Act→World→Prop) (hK:∀ (D7 D8 D9 Ea Eb Ec Ed Ee Ef Eg Eh Ei:Value) (bs br:Nat) (xT xM xD xO xI:Sl) (L':List ax) (wx:World),L'.map ax.core=(iy (St.mk g n T M D (L.map ax.core) I) (dY.mk aG (bH.mk di dh dw aO dx bK bL) (aF.mk aH aK aL bu aW ⟨aQ,aX,aR⟩ ⟨aS,aY,aU⟩ aI aJ) aN bW)).1.O→ry P wx xT xM xD xO xI (iy (St.mk g n T M D (L.map ax.core) I) (dY.mk aG (bH.mk di dh dw aO dx bK bL) (aF.mk aH aK aL bu aW ⟨aQ,aX,aR⟩ ⟨aS,aY,aU⟩ aI aJ) aN bW)).1.T (iy (St.mk g n T M D (L.map ax.core) I) (dY.mk aG (bH.mk di dh dw aO dx bK bL) (aF.mk aH aK aL bu aW ⟨aQ,aX,aR⟩ ⟨aS,aY,aU⟩ aI aJ) aN bW)).1.M (iy (St.mk g n T M D (L.map ax.core) I) (dY.mk aG (bH.mk di dh dw aO dx bK bL) (aF.mk aH aK aL bu aW ⟨aQ,aX,aR⟩ ⟨aS,aY,aU⟩ aI aJ) aN bW)).1.D L' (iy (St.mk g n T M D (L.map ax.core) I) (dY.mk aG (bH.mk di dh dw aO dx bK bL) (aF.mk aH aK aL bu aW ⟨aQ,aX,aR⟩ ⟨aS,aY,aU⟩ aI aJ) aN bW)).1.I→w.heap.size≤bs→w.heap.size≤br→bs≠br→wx.heap[bs]? = some (.cells #[.int .u8 g,.int .u8 n,xT.val,xM.val,xD.val,xO.val,xI.val] 31)→wx.heap[br]? = some (.cells (iy (St.mk g n T M D (L.map ax.core) I) (dY.mk aG (bH.mk di dh dw aO dx bK bL) (aF.mk aH aK aL bu aW ⟨aQ,aX,aR⟩ ⟨aS,aY,aU⟩ aI aJ) aN bW)).2.cells.toArray 57)→Below w.heap.size w wx→K { tmps:=(List.toArray (α:=Value) (u0::.slice (some ⟨cb,co,none⟩) cn cc::u2::u3::u4::u5::u6::u7::u8::.slice (some ⟨gb,0,none⟩) gn gc::jB::jg::jh::ji::jk::jl::u16::.int .i64 (ci:Int)::.int .i64 (gi:Int)::lJ::nC::mE::.pointer (some ⟨bs,0,none⟩)::.pointer (some ⟨br,0,none⟩)::jC::jD::jw::j6::ig::ik::iq::iw::u32::jm::jq::jr::jE::jF::jG::jH::jI::jJ::jK::jL::jM::jN::jO::jP::jQ::jR::jS::jT::jU::jV::jW::jX::jY::kv::ky::kz::kC::kD::kE::kF::u64::kG::kH::kg::ko::kI::kJ::kK::kL::kM::kN::kP::kQ::kR::lK::lL::lN::lQ::lT::lU::lV::lW::lX::lY::lZ::l7::l8::l9::mf::mg::mi::mI::nE::nG::nH::nI::fU::fV::fZ::D7::D8::D9::Ea::Eb::Ec::Ed::Ee::Ef::Eg::Eh::Ei::gL::gM::gN::gP::gQ::iA::iB::iC::iD::iE::iF::iG::iH::iI::iJ::iK::iL::iM::iN::iO::iP::iQ::iR::iT::iU::iV::iW::iX::iY::iZ::jd::je::jf::kU::kV::kW::kX::lg::lh::ll::lu::lv::lC::lD::mJ::mK::mM::mO::mP::mQ::mR::mU::mZ::ng::ni::nu::ny::wZ::xe::xh::xm::xq::xu::xx::vF::vH::vJ::vK::vN::vQ::vS::vU::vW::vX::vY::vZ::wh::wm::xy::xz::xA::xB::xC::xE::xG::xH::xJ::xK::xN::xP::sQ::sU::sV::sZ::tq::tu::tC::tF::tH::tJ::tK::tL::tN::tQ::tV::tX::tY::tZ::uf::ug::uh::ui::uj::uk::[])),defers:=[] } wx) :
 r.wp Tryz.prog (Exit.then K Q0) { tmps:=(List.toArray (α:=Value) (u0::.slice (some ⟨cb,co,none⟩) cn cc::u2::u3::u4::u5::u6::u7::u8::.slice (some ⟨gb,0,none⟩) gn gc::jB::jg::jh::ji::jk::jl::u16::.int .i64 (ci:Int)::.int .i64 (gi:Int)::lJ::nC::mE::mF::mh::jC::jD::jw::j6::ig::ik::iq::iw::u32::jm::jq::jr::jE::jF::jG::jH::jI::jJ::jK::jL::jM::jN::jO::jP::jQ::jR::jS::jT::jU::jV::jW::jX::jY::kv::ky::kz::kC::kD::kE::kF::u64::kG::kH::kg::ko::kI::kJ::kK::kL::kM::kN::kP::kQ::kR::lK::lL::lN::lQ::lT::lU::lV::lW::lX::lY::lZ::l7::l8::l9::mf::mg::mi::mI::nE::nG::nH::nI::fU::fV::fZ::gm::gp::gq::gu::gy::gz::gB::gF::gG::gH::gJ::gK::gL::gM::gN::gP::gQ::iA::iB::iC::iD::iE::iF::iG::iH::iI::iJ::iK::iL::iM::iN::iO::iP::iQ::iR::iT::iU::iV::iW::iX::iY::iZ::jd::je::jf::kU::kV::kW::kX::lg::lh::ll::lu::lv::lC::lD::mJ::mK::mM::mO::mP::mQ::mR::mU::mZ::ng::ni::nu::ny::wZ::xe::xh::xm::xq::xu::xx::vF::vH::vJ::vK::vN::vQ::vS::vU::vW::vX::vY::vZ::wh::wm::xy::xz::xA::xB::xC::xE::xG::xH::xJ::xK::xN::xP::sQ::sU::sV::sZ::tq::tu::tC::tF::tH::tJ::tK::tL::tN::tQ::tV::tX::tY::tZ::uf::ug::uh::ui::uj::uk::[])),defers:=[] } w:=by
 injection hc with k0;injection k0 with e0 k1;clear e0;injection k1 with e1 k2;clear e1;injection k2 with e2 k3;clear e2;injection k3 with e3 k4;clear e3;injection k4 with e4 k5;clear e4;injection k5 with e5 k6;clear e5;injection k6 with k9 e8;injection k9 with e9 k10;injection k10 with en k11;injection k11 with k12;injection k12 with e10 k13;injection k13 with k14 e11;injection k14 with em k15;injection k15 with d0 k16;clear d0;injection k16 with d1 k17;clear d1;injection k17 with d2 k18;clear d2;injection k18 with d3 k19;clear d3;injection k19 with d4 k20;clear d4;injection k20 with kr kc;subst kr;clear e8 e9 en e10 e11 em kc;have HK:=ae hK;have HA:=ae hA;have HC:=ae hC;have HS:=ae h;have HR:=ae hr;have HD:=ae hd;clear hK hA hC h hr hd;have hi0:(0:Int)≤(gi:Int):=by omega
 have hi1:(gi:Int)<(gn:Int):=by omega
 have hi2:(0:Int)≤(ci:Int):=by omega
 have hi3:(ci:Int)<(cn:Int):=by omega
 refine wp_region_noPanic ?_;refine wp_region_held_drew (S:=fun w'=>Below w.heap.size w w') (by kernel_rfl) (Below.refl _ _).drew (fun hHeld=>?_);obtain ⟨w0,hw0⟩:∃ y,y=w.drew:=⟨_,rfl⟩;rw [← hw0] at hHeld ⊢;have HH0:=ae hHeld;clear hw0;refine dC 0 ?_;try simp only [Act.put,dK]
 refine dC 1 ?_;try simp only [Act.put]
 refine dC 2 ?_;try simp only [Act.put]
 refine wpAnyH_take (i:=3) (oi:=_) (v:=_) rfl (by kernel_rfl) (by kernel_rfl) (by kernel_rfl) (fun _ _ _ h=>h) (yieldsIf_load_mid (by rfl) _ _ rfl gb (gi*7) rfl (rS g n ta tn tc ma mn mc da dn dc oa on oc ia il ic) _ (fun w' hb=>BX (base:=gi*7) (o:=0) (n:=7) (xs:=(rS g n ta tn tc ma mn mc da dn dc oa on oc ia il ic)) (HA.out _ hb) rfl) fE rfl AJ) (by assumption) ?_;try simp only [Act.put]
 refine dC 4 ?_;try simp only [Act.put]
 refine dC 5 ?_;try simp only [Act.put]
 refine dC 6 ?_;try simp only [Act.put]
 refine wpAnyH_take (i:=7) (oi:=_) (v:=_) rfl (by kernel_rfl) (by kernel_rfl) (by kernel_rfl) (fun _ _ _ h=>h) (yieldsIf_load_mid (by rfl) _ _ rfl cb (co+ci*17) rfl (rC aG di dh dw aO dx bK bL aH aK aL bu aW aQ aX aR aS aY aU aN bW) _ (fun w' hb=>BX (base:=co+ci*17) (o:=0) (n:=17) (xs:=(rC aG di dh dw aO dx bK bL aH aK aL bu aW aQ aX aR aS aY aU aN bW)) (HC.out _ hb) rfl) Lx rfl Dy) (by assumption) ?_;try simp only [Act.put]
 refine wpAnyH_ready (rs:=[8,12,13]) (by kernel_rfl) (by simp) ?_;refine AllReadyH.cons (o:=_) rfl (fun K hK=>?_) (AllReadyH.cons (o:=_) rfl (fun K hK=>?_) (AllReadyH.cons (o:=_) rfl (fun K hK=>?_) AllReadyH.nil));focus
  have rZ:=HH0.out.size;have hto:∀ k,(fun k=>P k) k→P k∨w.heap.size≤k:=by
   rintro k hk
   ·exact .inl hk
  have F4:∀ k,w0.heap.size≤k→¬ (fun k=>P k) k:=by
   rintro k hle hk
   ·exact hP k (by omega) hk
  have yM:=ae hto;have F5:=ae F4;clear rZ;clear hto F4;go_simp
  go_at_call 13;refine (Hd (fun k=>P k) _ g n ta tn tc ma mn mc da dn dc oa on oc ia il ic aG _ _ _ _ _ _ _ _ _ _ _ _ _ _ _ _ _ _ _ _ aI aJ T M D L I ((HS.out.to yM.out).later hHeld) hok hsm F5.out ((HR.out.to yM.out).later hHeld) ((HD.out.to yM.out).later hHeld) hwf).mono ?_
  rintro e w1 ⟨xT,xM,xD,xO,xI,L',rfl,hco,hsh,uO⟩;have o9:=ae hco;have rA:=ae hsh;have rX:=ae uO;clear hco hsh uO yM F5;try go_wp2_with fail
  have Kq:=ai hHeld rX.out;refine hK.out _ _ Kq (fun hHeld=>?_);clear hK K Kq;try simp only [Act.put,dK,fF,fG]
  refine dC 9 ?_;try simp only [Act.put,dK]
  refine dC 10 ?_;try simp only [Act.put]
  refine dC 11 ?_;try simp only [Act.put]
  refine wpAnyH_ready (rs:=[12,13]) (by kernel_rfl) (by simp) ?_;refine AllReadyH.cons (o:=_) rfl (fun K hK=>?_) (AllReadyH.cons (o:=_) rfl (fun K hK=>?_) AllReadyH.nil);focus
   go_simp
   refine hK.out _ _ (ai hHeld (aj _ _)) (fun hHeld=>?_);clear hK K;try simp only [Act.put,dK,fF,fG]
   obtain ⟨w2,hy⟩:∃ y,y=w1.alloc (.cells dS.toArray 31):=⟨_,rfl⟩;rw [← hy] at hHeld ⊢;have mr:Hid (w2.heap[w1.heap.size]? = some (.cells dS.toArray 31)):=ae (by rw [hy];exact heap_alloc_new _ _);have HL2:Hid (Below w1.heap.size w1 w2):=ae (by rw [hy];exact aj _ _);obtain ⟨bs,ou⟩:∃ b,w1.heap.size=b:=⟨_,rfl⟩;rw [ou] at mr ⊢;have uC:=ae ou;clear hy ou;refine mo 13 (fun K hK=>?_);focus
    go_simp
    refine hK.out _ _ (ai hHeld (aj _ _)) (fun hHeld=>?_);clear hK K;try simp only [Act.put,dK,fF,fG]
    obtain ⟨w3,hy⟩:∃ y,y=w2.alloc (.cells bA.toArray 57):=⟨_,rfl⟩;rw [← hy] at hHeld ⊢;have mD:Hid (w3.heap[w2.heap.size]? = some (.cells bA.toArray 57)):=ae (by rw [hy];exact heap_alloc_new _ _);have oJ:Hid (Below w2.heap.size w2 w3):=ae (by rw [hy];exact aj _ _);obtain ⟨br,ow⟩:∃ b,w2.heap.size=b:=⟨_,rfl⟩;rw [ow] at mD ⊢;have uE:=ae ow;clear hy ow;have rZ:=HH0.out.size;have uP:=rX.out.size;have yI:=HL2.out.size;have zO:=oJ.out.size;have CQ:=uC.out;have yh:=(df mr.out);have CR:=uE.out;have yP:=(df mD.out);have qp:=(af oJ.out mr.out);have qA:=mD.out;have hto:∀ k,(fun k=>P k∨k=bs∨k=br) k→(fun k=>P k) k∨w1.heap.size≤k:=by
     rintro k (hk | rfl | rfl)
     ·exact .inl hk
     ·exact .inr (by omega)
     ·exact .inr (by omega)
    have zo:=ae (((rA.out.to hto).later HL2.out).later oJ.out);have hne:bs≠br:=by omega
    have hsl:w.heap.size≤bs:=by omega
    have hrl:w.heap.size≤br:=by omega
    have uF:=ae qp;have HR3:=ae qA;clear rZ uP yI zO CQ yh CR yP;clear qp qA hto
  rotate_left 1
  focus
   go_simp
   refine hK.out _ _ (ai hHeld (aj _ _)) (fun hHeld=>?_);clear hK K;try simp only [Act.put,dK,fF,fG]
   obtain ⟨w2,hy⟩:∃ y,y=w1.alloc (.cells bA.toArray 57):=⟨_,rfl⟩;rw [← hy] at hHeld ⊢;have mD:Hid (w2.heap[w1.heap.size]? = some (.cells bA.toArray 57)):=ae (by rw [hy];exact heap_alloc_new _ _);have HL2:Hid (Below w1.heap.size w1 w2):=ae (by rw [hy];exact aj _ _);obtain ⟨br,ow⟩:∃ b,w1.heap.size=b:=⟨_,rfl⟩;rw [ow] at mD ⊢;have uE:=ae ow;clear hy ow;refine mo 12 (fun K hK=>?_);focus
    go_simp
    refine hK.out _ _ (ai hHeld (aj _ _)) (fun hHeld=>?_);clear hK K;try simp only [Act.put,dK,fF,fG]
    obtain ⟨w3,hy⟩:∃ y,y=w2.alloc (.cells dS.toArray 31):=⟨_,rfl⟩;rw [← hy] at hHeld ⊢;have mr:Hid (w3.heap[w2.heap.size]? = some (.cells dS.toArray 31)):=ae (by rw [hy];exact heap_alloc_new _ _);have oJ:Hid (Below w2.heap.size w2 w3):=ae (by rw [hy];exact aj _ _);obtain ⟨bs,ou⟩:∃ b,w2.heap.size=b:=⟨_,rfl⟩;rw [ou] at mr ⊢;have uC:=ae ou;clear hy ou;have rZ:=HH0.out.size;have uP:=rX.out.size;have yI:=HL2.out.size;have zO:=oJ.out.size;have CQ:=uC.out;have yh:=(df mr.out);have CR:=uE.out;have yP:=(df mD.out);have qp:=mr.out;have qA:=(af oJ.out mD.out);have hto:∀ k,(fun k=>P k∨k=bs∨k=br) k→(fun k=>P k) k∨w1.heap.size≤k:=by
     rintro k (hk | rfl | rfl)
     ·exact .inl hk
     ·exact .inr (by omega)
     ·exact .inr (by omega)
    have zo:=ae (((rA.out.to hto).later HL2.out).later oJ.out);have hne:bs≠br:=by omega
    have hsl:w.heap.size≤bs:=by omega
    have hrl:w.heap.size≤br:=by omega
    have uF:=ae qp;have HR3:=ae qA;clear rZ uP yI zO CQ yh CR yP;clear qp qA hto
  rotate_left 1
 rotate_left 2
 focus
  go_simp
  refine hK.out _ _ (ai hHeld (aj _ _)) (fun hHeld=>?_);clear hK K;try simp only [Act.put,dK,fF,fG]
  obtain ⟨w1,hy⟩:∃ y,y=w0.alloc (.cells dS.toArray 31):=⟨_,rfl⟩;rw [← hy] at hHeld ⊢;have mr:Hid (w1.heap[w0.heap.size]? = some (.cells dS.toArray 31)):=ae (by rw [hy];exact heap_alloc_new _ _);have rX:Hid (Below w0.heap.size w0 w1):=ae (by rw [hy];exact aj _ _);obtain ⟨bs,ou⟩:∃ b,w0.heap.size=b:=⟨_,rfl⟩;rw [ou] at mr ⊢;have uC:=ae ou;clear hy ou;refine wpAnyH_ready (rs:=[8,13]) (by kernel_rfl) (by simp) ?_;refine AllReadyH.cons (o:=_) rfl (fun K hK=>?_) (AllReadyH.cons (o:=_) rfl (fun K hK=>?_) AllReadyH.nil);focus
   have rZ:=HH0.out.size;have uP:=rX.out.size;have CQ:=uC.out;have yh:=(df mr.out);have hto:∀ k,(fun k=>P k∨k=bs) k→P k∨w.heap.size≤k:=by
    rintro k (hk | rfl)
    ·exact .inl hk
    ·exact .inr (by omega)
   have F4:∀ k,w1.heap.size≤k→¬ (fun k=>P k∨k=bs) k:=by
    rintro k hle (hk | rfl)
    ·exact hP k (by omega) hk
    ·omega
   have yM:=ae hto;have F5:=ae F4;clear rZ uP CQ yh;clear hto F4;go_simp
   go_at_call 13;refine (Hd (fun k=>P k∨k=bs) _ g n ta tn tc ma mn mc da dn dc oa on oc ia il ic aG _ _ _ _ _ _ _ _ _ _ _ _ _ _ _ _ _ _ _ _ aI aJ T M D L I ((HS.out.to yM.out).later hHeld) hok hsm F5.out ((HR.out.to yM.out).later hHeld) ((HD.out.to yM.out).later hHeld) hwf).mono ?_
   rintro e w2 ⟨xT,xM,xD,xO,xI,L',rfl,hco,hsh,uO⟩;have o9:=ae hco;have rA:=ae hsh;have HL2:=ae uO;clear hco hsh uO yM F5;try go_wp2_with fail
   have Kr:=ai hHeld HL2.out;refine hK.out _ _ Kr (fun hHeld=>?_);clear hK K Kr;try simp only [Act.put,dK,fF,fG]
   refine dC 9 ?_;try simp only [Act.put,dK]
   refine dC 10 ?_;try simp only [Act.put]
   refine dC 11 ?_;try simp only [Act.put]
   refine mo 13 (fun K hK=>?_);focus
    go_simp
    refine hK.out _ _ (ai hHeld (aj _ _)) (fun hHeld=>?_);clear hK K;try simp only [Act.put,dK,fF,fG]
    obtain ⟨w3,hy⟩:∃ y,y=w2.alloc (.cells bA.toArray 57):=⟨_,rfl⟩;rw [← hy] at hHeld ⊢;have mD:Hid (w3.heap[w2.heap.size]? = some (.cells bA.toArray 57)):=ae (by rw [hy];exact heap_alloc_new _ _);have oJ:Hid (Below w2.heap.size w2 w3):=ae (by rw [hy];exact aj _ _);obtain ⟨br,ow⟩:∃ b,w2.heap.size=b:=⟨_,rfl⟩;rw [ow] at mD ⊢;have uE:=ae ow;clear hy ow;have rZ:=HH0.out.size;have uP:=rX.out.size;have yI:=HL2.out.size;have zO:=oJ.out.size;have CQ:=uC.out;have yh:=(df mr.out);have CR:=uE.out;have yP:=(df mD.out);have qp:=(af oJ.out (af HL2.out mr.out));have qA:=mD.out;have hto:∀ k,(fun k=>P k∨k=bs∨k=br) k→(fun k=>P k∨k=bs) k∨w2.heap.size≤k:=by
     rintro k (hk | rfl | rfl)
     ·exact .inl (.inl hk)
     ·exact .inl (.inr rfl)
     ·exact .inr (by omega)
    have zo:=ae ((rA.out.to hto).later oJ.out);have hne:bs≠br:=by omega
    have hsl:w.heap.size≤bs:=by omega
    have hrl:w.heap.size≤br:=by omega
    have uF:=ae qp;have HR3:=ae qA;clear rZ uP yI zO CQ yh CR yP;clear qp qA hto
  rotate_left 1
  focus
   go_simp
   refine hK.out _ _ (ai hHeld (aj _ _)) (fun hHeld=>?_);clear hK K;try simp only [Act.put,dK,fF,fG]
   obtain ⟨w2,hy⟩:∃ y,y=w1.alloc (.cells bA.toArray 57):=⟨_,rfl⟩;rw [← hy] at hHeld ⊢;have mD:Hid (w2.heap[w1.heap.size]? = some (.cells bA.toArray 57)):=ae (by rw [hy];exact heap_alloc_new _ _);have HL2:Hid (Below w1.heap.size w1 w2):=ae (by rw [hy];exact aj _ _);obtain ⟨br,ow⟩:∃ b,w1.heap.size=b:=⟨_,rfl⟩;rw [ow] at mD ⊢;have uE:=ae ow;clear hy ow;refine mo 8 (fun K hK=>?_);focus
    have rZ:=HH0.out.size;have uP:=rX.out.size;have yI:=HL2.out.size;have CQ:=uC.out;have yh:=(df mr.out);have CR:=uE.out;have yP:=(df mD.out);have hto:∀ k,(fun k=>P k∨k=bs∨k=br) k→P k∨w.heap.size≤k:=by
     rintro k (hk | rfl | rfl)
     ·exact .inl hk
     ·exact .inr (by omega)
     ·exact .inr (by omega)
    have F4:∀ k,w2.heap.size≤k→¬ (fun k=>P k∨k=bs∨k=br) k:=by
     rintro k hle (hk | rfl | rfl)
     ·exact hP k (by omega) hk
     ·omega
     ·omega
    have yM:=ae hto;have F5:=ae F4;clear rZ uP yI CQ yh CR yP;clear hto F4;go_simp
    go_at_call 13;refine (Hd (fun k=>P k∨k=bs∨k=br) _ g n ta tn tc ma mn mc da dn dc oa on oc ia il ic aG _ _ _ _ _ _ _ _ _ _ _ _ _ _ _ _ _ _ _ _ aI aJ T M D L I ((HS.out.to yM.out).later hHeld) hok hsm F5.out ((HR.out.to yM.out).later hHeld) ((HD.out.to yM.out).later hHeld) hwf).mono ?_
    rintro e w3 ⟨xT,xM,xD,xO,xI,L',rfl,hco,hsh,uO⟩;have o9:=ae hco;have rA:=ae hsh;have oJ:=ae uO;clear hco hsh uO yM F5;try go_wp2_with fail
    have hh3:=ai hHeld oJ.out;refine hK.out _ _ hh3 (fun hHeld=>?_);clear hK K hh3;try simp only [Act.put,dK,fF,fG]
    refine dC 9 ?_;try simp only [Act.put,dK]
    refine dC 10 ?_;try simp only [Act.put]
    refine dC 11 ?_;try simp only [Act.put]
    go_simp
    have rZ:=HH0.out.size;have uP:=rX.out.size;have yI:=HL2.out.size;have zO:=oJ.out.size;have CQ:=uC.out;have yh:=(df mr.out);have CR:=uE.out;have yP:=(df mD.out);have qp:=(af oJ.out (af HL2.out mr.out));have qA:=(af oJ.out mD.out);have hto:∀ k,(fun k=>P k∨k=bs∨k=br) k→(fun k=>P k∨k=bs∨k=br) k∨w3.heap.size≤k:=by
     rintro k (hk | rfl | rfl)
     ·exact .inl (.inl hk)
     ·exact .inl (.inr (.inl rfl))
     ·exact .inl (.inr (.inr rfl))
    have zo:=ae (rA.out.to hto);have hne:bs≠br:=by omega
    have hsl:w.heap.size≤bs:=by omega
    have hrl:w.heap.size≤br:=by omega
    have uF:=ae qp;have HR3:=ae qA;clear rZ uP yI zO CQ yh CR yP;clear qp qA hto
  rotate_left 1
 rotate_left 2
 focus
  go_simp
  refine hK.out _ _ (ai hHeld (aj _ _)) (fun hHeld=>?_);clear hK K;try simp only [Act.put,dK,fF,fG]
  obtain ⟨w1,hy⟩:∃ y,y=w0.alloc (.cells bA.toArray 57):=⟨_,rfl⟩;rw [← hy] at hHeld ⊢;have mD:Hid (w1.heap[w0.heap.size]? = some (.cells bA.toArray 57)):=ae (by rw [hy];exact heap_alloc_new _ _);have rX:Hid (Below w0.heap.size w0 w1):=ae (by rw [hy];exact aj _ _);obtain ⟨br,ow⟩:∃ b,w0.heap.size=b:=⟨_,rfl⟩;rw [ow] at mD ⊢;have uE:=ae ow;clear hy ow;refine wpAnyH_ready (rs:=[8,12]) (by kernel_rfl) (by simp) ?_;refine AllReadyH.cons (o:=_) rfl (fun K hK=>?_) (AllReadyH.cons (o:=_) rfl (fun K hK=>?_) AllReadyH.nil);focus
   have rZ:=HH0.out.size;have uP:=rX.out.size;have CR:=uE.out;have yP:=(df mD.out);have hto:∀ k,(fun k=>P k∨k=br) k→P k∨w.heap.size≤k:=by
    rintro k (hk | rfl)
    ·exact .inl hk
    ·exact .inr (by omega)
   have F4:∀ k,w1.heap.size≤k→¬ (fun k=>P k∨k=br) k:=by
    rintro k hle (hk | rfl)
    ·exact hP k (by omega) hk
    ·omega
   have yM:=ae hto;have F5:=ae F4;clear rZ uP CR yP;clear hto F4;go_simp
   go_at_call 13;refine (Hd (fun k=>P k∨k=br) _ g n ta tn tc ma mn mc da dn dc oa on oc ia il ic aG _ _ _ _ _ _ _ _ _ _ _ _ _ _ _ _ _ _ _ _ aI aJ T M D L I ((HS.out.to yM.out).later hHeld) hok hsm F5.out ((HR.out.to yM.out).later hHeld) ((HD.out.to yM.out).later hHeld) hwf).mono ?_
   rintro e w2 ⟨xT,xM,xD,xO,xI,L',rfl,hco,hsh,uO⟩;have o9:=ae hco;have rA:=ae hsh;have HL2:=ae uO;clear hco hsh uO yM F5;try go_wp2_with fail
   have Kr:=ai hHeld HL2.out;refine hK.out _ _ Kr (fun hHeld=>?_);clear hK K Kr;try simp only [Act.put,dK,fF,fG]
   refine dC 9 ?_;try simp only [Act.put,dK]
   refine dC 10 ?_;try simp only [Act.put]
   refine dC 11 ?_;try simp only [Act.put]
   refine mo 12 (fun K hK=>?_);focus
    go_simp
    refine hK.out _ _ (ai hHeld (aj _ _)) (fun hHeld=>?_);clear hK K;try simp only [Act.put,dK,fF,fG]
    obtain ⟨w3,hy⟩:∃ y,y=w2.alloc (.cells dS.toArray 31):=⟨_,rfl⟩;rw [← hy] at hHeld ⊢;have mr:Hid (w3.heap[w2.heap.size]? = some (.cells dS.toArray 31)):=ae (by rw [hy];exact heap_alloc_new _ _);have oJ:Hid (Below w2.heap.size w2 w3):=ae (by rw [hy];exact aj _ _);obtain ⟨bs,ou⟩:∃ b,w2.heap.size=b:=⟨_,rfl⟩;rw [ou] at mr ⊢;have uC:=ae ou;clear hy ou;have rZ:=HH0.out.size;have uP:=rX.out.size;have yI:=HL2.out.size;have zO:=oJ.out.size;have CQ:=uC.out;have yh:=(df mr.out);have CR:=uE.out;have yP:=(df mD.out);have qp:=mr.out;have qA:=(af oJ.out (af HL2.out mD.out));have hto:∀ k,(fun k=>P k∨k=bs∨k=br) k→(fun k=>P k∨k=br) k∨w2.heap.size≤k:=by
     rintro k (hk | rfl | rfl)
     ·exact .inl (.inl hk)
     ·exact .inr (by omega)
     ·exact .inl (.inr rfl)
    have zo:=ae ((rA.out.to hto).later oJ.out);have hne:bs≠br:=by omega
    have hsl:w.heap.size≤bs:=by omega
    have hrl:w.heap.size≤br:=by omega
    have uF:=ae qp;have HR3:=ae qA;clear rZ uP yI zO CQ yh CR yP;clear qp qA hto
  rotate_left 1
  focus
   go_simp
   refine hK.out _ _ (ai hHeld (aj _ _)) (fun hHeld=>?_);clear hK K;try simp only [Act.put,dK,fF,fG]
   obtain ⟨w2,hy⟩:∃ y,y=w1.alloc (.cells dS.toArray 31):=⟨_,rfl⟩;rw [← hy] at hHeld ⊢;have mr:Hid (w2.heap[w1.heap.size]? = some (.cells dS.toArray 31)):=ae (by rw [hy];exact heap_alloc_new _ _);have HL2:Hid (Below w1.heap.size w1 w2):=ae (by rw [hy];exact aj _ _);obtain ⟨bs,ou⟩:∃ b,w1.heap.size=b:=⟨_,rfl⟩;rw [ou] at mr ⊢;have uC:=ae ou;clear hy ou;refine mo 8 (fun K hK=>?_);focus
    have rZ:=HH0.out.size;have uP:=rX.out.size;have yI:=HL2.out.size;have CQ:=uC.out;have yh:=(df mr.out);have CR:=uE.out;have yP:=(df mD.out);have hto:∀ k,(fun k=>P k∨k=bs∨k=br) k→P k∨w.heap.size≤k:=by
     rintro k (hk | rfl | rfl)
     ·exact .inl hk
     ·exact .inr (by omega)
     ·exact .inr (by omega)
    have F4:∀ k,w2.heap.size≤k→¬ (fun k=>P k∨k=bs∨k=br) k:=by
     rintro k hle (hk | rfl | rfl)
     ·exact hP k (by omega) hk
     ·omega
     ·omega
    have yM:=ae hto;have F5:=ae F4;clear rZ uP yI CQ yh CR yP;clear hto F4;go_simp
    go_at_call 13;refine (Hd (fun k=>P k∨k=bs∨k=br) _ g n ta tn tc ma mn mc da dn dc oa on oc ia il ic aG _ _ _ _ _ _ _ _ _ _ _ _ _ _ _ _ _ _ _ _ aI aJ T M D L I ((HS.out.to yM.out).later hHeld) hok hsm F5.out ((HR.out.to yM.out).later hHeld) ((HD.out.to yM.out).later hHeld) hwf).mono ?_
    rintro e w3 ⟨xT,xM,xD,xO,xI,L',rfl,hco,hsh,uO⟩;have o9:=ae hco;have rA:=ae hsh;have oJ:=ae uO;clear hco hsh uO yM F5;try go_wp2_with fail
    have hh3:=ai hHeld oJ.out;refine hK.out _ _ hh3 (fun hHeld=>?_);clear hK K hh3;try simp only [Act.put,dK,fF,fG]
    refine dC 9 ?_;try simp only [Act.put,dK]
    refine dC 10 ?_;try simp only [Act.put]
    refine dC 11 ?_;try simp only [Act.put]
    go_simp
    have rZ:=HH0.out.size;have uP:=rX.out.size;have yI:=HL2.out.size;have zO:=oJ.out.size;have CQ:=uC.out;have yh:=(df mr.out);have CR:=uE.out;have yP:=(df mD.out);have qp:=(af oJ.out mr.out);have qA:=(af oJ.out (af HL2.out mD.out));have hto:∀ k,(fun k=>P k∨k=bs∨k=br) k→(fun k=>P k∨k=bs∨k=br) k∨w3.heap.size≤k:=by
     rintro k (hk | rfl | rfl)
     ·exact .inl (.inl hk)
     ·exact .inl (.inr (.inl rfl))
     ·exact .inl (.inr (.inr rfl))
    have zo:=ae (rA.out.to hto);have hne:bs≠br:=by omega
    have hsl:w.heap.size≤bs:=by omega
    have hrl:w.heap.size≤br:=by omega
    have uF:=ae qp;have HR3:=ae qA;clear rZ uP yI zO CQ yh CR yP;clear qp qA hto
  rotate_left 1
 rotate_left 2
 all_goals
  refine mo 14 (fun K hK=>?_);rw [if_pos (by rfl)];refine uU _ _ _ rfl rfl bs 0 rfl [.int .u8 g,.int .u8 n,xT.val,xM.val,xD.val,xO.val,xI.val] rfl 7 AJ rfl rfl _ _ uF.out rfl [.int .u8 g,.int .u8 n,xT.val,xM.val,xD.val,xO.val,xI.val] rfl ?_;intro x1 hx1 ho1;have hh:=hHeld.trans (ho1.below hsl);refine hK.out _ _ hh (fun hHeld=>?_);clear hK K hh;try simp only [Act.put,dK,fF,fG]
  refine mo 15 (fun K hK=>?_);rw [if_pos (by rfl)];refine uU _ _ _ rfl rfl br 0 rfl (iy (St.mk g n T M D (L.map ax.core) I) (dY.mk aG (bH.mk di dh dw aO dx bK bL) (aF.mk aH aK aL bu aW ⟨aQ,aX,aR⟩ ⟨aS,aY,aU⟩ aI aJ) aN bW)).2.cells rfl 7 zT rfl (OY _) _ _ ((ho1.block br (Ne.symm hne)).trans HR3.out) rfl (iy (St.mk g n T M D (L.map ax.core) I) (dY.mk aG (bH.mk di dh dw aO dx bK bL) (aF.mk aH aK aL bu aW ⟨aQ,aX,aR⟩ ⟨aS,aY,aU⟩ aI aJ) aN bW)).2.cells rfl ?_;intro x2 hx2 ho2;have hh:=hHeld.trans (ho2.below hrl);refine hK.out _ _ hh (fun _=>?_);clear hK K;try simp only [Act.put,dK,fF,fG]
  refine wpAnyH_done (by kernel_rfl) ?_ _;refine NoPanic.normal ?_;go_wp2_with fail
  exact HK.out _ _ _ _ _ _ _ _ _ _ _ _ bs br xT xM xD xO xI L' x2 o9.out ((zo.out.dV (B:=fun k=>k=bs∨k=br) (fun k hk=>.inr hk) ((av.only ho1 (.inl rfl)).trans (av.only ho2 (.inr rfl)))).to (fun k hk=>.inl (.inl hk))) hsl hrl hne ((ho2.block bs hne).trans hx1) hx2 hh
end
end Go.Proofs.YtignemioillaiaaGreat
