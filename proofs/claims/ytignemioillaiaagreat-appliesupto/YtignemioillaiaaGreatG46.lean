/- The law of Applies: the program's Apply, its answer in two new boxes. -/
import Derived.Test.YtignemioillaiaaGreatG44
namespace Go.Proofs.YtignemioillaiaaGreat
set_option maxHeartbeats 8000000
set_option maxRecDepth 100000
section
open Go.RowKit Go.Lib
theorem Ro {w:World} {b o n:Nat} {xs cs:List Value} {t:TypeId} (hW:w.heap[b]? = some (.cells xs.toArray t)) (hcs:(xs.drop o).take n=cs):w.rangeAt b o cs:=by
 intro j v hv;subst hcs;rw [ah hW];rw [List.getElem?_take] at hv;split at hv
 ·simpa using hv
 ·cases hv
theorem BX {w:World} {b base o n:Nat} {xs cs:List Value} (hW:∀ (j:Nat) (u:Value),xs[j]? = some u→w.cell? ⟨b,base+j,none⟩=some u) (hcs:(xs.drop o).take n=cs):w.rangeAt b (base+o) cs:=by
 intro j v hv;subst hcs;rw [List.getElem?_take] at hv;split at hv
 ·rw [Nat.add_assoc];exact hW _ _ (by simpa using hv)
 ·cases hv
theorem uU {P:Program} {op:Oper} {a:Act} {w:World} {K:Act→World→Prop} {Q:Exit→Act→World→Prop} (ty:TypeId) (x y:Operand) (ho:op.op=.store ty x y)
 (hd:op.dst=none) (B o:Nat) (hx:a.eval x=.pointer (some ⟨B,o,none⟩)) (cs:List Value) (hy:a.eval y=.agg cs.toArray) (n:Nat) (hi:(P.info? ty).map (·.size)=some n) (hn:cs.length=n)
 (h1:cs.all (·.oneCell')=true) (xs:List Value) (t:TypeId) (hW:w.heap[B]? = some (.cells xs.toArray t)) (hfit:Nat.ble (o+n) xs.length=true) (ys:List Value) (hys:xs.take o++cs++xs.drop (o+n)=ys)
 (h:∀ w',w'.heap[B]? = some (.cells ys.toArray t)→Only B w w'→K a w'):Oper.wp P op a w K Q:=by
 subst hys;subst hn;unfold Oper.wp execOp;have hr:=CS (P:=P) w B o ty t (.agg cs.toArray) xs.toArray hW (by simpa [Value.cells] using hi) (by simpa [Value.cells] using h1) (by have:=Nat.le_of_ble_eq_true hfit;simpa [Value.cells] using this);simp only [ho,hx,hy,Sem.run_bind,hr,Result.andThen_ok,Sem.run_pure,Oper.upon,hd,Act.put];refine h _ ?_ (Only.setRow w B _);have:=setRow_heap w B xs.toArray (xs.toArray.toList.take o++(Value.agg cs.toArray).cells.toList++xs.toArray.toList.drop (o+(Value.agg cs.toArray).cells.size)).toArray t (0,0) hW;simpa [Value.cells] using this
theorem Un {w:World} {base:Nat} {g n:Int} {vT vM vD vO vI:Value} {T:List Row} {M:List Pc} {D:List ak} {L:List ax} {I:List Int} (h:ShM w base vT vM vD vO vI T M D L I):((rW g n vT vM vD vO vI):List Value).all (·.oneCell')=true:=by
 obtain ⟨_,_,_,rfl⟩:=aB h.oT;obtain ⟨_,_,_,rfl⟩:=aB h.oM;obtain ⟨_,_,_,rfl⟩:=aB h.oD;obtain ⟨_,_,_,rfl⟩:=aB h.oO;obtain ⟨_,_,_,rfl⟩:=aB h.oI;rfl
theorem OY (p:ak):p.cells.all (·.oneCell')=true:=rfl
theorem zT:(Tryz.prog.info? 57).map (·.size)=some 7:=by kernel_rfl
theorem Dy:(Tryz.prog.info? 54).map (·.size)=some 17:=by kernel_rfl
theorem AJ:(Tryz.prog.info? 31).map (·.size)=some 7:=by kernel_rfl
theorem aeP {r c a0 a1 a2 a3 a4 a5 a8 a9 G6 Ko b0 b1 b2 b3:Code} {n0 n1:Nat} (hc:Tryz.f3.body=some (a0.seq (a1.seq (a2.seq (a3.seq (a4.seq (a5.seq ((a8.seq (Code.block n0 (Code.loop (a9.seq ((Code.block n1 (b0.seq (b1.seq (b2.seq (b3.seq (r.seq c)))))).seq G6))))).seq Ko)))))))) {u0 u1 u2 u3 u4 u5 u6 u7 u9 jB jg jh ji jk jl u16 mW nC mE mF mh jC jD jw j6 ig ik iq iw u32 jm jq jr jE jF jG jH jI jJ jK jL jM jN jO jP jQ jR jS jT jU jV jW jX jY kv ky kz kC kD kE kF u64 kG kH kg ko kI kJ kK kL kM kN kP kQ kR lK lL lN lQ lT lU lV lW lX lY lZ l7 l8 l9 mf mg mi mI nE nG nH nI fU fV fZ gm gp gq gu gy gz gB gF gG gH gJ gK gL gM gN gP gQ iA iB iC iD iE iF iG iH iI iJ iK iL iM iN iO iP iQ iR iT iU iV iW iX iY iZ jd je jf kU kV kW kX lg lh ll lu lv lC lD mJ mK mM mO mP mQ mR mU mZ ng ni nu ny wZ xe xh xm xq xu xx vF vH vJ vK vN vQ vS vU vW vX vY vZ wh wm xy xz xA xB xC xE xG xH xJ xK xN xP sQ sU sV sZ tq tu tC tF tH tJ tK tL tN tQ tV tX tY tZ uf ug uh ui uj uk:Value} (w:World) (ga gn gc gi bc:Nat) (g n:Int) (vT vM vD vO vI:Value) (T:List Row) (M:List Pc) (D:List ak) (L:List ax) (I:List Int) (aG:Int) (di dh dw aO dx bK bL:Int) (aH aK aL bu aW:Int) (aQ:Option Addr) (aX aR:Nat) (aS:Option Addr) (aY aU:Nat) (aN bW:Int) (aI:List Row) (aJ:List ak)
 (hA:∀ w',Below w.heap.size w w'→∀ (j:Nat) (u:Value),((rW g n vT vM vD vO vI):List Value)[j]? = some u→w'.cell? ⟨ga,gi*7+j,none⟩=some u) (hgi:gi<gn) (hC:w.heap[bc]? = some (.cells (rC aG di dh dw aO dx bK bL aH aK aL bu aW aQ aX aR aS aY aU aN bW).toArray 54)) (h:ShM w 0 vT vM vD vO vI T M D L I) (hok:ku ⟨g,n,T,M,D,L.map ax.core,I⟩) (hsm:nL 490000 ⟨g,n,T,M,D,L.map ax.core,I⟩) (hr:bQ w.heap.size w ⟨aQ,aX,aR⟩ 2 (aI.map Row.cells)) (hrn:aQ=none→aR=0) (hd:bQ w.heap.size w ⟨aS,aY,aU⟩ 7 (aJ.map ak.cells)) (hdn:aS=none→aU=0) (hl1:aI.length<490000) (hl2:aJ.length<490000) (hwf:(dY.mk aG (bH.mk di dh dw aO dx bK bL) (aF.mk aH aK aL bu aW ⟨aQ,aX,aR⟩ ⟨aS,aY,aU⟩ aI aJ) aN bW).wf)
 (K:Act→World→Prop) (Q0:Exit→Act→World→Prop) (hK:∀ (JG JH JI JJ JK JL DZ D5 D6:Value) (bs br:Nat) (xT xM xD xO xI:Value) (L':List ax) (wx:World),L'.map ax.core=(iy (St.mk g n T M D (L.map ax.core) I) (dY.mk aG (bH.mk di dh dw aO dx bK bL) (aF.mk aH aK aL bu aW ⟨aQ,aX,aR⟩ ⟨aS,aY,aU⟩ aI aJ) aN bW)).1.O→ShM wx w.heap.size xT xM xD xO xI (iy (St.mk g n T M D (L.map ax.core) I) (dY.mk aG (bH.mk di dh dw aO dx bK bL) (aF.mk aH aK aL bu aW ⟨aQ,aX,aR⟩ ⟨aS,aY,aU⟩ aI aJ) aN bW)).1.T (iy (St.mk g n T M D (L.map ax.core) I) (dY.mk aG (bH.mk di dh dw aO dx bK bL) (aF.mk aH aK aL bu aW ⟨aQ,aX,aR⟩ ⟨aS,aY,aU⟩ aI aJ) aN bW)).1.M (iy (St.mk g n T M D (L.map ax.core) I) (dY.mk aG (bH.mk di dh dw aO dx bK bL) (aF.mk aH aK aL bu aW ⟨aQ,aX,aR⟩ ⟨aS,aY,aU⟩ aI aJ) aN bW)).1.D L' (iy (St.mk g n T M D (L.map ax.core) I) (dY.mk aG (bH.mk di dh dw aO dx bK bL) (aF.mk aH aK aL bu aW ⟨aQ,aX,aR⟩ ⟨aS,aY,aU⟩ aI aJ) aN bW)).1.I→(∀ k,qd xT xM xD xO xI L' k→k≠bs∧k≠br)→w.heap.size≤bs→w.heap.size≤br→bs≠br→wx.heap[bs]? = some (.cells (rW g n xT xM xD xO xI).toArray 31)→wx.heap[br]? = some (.cells (iy (St.mk g n T M D (L.map ax.core) I) (dY.mk aG (bH.mk di dh dw aO dx bK bL) (aF.mk aH aK aL bu aW ⟨aQ,aX,aR⟩ ⟨aS,aY,aU⟩ aI aJ) aN bW)).2.cells.toArray 57)→Below w.heap.size w wx→K { tmps:=(List.toArray (α:=Value) (u0::u1::u2::u3::u4::u5::u6::u7::.slice (some ⟨ga,0,none⟩) gn gc::u9::jB::jg::jh::ji::jk::jl::u16::mW::.int .i64 (gi:Int)::.pointer (some ⟨bc,0,none⟩)::.pointer (some ⟨bs,0,none⟩)::.pointer (some ⟨br,0,none⟩)::mF::mh::jC::jD::jw::j6::ig::ik::iq::iw::u32::jm::jq::jr::jE::jF::jG::jH::jI::jJ::jK::jL::jM::jN::jO::jP::jQ::jR::jS::jT::jU::jV::jW::jX::jY::kv::ky::kz::kC::kD::kE::kF::u64::kG::kH::kg::ko::kI::kJ::kK::kL::kM::kN::kP::kQ::kR::lK::lL::lN::lQ::lT::lU::lV::lW::lX::lY::lZ::l7::l8::l9::mf::mg::JG::JH::JI::JJ::JK::JL::DZ::D5::D6::gm::gp::gq::gu::gy::gz::gB::gF::gG::gH::gJ::gK::gL::gM::gN::gP::gQ::iA::iB::iC::iD::iE::iF::iG::iH::iI::iJ::iK::iL::iM::iN::iO::iP::iQ::iR::iT::iU::iV::iW::iX::iY::iZ::jd::je::jf::kU::kV::kW::kX::lg::lh::ll::lu::lv::lC::lD::mJ::mK::mM::mO::mP::mQ::mR::mU::mZ::ng::ni::nu::ny::wZ::xe::xh::xm::xq::xu::xx::vF::vH::vJ::vK::vN::vQ::vS::vU::vW::vX::vY::vZ::wh::wm::xy::xz::xA::xB::xC::xE::xG::xH::xJ::xK::xN::xP::sQ::sU::sV::sZ::tq::tu::tC::tF::tH::tJ::tK::tL::tN::tQ::tV::tX::tY::tZ::uf::ug::uh::ui::uj::uk::[])),defers:=[] } wx) :
 r.wp Tryz.prog (Exit.then K Q0) { tmps:=(List.toArray (α:=Value) (u0::u1::u2::u3::u4::u5::u6::u7::.slice (some ⟨ga,0,none⟩) gn gc::u9::jB::jg::jh::ji::jk::jl::u16::mW::.int .i64 (gi:Int)::.pointer (some ⟨bc,0,none⟩)::nC::mE::mF::mh::jC::jD::jw::j6::ig::ik::iq::iw::u32::jm::jq::jr::jE::jF::jG::jH::jI::jJ::jK::jL::jM::jN::jO::jP::jQ::jR::jS::jT::jU::jV::jW::jX::jY::kv::ky::kz::kC::kD::kE::kF::u64::kG::kH::kg::ko::kI::kJ::kK::kL::kM::kN::kP::kQ::kR::lK::lL::lN::lQ::lT::lU::lV::lW::lX::lY::lZ::l7::l8::l9::mf::mg::mi::mI::nE::nG::nH::nI::fU::fV::fZ::gm::gp::gq::gu::gy::gz::gB::gF::gG::gH::gJ::gK::gL::gM::gN::gP::gQ::iA::iB::iC::iD::iE::iF::iG::iH::iI::iJ::iK::iL::iM::iN::iO::iP::iQ::iR::iT::iU::iV::iW::iX::iY::iZ::jd::je::jf::kU::kV::kW::kX::lg::lh::ll::lu::lv::lC::lD::mJ::mK::mM::mO::mP::mQ::mR::mU::mZ::ng::ni::nu::ny::wZ::xe::xh::xm::xq::xu::xx::vF::vH::vJ::vK::vN::vQ::vS::vU::vW::vX::vY::vZ::wh::wm::xy::xz::xA::xB::xC::xE::xG::xH::xJ::xK::xN::xP::sQ::sU::sV::sZ::tq::tu::tC::tF::tH::tJ::tK::tL::tN::tQ::tV::tX::tY::tZ::uf::ug::uh::ui::uj::uk::[])),defers:=[] } w:=by
 injection hc with k0;injection k0 with e0 k1;clear e0;injection k1 with e1 k2;clear e1;injection k2 with e2 k3;clear e2;injection k3 with e3 k4;clear e3;injection k4 with e4 k5;clear e4;injection k5 with e5 k6;clear e5;injection k6 with k9 e8;injection k9 with e9 k10;injection k10 with en k11;injection k11 with k12;injection k12 with e10 k13;injection k13 with k14 e11;injection k14 with em k15;injection k15 with d0 k16;clear d0;injection k16 with d1 k17;clear d1;injection k17 with d2 k18;clear d2;injection k18 with d3 k19;clear d3;injection k19 with kr kc;subst kr;clear e8 e9 en e10 e11 em kc;have HK:=ae hK;have HA:=ae hA;have HC:=ae hC;have HS:=ae h;have HR:=ae hr;have HD:=ae hd;clear hK hA hC h hr hd;have hi0:(0:Int)≤(gi:Int):=by omega
 have hi1:(gi:Int)<(gn:Int):=by omega
 refine wp_region_noPanic ?_;refine wp_region_held_drew (S:=fun w'=>Below w.heap.size w w') (by kernel_rfl) (Below.refl _ _).drew (fun hHeld=>?_);obtain ⟨w0,hw0⟩:∃ y,y=w.drew:=⟨_,rfl⟩;rw [← hw0] at hHeld ⊢;have HH0:=ae hHeld;clear hw0;refine dC 0 ?_;try simp only [Act.put,dK]
 refine dC 1 ?_;try simp only [Act.put]
 refine dC 2 ?_;try simp only [Act.put]
 refine wpAnyH_take (i:=3) (oi:=_) (v:=_) rfl (by kernel_rfl) (by kernel_rfl) (by kernel_rfl) (fun _ _ _ h=>h) (yieldsIf_load_mid (by rfl) _ _ rfl ga (gi*7) rfl (rW g n vT vM vD vO vI) _ (fun w' hb=>BX (base:=gi*7) (o:=0) (n:=7) (xs:=(rW g n vT vM vD vO vI)) (HA.out _ hb) rfl) fE rfl AJ) (by assumption) ?_;try simp only [Act.put]
 refine wpAnyH_take (i:=4) (oi:=_) (v:=_) rfl (by kernel_rfl) (by kernel_rfl) (by kernel_rfl) (fun _ _ _ h=>h) (yieldsIf_load_mid (by rfl) _ _ rfl bc (0) rfl (rC aG di dh dw aO dx bK bL aH aK aL bu aW aQ aX aR aS aY aU aN bW) _ (fun w' hb=>Ro (n:=17) (af hb HC.out) rfl) Lx rfl Dy) (by assumption) ?_;try simp only [Act.put]
 refine wpAnyH_ready (rs:=[5,9,10]) (by kernel_rfl) (by simp) ?_;refine AllReadyH.cons (o:=_) rfl (fun K hK=>?_) (AllReadyH.cons (o:=_) rfl (fun K hK=>?_) (AllReadyH.cons (o:=_) rfl (fun K hK=>?_) AllReadyH.nil));focus
  go_simp
  go_at_call 12;refine (Ay _ g n vT vM vD vO vI T M D L I aG _ _ _ _ _ _ _ _ _ _ _ _ _ _ _ _ _ _ _ _ aI aJ (HS.out.later hHeld) hok hsm (HR.out.later hHeld) hrn (HD.out.later hHeld) hdn hl1 hl2 hwf).mono ?_
  rintro e w1 ⟨xT,xM,xD,xO,xI,L',rfl,hco,hsh,uO⟩;have o9:=ae hco;have rA:=ae hsh;have rX:=ae uO;clear hco hsh uO;try go_wp2_with fail
  have Kq:=ai hHeld rX.out;refine hK.out _ _ Kq (fun hHeld=>?_);clear hK K Kq;try simp only [Act.put,dK,fF,fG]
  refine dC 6 ?_;try simp only [Act.put,dK]
  refine dC 7 ?_;try simp only [Act.put]
  refine dC 8 ?_;try simp only [Act.put]
  refine wpAnyH_ready (rs:=[9,10]) (by kernel_rfl) (by simp) ?_;refine AllReadyH.cons (o:=_) rfl (fun K hK=>?_) (AllReadyH.cons (o:=_) rfl (fun K hK=>?_) AllReadyH.nil);focus
   go_simp
   refine hK.out _ _ (ai hHeld (aj _ _)) (fun hHeld=>?_);clear hK K;try simp only [Act.put,dK,fF,fG]
   obtain ⟨w2,hy⟩:∃ y,y=w1.alloc (.cells dS.toArray 31):=⟨_,rfl⟩;rw [← hy] at hHeld ⊢;have mr:Hid (w2.heap[w1.heap.size]? = some (.cells dS.toArray 31)):=ae (by rw [hy];exact heap_alloc_new _ _);have HL2:Hid (Below w1.heap.size w1 w2):=ae (by rw [hy];exact aj _ _);obtain ⟨bs,ou⟩:∃ b,w1.heap.size=b:=⟨_,rfl⟩;rw [ou] at mr ⊢;have uC:=ae ou;clear hy ou;refine mo 10 (fun K hK=>?_);focus
    go_simp
    refine hK.out _ _ (ai hHeld (aj _ _)) (fun hHeld=>?_);clear hK K;try simp only [Act.put,dK,fF,fG]
    obtain ⟨w3,hy⟩:∃ y,y=w2.alloc (.cells bA.toArray 57):=⟨_,rfl⟩;rw [← hy] at hHeld ⊢;have mD:Hid (w3.heap[w2.heap.size]? = some (.cells bA.toArray 57)):=ae (by rw [hy];exact heap_alloc_new _ _);have oJ:Hid (Below w2.heap.size w2 w3):=ae (by rw [hy];exact aj _ _);obtain ⟨br,ow⟩:∃ b,w2.heap.size=b:=⟨_,rfl⟩;rw [ow] at mD ⊢;have uE:=ae ow;clear hy ow;have uP:=rX.out.size;have yI:=HL2.out.size;have zO:=oJ.out.size;have rZ:=HH0.out.size;have hbs:=uC.out;have hbr:=uE.out;have qp:=(af oJ.out mr.out);have qA:=mD.out;have ls:=(df mr.out);have lr:=(df mD.out);have hsh:=((rA.out.later HL2.out).later oJ.out);have hft:∀ k,qd xT xM xD xO xI L' k→k≠bs∧k≠br:=fun k hk=>by have h1:=rA.out.lt k hk;omega
    have zo:Hid (ShM w3 w.heap.size xT xM xD xO xI _ _ _ L' _):=ae (hsh.mono (by omega));have GK:=ae hft;have hne:bs≠br:=by omega
    have hsl:w.heap.size≤bs:=by omega
    have hrl:w.heap.size≤br:=by omega
    have uF:=ae qp;have HR3:=ae qA;clear uP yI zO rZ hbs hbr qp qA ls lr hsh hft
  rotate_left 1
  focus
   go_simp
   refine hK.out _ _ (ai hHeld (aj _ _)) (fun hHeld=>?_);clear hK K;try simp only [Act.put,dK,fF,fG]
   obtain ⟨w2,hy⟩:∃ y,y=w1.alloc (.cells bA.toArray 57):=⟨_,rfl⟩;rw [← hy] at hHeld ⊢;have mD:Hid (w2.heap[w1.heap.size]? = some (.cells bA.toArray 57)):=ae (by rw [hy];exact heap_alloc_new _ _);have HL2:Hid (Below w1.heap.size w1 w2):=ae (by rw [hy];exact aj _ _);obtain ⟨br,ow⟩:∃ b,w1.heap.size=b:=⟨_,rfl⟩;rw [ow] at mD ⊢;have uE:=ae ow;clear hy ow;refine mo 9 (fun K hK=>?_);focus
    go_simp
    refine hK.out _ _ (ai hHeld (aj _ _)) (fun hHeld=>?_);clear hK K;try simp only [Act.put,dK,fF,fG]
    obtain ⟨w3,hy⟩:∃ y,y=w2.alloc (.cells dS.toArray 31):=⟨_,rfl⟩;rw [← hy] at hHeld ⊢;have mr:Hid (w3.heap[w2.heap.size]? = some (.cells dS.toArray 31)):=ae (by rw [hy];exact heap_alloc_new _ _);have oJ:Hid (Below w2.heap.size w2 w3):=ae (by rw [hy];exact aj _ _);obtain ⟨bs,ou⟩:∃ b,w2.heap.size=b:=⟨_,rfl⟩;rw [ou] at mr ⊢;have uC:=ae ou;clear hy ou;have uP:=rX.out.size;have yI:=HL2.out.size;have zO:=oJ.out.size;have rZ:=HH0.out.size;have hbs:=uC.out;have hbr:=uE.out;have qp:=mr.out;have qA:=(af oJ.out mD.out);have ls:=(df mr.out);have lr:=(df mD.out);have hsh:=((rA.out.later HL2.out).later oJ.out);have hft:∀ k,qd xT xM xD xO xI L' k→k≠bs∧k≠br:=fun k hk=>by have h1:=rA.out.lt k hk;omega
    have zo:Hid (ShM w3 w.heap.size xT xM xD xO xI _ _ _ L' _):=ae (hsh.mono (by omega));have GK:=ae hft;have hne:bs≠br:=by omega
    have hsl:w.heap.size≤bs:=by omega
    have hrl:w.heap.size≤br:=by omega
    have uF:=ae qp;have HR3:=ae qA;clear uP yI zO rZ hbs hbr qp qA ls lr hsh hft
  rotate_left 1
 rotate_left 2
 focus
  go_simp
  refine hK.out _ _ (ai hHeld (aj _ _)) (fun hHeld=>?_);clear hK K;try simp only [Act.put,dK,fF,fG]
  obtain ⟨w1,hy⟩:∃ y,y=w0.alloc (.cells dS.toArray 31):=⟨_,rfl⟩;rw [← hy] at hHeld ⊢;have mr:Hid (w1.heap[w0.heap.size]? = some (.cells dS.toArray 31)):=ae (by rw [hy];exact heap_alloc_new _ _);have rX:Hid (Below w0.heap.size w0 w1):=ae (by rw [hy];exact aj _ _);obtain ⟨bs,ou⟩:∃ b,w0.heap.size=b:=⟨_,rfl⟩;rw [ou] at mr ⊢;have uC:=ae ou;clear hy ou;refine wpAnyH_ready (rs:=[5,10]) (by kernel_rfl) (by simp) ?_;refine AllReadyH.cons (o:=_) rfl (fun K hK=>?_) (AllReadyH.cons (o:=_) rfl (fun K hK=>?_) AllReadyH.nil);focus
   go_simp
   go_at_call 12;refine (Ay _ g n vT vM vD vO vI T M D L I aG _ _ _ _ _ _ _ _ _ _ _ _ _ _ _ _ _ _ _ _ aI aJ (HS.out.later hHeld) hok hsm (HR.out.later hHeld) hrn (HD.out.later hHeld) hdn hl1 hl2 hwf).mono ?_
   rintro e w2 ⟨xT,xM,xD,xO,xI,L',rfl,hco,hsh,uO⟩;have o9:=ae hco;have rA:=ae hsh;have HL2:=ae uO;clear hco hsh uO;try go_wp2_with fail
   have Kr:=ai hHeld HL2.out;refine hK.out _ _ Kr (fun hHeld=>?_);clear hK K Kr;try simp only [Act.put,dK,fF,fG]
   refine dC 6 ?_;try simp only [Act.put,dK]
   refine dC 7 ?_;try simp only [Act.put]
   refine dC 8 ?_;try simp only [Act.put]
   refine mo 10 (fun K hK=>?_);focus
    go_simp
    refine hK.out _ _ (ai hHeld (aj _ _)) (fun hHeld=>?_);clear hK K;try simp only [Act.put,dK,fF,fG]
    obtain ⟨w3,hy⟩:∃ y,y=w2.alloc (.cells bA.toArray 57):=⟨_,rfl⟩;rw [← hy] at hHeld ⊢;have mD:Hid (w3.heap[w2.heap.size]? = some (.cells bA.toArray 57)):=ae (by rw [hy];exact heap_alloc_new _ _);have oJ:Hid (Below w2.heap.size w2 w3):=ae (by rw [hy];exact aj _ _);obtain ⟨br,ow⟩:∃ b,w2.heap.size=b:=⟨_,rfl⟩;rw [ow] at mD ⊢;have uE:=ae ow;clear hy ow;have uP:=rX.out.size;have yI:=HL2.out.size;have zO:=oJ.out.size;have rZ:=HH0.out.size;have hbs:=uC.out;have hbr:=uE.out;have qp:=(af oJ.out (af HL2.out mr.out));have qA:=mD.out;have ls:=(df mr.out);have lr:=(df mD.out);have hsh:=(rA.out.later oJ.out);have hft:∀ k,qd xT xM xD xO xI L' k→k≠bs∧k≠br:=fun k hk=>by have h1:=rA.out.lt k hk;omega
    have zo:Hid (ShM w3 w.heap.size xT xM xD xO xI _ _ _ L' _):=ae (hsh.mono (by omega));have GK:=ae hft;have hne:bs≠br:=by omega
    have hsl:w.heap.size≤bs:=by omega
    have hrl:w.heap.size≤br:=by omega
    have uF:=ae qp;have HR3:=ae qA;clear uP yI zO rZ hbs hbr qp qA ls lr hsh hft
  rotate_left 1
  focus
   go_simp
   refine hK.out _ _ (ai hHeld (aj _ _)) (fun hHeld=>?_);clear hK K;try simp only [Act.put,dK,fF,fG]
   obtain ⟨w2,hy⟩:∃ y,y=w1.alloc (.cells bA.toArray 57):=⟨_,rfl⟩;rw [← hy] at hHeld ⊢;have mD:Hid (w2.heap[w1.heap.size]? = some (.cells bA.toArray 57)):=ae (by rw [hy];exact heap_alloc_new _ _);have HL2:Hid (Below w1.heap.size w1 w2):=ae (by rw [hy];exact aj _ _);obtain ⟨br,ow⟩:∃ b,w1.heap.size=b:=⟨_,rfl⟩;rw [ow] at mD ⊢;have uE:=ae ow;clear hy ow;refine mo 5 (fun K hK=>?_);focus
    go_simp
    go_at_call 12;refine (Ay _ g n vT vM vD vO vI T M D L I aG _ _ _ _ _ _ _ _ _ _ _ _ _ _ _ _ _ _ _ _ aI aJ (HS.out.later hHeld) hok hsm (HR.out.later hHeld) hrn (HD.out.later hHeld) hdn hl1 hl2 hwf).mono ?_
    rintro e w3 ⟨xT,xM,xD,xO,xI,L',rfl,hco,hsh,uO⟩;have o9:=ae hco;have rA:=ae hsh;have oJ:=ae uO;clear hco hsh uO;try go_wp2_with fail
    have hh3:=ai hHeld oJ.out;refine hK.out _ _ hh3 (fun hHeld=>?_);clear hK K hh3;try simp only [Act.put,dK,fF,fG]
    refine dC 6 ?_;try simp only [Act.put,dK]
    refine dC 7 ?_;try simp only [Act.put]
    refine dC 8 ?_;try simp only [Act.put]
    go_simp
    have uP:=rX.out.size;have yI:=HL2.out.size;have zO:=oJ.out.size;have rZ:=HH0.out.size;have hbs:=uC.out;have hbr:=uE.out;have qp:=(af oJ.out (af HL2.out mr.out));have qA:=(af oJ.out mD.out);have ls:=(df mr.out);have lr:=(df mD.out);have hsh:=rA.out;have hft:∀ k,qd xT xM xD xO xI L' k→k≠bs∧k≠br:=fun k hk=>by have h1:=rA.out.lt k hk;omega
    have zo:Hid (ShM w3 w.heap.size xT xM xD xO xI _ _ _ L' _):=ae (hsh.mono (by omega));have GK:=ae hft;have hne:bs≠br:=by omega
    have hsl:w.heap.size≤bs:=by omega
    have hrl:w.heap.size≤br:=by omega
    have uF:=ae qp;have HR3:=ae qA;clear uP yI zO rZ hbs hbr qp qA ls lr hsh hft
  rotate_left 1
 rotate_left 2
 focus
  go_simp
  refine hK.out _ _ (ai hHeld (aj _ _)) (fun hHeld=>?_);clear hK K;try simp only [Act.put,dK,fF,fG]
  obtain ⟨w1,hy⟩:∃ y,y=w0.alloc (.cells bA.toArray 57):=⟨_,rfl⟩;rw [← hy] at hHeld ⊢;have mD:Hid (w1.heap[w0.heap.size]? = some (.cells bA.toArray 57)):=ae (by rw [hy];exact heap_alloc_new _ _);have rX:Hid (Below w0.heap.size w0 w1):=ae (by rw [hy];exact aj _ _);obtain ⟨br,ow⟩:∃ b,w0.heap.size=b:=⟨_,rfl⟩;rw [ow] at mD ⊢;have uE:=ae ow;clear hy ow;refine wpAnyH_ready (rs:=[5,9]) (by kernel_rfl) (by simp) ?_;refine AllReadyH.cons (o:=_) rfl (fun K hK=>?_) (AllReadyH.cons (o:=_) rfl (fun K hK=>?_) AllReadyH.nil);focus
   go_simp
   go_at_call 12;refine (Ay _ g n vT vM vD vO vI T M D L I aG _ _ _ _ _ _ _ _ _ _ _ _ _ _ _ _ _ _ _ _ aI aJ (HS.out.later hHeld) hok hsm (HR.out.later hHeld) hrn (HD.out.later hHeld) hdn hl1 hl2 hwf).mono ?_
   rintro e w2 ⟨xT,xM,xD,xO,xI,L',rfl,hco,hsh,uO⟩;have o9:=ae hco;have rA:=ae hsh;have HL2:=ae uO;clear hco hsh uO;try go_wp2_with fail
   have Kr:=ai hHeld HL2.out;refine hK.out _ _ Kr (fun hHeld=>?_);clear hK K Kr;try simp only [Act.put,dK,fF,fG]
   refine dC 6 ?_;try simp only [Act.put,dK]
   refine dC 7 ?_;try simp only [Act.put]
   refine dC 8 ?_;try simp only [Act.put]
   refine mo 9 (fun K hK=>?_);focus
    go_simp
    refine hK.out _ _ (ai hHeld (aj _ _)) (fun hHeld=>?_);clear hK K;try simp only [Act.put,dK,fF,fG]
    obtain ⟨w3,hy⟩:∃ y,y=w2.alloc (.cells dS.toArray 31):=⟨_,rfl⟩;rw [← hy] at hHeld ⊢;have mr:Hid (w3.heap[w2.heap.size]? = some (.cells dS.toArray 31)):=ae (by rw [hy];exact heap_alloc_new _ _);have oJ:Hid (Below w2.heap.size w2 w3):=ae (by rw [hy];exact aj _ _);obtain ⟨bs,ou⟩:∃ b,w2.heap.size=b:=⟨_,rfl⟩;rw [ou] at mr ⊢;have uC:=ae ou;clear hy ou;have uP:=rX.out.size;have yI:=HL2.out.size;have zO:=oJ.out.size;have rZ:=HH0.out.size;have hbs:=uC.out;have hbr:=uE.out;have qp:=mr.out;have qA:=(af oJ.out (af HL2.out mD.out));have ls:=(df mr.out);have lr:=(df mD.out);have hsh:=(rA.out.later oJ.out);have hft:∀ k,qd xT xM xD xO xI L' k→k≠bs∧k≠br:=fun k hk=>by have h1:=rA.out.lt k hk;omega
    have zo:Hid (ShM w3 w.heap.size xT xM xD xO xI _ _ _ L' _):=ae (hsh.mono (by omega));have GK:=ae hft;have hne:bs≠br:=by omega
    have hsl:w.heap.size≤bs:=by omega
    have hrl:w.heap.size≤br:=by omega
    have uF:=ae qp;have HR3:=ae qA;clear uP yI zO rZ hbs hbr qp qA ls lr hsh hft
  rotate_left 1
  focus
   go_simp
   refine hK.out _ _ (ai hHeld (aj _ _)) (fun hHeld=>?_);clear hK K;try simp only [Act.put,dK,fF,fG]
   obtain ⟨w2,hy⟩:∃ y,y=w1.alloc (.cells dS.toArray 31):=⟨_,rfl⟩;rw [← hy] at hHeld ⊢;have mr:Hid (w2.heap[w1.heap.size]? = some (.cells dS.toArray 31)):=ae (by rw [hy];exact heap_alloc_new _ _);have HL2:Hid (Below w1.heap.size w1 w2):=ae (by rw [hy];exact aj _ _);obtain ⟨bs,ou⟩:∃ b,w1.heap.size=b:=⟨_,rfl⟩;rw [ou] at mr ⊢;have uC:=ae ou;clear hy ou;refine mo 5 (fun K hK=>?_);focus
    go_simp
    go_at_call 12;refine (Ay _ g n vT vM vD vO vI T M D L I aG _ _ _ _ _ _ _ _ _ _ _ _ _ _ _ _ _ _ _ _ aI aJ (HS.out.later hHeld) hok hsm (HR.out.later hHeld) hrn (HD.out.later hHeld) hdn hl1 hl2 hwf).mono ?_
    rintro e w3 ⟨xT,xM,xD,xO,xI,L',rfl,hco,hsh,uO⟩;have o9:=ae hco;have rA:=ae hsh;have oJ:=ae uO;clear hco hsh uO;try go_wp2_with fail
    have hh3:=ai hHeld oJ.out;refine hK.out _ _ hh3 (fun hHeld=>?_);clear hK K hh3;try simp only [Act.put,dK,fF,fG]
    refine dC 6 ?_;try simp only [Act.put,dK]
    refine dC 7 ?_;try simp only [Act.put]
    refine dC 8 ?_;try simp only [Act.put]
    go_simp
    have uP:=rX.out.size;have yI:=HL2.out.size;have zO:=oJ.out.size;have rZ:=HH0.out.size;have hbs:=uC.out;have hbr:=uE.out;have qp:=(af oJ.out mr.out);have qA:=(af oJ.out (af HL2.out mD.out));have ls:=(df mr.out);have lr:=(df mD.out);have hsh:=rA.out;have hft:∀ k,qd xT xM xD xO xI L' k→k≠bs∧k≠br:=fun k hk=>by have h1:=rA.out.lt k hk;omega
    have zo:Hid (ShM w3 w.heap.size xT xM xD xO xI _ _ _ L' _):=ae (hsh.mono (by omega));have GK:=ae hft;have hne:bs≠br:=by omega
    have hsl:w.heap.size≤bs:=by omega
    have hrl:w.heap.size≤br:=by omega
    have uF:=ae qp;have HR3:=ae qA;clear uP yI zO rZ hbs hbr qp qA ls lr hsh hft
  rotate_left 1
 rotate_left 2
 all_goals
  refine mo 11 (fun K hK=>?_);rw [if_pos (by rfl)];refine uU _ _ _ rfl rfl bs 0 rfl (rW g n xT xM xD xO xI) rfl 7 AJ rfl (Un zo.out) _ _ uF.out rfl (rW g n xT xM xD xO xI) rfl ?_;intro x1 hx1 ho1;have hh:=hHeld.trans (ho1.below hsl);refine hK.out _ _ hh (fun hHeld=>?_);clear hK K hh;try simp only [Act.put,dK,fF,fG]
  refine mo 12 (fun K hK=>?_);rw [if_pos (by rfl)];refine uU _ _ _ rfl rfl br 0 rfl (iy (St.mk g n T M D (L.map ax.core) I) (dY.mk aG (bH.mk di dh dw aO dx bK bL) (aF.mk aH aK aL bu aW ⟨aQ,aX,aR⟩ ⟨aS,aY,aU⟩ aI aJ) aN bW)).2.cells rfl 7 zT rfl (OY _) _ _ ((ho1.block br (Ne.symm hne)).trans HR3.out) rfl (iy (St.mk g n T M D (L.map ax.core) I) (dY.mk aG (bH.mk di dh dw aO dx bK bL) (aF.mk aH aK aL bu aW ⟨aQ,aX,aR⟩ ⟨aS,aY,aU⟩ aI aJ) aN bW)).2.cells rfl ?_;intro x2 hx2 ho2;have hh:=hHeld.trans (ho2.below hrl);refine hK.out _ _ hh (fun _=>?_);clear hK K;try simp only [Act.put,dK,fF,fG]
  refine wpAnyH_done (by kernel_rfl) ?_ _;refine NoPanic.normal ?_;go_wp2_with fail
  exact HK.out _ _ _ _ _ _ _ _ _ bs br xT xM xD xO xI L' x2 o9.out (ShM.dX (A:=fun k=>k=bs∨k=br) zo.out ((av.only ho1 (.inl rfl)).trans (av.only ho2 (.inr rfl))) (fun k hk e=>by have:=GK.out k hk;omega)) GK.out hsl hrl hne ((ho2.block bs hne).trans hx1) hx2 hh
end
end Go.Proofs.YtignemioillaiaaGreat
