/- The law of Applies: a group more in both lists, by two appends. -/
import Derived.Test.YtignemioillaiaaGreatG51
import Derived.Deep.CondSized
namespace Go.Proofs.YtignemioillaiaaGreat
set_option maxHeartbeats 8000000
set_option maxRecDepth 100000
section
open Go.RowKit Go.Lib
section
variable {P:Nat→Prop} {B0:Nat} {w w1 w2 w3 w4:World} {va vb Fw Lr:Value} {G:List fA}
theorem wY.afw {x:fA} (h:wY P B0 w va vb G) (hx:qQ P w 1 (fun _=>[]) x) (hd:∀ y∈G,∀ k,x.foot k→¬ y.foot k) (hB:B0≤w.heap.size) (b1:Below w.heap.size w w1) (g1:fC w1 va w2 Fw) (o1:w2.ownsRow B0 31 7 Fw (G.length+1) ((G.map fA.ac).flatten++x.ac)) (b2:Below w2.heap.size w2 w3) (g2:fC w3 vb w4 Lr) (o2:w4.ownsRow B0 31 7 Lr (G.length+1) ((G.map fA.bc).flatten++x.bc)):wY (p9 P w w4) B0 w4 Fw Lr (G++[x])∧Below B0 w w4:=by
 have s1:=b1.size;have s2:=g1.grown.size;have s3:=b2.size;have hc:av (fun k=>some k=va.ownBlock∨some k=vb.ownBlock) w w4:=(((av.later b1).trans (g1.dX.mono (fun k _ e=>.inl e.symm))).trans (av.later b2)).trans (g2.dX.mono (fun k _ e=>.inr e.symm));have hne:∀ k,Fw.ownBlock=some k→vb.ownBlock≠some k:=by
  intro k hk e;have hl:=(h.ob.lt k e).2;rcases g1.own with ho | ho
  ·rcases h.ab with e1 | e1
   ·rw [ho,e1] at hk;cases hk
   ·exact e1 (by rw [← ho,hk,e])
  ·have:=ho k hk;omega
 have hne':Fw.ownBlock=none∨Fw.ownBlock≠vb.ownBlock:=by
  cases hk:Fw.ownBlock with
  | none=>exact .inl rfl
  | some k=>exact .inr (fun e=>hne k hk e.symm)
 have ha:w4.ownsRow B0 31 7 Fw (G.length+1) ((G++[x]).map fA.ac).flatten:=by
  have:=(ay o1 b2).kept g2.grown hne';simpa using this
 have hb:w4.ownsRow B0 31 7 Lr (G.length+1) ((G++[x]).map fA.bc).flatten:=by simpa using o2
 have hab:gV Fw Lr:=by
  cases hk:Fw.ownBlock with
  | none=>exact .inl hk
  | some k =>
   refine .inr (fun e=>?_);rcases g2.own with ho | ho
   ·exact hne k hk (by rw [← ho,← e,hk])
   ·have h1:=ho k (by rw [← e,hk])
    have h2:=(o1.lt k hk).2;omega
 refine ⟨h.push hx hd hc hB ha hb hab (fun k hk=>?_) (fun k hk=>?_),hc.below (fun k hk=>⟨by omega,fun e=>?_⟩)⟩
 ·rcases g1.own with ho | ho
  ·exact .inl (by rw [← hk,ho])
  ·have:=ho k hk;exact .inr (by omega)
 ·rcases g2.own with ho | ho
  ·exact .inl (by rw [← hk,ho])
  ·have:=ho k hk;exact .inr (by omega)
 ·rcases e with e | e
  ·have:=(h.oa.lt k e.symm).1;omega
  ·have:=(h.ob.lt k e.symm).1;omega
theorem qQ.new {W g m:Nat} {vT vM vD vO vI:Value} {sT sM sD sO sI:Sl} (ha:ShM w W vT vM vD vO vI [] [⟨0,0⟩] [] (List.replicate m yH) (List.replicate m 0)) (hb:ry P w sT sM sD sO sI [] [⟨0,0⟩] [] (List.replicate m yH) (List.replicate m 0)) (hg:g<m) (hm:m≤4) (hP:∀ k,qd vT vM vD vO vI (List.replicate m yH) k→P k):qQ P w 1 (fun _=>[]) ⟨vT,vM,vD,vO,vI,sT,sM,sD,sO,sI,List.replicate m yH,List.replicate m yH,st0 g m⟩ :=
 ⟨ha.mono (Nat.zero_le _),hb,rfl,rfl,aeJ hg hm,afs,aeK,⟨dH.nil _,dH.nil _,dH.nil _,dH.nil _,dH.nil _,fun _ _=>dH.nil _,fun _ _ _ _=>dH.nil _,fun _ _ _ _=>dH.nil _⟩,hP⟩
theorem gV.back {x y:Value} (h:gV x y):y.ownBlock=none∨y.ownBlock≠x.ownBlock:=by
 cases hy:y.ownBlock with
 | none=>exact .inl rfl
 | some k =>
  refine .inr (fun e=>?_);rcases h with h | h
  ·rw [h] at e;cases e
  ·exact h (by rw [hy,e])
theorem aci (h:wY P B0 w va vb G) (hs:w.heap.size≤w1.heap.size):∀ k,w1.heap.size≤k→¬ p9 P w w1 k:=by
 rintro k hk (e | e)
 ·have:=(h.lt k e).2;omega
 ·omega
end
theorem aas:(Tryz.prog.info? 31).map (fun i=>(i.zero,i.size,i.bytes))=some (some (.agg dS.toArray),7,128):=by kernel_rfl
theorem YQ {c d a0 a1 a2 a3:Code} (hc:Tryz.f3.body=some (a0.seq (a1.seq (a2.seq (a3.seq (c.seq d)))))) {u0 u1 u2 u3 u4 u5 u6 jB jg jh ji jk jl u16 mW oz lJ nC mE mF mh jC jD jw j6 ig ik iq iw u32 jm jq jr jE jF jG jH jI jJ jK jL jM jN jO jP jQ jR jS jT jU jV jW jX jY kv ky kz kC kD kE kF u64 kG kH kg ko kI kJ kK kL kM kN kP kQ kR lK lL lN lQ lT lU lV lW lX lY lZ l7 l8 l9 mf mg mi mI nE nG nH nI fU fV fZ gm gp gq gu gy gz gB gF gG gH gJ gK gL gM gN gP gQ iA iB iC iD iE iF iG iH iI iJ iK iL iM iN iO iP iQ iR iT iU iV iW iX iY iZ jd je jf kU kV kW kX lg lh ll lu lv lC lD mJ mK mM mO mP mQ mR mU mZ ng ni nu ny wZ xe xh xm xq xu xx vF vH vJ vK vN vQ vS vU vW vX vY vZ wh wm xy xz xA xB xC xE xG xH xJ xK xN xP sQ sU sV sZ tq tu tC tF tH tJ tK tL tN tQ tV tX tY tZ uf ug uh ui uj uk:Value} (bn:Nat) (w:World) (hb0:0<bn) (hb4:bn≤4)
 (KK:Act→World→Prop) (Q0:Exit→Act→World→Prop) (hK:∀ (v6 PK PL PM PN PO PQ PY PZ P6 P7 P8 Qa Qb Qc Qd Qe Qf Qg Qh Qi Qj Qk Ql Qm Qn Qo Qp Qq Qr Qs Qt Qu Qv Qw Qx Qy Qz QA QB QC:Value) (ga ac gb bc:Nat) (P:Nat→Prop) (G:List fA) (w':World),G.length=bn→wY P w.heap.size w' (.slice (some ⟨ga,0,none⟩) bn ac) (.slice (some ⟨gb,0,none⟩) bn bc) G→Below w.heap.size w w'→KK { tmps:=(List.toArray (α:=Value) (u0::u1::u2::u3::u4::u5::v6::.int .i64 (bn:Int)::.slice (some ⟨ga,0,none⟩) bn ac::.slice (some ⟨gb,0,none⟩) bn bc::PK::PL::PM::PN::PO::PQ::u16::mW::oz::lJ::nC::mE::mF::mh::jC::jD::jw::j6::ig::ik::iq::iw::u32::PY::PZ::P6::P7::P8::Qa::Qb::Qc::Qd::Qe::Qf::Qg::Qh::Qi::Qj::Qk::Ql::Qm::Qn::Qo::Qp::Qq::Qr::Qs::Qt::Qu::Qv::Qw::Qx::Qy::Qz::QA::QB::QC::kg::ko::kI::kJ::kK::kL::kM::kN::kP::kQ::kR::lK::lL::lN::lQ::lT::lU::lV::lW::lX::lY::lZ::l7::l8::l9::mf::mg::mi::mI::nE::nG::nH::nI::fU::fV::fZ::gm::gp::gq::gu::gy::gz::gB::gF::gG::gH::gJ::gK::gL::gM::gN::gP::gQ::iA::iB::iC::iD::iE::iF::iG::iH::iI::iJ::iK::iL::iM::iN::iO::iP::iQ::iR::iT::iU::iV::iW::iX::iY::iZ::jd::je::jf::kU::kV::kW::kX::lg::lh::ll::lu::lv::lC::lD::mJ::mK::mM::mO::mP::mQ::mR::mU::mZ::ng::ni::nu::ny::wZ::xe::xh::xm::xq::xu::xx::vF::vH::vJ::vK::vN::vQ::vS::vU::vW::vX::vY::vZ::wh::wm::xy::xz::xA::xB::xC::xE::xG::xH::xJ::xK::xN::xP::sQ::sU::sV::sZ::tq::tu::tC::tF::tH::tJ::tK::tL::tN::tQ::tV::tX::tY::tZ::uf::ug::uh::ui::uj::uk::[])),defers:=[] } w') :
 c.wp Tryz.prog (Exit.then KK Q0) { tmps:=(List.toArray (α:=Value) (u0::u1::u2::u3::u4::u5::u6::.int .i64 (bn:Int)::.slice none 0 0::.slice none 0 0::jB::jg::jh::ji::jk::jl::u16::mW::oz::lJ::nC::mE::mF::mh::jC::jD::jw::j6::ig::ik::iq::iw::u32::jm::jq::jr::jE::jF::jG::jH::jI::jJ::jK::jL::jM::jN::jO::jP::jQ::jR::jS::jT::jU::jV::jW::jX::jY::kv::ky::kz::kC::kD::kE::kF::u64::kG::kH::kg::ko::kI::kJ::kK::kL::kM::kN::kP::kQ::kR::lK::lL::lN::lQ::lT::lU::lV::lW::lX::lY::lZ::l7::l8::l9::mf::mg::mi::mI::nE::nG::nH::nI::fU::fV::fZ::gm::gp::gq::gu::gy::gz::gB::gF::gG::gH::gJ::gK::gL::gM::gN::gP::gQ::iA::iB::iC::iD::iE::iF::iG::iH::iI::iJ::iK::iL::iM::iN::iO::iP::iQ::iR::iT::iU::iV::iW::iX::iY::iZ::jd::je::jf::kU::kV::kW::kX::lg::lh::ll::lu::lv::lC::lD::mJ::mK::mM::mO::mP::mQ::mR::mU::mZ::ng::ni::nu::ny::wZ::xe::xh::xm::xq::xu::xx::vF::vH::vJ::vK::vN::vQ::vS::vU::vW::vX::vY::vZ::wh::wm::xy::xz::xA::xB::xC::xE::xG::xH::xJ::xK::xN::xP::sQ::sU::sV::sZ::tq::tu::tC::tF::tH::tJ::tK::tL::tN::tQ::tV::tX::tY::tZ::uf::ug::uh::ui::uj::uk::[])),defers:=[] } w:=by
 injection hc with k0;injection k0 with e0 k1;clear e0;injection k1 with e1 k2;clear e1;injection k2 with e2 k3;clear e2;injection k3 with e3 k4;clear e3;injection k4 with e4 k5;subst e4;clear k5;have HK:=ae hK;clear hK;go_wp2_with fail
 go_loopw [8,9,10] (fun a b i wr=>∃ (k:Nat) (aa:Option Addr) (ac:Nat) (ba:Option Addr) (bc:Nat),k≤bn∧a=.slice aa k ac∧b=.slice ba k bc∧i=.int .i64 k∧Hid (Below w.heap.size w wr∧∃ (P:Nat→Prop) (G:List fA),G.length=k∧wY P w.heap.size wr (.slice aa k ac) (.slice ba k bc) G)) (fun _ _ i _=>bn - (intOf i).toNat)
 case atStart=>exact ⟨0,none,0,none,0,Nat.zero_le _,rfl,rfl,rfl,Below.refl _ _,_,[],rfl,wY.nil w⟩
 case round =>
  obtain ⟨i,aa,ac,ba,bc,hi,rfl,rfl,rfl,HI⟩:=hrel;obtain ⟨hbl,P,G,hgn,hl⟩:=HI.out;have HB0:=ae hbl;have HL:=ae hl;have zV:=ae hgn;clear hbl hl hgn HI;by_cases hlk:i<bn
  case neg =>
   have Ad:decide ((i:Int)<(bn:Int))=false:=by simp;omega
   go_wp2_with fail
   have hib:i=bn:=by omega
   subst hib;obtain ⟨ga,ca,aal,hva,-⟩:=kS HL.out.oa (by rw [zV.out];exact hb0);simp only [Value.slice.injEq] at hva;obtain ⟨rfl,-,rfl⟩:=hva;obtain ⟨gb,cb,aam,hvb,-⟩:=kS HL.out.ob (by rw [zV.out];exact hb0);simp only [Value.slice.injEq] at hvb;obtain ⟨rfl,-,rfl⟩:=hvb;exact HK.out _ _ _ _ _ _ _ _ _ _ _ _ _ _ _ _ _ _ _ _ _ _ _ _ _ _ _ _ _ _ _ _ _ _ _ _ _ _ _ _ _ ga _ gb _ P G wr zV.out HL.out HB0.out
  case pos =>
   have Ad:decide ((i:Int)<(bn:Int))=true:=by simp;omega
   go_upto_region 8 with (first | (go_at_call 8;go_must (refine (YF i bn _ hlk hb4).mono ?_;rintro e w1 ⟨vT,vM,vD,vO,vI,rfl,hsh,hb1⟩;obtain ⟨ta,tn,tc,rfl⟩:=aB hsh.oT;obtain ⟨ma,mn,mc,rfl⟩:=aB hsh.oM;obtain ⟨da,dn,dc,rfl⟩:=aB hsh.oD;obtain ⟨oa,on,oc,rfl⟩:=aB hsh.oO;obtain ⟨ia,il,ic,rfl⟩:=aB hsh.oI;have rA:=ae hsh;have HB1:=ae hb1;clear hsh hb1)))
   obtain ⟨y1,hy1⟩:∃ y,y=w1.alloc (.cells (rS (i:Int) (bn:Int) ta tn tc ma mn mc da dn dc oa on oc ia il ic).toArray 31):=⟨_,rfl⟩;have uH:Hid (y1.heap[w1.heap.size]? = some (.cells (rS (i:Int) (bn:Int) ta tn tc ma mn mc da dn dc oa on oc ia il ic).toArray 31)):=ae (by rw [hy1];exact heap_alloc_new _ _);have rX:Hid (Below w1.heap.size w1 y1):=ae (by rw [hy1];exact aj _ _);rw [← hy1];clear hy1;have HP1:=ae (aci HL.out (w1:=y1) (Nat.le_trans HB1.out.size rX.out.size));go_upto_region 9 with (first | (go_at_call 9;go_must (refine (Rw (p9 P wr y1) i bn _ hlk hb4 HP1.out).mono ?_;rintro e w2 ⟨⟨wH,wJ,wK⟩,⟨xV,xW,xX⟩,⟨sw,sF,sG⟩,⟨xY,yN,wL⟩,⟨xZ,yO,yF⟩,rfl,hrd,hb2⟩;dsimp only [Sl.val];have vk:=ae hrd;have HB2:=ae hb2;clear hrd hb2)))
   obtain ⟨y2,hy2⟩:∃ y,y=w2.alloc (.cells (rS (i:Int) (bn:Int) wH wJ wK xV xW xX sw sF sG xY yN wL xZ yO yF).toArray 31):=⟨_,rfl⟩;have HS2:Hid (y2.heap[w2.heap.size]? = some (.cells (rS (i:Int) (bn:Int) wH wJ wK xV xW xX sw sF sG xY yN wL xZ yO yF).toArray 31)):=ae (by rw [hy2];exact heap_alloc_new _ _);have HL2:Hid (Below w2.heap.size w2 y2):=ae (by rw [hy2];exact aj _ _);rw [← hy2];clear hy2;have JA:=ae (af (ai HB2.out HL2.out) uH.out);have bV:Hid (Below wr.heap.size wr y1):=ae (ai HB1.out rX.out);have HBq:Hid (Below y1.heap.size y1 y2):=ae (ai HB2.out HL2.out);have YP:=ae ((HL.out.grow bV.out HB0.out.size).later HBq.out);have HGX:Hid (qQ (p9 P wr y1) y2 1 (fun _=>[]) (fA.mk (.slice ta tn tc) (.slice ma mn mc) (.slice da dn dc) (.slice oa on oc) (.slice ia il ic) ⟨wH,wJ,wK⟩ ⟨xV,xW,xX⟩ ⟨sw,sF,sG⟩ ⟨xY,yN,wL⟩ ⟨xZ,yO,yF⟩ (List.replicate bn yH) (List.replicate bn yH) (st0 i bn))):=ae (qQ.new (rA.out.later (ai rX.out HBq.out)) (vk.out.later HL2.out) hlk hb4 (fun k hk=>.inr ⟨(rA.out.lt k hk).1,Nat.lt_of_lt_of_le (rA.out.lt k hk).2 rX.out.size⟩));have HDJ:Hid (∀ y∈G,∀ k,fA.foot (fA.mk (.slice ta tn tc) (.slice ma mn mc) (.slice da dn dc) (.slice oa on oc) (.slice ia il ic) ⟨wH,wJ,wK⟩ ⟨xV,xW,xX⟩ ⟨sw,sF,sG⟩ ⟨xY,yN,wL⟩ ⟨xZ,yO,yF⟩ (List.replicate bn yH) (List.replicate bn yH) (st0 i bn)) k→¬ y.foot k):=ae (fun y hy k hk hk'=>by have h1:=(rA.out.lt k hk).1;have h2:=((HL.out.g y hy).a.lt k hk').2;omega);go_upto_region 12 with (first | (with_reducible show cB 50 31 ..;go_must (refine dF w1.heap.size 0 7 fE _ _ JA.out (rS (i:Int) (bn:Int) ta tn tc ma mn mc da dn dc oa on oc ia il ic) ?_)) | (with_reducible show cB 51 31 ..;go_must (refine dF w2.heap.size 0 7 fE _ _ HS2.out (rS (i:Int) (bn:Int) wH wJ wK xV xW xX sw sF sG xY yN wL xZ yO yF) ?_)) | (go_at_call 10;go_must (refine (BU (x:=(fA.mk (.slice ta tn tc) (.slice ma mn mc) (.slice da dn dc) (.slice oa on oc) (.slice ia il ic) ⟨wH,wJ,wK⟩ ⟨xV,xW,xX⟩ ⟨sw,sF,sG⟩ ⟨xY,yN,wL⟩ ⟨xZ,yO,yF⟩ (List.replicate bn yH) (List.replicate bn yH) (st0 i bn))) HGX.out).mono ?_;rintro e w3 ⟨rfl,hb3⟩;have HB3:=ae hb3;clear hb3)))
   have ai0:=ae (af HB3.out JA.out);have ai1:=ae (af HB3.out HS2.out);have HLh:=ae (YP.out.later HB3.out);have ai2:=ae (HGX.out.later HB3.out);have hoa:w3.ownsRow w.heap.size 31 7 (.slice aa i ac) i (G.map fA.ac).flatten:=by have:=HLh.out.oa;rwa [zV.out] at this
   have HOA:=ae hoa;clear hoa;have HBw:Hid (Below w.heap.size w w3):=ae (((HB0.out.trans (bV.out.mono HB0.out.size)).trans (HBq.out.mono (Nat.le_trans HB0.out.size bV.out.size))).trans (HB3.out.mono (Nat.le_trans HB0.out.size (Nat.le_trans bV.out.size HBq.out.size))));obtain ⟨i0,hi0,hz0,hz1,hz2⟩:=info_parts aas;go_upto_region 13 with (first | (with_reducible show cB 60 31 ..;go_must (refine dF w1.heap.size 0 7 fE _ _ ai0.out (rS (i:Int) (bn:Int) ta tn tc ma mn mc da dn dc oa on oc ia il ic) ?_)) | (with_reducible show yw 62 ..;go_must (refine nZ _ rfl _ _ 24 rfl w.heap.size 31 i0 (.agg dS.toArray) 7 128 acs hi0 hz0 hz1 hz2 rfl (by decide) (.slice aa i ac) i (G.map fA.ac).flatten rfl (World.ownsRow.alloc HOA.out _) _ 1 1 (rS (i:Int) (bn:Int) ta tn tc ma mn mc da dn dc oa on oc ia il ic) rfl rfl ?_ ?_ ?_ ?_ (Nat.le_trans HBw.out.size (by simp)) ?_;(· exact cu rfl);(· exact cz rfl);(· (unfold maxLen;omega));(· omega);intro vA w4 bJ gZ Vs;obtain ⟨uAa,uAl,uAc,rfl⟩:=aB bJ;have HOA:=ae bJ;have Uo:=ae gZ;clear bJ gZ Vs)))
   obtain rfl:uAl=i+1:=pO HOA.out;have FE:=ae ((World.ownsRow.alloc (zV.out ▸ HLh.out.ob:w3.ownsRow w.heap.size 31 7 (.slice ba i bc) i (G.map fA.bc).flatten) _).kept Uo.out.grown (gV.back HLh.out.ab));have NI:=ae (Uo.out.blk (af (aj w3 _) ai1.out) (fun e=>by have h1:=(HL.out.oa.lt _ e.symm).2;have h2:=bV.out.size;have h3:=HB2.out.size;omega));have s4:Hid (w.heap.size≤w4.heap.size):=ae (Nat.le_trans HBw.out.size (Nat.le_trans (aj w3 _).size Uo.out.grown.size));go_wp2_with (first | (with_reducible show cB 64 31 ..;go_must (refine dF w2.heap.size 0 7 fE _ _ NI.out (rS (i:Int) (bn:Int) wH wJ wK xV xW xX sw sF sG xY yN wL xZ yO yF) ?_)) | (with_reducible show yw 66 ..;go_must (refine nZ _ rfl _ _ 24 rfl w.heap.size 31 i0 (.agg dS.toArray) 7 128 acs hi0 hz0 hz1 hz2 rfl (by decide) (.slice ba i bc) i (G.map fA.bc).flatten rfl (World.ownsRow.alloc FE.out _) _ 1 1 (rS (i:Int) (bn:Int) wH wJ wK xV xW xX sw sF sG xY yN wL xZ yO yF) rfl rfl ?_ ?_ ?_ ?_ (Nat.le_trans s4.out (by simp)) ?_;(· exact cu rfl);(· exact cz rfl);(· (unfold maxLen;omega));(· omega);intro vB w5 bJ gZ Vs;obtain ⟨uBa,uBl,uBc,rfl⟩:=aB bJ;have FE:=ae bJ;have HGB:=ae gZ;clear bJ gZ Vs)))
   obtain rfl:uBl=i+1:=pO FE.out;have HPU:=ae (wY.afw HLh.out ai2.out HDJ.out HBw.out.size (aj w3 _) Uo.out (by rw [zV.out];exact HOA.out) (aj w4 _) HGB.out (by rw [zV.out];exact FE.out));go_roundw
   case rel=>exact ⟨i+1,uAa,uAc,uBa,uBc,by omega,rfl,rfl,by go_num,HBw.out.trans HPU.out.2,_,_,by rw [List.length_append,zV.out];rfl,HPU.out.1⟩
   case measure=>simp [intOf];omega
theorem UN (z:Int) (ca:Option Addr) (cn cc:Nat) (ta:Option Addr) (tn tc:Nat) (C:List dY) (At:List Int) (w:World) (hCs:bQ w.heap.size w ⟨ca,cn,cc⟩ 17 (C.map dY.cells)) (Uu:Ho w.heap.size w C) (hAt:bQ w.heap.size w ⟨ta,tn,tc⟩ 1 (At.map YN)) (hsum:1+uZ C≤490000) (hcl:cn≤100000) :
 Calls Tryz.prog 3 #[.int .i64 z,.slice ca cn cc,.slice ta tn tc] w fun e w'=>e=.returned (.bool true)∧Below w.heap.size w w':=by
 have h0:=(aag z).1;have h3:=(aag z).2;have Nh:=ae hCs;have HCM:=ae Uu;have HAT:=ae hAt;clear hCs Uu hAt;go_enter Tryz.func3,Tryz.ntmps3
 refine wp_seq_k (fun K0 hK0=>?_);have HK0:=ae hK0;clear hK0;go_wp2_with fail
 refine HK0.out _ _ ?_;refine wp_seq_k (fun K1 hK1=>?_);have Cm:=ae hK1;clear hK1;go_wp2_with fail
 refine Cm.out _ _ ?_;obtain ⟨m,hm⟩:=Int.eq_ofNat_of_zero_le h0;have hm3:m≤3:=by omega
 obtain ⟨bn,hbn⟩:∃ bn:Nat,bn=1+m:=⟨_,rfl⟩;have hbi:(1:Int)+bits BinOp.and IntKind.i64 z 3=(bn:Int):=by rw [hm,hbn];omega
 rw [hbi];clear hbi hm h0 h3;refine wp_seq_k (fun K2 hK2=>?_);have HK2:=ae hK2;clear hK2;go_wp2_with fail
 refine HK2.out _ _ ?_;refine wp_seq_k (fun K3 hK3=>?_);have HK3:=ae hK3;clear hK3;go_wp2_with fail
 refine HK3.out _ _ ?_;refine wp_seq_k (fun K4 hK4=>?_);refine YQ rfl bn w (by omega) (by omega) _ _ ?_;intro v6 PK PL PM PN PO PQ PY PZ P6 P7 P8 Qa Qb Qc Qd Qe Qf Qg Qh Qi Qj Qk Ql Qm Qn Qo Qp Qq Qr Qs Qt Qu Qv Qw Qx Qy Qz QA QB QC ga ac gb bc P G w1 hgn hlb hb1;have Yl:=ae hlb;have HB1:=ae hb1;clear hlb hb1;refine hK4 _ _ ?_;refine wp_seq_k (fun K5 rH=>?_);have HK5:=ae rH;clear rH;go_wp2_with fail
 refine HK5.out _ _ ?_;obtain ⟨w2,hw2⟩:∃ y,y=w1.alloc (.cells (Dx 0 (fun _=>.slice none 0 0) (fun _=>.slice none 0 0)) 46):=⟨_,rfl⟩;have HS2:Hid (w2.heap[w1.heap.size]? = some (.cells (Dx 0 (fun _=>.slice none 0 0) (fun _=>.slice none 0 0)) 46)):=ae (by rw [hw2];exact heap_alloc_new _ _);have HL2:Hid (Below w1.heap.size w1 w2):=ae (by rw [hw2];exact aj _ _);have HB2:Hid (Below w.heap.size w w2):=ae (HB1.out.trans (HL2.out.mono HB1.out.size));have La:=ae (Yl.out.start HL2.out HB1.out.size (Nat.le_refl _) HS2.out);change Code.wp _ _ _ _ (w1.alloc (.cells (Dx 0 (fun _=>.slice none 0 0) (fun _=>.slice none 0 0)) 46));rw [← hw2];clear hw2;refine wp_seq_k (fun K6 hK6=>?_);refine aap rfl ca cn cc ta tn tc bn ga ac gb bc _ w.heap.size w1.heap.size _ _ G C At w2 La.out HB2.out.size hgn (by omega) (by omega) (Nh.out.below HB2.out (Nat.le_refl _)) (HCM.out.below HB2.out) (HAT.out.below HB2.out (Nat.le_refl _)) hsum hcl _ _ ?_;intro v6 PR PS PT PU PV PW PX GQ GR JF DY QD QE QF QG QH QI QJ QK QL QM QN QO QP QQ QR QS QT QU QW QX QY QZ Q3 Q4 Q5 JG JH JI JJ JK JL DZ D5 D6 D7 D8 D9 Ea Eb Ec Ed Ee Ef Eg Eh Ei Ej El Em En Eo Ep Er Es Et Eu Ev Ew Ex Ey Ez EA EB EC ED EE EF EG EH EI EJ EK EL EN EO EP ER ET EU EW EX EY EZ BH BI BJ BK BL BM BN F9 Ga Gb Gc Gd Gf Gg Gh BO BP BQ BR BS Gs Gt Gu Gv Gw Gx Gy Mv Mw Mx MB MC ME MF MG MH MI MJ ML MM MN IL IM IP IQ IU IV IW IX IY IZ I1 I4 w3 hx hb3;obtain ⟨P3,N3,n3,S3,M3,E3,G3,hg3,hl3,hN3,KW,hE3⟩:=hx;refine hK6 _ _ ?_;exact aaj rfl bn _ _ _ _ P3 w.heap.size N3 n3 w1.heap.size S3 M3 E3 G3 w3 hl3 (Nat.le_trans HB2.out.size hb3.size) hg3 (by omega) hN3 KW hE3 _ (fun w' hb=>⟨rfl,(HB2.out.trans hb3).trans hb⟩)
end
section
open Go.ChangeShapes Go.WideShapes Go.ChangeAt Go.RowKit
theorem yj (l:List Value) (a n b:Nat) (h:a+n=b):l.drop a=(l.drop a).take n++l.drop b:=by
 subst h;rw [← List.drop_drop];exact (List.take_append_drop n (l.drop a)).symm
theorem Tryz.KP:Tryz.prog.cellsOf 47=1:=by kernel_rfl
theorem Tryz.afb:Tryz.prog.cellsOf 4=1:=by kernel_rfl
theorem Tryz.cells3:Tryz.prog.cellsOf 3=1:=by kernel_rfl
theorem Tryz.VE:Tryz.prog.cellsOf 50=7:=by kernel_rfl
theorem Tryz.VF:Tryz.prog.cellsOf 57=7:=by kernel_rfl
theorem Tryz.Ux:Tryz.prog.cellsOf 128=2:=by kernel_rfl
theorem Tryz.VG:Tryz.prog.cellsOf 52=7:=by kernel_rfl
theorem Tryz.VH:Tryz.prog.cellsOf 54=17:=by kernel_rfl
theorem Tryz.acj:Tryz.prog.cellsOf 25=1:=by kernel_rfl
theorem Tryz.ack:Tryz.prog.cellsOf 27=1:=by kernel_rfl
section
variable {H:Type} {enc:TypeId×Value→H} {P:Program} {w:World}
theorem MP (d:DataW H):1≤Rows.uptoBulk d:=by
 cases d with
 | lit l=>cases l <;> simp [Rows.uptoBulk]
 | nil=>simp [Rows.uptoBulk]
 | ptr d=>simp [Rows.uptoBulk]
 | slice elems spare=>simp [Rows.uptoBulk]
 | agg parts=>simp [Rows.uptoBulk]
 | iface t d=>simp [Rows.uptoBulk]
 | map entries=>simp [Rows.uptoBulk]
 | held h=>simp [Rows.uptoBulk]
theorem Fy:∀ l:List (DataW H),l.length≤Rows.uptoBulkAll l
 | []=>Nat.zero_le _
 | d::l=>by
  have h1:=MP d;have h2:=Fy l;simp only [Rows.uptoBulkAll,List.length_cons];omega
theorem Kv:∀ {l:List (DataW H)} {i:Nat} {a:DataW H},l[i]? = some a→Rows.uptoBulk a+l.length≤Rows.uptoBulkAll l+1
 | [],i,a,h=>by simp at h
 | d::l,0,a,h=>by
  have h2:=Fy l;obtain rfl:d=a:=by simpa using h
  simp only [Rows.uptoBulkAll,List.length_cons];omega
 | d::l,i+1,a,h=>by
  have h1:=MP d;have h2:=Kv (l:=l) (i:=i) (by simpa using h);simp only [Rows.uptoBulkAll,List.length_cons];omega
theorem Oa:∀ {l:List (DataW H)} {i j:Nat} {a b:DataW H},i<j→l[i]? = some a→l[j]? = some b→Rows.uptoBulk a+Rows.uptoBulk b+l.length≤Rows.uptoBulkAll l+2
 | [],i,j,a,b,_,h,_=>by simp at h
 | d::l,0,j+1,a,b,_,h,h'=>by
  have h2:=Kv (l:=l) (i:=j) (by simpa using h');obtain rfl:d=a:=by simpa using h
  simp only [Rows.uptoBulkAll,List.length_cons];omega
 | d::l,i+1,j+1,a,b,hij,h,h'=>by
  have h1:=MP d;have h2:=Oa (l:=l) (i:=i) (j:=j) (by omega) (by simpa using h) (by simpa using h');simp only [Rows.uptoBulkAll,List.length_cons];omega
theorem Ob {α:Type} {m:α→Nat} {g:Nat→α} {D:Nat→DataW H}:∀ {l:List Nat},(∀ i∈l,m (g i)≤Rows.uptoBulk (D i))→((l.map g).map m).sum≤Rows.uptoBulkAll (l.map D)
 | [],_=>Nat.zero_le _
 | i::l,h=>by
  have h1:=h i (List.mem_cons_self ..);have h2:=Ob (l:=l) (fun j hj=>h j (List.mem_cons_of_mem _ hj));simp only [List.map_cons,List.sum_cons,Rows.uptoBulkAll];omega
theorem Oc {t:TypeId} {fs:Array Field} {fuel:Nat} {cs:List Value} {x:DataW H×List MemPlace} (ht:P.underlying t=some (.struct fs)) (h:DataW.trod enc P w 0 (fun _=>true) true fuel t cs=some x) :
 ∃ (xs:List (DataW H×List MemPlace)) (n:Nat),cs.length=P.cellsOf t∧xs.length=fs.size∧Rows.uptoBulk x.1=Rows.uptoBulkAll (xs.map Prod.fst)+1∧∀ (i:Nat) (f:Field),fs[i]? = some f→∃ y,xs[i]? = some y∧DataW.trod enc P w 0 (fun _=>true) true n f.type ((cs.drop f.offset).take (P.cellsOf f.type))=some y:=by
 obtain ⟨xs,n,_,rfl,hl,hxl,hx⟩:=DataW.trod_struct ht h;refine ⟨xs,n,hl,hxl,rfl,fun i f hf=>?_⟩;have hi:i<xs.length:=by rw [hxl];exact (df hf)
 exact ⟨xs[i],List.getElem?_eq_getElem hi,(hx i f hf).trans (List.getElem?_eq_getElem hi)⟩
theorem Dm {α:Type} {t e:TypeId} {size fuel:Nat} {cs:List Value} {x:DataW H×List MemPlace} (z0:α) (f:α→List Value) (wf:α→Prop) (m:α→Nat) (ht:P.underlying t=some (.slice e)) (hc:P.cellsOf e=size) (hpos:0<size)
 (hel:∀ n cs x,DataW.trod enc P w 0 (fun _=>true) true n e cs=some x→∃ a,cs=f a∧wf a∧m a≤Rows.uptoBulk x.1) (h:DataW.trod enc P w 0 (fun _=>true) true fuel t cs=some x) :
 ∃ (a:Option Addr) (len cap:Nat) (xs:List α),cs=[.slice a len cap]∧bQ w.heap.size w ⟨a,len,cap⟩ size (xs.map f)∧(a=none→cap=0)∧(∀ (i:Nat) (x:α),xs[i]? = some x→wf x)∧(xs.map m).sum+1≤Rows.uptoBulk x.1:=by
 haveI:Inhabited α:=⟨z0⟩
 rcases Go.Deep.open_slice ht h with ⟨h1,hx0⟩ | ⟨a,len,cap,mm,n,D,Pl,h1,_,hl,hm,hmm,hx0,hx⟩
 ·subst h1
  subst hx0;exact ⟨none,0,0,[],rfl,⟨rfl,Nat.le_refl _,Nat.zero_le _,fun h=>absurd h (Nat.lt_irrefl 0)⟩,fun _=>rfl,by simp,by simp [Rows.uptoBulk]⟩
 ·subst h1
  have hmc:mm=cap:=by simpa using hmm
  subst hmc;subst hx0;have hex:∀ i,i<len→∃ y:α,(wf y∧m y≤Rows.uptoBulk (D i))∧w.cells? 0 (a.add (i*size)) size=some (f y):=fun i hi=>by
   obtain ⟨cs,h2,h3⟩:=hx i (by omega);obtain ⟨y,rfl,hy⟩:=hel _ _ _ h3;rw [hc] at h2;exact ⟨y,hy,h2⟩
  obtain ⟨g,hg⟩:=Go.Deep.choose_lt hex;refine ⟨some a,len,mm,(List.range len).map g,rfl,⟨by simp,hl,hm,fun h0=>?_⟩,(by intro h;cases h),fun i x hi=>?_,?_⟩
  ·have abo:0<len:=h0
   have hsp:a.spot=none:=by
    obtain ⟨_,h5,h6⟩:=World.cells?_some (hg 0 abo).2;have h7:=h6 0 hpos;have h8:a.add (0*size)=a:=by unfold Addr.add;simp
    have h9:a.add 0=a:=by unfold Addr.add;simp
    rw [h8,h9] at h7;have:∃ u,(f (g 0))[0]? = some u:=⟨(f (g 0))[0]'(by omega),by simp⟩;obtain ⟨u,hu⟩:=this;rw [hu] at h7;exact WH h7
   refine ⟨a.block,a.off,by cases a;simp only at hsp;rw [hsp],?_,fun i y hy j u hu=>?_⟩
   ·have:=World.cells?_block (hg 0 abo).2 hpos
    have h8:a.add (0*size)=a:=by unfold Addr.add;simp
    rw [h8] at this;exact this
   ·simp only [List.map_map] at hy
    obtain ⟨hi,he⟩:=List.getElem?_eq_some_iff.1 hy;have hi':i<len:=by simpa using hi
    simp at he;subst he;obtain ⟨_,h5,h6⟩:=World.cells?_some (hg i hi').2;have hj:=(mV hu);have h7:=h6 j (by omega);rw [hu,YZ hsp] at h7;unfold Addr.add at h7;split at h7
    ·subst j;exact h7
    ·exact h7
  ·obtain ⟨hi',he⟩:=List.getElem?_eq_some_iff.1 hi
   have hl':i<len:=by simpa using hi'
   simp at he;subst he;exact (hg i hl').1.1
  ·have:=Ob (l:=List.range len) (m:=m) (g:=g) (D:=D) (fun i hi=>(hg i (List.mem_range.1 hi)).1.2)
   simp only [Rows.uptoBulk];omega
end
section
variable {H:Type} {enc:TypeId×Value→H} {w:World}
theorem YR {n:Nat} {cs:List Value} {x:DataW H×List MemPlace} (h:DataW.trod enc Tryz.prog w 0 (fun _=>true) true n 128 cs=some x):∃ r:Row,cs=r.cells∧r.wf∧3≤Rows.uptoBulk x.1:=by
 obtain ⟨xs,n0,hl,hxl,hbk,hf⟩:=Oc ve h;rw [Tryz.Ux] at hl;have hd:cs.drop 2=[]:=List.drop_of_length_le (by omega);obtain ⟨y0,q0,g0⟩:=hf 0 _ rfl;replace g0:DataW.trod enc Tryz.prog w 0 (fun _=>true) true n0 48 ((cs.drop 0).take (Tryz.prog.cellsOf 48))=some y0:=g0;rw [Tryz.zP] at g0;obtain ⟨a0,e0,_,w0⟩:=DataW.trod_int Hq g0;have v0:=wf_u64 w0;obtain ⟨y1,q1,g1⟩:=hf 1 _ rfl;replace g1:DataW.trod enc Tryz.prog w 0 (fun _=>true) true n0 48 ((cs.drop 1).take (Tryz.prog.cellsOf 48))=some y1:=g1;rw [Tryz.zP] at g1;obtain ⟨a1,e1,_,w1⟩:=DataW.trod_int Hq g1;have v1:=wf_u64 w1;have hcs:cs=[.int .u64 a0]++([.int .u64 a1]++[]):=by
  show cs.drop 0=_;rw [yj cs 0 1 1 rfl,e0,yj cs 1 1 2 rfl,e1,hd]
 have hlen:xs.length=2:=hxl;have hm:=Fy (xs.map Prod.fst);rw [List.length_map,hlen] at hm;exact ⟨⟨a0,a1⟩,hcs,⟨v0,v1⟩,by omega⟩
theorem YS {n:Nat} {cs:List Value} {x:DataW H×List MemPlace} (h:DataW.trod enc Tryz.prog w 0 (fun _=>true) true n 57 cs=some x):∃ r:ak,cs=r.cells∧r.wf∧3≤Rows.uptoBulk x.1:=by
 obtain ⟨xs,n0,hl,hxl,hbk,hf⟩:=Oc dD h;rw [Tryz.VF] at hl;have hd:cs.drop 7=[]:=List.drop_of_length_le (by omega);obtain ⟨y0,q0,g0⟩:=hf 0 _ rfl;replace g0:DataW.trod enc Tryz.prog w 0 (fun _=>true) true n0 5 ((cs.drop 0).take (Tryz.prog.cellsOf 5))=some y0:=g0;rw [Tryz.cells5] at g0;obtain ⟨a0,e0,_,w0⟩:=DataW.trod_int KQ g0;have v0:=wf_u8 w0;obtain ⟨y1,q1,g1⟩:=hf 1 _ rfl;replace g1:DataW.trod enc Tryz.prog w 0 (fun _=>true) true n0 47 ((cs.drop 1).take (Tryz.prog.cellsOf 47))=some y1:=g1;rw [Tryz.KP] at g1;obtain ⟨a1,e1,_,w1⟩:=DataW.trod_int VI g1;have v1:=wf_u32 w1;obtain ⟨y2,q2,g2⟩:=hf 2 _ rfl;replace g2:DataW.trod enc Tryz.prog w 0 (fun _=>true) true n0 48 ((cs.drop 2).take (Tryz.prog.cellsOf 48))=some y2:=g2;rw [Tryz.zP] at g2;obtain ⟨a2,e2,_,w2⟩:=DataW.trod_int Hq g2;have v2:=wf_u64 w2;obtain ⟨y3,q3,g3⟩:=hf 3 _ rfl;replace g3:DataW.trod enc Tryz.prog w 0 (fun _=>true) true n0 5 ((cs.drop 3).take (Tryz.prog.cellsOf 5))=some y3:=g3;rw [Tryz.cells5] at g3;obtain ⟨a3,e3,_,w3⟩:=DataW.trod_int KQ g3;have v3:=wf_u8 w3;obtain ⟨y4,q4,g4⟩:=hf 4 _ rfl;replace g4:DataW.trod enc Tryz.prog w 0 (fun _=>true) true n0 4 ((cs.drop 4).take (Tryz.prog.cellsOf 4))=some y4:=g4;rw [Tryz.afb] at g4;obtain ⟨a4,e4,_⟩:=DataW.trod_bool xU4 g4;obtain ⟨y5,q5,g5⟩:=hf 5 _ rfl;replace g5:DataW.trod enc Tryz.prog w 0 (fun _=>true) true n0 48 ((cs.drop 5).take (Tryz.prog.cellsOf 48))=some y5:=g5;rw [Tryz.zP] at g5;obtain ⟨a5,e5,_,w5⟩:=DataW.trod_int Hq g5;have v5:=wf_u64 w5;obtain ⟨y6,q6,g6⟩:=hf 6 _ rfl;replace g6:DataW.trod enc Tryz.prog w 0 (fun _=>true) true n0 5 ((cs.drop 6).take (Tryz.prog.cellsOf 5))=some y6:=g6;rw [Tryz.cells5] at g6;obtain ⟨a6,e6,_,w6⟩:=DataW.trod_int KQ g6;have v6:=wf_u8 w6;have hcs:cs=[.int .u8 a0]++([.int .u32 a1]++([.int .u64 a2]++([.int .u8 a3]++([.bool a4]++([.int .u64 a5]++([.int .u8 a6]++[])))))):=by
  show cs.drop 0=_;rw [yj cs 0 1 1 rfl,e0,yj cs 1 1 2 rfl,e1,yj cs 2 1 3 rfl,e2,yj cs 3 1 4 rfl,e3,yj cs 4 1 5 rfl,e4,yj cs 5 1 6 rfl,e5,yj cs 6 1 7 rfl,e6,hd]
 have hlen:xs.length=7:=hxl;have hm:=Fy (xs.map Prod.fst);rw [List.length_map,hlen] at hm;exact ⟨⟨a0,a1,a2,a3,a4,a5,a6⟩,hcs,⟨v0,v1,v2,v3,v5,v6⟩,by omega⟩
theorem YT {n:Nat} {cs:List Value} {x:DataW H×List MemPlace} (h:DataW.trod enc Tryz.prog w 0 (fun _=>true) true n 50 cs=some x):∃ r:bH,cs=r.cells∧r.wf∧3≤Rows.uptoBulk x.1:=by
 obtain ⟨xs,n0,hl,hxl,hbk,hf⟩:=Oc wR h;rw [Tryz.VE] at hl;have hd:cs.drop 7=[]:=List.drop_of_length_le (by omega);obtain ⟨y0,q0,g0⟩:=hf 0 _ rfl;replace g0:DataW.trod enc Tryz.prog w 0 (fun _=>true) true n0 5 ((cs.drop 0).take (Tryz.prog.cellsOf 5))=some y0:=g0;rw [Tryz.cells5] at g0;obtain ⟨a0,e0,_,w0⟩:=DataW.trod_int KQ g0;have v0:=wf_u8 w0;obtain ⟨y1,q1,g1⟩:=hf 1 _ rfl;replace g1:DataW.trod enc Tryz.prog w 0 (fun _=>true) true n0 47 ((cs.drop 1).take (Tryz.prog.cellsOf 47))=some y1:=g1;rw [Tryz.KP] at g1;obtain ⟨a1,e1,_,w1⟩:=DataW.trod_int VI g1;have v1:=wf_u32 w1;obtain ⟨y2,q2,g2⟩:=hf 2 _ rfl;replace g2:DataW.trod enc Tryz.prog w 0 (fun _=>true) true n0 5 ((cs.drop 2).take (Tryz.prog.cellsOf 5))=some y2:=g2;rw [Tryz.cells5] at g2;obtain ⟨a2,e2,_,w2⟩:=DataW.trod_int KQ g2;have v2:=wf_u8 w2;obtain ⟨y3,q3,g3⟩:=hf 3 _ rfl;replace g3:DataW.trod enc Tryz.prog w 0 (fun _=>true) true n0 48 ((cs.drop 3).take (Tryz.prog.cellsOf 48))=some y3:=g3;rw [Tryz.zP] at g3;obtain ⟨a3,e3,_,w3⟩:=DataW.trod_int Hq g3;have v3:=wf_u64 w3;obtain ⟨y4,q4,g4⟩:=hf 4 _ rfl;replace g4:DataW.trod enc Tryz.prog w 0 (fun _=>true) true n0 48 ((cs.drop 4).take (Tryz.prog.cellsOf 48))=some y4:=g4;rw [Tryz.zP] at g4;obtain ⟨a4,e4,_,w4⟩:=DataW.trod_int Hq g4;have v4:=wf_u64 w4;obtain ⟨y5,q5,g5⟩:=hf 5 _ rfl;replace g5:DataW.trod enc Tryz.prog w 0 (fun _=>true) true n0 48 ((cs.drop 5).take (Tryz.prog.cellsOf 48))=some y5:=g5;rw [Tryz.zP] at g5;obtain ⟨a5,e5,_,w5⟩:=DataW.trod_int Hq g5;have v5:=wf_u64 w5;obtain ⟨y6,q6,g6⟩:=hf 6 _ rfl;replace g6:DataW.trod enc Tryz.prog w 0 (fun _=>true) true n0 5 ((cs.drop 6).take (Tryz.prog.cellsOf 5))=some y6:=g6;rw [Tryz.cells5] at g6;obtain ⟨a6,e6,_,w6⟩:=DataW.trod_int KQ g6;have v6:=wf_u8 w6;have hcs:cs=[.int .u8 a0]++([.int .u32 a1]++([.int .u8 a2]++([.int .u64 a3]++([.int .u64 a4]++([.int .u64 a5]++([.int .u8 a6]++[])))))):=by
  show cs.drop 0=_;rw [yj cs 0 1 1 rfl,e0,yj cs 1 1 2 rfl,e1,yj cs 2 1 3 rfl,e2,yj cs 3 1 4 rfl,e3,yj cs 4 1 5 rfl,e4,yj cs 5 1 6 rfl,e5,yj cs 6 1 7 rfl,e6,hd]
 have hlen:xs.length=7:=hxl;have hm:=Fy (xs.map Prod.fst);rw [List.length_map,hlen] at hm;exact ⟨⟨a0,a1,a2,a3,a4,a5,a6⟩,hcs,⟨v0,v1,v2,v3,v4,v5,v6⟩,by omega⟩
theorem YU {n:Nat} {cs:List Value} {x:DataW H×List MemPlace} (h:DataW.trod enc Tryz.prog w 0 (fun _=>true) true n 52 cs=some x):∃ r:aF,cs=r.cells∧r.wf∧r.In w.heap.size w∧(r.rs.a=none→r.rs.cap=0)∧(r.ds.a=none→r.ds.cap=0)∧8+3*(r.rows.length+r.bP.length)≤Rows.uptoBulk x.1:=by
 obtain ⟨xs,n0,hl,hxl,hbk,hf⟩:=Oc qD h;rw [Tryz.VG] at hl;have hd:cs.drop 7=[]:=List.drop_of_length_le (by omega);obtain ⟨y0,q0,g0⟩:=hf 0 _ rfl;replace g0:DataW.trod enc Tryz.prog w 0 (fun _=>true) true n0 5 ((cs.drop 0).take (Tryz.prog.cellsOf 5))=some y0:=g0;rw [Tryz.cells5] at g0;obtain ⟨a0,e0,_,w0⟩:=DataW.trod_int KQ g0;have v0:=wf_u8 w0;obtain ⟨y1,q1,g1⟩:=hf 1 _ rfl;replace g1:DataW.trod enc Tryz.prog w 0 (fun _=>true) true n0 5 ((cs.drop 1).take (Tryz.prog.cellsOf 5))=some y1:=g1;rw [Tryz.cells5] at g1;obtain ⟨a1,e1,_,w1⟩:=DataW.trod_int KQ g1;have v1:=wf_u8 w1;obtain ⟨y2,q2,g2⟩:=hf 2 _ rfl;replace g2:DataW.trod enc Tryz.prog w 0 (fun _=>true) true n0 47 ((cs.drop 2).take (Tryz.prog.cellsOf 47))=some y2:=g2;rw [Tryz.KP] at g2;obtain ⟨a2,e2,_,w2⟩:=DataW.trod_int VI g2;have v2:=wf_u32 w2;obtain ⟨y3,q3,g3⟩:=hf 3 _ rfl;replace g3:DataW.trod enc Tryz.prog w 0 (fun _=>true) true n0 48 ((cs.drop 3).take (Tryz.prog.cellsOf 48))=some y3:=g3;rw [Tryz.zP] at g3;obtain ⟨a3,e3,_,w3⟩:=DataW.trod_int Hq g3;have v3:=wf_u64 w3;obtain ⟨y4,q4,g4⟩:=hf 4 _ rfl;replace g4:DataW.trod enc Tryz.prog w 0 (fun _=>true) true n0 48 ((cs.drop 4).take (Tryz.prog.cellsOf 48))=some y4:=g4;rw [Tryz.zP] at g4;obtain ⟨a4,e4,_,w4⟩:=DataW.trod_int Hq g4;have v4:=wf_u64 w4;obtain ⟨y5,q5,g5⟩:=hf 5 _ rfl;replace g5:DataW.trod enc Tryz.prog w 0 (fun _=>true) true n0 25 ((cs.drop 5).take (Tryz.prog.cellsOf 25))=some y5:=g5;rw [Tryz.acj] at g5;obtain ⟨s5a,s5n,s5c,l5,e5,in5,ai3,wf5,m5⟩:=Dm (⟨0,0⟩:Row) Row.cells Row.wf (fun _=>3) rE Tryz.Ux (by decide) (fun n cs x h=>YR h) g5;obtain ⟨y6,q6,g6⟩:=hf 6 _ rfl;replace g6:DataW.trod enc Tryz.prog w 0 (fun _=>true) true n0 27 ((cs.drop 6).take (Tryz.prog.cellsOf 27))=some y6:=g6;rw [Tryz.ack] at g6;obtain ⟨s6a,s6n,s6c,l6,e6,in6,ai4,wf6,m6⟩:=Dm (⟨0,0,0,0,false,0,0⟩:ak) ak.cells ak.wf (fun _=>3) qy Tryz.VF (by decide) (fun n cs x h=>YS h) g6;have hcs:cs=[.int .u8 a0]++([.int .u8 a1]++([.int .u32 a2]++([.int .u64 a3]++([.int .u64 a4]++([.slice s5a s5n s5c]++([.slice s6a s6n s6c]++[])))))):=by
  show cs.drop 0=_;rw [yj cs 0 1 1 rfl,e0,yj cs 1 1 2 rfl,e1,yj cs 2 1 3 rfl,e2,yj cs 3 1 4 rfl,e3,yj cs 4 1 5 rfl,e4,yj cs 5 1 6 rfl,e5,yj cs 6 1 7 rfl,e6,hd]
 have hlen:xs.length=7:=hxl;have hm:=Oa (l:=xs.map Prod.fst) (i:=5) (j:=6) (by decide) (by rw [List.getElem?_map,q5];rfl) (by rw [List.getElem?_map,q6];rfl);rw [List.length_map,hlen] at hm;simp only [List.map_const',List.sum_replicate_nat] at m5 m6;exact ⟨⟨a0,a1,a2,a3,a4,⟨s5a,s5n,s5c⟩,⟨s6a,s6n,s6c⟩,l5,l6⟩,hcs,⟨v0,v1,v2,v3,v4,wf5,wf6⟩,⟨in5,in6⟩,ai3,ai4,by show 8+3*(l5.length+l6.length)≤_;omega⟩
theorem YV {n:Nat} {cs:List Value} {x:DataW H×List MemPlace} (h:DataW.trod enc Tryz.prog w 0 (fun _=>true) true n 54 cs=some x):∃ c:dY,cs=c.cells∧(c.qE.In w.heap.size w∧(c.qE.rs.a=none→c.qE.rs.cap=0)∧(c.qE.ds.a=none→c.qE.ds.cap=0)∧c.wf)∧10+3*vg c≤Rows.uptoBulk x.1:=by
 obtain ⟨xs,n0,hl,hxl,hbk,hf⟩:=Oc Lx h;rw [Tryz.VH] at hl;have hd:cs.drop 17=[]:=List.drop_of_length_le (by omega);obtain ⟨y0,q0,g0⟩:=hf 0 _ rfl;replace g0:DataW.trod enc Tryz.prog w 0 (fun _=>true) true n0 5 ((cs.drop 0).take (Tryz.prog.cellsOf 5))=some y0:=g0;rw [Tryz.cells5] at g0;obtain ⟨a0,e0,_,w0⟩:=DataW.trod_int KQ g0;have v0:=wf_u8 w0;obtain ⟨y1,q1,g1⟩:=hf 1 _ rfl;replace g1:DataW.trod enc Tryz.prog w 0 (fun _=>true) true n0 50 ((cs.drop 1).take (Tryz.prog.cellsOf 50))=some y1:=g1;rw [Tryz.VE] at g1;obtain ⟨a1,e1,v1,m1⟩:=YT g1;obtain ⟨y2,q2,g2⟩:=hf 2 _ rfl;replace g2:DataW.trod enc Tryz.prog w 0 (fun _=>true) true n0 52 ((cs.drop 8).take (Tryz.prog.cellsOf 52))=some y2:=g2;rw [Tryz.VG] at g2;obtain ⟨a2,e2,v2,in2,afx,afy,m2⟩:=YU g2;obtain ⟨y3,q3,g3⟩:=hf 3 _ rfl;replace g3:DataW.trod enc Tryz.prog w 0 (fun _=>true) true n0 5 ((cs.drop 15).take (Tryz.prog.cellsOf 5))=some y3:=g3;rw [Tryz.cells5] at g3;obtain ⟨a3,e3,_,w3⟩:=DataW.trod_int KQ g3;have v3:=wf_u8 w3;obtain ⟨y4,q4,g4⟩:=hf 4 _ rfl;replace g4:DataW.trod enc Tryz.prog w 0 (fun _=>true) true n0 47 ((cs.drop 16).take (Tryz.prog.cellsOf 47))=some y4:=g4;rw [Tryz.KP] at g4;obtain ⟨a4,e4,_,w4⟩:=DataW.trod_int VI g4;have v4:=wf_u32 w4;have hcs:cs=[.int .u8 a0]++(a1.cells++(a2.cells++([.int .u8 a3]++([.int .u32 a4]++[])))):=by
  show cs.drop 0=_;rw [yj cs 0 1 1 rfl,e0,yj cs 1 7 8 rfl,e1,yj cs 8 7 15 rfl,e2,yj cs 15 1 16 rfl,e3,yj cs 16 1 17 rfl,e4,hd]
 have hlen:xs.length=5:=hxl;have hm:=Kv (l:=xs.map Prod.fst) (i:=2) (by rw [List.getElem?_map,q2];rfl);rw [List.length_map,hlen] at hm;exact ⟨⟨a0,a1,a2,a3,a4⟩,by rw [hcs];simp [dY.cells],⟨in2,afx,afy,⟨v0,v1,v2,v3,v4⟩⟩,by unfold vg;show 10+3*(1+a2.rows.length+a2.bP.length)≤_;omega⟩
end
theorem YW {H:Type} {enc:TypeId×Value→H} {w:World} {fuel:Nat} {cs:List Value} {x:DataW H×List MemPlace} (h:DataW.trod enc Tryz.prog w 0 (fun _=>true) true fuel 22 cs=some x) :
 ∃ (a:Option Addr) (len cap:Nat) (C:List dY),cs=[.slice a len cap]∧bQ w.heap.size w ⟨a,len,cap⟩ 17 (C.map dY.cells)∧Ho w.heap.size w C∧10*len+3*uZ C≤Rows.uptoBulk x.1:=by
 obtain ⟨a,len,cap,C,e,hin,_,hwf,hm⟩:=Dm (⟨0,⟨0,0,0,0,0,0,0⟩,⟨0,0,0,0,0,⟨none,0,0⟩,⟨none,0,0⟩,[],[]⟩,0,0⟩:dY) dY.cells (fun c=>c.qE.In w.heap.size w∧(c.qE.rs.a=none→c.qE.rs.cap=0)∧(c.qE.ds.a=none→c.qE.ds.cap=0)∧c.wf) (fun c=>10+3*vg c) acr Tryz.VH (by decide) (fun n cs x h=>YV h) h;refine ⟨a,len,cap,C,e,hin,hwf,?_⟩;have hl:len=C.length:=by simpa using hin.len
 have hs:∀ l:List dY,(l.map fun c=>10+3*vg c).sum=10*l.length+3*uZ l:=by
  intro l;induction l with
  | nil=>rfl
  | cons c l ih =>
   unfold uZ at ih ⊢;simp only [List.map_cons,List.sum_cons,List.length_cons,ih];omega
 rw [hs C] at hm;omega
theorem aat {H:Type} {enc:TypeId×Value→H} {w:World} {fuel:Nat} {cs:List Value} {x:DataW H×List MemPlace} (h:DataW.trod enc Tryz.prog w 0 (fun _=>true) true fuel 23 cs=some x) :
 ∃ (a:Option Addr) (len cap:Nat) (At:List Int),cs=[.slice a len cap]∧bQ w.heap.size w ⟨a,len,cap⟩ 1 (At.map YN):=by
 obtain ⟨a,len,cap,At,e,hin,_,_,_⟩:=Dm (0:Int) YN (fun _=>True) (fun _=>0) AL Tryz.cells3 (by decide) (fun n cs x h=>by
  obtain ⟨z,e,_,_⟩:=DataW.trod_int RI h;exact ⟨z,e,trivial,Nat.zero_le _⟩) h
 exact ⟨a,len,cap,At,e,hin⟩
end
end Go.Proofs.YtignemioillaiaaGreat
