/- The document: delegate. -/
import Derived.Test.YtignemioillaiaaGreatG27
namespace Go.Proofs.YtignemioillaiaaGreat
set_option maxHeartbeats 8000000
set_option maxRecDepth 100000
section
open Go.RowKit Go.Lib
theorem Yc (D:List ak) (r:ak):(fe D r).length≤2*D.length+1:=by
 have h:=Xp r D ([],false);unfold fe;simp only [List.length_nil] at h;split
 ·omega
 ·rw [List.length_append,List.length_singleton];omega
theorem ah9 {c d a0 a1 a2:Code} (hc:Tryz.f98.body=some (a0.seq (a1.seq (a2.seq (c.seq d))))) {u0 u1 u2 u9 jB jg jh ji jk jl u16 mW oz lJ nC mE mF mh jC jD jw j6 ig ik iq iw u32 jm jq jr jE jF jG jH jI jJ jK jL jM jN jO jP jQ jR jS jT jU jV jW jX jY kv ky kz kC kD kE kF u64 kG kH kg ko kI kJ kK kL kM kN kP kQ kR lK lL lN lQ lT lU lV lW lX lY lZ l7 l8 l9 mf mg mi mI nE nG nH nI fU fV fZ gm gp gq gu gy gz gB gF gG gH gJ gK gL gM gN gP gQ iA iB iC iD iE iF iG iH iI iJ iK iL iM iN iO iP iQ iR iT iU iV iW iX iY iZ jd je jf:Value} (w:World) (b3 b4 b5 b6 b7 j:Nat) (g n bz:Int) (ta:Option Addr) (tn tc:Nat) (ma:Option Addr) (mn mc:Nat) (da:Option Addr) (dn dc:Nat) (oa:Option Addr) (on oc:Nat) (ia:Option Addr) (il ic:Nat) (ka:Option Addr) (kn kc:Nat) (eG:Option Addr) (eP eQ:Nat) (qc qs qk ag qv au:Int) (T:List Row) (M:List Pc) (D:List ak) (L:List ax) (I:List Int) (lq:List aF) (P B:Nat→Prop)
 (h3:w.heap[b3]? = some (.cells (rS g n ta tn tc ma mn mc da dn dc oa on oc ia il ic).toArray 31)) (h4:w.heap[b4]? = some (.cells (rQ qc qs qk ag qv au (j:Int)).toArray 50)) (h5:w.heap[b5]? = some (.cells (rP qc qs ag 2 false 0 0).toArray 57)) (h6:w.heap[b6]? = some (.cells dS.toArray 31)) (h7:w.heap[b7]? = some (.cells bA.toArray 57))
 (hT:fT P w ⟨ta,tn,tc⟩ 2 (T.map Row.cells)) (hD:fT P w ⟨da,dn,dc⟩ 7 (D.map ak.cells)) (hO:fT P w ⟨oa,on,oc⟩ 2 (L.map ax.cells)) (hI:fT P w ⟨ia,il,ic⟩ 1 (I.map yA)) (hM:fT P w ⟨ka,kn,kc⟩ 2 (M.map Pc.cells)) (hL:∀ l∈L,Cn P w l) (hj:L[j]? = some (ax.mk bz ⟨eG,eP,eQ⟩ lq)) (gY:T.length<499999) (gU:D.length<499999) (hlL:L.length<1000000) (hlq:lq.length<900000)
 (hP:∀ k,w.heap.size≤k→¬ P k) (pX:∀ k,B k→P k) (fM:B b3) (OC:B b6) (OD:B b7) (qw:¬ b4=b3) (uQ:¬ b5=b3) (uR:¬ b6=b3) (uS:¬ b7=b3) (Dt:¬ b7=b6) (Du:¬ b6=b7) (KH:¬ b3=b6) (KI:¬ b3=b7) (KJ:¬ b5=b6) (KL:¬ b5=b7) (GU:¬ b6=b5) (GV:¬ b7=b5) (PP:Ending→World→Prop)
 (hQ:∀ (vT vM vD vO vI:Sl) (L':List ax) (w':World),L'.map ax.core=(L.map ax.core).set j (IntKind.u32.wrap (bz+1),lq.map aF.core++[(⟨g,(j:Int),bz,ag,au,dz (fun x:Row=>x.key) ag au true T,dz (fun x:ak=>x.key) ag au true (fe D (ak.mk qc qs ag 2 false 0 0))⟩:Rg)])→ry P w' vT vM vD vO vI (dz (fun x:Row=>x.key) ag au false T) M (dz (fun x:ak=>x.key) ag au false (fe D (ak.mk qc qs ag 2 false 0 0))) L' I→av B w w'→PP (.returned (.tuple #[.agg #[.int .u8 g,.int .u8 n,vT.val,vM.val,vD.val,vO.val,vI.val],.agg (rP qc qs ag 2 false 0 0).toArray])) w') {K:Act→World→Prop} (hK:∀ a w,d.wp Tryz.prog (bodyPost Tryz.prog Tryz.f98 PP) a w→K a w) :
 c.wp Tryz.prog (Exit.then K (bodyPost Tryz.prog Tryz.f98 PP)) { tmps:=(List.toArray (α:=Value) (u0::u1::u2::.pointer (some ⟨b3,0,none⟩)::.pointer (some ⟨b4,0,none⟩)::.pointer (some ⟨b5,0,none⟩)::.pointer (some ⟨b6,0,none⟩)::.pointer (some ⟨b7,0,none⟩)::.slice ka kn kc::u9::jB::jg::jh::ji::jk::jl::u16::mW::oz::lJ::nC::mE::mF::mh::jC::jD::jw::j6::ig::ik::iq::iw::u32::jm::jq::jr::jE::jF::jG::jH::jI::jJ::jK::jL::jM::jN::jO::jP::jQ::jR::jS::jT::jU::jV::jW::jX::jY::kv::ky::kz::kC::kD::kE::kF::u64::kG::kH::kg::ko::kI::kJ::kK::kL::kM::kN::kP::kQ::kR::lK::lL::lN::lQ::lT::lU::lV::lW::lX::lY::lZ::l7::l8::l9::mf::mg::mi::mI::nE::nG::nH::nI::fU::fV::fZ::gm::gp::gq::gu::gy::gz::gB::gF::gG::gH::gJ::gK::gL::gM::gN::gP::gQ::iA::iB::iC::iD::iE::iF::iG::iH::iI::iJ::iK::iL::iM::iN::iO::iP::iQ::iR::iT::iU::iV::iW::iX::iY::iZ::jd::je::jf::[])),defers:=[] } w:=by
 injection hc with k0;injection k0 with e0 k1;clear e0;injection k1 with e1 k2;clear e1;injection k2 with e2 k3;clear e2;injection k3 with e3 k4;subst k4;subst e3;have H3:=ae h3;have H4:=ae h4;have H5:=ae h5;have H6:=ae h6;have H7:=ae h7;have HT:=ae hT;have HD:=ae hD;have AZ:=ae hO;have HI:=ae hI;have HM:=ae hM;have Vf:=ae hL;have A8:=ae hj;have HQ:=ae hQ;have NN:Hid (on=L.length∧j<L.length):=ae ⟨hO.len,(mV hj)⟩;clear h3 h4 h5 h6 h7 hT hD hO hI hM hL hj hQ;have hc0:w.cell? ⟨b3,4,none⟩=some (.slice da dn dc):=ah H3.out 4;go_upto_region 7 with (first
  | (with_reducible show cB 66 57 ..;go_must (refine dF b5 0 7 dD _ _ H5.out (rP qc qs ag 2 false 0 0) ?_))
  | (go_at_call 101;go_must (refine (Ca da dn dc D qc qs ag 2 false 0 0 _ HD.out.at_ gU).mono ?_;rintro e y1 ⟨v1,rfl,ho1,hb1⟩;have HB1:=ae hb1;have lG:=ae ho1;obtain ⟨⟨ea,en,ec⟩,hv1,hr1⟩:=eH (P:=P) (fun k hk=>hP k (Nat.le_trans (av.refl B _).size hk)) ho1 (fun _=>rfl);have nR:v1=.slice ea en ec:=hv1;subst nR;clear hv1;have HR1:=ae hr1;clear hr1 ho1 hb1))
  | (with_reducible show dJ 27 68 ..;go_must (refine oZ b3 4 (.slice ea en ec) (rS g n ta tn tc ma mn mc da dn dc oa on oc ia il ic) 31 (af HB1.out H3.out) (rS g n ta tn tc ma mn mc ea en ec oa on oc ia il ic) ?_;intro y2 h9 bJ;have HS2:=ae h9;have dL:=ae bJ;clear h9 bJ)))
 clear hc0;have hd0:y2.cell? ⟨b3,0,none⟩=some (.int .u8 g):=ah HS2.out 0;have hd1:y2.cell? ⟨b3,5,none⟩=some (.slice oa on oc):=ah HS2.out 5;have hd2:y2.cell? ⟨b4,3,none⟩=some (.int .u64 ag):=ah ((dL.out.block b4 qw).trans (af HB1.out H4.out)) 3;have hd3:y2.cell? ⟨b4,5,none⟩=some (.int .u64 au):=ah ((dL.out.block b4 qw).trans (af HB1.out H4.out)) 5;have hd4:y2.cell? ⟨b4,6,none⟩=some (.int .u8 (j:Int)):=ah ((dL.out.block b4 qw).trans (af HB1.out H4.out)) 6;obtain ⟨ob,oo,hoa,Jc,hox⟩:=(AZ.out.dV pX ((av.later HB1.out).trans (av.only dL.out fM))).at_.el (i:=j) (x:=(ax.mk bz ⟨eG,eP,eQ⟩ lq).cells) (by simp [A8.out]);obtain rfl:oa=some ⟨ob,oo,none⟩:=hoa;have hx0:y2.cell? ⟨ob,oo+j*2,none⟩=some (.int .u32 bz):=by simpa using hox 0 _ rfl
 clear hox;have hi1:(0:Int)≤(j:Int):=by omega
 have hi2:(j:Int)<(on:Int):=by have:=NN.out;omega
 have uu:Hid (w.heap.size≤y2.heap.size):=ae ((av.later HB1.out).trans (av.only dL.out fM)).size;have hz3:b3<w.heap.size:=(df H3.out);have Ld:b4<w.heap.size:=(df H4.out);have Le:b5<w.heap.size:=(df H5.out);have XT:b6<w.heap.size:=(df H6.out);have hz7:b7<w.heap.size:=(df H7.out);have hl3:b3<y2.heap.size:=Nat.lt_of_lt_of_le hz3 uu.out;have hl4:b4<y2.heap.size:=Nat.lt_of_lt_of_le Ld uu.out;go_wp2_with fail
 go_region
 have o8:Hid (Below y2.heap.size y2 (y2.alloc (.cells (rR g (j:Int) bz ag au none 0 0 none 0 0).toArray 52)).drew):=(aj y2 _).drew;have Xn:Hid ((y2.alloc (.cells (rR g (j:Int) bz ag au none 0 0 none 0 0).toArray 52)).drew.heap[y2.heap.size]? = some (.cells (rR g (j:Int) bz ag au none 0 0 none 0 0).toArray 52)):=heap_alloc_new y2 _;have xQ:Hid ((y2.alloc (.cells (rR g (j:Int) bz ag au none 0 0 none 0 0).toArray 52)).drew.heap.size=y2.heap.size+1):=by show _=_;simp
 generalize (y2.alloc (.cells (rR g (j:Int) bz ag au none 0 0 none 0 0).toArray 52)).drew=w9 at o8 Xn xQ;clear hd0 hd1 hd2 hd3 hd4 hx0;go_upto_region 8 with fail
 obtain ⟨b9,Lh⟩:∃ b9,b9=y2.heap.size:=⟨_,rfl⟩;rw [← Lh] at Xn ⊢;obtain ⟨P',hP'⟩:∃ P':Nat→Prop,P'=fun k=>P k∨k=b9:=⟨_,rfl⟩
 obtain ⟨B',hB'⟩:∃ B':Nat→Prop,B'=fun k=>B k∨k=b9:=⟨_,rfl⟩
 have inb:∀ k,B k→B' k:=by intro k hk;rw [hB'];exact .inl hk
 have aia:∀ k,B' k→P' k:=by intro k hk;rw [hB'] at hk;rw [hP'];exact hk.imp (pX k) id
 have inl:∀ k,P k→P' k:=by intro k hk;rw [hP'];exact .inl hk
 have Lg:∀ k,P' k→P k∨y2.heap.size≤k:=by
  intro k hk;rw [hP'] at hk;rcases hk with hk | hk
  ·exact .inl hk
  ·exact .inr (by omega)
 have hP9:∀ k,w9.heap.size≤k→¬ P' k:=by
  intro k hk e;rw [hP'] at e;have:=xQ.out;have:=uu.out;rcases e with e | e
  ·exact hP k (by omega) e
  ·omega
 have hsw:=uu.out;refine ah5 rfl w9 b3 b4 b5 b6 b7 b9 j g n bz ta tn tc ma mn mc ea en ec (some ⟨ob,oo,none⟩) on oc ia il ic ka kn kc eG eP eQ qc qs qk ag qv au T M (fe D (ak.mk qc qs ag 2 false 0 0)) L I lq P' B' (af o8.out HS2.out) (af o8.out ((dL.out.block b4 qw).trans (af HB1.out H4.out))) (af o8.out ((dL.out.block b5 uQ).trans (af HB1.out H5.out))) (af o8.out ((dL.out.block b6 uR).trans (af HB1.out H6.out))) (af o8.out ((dL.out.block b7 uS).trans (af HB1.out H7.out))) Xn.out (((HT.out.dV pX ((av.later HB1.out).trans (av.only dL.out fM))).to Lg).later o8.out) (((HR1.out.dV pX (av.only dL.out fM)).to Lg).later o8.out) (((AZ.out.dV pX ((av.later HB1.out).trans (av.only dL.out fM))).to Lg).later o8.out) (((HI.out.dV pX ((av.later HB1.out).trans (av.only dL.out fM))).to Lg).later o8.out) (((HM.out.dV pX ((av.later HB1.out).trans (av.only dL.out fM))).to Lg).later o8.out) (fun l hl=>(((Vf.out l hl).dV pX ((av.later HB1.out).trans (av.only dL.out fM))).to Lg).later o8.out) A8.out (by omega) (by have:=Yc D (ak.mk qc qs ag 2 false 0 0);omega) hlL hlq hP9 aia (inb _ fM) (inb _ OC) (inb _ OD) (by rw [hB'];exact .inr rfl) (by omega) (by omega) qw (by omega) (by omega) uQ (by omega) uR (by omega) uS Dt Du KH KI KJ KL GU GV PP ?_ (by first | assumption | exact fun _ _ h=>h);intro vT vM vD vO vI L' w' e1 hS hC;refine HQ.out vT vM vD vO vI L' w' e1 (hS.to (fun k hk=>.inl (inl k hk))) ((((av.later HB1.out).trans (av.only dL.out fM)).trans (av.later o8.out)).trans' hC (fun k hk h=>?_));rw [hB'] at h;rcases h with h | h
 ·exact h
 ·omega
end
end Go.Proofs.YtignemioillaiaaGreat
