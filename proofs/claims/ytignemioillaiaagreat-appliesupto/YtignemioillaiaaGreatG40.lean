/- The book: the lists of a shard: its list of numbers. -/
import Derived.Test.YtignemioillaiaaGreatG38
namespace Go.Proofs.YtignemioillaiaaGreat
set_option maxHeartbeats 8000000
set_option maxRecDepth 100000
section
open Go.RowKit Go.Lib
theorem Wu:(Tryz.prog.info? 29).map (fun i=>(i.zero,i.size,i.bytes))=some (some (.slice none 0 0),1,24):=by kernel_rfl
theorem YA:(Tryz.prog.info? 43).map (·.size)=some 1:=by kernel_rfl
theorem acd:(Tryz.prog.info? 47).map (·.size)=some 1:=by kernel_rfl
structure uB (te ts:TypeId) (size:Nat) (mk:Int→List Value) (KC:Value→Value→Array Value) (w wr:World) (A:Nat→Prop) (K:Nat) (n:Int) (S M:Value) (t:Sl) (ES EM:List (Sl×Int)) (Z:Nat→Prop):Prop where
 blk:wr.heap[K]? = some (.cells (KC S M) 46)
 own:wr.ownsRow 0 ts 1 S ES.length (ES.map fun x=>x.1.val)
 marks:wr.ownsRow 0 3 1 M EM.length (EM.map fun x=>Value.int .i64 x.2)
 all:∀ (i:Nat) (s:Sl) (m:Int),ES[i]? = some (s,m)→gX wr te size s (mk m)
 ahead:Ahead ES t n
 tm:gX wr te size t (mk n)
 fr:Fr A w wr
 kA:A K
 sS:∀ k,S.ownBlock=some k→A k∨w.heap.size≤k
 sM:∀ k,M.ownBlock=some k→A k∨w.heap.size≤k
 sT:∀ k,t.val.ownBlock=some k→A k∨w.heap.size≤k
 off:∀ c,c<w.heap.size→¬ A c→Z c→dH (some c) ES
 bnd:∀ (i:Nat) (s:Sl) (m:Int),ES[i]? = some (s,m)→0≤m∧m≤100000000
 nb:0≤n∧n≤100000000
section
variable {te ts:TypeId} {size:Nat} {mk:Int→List Value} {KC:Value→Value→Array Value} {w wr:World} {A:Nat→Prop} {K:Nat} {n:Int} {S M:Value} {t:Sl} {ES EM:List (Sl×Int)} {Z:Nat→Prop}
theorem uB.later {w':World} (h:uB te ts size mk KC w wr A K n S M t ES EM Z) (hb:Below wr.heap.size wr w'):uB te ts size mk KC w w' A K n S M t ES EM Z :=
 ⟨af hb h.blk,ay h.own hb,ay h.marks hb,fun i s m hi=>ay (h.all i s m hi) hb,h.ahead,ay h.tm hb,h.fr.later hb,h.kA,h.sS,h.sM,h.sT,h.off,h.bnd,h.nb⟩
theorem uB.join {w5 w6:World} {S':Value} {o:Obj} (hk:Af te ts) (h:uB te ts size mk KC w wr A K n S M t ES EM Z) (ho:w5.ownsRow 0 ts 1 S' (ES.length+1) ((ES.map fun x=>x.1.val)++[t.val])) (hg:fC (wr.alloc o) S w5 S')
 (hW:w6.heap[K]? = some (.cells (KC S' M) 46)) (hO:Only K w5 w6):uB te ts size mk KC w w6 A K n S' M t (ES++[(t,n)]) EM Z:=by
 have h1:=h.later (aj wr o);have rH:=hg.blk h1.blk (Ne.symm (bf h1.own h1.blk hk.sb));have gO:=rV hO;have he:∀ s m,gX (wr.alloc o) te size s (mk m)→gX w6 te size s (mk m):=fun s m hm=>by
  have a1:=World.ownsRow.kept hm hg.grown (dI hm h1.own hk.es);exact World.ownsRow.kept a1 gO (.inr (bf a1 rH hk.eb))
 have Ck:=h1.marks.kept hg.grown (dI h1.marks h1.own (Ne.symm hk.si));refine ⟨hW,?_,Ck.kept gO (.inr (bf Ck rH (by decide))),?_,?_,he t n h1.tm,(h1.fr.grown hg.grown h.sS).grown gO (fun k e=>.inl (by injection e with e;rw [← e];exact h.kA)),h.kA,origin h.sS hg h1.fr.size,h.sM,h.sT,?_,(fun i s m hi=>by rcases zS hi with h2 | ⟨rfl,rfl⟩;exact h.bnd i s m h2;exact h.nb),h.nb⟩
 ·rw [List.length_append,List.map_append]
  exact (World.ownsRow.kept ho gO (.inr (bf ho rH hk.sb)))
 ·intro i s m hi
  rcases zS hi with h2 | ⟨rfl,rfl⟩
  ·exact he s m (h1.all i s m h2)
  ·exact he s m h1.tm
 ·intro i s m hi
  rcases zS hi with h2 | ⟨rfl,rfl⟩
  ·exact h.ahead i s m h2
  ·exact .inr (.inr ⟨rfl,rfl,Nat.le_refl _,rfl⟩)
 ·intro c hc hA hZ
  refine dH.snoc (h.off c hc hA hZ) fun k hk2 e=>?_
  injection e with e;subst e;rcases h.sT c hk2 with h3 | h3
  ·exact hA h3
  ·omega
theorem uB.count {w5 w6:World} {M':Value} {o:Obj} (hk:Af te ts) (h:uB te ts size mk KC w wr A K n S M t ES EM Z) (ho:w5.ownsRow 0 3 1 M' (EM.length+1) ((EM.map fun x=>Value.int .i64 x.2)++[.int .i64 n])) (hg:fC (wr.alloc o) M w5 M')
 (hW:w6.heap[K]? = some (.cells (KC S M') 46)) (hO:Only K w5 w6):uB te ts size mk KC w w6 A K n S M' t ES (EM++[(t,n)]) Z:=by
 have h1:=h.later (aj wr o);have rH:=hg.blk h1.blk (Ne.symm (bf h1.marks h1.blk (by decide)));have gO:=rV hO;have he:∀ s m,gX (wr.alloc o) te size s (mk m)→gX w6 te size s (mk m):=fun s m hm=>by
  have a1:=World.ownsRow.kept hm hg.grown (dI hm h1.marks hk.ei);exact World.ownsRow.kept a1 gO (.inr (bf a1 rH hk.eb))
 have hs5:=h1.own.kept hg.grown (dI h1.own h1.marks hk.si);refine ⟨hW,hs5.kept gO (.inr (bf hs5 rH hk.sb)),?_,fun i s m hi=>he s m (h1.all i s m hi),h.ahead,he t n h1.tm,(h1.fr.grown hg.grown h.sM).grown gO (fun k e=>.inl (by injection e with e;rw [← e];exact h.kA)),h.kA,h.sS,origin h.sM hg h1.fr.size,h.sT,h.off,h.bnd,h.nb⟩;rw [List.length_append,List.map_append];exact (World.ownsRow.kept ho gO (.inr (bf ho rH (by decide))))
theorem uB.longer {w5:World} {t':Sl} {o:Obj} (hk:Af te ts) (hc:(mk n).length=size) (hsz:0<size) (h:uB te ts size mk KC w wr A K n S M t ES EM Z) (hl:t'.len=t.len+1) (ho:w5.ownsRow 0 te size t'.val (t.len+1) ((List.replicate t.len (mk n)).flatten++mk n)) (hg:fC (wr.alloc o) t.val w5 t'.val) (hold:w5.ownsRow 0 te size t.val t.len (List.replicate t.len (mk n)).flatten):uB te ts size mk KC w w5 A K n S M t' ES EM Z:=by
 have h1:=h.later (aj wr o);have hnew:gX w5 te size t' (mk n):=by
  unfold gX;rw [hl,List.replicate_succ',List.flatten_append];simpa using ho
 refine ⟨hg.blk h1.blk (Ne.symm (bf h1.tm h1.blk hk.eb)),h1.own.kept hg.grown (dI h1.own h1.tm (Ne.symm hk.es)),h1.marks.kept hg.grown (dI h1.marks h1.tm (Ne.symm hk.ei)),?_,?_,hnew,h1.fr.grown hg.grown h.sT,h.kA,h.sS,h.sM,origin h.sT hg h1.fr.size,h.off,h.bnd,h.nb⟩
 ·intro i s m hi
  rcases h.ahead i s m hi with h2 | h2 | ⟨h2,h3,h4,rfl⟩
  ·exact World.ownsRow.kept (h1.all i s m hi) hg.grown (.inl h2)
  ·exact World.ownsRow.kept (h1.all i s m hi) hg.grown (.inr h2)
  ·exact NV (t:=t) hold hc h2 h3 h4
 ·intro i s m hi
  cases hb:s.val.ownBlock with
  | none=>exact .inl rfl
  | some c =>
   refine .inr ?_;have hlt:=(World.ownsRow.lt (h1.all i s m hi) c hb).2;rcases hg.own with ho2 | ho2
   ·rcases h.ahead i s m hi with h2 | h2 | ⟨h2,h3,h4,rfl⟩
    ·rw [hb] at h2;cases h2
    ·left;rw [ho2,← hb];exact h2
    ·right
     have hb2:t.val.ownBlock=some c:=by
      rw [← hb];unfold Sl.val;rw [h2];cases t.a <;> rfl
     have hb3:=ho2.trans hb2;rcases hold.2 with ⟨e1,_⟩ | ⟨g,cap,cur,e1,_,e3,_,_,e6,_⟩
     ·rw [e1] at hb2;cases hb2
     rcases ho.2 with ⟨DW,_⟩ | ⟨g',cap',cur',DW,_,e3',_,_,e6',_⟩
     ·rw [DW] at hb3;cases hb3
     have hgc:g=c:=by rw [e1] at hb2;simpa [Value.ownBlock] using hb2
     have Z5:g'=c:=by rw [DW] at hb3;simpa [Value.ownBlock] using hb3
     subst hgc;subst Z5;rw [e3] at e3';injection e3' with e3';injection e3' with e3';subst e3';have hcap:cap=cap':=Nat.eq_of_mul_eq_mul_right hsz (e6.symm.trans e6');simp only [Sl.val,Value.slice.injEq] at e1 DW;exact ⟨by rw [h2,e1.1,DW.1],by rw [h3,e1.2.2,DW.2.2,hcap],by omega,rfl⟩
   ·left
    intro e;have:=ho2 c e.symm;omega
end
theorem ace {c c5 c6 c7 c8 rest a0 a1 a2 a3:Code} (hc:Tryz.f16.body=some (a0.seq (a1.seq (a2.seq (a3.seq (c.seq (c5.seq (c6.seq (c7.seq (c8.seq rest)))))))))) {u1 u2 u4 u5 u6 u7 u8 u9 jB jg jh ji jk jl u16 mW oz lJ nC mE mF mh jC jD jw j6 ig ik iq iw u32 jm jq jr jE jF jG jH jI jJ jK jL jM jN jO jP jQ jR jS jT jU jV jW jX jY kv ky kz kC kD kE kF u64 kG kH kg ko kI kJ kK kL kM kN kP kQ kR lK lL lN lQ lT lU lV lW lX lY lZ l7 l8 l9 mf mg mi mI nE nG nH nI fU fV fZ gm gp gq gu gy gz gB gF gG gH gJ gK gL gM gN gP gQ iA iB iC iD iE iF iG iH iI iJ iK iL iM iN iO iP iQ iR iT iU iV iW iX iY iZ jd je jf kU kV kW kX lg lh ll lu lv lC lD:Value} (Kb n:Nat) (vR vP vC vV vL vG vI m0 m1 m2 m3 m4 m5 m6:Value) (R:List (Sl×Int)) (sa:Option Addr) (sn sc:Nat) (xs:List Value) (w:World)
 (hK:w.heap[Kb]? = some (.cells #[.int .i64 n,vR,vP,vC,vV,vL,vG,vI,m0,m1,m2,m3,m4,m5,m6] 46)) (hC:rz w 29 47 1 wQ vI m6 R) (hs:w.ownsRow 0 47 1 (.slice sa sn sc) sn xs) (hoff:dH (Value.ownBlock (.slice sa sn sc)) R) (hn:n≤10000000) (hsn:sn≤10000000) (hRl:R.length≤100000000) (b3:Nat) (cX:Array Value) (hX:w.heap[b3]? = some (.cells cX 31)) (hX6:cX[6]? = some (.slice sa sn sc)) (OW:b3≠Kb)
 (PP:Ending→World→Prop) (hQ:∀ (S' M':Value) (R':List (Sl×Int)) (w':World) (v1 v2 v4 v5 v6 v7 v8 v9 PK PL PM PN PO PQ XX PR PS PT PU PV PW PX GQ GR JF DY XY XZ X0 X3 X4 PY PZ P6 P7 P8 Qa Qb Qc Qd Qe Qf Qg Qh Qi Qj Qk Ql Qm Qn Qo Qp Qq Qr Qs Qt Qu Qv Qw Qx Qy Qz QA QB QC X5 X6 QD QE QF QG QH QI QJ QK QL QM QN QO QP QQ QR QS QT QU QW QX QY QZ Q3 Q4 Q5 JG JH JI JJ JK JL DZ D5 D6 D7 D8 D9 Ea Eb Ec Ed Ee Ef Eg Eh Ei Ej El Em En Eo Ep Er Es Et Eu Ev Ew Ex Ey Ez EA EB EC ED EE EF EG EH EI EJ EK EL EN EO EP ER ET EU EW EX EY EZ BH BI BJ BK BL BM BN:Value),w'.heap[Kb]? = some (.cells #[.int .i64 ((n:Int)+1),vR,vP,vC,vV,vL,vG,S',m0,m1,m2,m3,m4,m5,M'] 46)→rz w' 29 47 1 wQ S' M' R'→R'.length=R.length+4→Fr (ed Kb (.slice sa sn sc) vI m6) w w'→(∀ c,c<w.heap.size→¬ (ed Kb (.slice sa sn sc) vI m6) c→dH (some c) R→dH (some c) R')→(∀ k,S'.ownBlock=some k→(ed Kb (.slice sa sn sc) vI m6) k∨w.heap.size≤k)→(∀ k,M'.ownBlock=some k→(ed Kb (.slice sa sn sc) vI m6) k∨w.heap.size≤k)→rest.wp Tryz.prog (bodyPost Tryz.prog Tryz.f16 PP) { tmps:=(List.toArray (α:=Value) (.pointer (some ⟨Kb,0,none⟩)::v1::v2::.pointer (some ⟨b3,0,none⟩)::v4::v5::v6::v7::v8::v9::PK::PL::PM::PN::PO::PQ::XX::PR::PS::PT::PU::PV::PW::PX::GQ::GR::JF::DY::XY::XZ::X0::X3::X4::PY::PZ::P6::P7::P8::Qa::Qb::Qc::Qd::Qe::Qf::Qg::Qh::Qi::Qj::Qk::Ql::Qm::Qn::Qo::Qp::Qq::Qr::Qs::Qt::Qu::Qv::Qw::Qx::Qy::Qz::QA::QB::QC::X5::X6::QD::QE::QF::QG::QH::QI::QJ::QK::QL::QM::QN::QO::QP::QQ::QR::QS::QT::QU::QW::QX::QY::QZ::Q3::Q4::Q5::JG::JH::JI::JJ::JK::JL::DZ::D5::D6::D7::D8::D9::Ea::Eb::Ec::Ed::Ee::Ef::Eg::Eh::Ei::Ej::El::Em::En::Eo::Ep::Er::Es::Et::Eu::Ev::Ew::Ex::Ey::Ez::EA::EB::EC::ED::EE::EF::EG::EH::EI::EJ::EK::EL::EN::EO::EP::ER::ET::EU::EW::EX::EY::EZ::BH::BI::BJ::BK::BL::BM::BN::[])),defers:=[] } w') {K:Act→World→Prop} (hKK:∀ a w,Code.wp Tryz.prog (c5.seq (c6.seq (c7.seq (c8.seq rest)))) (bodyPost Tryz.prog Tryz.f16 PP) a w→K a w) :
 c.wp Tryz.prog (Exit.then K (bodyPost Tryz.prog Tryz.f16 PP)) { tmps:=(List.toArray (α:=Value) (.pointer (some ⟨Kb,0,none⟩)::u1::u2::.pointer (some ⟨b3,0,none⟩)::u4::u5::u6::u7::u8::u9::jB::jg::jh::ji::jk::jl::u16::mW::oz::lJ::nC::mE::mF::mh::jC::jD::jw::j6::ig::ik::iq::iw::u32::jm::jq::jr::jE::jF::jG::jH::jI::jJ::jK::jL::jM::jN::jO::jP::jQ::jR::jS::jT::jU::jV::jW::jX::jY::kv::ky::kz::kC::kD::kE::kF::u64::kG::kH::kg::ko::kI::kJ::kK::kL::kM::kN::kP::kQ::kR::lK::lL::lN::lQ::lT::lU::lV::lW::lX::lY::lZ::l7::l8::l9::mf::mg::mi::mI::nE::nG::nH::nI::fU::fV::fZ::gm::gp::gq::gu::gy::gz::gB::gF::gG::gH::gJ::gK::gL::gM::gN::gP::gQ::iA::iB::iC::iD::iE::iF::iG::iH::iI::iJ::iK::iL::iM::iN::iO::iP::iQ::iR::iT::iU::iV::iW::iX::iY::iZ::jd::je::jf::kU::kV::kW::kX::lg::lh::ll::lu::lv::lC::lD::[])),defers:=[] } w:=by
 injection hc with k0;injection k0 with e0 k1;clear e0;injection k1 with e1 k2;clear e1;injection k2 with e2 k3;clear e2;injection k3 with e3 k4;clear e3;injection k4 with e4 k5;injection k5 with e5 k6;injection k6 with e6 k7;injection k7 with e7 k8;injection k8 with e8 k9;clear k9;subst e4;subst e5;subst e6;subst e7;subst e8;have Ud:=ae hQ;have HX:=ae hX;clear hQ hX;obtain ⟨i0,hi0,hz0,hz1,hz2⟩:=info_parts Jo;obtain ⟨ir,hir,Fj,Fp,Fq⟩:=info_parts Wu;obtain ⟨ii,hii,zJ,zK,zL⟩:=info_parts Az;have eB:Af 47 29:=⟨by decide,by decide,by decide,by decide,by decide⟩;have Mk:Kb<w.heap.size:=(df hK);have hw1:IntKind.i64.wrap (77+(n:Int))=77+(n:Int):=by rw [IntKind.wrap_i64];omega
 have hw2:IntKind.u32.wrap (77+(n:Int))=77+(n:Int):=by have e:IntKind.u32.wrap (77+(n:Int))=(77+(n:Int))%4294967296:=rfl;rw [e];omega
 have hw3:IntKind.i64.wrap ((n:Int)+1)=(n:Int)+1:=by rw [IntKind.wrap_i64];omega
 have hcK:=ah hK;have hb1:Below w.heap.size w w:=Below.refl _ _;have hK1:=hK;go_upto_region 7 with (first
  | (with_reducible show dJ 3 37 ..;go_must (refine oZ Kb 0 (.int .i64 ((n:Int)+1)) _ _ hK1 [.int .i64 ((n:Int)+1),vR,vP,vC,vV,vL,vG,vI,m0,m1,m2,m3,m4,m5,m6] ?_;intro w2 hK2 hO2;have aac:w2.cell? ⟨b3,6,none⟩=some (.slice sa sn sc):=(ah ((hO2.block b3 OW).trans HX.out) 6).trans hX6)))
 clear aac;have rY:=hC.below hb1;have wN:=rV hO2;have hC2:=rY.kept wN (.inr (bf rY.own hK1 eB.sb)) (.inr (bf rY.marks hK1 (by decide))) (rY.off hK1 eB.eb);have hs1:=ay hs hb1;have hs2:=World.ownsRow.kept hs1 wN (.inr (bf hs1 hK1 eB.eb));have hF2:Fr (ed Kb (.slice sa sn sc) vI m6) w w2:=((Fr.refl _ w).later hb1).grown wN (fun k e=>.inl (.inl (by injection e with e;exact e.symm)));have hsz2:w.heap.size≤w2.heap.size:=by rw [hO2.size];exact Nat.le_refl _
 have lH:=ae hC2;have wy:=ae hF2;have HS2:=ae hs2;have zM:Value.ownBlock (.slice sa sn sc)≠some Kb:=bf hs2 hK2 eB.eb;clear hC2 hF2 rY hs1 hcK hK1 hO2 hb1 hs hC wN;go_wp2_with fail
 go_loopw [6] (fun i wr=>∃ k:Nat,k≤sn∧i=.int .i64 k∧Hid (∃ ys,wr.ownsRow 0 47 1 (.slice sa sn sc) sn ys∧ys.take (k*1)=(List.replicate k (wQ n)).flatten)∧Hid (w2.grownBy wr (Value.ownBlock (.slice sa sn sc)))) (fun i _=>sn - (intOf i).toNat)
 case atStart=>exact ⟨0,Nat.zero_le _,rfl,⟨_,hs2,by simp⟩,⟨rfl,rfl,rfl,Nat.le_refl _,fun _ _ _=>rfl⟩⟩
 case round =>
  clear hs2;obtain ⟨k,hk,rfl,HO,HG⟩:=hrel;by_cases hlt:k<sn
  ·obtain ⟨ys,hown,hys⟩:=HO.out
   rcases hown.2 with ⟨_,hz⟩ | ⟨gb,cap,dP,hv,hbg,hgg,hnc,hcm,hcs,htk⟩
   ·omega
   ·simp only [Value.slice.injEq] at hv
    obtain ⟨rfl,_,rfl⟩:=hv;have hW:wr.heap[gb]? = some (.cells dP.toList.toArray 47):=by rw [hgg]
    have hdk:decide ((k:Int)<(sn:Int))=true:=by simp;omega
    have hi1:(0:Int)≤(k:Int):=by omega
    have hi2:(k:Int)<(sn:Int):=by omega
    have yR:dP.toList.length=sc*1:=by simpa using hcs
    have hfit:Nat.ble (k+1) dP.toList.length=true:=by rw [yR];simp [Nat.ble_eq];omega
    obtain ⟨zs,hzs⟩:∃ zs,zs=dP.toList.take k++[.int .u32 (77+(n:Int))]++dP.toList.drop (k+1):=⟨_,rfl⟩;have hzl:zs.length=dP.size:=by rw [hzs,hcs];simp;omega
    have JZ:Hid (zs.take ((k+1)*1)=(List.replicate (k+1) (wQ n)).flatten):=by
     show _=_;rw [hzs];have e0:dP.toList.take k++[.int .u32 (77+(n:Int))]++dP.toList.drop (k+1)=dP.toList.take (k*1)++wQ n++dP.toList.drop (k*1+1):=by rw [Nat.mul_one];rfl
     rw [e0];refine AA (cs:=wQ n) rfl ?_ (by rw [yR];exact Nat.mul_le_mul_right _ (Nat.le_trans hlt hnc));rw [← hys,← htk,List.take_take,Nat.min_eq_left (Nat.mul_le_mul_right _ hk)]
    clear hown hgg HO hys htk;go_wp2_with (first | (with_reducible show dJ 47 49 ..;go_must (refine cZ rfl _ _ _ rfl rfl gb k rfl (.int .u32 (77+(n:Int))) rfl acd rfl _ _ hW hfit zs hzs.symm ?_;intro w9 Bu oG)))
    go_roundw
    case rel =>
     refine ⟨k+1,by omega,by go_num,⟨_,wX hbg hnc hcm hcs hzl Bu,?_⟩,?_⟩
     ·rw [List.take_take,Nat.min_eq_left (Nat.mul_le_mul_right _ hlt)]
      exact JZ.out
     ·exact ⟨oG.os.trans HG.out.os,oG.tape.trans HG.out.tape,oG.output.trans HG.out.output,by rw [oG.size];exact HG.out.size,fun b hb hne=>(oG.block b (fun e=>hne (by rw [e];rfl))).trans (HG.out.block b hb hne)⟩
    case measure=>simp [intOf];omega
  ·have hdk:decide ((k:Int)<(sn:Int))=false:=by simp;omega
   have hkn:sn=k:=by omega
   subst hkn;have hm:gX wr 47 1 ⟨sa,sn,sc⟩ (wQ n):=by
    obtain ⟨ys,hown,hys⟩:=HO.out;have:ys=(List.replicate sn (wQ n)).flatten:=by rw [← hys,List.take_of_length_le (by rw [hown.1];exact Nat.le_refl _)]
    rw [this] at hown;exact hown
   have RS:Hid (uB 47 29 1 wQ (fun S M=>#[.int .i64 ((n:Int)+1),vR,vP,vC,vV,vL,vG,S,m0,m1,m2,m3,m4,m5,M]) w wr (ed Kb (.slice sa sn sc) vI m6) Kb n vI m6 ⟨sa,sn,sc⟩ R R (fun c=>dH (some c) R)):=by
    have o1:=dI lH.out.own HS2.out (Ne.symm eB.es);have o2:=dI lH.out.marks HS2.out (Ne.symm eB.ei);have uW:=lH.out.kept HG.out o1 o2 hoff;refine ⟨(HG.out.block Kb (by omega) (Ne.symm zM)).trans hK2,uW.own,uW.marks,uW.all,fun i s m hi=>?_,hm,wy.out.grown HG.out (fun k e=>.inl (.inr (.inl e.symm))),.inl rfl,fun k e=>.inl (.inr (.inr (.inl e.symm))),fun k e=>.inl (.inr (.inr (.inr e.symm))),fun k e=>.inl (.inr (.inl e.symm)),fun c _ _ h=>h,uW.bnd,by omega⟩;cases hb:s.val.ownBlock with
    | none=>exact .inl rfl
    | some c=>exact .inr (.inl fun e=>hoff i s m hi c hb e.symm)
   clear hm HO HG hK2 zM;go_wp2_with fail
   go_loopw [5,7] (fun v i wx=>∃ (j:Nat) (S M:Value) (ta:Option Addr) (tl tc:Nat) (E:List (Sl×Int)),v=.slice ta tl tc∧i=.int .i64 j∧j≤4∧Hid (tl=sn+j)∧Hid (E.length=R.length+j)∧Hid (uB 47 29 1 wQ (fun S M=>#[.int .i64 ((n:Int)+1),vR,vP,vC,vV,vL,vG,S,m0,m1,m2,m3,m4,m5,M]) w wx (ed Kb (.slice sa sn sc) vI m6) Kb n S M ⟨ta,tl,tc⟩ E E (fun c=>dH (some c) R))) (fun _ i _=>4 - (intOf i).toNat)
   case atStart=>exact ⟨0,_,_,sa,sn,sc,R,rfl,rfl,by omega,rfl,rfl,RS⟩
   case round =>
    clear RS hdk;obtain ⟨j,S,M,ta,tl,tc,E,rfl,rfl,hj,CL,uX,RS⟩:=hrel;have qx:Hid (E.length≤100000004):=by have:=uX.out;show _≤_;omega
    have qL:=ah RS.out.blk;by_cases U6:j<4
    ·have hdj:decide ((j:Int)<4)=true:=by simp;omega
     go_upto_region 15 with (first | (with_reducible show yw 61 ..;go_must (refine aZ _ rfl _ _ 43 rfl 0 29 ir (.slice none 0 0) 1 24 ahj hir Fj Fp Fq rfl (by decide) S E.length (E.map fun (x:Sl×Int)=>x.1.val) rfl (World.ownsRow.alloc RS.out.own _) _ 1 1 [.slice ta tl tc] rfl rfl ?_ ?_ ?_ ?_ (Nat.zero_le _) ?_;(· exact cu rfl);(· exact cz rfl);(· (have:=qx.out;unfold maxLen;omega));(· (have:=qx.out;omega));intro S' w5 lF hg5;have rH:=hg5.blk (af (aj _ _) RS.out.blk) (Ne.symm (bf RS.out.own RS.out.blk eB.sb)))) | (with_reducible show dJ 43 63 ..;go_must (refine cZ rfl _ _ _ rfl rfl Kb 7 rfl S' rfl YA (dR lF) _ _ rH rfl [.int .i64 ((n:Int)+1),vR,vP,vC,vV,vL,vG,S',m0,m1,m2,m3,m4,m5,M] rfl ?_;intro w6 Bf zx)))
     have eX:=ae (uB.join eB RS.out lF hg5 Bf zx);clear RS lF hg5 Bf zx rH qL;have qL:=ah eX.out.blk;have Fs:=oh (Below.refl _ w6) eX.out.blk;have Fu:=(df eX.out.blk);have hc0:w6.cell? ⟨Kb,0,none⟩=some (.int .i64 ((n:Int)+1)):=qL 0;have hcA:=fun (o:Obj)=>ah (af (aj w6 o) eX.out.blk)
     have hw4:(n:Int)+1 - 1=(n:Int):=by omega
     have Yx:IntKind.i64.wrap (n:Int)=(n:Int):=by rw [IntKind.wrap_i64];omega
     have qZ:=World.ownsRow.alloc eX.out.marks (.cells #[.int .i64 n] 3);go_cut [4] from 50 to 83 (fun s wx=>s=.int .u32 (77+(n:Int))∧∃ M':Value,Hid (uB 47 29 1 wQ (fun S M=>#[.int .i64 ((n:Int)+1),vR,vP,vC,vV,vL,vG,S,m0,m1,m2,m3,m4,m5,M]) w wx (ed Kb (.slice sa sn sc) vI m6) Kb n S' M' ⟨ta,tl,tc⟩ (E++[(⟨ta,tl,tc⟩,(n:Int))]) (E++[(⟨ta,tl,tc⟩,(n:Int))]) (fun c=>dH (some c) R)))
     case first =>
      refine wp_region_noPanic ?_;refine wp_region_held_drew (S:=(fun w'=>w'.cell? ⟨Kb,0,none⟩=some (.int .i64 ((n:Int)+1)))) (by kernel_rfl) (hc0) (fun hHeld=>?_);refine dC 0 ?_;try simp only [Act.put,dK]
      refine dC 1 ?_;try simp only [Act.put]
      refine dC 2 ?_;try simp only [Act.put]
      refine dC 3 ?_;try simp only [Act.put]
      refine dC 4 ?_;try simp only [Act.put]
      refine dC 6 ?_;try simp only [Act.put]
      refine dC 7 ?_;try simp only [Act.put]
      refine dC 8 ?_;try simp only [Act.put]
      refine dC 9 ?_;try simp only [Act.put]
      refine dC 10 ?_;try simp only [Act.put]
      refine dC 13 ?_;try simp only [Act.put]
      refine dC 14 ?_;try simp only [Act.put]
      refine wpAnyH_ready (rs:=[5,11]) (by kernel_rfl) (by simp) ?_;refine AllReadyH.cons (o:=_) rfl (fun K hK=>?_) (AllReadyH.cons (o:=_) rfl (fun K hK=>?_) AllReadyH.nil)
      ·go_simp
       refine hK.out _ _ (hc0) (fun hHeld=>?_);clear hK K;try simp only [Act.put,dK,fF,fG]
       refine mo 11 (fun K hK=>?_);go_simp
       refine hK.out _ _ (hcA _ 0) (fun hHeld=>?_);clear hK K;try simp only [Act.put,dK,fF,fG]
       refine mo 12 (fun K hK=>?_);refine jv rfl _ _ 23 rfl 0 3 ii (.int .i64 0) 1 8 AL hii zJ zK zL rfl (by decide) M E.length (E.map fun (x:Sl×Int)=>Value.int .i64 x.2) rfl qZ ⟨w6.heap.size,0,none⟩ 1 1 [.int .i64 n] rfl rfl (cu rfl) (cz rfl) (by have:=qx.out;unfold maxLen;omega) (by have:=qx.out;omega) (Nat.zero_le _) ?_;intro M' w' ho hg;obtain ⟨ma,ml,mc,rfl⟩:=aB ho;have hKn:=(nz hg).blk (af (aj w6 _) eX.out.blk) (Ne.symm (bf eX.out.marks eX.out.blk (by decide)));have mX:=ae (uB.count eB eX.out ho (nz hg) (by rw [heap_setCell_same w' Kb 14 _ _ _ hKn];rfl) (oH w' Kb 14 (.slice ma ml mc)));have hcn:=ah hKn;have hfn:=oh (Below.refl _ w') hKn;clear ho hg hKn;refine hK.out _ _ (hcn 0) (fun hHeld=>?_);clear hK K;try simp only [Act.put,dK]
       refine dC 15 ?_;try simp only [Act.put]
       refine mo 16 (fun K hK=>?_);go_simp
       refine hK.out _ _ ((ah mX.out.blk 0)) (fun hHeld=>?_);clear hK K;try simp only [Act.put,dK,fF,fG]
       refine wpAnyH_done (by kernel_rfl) ?_ _;refine NoPanic.normal ?_;go_wp2_with fail
       go_meet
       exact ⟨rfl,_,mX⟩
      ·go_simp
       refine hK.out _ _ (hcA _ 0) (fun hHeld=>?_);clear hK K;try simp only [Act.put,dK,fF,fG]
       refine mo 5 (fun K hK=>?_);go_simp
       refine hK.out _ _ (hcA _ 0) (fun hHeld=>?_);clear hK K;try simp only [Act.put,dK,fF,fG]
       refine mo 12 (fun K hK=>?_);refine jv rfl _ _ 23 rfl 0 3 ii (.int .i64 0) 1 8 AL hii zJ zK zL rfl (by decide) M E.length (E.map fun (x:Sl×Int)=>Value.int .i64 x.2) rfl qZ ⟨w6.heap.size,0,none⟩ 1 1 [.int .i64 n] rfl rfl (cu rfl) (cz rfl) (by have:=qx.out;unfold maxLen;omega) (by have:=qx.out;omega) (Nat.zero_le _) ?_;intro M' w' ho hg;obtain ⟨ma,ml,mc,rfl⟩:=aB ho;have hKn:=(nz hg).blk (af (aj w6 _) eX.out.blk) (Ne.symm (bf eX.out.marks eX.out.blk (by decide)));have mX:=ae (uB.count eB eX.out ho (nz hg) (by rw [heap_setCell_same w' Kb 14 _ _ _ hKn];rfl) (oH w' Kb 14 (.slice ma ml mc)));have hcn:=ah hKn;have hfn:=oh (Below.refl _ w') hKn;clear ho hg hKn;refine hK.out _ _ (hcn 0) (fun hHeld=>?_);clear hK K;try simp only [Act.put,dK]
       refine dC 15 ?_;try simp only [Act.put]
       refine mo 16 (fun K hK=>?_);go_simp
       refine hK.out _ _ ((ah mX.out.blk 0)) (fun hHeld=>?_);clear hK K;try simp only [Act.put,dK,fF,fG]
       refine wpAnyH_done (by kernel_rfl) ?_ _;refine NoPanic.normal ?_;go_wp2_with fail
       go_meet
       exact ⟨rfl,_,mX⟩
     case rest =>
      obtain ⟨rfl,M',mX⟩:=hcut;clear eX qL Fs Fu hc0 hcA qZ;have J2:wc.ownsRow 0 47 1 (.slice ta tl tc) tl (List.replicate tl (wQ n)).flatten:=mX.out.tm;have CO:Hid (tl≤10000260):=by have:=CL.out;show _≤_;omega
      go_wp2_with (first
       | (with_reducible show yw 83 ..;go_must (refine nZ _ rfl _ _ 29 rfl 0 47 i0 (.int .u32 0) 1 4 RL hi0 hz0 hz1 hz2 rfl (by decide) (.slice ta tl tc) tl (List.replicate tl (wQ n)).flatten rfl (World.ownsRow.alloc J2 _) _ 1 1 [.int .u32 (77+(n:Int))] rfl rfl ?_ ?_ ?_ ?_ (Nat.zero_le _) ?_;(· exact cu rfl);(· exact cz rfl);(· (have:=CO.out;unfold maxLen;omega));(· (have:=CO.out;omega));intro v' w7 yX J3 J4;obtain ⟨ua,ul,uc,rfl⟩:=aB yX)))
      have J5:=Ak yX;go_roundw
      case rel=>exact ⟨j+1,_,_,ua,ul,uc,E++[(⟨ta,tl,tc⟩,(n:Int))],rfl,by go_num,by omega,(by have:=CL.out;show _=_;omega),(by have:=uX.out;show _=_;simp;omega),uB.longer (t:=⟨ta,tl,tc⟩) (t':=⟨ua,ul,uc⟩) eB rfl (by decide) mX.out J5 yX J3 J4⟩
      case measure=>simp [intOf];omega
    ·have hdj:decide ((j:Int)<4)=false:=by simp;omega
     have J6:j=4:=by omega
     subst J6;go_wp2_with fail
     exact Ud.out S M E _ _ _ _ _ _ _ _ _ _ _ _ _ _ _ _ _ _ _ _ _ _ _ _ _ _ _ _ _ _ _ _ _ _ _ _ _ _ _ _ _ _ _ _ _ _ _ _ _ _ _ _ _ _ _ _ _ _ _ _ _ _ _ _ _ _ _ _ _ _ _ _ _ _ _ _ _ _ _ _ _ _ _ _ _ _ _ _ _ _ _ _ _ _ _ _ _ _ _ _ _ _ _ _ _ _ _ _ _ _ _ _ _ _ _ _ _ _ _ _ _ _ _ _ _ _ _ _ _ _ _ _ _ _ _ _ _ _ _ _ _ _ _ _ _ _ _ _ _ _ _ _ _ _ _ _ _ _ RS.out.blk ⟨RS.out.own,RS.out.marks,RS.out.all,RS.out.bnd⟩ uX.out RS.out.fr RS.out.off RS.out.sS RS.out.sM
end
end Go.Proofs.YtignemioillaiaaGreat
