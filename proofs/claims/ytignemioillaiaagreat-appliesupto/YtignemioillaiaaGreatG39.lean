/- The book: the lists of a shard: its list of lanes. -/
import Derived.Test.YtignemioillaiaaGreatG38
namespace Go.Proofs.YtignemioillaiaaGreat
set_option maxHeartbeats 8000000
set_option maxRecDepth 100000
section
open Go.RowKit Go.Lib
theorem Wt:(Tryz.prog.info? 28).map (fun i=>(i.zero,i.size,i.bytes))=some (some (.slice none 0 0),1,24):=by kernel_rfl
theorem aab:(Tryz.prog.info? 41).map (·.size)=some 1:=by kernel_rfl
theorem aca:(Tryz.prog.info? 103).map (·.size)=some 2:=by kernel_rfl
theorem acb {c d a0 a1 a2 a3 a4 a5 a6 a7 a8 a9:Code} (hc:Tryz.f16.body=some (a0.seq (a1.seq (a2.seq (a3.seq (a4.seq (a5.seq (a6.seq (a7.seq (a8.seq (a9.seq (c.seq d)))))))))))) {u1 u2 u4 u5 u6 u7 u8 u9 jB jg jh ji jk jl u16 mW oz lJ nC mE mF mh jC jD jw j6 ig ik iq iw u32 jm jq jr jE jF jG jH jI jJ jK jL jM jN jO jP jQ jR jS jT jU jV jW jX jY kv ky kz kC kD kE kF u64 kG kH kg ko kI kJ kK kL kM kN kP kQ kR lK lL lN lQ lT lU lV lW lX lY lZ l7 l8 l9 mf mg mi mI nE nG nH nI fU fV fZ gm gp gq gu gy gz gB gF gG gH gJ gK gL gM gN gP gQ iA iB iC iD iE iF iG iH iI iJ iK iL iM iN iO iP iQ iR iT iU iV iW iX iY iZ jd je jf kU kV kW kX lg lh ll lu lv lC lD:Value} (Kb n:Nat) (vR vP vC vV vL vG vI m0 m1 m2 m3 m4 m5 m6:Value) (R:List (Sl×Int)) (sa:Option Addr) (sn sc:Nat) (xs:List Value) (w:World)
 (hK:w.heap[Kb]? = some (.cells #[.int .i64 n,vR,vP,vC,vV,vL,vG,vI,m0,m1,m2,m3,m4,m5,m6] 46)) (hC:rz w 28 103 2 yu vL m4 R) (hs:w.ownsRow 0 103 2 (.slice sa sn sc) sn xs) (hoff:dH (Value.ownBlock (.slice sa sn sc)) R) (hn:n≤10000000) (hsn:sn≤10000000) (hRl:R.length≤100000000) (b3:Nat) (cX:Array Value) (hX:w.heap[b3]? = some (.cells cX 31)) (hX5:cX[5]? = some (.slice sa sn sc)) (OW:b3≠Kb)
 (Q:World→Prop) (hQ:∀ (S' M':Value) (R':List (Sl×Int)) (w':World),w'.heap[Kb]? = some (.cells #[.int .i64 ((n:Int)+1),vR,vP,vC,vV,S',vG,vI,m0,m1,m2,m3,M',m5,m6] 46)→rz w' 28 103 2 yu S' M' R'→R'.length=R.length+4→Fr (ed Kb (.slice sa sn sc) vL m4) w w'→(∀ c,c<w.heap.size→¬ (ed Kb (.slice sa sn sc) vL m4) c→dH (some c) R→dH (some c) R')→(∀ k,S'.ownBlock=some k→(ed Kb (.slice sa sn sc) vL m4) k∨w.heap.size≤k)→(∀ k,M'.ownBlock=some k→(ed Kb (.slice sa sn sc) vL m4) k∨w.heap.size≤k)→Q w') {K:Act→World→Prop} (hKK:∀ a w,d.wp Tryz.prog (bodyPost Tryz.prog Tryz.f16 fun e w'=>e=.returned (.tuple #[])∧Q w') a w→K a w) :
 c.wp Tryz.prog (Exit.then K (bodyPost Tryz.prog Tryz.f16 fun e w'=>e=.returned (.tuple #[])∧Q w')) { tmps:=(List.toArray (α:=Value) (.pointer (some ⟨Kb,0,none⟩)::u1::u2::.pointer (some ⟨b3,0,none⟩)::u4::u5::u6::u7::u8::u9::jB::jg::jh::ji::jk::jl::u16::mW::oz::lJ::nC::mE::mF::mh::jC::jD::jw::j6::ig::ik::iq::iw::u32::jm::jq::jr::jE::jF::jG::jH::jI::jJ::jK::jL::jM::jN::jO::jP::jQ::jR::jS::jT::jU::jV::jW::jX::jY::kv::ky::kz::kC::kD::kE::kF::u64::kG::kH::kg::ko::kI::kJ::kK::kL::kM::kN::kP::kQ::kR::lK::lL::lN::lQ::lT::lU::lV::lW::lX::lY::lZ::l7::l8::l9::mf::mg::mi::mI::nE::nG::nH::nI::fU::fV::fZ::gm::gp::gq::gu::gy::gz::gB::gF::gG::gH::gJ::gK::gL::gM::gN::gP::gQ::iA::iB::iC::iD::iE::iF::iG::iH::iI::iJ::iK::iL::iM::iN::iO::iP::iQ::iR::iT::iU::iV::iW::iX::iY::iZ::jd::je::jf::kU::kV::kW::kX::lg::lh::ll::lu::lv::lC::lD::[])),defers:=[] } w:=by
 injection hc with k0;injection k0 with e0 k1;clear e0;injection k1 with e1 k2;clear e1;injection k2 with e2 k3;clear e2;injection k3 with e3 k4;clear e3;injection k4 with e4 k5;clear e4;injection k5 with e5 k6;clear e5;injection k6 with e6 k7;clear e6;injection k7 with e7 k8;clear e7;injection k8 with e8 k9;clear e8;injection k9 with e9 k10;clear e9;injection k10 with e10 k11;subst k11;subst e10;have Ud:=ae hQ;have HX:=ae hX;clear hQ hX;obtain ⟨i0,hi0,hz0,hz1,hz2⟩:=info_parts Ii;obtain ⟨ir,hir,Fj,Fp,Fq⟩:=info_parts Wt;obtain ⟨ii,hii,zJ,zK,zL⟩:=info_parts Az;have eB:Af 103 28:=⟨by decide,by decide,by decide,by decide,by decide⟩;have Mk:Kb<w.heap.size:=(df hK);have hw1:IntKind.i64.wrap (77+(n:Int))=77+(n:Int):=by rw [IntKind.wrap_i64];omega
 have hw2:IntKind.u32.wrap (77+(n:Int))=77+(n:Int):=by have e:IntKind.u32.wrap (77+(n:Int))=(77+(n:Int))%4294967296:=rfl;rw [e];omega
 have hw3:IntKind.i64.wrap ((n:Int)+1)=(n:Int)+1:=by rw [IntKind.wrap_i64];omega
 have hcK:=ah hK;go_upto_region 24 with (first | (with_reducible show dJ 103 9 ..;go_must (refine fH w.heap.size 0 [.int .u32 (77+(n:Int)),.slice none 0 0] _ _ _ (heap_alloc_new w (.cells #[.int .u32 0,.slice none 0 0] 103)) [.int .u32 (77+(n:Int)),.slice none 0 0] ?_;intro w1 hM1 Co;have hb1:=(aj w (.cells #[.int .u32 0,.slice none 0 0] 103)).trans (Co.below (Nat.le_refl _));have hK1:=af hb1 hK;have IJ:=ah hK1)) | (with_reducible show dJ 3 112 ..;go_must (refine oZ Kb 0 (.int .i64 ((n:Int)+1)) _ _ hK1 [.int .i64 ((n:Int)+1),vR,vP,vC,vV,vL,vG,vI,m0,m1,m2,m3,m4,m5,m6] ?_;intro w2 hK2 hO2;have aac:w2.cell? ⟨b3,5,none⟩=some (.slice sa sn sc):=(ah ((hO2.block b3 OW).trans (af hb1 HX.out)) 5).trans hX5)))
 clear aac;have hM2:=(hO2.block w.heap.size (by omega)).trans hM1;have rY:=hC.below hb1;have wN:=rV hO2;have hC2:=rY.kept wN (.inr (bf rY.own hK1 eB.sb)) (.inr (bf rY.marks hK1 (by decide))) (rY.off hK1 eB.eb);have hs1:=ay hs hb1;have hs2:=World.ownsRow.kept hs1 wN (.inr (bf hs1 hK1 eB.eb));have hF2:Fr (ed Kb (.slice sa sn sc) vL m4) w w2:=((Fr.refl _ w).later hb1).grown wN (fun k e=>.inl (.inl (by injection e with e;exact e.symm)));have hsz2:w.heap.size<w2.heap.size:=by rw [hO2.size];exact (df hM1)
 have Bh:Value.ownBlock (.slice sa sn sc)≠some w.heap.size:=fun e=>by have:=(World.ownsRow.lt hs _ e).2;omega
 have lH:=ae hC2;have wy:=ae hF2;have HS2:=ae hs2;have zM:Value.ownBlock (.slice sa sn sc)≠some Kb:=bf hs2 hK2 eB.eb;clear hC2 hF2 rY hs1 hcK IJ hK1 hM1 Co hO2 hb1 hs hC wN;go_wp2_with fail
 go_loopw [11] (fun i wr=>∃ k:Nat,k≤sn∧i=.int .i64 k∧Hid (∃ ys,wr.ownsRow 0 103 2 (.slice sa sn sc) sn ys∧ys.take (k*2)=(List.replicate k (yu n)).flatten)∧Hid (w2.grownBy wr (Value.ownBlock (.slice sa sn sc)))) (fun i _=>sn - (intOf i).toNat)
 case atStart=>exact ⟨0,Nat.zero_le _,rfl,⟨_,hs2,by simp⟩,⟨rfl,rfl,rfl,Nat.le_refl _,fun _ _ _=>rfl⟩⟩
 case round =>
  clear hs2;obtain ⟨k,hk,rfl,HO,HG⟩:=hrel;have Bi:=(HG.out.block w.heap.size hsz2 (Ne.symm Bh)).trans hM2;by_cases hlt:k<sn
  ·obtain ⟨ys,hown,hys⟩:=HO.out
   rcases hown.2 with ⟨_,hz⟩ | ⟨gb,cap,dP,hv,hbg,hgg,hnc,hcm,hcs,htk⟩
   ·omega
   ·simp only [Value.slice.injEq] at hv
    obtain ⟨rfl,_,rfl⟩:=hv;have hW:wr.heap[gb]? = some (.cells dP.toList.toArray 103):=by rw [hgg]
    have hdk:decide ((k:Int)<(sn:Int))=true:=by simp;omega
    have hi1:(0:Int)≤(k:Int):=by omega
    have hi2:(k:Int)<(sn:Int):=by omega
    have yR:dP.toList.length=sc*2:=by simpa using hcs
    have hfit:Nat.ble (k*2+2) dP.toList.length=true:=by rw [yR];simp [Nat.ble_eq];omega
    obtain ⟨zs,hzs⟩:∃ zs,zs=dP.toList.take (k*2)++[.int .u32 (77+(n:Int)),.slice none 0 0]++dP.toList.drop (k*2+2):=⟨_,rfl⟩;have hzl:zs.length=dP.size:=by rw [hzs,hcs];simp;omega
    have JZ:Hid (zs.take ((k+1)*2)=(List.replicate (k+1) (yu n)).flatten):=by
     show _=_;rw [hzs];refine AA (cs:=yu n) rfl ?_ (by rw [yR];exact Nat.mul_le_mul_right _ (Nat.le_trans hlt hnc));rw [← hys,← htk,List.take_take,Nat.min_eq_left (Nat.mul_le_mul_right _ hk)]
    clear hown hgg HO hys htk;go_wp2_with (first | (with_reducible show cB 123 103 ..;go_must (refine dF w.heap.size 0 2 aau _ _ Bi [.int .u32 (77+(n:Int)),.slice none 0 0] ?_)) | (with_reducible show dJ 103 124 ..;go_must (refine eu rfl _ _ _ rfl rfl gb (k*2) rfl [.int .u32 (77+(n:Int)),.slice none 0 0] rfl _ aca rfl rfl _ _ hW hfit zs hzs.symm ?_;intro w9 Bu oG)))
    go_roundw
    case rel =>
     refine ⟨k+1,by omega,by go_num,⟨_,wX hbg hnc hcm hcs hzl Bu,?_⟩,?_⟩
     ·rw [List.take_take,Nat.min_eq_left (Nat.mul_le_mul_right _ hlt)]
      exact JZ.out
     ·exact ⟨oG.os.trans HG.out.os,oG.tape.trans HG.out.tape,oG.output.trans HG.out.output,by rw [oG.size];exact HG.out.size,fun b hb hne=>(oG.block b (fun e=>hne (by rw [e];rfl))).trans (HG.out.block b hb hne)⟩
    case measure=>simp [intOf];omega
  ·have hdk:decide ((k:Int)<(sn:Int))=false:=by simp;omega
   have hkn:sn=k:=by omega
   subst hkn;have hm:gX wr 103 2 ⟨sa,sn,sc⟩ (yu n):=by
    obtain ⟨ys,hown,hys⟩:=HO.out;have:ys=(List.replicate sn (yu n)).flatten:=by rw [← hys,List.take_of_length_le (by rw [hown.1];exact Nat.le_refl _)]
    rw [this] at hown;exact hown
   have RS:Hid (fO 103 28 2 yu (fun S M=>#[.int .i64 ((n:Int)+1),vR,vP,vC,vV,S,vG,vI,m0,m1,m2,m3,M,m5,m6]) w wr (ed Kb (.slice sa sn sc) vL m4) Kb w.heap.size n vL m4 ⟨sa,sn,sc⟩ R R (fun c=>dH (some c) R)):=by
    have o1:=dI lH.out.own HS2.out (Ne.symm eB.es);have o2:=dI lH.out.marks HS2.out (Ne.symm eB.ei);have uW:=lH.out.kept HG.out o1 o2 hoff;refine ⟨(HG.out.block Kb (by omega) (Ne.symm zM)).trans hK2,Bi,uW.own,uW.marks,uW.all,fun i s m hi=>?_,hm,wy.out.grown HG.out (fun k e=>.inl (.inr (.inl e.symm))),.inl rfl,by omega,fun k e=>.inl (.inr (.inr (.inl e.symm))),fun k e=>.inl (.inr (.inr (.inr e.symm))),fun k e=>.inl (.inr (.inl e.symm)),fun c _ _ h=>h,Bh,uW.bnd,by omega⟩;cases hb:s.val.ownBlock with
    | none=>exact .inl rfl
    | some c=>exact .inr (.inl fun e=>hoff i s m hi c hb e.symm)
   clear hm HO HG Bi hM2 hK2 zM Bh;go_wp2_with fail
   go_loopw [10,12] (fun v i wx=>∃ (j:Nat) (S M:Value) (ta:Option Addr) (tl tc:Nat) (E:List (Sl×Int)),v=.slice ta tl tc∧i=.int .i64 j∧j≤4∧Hid (tl=sn+j)∧Hid (E.length=R.length+j)∧Hid (fO 103 28 2 yu (fun S M=>#[.int .i64 ((n:Int)+1),vR,vP,vC,vV,S,vG,vI,m0,m1,m2,m3,M,m5,m6]) w wx (ed Kb (.slice sa sn sc) vL m4) Kb w.heap.size n S M ⟨ta,tl,tc⟩ E E (fun c=>dH (some c) R))) (fun _ i _=>4 - (intOf i).toNat)
   case atStart=>exact ⟨0,_,_,sa,sn,sc,R,rfl,rfl,by omega,rfl,rfl,RS⟩
   case round =>
    clear RS hdk;obtain ⟨j,S,M,ta,tl,tc,E,rfl,rfl,hj,CL,uX,RS⟩:=hrel;have qx:Hid (E.length≤100000004):=by have:=uX.out;show _≤_;omega
    have qL:=ah RS.out.blk;by_cases U6:j<4
    ·have hdj:decide ((j:Int)<4)=true:=by simp;omega
     go_upto_region 32 with (first | (with_reducible show yw 136 ..;go_must (refine aZ _ rfl _ _ 41 rfl 0 28 ir (.slice none 0 0) 1 24 ahh hir Fj Fp Fq rfl (by decide) S E.length (E.map fun (x:Sl×Int)=>x.1.val) rfl (World.ownsRow.alloc RS.out.own _) _ 1 1 [.slice ta tl tc] rfl rfl ?_ ?_ ?_ ?_ (Nat.zero_le _) ?_;(· exact cu rfl);(· exact cz rfl);(· (have:=qx.out;unfold maxLen;omega));(· (have:=qx.out;omega));intro S' w5 lF hg5;have rH:=hg5.blk (af (aj _ _) RS.out.blk) (Ne.symm (bf RS.out.own RS.out.blk eB.sb)))) | (with_reducible show dJ 41 138 ..;go_must (refine cZ rfl _ _ _ rfl rfl Kb 5 rfl S' rfl aab (dR lF) _ _ rH rfl [.int .i64 ((n:Int)+1),vR,vP,vC,vV,S',vG,vI,m0,m1,m2,m3,M,m5,m6] rfl ?_;intro w6 Bf zx)))
     have eX:=ae (fO.join eB RS.out lF hg5 Bf zx);clear RS lF hg5 Bf zx rH qL;have qL:=ah eX.out.blk;have Fs:=oh (Below.refl _ w6) eX.out.blk;have Fu:=(df eX.out.blk);have hc0:w6.cell? ⟨Kb,0,none⟩=some (.int .i64 ((n:Int)+1)):=qL 0;have hcA:=fun (o:Obj)=>ah (af (aj w6 o) eX.out.blk)
     have hw4:(n:Int)+1 - 1=(n:Int):=by omega
     have Yx:IntKind.i64.wrap (n:Int)=(n:Int):=by rw [IntKind.wrap_i64];omega
     have qZ:=World.ownsRow.alloc eX.out.marks (.cells #[.int .i64 n] 3);go_cut [9] from 125 to 158 (fun s wx=>s=.pointer (some ⟨w.heap.size,0,none⟩)∧∃ M':Value,Hid (fO 103 28 2 yu (fun S M=>#[.int .i64 ((n:Int)+1),vR,vP,vC,vV,S,vG,vI,m0,m1,m2,m3,M,m5,m6]) w wx (ed Kb (.slice sa sn sc) vL m4) Kb w.heap.size n S' M' ⟨ta,tl,tc⟩ (E++[(⟨ta,tl,tc⟩,(n:Int))]) (E++[(⟨ta,tl,tc⟩,(n:Int))]) (fun c=>dH (some c) R)))
     case first =>
      refine wp_region_noPanic ?_;refine wp_region_held_drew (S:=(fun w'=>w'.cell? ⟨Kb,0,none⟩=some (.int .i64 ((n:Int)+1)))) (by kernel_rfl) (hc0) (fun hHeld=>?_);refine dC 0 ?_;try simp only [Act.put,dK]
      refine dC 1 ?_;try simp only [Act.put]
      refine dC 2 ?_;try simp only [Act.put]
      refine dC 3 ?_;try simp only [Act.put]
      refine dC 4 ?_;try simp only [Act.put]
      refine dC 6 ?_;try simp only [Act.put]
      refine dC 7 ?_;try simp only [Act.put]
      refine dC 8 ?_;try simp only [Act.put]
      refine dC 9 ?_;try simp only [Act.put]
      refine dC 10 ?_;try simp only [Act.put]
      refine dC 13 ?_;try simp only [Act.put]
      refine dC 14 ?_;try simp only [Act.put]
      refine wpAnyH_ready (rs:=[5,11]) (by kernel_rfl) (by simp) ?_;refine AllReadyH.cons (o:=_) rfl (fun K hK=>?_) (AllReadyH.cons (o:=_) rfl (fun K hK=>?_) AllReadyH.nil)
      ·go_simp
       refine hK.out _ _ (hc0) (fun hHeld=>?_);clear hK K;try simp only [Act.put,dK,fF,fG]
       refine mo 11 (fun K hK=>?_);go_simp
       refine hK.out _ _ (hcA _ 0) (fun hHeld=>?_);clear hK K;try simp only [Act.put,dK,fF,fG]
       refine mo 12 (fun K hK=>?_);refine jv rfl _ _ 23 rfl 0 3 ii (.int .i64 0) 1 8 AL hii zJ zK zL rfl (by decide) M E.length (E.map fun (x:Sl×Int)=>Value.int .i64 x.2) rfl qZ ⟨w6.heap.size,0,none⟩ 1 1 [.int .i64 n] rfl rfl (cu rfl) (cz rfl) (by have:=qx.out;unfold maxLen;omega) (by have:=qx.out;omega) (Nat.zero_le _) ?_;intro M' w' ho hg;obtain ⟨ma,ml,mc,rfl⟩:=aB ho;have hKn:=(nz hg).blk (af (aj w6 _) eX.out.blk) (Ne.symm (bf eX.out.marks eX.out.blk (by decide)));have mX:=ae (fO.count eB eX.out ho (nz hg) (by rw [heap_setCell_same w' Kb 12 _ _ _ hKn];rfl) (oH w' Kb 12 (.slice ma ml mc)));have hcn:=ah hKn;have hfn:=oh (Below.refl _ w') hKn;clear ho hg hKn;refine hK.out _ _ (hcn 0) (fun hHeld=>?_);clear hK K;try simp only [Act.put,dK]
       refine dC 15 ?_;try simp only [Act.put]
       refine mo 16 (fun K hK=>?_);go_simp
       refine hK.out _ _ ((ah mX.out.blk 0)) (fun hHeld=>?_);clear hK K;try simp only [Act.put,dK,fF,fG]
       refine wpAnyH_done (by kernel_rfl) ?_ _;refine NoPanic.normal ?_;go_wp2_with fail
       go_meet
       exact ⟨rfl,_,mX⟩
      ·go_simp
       refine hK.out _ _ (hcA _ 0) (fun hHeld=>?_);clear hK K;try simp only [Act.put,dK,fF,fG]
       refine mo 5 (fun K hK=>?_);go_simp
       refine hK.out _ _ (hcA _ 0) (fun hHeld=>?_);clear hK K;try simp only [Act.put,dK,fF,fG]
       refine mo 12 (fun K hK=>?_);refine jv rfl _ _ 23 rfl 0 3 ii (.int .i64 0) 1 8 AL hii zJ zK zL rfl (by decide) M E.length (E.map fun (x:Sl×Int)=>Value.int .i64 x.2) rfl qZ ⟨w6.heap.size,0,none⟩ 1 1 [.int .i64 n] rfl rfl (cu rfl) (cz rfl) (by have:=qx.out;unfold maxLen;omega) (by have:=qx.out;omega) (Nat.zero_le _) ?_;intro M' w' ho hg;obtain ⟨ma,ml,mc,rfl⟩:=aB ho;have hKn:=(nz hg).blk (af (aj w6 _) eX.out.blk) (Ne.symm (bf eX.out.marks eX.out.blk (by decide)));have mX:=ae (fO.count eB eX.out ho (nz hg) (by rw [heap_setCell_same w' Kb 12 _ _ _ hKn];rfl) (oH w' Kb 12 (.slice ma ml mc)));have hcn:=ah hKn;have hfn:=oh (Below.refl _ w') hKn;clear ho hg hKn;refine hK.out _ _ (hcn 0) (fun hHeld=>?_);clear hK K;try simp only [Act.put,dK]
       refine dC 15 ?_;try simp only [Act.put]
       refine mo 16 (fun K hK=>?_);go_simp
       refine hK.out _ _ ((ah mX.out.blk 0)) (fun hHeld=>?_);clear hK K;try simp only [Act.put,dK,fF,fG]
       refine wpAnyH_done (by kernel_rfl) ?_ _;refine NoPanic.normal ?_;go_wp2_with fail
       go_meet
       exact ⟨rfl,_,mX⟩
     case rest =>
      obtain ⟨rfl,M',mX⟩:=hcut;clear eX qL Fs Fu hc0 hcA qZ;have NW:wc.heap[w.heap.size]? = some (.cells #[.int .u32 (77+(n:Int)),.slice none 0 0] 103):=mX.out.mark;have J2:wc.ownsRow 0 103 2 (.slice ta tl tc) tl (List.replicate tl (yu n)).flatten:=mX.out.tm;have CO:Hid (tl≤10000260):=by have:=CL.out;show _≤_;omega
      go_wp2_with (first | (with_reducible show cB 156 103 ..;go_must (refine dF w.heap.size 0 2 aau _ _ NW [.int .u32 (77+(n:Int)),.slice none 0 0] ?_)) | (with_reducible show yw 158 ..;go_must (refine nZ _ rfl _ _ 28 rfl 0 103 i0 (.agg #[.int .u32 0,.slice none 0 0]) 2 32 RJ hi0 hz0 hz1 hz2 rfl (by decide) (.slice ta tl tc) tl (List.replicate tl (yu n)).flatten rfl (World.ownsRow.alloc J2 _) _ 1 1 [.int .u32 (77+(n:Int)),.slice none 0 0] rfl rfl ?_ ?_ ?_ ?_ (Nat.zero_le _) ?_;(· exact cu rfl);(· exact cz rfl);(· (have:=CO.out;unfold maxLen;omega));(· (have:=CO.out;omega));intro v' w7 yX J3 J4;obtain ⟨ua,ul,uc,rfl⟩:=aB yX)))
      have J5:=Ak yX;go_roundw
      case rel=>exact ⟨j+1,_,_,ua,ul,uc,E++[(⟨ta,tl,tc⟩,(n:Int))],rfl,by go_num,by omega,(by have:=CL.out;show _=_;omega),(by have:=uX.out;show _=_;simp;omega),fO.longer (t:=⟨ta,tl,tc⟩) (t':=⟨ua,ul,uc⟩) eB rfl (by decide) mX.out J5 yX J3 J4⟩
      case measure=>simp [intOf];omega
    ·have hdj:decide ((j:Int)<4)=false:=by simp;omega
     have J6:j=4:=by omega
     subst J6;go_wp2_with fail
     go_end0
     exact ⟨rfl,Ud.out S M E _ RS.out.blk ⟨RS.out.own,RS.out.marks,RS.out.all,RS.out.bnd⟩ uX.out RS.out.fr RS.out.off RS.out.sS RS.out.sM⟩
end
end Go.Proofs.YtignemioillaiaaGreat
