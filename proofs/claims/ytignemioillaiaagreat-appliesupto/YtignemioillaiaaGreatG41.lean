/- The book: the lists of a lane: its own list. -/
import Derived.Test.YtignemioillaiaaGreatG38
namespace Go.Proofs.YtignemioillaiaaGreat
set_option maxHeartbeats 8000000
set_option maxRecDepth 100000
section
open Go.RowKit Go.Lib
theorem Wv:(Tryz.prog.info? 101).map (fun i=>(i.zero,i.size,i.bytes))=some (some (.slice none 0 0),1,24):=by kernel_rfl
theorem YB:(Tryz.prog.info? 42).map (·.size)=some 1:=by kernel_rfl
theorem acf {c d a0:Code} (hc:Tryz.f55.body=some (a0.seq (c.seq d))) {u2 u3 u4 u5 u6 u7 u8 u9 jB jg jh ji jk jl u16 mW oz lJ nC mE mF mh jC jD jw j6 ig ik iq iw u32 jm jq jr jE jF jG jH jI jJ jK jL jM jN jO jP jQ jR jS jT jU jV jW jX jY kv ky kz kC kD kE kF u64 kG kH kg ko kI kJ kK kL kM kN kP kQ kR:Value} (Kb n:Nat) (vR vP vC vV vL vG vI m0 m1 m2 m3 m4 m5 m6:Value) (R:List (Sl×Int)) (sa:Option Addr) (sn sc:Nat) (xs:List Value) (w:World)
 (hK:w.heap[Kb]? = some (.cells #[.int .i64 n,vR,vP,vC,vV,vL,vG,vI,m0,m1,m2,m3,m4,m5,m6] 46)) (hC:rz w 101 52 7 wP vG m5 R) (hs:w.ownsRow 0 52 7 (.slice sa sn sc) sn xs) (hoff:dH (Value.ownBlock (.slice sa sn sc)) R) (hn:n≤10000000) (hsn:sn≤10000000) (hRl:R.length≤100000000)
 (Q:World→Prop) (hQ:∀ (S' M':Value) (R':List (Sl×Int)) (w':World),w'.heap[Kb]? = some (.cells #[.int .i64 ((n:Int)+1),vR,vP,vC,vV,vL,S',vI,m0,m1,m2,m3,m4,M',m6] 46)→rz w' 101 52 7 wP S' M' R'→R'.length=R.length+4→Fr (ed Kb (.slice sa sn sc) vG m5) w w'→(∀ c,c<w.heap.size→¬ (ed Kb (.slice sa sn sc) vG m5) c→dH (some c) R→dH (some c) R')→(∀ k,S'.ownBlock=some k→(ed Kb (.slice sa sn sc) vG m5) k∨w.heap.size≤k)→(∀ k,M'.ownBlock=some k→(ed Kb (.slice sa sn sc) vG m5) k∨w.heap.size≤k)→Q w') {K:Act→World→Prop} (hKK:∀ a w,d.wp Tryz.prog (bodyPost Tryz.prog Tryz.f55 fun e w'=>e=.returned (.tuple #[])∧Q w') a w→K a w) :
 c.wp Tryz.prog (Exit.then K (bodyPost Tryz.prog Tryz.f55 fun e w'=>e=.returned (.tuple #[])∧Q w')) { tmps:=(List.toArray (α:=Value) (.pointer (some ⟨Kb,0,none⟩)::.slice sa sn sc::u2::u3::u4::u5::u6::u7::u8::u9::jB::jg::jh::ji::jk::jl::u16::mW::oz::lJ::nC::mE::mF::mh::jC::jD::jw::j6::ig::ik::iq::iw::u32::jm::jq::jr::jE::jF::jG::jH::jI::jJ::jK::jL::jM::jN::jO::jP::jQ::jR::jS::jT::jU::jV::jW::jX::jY::kv::ky::kz::kC::kD::kE::kF::u64::kG::kH::kg::ko::kI::kJ::kK::kL::kM::kN::kP::kQ::kR::[])),defers:=[] } w:=by
 injection hc with k0;injection k0 with e0 k1;clear e0;injection k1 with e1 k2;subst k2;subst e1;have Ud:=ae hQ;clear hQ;obtain ⟨i0,hi0,hz0,hz1,hz2⟩:=info_parts Ch;obtain ⟨ir,hir,Fj,Fp,Fq⟩:=info_parts Wv;obtain ⟨ii,hii,zJ,zK,zL⟩:=info_parts Az;have eB:Af 52 101:=⟨by decide,by decide,by decide,by decide,by decide⟩;have Mk:Kb<w.heap.size:=(df hK);have hw1:IntKind.i64.wrap (77+(n:Int))=77+(n:Int):=by rw [IntKind.wrap_i64];omega
 have hw2:IntKind.u32.wrap (77+(n:Int))=77+(n:Int):=by have e:IntKind.u32.wrap (77+(n:Int))=(77+(n:Int))%4294967296:=rfl;rw [e];omega
 have hw3:IntKind.i64.wrap ((n:Int)+1)=(n:Int)+1:=by rw [IntKind.wrap_i64];omega
 have hcK:=ah hK;go_upto_region 6 with (first | (with_reducible show dJ 52 5 ..;go_must (refine fH w.heap.size 0 (rR 0 0 (77+(n:Int)) 0 0 none 0 0 none 0 0) _ _ _ (heap_alloc_new w (.cells Fz.toArray 52)) (rR 0 0 (77+(n:Int)) 0 0 none 0 0 none 0 0) ?_;intro w1 hM1 Co;have hb1:=(aj w (.cells Fz.toArray 52)).trans (Co.below (Nat.le_refl _));have hK1:=af hb1 hK;have IJ:=ah hK1)) | (with_reducible show dJ 3 33 ..;go_must (refine oZ Kb 0 (.int .i64 ((n:Int)+1)) _ _ hK1 [.int .i64 ((n:Int)+1),vR,vP,vC,vV,vL,vG,vI,m0,m1,m2,m3,m4,m5,m6] ?_;intro w2 hK2 hO2)))
 have hM2:=(hO2.block w.heap.size (by omega)).trans hM1;have rY:=hC.below hb1;have wN:=rV hO2;have hC2:=rY.kept wN (.inr (bf rY.own hK1 eB.sb)) (.inr (bf rY.marks hK1 (by decide))) (rY.off hK1 eB.eb);have hs1:=ay hs hb1;have hs2:=World.ownsRow.kept hs1 wN (.inr (bf hs1 hK1 eB.eb));have hF2:Fr (ed Kb (.slice sa sn sc) vG m5) w w2:=((Fr.refl _ w).later hb1).grown wN (fun k e=>.inl (.inl (by injection e with e;exact e.symm)));have hsz2:w.heap.size<w2.heap.size:=by rw [hO2.size];exact (df hM1)
 have Bh:Value.ownBlock (.slice sa sn sc)≠some w.heap.size:=fun e=>by have:=(World.ownsRow.lt hs _ e).2;omega
 have lH:=ae hC2;have wy:=ae hF2;have HS2:=ae hs2;have zM:Value.ownBlock (.slice sa sn sc)≠some Kb:=bf hs2 hK2 eB.eb;clear hC2 hF2 rY hs1 hcK IJ hK1 hM1 Co hO2 hb1 hs hC wN;go_wp2_with fail
 go_loopw [6] (fun i wr=>∃ k:Nat,k≤sn∧i=.int .i64 k∧Hid (∃ ys,wr.ownsRow 0 52 7 (.slice sa sn sc) sn ys∧ys.take (k*7)=(List.replicate k (wP n)).flatten)∧Hid (w2.grownBy wr (Value.ownBlock (.slice sa sn sc)))) (fun i _=>sn - (intOf i).toNat)
 case atStart=>exact ⟨0,Nat.zero_le _,rfl,⟨_,hs2,by simp⟩,⟨rfl,rfl,rfl,Nat.le_refl _,fun _ _ _=>rfl⟩⟩
 case round =>
  clear hs2;obtain ⟨k,hk,rfl,HO,HG⟩:=hrel;have Bi:=(HG.out.block w.heap.size hsz2 (Ne.symm Bh)).trans hM2;by_cases hlt:k<sn
  ·obtain ⟨ys,hown,hys⟩:=HO.out
   rcases hown.2 with ⟨_,hz⟩ | ⟨gb,cap,dP,hv,hbg,hgg,hnc,hcm,hcs,htk⟩
   ·omega
   ·simp only [Value.slice.injEq] at hv
    obtain ⟨rfl,_,rfl⟩:=hv;have hW:wr.heap[gb]? = some (.cells dP.toList.toArray 52):=by rw [hgg]
    have hdk:decide ((k:Int)<(sn:Int))=true:=by simp;omega
    have hi1:(0:Int)≤(k:Int):=by omega
    have hi2:(k:Int)<(sn:Int):=by omega
    have yR:dP.toList.length=sc*7:=by simpa using hcs
    have hfit:Nat.ble (k*7+7) dP.toList.length=true:=by rw [yR];simp [Nat.ble_eq];omega
    obtain ⟨zs,hzs⟩:∃ zs,zs=dP.toList.take (k*7)++(rR 0 0 (77+(n:Int)) 0 0 none 0 0 none 0 0)++dP.toList.drop (k*7+7):=⟨_,rfl⟩;have hzl:zs.length=dP.size:=by rw [hzs,hcs];simp;omega
    have JZ:Hid (zs.take ((k+1)*7)=(List.replicate (k+1) (wP n)).flatten):=by
     show _=_;rw [hzs];refine AA (cs:=wP n) rfl ?_ (by rw [yR];exact Nat.mul_le_mul_right _ (Nat.le_trans hlt hnc));rw [← hys,← htk,List.take_take,Nat.min_eq_left (Nat.mul_le_mul_right _ hk)]
    clear hown hgg HO hys htk;go_wp2_with (first | (with_reducible show cB 42 52 ..;go_must (refine dF w.heap.size 0 7 qD _ _ Bi (rR 0 0 (77+(n:Int)) 0 0 none 0 0 none 0 0) ?_)) | (with_reducible show dJ 52 43 ..;go_must (refine eu rfl _ _ _ rfl rfl gb (k*7) rfl (rR 0 0 (77+(n:Int)) 0 0 none 0 0 none 0 0) rfl _ WJ rfl rfl _ _ hW hfit zs hzs.symm ?_;intro w9 Bu oG)))
    go_roundw
    case rel =>
     refine ⟨k+1,by omega,by go_num,⟨_,wX hbg hnc hcm hcs hzl Bu,?_⟩,?_⟩
     ·rw [List.take_take,Nat.min_eq_left (Nat.mul_le_mul_right _ hlt)]
      exact JZ.out
     ·exact ⟨oG.os.trans HG.out.os,oG.tape.trans HG.out.tape,oG.output.trans HG.out.output,by rw [oG.size];exact HG.out.size,fun b hb hne=>(oG.block b (fun e=>hne (by rw [e];rfl))).trans (HG.out.block b hb hne)⟩
    case measure=>simp [intOf];omega
  ·have hdk:decide ((k:Int)<(sn:Int))=false:=by simp;omega
   have hkn:sn=k:=by omega
   subst hkn;have hm:gX wr 52 7 ⟨sa,sn,sc⟩ (wP n):=by
    obtain ⟨ys,hown,hys⟩:=HO.out;have:ys=(List.replicate sn (wP n)).flatten:=by rw [← hys,List.take_of_length_le (by rw [hown.1];exact Nat.le_refl _)]
    rw [this] at hown;exact hown
   have RS:Hid (fO 52 101 7 wP (fun S M=>#[.int .i64 ((n:Int)+1),vR,vP,vC,vV,vL,S,vI,m0,m1,m2,m3,m4,M,m6]) w wr (ed Kb (.slice sa sn sc) vG m5) Kb w.heap.size n vG m5 ⟨sa,sn,sc⟩ R R (fun c=>dH (some c) R)):=by
    have o1:=dI lH.out.own HS2.out (Ne.symm eB.es);have o2:=dI lH.out.marks HS2.out (Ne.symm eB.ei);have uW:=lH.out.kept HG.out o1 o2 hoff;refine ⟨(HG.out.block Kb (by omega) (Ne.symm zM)).trans hK2,Bi,uW.own,uW.marks,uW.all,fun i s m hi=>?_,hm,wy.out.grown HG.out (fun k e=>.inl (.inr (.inl e.symm))),.inl rfl,by omega,fun k e=>.inl (.inr (.inr (.inl e.symm))),fun k e=>.inl (.inr (.inr (.inr e.symm))),fun k e=>.inl (.inr (.inl e.symm)),fun c _ _ h=>h,Bh,uW.bnd,by omega⟩;cases hb:s.val.ownBlock with
    | none=>exact .inl rfl
    | some c=>exact .inr (.inl fun e=>hoff i s m hi c hb e.symm)
   clear hm HO HG Bi hM2 hK2 zM Bh;go_wp2_with fail
   go_loopw [1,7] (fun v i wx=>∃ (j:Nat) (S M:Value) (ta:Option Addr) (tl tc:Nat) (E:List (Sl×Int)),v=.slice ta tl tc∧i=.int .i64 j∧j≤4∧Hid (tl=sn+j)∧Hid (E.length=R.length+j)∧Hid (fO 52 101 7 wP (fun S M=>#[.int .i64 ((n:Int)+1),vR,vP,vC,vV,vL,S,vI,m0,m1,m2,m3,m4,M,m6]) w wx (ed Kb (.slice sa sn sc) vG m5) Kb w.heap.size n S M ⟨ta,tl,tc⟩ E E (fun c=>dH (some c) R))) (fun _ i _=>4 - (intOf i).toNat)
   case atStart=>exact ⟨0,_,_,sa,sn,sc,R,rfl,rfl,by omega,rfl,rfl,RS⟩
   case round =>
    clear RS hdk;obtain ⟨j,S,M,ta,tl,tc,E,rfl,rfl,hj,CL,uX,RS⟩:=hrel;have qx:Hid (E.length≤100000004):=by have:=uX.out;show _≤_;omega
    have qL:=ah RS.out.blk;by_cases U6:j<4
    ·have hdj:decide ((j:Int)<4)=true:=by simp;omega
     go_upto_region 14 with (first | (with_reducible show yw 55 ..;go_must (refine aZ _ rfl _ _ 42 rfl 0 101 ir (.slice none 0 0) 1 24 ahi hir Fj Fp Fq rfl (by decide) S E.length (E.map fun (x:Sl×Int)=>x.1.val) rfl (World.ownsRow.alloc RS.out.own _) _ 1 1 [.slice ta tl tc] rfl rfl ?_ ?_ ?_ ?_ (Nat.zero_le _) ?_;(· exact cu rfl);(· exact cz rfl);(· (have:=qx.out;unfold maxLen;omega));(· (have:=qx.out;omega));intro S' w5 lF hg5;have rH:=hg5.blk (af (aj _ _) RS.out.blk) (Ne.symm (bf RS.out.own RS.out.blk eB.sb)))) | (with_reducible show dJ 42 57 ..;go_must (refine cZ rfl _ _ _ rfl rfl Kb 6 rfl S' rfl YB (dR lF) _ _ rH rfl [.int .i64 ((n:Int)+1),vR,vP,vC,vV,vL,S',vI,m0,m1,m2,m3,m4,M,m6] rfl ?_;intro w6 Bf zx)))
     have eX:=ae (fO.join eB RS.out lF hg5 Bf zx);clear RS lF hg5 Bf zx rH qL;have qL:=ah eX.out.blk;have Fs:=oh (Below.refl _ w6) eX.out.blk;have Fu:=(df eX.out.blk);have hc0:w6.cell? ⟨Kb,0,none⟩=some (.int .i64 ((n:Int)+1)):=qL 0;have hcA:=fun (o:Obj)=>ah (af (aj w6 o) eX.out.blk)
     have hw4:(n:Int)+1 - 1=(n:Int):=by omega
     have Yx:IntKind.i64.wrap (n:Int)=(n:Int):=by rw [IntKind.wrap_i64];omega
     have qZ:=World.ownsRow.alloc eX.out.marks (.cells #[.int .i64 n] 3);go_cut [5] from 44 to 77 (fun s wx=>s=.pointer (some ⟨w.heap.size,0,none⟩)∧∃ M':Value,Hid (fO 52 101 7 wP (fun S M=>#[.int .i64 ((n:Int)+1),vR,vP,vC,vV,vL,S,vI,m0,m1,m2,m3,m4,M,m6]) w wx (ed Kb (.slice sa sn sc) vG m5) Kb w.heap.size n S' M' ⟨ta,tl,tc⟩ (E++[(⟨ta,tl,tc⟩,(n:Int))]) (E++[(⟨ta,tl,tc⟩,(n:Int))]) (fun c=>dH (some c) R)))
     case first =>
      refine wp_region_noPanic ?_;refine wp_region_held_drew (S:=(fun w'=>w'.cell? ⟨Kb,0,none⟩=some (.int .i64 ((n:Int)+1)))) (by kernel_rfl) (hc0) (fun hHeld=>?_);refine dC 0 ?_;try simp only [Act.put,dK]
      refine dC 1 ?_;try simp only [Act.put]
      refine dC 2 ?_;try simp only [Act.put]
      refine dC 3 ?_;try simp only [Act.put]
      refine dC 4 ?_;try simp only [Act.put]
      refine dC 6 ?_;try simp only [Act.put]
      refine dC 7 ?_;try simp only [Act.put]
      refine dC 8 ?_;try simp only [Act.put]
      refine dC 9 ?_;try simp only [Act.put]
      refine dC 10 ?_;try simp only [Act.put]
      refine dC 13 ?_;try simp only [Act.put]
      refine dC 14 ?_;try simp only [Act.put]
      refine wpAnyH_ready (rs:=[5,11]) (by kernel_rfl) (by simp) ?_;refine AllReadyH.cons (o:=_) rfl (fun K hK=>?_) (AllReadyH.cons (o:=_) rfl (fun K hK=>?_) AllReadyH.nil)
      ·go_simp
       refine hK.out _ _ (hc0) (fun hHeld=>?_);clear hK K;try simp only [Act.put,dK,fF,fG]
       refine mo 11 (fun K hK=>?_);go_simp
       refine hK.out _ _ (hcA _ 0) (fun hHeld=>?_);clear hK K;try simp only [Act.put,dK,fF,fG]
       refine mo 12 (fun K hK=>?_);refine jv rfl _ _ 23 rfl 0 3 ii (.int .i64 0) 1 8 AL hii zJ zK zL rfl (by decide) M E.length (E.map fun (x:Sl×Int)=>Value.int .i64 x.2) rfl qZ ⟨w6.heap.size,0,none⟩ 1 1 [.int .i64 n] rfl rfl (cu rfl) (cz rfl) (by have:=qx.out;unfold maxLen;omega) (by have:=qx.out;omega) (Nat.zero_le _) ?_;intro M' w' ho hg;obtain ⟨ma,ml,mc,rfl⟩:=aB ho;have hKn:=(nz hg).blk (af (aj w6 _) eX.out.blk) (Ne.symm (bf eX.out.marks eX.out.blk (by decide)));have mX:=ae (fO.count eB eX.out ho (nz hg) (by rw [heap_setCell_same w' Kb 13 _ _ _ hKn];rfl) (oH w' Kb 13 (.slice ma ml mc)));have hcn:=ah hKn;have hfn:=oh (Below.refl _ w') hKn;clear ho hg hKn;refine hK.out _ _ (hcn 0) (fun hHeld=>?_);clear hK K;try simp only [Act.put,dK]
       refine dC 15 ?_;try simp only [Act.put]
       refine mo 16 (fun K hK=>?_);go_simp
       refine hK.out _ _ ((ah mX.out.blk 0)) (fun hHeld=>?_);clear hK K;try simp only [Act.put,dK,fF,fG]
       refine wpAnyH_done (by kernel_rfl) ?_ _;refine NoPanic.normal ?_;go_wp2_with fail
       go_meet
       exact ⟨rfl,_,mX⟩
      ·go_simp
       refine hK.out _ _ (hcA _ 0) (fun hHeld=>?_);clear hK K;try simp only [Act.put,dK,fF,fG]
       refine mo 5 (fun K hK=>?_);go_simp
       refine hK.out _ _ (hcA _ 0) (fun hHeld=>?_);clear hK K;try simp only [Act.put,dK,fF,fG]
       refine mo 12 (fun K hK=>?_);refine jv rfl _ _ 23 rfl 0 3 ii (.int .i64 0) 1 8 AL hii zJ zK zL rfl (by decide) M E.length (E.map fun (x:Sl×Int)=>Value.int .i64 x.2) rfl qZ ⟨w6.heap.size,0,none⟩ 1 1 [.int .i64 n] rfl rfl (cu rfl) (cz rfl) (by have:=qx.out;unfold maxLen;omega) (by have:=qx.out;omega) (Nat.zero_le _) ?_;intro M' w' ho hg;obtain ⟨ma,ml,mc,rfl⟩:=aB ho;have hKn:=(nz hg).blk (af (aj w6 _) eX.out.blk) (Ne.symm (bf eX.out.marks eX.out.blk (by decide)));have mX:=ae (fO.count eB eX.out ho (nz hg) (by rw [heap_setCell_same w' Kb 13 _ _ _ hKn];rfl) (oH w' Kb 13 (.slice ma ml mc)));have hcn:=ah hKn;have hfn:=oh (Below.refl _ w') hKn;clear ho hg hKn;refine hK.out _ _ (hcn 0) (fun hHeld=>?_);clear hK K;try simp only [Act.put,dK]
       refine dC 15 ?_;try simp only [Act.put]
       refine mo 16 (fun K hK=>?_);go_simp
       refine hK.out _ _ ((ah mX.out.blk 0)) (fun hHeld=>?_);clear hK K;try simp only [Act.put,dK,fF,fG]
       refine wpAnyH_done (by kernel_rfl) ?_ _;refine NoPanic.normal ?_;go_wp2_with fail
       go_meet
       exact ⟨rfl,_,mX⟩
     case rest =>
      obtain ⟨rfl,M',mX⟩:=hcut;clear eX qL Fs Fu hc0 hcA qZ;have NW:wc.heap[w.heap.size]? = some (.cells (rR 0 0 (77+(n:Int)) 0 0 none 0 0 none 0 0).toArray 52):=mX.out.mark;have J2:wc.ownsRow 0 52 7 (.slice ta tl tc) tl (List.replicate tl (wP n)).flatten:=mX.out.tm;have CO:Hid (tl≤10000260):=by have:=CL.out;show _≤_;omega
      go_wp2_with (first | (with_reducible show cB 75 52 ..;go_must (refine dF w.heap.size 0 7 qD _ _ NW (rR 0 0 (77+(n:Int)) 0 0 none 0 0 none 0 0) ?_)) | (with_reducible show yw 77 ..;go_must (refine nZ _ rfl _ _ 101 rfl 0 52 i0 (.agg Fz.toArray) 7 72 Hr hi0 hz0 hz1 hz2 rfl (by decide) (.slice ta tl tc) tl (List.replicate tl (wP n)).flatten rfl (World.ownsRow.alloc J2 _) _ 1 1 (rR 0 0 (77+(n:Int)) 0 0 none 0 0 none 0 0) rfl rfl ?_ ?_ ?_ ?_ (Nat.zero_le _) ?_;(· exact cu rfl);(· exact cz rfl);(· (have:=CO.out;unfold maxLen;omega));(· (have:=CO.out;omega));intro v' w7 yX J3 J4;obtain ⟨ua,ul,uc,rfl⟩:=aB yX)))
      have J5:=Ak yX;go_roundw
      case rel=>exact ⟨j+1,_,_,ua,ul,uc,E++[(⟨ta,tl,tc⟩,(n:Int))],rfl,by go_num,by omega,(by have:=CL.out;show _=_;omega),(by have:=uX.out;show _=_;simp;omega),fO.longer (t:=⟨ta,tl,tc⟩) (t':=⟨ua,ul,uc⟩) eB rfl (by decide) mX.out J5 yX J3 J4⟩
      case measure=>simp [intOf];omega
    ·have hdj:decide ((j:Int)<4)=false:=by simp;omega
     have J6:j=4:=by omega
     subst J6;go_wp2_with fail
     go_end0
     exact ⟨rfl,Ud.out S M E _ RS.out.blk ⟨RS.out.own,RS.out.marks,RS.out.all,RS.out.bnd⟩ uX.out RS.out.fr RS.out.off RS.out.sS RS.out.sM⟩
def AR (q:List aF) (b:Nat):Prop:=∃ r∈q,some b=r.rs.val.ownBlock∨some b=r.ds.val.ownBlock
def AQ (v:Value) (q:List aF) (b:Nat):Prop:=AR q b∨some b=v.ownBlock
theorem Bj {w:World} {base:Nat} {e:TypeId} {size m c:Nat} {a:Option Addr} {α:Type} {f:α→List Value} {l:List α} (h:w.ownsRow base e size (.slice a m c) l.length (l.map f).flatten) (hf:∀ y,(f y).length=size) {k:Nat} {x:α} (hx:l[k]? = some x):∃ g,a=some ⟨g,0,none⟩∧m=l.length∧g<w.heap.size∧∀ (j:Nat) (u:Value),(f x)[j]? = some u→w.cell? ⟨g,k*size+j,none⟩=some u:=by
 have hk:=(mV hx);obtain ⟨g,cap,cur,hv,hb,hg,hn,hc,hnc,hcm,htk,hxl,_⟩:=kS h (by omega);simp only [Value.slice.injEq] at hv;obtain ⟨rfl,rfl,rfl⟩:=hv;refine ⟨g,rfl,rfl,(df hg),fun j u hu=>?_⟩;rw [ah hg];simpa using qM hf (j:=j) hx hu htk rfl
theorem aad (K n:Nat) (S M:Fin 7→Value) (E:Fin 7→List (Sl×Int)) (sa:Option Addr) (sn sc:Nat) (q:List aF) (w:World) (hB:Bk w K n S M E) (hq:w.ownsRow 0 52 7 (.slice sa sn sc) q.length (q.map aF.cells).flatten) (hR:RM w 0 q)
 (lF:dH (Value.ownBlock (.slice sa sn sc)) (E 5)) (ho0:∀ r∈q,dH r.rs.val.ownBlock (E 0)) (ho1:∀ r∈q,dH r.ds.val.ownBlock (E 1)) (hn:n+2*q.length+1≤9000000) (hql:q.length≤1000000) (hlr:∀ r∈q,r.rows.length≤10000000∧r.bP.length≤10000000) (hE:∀ i,(E i).length+8*q.length≤80000000) :
 Calls Tryz.prog 55 #[.pointer (some ⟨K,0,none⟩),.slice sa sn sc] w fun e w'=>e=.returned (.tuple #[])∧∃ (S' M':Fin 7→Value) (E':Fin 7→List (Sl×Int)),Bk w' K (n+2*q.length+1) S' M' E'∧jA K (AQ (.slice sa sn sc) q) (8*q.length+4) w w' S M E S' M' E':=by
 obtain rfl:sn=q.length:=pO hq;have HB:=ae hB;have HQ:=ae hq;have HR:=ae hR;have Xh:=ae ho0;have lG:=ae ho1;have ru:=ae lF;have HLR:=ae hlr;have HE:=ae hE;obtain ⟨sn,hsn⟩:∃ sn,sn=q.length:=⟨_,rfl⟩;rw [← hsn] at HQ lF ru hql ⊢;have Ue:Hid (sn=q.length):=ae hsn;have HN:Hid (n+2*sn+1≤9000000):=ae (by rw [hsn];exact hn);clear hB hq hR ho0 ho1 lF hn hE hsn hlr;go_enter Tryz.func55,Tryz.ntmps55
 go_wp2_with fail
 go_loopw [4] (fun i wr=>∃ (k:Nat) (S1 M1:Fin 7→Value) (E1:Fin 7→List (Sl×Int)),k≤sn∧i=.int .i64 k∧Hid (Bk wr K (n+2*k) S1 M1 E1)∧Hid (jA K (AR (q.take k)) (8*k) w wr S M E S1 M1 E1)) (fun i _=>sn - (intOf i).toNat)
 case atStart=>exact ⟨0,S,M,E,Nat.zero_le _,rfl,HB,jA.refl _ _ _ _ _ _⟩
 case round =>
  obtain ⟨k,S1,M1,E1,hk,rfl,HB1,HT1⟩:=hrel;have aae:∀ c,Value.ownBlock (.slice sa sn sc)=some c→¬ uY K S M (AR (q.take k)) c:=HB.out.apart (j:=5) HQ.out (fun c hc e=>by
   obtain ⟨r,hr,e⟩:=e;have hr2:=List.mem_of_mem_take hr;rcases e with e | e
   ·rcases dI HQ.out (HR.out.rows r hr2) (by decide) with h5 | h5
    ·rw [hc] at h5;cases h5
    ·exact h5 (hc.trans e)
   ·rcases dI HQ.out (HR.out.bP r hr2) (by decide) with h5 | h5
    ·rw [hc] at h5;cases h5
    ·exact h5 (hc.trans e))
  have pz:=ae (Ae HQ.out HT1.out.fr aae);by_cases hlt:k<sn
  ·have hdk:decide ((k:Int)<(sn:Int))=true:=by simp;omega
   obtain ⟨r,hr⟩:∃ r,q[k]? = some r:=⟨q[k]'(by rw [← Ue.out];exact hlt),by simp⟩;have hmem:=List.mem_of_getElem? hr;obtain ⟨g,hga,hmm,hgl,hgc⟩:=Bj (f:=aF.cells) (l:=q) (size:=7) (by rw [← Ue.out];exact pz.out) (fun _=>rfl) hr;obtain rfl:sa=some ⟨g,0,none⟩:=hga;have inj:∀ (f:aF→Value),(q.map f).Pairwise gV→∀ r'∈q.take k,gV (f r) (f r'):=fun f hp r' hr'=>by
    obtain ⟨t,ht,rfl⟩:=List.getElem_of_mem hr';rw [List.length_take] at ht;have hk2:=(mV hr);have:=List.pairwise_iff_getElem.1 hp t k (by rw [List.length_map];omega) (by rw [List.length_map];omega) (by omega);simp only [List.getElem_map] at this;have e:q[k]=r:=(List.getElem?_eq_some_iff.1 hr).2;rw [e] at this;rw [List.getElem_take];exact this.symm
   have apr:=inj (fun r=>r.rs.val) HR.out.ar;have apd:=inj (fun r=>r.ds.val) HR.out.ad;have Vq:∀ c,r.rs.val.ownBlock=some c→¬ uY K S M (AR (q.take k)) c:=HB.out.apart (j:=0) (HR.out.rows r hmem) (fun c hc e=>by
    obtain ⟨r',hr',e⟩:=e;rcases e with e | e
    ·rcases apr r' hr' with h5 | h5
     ·rw [hc] at h5;cases h5
     ·exact h5 (hc.trans e)
    ·rcases dI (HR.out.rows r hmem) (HR.out.bP r' (List.mem_of_mem_take hr')) (by decide) with h5 | h5
     ·rw [hc] at h5;cases h5
     ·exact h5 (hc.trans e))
   have nad:∀ c,r.ds.val.ownBlock=some c→¬ uY K S M (AR (q.take k)) c:=HB.out.apart (j:=1) (HR.out.bP r hmem) (fun c hc e=>by
    obtain ⟨r',hr',e⟩:=e;rcases e with e | e
    ·rcases dI (HR.out.bP r hmem) (HR.out.rows r' (List.mem_of_mem_take hr')) (by decide) with h5 | h5
     ·rw [hc] at h5;cases h5
     ·exact h5 (hc.trans e)
    ·rcases apd r' hr' with h5 | h5
     ·rw [hc] at h5;cases h5
     ·exact h5 (hc.trans e))
   have off:∀ (i:Fin 7) (v:Value),(∀ c,v.ownBlock=some c→c<w.heap.size)→(∀ c,v.ownBlock=some c→¬ uY K S M (AR (q.take k)) c)→dH v.ownBlock (E i)→dH v.ownBlock (E1 i):=by
    intro i v hlt hna ho;cases hv:v.ownBlock with
    | none=>exact fun j s m hi c hc e=>by cases e
    | some c =>
     rw [hv] at ho;exact HT1.out.off i c (hlt c hv) (hna c hv) ho
   have HOR:=ae (off 0 r.rs.val (fun c hc=>((HR.out.rows r hmem).lt c hc).2) Vq (Xh.out r hmem));have MW:=ae (off 1 r.ds.val (fun c hc=>((HR.out.bP r hmem).lt c hc).2) nad (lG.out r hmem));have HRR:=ae (Ae (HR.out.rows r hmem) HT1.out.fr Vq);have vk:=ae (Ae (HR.out.bP r hmem) HT1.out.fr nad);have hl2:=HLR.out r hmem;have HRK:=ae hr;clear apr apd Vq nad off inj hmem hr hmm;obtain ⟨aM,bG,aV,aP,bg,⟨bZ,bR,cK⟩,⟨bX,bN,bY⟩,bF,bC⟩:=r;have HC:Hid (∀ (j:Nat) (u:Value),(rR aM bG aV aP bg bZ bR cK bX bN bY)[j]? = some u→wr.cell? ⟨g,k*7+j,none⟩=some u):=ae hgc;have hrn:bR=bF.length:=pO HRR.out;have hdn:bN=bC.length:=pO vk.out;have aiG:Hid (wr.ownsRow 0 128 2 (.slice bZ bR cK) bR (bF.map Row.cells).flatten):=by have:=HRR.out;rw [← hrn] at this;exact this
   have aiH:Hid (wr.ownsRow 0 57 7 (.slice bX bN bY) bN (bC.map ak.cells).flatten):=by have:=vk.out;rw [← hdn] at this;exact this
   have hb1:bR≤10000000:=by rw [hrn];exact hl2.1
   have hb2:bN≤10000000:=by rw [hdn];exact hl2.2
   have hi1:(0:Int)≤(k:Int):=by omega
   have hi2:(k:Int)<(sn:Int):=by omega
   have HB2:Hid (n+2*k≤9999999):=ae (by have:=HN.out;omega);have HE1:Hid (∀ i,(E1 i).length≤90000000):=ae fun i=>by have h1:=HT1.out.len i;have h2:=HE.out i;have:=Ue.out;omega
   clear hgc hrn hdn hl2;go_wp2_with (first
    | (with_reducible show cB 18 52 ..;go_must (refine bB rfl _ _ rfl g (k*7) rfl 7 _ qD rfl (by kernel_rfl) (rR aM bG aV aP bg bZ bR cK bX bN bY) rfl HC.out ?_))
    | (go_at_call 15;go_must (refine (Ri K (n+2*k) S1 M1 E1 aM bG aV aP bg bZ bR cK bX bN bY _ _ _ HB1.out aiG.out aiH.out HOR.out MW.out HB2.out hb1 hb2 HE1.out).mono ?_;rintro e w2 ⟨rfl,S2,M2,E2,hB2,qY⟩;have HBN:=ae hB2;have HTN:=ae qY;clear hB2 qY)))
   go_roundw
   case rel =>
    refine ⟨k+1,S2,M2,E2,by omega,by go_num,?_,?_⟩
    ·have e:n+2*(k+1)=n+2*k+2:=by omega
     rw [e];exact HBN
    ·refine (HT1.out.trans HTN.out).mono (fun b _ hb=>?_) (by omega)
     have htk:q.take (k+1)=q.take k++[(aF.mk aM bG aV aP bg ⟨bZ,bR,cK⟩ ⟨bX,bN,bY⟩ bF bC)]:=by rw [List.take_add_one,HRK.out];rfl
     unfold AR;rcases hb with ⟨r',hr',hb⟩ | hb
     ·exact ⟨r',by rw [htk];exact List.mem_append_left _ hr',hb⟩
     ·exact ⟨(aF.mk aM bG aV aP bg ⟨bZ,bR,cK⟩ ⟨bX,bN,bY⟩ bF bC),by rw [htk];exact List.mem_append_right _ (by simp),hb⟩
   case measure=>simp [intOf];omega
  ·have hdk:decide ((k:Int)<(sn:Int))=false:=by simp;omega
   obtain rfl:k=sn:=by omega
   have L8:q.take k=q:=List.take_of_length_le (by have:=Ue.out;omega);rw [L8] at HT1 aae;have Oh:dH (Value.ownBlock (.slice sa k sc)) (E1 5):=by
    cases hv:Value.ownBlock (.slice sa k sc) with
    | none=>exact fun j s m hi c hc e=>by cases e
    | some c =>
     have ho:=ru.out;rw [hv] at ho;exact HT1.out.off 5 c (HQ.out.lt c hv).2 (aae c hv) ho
   have hl5:=HT1.out.len 5;have he5:=HE.out 5;have hnn:=HN.out;have qP:Hid (wr.ownsRow 0 52 7 (.slice sa k sc) k (q.map aF.cells).flatten):=ae pz.out;have hsn:=Ue.out;go_upto_region 4 with fail
   refine acf rfl K (n+2*k) (S1 0) (S1 1) (S1 2) (S1 3) (S1 4) (S1 5) (S1 6) (M1 0) (M1 1) (M1 2) (M1 3) (M1 4) (M1 5) (M1 6) (E1 5) sa k sc _ wr HB1.out.blk (HB1.out.oC 5) qP.out Oh (by omega) (by omega) (by omega) _ ?_ (by first | assumption | exact fun _ _ h=>h);intro S' M' R' w' hK hC hl hF hO hS hM;refine ⟨_,_,_,HB1.out.add 5 (by decide) qP.out hK hC hF hM,?_⟩;exact (HT1.out.trans (jA.one (A:=fun b=>some b=Value.ownBlock (.slice sa k sc)) 5 (fun _ e=>e) hF hO hS hM hl)).mono (fun b _ h=>h) (by omega)
end
end Go.Proofs.YtignemioillaiaaGreat
