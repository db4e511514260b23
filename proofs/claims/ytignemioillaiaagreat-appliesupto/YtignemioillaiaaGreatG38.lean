/- The book: a list more (piece). -/
import Derived.Test.YtignemioillaiaaGreatG37
namespace Go.Proofs.YtignemioillaiaaGreat
set_option maxHeartbeats 8000000
set_option maxRecDepth 100000
section
open Go.RowKit Go.Lib
def zY (m:Int):List Value:=[.int .u64 (77+m),.int .u8 0]
theorem Yy:(Tryz.prog.info? 26).map (fun i=>(i.zero,i.size,i.bytes))=some (some (.slice none 0 0),1,24):=by kernel_rfl
theorem Z7:(Tryz.prog.info? 39).map (·.size)=some 1:=by kernel_rfl
theorem Ws (Kb n:Nat) (vR vP vC vV vL vG vI m0 m1 m2 m3 m4 m5 m6:Value) (R:List (Sl×Int)) (sa:Option Addr) (sn sc:Nat) (xs:List Value) (w:World)
 (hK:w.heap[Kb]? = some (.cells #[.int .i64 n,vR,vP,vC,vV,vL,vG,vI,m0,m1,m2,m3,m4,m5,m6] 46)) (hC:rz w 26 107 2 zY vC m2 R) (hs:w.ownsRow 0 107 2 (.slice sa sn sc) sn xs) (hoff:dH (Value.ownBlock (.slice sa sn sc)) R) (hn:n≤10000000) (hsn:sn≤10000000) (hRl:R.length≤100000000) :
 Calls Tryz.prog 54 #[.pointer (some ⟨Kb,0,none⟩),.slice sa sn sc] w fun e w'=>e=.returned (.tuple #[])∧∃ (S' M':Value) (R':List (Sl×Int)),w'.heap[Kb]? = some (.cells #[.int .i64 ((n:Int)+1),vR,vP,S',vV,vL,vG,vI,m0,m1,M',m3,m4,m5,m6] 46)∧rz w' 26 107 2 zY S' M' R'∧R'.length=R.length+4∧Fr (ed Kb (.slice sa sn sc) vC m2) w w'∧(∀ c,c<w.heap.size→¬ (ed Kb (.slice sa sn sc) vC m2) c→dH (some c) R→dH (some c) R')∧(∀ k,S'.ownBlock=some k→(ed Kb (.slice sa sn sc) vC m2) k∨w.heap.size≤k)∧(∀ k,M'.ownBlock=some k→(ed Kb (.slice sa sn sc) vC m2) k∨w.heap.size≤k):=by
 obtain ⟨i0,hi0,hz0,hz1,hz2⟩:=info_parts Sj;obtain ⟨ir,hir,Fj,Fp,Fq⟩:=info_parts Yy;obtain ⟨ii,hii,zJ,zK,zL⟩:=info_parts Az;have eB:Af 107 26:=⟨by decide,by decide,by decide,by decide,by decide⟩;have Mk:Kb<w.heap.size:=(df hK);have hw1:IntKind.i64.wrap (77+(n:Int))=77+(n:Int):=by rw [IntKind.wrap_i64];omega
 have hw2:IntKind.u64.wrap (77+(n:Int))=77+(n:Int):=by have e:IntKind.u64.wrap (77+(n:Int))=(77+(n:Int))%18446744073709551616:=rfl;rw [e];omega
 have hw3:IntKind.i64.wrap ((n:Int)+1)=(n:Int)+1:=by rw [IntKind.wrap_i64];omega
 have hcK:=ah hK;go_enter Tryz.func54,Tryz.ntmps54
 go_upto_region 2 with (first | (with_reducible show dJ 107 4 ..;go_must (refine fH w.heap.size 0 [.int .u64 (77+(n:Int)),.int .u8 0] _ _ _ (heap_alloc_new w (.cells #[.int .u64 0,.int .u8 0] 107)) [.int .u64 (77+(n:Int)),.int .u8 0] ?_;intro w1 hM1 Co;have hb1:=(aj w (.cells #[.int .u64 0,.int .u8 0] 107)).trans (Co.below (Nat.le_refl _));have hK1:=af hb1 hK;have IJ:=ah hK1)) | (with_reducible show dJ 3 20 ..;go_must (refine oZ Kb 0 (.int .i64 ((n:Int)+1)) _ _ hK1 [.int .i64 ((n:Int)+1),vR,vP,vC,vV,vL,vG,vI,m0,m1,m2,m3,m4,m5,m6] ?_;intro w2 hK2 hO2)))
 have hM2:=(hO2.block w.heap.size (by omega)).trans hM1;have rY:=hC.below hb1;have wN:=rV hO2;have hC2:=rY.kept wN (.inr (bf rY.own hK1 eB.sb)) (.inr (bf rY.marks hK1 (by decide))) (rY.off hK1 eB.eb);have hs1:=ay hs hb1;have hs2:=World.ownsRow.kept hs1 wN (.inr (bf hs1 hK1 eB.eb));have hF2:Fr (ed Kb (.slice sa sn sc) vC m2) w w2:=((Fr.refl _ w).later hb1).grown wN (fun k e=>.inl (.inl (by injection e with e;exact e.symm)));have hsz2:w.heap.size<w2.heap.size:=by rw [hO2.size];exact (df hM1)
 have Bh:Value.ownBlock (.slice sa sn sc)≠some w.heap.size:=fun e=>by have:=(World.ownsRow.lt hs _ e).2;omega
 have lH:=ae hC2;have wy:=ae hF2;have HS2:=ae hs2;have zM:Value.ownBlock (.slice sa sn sc)≠some Kb:=bf hs2 hK2 eB.eb;clear hC2 hF2 rY hs1 hcK IJ hK1 hM1 Co hO2 hb1 hs hC wN;go_wp2_with fail
 go_loopw [5] (fun i wr=>∃ k:Nat,k≤sn∧i=.int .i64 k∧Hid (∃ ys,wr.ownsRow 0 107 2 (.slice sa sn sc) sn ys∧ys.take (k*2)=(List.replicate k (zY n)).flatten)∧Hid (w2.grownBy wr (Value.ownBlock (.slice sa sn sc)))) (fun i _=>sn - (intOf i).toNat)
 case atStart=>exact ⟨0,Nat.zero_le _,rfl,⟨_,hs2,by simp⟩,⟨rfl,rfl,rfl,Nat.le_refl _,fun _ _ _=>rfl⟩⟩
 case round =>
  clear hs2;obtain ⟨k,hk,rfl,HO,HG⟩:=hrel;have Bi:=(HG.out.block w.heap.size hsz2 (Ne.symm Bh)).trans hM2;by_cases hlt:k<sn
  ·obtain ⟨ys,hown,hys⟩:=HO.out
   rcases hown.2 with ⟨_,hz⟩ | ⟨gb,cap,dP,hv,hbg,hgg,hnc,hcm,hcs,htk⟩
   ·omega
   ·simp only [Value.slice.injEq] at hv
    obtain ⟨rfl,_,rfl⟩:=hv;have hW:wr.heap[gb]? = some (.cells dP.toList.toArray 107):=by rw [hgg]
    have hdk:decide ((k:Int)<(sn:Int))=true:=by simp;omega
    have hi1:(0:Int)≤(k:Int):=by omega
    have hi2:(k:Int)<(sn:Int):=by omega
    have yR:dP.toList.length=sc*2:=by simpa using hcs
    have hfit:Nat.ble (k*2+2) dP.toList.length=true:=by rw [yR];simp [Nat.ble_eq];omega
    obtain ⟨zs,hzs⟩:∃ zs,zs=dP.toList.take (k*2)++[.int .u64 (77+(n:Int)),.int .u8 0]++dP.toList.drop (k*2+2):=⟨_,rfl⟩;have hzl:zs.length=dP.size:=by rw [hzs,hcs];simp;omega
    have JZ:Hid (zs.take ((k+1)*2)=(List.replicate (k+1) (zY n)).flatten):=by
     show _=_;rw [hzs];refine AA (cs:=zY n) rfl ?_ (by rw [yR];exact Nat.mul_le_mul_right _ (Nat.le_trans hlt hnc));rw [← hys,← htk,List.take_take,Nat.min_eq_left (Nat.mul_le_mul_right _ hk)]
    clear hown hgg HO hys htk;go_wp2_with (first | (with_reducible show cB 29 107 ..;go_must (refine dF w.heap.size 0 2 FC _ _ Bi [.int .u64 (77+(n:Int)),.int .u8 0] ?_)) | (with_reducible show dJ 107 30 ..;go_must (refine eu rfl _ _ _ rfl rfl gb (k*2) rfl [.int .u64 (77+(n:Int)),.int .u8 0] rfl _ MX rfl rfl _ _ hW hfit zs hzs.symm ?_;intro w9 Bu oG)))
    go_roundw
    case rel =>
     refine ⟨k+1,by omega,by go_num,⟨_,wX hbg hnc hcm hcs hzl Bu,?_⟩,?_⟩
     ·rw [List.take_take,Nat.min_eq_left (Nat.mul_le_mul_right _ hlt)]
      exact JZ.out
     ·exact ⟨oG.os.trans HG.out.os,oG.tape.trans HG.out.tape,oG.output.trans HG.out.output,by rw [oG.size];exact HG.out.size,fun b hb hne=>(oG.block b (fun e=>hne (by rw [e];rfl))).trans (HG.out.block b hb hne)⟩
    case measure=>simp [intOf];omega
  ·have hdk:decide ((k:Int)<(sn:Int))=false:=by simp;omega
   have hkn:sn=k:=by omega
   subst hkn;have hm:gX wr 107 2 ⟨sa,sn,sc⟩ (zY n):=by
    obtain ⟨ys,hown,hys⟩:=HO.out;have:ys=(List.replicate sn (zY n)).flatten:=by rw [← hys,List.take_of_length_le (by rw [hown.1];exact Nat.le_refl _)]
    rw [this] at hown;exact hown
   have RS:Hid (fO 107 26 2 zY (fun S M=>#[.int .i64 ((n:Int)+1),vR,vP,S,vV,vL,vG,vI,m0,m1,M,m3,m4,m5,m6]) w wr (ed Kb (.slice sa sn sc) vC m2) Kb w.heap.size n vC m2 ⟨sa,sn,sc⟩ R R (fun c=>dH (some c) R)):=by
    have o1:=dI lH.out.own HS2.out (Ne.symm eB.es);have o2:=dI lH.out.marks HS2.out (Ne.symm eB.ei);have uW:=lH.out.kept HG.out o1 o2 hoff;refine ⟨(HG.out.block Kb (by omega) (Ne.symm zM)).trans hK2,Bi,uW.own,uW.marks,uW.all,fun i s m hi=>?_,hm,wy.out.grown HG.out (fun k e=>.inl (.inr (.inl e.symm))),.inl rfl,by omega,fun k e=>.inl (.inr (.inr (.inl e.symm))),fun k e=>.inl (.inr (.inr (.inr e.symm))),fun k e=>.inl (.inr (.inl e.symm)),fun c _ _ h=>h,Bh,uW.bnd,by omega⟩;cases hb:s.val.ownBlock with
    | none=>exact .inl rfl
    | some c=>exact .inr (.inl fun e=>hoff i s m hi c hb e.symm)
   clear hm HO HG Bi hM2 hK2 zM Bh;go_wp2_with fail
   go_loopw [1,6] (fun v i wx=>∃ (j:Nat) (S M:Value) (ta:Option Addr) (tl tc:Nat) (E:List (Sl×Int)),v=.slice ta tl tc∧i=.int .i64 j∧j≤4∧Hid (tl=sn+j)∧Hid (E.length=R.length+j)∧Hid (fO 107 26 2 zY (fun S M=>#[.int .i64 ((n:Int)+1),vR,vP,S,vV,vL,vG,vI,m0,m1,M,m3,m4,m5,m6]) w wx (ed Kb (.slice sa sn sc) vC m2) Kb w.heap.size n S M ⟨ta,tl,tc⟩ E E (fun c=>dH (some c) R))) (fun _ i _=>4 - (intOf i).toNat)
   case atStart=>exact ⟨0,_,_,sa,sn,sc,R,rfl,rfl,by omega,rfl,rfl,RS⟩
   case round =>
    clear RS hdk;obtain ⟨j,S,M,ta,tl,tc,E,rfl,rfl,hj,CL,uX,RS⟩:=hrel;have qx:Hid (E.length≤100000004):=by have:=uX.out;show _≤_;omega
    have qL:=ah RS.out.blk;by_cases U6:j<4
    ·have hdj:decide ((j:Int)<4)=true:=by simp;omega
     go_upto_region 10 with (first | (with_reducible show yw 42 ..;go_must (refine aZ _ rfl _ _ 39 rfl 0 26 ir (.slice none 0 0) 1 24 ahg hir Fj Fp Fq rfl (by decide) S E.length (E.map fun (x:Sl×Int)=>x.1.val) rfl (World.ownsRow.alloc RS.out.own _) _ 1 1 [.slice ta tl tc] rfl rfl ?_ ?_ ?_ ?_ (Nat.zero_le _) ?_;(· exact cu rfl);(· exact cz rfl);(· (have:=qx.out;unfold maxLen;omega));(· (have:=qx.out;omega));intro S' w5 lF hg5;have rH:=hg5.blk (af (aj _ _) RS.out.blk) (Ne.symm (bf RS.out.own RS.out.blk eB.sb)))) | (with_reducible show dJ 39 44 ..;go_must (refine cZ rfl _ _ _ rfl rfl Kb 3 rfl S' rfl Z7 (dR lF) _ _ rH rfl [.int .i64 ((n:Int)+1),vR,vP,S',vV,vL,vG,vI,m0,m1,M,m3,m4,m5,m6] rfl ?_;intro w6 Bf zx)))
     have eX:=ae (fO.join eB RS.out lF hg5 Bf zx);clear RS lF hg5 Bf zx rH qL;have qL:=ah eX.out.blk;have Fs:=oh (Below.refl _ w6) eX.out.blk;have Fu:=(df eX.out.blk);have hc0:w6.cell? ⟨Kb,0,none⟩=some (.int .i64 ((n:Int)+1)):=qL 0;have hcA:=fun (o:Obj)=>ah (af (aj w6 o) eX.out.blk)
     have hw4:(n:Int)+1 - 1=(n:Int):=by omega
     have Yx:IntKind.i64.wrap (n:Int)=(n:Int):=by rw [IntKind.wrap_i64];omega
     have qZ:=World.ownsRow.alloc eX.out.marks (.cells #[.int .i64 n] 3);go_cut [4] from 31 to 64 (fun s wx=>s=.pointer (some ⟨w.heap.size,0,none⟩)∧∃ M':Value,Hid (fO 107 26 2 zY (fun S M=>#[.int .i64 ((n:Int)+1),vR,vP,S,vV,vL,vG,vI,m0,m1,M,m3,m4,m5,m6]) w wx (ed Kb (.slice sa sn sc) vC m2) Kb w.heap.size n S' M' ⟨ta,tl,tc⟩ (E++[(⟨ta,tl,tc⟩,(n:Int))]) (E++[(⟨ta,tl,tc⟩,(n:Int))]) (fun c=>dH (some c) R)))
     case first =>
      refine wp_region_noPanic ?_;refine wp_region_held_drew (S:=(fun w'=>w'.cell? ⟨Kb,0,none⟩=some (.int .i64 ((n:Int)+1)))) (by kernel_rfl) (hc0) (fun hHeld=>?_);refine dC 0 ?_;try simp only [Act.put,dK]
      refine dC 1 ?_;try simp only [Act.put]
      refine dC 2 ?_;try simp only [Act.put]
      refine dC 3 ?_;try simp only [Act.put]
      refine dC 4 ?_;try simp only [Act.put]
      refine dC 6 ?_;try simp only [Act.put]
      refine dC 7 ?_;try simp only [Act.put]
      refine dC 8 ?_;try simp only [Act.put]
      refine dC 9 ?_;try simp only [Act.put]
      refine dC 10 ?_;try simp only [Act.put]
      refine dC 13 ?_;try simp only [Act.put]
      refine dC 14 ?_;try simp only [Act.put]
      refine wpAnyH_ready (rs:=[5,11]) (by kernel_rfl) (by simp) ?_;refine AllReadyH.cons (o:=_) rfl (fun K hK=>?_) (AllReadyH.cons (o:=_) rfl (fun K hK=>?_) AllReadyH.nil)
      ·go_simp
       refine hK.out _ _ (hc0) (fun hHeld=>?_);clear hK K;try simp only [Act.put,dK,fF,fG]
       refine mo 11 (fun K hK=>?_);go_simp
       refine hK.out _ _ (hcA _ 0) (fun hHeld=>?_);clear hK K;try simp only [Act.put,dK,fF,fG]
       refine mo 12 (fun K hK=>?_);refine jv rfl _ _ 23 rfl 0 3 ii (.int .i64 0) 1 8 AL hii zJ zK zL rfl (by decide) M E.length (E.map fun (x:Sl×Int)=>Value.int .i64 x.2) rfl qZ ⟨w6.heap.size,0,none⟩ 1 1 [.int .i64 n] rfl rfl (cu rfl) (cz rfl) (by have:=qx.out;unfold maxLen;omega) (by have:=qx.out;omega) (Nat.zero_le _) ?_;intro M' w' ho hg;obtain ⟨ma,ml,mc,rfl⟩:=aB ho;have hKn:=(nz hg).blk (af (aj w6 _) eX.out.blk) (Ne.symm (bf eX.out.marks eX.out.blk (by decide)));have mX:=ae (fO.count eB eX.out ho (nz hg) (by rw [heap_setCell_same w' Kb 10 _ _ _ hKn];rfl) (oH w' Kb 10 (.slice ma ml mc)));have hcn:=ah hKn;have hfn:=oh (Below.refl _ w') hKn;clear ho hg hKn;refine hK.out _ _ (hcn 0) (fun hHeld=>?_);clear hK K;try simp only [Act.put,dK]
       refine dC 15 ?_;try simp only [Act.put]
       refine mo 16 (fun K hK=>?_);go_simp
       refine hK.out _ _ ((ah mX.out.blk 0)) (fun hHeld=>?_);clear hK K;try simp only [Act.put,dK,fF,fG]
       refine wpAnyH_done (by kernel_rfl) ?_ _;refine NoPanic.normal ?_;go_wp2_with fail
       go_meet
       exact ⟨rfl,_,mX⟩
      ·go_simp
       refine hK.out _ _ (hcA _ 0) (fun hHeld=>?_);clear hK K;try simp only [Act.put,dK,fF,fG]
       refine mo 5 (fun K hK=>?_);go_simp
       refine hK.out _ _ (hcA _ 0) (fun hHeld=>?_);clear hK K;try simp only [Act.put,dK,fF,fG]
       refine mo 12 (fun K hK=>?_);refine jv rfl _ _ 23 rfl 0 3 ii (.int .i64 0) 1 8 AL hii zJ zK zL rfl (by decide) M E.length (E.map fun (x:Sl×Int)=>Value.int .i64 x.2) rfl qZ ⟨w6.heap.size,0,none⟩ 1 1 [.int .i64 n] rfl rfl (cu rfl) (cz rfl) (by have:=qx.out;unfold maxLen;omega) (by have:=qx.out;omega) (Nat.zero_le _) ?_;intro M' w' ho hg;obtain ⟨ma,ml,mc,rfl⟩:=aB ho;have hKn:=(nz hg).blk (af (aj w6 _) eX.out.blk) (Ne.symm (bf eX.out.marks eX.out.blk (by decide)));have mX:=ae (fO.count eB eX.out ho (nz hg) (by rw [heap_setCell_same w' Kb 10 _ _ _ hKn];rfl) (oH w' Kb 10 (.slice ma ml mc)));have hcn:=ah hKn;have hfn:=oh (Below.refl _ w') hKn;clear ho hg hKn;refine hK.out _ _ (hcn 0) (fun hHeld=>?_);clear hK K;try simp only [Act.put,dK]
       refine dC 15 ?_;try simp only [Act.put]
       refine mo 16 (fun K hK=>?_);go_simp
       refine hK.out _ _ ((ah mX.out.blk 0)) (fun hHeld=>?_);clear hK K;try simp only [Act.put,dK,fF,fG]
       refine wpAnyH_done (by kernel_rfl) ?_ _;refine NoPanic.normal ?_;go_wp2_with fail
       go_meet
       exact ⟨rfl,_,mX⟩
     case rest =>
      obtain ⟨rfl,M',mX⟩:=hcut;clear eX qL Fs Fu hc0 hcA qZ;have NW:wc.heap[w.heap.size]? = some (.cells #[.int .u64 (77+(n:Int)),.int .u8 0] 107):=mX.out.mark;have J2:wc.ownsRow 0 107 2 (.slice ta tl tc) tl (List.replicate tl (zY n)).flatten:=mX.out.tm;have CO:Hid (tl≤10000260):=by have:=CL.out;show _≤_;omega
      go_wp2_with (first | (with_reducible show cB 62 107 ..;go_must (refine dF w.heap.size 0 2 FC _ _ NW [.int .u64 (77+(n:Int)),.int .u8 0] ?_)) | (with_reducible show yw 64 ..;go_must (refine nZ _ rfl _ _ 26 rfl 0 107 i0 (.agg #[.int .u64 0,.int .u8 0]) 2 16 Lv hi0 hz0 hz1 hz2 rfl (by decide) (.slice ta tl tc) tl (List.replicate tl (zY n)).flatten rfl (World.ownsRow.alloc J2 _) _ 1 1 [.int .u64 (77+(n:Int)),.int .u8 0] rfl rfl ?_ ?_ ?_ ?_ (Nat.zero_le _) ?_;(· exact cu rfl);(· exact cz rfl);(· (have:=CO.out;unfold maxLen;omega));(· (have:=CO.out;omega));intro v' w7 yX J3 J4;obtain ⟨ua,ul,uc,rfl⟩:=aB yX)))
      have J5:=Ak yX;go_roundw
      case rel=>exact ⟨j+1,_,_,ua,ul,uc,E++[(⟨ta,tl,tc⟩,(n:Int))],rfl,by go_num,by omega,(by have:=CL.out;show _=_;omega),(by have:=uX.out;show _=_;simp;omega),fO.longer (t:=⟨ta,tl,tc⟩) (t':=⟨ua,ul,uc⟩) eB rfl (by decide) mX.out J5 yX J3 J4⟩
      case measure=>simp [intOf];omega
    ·have hdj:decide ((j:Int)<4)=false:=by simp;omega
     have J6:j=4:=by omega
     subst J6;go_wp2_with fail
     go_end0
     exact ⟨rfl,S,M,E,RS.out.blk,⟨RS.out.own,RS.out.marks,RS.out.all,RS.out.bnd⟩,uX.out,RS.out.fr,RS.out.off,RS.out.sS,RS.out.sM⟩
theorem Ae {A:Nat→Prop} {w w':World} {b:Nat} {e:TypeId} {size n:Nat} {v:Value} {xs:List Value} (h:w.ownsRow b e size v n xs) (hf:Fr A w w') (hA:∀ k,v.ownBlock=some k→¬ A k):w'.ownsRow b e size v n xs:=by
 refine ⟨h.1,?_⟩;rcases h.2 with h1 | ⟨g,cap,cur,rfl,h2,h3,h4⟩
 ·exact .inl h1
 ·exact .inr ⟨g,cap,cur,rfl,h2,(hf.block g (df h3) (hA g rfl)).trans h3,h4⟩
theorem J7 {A:Nat→Prop} {w w':World} {B:Nat} {o:Obj} (h:w.heap[B]? = some o) (hf:Fr A w w') (hA:¬ A B):w'.heap[B]? = some o:=(hf.block B (df h) hA).trans h
theorem Fr.trans {A A':Nat→Prop} {w w1 w2:World} (h:Fr A w w1) (k:Fr A' w1 w2) (hs:∀ b,A' b→A b∨w.heap.size≤b):Fr A w w2 :=
 ⟨k.os.trans h.os,k.tape.trans h.tape,k.output.trans h.output,Nat.le_trans h.size k.size,fun b hb hA=>(k.block b (Nat.lt_of_lt_of_le hb h.size) (fun e=>by rcases hs b e with h1 | h1;exact hA h1;omega)).trans (h.block b hb hA)⟩
theorem Fr.mono {A A':Nat→Prop} {w w':World} (h:Fr A w w') (hs:∀ b,b<w.heap.size→A b→A' b):Fr A' w w':=⟨h.os,h.tape,h.output,h.size,fun b hb hA=>h.block b hb (fun e=>hA (hs b hb e))⟩
theorem J8 {w:World} {K b1 b2 b3 b4:Nat} {e te ts:TypeId} {size s2 s3 s4 n n2 n3 n4:Nat} {v s S M:Value} {xs x2 x3 x4:List Value} {cur:Array Value} {fz:Nat×Nat} (h:w.ownsRow b1 e size v n xs) (hK:w.heap[K]? = some (.cells cur 46 fz)) (hs:w.ownsRow b2 te s2 s n2 x2) (hS:w.ownsRow b3 ts s3 S n3 x3)
 (_hM:w.ownsRow b4 3 s4 M n4 x4) (h1:e≠46) (h2:e≠te) (h3:e≠ts) (h4:v.ownBlock=none∨v.ownBlock≠M.ownBlock):∀ k,v.ownBlock=some k→¬ ed K s S M k:=by
 intro k hk hA;rcases hA with rfl | hA | hA | hA
 ·exact bf h hK h1 hk
 ·rcases dI h hs h2 with h5 | h5
  ·rw [hk] at h5;cases h5
  ·exact h5 (hk.trans hA)
 ·rcases dI h hS h3 with h5 | h5
  ·rw [hk] at h5;cases h5
  ·exact h5 (hk.trans hA)
 ·rcases h4 with h5 | h5
  ·rw [hk] at h5;cases h5
  ·exact h5 (hk.trans hA)
theorem Rf {w:World} {b b':Nat} {e:TypeId} {size size' n n':Nat} {v M:Value} {xs xs':List Value} (h:w.ownsRow b e size v n xs) (hM:w.ownsRow b' 3 size' M n' xs') (hne:e≠3):v.ownBlock=none∨v.ownBlock≠M.ownBlock:=dI h hM hne
theorem Ub {A:Nat→Prop} {N:Nat} {v v':Value} (h1:∀ k,v.ownBlock=some k→¬ A k) (h2:∀ k,v.ownBlock=some k→k<N) (h3:∀ k,v'.ownBlock=some k→A k∨N≤k):v'.ownBlock=none∨v'.ownBlock≠v.ownBlock:=by
 cases hv:v'.ownBlock with
 | none=>exact .inl rfl
 | some c =>
  refine .inr fun e=>?_
  rcases h3 c hv with h4 | h4
  ·exact h1 c e.symm h4
  ·have:=h2 c e.symm;omega
theorem rz.fr {A:Nat→Prop} {w w':World} {ts te:TypeId} {size:Nat} {mk:Int→List Value} {S M:Value} {E:List (Sl×Int)} (h:rz w ts te size mk S M E) (hf:Fr A w w') (h1:∀ k,S.ownBlock=some k→¬ A k) (h2:∀ k,M.ownBlock=some k→¬ A k) (h3:∀ (i:Nat) (s:Sl) (m:Int),E[i]? = some (s,m)→∀ k,s.val.ownBlock=some k→¬ A k):rz w' ts te size mk S M E :=
 ⟨Ae h.own hf h1,Ae h.marks hf h2,fun i s m hi=>Ae (h.all i s m hi) hf (h3 i s m hi),h.bnd⟩
def yu (m:Int):List Value:=[.int .u32 (77+m),.slice none 0 0]
def wP (m:Int):List Value:=(rR 0 0 (77+m) 0 0 none 0 0 none 0 0)
def wQ (m:Int):List Value:=[.int .u32 (77+m)]
def He:Fin 7→TypeId
 | 0=>25 | 1=>27 | 2=>26 | 3=>194 | 4=>28 | 5=>101 | 6=>29
def F3:Fin 7→TypeId
 | 0=>128 | 1=>57 | 2=>107 | 3=>196 | 4=>103 | 5=>52 | 6=>47
def szK:Fin 7→Nat
 | 0=>2 | 1=>7 | 2=>2 | 3=>20 | 4=>2 | 5=>7 | 6=>1
def mkK:Fin 7→Int→List Value
 | 0=>ym | 1=>yt | 2=>zY | 3=>fun _=>[] | 4=>yu | 5=>wP | 6=>wQ
theorem IK (i j:Fin 7):F3 i≠He j:=by revert i j;decide
theorem Z8 (i j:Fin 7) (h:i≠j):F3 i≠F3 j:=by revert i j;decide
theorem Z9 (i j:Fin 7) (h:i≠j):He i≠He j:=by revert i j;decide
theorem zN (i:Fin 7):F3 i≠3∧He i≠3∧F3 i≠46∧He i≠46:=by revert i;decide
def upd {α:Type} (f:Fin 7→α) (i:Fin 7) (v:α):Fin 7→α:=fun j=>if j=i then v else f j
theorem upd_same {α:Type} (f:Fin 7→α) (i:Fin 7) (v:α):upd f i v i=v:=by simp [upd]
theorem upd_ne {α:Type} (f:Fin 7→α) {i j:Fin 7} (v:α) (h:j≠i):upd f i v j=f j:=by simp [upd,h]
def Dx (n:Int) (S M:Fin 7→Value):Array Value:=#[.int .i64 n,S 0,S 1,S 2,S 3,S 4,S 5,S 6,M 0,M 1,M 2,M 3,M 4,M 5,M 6]
structure Bk (w:World) (K n:Nat) (S M:Fin 7→Value) (E:Fin 7→List (Sl×Int)):Prop where
 blk:w.heap[K]? = some (.cells (Dx n S M) 46)
 oC:∀ i,rz w (He i) (F3 i) (szK i) (mkK i) (S i) (M i) (E i)
 mm:∀ i j,i≠j→gV (M i) (M j)
 Rh:E 3=[]
section
variable {w w':World} {K n:Nat} {S M:Fin 7→Value} {E:Fin 7→List (Sl×Int)}
theorem Bk.later (h:Bk w K n S M E) (hb:Below w.heap.size w w'):Bk w' K n S M E:=⟨af hb h.blk,fun i=>(h.oC i).below hb,h.mm,h.Rh⟩
def uY (K:Nat) (S M:Fin 7→Value) (A:Nat→Prop) (b:Nat):Prop:=b=K∨A b∨∃ i,some b=(S i).ownBlock∨some b=(M i).ownBlock
theorem uY.of {A:Nat→Prop} {i:Fin 7} {s:Value} {b:Nat} (h:ed K s (S i) (M i) b) (hA:∀ b,some b=s.ownBlock→A b):uY K S M A b:=by
 rcases h with h | h | h | h
 ·exact .inl h
 ·exact .inr (.inl (hA b h))
 ·exact .inr (.inr ⟨i,.inl h⟩)
 ·exact .inr (.inr ⟨i,.inr h⟩)
structure jA (K:Nat) (A:Nat→Prop) (d:Nat) (w w':World) (S M:Fin 7→Value) (E:Fin 7→List (Sl×Int)) (S' M':Fin 7→Value) (E':Fin 7→List (Sl×Int)):Prop where
 fr:Fr (uY K S M A) w w'
 off:∀ i c,c<w.heap.size→¬ uY K S M A c→dH (some c) (E i)→dH (some c) (E' i)
 org:∀ i k,(S' i).ownBlock=some k∨(M' i).ownBlock=some k→uY K S M A k∨w.heap.size≤k
 len:∀ i,(E' i).length≤(E i).length+d
theorem jA.refl (K:Nat) (A:Nat→Prop) (w:World) (S M:Fin 7→Value) (E:Fin 7→List (Sl×Int)):jA K A 0 w w S M E S M E :=
 ⟨Fr.refl _ w,fun _ _ _ _ h=>h,fun i _k hk=>.inl (.inr (.inr ⟨i,hk.imp Eq.symm Eq.symm⟩)),fun _=>Nat.le_refl _⟩
theorem jA.mono {A A':Nat→Prop} {d d':Nat} {S' M':Fin 7→Value} {E':Fin 7→List (Sl×Int)} (h:jA K A d w w' S M E S' M' E') (hA:∀ b,b<w.heap.size→A b→A' b) (hd:d≤d'):jA K A' d' w w' S M E S' M' E':=by
 have sub:∀ b,b<w.heap.size→uY K S M A b→uY K S M A' b:=fun b hb hx=>hx.imp id (fun h=>h.imp (hA b hb) id)
 refine ⟨h.fr.mono sub,fun i c hc hn ho=>h.off i c hc (fun e=>hn (sub c hc e)) ho,fun i k hk=>?_,fun i=>Nat.le_trans (h.len i) (by omega)⟩;rcases Nat.lt_or_ge k w.heap.size with hl | hl
 ·exact (h.org i k hk).imp (sub k hl) id
 ·exact .inr hl
theorem jA.trans {A A':Nat→Prop} {d d':Nat} {w1 w2:World} {S1 M1 S2 M2:Fin 7→Value} {E1 E2:Fin 7→List (Sl×Int)} (h:jA K A d w w1 S M E S1 M1 E1) (k:jA K A' d' w1 w2 S1 M1 E1 S2 M2 E2):jA K (fun b=>A b∨A' b) (d+d') w w2 S M E S2 M2 E2:=by
 have up:∀ b,uY K S M A b→uY K S M (fun b=>A b∨A' b) b:=fun b hb=>hb.imp id (fun h=>h.imp .inl id)
 have sub:∀ b,uY K S1 M1 A' b→uY K S M (fun b=>A b∨A' b) b∨w.heap.size≤b:=by
  rintro b (hb | hb | ⟨i,hb⟩)
  ·exact .inl (.inl hb)
  ·exact .inl (.inr (.inl (.inr hb)))
  ·rcases h.org i b (hb.imp Eq.symm Eq.symm) with h1 | h1
   ·exact .inl (up b h1)
   ·exact .inr h1
 refine ⟨(h.fr.mono (fun b _=>up b)).trans k.fr sub,fun i c hc hn ho=>?_,fun i b hb=>?_,fun i=>by have:=h.len i;have:=k.len i;omega⟩
 ·refine k.off i c (Nat.lt_of_lt_of_le hc h.fr.size) (fun e=>?_) (h.off i c hc (fun e=>hn (up c e)) ho)
  rcases sub c e with h1 | h1
  ·exact hn h1
  ·omega
 ·rcases k.org i b hb with h1 | h1
  ·exact sub b h1
  ·exact .inr (Nat.le_trans h.fr.size h1)
theorem jA.before {A:Nat→Prop} {d:Nat} {w0:World} {S' M':Fin 7→Value} {E':Fin 7→List (Sl×Int)} (hb:Below w0.heap.size w0 w) (h:jA K A d w w' S M E S' M' E'):jA K A d w0 w' S M E S' M' E' :=
 ⟨((Fr.refl _ w0).later hb).trans h.fr (fun _b hb=>.inl hb),fun i c hc hn ho=>h.off i c (Nat.lt_of_lt_of_le hc hb.size) hn ho,fun i k hk=>(h.org i k hk).imp id (fun e=>Nat.le_trans hb.size e),h.len⟩
theorem Bk.apart (h:Bk w K n S M E) {j:Fin 7} {A:Nat→Prop} {b size m:Nat} {v:Value} {xs:List Value} (hv:w.ownsRow b (F3 j) size v m xs) (hA:∀ k,v.ownBlock=some k→¬ A k):∀ k,v.ownBlock=some k→¬ uY K S M A k:=by
 intro k hk e;rcases e with e | e | ⟨i,e | e⟩
 ·exact bf hv h.blk (zN j).2.2.1 (by rw [hk,e])
 ·exact hA k hk e
 ·rcases dI hv (h.oC i).own (IK j i) with h5 | h5
  ·rw [hk] at h5;cases h5
  ·exact h5 (hk.trans e)
 ·rcases dI hv (h.oC i).marks (zN j).1 with h5 | h5
  ·rw [hk] at h5;cases h5
  ·exact h5 (hk.trans e)
theorem Bk.add (i:Fin 7) (hi3:3≠i) {S' M' s:Value} {E':List (Sl×Int)} {sn:Nat} {xs:List Value} (h:Bk w K n S M E) (hs:w.ownsRow 0 (F3 i) (szK i) s sn xs)
 (hK:w'.heap[K]? = some (.cells (Dx ((n:Int)+1) (upd S i S') (upd M i M')) 46)) (hC:rz w' (He i) (F3 i) (szK i) (mkK i) S' M' E') (hF:Fr (ed K s (S i) (M i)) w w') (hM:∀ k,M'.ownBlock=some k→ed K s (S i) (M i) k∨w.heap.size≤k):Bk w' K (n+1) (upd S i S') (upd M i M') (upd E i E'):=by
 have nm:∀ j,j≠i→∀ k,(M j).ownBlock=some k→¬ ed K s (S i) (M i) k:=fun j hj=>J8 (h.oC j).marks h.blk hs (h.oC i).own (h.oC i).marks (by decide) (Ne.symm (zN i).1) (Ne.symm (zN i).2.1) (h.mm j i hj)
 refine ⟨by rw [hK];rfl,fun j=>?_,fun a b hab=>?_,by rw [upd_ne _ _ hi3];exact h.Rh⟩
 ·by_cases hj:j=i
  ·subst hj
   rw [upd_same,upd_same,upd_same];exact hC
  ·rw [upd_ne _ _ hj,upd_ne _ _ hj,upd_ne _ _ hj]
   exact (h.oC j).fr hF (J8 (h.oC j).own h.blk hs (h.oC i).own (h.oC i).marks (zN j).2.2.2 (Ne.symm (IK i j)) (Z9 j i hj) (Rf (h.oC j).own (h.oC i).marks (zN j).2.1)) (nm j hj) (fun q t m hq=>J8 ((h.oC j).all q t m hq) h.blk hs (h.oC i).own (h.oC i).marks (zN j).2.2.1 (Z8 j i hj) (IK j i) (Rf ((h.oC j).all q t m hq) (h.oC i).marks (zN j).1))
 ·have one:∀ j,j≠i→gV M' (M j):=fun j hj=>Ub (nm j hj) (fun k hk=>(World.ownsRow.lt (h.oC j).marks k hk).2) hM
  by_cases ha:a=i
  ·subst ha
   rw [upd_same,upd_ne _ _ (Ne.symm hab)];exact one b (Ne.symm hab)
  ·rw [upd_ne _ _ ha]
   by_cases hb:b=i
   ·subst hb
    rw [upd_same];exact (one a hab).symm
   ·rw [upd_ne _ _ hb]
    exact h.mm a b hab
theorem jA.one (i:Fin 7) {A:Nat→Prop} {S' M' s:Value} {E':List (Sl×Int)} (hA:∀ b,some b=s.ownBlock→A b) (hF:Fr (ed K s (S i) (M i)) w w') (hO:∀ c,c<w.heap.size→¬ ed K s (S i) (M i) c→dH (some c) (E i)→dH (some c) E') (hS:∀ k,S'.ownBlock=some k→ed K s (S i) (M i) k∨w.heap.size≤k) (hM:∀ k,M'.ownBlock=some k→ed K s (S i) (M i) k∨w.heap.size≤k) (hl:E'.length=(E i).length+4):jA K A 4 w w' S M E (upd S i S') (upd M i M') (upd E i E'):=by
 refine ⟨hF.mono (fun b _ h=>uY.of h hA),fun j c hc hn ho=>?_,fun j k hk=>?_,fun j=>?_⟩
 ·by_cases hj:j=i
  ·subst hj
   rw [upd_same];exact hO c hc (fun e=>hn (uY.of e hA)) ho
  ·rw [upd_ne _ _ hj];exact ho
 ·by_cases hj:j=i
  ·subst hj
   rw [upd_same,upd_same] at hk;rcases hk with hk | hk
   ·exact (hS k hk).imp (fun e=>uY.of e hA) id
   ·exact (hM k hk).imp (fun e=>uY.of e hA) id
  ·rw [upd_ne _ _ hj,upd_ne _ _ hj] at hk
   exact .inl (.inr (.inr ⟨j,hk.imp Eq.symm Eq.symm⟩))
 ·by_cases hj:j=i
  ·subst hj;rw [upd_same];omega
  ·rw [upd_ne _ _ hj];omega
end
theorem Yz (K n:Nat) (S M:Fin 7→Value) (E:Fin 7→List (Sl×Int)) (sa:Option Addr) (sn sc:Nat) (xs:List Value) (w:World) (h:Bk w K n S M E) (hs:w.ownsRow 0 128 2 (.slice sa sn sc) sn xs) (hoff:dH (Value.ownBlock (.slice sa sn sc)) (E 0)) (hn:n≤10000000) (hsn:sn≤10000000) (hRl:(E 0).length≤100000000) :
 Calls Tryz.prog 52 #[.pointer (some ⟨K,0,none⟩),.slice sa sn sc] w fun e w'=>e=.returned (.tuple #[])∧∃ (S' M':Fin 7→Value) (E':Fin 7→List (Sl×Int)),Bk w' K (n+1) S' M' E'∧jA K (fun b=>some b=Value.ownBlock (.slice sa sn sc)) 4 w w' S M E S' M' E':=by
 refine (Z6 K n (S 0) (S 1) (S 2) (S 3) (S 4) (S 5) (S 6) (M 0) (M 1) (M 2) (M 3) (M 4) (M 5) (M 6) (E 0) sa sn sc xs w h.blk (h.oC 0) hs hoff hn hsn hRl).mono ?_;rintro e w' ⟨rfl,S',M',R',hK,hC,hl,hF,hO,hS,hM⟩;exact ⟨rfl,_,_,_,h.add 0 (by decide) hs hK hC hF hM,jA.one 0 (fun _ e=>e) hF hO hS hM hl⟩
theorem Uc (K n:Nat) (S M:Fin 7→Value) (E:Fin 7→List (Sl×Int)) (sa:Option Addr) (sn sc:Nat) (xs:List Value) (w:World) (h:Bk w K n S M E) (hs:w.ownsRow 0 57 7 (.slice sa sn sc) sn xs) (hoff:dH (Value.ownBlock (.slice sa sn sc)) (E 1)) (hn:n≤10000000) (hsn:sn≤10000000) (hRl:(E 1).length≤100000000) :
 Calls Tryz.prog 53 #[.pointer (some ⟨K,0,none⟩),.slice sa sn sc] w fun e w'=>e=.returned (.tuple #[])∧∃ (S' M':Fin 7→Value) (E':Fin 7→List (Sl×Int)),Bk w' K (n+1) S' M' E'∧jA K (fun b=>some b=Value.ownBlock (.slice sa sn sc)) 4 w w' S M E S' M' E':=by
 refine (Wq K n (S 0) (S 1) (S 2) (S 3) (S 4) (S 5) (S 6) (M 0) (M 1) (M 2) (M 3) (M 4) (M 5) (M 6) (E 1) sa sn sc xs w h.blk (h.oC 1) hs hoff hn hsn hRl).mono ?_;rintro e w' ⟨rfl,S',M',R',hK,hC,hl,hF,hO,hS,hM⟩;exact ⟨rfl,_,_,_,h.add 1 (by decide) hs hK hC hF hM,jA.one 1 (fun _ e=>e) hF hO hS hM hl⟩
theorem aaa (K n:Nat) (S M:Fin 7→Value) (E:Fin 7→List (Sl×Int)) (sa:Option Addr) (sn sc:Nat) (xs:List Value) (w:World) (h:Bk w K n S M E) (hs:w.ownsRow 0 107 2 (.slice sa sn sc) sn xs) (hoff:dH (Value.ownBlock (.slice sa sn sc)) (E 2)) (hn:n≤10000000) (hsn:sn≤10000000) (hRl:(E 2).length≤100000000) :
 Calls Tryz.prog 54 #[.pointer (some ⟨K,0,none⟩),.slice sa sn sc] w fun e w'=>e=.returned (.tuple #[])∧∃ (S' M':Fin 7→Value) (E':Fin 7→List (Sl×Int)),Bk w' K (n+1) S' M' E'∧jA K (fun b=>some b=Value.ownBlock (.slice sa sn sc)) 4 w w' S M E S' M' E':=by
 refine (Ws K n (S 0) (S 1) (S 2) (S 3) (S 4) (S 5) (S 6) (M 0) (M 1) (M 2) (M 3) (M 4) (M 5) (M 6) (E 2) sa sn sc xs w h.blk (h.oC 2) hs hoff hn hsn hRl).mono ?_;rintro e w' ⟨rfl,S',M',R',hK,hC,hl,hF,hO,hS,hM⟩;exact ⟨rfl,_,_,_,h.add 2 (by decide) hs hK hC hF hM,jA.one 2 (fun _ e=>e) hF hO hS hM hl⟩
theorem Ri (K n:Nat) (S M:Fin 7→Value) (E:Fin 7→List (Sl×Int)) (aM bG aV aP bg:Int) (bZ:Option Addr) (bR cK:Nat) (bX:Option Addr) (bN bY:Nat) (xs ys:List Value) (w:World) (hB:Bk w K n S M E)
 (hr:w.ownsRow 0 128 2 (.slice bZ bR cK) bR xs) (hd:w.ownsRow 0 57 7 (.slice bX bN bY) bN ys) (hor:dH (Value.ownBlock (.slice bZ bR cK)) (E 0)) (hod:dH (Value.ownBlock (.slice bX bN bY)) (E 1)) (hn:n≤9999999) (h1:bR≤10000000) (h2:bN≤10000000) (h3:∀ i,(E i).length≤90000000) :
 Calls Tryz.prog 15 #[.pointer (some ⟨K,0,none⟩),.agg (rR aM bG aV aP bg bZ bR cK bX bN bY).toArray] w fun e w'=>e=.returned (.tuple #[])∧∃ (S' M':Fin 7→Value) (E':Fin 7→List (Sl×Int)),Bk w' K (n+2) S' M' E'∧jA K (fun b=>some b=Value.ownBlock (.slice bZ bR cK)∨some b=Value.ownBlock (.slice bX bN bY)) 8 w w' S M E S' M' E':=by
 obtain ⟨W,hW⟩:∃ W,W=w.alloc (.cells (rR aM bG aV aP bg bZ bR cK bX bN bY).toArray 52):=⟨_,rfl⟩;have hb0:Below w.heap.size w W:=by rw [hW];exact aj w _
 have HB0:=ae (hB.later hb0);have hW0:W.heap[w.heap.size]? = some (.cells (rR aM bG aV aP bg bZ bR cK bX bN bY).toArray 52):=by rw [hW];exact heap_alloc_new w _
 have aiD:=ah hW0;have Py:=ae (ay hr hb0);have HD0:=ae (ay hd hb0);have Mk:K<w.heap.size:=(df hB.blk);have aiE:=ae hb0;have HW0:=ae hW0;clear hB hr hd hb0 hW0;go_enter Tryz.func15,Tryz.ntmps15
 go_upto_region 1 with fail
 rw [← hW];clear hW;go_upto_region 2 with (first | (go_at_call 52;go_must (refine (Yz K n S M E bZ bR cK xs _ HB0.out Py.out hor (by omega) h1 (Nat.le_trans (h3 0) (by omega))).mono ?_;rintro e w1 ⟨rfl,S1,M1,E1,hB1,hT1⟩;have HB1:=ae hB1;have HT1:=ae hT1;clear hB1 hT1)))
 have hnd:=HB0.out.apart (j:=1) (A:=fun b=>some b=Value.ownBlock (.slice bZ bR cK)) HD0.out (fun k hk e=>by
  rcases dI HD0.out Py.out (by decide) with h5 | h5
  ·rw [hk] at h5;cases h5
  ·exact h5 (hk.trans e))
 have HD1:=ae (Ae HD0.out HT1.out.fr hnd);have aiF:dH (Value.ownBlock (.slice bX bN bY)) (E1 1):=by
  cases hv:Value.ownBlock (.slice bX bN bY) with
  | none=>exact fun i s m hi c hc e=>by cases e
  | some c =>
   rw [hv] at hod;exact HT1.out.off 1 c (HD0.out.lt c hv).2 (hnd c hv) hod
 have hW1:w1.heap[w.heap.size]? = some (.cells (rR aM bG aV aP bg bZ bR cK bX bN bY).toArray 52):=J7 HW0.out HT1.out.fr (by
  rintro (e | e | ⟨i,e | e⟩)
  ·omega
  ·exact bf Py.out HW0.out (by decide) e.symm
  ·exact bf (HB0.out.oC i).own HW0.out (Ne.symm (IK 5 i)) e.symm
  ·exact bf (HB0.out.oC i).marks HW0.out (by decide) e.symm)
 have al3:=ah hW1;have hl1:=HT1.out.len 1;have h31:=h3 1;clear aiD;go_wp2_with (first | (go_at_call 53;go_must (refine (Uc K (n+1) S1 M1 E1 bX bN bY ys _ HB1.out HD1.out aiF (by omega) h2 (by omega)).mono ?_;rintro e w2 ⟨rfl,S2,M2,E2,hB2,qY⟩)))
 go_end0
 exact ⟨rfl,S2,M2,E2,hB2,jA.before aiE.out (HT1.out.trans qY)⟩
end
end Go.Proofs.YtignemioillaiaaGreat
