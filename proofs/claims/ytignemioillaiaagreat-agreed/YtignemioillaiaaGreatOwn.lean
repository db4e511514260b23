/- Agreed, as the row says it: whatever the numbers of groups and faults and the script, the law answers true, and all arguments read behind the call as they read before; whoever else still runs only leaves. No condition. -/
import Derived.Test.YtignemioillaiaaGreatG53
namespace Go.Proofs.YtignemioillaiaaGreat
set_option maxHeartbeats 8000000
set_option maxRecDepth 100000
section
open Go Go.ChangeShapes Go.WideShapes Go.ChangeAt Go.RowKit Go.Conc
theorem H9 (os:Os) (started:os.Started) (H:Type) (enc:TypeId×Value->H) :
 ReturnsInLeavingWide {} Tryz.checked os 5 .any (Rows.agreedSpec.pre6 enc Tryz.prog Tryz.f5 Rows.agreedRow.domain false) (Rows.agreedSpec.post enc Tryz.prog Tryz.f5 false true false false):=by
 refine returnsInLeavingWide_of_good Tryz.own started
  (ChangeSpec.witness6 (enc:=enc) (C:=Tryz.checked) false ⟨#[],#[.int .i64 0,.int .i64 0,.slice none 0 0],[]⟩ 8 (by kernel_rfl) (by kernel_rfl) (by kernel_rfl) (by kernel_rfl)) ?_
 intro w tape i _ _ _ hok hpre _;obtain ⟨_,_,_,fn',hfn',_,_,_,_,hval0⟩:=hok;have e:fn'=Tryz.f5:=Option.some.inj (hfn'.symm.trans Tryz.func5);subst e;obtain ⟨⟨ds,gs,before,hw,hc⟩,hz⟩:=hpre;have hW:=DataW.Whole.of_heap (w':=w.forCall tape i) (by rfl) hw;obtain ⟨ai,args,vi⟩:=i;dsimp only at *;generalize hWW:w.forCall tape ⟨ai,args,vi⟩=W at *;have hval:∀ (j:Nat) t v,Tryz.f5.params[j]? = some t->args[j]? = some v->Value.okWide Tryz.prog W .any w.heap.size t v:=hval0;have hW':=hW;obtain ⟨p,q,hA0,hV,rfl,hfz,hnd⟩:=hW;have hA:DataW.TrodAll enc Tryz.prog W 0 (λ _=>true) true Tryz.f5.params.toList args.toList ds p:=hA0;rw [Tryz.params5] at hA hval;obtain ⟨v0,vs0,d0,ds0,p0,q0,hargs,rfl,rfl,h0,r0⟩:=trodAll_cons hA;obtain ⟨v1,vs1,d1,ds1,p1,q1,rfl,rfl,rfl,h1,r1⟩:=trodAll_cons r0;obtain ⟨v2,vs2,d2,ds2,p2,q2,rfl,rfl,rfl,h2,r2⟩:=trodAll_cons r1;obtain ⟨rfl,rfl,rfl⟩:=trodAll_nil r2;obtain rfl:args = #[v0,v1,v2]:=by cases args;simp_all
 obtain ⟨rfl,rfl⟩:=trodVars_none hV;obtain ⟨z0,rfl,rfl,rfl,wz0⟩:=open_int Tryz.underlying3 (hval 0 3 v0 rfl rfl) h0;obtain ⟨z1,rfl,rfl,rfl,wz1⟩:=open_int Tryz.underlying3 (hval 1 3 v1 rfl rfl) h1;obtain ⟨a0,len,cap,rfl⟩:=okWide_slice Tryz.underlying80 (hval 2 80 v2 rfl rfl);have h2k:=h2;obtain ⟨aga,hf2⟩:=h2;obtain ⟨a1,agq,agr,l,he,hin,hnil,hwf⟩:=RA Stp.cells Stp.w Tryz.underlying80 (by kernel_rfl:Tryz.prog.cellsOf 158=11) (by decide) (λ n cs x h=>step_cells h) hf2;cases he
 obtain ⟨rfl,hn,hFz⟩:=XV hin;have hw':∀ t∈l,t.w:=λ t ht=>by
  obtain ⟨k,hk,rfl⟩:=List.getElem_of_mem ht;exact hwf k _ (List.getElem?_eq_getElem hk)
 have b0:=wf_i64 wz0;have b1:=wf_i64 wz1;have hlt2:∀ x∈p2,x.block<W.heap.size:=λ x hx=>hW'.lt x (by simp [hx])
 clear hA0 hval0;refine UH (@Og Tryz.prog (nR Tryz.prog) ah 5 Tryz.f5 _ [.int .i64 z0,.int .i64 z1,.slice a0 l.length cap] W _ Tryz.func5 rfl (by kernel_rfl) (RQ (A:=qK (1+bf z0 4)) (L:=qK 1) (Rq _) (Rx _) (Ru _) (aaL _) (XT _) (Rq _) (Rx _) (Ru _) XU rfl (λ _=>rfl) b0 b1 rfl hFz hn (λ t ht=>(hw' t ht).wf _)) true xu _ (@SX.mk Tryz.prog (nR Tryz.prog) true xu _ lX ⟨rfl,rfl,_,rfl⟩) [] ?_);rintro fr v w' hfn hl ⟨rfl,hg⟩;refine XN rfl (Ro (by rw [hfn];exact Tryz.func5) (by rw [hfn];kernel_rfl) rfl hl) λ w₁ hs=>?_
 obtain ⟨pp,rfl⟩:=hs;have bel:Below W.heap.size W { w' with tape:=W.tape }:=⟨hg.os,rfl,hg.out,hg.size,λ x hx=>hg.block x hx nofun⟩;show Rows.agreedSpec.post enc Tryz.prog Tryz.f5 false true false false W.blind _ _ ({ w' with tape:=W.tape }:World).blind;refine ChangeSpec.post_blind ⟨_,_,_,[],[]++([]++(p2++[])),[],hW',?_,?_,rfl,bel.frame _,λ h=>by cases h⟩
 ·exact trodAll_mk1 (RB true)
 ·exact ⟨[],_,shut_int Tryz.underlying3 wz0,⟨[],_,shut_int Tryz.underlying3 wz1,⟨p2,_,Below.trod Tryz.laidOut (by kernel_rfl) (of_decide_eq_true (by kernel_rfl)) h2k bel hlt2,rfl,rfl⟩,rfl⟩,rfl⟩
theorem agreed_holds:Rows.AgreedSaid :=
 OpenClaim.holds_of_wide_leaving 5 Tryz.f5 rfl rfl rfl rfl rfl rfl rfl ⟨rfl,rfl,rfl,rfl,rfl⟩ rfl rfl rfl rfl rfl (by kernel_rfl) Tryz.func5 (by kernel_rfl)
  (of_decide_eq_true (by kernel_rfl)) (by unfold Func.isWrapper;first | (rw [if_pos (by decide +kernel)];kernel_rfl) | (rw [if_neg (by decide +kernel)];exact ⟨rfl,rfl⟩))
  (λ os started H enc _=>H9 os started H enc)
end
end Go.Proofs.YtignemioillaiaaGreat
