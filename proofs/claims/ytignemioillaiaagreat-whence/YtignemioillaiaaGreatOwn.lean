/- Whence, as the row says it: whatever the numbers of groups and faults and the script, the law answers true, and all arguments read behind the call as they read before; whoever else still runs only leaves. No condition. -/
import Derived.Test.YtignemioillaiaaGreatG54
namespace Go.Proofs.YtignemioillaiaaGreat
set_option maxHeartbeats 8000000
set_option maxRecDepth 100000
section
open Go Go.ChangeShapes Go.WideShapes Go.ChangeAt Go.RowKit Go.Conc
theorem IC(os:Os)(started:os.Started)(H:Type)(enc:TypeId×Value->H) :
 ReturnsInLeavingWide {} Tryz.checked os 6 .any (Rows.whenceSpec.pre6 enc Tryz.prog Tryz.f6 Rows.whenceRow.domain false) (Rows.whenceSpec.post enc Tryz.prog Tryz.f6 false true false false):=by
 refine returnsInLeavingWide_of_good Tryz.own started
  (ChangeSpec.witness6 (enc:=enc) (C:=Tryz.checked) false ⟨#[],#[.int .i64 0,.int .i64 0,.slice none 0 0],[]⟩ 8 (by kernel_rfl) (by kernel_rfl) (by kernel_rfl) (by kernel_rfl)) ?_
 intro w tape i _ _ _ hok hpre _;obtain⟨_,_,_,fn',hfn',_,_,_,_,hval0⟩:=hok;have e:fn'=Tryz.f6:=Option.some.inj (hfn'.symm.trans Tryz.func6);subst e;obtain⟨⟨ds,gs,before,hw,hc⟩,hz⟩:=hpre;have hW:=DataW.Whole.of_heap (w':=w.forCall tape i) (by rfl) hw;obtain⟨ai,args,vi⟩:=i;dsimp only at *;generalize hWW:w.forCall tape ⟨ai,args,vi⟩=W at *;have hval:∀(j:Nat) t v,Tryz.f6.params[j]? = some t->args[j]? = some v->Value.okWide Tryz.prog W .any w.heap.size t v:=hval0;have hW':=hW;obtain⟨p,q,hA0,hV,rfl,hfz,hnd⟩:=hW;have hA:DataW.TrodAll enc Tryz.prog W 0 (λ_=>true) true Tryz.f6.params.toList args.toList ds p:=hA0;rw[Tryz.params6]at hA hval;obtain⟨v0,vs0,d0,ds0,p0,q0,hargs,rfl,rfl,h0,r0⟩:=trodAll_cons hA;obtain⟨v1,vs1,d1,ds1,p1,q1,rfl,rfl,rfl,h1,r1⟩:=trodAll_cons r0;obtain⟨v2,vs2,d2,ds2,p2,q2,rfl,rfl,rfl,h2,r2⟩:=trodAll_cons r1;obtain⟨rfl,rfl,rfl⟩:=trodAll_nil r2;obtain rfl:args = #[v0,v1,v2]:=by cases args;simp_all
 obtain⟨rfl,rfl⟩:=trodVars_none hV;obtain⟨z0,rfl,rfl,rfl,wz0⟩:=open_int Tryz.underlying3 (hval 0 3 v0 rfl rfl) h0;obtain⟨z1,rfl,rfl,rfl,wz1⟩:=open_int Tryz.underlying3 (hval 1 3 v1 rfl rfl) h1;obtain⟨a0,len,cap,rfl⟩:=okWide_slice Tryz.underlying80 (hval 2 80 v2 rfl rfl);have h2k:=h2;obtain⟨ag0,hf2⟩:=h2;obtain⟨a1,ahf,ahg,l,he,hin,hnil,hwf⟩:=Su Stp.cells Stp.w Tryz.underlying80 (by kernel_rfl:Tryz.prog.cellsOf 158=11) (by decide) (λn cs x h=>step_cells h) hf2;cases he
 obtain⟨rfl,hn,hFz⟩:=Yt hin;have hw':∀t∈l,t.w:=λt ht=>by
  obtain⟨k,hk,rfl⟩:=List.getElem_of_mem ht;exact hwf k _ (List.getElem?_eq_getElem hk)
 have b0:=wf_i64 wz0;have b1:=wf_i64 wz1;have hlt2:∀x∈p2,x.block<W.heap.size:=λx hx=>hW'.lt x (by simp[hx])
 clear hA0 hval0;refine Vf (@OQ Tryz.prog (oC Tryz.prog) ah 6 Tryz.f6 _ [.int .i64 z0,.int .i64 z1,.slice a0 l.length cap] W _ Tryz.func6 rfl (by kernel_rfl) (SN (A:=nQ (1+bA z0 4)) (L:=nQ 1) (Sb _) (Sn _) (Sj _) (aby _) (Yq _) (Vt _) (Sb _) (Sn _) (Sj _) Yr rfl b0 b1 rfl hFz hn (λt ht=>(hw' t ht).wf _)) true xL _ (@SX.mk Tryz.prog (oC Tryz.prog) true xL _ mE ⟨rfl,rfl,_,rfl⟩) [] ?_);rintro fr v w' hfn hl ⟨rfl,hg⟩;refine Ym rfl (R9 (by rw[hfn];exact Tryz.func6) (by rw[hfn];kernel_rfl) rfl hl) λw₁ hs=>?_
 obtain⟨pp,rfl⟩:=hs;have bel:Below W.heap.size W { w' with tape:=W.tape }:=⟨hg.os,rfl,hg.out,hg.size,λx hx=>hg.block x hx nofun⟩;show Rows.whenceSpec.post enc Tryz.prog Tryz.f6 false true false false W.blind _ _ ({ w' with tape:=W.tape }:World).blind;refine ChangeSpec.post_blind ⟨_,_,_,[],[]++([]++(p2++[])),[],hW',?_,?_,rfl,bel.frame _,λh=>by cases h⟩
 ·exact trodAll_mk1 (Sv true)
 ·exact⟨[],_,shut_int Tryz.underlying3 wz0,⟨[],_,shut_int Tryz.underlying3 wz1,⟨p2,_,Below.trod Tryz.laidOut (by kernel_rfl) (of_decide_eq_true (by kernel_rfl)) h2k bel hlt2,rfl,rfl⟩,rfl⟩,rfl⟩
theorem whence_holds:Rows.WhenceSaid :=
 OpenClaim.holds_of_wide_leaving 6 Tryz.f6 rfl rfl rfl rfl rfl rfl rfl ⟨rfl,rfl,rfl,rfl,rfl⟩ rfl rfl rfl rfl rfl (by kernel_rfl) Tryz.func6 (by kernel_rfl)
  (of_decide_eq_true (by kernel_rfl)) (by unfold Func.isWrapper;first|(rw[if_pos (by decide +kernel)];kernel_rfl)|(rw[if_neg (by decide +kernel)];exact⟨rfl,rfl⟩))
  (λos started H enc _=>IC os started H enc)
end
end Go.Proofs.YtignemioillaiaaGreat
