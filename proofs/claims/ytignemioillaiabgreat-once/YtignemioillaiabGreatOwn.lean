/- Once, as the row says it: whatever the numbers of groups and faults and the script, the law answers true, and all arguments read behind the call as they read before; whoever else still runs only leaves. No condition. -/
import Derived.Test.YtignemioillaiabGreatG54
namespace Go.Proofs.YtignemioillaiabGreat
set_option maxHeartbeats 8000000
set_option maxRecDepth 100000
open List
section
open Go Go.ChangeShapes Go.WideShapes Go.ChangeAt Go.RowKit Go.Conc
theorem afe{N k:Nat}{s:St}(h:cu N k s):jK s.M=true/\Can s.M/\∀x,0<=own 0 s.M x/\own 0 s.M x<4:=by
 refine⟨h.ok.CJ,h.ok.can,λx=>?_⟩;have hc:=h.ok.can;cases hm:s.M with
 |nil=>rw[hm]at hc;exact hc.elim
 |cons p t =>
  rw[hm]at hc;obtain⟨_,a2,a3,a4⟩:=hc;unfold own;split
  .exact OP t x 0 p.g p.g a4 ⟨a2,a3⟩
  .omega
theorem Oq(os:Os)(started:os.Started)(H:Type)(enc:TypeId×Value->H) :
 ReturnsInLeavingWide {} Tryz.checked os 3 .any (Rows.onceSpec.pre6 enc Tryz.prog Tryz.f3 Rows.onceRow.domain false) (Rows.onceSpec.post enc Tryz.prog Tryz.f3 false true false false):=by
 refine returnsInLeavingWide_of_good Tryz.own started
  (ChangeSpec.witness6 (enc:=enc) (C:=Tryz.checked) false ⟨#[],#[.int .i64 0,.int .i64 0,Ptz],[]⟩ 8 (by kernel_rfl) (by kernel_rfl) (by kernel_rfl) (by kernel_rfl)) ?_
 intro w tape i _ _ _ hok hpre _;obtain⟨_,_,_,fn',hfn',_,_,_,_,hval0⟩:=hok;have e:fn'=Tryz.f3:=Jbm (hfn'.symm.trans Tryz.func3);subst e;obtain⟨⟨ds,gs,before,hw,hc⟩,hz⟩:=hpre;have hW:=DataW.Whole.of_heap (w':=w.forCall tape i) (by rfl) hw;obtain⟨ai,args,vi⟩:=i;dsimp only at *;generalize hWW:w.forCall tape ⟨ai,args,vi⟩=W at *;have hval:∀(j:Nat) t v,Tryz.f3.params[j]?=some t->args[j]?=some v->Value.okWide Tryz.prog W .any w.heap.size t v:=hval0;have hW':=hW;obtain⟨p,q,hA0,hV,rfl,hfz,hnd⟩:=hW;have hA:DataW.TrodAll enc Tryz.prog W 0 (λ_=>true) true Tryz.f3.params.toList args.toList ds p:=hA0;rw[Tryz.params3]at hA hval;obtain⟨v0,vs0,d0,ds0,p0,q0,hargs,rfl,rfl,h0,r0⟩:=trodAll_cons hA;obtain⟨v1,vs1,d1,ds1,p1,q1,rfl,rfl,rfl,h1,r1⟩:=trodAll_cons r0;obtain⟨v2,vs2,d2,ds2,p2,q2,rfl,rfl,rfl,h2,r2⟩:=trodAll_cons r1;obtain⟨rfl,rfl,rfl⟩:=trodAll_nil r2;obtain rfl:args=#[v0,v1,v2]:=by cases args;simp_all
 obtain⟨rfl,rfl⟩:=trodVars_none hV;obtain⟨z0,rfl,rfl,rfl,wz0⟩:=open_int Tryz.underlying3 (hval 0 3 v0 rfl rfl) h0;obtain⟨z1,rfl,rfl,rfl,wz1⟩:=open_int Tryz.underlying3 (hval 1 3 v1 rfl rfl) h1;obtain⟨a0,len,cap,rfl⟩:=okWide_slice Tryz.underlying22 (hval 2 22 v2 rfl rfl);have h2k:=h2;obtain⟨ajI,hf2⟩:=h2;obtain⟨a1,ajY,ajZ,l,he,hin,hnil,hwf⟩:=Va Stp.cells Stp.w Tryz.underlying22 (by kernel_rfl:Tryz.prog.cellsOf 95=11) (by decide) (λn cs x h=>step_cells h) hf2;cases he
 obtain⟨rfl,hn,hFz⟩:=aaF hin;have hw':∀t∈l,t.w:=λt ht=>by
  obtain⟨k,hk,rfl⟩:=Jga ht;exact hwf k _ (Jcc hk)
 have b0:=wf_i64 wz0;have b1:=wf_i64 wz1;have hlt2:∀x∈p2,x.block<W.heap.size:=λx hx=>hW'.lt x (by simp[hx])
 clear hA0 hval0;refine XC (@Q8 Tryz.prog (oK Tryz.prog) fG 3 Tryz.f3 _ [.int .i64 z0,.int .i64 z1,.slice a0 l.length cap] W _ Tryz.func3 rfl (by kernel_rfl) (aaP (A:=bJ (1+bE z0 4)) (L:=bJ 1) (CX _) (U6 _) (U4 _) (adS _) (λ_ h=>afe h) (XZ _) (λh0 h4 hf hl k k0 k1=>Vx h0 h4 hf hl ⟨k0,k1⟩) (CX _) (U6 _) (U4 _) aaE rfl b0 b1 rfl hFz hn (λt ht=>(hw' t ht).wf _)) true yX _ (@SX.mk Tryz.prog (oK Tryz.prog) true yX _ nH ⟨rfl,rfl,_,rfl⟩) [] ?_);rintro fr v w' hfn hl ⟨rfl,hg⟩;refine aaA rfl (U1 (by rw[hfn];exact Tryz.func3) (by rw[hfn];kernel_rfl) rfl hl) λw₁ hs=>?_
 obtain⟨pp,rfl⟩:=hs;have bel:Below W.heap.size W {w' with tape:=W.tape}:=⟨hg.os,rfl,hg.out,hg.size,λx hx=>hg.block x hx nofun⟩;show Rows.onceSpec.post enc Tryz.prog Tryz.f3 false true false false W.blind _ _ ({w' with tape:=W.tape}:World).blind;refine ChangeSpec.post_blind ⟨_,_,_,[],[]++([]++(p2++[])),[],hW',?_,?_,rfl,bel.frame _,λh=>by cases h⟩
 .exact trodAll_mk1 (Vb true)
 .exact⟨[],_,shut_int Tryz.underlying3 wz0,⟨[],_,shut_int Tryz.underlying3 wz1,⟨p2,_,Below.trod Tryz.laidOut (by kernel_rfl) (Ptq (by kernel_rfl)) h2k bel hlt2,rfl,rfl⟩,rfl⟩,rfl⟩
theorem once_holds:Rows.OnceSaid :=
 OpenClaim.holds_of_wide_leaving 3 Tryz.f3 rfl rfl rfl rfl rfl rfl rfl ⟨rfl,rfl,rfl,rfl,rfl⟩ rfl rfl rfl rfl rfl (by kernel_rfl) Tryz.func3 (by kernel_rfl)
  (Ptq (by kernel_rfl)) (by unfold Func.isWrapper;first|(rw[Jb6 (by decide +kernel)];kernel_rfl)|(rw[Jb5 (by decide +kernel)];exact⟨rfl,rfl⟩))
  (λos started H enc _=>Oq os started H enc)
end
end Go.Proofs.YtignemioillaiabGreat
