/- Holders, as the row says it: whatever the numbers of groups and faults, the script and the key, the law answers true, and all arguments read behind the call as they read before; whoever else still runs only leaves. No condition. -/
import Derived.Test.YtignemioillaiaaGreatG54
namespace Go.Proofs.YtignemioillaiaaGreat
set_option maxHeartbeats 8000000
set_option maxRecDepth 100000
open List
section
open Go Go.ChangeShapes Go.WideShapes Go.ChangeAt Go.RowKit Go.Conc
theorem adk{N k:Nat}{s:St}(h:dB N k s):jY s.M=true/\Can s.M/\∀x,0<=own 0 s.M x/\own 0 s.M x<4:=by
 refine⟨h.ok.BJ,h.ok.can,λx=>?_⟩;have hc:=h.ok.can;cases hm:s.M with
 |nil=>rw[hm]at hc;exact hc.elim
 |cons p t =>
  rw[hm]at hc;obtain⟨_,a2,a3,a4⟩:=hc;unfold own;split
  ·exact Nj t x 0 p.g p.g a4 ⟨a2,a3⟩
  ·omega
theorem Ho(os:Os)(started:os.Started)(H:Type)(enc:TypeId×Value->H) :
 ReturnsInLeavingWide {} Tryz.checked os 7 .any (Rows.holdersSpec.pre6 enc Tryz.prog Tryz.f7 Rows.holdersRow.domain false) (Rows.holdersSpec.post enc Tryz.prog Tryz.f7 false true false false):=by
 refine returnsInLeavingWide_of_good Tryz.own started
  (ChangeSpec.witness6 (enc:=enc) (C:=Tryz.checked) false ⟨#[],#[.int .i64 0,.int .i64 0,Ptz,.int .u64 0],[]⟩ 8 (by kernel_rfl) (by kernel_rfl) (by kernel_rfl) (by kernel_rfl)) ?_
 intro w tape i _ _ _ hok hpre _;obtain⟨_,_,_,fn',hfn',_,_,_,_,hval0⟩:=hok;have e:fn'=Tryz.f7:=Option.some.inj (hfn'.symm.trans Tryz.func7);subst e;obtain⟨⟨ds,gs,before,hw,hc⟩,hz⟩:=hpre;have hW:=DataW.Whole.of_heap (w':=w.forCall tape i) (by rfl) hw;obtain⟨ai,args,vi⟩:=i;dsimp only at *;generalize hWW:w.forCall tape ⟨ai,args,vi⟩=W at *;have hval:∀(j:Nat) t v,Tryz.f7.params[j]? = some t->args[j]? = some v->Value.okWide Tryz.prog W .any w.heap.size t v:=hval0;have hW':=hW;obtain⟨p,q,hA0,hV,rfl,hfz,hnd⟩:=hW;have hA:DataW.TrodAll enc Tryz.prog W 0 (λ_=>true) true Tryz.f7.params.toList args.toList ds p:=hA0;rw[Tryz.params7]at hA hval;obtain⟨v0,vs0,d0,ds0,p0,q0,hargs,rfl,rfl,h0,r0⟩:=trodAll_cons hA;obtain⟨v1,vs1,d1,ds1,p1,q1,rfl,rfl,rfl,h1,r1⟩:=trodAll_cons r0;obtain⟨v2,vs2,d2,ds2,p2,q2,rfl,rfl,rfl,h2,r2⟩:=trodAll_cons r1;obtain⟨v3,vs3,d3,ds3,p3,q3,rfl,rfl,rfl,h3,r3⟩:=trodAll_cons r2;obtain⟨rfl,rfl,rfl⟩:=trodAll_nil r3;obtain rfl:args = #[v0,v1,v2,v3]:=by cases args;simp_all
 obtain⟨rfl,rfl⟩:=trodVars_none hV;obtain⟨z0,rfl,rfl,rfl,wz0⟩:=open_int Tryz.underlying3 (hval 0 3 v0 rfl rfl) h0;obtain⟨z1,rfl,rfl,rfl,wz1⟩:=open_int Tryz.underlying3 (hval 1 3 v1 rfl rfl) h1;obtain⟨z3,rfl,rfl,rfl,wz3⟩:=open_int Tryz.underlying48 (hval 3 48 v3 rfl rfl) h3;obtain⟨a0,len,cap,rfl⟩:=okWide_slice Tryz.underlying80 (hval 2 80 v2 rfl rfl);have h2k:=h2;obtain⟨ahC,hf2⟩:=h2;obtain⟨a1,ahR,ahS,l,he,hin,hnil,hwf⟩:=Tq Stp.cells Stp.w Tryz.underlying80 (by kernel_rfl:Tryz.prog.cellsOf 158=11) (by decide) (λn cs x h=>step_cells h) hf2;cases he
 obtain⟨rfl,hn,hFz⟩:=Y1 hin;have hw':∀t∈l,t.w:=λt ht=>by
  obtain⟨k,hk,rfl⟩:=getElem_of_mem ht;exact hwf k _ (getElem?_eq_getElem hk)
 have b0:=wf_i64 wz0;have b1:=wf_i64 wz1;have hlt2:∀x∈p2,x.block<W.heap.size:=λx hx=>hW'.lt x (by simp[hx])
 clear hA0 hval0;refine VL (@Pt Tryz.prog (nT Tryz.prog) fD 7 Tryz.f7 _ [.int .i64 z0,.int .i64 z1,.slice a0 l.length cap,.int .u64 z3] W _ Tryz.func7 rfl (by kernel_rfl) (Ql (A:=jG (1+bz z0 4)) (L:=jG 1) (Lx _) (Tm _) (Tj _) (abZ _) (YZ _) (λs h=>adk h) (λh0 h4 h hl k k0 k1=>(qx.glh h0 h4 h hl).gl.one k k0 k1) (Lx _) (Tm _) (Tj _) Y0 rfl b0 b1 rfl hFz hn (λt ht=>(hw' t ht).wf _) (wf_u64 wz3)) true yh _ (@SX.mk Tryz.prog (nT Tryz.prog) true yh _ mX ⟨rfl,rfl,_,rfl⟩) [] ?_);rintro fr v w' hfn hl ⟨rfl,hg⟩;refine YV rfl (Tf (by rw[hfn];exact Tryz.func7) (by rw[hfn];kernel_rfl) rfl hl) λw₁ hs=>?_
 obtain⟨pp,rfl⟩:=hs;have bel:Below W.heap.size W { w' with tape:=W.tape }:=⟨hg.os,rfl,hg.out,hg.size,λx hx=>hg.block x hx nofun⟩;show Rows.holdersSpec.post enc Tryz.prog Tryz.f7 false true false false W.blind _ _ ({ w' with tape:=W.tape }:World).blind;refine ChangeSpec.post_blind ⟨_,_,_,[],[]++([]++(p2++([]++[]))),[],hW',?_,?_,rfl,bel.frame _,λh=>by cases h⟩
 ·exact trodAll_mk1 (Tt true)
 ·exact⟨[],_,shut_int Tryz.underlying3 wz0,⟨[],_,shut_int Tryz.underlying3 wz1,⟨p2,_,Below.trod Tryz.laidOut (by kernel_rfl) (Ptq (by kernel_rfl)) h2k bel hlt2,⟨[],_,shut_int Tryz.underlying48 wz3,rfl,rfl⟩,rfl⟩,rfl⟩,rfl⟩
theorem holders_holds:Rows.HoldersSaid :=
 OpenClaim.holds_of_wide_leaving 7 Tryz.f7 rfl rfl rfl rfl rfl rfl rfl ⟨rfl,rfl,rfl,rfl,rfl⟩ rfl rfl rfl rfl rfl (by kernel_rfl) Tryz.func7 (by kernel_rfl)
  (Ptq (by kernel_rfl)) (by unfold Func.isWrapper;first|(rw[if_pos (by decide +kernel)];kernel_rfl)|(rw[if_neg (by decide +kernel)];exact⟨rfl,rfl⟩))
  (λos started H enc _=>Ho os started H enc)
end
end Go.Proofs.YtignemioillaiaaGreat
