/- Applies, as the row says it where what comes in is of bulk at most 1048576: for every number of groups, every list of commands and every list of places the law answers true, and all three arguments read behind the call as they read before. Conditions: the row's own bound on the bulk, none besides. -/
import Derived.Test.YtignemioillaiaaGreatG52
import Derived.ClaimOpenTies
namespace Go.Proofs.YtignemioillaiaaGreat
set_option maxHeartbeats 8000000
set_option maxRecDepth 100000
section
open Go.ChangeShapes Go.WideShapes Go.ChangeAt Go.RowKit
theorem Rx {P:Program} {m:Machine} {w:World} {t:Trace} (h:aloneAtReturn P m w t):leavingAtReturn P m w t:=by
 obtain ⟨⟨hd,ht⟩,hh,he⟩:=h;refine ⟨hh,⟨fun g hg=>⟨0,?_⟩,ht⟩,he⟩;unfold Machine.othersDone at hd;have:=List.all_eq_true.1 hd g hg;show g.status=.finished;simpa using this
theorem Ry {p:Pinned} {s:OpenSpec} {c:OpenClaim} (hstart:c.start=.entering) (hst:c.stops=[]) (hag:c.again=false) (h:({ c with leaving:=false }:OpenClaim).holds p s):({ c with leaving:=true }:OpenClaim).holds p s:=by
 obtain ⟨a1,a2,a3,a4,a5,a6,a7,a8,f,fn,g1,g2,r,b1,b2,b3,b4,b5,k,c1,c2,c3,c4,c5,c6,m,l,q,n1,v1,e1,L,hL,all⟩:=h;refine ⟨?_,a2,a3,a4,a5,a6,a7,a8,f,fn,g1,g2,r,b1,b2,b3,b4,b5,k,c1,c2,c3,c4,c5,c6,m,l,q,n1,v1,e1,L,hL,fun os st hq H enc inj=>?_⟩
 ·unfold OpenClaim.wf at a1 ⊢
  simp only [hag] at a1 ⊢;exact a1
 ·have hf:=all os st hq H enc inj
  unfold OpenClaim.form at hf ⊢;simp only [hstart,hst] at hf ⊢;exact fun F=>ReturnsInOpen.mono (atReturn:=aloneAtReturn p.checked.prog) (atReturn':=leavingAtReturn p.checked.prog) (fun m w t h=>Rx h) (fun _ h=>h) (hf F)
theorem OZ (os:Os) (started:os.Started) (H:Type) (enc:TypeId×Value→H) (F:Stop.Interp) :
 ReturnsInHanded {} Tryz.checked os 3 .any ((Rows.OpenSpec.upto Rows.appliesSpec).pre6 enc Tryz.prog Tryz.f3 Rows.appliesUptoRow.domain false) (((Rows.OpenSpec.upto Rows.appliesSpec).at F).post enc Tryz.prog Tryz.f3 false true false false):=by
 refine returnsInHanded_of_cond (C:=Tryz.checked) (s:=Rows.OpenSpec.upto Rows.appliesSpec) (k:=Rows.uptoSmall) rfl Tryz.own started (by kernel_rfl) Tryz.func3
  (OpenSpec.witness (enc:=enc) (C:=Tryz.checked) (s:=Rows.OpenSpec.upto Rows.appliesSpec) (k:=Rows.uptoSmall) rfl false ⟨#[],#[.int .i64 0,.slice none 0 0,.slice none 0 0],[]⟩ 8 (by kernel_rfl) (by kernel_rfl) (by kernel_rfl)
   (x:=([.lit (.int .i64 0),.nil,.nil],[],[])) (by kernel_rfl) rfl (by kernel_rfl)) ?_
 intro W base args ds gs before hval0 hW _ hk _;have hval:∀ (j:Nat) t v,Tryz.f3.params[j]? = some t→args[j]? = some v→Value.okWide Tryz.prog W .any base t v:=hval0;have hW':=hW;obtain ⟨p,q,hA0,hV,rfl,hfz,hnd⟩:=hW;have hA:DataW.TrodAll enc Tryz.prog W 0 (fun _=>true) true Tryz.f3.params.toList args.toList ds p:=hA0;rw [Tryz.params3] at hA hval;obtain ⟨v0,vs0,d0,ds0,p0,q0,hargs,rfl,rfl,h0,r0⟩:=trodAll_cons hA;obtain ⟨v1,vs1,d1,ds1,p1,q1,rfl,rfl,rfl,h1,r1⟩:=trodAll_cons r0;obtain ⟨v2,vs2,d2,ds2,p2,q2,rfl,rfl,rfl,h2,r2⟩:=trodAll_cons r1;obtain ⟨rfl,rfl,rfl⟩:=trodAll_nil r2;obtain rfl:args = #[v0,v1,v2]:=by cases args;simp_all
 obtain ⟨rfl,rfl⟩:=trodVars_none hV;obtain ⟨z,rfl,rfl,rfl,wz⟩:=open_int RI (hval 0 3 v0 rfl rfl) h0;obtain ⟨ca,cn,cc,rfl⟩:=okWide_slice acr (hval 1 22 v1 rfl rfl);obtain ⟨ta,tn,tc,rfl⟩:=okWide_slice AL (hval 2 23 v2 rfl rfl);have h1k:=h1;have h2k:=h2;obtain ⟨alB,hf1⟩:=h1;obtain ⟨alC,hf2⟩:=h2;obtain ⟨ca1,cn1,cc1,C,he1,hC,Uu,hbk⟩:=YW hf1;obtain ⟨wH,wJ,wK,At,he2,hAt⟩:=aat hf2;cases he1
 cases he2
 clear hA0 hval0;simp only [List.append_nil,List.nil_append] at hW' hk;have hsm:Rows.uptoBulkAll [.lit (.int .i64 z),d1,d2]≤1048576:=of_decide_eq_true hk;simp only [Rows.uptoBulkAll] at hsm;have hsum:1+uZ C≤490000:=by have:10*cn+3*uZ C≤Rows.uptoBulk d1:=hbk;omega
 have hcl:cn≤100000:=by
  have hcs:cn≤uZ C:=by
   have hl:cn=C.length:=by simpa using hC.len
   have hs:∀ l:List dY,l.length≤uZ l:=by
    intro l;induction l with
    | nil=>exact Nat.zero_le _
    | cons c l ih =>
     unfold uZ at ih ⊢;simp only [List.map_cons,List.sum_cons,List.length_cons];unfold vg at ih ⊢;omega
   rw [hl];exact hs C
  have:10*cn+3*uZ C≤Rows.uptoBulk d1:=hbk;omega
 have hlt1:∀ x∈p1,x.block<W.heap.size:=fun x hx=>hW'.lt x (by simp [hx])
 have hlt2:∀ x∈p2,x.block<W.heap.size:=fun x hx=>hW'.lt x (by simp [hx])
 refine (UN z ca cn cc ta tn tc C At W hC Uu hAt hsum hcl).mono fun e W' ⟨he,zA⟩=>?_
 subst he;refine ⟨_,rfl,_,_,_,[],p1++p2,[],hW',?_,?_,rfl,zA.frame _,fun h=>by cases h⟩
 ·exact trodAll_mk1 (WI true)
 ·exact ⟨[],p1++p2,shut_int RI wz,⟨p1,p2,Below.trod Tryz.laidOut (by kernel_rfl) (of_decide_eq_true (by kernel_rfl)) h1k zA hlt1,⟨p2,[],Below.trod Tryz.laidOut (by kernel_rfl) (of_decide_eq_true (by kernel_rfl)) h2k zA hlt2,rfl,by simp⟩,rfl⟩,rfl⟩
theorem Rz:({ Rows.appliesUptoRow with leaving:=false }:OpenClaim).holds Tryz.pinned (Rows.OpenSpec.upto Rows.appliesSpec) :=
 OpenClaim.holds_of_cond 3 Tryz.f3 rfl rfl rfl rfl rfl rfl rfl ⟨rfl,rfl,rfl,rfl,rfl⟩ rfl rfl rfl rfl rfl (by kernel_rfl) Tryz.func3 (by kernel_rfl)
  (of_decide_eq_true (by kernel_rfl)) (by unfold Func.isWrapper;first | (rw [if_pos (by decide +kernel)];kernel_rfl) | (rw [if_neg (by decide +kernel)];exact ⟨rfl,rfl⟩))
  (fun os started H enc _ F=>OZ os started H enc F)
theorem applies_holds:Rows.AppliesUptoSaid:=Ry (c:=Rows.appliesUptoRow) rfl rfl rfl Rz
end
end Go.Proofs.YtignemioillaiaaGreat
