/- Junk, as the row says it: whatever the numbers of groups and faults, the script, the bytes and whom they are sent to, the law answers true, and all arguments read behind the call as they read before; whoever else still runs only leaves. No condition. -/
import Derived.Test.YtignemioillaiabGreatG53
namespace Go.Proofs.YtignemioillaiabGreat
set_option maxHeartbeats 8000000
set_option maxRecDepth 100000
section
open Go Go.ChangeShapes Go.WideShapes Go.ChangeAt Go.RowKit Go.Conc
theorem abm {α:Type} (g:α->Value) (l:List α):(l.map λ x=>[g x]).flatten=l.map g:=by induction l <;> simp_all
theorem Kl {W:World} {a:Option Addr} {len cap:Nat} {α:Type} {g:α->Value} {l:List α} (h:RX W.heap.size W ⟨a,len,cap⟩ 1 (l.map λ x=>[g x])):len=l.length/\l.length<=9223372036854775807/\MU W 1 (.slice a l.length cap) l.length (l.map g):=by
 have e1:len=l.length:=by have:=h.len;simpa using this
 have h2:len<=cap:=h.le;have h3:cap<=maxLen:=h.max;have e3:maxLen=9223372036854775807:=by decide
 refine ⟨e1,by omega,a,cap,rfl,by omega,by rw [List.length_map,Nat.mul_one],?_⟩;by_cases h0:l.length=0
 ·exact .inl h0
 ·obtain ⟨b,off,ha,hb,hc⟩:=h.at' (by show 0<len;omega)
  have ha:a=some ⟨b,off,none⟩:=ha;obtain ⟨t,ht⟩:∃ t,l[0]? = some t:=⟨l[0],by simp [show 0<l.length by omega]⟩;have hc0:=hc 0 [g t] (by rw [List.getElem?_map,ht];rfl) 0 (g t) rfl;cases ho:W.heap[b]? with
  | none=>simp [World.cell?,ho] at hc0
  | some o =>
   cases o with
   | cells cs ty z =>
    refine .inr ⟨b,off,cs,ty,z,ha,ho,?_⟩;have:=Dn (n:=1) (cs:=cs.toList) (xs:=l.map λ x=>[g x]) (off:=off) (λ x hx=>by obtain ⟨t,_,rfl⟩:=List.mem_map.1 hx;rfl) λ i x hx j u hu=>by
     have:=hc i x hx j u hu;rw [cell_of_row W b _ cs ty z ho] at this;rw [Array.getElem?_toList];exact this
    rw [List.length_map,abm] at this;exact this
   | _=>simp [World.cell?,ho] at hc0
theorem KV (os:Os) (started:os.Started) (H:Type) (enc:TypeId×Value->H) :
 ReturnsInLeavingWide {} Tryz.checked os 5 .any (Rows.junkSpec.pre6 enc Tryz.prog Tryz.f5 Rows.junkRow.domain false) (Rows.junkSpec.post enc Tryz.prog Tryz.f5 false true false false):=by
 refine returnsInLeavingWide_of_good Tryz.own started
  (ChangeSpec.witness6 (enc:=enc) (C:=Tryz.checked) false ⟨#[],#[.int .i64 0,.int .i64 0,.slice none 0 0,.slice none 0 0,.slice none 0 0],[]⟩ 8 (by kernel_rfl) (by kernel_rfl) (by kernel_rfl) (by kernel_rfl)) ?_
 intro w tape i _ _ _ hok hpre _;obtain ⟨_,_,_,fn',hfn',_,_,_,_,hval0⟩:=hok;have e:fn'=Tryz.f5:=Option.some.inj (hfn'.symm.trans Tryz.func5);subst e;obtain ⟨⟨ds,gs,before,hw,hc⟩,hz⟩:=hpre;have hW:=DataW.Whole.of_heap (w':=w.forCall tape i) (by rfl) hw;obtain ⟨ai,args,vi⟩:=i;dsimp only at *;generalize hWW:w.forCall tape ⟨ai,args,vi⟩=W at *;have hval:∀ (j:Nat) t v,Tryz.f5.params[j]? = some t->args[j]? = some v->Value.okWide Tryz.prog W .any w.heap.size t v:=hval0;have hW':=hW;obtain ⟨p,q,hA0,hV,rfl,hfz,hnd⟩:=hW;have hA:DataW.TrodAll enc Tryz.prog W 0 (λ _=>true) true Tryz.f5.params.toList args.toList ds p:=hA0;rw [Tryz.params5] at hA hval;obtain ⟨v0,vs0,d0,ds0,p0,q0,hargs,rfl,rfl,h0,r0⟩:=trodAll_cons hA;obtain ⟨v1,vs1,d1,ds1,p1,q1,rfl,rfl,rfl,h1,r1⟩:=trodAll_cons r0;obtain ⟨v2,vs2,d2,ds2,p2,q2,rfl,rfl,rfl,h2,r2⟩:=trodAll_cons r1;obtain ⟨v3,vs3,d3,ds3,p3,q3,rfl,rfl,rfl,h3,r3⟩:=trodAll_cons r2;obtain ⟨v4,vs4,d4,ds4,p4,q4,rfl,rfl,rfl,h4,r4⟩:=trodAll_cons r3;obtain ⟨rfl,rfl,rfl⟩:=trodAll_nil r4;obtain rfl:args = #[v0,v1,v2,v3,v4]:=by cases args;simp_all
 obtain ⟨rfl,rfl⟩:=trodVars_none hV;obtain ⟨z0,rfl,rfl,rfl,wz0⟩:=open_int Tryz.underlying3 (hval 0 3 v0 rfl rfl) h0;obtain ⟨z1,rfl,rfl,rfl,wz1⟩:=open_int Tryz.underlying3 (hval 1 3 v1 rfl rfl) h1;obtain ⟨a0,len,cap,rfl⟩:=okWide_slice Tryz.underlying22 (hval 2 22 v2 rfl rfl);obtain ⟨a3,afW,adK,rfl⟩:=okWide_slice Tryz.underlying74 (hval 3 74 v3 rfl rfl);obtain ⟨a4,afX,cap4,rfl⟩:=okWide_slice Tryz.underlying41 (hval 4 41 v4 rfl rfl);have h3k:=h3;have h4k:=h4;obtain ⟨afF,hf3⟩:=h3;obtain ⟨afG,hf4⟩:=h4;obtain ⟨_,_,_,js,he,Sj,_,_⟩:=A7 (λ d:ByteArray=>[Value.string d]) (λ _=>True) Tryz.underlying74 (by kernel_rfl:Tryz.prog.cellsOf 9=1) (by decide) (λ n cs x h=>by obtain ⟨a,e,_⟩:=DataW.trod_string Tryz.underlying9 h;exact ⟨a,e,trivial⟩) hf3;cases he
 obtain ⟨rfl,hn3,hF3⟩:=Kl Sj;obtain ⟨_,_,_,ats,he,adL,_,adM⟩:=A7 (λ a:Int=>[Value.int .i64 a]) qH Tryz.underlying41 (by kernel_rfl:Tryz.prog.cellsOf 3=1) (by decide) (λ n cs x h=>by obtain ⟨a,e,_,w⟩:=DataW.trod_int Tryz.underlying3 h;exact ⟨a,e,wf_i64 w⟩) hf4;cases he
 obtain ⟨rfl,_,hF4⟩:=Kl adL;have hat:∀ a∈ats,qH a:=λ a ha=>by
  obtain ⟨k,hk,rfl⟩:=List.getElem_of_mem ha;exact adM k _ (List.getElem?_eq_getElem hk)
 have hlt3:∀ x∈p3,x.block<W.heap.size:=λ x hx=>hW'.lt x (by simp [hx])
 have adO:∀ x∈p4,x.block<W.heap.size:=λ x hx=>hW'.lt x (by simp [hx])
 have h2k:=h2;obtain ⟨afH,hf2⟩:=h2;obtain ⟨a1,afY,afZ,l,he,hin,hnil,hwf⟩:=A7 Stp.cells Stp.w Tryz.underlying22 (by kernel_rfl:Tryz.prog.cellsOf 95=11) (by decide) (λ n cs x h=>step_cells h) hf2;cases he
 obtain ⟨rfl,hn,hFz⟩:=Xu hin;have hw':∀ t∈l,t.w:=λ t ht=>by
  obtain ⟨k,hk,rfl⟩:=List.getElem_of_mem ht;exact hwf k _ (List.getElem?_eq_getElem hk)
 have b0:=wf_i64 wz0;have b1:=wf_i64 wz1;have hlt2:∀ x∈p2,x.block<W.heap.size:=λ x hx=>hW'.lt x (by simp [hx])
 clear hA0 hval0;refine Uo (@N7 Tryz.prog (nP Tryz.prog) ah 5 Tryz.f5 _ [.int .i64 z0,.int .i64 z1,.slice a0 l.length cap,.slice a3 js.length adK,.slice a4 ats.length cap4] W _ Tryz.func5 rfl (by kernel_rfl) (Xv (A:=qP (1+bf z0 4)) (L:=qP 1) (Q7 _) (Rf _) (Rb _) (aah _) (Q7 _) (Rf _) (Rb _) Xt rfl b0 b1 rfl hFz hn (λ t ht=>(hw' t ht).wf _) hF3 hn3 hF4 hat) true xg _ (@SX.mk Tryz.prog (nP Tryz.prog) true xg _ lT ⟨rfl,rfl,_,rfl⟩) [] ?_);rintro fr v w' hfn hl ⟨rfl,hg⟩;refine Xo rfl (Q4 (by rw [hfn];exact Tryz.func5) (by rw [hfn];kernel_rfl) rfl hl) λ w₁ hs=>?_
 obtain ⟨pp,rfl⟩:=hs;have VG:Below W.heap.size W { w' with tape:=W.tape }:=⟨hg.os,rfl,hg.out,hg.size,λ x hx=>hg.block x hx nofun⟩;show Rows.junkSpec.post enc Tryz.prog Tryz.f5 false true false false W.blind _ _ ({ w' with tape:=W.tape }:World).blind;refine ChangeSpec.post_blind ⟨_,_,_,[],[]++([]++(p2++(p3++(p4++[])))),[],hW',?_,?_,rfl,VG.frame _,λ h=>by cases h⟩
 ·exact trodAll_mk1 (Rj true)
 ·exact ⟨[],_,shut_int Tryz.underlying3 wz0,⟨[],_,shut_int Tryz.underlying3 wz1,⟨p2,_,Below.trod Tryz.laidOut (by kernel_rfl) (of_decide_eq_true (by kernel_rfl)) h2k VG hlt2,⟨p3,_,Below.trod Tryz.laidOut (by kernel_rfl) (of_decide_eq_true (by kernel_rfl)) h3k VG hlt3,⟨p4,_,Below.trod Tryz.laidOut (by kernel_rfl) (of_decide_eq_true (by kernel_rfl)) h4k VG adO,rfl,rfl⟩,rfl⟩,rfl⟩,rfl⟩,rfl⟩
theorem junk_holds:Rows.JunkSaid :=
 OpenClaim.holds_of_wide_leaving 5 Tryz.f5 rfl rfl rfl rfl rfl rfl rfl ⟨rfl,rfl,rfl,rfl,rfl⟩ rfl rfl rfl rfl rfl (by kernel_rfl) Tryz.func5 (by kernel_rfl)
  (of_decide_eq_true (by kernel_rfl)) (by unfold Func.isWrapper;first | (rw [if_pos (by decide +kernel)];kernel_rfl) | (rw [if_neg (by decide +kernel)];exact ⟨rfl,rfl⟩))
  (λ os started H enc _=>KV os started H enc)
end
end Go.Proofs.YtignemioillaiabGreat
