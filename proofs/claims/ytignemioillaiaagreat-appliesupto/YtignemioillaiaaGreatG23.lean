/- The document: a shard that is only read; lanes. -/
import Derived.Test.YtignemioillaiaaGreatG22
namespace Go.Proofs.YtignemioillaiaaGreat
set_option maxHeartbeats 8000000
set_option maxRecDepth 100000
section
open Go.RowKit Go.Lib
structure fT (P:Nat→Prop) (w:World) (s:Sl) (size:Nat) (xs:List (List Value)):Prop where
 at_:bQ w.heap.size w s size xs
 nil:s.a=none→s.cap=0
 off:0<s.len→∀ b o e,s.a=some ⟨b,o,e⟩→¬ P b
structure FU (P:Nat→Prop) (w:World) (r:aF):Prop where
 rows:fT P w r.rs 2 (r.rows.map Row.cells)
 bP:fT P w r.ds 7 (r.bP.map ak.cells)
structure Cn (P:Nat→Prop) (w:World) (l:ax):Prop where
 q:fT P w l.qs 7 (l.q.map aF.cells)
 rg:∀ r∈l.q,FU P w r
structure ry (P:Nat→Prop) (w:World) (vT vM vD vO vI:Sl) (T:List Row) (M:List Pc) (D:List ak) (L:List ax) (I:List Int):Prop where
 t:fT P w vT 2 (T.map Row.cells)
 m:fT P w vM 2 (M.map Pc.cells)
 d:fT P w vD 7 (D.map ak.cells)
 o:fT P w vO 2 (L.map ax.cells)
 i:fT P w vI 1 (I.map yA)
 ln:∀ l∈L,Cn P w l
section
variable {P:Nat→Prop} {w w':World}
theorem XR {A:Nat→Prop} {s:Sl} {size:Nat} {xs:List (List Value)} (h:bQ w.heap.size w s size xs) (hc:av A w w') (ho:0<s.len→∀ b o e,s.a=some ⟨b,o,e⟩→¬ A b):bQ w'.heap.size w' s size xs :=
 ⟨h.len,h.le,h.max,fun h0=>by
  obtain ⟨b,off,ha,hlt,hx⟩:=h.at' h0;refine ⟨b,off,ha,Nat.lt_of_lt_of_le hlt hc.size,fun i x hi j u hj=>?_⟩;have e:=hc.block b hlt (ho h0 b off none ha);have:=hx i x hi j u hj;simpa [World.cell?,e] using this⟩
theorem fT.dX {s:Sl} {size:Nat} {xs:List (List Value)} (h:fT P w s size xs) (hc:av P w w'):fT P w' s size xs:=⟨XR h.at_ hc h.off,h.nil,h.off⟩
theorem FU.dX {r:aF} (h:FU P w r) (hc:av P w w'):FU P w' r:=⟨h.rows.dX hc,h.bP.dX hc⟩
theorem Cn.dX {l:ax} (h:Cn P w l) (hc:av P w w'):Cn P w' l:=⟨h.q.dX hc,fun r hr=>(h.rg r hr).dX hc⟩
theorem ry.dX {vT vM vD vO vI:Sl} {T:List Row} {M:List Pc} {D:List ak} {L:List ax} {I:List Int} (h:ry P w vT vM vD vO vI T M D L I) (hc:av P w w'):ry P w' vT vM vD vO vI T M D L I :=
 ⟨h.t.dX hc,h.m.dX hc,h.d.dX hc,h.o.dX hc,h.i.dX hc,fun l hl=>(h.ln l hl).dX hc⟩
theorem fT.later {s:Sl} {size:Nat} {xs:List (List Value)} (h:fT P w s size xs) (hb:Below w.heap.size w w'):fT P w' s size xs:=h.dX (av.later hb)
theorem Cn.later {l:ax} (h:Cn P w l) (hb:Below w.heap.size w w'):Cn P w' l:=h.dX (av.later hb)
theorem ry.later {vT vM vD vO vI:Sl} {T:List Row} {M:List Pc} {D:List ak} {L:List ax} {I:List Int} (h:ry P w vT vM vD vO vI T M D L I) (hb:Below w.heap.size w w'):ry P w' vT vM vD vO vI T M D L I:=h.dX (av.later hb)
theorem fT.to {P':Nat→Prop} {s:Sl} {size:Nat} {xs:List (List Value)} (h:fT P w s size xs) (hP:∀ k,P' k→P k∨w.heap.size≤k):fT P' w s size xs :=
 ⟨h.at_,h.nil,fun h0 b o e ha hp=>by
  rcases hP b hp with h1 | h1
  ·exact h.off h0 b o e ha h1
  ·obtain ⟨b',off,ha',hlt,_⟩:=h.at_.at' h0
   rw [ha] at ha';simp only [Option.some.injEq,Addr.mk.injEq] at ha';omega⟩
theorem FU.to {P':Nat→Prop} {r:aF} (h:FU P w r) (hP:∀ k,P' k→P k∨w.heap.size≤k):FU P' w r:=⟨h.rows.to hP,h.bP.to hP⟩
theorem Cn.to {P':Nat→Prop} {l:ax} (h:Cn P w l) (hP:∀ k,P' k→P k∨w.heap.size≤k):Cn P' w l:=⟨h.q.to hP,fun r hr=>(h.rg r hr).to hP⟩
theorem ry.to {P':Nat→Prop} {vT vM vD vO vI:Sl} {T:List Row} {M:List Pc} {D:List ak} {L:List ax} {I:List Int} (h:ry P w vT vM vD vO vI T M D L I) (hP:∀ k,P' k→P k∨w.heap.size≤k):ry P' w vT vM vD vO vI T M D L I :=
 ⟨h.t.to hP,h.m.to hP,h.d.to hP,h.o.to hP,h.i.to hP,fun l hl=>(h.ln l hl).to hP⟩
end
theorem eH {P:Nat→Prop} {w:World} {base:Nat} {e:TypeId} {size:Nat} {v:Value} {α:Type} {f:α→List Value} {l:List α} (hP:∀ k,base≤k→¬ P k) (h:w.ownsRow base e size v l.length (l.map f).flatten) (hf:∀ y,(f y).length=size):∃ s:Sl,v=s.val∧fT P w s size (l.map f):=by
 obtain ⟨a,n,c,rfl,h2,h3⟩:=qj (xs:=l.map f) (by rw [List.length_map];exact h) (by intro y hy;obtain ⟨r,_,rfl⟩:=List.mem_map.1 hy;exact hf r);refine ⟨⟨a,n,c⟩,rfl,h2,h3,fun _ b o e' ha=>?_⟩;obtain rfl:a=some ⟨b,o,e'⟩:=ha;rcases h.2 with ⟨h4,_⟩ | ⟨g,cap,cur,h4,h5,_⟩
 ·cases h4
 ·simp only [Value.slice.injEq,Option.some.injEq,Addr.mk.injEq] at h4
  exact hP b (by omega)
theorem fT.len {P:Nat→Prop} {w:World} {s:Sl} {size:Nat} {α:Type} {f:α→List Value} {l:List α} (h:fT P w s size (l.map f)):s.len=l.length:=by simpa using h.at_.len
theorem PH (P:Nat→Prop) (w:World) (a:Option Addr) (m c:Nat) (L:List ax) (h:fT P w ⟨a,m,c⟩ 2 (L.map ax.cells)) (hl:L.length<1000000) :
 Calls Tryz.prog 51 #[.slice a m c] w fun e w'=>∃ v',e=.returned v'∧w'.ownsRow w.heap.size 103 2 v' L.length (L.map ax.cells).flatten∧Below w.heap.size w w':=by
 obtain ⟨i0,hi0,hz0,hz1,hz2⟩:=info_parts Ii;have hm:m=L.length:=h.len;have HI:Hid (bQ w.heap.size w ⟨a,m,c⟩ 2 (L.map ax.cells)):=h.at_;have hnil:a=none→c=0:=h.nil;have HM:Hid (m=L.length):=hm;have hall:=Sw L;have h1:=Pf L;clear h hm;go_enter Tryz.func51,Tryz.ntmps51
 go_wp2_with (at_builtin;go_must (refine mG rfl _ _ 28 rfl 103 i0 (.agg #[.int .u32 0,.slice none 0 0]) 2 32 RJ hi0 hz0 hz1 hz2 rfl (by decide) rfl w.heap.size a m c rfl (L.map ax.cells) HI.out hnil hall h1 (by have:=HM.out;omega) ?_;intro v' w1 ho hg))
 all_goals (
  go_wp2
  go_ret
  exact ⟨v',rfl,by rw [List.length_map] at ho;exact ho,⟨hg.os,hg.tape,hg.output,hg.size,fun k hk=>hg.block k hk (by simp)⟩⟩)
theorem GN {c d a0 a1 a2 a3 a4 a5 a6 a7 a8 a9:Code} (hc:Tryz.f48.body=some (a0.seq (a1.seq (a2.seq (a3.seq (a4.seq (a5.seq (a6.seq (a7.seq (a8.seq (a9.seq (c.seq d)))))))))))) {u0 u1 u3 u7 u8 u9 jB jg jh ji jk jl u16 mW oz lJ nC mE mF mh jC jD jw j6 ig ik iq iw u32 jm jq jr jE jF jG jH jI jJ jK jL jM jN jO jP jQ jR jS jT jU jV jW jX jY kv ky kz kC kD kE kF u64 kG kH kg ko kI kJ kK kL kM kN kP kQ kR lK lL lN lQ lT lU lV lW lX lY lZ l7 l8 l9 mf mg mi mI nE nG nH nI fU fV fZ gm gp gq gu gy gz gB gF gG gH gJ gK gL gM gN gP gQ iA iB iC iD iE iF iG iH iI iJ iK iL iM iN iO iP iQ iR iT iU iV iW iX iY iZ jd je jf kU kV kW kX lg lh ll lu lv lC lD mJ mK mM mO mP mQ mR mU mZ ng ni nu ny:Value} (w:World) (b2 b4 b5 b6:Nat) (g n:Int) (ta:Option Addr) (tn tc:Nat) (ma:Option Addr) (mn mc:Nat) (da:Option Addr) (dn dc:Nat) (oa:Option Addr) (on oc:Nat) (ia:Option Addr) (il ic:Nat) (pc ps eZ pk:Int) (pf:Bool) (pv pg:Int) (D:List ak)
 (h2:w.heap[b2]? = some (.cells (rS g n ta tn tc ma mn mc da dn dc oa on oc ia il ic).toArray 31)) (h6:w.heap[b6]? = some (.cells (rP pc ps eZ pk pf pv pg).toArray 57)) (h4:w.heap[b4]? = some (.cells dS.toArray 31)) (h5:w.heap[b5]? = some (.cells bA.toArray 57))
 (hD:bQ w.heap.size w ⟨da,dn,dc⟩ 7 (D.map ak.cells)) (hl:D.length<499999)
 (n1:¬ b4=b2) (n2:¬ b4=b6) (n3:¬ b5=b2) (n4:¬ b5=b6) (n5:¬ b4=b5) (n6:¬ b2=b4) (n7:¬ b6=b4) (n8:¬ b2=b5) (n9:¬ b6=b5) (n10:¬ b5=b4) (n11:¬ b6=b2) (n12:¬ b2=b6) (P:Nat→Prop) (hP:∀ k,w.heap.size≤k→¬ P k) (PP:Ending→World→Prop)
 (hQ:∀ (va:Option Addr) (vn vc:Nat) (w':World),fT P w' ⟨va,vn,vc⟩ 7 ((fe D (ak.mk pc ps eZ pk pf pv pg)).map ak.cells)→av (fun k=>k=b2∨k=b4∨k=b5) w w'→PP (.returned (.tuple #[.agg (rS g n ta tn tc ma mn mc va vn vc oa on oc ia il ic).toArray,.agg (rP pc ps eZ pk pf pv pg).toArray])) w') {K:Act→World→Prop} (hK:∀ a w,d.wp Tryz.prog (bodyPost Tryz.prog Tryz.f48 PP) a w→K a w) :
 c.wp Tryz.prog (Exit.then K (bodyPost Tryz.prog Tryz.f48 PP)) { tmps:=(List.toArray (α:=Value) (u0::u1::.pointer (some ⟨b2,0,none⟩)::u3::.pointer (some ⟨b4,0,none⟩)::.pointer (some ⟨b5,0,none⟩)::.pointer (some ⟨b6,0,none⟩)::u7::u8::u9::jB::jg::jh::ji::jk::jl::u16::mW::oz::lJ::nC::mE::mF::mh::jC::jD::jw::j6::ig::ik::iq::iw::u32::jm::jq::jr::jE::jF::jG::jH::jI::jJ::jK::jL::jM::jN::jO::jP::jQ::jR::jS::jT::jU::jV::jW::jX::jY::kv::ky::kz::kC::kD::kE::kF::u64::kG::kH::kg::ko::kI::kJ::kK::kL::kM::kN::kP::kQ::kR::lK::lL::lN::lQ::lT::lU::lV::lW::lX::lY::lZ::l7::l8::l9::mf::mg::mi::mI::nE::nG::nH::nI::fU::fV::fZ::gm::gp::gq::gu::gy::gz::gB::gF::gG::gH::gJ::gK::gL::gM::gN::gP::gQ::iA::iB::iC::iD::iE::iF::iG::iH::iI::iJ::iK::iL::iM::iN::iO::iP::iQ::iR::iT::iU::iV::iW::iX::iY::iZ::jd::je::jf::kU::kV::kW::kX::lg::lh::ll::lu::lv::lC::lD::mJ::mK::mM::mO::mP::mQ::mR::mU::mZ::ng::ni::nu::ny::[])),defers:=[] } w:=by
 injection hc with k0;injection k0 with e0 k1;clear e0;injection k1 with e1 k2;clear e1;injection k2 with e2 k3;clear e2;injection k3 with e3 k4;clear e3;injection k4 with e4 k5;clear e4;injection k5 with e5 k6;clear e5;injection k6 with e6 k7;clear e6;injection k7 with e7 k8;clear e7;injection k8 with e8 k9;clear e8;injection k9 with e9 k10;clear e9;injection k10 with e10 k11;subst k11;subst e10;have hc24:w.cell? ⟨b2,4,none⟩=some (.slice da dn dc):=ah h2 4;have H2:=ae h2;have H4:=ae h4;have H5:=ae h5;have H6:=ae h6;have HD:=ae hD;have HQ:=ae hQ;clear h2 h4 h5 h6 hQ hD;go_upto_region 34 with (first
  | (with_reducible show cB 167 57 ..;go_must (refine dF b6 0 7 dD _ _ H6.out (rP pc ps eZ pk pf pv pg) ?_))
  | (go_at_call 101;go_must (refine (Ca da dn dc D pc ps eZ pk pf pv pg _ HD.out hl).mono ?_;rintro e w1 ⟨v1,rfl,ho1,hb1⟩;have lG:=ae ho1;have HB1:=ae hb1;obtain ⟨⟨va,vn,vc⟩,hv1,hr1⟩:=eH hP ho1 (fun _=>rfl);have nR:v1=.slice va vn vc:=hv1;subst nR;clear hv1;have HR1:=ae hr1;clear hr1 ho1 hb1;have Tn:=ae (af HB1.out H2.out)))
  | (with_reducible show wpList _ _ _ ({ dst:=_,op:=Op.store 27 _ _,type:=_,pos:=_,after:=_,guard:=none }::_) _ _;go_must (refine oZ b2 4 (.slice va vn vc) (rS g n ta tn tc ma mn mc da dn dc oa on oc ia il ic) 31 Tn.out (rS g n ta tn tc ma mn mc va vn vc oa on oc ia il ic) ?_;intro w2 h22 ho2;have DX:=ae h22;have dZ:=ae ho2;clear h22 ho2)))
 have hz2:b2<w.heap.size:=(df H2.out);have Ld:b4<w.heap.size:=(df H4.out);have Le:b5<w.heap.size:=(df H5.out);have JC:w2.heap[b6]? = some (.cells (rP pc ps eZ pk pf pv pg).toArray 57):=(dZ.out.block b6 n11).trans (af HB1.out H6.out);have Ba:w2.heap[b4]? = some (.cells dS.toArray 31):=(dZ.out.block b4 n1).trans (af HB1.out H4.out);have Bc:w2.heap[b5]? = some (.cells bA.toArray 57):=(dZ.out.block b5 n3).trans (af HB1.out H5.out);have hc2:=ah DX.out;have hc6:=ah JC;have hc4:=ah Ba;have r9:=ah Bc;have WU:=oh (Below.refl _ w2) Ba;have hf5:=oh (Below.refl _ w2) Bc;have Tp:=ae Ba;have Tq:=ae Bc;clear Ba Bc JC hc24;go_region
 go_wp2_with fail
 obtain ⟨k1,k2⟩:=j5 b4 31 (rS g n ta tn tc ma mn mc va vn vc oa on oc ia il ic) 0 dS w2 Tp.out (by simp);simp only [World.setCells,Nat.reduceAdd] at k1 k2;generalize ((((((w2.setCell ⟨b4,0,none⟩ (.int .u8 g)).setCell ⟨b4,1,none⟩ (.int .u8 n)).setCell ⟨b4,2,none⟩ (.slice ta tn tc)).setCell ⟨b4,3,none⟩ (.slice ma mn mc)).setCell ⟨b4,4,none⟩ (.slice va vn vc)).setCell ⟨b4,5,none⟩ (.slice oa on oc)).setCell ⟨b4,6,none⟩ (.slice ia il ic)=w6 at k1 k2 ⊢;obtain ⟨k3,k4⟩:=j5 b5 57 (rP pc ps eZ pk pf pv pg) 0 bA w6 ((k2.block b5 n10).trans Tq.out) (by simp);simp only [World.setCells,Nat.reduceAdd] at k3 k4;generalize ((((((w6.setCell ⟨b5,0,none⟩ (.int .u8 pc)).setCell ⟨b5,1,none⟩ (.int .u32 ps)).setCell ⟨b5,2,none⟩ (.int .u64 eZ)).setCell ⟨b5,3,none⟩ (.int .u8 pk)).setCell ⟨b5,4,none⟩ (.bool pf)).setCell ⟨b5,5,none⟩ (.int .u64 pv)).setCell ⟨b5,6,none⟩ (.int .u8 pg)=w7 at k3 k4 ⊢;have hA:w7.drew.heap[b4]? = some (.cells (rS g n ta tn tc ma mn mc va vn vc oa on oc ia il ic).toArray 31):=(k4.block b4 n5).trans k1;have hE:w7.drew.heap[b5]? = some (.cells (rP pc ps eZ pk pf pv pg).toArray 57):=k3;refine bodyPost_ret (v:=.tuple #[.agg (rS g n ta tn tc ma mn mc va vn vc oa on oc ia il ic).toArray,.agg (rP pc ps eZ pk pf pv pg).toArray]) (mY Tryz.results48 _ _ b4 b5 _ _ _ _ (0,0) (0,0) _ _ rfl hA rfl hE fE rfl (by kernel_rfl) dD rfl (by kernel_rfl)) rfl ?_;have hch:av (fun k=>k=b2∨k=b4∨k=b5) w1 w7.drew:=((av.only dZ.out (.inl rfl)).trans (av.only k2 (.inr (.inl rfl)))).trans (av.only (k4.trans (Only.drew _ _)) (.inr (.inr rfl)));refine HQ.out _ _ _ _ ?_ ((av.later HB1.out).trans hch);obtain ⟨⟨xa,xn,xc⟩,hv,hr⟩:=eH hP (dB lG.out hch (fun k hk hA=>by have:=lG.out.lt k hk;rcases hA with rfl | rfl | rfl <;> omega)) (fun _=>rfl);have hv':Value.slice va vn vc=.slice xa xn xc:=hv;injection hv' with q1 q2 q3;subst q1 q2 q3;exact hr
def oU (l:List Row) (r:Row):List Row:=(l.takeWhile fun x=>decide (x.key<r.key))++(r::l.filter fun x=>decide (r.key<x.key))
theorem abJ {l:List Row} {k:Nat} {x:Row} {P:Row→Bool} (hall:∀ y∈l.take k,P y=true) (hx:l[k]? = some x) (hp:P x=true):∀ y∈l.take (k+1),P y=true:=by
 intro y hy;rw [List.take_add_one,hx] at hy;simp only [Option.toList_some,List.mem_append,List.mem_singleton] at hy;rcases hy with hy | rfl
 ·exact hall y hy
 ·exact hp
theorem abK {l:List Row} {k:Nat} {P:Row→Bool} (hall:∀ y∈l.take k,P y=true) (hx:∀ x,l[k]? = some x→P x=false):l.takeWhile P=l.take k:=by
 induction l generalizing k with
 | nil=>simp
 | cons a r ih =>
  cases k with
  | zero=>have:=hx a rfl;simp [this]
  | succ k =>
   have ha:P a=true:=hall a (by simp);rw [List.takeWhile_cons,if_pos ha,List.take_succ_cons,ih (k:=k) (fun y hy=>hall y (by rw [List.take_succ_cons];exact List.mem_cons_of_mem _ hy)) (fun x h=>hx x (by simpa using h))]
theorem Va {c' d a0 a1 a2:Code} (hc:Tryz.f100.body=some (a0.seq (a1.seq (a2.seq (c'.seq d))))) {u1 u2 u4 u6 u7 u8 u9 jB jg jh ji jk jl u16 mW oz lJ nC mE mF mh jC jD jw j6 ig ik iq iw u32 jm jq jr jE jF jG jH jI jJ jK jL jM jN jO jP jQ jR jS jT jU jV jW jX jY:Value} (w W w1:World) (a:Option Addr) (n c:Nat) (T:List Row) (k:Nat) (aC sK:Int) (vb:Value) (hL:n=T.length) (hI:bQ W.heap.size W ⟨a,n,c⟩ 2 (T.map Row.cells)) (hWQ:W.heap[w.heap.size]? = some (.cells #[.int .u64 aC,.int .u64 sK] 128)) (hWL:Below w.heap.size w W) (hB1:Below W.heap.size W w1) (Co:w1.ownsRow W.heap.size 128 2 vb (T.take k).length ((T.take k).map Row.cells).flatten) (hl:T.length<499999) (hst:T.takeWhile (fun x=>decide (x.key<aC))=T.take k)
 {K:Act→World→Prop} (hK:∀ a w_,d.wp Tryz.prog (bodyPost Tryz.prog Tryz.f100 fun e w'=>∃ v',e=.returned v'∧w'.ownsRow w.heap.size 128 2 v' (oU T ⟨aC,sK⟩).length ((oU T ⟨aC,sK⟩).map Row.cells).flatten∧Below w.heap.size w w') a w_→K a w_) :
 c'.wp Tryz.prog (Exit.then K (bodyPost Tryz.prog Tryz.f100 fun e w'=>∃ v',e=.returned v'∧w'.ownsRow w.heap.size 128 2 v' (oU T ⟨aC,sK⟩).length ((oU T ⟨aC,sK⟩).map Row.cells).flatten∧Below w.heap.size w w')) { tmps:=(List.toArray (α:=Value) (.slice a n c::u1::u2::.pointer (some ⟨w.heap.size,0,none⟩)::u4::vb::u6::u7::u8::u9::jB::jg::jh::ji::jk::jl::u16::mW::oz::lJ::nC::mE::mF::mh::jC::jD::jw::j6::ig::ik::iq::iw::u32::jm::jq::jr::jE::jF::jG::jH::jI::jJ::jK::jL::jM::jN::jO::jP::jQ::jR::jS::jT::jU::jV::jW::jX::jY::[])),defers:=[] } w1:=by
 injection hc with k0;injection k0 with e0 k1;clear e0;injection k1 with e1 k2;clear e1;injection k2 with e2 k3;clear e2;injection k3 with e3 k4;subst e3;subst k4;obtain ⟨i0,hi0,hz0,hz1,hz2⟩:=info_parts yK;have HL:=ae hL;have HI:=ae hI;have nX:=ae hWQ;have dQ:=ae hWL;have HB1:=ae hB1;have lG:=ae Co;have HST:=ae hst;have hnl:n<499999:=by omega
 have Sg:(T.take k).length≤T.length:=by simp [List.length_take];omega
 have HR1:=ae (af hB1 hWQ);clear hL hI hWQ hWL hB1 Co hst;go_upto_region 8 with (first
  | (with_reducible show cB 32 128 ..;go_must (refine dF w.heap.size 0 2 ve _ _ HR1.out [.int .u64 aC,.int .u64 sK] ?_))
  | (at_builtin;go_must (refine aZ _ rfl _ _ 25 rfl W.heap.size 128 i0 (.agg #[.int .u64 0,.int .u64 0]) 2 16 rE hi0 hz0 hz1 hz2 rfl (by decide) vb _ _ rfl (ay lG.out (aj w1 _)) ⟨w1.heap.size,0,none⟩ 1 1 [.int .u64 aC,.int .u64 sK] rfl rfl (cu rfl) (cz rfl) (by unfold maxLen;omega) (by omega) (by have:=HB1.out.size;simp;omega) ?_;intro v9 w9 bJ gZ;have o8:Hid (Below W.heap.size W w9):=ae (dO (ai HB1.out (aj w1 _)) gZ (fun j hj=>(lG.out.lt j hj).1));have fo:=ae (kZ (y:=Row.mk aC sK) bJ);clear bJ gZ)))
 go_loopw [5,7] (fun b1 i wr=>∃ (j:Nat) (vb:Value),vb=b1∧j≤n∧i=.int .i64 j∧Hid (wr.ownsRow W.heap.size 128 2 vb (T.take k++[Row.mk aC sK]++(T.take j).filter fun x=>decide (aC<x.key)).length ((T.take k++[Row.mk aC sK]++(T.take j).filter fun x=>decide (aC<x.key)).map Row.cells).flatten)∧Hid (Below W.heap.size W wr)) (fun _ i _=>n - (intOf i).toNat)
 case atStart=>exact ⟨0,_,rfl,Nat.zero_le _,rfl,ae (by simpa using fo.out),o8.out⟩
 case round =>
  obtain ⟨j,vb,rfl,hj,rfl,HO,bV⟩:=hrel;have hq0:wr.cell? ⟨w.heap.size,0,none⟩=some (.int .u64 aC):=ah (af bV.out nX.out) 0;by_cases hlt:j<n
  ·have hdk:decide ((j:Int)<(n:Int))=true:=by simp;omega
   obtain ⟨x,hx⟩:∃ x,T[j]? = some x:=⟨T[j]'(by rw [← HL.out];exact hlt),by simp⟩;obtain ⟨b,off,ha,j4,hc⟩:=(HI.out.below bV.out (Nat.le_refl _)).el (i:=j) (x:=x.cells) (by simp [hx]);obtain rfl:a=some ⟨b,off,none⟩:=ha;have HX:Hid (T[j]? = some x):=hx;have HN:Hid ((T.take k++[Row.mk aC sK]++(T.take j).filter fun x=>decide (aC<x.key)).length<1000000):=by
    show _<_;have:=pV (m:=T) (k:=j) (fun x=>decide (aC<x.key));simp only [List.length_append,List.length_singleton];omega
   clear hx;obtain ⟨az,dU⟩:=x;have HC:Hid (∀ (j':Nat) (u:Value),[Value.int .u64 az,.int .u64 dU][j']? = some u→wr.cell? ⟨b,off+j*2+j',none⟩=some u):=hc;have hkc:wr.cell? ⟨b,off+j*2,none⟩=some (.int .u64 az):=hc 0 _ rfl;clear hc;have hi1:(0:Int)≤(j:Int):=by omega
   have hi2:(j:Int)<(n:Int):=by omega
   have nx:=fK (fun x:Row=>decide (aC<x.key)) HX.out;by_cases h1:aC<az
   ·have hd1:decide (aC<az)=true:=by simp [h1]
    have HE:Hid ((T.take (j+1)).filter (fun x=>decide (aC<x.key))=(T.take j).filter (fun x=>decide (aC<x.key))++[Row.mk az dU]):=by show _=_;rw [nx];simp [h1]
    clear nx;go_wp2_with fail
    go_quiet (fail)
    have HB2:Hid (Below W.heap.size W (wr.drewN nq)):=below_drewN bV.out _;have dZ:Hid ((wr.drewN nq).ownsRow W.heap.size 128 2 vb (T.take k++[Row.mk aC sK]++(T.take j).filter fun x=>decide (aC<x.key)).length ((T.take k++[Row.mk aC sK]++(T.take j).filter fun x=>decide (aC<x.key)).map Row.cells).flatten):=ay HO.out (below_drewN (Below.refl _ _) _);have lH:Hid (∀ (j':Nat) (u:Value),[Value.int .u64 az,.int .u64 dU][j']? = some u→(wr.drewN nq).cell? ⟨b,off+j*2+j',none⟩=some u):=HC.out;generalize wr.drewN nq=w2 at HB2 dZ lH;clear hkc hq0;go_wp2_with (first
     | (with_reducible show cB 53 128 ..;go_must (refine bB rfl _ _ rfl b (off+j*2) rfl 2 _ ve rfl (by kernel_rfl) [.int .u64 az,.int .u64 dU] rfl lH.out ?_))
     | (at_builtin;go_must (refine aZ _ rfl _ _ 25 rfl W.heap.size 128 i0 (.agg #[.int .u64 0,.int .u64 0]) 2 16 rE hi0 hz0 hz1 hz2 rfl (by decide) vb _ _ rfl (ay dZ.out (aj w2 _)) ⟨w2.heap.size,0,none⟩ 1 1 [.int .u64 az,.int .u64 dU] rfl rfl (cu rfl) (cz rfl) (by have:=HN.out;unfold maxLen;omega) (by have:=HN.out;omega) (by have:=HB2.out.size;simp;omega) ?_;intro v9 w9 bJ gZ)))
    have ah1:Hid (Below W.heap.size W w9):=dO (ai HB2.out (aj w2 _)) gZ (fun j hj=>(dZ.out.lt j hj).1);have ah2:Hid (w9.ownsRow W.heap.size 128 2 v9 (T.take k++[Row.mk aC sK]++(T.take (j+1)).filter fun x=>decide (aC<x.key)).length ((T.take k++[Row.mk aC sK]++(T.take (j+1)).filter fun x=>decide (aC<x.key)).map Row.cells).flatten):=by
     show World.ownsRow _ _ _ _ _ _ _;rw [HE.out,← List.append_assoc];exact kZ (y:=Row.mk az dU) bJ
    clear bJ gZ;go_wp2_with fail
    go_roundw
    case rel=>exact ⟨j+1,_,rfl,by omega,by go_num,ah2.out,ah1.out⟩
    case measure=>simp [intOf];omega
   ·have hd1:decide (aC<az)=false:=by simp [h1]
    have HE:Hid ((T.take (j+1)).filter (fun x=>decide (aC<x.key))=(T.take j).filter (fun x=>decide (aC<x.key))):=by show _=_;rw [nx];simp [h1]
    clear nx;go_wp2_with fail
    go_quiet (fail)
    go_wp2_with fail
    go_roundw
    case rel=>exact ⟨j+1,_,rfl,by omega,by go_num,by rw [HE.out];exact ay HO.out (below_drewN (Below.refl _ _) _),below_drewN bV.out _⟩
    case measure=>simp [intOf];omega
  ·have hdk:decide ((j:Int)<(n:Int))=false:=by simp;omega
   obtain rfl:j=n:=by omega
   have HFI:Hid (wr.ownsRow w.heap.size 128 2 vb (oU T ⟨aC,sK⟩).length ((oU T ⟨aC,sK⟩).map Row.cells).flatten):=by
    have:=HO.out;rw [HL.out,List.take_length] at this;unfold oU;dsimp only;rw [HST.out];exact ae (by simpa using dE this dQ.out.size)
   clear hq0;go_wp2_with fail
   go_ret
   exact ⟨_,rfl,HFI.out,ai dQ.out bV.out⟩
theorem F8 (a:Option Addr) (n c:Nat) (T:List Row) (aC sK:Int) (w:World) (h:bQ w.heap.size w ⟨a,n,c⟩ 2 (T.map Row.cells)) (hl:T.length<499999) :
 Calls Tryz.prog 100 #[.slice a n c,.agg #[.int .u64 aC,.int .u64 sK]] w fun e w'=>∃ v',e=.returned v'∧w'.ownsRow w.heap.size 128 2 v' (oU T ⟨aC,sK⟩).length ((oU T ⟨aC,sK⟩).map Row.cells).flatten∧Below w.heap.size w w':=by
 obtain ⟨i0,hi0,hz0,hz1,hz2⟩:=info_parts yK;have hlen:n=T.length:=by simpa using h.len
 obtain ⟨W,hW⟩:∃ W,W=w.alloc (.cells #[.int .u64 aC,.int .u64 sK] 128):=⟨_,rfl⟩;have fP:W.heap[w.heap.size]? = some (.cells #[.int .u64 aC,.int .u64 sK] 128):=by rw [hW];exact heap_alloc_new w _
 have bE:Below w.heap.size w W:=by rw [hW];exact aj w _
 have hWs:W.heap.size=w.heap.size+1:=by rw [hW];simp
 have HI:=ae (h.later bE);have HL:Hid (n=T.length):=hlen;have nX:=ae fP;have dQ:=ae bE;have hnl:n<499999:=by omega
 clear hlen h fP bE;go_enter Tryz.func100,Tryz.ntmps100
 go_upto_region 1 with fail
 rw [← hW];clear hW;go_wp2_with fail
 go_loopw [5,6] (fun b1 i wr=>∃ (k:Nat) (vb:Value),vb=b1∧k≤n∧i=.int .i64 k∧Hid (∀ y∈T.take k,decide (y.key<aC)=true)∧Hid (wr.ownsRow W.heap.size 128 2 vb (T.take k).length ((T.take k).map Row.cells).flatten)∧Hid (Below W.heap.size W wr)) (fun _ i _=>n - (intOf i).toNat)
 case atStart=>exact ⟨0,_,rfl,Nat.zero_le _,rfl,(fun y hy=>by simp at hy),World.ownsRow_nil _ _ _ _,Below.refl _ _⟩
 case round =>
  obtain ⟨k,vb,rfl,hk,rfl,HA,HO,bV⟩:=hrel;have hq0:wr.cell? ⟨w.heap.size,0,none⟩=some (.int .u64 aC):=ah (af bV.out nX.out) 0;have Sg:(T.take k).length=k:=by rw [List.length_take,← HL.out];omega
  by_cases hgo:k<n∧∃ x,T[k]? = some x∧x.key<aC
  ·obtain ⟨hlt,x,hx,hxk⟩:=hgo
   have hdk:decide ((k:Int)<(n:Int))=true:=by simp;omega
   obtain ⟨b,off,ha,j4,hc⟩:=(HI.out.below bV.out (Nat.le_refl _)).el (i:=k) (x:=x.cells) (by simp [hx]);obtain rfl:a=some ⟨b,off,none⟩:=ha;have HX:Hid (T[k]? = some x):=hx;clear hx;obtain ⟨az,dU⟩:=x;dsimp only at hxk;have HC:Hid (∀ (j:Nat) (u:Value),[Value.int .u64 az,.int .u64 dU][j]? = some u→wr.cell? ⟨b,off+k*2+j,none⟩=some u):=hc;have hkc:wr.cell? ⟨b,off+k*2,none⟩=some (.int .u64 az):=hc 0 _ rfl;clear hc;have hi1:(0:Int)≤(k:Int):=by omega
   have hi2:(k:Int)<(n:Int):=by omega
   have hdx:decide (az<aC)=true:=by simp [hxk]
   have HT1:Hid (T.take (k+1)=T.take k++[⟨az,dU⟩]):=by show _=_;rw [List.take_add_one,HX.out];rfl
   go_wp2_with fail
   go_quiet (fail)
   have HB1:Hid (Below W.heap.size W (wr.drewN nq)):=below_drewN bV.out _;have lG:Hid ((wr.drewN nq).ownsRow W.heap.size 128 2 vb (T.take k).length ((T.take k).map Row.cells).flatten):=ay HO.out (below_drewN (Below.refl _ _) _);have wB:Hid (∀ (j:Nat) (u:Value),[Value.int .u64 az,.int .u64 dU][j]? = some u→(wr.drewN nq).cell? ⟨b,off+k*2+j,none⟩=some u):=HC.out;generalize wr.drewN nq=w1 at HB1 lG wB;clear hkc hq0;go_wp2_with (first
    | (with_reducible show cB 28 128 ..;go_must (refine bB rfl _ _ rfl b (off+k*2) rfl 2 _ ve rfl (by kernel_rfl) [.int .u64 az,.int .u64 dU] rfl wB.out ?_))
    | (at_builtin;go_must (refine aZ _ rfl _ _ 25 rfl W.heap.size 128 i0 (.agg #[.int .u64 0,.int .u64 0]) 2 16 rE hi0 hz0 hz1 hz2 rfl (by decide) vb _ _ rfl (ay lG.out (aj w1 _)) ⟨w1.heap.size,0,none⟩ 1 1 [.int .u64 az,.int .u64 dU] rfl rfl (cu rfl) (cz rfl) (by unfold maxLen;omega) (by omega) (by have:=HB1.out.size;simp;omega) ?_;intro v9 w9 bJ gZ)))
   have o8:Hid (Below W.heap.size W w9):=dO (ai HB1.out (aj w1 _)) gZ (fun j hj=>(lG.out.lt j hj).1);have fo:Hid (w9.ownsRow W.heap.size 128 2 v9 (T.take (k+1)).length ((T.take (k+1)).map Row.cells).flatten):=by
    show World.ownsRow _ _ _ _ _ _ _;rw [HT1.out];exact kZ (y:=Row.mk az dU) bJ
   clear bJ gZ;go_wp2_with fail
   go_roundw
   case rel=>exact ⟨k+1,_,rfl,by omega,by go_num,abJ HA.out HX.out hdx,fo.out,o8.out⟩
   case measure=>simp [intOf];omega
  ·have HST:Hid (T.takeWhile (fun x=>decide (x.key<aC))=T.take k):=by
    refine abK HA.out (fun x hx=>?_);have hkn:k<n:=by rw [HL.out];exact (mV hx)
    rw [decide_eq_false_iff_not];exact fun hlt=>hgo ⟨hkn,x,hx,hlt⟩
   have abL:∀ (w1:World),Below W.heap.size W w1→w1.ownsRow W.heap.size 128 2 vb (T.take k).length ((T.take k).map Row.cells).flatten→True:=fun _ _ _=>trivial
   clear abL;by_cases hlt:k<n
   ·have hdk:decide ((k:Int)<(n:Int))=true:=by simp;omega
    obtain ⟨x,hx⟩:∃ x,T[k]? = some x:=⟨T[k]'(by rw [← HL.out];exact hlt),by simp⟩;have hxk:¬ x.key<aC:=fun hh=>hgo ⟨hlt,x,hx,hh⟩
    obtain ⟨b,off,ha,j4,hc⟩:=(HI.out.below bV.out (Nat.le_refl _)).el (i:=k) (x:=x.cells) (by simp [hx]);obtain rfl:a=some ⟨b,off,none⟩:=ha;clear hx hgo;obtain ⟨az,dU⟩:=x;dsimp only at hxk;have hkc:wr.cell? ⟨b,off+k*2,none⟩=some (.int .u64 az):=hc 0 _ rfl;clear hc;have hi1:(0:Int)≤(k:Int):=by omega
    have hi2:(k:Int)<(n:Int):=by omega
    have hdx:decide (az<aC)=false:=by simp;omega
    go_wp2_with fail
    go_quiet (fail)
    have HB1:Hid (Below W.heap.size W (wr.drewN nq)):=below_drewN bV.out _;have lG:Hid ((wr.drewN nq).ownsRow W.heap.size 128 2 vb (T.take k).length ((T.take k).map Row.cells).flatten):=ay HO.out (below_drewN (Below.refl _ _) _);generalize wr.drewN nq=w1 at HB1 lG;clear hkc hq0;go_upto_region 6 with fail
    refine Va rfl w W w1 (some ⟨b,off,none⟩) n c T k aC sK vb HL.out HI.out nX.out dQ.out HB1.out lG.out hl HST.out (by assumption)
   ·have hdk:decide ((k:Int)<(n:Int))=false:=by simp;omega
    clear hgo;go_wp2_with fail
    go_quiet (fail)
    have HB1:Hid (Below W.heap.size W (wr.drewN nq)):=below_drewN bV.out _;have lG:Hid ((wr.drewN nq).ownsRow W.heap.size 128 2 vb (T.take k).length ((T.take k).map Row.cells).flatten):=ay HO.out (below_drewN (Below.refl _ _) _);generalize wr.drewN nq=w1 at HB1 lG;clear hq0;go_upto_region 6 with fail
    refine Va rfl w W w1 a n c T k aC sK vb HL.out HI.out nX.out dQ.out HB1.out lG.out hl HST.out (by assumption)
end
end Go.Proofs.YtignemioillaiaaGreat
